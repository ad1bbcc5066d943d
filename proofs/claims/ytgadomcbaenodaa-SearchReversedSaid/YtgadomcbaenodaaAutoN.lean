/-
  What Build lays for a node, as plain functions over lists of states. No program, no memory. No conditions. The builder's surroundings: its nodes, parts and blanks, read while its states grow; node, given its kids. Conditions: valid nodes; at most a million states. The program's Build, given its root's node. Conditions: a slice of nodes that reads as a list; at most a million kids each. The builder's repeat, given its kid. Conditions: a repetition that is valid; at most a million states. A set, repeated and repeated again: its nodes, its weight, what Build makes of it. Condition: 39, 40 or 41 rounds.
-/
import Derived.Test.YtgadomcbaenodaaAutoB
import Derived.Test.YtgadomcbaenodaaRegexWeight
import Derived.Deep.Onto
import Derived.Laws.ResultCell
import Derived.BigQuiet
import Derived.Deep.QuietTactic
namespace Go.Proofs.Ytgadomcbaenodaa
section
open Go.RowKit
namespace Au
open Cm Rx
abbrev Xs := Int × List St
abbrev Bf := Int → List St → Xs
def addF (s : St) (ss : List St) : Xs := ((ss.length : Int), ss ++ [s])
def idF : Bf := fun n ss => (n, ss)
def getT (t : List Bf) (k : Int) : Bf := t.getD k.toNat idF
def catF (t : List Bf) (kids : List Int) (x : Xs) : Xs := kids.foldr (fun k x => getT t k x.1 x.2) x
def altS (t : List Bf) (next : Int) (k : Int) (x : Xs) : Xs := addF ⟨1, noSet, (getT t k next x.2).1, x.1⟩ (getT t k next x.2).2
def altF (t : List Bf) (kids : List Int) : Bf := fun next ss => kids.dropLast.foldr (altS t next) (getT t (kids.getLastD 0) next ss)
def iterF (g : Xs → Xs) : Nat → Xs → Xs
  | 0, x => x
  | m + 1, x => g (iterF g m x)
def setN (ss : List St) (i : Nat) (x : Int) : List St := ss.modify i fun s => { s with next := x }
def loopF (f : Bf) : Bf := fun next ss => ((ss.length : Int), setN (f (ss.length : Int) (ss ++ [⟨1, noSet, next, next⟩])).2 ss.length (f (ss.length : Int) (ss ++ [⟨1, noSet, next, next⟩])).1)
def optS (f : Bf) (next : Int) (x : Xs) : Xs := addF ⟨1, noSet, (f x.1 x.2).1, next⟩ (f x.1 x.2).2
def minS (f : Bf) (x : Xs) : Xs := f x.1 x.2
def firstF (f : Bf) (mn mx : Int) : Bf := fun next ss => if mx = -1 then loopF f next ss else iterF (optS f next) (mx - mn).toNat (next, ss)
def repF (f : Bf) (mn mx : Int) : Bf := fun next ss => iterF (minS f) mn.toNat (firstF f mn mx next ss)
def stepN (t : List Bf) (bl : List Bool) (n : Nd) : Bf := fun next ss =>
  if blankN bl n = true then (next, ss)
  else if n.kind = 1 then addF ⟨0, n.set, next, 0⟩ ss
  else if n.kind = 2 then addF ⟨2, noSet, next, 0⟩ ss
  else if n.kind = 3 then addF ⟨3, noSet, next, 0⟩ ss
  else if n.kind = 4 then catF t (partN bl n) (next, ss)
  else if n.kind = 5 then altF t n.kids next ss
  else if n.kind = 6 then repF (getT t (n.kids.headD 0)) n.mn n.mx next ss
  else (next, ss)
def tabS (x : List Bf × List Bool) (n : Nd) : List Bf × List Bool := (x.1 ++ [stepN x.1 x.2 n], x.2 ++ [blankN x.2 n])
def tabF (ns : List Nd) : List Bf := (ns.foldl tabS ([], [])).1
theorem tab_blanks (ns : List Nd) : ns.foldl tabS ([], []) = (tabF ns, blanksF ns) := by
  suffices h : ∀ (ns : List Nd) (x : List Bf × List Bool), (ns.foldl tabS x).2 = ns.foldl (fun bl n => bl ++ [blankN bl n]) x.2 by
    exact Prod.ext rfl (h ns ([], []))
  intro ns
  induction ns with
  | nil => intro x; rfl
  | cons n r ih => intro x; rw [List.foldl_cons, List.foldl_cons, ih]; rfl
theorem tab_take {ns : List Nd} {j : Nat} (h : j < ns.length) : tabF (ns.take (j + 1)) = tabF (ns.take j) ++ [stepN (tabF (ns.take j)) (blanksF (ns.take j)) ns[j]] := by
  have e := tab_blanks (ns.take j)
  unfold tabF
  rw [List.take_succ_eq_append_getElem h, List.foldl_append, e]
  rfl
theorem tab_len (ns : List Nd) : (tabF ns).length = ns.length := by
  suffices h : ∀ (ns : List Nd) (x : List Bf × List Bool), (ns.foldl tabS x).1.length = x.1.length + ns.length by
    have := h ns ([], []); simpa [tabF] using this
  intro ns
  induction ns with
  | nil => intro x; rfl
  | cons n r ih => intro x; rw [List.foldl_cons, ih]; simp [tabS]; omega
/-- A longer list of nodes has the same functions, as far as it goes. -/
theorem tab_pre (ns : List Nd) : ∀ d j, j + d ≤ ns.length → ∀ k, k < j → (tabF (ns.take (j + d)))[k]? = (tabF (ns.take j))[k]? := by
  intro d
  induction d with
  | zero => intro j _ k _; rfl
  | succ d ih =>
    intro j h k hk
    rw [← Nat.add_assoc, tab_take (by omega : j + d < ns.length), List.getElem?_append_left (by rw [tab_len, List.length_take]; omega)]
    exact ih j (by omega) k hk
theorem tab_kid {ns : List Nd} {j k : Nat} (hj : j ≤ ns.length) (hk : k < j) : getT (tabF (ns.take j)) (k : Int) = getT (tabF ns) (k : Int) := by
  have h := tab_pre ns (ns.length - j) j (by omega) k hk
  rw [show j + (ns.length - j) = ns.length by omega, List.take_length] at h
  unfold getT
  rw [Int.toNat_natCast, List.getD_eq_getElem?_getD, List.getD_eq_getElem?_getD, h]
theorem tab_at {ns : List Nd} {j : Nat} (hj : j < ns.length) : getT (tabF ns) (j : Int) = stepN (tabF (ns.take j)) (blanksF (ns.take j)) ns[j] := by
  rw [← tab_kid (j := j + 1) (by omega) (by omega), tab_take hj]
  unfold getT
  rw [Int.toNat_natCast, List.getD_eq_getElem?_getD, List.getElem?_append_right (by rw [tab_len, List.length_take]; omega), tab_len, List.length_take, Nat.min_eq_left (by omega), Nat.sub_self]
  rfl
theorem blanks_pre (ns : List Nd) : ∀ d j, j + d ≤ ns.length → ∀ k, k < j → (blanksF (ns.take (j + d)))[k]? = (blanksF (ns.take j))[k]? := by
  intro d
  induction d with
  | zero => intro j _ k _; rfl
  | succ d ih =>
    intro j h k hk
    rw [← Nat.add_assoc, blanks_take (by omega : j + d < ns.length), List.getElem?_append_left (by rw [blanks_len, List.length_take]; omega)]
    exact ih j (by omega) k hk
theorem blanks_at {ns : List Nd} {j : Nat} (hj : j < ns.length) : (blanksF ns).getD j false = blankN (blanksF (ns.take j)) ns[j] := by
  have h := blanks_pre ns (ns.length - (j + 1)) (j + 1) (by omega) j (by omega)
  rw [show j + 1 + (ns.length - (j + 1)) = ns.length by omega, List.take_length] at h
  rw [List.getD_eq_getElem?_getD, h, blanks_take hj, List.getElem?_append_right (by rw [blanks_len, List.length_take]; omega), blanks_len, List.length_take, Nat.min_eq_left (by omega), Nat.sub_self]
  rfl
theorem iter_snoc (g : Xs → Xs) (m : Nat) (x : Xs) : iterF g (m + 1) x = g (iterF g m x) := rfl
/-- At most so many states more. -/
def Grows (f : Bf) (b : Nat) : Prop := ∀ next ss, (f next ss).2.length ≤ ss.length + b
theorem setN_len (ss : List St) (i : Nat) (x : Int) : (setN ss i x).length = ss.length := by unfold setN; rw [List.length_modify]
theorem iter_len {g : Xs → Xs} {b : Nat} (hg : ∀ x, (g x).2.length ≤ x.2.length + b) (m : Nat) (x : Xs) : (iterF g m x).2.length ≤ x.2.length + m * b := by
  induction m with
  | zero => simp [iterF]
  | succ m ih =>
    have h := hg (iterF g m x)
    rw [iter_snoc, Nat.succ_mul]
    omega
theorem loop_len {f : Bf} {b : Nat} (h : Grows f b) (next : Int) (ss : List St) : (loopF f next ss).2.length ≤ ss.length + (b + 1) := by
  show (setN _ _ _).length ≤ _
  rw [setN_len]
  have := h (ss.length : Int) (ss ++ [⟨1, noSet, next, next⟩])
  rw [List.length_append, List.length_singleton] at this
  omega
theorem opt_len {f : Bf} {b : Nat} (h : Grows f b) (next : Int) (x : Xs) : (optS f next x).2.length ≤ x.2.length + (b + 1) := by
  have := h x.1 x.2
  show (_ ++ [_] : List St).length ≤ _
  rw [List.length_append, List.length_singleton]
  omega
end Au
end
section
open Go.RowKit
namespace Au
open Cm Rx
/-- What the builder's block refers to, as newBuilder leaves it. -/
structure Env (w0 : World) (B G P : Nat) (A : Option Addr) (c : Nat) (ns : List Nd) : Prop where
  nodes : RdN w0 (.slice A ns.length c) ns
  blk : w0.heap[B]? = some (.cells #[.slice A ns.length c, .slice (some ⟨P, 0, none⟩) ns.length ns.length, .slice (some ⟨G, 0, none⟩) ns.length ns.length, .slice none 0 0] tBd (0, 0))
  neG : B ≠ G
  neP : B ≠ P
  bl : w0.rowIs G 4 ns.length (rowB (blanksF ns))
  parts : ∃ pv : Nat → Value, w0.rowIs P 22 ns.length pv ∧ ∀ i (h : i < ns.length), RdV w0 (pv i) (intsV (partN (blanksF (ns.take i)) ns[i]))
theorem Env.of {w w0 : World} {B G P c : Nat} {A : Option Addr} {ns : List Nd} (h : NbS w w0 B G P (.slice A ns.length c) ns.length ns.length ns) (hr : RdN w (.slice A ns.length c) ns) : Env w0 B G P A c ns := by
  obtain ⟨h1, h2, h3, h4, pv, h5, h6, h7⟩ := h
  rw [List.take_length] at h4
  exact ⟨hr.below h1, h3, h2.2.2.2.1, h2.2.2.2.2.1, h4, pv, h5, fun i hi => h6 i hi hi⟩
/-- An int that was there at w0 is not in the builder's block. -/
theorem Env.int_ne {w0 : World} {B G P c b o : Nat} {A : Option Addr} {ns : List Nd} {k : IntKind} {z : Int} (h : Env w0 B G P A c ns) (hc : w0.cell? ⟨b, o, none⟩ = some (.int k z)) : b ≠ B := by
  rintro rfl
  simp only [World.cell?, h.blk] at hc
  rcases o with _ | _ | _ | _ | o
  · simp at hc
  · simp at hc
  · simp at hc
  · simp at hc
  · simp at hc
theorem Env.block {w0 w : World} {B G P c b o : Nat} {A : Option Addr} {ns : List Nd} {k : IntKind} {z : Int} (h : Env w0 B G P A c ns) (hw : Chg w0.heap.size B w0 w) (hc : w0.cell? ⟨b, o, none⟩ = some (.int k z)) : w.heap[b]? = w0.heap[b]? :=
  hw.block b (by have := Tx.cell_lt hc; exact this) (h.int_ne hc)
theorem Env.ints {w0 w : World} {B G P c : Nat} {A : Option Addr} {ns : List Nd} {v : Value} {us : List Int} (h : Env w0 B G P A c ns) (hw : Chg w0.heap.size B w0 w) (hr : RdV w0 v (intsV us)) : RdV w v (intsV us) := by
  obtain ⟨A', c', rfl, hc, hA⟩ := hr
  refine ⟨A', c', rfl, hc, fun hp => ?_⟩
  obtain ⟨b, off, rfl, hcell⟩ := hA hp
  refine ⟨b, off, rfl, fun k hk => ?_⟩
  have h0 := hcell 0 hp
  have h1 : (intsV us)[0] = .int .i64 (us[0]'(by rw [intsV_len] at hp; exact hp)) := by simp [intsV]
  rw [h1] at h0
  rw [World.cell?_of_block (h.block hw h0)]
  exact hcell k hk
theorem Env.node {w0 w : World} {B G P c b o : Nat} {A : Option Addr} {ns : List Nd} {nd : Nd} (h : Env w0 B G P A c ns) (hw : Chg w0.heap.size B w0 w) (hr : NodeAt w0 b o nd) : NodeAt w b o nd := by
  obtain ⟨kv, h0, h1, h2, h3, h4, h5, h6, h7, hk⟩ := hr
  have hb := h.block hw h0
  have e : ∀ (i : Nat) (u : Value), w0.cell? ⟨b, i, none⟩ = some u → w.cell? ⟨b, i, none⟩ = some u := fun i u hu => (World.cell?_of_block hb).trans hu
  exact ⟨kv, e _ _ h0, e _ _ h1, e _ _ h2, e _ _ h3, e _ _ h4, e _ _ h5, e _ _ h6, e _ _ h7, h.ints hw hk⟩
/-- The cells of a node now, and its kids as they were. -/
def NodeAt0 (w0 w : World) (b o : Nat) (n : Nd) : Prop :=
  ∃ kv, w.cell? ⟨b, o, none⟩ = some (.int .i64 n.kind) ∧ w.cell? ⟨b, o + 1, none⟩ = some (.int .u64 (word n.set 0 : Nat)) ∧ w.cell? ⟨b, o + 2, none⟩ = some (.int .u64 (word n.set 1 : Nat)) ∧ w.cell? ⟨b, o + 3, none⟩ = some (.int .u64 (word n.set 2 : Nat)) ∧ w.cell? ⟨b, o + 4, none⟩ = some (.int .u64 (word n.set 3 : Nat)) ∧
    w.cell? ⟨b, o + 5, none⟩ = some (.int .i64 n.mn) ∧ w.cell? ⟨b, o + 6, none⟩ = some (.int .i64 n.mx) ∧ w.cell? ⟨b, o + 7, none⟩ = some kv ∧ RdV w0 kv (intsV n.kids)
theorem Env.node0 {w0 w : World} {B G P c b o : Nat} {A : Option Addr} {ns : List Nd} {nd : Nd} (h : Env w0 B G P A c ns) (hw : Chg w0.heap.size B w0 w) (hr : NodeAt w0 b o nd) : NodeAt0 w0 w b o nd := by
  obtain ⟨kv, h0, h1, h2, h3, h4, h5, h6, h7, hk⟩ := hr
  have hb := h.block hw h0
  have e : ∀ (i : Nat) (u : Value), w0.cell? ⟨b, i, none⟩ = some u → w.cell? ⟨b, i, none⟩ = some u := fun i u hu => (World.cell?_of_block hb).trans hu
  exact ⟨kv, e _ _ h0, e _ _ h1, e _ _ h2, e _ _ h3, e _ _ h4, e _ _ h5, e _ _ h6, e _ _ h7, hk⟩
theorem Env.blank {w0 w : World} {B G P c i : Nat} {A : Option Addr} {ns : List Nd} (h : Env w0 B G P A c ns) (hw : Chg w0.heap.size B w0 w) (hi : i < ns.length) : w.cell? ⟨G, i, none⟩ = some (.bool (blankN (blanksF (ns.take i)) ns[i])) := by
  rw [hw.cell h.bl.lt h.neG.symm, h.bl.cell hi]
  show some (Value.bool _) = _
  rw [blanks_at hi]
theorem Env.part {w0 w : World} {B G P c i : Nat} {A : Option Addr} {ns : List Nd} (h : Env w0 B G P A c ns) (hw : Chg w0.heap.size B w0 w) (hi : i < ns.length) : ∃ v, w.cell? ⟨P, i, none⟩ = some v ∧ RdV w0 v (intsV (partN (blanksF (ns.take i)) ns[i])) := by
  obtain ⟨pv, h1, h2⟩ := h.parts
  exact ⟨pv i, by rw [hw.cell h1.lt h.neP.symm, h1.cell hi], h2 i hi⟩
/-- What the builder's block holds besides its states. -/
abbrev BldE (w : World) (base B G P : Nat) (A : Option Addr) (c n : Nat) (ss : List St) : Prop := Bld w base B (.slice A n c) (.slice (some ⟨P, 0, none⟩) n n) (.slice (some ⟨G, 0, none⟩) n n) ss
/-- What a method that appends states leaves. -/
def Post (base B G P : Nat) (A : Option Addr) (c n : Nat) (x : Xs) (w : World) (e : Ending) (w' : World) : Prop :=
  e = .returned (.int .i64 x.1) ∧ BldE w' base B G P A c n x.2 ∧ Chg base B w w'
/-- The node i appends what f says, at most wt states. -/
def NodeC (w0 : World) (B G P : Nat) (A : Option Addr) (c n : Nat) (i : Int) (f : Bf) (wt : Nat) : Prop :=
  ∀ (w : World) (next : Int) (ss : List St), Chg w0.heap.size B w0 w → BldE w w0.heap.size B G P A c n ss → ss.length + wt ≤ 1000000 →
    Calls Try.prog 26 #[.pointer (some ⟨B, 0, none⟩), .int .i64 i, .int .i64 next] w (Post w0.heap.size B G P A c n (f next ss) w)
def KidsC (k : Nat) (w0 : World) (B G P : Nat) (A : Option Addr) (c n : Nat) (kids : List Int) (f : Bf) (wt : Nat) : Prop :=
  ∀ (w : World) (next : Int) (ss : List St) (v : Value), RdV w0 v (intsV kids) → Chg w0.heap.size B w0 w → BldE w w0.heap.size B G P A c n ss → ss.length + wt ≤ 1000000 →
    Calls Try.prog k #[.pointer (some ⟨B, 0, none⟩), v, .int .i64 next] w (Post w0.heap.size B G P A c n (f next ss) w)
def RepC (w0 : World) (B G P : Nat) (A : Option Addr) (c n : Nat) (nd : Nd) (f : Bf) (wt : Nat) : Prop :=
  ∀ (w : World) (next : Int) (ss : List St) (b o : Nat), NodeAt w0 b o nd → Chg w0.heap.size B w0 w → BldE w w0.heap.size B G P A c n ss → ss.length + wt ≤ 1000000 →
    Calls Try.prog 40 #[.pointer (some ⟨B, 0, none⟩), .pointer (some ⟨b, o, none⟩), .int .i64 next] w (Post w0.heap.size B G P A c n (f next ss) w)
theorem Post.of_add {base B G P c n : Nat} {A : Option Addr} {w w' : World} {ss : List St} {s : St} {e : Ending} (h : e = .returned (.int .i64 (ss.length : Int)) ∧ Bld w' base B (.slice A n c) (.slice (some ⟨P, 0, none⟩) n n) (.slice (some ⟨G, 0, none⟩) n n) (ss ++ [s]) ∧ Chg base B w w') : Post base B G P A c n (addF s ss) w e w' := h
set_option maxRecDepth 100000 in
set_option maxHeartbeats 1000000 in
theorem node_any {w0 : World} {B G P c j wt : Nat} {A : Option Addr} {ns : List Nd} (h : Env w0 B G P A c ns) (hj : j < ns.length) (h1 : blankN (blanksF (ns.take j)) ns[j] = false → 1 ≤ wt) (hl : ns.length ≤ 4000)
    (h4 : ns[j].kind = 4 → blankN (blanksF (ns.take j)) ns[j] = false → KidsC 38 w0 B G P A c ns.length (partN (blanksF (ns.take j)) ns[j]) (fun next ss => catF (tabF (ns.take j)) (partN (blanksF (ns.take j)) ns[j]) (next, ss)) wt)
    (h5 : ns[j].kind = 5 → blankN (blanksF (ns.take j)) ns[j] = false → KidsC 39 w0 B G P A c ns.length ns[j].kids (altF (tabF (ns.take j)) ns[j].kids) wt)
    (h6 : ns[j].kind = 6 → blankN (blanksF (ns.take j)) ns[j] = false → RepC w0 B G P A c ns.length ns[j] (repF (getT (tabF (ns.take j)) (ns[j].kids.headD 0)) ns[j].mn ns[j].mx) wt) :
    NodeC w0 B G P A c ns.length (j : Int) (stepN (tabF (ns.take j)) (blanksF (ns.take j)) ns[j]) wt := by
  intro w next ss hw hb hs
  have HBl := Lib.hid (h.blank hw hj)
  obtain ⟨pv, hp1, hp2⟩ := h.part hw hj
  obtain ⟨A', c', e, hA⟩ := h.nodes
  cases e
  obtain ⟨b, off, rfl, hA1⟩ := hA (by omega)
  have hat0 := hA1 j hj
  have hat := h.node0 hw hat0
  have HPt := Lib.hid (And.intro hp1 hp2)
  have HAt0 := Lib.hid hat0
  have HB := Lib.hid hb
  have HW := Lib.hid hw
  have H4 := Lib.hid h4
  have H5 := Lib.hid h5
  have H6 := Lib.hid h6
  have HStep : Hid (stepN (tabF (ns.take j)) (blanksF (ns.take j)) ns[j] next ss = if blankN (blanksF (ns.take j)) ns[j] = true then (next, ss) else if ns[j].kind = 1 then addF ⟨0, ns[j].set, next, 0⟩ ss else if ns[j].kind = 2 then addF ⟨2, noSet, next, 0⟩ ss else if ns[j].kind = 3 then addF ⟨3, noSet, next, 0⟩ ss
      else if ns[j].kind = 4 then catF (tabF (ns.take j)) (partN (blanksF (ns.take j)) ns[j]) (next, ss) else if ns[j].kind = 5 then altF (tabF (ns.take j)) ns[j].kids next ss else if ns[j].kind = 6 then repF (getT (tabF (ns.take j)) (ns[j].kids.headD 0)) ns[j].mn ns[j].mx next ss else (next, ss)) := Lib.hid rfl
  obtain ⟨v, _, hh, _⟩ := hb
  obtain ⟨c0, c1, c2, c3, _⟩ := bld_cells hh
  clear hh hA hA1 h4 h5 h6 hat0 hw h hp2
  generalize stepN (tabF (ns.take j)) (blanksF (ns.take j)) ns[j] next ss = R at HStep ⊢
  generalize blankN (blanksF (ns.take j)) ns[j] = bk at HBl H4 H5 H6 HStep h1
  generalize partN (blanksF (ns.take j)) ns[j] = pt at HPt H4 HStep
  generalize ns[j] = nd at hat HAt0 H4 H5 H6 HStep
  generalize ns.length = n at hl HB c0 c1 c2 H4 H5 H6 hj ⊢
  have i1 : (0 : Int) ≤ (j : Int) := by omega
  have i2 : (j : Int) < (n : Int) := by omega
  have cb := HBl.out
  cases bk with
  | true =>
    have HR : Hid (R = (next, ss)) := Lib.hid (by rw [HStep.out, if_pos rfl])
    clear hat HStep H4 H5 H6
    go_enter Try.func26, Try.ntmps26
    go_wp2_with fail
    go_ret
    rw [HR.out]
    exact ⟨rfl, HB.out, Chg.refl _ _ _⟩
  | false =>
    have h1 := h1 rfl
    obtain ⟨kv, p0, p1, p2, p3, p4, p5, p6, p7, rk⟩ := hat
    have HSt2 := HStep.out
    rw [if_neg (by decide)] at HSt2
    have HStep2 := Lib.hid HSt2
    clear HSt2 HStep
    obtain ⟨Ak, ck, hke⟩ := rk.form
    rw [intsV_len] at hke
    subst hke
    have HRk := Lib.hid rk
    clear rk
    generalize hkn : nd.kids.length = kn at p7 HRk
    clear hkn
    by_cases k1 : nd.kind = 1
    · have HR : Hid (R = addF ⟨0, nd.set, next, 0⟩ ss) := Lib.hid (by rw [HStep2.out, if_pos k1])
      have e1 : (nd.kind == 1) = true := by rw [k1]; rfl
      have e2 : (nd.kind == 2) = false := by rw [k1]; rfl
      have e3 : (nd.kind == 3) = false := by rw [k1]; rfl
      have e4 : (nd.kind == 4) = false := by rw [k1]; rfl
      have e5 : (nd.kind == 5) = false := by rw [k1]; rfl
      have e6 : (nd.kind == 6) = false := by rw [k1]; rfl
      have HAdd := Lib.hid (add_any HB.out ⟨0, nd.set, next, 0⟩ (by omega))
      unfold stV at HAdd
      generalize word nd.set 0 = x0 at p1 HAdd
      generalize word nd.set 1 = x1 at p2 HAdd
      generalize word nd.set 2 = x2 at p3 HAdd
      generalize word nd.set 3 = x3 at p4 HAdd
      clear k1 HStep2 H4 H5 H6 HRk
      go_enter Try.func26, Try.ntmps26
      go_wp2_with fail
      refine HAdd.out.mono ?_
      rintro e w2 hpost
      have HP := Lib.hid (Post.of_add hpost)
      have hpe := hpost.1
      subst hpe
      clear hpost
      go_wp2_with fail
      go_ret
      rw [HR.out]
      exact HP.out
    by_cases k2 : nd.kind = 2
    · have HR : Hid (R = addF ⟨2, noSet, next, 0⟩ ss) := Lib.hid (by rw [HStep2.out, if_neg (by omega), if_pos k2])
      have e1 : (nd.kind == 1) = false := by rw [k2]; rfl
      have e2 : (nd.kind == 2) = true := by rw [k2]; rfl
      have e3 : (nd.kind == 3) = false := by rw [k2]; rfl
      have e4 : (nd.kind == 4) = false := by rw [k2]; rfl
      have e5 : (nd.kind == 5) = false := by rw [k2]; rfl
      have e6 : (nd.kind == 6) = false := by rw [k2]; rfl
      have HAdd := Lib.hid (add_any HB.out ⟨2, noSet, next, 0⟩ (by omega))
      unfold stV at HAdd
      simp only [show ∀ j, word noSet j = 0 from fun j => word_none j] at HAdd
      generalize word nd.set 0 = x0 at p1
      generalize word nd.set 1 = x1 at p2
      generalize word nd.set 2 = x2 at p3
      generalize word nd.set 3 = x3 at p4
      clear k2 HStep2 H4 H5 H6 HRk
      go_enter Try.func26, Try.ntmps26
      go_wp2_with fail
      refine HAdd.out.mono ?_
      rintro e w2 hpost
      have HP := Lib.hid (Post.of_add hpost)
      have hpe := hpost.1
      subst hpe
      clear hpost
      go_wp2_with fail
      go_ret
      rw [HR.out]
      exact HP.out
    by_cases k3 : nd.kind = 3
    · have HR : Hid (R = addF ⟨3, noSet, next, 0⟩ ss) := Lib.hid (by rw [HStep2.out, if_neg (by omega), if_neg (by omega), if_pos k3])
      have e1 : (nd.kind == 1) = false := by rw [k3]; rfl
      have e2 : (nd.kind == 2) = false := by rw [k3]; rfl
      have e3 : (nd.kind == 3) = true := by rw [k3]; rfl
      have e4 : (nd.kind == 4) = false := by rw [k3]; rfl
      have e5 : (nd.kind == 5) = false := by rw [k3]; rfl
      have e6 : (nd.kind == 6) = false := by rw [k3]; rfl
      have HAdd := Lib.hid (add_any HB.out ⟨3, noSet, next, 0⟩ (by omega))
      unfold stV at HAdd
      simp only [show ∀ j, word noSet j = 0 from fun j => word_none j] at HAdd
      generalize word nd.set 0 = x0 at p1
      generalize word nd.set 1 = x1 at p2
      generalize word nd.set 2 = x2 at p3
      generalize word nd.set 3 = x3 at p4
      clear k3 HStep2 H4 H5 H6 HRk
      go_enter Try.func26, Try.ntmps26
      go_wp2_with fail
      refine HAdd.out.mono ?_
      rintro e w2 hpost
      have HP := Lib.hid (Post.of_add hpost)
      have hpe := hpost.1
      subst hpe
      clear hpost
      go_wp2_with fail
      go_ret
      rw [HR.out]
      exact HP.out
    by_cases k4 : nd.kind = 4
    · have HR : Hid (R = catF (tabF (ns.take j)) pt (next, ss)) := Lib.hid (by rw [HStep2.out, if_neg (by omega), if_neg (by omega), if_neg (by omega), if_pos k4])
      have e1 : (nd.kind == 1) = false := by rw [k4]; rfl
      have e2 : (nd.kind == 2) = false := by rw [k4]; rfl
      have e3 : (nd.kind == 3) = false := by rw [k4]; rfl
      have e4 : (nd.kind == 4) = true := by rw [k4]; rfl
      have e5 : (nd.kind == 5) = false := by rw [k4]; rfl
      have e6 : (nd.kind == 6) = false := by rw [k4]; rfl
      have HC := Lib.hid (H4.out k4 rfl w next ss pv HPt.out.2 HW.out HB.out hs)
      generalize word nd.set 0 = x0 at p1
      generalize word nd.set 1 = x1 at p2
      generalize word nd.set 2 = x2 at p3
      generalize word nd.set 3 = x3 at p4
      clear k4 HStep2 H4 H5 H6 HRk
      go_enter Try.func26, Try.ntmps26
      go_wp2_with fail
      refine HC.out.mono ?_
      rintro e w2 hpost
      have HP := Lib.hid hpost
      have hpe := hpost.1
      subst hpe
      clear hpost
      go_wp2_with fail
      go_ret
      rw [HR.out]
      exact HP.out
    by_cases k5 : nd.kind = 5
    · have HR : Hid (R = altF (tabF (ns.take j)) nd.kids next ss) := Lib.hid (by rw [HStep2.out, if_neg (by omega), if_neg (by omega), if_neg (by omega), if_neg (by omega), if_pos k5])
      have e1 : (nd.kind == 1) = false := by rw [k5]; rfl
      have e2 : (nd.kind == 2) = false := by rw [k5]; rfl
      have e3 : (nd.kind == 3) = false := by rw [k5]; rfl
      have e4 : (nd.kind == 4) = false := by rw [k5]; rfl
      have e5 : (nd.kind == 5) = true := by rw [k5]; rfl
      have e6 : (nd.kind == 6) = false := by rw [k5]; rfl
      have HC := Lib.hid (H5.out k5 rfl w next ss _ HRk.out HW.out HB.out hs)
      generalize word nd.set 0 = x0 at p1
      generalize word nd.set 1 = x1 at p2
      generalize word nd.set 2 = x2 at p3
      generalize word nd.set 3 = x3 at p4
      clear k5 HStep2 H4 H5 H6 HRk
      go_enter Try.func26, Try.ntmps26
      go_wp2_with fail
      refine HC.out.mono ?_
      rintro e w2 hpost
      have HP := Lib.hid hpost
      have hpe := hpost.1
      subst hpe
      clear hpost
      go_wp2_with fail
      go_ret
      rw [HR.out]
      exact HP.out
    by_cases k6 : nd.kind = 6
    · have HR : Hid (R = repF (getT (tabF (ns.take j)) (nd.kids.headD 0)) nd.mn nd.mx next ss) := Lib.hid (by rw [HStep2.out, if_neg (by omega), if_neg (by omega), if_neg (by omega), if_neg (by omega), if_neg (by omega), if_pos k6])
      have e1 : (nd.kind == 1) = false := by rw [k6]; rfl
      have e2 : (nd.kind == 2) = false := by rw [k6]; rfl
      have e3 : (nd.kind == 3) = false := by rw [k6]; rfl
      have e4 : (nd.kind == 4) = false := by rw [k6]; rfl
      have e5 : (nd.kind == 5) = false := by rw [k6]; rfl
      have e6 : (nd.kind == 6) = true := by rw [k6]; rfl
      have HC := Lib.hid (H6.out k6 rfl w next ss _ _ HAt0.out HW.out HB.out hs)
      generalize repF (getT (tabF (ns.take j)) (nd.kids.headD 0)) nd.mn nd.mx next ss = X at HC HR
      generalize word nd.set 0 = x0 at p1
      generalize word nd.set 1 = x1 at p2
      generalize word nd.set 2 = x2 at p3
      generalize word nd.set 3 = x3 at p4
      clear k6 HStep2 H4 H5 H6 HRk
      go_enter Try.func26, Try.ntmps26
      go_wp2_with fail
      refine HC.out.mono ?_
      rintro e w2 hpost
      have HP := Lib.hid hpost
      have hpe := hpost.1
      subst hpe
      clear hpost
      go_wp2_with fail
      go_ret
      rw [HR.out]
      exact HP.out
    have HR : Hid (R = (next, ss)) := Lib.hid (by rw [HStep2.out, if_neg k1, if_neg k2, if_neg k3, if_neg k4, if_neg k5, if_neg k6])
    have e1 : (nd.kind == 1) = false := by rw [beq_eq_false_iff_ne]; exact k1
    have e2 : (nd.kind == 2) = false := by rw [beq_eq_false_iff_ne]; exact k2
    have e3 : (nd.kind == 3) = false := by rw [beq_eq_false_iff_ne]; exact k3
    have e4 : (nd.kind == 4) = false := by rw [beq_eq_false_iff_ne]; exact k4
    have e5 : (nd.kind == 5) = false := by rw [beq_eq_false_iff_ne]; exact k5
    have e6 : (nd.kind == 6) = false := by rw [beq_eq_false_iff_ne]; exact k6
    generalize word nd.set 0 = x0 at p1
    generalize word nd.set 1 = x1 at p2
    generalize word nd.set 2 = x2 at p3
    generalize word nd.set 3 = x3 at p4
    clear k1 k2 k3 k4 k5 k6 HStep2 H4 H5 H6 HRk
    go_enter Try.func26, Try.ntmps26
    go_wp2_with fail
    go_ret
    rw [HR.out]
    exact ⟨rfl, HB.out, Chg.refl _ _ _⟩
end Au
end
section
open Go.RowKit
namespace Au
open Cm Rx
abbrev tAu : TypeId := 32
def buildX (ns : List Nd) : Xs := getT (tabF ns) ((ns.length - 1 : Nat) : Int) 0 [⟨4, noSet, 0, 0⟩]
open Classical in
noncomputable def codeB (ns : List Nd) : Int := if Valid ns then (if 4000 < weightR ns then 1 else 0) else 2
open Classical in
noncomputable def resB (ns : List Nd) : Xs := if codeB ns = 0 then buildX ns else (0, [])
/-- A slice of states that the call owns, wherever it began. -/
def OwnA (w : World) (v : Value) (ss : List St) : Prop := ∃ base, w.ownsRow base tSt 7 v ss.length (flatS ss)
theorem OwnA.nil (w : World) : OwnA w (.slice none 0 0) [] := ⟨0, World.ownsRow_nil _ _ _ _⟩
def BuildPost (ns : List Nd) (w : World) (e : Ending) (w' : World) : Prop :=
  ∃ v, e = .returned (.tuple #[.agg #[v, .int .i64 (resB ns).1], .int .i64 (codeB ns)]) ∧ OwnA w' v (resB ns).2 ∧ Below w.heap.size w w'
theorem RdA.nil (w : World) : RdA w (.slice none 0 0) [] := ⟨none, 0, rfl, fun h => absurd h (Nat.lt_irrefl 0)⟩
theorem results_cell_row2 {P : Program} {fn : Func} {p u : Tmp} {ty : TypeId} (h : fn.results = #[.cell p ty, .tmp u]) (tmps : Array Value) (w : World) (g : Nat) (t : TypeId) (cs : Array Value) (fr : Nat × Nat) (d : TypeDesc) (y : Value)
    (hp : tmps.getD p undef = .pointer (some ⟨g, 0, none⟩)) (hy : tmps.getD u undef = y) (hg : w.heap[g]? = some (.cells cs t fr))
    (hu : P.underlying ty = some d) (hd : (match d with | .struct _ | .array _ _ => true | _ => false) = true) (hi : (P.info? ty).map (·.size) = some cs.size) :
    (results fn tmps).run P w = .ok (.tuple #[.agg cs, y]) w := by
  rw [results_cell_tmp h, hp, hy]
  simp [asAddr, run_loadVar_row w g t ty cs fr d hg hu hd hi, Result.andThen]
theorem cell_two {w : World} {H : Nat} {a b u1 u2 : Value} {t : TypeId} (h : w.heap[H]? = some (.cells #[a, b] t (0, 0))) : ((w.setCell ⟨H, 0, none⟩ u1).setCell ⟨H, 1, none⟩ u2).heap[H]? = some (.cells #[u1, u2] t (0, 0)) := by
  have h1 := set_block (o := 0) (u := u1) h
  have h2 := set_block (o := 1) (u := u2) h1
  exact h2
set_option maxRecDepth 100000 in
set_option maxHeartbeats 1000000 in
theorem Build_any (v : Value) (ns : List Nd) (w : World) (wt : Nat) (h : RdN w v ns) (hl : ns.length ≤ 1000000) (hk : ∀ n ∈ ns, n.kids.length ≤ 1000000) (hwt : 1 + wt ≤ 1000000)
    (hroot : codeB ns = 0 → ∀ w0 B G P A c, Env w0 B G P A c ns → NodeC w0 B G P A c ns.length ((ns.length - 1 : Nat) : Int) (getT (tabF ns) ((ns.length - 1 : Nat) : Int)) wt) :
    Calls Try.prog 10 #[v] w (BuildPost ns w) := by
  obtain ⟨A, c, rfl, _⟩ := id h
  have HR := Lib.hid h
  have HW := Lib.hid (fun w' (hb : Below w.heap.size w w') => Px.Weight_any _ ns w' (h.below hb) hl hk)
  have HNew := Lib.hid (fun w' (hb : Below w.heap.size w w') (hv : Valid ns) => new_any A c ns w' (h.below hb) hv hk)
  have HRoot := Lib.hid hroot
  have HB1 : Hid (Below w.heap.size w (w.alloc (.cells #[.slice none 0 0, .int .i64 0] tAu))) := Lib.hid ((Below.refl _ _).alloc (Nat.le_refl _) _)
  have HC0 : Hid ((w.alloc (.cells #[.slice none 0 0, .int .i64 0] tAu)).heap[w.heap.size]? = some (.cells #[.slice none 0 0, .int .i64 0] tAu (0, 0))) := Lib.hid (heap_new w _)
  have HS1 : Hid ((w.alloc (.cells #[.slice none 0 0, .int .i64 0] tAu)).heap.size = w.heap.size + 1) := Lib.hid (by simp)
  clear h hk hroot
  go_enter Try.func10, Try.ntmps10
  go_wp2_with fail
  generalize w.alloc (.cells #[.slice none 0 0, .int .i64 0] tAu) = w1 at HB1 HC0 HS1 ⊢
  refine (HW.out w1 HB1.out).mono ?_
  rintro e w2 ⟨rfl, hb2⟩
  have HB2 := Lib.hid (HB1.out.trans (hb2.mono HB1.out.size))
  have hh2 : w2.heap[w.heap.size]? = some (.cells #[.slice none 0 0, .int .i64 0] tAu (0, 0)) := (hb2.block _ (by rw [HS1.out]; omega)).trans HC0.out
  have c0 : w2.cell? ⟨w.heap.size, 0, none⟩ = some (.slice none 0 0) := by simp [World.cell?, hh2]
  have c1 : w2.cell? ⟨w.heap.size, 1, none⟩ = some (.int .i64 0) := by simp [World.cell?, hh2]
  have f2 : ∀ j, w2.frozen? ⟨w.heap.size, j, none⟩ = false := fun j => by simp [World.frozen?, hh2]
  have HH2 := Lib.hid hh2
  clear hb2 hh2
  by_cases hv : Valid ns
  · by_cases hwg : 4000 < weightR ns
    · have HCode : Hid (codeB ns = 1) := Lib.hid (by unfold codeB; rw [if_pos hv, if_pos hwg])
      have HRes : Hid (resB ns = (0, [])) := Lib.hid (by unfold resB; rw [HCode.out]; rfl)
      rw [check_T hv]
      have d1 : decide ((4000 : Int) < weightR ns) = true := decide_eq_true hwg
      generalize weightR ns = wg at d1 hwg ⊢
      clear hv
      have HB3 : Hid (∀ u1 u2, Below w.heap.size w ((w2.setCell ⟨w.heap.size, 0, none⟩ u1).setCell ⟨w.heap.size, 1, none⟩ u2)) := Lib.hid (fun u1 u2 => (HB2.out.setCell (p := ⟨w.heap.size, 0, none⟩) (Nat.le_refl _) u1).setCell (p := ⟨w.heap.size, 1, none⟩) (Nat.le_refl _) u2)
      have HT3 : Hid (∀ u1 u2, ((w2.setCell ⟨w.heap.size, 0, none⟩ u1).setCell ⟨w.heap.size, 1, none⟩ u2).heap[w.heap.size]? = some (.cells #[u1, u2] tAu (0, 0))) := Lib.hid (fun u1 u2 => cell_two HH2.out)
      clear HH2 HB2 HB1 HC0 HS1 HW HNew HRoot HR
      go_wp2_with fail
      refine bodyPost_ret (results_cell_row2 (p := 2) (u := 3) rfl _ _ _ _ _ _ _ _ rfl rfl (HT3.out _ _) Try.underlying32 rfl (by kernel_rfl)) rfl ?_
      exact ⟨_, by rw [HCode.out, HRes.out]; rfl, by rw [HRes.out]; exact OwnA.nil _, HB3.out _ _⟩
    · have HCode : Hid (codeB ns = 0) := Lib.hid (by unfold codeB; rw [if_pos hv, if_neg hwg])
      have HRes : Hid (resB ns = buildX ns) := Lib.hid (by unfold resB; rw [if_pos HCode.out])
      rw [check_T hv]
      have d1 : decide ((4000 : Int) < weightR ns) = false := decide_eq_false hwg
      have HN2 := Lib.hid (HNew.out w2 HB2.out hv)
      have HRt := Lib.hid (HRoot.out HCode.out)
      have HR2 := Lib.hid (HR.out.below HB2.out)
      have hlp := hv.1
      generalize weightR ns = wg at d1 hwg ⊢
      clear hwg hv HNew HRoot HW c0 c1 f2
      go_wp2_with fail
      refine HN2.out.mono ?_
      rintro e w3 ⟨B, G, P, rfl, hnb⟩
      have HE := Lib.hid (Env.of hnb HR2.out)
      have hb3 := hnb.1
      have hBge := hnb.2.1.1
      have hh3 := hnb.2.2.1
      have HB3 := Lib.hid (HB2.out.trans (hb3.mono HB2.out.size))
      have hH2 : w.heap.size < w2.heap.size := lt_some HH2.out
      have HH3 : Hid (w3.heap[w.heap.size]? = some (.cells #[.slice none 0 0, .int .i64 0] tAu (0, 0))) := Lib.hid ((hb3.block _ hH2).trans HH2.out)
      have hBH : w.heap.size ≠ B := by omega
      have HBld : Hid (BldE w3 w3.heap.size B G P A c ns.length []) := Lib.hid ⟨.slice none 0 0, Nat.le_refl _, hh3, World.ownsRow_nil _ _ _ _⟩
      have HAdd := Lib.hid (add_any HBld.out ⟨4, noSet, 0, 0⟩ (by decide))
      have hH3 : w.heap.size < w3.heap.size := by have := hb3.size; omega
      have HHB := Lib.hid (And.intro hBH (And.intro hH3 (show w.heap.size ≤ B by omega)))
      unfold stV at HAdd
      simp only [show ∀ j, word noSet j = 0 from fun j => word_none j] at HAdd
      clear hnb hb3 hBge hh3 hH2 hBH hH3
      go_wp2_with fail
      refine HAdd.out.mono ?_
      rintro e w4 ⟨rfl, hb4, hc4⟩
      have HNode := Lib.hid (HRt.out w3 B G P A c HE.out w4 0 [⟨4, noSet, 0, 0⟩] hc4 hb4 hwt)
      have HC4 := Lib.hid hc4
      clear hb4 hc4
      have hn1 : IntKind.i64.wrap ((ns.length : Int) - 1) = ((ns.length - 1 : Nat) : Int) := by rw [IntWalk.i64_in _ (by omega)]; omega
      generalize hi : ((ns.length - 1 : Nat) : Int) = i1 at HNode hn1
      generalize hX : getT (tabF ns) i1 0 [⟨4, noSet, 0, 0⟩] = X at HNode
      have HX : Hid (buildX ns = X) := Lib.hid (by unfold buildX; rw [hi, hX])
      clear hX hi
      go_wp2_with fail
      refine HNode.out.mono ?_
      rintro e w5 ⟨rfl, hb5, hc5⟩
      obtain ⟨vS, hs5, hh5, ho5⟩ := hb5
      obtain ⟨Av, cv, hvs, _⟩ := RdA.of_own ho5
      subst hvs
      have HC5 := Lib.hid (HC4.out.trans hc5)
      have HO5 := Lib.hid ho5
      obtain ⟨_, _, _, q3, _⟩ := bld_cells hh5
      have hh6 : w5.heap[w.heap.size]? = some (.cells #[.slice none 0 0, .int .i64 0] tAu (0, 0)) := (HC5.out.block _ HHB.out.2.1 HHB.out.1).trans HH3.out
      have c0 : w5.cell? ⟨w.heap.size, 0, none⟩ = some (.slice none 0 0) := by simp [World.cell?, hh6]
      have c1 : w5.cell? ⟨w.heap.size, 1, none⟩ = some (.int .i64 0) := by simp [World.cell?, hh6]
      have f2 : ∀ j, w5.frozen? ⟨w.heap.size, j, none⟩ = false := fun j => by simp [World.frozen?, hh6]
      have HT6 : Hid (∀ u1 u2, ((w5.setCell ⟨w.heap.size, 0, none⟩ u1).setCell ⟨w.heap.size, 1, none⟩ u2).heap[w.heap.size]? = some (.cells #[u1, u2] tAu (0, 0))) := Lib.hid (fun u1 u2 => cell_two hh6)
      have HB5 : Hid (Below w.heap.size w w5) := Lib.hid (HB3.out.trans (HC5.out.below (Nat.le_of_lt HHB.out.2.1) HHB.out.2.2))
      have HB6 : Hid (∀ u1 u2, Below w.heap.size w ((w5.setCell ⟨w.heap.size, 0, none⟩ u1).setCell ⟨w.heap.size, 1, none⟩ u2)) := Lib.hid (fun u1 u2 => (HB5.out.setCell (p := ⟨w.heap.size, 0, none⟩) (Nat.le_refl _) u1).setCell (p := ⟨w.heap.size, 1, none⟩) (Nat.le_refl _) u2)
      have HRd6 : Hid (∀ u1 u2, OwnA ((w5.setCell ⟨w.heap.size, 0, none⟩ u1).setCell ⟨w.heap.size, 1, none⟩ u2) (.slice Av X.2.length cv) X.2) := Lib.hid (fun u1 u2 => ⟨_, ownsRow_setCell_below (ownsRow_setCell_below HO5.out (a := ⟨w.heap.size, 0, none⟩) HHB.out.2.1 u1) (a := ⟨w.heap.size, 1, none⟩) HHB.out.2.1 u2⟩)
      clear hh5 hh6 hs5 ho5 hc5
      go_wp2_with fail
      refine bodyPost_ret (results_cell_row2 (p := 2) (u := 3) rfl _ _ _ _ _ _ _ _ rfl rfl (HT6.out _ _) Try.underlying32 rfl (by kernel_rfl)) rfl ?_
      exact ⟨_, by rw [HCode.out, HRes.out, HX.out]; rfl, by rw [HRes.out, HX.out]; exact HRd6.out _ _, HB6.out _ _⟩
  · have HCode : Hid (codeB ns = 2) := Lib.hid (by unfold codeB; rw [if_neg hv])
    have HRes : Hid (resB ns = (0, [])) := Lib.hid (by unfold resB; rw [HCode.out]; rfl)
    rw [check_F hv]
    generalize weightR ns = wg
    clear hv
    have HB3 : Hid (∀ u1 u2, Below w.heap.size w ((w2.setCell ⟨w.heap.size, 0, none⟩ u1).setCell ⟨w.heap.size, 1, none⟩ u2)) := Lib.hid (fun u1 u2 => (HB2.out.setCell (p := ⟨w.heap.size, 0, none⟩) (Nat.le_refl _) u1).setCell (p := ⟨w.heap.size, 1, none⟩) (Nat.le_refl _) u2)
    have HT3 : Hid (∀ u1 u2, ((w2.setCell ⟨w.heap.size, 0, none⟩ u1).setCell ⟨w.heap.size, 1, none⟩ u2).heap[w.heap.size]? = some (.cells #[u1, u2] tAu (0, 0))) := Lib.hid (fun u1 u2 => cell_two HH2.out)
    clear HH2 HB2 HB1 HC0 HS1 HW HNew HRoot HR
    go_wp2_with fail
    refine bodyPost_ret (results_cell_row2 (p := 2) (u := 3) rfl _ _ _ _ _ _ _ _ rfl rfl (HT3.out _ _) Try.underlying32 rfl (by kernel_rfl)) rfl ?_
    exact ⟨_, by rw [HCode.out, HRes.out]; rfl, by rw [HRes.out]; exact OwnA.nil _, HB3.out _ _⟩
end Au
end
section
open Go.RowKit
namespace Au
open Cm Rx
def LoopC (w0 : World) (B G P : Nat) (A : Option Addr) (c n : Nat) (kid : Int) (f : Bf) (wt : Nat) : Prop :=
  ∀ (w : World) (next : Int) (ss : List St), Chg w0.heap.size B w0 w → BldE w w0.heap.size B G P A c n ss → ss.length + wt ≤ 1000000 →
    Calls Try.prog 56 #[.pointer (some ⟨B, 0, none⟩), .int .i64 kid, .int .i64 next] w (Post w0.heap.size B G P A c n (loopF f next ss) w)
theorem Bld.of_below {w w' : World} {base rb : Nat} {vn vp vb : Value} {ss : List St} (h : Bld w base rb vn vp vb ss) (hb : Below w.heap.size w w') : Bld w' base rb vn vp vb ss := by
  obtain ⟨v, h1, h2, h3⟩ := h
  exact ⟨v, by have := hb.size; omega, (hb.block rb (lt_some h2)).trans h2, own_same h3 (fun k hk => hb.block k hk)⟩
set_option maxRecDepth 100000 in
set_option maxHeartbeats 1000000 in
theorem rep_any {w0 : World} {B G P c b0 : Nat} {A : Option Addr} {ns : List Nd} (h : Env w0 B G P A c ns) (nd : Nd) (f : Bf) (hk1 : nd.kids.length = 1) (hmn : 0 ≤ nd.mn) (hmx : nd.mx = -1 ∨ nd.mn ≤ nd.mx) (hmb : nd.mn ≤ 100 ∧ nd.mx ≤ 100)
    (hC : NodeC w0 B G P A c ns.length (nd.kids.headD 0) f b0) (hG : Grows f b0) (hL : nd.mx = -1 → LoopC w0 B G P A c ns.length (nd.kids.headD 0) f (b0 + 1)) :
    RepC w0 B G P A c ns.length nd (repF f nd.mn nd.mx) (nd.mn.toNat * b0 + (if nd.mx = -1 then b0 + 1 else (nd.mx - nd.mn).toNat * (b0 + 1))) := by
  intro w next ss b o hat0 hw hb hs
  have hat := h.node hw hat0
  obtain ⟨kv, p0, p1, p2, p3, p4, p5, p6, p7, rk⟩ := hat
  obtain ⟨Ak, ck, hke⟩ := rk.form
  rw [intsV_len, hk1] at hke
  subst hke
  obtain ⟨hl1, b2, o2, e2, hkc⟩ := rk.at (by rw [intsV_len]; omega)
  clear hl1
  have hkc0 := hkc 0 (by rw [intsV_len]; omega)
  have hkv : (intsV nd.kids)[0]'(by rw [intsV_len]; omega) = .int .i64 nd.kids[0] := by simp [intsV]
  rw [hkv, Nat.add_zero] at hkc0
  subst e2
  have hhd : nd.kids.headD 0 = nd.kids[0] := headD_get (by omega)
  rw [hhd] at hC hL
  have HHd := Lib.hid hhd
  generalize nd.kids[0] = kid at hkc0 hC hL HHd
  have HCell : Hid (∀ w', Chg w0.heap.size B w0 w' → w'.cell? ⟨b, o + 5, none⟩ = some (.int .i64 nd.mn)) := Lib.hid (fun w' hw' => by
    obtain ⟨_, _, _, _, _, _, q, _⟩ := h.node hw' hat0
    exact q)
  have HC := Lib.hid hC
  have HL := Lib.hid hL
  have HG := Lib.hid hG
  have HW := Lib.hid hw
  have HB := Lib.hid hb
  clear hC hL hG hw hb hkc hkv hhd hat0 h rk p0 p1 p2 p3 p4
  have HRep : Hid (repF f nd.mn nd.mx next ss = iterF (minS f) nd.mn.toNat (firstF f nd.mn nd.mx next ss)) := Lib.hid rfl
  have HF1 : Hid (nd.mx = -1 → firstF f nd.mn nd.mx next ss = loopF f next ss) := Lib.hid (fun h => by unfold firstF; rw [if_pos h])
  have HF2 : Hid (nd.mx ≠ -1 → firstF f nd.mn nd.mx next ss = iterF (optS f next) (nd.mx - nd.mn).toNat (next, ss)) := Lib.hid (fun h => by unfold firstF; rw [if_neg h])
  generalize repF f nd.mn nd.mx next ss = R at HRep ⊢
  generalize firstF f nd.mn nd.mx next ss = x0 at HRep HF1 HF2
  generalize nd.mn = mn at *
  generalize nd.mx = mx at *
  obtain ⟨mN, rfl⟩ : ∃ mN : Nat, mn = (mN : Int) := ⟨mn.toNat, by omega⟩
  rw [Int.toNat_natCast] at HRep hs
  have HLen0 : Hid (x0.2.length + mN * b0 ≤ 1000000) := Lib.hid (by
    by_cases hm : mx = -1
    · have h1 := loop_len HG.out next ss
      rw [← HF1.out hm] at h1
      rw [if_pos hm] at hs
      omega
    · have h1 := iter_len (opt_len HG.out next) (mx - (mN : Int)).toNat (next, ss)
      rw [← HF2.out hm] at h1
      rw [if_neg hm] at hs
      simp only at h1
      omega)
  go_enter Try.func40, Try.ntmps40
  go_upto_if 20 with fail
  go_cut [8] from 20 (fun v wx => v = .int .i64 x0.1 ∧ Hid (Chg w0.heap.size B w wx) ∧ Hid (BldE wx w0.heap.size B G P A c ns.length x0.2))
  case first =>
    by_cases hm : mx = -1
    · have e1 : (mx == -1) = true := by rw [hm]; rfl
      have HLp := Lib.hid (HL.out hm w next ss HW.out HB.out (by rw [if_pos hm] at hs; omega))
      rw [← HF1.out hm] at HLp
      clear HF1 HF2 hs hmx HLen0 hm
      go_wp2_with fail
      refine HLp.out.mono ?_
      rintro e w2 ⟨rfl, hb2, hc2⟩
      have HB2 := Lib.hid hb2
      have HC2 := Lib.hid hc2
      clear hb2 hc2
      go_wp2_with fail
      go_meet
      case rel => exact ⟨rfl, HC2, HB2⟩
    · have e1 : (mx == -1) = false := by rw [beq_eq_false_iff_ne]; exact hm
      have hmx2 : (mN : Int) ≤ mx := by omega
      obtain ⟨op, hop⟩ : ∃ op : Nat, mx - (mN : Int) = (op : Int) := ⟨(mx - mN).toNat, by omega⟩
      have hx0 := HF2.out hm
      rw [if_neg hm] at hs
      rw [hop, Int.toNat_natCast] at hx0 hs
      have HX0 := Lib.hid hx0
      have HSz : Hid (∀ q, q < op → (iterF (optS f next) q (next, ss)).2.length + (b0 + 1) ≤ 1000000) := Lib.hid (fun q hq => by
        have h1 := iter_len (opt_len HG.out next) q (next, ss)
        have h2 : (q + 1) * (b0 + 1) ≤ op * (b0 + 1) := Nat.mul_le_mul_right _ hq
        rw [Nat.succ_mul] at h2
        simp only at h1
        omega)
      have hop2 : op ≤ 100 := by omega
      have hwr : IntKind.i64.wrap (mx - (mN : Int)) = (op : Int) := by rw [IntWalk.i64_in _ (by omega)]; exact hop
      have HSt : Hid (∀ q, iterF (optS f next) (q + 1) (next, ss) = optS f next (iterF (optS f next) q (next, ss))) := Lib.hid (fun q => rfl)
      have HS0 : Hid (iterF (optS f next) 0 (next, ss) = (next, ss)) := Lib.hid rfl
      clear hx0 hm hmx hmb hs HF1 HF2 HLen0
      go_upto_region 5 with fail
      go_cut [33, 34] from 20 (fun v v34 wx => v = .int .i64 (op : Int) ∧ v34 = .int .i64 0 ∧ Hid (Chg w0.heap.size B w wx) ∧ Hid (BldE wx w0.heap.size B G P A c ns.length ss))
      case first =>
        go_quiet (fail)
        go_wp2_with fail
        go_meet
        case rel => exact ⟨rfl, rfl, Lib.hid (Chg.of (below_drewN (Below.refl _ _) _) ⟨Nat.le_refl _, fun _ _ h _ => h⟩ (KeptX.drewN _ _)), Lib.hid (HB.out.of_below (below_drewN (Below.refl _ _) _))⟩
      case rest =>
      obtain ⟨rfl, rfl, HWd, HBd⟩ := hcut
      clear hwr hop p5 p6 p7 hkc0
      go_wp2_with fail
      go_loopw [8, 34] (fun v i wr => ∃ q : Nat, q ≤ op ∧ i = .int .i64 (q : Int) ∧ v = .int .i64 (iterF (optS f next) q (next, ss)).1 ∧ Hid (Chg w0.heap.size B w wr) ∧ Hid (BldE wr w0.heap.size B G P A c ns.length (iterF (optS f next) q (next, ss)).2)) (fun _ i _ => op - (intOf i).toNat)
      case atStart => exact ⟨0, Nat.zero_le _, by go_num, by rw [HS0.out], HWd, by rw [HS0.out]; exact HBd⟩
      case round =>
        obtain ⟨q, hq, rfl, rfl, HWr, HBr⟩ := hrel
        by_cases hlt : q < op
        · have i2 : (q : Int) < (op : Int) := by omega
          have hsz := HSz.out q hlt
          have HNx := Lib.hid (HC.out wr (iterF (optS f next) q (next, ss)).1 (iterF (optS f next) q (next, ss)).2 (HW.out.trans HWr.out) HBr.out (by omega))
          have HStq := Lib.hid (HSt.out q)
          have HOp : Hid (∀ x : Xs, optS f next x = addF ⟨1, noSet, (f x.1 x.2).1, next⟩ (f x.1 x.2).2) := Lib.hid (fun _ => rfl)
          have HSl : Hid ((f (iterF (optS f next) q (next, ss)).1 (iterF (optS f next) q (next, ss)).2).2.length ≤ 1000000) := Lib.hid (by
            have := HG.out (iterF (optS f next) q (next, ss)).1 (iterF (optS f next) q (next, ss)).2
            omega)
          generalize iterF (optS f next) q (next, ss) = xq at *
          rw [HOp.out] at HStq
          generalize f xq.1 xq.2 = y at *
          clear HOp HSt
          go_wp2_with fail
          refine HNx.out.mono ?_
          rintro e w2 ⟨rfl, hb2, hc2⟩
          have HSp := Lib.hid (split_any hb2 y.1 next HSl.out)
          have HC2 := Lib.hid (HWr.out.trans hc2)
          clear hb2 hc2
          go_wp2_with fail
          refine HSp.out.mono ?_
          rintro e w3 ⟨rfl, hb3, hc3⟩
          have HB3 := Lib.hid hb3
          have HC3 := Lib.hid (HC2.out.trans hc3)
          clear hb3 hc3
          go_wp2_with fail
          go_roundw
          case rel => exact ⟨q + 1, by omega, by go_num, by rw [HStq.out]; rfl, HC3, by rw [HStq.out]; exact HB3⟩
          case measure => simp [intOf]; omega
        · obtain rfl : q = op := by omega
          have hd : decide (q < q) = false := by simp only [decide_eq_false_iff_not]; omega
          go_wp2_with fail
          go_meet
          case rel => exact ⟨by rw [HX0.out], HWr, by rw [HX0.out]; exact HBr⟩
  case rest =>
    obtain ⟨rfl, HW2, HB2⟩ := hcut
    have p5 := HCell.out _ (HW.out.trans HW2.out)
    have HSz : Hid (∀ q, q < mN → (iterF (minS f) q x0).2.length + b0 ≤ 1000000) := Lib.hid (fun q hq => by
      have h1 := iter_len (g := minS f) (b := b0) (fun x => HG.out x.1 x.2) q x0
      have h2 : (q + 1) * b0 ≤ mN * b0 := Nat.mul_le_mul_right _ hq
      rw [Nat.succ_mul] at h2
      have := HLen0.out
      omega)
    have HSt : Hid (∀ q, iterF (minS f) (q + 1) x0 = f (iterF (minS f) q x0).1 (iterF (minS f) q x0).2) := Lib.hid (fun q => rfl)
    have HS0 : Hid (iterF (minS f) 0 x0 = x0) := Lib.hid rfl
    clear HF1 HF2 HLen0 HL hs p6 p7 hkc0
    go_wp2_with fail
    go_loopw [8, 48] (fun v i wr => ∃ q : Nat, q ≤ mN ∧ i = .int .i64 (q : Int) ∧ v = .int .i64 (iterF (minS f) q x0).1 ∧ Hid (Chg w0.heap.size B w wr) ∧ Hid (BldE wr w0.heap.size B G P A c ns.length (iterF (minS f) q x0).2)) (fun _ i _ => mN - (intOf i).toNat)
    case atStart => exact ⟨0, Nat.zero_le _, by go_num, by rw [HS0.out], HW2, by rw [HS0.out]; exact HB2⟩
    case round =>
      obtain ⟨q, hq, rfl, rfl, HWr, HBr⟩ := hrel
      by_cases hlt : q < mN
      · have i2 : (q : Int) < (mN : Int) := by omega
        have HNx := Lib.hid (HC.out wr (iterF (minS f) q x0).1 (iterF (minS f) q x0).2 (HW.out.trans HWr.out) HBr.out (HSz.out q hlt))
        have HStq := Lib.hid (HSt.out q)
        generalize iterF (minS f) q x0 = xq at *
        generalize f xq.1 xq.2 = y at *
        clear HSt
        go_wp2_with fail
        refine HNx.out.mono ?_
        rintro e w2 ⟨rfl, hb2, hc2⟩
        have HB3 := Lib.hid hb2
        have HC3 := Lib.hid (HWr.out.trans hc2)
        clear hb2 hc2
        go_wp2_with fail
        go_roundw
        case rel => exact ⟨q + 1, by omega, by go_num, by rw [HStq.out], HC3, by rw [HStq.out]; exact HB3⟩
        case measure => simp [intOf]; omega
      · obtain rfl : q = mN := by omega
        have hd : decide (q < q) = false := by simp only [decide_eq_false_iff_not]; omega
        go_wp2_with fail
        go_ret
        rw [HRep.out]
        exact ⟨rfl, HBr.out, HWr.out⟩
end Au
end
section
open Go.RowKit
namespace Au
open Cm Rx
abbrev th1 : Nd := ⟨1, noSet, 0, 0, []⟩
abbrev th2 : Nd := ⟨6, noSet, 100, 100, [0]⟩
abbrev th3 (q : Int) : Nd := ⟨6, noSet, q, q, [1]⟩
abbrev three (q : Int) : List Nd := [th1, th2, th3 q]
theorem three_valid (q : Int) (h0 : 39 ≤ q) (h1 : q ≤ 41) : Valid (three q) := by
  refine ⟨Nat.le_of_ble_eq_true rfl, Nat.le_of_ble_eq_true rfl, fun k h => ?_⟩
  match k, h with
  | 0, _ => exact ⟨fun x hx => (by cases hx), rfl⟩
  | 1, _ => exact ⟨fun x hx => (by rcases List.mem_singleton.1 hx with rfl; decide), rfl⟩
  | 2, _ => exact ⟨fun x hx => (by rcases List.mem_singleton.1 hx with rfl; decide), (fine_iff _).2 (.inl ⟨rfl, rfl, by show 0 ≤ q; omega, by show q ≤ 100; omega, .inr ⟨Int.le_refl _, by show q ≤ 100; omega⟩⟩)⟩
theorem three_weight (q : Int) (h0 : 39 ≤ q) (h1 : q ≤ 41) : weightR (three q) = min (100 * q) 4001 := by
  unfold weightR
  rw [if_pos (check_T (three_valid q h0 h1))]
  have h : weightF (three q) = capW (weighF (th3 q) (sumW [1, 100] [1])) := rfl
  rw [h]
  have e : weighF (th3 q) (sumW [1, 100] [1]) = q * 100 + optW q q * (100 + 1) := rfl
  rw [e]
  have e2 : optW q q = 0 := by unfold optW; rw [if_neg (by omega)]; omega
  rw [e2]
  unfold capW
  omega
theorem three_code (q : Int) (h0 : 39 ≤ q) (h1 : q ≤ 41) : codeB (three q) = if 4000 < weightR (three q) then 1 else 0 := by
  unfold codeB
  rw [if_pos (three_valid q h0 h1)]
theorem rep_grows {f : Bf} {b : Nat} (h : Grows f b) (mn mx : Int) (hm : mx ≠ -1) : Grows (repF f mn mx) (mn.toNat * b + (mx - mn).toNat * (b + 1)) := by
  intro next ss
  have h1 := iter_len (g := minS f) (b := b) (fun x => h x.1 x.2) mn.toNat (firstF f mn mx next ss)
  have h2 : (firstF f mn mx next ss).2.length ≤ ss.length + (mx - mn).toNat * (b + 1) := by
    unfold firstF
    rw [if_neg hm]
    exact iter_len (opt_len h next) (mx - mn).toNat (next, ss)
  show (iterF (minS f) mn.toNat (firstF f mn mx next ss)).2.length ≤ _
  omega
/-- A repetition that is not blank, of a kid that is known. -/
theorem rep_node {w0 : World} {B G P c j b0 : Nat} {A : Option Addr} {ns : List Nd} (h : Env w0 B G P A c ns) (hj : j < ns.length) (hl : ns.length ≤ 4000) (h6 : ns[j].kind = 6) (hk1 : ns[j].kids.length = 1) (hmn : 1 ≤ ns[j].mn) (hmx : ns[j].mn ≤ ns[j].mx) (hmb : ns[j].mx ≤ 100) (hb0 : 1 ≤ b0)
    (hC : NodeC w0 B G P A c ns.length (ns[j].kids.headD 0) (getT (tabF (ns.take j)) (ns[j].kids.headD 0)) b0) (hG : Grows (getT (tabF (ns.take j)) (ns[j].kids.headD 0)) b0) :
    NodeC w0 B G P A c ns.length (j : Int) (stepN (tabF (ns.take j)) (blanksF (ns.take j)) ns[j]) (ns[j].mn.toNat * b0 + (ns[j].mx - ns[j].mn).toNat * (b0 + 1)) := by
  have hm : ns[j].mx ≠ -1 := by omega
  have hR := rep_any h ns[j] (getT (tabF (ns.take j)) (ns[j].kids.headD 0)) hk1 (by omega) (.inr hmx) ⟨by omega, hmb⟩ hC hG (fun e => absurd e hm)
  rw [if_neg hm] at hR
  have h1 : 1 ≤ ns[j].mn.toNat * b0 := Nat.mul_pos (by omega) hb0
  exact node_any h hj (fun _ => by omega) hl (fun e => by omega) (fun e => by omega) (fun _ _ => hR)
theorem set_grows (s : Int → St) : Grows (fun next ss => addF (s next) ss) 1 := fun next ss => by
  show (ss ++ [_]).length ≤ _
  rw [List.length_append, List.length_singleton]
  omega
theorem three_root (q : Int) (h0 : 39 ≤ q) (h1 : q ≤ 41) (w0 : World) (B G P : Nat) (A : Option Addr) (c : Nat) (h : Env w0 B G P A c (three q)) :
    NodeC w0 B G P A c (three q).length (2 : Int) (getT (tabF (three q)) (2 : Int)) (q.toNat * 100) := by
  have n0 : NodeC w0 B G P A c (three q).length (0 : Int) (stepN [] [] th1) 1 :=
    node_any (j := 0) (wt := 1) h (Nat.le_of_ble_eq_true rfl) (fun _ => Nat.le_refl _) (Nat.le_of_ble_eq_true rfl) (fun h _ => by simp at h) (fun h _ => by simp at h) (fun h _ => by simp at h)
  have g0 : Grows (stepN [] [] th1) 1 := fun next ss => by
    show (ss ++ [_]).length ≤ _
    rw [List.length_append, List.length_singleton]
    omega
  have n1 : NodeC w0 B G P A c (three q).length (1 : Int) (stepN [stepN [] [] th1] [false] th2) 100 :=
    rep_node (j := 1) (b0 := 1) h (Nat.le_of_ble_eq_true rfl) (Nat.le_of_ble_eq_true rfl) rfl rfl (show (1 : Int) ≤ 100 from by decide) (show (100 : Int) ≤ 100 from by decide) (show (100 : Int) ≤ 100 from by decide) (by decide) n0 g0
  have g1 : Grows (stepN [stepN [] [] th1] [false] th2) 100 := rep_grows g0 100 100 (by decide)
  have n2 := rep_node (j := 2) (b0 := 100) h (Nat.le_of_ble_eq_true rfl) (Nat.le_of_ble_eq_true rfl) rfl rfl (show 1 ≤ q by omega) (Int.le_refl q) (show q ≤ 100 by omega) (by decide) n1 g1
  have e : q.toNat * 100 + (q - q).toNat * (100 + 1) = q.toNat * 100 := by
    rw [Int.sub_self]
    simp
  have e2 : ((three q)[2]'(Nat.le_of_ble_eq_true rfl)).mn.toNat * 100 + (((three q)[2]'(Nat.le_of_ble_eq_true rfl)).mx - ((three q)[2]'(Nat.le_of_ble_eq_true rfl)).mn).toNat * (100 + 1) = q.toNat * 100 := e
  rw [e2] at n2
  exact n2
theorem build_three (v : Value) (q : Int) (h0 : 39 ≤ q) (h1 : q ≤ 41) (w : World) (h : RdN w v (three q)) : Calls Try.prog 10 #[v] w (BuildPost (three q) w) :=
  Build_any v (three q) w (q.toNat * 100) h (Nat.le_of_ble_eq_true rfl) (fun n hn => by
    rcases List.mem_cons.1 hn with rfl | hn
    · exact Nat.le_of_ble_eq_true rfl
    rcases List.mem_cons.1 hn with rfl | hn
    · exact Nat.le_of_ble_eq_true rfl
    rcases List.mem_cons.1 hn with rfl | hn
    · exact Nat.le_of_ble_eq_true rfl
    · cases hn) (by omega) (fun _ w0 B G P A c hE => three_root q h0 h1 w0 B G P A c hE)
abbrev objK (z : Int) : Obj := .cells #[.int .i64 z] tInt
abbrev objM (H : Nat) (q r : Int) : Obj := .cells #[.int .i64 1, .int .u64 0, .int .u64 0, .int .u64 0, .int .u64 0, .int .i64 0, .int .i64 0, .slice none 0 0, .int .i64 6, .int .u64 0, .int .u64 0, .int .u64 0, .int .u64 0, .int .i64 100, .int .i64 100, .slice (some ⟨H, 0, none⟩) 1 1, .int .i64 6, .int .u64 0, .int .u64 0, .int .u64 0, .int .u64 0, .int .i64 q, .int .i64 r, .slice (some ⟨H + 1, 0, none⟩) 1 1] tNode
theorem three_mem (w : World) (q : Int) :
    (((w.alloc (objK 0)).alloc (objK 1)).alloc (objM w.heap.size q 0)).heap[w.heap.size]? = some (objK 0) ∧ (((w.alloc (objK 0)).alloc (objK 1)).alloc (objM w.heap.size q 0)).heap[w.heap.size + 1]? = some (objK 1) ∧ (((w.alloc (objK 0)).alloc (objK 1)).alloc (objM w.heap.size q 0)).heap[w.heap.size + 1 + 1]? = some (objM w.heap.size q 0) := by
  have s1 : (w.alloc (objK 0)).heap.size = w.heap.size + 1 := by simp
  have s2 : ((w.alloc (objK 0)).alloc (objK 1)).heap.size = w.heap.size + 1 + 1 := by simp
  have a1 := heap_new w (objK 0)
  have a2 := heap_new (w.alloc (objK 0)) (objK 1)
  have a3 := heap_new ((w.alloc (objK 0)).alloc (objK 1)) (objM w.heap.size q 0)
  rw [s1] at a2
  rw [s2] at a3
  refine ⟨?_, ?_, a3⟩
  · rw [Below.heap_alloc _ _ _ (by omega), Below.heap_alloc _ _ _ (by omega)]; exact a1
  · rw [Below.heap_alloc _ _ _ (by omega)]; exact a2
theorem three_rd {W : World} {H : Nat} {q : Int} (h0 : W.heap[H]? = some (objK 0)) (h1 : W.heap[H + 1]? = some (objK 1)) (h2 : W.heap[H + 1 + 1]? = some (objM H q 0)) :
    RdN (W.setCell ⟨H + 1 + 1, 22, none⟩ (.int .i64 q)) (.slice (some ⟨H + 1 + 1, 0, none⟩) 3 3) (three q) := by
  have g2 : (W.setCell ⟨H + 1 + 1, 22, none⟩ (.int .i64 q)).heap[H + 1 + 1]? = some (objM H q q) := set_block (o := 22) (u := .int .i64 q) h2
  have g0 : (W.setCell ⟨H + 1 + 1, 22, none⟩ (.int .i64 q)).heap[H]? = some (objK 0) := (Below.heap_setCell _ _ _ _ (by show H ≠ H + 1 + 1; omega)).trans h0
  have g1 : (W.setCell ⟨H + 1 + 1, 22, none⟩ (.int .i64 q)).heap[H + 1]? = some (objK 1) := (Below.heap_setCell _ _ _ _ (by show H + 1 ≠ H + 1 + 1; omega)).trans h1
  generalize W.setCell ⟨H + 1 + 1, 22, none⟩ (.int .i64 q) = V at g0 g1 g2
  have hc : ∀ (i : Nat) (u : Value), (match objM H q q with | .cells cs _ _ => cs[i]? | _ => none) = some u → V.cell? ⟨H + 1 + 1, i, none⟩ = some u := fun i u hu => by
    simp only [World.cell?, g2]
    exact hu
  have hk : ∀ (b : Nat) (z : Int), V.heap[b]? = some (objK z) → RdV V (.slice (some ⟨b, 0, none⟩) 1 1) (intsV [z]) := fun b z hb =>
    ⟨_, 1, rfl, ⟨Nat.le_refl _, fun e => by cases e⟩, fun _ => ⟨b, 0, rfl, fun k hk => by
      have e : k = 0 := by rw [intsV_len] at hk; simpa using hk
      subst e
      simp only [World.cell?, hb]
      rfl⟩⟩
  have hcw : ∀ (i j : Nat), (match objM H q q with | .cells cs _ _ => cs[i]? | _ => none) = some (.int .u64 0) → V.cell? ⟨H + 1 + 1, i, none⟩ = some (.int .u64 ((word noSet j : Nat) : Int)) := fun i j hu => by
    have hw : ((word noSet j : Nat) : Int) = 0 := by
      show ((word (fun _ => false) j : Nat) : Int) = 0
      rw [word_none]
      rfl
    rw [hw]
    exact hc i _ hu
  refine ⟨_, 3, rfl, fun _ => ⟨H + 1 + 1, 0, rfl, fun j hj => ?_⟩⟩
  match j, hj with
  | 0, _ => exact ⟨.slice none 0 0, hc 0 _ rfl, hcw 1 0 rfl, hcw 2 1 rfl, hcw 3 2 rfl, hcw 4 3 rfl, hc 5 _ rfl, hc 6 _ rfl, hc 7 _ rfl, RdV.nil _⟩
  | 1, _ => exact ⟨.slice (some ⟨H, 0, none⟩) 1 1, hc 8 _ rfl, hcw 9 0 rfl, hcw 10 1 rfl, hcw 11 2 rfl, hcw 12 3 rfl, hc 13 _ rfl, hc 14 _ rfl, hc 15 _ rfl, hk _ _ g0⟩
  | 2, _ => exact ⟨.slice (some ⟨H + 1, 0, none⟩) 1 1, hc 16 _ rfl, hcw 17 0 rfl, hcw 18 1 rfl, hcw 19 2 rfl, hcw 20 3 rfl, hc 21 _ rfl, hc 22 _ rfl, hc 23 _ rfl, hk _ _ g1⟩
end Au
end
end Go.Proofs.Ytgadomcbaenodaa

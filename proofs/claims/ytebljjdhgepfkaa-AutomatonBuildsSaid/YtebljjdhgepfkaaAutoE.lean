/-
  Automata: which states are reached without reading; rows of bools. No program but the types. No conditions. The reference's Close. Conditions: valid states, at least one, at most 8000; as many bools. The reference's Has: is a byte in a set? No conditions. The reference's Ends. Conditions: a valid automaton; a text of at most a million bytes.
-/
import Derived.Test.YtebljjdhgepfkaaAutoB
import Derived.Deep.Cut
import Derived.Deep.CutRange
import Derived.BigQuiet
import Derived.Deep.QuietTactic
import Derived.Deep.RegionHeld3
namespace Go.Proofs.Ytebljjdhgepfkaa
section
open Go.RowKit
namespace Au
open Cm Rx
/-- Is a state passed without reading? -/
def passS (s : St) (st en : Bool) : Bool := s.kind == 1 || (s.kind == 2 && st || s.kind == 3 && en)
inductive Reach (ss : List St) (st en : Bool) (inn : Nat → Prop) : Nat → Prop
  | base {i : Nat} (h : inn i) : Reach ss st en inn i
  | next {i : Nat} (hi : i < ss.length) (h : Reach ss st en inn i) (hp : passS ss[i] st en = true) : Reach ss st en inn ss[i].next.toNat
  | other {i : Nat} (hi : i < ss.length) (h : Reach ss st en inn i) (hp : ss[i].kind = 1) : Reach ss st en inn ss[i].other.toNat
/-- Is nothing left to be reached from the first q states? -/
def ClosedTo (ss : List St) (st en : Bool) (l : List Bool) (q : Nat) : Prop :=
  ∀ i (hi : i < ss.length), i < q → l.getD i false = true → (passS ss[i] st en = true → l.getD ss[i].next.toNat false = true) ∧ (ss[i].kind = 1 → l.getD ss[i].other.toNat false = true)
theorem ClosedTo.all {ss : List St} {st en : Bool} {l : List Bool} {inn : Nat → Prop} (h : ClosedTo ss st en l ss.length) (h0 : ∀ i, inn i → l.getD i false = true) {i : Nat} (hr : Reach ss st en inn i) : l.getD i false = true := by
  induction hr with
  | base h => exact h0 _ h
  | next hi _ hp ih => exact (h _ hi hi ih).1 hp
  | other hi _ hp ih => exact (h _ hi hi ih).2 hp
open Classical in
/-- The states that are reached, as bools. -/
noncomputable def closeF (ss : List St) (st en : Bool) (inn : Nat → Prop) (n : Nat) : List Bool := (List.range n).map fun i => decide (Reach ss st en inn i)
theorem close_len (ss : List St) (st en : Bool) (inn : Nat → Prop) (n : Nat) : (closeF ss st en inn n).length = n := by unfold closeF; rw [List.length_map, List.length_range]
theorem close_get {ss : List St} {st en : Bool} {inn : Nat → Prop} {n i : Nat} (h : i < n) : (closeF ss st en inn n).getD i false = true ↔ Reach ss st en inn i := by
  unfold closeF
  rw [List.getD_eq_getElem?_getD, List.getElem?_map, List.getElem?_range h]
  simp
theorem getB_set (l : List Bool) (j i : Nat) (hj : j < l.length) : (l.set j true).getD i false = if i = j then true else l.getD i false := by
  rw [List.getD_eq_getElem?_getD, List.getD_eq_getElem?_getD, List.getElem?_set]
  by_cases h : j = i
  · subst h; rw [if_pos rfl, if_pos rfl, if_pos hj]; rfl
  · rw [if_neg h, if_neg (fun e => h e.symm)]
theorem ext_getB {l m : List Bool} (h1 : l.length = m.length) (h2 : ∀ i, i < l.length → (l.getD i false = true ↔ m.getD i false = true)) : l = m := by
  refine List.ext_getElem h1 (fun i hi hi2 => ?_)
  have := h2 i hi
  rw [List.getD_eq_getElem?_getD, List.getD_eq_getElem?_getD, List.getElem?_eq_getElem hi, List.getElem?_eq_getElem hi2] at this
  simp only [Option.getD_some] at this
  exact Bool.eq_iff_iff.2 this
theorem close_eq {ss : List St} {st en : Bool} {l l0 : List Bool} {n : Nat} (hn : n = ss.length) (hl : l.length = n) (hc : ClosedTo ss st en l n) (h0 : ∀ i, l0.getD i false = true → l.getD i false = true) (hr : ∀ i, l.getD i false = true → Reach ss st en (fun i => l0.getD i false = true) i) :
    l = closeF ss st en (fun i => l0.getD i false = true) n := by
  refine ext_getB (by rw [close_len, hl]) (fun i hi => ?_)
  rw [close_get (by omega)]
  exact ⟨hr i, fun h => (show ClosedTo ss st en l ss.length from hn ▸ hc).all h0 h⟩
/-- How many are false. -/
def fls (l : List Bool) : Nat := l.countP fun b => !b
theorem fls_set : ∀ (l : List Bool) (j : Nat), j < l.length → l.getD j false = false → fls (l.set j true) + 1 = fls l
  | [], j, h, _ => absurd h (Nat.not_lt_zero _)
  | b :: l, 0, _, h => by
    have : b = false := h
    subst this
    unfold fls
    simp
  | b :: l, j + 1, h, h2 => by
    have ih := fls_set l j (by simpa using h) h2
    unfold fls at ih ⊢
    rw [List.set_cons_succ, List.countP_cons, List.countP_cons]
    omega
/-- A block whose first cells are such values. -/
def Blk (w : World) (g : Nat) (t : TypeId) (xs : List Value) : Prop := ∃ cur, w.heap[g]? = some (.cells cur t (0, 0)) ∧ ∀ i (h : i < xs.length), cur[i]? = some xs[i]
theorem Blk.cell {w : World} {g : Nat} {t : TypeId} {xs : List Value} (h : Blk w g t xs) {i : Nat} (hi : i < xs.length) : w.cell? ⟨g, i, none⟩ = some xs[i] := by
  obtain ⟨cur, h1, h2⟩ := h
  simp only [World.cell?, h1]
  exact h2 i hi
theorem Blk.frozen {w : World} {g : Nat} {t : TypeId} {xs : List Value} (h : Blk w g t xs) (i : Nat) : w.frozen? ⟨g, i, none⟩ = false := by
  obtain ⟨cur, h1, h2⟩ := h
  simp [World.frozen?, h1]
theorem Blk.lt {w : World} {g : Nat} {t : TypeId} {xs : List Value} (h : Blk w g t xs) : g < w.heap.size := by
  obtain ⟨cur, h1, _⟩ := h
  exact lt_some h1
theorem Blk.of_block {w w' : World} {g : Nat} {t : TypeId} {xs : List Value} (h : Blk w g t xs) (hb : w'.heap[g]? = w.heap[g]?) : Blk w' g t xs := by
  obtain ⟨cur, h1, h2⟩ := h
  exact ⟨cur, hb.trans h1, h2⟩
theorem Blk.set {w : World} {g : Nat} {t : TypeId} {xs : List Value} (h : Blk w g t xs) (j : Nat) (u : Value) : Blk (w.setCell ⟨g, j, none⟩ u) g t (xs.set j u) := by
  obtain ⟨cur, h1, h2⟩ := h
  refine ⟨_, set_block h1, fun i hi => ?_⟩
  rw [List.length_set] at hi
  have h3 := h2 i hi
  rw [Array.getElem?_setIfInBounds, List.getElem_set]
  have hi2 : i < cur.size := (Array.getElem?_eq_some_iff.1 h3).1
  by_cases e : j = i
  · subst e; rw [if_pos rfl, if_pos hi2, if_pos rfl]
  · rw [if_neg e, if_neg e]; exact h3
theorem Blk.of_own {w : World} {base n g c : Nat} {t : TypeId} {xs : List Value} (h : w.ownsRow base t 1 (.slice (some ⟨g, 0, none⟩) n c) n xs) (hx : xs.length = n) : Blk w g t xs ∧ base ≤ g := by
  rcases h.2 with ⟨e1, _⟩ | ⟨g', cap, cur, e1, hb, hh, _⟩
  · cases e1
  · injection e1 with e2 _ _
    injection e2 with e2
    injection e2 with e2
    subst e2
    refine ⟨⟨cur, hh, fun i hi => ?_⟩, hb⟩
    have h2 := h.cellAt i (by omega)
    simp only [World.cell?, hh] at h2
    rw [List.getElem?_eq_getElem hi] at h2
    exact h2
def boolsV (l : List Bool) : List Value := l.map fun b => .bool b
theorem boolsV_len (l : List Bool) : (boolsV l).length = l.length := List.length_map _
theorem boolsV_set (l : List Bool) (j : Nat) (b : Bool) : (boolsV l).set j (.bool b) = boolsV (l.set j b) := by unfold boolsV; rw [List.map_set]
/-- What holds within a pass over the states: l0 as the pass began, l now, the first q states are done, m says whether one was added. -/
structure Inv (ss : List St) (st en : Bool) (inn : Nat → Prop) (l0 : List Bool) (q : Nat) (l : List Bool) (m : Bool) : Prop where
  len : l.length = l0.length
  up : ∀ i, l0.getD i false = true → l.getD i false = true
  sound : ∀ i, l.getD i false = true → Reach ss st en inn i
  prog : m = true → fls l < fls l0
  same : m = false → l = l0 ∧ ClosedTo ss st en l q
theorem Inv.start {ss : List St} {st en : Bool} {inn : Nat → Prop} {l0 : List Bool} (h : ∀ i, l0.getD i false = true → Reach ss st en inn i) : Inv ss st en inn l0 0 l0 false :=
  ⟨rfl, fun _ h => h, h, fun h => (by cases h), fun _ => ⟨rfl, fun _ _ h => absurd h (Nat.not_lt_zero _)⟩⟩
theorem Inv.set {ss : List St} {st en : Bool} {inn : Nat → Prop} {l0 l : List Bool} {q j : Nat} {m : Bool} (h : Inv ss st en inn l0 q l m) (hj : j < l.length) (hf : l.getD j false = false) (hr : Reach ss st en inn j) : Inv ss st en inn l0 q (l.set j true) true := by
  refine ⟨by rw [List.length_set]; exact h.len, fun i hi => ?_, fun i hi => ?_, fun _ => ?_, fun h => (by cases h)⟩
  · rw [getB_set _ _ _ hj]
    split
    · rfl
    · exact h.up i hi
  · rw [getB_set _ _ _ hj] at hi
    by_cases e : i = j
    · rw [e]; exact hr
    · rw [if_neg e] at hi; exact h.sound i hi
  · have h1 := fls_set l j hj hf
    cases m with
    | true => have := h.prog rfl; omega
    | false => have := (h.same rfl).1; rw [this] at h1 ⊢; omega
theorem Inv.step {ss : List St} {st en : Bool} {inn : Nat → Prop} {l0 l : List Bool} {q : Nat} {m : Bool} (h : Inv ss st en inn l0 q l m)
    (hc : m = false → ∀ hq : q < ss.length, l.getD q false = true → (passS ss[q] st en = true → l.getD ss[q].next.toNat false = true) ∧ (ss[q].kind = 1 → l.getD ss[q].other.toNat false = true)) : Inv ss st en inn l0 (q + 1) l m :=
  ⟨h.len, h.up, h.sound, h.prog, fun hm => ⟨(h.same hm).1, fun i hi hq hl => by
    by_cases e : i = q
    · subst e; exact hc hm hi hl
    · exact (h.same hm).2 i hi (by omega) hl⟩⟩
/-- The bools that a block holds. -/
def bitsOf (w : World) (g n : Nat) : List Bool := (List.range n).map fun i => match w.cell? ⟨g, i, none⟩ with | some (.bool b) => b | _ => false
theorem bitsOf_blk {w : World} {g n : Nat} {t : TypeId} {l : List Bool} (h : Blk w g t (boolsV l)) (hn : l.length = n) : bitsOf w g n = l := by
  subst hn
  unfold bitsOf
  refine List.ext_getElem (by rw [List.length_map, List.length_range]) (fun i h1 h2 => ?_)
  have h3 := h.cell (i := i) (by rw [boolsV_len]; exact h2)
  rw [List.getElem_map, List.getElem_range, h3]
  simp [boolsV]
theorem Blk.bit {w : World} {g : Nat} {t : TypeId} {l : List Bool} (h : Blk w g t (boolsV l)) {i : Nat} (hi : i < l.length) : w.cell? ⟨g, i, none⟩ = some (.bool (l.getD i false)) := by
  have h3 := h.cell (i := i) (by rw [boolsV_len]; exact hi)
  rw [h3]
  simp [boolsV, hi]
theorem Blk.setBit {w : World} {g : Nat} {t : TypeId} {l : List Bool} (h : Blk w g t (boolsV l)) (j : Nat) (b : Bool) : Blk (w.setCell ⟨g, j, none⟩ (.bool b)) g t (boolsV (l.set j b)) := by
  have h2 := h.set j (.bool b)
  rwa [boolsV_set] at h2
end Au
end
section
open Go.RowKit
namespace Au
open Cm Rx
abbrev tBool : TypeId := 4
theorem info_boolC : (Try.prog.info? tBool).map (fun i => (i.zero, i.size, i.bytes)) = some (some (.bool false), 1, 1) := by kernel_rfl
/-- The copy of a state that a round looks at. -/
def Cop (w : World) (H : Nat) (x : St) : Prop := w.cell? ⟨H, 0, none⟩ = some (.int .i64 x.kind) ∧ w.cell? ⟨H, 5, none⟩ = some (.int .i64 x.next) ∧ w.cell? ⟨H, 6, none⟩ = some (.int .i64 x.other)
theorem Cop.other {w : World} {H g j : Nat} {x : St} (h : Cop w H x) (hn : H ≠ g) (u : Value) : Cop (w.setCell ⟨g, j, none⟩ u) H x :=
  ⟨(World.cell?_of_block (Below.heap_setCell _ _ _ _ hn)).trans h.1, (World.cell?_of_block (Below.heap_setCell _ _ _ _ hn)).trans h.2.1, (World.cell?_of_block (Below.heap_setCell _ _ _ _ hn)).trans h.2.2⟩
theorem any_newC (w : World) (C : Array Value) (t : TypeId) : ∀ (i : Nat) (u : Value), C[i]? = some u → (w.alloc (.cells C t)).cell? ⟨w.heap.size, i, none⟩ = some u := fun i u h => by rw [World.cell?_alloc_mark]; exact h
theorem ok_kind {n : Nat} {s : St} (h : okS n s = true) : s.kind = 0 ∨ s.kind = 1 ∨ s.kind = 2 ∨ s.kind = 3 ∨ s.kind = 4 := by
  unfold okS at h
  split at h
  · omega
  · split at h
    · omega
    · have := of_decide_eq_true h; omega
/-- What a state's kind asks of the states after it. -/
theorem ok_next {n : Nat} {s : St} (h : okS n s = true) (h2 : s.kind = 0 ∨ s.kind = 2 ∨ s.kind = 3 ∨ s.kind = 1) : 0 ≤ s.next ∧ s.next < (n : Int) := by
  unfold okS at h
  have hb : hasB n s.next = true := by
    split at h
    · exact h
    · rw [if_pos (by omega)] at h; exact (Bool.and_eq_true_iff.1 h).1
  exact of_decide_eq_true hb
theorem ok_other {n : Nat} {s : St} (h : okS n s = true) (h2 : s.kind = 1) : 0 ≤ s.other ∧ s.other < (n : Int) := by
  unfold okS at h
  rw [if_neg (by omega), if_pos h2] at h
  exact of_decide_eq_true (Bool.and_eq_true_iff.1 h).2
/-- A slice of bools of the call's own is returned. -/
def BoolsOut (w : World) (n : Nat) (R : List Bool) (ex : Ending) (w' : World) : Prop := ∃ g c2, ex = .returned (.slice (some ⟨g, 0, none⟩) n c2) ∧ Blk w' g tBool (boolsV R) ∧ w.heap.size ≤ g ∧ Below w.heap.size w w'
def boolM : Value → Nat | .bool true => 1 | _ => 0
set_option maxRecDepth 100000 in
set_option maxHeartbeats 8000000 in
theorem CloseR_any {w : World} (ss : List St) (st : Int) (A : Option Addr) (c : Nat) (vin : Value) (l0 : List Bool) (s e : Bool) (hr : RdA w (.slice A ss.length c) ss) (hok : ∀ k (h : k < ss.length), okS ss.length ss[k] = true) (hn : ss.length ≤ 8000) (hin : RdV w vin (boolsV l0)) (hl : l0.length = ss.length) (hp : 0 < ss.length) :
    Calls Try.prog 46 #[.agg #[.slice A ss.length c, .int .i64 st], vin, .bool s, .bool e] w (BoolsOut w ss.length (closeF ss s e (fun i => l0.getD i false = true) ss.length)) := by
  obtain ⟨A', c', e1, hA⟩ := hr
  cases e1
  have HA := Lib.hid hA
  have HOk := Lib.hid hok
  have HIn := Lib.hid hin
  have HL := Lib.hid hl
  have HStart : Hid (∀ i, l0.getD i false = true → Reach ss s e (fun i => l0.getD i false = true) i) := Lib.hid (fun i h => .base h)
  have hCl := fun l h1 h2 h3 h4 => close_eq (ss := ss) (st := s) (en := e) (l := l) (l0 := l0) (n := ss.length) rfl h1 h2 h3 h4
  generalize closeF ss s e (fun i => l0.getD i false = true) ss.length = R at hCl ⊢
  generalize (fun i => l0.getD i false = true) = inn at hCl HStart
  clear hA hok hin hl
  obtain ⟨n, hnn⟩ : ∃ n, n = ss.length := ⟨_, rfl⟩
  have HN := Lib.hid hnn.symm
  rw [← hnn] at hn hp hCl ⊢
  have HCl := Lib.hid hCl
  clear hCl
  clear hnn
  obtain ⟨bi, oi, ci, rfl⟩ : ∃ bi oi ci, vin = .slice (some ⟨bi, oi, none⟩) n ci := by
    obtain ⟨Ai, ci, e, _, h⟩ := HIn.out
    rw [boolsV_len, HL.out, HN.out] at e
    obtain ⟨bi, oi, e2, _⟩ := h (by rw [boolsV_len, HL.out, HN.out]; exact hp)
    exact ⟨bi, oi, ci, by rw [e, e2]⟩
  go_enter Try.func46, Try.ntmps46
  go_upto_region 1 with fail
  have HB0 : Hid (Below w.heap.size w (w.alloc (.cells #[.slice A n c, .int .i64 st] 37))) := Lib.hid ((Below.refl _ _).alloc (Nat.le_refl _) _)
  have HC0 : Hid ((w.alloc (.cells #[.slice A n c, .int .i64 st] 37)).cell? ⟨w.heap.size, 0, none⟩ = some (.slice A n c)) := Lib.hid (any_newC w _ _ 0 _ rfl)
  have HSz1 : Hid ((w.alloc (.cells #[.slice A n c, .int .i64 st] 37)).heap.size = w.heap.size + 1) := Lib.hid (by simp)
  generalize w.alloc (.cells #[.slice A n c, .int .i64 st] 37) = w1 at HB0 HC0 HSz1 ⊢
  have HBE := Lib.hid ((Below.refl w1.heap.size w1).alloc (Nat.le_refl _) (.cells #[] tBool))
  have HE0 := Lib.hid (own_empty w1 tBool)
  have HInE := Lib.hid ((HIn.out.below HB0.out).below HBE.out)
  have hlb : (boolsV l0).length = n := by rw [boolsV_len, HL.out, HN.out]
  have HOne : Hid (∀ x ∈ boolsV l0, x.oneCell' = true) := Lib.hid (fun x hx => by
    obtain ⟨b, _, rfl⟩ := List.mem_map.1 hx
    rfl)
  have HLb := Lib.hid hlb
  clear hlb
  go_cut [9] from 13 (fun v wx => ∃ g c2, v = .slice (some ⟨g, 0, none⟩) n c2 ∧ Hid (Blk wx g tBool (boolsV l0)) ∧ w1.heap.size ≤ g ∧ Hid (Below w1.heap.size w1 wx))
  case first =>
    go_wp2_with (at_builtin; refine app_rd rfl Try.underlying52 info_boolC rfl (by omega) (.tmp 13) (.tmp 14) rfl w1.heap.size 0 [] (boolsV l0) _ _ rfl HE0.out rfl HInE.out HOne.out (by rw [HLb.out]; omega) (by simp) ?_; intro v3 w3 ho3 hb3 _; rw [HLb.out] at ho3; simp only [Nat.zero_add, List.nil_append] at ho3; obtain ⟨g3, c3, _, e3, _⟩ := own_some ho3 hp; subst e3; have HO3 := Lib.hid ho3; have HB3 := Lib.hid (HBE.out.trans hb3); clear ho3 hb3)
    go_meet
    case rel =>
      obtain ⟨hb, hg⟩ := Blk.of_own HO3.out HLb.out
      exact ⟨_, _, rfl, Lib.hid hb, hg, HB3⟩
  case rest =>
    obtain ⟨g, c2, rfl, HBk, hg, HBx⟩ := hcut
    have hsz1 := HSz1.out
    have hgw : w.heap.size ≤ g := by omega
    have hgn : g ≠ w.heap.size := by omega
    clear hsz1
    clear HInE HE0 HBE HOne
    go_wp2_with fail
    go_loopw [10] (fun m wr => ∃ (l : List Bool) (mb : Bool), m = .bool mb ∧ Hid (l.length = n) ∧ Hid (Blk wr g tBool (boolsV l)) ∧ Hid (Below w1.heap.size w1 wr) ∧ Hid (∀ i, l0.getD i false = true → l.getD i false = true) ∧ Hid (∀ i, l.getD i false = true → Reach ss s e inn i) ∧ Hid (mb = false → ClosedTo ss s e l n)) (fun m wr => 2 * fls (bitsOf wr g n) + boolM m)
    case atStart => exact ⟨l0, true, rfl, Lib.hid (by rw [HL.out, HN.out]), HBk, HBx, Lib.hid (fun _ h => h), HStart, Lib.hid (fun h => by cases h)⟩
    case round =>
      obtain ⟨l, mb, rfl, HLl, HBl, HBw, HUp, HSo, HCo⟩ := hrel
      cases mb with
      | false =>
        have HFin := Lib.hid (HCl.out l HLl.out (HCo.out rfl) HUp.out HSo.out)
        go_wp2_with fail
        go_ret
        exact ⟨g, c2, rfl, by rw [HFin.out] at HBl; exact HBl.out, hgw, HB0.out.trans (HBw.out.mono (by rw [HSz1.out]; omega))⟩
      | true =>
        obtain ⟨wo, rfl⟩ : ∃ wo, wo = wr := ⟨wr, rfl⟩
        go_wp2_with fail
        go_loopw [10, 11] (fun m i wr => ∃ (q : Nat) (l1 : List Bool) (mb : Bool), q ≤ n ∧ i = .int .i64 (q : Int) ∧ m = .bool mb ∧ Hid (Inv ss s e inn l q l1 mb) ∧ Hid (Blk wr g tBool (boolsV l1)) ∧ Hid (Below w1.heap.size w1 wr)) (fun _ i _ => n - (intOf i).toNat)
        case atStart => exact ⟨0, l, false, Nat.zero_le _, by go_num, rfl, Lib.hid (Inv.start HSo.out), HBl, HBw⟩
        case round =>
          obtain ⟨q, l1, mb, hq, rfl, rfl, HI, HB1, HBw1⟩ := hrel
          by_cases hlt : q < n
          · have hx : q < ss.length := by rw [HN.out]; exact hlt
            have hl1 : l1.length = n := by rw [HI.out.len, HLl.out]
            have HL1 := Lib.hid hl1
            clear hl1
            obtain ⟨b, off, rfl, hA1⟩ := HA.out (by rw [HN.out]; omega)
            have hat := ((hA1 q hx).below HB0.out).below HBw1.out
            have q0 := (HBw1.out.cell (p := ⟨w.heap.size, 0, none⟩) (Tx.cell_lt HC0.out)).trans HC0.out
            have i1 : (0 : Int) ≤ (q : Int) := by omega
            have i2 : (q : Int) < (n : Int) := by omega
            have hok := HOk.out q hx
            rw [HN.out] at hok
            have HRn : Hid (∀ l' m, Inv ss s e inn l q l' m → l'.getD q false = true → passS ss[q] s e = true → Reach ss s e inn ss[q].next.toNat) := Lib.hid (fun l' m h h1 h2 => .next hx (h.sound q h1) h2)
            have HRo : Hid (∀ l' m, Inv ss s e inn l q l' m → l'.getD q false = true → ss[q].kind = 1 → Reach ss s e inn ss[q].other.toNat) := Lib.hid (fun l' m h h1 h2 => .other hx (h.sound q h1) h2)
            have HStp : Hid (∀ m l', Inv ss s e inn l q l' m → (m = false → l'.getD q false = true → (passS ss[q] s e = true → l'.getD ss[q].next.toNat false = true) ∧ (ss[q].kind = 1 → l'.getD ss[q].other.toNat false = true)) → Inv ss s e inn l (q + 1) l' m) := Lib.hid (fun m l' h h2 => h.step (fun hm _ => h2 hm))
            clear hA1
            generalize ss[q] = x at hat hok HRn HRo HStp
            have HOkx := Lib.hid hok
            clear hok
            obtain ⟨p0, p1, p2, p3, p4, p5, p6⟩ := hat
            generalize word x.set 0 = x0 at p1
            generalize word x.set 1 = x1 at p2
            generalize word x.set 2 = x2 at p3
            generalize word x.set 3 = x3 at p4
            go_upto_region 9 with fail
            have HBa : Hid (Below wr.heap.size wr (wr.alloc (.cells #[.int .i64 x.kind, .int .u64 x0, .int .u64 x1, .int .u64 x2, .int .u64 x3, .int .i64 x.next, .int .i64 x.other] tSt))) := Lib.hid ((Below.refl _ _).alloc (Nat.le_refl _) _)
            have HCp : Hid (Cop (wr.alloc (.cells #[.int .i64 x.kind, .int .u64 x0, .int .u64 x1, .int .u64 x2, .int .u64 x3, .int .i64 x.next, .int .i64 x.other] tSt)) wr.heap.size x) := Lib.hid ⟨any_newC wr _ _ 0 _ rfl, any_newC wr _ _ 5 _ rfl, any_newC wr _ _ 6 _ rfl⟩
            generalize wr.alloc (.cells #[.int .i64 x.kind, .int .u64 x0, .int .u64 x1, .int .u64 x2, .int .u64 x3, .int .i64 x.next, .int .i64 x.other] tSt) = wa at HBa HCp ⊢
            have HBk2 := Lib.hid (HB1.out.of_block (HBa.out.block g HB1.out.lt))
            have HBw2 := Lib.hid (HBw1.out.trans (HBa.out.mono HBw1.out.size))
            have HNg : Hid (wr.heap.size ≠ g) := Lib.hid (by have := HB1.out.lt; omega)
            generalize wr.heap.size = H at HCp HNg ⊢
            clear p0 p1 p2 p3 p4 p5 p6 q0 HBa HB1
            obtain ⟨m0, m5, m6⟩ := HCp.out
            have c0 := HBk2.out.bit (i := q) (by rw [HL1.out]; exact hlt)
            have HNx : Hid (passS x s e = true → 0 ≤ x.next ∧ x.next < (n : Int)) := Lib.hid (fun h => ok_next HOkx.out (by unfold passS at h; simp only [Bool.or_eq_true, Bool.and_eq_true, beq_iff_eq] at h; omega))
            have HNo : Hid (x.kind = 1 → 0 ≤ x.other ∧ x.other < (n : Int)) := Lib.hid (fun h => ok_other HOkx.out h)
            go_cut [60] from 17 to 85 (fun v wx => ∃ cb : Bool, v = .bool cb ∧ wx = wa ∧ Hid (cb = (l1.getD q false && (passS x s e && !l1.getD x.next.toNat false))))
            case first =>
              clear HStart
              cases hb0 : l1.getD q false with
              | false =>
                rw [hb0] at c0
                go_wp2_with fail
                go_meet
                case rel => exact ⟨_, rfl, rfl, Lib.hid (by rw [hb0]; rfl)⟩
              | true =>
                rw [hb0] at c0
                rcases ok_kind HOkx.out with hk | hk | hk | hk | hk
                · as_aux_lemma =>
                  have e1 : (x.kind == 1) = false := by rw [hk]; rfl
                  have e2 : (x.kind == 2) = false := by rw [hk]; rfl
                  have e3 : (x.kind == 3) = false := by rw [hk]; rfl
                  clear hk
                  have hps : passS x s e = false := by unfold passS; rw [e1, e2, e3]; cases s <;> cases e <;> rfl
                  go_wp2_with fail
                  go_meet
                  case rel => exact ⟨_, rfl, rfl, Lib.hid (by rw [hb0, hps]; rfl)⟩
                · as_aux_lemma =>
                  have e1 : (x.kind == 1) = true := by rw [hk]; rfl
                  have e2 : (x.kind == 2) = false := by rw [hk]; rfl
                  have e3 : (x.kind == 3) = false := by rw [hk]; rfl
                  clear hk
                  have hps : passS x s e = true := by unfold passS; rw [e1, e2, e3]; rfl
                  obtain ⟨z, hz⟩ : ∃ z : Nat, x.next = (z : Int) := ⟨x.next.toNat, by have := HNx.out hps; omega⟩
                  have hzn := HNx.out hps
                  rw [hz] at m5 hzn
                  have hzt : x.next.toNat = z := by rw [hz]; omega
                  have c1 := HBk2.out.bit (i := z) (by rw [HL1.out]; omega)
                  have z0 : (0 : Int) ≤ (z : Int) := by omega
                  have z1 : (z : Int) < (n : Int) := by omega
                  clear hzn
                  cases hb1 : l1.getD z false with
                  | false =>
                    rw [hb1] at c1
                    go_wp2_with fail
                    go_meet
                    case rel => exact ⟨_, rfl, rfl, Lib.hid (by rw [hb0, hps, hzt, hb1]; rfl)⟩
                  | true =>
                    rw [hb1] at c1
                    go_wp2_with fail
                    go_meet
                    case rel => exact ⟨_, rfl, rfl, Lib.hid (by rw [hb0, hps, hzt, hb1]; rfl)⟩
                · as_aux_lemma =>
                  have e1 : (x.kind == 1) = false := by rw [hk]; rfl
                  have e2 : (x.kind == 2) = true := by rw [hk]; rfl
                  have e3 : (x.kind == 3) = false := by rw [hk]; rfl
                  clear hk
                  cases s with
                  | true =>
                    have hps : passS x true e = true := by unfold passS; rw [e1, e2, e3]; rfl
                    obtain ⟨z, hz⟩ : ∃ z : Nat, x.next = (z : Int) := ⟨x.next.toNat, by have := HNx.out hps; omega⟩
                    have hzn := HNx.out hps
                    rw [hz] at m5 hzn
                    have hzt : x.next.toNat = z := by rw [hz]; omega
                    have c1 := HBk2.out.bit (i := z) (by rw [HL1.out]; omega)
                    have z0 : (0 : Int) ≤ (z : Int) := by omega
                    have z1 : (z : Int) < (n : Int) := by omega
                    clear hzn
                    cases hb1 : l1.getD z false with
                    | false =>
                      rw [hb1] at c1
                      go_wp2_with fail
                      go_meet
                      case rel => exact ⟨_, rfl, rfl, Lib.hid (by rw [hb0, hps, hzt, hb1]; rfl)⟩
                    | true =>
                      rw [hb1] at c1
                      go_wp2_with fail
                      go_meet
                      case rel => exact ⟨_, rfl, rfl, Lib.hid (by rw [hb0, hps, hzt, hb1]; rfl)⟩
                  | false =>
                    have hps : passS x false e = false := by unfold passS; rw [e1, e2, e3]; rfl
                    go_wp2_with fail
                    go_meet
                    case rel => exact ⟨_, rfl, rfl, Lib.hid (by rw [hb0, hps]; rfl)⟩
                · as_aux_lemma =>
                  have e1 : (x.kind == 1) = false := by rw [hk]; rfl
                  have e2 : (x.kind == 2) = false := by rw [hk]; rfl
                  have e3 : (x.kind == 3) = true := by rw [hk]; rfl
                  clear hk
                  cases e with
                  | true =>
                    have hps : passS x s true = true := by unfold passS; rw [e1, e2, e3]; cases s <;> rfl
                    obtain ⟨z, hz⟩ : ∃ z : Nat, x.next = (z : Int) := ⟨x.next.toNat, by have := HNx.out hps; omega⟩
                    have hzn := HNx.out hps
                    rw [hz] at m5 hzn
                    have hzt : x.next.toNat = z := by rw [hz]; omega
                    have c1 := HBk2.out.bit (i := z) (by rw [HL1.out]; omega)
                    have z0 : (0 : Int) ≤ (z : Int) := by omega
                    have z1 : (z : Int) < (n : Int) := by omega
                    clear hzn
                    cases hb1 : l1.getD z false with
                    | false =>
                      rw [hb1] at c1
                      go_wp2_with fail
                      go_meet
                      case rel => exact ⟨_, rfl, rfl, Lib.hid (by rw [hb0, hps, hzt, hb1]; rfl)⟩
                    | true =>
                      rw [hb1] at c1
                      go_wp2_with fail
                      go_meet
                      case rel => exact ⟨_, rfl, rfl, Lib.hid (by rw [hb0, hps, hzt, hb1]; rfl)⟩
                  | false =>
                    have hps : passS x s false = false := by unfold passS; rw [e1, e2, e3]; cases s <;> rfl
                    go_wp2_with fail
                    go_meet
                    case rel => exact ⟨_, rfl, rfl, Lib.hid (by rw [hb0, hps]; rfl)⟩
                · as_aux_lemma =>
                  have e1 : (x.kind == 1) = false := by rw [hk]; rfl
                  have e2 : (x.kind == 2) = false := by rw [hk]; rfl
                  have e3 : (x.kind == 3) = false := by rw [hk]; rfl
                  clear hk
                  have hps : passS x s e = false := by unfold passS; rw [e1, e2, e3]; cases s <;> cases e <;> rfl
                  go_wp2_with fail
                  go_meet
                  case rel => exact ⟨_, rfl, rfl, Lib.hid (by rw [hb0, hps]; rfl)⟩
            case rest =>
              obtain ⟨cb, rfl, rfl, HCb⟩ := hcut
              clear c0
              go_upto_if 60 with fail
              go_cut [10] from 17 to 85 (fun m wx => ∃ (l2 : List Bool) (mb2 : Bool), m = .bool mb2 ∧ Hid (Inv ss s e inn l q l2 mb2) ∧ Hid (Blk wx g tBool (boolsV l2)) ∧ Hid (Below w1.heap.size w1 wx) ∧ Hid (Cop wx H x) ∧ Hid (mb2 = false → l2.getD q false = true → passS x s e = true → l2.getD x.next.toNat false = true))
              case first =>
                cases cb with
                | false =>
                  go_wp2_with fail
                  go_meet
                  case rel => exact ⟨l1, mb, rfl, HI, HBk2, HBw2, HCp, Lib.hid (fun _ h1 h2 => by
                    have h3 := HCb.out
                    rw [h1, h2] at h3
                    cases hh : l1.getD x.next.toNat false with
                    | true => rfl
                    | false => rw [hh] at h3; cases h3)⟩
                | true =>
                  have hcb := HCb.out.symm
                  simp only [Bool.and_eq_true, Bool.not_eq_true'] at hcb
                  obtain ⟨h1, h2, h3⟩ := hcb
                  have HRx := Lib.hid (HRn.out l1 mb HI.out h1 h2)
                  obtain ⟨z, hz⟩ : ∃ z : Nat, x.next = (z : Int) := ⟨x.next.toNat, by have := HNx.out h2; omega⟩
                  have hzn := HNx.out h2
                  rw [hz] at m5 hzn
                  have hzt : x.next.toNat = z := by rw [hz]; omega
                  rw [hzt] at h3 HRx
                  have c1 := HBk2.out.bit (i := z) (by rw [HL1.out]; omega)
                  have f1 := HBk2.out.frozen z
                  have z0 : (0 : Int) ≤ (z : Int) := by omega
                  have z1 : (z : Int) < (n : Int) := by omega
                  have HI2 := Lib.hid (HI.out.set (by rw [HL1.out]; omega) h3 HRx.out)
                  have HBk3 := Lib.hid (HBk2.out.setBit z true)
                  have HBw3 := Lib.hid (HBw2.out.setCell (p := ⟨g, z, none⟩) hg (.bool true))
                  have HCp3 := Lib.hid (HCp.out.other (g := g) (j := z) HNg.out (.bool true))
                  clear hzn h1 h2 h3 hzt
                  go_wp2_with fail
                  go_meet
                  case rel => exact ⟨_, true, rfl, HI2, HBk3, HBw3, HCp3, Lib.hid (fun h => by cases h)⟩
              case rest =>
                obtain ⟨l2, mb2, rfl, HI2, HBk3, HBw3, HCp3, HNxt⟩ := hcut
                clear HI HBk2 HBw2 HCp HCb m0 m5 m6 HRn
                have HL2 : Hid (l2.length = n) := Lib.hid (by rw [HI2.out.len, HLl.out])
                clear HL1
                obtain ⟨m0, m5, m6⟩ := HCp3.out
                have c0 := HBk3.out.bit (i := q) (by rw [HL2.out]; exact hlt)
                go_upto_region 12 with fail
                go_cut [81] from 17 to 85 (fun v wx => ∃ cb : Bool, v = .bool cb ∧ (Hid (Blk wx g tBool (boolsV l2)) ∧ Hid (Below w1.heap.size w1 wx) ∧ Hid (Cop wx H x)) ∧ Hid (cb = (l2.getD q false && ((x.kind == 1) && !l2.getD x.other.toNat false))))
                case first =>
                  cases hb0 : l2.getD q false with
                  | false =>
                    rw [hb0] at c0
                    go_wp2_with fail
                    go_meet
                    case rel => exact ⟨_, rfl, ⟨HBk3, HBw3, HCp3⟩, Lib.hid (by rw [hb0]; rfl)⟩
                  | true =>
                    rw [hb0] at c0
                    cases hk : (x.kind == 1) with
                    | false =>
                      go_wp2_with fail
                      go_meet
                      case rel => exact ⟨_, rfl, ⟨HBk3, HBw3, HCp3⟩, Lib.hid (by rw [hb0, hk]; rfl)⟩
                    | true =>
                      have hk1 : x.kind = 1 := by simpa using hk
                      obtain ⟨z, hz⟩ : ∃ z : Nat, x.other = (z : Int) := ⟨x.other.toNat, by have := HNo.out hk1; omega⟩
                      have hzn := HNo.out hk1
                      rw [hz] at m6 hzn
                      have hzt : x.other.toNat = z := by rw [hz]; omega
                      have c1 := HBk3.out.bit (i := z) (by rw [HL2.out]; omega)
                      have z0 : (0 : Int) ≤ (z : Int) := by omega
                      have z1 : (z : Int) < (n : Int) := by omega
                      clear hzn hk1
                      cases hb1 : l2.getD z false with
                      | false =>
                        rw [hb1] at c1
                        go_wp2_with fail
                        go_meet
                        case rel => exact ⟨_, rfl, ⟨HBk3, HBw3, HCp3⟩, Lib.hid (by rw [hb0, hk, hzt, hb1]; rfl)⟩
                      | true =>
                        rw [hb1] at c1
                        go_wp2_with fail
                        go_meet
                        case rel => exact ⟨_, rfl, ⟨HBk3, HBw3, HCp3⟩, Lib.hid (by rw [hb0, hk, hzt, hb1]; rfl)⟩
                case rest =>
                  clear HBk3 HBw3 HCp3 m0 m5 m6
                  obtain ⟨cb, rfl, ⟨HBk3, HBw3, HCp3⟩, HCb⟩ := hcut
                  obtain ⟨m0, m5, m6⟩ := HCp3.out
                  clear c0
                  cases cb with
                  | false =>
                    have HFin := Lib.hid (HStp.out mb2 l2 HI2.out (fun hm h1 => ⟨HNxt.out hm h1, fun h2 => by
                      have h3 := HCb.out
                      rw [h1, h2] at h3
                      cases hh : l2.getD x.other.toNat false with
                      | true => rfl
                      | false => rw [hh] at h3; cases h3⟩))
                    go_wp2_with fail
                    go_roundw
                    case rel => exact ⟨q + 1, l2, mb2, by omega, by go_num, rfl, HFin, HBk3, HBw3⟩
                    case measure => simp [intOf]; omega
                  | true =>
                    have hcb := HCb.out.symm
                    simp only [Bool.and_eq_true, Bool.not_eq_true', beq_iff_eq] at hcb
                    obtain ⟨h1, h2, h3⟩ := hcb
                    have HRx := Lib.hid (HRo.out l2 mb2 HI2.out h1 h2)
                    obtain ⟨z, hz⟩ : ∃ z : Nat, x.other = (z : Int) := ⟨x.other.toNat, by have := HNo.out h2; omega⟩
                    have hzn := HNo.out h2
                    rw [hz] at m6 hzn
                    have hzt : x.other.toNat = z := by rw [hz]; omega
                    rw [hzt] at h3 HRx
                    have c1 := HBk3.out.bit (i := z) (by rw [HL2.out]; omega)
                    have f1 := HBk3.out.frozen z
                    have z0 : (0 : Int) ≤ (z : Int) := by omega
                    have z1 : (z : Int) < (n : Int) := by omega
                    have HI3 := Lib.hid (HI2.out.set (by rw [HL2.out]; omega) h3 HRx.out)
                    have HFin := Lib.hid (HStp.out true _ HI3.out (fun hm => by cases hm))
                    have HBk4 := Lib.hid (HBk3.out.setBit z true)
                    have HBw4 := Lib.hid (HBw3.out.setCell (p := ⟨g, z, none⟩) hg (.bool true))
                    clear hzn h1 h2 h3 hzt
                    go_wp2_with fail
                    go_roundw
                    case rel => exact ⟨q + 1, _, true, by omega, by go_num, rfl, HFin, HBk4, HBw4⟩
                    case measure => simp [intOf]; omega
          · obtain rfl : q = n := by omega
            have hd : decide (q < q) = false := by simp only [decide_eq_false_iff_not]; omega
            go_wp2_with fail
            go_roundw
            case rel => exact ⟨l1, mb, rfl, Lib.hid (by rw [HI.out.len, HLl.out]), HB1, HBw1, Lib.hid (fun i h => HI.out.up i (HUp.out i h)), Lib.hid HI.out.sound, Lib.hid (fun h => (HI.out.same h).2)⟩
            case measure =>
              have e1 := bitsOf_blk HB1.out (by rw [HI.out.len, HLl.out])
              have e2 := bitsOf_blk HBl.out HLl.out
              have h1 := HI.out.prog
              have h2 := HI.out.same
              show 2 * fls (bitsOf wr g q) + boolM (.bool mb) < 2 * fls (bitsOf wo g q) + boolM (.bool true)
              rw [e1, e2]
              cases mb with
              | true => have := h1 rfl; simp only [boolM]; omega
              | false => rw [(h2 rfl).1]; simp only [boolM]; omega
end Au
end
section
open Go.RowKit
namespace Au
open Cm Rx
theorem bits_and_nat (a b : Nat) (ha : a < 18446744073709551616) (hb : b < 18446744073709551616) : bits .and .u64 (a : Int) (b : Int) = ((a &&& b : Nat) : Int) := by
  have hx : a &&& b < 2 ^ 64 := Nat.lt_of_le_of_lt Nat.and_le_left (by omega)
  have h1 : (BitVec.ofInt 64 (a : Int)).toNat = a := by
    rw [BitVec.ofInt_natCast, BitVec.toNat_ofNat]; exact Nat.mod_eq_of_lt (by omega)
  have h2 : (BitVec.ofInt 64 (b : Int)).toNat = b := by
    rw [BitVec.ofInt_natCast, BitVec.toNat_ofNat]; exact Nat.mod_eq_of_lt (by omega)
  show IntKind.u64.wrap ((BitVec.ofInt 64 (a : Int) &&& BitVec.ofInt 64 (b : Int)).toNat : Int) = _
  rw [BitVec.toNat_and, h1, h2, IntKind.wrap_u64]
  omega
/-- The test of one bit, as the walk spells it. -/
theorem has_bit (m : Nat → Bool) (j n : Nat) (h : n / 64 = j) : ((((word m j) / 2 ^ (n % 64)) &&& 1 : Nat) == 1) = m n := by
  have h1 := testBit_word m j (n % 64)
  rw [show decide (n % 64 < 64) = true from decide_eq_true (Nat.mod_lt _ (by omega)), Bool.true_and, show 64 * j + n % 64 = n by omega] at h1
  rw [← h1, Nat.testBit, Nat.shiftRight_eq_div_pow, Nat.and_comm]
  rcases Nat.mod_two_eq_zero_or_one (word m j / 2 ^ (n % 64)) with e | e
  · rw [Nat.and_comm, Nat.and_one_is_mod, e]; rfl
  · rw [Nat.and_comm, Nat.and_one_is_mod, e]; rfl
theorem has_walk {a k : Nat} {b : Bool} (ha : a < 18446744073709551616) (h : ((a / 2 ^ k &&& 1 : Nat) == 1) = b) : (bits .and .u64 ((a : Int) / 2 ^ k) 1 == 1) = b := by
  rw [show (a : Int) / 2 ^ k = ((a / 2 ^ k : Nat) : Int) from by simp, show (1 : Int) = ((1 : Nat) : Int) from rfl, bits_and_nat _ _ (Nat.lt_of_le_of_lt (Nat.div_le_self _ _) ha) (by omega), ← h]
  rw [Bool.eq_iff_iff, beq_iff_eq, beq_iff_eq]
  omega
set_option maxRecDepth 100000 in
set_option maxHeartbeats 1000000 in
theorem Has_any (m : Nat → Bool) (x : UInt8) (w : World) :
    Calls Try.prog 47 #[setV m, .int .u8 (x.toNat : Int)] w fun e w' => e = .returned (.bool (m x.toNat)) ∧ Below w.heap.size w w' := by
  unfold setV
  have hx := x.toNat_lt
  have hbit := has_bit m (x.toNat / 64) x.toNat rfl
  generalize x.toNat = n at hx hbit
  have hx2 : (n : Int) < 256 := by omega
  have h0 : (0 : Int) ≤ (n : Int) := by omega
  have hwl := fun j => word_lt m j
  have hc : n / 64 = 0 ∨ n / 64 = 1 ∨ n / 64 = 2 ∨ n / 64 = 3 := by omega
  rcases hc with h | h | h | h
  · rw [h] at hbit
    have HBit := Lib.hid hbit
    have HWl := Lib.hid (hwl 0)
    have e1 : (n : Int) / 64 = 0 := by omega
    clear h hx hbit hwl
    generalize word m 0 = a at HBit HWl
    generalize word m 1 = b
    generalize word m 2 = c
    generalize word m 3 = d
    go_enter Try.func47, Try.ntmps47
    go_wp2_with fail
    go_ret
    exact ⟨ret_bool (has_walk HWl.out HBit.out), (Below.refl _ _).alloc (Nat.le_refl _) _⟩
  · rw [h] at hbit
    have HBit := Lib.hid hbit
    have HWl := Lib.hid (hwl 1)
    have e1 : (n : Int) / 64 = 1 := by omega
    clear h hx hbit hwl
    generalize word m 0 = a
    generalize word m 1 = b at HBit HWl
    generalize word m 2 = c
    generalize word m 3 = d
    go_enter Try.func47, Try.ntmps47
    go_wp2_with fail
    go_ret
    exact ⟨ret_bool (has_walk HWl.out HBit.out), (Below.refl _ _).alloc (Nat.le_refl _) _⟩
  · rw [h] at hbit
    have HBit := Lib.hid hbit
    have HWl := Lib.hid (hwl 2)
    have e1 : (n : Int) / 64 = 2 := by omega
    clear h hx hbit hwl
    generalize word m 0 = a
    generalize word m 1 = b
    generalize word m 2 = c at HBit HWl
    generalize word m 3 = d
    go_enter Try.func47, Try.ntmps47
    go_wp2_with fail
    go_ret
    exact ⟨ret_bool (has_walk HWl.out HBit.out), (Below.refl _ _).alloc (Nat.le_refl _) _⟩
  · rw [h] at hbit
    have HBit := Lib.hid hbit
    have HWl := Lib.hid (hwl 3)
    have e1 : (n : Int) / 64 = 3 := by omega
    clear h hx hbit hwl
    generalize word m 0 = a
    generalize word m 1 = b
    generalize word m 2 = c
    generalize word m 3 = d at HBit HWl
    go_enter Try.func47, Try.ntmps47
    go_wp2_with fail
    go_ret
    exact ⟨ret_bool (has_walk HWl.out HBit.out), (Below.refl _ _).alloc (Nat.le_refl _) _⟩
end Au
end
section
open Go.RowKit
namespace Au
open Cm Rx
/-- The states before closing, d bytes behind the offset i. -/
def inAt (ss : List St) (start : Nat) (bs : List UInt8) (i : Nat) : Nat → Nat → Prop
  | 0, k => k = start ∧ k < ss.length
  | d + 1, k => k < ss.length ∧ ∃ x, ∃ hx : x < ss.length, Reach ss (decide (i + d = 0)) (decide (i + d = bs.length)) (inAt ss start bs i d) x ∧ ss[x].kind = 0 ∧ (∃ b, bs[i + d]? = some b ∧ ss[x].set b.toNat = true) ∧ ss[x].next.toNat = k
def clAt (ss : List St) (start : Nat) (bs : List UInt8) (i d : Nat) : Nat → Prop := Reach ss (decide (i + d = 0)) (decide (i + d = bs.length)) (inAt ss start bs i d)
/-- Is the text from i on, d bytes, accepted? -/
def accAt (ss : List St) (start : Nat) (bs : List UInt8) (i d : Nat) : Prop := ∃ x, ∃ hx : x < ss.length, clAt ss start bs i d x ∧ ss[x].kind = 4
/-- What Ends hands back. -/
def IsEnds (ss : List St) (start : Nat) (bs : List UInt8) (i : Nat) (l : List Bool) : Prop := l.length = bs.length + 1 ∧ ∀ q, q ≤ bs.length → (l.getD q false = true ↔ ∃ d, q = i + d ∧ accAt ss start bs i d)
def EndsPost (w : World) (ss : List St) (start : Nat) (bs : List UInt8) (i : Nat) (e : Ending) (w' : World) : Prop := ∃ l, IsEnds ss start bs i l ∧ BoolsOut w (bs.length + 1) l e w'
theorem blk_made (W : World) (n : Nat) : Blk (W.alloc (.cells (madeCells #[.bool false] n) tBool)) W.heap.size tBool (boolsV (List.replicate n false)) := by
  refine ⟨_, heap_new W _, fun i hi => ?_⟩
  have h2 := toList_madeCells_one (.bool false) n
  have h3 : (madeCells #[.bool false] n).toList[i]? = some (.bool false) := by
    rw [h2, List.getElem?_replicate, if_pos (by simpa [boolsV] using hi)]
  rw [Array.getElem?_toList] at h3
  rw [h3]
  simp [boolsV]
theorem rd_blk {w : World} {g n c : Nat} {t : TypeId} {l : List Bool} (h : Blk w g t (boolsV l)) (hl : l.length = n) (hc : n ≤ c) : RdV w (.slice (some ⟨g, 0, none⟩) n c) (boolsV l) := by
  refine ⟨some ⟨g, 0, none⟩, c, by rw [boolsV_len, hl], ⟨by rw [boolsV_len]; omega, fun e => by cases e⟩, fun _ => ⟨g, 0, rfl, fun k hk => ?_⟩⟩
  rw [Nat.zero_add]
  exact h.cell hk
theorem getB_rep (n i : Nat) : (List.replicate n false).getD i false = false := by
  rw [List.getD_eq_getElem?_getD, List.getElem?_replicate]
  split <;> rfl
theorem StAt.other {w : World} {H o g j : Nat} {x : St} (h : StAt w H o x) (hn : H ≠ g) (u : Value) : StAt (w.setCell ⟨g, j, none⟩ u) H o x := by
  obtain ⟨h0, h1, h2, h3, h4, h5, h6⟩ := h
  have e : ∀ (i : Nat) (y : Value), w.cell? ⟨H, i, none⟩ = some y → (w.setCell ⟨g, j, none⟩ u).cell? ⟨H, i, none⟩ = some y := fun i y hy => (World.cell?_of_block (Below.heap_setCell _ _ _ _ hn)).trans hy
  exact ⟨e _ _ h0, e _ _ h1, e _ _ h2, e _ _ h3, e _ _ h4, e _ _ h5, e _ _ h6⟩
/-- The copy of a state that a round looks at. -/
def Cop2 (w : World) (H : Nat) (k : Int) (x0 x1 x2 x3 : Nat) (nx : Int) : Prop := w.cell? ⟨H, 0, none⟩ = some (.int .i64 k) ∧ w.cell? ⟨H, 1, none⟩ = some (.int .u64 x0) ∧ w.cell? ⟨H, 2, none⟩ = some (.int .u64 x1) ∧ w.cell? ⟨H, 3, none⟩ = some (.int .u64 x2) ∧ w.cell? ⟨H, 4, none⟩ = some (.int .u64 x3) ∧ w.cell? ⟨H, 5, none⟩ = some (.int .i64 nx)
theorem Cop2.block {w w' : World} {H x0 x1 x2 x3 : Nat} {k nx : Int} (h : Cop2 w H k x0 x1 x2 x3 nx) (hb : w'.heap[H]? = w.heap[H]?) : Cop2 w' H k x0 x1 x2 x3 nx := by
  obtain ⟨h0, h1, h2, h3, h4, h5⟩ := h
  have e : ∀ (i : Nat) (y : Value), w.cell? ⟨H, i, none⟩ = some y → w'.cell? ⟨H, i, none⟩ = some y := fun i y hy => (World.cell?_of_block hb).trans hy
  exact ⟨e _ _ h0, e _ _ h1, e _ _ h2, e _ _ h3, e _ _ h4, e _ _ h5⟩
/-- What holds within a round of Ends. -/
structure InW (w1 w : World) (gn go gc H : Nat) (ln lo lc : List Bool) (k : Int) (x0 x1 x2 x3 : Nat) (nx : Int) : Prop where
  n : Blk w gn tBool (boolsV ln)
  o : Blk w go tBool (boolsV lo)
  c : Blk w gc tBool (boolsV lc)
  b : Below w1.heap.size w1 w
  p : Cop2 w H k x0 x1 x2 x3 nx
theorem InW.below {w1 w w' : World} {gn go gc H : Nat} {ln lo lc : List Bool} {k nx : Int} {x0 x1 x2 x3 : Nat} (h : InW w1 w gn go gc H ln lo lc k x0 x1 x2 x3 nx) (hb : Below w.heap.size w w') : InW w1 w' gn go gc H ln lo lc k x0 x1 x2 x3 nx :=
  ⟨h.n.of_block (hb.block _ h.n.lt), h.o.of_block (hb.block _ h.o.lt), h.c.of_block (hb.block _ h.c.lt), h.b.trans (hb.mono h.b.size), h.p.block (hb.block _ (Tx.cell_lt h.p.1))⟩
theorem InW.drewN {w1 w : World} {gn go gc H : Nat} {ln lo lc : List Bool} {k nx : Int} {x0 x1 x2 x3 : Nat} (h : InW w1 w gn go gc H ln lo lc k x0 x1 x2 x3 nx) (m : Nat) : InW w1 (w.drewN m) gn go gc H ln lo lc k x0 x1 x2 x3 nx := by
  exact h.below (below_drewN (Below.refl _ _) m)
theorem InW.setO {w1 w : World} {gn go gc H j : Nat} {ln lo lc : List Bool} {k nx : Int} {x0 x1 x2 x3 : Nat} (h : InW w1 w gn go gc H ln lo lc k x0 x1 x2 x3 nx) (h1 : gn ≠ go) (h2 : gc ≠ go) (h3 : H ≠ go) (hb : w1.heap.size ≤ go) (b : Bool) : InW w1 (w.setCell ⟨go, j, none⟩ (.bool b)) gn go gc H ln (lo.set j b) lc k x0 x1 x2 x3 nx :=
  ⟨h.n.of_block (Below.heap_setCell _ _ _ _ h1), h.o.setBit j b, h.c.of_block (Below.heap_setCell _ _ _ _ h2), h.b.setCell (p := ⟨go, j, none⟩) hb _, h.p.block (Below.heap_setCell _ _ _ _ h3)⟩
theorem InW.setN {w1 w : World} {gn go gc H j : Nat} {ln lo lc : List Bool} {k nx : Int} {x0 x1 x2 x3 : Nat} (h : InW w1 w gn go gc H ln lo lc k x0 x1 x2 x3 nx) (h1 : go ≠ gn) (h2 : gc ≠ gn) (h3 : H ≠ gn) (hb : w1.heap.size ≤ gn) (b : Bool) : InW w1 (w.setCell ⟨gn, j, none⟩ (.bool b)) gn go gc H (ln.set j b) lo lc k x0 x1 x2 x3 nx :=
  ⟨h.n.setBit j b, h.o.of_block (Below.heap_setCell _ _ _ _ h1), h.c.of_block (Below.heap_setCell _ _ _ _ h2), h.b.setCell (p := ⟨gn, j, none⟩) hb _, h.p.block (Below.heap_setCell _ _ _ _ h3)⟩
theorem sel_below {W w6 : World} {gc k H x0 x1 x2 x3 : Nat} {x : St} (B : Below W.drew.heap.size W.drew w6)
    (h : W.cell? ⟨gc, k, none⟩ = some (.bool true) ∧ W.cell? ⟨H, 0, none⟩ = some (.int .i64 x.kind) ∧ W.cell? ⟨H, 1, none⟩ = some (.int .u64 x0) ∧ W.cell? ⟨H, 2, none⟩ = some (.int .u64 x1) ∧ W.cell? ⟨H, 3, none⟩ = some (.int .u64 x2) ∧ W.cell? ⟨H, 4, none⟩ = some (.int .u64 x3)) :
    w6.cell? ⟨gc, k, none⟩ = some (.bool true) ∧ w6.cell? ⟨H, 0, none⟩ = some (.int .i64 x.kind) ∧ w6.cell? ⟨H, 1, none⟩ = some (.int .u64 x0) ∧ w6.cell? ⟨H, 2, none⟩ = some (.int .u64 x1) ∧ w6.cell? ⟨H, 3, none⟩ = some (.int .u64 x2) ∧ w6.cell? ⟨H, 4, none⟩ = some (.int .u64 x3) := by
  obtain ⟨h0, h1, h2, h3, h4, h5⟩ := h
  have e : ∀ (b i : Nat) (y : Value), W.cell? ⟨b, i, none⟩ = some y → w6.cell? ⟨b, i, none⟩ = some y := fun b i y hy => (B.cell (p := ⟨b, i, none⟩) (Tx.cell_lt hy)).trans hy
  exact ⟨e _ _ _ h0, e _ _ _ h1, e _ _ _ h2, e _ _ _ h3, e _ _ _ h4, e _ _ _ h5⟩
abbrev tAuE : TypeId := 37
set_option maxRecDepth 100000 in
set_option maxHeartbeats 2000000 in
theorem EndsR_any {w : World} (ss : List St) (st : Nat) (A : Option Addr) (c : Nat) (s : ByteArray) (i : Nat) (hr : RdA w (.slice A ss.length c) ss) (hv : ValidA ss (st : Int)) (hs : s.size ≤ 100000) (hi : i ≤ s.size) :
    Calls Try.prog 29 #[.agg #[.slice A ss.length c, .int .i64 (st : Int)], .string s, .int .i64 (i : Int)] w (EndsPost w ss st (Tx.bs s) i) := by
  obtain ⟨h8, hst, hok⟩ := hv
  have hst2 : 0 ≤ (st : Int) ∧ (st : Int) < (ss.length : Int) := of_decide_eq_true hst
  have HR := Lib.hid hr
  have HOk := Lib.hid hok
  have HLen : Hid ((Tx.bs s).length = s.size) := Lib.hid (by simp [Tx.bs])
  have HGet := Lib.hid (fun j (h : j < s.size) => Tx.bs_get? s j h)
  have HIn0 : Hid (∀ k, inAt ss st (Tx.bs s) i 0 k ↔ k = st ∧ k < ss.length) := Lib.hid (fun k => Iff.rfl)
  have HInS : Hid (∀ d k, inAt ss st (Tx.bs s) i (d + 1) k ↔ (k < ss.length ∧ ∃ x, ∃ hx : x < ss.length, clAt ss st (Tx.bs s) i d x ∧ ss[x].kind = 0 ∧ (∃ b, (Tx.bs s)[i + d]? = some b ∧ ss[x].set b.toNat = true) ∧ ss[x].next.toNat = k)) := Lib.hid (fun d k => Iff.rfl)
  clear hr hok hst
  have hrs := HR.out
  obtain ⟨A', c', e, hA⟩ := hrs
  cases e
  have HA := Lib.hid hA
  clear hA
  obtain ⟨n, hnn⟩ : ∃ n, n = ss.length := ⟨_, rfl⟩
  have HN := Lib.hid hnn.symm
  rw [← hnn] at h8 hst2 ⊢
  clear hnn
  obtain ⟨L, hL⟩ : ∃ L, L = s.size := ⟨_, rfl⟩
  have HL := Lib.hid hL.symm
  rw [← hL] at hs hi
  clear hL
  have hmk := make_bools n (by omega)
  have hmk2 : ∀ W, (Instr.makeSlice 52 (.int .i64 ((L : Int) + 1)) (.int .i64 ((L : Int) + 1))).run Try.prog W = .ok (.slice (some ⟨W.heap.size, 0, none⟩) (L + 1) (L + 1)) (W.alloc (.cells (madeCells #[.bool false] (L + 1)) 4)) := fun W => by
    have h := make_bools (L + 1) (by omega) W
    rw [show ((L + 1 : Nat) : Int) = (L : Int) + 1 from by omega] at h
    exact h
  have hsz := HL.out
  go_enter Try.func29, Try.ntmps29
  go_upto_region 3 with fail
  have HB0 : Hid (Below w.heap.size w (w.alloc (.cells #[.slice A n c, .int .i64 (st : Int)] tAuE))) := Lib.hid ((Below.refl _ _).alloc (Nat.le_refl _) _)
  have HC0 : Hid ((w.alloc (.cells #[.slice A n c, .int .i64 (st : Int)] tAuE)).cell? ⟨w.heap.size, 0, none⟩ = some (.slice A n c) ∧ (w.alloc (.cells #[.slice A n c, .int .i64 (st : Int)] tAuE)).cell? ⟨w.heap.size, 1, none⟩ = some (.int .i64 (st : Int))) := Lib.hid ⟨any_newC w _ _ 0 _ rfl, any_newC w _ _ 1 _ rfl⟩
  have HSz1 : Hid ((w.alloc (.cells #[.slice A n c, .int .i64 (st : Int)] tAuE)).heap.size = w.heap.size + 1) := Lib.hid (by simp)
  generalize w.alloc (.cells #[.slice A n c, .int .i64 (st : Int)] tAuE) = w1 at HB0 HC0 HSz1 ⊢
  have HWs : Hid (Blk ((w1.alloc (.cells (madeCells #[.bool false] (L + 1)) tBool)).alloc (.cells (madeCells #[.bool false] n) tBool)) (w.heap.size + 1) tBool (boolsV (List.replicate (L + 1) false)) ∧ Blk ((w1.alloc (.cells (madeCells #[.bool false] (L + 1)) tBool)).alloc (.cells (madeCells #[.bool false] n) tBool)) (w.heap.size + 1 + 1) tBool (boolsV (List.replicate n false)) ∧ Below w1.heap.size w1 ((w1.alloc (.cells (madeCells #[.bool false] (L + 1)) tBool)).alloc (.cells (madeCells #[.bool false] n) tBool))) := Lib.hid (by
    have h1 := blk_made w1 (L + 1)
    have h2 := blk_made (w1.alloc (.cells (madeCells #[.bool false] (L + 1)) tBool)) n
    have e2 : (w1.alloc (.cells (madeCells #[.bool false] (L + 1)) tBool)).heap.size = w.heap.size + 1 + 1 := by rw [← HSz1.out]; simp
    rw [e2] at h2
    rw [HSz1.out] at h1
    refine ⟨h1.of_block (Below.heap_alloc _ _ _ (by rw [e2]; omega)), h2, ((Below.refl _ _).alloc (Nat.le_refl _) _).alloc (by rw [e2, HSz1.out]; omega) _⟩)
  generalize (w1.alloc (.cells (madeCells #[.bool false] (L + 1)) tBool)).alloc (.cells (madeCells #[.bool false] n) tBool) = w3 at HWs ⊢
  have HBk0 := Lib.hid HWs.out.1
  have HBi0 := Lib.hid HWs.out.2.1
  have HBw0 := Lib.hid HWs.out.2.2
  clear HWs
  have hgt := HSz1.out
  generalize hg : w.heap.size + 1 = go at HBk0 HBi0 hgt ⊢
  have hgo : w.heap.size < go := by omega
  have hgo1 : w1.heap.size ≤ go := by omega
  have q0 := (HBw0.out.cell (p := ⟨w.heap.size, 0, none⟩) (by rw [hgt]; exact hgo)).trans HC0.out.1
  have q1 := (HBw0.out.cell (p := ⟨w.heap.size, 1, none⟩) (by rw [hgt]; exact hgo)).trans HC0.out.2
  have HG0 := Lib.hid (And.intro hgo hgo1)
  have c3 := HBi0.out.bit (i := st) (by rw [List.length_replicate]; omega)
  have f3 := HBi0.out.frozen st
  have HBi1 := Lib.hid (HBi0.out.setBit st true)
  have HBk1 : Hid (Blk (w3.setCell ⟨go + 1, st, none⟩ (.bool true)) go tBool (boolsV (List.replicate (L + 1) false))) := Lib.hid (HBk0.out.of_block (Below.heap_setCell _ _ _ _ (by simp)))
  have HBw1 : Hid (Below w1.heap.size w1 (w3.setCell ⟨go + 1, st, none⟩ (.bool true))) := Lib.hid (HBw0.out.setCell (p := ⟨go + 1, st, none⟩) (by rw [hgt]; exact Nat.le_succ _) _)
  have s0 : (0 : Int) ≤ (st : Int) := by omega
  have s1 : (st : Int) < (n : Int) := by omega
  have HHs := Lib.hid hg
  clear hg hgt hgo hgo1
  go_wp2_with fail
  generalize w3.setCell ⟨go + 1, st, none⟩ (.bool true) = w4 at HBi1 HBk1 HBw1 ⊢
  clear q0 q1 c3 f3 HBw0 HBi0 HBk0
  go_loopw [8, 9] (fun tin tj wr => ∃ (d gi : Nat) (li lo : List Bool), i + d ≤ L + 1 ∧ tj = .int .i64 ((i + d : Nat) : Int) ∧ tin = .slice (some ⟨gi, 0, none⟩) n n ∧ go < gi ∧ Hid (li.length = n) ∧ Hid (Blk wr gi tBool (boolsV li)) ∧ Hid (∀ k, li.getD k false = true ↔ inAt ss st (Tx.bs s) i d k) ∧ Hid (Blk wr go tBool (boolsV lo)) ∧ Hid (lo.length = L + 1) ∧ Hid (∀ q, q ≤ L → (lo.getD q false = true ↔ ∃ d', d' < d ∧ q = i + d' ∧ accAt ss st (Tx.bs s) i d')) ∧ Hid (Below w1.heap.size w1 wr)) (fun _ tj _ => L + 1 - (intOf tj).toNat)
  case atStart =>
    refine ⟨0, go + 1, (List.replicate n false).set st true, List.replicate (L + 1) false, by omega, by go_num, rfl, by omega, Lib.hid (by rw [List.length_set, List.length_replicate]), HBi1, Lib.hid (fun k => ?_), HBk1, Lib.hid (List.length_replicate ..), Lib.hid (fun q _ => ?_), HBw1⟩
    · rw [HIn0.out, getB_set _ _ _ (by rw [List.length_replicate]; omega), getB_rep, HN.out]
      constructor
      · intro h
        by_cases e : k = st
        · exact ⟨e, by omega⟩
        · rw [if_neg e] at h; cases h
      · intro h; rw [if_pos h.1]
    · rw [getB_rep]
      exact ⟨fun h => (by cases h), fun ⟨d', h, _⟩ => absurd h (Nat.not_lt_zero _)⟩
  case round =>
    obtain ⟨d, gi, li, lo, hd, rfl, rfl, hgi, HLi, HBi, HInL, HBo, HLo, HOut, HBw⟩ := hrel
    obtain ⟨j, hj⟩ : ∃ j, j = i + d := ⟨_, rfl⟩
    rw [← hj] at hd ⊢
    have HJ := Lib.hid hj
    clear hj
    by_cases hlt : j ≤ L
    · have hb1 : (((j : Nat) : Int) == 0) = decide (i + d = 0) := by rw [← HJ.out, Bool.eq_iff_iff, beq_iff_eq, decide_eq_true_iff]; omega
      have hb2 : (((j : Nat) : Int) == (L : Int)) = decide (i + d = (Tx.bs s).length) := by rw [← HJ.out, HLen.out, HL.out, Bool.eq_iff_iff, beq_iff_eq, decide_eq_true_iff]; omega
      have HClA : Hid ((fun k => li.getD k false = true) = inAt ss st (Tx.bs s) i d) := Lib.hid (funext fun k => propext (HInL.out k))
      have HRdr := Lib.hid ((HR.out.below HB0.out).below HBw.out)
      have HCl := Lib.hid (CloseR_any (w := wr) ss (st : Int) A c (.slice (some ⟨gi, 0, none⟩) n n) li (decide (i + d = 0)) (decide (i + d = (Tx.bs s).length)) HRdr.out HOk.out (by rw [HN.out]; exact h8) (rd_blk HBi.out HLi.out (Nat.le_refl n)) (by rw [HLi.out, HN.out]) (by rw [HN.out]; omega))
      have HGet2 : Hid (∀ k, k < n → ((closeF ss (decide (i + d = 0)) (decide (i + d = (Tx.bs s).length)) (fun k => li.getD k false = true) ss.length).getD k false = true ↔ clAt ss st (Tx.bs s) i d k)) := Lib.hid (fun k hk => by
        rw [close_get (by rw [HN.out]; exact hk), HClA.out]; exact Iff.rfl)
      have HLc0 : Hid ((closeF ss (decide (i + d = 0)) (decide (i + d = (Tx.bs s).length)) (fun k => li.getD k false = true) ss.length).length = n) := Lib.hid (by rw [close_len, HN.out])
      generalize closeF ss (decide (i + d = 0)) (decide (i + d = (Tx.bs s).length)) (fun k => li.getD k false = true) ss.length = lc at HCl HGet2 HLc0
      rw [HN.out] at HCl
      generalize decide (i + d = 0) = b1 at hb1 HCl
      generalize decide (i + d = (Tx.bs s).length) = b2 at hb2 HCl
      have q0 := (HBw.out.cell (p := ⟨w.heap.size, 0, none⟩) (by have := HG0.out; have := HSz1.out; simp only; omega)).trans HC0.out.1
      have q1 := (HBw.out.cell (p := ⟨w.heap.size, 1, none⟩) (by have := HG0.out; have := HSz1.out; simp only; omega)).trans HC0.out.2
      obtain ⟨wo, rfl⟩ : ∃ wo, wo = wr := ⟨wr, rfl⟩
      go_wp2_with fail
      refine HCl.out.mono ?_
      rintro e wc ⟨gc, c2, rfl, hbc, hgc, hbw⟩
      have HBc0 := Lib.hid hbc
      have HBo0 := Lib.hid (HBo.out.of_block (hbw.block go HBo.out.lt))
      have HBwc := Lib.hid (HBw.out.trans (hbw.mono HBw.out.size))
      have hgo : go < gc := by have := HBo.out.lt; omega
      clear hbc hgc hbw q0 q1 hb1 hb2
      go_upto_region 9 with fail
      have HBn0 := Lib.hid (blk_made wc n)
      have HBc1 : Hid (Blk (wc.alloc (.cells (madeCells #[.bool false] n) tBool)) gc tBool (boolsV lc)) := Lib.hid (HBc0.out.of_block (Below.heap_alloc _ _ _ HBc0.out.lt))
      have HBo1 : Hid (Blk (wc.alloc (.cells (madeCells #[.bool false] n) tBool)) go tBool (boolsV lo)) := Lib.hid (HBo0.out.of_block (Below.heap_alloc _ _ _ HBo0.out.lt))
      have HBw1 : Hid (Below w1.heap.size w1 (wc.alloc (.cells (madeCells #[.bool false] n) tBool))) := Lib.hid (HBwc.out.alloc HBwc.out.size _)
      have hgn : gc < wc.heap.size := HBc0.out.lt
      clear HBc0 HBo0 HBwc HBi HBo
      generalize wc.alloc (.cells (madeCells #[.bool false] n) tBool) = wd at HBn0 HBc1 HBo1 HBw1 ⊢
      generalize wc.heap.size = gn at HBn0 hgn ⊢
      go_wp2_with fail
      go_loopw [11] (fun tk wr => ∃ (k : Nat) (ln lo1 : List Bool), k ≤ n ∧ tk = .int .i64 (k : Int) ∧ Hid (ln.length = n) ∧ Hid (Blk wr gn tBool (boolsV ln)) ∧ Hid (∀ y, ln.getD y false = true ↔ (y < n ∧ ∃ x, ∃ hx : x < ss.length, x < k ∧ lc.getD x false = true ∧ ss[x].kind = 0 ∧ (∃ b, (Tx.bs s)[j]? = some b ∧ ss[x].set b.toNat = true) ∧ ss[x].next.toNat = y)) ∧ Hid (Blk wr go tBool (boolsV lo1)) ∧ Hid (lo1.length = L + 1) ∧ Hid (∀ q, q ≤ L → (lo1.getD q false = true ↔ (lo.getD q false = true ∨ (q = j ∧ ∃ x, ∃ hx : x < ss.length, x < k ∧ lc.getD x false = true ∧ ss[x].kind = 4)))) ∧ Hid (Blk wr gc tBool (boolsV lc)) ∧ Hid (Below w1.heap.size w1 wr)) (fun tk _ => n - (intOf tk).toNat)
      case atStart =>
        refine ⟨0, List.replicate n false, lo, Nat.zero_le _, by go_num, Lib.hid (List.length_replicate ..), HBn0, Lib.hid (fun y => ?_), HBo1, HLo, Lib.hid (fun q _ => ?_), HBc1, HBw1⟩
        · rw [getB_rep]
          exact ⟨fun h => (by cases h), fun ⟨_, x, _, h, _⟩ => absurd h (Nat.not_lt_zero _)⟩
        · exact ⟨fun h => .inl h, fun h => h.elim id fun ⟨_, x, _, h, _⟩ => absurd h (Nat.not_lt_zero _)⟩
      case round =>
        obtain ⟨k, ln, lo1, hk, rfl, HLn, HBn, HNx, HBo, HLo1, HOt, HBc, HBx⟩ := hrel
        by_cases hlk : k < n
        · have hx : k < ss.length := by rw [HN.out]; exact hlk
          obtain ⟨b, off, rfl, hA1⟩ := HA.out (by rw [HN.out]; omega)
          have hat := ((hA1 k hx).below HB0.out).below HBx.out
          have q0 := (HBx.out.cell (p := ⟨w.heap.size, 0, none⟩) (by have := HG0.out; have := HSz1.out; simp only; omega)).trans HC0.out.1
          have i1 : (0 : Int) ≤ (k : Int) := by omega
          have i2 : (k : Int) < (n : Int) := by omega
          have hok := HOk.out k hx
          rw [HN.out] at hok
          have HNxS : Hid (∀ (ln2 : List Bool), (∀ y, ln2.getD y false = true ↔ (ln.getD y false = true ∨ (y < n ∧ lc.getD k false = true ∧ ss[k].kind = 0 ∧ (∃ b, (Tx.bs s)[j]? = some b ∧ ss[k].set b.toNat = true) ∧ ss[k].next.toNat = y))) → ∀ y, ln2.getD y false = true ↔ (y < n ∧ ∃ x, ∃ hx : x < ss.length, x < k + 1 ∧ lc.getD x false = true ∧ ss[x].kind = 0 ∧ (∃ b, (Tx.bs s)[j]? = some b ∧ ss[x].set b.toNat = true) ∧ ss[x].next.toNat = y)) := Lib.hid (fun ln2 h y => by
            rw [h y, HNx.out y]
            constructor
            · rintro (⟨h1, x, hx2, h2, h3⟩ | ⟨h1, h2⟩)
              · exact ⟨h1, x, hx2, by omega, h3⟩
              · exact ⟨h1, k, hx, by omega, h2⟩
            · rintro ⟨h1, x, hx2, h2, h3⟩
              by_cases e : x = k
              · subst e; exact .inr ⟨h1, h3⟩
              · exact .inl ⟨h1, x, hx2, by omega, h3⟩)
          have HOtS : Hid (∀ (lo2 : List Bool), (∀ q, q ≤ L → (lo2.getD q false = true ↔ (lo1.getD q false = true ∨ (q = j ∧ lc.getD k false = true ∧ ss[k].kind = 4)))) → ∀ q, q ≤ L → (lo2.getD q false = true ↔ (lo.getD q false = true ∨ (q = j ∧ ∃ x, ∃ hx : x < ss.length, x < k + 1 ∧ lc.getD x false = true ∧ ss[x].kind = 4)))) := Lib.hid (fun lo2 h q hq => by
            rw [h q hq, HOt.out q hq]
            constructor
            · rintro ((h1 | ⟨h1, x, hx2, h2, h3⟩) | ⟨h1, h2⟩)
              · exact .inl h1
              · exact .inr ⟨h1, x, hx2, by omega, h3⟩
              · exact .inr ⟨h1, k, hx, by omega, h2⟩
            · rintro (h1 | ⟨h1, x, hx2, h2, h3⟩)
              · exact .inl (.inl h1)
              · by_cases e : x = k
                · subst e; exact .inr ⟨h1, h3⟩
                · exact .inl (.inr ⟨h1, x, hx2, by omega, h3⟩))
          clear hA1 HNx HOt
          generalize ss[k] = x at hat hok HNxS HOtS
          have HOkx := Lib.hid hok
          clear hok
          have hat2 := hat
          obtain ⟨p0, p1, p2, p3, p4, p5, p6⟩ := hat2
          have HNew : Hid (Cop2 (wr.alloc (.cells #[.int .i64 x.kind, .int .u64 (word x.set 0 : Nat), .int .u64 (word x.set 1 : Nat), .int .u64 (word x.set 2 : Nat), .int .u64 (word x.set 3 : Nat), .int .i64 x.next, .int .i64 x.other] tSt)) wr.heap.size x.kind (word x.set 0) (word x.set 1) (word x.set 2) (word x.set 3) x.next) := Lib.hid ⟨any_newC wr _ _ 0 _ rfl, any_newC wr _ _ 1 _ rfl, any_newC wr _ _ 2 _ rfl, any_newC wr _ _ 3 _ rfl, any_newC wr _ _ 4 _ rfl, any_newC wr _ _ 5 _ rfl⟩
          have HHas := Lib.hid (fun c w => Has_any x.set c w)
          unfold setV at HHas
          generalize word x.set 0 = x0 at p1 HNew HHas
          generalize word x.set 1 = x1 at p2 HNew HHas
          generalize word x.set 2 = x2 at p3 HNew HHas
          generalize word x.set 3 = x3 at p4 HNew HHas
          clear hat
          go_upto_region 13 with fail
          have HBa : Hid (Below wr.heap.size wr (wr.alloc (.cells #[.int .i64 x.kind, .int .u64 x0, .int .u64 x1, .int .u64 x2, .int .u64 x3, .int .i64 x.next, .int .i64 x.other] tSt))) := Lib.hid ((Below.refl _ _).alloc (Nat.le_refl _) _)
          generalize wr.alloc (.cells #[.int .i64 x.kind, .int .u64 x0, .int .u64 x1, .int .u64 x2, .int .u64 x3, .int .i64 x.next, .int .i64 x.other] tSt) = wa at HBa HNew ⊢
          have HW1 : Hid (InW w1 wa gn go gc wr.heap.size ln lo1 lc x.kind x0 x1 x2 x3 x.next) := Lib.hid ⟨HBn.out.of_block (HBa.out.block gn HBn.out.lt), HBo.out.of_block (HBa.out.block go HBo.out.lt), HBc.out.of_block (HBa.out.block gc HBc.out.lt), HBx.out.trans (HBa.out.mono HBx.out.size), HNew.out⟩
          have HNe : Hid (wr.heap.size ≠ go ∧ wr.heap.size ≠ gn) := Lib.hid ⟨by have := HBo.out.lt; omega, by have := HBn.out.lt; omega⟩
          generalize wr.heap.size = H at HW1 HNe ⊢
          clear p0 p1 p2 p3 p4 p5 p6 q0 HBa HBn HBo HBc HBx HNew
          have HNx0 : Hid (x.kind = 0 → 0 ≤ x.next ∧ x.next < (n : Int)) := Lib.hid (fun h => ok_next HOkx.out (.inl h))
          obtain ⟨m0, m1, m2, m3, m4, m5⟩ := HW1.out.p
          have c0 := HW1.out.c.bit (i := k) (by rw [HLc0.out]; exact hlk)
          go_cut [63] from 44 to 93 (fun v wx => ∃ cb : Bool, v = .bool cb ∧ Hid (InW w1 wx gn go gc H ln lo1 lc x.kind x0 x1 x2 x3 x.next) ∧ Hid (cb = (lc.getD k false && (x.kind == 4))))
          case first =>
            cases hb0 : lc.getD k false with
            | false =>
              rw [hb0] at c0
              go_wp2_with fail
              go_meet
              case rel => exact ⟨_, rfl, HW1, Lib.hid (by rw [hb0]; rfl)⟩
            | true =>
              rw [hb0] at c0
              go_wp2_with fail
              go_meet
              case rel => exact ⟨_, rfl, HW1, Lib.hid (by rw [hb0]; rfl)⟩
          case rest =>
            obtain ⟨cb, rfl, HW2, HCb⟩ := hcut
            clear HW1 c0 m0 m1 m2 m3 m4 m5
            go_upto_if 63 with fail
            go_cut [11] from 44 to 93 (fun tk wx => tk = .int .i64 (k : Int) ∧ ∃ lo2 : List Bool, Hid (InW w1 wx gn go gc H ln lo2 lc x.kind x0 x1 x2 x3 x.next) ∧ Hid (lo2.length = L + 1) ∧ Hid (∀ q, q ≤ L → (lo2.getD q false = true ↔ (lo1.getD q false = true ∨ (q = j ∧ lc.getD k false = true ∧ x.kind = 4)))))
            case first =>
              have hcb := HCb.out
              cases cb with
              | false =>
                have HCf : Hid (¬ (lc.getD k false = true ∧ x.kind = 4)) := Lib.hid (fun h => by rw [h.1, h.2] at hcb; cases hcb)
                clear hcb HCb
                go_wp2_with fail
                go_meet
                case rel => exact ⟨by go_num, lo1, HW2, HLo1, Lib.hid (fun q hq => ⟨.inl, fun h => h.elim id fun h => absurd h.2 HCf.out⟩)⟩
              | true =>
                have HCt : Hid (lc.getD k false = true ∧ x.kind = 4) := Lib.hid (by have h := hcb.symm; simp only [Bool.and_eq_true, beq_iff_eq] at h; exact h)
                clear hcb HCb
                have c1 := HW2.out.o.bit (i := j) (by rw [HLo1.out]; omega)
                have f1 := HW2.out.o.frozen j
                have z0 : (0 : Int) ≤ (j : Int) := by omega
                have z1 : (j : Int) < (L : Int) + 1 := by omega
                have HW3 := Lib.hid (HW2.out.setO (j := j) (by omega) (by omega) HNe.out.1 HG0.out.2 true)
                go_wp2_with fail
                go_meet
                case rel =>
                  refine ⟨by go_num, lo1.set j true, HW3, Lib.hid (by rw [List.length_set]; exact HLo1.out), Lib.hid (fun q hq => ?_)⟩
                  rw [getB_set _ _ _ (by rw [HLo1.out]; omega)]
                  by_cases e : q = j
                  · rw [if_pos e]; exact ⟨fun _ => .inr ⟨e, HCt.out⟩, fun _ => rfl⟩
                  · rw [if_neg e]; exact ⟨.inl, fun h => h.elim id fun h => absurd h.1 e⟩
            case rest =>
              obtain ⟨rfl, lo2, HW3, HLo2, HO2⟩ := hcut
              have HOt2 := Lib.hid (HOtS.out lo2 HO2.out)
              clear HW2 HCb HO2 HLo1 HOtS
              go_upto_region 15 with fail
              have c0 := HW3.out.c.bit (i := k) (by rw [HLc0.out]; exact hlk)
              obtain ⟨m0, m1, m2, m3, m4, m5⟩ := HW3.out.p
              go_cut [89] from 44 to 93 (fun v wx => ∃ cb : Bool, v = .bool cb ∧ Hid (InW w1 wx gn go gc H ln lo2 lc x.kind x0 x1 x2 x3 x.next) ∧ Hid (cb = true ↔ (lc.getD k false = true ∧ x.kind = 0 ∧ (∃ b, (Tx.bs s)[j]? = some b ∧ x.set b.toNat = true))))
              case first =>
                cases hb0 : lc.getD k false with
                | false =>
                  rw [hb0] at c0
                  clear HHas
                  go_quiet (fail)
                  go_wp2_with fail
                  go_meet
                  case rel => exact ⟨false, rfl, Lib.hid (HW3.out.drewN _), Lib.hid ⟨fun h => (by cases h), fun h => absurd (hb0.symm.trans h.1) (by decide)⟩⟩
                | true =>
                  rw [hb0] at c0
                  by_cases hk0 : x.kind = 0
                  · have e0 : (x.kind == 0) = true := by rw [hk0]; rfl
                    by_cases hjl : j < L
                    · have hjs : j < s.size := by rw [HL.out]; exact hjl
                      have hd1 : decide ((j : Int) < (L : Int)) = true := by simp only [decide_eq_true_eq]; omega
                      have j0 : (0 : Int) ≤ (j : Int) := by omega
                      have j1 : (j : Int) < (L : Int) := by omega
                      have HS1 := Lib.hid (And.intro c0 (And.intro m0 (And.intro m1 (And.intro m2 (And.intro m3 m4)))))
                      have HG1 := Lib.hid (HGet.out j hjs)
                      go_region_held3 (fun V => V.cell? ⟨gc, k, none⟩ = some (.bool true) ∧ V.cell? ⟨H, 0, none⟩ = some (.int .i64 x.kind) ∧ V.cell? ⟨H, 1, none⟩ = some (.int .u64 x0) ∧ V.cell? ⟨H, 2, none⟩ = some (.int .u64 x1) ∧ V.cell? ⟨H, 3, none⟩ = some (.int .u64 x2) ∧ V.cell? ⟨H, 4, none⟩ = some (.int .u64 x3)) (first | exact HS6.out | exact HS1.out) (first | (go_at_call 47; refine (HHas.out _ _).mono ?_; rintro e w6 ⟨rfl, B6⟩; have HS6 := Lib.hid (sel_below B6 HS1.out); have HW6 := Lib.hid (HW3.out.below ((Below.refl _ _).drew.trans B6)); clear B6))
                      all_goals
                        go_wp2_with fail
                        go_meet
                        case rel => exact ⟨_, rfl, HW6, Lib.hid ⟨fun h => ⟨hb0, hk0, _, HG1.out, h⟩, fun h => by
                          obtain ⟨_, _, b, hb, hset⟩ := h
                          rw [HG1.out] at hb
                          cases hb
                          exact hset⟩⟩
                    · have hd1 : decide ((j : Int) < (L : Int)) = false := by simp only [decide_eq_false_iff_not]; omega
                      clear HHas
                      go_quiet (fail)
                      go_wp2_with fail
                      go_meet
                      case rel => exact ⟨false, rfl, Lib.hid (HW3.out.drewN _), Lib.hid ⟨fun h => (by cases h), fun h => (by obtain ⟨_, _, b, hb, _⟩ := h; have := (List.getElem?_eq_some_iff.1 hb).1; rw [HLen.out, HL.out] at this; omega)⟩⟩
                  · have e0 : (x.kind == 0) = false := by rw [beq_eq_false_iff_ne]; exact hk0
                    clear HHas
                    go_quiet (fail)
                    go_wp2_with fail
                    go_meet
                    case rel => exact ⟨false, rfl, Lib.hid (HW3.out.drewN _), Lib.hid ⟨fun h => (by cases h), fun h => absurd h.2.1 hk0⟩⟩
              case rest =>
                obtain ⟨cb, rfl, HW4, HCb⟩ := hcut
                clear HW3 c0 m0 m1 m2 m3 m4 m5
                obtain ⟨m0, m1, m2, m3, m4, m5⟩ := HW4.out.p
                clear m0 m1 m2 m3 m4
                cases cb with
                | false =>
                  have HNx2 := Lib.hid (HNxS.out ln (fun y => ⟨.inl, fun h => h.elim id fun h => absurd (HCb.out.2 ⟨h.2.1, h.2.2.1, h.2.2.2.1⟩) (by decide)⟩))
                  go_wp2_with fail
                  go_roundw
                  case rel => exact ⟨k + 1, ln, lo2, by omega, by go_num, HLn, Lib.hid HW4.out.n, HNx2, Lib.hid HW4.out.o, HLo2, HOt2, Lib.hid HW4.out.c, Lib.hid HW4.out.b⟩
                  case measure => simp [intOf]; omega
                | true =>
                  have hct := HCb.out.1 rfl
                  have HCt := Lib.hid hct
                  obtain ⟨z, hz⟩ : ∃ z : Nat, x.next = (z : Int) := ⟨x.next.toNat, by have := HNx0.out hct.2.1; omega⟩
                  have hzn := HNx0.out hct.2.1
                  rw [hz] at m5 hzn
                  have hzt : x.next.toNat = z := by rw [hz]; omega
                  rw [hzt] at HNxS
                  have c1 := HW4.out.n.bit (i := z) (by rw [HLn.out]; omega)
                  have f1 := HW4.out.n.frozen z
                  have z0 : (0 : Int) ≤ (z : Int) := by omega
                  have z1 : (z : Int) < (n : Int) := by omega
                  have HNx2 := Lib.hid (HNxS.out (ln.set z true) (fun y => by
                    rw [getB_set _ _ _ (by rw [HLn.out]; omega)]
                    by_cases e : y = z
                    · rw [if_pos e]; exact ⟨fun _ => .inr ⟨by omega, HCt.out.1, HCt.out.2.1, HCt.out.2.2, e.symm⟩, fun _ => rfl⟩
                    · rw [if_neg e]; exact ⟨.inl, fun h => h.elim id fun h => absurd h.2.2.2.2.symm e⟩))
                  have HW5 := Lib.hid (HW4.out.setN (j := z) (by omega) (by omega) HNe.out.2 (by have := HG0.out; omega) true)
                  clear hzn hct hzt HCb hz
                  go_wp2_with fail
                  go_roundw
                  case rel => exact ⟨k + 1, ln.set z true, lo2, by omega, by go_num, Lib.hid (by rw [List.length_set]; exact HLn.out), Lib.hid HW5.out.n, HNx2, Lib.hid HW5.out.o, HLo2, HOt2, Lib.hid HW5.out.c, Lib.hid HW5.out.b⟩
                  case measure => simp [intOf]; omega
        · obtain rfl : k = n := by omega
          have hd2 : decide (k < k) = false := by simp only [decide_eq_false_iff_not]; omega
          have hw : IntKind.i64.wrap ((j : Int) + 1) = ((j + 1 : Nat) : Int) := by rw [IntWalk.i64_in _ (by omega)]; omega
          go_wp2_with fail
          go_roundw
          case rel =>
            have hj := HJ.out
            refine ⟨d + 1, gn, ln, lo1, by omega, by rw [show i + (d + 1) = j + 1 by omega]; go_num, rfl, by omega, HLn, HBn, Lib.hid (fun y => ?_), HBo, HLo1, Lib.hid (fun q hq => ?_), HBx⟩
            · have hN := HN.out
              rw [HNx.out y, HInS.out d y, ← hj]
              constructor
              · rintro ⟨h1, x, hx, h2, h3, h4⟩
                exact ⟨by omega, x, hx, (HGet2.out x h2).1 h3, h4⟩
              · rintro ⟨h1, x, hx, h3, h4⟩
                have h2 : x < k := by rw [HN.out] at hx; exact hx
                exact ⟨by omega, x, hx, h2, (HGet2.out x h2).2 h3, h4⟩
            · rw [HOt.out q hq, HOut.out q hq]
              constructor
              · rintro (⟨d', h1, h2, h3⟩ | ⟨h1, x, hx, h2, h3, h4⟩)
                · exact ⟨d', by omega, h2, h3⟩
                · exact ⟨d, by omega, by omega, x, hx, (HGet2.out x h2).1 h3, h4⟩
              · rintro ⟨d', h1, h2, h3⟩
                by_cases e : d' = d
                · subst e
                  obtain ⟨x, hx, h4, h5⟩ := h3
                  have h6 : x < k := by rw [HN.out] at hx; exact hx
                  exact .inr ⟨by omega, x, hx, h6, (HGet2.out x h6).2 h4, h5⟩
                · exact .inl ⟨d', by omega, h2, h3⟩
          case measure => simp [intOf]; omega
    · have hd2 : decide ((j : Int) ≤ (L : Int)) = false := by simp only [decide_eq_false_iff_not]; omega
      go_wp2_with fail
      go_ret
      refine ⟨lo, ⟨by rw [HLo.out, HLen.out, HL.out], fun q hq => ?_⟩, go, L + 1, ?_, HBo.out, by have := HG0.out; omega, HB0.out.trans (HBw.out.mono (by rw [HSz1.out]; omega))⟩
      · rw [HLen.out, HL.out] at hq
        rw [HOut.out q hq]
        have := HJ.out
        exact ⟨fun ⟨d', _, h⟩ => ⟨d', h⟩, fun ⟨d', h1, h2⟩ => ⟨d', by omega, h1, h2⟩⟩
      · rw [HLen.out, HL.out]; rfl
end Au
end
end Go.Proofs.Ytebljjdhgepfkaa

/-
  Closure: a list of states that grows until nothing is left, and its sorting. No program. No conditions. The program's Closure: its closure that adds a state. Conditions: a state's index; at most a million states found. The program's Closure. Conditions: a valid automaton; at most a million states to begin with. append onto ints that the call owns, with what the old slice still reads; closures of closures. Condition: few elements.
-/
import Derived.Test.YthoidaaldngpmaaAutoE
import Derived.Test.YthoidaaldngpmaaAutoC
import Derived.Test.YthoidaaldngpmaaShelf
import Derived.Sort.OwnSortedInts
import Derived.Deep.Cut
import Derived.Deep.CutRange
import Derived.Deep.Onto
import Derived.BigQuiet
import Derived.Deep.QuietTactic
namespace Go.Proofs.Ythoidaaldngpmaa
section
open Go.RowKit
namespace Au
open Cm Rx
open Classical in
/-- The closure, as a list. -/
noncomputable def closureL (ss : List St) (st en : Bool) (inn : Nat → Prop) : List Int := ((List.range ss.length).filter fun i => decide (Reach ss st en inn i)).map fun i : Nat => (i : Int)
open Classical in
theorem closure_mem {ss : List St} {st en : Bool} {inn : Nat → Prop} (x : Int) : x ∈ closureL ss st en inn ↔ ∃ k : Nat, x = (k : Int) ∧ k < ss.length ∧ Reach ss st en inn k := by
  unfold closureL
  rw [List.mem_map]
  constructor
  · rintro ⟨k, hk, rfl⟩
    rw [List.mem_filter, List.mem_range, decide_eq_true_iff] at hk
    exact ⟨k, rfl, hk.1, hk.2⟩
  · rintro ⟨k, rfl, h1, h2⟩
    exact ⟨k, by rw [List.mem_filter, List.mem_range, decide_eq_true_iff]; exact ⟨h1, h2⟩, rfl⟩
open Classical in
theorem closure_lt (ss : List St) (st en : Bool) (inn : Nat → Prop) : (closureL ss st en inn).Pairwise (· < ·) := by
  unfold closureL
  rw [List.pairwise_map]
  refine (List.pairwise_lt_range.filter _).imp fun h => ?_
  omega
theorem sort_eq {ss : List St} {st en : Bool} {inn : Nat → Prop} {fs : List Int} (hn : fs.Nodup) (hb : ∀ x ∈ fs, 0 ≤ x ∧ x < (ss.length : Int)) (hm : ∀ k : Nat, k < ss.length → ((k : Int) ∈ fs ↔ Reach ss st en inn k)) : (fs.mergeSort fun x y => decide (x ≤ y)) = closureL ss st en inn := by
  have hlt := closure_lt ss st en inn
  refine List.Perm.eq_of_pairwise (le := fun x y : Int => x ≤ y) (fun a b _ _ h1 h2 => by omega) ?_ (hlt.imp fun h => by omega) ?_
  · refine (List.pairwise_mergeSort (le := fun x y : Int => decide (x ≤ y)) (fun a b c h1 h2 => ?_) (fun a b => ?_) fs).imp fun h => of_decide_eq_true h
    · have h1 := of_decide_eq_true h1
      have h2 := of_decide_eq_true h2
      exact decide_eq_true (by omega)
    · rw [Bool.or_eq_true, decide_eq_true_iff, decide_eq_true_iff]
      omega
  · refine (List.mergeSort_perm fs _).trans ((List.perm_ext_iff_of_nodup hn (hlt.imp fun h => by omega)).2 fun x => ?_)
    rw [closure_mem]
    constructor
    · intro hx
      have h1 := hb x hx
      refine ⟨x.toNat, by omega, by omega, (hm x.toNat (by omega)).1 ?_⟩
      rw [show ((x.toNat : Nat) : Int) = x by omega]
      exact hx
    · rintro ⟨k, rfl, h1, h2⟩
      exact (hm k h1).2 h2
/-- The list so far: which states it has, and what of them is done. -/
structure Bfs (ss : List St) (st en : Bool) (inn : Nat → Prop) (l : List Bool) (fs : List Int) (q : Nat) : Prop where
  len : l.length = ss.length
  mem : ∀ k : Nat, l.getD k false = true ↔ (k : Int) ∈ fs
  bd : ∀ x ∈ fs, 0 ≤ x ∧ x < (ss.length : Int)
  nd : fs.Nodup
  sound : ∀ k : Nat, (k : Int) ∈ fs → Reach ss st en inn k
  done : ∀ i (h : i < fs.length), i < q → ∀ (hi : fs[i].toNat < ss.length), (passS ss[fs[i].toNat] st en = true → (ss[fs[i].toNat].next.toNat : Int) ∈ fs) ∧ (ss[fs[i].toNat].kind = 1 → (ss[fs[i].toNat].other.toNat : Int) ∈ fs)
theorem Bfs.add {ss : List St} {st en : Bool} {inn : Nat → Prop} {l : List Bool} {fs : List Int} {q k : Nat} (h : Bfs ss st en inn l fs q) (hk : k < ss.length) (hq : q ≤ fs.length) (hl : l.getD k false = false) (hr : Reach ss st en inn k) : Bfs ss st en inn (l.set k true) (fs ++ [(k : Int)]) q := by
  refine ⟨by rw [List.length_set]; exact h.len, fun j => ?_, fun x hx => ?_, ?_, fun j hj => ?_, fun i hi hiq hs => ?_⟩
  · rw [getB_set _ _ _ (by rw [h.len]; exact hk), List.mem_append, List.mem_singleton]
    by_cases e : j = k
    · rw [if_pos e]; exact ⟨fun _ => .inr (by omega), fun _ => rfl⟩
    · rw [if_neg e, h.mem j]; exact ⟨.inl, fun h2 => h2.elim id fun h3 => absurd (by omega) e⟩
  · rcases List.mem_append.1 hx with h1 | h1
    · exact h.bd x h1
    · rw [List.mem_singleton] at h1; omega
  · rw [List.nodup_append]
    refine ⟨h.nd, by simp, fun a ha b hb e => ?_⟩
    rw [List.mem_singleton] at hb
    subst e hb
    have := (h.mem k).2 ha
    rw [hl] at this; cases this
  · rcases List.mem_append.1 hj with h1 | h1
    · exact h.sound j h1
    · rw [List.mem_singleton] at h1
      have : j = k := by omega
      rw [this]; exact hr
  · have hi2 : i < fs.length := by omega
    have e : (fs ++ [(k : Int)])[i] = fs[i] := List.getElem_append_left hi2
    have hs2 : fs[i].toNat < ss.length := by rw [← e]; exact hs
    have h2 := h.done i hi2 hiq hs2
    simp only [e]
    exact ⟨fun h3 => List.mem_append.2 (.inl (h2.1 h3)), fun h3 => List.mem_append.2 (.inl (h2.2 h3))⟩
theorem Bfs.size {ss : List St} {st en : Bool} {inn : Nat → Prop} {l : List Bool} {fs : List Int} {q : Nat} (h : Bfs ss st en inn l fs q) : fs.length ≤ ss.length := by
  have h1 : (fs.map Int.toNat).Nodup := by
    rw [List.Nodup, List.pairwise_map]
    refine (List.Pairwise.and_mem.1 h.nd).imp fun h2 e => ?_
    obtain ⟨ha, hb, hne⟩ := h2
    have := h.bd _ ha
    have := h.bd _ hb
    exact hne (by omega)
  have h2 := List.Nodup.length_le_of_subset h1 (l₂ := List.range ss.length) (fun x hx => by
    obtain ⟨y, hy, rfl⟩ := List.mem_map.1 hx
    have := h.bd y hy
    exact List.mem_range.2 (by omega))
  rw [List.length_map, List.length_range] at h2
  exact h2
theorem Bfs.final {ss : List St} {st en : Bool} {inn : Nat → Prop} {l : List Bool} {fs : List Int} (h : Bfs ss st en inn l fs fs.length) (h0 : ∀ k, inn k → (k : Int) ∈ fs) : (fs.mergeSort fun x y => decide (x ≤ y)) = closureL ss st en inn := by
  refine sort_eq h.nd h.bd (fun k hk => ⟨h.sound k, fun hr => ?_⟩)
  have hin : ∀ {i : Nat}, Reach ss st en inn i → (i : Int) ∈ fs := fun {i} hr => by
    induction hr with
    | base h => exact h0 _ h
    | @next i hi _ hp ih =>
      obtain ⟨j, hj, e⟩ := List.mem_iff_getElem.1 ih
      have et : fs[j].toNat = i := by rw [e]; omega
      have h2 := h.done j hj hj (by rw [et]; exact hi)
      simp only [et] at h2
      exact h2.1 hp
    | @other i hi _ hp ih =>
      obtain ⟨j, hj, e⟩ := List.mem_iff_getElem.1 ih
      have et : fs[j].toNat = i := by rw [e]; omega
      have h2 := h.done j hj hj (by rw [et]; exact hi)
      simp only [et] at h2
      exact h2.2 hp
  exact hin hr
end Au
end
section
open Go.RowKit
namespace Au
open Cm Rx
abbrev tBools : TypeId := 69
abbrev tInts : TypeId := 30
theorem info_intC : (Try.prog.info? tInt).map (fun i => (i.zero, i.size, i.bytes)) = some (some (.int .i64 0), 1, 8) := by kernel_rfl
/-- What the closure has at hand: the marks, and the list. -/
structure ClI (wr : World) (lo base Bs Bf gs n : Nat) (l : List Bool) (fs : List Int) (vf : Value) : Prop where
  s : wr.heap[Bs]? = some (.cells #[.slice (some ⟨gs, 0, none⟩) n n] tBools (0, 0))
  f : wr.heap[Bf]? = some (.cells #[vf] tInts (0, 0))
  k : Blk wr gs tBool (boolsV l)
  o : wr.ownsRow base tInt 1 vf fs.length (intsV fs)
  d : Bs ≠ Bf ∧ gs ≠ Bs ∧ gs ≠ Bf ∧ lo ≤ Bs ∧ lo ≤ Bf ∧ lo ≤ gs ∧ Bs < base ∧ Bf < base ∧ gs < base ∧ lo ≤ base ∧ base ≤ wr.heap.size
  z : l.length = n
theorem ClI.below {wr wx : World} {lo base Bs Bf gs n : Nat} {l : List Bool} {fs : List Int} {vf : Value} (h : ClI wr lo base Bs Bf gs n l fs vf) (hb : Below wr.heap.size wr wx) : ClI wx lo base Bs Bf gs n l fs vf := by
  obtain ⟨d1, d2, d3, d4, d5, d6, d7, d8, d9, d10, d11⟩ := h.d
  exact ⟨(hb.block _ (lt_some h.s)).trans h.s, (hb.block _ (lt_some h.f)).trans h.f, h.k.of_block (hb.block _ h.k.lt), own_same h.o (fun j hj => hb.block j hj), ⟨d1, d2, d3, d4, d5, d6, d7, d8, d9, d10, by have := hb.size; omega⟩, h.z⟩
theorem ClI.mark {wr : World} {lo base Bs Bf gs n k : Nat} {l : List Bool} {fs : List Int} {vf : Value} (h : ClI wr lo base Bs Bf gs n l fs vf) : ClI (wr.setCell ⟨gs, k, none⟩ (.bool true)) lo base Bs Bf gs n (l.set k true) fs vf := by
  obtain ⟨d1, d2, d3, d4, d5, d6, d7, d8, d9, d10, d11⟩ := h.d
  exact ⟨(Below.heap_setCell _ _ _ _ (Ne.symm d2)).trans h.s, (Below.heap_setCell _ _ _ _ (Ne.symm d3)).trans h.f, h.k.setBit k true, ownsRow_setCell_below h.o (a := ⟨gs, k, none⟩) d9 _, ⟨d1, d2, d3, d4, d5, d6, d7, d8, d9, d10, by simp [World.setCell]; omega⟩, by rw [List.length_set]; exact h.z⟩
theorem ClI.grow {wr w1 : World} {lo base Bs Bf gs n : Nat} {l : List Bool} {fs : List Int} {vf v1 : Value} {x : Int} (h : ClI wr lo base Bs Bf gs n l fs vf) (hb : Below base wr w1) (ho : w1.ownsRow base tInt 1 v1 (fs.length + 1) (intsV fs ++ [.int .i64 x])) : ClI (w1.setCell ⟨Bf, 0, none⟩ v1) lo base Bs Bf gs n l (fs ++ [x]) v1 := by
  obtain ⟨d1, d2, d3, d4, d5, d6, d7, d8, d9, d10, d11⟩ := h.d
  have hf := set_block (o := 0) (u := v1) ((hb.block _ d8).trans h.f)
  refine ⟨(Below.heap_setCell _ _ _ _ d1).trans ((hb.block _ d7).trans h.s), hf, (h.k.of_block (hb.block _ d9)).of_block (Below.heap_setCell _ _ _ _ d3), ?_, ⟨d1, d2, d3, d4, d5, d6, d7, d8, d9, d10, by have := hb.size; simp [World.setCell]; omega⟩, h.z⟩
  have h2 := ownsRow_setCell_below ho (a := ⟨Bf, 0, none⟩) d8 v1
  rw [List.length_append, List.length_singleton, show intsV (fs ++ [x]) = intsV fs ++ [.int .i64 x] from by simp [intsV]]
  exact h2
/-- What adding a state leaves. -/
def Added (wr : World) (lo base Bs Bf gs n : Nat) (l : List Bool) (fs : List Int) (k : Nat) (e : Ending) (w' : World) : Prop :=
  e = .returned (.tuple #[]) ∧ Below lo wr w' ∧ ∃ vf, ClI w' lo base Bs Bf gs n (if l.getD k false = true then l else l.set k true) (if l.getD k false = true then fs else fs ++ [(k : Int)]) vf
set_option maxRecDepth 100000 in
set_option maxHeartbeats 1000000 in
theorem reach_any {wr : World} {lo base Bs Bf gs n : Nat} {l : List Bool} {fs : List Int} {vf : Value} (h : ClI wr lo base Bs Bf gs n l fs vf) (k : Nat) (hk : k < n) (hl : fs.length ≤ 1000000) :
    Calls Try.prog 65 #[.int .i64 (k : Int), .pointer (some ⟨Bs, 0, none⟩), .pointer (some ⟨Bf, 0, none⟩)] wr (Added wr lo base Bs Bf gs n l fs k) := by
  have HI := Lib.hid h
  have hb := h.k.bit (i := k) (by rw [h.z]; exact hk)
  have hfr := h.k.frozen k
  have c0 : wr.cell? ⟨Bs, 0, none⟩ = some (.slice (some ⟨gs, 0, none⟩) n n) := by simp [World.cell?, h.s]
  obtain ⟨Af, cf, rfl⟩ := own_form h.o
  have c1 : wr.cell? ⟨Bf, 0, none⟩ = some (.slice Af fs.length cf) := by simp [World.cell?, h.f]
  have hm := h.mark (k := k)
  have d := h.d
  have i0 : (0 : Int) ≤ (k : Int) := by omega
  have i1 : (k : Int) < (n : Int) := by omega
  clear h
  cases hx : l.getD k false with
  | true =>
    rw [hx] at hb
    have HX := Lib.hid hx
    clear hx hm d
    go_enter Try.func65, Try.ntmps65
    go_wp2_with fail
    go_end0
    exact ⟨rfl, Below.refl _ _, _, by rw [if_pos HX.out, if_pos HX.out]; exact HI.out⟩
  | false =>
    rw [hx] at hb
    have HX := Lib.hid hx
    have HM := Lib.hid hm
    have HD := Lib.hid d
    have hB1 : Below lo wr (wr.setCell ⟨gs, k, none⟩ (.bool true)) := (Below.refl _ _).setCell (p := ⟨gs, k, none⟩) (by have := HD.out; show lo ≤ gs; omega) _
    have HB1 := Lib.hid hB1
    clear hx hm d hB1
    go_enter Try.func65, Try.ntmps65
    go_upto_region 2 with fail
    generalize wr.setCell ⟨gs, k, none⟩ (.bool true) = w1 at HM HB1 ⊢
    have e1 : w1.cell? ⟨Bf, 0, none⟩ = some (.slice Af fs.length cf) := by simp [World.cell?, HM.out.f]
    have hbs : base ≤ w1.heap.size := by have := HM.out.d; omega
    clear hb hfr c0 c1
    go_wp2_with (at_builtin; refine app_one rfl Try.underlying30 info_intC rfl (by omega) (.tmp 12) (.tmp 14) rfl base fs.length (intsV fs) (.int .i64 (k : Int)) rfl _ _ rfl HM.out.o rfl rfl (by omega) hbs ?_; intro v4 w4 ho4 hb4 _; have HG := Lib.hid (HM.out.grow hb4 ho4); obtain ⟨A4, c4, hv4⟩ := own_form ho4; subst hv4; have hB := hb4.mono (B' := lo) (by have := HD.out; omega); have HB4 := Lib.hid (HB1.out.trans hB); have f4 := (hb4.cell (p := ⟨Bf, 0, none⟩) (by have := HD.out; simp only; omega)).trans e1; have g4 := (hb4.frozen (p := ⟨Bf, 0, none⟩) (by have := HD.out; simp only; omega)); have g5 : w1.frozen? ⟨Bf, 0, none⟩ = false := (by simp [World.frozen?, HM.out.f]); rw [g5] at g4; clear ho4 hb4 hB g5)
    go_end0
    exact ⟨rfl, HB4.out.setCell (p := ⟨Bf, 0, none⟩) (by have := HD.out; simp only; omega) _, _, by rw [if_neg (by rw [HX.out]; decide), if_neg (by rw [HX.out]; decide)]; exact HG.out⟩
end Au
end
section
open Go.RowKit
namespace Au
open Cm Rx
open Classical in
noncomputable def codeC (n : Nat) (us : List Int) : Int := if ∀ u ∈ us, 0 ≤ u ∧ u < (n : Int) then 0 else 3
/-- What Closure hands back. -/
def ClosPost (w : World) (ss : List St) (s e : Bool) (us : List Int) (x : Ending) (w' : World) : Prop :=
  ∃ v, x = .returned (.tuple #[v, .int .i64 (codeC ss.length us)]) ∧ Below w.heap.size w w' ∧ (codeC ss.length us = 3 → v = .slice none 0 0) ∧
    (codeC ss.length us = 0 → w'.ownsRow w.heap.size tInt 1 v (closureL ss s e fun k => (k : Int) ∈ us).length (intsV (closureL ss s e fun k => (k : Int) ∈ us)))
theorem codeC_T {n : Nat} {us : List Int} (h : ∀ u ∈ us, 0 ≤ u ∧ u < (n : Int)) : codeC n us = 0 := by unfold codeC; rw [if_pos h]
theorem codeC_F {n : Nat} {us : List Int} (h : ¬ ∀ u ∈ us, 0 ≤ u ∧ u < (n : Int)) : codeC n us = 3 := by unfold codeC; rw [if_neg h]
theorem blk_madeC (W : World) (n : Nat) : Blk (W.alloc (.cells (madeCells #[.bool false] n) tBool)) W.heap.size tBool (boolsV (List.replicate n false)) := by
  refine ⟨_, heap_new W _, fun i hi => ?_⟩
  have h2 := toList_madeCells_one (.bool false) n
  have h3 : (madeCells #[.bool false] n).toList[i]? = some (.bool false) := by
    rw [h2, List.getElem?_replicate, if_pos (by simpa [boolsV] using hi)]
  rw [Array.getElem?_toList] at h3
  rw [h3]
  simp [boolsV]
theorem Bfs.start (ss : List St) (st en : Bool) (inn : Nat → Prop) : Bfs ss st en inn (List.replicate ss.length false) [] 0 := by
  refine ⟨List.length_replicate .., fun k => ?_, fun x hx => (by cases hx), List.nodup_nil, fun k hk => (by cases hk), fun i h => absurd h (Nat.not_lt_zero _)⟩
  have e : (List.replicate ss.length false).getD k false = false := by
    rw [List.getD_eq_getElem?_getD, List.getElem?_replicate]
    split <;> rfl
  rw [e]
  exact ⟨fun h => (by cases h), fun h => by cases h⟩
/-- A state is added, if it is not there. -/
theorem Bfs.put {ss : List St} {st en : Bool} {inn : Nat → Prop} {l : List Bool} {fs : List Int} {q k : Nat} (h : Bfs ss st en inn l fs q) (hk : k < ss.length) (hq : q ≤ fs.length) (hr : Reach ss st en inn k) :
    Bfs ss st en inn (if l.getD k false = true then l else l.set k true) (if l.getD k false = true then fs else fs ++ [(k : Int)]) q ∧ (k : Int) ∈ (if l.getD k false = true then fs else fs ++ [(k : Int)]) ∧ ∀ x ∈ fs, x ∈ (if l.getD k false = true then fs else fs ++ [(k : Int)]) := by
  by_cases hl : l.getD k false = true
  · rw [if_pos hl, if_pos hl]
    exact ⟨h, (h.mem k).1 hl, fun x hx => hx⟩
  · rw [if_neg hl, if_neg hl]
    exact ⟨h.add hk hq (by cases hh : l.getD k false with | true => exact absurd hh hl | false => rfl) hr, List.mem_append.2 (.inr (List.mem_singleton.2 rfl)), fun x hx => List.mem_append.2 (.inl hx)⟩
theorem put_pre (l : List Bool) (fs : List Int) (k : Nat) : fs <+: (if l.getD k false = true then fs else fs ++ [(k : Int)]) := by
  split
  · exact List.prefix_refl _
  · exact List.prefix_append _ _
theorem pre_get {fs fs2 : List Int} (h : fs <+: fs2) (i : Nat) (hi : i < fs.length) : ∃ h2 : i < fs2.length, fs2[i] = fs[i] := by
  obtain ⟨t, rfl⟩ := h
  exact ⟨by rw [List.length_append]; omega, List.getElem_append_left hi⟩
set_option maxRecDepth 100000 in
set_option maxHeartbeats 1000000 in
theorem Closure_any {w : World} (ss : List St) (st : Int) (A : Option Addr) (c : Nat) (vu : Value) (us : List Int) (s e : Bool) (hr : RdA w (.slice A ss.length c) ss) (hv : ValidA ss st) (hu : RdV w vu (intsV us)) (hul : us.length ≤ 1000000) :
    Calls Try.prog 30 #[.agg #[.slice A ss.length c, .int .i64 st], vu, .bool s, .bool e] w (ClosPost w ss s e us) := by
  have HCk := Lib.hid (fun (w' : World) (hb : Below w.heap.size w w') => CheckA_any (.slice A ss.length c) ss st w' (hr.below hb) (by have := hv.1; omega))
  have HCt : Hid (checkA ss st = 0) := Lib.hid (checkA_T hv)
  rw [HCt.out] at HCk
  have HR := Lib.hid hr
  have HU := Lib.hid hu
  obtain ⟨h8, hst, hok⟩ := hv
  have HOk := Lib.hid hok
  have HB0 := Lib.hid (Bfs.start ss s e (fun k => (k : Int) ∈ us))
  obtain ⟨Au, cu, hue⟩ := hu.form
  rw [intsV_len] at hue
  subst hue
  have HCT := Lib.hid (codeC_T (n := ss.length) (us := us))
  have HCF := Lib.hid (codeC_F (n := ss.length) (us := us))
  clear hr hu hok hst
  have HEnd : Hid (∀ v w', Below w.heap.size w w' → codeC ss.length us = 3 → v = .slice none 0 0 → ClosPost w ss s e us (.returned (.tuple #[v, .int .i64 3])) w') := Lib.hid (fun v w' h1 h2 h3 => ⟨v, by rw [h2], h1, fun _ => h3, fun h => (by rw [h2] at h; cases h)⟩)
  have HFin : Hid (∀ v w', Below w.heap.size w w' → codeC ss.length us = 0 → w'.ownsRow w.heap.size tInt 1 v (closureL ss s e fun k => (k : Int) ∈ us).length (intsV (closureL ss s e fun k => (k : Int) ∈ us)) → ClosPost w ss s e us (.returned (.tuple #[v, .int .i64 0])) w') := Lib.hid (fun v w' h1 h2 h3 => ⟨v, by rw [h2], h1, fun h => (by rw [h2] at h; cases h), fun _ => h3⟩)
  have HInn : Hid (∀ k : Nat, (fun k : Nat => (k : Int) ∈ us) k ↔ (k : Int) ∈ us) := Lib.hid (fun _ => Iff.rfl)
  generalize ClosPost w ss s e us = Post at HEnd HFin ⊢
  generalize (fun k : Nat => (k : Int) ∈ us) = inn at HB0 HInn HFin
  obtain ⟨n, hn⟩ : ∃ n, n = ss.length := ⟨_, rfl⟩
  have HN := Lib.hid hn.symm
  rw [← hn] at h8 ⊢
  rw [HN.out] at HCk
  clear hn
  have hmk := make_bools n (by omega)
  go_enter Try.func30, Try.ntmps30
  go_upto_region 1 with fail
  have HB1 : Hid (Below w.heap.size w (w.alloc (.cells #[.slice A n c, .int .i64 st] 40))) := Lib.hid ((Below.refl _ _).alloc (Nat.le_refl _) _)
  have HX1 : Hid ((w.alloc (.cells #[.slice A n c, .int .i64 st] 40)).heap[w.heap.size]? = some (.cells #[.slice A n c, .int .i64 st] 40 (0, 0))) := Lib.hid (heap_new w _)
  have HS1 : Hid ((w.alloc (.cells #[.slice A n c, .int .i64 st] 40)).heap.size = w.heap.size + 1) := Lib.hid (by simp)
  generalize w.alloc (.cells #[.slice A n c, .int .i64 st] 40) = w1 at HB1 HX1 HS1 ⊢
  have c0 : w1.cell? ⟨w.heap.size, 0, none⟩ = some (.slice A n c) := by simp [World.cell?, HX1.out]
  have c1 : w1.cell? ⟨w.heap.size, 1, none⟩ = some (.int .i64 st) := by simp [World.cell?, HX1.out]
  go_wp2_with fail
  refine (HCk.out w1 HB1.out).mono ?_
  rintro x w2 ⟨rfl, hb2⟩
  have HB2 := Lib.hid hb2
  have HX2 := Lib.hid ((hb2.block _ (lt_some HX1.out)).trans HX1.out)
  have c0 : w2.cell? ⟨w.heap.size, 0, none⟩ = some (.slice A n c) := by simp [World.cell?, HX2.out]
  clear hb2 c1
  go_upto_region 7 with fail
  have HI0 : Hid (ClI (((w2.alloc (.cells (madeCells #[.bool false] n) tBool)).alloc (.cells #[.slice (some ⟨w2.heap.size, 0, none⟩) n n] tBools)).alloc (.cells #[.slice none 0 0] tInts)) w1.heap.size (w2.heap.size + 1 + 1 + 1) (w2.heap.size + 1) (w2.heap.size + 1 + 1) w2.heap.size n (List.replicate n false) [] (.slice none 0 0)) := Lib.hid (by
    have s1 : (w2.alloc (.cells (madeCells #[.bool false] n) tBool)).heap.size = w2.heap.size + 1 := by simp
    have s2 : ((w2.alloc (.cells (madeCells #[.bool false] n) tBool)).alloc (.cells #[.slice (some ⟨w2.heap.size, 0, none⟩) n n] tBools)).heap.size = w2.heap.size + 1 + 1 := by simp
    have a1 := blk_madeC w2 n
    have a2 := heap_new (w2.alloc (.cells (madeCells #[.bool false] n) tBool)) (.cells #[.slice (some ⟨w2.heap.size, 0, none⟩) n n] tBools)
    have a3 := heap_new ((w2.alloc (.cells (madeCells #[.bool false] n) tBool)).alloc (.cells #[.slice (some ⟨w2.heap.size, 0, none⟩) n n] tBools)) (.cells #[.slice none 0 0] tInts)
    rw [s1] at a2
    rw [s2] at a3
    have h12 := HB2.out.size
    refine ⟨(Below.heap_alloc _ _ _ (by rw [s2]; omega)).trans a2, a3, (a1.of_block (Below.heap_alloc _ _ _ (by rw [s1]; omega))).of_block (Below.heap_alloc _ _ _ (by rw [s2]; omega)), World.ownsRow_nil _ _ _ _, ⟨by omega, by omega, by omega, by omega, by omega, by omega, by omega, by omega, by omega, by omega, by simp⟩, List.length_replicate ..⟩)
  have HBw0 : Hid (Below w1.heap.size w1 (((w2.alloc (.cells (madeCells #[.bool false] n) tBool)).alloc (.cells #[.slice (some ⟨w2.heap.size, 0, none⟩) n n] tBools)).alloc (.cells #[.slice none 0 0] tInts))) := Lib.hid (((HB2.out.alloc HB2.out.size _).alloc (by have := HB2.out.size; simp; omega) _).alloc (by have := HB2.out.size; simp; omega) _)
  generalize ((w2.alloc (.cells (madeCells #[.bool false] n) tBool)).alloc (.cells #[.slice (some ⟨w2.heap.size, 0, none⟩) n n] tBools)).alloc (.cells #[.slice none 0 0] tInts) = w3 at HI0 HBw0 ⊢
  generalize w2.heap.size + 1 + 1 + 1 = base at HI0
  generalize w2.heap.size + 1 + 1 = Bf at HI0 ⊢
  generalize w2.heap.size + 1 = Bs at HI0 ⊢
  generalize w2.heap.size = gs at HI0 ⊢
  rw [HN.out] at HB0
  clear HX2 HB2 c0 hmk
  obtain ⟨nu, hnu⟩ : ∃ nu, nu = us.length := ⟨_, rfl⟩
  have HNu := Lib.hid hnu.symm
  rw [← hnu] at hul ⊢
  clear hnu
  go_wp2_with fail
  go_loopw [30] (fun i wr => ∃ (q : Nat) (l : List Bool) (fs : List Int) (vf : Value), q ≤ nu ∧ i = .int .i64 (q : Int) ∧ Hid (ClI wr w1.heap.size base Bs Bf gs n l fs vf) ∧ Hid (Bfs ss s e inn l fs 0) ∧ Hid (∀ j (h : j < us.length), j < q → us[j] ∈ fs) ∧ Hid (Below w1.heap.size w1 wr)) (fun i _ => nu - (intOf i).toNat)
  case atStart => exact ⟨0, _, _, _, Nat.zero_le _, by go_num, HI0, HB0, Lib.hid (fun j _ h => absurd h (Nat.not_lt_zero _)), HBw0⟩
  case round =>
    obtain ⟨q, l, fs, vf, hq, rfl, HI, HBf, HAll, HBw⟩ := hrel
    have hX : wr.heap[w.heap.size]? = some (.cells #[.slice A n c, .int .i64 st] 40 (0, 0)) := (HBw.out.block _ (lt_some HX1.out)).trans HX1.out
    have b0 : wr.cell? ⟨w.heap.size, 0, none⟩ = some (.slice A n c) := by simp [World.cell?, hX]
    have b1 : wr.cell? ⟨w.heap.size, 1, none⟩ = some (.int .i64 st) := by simp [World.cell?, hX]
    clear hX
    by_cases hlt : q < nu
    · have hx : q < us.length := by rw [HNu.out]; exact hlt
      obtain ⟨_, bu, ou, rfl, hcu⟩ := HU.out.at (by rw [intsV_len]; omega)
      have hc0 := hcu q (by rw [intsV_len]; exact hx)
      have hcv : (intsV us)[q]'(by rw [intsV_len]; exact hx) = .int .i64 us[q] := by simp [intsV]
      rw [hcv] at hc0
      have hcl := Tx.cell_lt hc0
      have u0 : wr.cell? ⟨bu, ou + q, none⟩ = some (.int .i64 us[q]) := (((HB1.out.trans (HBw.out.mono HB1.out.size))).cell (p := ⟨bu, ou + q, none⟩) hcl).trans hc0
      have HMem : Hid (us[q] ∈ us) := Lib.hid (List.getElem_mem hx)
      have HAllS : Hid (∀ fs2 : List Int, (∀ x ∈ fs, x ∈ fs2) → us[q] ∈ fs2 → ∀ j (h : j < us.length), j < q + 1 → us[j] ∈ fs2) := Lib.hid (fun fs2 h1 h2 j hj hjq => by
        by_cases ej : j = q
        · subst ej; exact h2
        · exact h1 _ (HAll.out j hj (by omega)))
      generalize us[q] = uq at u0 HMem HAllS
      have i0 : (0 : Int) ≤ (q : Int) := by omega
      have i1 : (q : Int) < (nu : Int) := by omega
      clear hcu hc0 hcv
      by_cases hin : 0 ≤ uq ∧ uq < (n : Int)
      · obtain ⟨z, rfl⟩ : ∃ z : Nat, uq = (z : Int) := ⟨uq.toNat, by omega⟩
        have hzn : z < n := by omega
        have HHas := Lib.hid (has_any A n c st (z : Int) wr)
        have hhb : hasB n (z : Int) = true := decide_eq_true hin
        rw [hhb] at HHas
        have HPut := Lib.hid (HBf.out.put (by rw [HN.out]; exact hzn) (Nat.zero_le _) (.base ((HInn.out z).2 HMem.out)))
        have hfl : fs.length ≤ 1000000 := by have := HBf.out.size; rw [HN.out] at this; omega
        clear hhb
        go_wp2_with fail
        refine HHas.out.mono ?_
        rintro x w5 ⟨rfl, hb5⟩
        have HR5 := Lib.hid (reach_any (HI.out.below hb5) z hzn hfl)
        have HB5 := Lib.hid (HBw.out.trans (hb5.mono HBw.out.size))
        clear hb5
        go_wp2_with fail
        refine HR5.out.mono ?_
        rintro x w6 ⟨rfl, hb6, vf6, hi6⟩
        have HI6 := Lib.hid hi6
        have HB6 := Lib.hid (HB5.out.trans hb6)
        clear hb6 hi6
        generalize (if l.getD z false = true then l else l.set z true) = l2 at HI6 HPut
        generalize (if l.getD z false = true then fs else fs ++ [(z : Int)]) = fs2 at HI6 HPut
        have HAll2 := Lib.hid (HAllS.out fs2 HPut.out.2.2 HPut.out.2.1)
        go_wp2_with fail
        go_roundw
        case rel => exact ⟨q + 1, l2, fs2, vf6, by omega, by go_num, HI6, Lib.hid HPut.out.1, HAll2, HB6⟩
        case measure => simp [intOf]; omega
      · have HHas := Lib.hid (has_any A n c st uq wr)
        have hhb : hasB n uq = false := decide_eq_false hin
        rw [hhb] at HHas
        have HC3 := Lib.hid (HCF.out (fun h => hin (by have := h uq HMem.out; rw [HN.out] at this; exact this)))
        clear hhb
        go_wp2_with fail
        refine HHas.out.mono ?_
        rintro x w5 ⟨rfl, hb5⟩
        have HB5 := Lib.hid (HB1.out.trans ((HBw.out.trans (hb5.mono HBw.out.size)).mono HB1.out.size))
        clear hb5
        go_wp2_with fail
        exact HEnd.out _ _ HB5.out HC3.out rfl
    · obtain rfl : q = nu := by omega
      have hd : decide (q < q) = false := by simp only [decide_eq_false_iff_not]; omega
      have HIn2 : Hid (∀ k : Nat, inn k → (k : Int) ∈ fs) := Lib.hid (fun k hk => by
        obtain ⟨j, hj, ej⟩ := List.mem_iff_getElem.1 ((HInn.out k).1 hk)
        have := HAll.out j hj (by rw [HNu.out] at hj; exact hj)
        rw [ej] at this
        exact this)
      have HC0 : Hid (codeC ss.length us = 0) := Lib.hid (HCT.out (fun u hu => by
        obtain ⟨j, hj, ej⟩ := List.mem_iff_getElem.1 hu
        have := HBf.out.bd _ (HAll.out j hj (by rw [HNu.out] at hj; exact hj))
        rw [ej] at this
        exact this))
      clear b0 b1 HAll HCT HCF HEnd HCk
      go_wp2_with fail
      go_loopw [16] (fun i wr => ∃ (q : Nat) (l : List Bool) (fs : List Int) (vf : Value), q ≤ fs.length ∧ fs.length ≤ n ∧ i = .int .i64 (q : Int) ∧ Hid (ClI wr w1.heap.size base Bs Bf gs n l fs vf) ∧ Hid (Bfs ss s e inn l fs q) ∧ Hid (∀ k : Nat, inn k → (k : Int) ∈ fs) ∧ Hid (Below w1.heap.size w1 wr)) (fun i _ => n + 1 - (intOf i).toNat)
      case atStart => exact ⟨0, l, fs, vf, Nat.zero_le _, by have := HBf.out.size; rw [HN.out] at this; exact this, by go_num, HI, HBf, HIn2, HBw⟩
      case round =>
        clear HI HBf HIn2 HBw
        obtain ⟨q, l, fs, vf, hq, hfn, rfl, HI, HBf, HIn2, HBw⟩ := hrel
        obtain ⟨Af, cf, rfl⟩ := own_form HI.out.o
        have e1 : wr.cell? ⟨Bf, 0, none⟩ = some (.slice Af fs.length cf) := by simp [World.cell?, HI.out.f]
        by_cases hlt : q < fs.length
        · have hbd := HBf.out.bd _ (List.getElem_mem hlt)
          rw [HN.out] at hbd
          have hX : wr.heap[w.heap.size]? = some (.cells #[.slice A n c, .int .i64 st] 40 (0, 0)) := (HBw.out.block _ (lt_some HX1.out)).trans HX1.out
          have b0 : wr.cell? ⟨w.heap.size, 0, none⟩ = some (.slice A n c) := by simp [World.cell?, hX]
          obtain ⟨gf, cf2, cur, ef, _, _⟩ := own_some HI.out.o (by omega)
          injection ef with ef1 ef2 ef3
          subst ef1 ef3
          have c2 := HI.out.o.cellAt q (by omega)
          have hcv : (intsV fs)[q]? = some (.int .i64 fs[q]) := by simp [intsV, hlt]
          rw [hcv] at c2
          have HSnd := Lib.hid (fun (z : Nat) (h : fs[q] = (z : Int)) => HBf.out.sound z (h ▸ List.getElem_mem hlt))
          have HDn : Hid (∀ (l2 : List Bool) (fs2 : List Int), Bfs ss s e inn l2 fs2 q → (∀ i (h : i < fs.length), ∃ h2 : i < fs2.length, fs2[i] = fs[i]) → (∀ (hi : fs[q].toNat < ss.length), (passS ss[fs[q].toNat] s e = true → (ss[fs[q].toNat].next.toNat : Int) ∈ fs2) ∧ (ss[fs[q].toNat].kind = 1 → (ss[fs[q].toNat].other.toNat : Int) ∈ fs2)) → Bfs ss s e inn l2 fs2 (q + 1)) := Lib.hid (fun l2 fs2 h1 h2 h3 => ⟨h1.len, h1.mem, h1.bd, h1.nd, h1.sound, fun i hi hiq hs => by
            by_cases ei : i = q
            · subst ei
              obtain ⟨h4, h5⟩ := h2 i hlt
              simp only [h5] at hs ⊢
              exact h3 hs
            · exact h1.done i hi (by omega) hs⟩)
          generalize fs[q] = fq at hbd c2 HSnd HDn
          obtain ⟨z, rfl⟩ : ∃ z : Nat, fq = (z : Int) := ⟨fq.toNat, by omega⟩
          have hzn : z < n := by omega
          have hz : z < ss.length := by rw [HN.out]; exact hzn
          obtain ⟨A', c', e', hA⟩ := HR.out
          cases e'
          obtain ⟨b, off, rfl, hA1⟩ := hA (by omega)
          have HAt1 := Lib.hid ((hA1 z hz).below HB1.out)
          have hat := HAt1.out.below HBw.out
          have HOkz := Lib.hid (HOk.out z hz)
          rw [HN.out] at HOkz
          have HRz := Lib.hid (HSnd.out z rfl)
          have HRn : Hid (passS ss[z] s e = true → Reach ss s e inn ss[z].next.toNat) := Lib.hid (fun h => .next hz HRz.out h)
          have HRo : Hid (ss[z].kind = 1 → Reach ss s e inn ss[z].other.toNat) := Lib.hid (fun h => .other hz HRz.out h)
          have HDz : Hid (∀ (l2 : List Bool) (fs2 : List Int), Bfs ss s e inn l2 fs2 q → (∀ i (h : i < fs.length), ∃ h2 : i < fs2.length, fs2[i] = fs[i]) → (passS ss[z] s e = true → (ss[z].next.toNat : Int) ∈ fs2) → (ss[z].kind = 1 → (ss[z].other.toNat : Int) ∈ fs2) → Bfs ss s e inn l2 fs2 (q + 1)) := Lib.hid (fun l2 fs2 h1 h2 h3 h4 => HDn.out l2 fs2 h1 h2 (fun hi => ⟨h3, h4⟩))
          clear hA hA1 HDn HSnd hX hcv
          generalize ss[z] = x at hat HAt1 HOkz HRn HRo HDz
          obtain ⟨p0, p1, p2, p3, p4, p5, p6⟩ := hat
          have i0 : (0 : Int) ≤ (q : Int) := by omega
          have i1 : (q : Int) < (fs.length : Int) := by omega
          have z0 : (0 : Int) ≤ (z : Int) := by omega
          have z1 : (z : Int) < (n : Int) := by omega
          clear p1 p2 p3 p4
          go_upto_region 17 with fail
          go_cut [17] from 42 to 96 (fun v wx => v = .pointer (some ⟨b, off + z * 7, none⟩) ∧ Hid (ClI wx w1.heap.size base Bs Bf gs n l fs (.slice (some ⟨gf, 0, none⟩) fs.length cf)) ∧ Hid (Below w1.heap.size w1 wx))
          case first =>
            go_quiet (fail)
            go_wp2_with fail
            go_meet
            case rel => exact ⟨rfl, Lib.hid (HI.out.below (below_drewN (Below.refl _ _) _)), Lib.hid (below_drewN HBw.out _)⟩
          case rest =>
            obtain ⟨rfl, HI2, HBw2⟩ := hcut
            clear HI HBw p0 p5 p6 b0 c2 e1
            have p0 := (HAt1.out.below HBw2.out).1
            go_upto_region 18 with fail
            go_cut [79] from 42 to 96 (fun v wx => ∃ cb : Bool, v = .bool cb ∧ Hid (ClI wx w1.heap.size base Bs Bf gs n l fs (.slice (some ⟨gf, 0, none⟩) fs.length cf)) ∧ Hid (Below w1.heap.size w1 wx) ∧ Hid (cb = passS x s e))
            case first =>
              clear HRn HRo HDz HFin
              rcases ok_kind HOkz.out with hk | hk | hk | hk | hk
              · have e1 : (x.kind == 1) = false := by rw [hk]; rfl
                have e2 : (x.kind == 2) = false := by rw [hk]; rfl
                have e3 : (x.kind == 3) = false := by rw [hk]; rfl
                clear hk
                have hps : passS x s e = false := by unfold passS; rw [e1, e2, e3]; cases s <;> cases e <;> rfl
                go_wp2_with fail
                go_meet
                case rel => exact ⟨_, rfl, HI2, HBw2, Lib.hid hps.symm⟩
              · have e1 : (x.kind == 1) = true := by rw [hk]; rfl
                have e2 : (x.kind == 2) = false := by rw [hk]; rfl
                have e3 : (x.kind == 3) = false := by rw [hk]; rfl
                clear hk
                have hps : passS x s e = true := by unfold passS; rw [e1, e2, e3]; rfl
                go_wp2_with fail
                go_meet
                case rel => exact ⟨_, rfl, HI2, HBw2, Lib.hid hps.symm⟩
              · have e1 : (x.kind == 1) = false := by rw [hk]; rfl
                have e2 : (x.kind == 2) = true := by rw [hk]; rfl
                have e3 : (x.kind == 3) = false := by rw [hk]; rfl
                clear hk
                cases s with
                | true =>
                  have hps : passS x true e = true := by unfold passS; rw [e1, e2, e3]; rfl
                  go_wp2_with fail
                  go_meet
                  case rel => exact ⟨_, rfl, HI2, HBw2, Lib.hid hps.symm⟩
                | false =>
                  have hps : passS x false e = false := by unfold passS; rw [e1, e2, e3]; rfl
                  go_wp2_with fail
                  go_meet
                  case rel => exact ⟨_, rfl, HI2, HBw2, Lib.hid hps.symm⟩
              · have e1 : (x.kind == 1) = false := by rw [hk]; rfl
                have e2 : (x.kind == 2) = false := by rw [hk]; rfl
                have e3 : (x.kind == 3) = true := by rw [hk]; rfl
                clear hk
                cases e with
                | true =>
                  have hps : passS x s true = true := by unfold passS; rw [e1, e2, e3]; cases s <;> rfl
                  go_wp2_with fail
                  go_meet
                  case rel => exact ⟨_, rfl, HI2, HBw2, Lib.hid hps.symm⟩
                | false =>
                  have hps : passS x s false = false := by unfold passS; rw [e1, e2, e3]; cases s <;> rfl
                  go_wp2_with fail
                  go_meet
                  case rel => exact ⟨_, rfl, HI2, HBw2, Lib.hid hps.symm⟩
              · have e1 : (x.kind == 1) = false := by rw [hk]; rfl
                have e2 : (x.kind == 2) = false := by rw [hk]; rfl
                have e3 : (x.kind == 3) = false := by rw [hk]; rfl
                clear hk
                have hps : passS x s e = false := by unfold passS; rw [e1, e2, e3]; cases s <;> cases e <;> rfl
                go_wp2_with fail
                go_meet
                case rel => exact ⟨_, rfl, HI2, HBw2, Lib.hid hps.symm⟩
            case rest =>
              clear HI2 HBw2 p0
              obtain ⟨cb, rfl, HI3, HBw3, HCb⟩ := hcut
              go_upto_if 79 with fail
              go_cut [17] from 42 to 96 (fun v wx => v = .pointer (some ⟨b, off + z * 7, none⟩) ∧ ∃ (l2 : List Bool) (fs2 : List Int) (vf2 : Value), Hid (ClI wx w1.heap.size base Bs Bf gs n l2 fs2 vf2) ∧ Hid (Bfs ss s e inn l2 fs2 q) ∧ Hid (fs <+: fs2) ∧ Hid (passS x s e = true → (x.next.toNat : Int) ∈ fs2) ∧ Hid (Below w1.heap.size w1 wx))
              case first =>
                cases cb with
                | false =>
                  go_wp2_with fail
                  go_meet
                  case rel => exact ⟨rfl, l, fs, _, HI3, HBf, Lib.hid (List.prefix_refl _), Lib.hid (fun h => by have := HCb.out; rw [h] at this; cases this), HBw3⟩
                | true =>
                  have hps : passS x s e = true := HCb.out.symm
                  have hnx := ok_next HOkz.out (by unfold passS at hps; simp only [Bool.or_eq_true, Bool.and_eq_true, beq_iff_eq] at hps; omega)
                  have HRx := Lib.hid (HRn.out hps)
                  obtain ⟨y, hy⟩ : ∃ y : Nat, x.next = (y : Int) := ⟨x.next.toNat, by omega⟩
                  have hyt : x.next.toNat = y := by rw [hy]; omega
                  rw [hyt] at HRx
                  have hyn : y < n := by omega
                  have p5 := (HAt1.out.below HBw3.out).2.2.2.2.2.1
                  rw [hy] at p5
                  have HPut := Lib.hid (HBf.out.put (by rw [HN.out]; exact hyn) hq HRx.out)
                  have HPre := Lib.hid (put_pre l fs y)
                  have HYt := Lib.hid hyt
                  have HR3 := Lib.hid (reach_any HI3.out y hyn (by omega))
                  clear hps hnx hy hyt HRn HRo HDz HFin
                  go_wp2_with fail
                  refine HR3.out.mono ?_
                  rintro x6 w6 ⟨rfl, hb6, vf6, hi6⟩
                  have HI6 := Lib.hid hi6
                  have HB6 := Lib.hid (HBw3.out.trans hb6)
                  clear hb6 hi6
                  generalize (if l.getD y false = true then l else l.set y true) = l2 at HI6 HPut
                  generalize (if l.getD y false = true then fs else fs ++ [(y : Int)]) = fs2 at HI6 HPut HPre
                  go_wp2_with fail
                  go_meet
                  case rel => exact ⟨rfl, l2, fs2, vf6, HI6, Lib.hid HPut.out.1, HPre, Lib.hid (fun _ => by rw [HYt.out]; exact HPut.out.2.1), HB6⟩
              case rest =>
                clear HI3 HBw3 HCb
                obtain ⟨rfl, l2, fs2, vf2, HI4, HBf4, HPre4, HNx4, HBw4⟩ := hcut
                have p0 := (HAt1.out.below HBw4.out).1
                have hpl := HPre4.out.length_le
                have hsz := HBf4.out.size
                rw [HN.out] at hsz
                by_cases hk : x.kind = 1
                · have e1 : (x.kind == 1) = true := by rw [hk]; rfl
                  have hnx := ok_other HOkz.out hk
                  have HRx := Lib.hid (HRo.out hk)
                  obtain ⟨y, hy⟩ : ∃ y : Nat, x.other = (y : Int) := ⟨x.other.toNat, by omega⟩
                  have hyt : x.other.toNat = y := by rw [hy]; omega
                  rw [hyt] at HRx
                  have hyn : y < n := by omega
                  have p6 := (HAt1.out.below HBw4.out).2.2.2.2.2.2
                  rw [hy] at p6
                  have HPut := Lib.hid (HBf4.out.put (by rw [HN.out]; exact hyn) (by omega) HRx.out)
                  have HPre := Lib.hid (put_pre l2 fs2 y)
                  have HYt := Lib.hid hyt
                  have HR3 := Lib.hid (reach_any HI4.out y hyn (by omega))
                  clear hk hnx hy hyt HRn HRo HFin
                  go_wp2_with fail
                  refine HR3.out.mono ?_
                  rintro x6 w6 ⟨rfl, hb6, vf6, hi6⟩
                  have HI6 := Lib.hid hi6
                  have HB6 := Lib.hid (HBw4.out.trans hb6)
                  clear hb6 hi6
                  generalize (if l2.getD y false = true then l2 else l2.set y true) = l3 at HI6 HPut
                  generalize (if l2.getD y false = true then fs2 else fs2 ++ [(y : Int)]) = fs3 at HI6 HPut HPre
                  have HDo := Lib.hid (HDz.out l3 fs3 HPut.out.1 (pre_get (HPre4.out.trans HPre.out)) (fun h => HPut.out.2.2 _ (HNx4.out h)) (fun _ => by rw [HYt.out]; exact HPut.out.2.1))
                  have hs3 := HDo.out.size
                  rw [HN.out] at hs3
                  have hp3 := HPre.out.length_le
                  have HIn3 : Hid (∀ k : Nat, inn k → (k : Int) ∈ fs3) := Lib.hid (fun k hk => HPut.out.2.2 _ (HPre4.out.subset (HIn2.out k hk)))
                  go_wp2_with fail
                  go_roundw
                  case rel => exact ⟨q + 1, l3, fs3, vf6, by omega, hs3, by go_num, HI6, HDo, HIn3, HB6⟩
                  case measure => simp [intOf]; omega
                · have e1 : (x.kind == 1) = false := by rw [beq_eq_false_iff_ne]; exact hk
                  have HDo := Lib.hid (HDz.out l2 fs2 HBf4.out (pre_get HPre4.out) HNx4.out (fun h => absurd h hk))
                  have HIn3 : Hid (∀ k : Nat, inn k → (k : Int) ∈ fs2) := Lib.hid (fun k hk => HPre4.out.subset (HIn2.out k hk))
                  clear hk HRn HRo HFin
                  go_wp2_with fail
                  go_roundw
                  case rel => exact ⟨q + 1, l2, fs2, vf2, by omega, hsz, by go_num, HI4, HDo, HIn3, HBw4⟩
                  case measure => simp [intOf]; omega
        · obtain rfl : q = fs.length := by omega
          have hd : decide ((fs.length : Int) < (fs.length : Int)) = false := by simp only [decide_eq_false_iff_not]; omega
          have HC0' := HC0
          clear hd
          obtain ⟨ts, hts⟩ : ∃ ts, ts = fs.mergeSort fun x y => decide (x ≤ y) := ⟨_, rfl⟩
          have hsrt := HBf.out.final HIn2.out
          have htl : ts.length = fs.length := by rw [hts]; exact List.length_mergeSort _
          rw [← hts] at hsrt
          have hd : decide ((fs.length : Int) < (fs.length : Int)) = false := by simp only [decide_eq_false_iff_not]; omega
          have HF2 : Hid (∀ v w', Below w.heap.size w w' → w'.ownsRow w.heap.size tInt 1 v fs.length (intsV ts) → Post (.returned (.tuple #[v, .int .i64 0])) w') := Lib.hid (fun v w' h1 h2 => HFin.out v w' h1 HC0.out (by rw [← hsrt, htl]; exact h2))
          have HTl := Lib.hid htl
          have HTs := Lib.hid hts
          clear hsrt htl hts HFin HC0'
          have hlo : w.heap.size ≤ w1.heap.size := HB1.out.size
          have HBww := Lib.hid (HB1.out.trans (HBw.out.mono HB1.out.size))
          rcases HI.out.o.2 with ⟨ef, h0⟩ | ⟨g, cap, cur, ef, hbg, hh, hc1, hc2, hc3, hc4⟩
          · have hfs : fs = [] := List.eq_nil_of_length_eq_zero h0
            subst hfs
            injection ef with ef1 _ ef3
            subst ef1 ef3
            have HSrt := Lib.hid (Try.slices_Sort_int_none none 0 wr)
            have HO : Hid (wr.ownsRow w.heap.size tInt 1 (.slice none 0 0) 0 (intsV ts)) := Lib.hid (by
              have : ts = [] := List.eq_nil_of_length_eq_zero HTl.out
              rw [this]
              exact World.ownsRow_nil _ _ _ _)
            clear h0
            go_wp2_with fail
            refine HSrt.out.mono ?_
            rintro x w5 ⟨rfl, rfl⟩
            go_wp2_with fail
            exact HF2.out _ _ HBww.out HO.out
          · injection ef with ef1 _ ef3
            subst ef1 ef3
            have hH := holds_of_blockI (ss := fs) hh (by rw [Nat.mul_one] at hc4; exact hc4)
            have HSrt := Lib.hid (Try.slices_Sort_int g 0 cf fs wr hH (lt_some hh) (by omega))
            rw [← HTs.out] at HSrt
            have HDd := Lib.hid HI.out.d
            have HOw : Hid (∀ nn os, (Go.Sort.grow (Go.Sort.putRow (Value.int .i64) (Go.Sort.ahead wr nn) g 0 ts.toArray) os).ownsRow w.heap.size tInt 1 (.slice (some ⟨g, 0, none⟩) fs.length cf) fs.length (intsV ts)) := Lib.hid (fun nn os => World.ownsRow.mono (ownsRow_sortedI HTl.out hbg hh hc1 hc2 hc3) (by have := HDd.out; omega))
            have HGr : Hid (∀ nn os, wr.grownBy (Go.Sort.grow (Go.Sort.putRow (Value.int .i64) (Go.Sort.ahead wr nn) g 0 ts.toArray) os) (some g)) := Lib.hid (fun nn os => grownBy_sortedI ts.toArray)
            have HBg : Hid (base ≤ g) := Lib.hid hbg
            have HBfl := Lib.hid (lt_some HI.out.f)
            clear hH hh hc1 hc2 hc3 hc4 hbg
            go_wp2_with fail
            refine HSrt.out.mono ?_
            rintro x w5 ⟨rfl, nn, os, rfl⟩
            have HO5 := Lib.hid (HOw.out nn os)
            have hg5 := HGr.out nn os
            have hf5 := hg5.block Bf HBfl.out (fun e => by injection e with e; have := HDd.out; have := HBg.out; omega)
            have HB5 := Lib.hid (HBww.out.grown hg5 HBww.out.size (fun k e => by injection e with e; have := HDd.out; have := HBg.out; omega))
            have e5 := (World.cell?_of_block (a := ⟨Bf, 0, none⟩) hf5).trans e1
            generalize Go.Sort.grow (Go.Sort.putRow (Value.int .i64) (Go.Sort.ahead wr nn) g 0 ts.toArray) os = w5 at HO5 HB5 e5 ⊢
            clear hg5 hf5 e1
            go_wp2_with fail
            exact HF2.out _ _ HB5.out HO5.out
end Au
end
section
open Go.RowKit
namespace Au
open Cm Rx
section
variable {ops : Array Oper} {rest : List Oper} {o : Oper} {a : Act} {Q : Exit → Act → World → Prop} {w : World}
theorem run_keep (w0 : World) (C : Array Value) (x : Int) (hC : C.toList = [.int .i64 x]) (ty : TypeId) (base n : Nat) (l : List Value) (v : Value) (hown : w0.ownsRow base tInt 1 v n l) (hsz : n + 1 ≤ 100000000) (hbase : base ≤ w0.heap.size) :
    ∃ v' w', (Builtin.append_ #[tInts, tInts] ty #[v, .slice (some ⟨w0.heap.size, 0, none⟩) 1 1]).run Try.prog (w0.alloc (.cells C tInt)) = .ok v' w' ∧ w'.ownsRow base tInt 1 v' (n + 1) (l ++ [.int .i64 x]) ∧ (w0.alloc (.cells C tInt)).grownBy w' v.ownBlock ∧ RdV w' v l := by
  obtain ⟨i0, hi0, hz0, hz1, hz2⟩ := info_parts info_intC
  have hsize : (w0.alloc (.cells C tInt)).heap.size = w0.heap.size + 1 := by simp
  have hnews : ∀ j u, ([.int .i64 x] : List Value)[j]? = some u → (w0.alloc (.cells C tInt)).cell? ((⟨w0.heap.size, 0, none⟩ : Addr).add j) = some u := fun j y hy => by
    have he : (Addr.mk w0.heap.size 0 none).add j = ⟨w0.heap.size, j, none⟩ := by
      unfold Addr.add; split
      · rename_i h0; rw [h0]
      · simp
    rw [he, World.cell?_alloc_mark, ← hy, ← hC]; simp
  have hone : ∀ u ∈ ([.int .i64 x] : List Value), u.oneCell' = true := fun u hu => by
    rw [List.mem_singleton] at hu; subst hu; rfl
  have hown2 := hown.alloc (.cells C tInt)
  obtain ⟨v', w', hr, h2, h3, _⟩ := run_append_own (P := Try.prog) (w0.alloc (.cells C tInt)) base tInts ty tInt i0 _ 1 8 Try.underlying30 hi0 hz0 hz1 hz2 rfl (by omega) v n l hown2 ⟨w0.heap.size, 0, none⟩ 1 1 [.int .i64 x] rfl hnews hone (by unfold maxLen; omega) (by omega) (by omega)
  refine ⟨v', w', hr, h2, h3, ?_⟩
  have hll := own_len hown
  rcases hown2.2 with ⟨rfl, h0⟩ | ⟨g, cap, cur, rfl, hbg, hg, hnc, hcm, hcs, htake⟩
  · have : l = [] := List.eq_nil_of_length_eq_zero (by omega)
    subst this
    exact RdV.nil _
  · by_cases hroom : n + 1 ≤ cap
    · have hr2 := run_append_room (P := Try.prog) (w0.alloc (.cells C tInt)) tInts ty tInt i0 Try.underlying30 hi0 g n cap cur hg ⟨w0.heap.size, 0, none⟩ 1 1 [.int .i64 x] (by rw [hz1]; rfl) hnews hone hroom (by rw [hz1, hcs]; simp; omega)
      rw [hr] at hr2
      injection hr2 with e1 e2
      subst e1
      refine ⟨some ⟨g, 0, none⟩, cap, by rw [hll], ⟨by omega, fun e => by cases e⟩, fun _ => ⟨g, 0, rfl, fun j hj => ?_⟩⟩
      rw [Nat.zero_add, h2.cellAt j (by omega), List.getElem?_append_left hj, List.getElem?_eq_getElem hj]
    · have holds : ∀ j u, l[j]? = some u → (w0.alloc (.cells C tInt)).cell? ((⟨g, 0, none⟩ : Addr).add j) = some u := hown2.cells (g := g) rfl
      have hr2 := run_append_grow (P := Try.prog) (w0.alloc (.cells C tInt)) tInts ty tInt i0 _ Try.underlying30 hi0 hz0 ⟨g, 0, none⟩ n cap l (by rw [hz1]; omega) holds ⟨w0.heap.size, 0, none⟩ 1 1 [.int .i64 x] (by rw [hz1]; rfl) hnews (by omega) (by omega) (growslice_fits (by omega) (by rw [hz2]; omega))
      rw [hr] at hr2
      injection hr2 with _ e2
      rw [e2]
      exact (RdV.of_own hown2).below (((Below.refl (w0.alloc (.cells C tInt)).heap.size (w0.alloc (.cells C tInt))).drew).alloc (Nat.le_refl _) _)
theorem wp_keep {K : Act → World → Prop} (s x : Operand) (ho : o.op = .call { callee := .builtin .append, args := #[s, x], argTypes := #[tInts, tInts] })
    (base n : Nat) (l : List Value) (u : Int) (v : Value) (C : Array Value) (hs : a.eval s = v) (hown : w.ownsRow base tInt 1 v n l)
    (hx : a.eval x = .slice (some ⟨w.heap.size, 0, none⟩) 1 1) (hC : C.toList = [.int .i64 u]) (hsz : n + 1 ≤ 100000000) (hbase : base ≤ w.heap.size)
    (h : ∀ v' w', w'.ownsRow base tInt 1 v' (n + 1) (l ++ [.int .i64 u]) → Below base w w' → RdV w' v l → (w.alloc (.cells C tInt)).grownBy w' v.ownBlock → K (a.put o.dst v') w') : o.wp Try.prog a (w.alloc (.cells C tInt)) K Q := by
  obtain ⟨v', w', hr, h2, h3, h4⟩ := run_keep w C u hC o.type base n l v hown hsz hbase
  unfold Oper.wp execOp
  simp only [ho, resolve, invoke, builtin, Sem.run_bind, Sem.run_pure, Result.andThen_ok, List.map_toArray, List.map_cons, List.map_nil, hs, hx, hr]
  exact h v' w' h2 (((Below.refl base w).alloc hbase _).trans (below_app (hown.alloc _) h3 (by simp; omega))) h4 h3
/-- append of one new int onto a row that the call owns; the old slice reads as it did. -/
theorem app_keep (hg : Region.wanted o (yielded ops a.tmps) = true) (s x : Operand) (ho : o.op = .call { callee := .builtin .append, args := #[s, x], argTypes := #[tInts, tInts] })
    (base n : Nat) (l : List Value) (u : Int) (v : Value) (C : Array Value) (hs : a.eval s = v) (hown : w.ownsRow base tInt 1 v n l)
    (hx : a.eval x = .slice (some ⟨w.heap.size, 0, none⟩) 1 1) (hC : C.toList = [.int .i64 u]) (hsz : n + 1 ≤ 100000000) (hbase : base ≤ w.heap.size)
    (h : ∀ v' w', w'.ownsRow base tInt 1 v' (n + 1) (l ++ [.int .i64 u]) → Below base w w' → RdV w' v l → wpList Try.prog ops Q rest (a.put o.dst v') w') :
    wpList Try.prog ops Q (o :: rest) a (w.alloc (.cells C tInt)) := by
  obtain ⟨v', w', hr, h2, h3, h4⟩ := run_keep w C u hC o.type base n l v hown hsz hbase
  refine wpList_wanted hg fun K hK => ?_
  unfold Oper.wp execOp
  simp only [ho, resolve, invoke, builtin, Sem.run_bind, Sem.run_pure, Result.andThen_ok, List.map_toArray, List.map_cons, List.map_nil, hs, hx, hr]
  exact hK _ _ (h v' w' h2 (((Below.refl base w).alloc hbase _).trans (below_app (hown.alloc _) h3 (by simp; omega))) h4)
end
/-- Another row stays while one grows. -/
theorem own_grown {w w' : World} {base n : Nat} {e : TypeId} {v : Value} {xs : List Value} {row : Option Nat} (h : w.ownsRow base e 1 v n xs) (hg : w.grownBy w' row) (hne : ∀ k, v.ownBlock = some k → row ≠ some k) : w'.ownsRow base e 1 v n xs := by
  obtain ⟨h1, h2⟩ := h
  refine ⟨h1, ?_⟩
  rcases h2 with h2 | ⟨g, cap, cur, rfl, hb, hh, r⟩
  · exact .inl h2
  · exact .inr ⟨g, cap, cur, rfl, hb, (hg.block g (lt_some hh) (fun e => hne g rfl e.symm)).trans hh, r⟩
theorem closure_len (ss : List St) (st en : Bool) (inn : Nat → Prop) : (closureL ss st en inn).length ≤ ss.length := by
  unfold closureL
  rw [List.length_map]
  exact Nat.le_trans (List.length_filter_le _ _) (by rw [List.length_range]; exact Nat.le_refl _)
theorem closure_bd {ss : List St} {st en : Bool} {inn : Nat → Prop} {x : Int} (h : x ∈ closureL ss st en inn) : 0 ≤ x ∧ x < (ss.length : Int) := by
  obtain ⟨k, e, h1, _⟩ := (closure_mem x).1 h
  omega
open Classical in
theorem closure_congr {ss : List St} {st en st2 en2 : Bool} {i1 i2 : Nat → Prop} (h : ∀ k, k < ss.length → (Reach ss st en i1 k ↔ Reach ss st2 en2 i2 k)) : closureL ss st en i1 = closureL ss st2 en2 i2 := by
  unfold closureL
  congr 1
  exact List.filter_congr fun k hk => by rw [decide_eq_decide]; exact h k (List.mem_range.1 hk)
theorem Reach.mono {ss : List St} {st en st2 en2 : Bool} {i1 i2 : Nat → Prop} (h1 : ∀ k, i1 k → Reach ss st2 en2 i2 k) (h2 : ∀ x : St, passS x st en = true → passS x st2 en2 = true) {k : Nat} (h : Reach ss st en i1 k) : Reach ss st2 en2 i2 k := by
  induction h with
  | base h => exact h1 _ h
  | next hi _ hp ih => exact .next hi ih (h2 _ hp)
  | other hi _ hp ih => exact .other hi ih hp
/-- The closure of a closure. -/
theorem closure_idem (ss : List St) (st en : Bool) (inn : Nat → Prop) : (closureL ss st en fun k => (k : Int) ∈ closureL ss st en inn) = closureL ss st en inn := by
  refine closure_congr fun k hk => ⟨fun h => h.mono (fun j hj => ?_) (fun _ h => h), fun h => .base ((closure_mem (k : Int)).2 ⟨k, rfl, hk, h⟩)⟩
  obtain ⟨i, e, _, h2⟩ := (closure_mem (j : Int)).1 hj
  have : j = i := by omega
  rw [this]; exact h2
theorem pass_all (x : St) (st en : Bool) (h : passS x st en = true) : passS x true true = true := by
  unfold passS at h ⊢
  simp only [Bool.or_eq_true, Bool.and_eq_true, Bool.and_true] at h ⊢
  rcases h with h | h | h
  · exact .inl h
  · exact .inr (.inl h.1)
  · exact .inr (.inr h.1)
theorem closure_grows {ss : List St} {st en : Bool} {us : List Int} {m : Int} {x : Int} (h : x ∈ closureL ss st en fun k => (k : Int) ∈ us) : x ∈ closureL ss true true fun k => (k : Int) ∈ us ++ [m] := by
  rw [closure_mem] at h ⊢
  obtain ⟨k, e, h1, h2⟩ := h
  exact ⟨k, e, h1, h2.mono (fun j hj => .base (List.mem_append.2 (.inl hj))) (fun x h => pass_all x st en h)⟩
theorem closure_has {ss : List St} {st en : Bool} {us : List Int} {x : Int} (h : x ∈ us) (hb : 0 ≤ x ∧ x < (ss.length : Int)) : x ∈ closureL ss st en fun k => (k : Int) ∈ us := by
  rw [closure_mem]
  exact ⟨x.toNat, by omega, by omega, .base (by rw [show ((x.toNat : Nat) : Int) = x by omega]; exact h)⟩
end Au
end
end Go.Proofs.Ythoidaaldngpmaa

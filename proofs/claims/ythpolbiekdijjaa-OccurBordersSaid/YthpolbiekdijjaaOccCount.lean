/-
  Walks of layer 7: Count, Next. Conditions: needle and text have at most 2^22 bytes.
-/
import Derived.Test.YthpolbiekdijjaaOccRange
import Derived.RangeFuncBox
import Derived.RangeFuncNested
namespace Go.Proofs.Ythpolbiekdijjaa
open Go.RowKit
attribute [local go_sem] Oper.semAt_some
namespace Oc
open Tx Cm
theorem Caps.kept {W W' : World} {row : Option Nat} {B p : Nat} {n s : ByteArray} (h : Caps W B n s p) (hg : W.grownBy W' row) (hr : ∀ r, row = some r → ∃ o : Obj, W.heap[r]? = some o ∧ o.isCells = false) : Caps W' B n s p :=
  ⟨cell_kept h.1 hg hr, cell_kept h.2.1 hg hr, cell_kept h.2.2 hg hr⟩
theorem Caps.set {W : World} {B p b : Nat} {n s : ByteArray} (h : Caps W B n s p) (v : Value) (hb : b < B ∨ B + 3 ≤ b) : Caps (W.setCell ⟨b, 0, none⟩ v) B n s p := by
  have k : ∀ k, k ≠ b → (W.setCell ⟨b, 0, none⟩ v).cell? ⟨k, 0, none⟩ = W.cell? ⟨k, 0, none⟩ := fun k e => World.cell?_of_block (w := W) (a := ⟨k, 0, none⟩) (Below.heap_setCell _ _ _ k e)
  exact ⟨(k B (by omega)).trans h.1, (k (B + 1) (by omega)).trans h.2.1, (k (B + 2) (by omega)).trans h.2.2⟩
theorem row_kept {W W' : World} {row : Option Nat} {G m : Nat} {t : TypeId} {f : Nat → Value} (h : W.rowIs G t m f) (hg : W.grownBy W' row) (hr : ∀ r, row = some r → ∃ o : Obj, W.heap[r]? = some o ∧ o.isCells = false) : W'.rowIs G t m f := by
  refine h.of_block (hg.block G h.lt fun e => ?_)
  obtain ⟨o, ho, hc⟩ := hr G e.symm
  obtain ⟨c, hb, _⟩ := h
  rw [hb] at ho; cases ho; cases hc
theorem caps_new (w : World) (n s : ByteArray) (p : Nat) : Caps (((w.alloc (.cells #[.string n] 9)).alloc (.cells #[.string s] 9)).alloc (.cells #[.int .i64 p] 3)) w.heap.size n s p := by
  have a1 := (Boxed.new w 9 (.string n)).alloc (.cells #[.string s] 9)
  have a2 := a1.alloc (.cells #[.int .i64 p] 3)
  have b1 := Boxed.new (w.alloc (.cells #[.string n] 9)) 9 (.string s)
  rw [World.size_alloc] at b1
  have b2 := b1.alloc (.cells #[.int .i64 p] 3)
  have c1 := Boxed.new ((w.alloc (.cells #[.string n] 9)).alloc (.cells #[.string s] 9)) 3 (.int .i64 p)
  rw [World.size_alloc, World.size_alloc] at c1
  exact ⟨a2.cell, b2.cell, c1.cell⟩
theorem put_one (t : Array Value) (i : Nat) (v : Value) : Array.foldl (fun t (x : Tmp × Value) => t.setIfInBounds x.fst x.snd) t (#[i].zip #[v]) = t.setIfInBounds i v := by simp [Array.zip]
def CountPost (L : List Nat) (w : World) (e : Ending) (w' : World) : Prop := e = .returned (.int .i64 (L.length : Int)) ∧ Below w.heap.size w w'
set_option maxRecDepth 100000 in
set_option maxHeartbeats 2000000 in
theorem Count_any (n s : ByteArray) (w : World) (hn : n.size ≤ 4194304) (hs : s.size ≤ 4194304) :
    Calls Try.prog 17 #[.string n, .string s] w (CountPost (posL (bs n) (bs s) 0) w) := by
  refine (callsIn_wide (n := 4)).1 ?_
  refine callsIn_of_wp_marks Try.func17 rfl trivial ?_ rfl
  simp only [Try.ntmps17, List.size_toArray, List.length_cons, List.length_nil, Nat.reduceAdd, Nat.reduceSub, Array.replicate_succ, Array.replicate_zero, List.push_toArray, List.append_toArray, List.nil_append, List.cons_append]
  have HA := Lib.hid (fun w => apart_any n s 0 w)
  gi_wp2_with (first
    | (refine ⟨(trivial : Fence.wide.fn 22), ?_⟩; gi_at_call 22; refine (callsIn_wide.2 (HA.out _)).mono ?_; rintro e w1 ⟨rfl, rfl⟩)
    | gi_in)
  obtain ⟨C, hC⟩ : ∃ C, C = w.heap.size := ⟨_, rfl⟩
  obtain ⟨w0, hw0⟩ : ∃ w0, (w.alloc (.cells #[.int .i64 0] 3)) = w0 := ⟨_, rfl⟩
  have hz0 : w0.heap.size = C + 1 := by rw [← hw0, World.size_alloc, hC]
  have hb0 : Boxed w0 C 3 (.int .i64 0) := by rw [← hw0, hC]; exact Boxed.new w _ _
  have hB0 : Below C w w0 := by rw [← hw0, hC]; exact (Below.refl _ _).alloc (Nat.le_refl _) _
  obtain ⟨w9, hw9⟩ : ∃ w9, (((w0.alloc (.cells #[.string n] 9)).alloc (.cells #[.string s] 9)).alloc (.cells #[.int .i64 0] 3)) = w9 := ⟨_, rfl⟩
  have hc9 : Caps w9 (C + 1) n s 0 := by rw [← hw9, ← hz0]; exact caps_new w0 n s 0
  have hz9 : w9.heap.size = C + 4 := by rw [← hw9, World.size_alloc, World.size_alloc, World.size_alloc, hz0]
  have hb9 : Boxed w9 C 3 (.int .i64 0) := by rw [← hw9]; exact ((hb0.alloc _).alloc _).alloc _
  have hB9 : Below C w w9 := by rw [← hw9]; exact ((hB0.alloc (by omega) _).alloc (by rw [World.size_alloc]; omega) _).alloc (by rw [World.size_alloc, World.size_alloc]; omega) _
  rw [hw0, hw9, ← hC]
  have HCw := Lib.hid hC
  have HZ9 := Lib.hid hz9
  clear hw0 hw9 hb0 hB0 HA hz0
  refine range_apart 4 (by omega) (C + 1) n s 0 hn hs (Nat.zero_le _) (by rfl) rfl (by omega) hc9
    (fun G pre W => Boxed W C 3 (.int .i64 (pre.length : Int)) ∧ Caps W (C + 1) n s 0 ∧ W.rowIs G tInt n.size (rowBd (bs n) n.size) ∧ C + 4 ≤ G ∧ Below C w W)
    (fun _ _ _ => False) (fun pre W => Boxed W C 3 (.int .i64 (pre.length : Int)) ∧ Below C w W)
    (fun G pre W h => ⟨h.2.1, h.2.2.1⟩) (fun G s A B row h hg hr => ?own) (fun G pre W h => ⟨h.1, h.2.1, h.2.2.1.drew, h.2.2.2.1, h.2.2.2.2.drew⟩) (fun c s A B row h _ _ => h) (fun s A B row h hg hr => ?own2)
    (fun G W hb hG hr => ⟨(hb.block C (by omega)).trans hb9, hc9.below hb (by omega), hr, by omega, hB9.trans (hb.mono (by omega))⟩) ⟨hb9, hB9⟩ (fun G xs W h => ⟨h.1, h.2.2.2.2⟩)
    (fun x => { tmps := #[.string n, .string s, undef, undef, .int .i64 0, .pointer (some ⟨C, 0, none⟩), .string n, .string s, apartV (C + 1), .int .i64 (x : Int), undef, undef, undef], defers := [] }) ?assign ?body ?done ?stop
  case own =>
    have hr2 : ∀ r, row = some r → ∃ o : Obj, A.heap[r]? = some o ∧ o.isCells = false := fun r e => (hr r e).2
    refine ⟨h.1.kept hg (fun e => ?_), h.2.1.kept hg hr2, row_kept h.2.2.1 hg hr2, h.2.2.2.1, h.2.2.2.2.grown hg (by have := h.2.2.2.2.size; omega) (fun k e => by have := (hr k e).1; omega)⟩
    have := (hr C e.symm).1; omega
  case own2 =>
    refine ⟨h.1.kept hg (fun e => ?_), h.2.grown hg (by have := h.2.size; omega) (fun k e => by have := (hr k e).1; omega)⟩
    have := (hr C e.symm).1; omega
  case assign =>
    intro l x W K hK
    gi_wp2
    rw [put_one]
    exact hK
  case body =>
    rintro l G pre x W ⟨h1, h2, h3, h4, h5⟩ _ hpl _ _
    have hc := h1.cell
    have hf := h1.frozen
    have HB := Lib.hid (h1.set (.int .i64 (((pre ++ [x]).length : Nat) : Int)))
    have HC := Lib.hid (h2.set (b := C) (.int .i64 (((pre ++ [x]).length : Nat) : Int)) (.inl (by omega)))
    have HR := Lib.hid (h3.setOther (a := ⟨C, 0, none⟩) (by show G ≠ C; omega) (.int .i64 (((pre ++ [x]).length : Nat) : Int)))
    have HBl := Lib.hid (h5.setCell (p := ⟨C, 0, none⟩) (Nat.le_refl _) (.int .i64 (((pre ++ [x]).length : Nat) : Int)))
    have HK := Lib.hid ((KeepsOthers.setCell W ⟨C, 0, none⟩ (.int .i64 (((pre ++ [x]).length : Nat) : Int))).from w9.heap.size)
    rw [List.length_append, List.length_singleton, show ((pre.length + 1 : Nat) : Int) = (pre.length : Int) + 1 from rfl] at HB HC HR HBl HK
    have HE : Hid ((((pre ++ [x]).length : Nat) : Int) = (pre.length : Int) + 1) := Lib.hid (by simp)
    have i1 : 0 ≤ (pre.length : Int) := by omega
    have i2 : (pre.length : Int) < 100000000 := by omega
    clear h1 h2 h3 h5 hC hz9 hB9 hb9 hc9
    generalize (pre.length : Int) = z at hc HB HC HR HBl HK HE i1 i2
    gi_wp2
    refine ⟨HK.out, ?_, HC.out, HR.out, h4, HBl.out⟩
    rw [HE.out]; exact HB.out
  case done =>
    rintro D W hD ⟨h1, h5⟩ hK
    have hc := h1.cell
    have HB := Lib.hid (h5.trans (belowK_b (w := w9) (n₀ := C) (by omega) W D _ (.deferred none) hD hK rfl rfl))
    clear h1 h5 hC hz9 hB9 hb9 hc9
    gi_wp2
    refine ⟨by simp, .inl ⟨_, _, rfl, run_takeDeferred hK, ?_⟩⟩
    refine ⟨_, results_tmp rfl _ _ _, rfl, ?_⟩
    rw [← HCw.out]
    exact HB.out
  case stop =>
    rintro D c pre W _ _ _ h _
    exact h.elim
/-- What Next answers. -/
def nextR (n s : List UInt8) (p : Int) : Option Nat := if p < 0 ∨ (s.length : Int) < p then none else (posL n s p.toNat).head?
def nextT : Option Nat → Value
  | some i => .tuple #[.int .i64 (i : Int), .bool true]
  | none => .tuple #[.int .i64 0, .bool false]
def NextPost (o : Option Nat) (w : World) (e : Ending) (w' : World) : Prop := e = .returned (nextT o) ∧ Below w.heap.size w w'
theorem nextR_out {n s : List UInt8} {p : Int} (h : p < 0 ∨ (s.length : Int) < p) : nextR n s p = none := by unfold nextR; rw [if_pos h]
theorem nextR_in {n s : List UInt8} {p : Nat} (h : p ≤ s.length) : nextR n s (p : Int) = (posL n s p).head? := by unfold nextR; rw [if_neg (by omega)]; rfl
theorem below_two (w : World) (o o' : Obj) : Below w.heap.size w ((w.alloc o).alloc o') := ((Below.refl _ w).alloc (Nat.le_refl _) _).alloc (by simp) _
set_option maxRecDepth 100000 in
set_option maxHeartbeats 2000000 in
theorem Next_out (n s : ByteArray) (p : Int) (w : World) (_hs : s.size ≤ 4194304) (h : p < 0 ∨ (s.size : Int) < p) :
    Calls Try.prog 10 #[.string n, .string s, .int .i64 p] w (NextPost none w) := by
  obtain ⟨C, hC⟩ : ∃ C, C = w.heap.size := ⟨_, rfl⟩
  have b1 := (Boxed.new w 3 (.int .i64 0)).alloc (.cells #[.bool false] 4)
  have b2 := Boxed.new (w.alloc (.cells #[.int .i64 0] 3)) 4 (.bool false)
  rw [World.size_alloc] at b2
  have HB := Lib.hid (below_two w (.cells #[.int .i64 0] 3) (.cells #[.bool false] 4))
  have hc1 := b1.cell
  have hc2 := b2.cell
  clear b1 b2 hC
  by_cases h0 : p < 0
  · go_enter Try.func10, Try.ntmps10
    go_wp2_with fail
    exact bodyPost_ret (v := nextT none) (by simp [results, Try.f10, go_sem, hc1, hc2, nextT]) rfl ⟨rfl, HB.out⟩
  · have h1 : (s.size : Int) < p := by omega
    clear h
    go_enter Try.func10, Try.ntmps10
    go_wp2_with fail
    exact bodyPost_ret (v := nextT none) (by simp [results, Try.f10, go_sem, hc1, hc2, nextT]) rfl ⟨rfl, HB.out⟩
set_option maxRecDepth 100000 in
set_option maxHeartbeats 2000000 in
theorem Next_in (n s : ByteArray) (p : Nat) (w : World) (hn : n.size ≤ 4194304) (hs : s.size ≤ 4194304) (hp : p ≤ s.size) :
    Calls Try.prog 10 #[.string n, .string s, .int .i64 p] w (NextPost (posL (bs n) (bs s) p).head? w) := by
  have h0 : ¬ ((p : Int) < 0) := by omega
  have h1 : ¬ ((s.size : Int) < (p : Int)) := by omega
  have h2 : decide (s.size < p) = false := by simp only [decide_eq_false_iff_not]; omega
  refine (callsIn_wide (n := 4)).1 ?_
  refine callsIn_of_wp_marks Try.func10 rfl trivial ?_ rfl
  simp only [Try.ntmps10, List.size_toArray, List.length_cons, List.length_nil, Nat.reduceAdd, Nat.reduceSub, Array.replicate_succ, Array.replicate_zero, List.push_toArray, List.append_toArray, List.nil_append, List.cons_append]
  have HA := Lib.hid (fun w => apart_any n s p w)
  gi_wp2_with (first
    | (refine ⟨(trivial : Fence.wide.fn 22), ?_⟩; gi_at_call 22; refine (callsIn_wide.2 (HA.out _)).mono ?_; rintro e w1 ⟨rfl, rfl⟩)
    | gi_in)
  clear h0 h1 h2
  obtain ⟨C, hC⟩ : ∃ C, C = w.heap.size := ⟨_, rfl⟩
  obtain ⟨w0, hw0⟩ : ∃ w0, ((w.alloc (.cells #[.int .i64 0] 3)).alloc (.cells #[.bool false] 4)) = w0 := ⟨_, rfl⟩
  have hz0 : w0.heap.size = C + 2 := by rw [← hw0, World.size_alloc, World.size_alloc, hC]
  have hb0 : Boxed w0 C 3 (.int .i64 0) := by rw [← hw0, hC]; exact (Boxed.new w _ _).alloc _
  have hb0' : Boxed w0 (C + 1) 4 (.bool false) := by
    have := Boxed.new (w.alloc (.cells #[.int .i64 0] 3)) 4 (.bool false)
    rw [World.size_alloc] at this
    rw [← hw0, hC]; exact this
  have hB0 : Below C w w0 := by rw [← hw0, hC]; exact below_two _ _ _
  obtain ⟨w9, hw9⟩ : ∃ w9, (((w0.alloc (.cells #[.string n] 9)).alloc (.cells #[.string s] 9)).alloc (.cells #[.int .i64 (p : Int)] 3)) = w9 := ⟨_, rfl⟩
  have hc9 : Caps w9 (C + 2) n s p := by rw [← hw9, ← hz0]; exact caps_new w0 n s p
  have hz9 : w9.heap.size = C + 5 := by rw [← hw9, World.size_alloc, World.size_alloc, World.size_alloc, hz0]
  have hb9 : Boxed w9 C 3 (.int .i64 0) := by rw [← hw9]; exact ((hb0.alloc _).alloc _).alloc _
  have hb9' : Boxed w9 (C + 1) 4 (.bool false) := by rw [← hw9]; exact ((hb0'.alloc _).alloc _).alloc _
  have hB9 : Below C w w9 := by rw [← hw9]; exact ((hB0.alloc (by omega) _).alloc (by rw [World.size_alloc]; omega) _).alloc (by rw [World.size_alloc, World.size_alloc]; omega) _
  rw [hw0, hw9, ← hC]
  have HCw := Lib.hid hC
  have HZ9 := Lib.hid hz9
  clear hw0 hw9 hb0 hb0' hB0 HA hz0
  refine range_apart 4 (by omega) (C + 2) n s p hn hs hp (by rfl) rfl (by omega) hc9
    (fun G pre W => pre = [] ∧ (Boxed W C 3 (.int .i64 0) ∧ Boxed W (C + 1) 4 (.bool false)) ∧ Caps W (C + 2) n s p ∧ W.rowIs G tInt n.size (rowBd (bs n) n.size) ∧ C + 5 ≤ G ∧ Below C w W)
    (fun c pre W => c = .ret ∧ ∃ x : Nat, pre = [x] ∧ (Boxed W C 3 (.int .i64 (x : Int)) ∧ Boxed W (C + 1) 4 (.bool true)) ∧ Below C w W)
    (fun pre W => pre = [] ∧ (Boxed W C 3 (.int .i64 0) ∧ Boxed W (C + 1) 4 (.bool false)) ∧ Below C w W)
    (fun G pre W h => ⟨h.2.2.1, h.2.2.2.1⟩) (fun G s A B row h hg hr => ?own) (fun G pre W h => ⟨h.1, h.2.1, h.2.2.1, h.2.2.2.1.drew, h.2.2.2.2.1, h.2.2.2.2.2.drew⟩) (fun c s A B row h hg hr => ?own3) (fun s A B row h hg hr => ?own2)
    (fun G W hb hG hr => ⟨rfl, ⟨(hb.block C (by omega)).trans hb9, (hb.block (C + 1) (by omega)).trans hb9'⟩, hc9.below hb (by omega), hr, by omega, hB9.trans (hb.mono (by omega))⟩) ⟨rfl, ⟨hb9, hb9'⟩, hB9⟩ (fun G xs W h => ⟨h.1, h.2.1, h.2.2.2.2.2⟩)
    (fun x => { tmps := #[.string n, .string s, .int .i64 (p : Int), undef, undef, undef, .pointer (some ⟨C, 0, none⟩), .pointer (some ⟨C + 1, 0, none⟩), .int .i64 (x : Int), .int .i64 (p : Int), .bool false, .bool false, .int .i64 (p : Int), .string s, .int .i64 (s.size : Int), .bool false, .bool false, .string n, .string s, .int .i64 (p : Int), apartV (C + 2), .int .i64 (x : Int), undef], defers := [] }) ?assign ?body ?done ?stop
  case own =>
    have hr2 : ∀ r, row = some r → ∃ o : Obj, A.heap[r]? = some o ∧ o.isCells = false := fun r e => (hr r e).2
    refine ⟨h.1, ⟨h.2.1.1.kept hg (fun e => ?_), h.2.1.2.kept hg (fun e => ?_)⟩, h.2.2.1.kept hg hr2, row_kept h.2.2.2.1 hg hr2, h.2.2.2.2.1, h.2.2.2.2.2.grown hg (by have := h.2.2.2.2.2.size; omega) (fun k e => by have := (hr k e).1; omega)⟩
    · have := (hr C e.symm).1; omega
    · have := (hr (C + 1) e.symm).1; omega
  case own2 =>
    refine ⟨h.1, ⟨h.2.1.1.kept hg (fun e => ?_), h.2.1.2.kept hg (fun e => ?_)⟩, h.2.2.grown hg (by have := h.2.2.size; omega) (fun k e => by have := (hr k e).1; omega)⟩
    · have := (hr C e.symm).1; omega
    · have := (hr (C + 1) e.symm).1; omega
  case own3 =>
    obtain ⟨h0, x, h1, ⟨h2, h3⟩, h4⟩ := h
    refine ⟨h0, x, h1, ⟨h2.kept hg (fun e => ?_), h3.kept hg (fun e => ?_)⟩, h4.grown hg (by have := h4.size; omega) (fun k e => by have := (hr k e).1; omega)⟩
    · have := (hr C e.symm).1; omega
    · have := (hr (C + 1) e.symm).1; omega
  case assign =>
    intro l x W K hK
    rw [put_one]
    clear hC hz9 hB9 hb9 hb9' hc9
    gi_wp2
    exact hK
  case body =>
    rintro l G pre x W ⟨rfl, ⟨h1, h1'⟩, h2, h3, h4, h5⟩ _ hpl _ _
    have hc1 := h1.cell
    have hf1 := h1.frozen
    have hc2 := h1'.cell
    have hf2 := h1'.frozen
    have HW : Hid (KeepsFrom w9.heap.size W ((W.setCell ⟨C, 0, none⟩ (.int .i64 (x : Int))).setCell ⟨C + 1, 0, none⟩ (.bool true)) ∧ Boxed ((W.setCell ⟨C, 0, none⟩ (.int .i64 (x : Int))).setCell ⟨C + 1, 0, none⟩ (.bool true)) C 3 (.int .i64 (x : Int)) ∧
        Boxed ((W.setCell ⟨C, 0, none⟩ (.int .i64 (x : Int))).setCell ⟨C + 1, 0, none⟩ (.bool true)) (C + 1) 4 (.bool true) ∧ Below C w ((W.setCell ⟨C, 0, none⟩ (.int .i64 (x : Int))).setCell ⟨C + 1, 0, none⟩ (.bool true))) :=
      Lib.hid ⟨((KeepsOthers.setCell W ⟨C, 0, none⟩ _).trans (KeepsOthers.setCell _ _ _)).from _, (h1.set _).other (by omega) _, (h1'.other (by omega) _).set _, (h5.setCell (p := ⟨C, 0, none⟩) (Nat.le_refl _) _).setCell (p := ⟨C + 1, 0, none⟩) (Nat.le_succ _) _⟩
    clear h1 h1' h2 h3 h5 hC hz9 hB9 hb9 hb9' hc9
    gi_wp2
    exact ⟨HW.out.1, rfl, x, rfl, ⟨HW.out.2.1, HW.out.2.2.1⟩, HW.out.2.2.2⟩
  case done =>
    rintro D W hD ⟨hL, ⟨h1, h1'⟩, h5⟩ hK
    have HL := Lib.hid hL
    have hc1 := h1.cell
    have hf1 := h1.frozen
    have hc2 := h1'.cell
    have hf2 := h1'.frozen
    obtain ⟨W2, hW2⟩ : ∃ W2, (W.setCell ⟨C, 0, none⟩ (.int .i64 0)).setCell ⟨C + 1, 0, none⟩ (.bool false) = W2 := ⟨_, rfl⟩
    have hK' : W2.heap[D]? = some (.deferred (some [])) := by rw [← hW2]; exact ((KeepsOthers.setCell W ⟨C, 0, none⟩ _).trans (KeepsOthers.setCell _ _ _)).same D _ hK rfl
    have g1 : Boxed W2 C 3 (.int .i64 0) := by rw [← hW2]; exact (h1.set _).other (by omega) _
    have g2 : Boxed W2 (C + 1) 4 (.bool false) := by rw [← hW2]; exact (h1'.other (by omega) _).set _
    have g3 : Below C w W2 := by rw [← hW2]; exact (h5.setCell (p := ⟨C, 0, none⟩) (Nat.le_refl _) _).setCell (p := ⟨C + 1, 0, none⟩) (Nat.le_succ _) _
    have hl : ∀ r, some D = some r → ∃ o : Obj, W2.heap[r]? = some o ∧ o.isCells = false := fun r e => by cases e; exact ⟨_, hK', rfl⟩
    have q1 := cell_kept g1.cell (grownBy_putObj' W2 D (.deferred none)) hl
    have q2 := cell_kept g2.cell (grownBy_putObj' W2 D (.deferred none)) hl
    have HB := Lib.hid (g3.trans (belowK_b (w := w9) (n₀ := C) (by omega) W2 D _ (.deferred none) hD hK' rfl rfl))
    have HW := Lib.hid hW2
    clear h1 h1' h5 hL hC hz9 hB9 hb9 hb9' hc9 g1 g2 g3 hl hW2
    gi_wp2
    rw [HW.out]
    refine ⟨by simp, .inl ⟨_, _, rfl, run_takeDeferred hK', ?_⟩⟩
    rw [HL.out]
    refine ⟨_, (by simp [results, Try.f10, go_sem, q1, q2]; rfl), rfl, ?_⟩
    rw [← HCw.out]
    exact HB.out
  case stop =>
    rintro D c pre W hD hne hpre ⟨rfl, x, rfl, ⟨h1, h1'⟩, h5⟩ hK
    have hc1 := h1.cell
    have hc2 := h1'.cell
    have HL : Hid ((posL (bs n) (bs s) p).head? = some x) := Lib.hid (by obtain ⟨t, ht⟩ := hpre; rw [← ht]; rfl)
    have hl : ∀ r, some D = some r → ∃ o : Obj, W.heap[r]? = some o ∧ o.isCells = false := fun r e => by cases e; exact ⟨_, hK, rfl⟩
    have q1 := cell_kept h1.cell (grownBy_putObj' W D (.deferred none)) hl
    have q2 := cell_kept h1'.cell (grownBy_putObj' W D (.deferred none)) hl
    have HB := Lib.hid (h5.trans (belowK_b (w := w9) (n₀ := C) (by omega) W D _ (.deferred none) hD hK rfl rfl))
    clear h1 h1' h5 hne hpre hC hz9 hB9 hb9 hb9' hc9 hl
    gi_wp2
    refine ⟨by simp, .inl ⟨_, _, rfl, run_takeDeferred hK, ?_⟩⟩
    rw [HL.out]
    refine ⟨_, (by simp [results, Try.f10, go_sem, q1, q2]; rfl), rfl, ?_⟩
    rw [← HCw.out]
    exact HB.out
theorem Next_any (n s : ByteArray) (p : Int) (w : World) (hn : n.size ≤ 4194304) (hs : s.size ≤ 4194304) :
    Calls Try.prog 10 #[.string n, .string s, .int .i64 p] w (NextPost (nextR (bs n) (bs s) p) w) := by
  by_cases h : p < 0 ∨ (s.size : Int) < p
  · rw [nextR_out h]; exact Next_out n s p w hs h
  · obtain ⟨q, rfl⟩ := Int.eq_ofNat_of_zero_le (show 0 ≤ p by omega)
    have hq : q ≤ s.size := by omega
    rw [nextR_in hq]
    exact Next_in n s q w hn hs hq
end Oc
end Go.Proofs.Ythpolbiekdijjaa

/-
  Walks of layer 6: Whole, Any, Find, All over an automaton that is not valid. No conditions.
-/
import Derived.Test.YthoidaaldngpmaaSeaRef
import Derived.Test.YthoidaaldngpmaaSeaAll
namespace Go.Proofs.Ythoidaaldngpmaa
open Go.RowKit
namespace Se
open Cm Rx Au
theorem checkA_F {ss : List St} {start : Int} (h : ¬ ValidA ss start) : checkA ss start = 2 := by unfold checkA; rw [if_neg h]
/-- The box of the automaton that every call makes first. -/
theorem box_new (w : World) (v : Value) (st : Int) : (w.alloc (.cells #[v, .int .i64 st] tAuto)).heap[w.heap.size]? = some (.cells #[v, .int .i64 st] tAuto (0, 0)) ∧ Below w.heap.size w (w.alloc (.cells #[v, .int .i64 st] tAuto)) := ⟨heap_new w _, (Below.refl _ _).alloc (Nat.le_refl _) _⟩
set_option maxRecDepth 100000 in
set_option maxHeartbeats 2000000 in
theorem Whole_bad (v : Value) (ss : List St) (st : Int) (s : ByteArray) (w : World) (h : RdA w v ss) (hl : ss.length ≤ 8) (hv : ¬ ValidA ss st) :
    Calls Try.prog 36 #[.agg #[v, .int .i64 st], .string s] w (BePost false 2 w) := by
  have HCk := Lib.hid (fun W (hb : Below w.heap.size w W) => CheckA_any v ss st W (h.below hb) (by omega))
  rw [checkA_F hv] at HCk
  obtain ⟨A, c, rfl, hA⟩ := id h
  have HW4 := Lib.hid (alloc4 w (.cells #[.slice A ss.length c, .int .i64 st] tAuto) (.cells #[.string s] tStr) (.cells #[.bool false] tBool) (.cells #[.int .i64 0] tErr))
  obtain ⟨C, hC⟩ : ∃ C, C = w.heap.size := ⟨_, rfl⟩
  have HCw := Lib.hid hC
  clear hA hv
  go_enter Try.func36, Try.ntmps36
  go_upto_region 1 with fail
  generalize (((w.alloc (.cells #[.slice A ss.length c, .int .i64 st] tAuto)).alloc (.cells #[.string s] tStr)).alloc (.cells #[.bool false] tBool)).alloc (.cells #[.int .i64 0] tErr) = w4 at HW4 ⊢
  rw [← hC] at HW4 HCk ⊢
  clear hC h
  obtain ⟨⟨c0, c1⟩, -, -⟩ := box_cells HW4.out.1
  go_upto_region 3 with (go_at_call 59; refine (HCk.out _ HW4.out.2.2.2.2).mono ?_; rintro e w1 ⟨rfl, hb1⟩; have HT : Hid (Two C (C + 1 + 1) w (.bool false) (.int .i64 0) w1) := Lib.hid ⟨(hb1.block _ (lt_some HW4.out.2.2.1)).trans HW4.out.2.2.1, (hb1.block _ (lt_some HW4.out.2.2.2.1)).trans HW4.out.2.2.2.1, HW4.out.2.2.2.2.trans (hb1.mono (by have := lt_some HW4.out.1; omega)), by omega⟩; clear c0 c1 hb1)
  have HT2 := Lib.hid (HT.out.set (u' := .bool false) (v' := .int .i64 2))
  have q0 := HT.out.b.cell
  have q1 := HT.out.e.cell
  have f0 := HT.out.b.frozen
  have f1 := HT.out.e.frozen
  have HPost : Hid (BePost false 2 w (.returned (.tuple #[.bool false, .int .i64 2])) ((w1.setCell ⟨C + 1 + 1, 0, none⟩ (.bool false)).setCell ⟨C + 1 + 1 + 1, 0, none⟩ (.int .i64 2))) := Lib.hid ⟨rfl, by rw [← HCw.out]; exact HT2.out.bel⟩
  go_wp2_with fail
  have r0 := HT2.out.b.cell
  have r1 := HT2.out.e.cell
  exact bodyPost_ret (by simp [results, Try.f36, go_sem, r0, r1]) rfl HPost.out
set_option maxRecDepth 100000 in
set_option maxHeartbeats 2000000 in
theorem Any_bad (v : Value) (ss : List St) (st : Int) (s : ByteArray) (w : World) (h : RdA w v ss) (hl : ss.length ≤ 8) (hv : ¬ ValidA ss st) :
    Calls Try.prog 38 #[.agg #[v, .int .i64 st], .string s] w (BePost false 2 w) := by
  have HCk := Lib.hid (fun W (hb : Below w.heap.size w W) => CheckA_any v ss st W (h.below hb) (by omega))
  rw [checkA_F hv] at HCk
  obtain ⟨A, c, rfl, hA⟩ := id h
  have HW4 := Lib.hid (alloc3 w (.cells #[.slice A ss.length c, .int .i64 st] tAuto) (.cells #[.bool false] tBool) (.cells #[.int .i64 0] tErr))
  obtain ⟨C, hC⟩ : ∃ C, C = w.heap.size := ⟨_, rfl⟩
  have HCw := Lib.hid hC
  clear hA hv
  go_enter Try.func38, Try.ntmps38
  go_upto_region 1 with fail
  generalize ((w.alloc (.cells #[.slice A ss.length c, .int .i64 st] tAuto)).alloc (.cells #[.bool false] tBool)).alloc (.cells #[.int .i64 0] tErr) = w4 at HW4 ⊢
  rw [← hC] at HW4 HCk ⊢
  clear hC h
  obtain ⟨⟨c0, c1⟩, -, -⟩ := box_cells HW4.out.1
  go_upto_region 3 with (go_at_call 59; refine (HCk.out _ HW4.out.2.2.2).mono ?_; rintro e w1 ⟨rfl, hb1⟩; have HT : Hid (Two C (C + 1) w (.bool false) (.int .i64 0) w1) := Lib.hid ⟨(hb1.block _ (lt_some HW4.out.2.1)).trans HW4.out.2.1, (hb1.block _ (lt_some HW4.out.2.2.1)).trans HW4.out.2.2.1, HW4.out.2.2.2.trans (hb1.mono (by have := lt_some HW4.out.1; omega)), by omega⟩; clear c0 c1 hb1)
  have HT2 := Lib.hid (HT.out.set (u' := .bool false) (v' := .int .i64 2))
  have q0 := HT.out.b.cell
  have q1 := HT.out.e.cell
  have f0 := HT.out.b.frozen
  have f1 := HT.out.e.frozen
  have HPost : Hid (BePost false 2 w (.returned (.tuple #[.bool false, .int .i64 2])) ((w1.setCell ⟨C + 1, 0, none⟩ (.bool false)).setCell ⟨C + 1 + 1, 0, none⟩ (.int .i64 2))) := Lib.hid ⟨rfl, by rw [← HCw.out]; exact HT2.out.bel⟩
  go_wp2_with fail
  have r0 := HT2.out.b.cell
  have r1 := HT2.out.e.cell
  exact bodyPost_ret (by simp [results, Try.f38, go_sem, r0, r1]) rfl HPost.out
set_option maxRecDepth 100000 in
set_option maxHeartbeats 2000000 in
theorem All_bad (v : Value) (ss : List St) (st : Int) (s : ByteArray) (w : World) (h : RdA w v ss) (hl : ss.length ≤ 8) (hv : ¬ ValidA ss st) :
    Calls Try.prog 43 #[.agg #[v, .int .i64 st], .string s] w (fun x w' => x = .returned (.tuple #[.slice none 0 0, .int .i64 2]) ∧ Below w.heap.size w w') := by
  have HCk := Lib.hid (fun W (hb : Below w.heap.size w W) => CheckA_any v ss st W (h.below hb) (by omega))
  rw [checkA_F hv] at HCk
  obtain ⟨A, c, rfl, hA⟩ := id h
  have HW4 := Lib.hid (box_new w (.slice A ss.length c) st)
  obtain ⟨C, hC⟩ : ∃ C, C = w.heap.size := ⟨_, rfl⟩
  have HCw := Lib.hid hC
  clear hA hv
  go_enter Try.func43, Try.ntmps43
  go_upto_region 1 with fail
  generalize w.alloc (.cells #[.slice A ss.length c, .int .i64 st] tAuto) = w4 at HW4 ⊢
  rw [← hC] at HW4 HCk ⊢
  clear hC h
  obtain ⟨⟨c0, c1⟩, -, -⟩ := box_cells HW4.out.1
  go_wp2_with (go_at_call 59; refine (HCk.out _ HW4.out.2).mono ?_; rintro e w1 ⟨rfl, hb1⟩; have HB : Hid (Below C w w1) := Lib.hid (HW4.out.2.trans (hb1.mono (by have := lt_some HW4.out.1; omega))); clear c0 c1 hb1)
  go_ret2
  exact ⟨rfl, by rw [← HCw.out]; exact HB.out⟩
set_option maxRecDepth 100000 in
set_option maxHeartbeats 2000000 in
theorem Find_bad (v : Value) (ss : List St) (st : Int) (s : ByteArray) (p : Int) (w : World) (h : RdA w v ss) (hl : ss.length ≤ 8) (hv : ¬ ValidA ss st) :
    Calls Try.prog 40 #[.agg #[v, .int .i64 st], .string s, .int .i64 p] w (OutPost 2 w) := by
  have HCk := Lib.hid (fun W (hb : Below w.heap.size w W) => CheckA_any v ss st W (h.below hb) (by omega))
  rw [checkA_F hv] at HCk
  obtain ⟨A, c, rfl, hA⟩ := id h
  have HW4 := Lib.hid (alloc2 w (.cells #[.slice A ss.length c, .int .i64 st] tAuto) (.cells #[.int .i64 0, .int .i64 0] tSp))
  obtain ⟨C, hC⟩ : ∃ C, C = w.heap.size := ⟨_, rfl⟩
  have HCw := Lib.hid hC
  clear hA hv
  go_enter Try.func40, Try.ntmps40
  go_upto_region 1 with fail
  generalize (w.alloc (.cells #[.slice A ss.length c, .int .i64 st] tAuto)).alloc (.cells #[.int .i64 0, .int .i64 0] tSp) = w4 at HW4 ⊢
  rw [← hC] at HW4 HCk ⊢
  clear hC h
  obtain ⟨⟨c0, c1⟩, -, -⟩ := box_cells HW4.out.1
  go_upto_region 3 with (go_at_call 59; refine (HCk.out _ HW4.out.2.2).mono ?_; rintro e w1 ⟨rfl, hb1⟩; have HB := Lib.hid hb1; clear c0 c1 hb1)
  have hR : w1.heap[C + 1]? = some (.cells #[.int .i64 0, .int .i64 0] tSp (0, 0)) := (HB.out.block _ (lt_some HW4.out.2.1)).trans HW4.out.2.1
  have g1 := set_block (o := 0) (u := .int .i64 0) hR
  have g2 := set_block (o := 1) (u := .int .i64 0) g1
  obtain ⟨⟨r0, r1⟩, -, -⟩ := box_cells g2
  obtain ⟨⟨n0, n1⟩, -, -⟩ := box_cells hR
  have hf : ∀ k, w1.frozen? ⟨C + 1, k, none⟩ = false := fun k => by simp [World.frozen?, hR]
  have HR0 := Lib.hid r0
  have HR1 := Lib.hid r1
  have HPost : Hid (OutPost 2 w (.returned (.tuple #[.agg #[.int .i64 0, .int .i64 0], .bool false, .int .i64 2])) ((w1.setCell ⟨C + 1, 0, none⟩ (.int .i64 0)).setCell ⟨C + 1, 1, none⟩ (.int .i64 0))) := Lib.hid ⟨rfl, by rw [← HCw.out]; exact ((HW4.out.2.2.trans (HB.out.mono (by have := lt_some HW4.out.1; omega))).setCell (p := ⟨C + 1, 0, none⟩) (Nat.le_succ C) _).setCell (p := ⟨C + 1, 1, none⟩) (Nat.le_succ C) _⟩
  clear g1 g2 r0 r1 hR
  go_wp2_with fail
  have r0 := HR0.out
  have r1 := HR1.out
  exact bodyPost_ret (by simp [results, Try.f40, go_sem, r0, r1]) rfl HPost.out
end Se
end Go.Proofs.Ythoidaaldngpmaa

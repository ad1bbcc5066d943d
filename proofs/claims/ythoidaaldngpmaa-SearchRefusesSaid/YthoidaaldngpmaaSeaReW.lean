/-
  Walk of the law SearchRefuses of layer 6.
-/
import Derived.Test.YthoidaaldngpmaaSeaBad
import Derived.Test.YthoidaaldngpmaaSeaAwake
namespace Go.Proofs.Ythoidaaldngpmaa
open Go.RowKit
namespace Se
open Cm Rx Au
theorem span_two (W : World) : (W.alloc (.cells #[.int .i64 0, .int .i64 0] tSp)).heap[W.heap.size]? = some (.cells #[.int .i64 0, .int .i64 0] tSp (0, 0)) ∧ Below W.heap.size W (W.alloc (.cells #[.int .i64 0, .int .i64 0] tSp)) := ⟨heap_new W _, (Below.refl _ _).alloc (Nat.le_refl _) _⟩
theorem boxI {C : Nat} {w W W' : World} {cs : Array Value} {t : TypeId} {z : Nat × Nat} (h : W.heap[C]? = some (.cells cs t z) ∧ Below C w W) (hb : Below W.heap.size W W') : W'.heap[C]? = some (.cells cs t z) ∧ Below C w W' :=
  ⟨(hb.block _ (lt_some h.1)).trans h.1, h.2.trans (hb.mono (Nat.le_of_lt (lt_some h.1)))⟩
set_option maxRecDepth 100000 in
set_option maxHeartbeats 4000000 in
theorem refuses_walk (v : Value) (ss : List St) (st : Int) (s : ByteArray) (p : Int) (w : World) (h : RdA w v ss) :
    Calls Try.prog 9 #[.agg #[v, .int .i64 st], .string s, .int .i64 p] w fun e w' => e = .returned (.bool true) ∧ Below w.heap.size w w' := by
  have HAw := Lib.hid (fun w => awake6_any w)
  have HRd := Lib.hid (fun W (hb : Below w.heap.size w W) => h.below hb)
  obtain ⟨A, c, rfl, hA⟩ := id h
  have HW4 := Lib.hid (box_new w (.slice A ss.length c) st)
  obtain ⟨C, hC⟩ : ∃ C, C = w.heap.size := ⟨_, rfl⟩
  have HCw := Lib.hid hC
  clear hA h
  by_cases h1 : 8 < ss.length
  · have d1 : decide (8 < ss.length) = true := by simpa using h1
    go_enter Try.func9, Try.ntmps9
    go_upto_region 1 with fail
    generalize w.alloc (.cells #[.slice A ss.length c, .int .i64 st] tAuto) = w4 at HW4 ⊢
    rw [← hC] at HW4 HRd ⊢
    clear hC
    obtain ⟨⟨c0, c1⟩, -, -⟩ := box_cells HW4.out.1
    go_wp2_with (go_at_call 42; refine (HAw.out _).mono ?_; rintro e w8 ⟨rfl, hb⟩; have HB8 : Hid (Below C w w8) := Lib.hid (HW4.out.2.trans (hb.mono (by have := lt_some HW4.out.1; omega))); clear hb)
    go_ret
    exact ⟨rfl, by rw [← HCw.out]; exact HB8.out⟩
  have d1 : decide (8 < ss.length) = false := by simpa using h1
  by_cases h2 : 12 < s.size
  · have d2 : decide (12 < s.size) = true := by simpa using h2
    go_enter Try.func9, Try.ntmps9
    go_upto_region 1 with fail
    generalize w.alloc (.cells #[.slice A ss.length c, .int .i64 st] tAuto) = w4 at HW4 ⊢
    rw [← hC] at HW4 HRd ⊢
    clear hC
    obtain ⟨⟨c0, c1⟩, -, -⟩ := box_cells HW4.out.1
    go_wp2_with (go_at_call 42; refine (HAw.out _).mono ?_; rintro e w8 ⟨rfl, hb⟩; have HB8 : Hid (Below C w w8) := Lib.hid (HW4.out.2.trans (hb.mono (by have := lt_some HW4.out.1; omega))); clear hb)
    go_ret
    exact ⟨rfl, by rw [← HCw.out]; exact HB8.out⟩
  have d2 : decide (12 < s.size) = false := by simpa using h2
  have HCk := Lib.hid (fun W (hb : Below w.heap.size w W) => CheckAR_any (.slice A ss.length c) ss st W (HRd.out W hb) (by omega))
  by_cases hv : ValidA ss st
  · rw [checkA_T hv] at HCk
    obtain ⟨st, rfl⟩ : ∃ st' : Nat, st = (st' : Int) := ⟨st.toNat, by have := of_decide_eq_true hv.2.1; omega⟩
    have HF1 := Lib.hid (fun W (hb : Below w.heap.size w W) => Find_out (.slice A ss.length c) ss st s ((s.size : Int) + 1) W (HRd.out W hb) hv (by omega))
    have HF2 := Lib.hid (fun W (hb : Below w.heap.size w W) => Find_out (.slice A ss.length c) ss st s (-1) W (HRd.out W hb) hv (by omega))
    clear hv
    go_enter Try.func9, Try.ntmps9
    go_upto_region 1 with fail
    generalize w.alloc (.cells #[.slice A ss.length c, .int .i64 (st : Int)] tAuto) = w4 at HW4 ⊢
    rw [← hC] at HW4 HRd HCk HF1 HF2 ⊢
    clear hC
    obtain ⟨⟨c0, c1⟩, -, -⟩ := box_cells HW4.out.1
    go_upto_region 4 with (go_at_call 26; refine (HCk.out _ HW4.out.2).mono ?_; rintro e w1 ⟨rfl, hb⟩; have HX : Hid (w1.heap[C]? = some (.cells #[.slice A ss.length c, .int .i64 (st : Int)] tAuto (0, 0)) ∧ Below C w w1) := Lib.hid ⟨(hb.block _ (lt_some HW4.out.1)).trans HW4.out.1, HW4.out.2.trans (hb.mono (by have := lt_some HW4.out.1; omega))⟩; clear hb c0 c1)
    obtain ⟨⟨c0, c1⟩, -, -⟩ := box_cells HX.out.1
    clear HW4
    go_upto_region 5 with (go_at_call 40; refine (HF1.out _ HX.out.2).mono ?_; rintro e w2 ⟨rfl, hb⟩; have HX := Lib.hid (And.intro ((hb.block _ (lt_some HX.out.1)).trans HX.out.1) (HX.out.2.trans (hb.mono (Nat.le_of_lt (lt_some HX.out.1))))); clear hb c0 c1)
    have HX := Lib.hid (boxI HX.out ((Below.refl w2.heap.size w2).alloc (Nat.le_refl _) (.cells #[.int .i64 0, .int .i64 0] tSp)))
    generalize w2.alloc _ = w3 at HX ⊢
    obtain ⟨⟨c0, c1⟩, -, -⟩ := box_cells HX.out.1
    go_upto_region 6 with (go_at_call 40; refine (HF2.out _ HX.out.2).mono ?_; rintro e w4 ⟨rfl, hb⟩; have HX := Lib.hid (boxI HX.out hb); clear hb c0 c1)
    have HX := Lib.hid (boxI HX.out ((Below.refl w4.heap.size w4).alloc (Nat.le_refl _) (.cells #[.int .i64 0, .int .i64 0] tSp)))
    generalize w4.alloc _ = w5 at HX ⊢
    go_wp2_with (go_at_call 42; refine (HAw.out _).mono ?_; rintro e w8 ⟨rfl, hb⟩; have HB8 := Lib.hid (boxI HX.out hb).2; clear hb)
    go_ret
    exact ⟨rfl, by rw [← HCw.out]; exact HB8.out⟩
  · rw [checkA_F hv] at HCk
    have HW := Lib.hid (fun W (hb : Below w.heap.size w W) => Whole_bad (.slice A ss.length c) ss st s W (HRd.out W hb) (by omega) hv)
    have HY := Lib.hid (fun W (hb : Below w.heap.size w W) => Any_bad (.slice A ss.length c) ss st s W (HRd.out W hb) (by omega) hv)
    have HF := Lib.hid (fun W (hb : Below w.heap.size w W) => Find_bad (.slice A ss.length c) ss st s p W (HRd.out W hb) (by omega) hv)
    have HL := Lib.hid (fun W (hb : Below w.heap.size w W) => All_bad (.slice A ss.length c) ss st s W (HRd.out W hb) (by omega) hv)
    clear hv
    go_enter Try.func9, Try.ntmps9
    go_upto_region 1 with fail
    generalize w.alloc (.cells #[.slice A ss.length c, .int .i64 st] tAuto) = w4 at HW4 ⊢
    rw [← hC] at HW4 HRd HCk HW HY HF HL ⊢
    clear hC
    obtain ⟨⟨c0, c1⟩, -, -⟩ := box_cells HW4.out.1
    go_upto_region 7 with (go_at_call 26; refine (HCk.out _ HW4.out.2).mono ?_; rintro e w1 ⟨rfl, hb⟩; have HX := Lib.hid (boxI HW4.out hb); clear hb c0 c1)
    clear HW4
    obtain ⟨⟨c0, c1⟩, -, -⟩ := box_cells HX.out.1
    go_upto_region 10 with (first
      | (go_at_call 36; refine (HW.out _ HX.out.2).mono ?_; rintro e w2 ⟨rfl, hb⟩; have HX := Lib.hid (boxI HX.out hb); clear hb c0 c1; obtain ⟨⟨c0, c1⟩, -, -⟩ := box_cells HX.out.1)
      | (go_at_call 38; refine (HY.out _ HX.out.2).mono ?_; rintro e w2 ⟨rfl, hb⟩; have HX := Lib.hid (boxI HX.out hb); clear hb c0 c1; obtain ⟨⟨c0, c1⟩, -, -⟩ := box_cells HX.out.1)
      | (go_at_call 40; refine (HF.out _ HX.out.2).mono ?_; rintro e w2 ⟨rfl, hb⟩; have HX := Lib.hid (boxI HX.out hb); clear hb c0 c1))
    have hs2 := span_two w2
    have HX := Lib.hid (boxI HX.out hs2.2)
    have HP := Lib.hid hs2.1
    clear hs2
    generalize w2.heap.size = P at HP ⊢
    generalize w2.alloc _ = w3 at HX HP ⊢
    obtain ⟨⟨c0, c1⟩, -, -⟩ := box_cells HX.out.1
    go_upto_region 11 with (go_at_call 43; refine (HL.out _ HX.out.2).mono ?_; rintro e w5 ⟨rfl, hb⟩; have HX := Lib.hid (boxI HX.out hb); have HP := Lib.hid ((hb.block _ (lt_some HP.out)).trans HP.out); clear hb c0 c1)
    obtain ⟨⟨m0, m1⟩, -, -⟩ := box_cells HP.out
    go_wp2_with (go_at_call 42; refine (HAw.out _).mono ?_; rintro e w8 ⟨rfl, hb⟩; have HB8 := Lib.hid (boxI HX.out hb).2; clear hb)
    go_ret
    exact ⟨rfl, by rw [← HCw.out]; exact HB8.out⟩
end Se
end Go.Proofs.Ythoidaaldngpmaa

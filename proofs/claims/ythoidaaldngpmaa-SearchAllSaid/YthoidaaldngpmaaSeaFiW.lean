/-
  Walk of the law SearchFinds of layer 6.
-/
import Derived.Test.YthoidaaldngpmaaSeaRefB
import Derived.Test.YthoidaaldngpmaaSeaFind
import Derived.Test.YthoidaaldngpmaaSeaMade
import Derived.Test.YthoidaaldngpmaaSeaWord
import Derived.Test.YthoidaaldngpmaaSeaAwake
namespace Go.Proofs.Ythoidaaldngpmaa
open Go.RowKit
namespace Se
open Cm Rx Au
/-- What Find gives, at any offset: some four values, of the program and of the reference alike. -/
theorem Find_both (ss : List St) (st : Nat) (s : ByteArray) (p : Int) (hv : ValidA ss (st : Int)) (hs : s.size ≤ 100000) :
    ∃ (i0 e0 e : Int) (b : Bool), Hid (∀ (v : Value) (w : World), RdT w v ss → Calls Try.prog 40 #[.agg #[v, .int .i64 (st : Int)], .string s, .int .i64 p] w fun x w' => x = .returned (.tuple #[.agg #[.int .i64 i0, .int .i64 e0], .bool b, .int .i64 e]) ∧ Below w.heap.size w w')
    ∧ Hid (∀ (v : Value) (w : World), RdT w v ss → Calls Try.prog 41 #[.agg #[v, .int .i64 (st : Int)], .string s, .int .i64 p] w fun x w' => x = .returned (.tuple #[.agg #[.int .i64 i0, .int .i64 e0], .bool b, .int .i64 e]) ∧ Below w.heap.size w w') := by
  by_cases hp : p < 0 ∨ (s.size : Int) < p
  · exact ⟨0, 0, 3, false, Lib.hid (fun v w h => Find_out v ss st s p w h.rd hv hp), Lib.hid (fun v w h => FindR_out v ss st s p w h.rd hv hp)⟩
  · obtain ⟨q, rfl⟩ : ∃ q : Nat, p = q := ⟨p.toNat, by omega⟩
    have hq : q ≤ s.size := by omega
    obtain ⟨i0, e0, h0⟩ : ∃ i0 e0 : Int, spanV (findF ss st (Tx.bs s) q) = .agg #[.int .i64 i0, .int .i64 e0] := by cases findF ss st (Tx.bs s) q <;> exact ⟨_, _, rfl⟩
    refine ⟨i0, e0, 0, (findF ss st (Tx.bs s) q).isSome, Lib.hid (fun v w h => ?_), Lib.hid (fun v w h => ?_)⟩
    · have := Find_ok v ss st s q w h hv hs hq
      unfold FindPost at this
      rw [h0] at this
      exact this
    · have := FindR_ok v ss st s q w h.rd hv hs hq
      unfold FindPost at this
      rw [h0] at this
      exact this
/-- What stays while the law runs: the automaton reads, its box holds it, all below is as it was. -/
structure LawI (C : Nat) (w : World) (v : Value) (st : Nat) (ss : List St) (Q : Nat) (W : World) : Prop where
  r : RdT W v ss
  x : W.heap[Q]? = some (.cells #[v, .int .i64 (st : Int)] tAuto (0, 0))
  b : Below C w W
theorem LawI.below {C : Nat} {w : World} {v : Value} {st : Nat} {ss : List St} {Q : Nat} {W W' : World} (h : LawI C w v st ss Q W) (hb : Below W.heap.size W W') (hC : C ≤ W.heap.size) : LawI C w v st ss Q W' :=
  ⟨h.r.below hb, (hb.block _ (lt_some h.x)).trans h.x, h.b.trans (hb.mono hC)⟩
theorem LawI.start {C : Nat} {w w2 : World} {v : Value} {st : Nat} {ss : List St} (hr : RdT w2 v ss) (hb : Below C w w2) (hC : C ≤ w2.heap.size) :
    LawI C w v st ss w2.heap.size (w2.alloc (.cells #[v, .int .i64 (st : Int)] tAuto)) := by
  have hbl : Below w2.heap.size w2 (w2.alloc (.cells #[v, .int .i64 (st : Int)] tAuto)) := (Below.refl _ _).alloc (Nat.le_refl _) _
  exact ⟨hr.below hbl, heap_new w2 _, hb.trans (hbl.mono hC)⟩
theorem span_new (W : World) (a b : Value) :
    (W.alloc (.cells #[a, b] tSp)).heap[W.heap.size]? = some (.cells #[a, b] tSp (0, 0)) ∧ Below W.heap.size W (W.alloc (.cells #[a, b] tSp)) :=
  ⟨heap_new W _, (Below.refl _ _).alloc (Nat.le_refl _) _⟩
set_option maxRecDepth 100000 in
set_option maxHeartbeats 4000000 in
theorem finds_walk (v : Value) (us : List Int) (n from_ : Int) (fit : Bool) (w : World) (h : RdV w v (intsV us)) (hu : us.length ≤ maxLen) (hn : -9223372036854775808 ≤ n ∧ n ≤ 9223372036854775807) (hf1 : -9223372036854775808 ≤ from_) (hf2 : from_ ≤ 9223372036854775807) :
    Calls Try.prog 7 #[v, .int .i64 n, .int .i64 from_, .bool fit] w fun e w' => e = .returned (.bool true) ∧ Below w.heap.size w w' := by
  have HAw := Lib.hid (fun w => awake6_any w)
  have HMd := Lib.hid (Mk6.made_any v us n w h hu hn)
  have HWd := Lib.hid (fun W (hb : Below w.heap.size w W) => word_any v us 50 W (h.below hb) hu (by omega))
  have HVa : Hid (ValidA (Mk6.madeS us n) (Mk6.madeT us n)) := Lib.hid (Mk6.made_valid us n)
  clear h hu hn
  generalize Mk6.madeS us n = sS at *
  generalize Mk6.madeT us n = sT at *
  obtain ⟨st, rfl⟩ : ∃ st : Nat, sT = (st : Int) := ⟨sT.toNat, by have := of_decide_eq_true HVa.out.2.1; omega⟩
  have hw : ((50 : Nat) : Int) = 50 := rfl
  simp only [hw] at HWd
  clear hw
  have HCw : Hid (w.heap.size ≤ w.heap.size) := Lib.hid (Nat.le_refl _)
  go_enter Try.func7, Try.ntmps7
  go_upto_region 2 with (first
    | (go_at_call 34; refine HMd.out.mono ?_; rintro e w1 ⟨vS, rfl, ho, hb⟩; have HS := Lib.hid (RdT.of_own ho); obtain ⟨A, c, rfl, -⟩ := id HS.out; have HB1 : Hid (Below w.heap.size w w1) := Lib.hid hb; clear ho hb HMd)
    | (go_at_call 35; refine (HWd.out _ HB1.out).mono ?_; rintro e w2 ⟨s, hs, rfl, hb⟩; have HS2 := Lib.hid (HS.out.below hb); have HB2 := Lib.hid (below_ch HB1.out hb); clear hb HWd HS))
  have HI := Lib.hid (LawI.start (st := st) HS2.out HB2.out HB2.out.size)
  generalize w2.heap.size = Q at HI ⊢
  generalize w2.alloc _ = w3 at HI ⊢
  clear HS2 HB2 HB1
  rcases Bool.eq_false_or_eq_true fit with hfit | hfit <;> subst hfit
  case' inl =>
    have HMo := Lib.hid (fun w => Tx.Mod_any from_ ((s.size : Int) + 1) w (by omega) (by omega) hf1 hf2)
    have hm1 := Tx.modF_lo from_ ((s.size : Int) + 1) (by omega)
    have hm2 := Tx.modF_hi from_ ((s.size : Int) + 1) (by omega)
    generalize Tx.modF from_ ((s.size : Int) + 1) = p at hm1 hm2 HMo
    go_upto_region 4 with (go_at_call 22; refine (HMo.out _).mono ?_; rintro e w4 ⟨rfl, rfl⟩)
    clear HMo hm1 hm2
  case' inr =>
    go_upto_region 4 with fail
    generalize from_ = p at *
  all_goals
    obtain ⟨i0, e0, er, bb, HF1, HF2⟩ := Find_both sS st s p HVa.out (by omega)
    have HW1 := Lib.hid (fun v W (h : RdT W v sS) => Whole_ok v sS st s W h HVa.out (by omega))
    have HW2 := Lib.hid (fun v W (h : RdT W v sS) => WholeR_ok v sS st s W h.rd HVa.out (by omega))
    have HY1 := Lib.hid (fun v W (h : RdT W v sS) => Any_ok v sS st s W h HVa.out (by omega))
    have HY2 := Lib.hid (fun v W (h : RdT W v sS) => AnyR_ok v sS st s W h.rd HVa.out (by omega))
    generalize wholeF sS st (Tx.bs s) = bw at HW1 HW2
    generalize anyF sS st (Tx.bs s) = ba at HY1 HY2
    obtain ⟨⟨c0, c1⟩, -, -⟩ := box_cells HI.out.x
    go_upto_region 9 with (first
      | (go_at_call 36; refine (HW1.out _ _ HI.out.r).mono ?_; rintro e w4 ⟨rfl, hb⟩; have HI := Lib.hid (HI.out.below hb HI.out.b.size); clear c0 c1 hb; obtain ⟨⟨c0, c1⟩, -, -⟩ := box_cells HI.out.x)
      | (go_at_call 37; refine (HW2.out _ _ HI.out.r).mono ?_; rintro e w4 ⟨rfl, hb⟩; have HI := Lib.hid (HI.out.below hb HI.out.b.size); clear c0 c1 hb; obtain ⟨⟨c0, c1⟩, -, -⟩ := box_cells HI.out.x)
      | (go_at_call 38; refine (HY1.out _ _ HI.out.r).mono ?_; rintro e w4 ⟨rfl, hb⟩; have HI := Lib.hid (HI.out.below hb HI.out.b.size); clear c0 c1 hb; obtain ⟨⟨c0, c1⟩, -, -⟩ := box_cells HI.out.x)
      | (go_at_call 39; refine (HY2.out _ _ HI.out.r).mono ?_; rintro e w4 ⟨rfl, hb⟩; have HI := Lib.hid (HI.out.below hb HI.out.b.size); clear c0 c1 hb; obtain ⟨⟨c0, c1⟩, -, -⟩ := box_cells HI.out.x)
      | (go_at_call 40; refine (HF1.out _ _ HI.out.r).mono ?_; rintro e w4 ⟨rfl, hb⟩; have HI := Lib.hid (HI.out.below hb HI.out.b.size); clear c0 c1 hb; obtain ⟨⟨c0, c1⟩, -, -⟩ := box_cells HI.out.x))
    have hp := span_new w4 (.int .i64 i0) (.int .i64 e0)
    have HI := Lib.hid (HI.out.below hp.2 HI.out.b.size)
    have HP := Lib.hid hp.1
    clear hp c0 c1
    generalize w4.heap.size = P at HP ⊢
    generalize w4.alloc _ = w5 at HP HI ⊢
    obtain ⟨⟨c0, c1⟩, -, -⟩ := box_cells HI.out.x
    go_upto_region 10 with (go_at_call 41; refine (HF2.out _ _ HI.out.r).mono ?_; rintro e w6 ⟨rfl, hb⟩; have HI := Lib.hid (HI.out.below hb HI.out.b.size); have HP := Lib.hid ((hb.block _ (lt_some HP.out)).trans HP.out); clear c0 c1 hb)
    have hp := span_new w6 (.int .i64 i0) (.int .i64 e0)
    have HB := Lib.hid (HI.out.below hp.2 HI.out.b.size).b
    have HP1 := Lib.hid ((hp.2.block _ (lt_some HP.out)).trans HP.out)
    have HP2 := Lib.hid hp.1
    clear hp HI
    generalize w6.heap.size = P2 at HP2 ⊢
    generalize w6.alloc _ = w7 at HP1 HP2 HB ⊢
    obtain ⟨⟨c0, c1⟩, -, -⟩ := box_cells HP1.out
    obtain ⟨⟨c2, c3⟩, -, -⟩ := box_cells HP2.out
    have g1 : (bw == bw) = true := beq_self_eq_true _
    have g2 : (ba == ba) = true := beq_self_eq_true _
    have g3 : (bb == bb) = true := beq_self_eq_true _
    have g4 : (er == er) = true := beq_self_eq_true _
    have g5 : (i0 == i0) = true := beq_self_eq_true _
    have g6 : (e0 == e0) = true := beq_self_eq_true _
    have HAw7 := Lib.hid (HAw.out w7)
    clear HAw HF1 HF2 HW1 HW2 HY1 HY2
    go_wp2_with (go_at_call 42; refine HAw7.out.mono ?_; rintro e w8 ⟨rfl, hb⟩; have HB8 := Lib.hid (below_ch HB.out hb); clear hb)
    go_ret
    exact ⟨rfl, HB8.out⟩
end Se
end Go.Proofs.Ythoidaaldngpmaa

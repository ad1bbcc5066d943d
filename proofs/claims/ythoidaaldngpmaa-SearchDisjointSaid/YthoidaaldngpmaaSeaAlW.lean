/-
  Walk of the law SearchAll of layer 6.
-/
import Derived.Test.YthoidaaldngpmaaSeaAllR
import Derived.Test.YthoidaaldngpmaaSeaFiW
namespace Go.Proofs.Ythoidaaldngpmaa
open Go.RowKit
namespace Se
open Cm Rx Au
theorem allG_len (ss : List St) (st : Nat) (bs : List UInt8) : ∀ d p, (allG ss st bs d p).length ≤ d
  | 0, p => Nat.le_refl _
  | d + 1, p => by
    cases hf : findF ss st bs p with
    | none => rw [allG_nil hf]; exact Nat.zero_le _
    | some x => rw [allG_cons hf, List.length_cons]; have := allG_len ss st bs d (nextP x); omega
set_option maxRecDepth 100000 in
set_option maxHeartbeats 4000000 in
theorem all_walk (v : Value) (us : List Int) (n : Int) (w : World) (h : RdV w v (intsV us)) (hu : us.length ≤ maxLen) (hn : -9223372036854775808 ≤ n ∧ n ≤ 9223372036854775807) :
    Calls Try.prog 8 #[v, .int .i64 n] w fun e w' => e = .returned (.bool true) ∧ Below w.heap.size w w' := by
  have HAw := Lib.hid (fun w => awake6_any w)
  have HMd := Lib.hid (Mk6.made_any v us n w h hu hn)
  have HWd := Lib.hid (fun W (hb : Below w.heap.size w W) => word_any v us 50 W (h.below hb) hu (by omega))
  have HVa : Hid (ValidA (Mk6.madeS us n) (Mk6.madeT us n)) := Lib.hid (Mk6.made_valid us n)
  clear h hu hn
  generalize Mk6.madeS us n = sS at *
  generalize Mk6.madeT us n = sT at *
  obtain ⟨st, rfl⟩ : ∃ st : Nat, sT = (st : Int) := ⟨sT.toNat, by have := of_decide_eq_true HVa.out.2.1; omega⟩
  have hw : ((50 : Nat) : Int) = 50 := rfl
  simp only [hw] at HWd
  clear hw
  go_enter Try.func8, Try.ntmps8
  go_upto_region 2 with (first
    | (go_at_call 34; refine HMd.out.mono ?_; rintro e w1 ⟨vS, rfl, ho, hb⟩; have HS := Lib.hid (RdT.of_own ho); obtain ⟨A, c, rfl, -⟩ := id HS.out; have HB1 : Hid (Below w.heap.size w w1) := Lib.hid hb; clear ho hb HMd)
    | (go_at_call 35; refine (HWd.out _ HB1.out).mono ?_; rintro e w2 ⟨s, hs, rfl, hb⟩; have HS2 := Lib.hid (HS.out.below hb); have HB2 := Lib.hid (below_ch HB1.out hb); clear hb HWd HS))
  have HI := Lib.hid (LawI.start (st := st) HS2.out HB2.out HB2.out.size)
  generalize w2.heap.size = Q at HI ⊢
  generalize w2.alloc _ = w3 at HI ⊢
  clear HS2 HB2 HB1
  have hlen : (allL sS st (Tx.bs s)).length ≤ 1000000 := by
    have := allG_len sS st (Tx.bs s) ((Tx.bs s).length + 1) 0
    have hb := bs_len s
    unfold allL
    omega
  have HA1 := Lib.hid (fun v W (h : RdT W v sS) => All_ok v sS st s W h HVa.out (by omega))
  have HA2 := Lib.hid (fun v W (h : RdT W v sS) => AllR_ok v sS st s W h.rd HVa.out (by omega))
  generalize allL sS st (Tx.bs s) = L at HA1 HA2 hlen
  obtain ⟨⟨c0, c1⟩, -, -⟩ := box_cells HI.out.x
  go_upto_region 4 with (first
    | (go_at_call 43; refine (HA1.out _ _ HI.out.r).mono ?_; rintro e w4 ⟨v4, rfl, ho, hb⟩; have HI := Lib.hid (HI.out.below hb HI.out.b.size); have HR4 := Lib.hid (RdP.of_own ho); clear c0 c1 hb ho; obtain ⟨⟨c0, c1⟩, -, -⟩ := box_cells HI.out.x)
    | (go_at_call 44; refine (HA2.out _ _ HI.out.r).mono ?_; rintro e w5 ⟨v5, rfl, ho, hb⟩; have HI := Lib.hid (HI.out.below hb HI.out.b.size); have HR5 := Lib.hid (RdP.of_own ho); have HR4 := Lib.hid (HR4.out.below hb); clear c0 c1 hb ho))
  have HB5 := Lib.hid HI.out.b
  have HSp := Lib.hid (by have h := Spans_any v4 v5 L L w5 HR4.out HR5.out hlen hlen; rw [decide_eq_true rfl] at h; exact h)
  clear HI HR4 HR5 HA1 HA2
  go_wp2_with (first
    | (go_at_call 45; refine HSp.out.mono ?_; rintro e w6 ⟨rfl, q, hq⟩; have HB6 := Lib.hid (show Below w.heap.size w w6 by rw [hq]; exact below_drewN HB5.out q); clear hq)
    | (go_at_call 42; refine (HAw.out _).mono ?_; rintro e w7 ⟨rfl, hb⟩; have HB7 := Lib.hid (below_ch HB6.out hb); clear hb))
  go_ret
  exact ⟨rfl, HB7.out⟩
end Se
end Go.Proofs.Ythoidaaldngpmaa

/-
  The walk of AutomatonLists. Conditions: what a row asks of its arguments.
-/
import Derived.Test.YtebljjdhgepfkaaNodesW
import Derived.Test.YtebljjdhgepfkaaAccL
import Derived.Test.YtebljjdhgepfkaaAutoAwM
namespace Go.Proofs.Ytebljjdhgepfkaa
open Go.RowKit
namespace No
open Cm Rx Au Th Pr Se Tx
theorem size_one (s : ByteArray) (b : UInt8) {i : Nat} (h : s.size = i) : (s ++ ⟨#[b]⟩).size = i + 1 := by
  rw [ByteArray.size_append, h]
  rfl
set_option maxRecDepth 100000 in
set_option maxHeartbeats 8000000 in
theorem lists_walk (v : Value) (us : List Int) (n : Int) (w : World) (h : RdV w v (intsV us)) (hu : us.length ≤ maxLen) (hn : -9223372036854775808 ≤ n ∧ n ≤ 9223372036854775807) :
    Calls Try.prog 4 #[v, .int .i64 n] w (AccPost w) := by
  have HAt := Lib.hid (fun (wq : World) (k : Int) (hb : Below w.heap.size w wq) (h0 : 0 ≤ k) (h1 : k ≤ 1000000) => At_fn v us k wq (h.below hb) hu h0 h1)
  have HNs := Lib.hid (nodes_any v us n w h hu hn)
  have HAw := Lib.hid (fun w => awake5_any w)
  obtain ⟨A, c, rfl⟩ := h.form
  clear h hu hn
  rw [intsV_len] at HAt HNs ⊢
  generalize us.length = nu at HAt HNs ⊢
  have HA0 := Lib.hid (fun wq hb => HAt.out wq 90 hb (by omega) (by omega))
  have x1 := atF_lo us 90
  have x2 := atF_hi us 90
  generalize atF us 90 = x0 at *
  have HM7 := Lib.hid (fun wq => Tx.Mod_any x0 7 wq (by decide) (by decide) x1 x2)
  have m1 := Tx.modF_lo x0 7 (by decide)
  have m2 := Tx.modF_hi x0 7 (by decide)
  generalize Tx.modF x0 7 = z at *
  obtain ⟨N, rfl⟩ : ∃ N : Nat, z = (N : Int) := ⟨z.toNat, by omega⟩
  clear x1 x2
  go_enter Try.func4, Try.ntmps4
  go_wp2_with fail
  refine HNs.out.mono ?_
  rintro e w1 ⟨vn, ns, rfl, hrd, hp, hl, hsm, hb1⟩
  obtain ⟨hcode, hck, hval, hkids⟩ := small_code hp hl hsm
  have hwt := small_wt hp hl hsm
  have HWt := Lib.hid (fun wq (hq : Below w1.heap.size w1 wq) => WeightR_any vn ns wq (hrd.below hq) (by omega) hkids)
  have HBd := Lib.hid (fun wq (hq : Below w1.heap.size w1 wq) => build_all vn ns wq (hrd.below hq) (by omega) hkids)
  have HAc := Lib.hid (fun (s : ByteArray) => build_acc (bs := bs s) hcode)
  have HAp := Lib.hid (fun (va : Value) (st : Nat) (s : ByteArray) (wq : World) (hq : Below w1.heap.size w1 wq) (hs : s.size ≤ 100000) (ha : RdA wq va (resB ns).2) (hva : ValidA (resB ns).2 (st : Int)) hacc => accepts_any vn va ns (resB ns).2 st s wq (hrd.below hq) hval hkids hs ha hva hacc)
  have HB1 := Lib.hid hb1
  unfold BuildPost at HBd
  rw [hcode] at HBd
  rw [hck] at HWt
  obtain ⟨A1, c1, hv1⟩ : ∃ A1 c1, vn = .slice A1 ns.length c1 := by obtain ⟨A1, c1, e, _⟩ := hrd; exact ⟨A1, c1, e⟩
  subst hv1
  clear HNs hrd hp hl hsm hb1 hcode hck hval hkids
  go_wp2_with fail
  refine (HWt.out w1 (Below.refl _ _)).mono ?_
  rintro e w2 ⟨rfl, hb2⟩
  have HB2 := Lib.hid hb2
  clear hb2 HWt
  go_wp2_with fail
  go_loopw [8, 9] (fun s' i' wr => ∃ (i : Nat) (s : ByteArray), i ≤ N ∧ s' = .string s ∧ i' = .int .i64 (i : Int) ∧ Hid (s.size = i) ∧ Hid (Below w1.heap.size w1 wr)) (fun _ i' _ => N - (intOf i').toNat)
  case atStart => exact ⟨0, ⟨#[]⟩, Nat.zero_le _, rfl, rfl, Lib.hid rfl, HB2⟩
  case round =>
    obtain ⟨i, s, hi, rfl, rfl, HS, HB⟩ := hrel
    clear HB2
    have HBw := Lib.hid (HB1.out.trans (HB.out.mono HB1.out.size))
    by_cases hlt : i < N
    · have d0 : decide (i < N) = true := decide_eq_true hlt
      have d1 : decide ((i : Int) < (N : Int)) = true := decide_eq_true (by omega)
      have y1 := atF_lo us (91 + (i : Int))
      have y2 := atF_hi us (91 + (i : Int))
      have HM3 := Lib.hid (fun wq => Tx.Mod_any (atF us (91 + (i : Int))) 3 wq (by decide) (by decide) y1 y2)
      have r1 := Tx.modF_lo (atF us (91 + (i : Int))) 3 (by decide)
      have r2 := Tx.modF_hi (atF us (91 + (i : Int))) 3 (by decide)
      generalize hxr : Tx.modF (atF us (91 + (i : Int))) 3 = r at *
      have hss : s.size ≤ 10 := by rw [HS.out]; omega
      clear y1 y2 hxr
      have hr : r = 0 ∨ r = 1 ∨ r = 2 := by omega
      clear r1 r2
      rcases hr with rfl | rfl | rfl
      all_goals
        go_wp2_with (first
          | (go_at_call 12; (with_reducible refine (HA0.out _ HBw.out).mono ?_); rintro e w7 ⟨rfl, rfl⟩)
          | (go_at_call 11; (with_reducible refine (HM7.out _).mono ?_); rintro e w7 ⟨rfl, rfl⟩)
          | (go_at_call 12; refine (HAt.out _ _ (HBw.out.alloc HBw.out.size _) (by omega) (by omega)).mono ?_; rintro e w7 ⟨rfl, rfl⟩)
          | (go_at_call 11; refine (HM3.out _).mono ?_; rintro e w7 ⟨rfl, rfl⟩))
        go_roundw
        case rel => exact ⟨i + 1, _, by omega, rfl, by go_num, Lib.hid (size_one _ _ HS.out), Lib.hid (HB.out.alloc HB.out.size _)⟩
        case measure => simp [intOf]; omega
    · have d0 : decide (i < N) = false := decide_eq_false hlt
      have d1 : decide ((i : Int) < (N : Int)) = false := decide_eq_false (by omega)
      have HB3 := Lib.hid (HBd.out wr HB.out)
      have hss : s.size ≤ 100000 := by rw [HS.out]; omega
      have HAcs := Lib.hid (HAc.out s)
      have HAps := Lib.hid (fun va st wq hq ha hva hacc => HAp.out va st s wq hq hss ha hva hacc)
      clear HAc HAp HBd hss
      go_wp2_with (first
        | (go_at_call 12; (with_reducible refine (HA0.out _ HBw.out).mono ?_); rintro e w7 ⟨rfl, rfl⟩)
        | (go_at_call 11; (with_reducible refine (HM7.out _).mono ?_); rintro e w7 ⟨rfl, rfl⟩))
      refine HB3.out.mono ?_
      rintro e w3 ⟨va, rfl, hra, hb3⟩
      obtain ⟨hva, hlen, hrun⟩ := HAcs.out
      have hst : 0 ≤ (resB ns).1 := by
        have := hva.2.1
        simp only [hasB, decide_eq_true_eq] at this
        omega
      obtain ⟨st, hst2⟩ : ∃ st : Nat, (resB ns).1 = (st : Int) := ⟨(resB ns).1.toNat, by omega⟩
      rw [hst2] at hva hrun ⊢
      rw [Int.toNat_natCast] at hrun
      have HX := Lib.hid hlen
      have hln := hva.1
      have HV := Lib.hid hva
      have HRu := Lib.hid hrun
      have HRa := Lib.hid hra
      obtain ⟨A2, c2, hv2⟩ : ∃ A2 c2, va = .slice A2 (resB ns).2.length c2 := by obtain ⟨A2, c2, e, _⟩ := hra; exact ⟨A2, c2, e⟩
      subst hv2
      have HBb := Lib.hid (HB.out.trans (hb3.mono HB.out.size))
      have HBc := Lib.hid (HB1.out.trans (HBb.out.mono HB1.out.size))
      clear hva hrun hlen hra hb3 hst hst2 HAcs HB3 HBw HB HA0 HM7 HAt
      generalize (resB ns).2 = ss at *
      have hdec : decide ((ss.length : Int) ≤ weightR ns + 1) = true := decide_eq_true HX.out
      have HCk := Lib.hid (fun wq (hq : Below w3.heap.size w3 wq) => CheckAR_any (.slice A2 ss.length c2) ss (st : Int) wq (HRa.out.below hq) (by omega))
      rw [checkA_T HV.out] at HCk
      have HAcp := Lib.hid (fun wq (hq : Below w3.heap.size w3 wq) => HAps.out (.slice A2 ss.length c2) st wq (HBb.out.trans (hq.mono HBb.out.size)) (HRa.out.below hq) HV.out HRu.out)
      unfold AccPost at HAcp
      clear HX HAps HV HRu HRa HBb
      generalize weightR ns = wt at *
      obtain ⟨wt0, wt1⟩ := hwt
      generalize ss.length = N2 at *
      generalize ns.length = N1 at *
      have HB4 := Lib.hid ((Below.refl w3.heap.size w3).alloc (Nat.le_refl _) (.cells #[.slice A2 N2 c2, .int .i64 (st : Int)] 37))
      go_wp2_with fail
      refine (HCk.out _ HB4.out).mono ?_
      rintro e w4 ⟨rfl, hb4⟩
      have g0 : w4.cell? ⟨w3.heap.size, 0, none⟩ = some (.slice A2 N2 c2) := (hb4.cell (p := ⟨w3.heap.size, 0, none⟩) (by simp)).trans (by simp)
      have g1 : w4.cell? ⟨w3.heap.size, 1, none⟩ = some (.int .i64 (st : Int)) := (hb4.cell (p := ⟨w3.heap.size, 1, none⟩) (by simp)).trans (by simp)
      have HB5 := Lib.hid (HB4.out.trans (hb4.mono HB4.out.size))
      clear hb4 HCk HB4
      go_wp2_with fail
      refine (HAcp.out _ HB5.out).mono ?_
      rintro e w5 ⟨rfl, hb5⟩
      have HB6 := Lib.hid (HBc.out.trans ((HB5.out.trans (hb5.mono HB5.out.size)).mono HBc.out.size))
      clear hb5 HAcp HB5 g0 g1
      go_wp2_with fail
      refine (HAw.out _).mono ?_
      rintro e w6 ⟨rfl, hb6⟩
      have HB7 := Lib.hid (HB6.out.trans (hb6.mono HB6.out.size))
      clear hb6 HB6
      go_wp2_with fail
      go_ret
      exact ⟨rfl, HB7.out⟩
end No
end Go.Proofs.Ytebljjdhgepfkaa

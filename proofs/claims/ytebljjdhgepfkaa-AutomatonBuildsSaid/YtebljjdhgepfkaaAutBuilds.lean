/-
  The walk of AutomatonBuilds. Conditions: what a row asks of its arguments.
-/
import Derived.Test.YtebljjdhgepfkaaPatP
import Derived.Test.YtebljjdhgepfkaaShortS
import Derived.Test.YtebljjdhgepfkaaRegexNz
import Derived.Test.YtebljjdhgepfkaaRegexLawY
import Derived.Test.YtebljjdhgepfkaaAutoW
import Derived.Test.YtebljjdhgepfkaaAutoAt
import Derived.Test.YtebljjdhgepfkaaAccL
import Derived.Test.YtebljjdhgepfkaaAutoAwM
namespace Go.Proofs.Ytebljjdhgepfkaa
open Go.RowKit
namespace No
open Cm Rx Px Au Th Pr Se Tx
theorem rdI_ofB {w : World} {v : Value} {l : List Int} (h : RdV w v (intsV l)) (hb : ∀ z ∈ l, -9223372036854775808 ≤ z ∧ z ≤ 9223372036854775807) : Tx.RdI w v l.length := by
  obtain ⟨A, c, rfl, _, hA⟩ := h
  refine ⟨A, c, by rw [intsV_len], fun hp => ?_⟩
  obtain ⟨b, off, rfl, hc⟩ := hA (by rw [intsV_len]; exact hp)
  refine ⟨b, off, rfl, fun j hj => ⟨l[j], ?_, hb _ (List.getElem_mem hj)⟩⟩
  rw [hc j (by rw [intsV_len]; exact hj)]
  simp [intsV]
theorem pat_code {ns : List Nd} (hv : Valid ns) (hw : weightF ns ≤ 1000) (h0 : 0 ≤ weightF ns) : codeB ns = 0 ∧ checkF ns = 0 ∧ 0 ≤ weightR ns ∧ weightR ns ≤ 4000 := by
  have e : weightR ns = weightF ns := by unfold weightR; rw [check_T hv, if_pos rfl]
  refine ⟨?_, check_T hv, by omega, by omega⟩
  unfold codeB
  rw [if_pos hv, if_neg (by omega)]
theorem sizeB (s : ByteArray) (b : UInt8) {i : Nat} (h : s.size = i) : (s ++ ⟨#[b]⟩).size = i + 1 := by
  rw [ByteArray.size_append, h]
  rfl
set_option maxRecDepth 100000 in
set_option maxHeartbeats 8000000 in
theorem builds_walk (v : Value) (us : List Int) (n : Int) (sa : ByteArray) (pl : Bool) (w : World) (h : RdV w v (intsV us)) (ht : ∀ z ∈ us, -9223372036854775808 ≤ z ∧ z ≤ 9223372036854775807) (hu : us.length ≤ maxLen) (hn : -9223372036854775808 ≤ n ∧ n ≤ 9223372036854775807) :
    Calls Try.prog 3 #[v, .int .i64 n, .string sa, .bool pl] w (AccPost w) := by
  have HAt := Lib.hid (fun (wq : World) (k : Int) (hb : Below w.heap.size w wq) (h0 : 0 ≤ k) (h1 : k ≤ 1000000) => At_fn v us k wq (h.below hb) hu h0 h1)
  have HPt := Lib.hid (Pattern_any v us.length n w (rdI_ofB h ht) hu hn.1 hn.2)
  have HSh := Lib.hid (fun wq => short9 sa wq)
  have HAw := Lib.hid (fun w => awake5_any w)
  obtain ⟨A, c, rfl⟩ := h.form
  clear h hu hn ht
  rw [intsV_len] at HAt HPt ⊢
  generalize us.length = nu at HAt HPt ⊢
  have HA0 := Lib.hid (fun wq hb => HAt.out wq 70 hb (by omega) (by omega))
  have x1 := atF_lo us 70
  have x2 := atF_hi us 70
  generalize atF us 70 = x0 at *
  have HM7 := Lib.hid (fun wq => Tx.Mod_any x0 10 wq (by decide) (by decide) x1 x2)
  have m1 := Tx.modF_lo x0 10 (by decide)
  have m2 := Tx.modF_hi x0 10 (by decide)
  generalize Tx.modF x0 10 = z at *
  obtain ⟨N, rfl⟩ : ∃ N : Nat, z = (N : Int) := ⟨z.toNat, by omega⟩
  clear x1 x2
  go_enter Try.func3, Try.ntmps3
  go_wp2_with fail
  refine HPt.out.mono ?_
  rintro e w1 ⟨x, hx, ⟨np, hnp, hpt⟩, rfl, hb1⟩
  have HPar := Lib.hid (ParseR_rd x w1 (by omega))
  have HB1 := Lib.hid hb1
  clear HPt hb1
  cases hr : parseF (Tx.bs x) with
  | error cd =>
    have hc0 : cd ≠ 0 := parse_nz cd hr
    rw [hr] at HPar
    have e1 : (cd == 0) = false := by rw [beq_eq_false_iff_ne]; exact hc0
    have e2 : (cd != 0) = true := by rw [bne, e1]; rfl
    clear hr hc0 hx hpt hnp
    go_wp2_with fail
    refine HPar.out.mono ?_
    rintro e w2 ⟨v2, rfl, r2, B2⟩
    obtain ⟨A2, c2, rfl, _⟩ := r2
    have HB2 := Lib.hid (HB1.out.trans (B2.mono HB1.out.size))
    clear B2 HPar
    unfold codeR nodesR
    simp only [List.length_nil]
    go_wp2_with fail
    refine (HAw.out _).mono ?_
    rintro e w6 ⟨rfl, hb6⟩
    have HB7 := Lib.hid (HB2.out.trans (hb6.mono HB2.out.size))
    clear hb6 HB2
    go_wp2_with fail
    go_ret
    exact ⟨rfl, HB7.out⟩
  | ok ns =>
    obtain ⟨hval, hln0, hkd⟩ := parse_good hr
    have hwl := parse_light hpt (by omega) hr
    rw [hr] at HPar
    unfold codeR nodesR at HPar
    have hkids : ∀ n ∈ ns, n.kids.length ≤ 1000000 := fun n hn => by have := hkd n hn; omega
    obtain ⟨hcode, hck, hwt⟩ := pat_code hval hwl (weightF_nn hval)
    clear hr hx hpt hnp hkd hwl
    go_wp2_with fail
    refine HPar.out.mono ?_
    rintro e wp ⟨vn, rfl, hrd, hbp⟩
    have HWt := Lib.hid (fun wq (hq : Below wp.heap.size wp wq) => WeightR_any vn ns wq (hrd.below hq) (by omega) hkids)
    have HBd := Lib.hid (fun wq (hq : Below wp.heap.size wp wq) => build_all vn ns wq (hrd.below hq) (by omega) hkids)
    have HAc := Lib.hid (fun (s : ByteArray) => build_acc (bs := bs s) hcode)
    have HAp := Lib.hid (fun (va : Value) (st : Nat) (s : ByteArray) (wq : World) (hq : Below wp.heap.size wp wq) (hs : s.size ≤ 100000) (ha : RdA wq va (resB ns).2) (hva : ValidA (resB ns).2 (st : Int)) hacc => accepts_any vn va ns (resB ns).2 st s wq (hrd.below hq) hval hkids hs ha hva hacc)
    have HBp := Lib.hid (HB1.out.trans (hbp.mono HB1.out.size))
    unfold BuildPost at HBd
    rw [hcode] at HBd
    rw [hck] at HWt
    obtain ⟨A1, c1, hv1⟩ : ∃ A1 c1, vn = .slice A1 ns.length c1 := by obtain ⟨A1, c1, e, _⟩ := hrd; exact ⟨A1, c1, e⟩
    subst hv1
    clear hrd hcode hck hval hkids HB1 HPar hbp
    have hl := hln0
    clear hln0
    go_wp2_with fail
    refine (HSh.out wp).mono ?_
    rintro e w1 ⟨s1, hs1, rfl, rfl⟩
    have HB1 := HBp
    clear HBp HSh
    cases pl with
    | false =>
      have hss : s1.size ≤ 100000 := by omega
      have HB := Lib.hid (Below.refl w1.heap.size w1)
      clear hs1
      have HAcs := Lib.hid (HAc.out s1)
      have HAps := Lib.hid (fun va st wq hq ha hva hacc => HAp.out va st s1 wq hq hss ha hva hacc)
      clear HAc HAp hss
      go_wp2_with fail
      refine (HWt.out w1 HB.out).mono ?_
      rintro e w2 ⟨rfl, hb2⟩
      have HB2 := Lib.hid (HB.out.trans (hb2.mono HB.out.size))
      have HB3 := Lib.hid (HBd.out w2 HB2.out)
      clear hb2 HWt HBd
      go_wp2_with fail
      refine HB3.out.mono ?_
      rintro e w3 ⟨va, rfl, hra, hb3⟩
      obtain ⟨hva, hlen, hrun⟩ := HAcs.out
      have hst : 0 ≤ (resB ns).1 := by
        have := hva.2.1
        simp only [hasB, decide_eq_true_eq] at this
        omega
      obtain ⟨st, hst2⟩ : ∃ st : Nat, (resB ns).1 = (st : Int) := ⟨(resB ns).1.toNat, by omega⟩
      rw [hst2] at hva hrun ⊢
      rw [Int.toNat_natCast] at hrun
      have HX := Lib.hid hlen
      have hln := hva.1
      have HV := Lib.hid hva
      have HRu := Lib.hid hrun
      have HRa := Lib.hid hra
      obtain ⟨A2, c2, hv2⟩ : ∃ A2 c2, va = .slice A2 (resB ns).2.length c2 := by obtain ⟨A2, c2, e, _⟩ := hra; exact ⟨A2, c2, e⟩
      subst hv2
      have HBb := Lib.hid (HB2.out.trans (hb3.mono HB2.out.size))
      have HBc := Lib.hid (HB1.out.trans (HBb.out.mono HB1.out.size))
      clear hva hrun hlen hra hb3 hst hst2 HAcs HB3 HB2 HB HA0 HM7 HAt
      generalize (resB ns).2 = ss at *
      have hdec : decide ((ss.length : Int) ≤ weightR ns + 1) = true := decide_eq_true HX.out
      have HCk := Lib.hid (fun wq (hq : Below w3.heap.size w3 wq) => CheckAR_any (.slice A2 ss.length c2) ss (st : Int) wq (HRa.out.below hq) (by omega))
      rw [checkA_T HV.out] at HCk
      have HAcp := Lib.hid (fun wq (hq : Below w3.heap.size w3 wq) => HAps.out (.slice A2 ss.length c2) st wq (HBb.out.trans (hq.mono HBb.out.size)) (HRa.out.below hq) HV.out HRu.out)
      unfold AccPost at HAcp
      clear HX HAps HV HRu HRa HBb
      generalize weightR ns = wt at *
      obtain ⟨wt0, wt1⟩ := hwt
      generalize ss.length = N2 at *
      generalize ns.length = N1 at *
      have HB4 := Lib.hid ((Below.refl w3.heap.size w3).alloc (Nat.le_refl _) (.cells #[.slice A2 N2 c2, .int .i64 (st : Int)] 37))
      go_wp2_with fail
      refine (HCk.out _ HB4.out).mono ?_
      rintro e w4 ⟨rfl, hb4⟩
      have g0 : w4.cell? ⟨w3.heap.size, 0, none⟩ = some (.slice A2 N2 c2) := (hb4.cell (p := ⟨w3.heap.size, 0, none⟩) (by simp)).trans (by simp)
      have g1 : w4.cell? ⟨w3.heap.size, 1, none⟩ = some (.int .i64 (st : Int)) := (hb4.cell (p := ⟨w3.heap.size, 1, none⟩) (by simp)).trans (by simp)
      have HB5 := Lib.hid (HB4.out.trans (hb4.mono HB4.out.size))
      clear hb4 HCk HB4
      go_wp2_with fail
      refine (HAcp.out _ HB5.out).mono ?_
      rintro e w5 ⟨rfl, hb5⟩
      have HB6 := Lib.hid (HBc.out.trans ((HB5.out.trans (hb5.mono HB5.out.size)).mono HBc.out.size))
      clear hb5 HAcp HB5 g0 g1
      go_wp2_with fail
      refine (HAw.out _).mono ?_
      rintro e w6 ⟨rfl, hb6⟩
      have HB7 := Lib.hid (HB6.out.trans (hb6.mono HB6.out.size))
      clear hb6 HB6
      go_wp2_with fail
      go_ret
      exact ⟨rfl, HB7.out⟩
    | true =>
      have HB2 := Lib.hid (Below.refl w1.heap.size w1)
      clear hs1
      go_wp2_with fail
      go_loopw [2, 11] (fun s' i' wr => ∃ (i : Nat) (s : ByteArray), i ≤ N ∧ s' = .string s ∧ i' = .int .i64 (i : Int) ∧ Hid (s.size = i) ∧ Hid (Below w1.heap.size w1 wr)) (fun _ i' _ => N - (intOf i').toNat)
      case atStart => exact ⟨0, ⟨#[]⟩, Nat.zero_le _, rfl, rfl, Lib.hid rfl, HB2⟩
      case round =>
        obtain ⟨i, s, hi, rfl, rfl, HS, HB⟩ := hrel
        clear HB2
        have HBw := Lib.hid (HB1.out.trans (HB.out.mono HB1.out.size))
        by_cases hlt : i < N
        · have d0 : decide (i < N) = true := decide_eq_true hlt
          have d1 : decide ((i : Int) < (N : Int)) = true := decide_eq_true (by omega)
          have y1 := atF_lo us (71 + (i : Int))
          have y2 := atF_hi us (71 + (i : Int))
          have HM3 := Lib.hid (fun wq => Tx.Mod_any (atF us (71 + (i : Int))) 4 wq (by decide) (by decide) y1 y2)
          have r1 := Tx.modF_lo (atF us (71 + (i : Int))) 4 (by decide)
          have r2 := Tx.modF_hi (atF us (71 + (i : Int))) 4 (by decide)
          generalize hxr : Tx.modF (atF us (71 + (i : Int))) 4 = r at *
          have hss : s.size ≤ 10 := by rw [HS.out]; omega
          clear y1 y2 hxr
          have hr : r = 0 ∨ r = 1 ∨ r = 2 ∨ r = 3 := by omega
          clear r1 r2
          rcases hr with rfl | rfl | rfl | rfl
          all_goals
            go_wp2_with (first
              | (go_at_call 12; (with_reducible refine (HA0.out _ HBw.out).mono ?_); rintro e w7 ⟨rfl, rfl⟩)
              | (go_at_call 11; (with_reducible refine (HM7.out _).mono ?_); rintro e w7 ⟨rfl, rfl⟩)
              | (go_at_call 12; refine (HAt.out _ _ (HBw.out.alloc HBw.out.size _) (by omega) (by omega)).mono ?_; rintro e w7 ⟨rfl, rfl⟩)
              | (go_at_call 11; refine (HM3.out _).mono ?_; rintro e w7 ⟨rfl, rfl⟩))
            go_roundw
            case rel => exact ⟨i + 1, _, by omega, rfl, by go_num, Lib.hid (sizeB _ _ HS.out), Lib.hid (HB.out.alloc HB.out.size _)⟩
            case measure => simp [intOf]; omega
        · have d0 : decide (i < N) = false := decide_eq_false hlt
          have d1 : decide ((i : Int) < (N : Int)) = false := decide_eq_false (by omega)
          have hss : s.size ≤ 100000 := by rw [HS.out]; omega
          clear hlt hi
          have HAcs := Lib.hid (HAc.out s)
          have HAps := Lib.hid (fun va st wq hq ha hva hacc => HAp.out va st s wq hq hss ha hva hacc)
          clear HAc HAp hss
          go_wp2_with (first
            | (go_at_call 12; (with_reducible refine (HA0.out _ HBw.out).mono ?_); rintro e w7 ⟨rfl, rfl⟩)
            | (go_at_call 11; (with_reducible refine (HM7.out _).mono ?_); rintro e w7 ⟨rfl, rfl⟩))
          refine (HWt.out wr HB.out).mono ?_
          rintro e w2 ⟨rfl, hb2⟩
          have HB2 := Lib.hid (HB.out.trans (hb2.mono HB.out.size))
          have HB3 := Lib.hid (HBd.out w2 HB2.out)
          clear hb2 HWt HBd
          go_wp2_with fail
          refine HB3.out.mono ?_
          rintro e w3 ⟨va, rfl, hra, hb3⟩
          obtain ⟨hva, hlen, hrun⟩ := HAcs.out
          have hst : 0 ≤ (resB ns).1 := by
            have := hva.2.1
            simp only [hasB, decide_eq_true_eq] at this
            omega
          obtain ⟨st, hst2⟩ : ∃ st : Nat, (resB ns).1 = (st : Int) := ⟨(resB ns).1.toNat, by omega⟩
          rw [hst2] at hva hrun ⊢
          rw [Int.toNat_natCast] at hrun
          have HX := Lib.hid hlen
          have hln := hva.1
          have HV := Lib.hid hva
          have HRu := Lib.hid hrun
          have HRa := Lib.hid hra
          obtain ⟨A2, c2, hv2⟩ : ∃ A2 c2, va = .slice A2 (resB ns).2.length c2 := by obtain ⟨A2, c2, e, _⟩ := hra; exact ⟨A2, c2, e⟩
          subst hv2
          have HBb := Lib.hid (HB2.out.trans (hb3.mono HB2.out.size))
          have HBc := Lib.hid (HB1.out.trans (HBb.out.mono HB1.out.size))
          clear hva hrun hlen hra hb3 hst hst2 HAcs HB3 HB2 HB HA0 HM7 HAt
          generalize (resB ns).2 = ss at *
          have hdec : decide ((ss.length : Int) ≤ weightR ns + 1) = true := decide_eq_true HX.out
          have HCk := Lib.hid (fun wq (hq : Below w3.heap.size w3 wq) => CheckAR_any (.slice A2 ss.length c2) ss (st : Int) wq (HRa.out.below hq) (by omega))
          rw [checkA_T HV.out] at HCk
          have HAcp := Lib.hid (fun wq (hq : Below w3.heap.size w3 wq) => HAps.out (.slice A2 ss.length c2) st wq (HBb.out.trans (hq.mono HBb.out.size)) (HRa.out.below hq) HV.out HRu.out)
          unfold AccPost at HAcp
          clear HX HAps HV HRu HRa HBb
          generalize weightR ns = wt at *
          obtain ⟨wt0, wt1⟩ := hwt
          generalize ss.length = N2 at *
          generalize ns.length = N1 at *
          have HB4 := Lib.hid ((Below.refl w3.heap.size w3).alloc (Nat.le_refl _) (.cells #[.slice A2 N2 c2, .int .i64 (st : Int)] 37))
          go_wp2_with fail
          refine (HCk.out _ HB4.out).mono ?_
          rintro e w4 ⟨rfl, hb4⟩
          have g0 : w4.cell? ⟨w3.heap.size, 0, none⟩ = some (.slice A2 N2 c2) := (hb4.cell (p := ⟨w3.heap.size, 0, none⟩) (by simp)).trans (by simp)
          have g1 : w4.cell? ⟨w3.heap.size, 1, none⟩ = some (.int .i64 (st : Int)) := (hb4.cell (p := ⟨w3.heap.size, 1, none⟩) (by simp)).trans (by simp)
          have HB5 := Lib.hid (HB4.out.trans (hb4.mono HB4.out.size))
          clear hb4 HCk HB4
          go_wp2_with fail
          refine (HAcp.out _ HB5.out).mono ?_
          rintro e w5 ⟨rfl, hb5⟩
          have HB6 := Lib.hid (HBc.out.trans ((HB5.out.trans (hb5.mono HB5.out.size)).mono HBc.out.size))
          clear hb5 HAcp HB5 g0 g1
          go_wp2_with fail
          refine (HAw.out _).mono ?_
          rintro e w6 ⟨rfl, hb6⟩
          have HB7 := Lib.hid (HB6.out.trans (hb6.mono HB6.out.size))
          clear hb6 HB6
          go_wp2_with fail
          go_ret
          exact ⟨rfl, HB7.out⟩
end No
end Go.Proofs.Ytebljjdhgepfkaa

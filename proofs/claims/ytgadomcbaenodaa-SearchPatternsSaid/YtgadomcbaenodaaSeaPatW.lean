/-
  The walk of SearchPatterns. Conditions: what a row asks of its arguments, and that the library's variable holds a number.
-/
import Derived.Test.YtgadomcbaenodaaPatP
import Derived.Test.YtgadomcbaenodaaRegexPsZ
import Derived.Test.YtgadomcbaenodaaAutoW
import Derived.Test.YtgadomcbaenodaaAutoAt
import Derived.Test.YtgadomcbaenodaaPairsX
import Derived.Test.YtgadomcbaenodaaSeaPat
import Derived.Test.YtgadomcbaenodaaSeaWord
import Derived.Test.YtgadomcbaenodaaSeaU
namespace Go.Proofs.Ytgadomcbaenodaa
open Go.RowKit
namespace Sp
open Cm Rx Px Au Th Tx Se
theorem rdI_ofB {w : World} {v : Value} {l : List Int} (h : RdV w v (intsV l)) (hb : ∀ z ∈ l, -9223372036854775808 ≤ z ∧ z ≤ 9223372036854775807) : Tx.RdI w v l.length := by
  obtain ⟨A, c, rfl, _, hA⟩ := h
  refine ⟨A, c, by rw [intsV_len], fun hp => ?_⟩
  obtain ⟨b, off, rfl, hc⟩ := hA (by rw [intsV_len]; exact hp)
  refine ⟨b, off, rfl, fun j hj => ⟨l[j], ?_, hb _ (List.getElem_mem hj)⟩⟩
  rw [hc j (by rw [intsV_len]; exact hj)]
  simp [intsV]
theorem pat_code {ns : List Nd} (hv : Valid ns) (hw : weightF ns ≤ 1000) (h0 : 0 ≤ weightF ns) : codeB ns = 0 ∧ checkF ns = 0 := by
  have e : weightR ns = weightF ns := by unfold weightR; rw [check_T hv, if_pos rfl]
  refine ⟨?_, check_T hv⟩
  unfold codeB
  rw [if_pos hv, if_neg (by omega)]
abbrev tSpn : TypeId := 36
theorem eq64 (d : Nat) (x y : Int) (w : World) : (Op.equalIn (d + 1) 3 (.int .i64 x) (.int .i64 y)).run Try.prog w = .ok (x == y) w := by
  simp [Op.equalIn, run_underlying Try.underlying3]
theorem guard_sp : Try.prog.eqGuardType Try.prog.depth tSpn = false := by kernel_rfl
set_option maxRecDepth 100000 in
theorem equal_sp (x0 x1 : Int) (w : World) : (Op.equalIn 10000 tSpn (.agg #[.int .i64 x0, .int .i64 x1]) (.agg #[.int .i64 x0, .int .i64 x1])).run Try.prog w = .ok true w := by
  show (Op.equalIn (9999 + 1) tSpn _ _).run Try.prog w = _
  unfold Op.equalIn
  simp [run_underlying Try.underlying36]
  have e := fun x w => eq64 9998 x x w
  simp at e
  have hs : ∀ w, (sizeOf 3).run Try.prog w = .ok 1 w := fun w => by kernel_rfl
  have hp : ∀ (cs : Array Value) (i : Nat) (v : Value) (w : World), cs[i]? = some v → (part 3 cs i).run Try.prog w = .ok v w := fun cs i v w h => by
    unfold part
    simp [hs, h]
  simp [hp, e, Result.andThen]
def AwPost (w : World) (e : Ending) (w' : World) : Prop := e = .returned (.bool true) ∧ Below w.heap.size w w'
theorem span_form (o : Option (Nat × Nat)) : ∃ x1 x2 : Int, spanV o = .agg #[.int .i64 x1, .int .i64 x2] ∧ ∀ i j : Nat, o = some (i, j) → x1 = (i : Int) ∧ x2 = (j : Int) := by
  cases o with
  | none => exact ⟨0, 0, rfl, fun i j h => by cases h⟩
  | some x => exact ⟨x.1, x.2, rfl, fun i j h => by cases h; exact ⟨rfl, rfl⟩⟩
set_option maxRecDepth 100000 in
set_option maxHeartbeats 8000000 in
theorem patterns_walk (v : Value) (us : List Int) (n fr : Int) (w : World) (h : RdV w v (intsV us)) (ht : ∀ z ∈ us, -9223372036854775808 ≤ z ∧ z ≤ 9223372036854775807) (hu : us.length ≤ maxLen) (hn : -9223372036854775808 ≤ n ∧ n ≤ 9223372036854775807) (hfr : -9223372036854775808 ≤ fr ∧ fr ≤ 9223372036854775807) (hG : Glb w.heap.size w) :
    Calls Try.prog 3 #[v, .int .i64 n, .int .i64 fr] w (AwPost w) := by
  have HWd := Lib.hid (fun wq (hq : Below w.heap.size w wq) => word_any v us 60 wq (h.below hq) hu (by omega))
  have HPt := Lib.hid (Pattern_any v us.length n w (rdI_ofB h ht) hu hn.1 hn.2)
  have HAw := Lib.hid (fun w => awake6_any w)
  have HGl := Lib.hid hG
  obtain ⟨A, c, rfl⟩ := h.form
  clear h hu hn ht hG
  rw [intsV_len] at HWd HPt ⊢
  generalize us.length = nu at HWd HPt ⊢
  go_enter Try.func3, Try.ntmps3
  go_wp2_with fail
  refine HPt.out.mono ?_
  rintro e w1 ⟨x, hx, ⟨np, hnp, hpt⟩, rfl, hb1⟩
  have HPar := Lib.hid (ParseP_rd x w1 (HGl.out.self hb1))
  have HB1 := Lib.hid hb1
  clear HPt hb1
  cases hr : parseF (Tx.bs x) with
  | error cd =>
    have hc0 : cd ≠ 0 := parse_nz cd hr
    rw [hr] at HPar
    have e1 : (cd == 0) = false := by rw [beq_eq_false_iff_ne]; exact hc0
    have e2 : (cd != 0) = true := by rw [bne, e1]; rfl
    clear hr hc0 hx hpt hnp
    go_wp2_with fail
    refine HPar.out.mono ?_
    rintro e w2 ⟨v2, rfl, r2, B2⟩
    obtain ⟨A2, c2, rfl, _⟩ := r2
    have HB2 := Lib.hid (HB1.out.trans (B2.mono HB1.out.size))
    clear B2 HPar
    unfold codeR nodesR
    simp only [List.length_nil]
    go_wp2_with fail
    refine (HAw.out _).mono ?_
    rintro e w6 ⟨rfl, hb6⟩
    have HB7 := Lib.hid (HB2.out.trans (hb6.mono HB2.out.size))
    clear hb6 HB2
    go_wp2_with fail
    go_ret
    exact ⟨rfl, HB7.out⟩
  | ok ns =>
    obtain ⟨hval, hln0, hkd⟩ := parse_good hr
    have hwl := parse_light hpt (by omega) hr
    rw [hr] at HPar
    unfold codeR nodesR at HPar
    have hkids : ∀ n ∈ ns, n.kids.length ≤ 1000000 := fun n hn => by have := hkd n hn; omega
    obtain ⟨hcode, hck⟩ := pat_code hval hwl (weightF_nn hval)
    have hpos : 0 < ns.length := hval.1
    clear hr hx hpt hnp hwl
    go_wp2_with fail
    refine HPar.out.mono ?_
    rintro e w2 ⟨vn, rfl, hrd, hb2⟩
    have HB2 := Lib.hid (HB1.out.trans (hb2.mono HB1.out.size))
    have HBd := Lib.hid (fun wq (hq : Below w2.heap.size w2 wq) => build_all vn ns wq (hrd.below hq) (by omega) hkids)
    have HCk := Lib.hid (fun wq (hq : Below w2.heap.size w2 wq) => CheckR_any vn ns wq (hrd.below hq) (by omega) (fun n hn => by have := hkids n hn; omega))
    have HPs := Lib.hid (fun (s : ByteArray) (hs : s.size ≤ 100000) wq (hq : Below w2.heap.size w2 wq) => Pr.Pairs_any vn ns s wq (hrd.below hq) hval hkids hs)
    have HAc := Lib.hid (fun (s : ByteArray) => build_acc (bs := bs s) hcode)
    unfold BuildPost at HBd
    rw [hcode] at HBd
    rw [hck] at HCk
    unfold Pr.PsPost at HPs
    obtain ⟨An, cn, hvn⟩ : ∃ An cn, vn = .slice An ns.length cn := by obtain ⟨A1, c1, e, _⟩ := hrd; exact ⟨A1, c1, e⟩
    subst hvn
    clear hrd hb2 HB1 HPar hcode hck hval hkd hkids
    have hne : ((ns.length : Int) == 0) = false := by rw [beq_eq_false_iff_ne]; omega
    go_wp2_with fail
    refine (HWd.out w2 HB2.out).mono ?_
    rintro e w3 ⟨s, hs, rfl, hb3⟩
    have HB3 := Lib.hid (HB2.out.trans (hb3.mono HB2.out.size))
    have HQ3 := Lib.hid hb3
    clear hb3 HB2 HWd
    have HAcs := Lib.hid (HAc.out s)
    have HPss := Lib.hid (HPs.out s (by omega))
    have HFi := Lib.hid (fun (va : Value) (ss : List St) (st P : Nat) (wq : World) (hr : Se.RdT wq va ss) (hv : ValidA ss (st : Int)) (hp : P ≤ s.size) => Find_ok va ss st s P wq hr hv (by omega) hp)
    have HLe : Hid ((bs s).length = s.size) := Lib.hid (Tx.bs_len s)
    clear HAc HPs
    obtain ⟨m, hm⟩ : ∃ m, m = s.size := ⟨_, rfl⟩
    have hsm : s.size = m := hm.symm
    rw [hsm] at HFi HPss HLe hs
    clear hm
    have HMd := Lib.hid (fun wq => Tx.Mod_any fr ((m : Int) + 1) wq (by omega) (by omega) hfr.1 hfr.2)
    have m1 := Tx.modF_lo fr ((m : Int) + 1) (by omega)
    have m2 := Tx.modF_hi fr ((m : Int) + 1) (by omega)
    generalize Tx.modF fr ((m : Int) + 1) = z at *
    obtain ⟨P, rfl⟩ : ∃ P : Nat, z = (P : Int) := ⟨z.toNat, by omega⟩
    have hP : P ≤ m := by omega
    clear m1 m2 hfr
    go_wp2_with fail
    refine (HMd.out _).mono ?_
    rintro e wm ⟨rfl, rfl⟩
    go_wp2_with fail
    refine (HBd.out _ HQ3.out).mono ?_
    rintro e w4 ⟨va, rfl, ⟨base, hown⟩, hb4⟩
    obtain ⟨hva, hlen, hrun⟩ := HAcs.out
    have hst : 0 ≤ (resB ns).1 := by
      have := hva.2.1
      simp only [hasB, decide_eq_true_eq] at this
      omega
    obtain ⟨st, hst2⟩ : ∃ st : Nat, (resB ns).1 = (st : Int) := ⟨(resB ns).1.toNat, by omega⟩
    rw [hst2] at hva hrun ⊢
    rw [Int.toNat_natCast] at hrun
    have HRt := Lib.hid (Se.RdT.of_own hown)
    obtain ⟨Aa, ca, hv2⟩ : ∃ Aa ca, va = .slice Aa (resB ns).2.length ca := by obtain ⟨A2, c2, e, _⟩ := HRt.out; exact ⟨A2, c2, e⟩
    subst hv2
    have HQ4 := Lib.hid (HQ3.out.trans (hb4.mono HQ3.out.size))
    have HB4 := Lib.hid (HB3.out.trans (hb4.mono HB3.out.size))
    have HF := Lib.hid (fun wq (hq : Below w4.heap.size w4 wq) => HFi.out _ (resB ns).2 st P wq (HRt.out.below hq) hva hP)
    have HRun := Lib.hid hrun
    clear hva hlen hrun hown hst hst2 hb4 HAcs HBd HFi HRt HMd HQ3 HB3
    generalize (resB ns).2 = ss at *
    generalize getB (langsB (bs s) ns) ((ns.length - 1 : Nat) : Int) = T at *
    have hal := (Below.refl w4.heap.size w4).alloc (Nat.le_refl _) (.cells #[.slice Aa ss.length ca, .int .i64 (st : Int)] 32)
    have HF2 := Lib.hid (HF.out _ hal)
    have HB4x := Lib.hid (HB4.out.trans (hal.mono HB4.out.size))
    have HQ4x := Lib.hid (HQ4.out.trans (hal.mono HQ4.out.size))
    clear hal HF HB4 HQ4
    unfold FindPost at HF2
    obtain ⟨o, ho⟩ : ∃ o, o = findF ss st (bs s) P := ⟨_, rfl⟩
    rw [← ho] at HF2
    have HO := Lib.hid ho
    clear ho
    obtain ⟨x1, x2, hsp, hspx⟩ := span_form o
    rw [hsp] at HF2
    have HSp := Lib.hid hspx
    clear hsp hspx
    go_wp2_with fail
    refine HF2.out.mono ?_
    rintro e w5 ⟨rfl, hb5⟩
    have HB5 := Lib.hid (HB4x.out.trans (hb5.mono HB4x.out.size))
    have HQ5 := Lib.hid (HQ4x.out.trans (hb5.mono HQ4x.out.size))
    clear hb5 HF2 HB4x HQ4x
    have HBs := Lib.hid (HB5.out.alloc HB5.out.size (.cells #[.int .i64 x1, .int .i64 x2] tSpn))
    have HQs := Lib.hid (HQ5.out.alloc HQ5.out.size (.cells #[.int .i64 x1, .int .i64 x2] tSpn))
    go_wp2_with fail
    refine (HCk.out _ HQs.out).mono ?_
    rintro e w6 ⟨rfl, hb6⟩
    have HB6 := Lib.hid (HBs.out.trans (hb6.mono HBs.out.size))
    have HQ6 := Lib.hid (HQs.out.trans (hb6.mono HQs.out.size))
    have HC6 : Hid (w6.cell? ⟨w5.heap.size, 0, none⟩ = some (.int .i64 x1) ∧ w6.cell? ⟨w5.heap.size, 1, none⟩ = some (.int .i64 x2)) := Lib.hid ⟨(hb6.cell (p := ⟨w5.heap.size, 0, none⟩) (by simp)).trans (by simp), (hb6.cell (p := ⟨w5.heap.size, 1, none⟩) (by simp)).trans (by simp)⟩
    clear hb6 HCk HBs HQs HB5 HQ5
    go_wp2_with fail
    refine (HPss.out _ HQ6.out).mono ?_
    rintro e w7 ⟨vt, rfl, hT, hb7⟩
    obtain ⟨bt, ot, ct, rfl, hTc⟩ := hT
    have HTc := Lib.hid hTc
    have HB7 := Lib.hid (HB6.out.trans (hb7.mono HB6.out.size))
    have c0 := (hb7.cell (p := ⟨w5.heap.size, 0, none⟩) (Tx.cell_lt HC6.out.1)).trans HC6.out.1
    have c1 := (hb7.cell (p := ⟨w5.heap.size, 1, none⟩) (Tx.cell_lt HC6.out.2)).trans HC6.out.2
    clear hTc hb7 HPss HQ6 HB6 HC6
    generalize w5.heap.size = g5 at *
    go_wp2_with fail
    go_loopw [16] (fun i' wr => ∃ i : Nat, P ≤ i ∧ i ≤ m + 1 ∧ i' = .int .i64 (i : Int) ∧ w7 = wr ∧ Hid (o = findF ss st (bs s) i)) (fun i' _ => m + 1 - (intOf i').toNat)
    case atStart => exact ⟨P, Nat.le_refl _, by omega, rfl, rfl, HO⟩
    case round =>
      obtain ⟨i, hi0, hi1, rfl, rfl, HOi⟩ := hrel
      by_cases hlt : i ≤ m
      · have d0 : decide ((i : Int) ≤ (m : Int)) = true := decide_eq_true (by omega)
        have d1 : decide (i ≤ m) = true := decide_eq_true hlt
        obtain ⟨gi, hgi, hrow⟩ := HTc.out i hlt
        have HRow := Lib.hid hrow
        have i1 : (0 : Int) ≤ (i : Int) := by omega
        have i2 : (i : Int) < (m : Int) + 1 := by omega
        clear hrow
        go_wp2_with fail
        go_loopw [17] (fun j' wr2 => ∃ j : Nat, i ≤ j ∧ j ≤ m + 1 ∧ j' = .int .i64 ((j : Int) - 1) ∧ w7 = wr2 ∧ Hid (∀ k, j ≤ k → k ≤ m → T i k = false)) (fun j' _ => (intOf j' + 1).toNat)
        case atStart => exact ⟨m + 1, by omega, Nat.le_refl _, by go_num, rfl, Lib.hid (fun k h1 h2 => by omega)⟩
        case round =>
          obtain ⟨j, hj0, hj1, rfl, rfl, HNo⟩ := hrel
          by_cases hjl : i < j
          · obtain ⟨q, rfl⟩ : ∃ q, j = q + 1 := ⟨j - 1, by omega⟩
            have es : ((q + 1 : Nat) : Int) - 1 = (q : Int) := by omega
            rw [es]
            clear es
            have hcell := HRow.out q (by omega)
            have d2 : decide ((i : Int) ≤ (q : Int)) = true := decide_eq_true (by omega)
            have d3 : decide (i ≤ q) = true := decide_eq_true (by omega)
            have q1 : (0 : Int) ≤ (q : Int) := by omega
            have q2 : (q : Int) < (m : Int) + 1 := by omega
            cases hT : T i q with
            | true =>
              rw [hT] at hcell
              have HHit : Hid (o = some (i, q)) := Lib.hid (by
                rw [HOi.out]
                exact find_hit HRun.out (by rw [HLe.out]; omega) hT (fun k h1 h2 => HNo.out k (by omega) (by rw [← HLe.out]; exact h2)))
              obtain ⟨rfl, rfl⟩ := HSp.out i q HHit.out
              have hso : o.isSome = true := by rw [HHit.out]; rfl
              rw [hso]
              have heq := equal_sp (i : Int) (q : Int)
              have hgd := guard_sp
              clear hT HNo HHit HSp HOi HRun hso
              go_wp2_with fail
              refine (HAw.out _).mono ?_
              rintro e w9 ⟨rfl, hb9⟩
              have HB9 := Lib.hid (HB7.out.trans (hb9.mono HB7.out.size))
              go_wp2_with fail
              go_ret
              exact ⟨rfl, HB9.out⟩
            | false =>
              rw [hT] at hcell
              have HNx : Hid (∀ k, q ≤ k → k ≤ m → T i k = false) := Lib.hid (fun k h1 h2 => by
                by_cases e : k = q
                · subst e; exact hT
                · exact HNo.out k (by omega) h2)
              clear hT HNo
              go_wp2_with fail
              go_roundw
              case rel => exact ⟨q, by omega, by omega, rfl, trivial, HNx⟩
              case measure => simp [intOf]
          · obtain rfl : j = i := by omega
            have d2 : decide ((j : Int) ≤ (j : Int) - 1) = false := decide_eq_false (by omega)
            have HOn : Hid (o = findF ss st (bs s) (j + 1)) := Lib.hid (by
              rw [HOi.out]
              exact find_miss HRun.out (fun k h1 h2 => HNo.out k h1 (by rw [← HLe.out]; exact h2)))
            clear HNo HOi
            go_wp2_with fail
            go_roundw
            case rel => exact ⟨j + 1, by omega, by omega, by go_num, trivial, HOn⟩
            case measure => simp [intOf]; omega
      · obtain rfl : i = m + 1 := by omega
        have d0 : decide (((m + 1 : Nat) : Int) ≤ (m : Int)) = false := decide_eq_false (by omega)
        have hon : o = none := by rw [HOi.out]; exact findF_end (by rw [HLe.out]; omega)
        have hso : o.isSome = false := by rw [hon]; rfl
        rw [hso]
        clear HOi HSp hon hso
        go_wp2_with fail
        refine (HAw.out _).mono ?_
        rintro e w9 ⟨rfl, hb9⟩
        have HB9 := Lib.hid (HB7.out.trans (hb9.mono HB7.out.size))
        go_wp2_with fail
        go_ret
        exact ⟨rfl, HB9.out⟩
end Sp
end Go.Proofs.Ytgadomcbaenodaa

/-
  Proved: the law AutomatonRefuses of layer 5 returns true for every input, and its arguments read as before. No conditions.
-/
import Derived.Test.YtkkolakhckiidaaAutoAwM
import Derived.Test.YtkkolakhckiidaaAutoN
import Derived.Test.YtkkolakhckiidaaRegexFrameX
import Derived.Test.YtkkolakhckiidaaTextPick
import Derived.Deep.Cut
namespace Go.Proofs.Ytkkolakhckiidaa
open Go.ChangeShapes Go.WideShapes Go.ChangeAt Go.RowKit
open Go.ChangeMaps (open_string shut_string)
namespace Px.AutomatonRefuses
open Cm Rx Au
set_option maxRecDepth 100000 in
set_option maxHeartbeats 1000000 in
theorem walk_long (vl : Value) (ls : List Nd) (n : Int) (w : World) (hvl : RdN w vl ls) (hs : (8 : Int) < (ls.length : Int)) :
    Calls Try.prog 6 #[vl, .int .i64 n] w fun e w' => e = .returned (.bool true) ∧ Below w.heap.size w w' := by
  obtain ⟨A, c, rfl, _⟩ := hvl
  go_enter Try.func6, Try.ntmps6
  go_wp2_with (go_at_call 17; refine (awake5_any _).mono ?_; rintro e w9 ⟨rfl, B9⟩; have HB9 := Lib.hid (below_tr (Below.refl _ _) B9); clear B9)
  go_ret
  exact ⟨rfl, HB9.out⟩
set_option maxRecDepth 100000 in
set_option maxHeartbeats 2000000 in
theorem walk_short (vl : Value) (ls : List Nd) (n : Int) (w : World) (hvl : RdN w vl ls) (hs : ls.length ≤ 8) (bn : -9223372036854775808 ≤ n ∧ n ≤ 9223372036854775807) :
    Calls Try.prog 6 #[vl, .int .i64 n] w fun e w' => e = .returned (.bool true) ∧ Below w.heap.size w w' := by
  have HRl := Lib.hid hvl
  have b1 := bn.1
  have b2 := bn.2
  obtain ⟨A, c, rfl, hA⟩ := hvl
  have HA := Lib.hid hA
  clear hA bn
  generalize hll : ls.length = m at hs ⊢
  have HM := Lib.hid hll
  clear hll
  have t8 : decide ((8 : Int) < (m : Int)) = false := by simp only [decide_eq_false_iff_not]; omega
  go_enter Try.func6, Try.ntmps6
  go_wp2_with fail
  go_loop [5] (fun i => ∃ j : Nat, j ≤ m ∧ i = .int .i64 (j : Int) ∧ Hid (∀ k (h : k < ls.length), k < j → ls[k].kids.length ≤ 4)) (fun i => m - (intOf i).toNat)
  case atStart => exact ⟨0, Nat.zero_le _, by go_num, Lib.hid (fun k _ h => absurd h (Nat.not_lt_zero _))⟩
  case round =>
    obtain ⟨j, hj, rfl, HO⟩ := hrel
    by_cases hlt : j < m
    · have hx : j < ls.length := by rw [HM.out]; exact hlt
      obtain ⟨b, off, rfl, hA1⟩ := HA.out (by rw [HM.out]; omega)
      obtain ⟨kv, _, _, _, _, _, _, _, p7, rk⟩ := hA1 j hx
      obtain ⟨Ak, ck, hke⟩ := rk.form
      rw [intsV_len] at hke
      subst hke
      have i1 : (0 : Int) ≤ (j : Int) := by omega
      have i2 : (j : Int) < (m : Int) := by omega
      generalize hkn : ls[j].kids.length = kn at p7
      by_cases h5 : (4 : Int) < (kn : Int)
      · clear hA1 rk hkn
        go_wp2_with (go_at_call 17; refine (awake5_any _).mono ?_; rintro e w9 ⟨rfl, B9⟩; have HB9 := Lib.hid (below_tr (Below.refl _ _) B9); clear B9)
        go_ret
        exact ⟨rfl, HB9.out⟩
      · have HO2 : Hid (∀ k (h : k < ls.length), k < j + 1 → ls[k].kids.length ≤ 4) := Lib.hid (fun k hk1 hk2 => by
          by_cases hkj : k < j
          · exact HO.out k hk1 hkj
          · have : k = j := by omega
            subst this; omega)
        have t5 : decide ((4 : Int) < (kn : Int)) = false := by simp only [decide_eq_false_iff_not]; omega
        clear hA1 rk hkn
        go_wp2_with fail
        go_round
        case rel => exact ⟨j + 1, by omega, by go_num, HO2⟩
        case measure => simp [intOf]; omega
    · have hd : decide (j < m) = false := by simp only [decide_eq_false_iff_not]; omega
      have HK5 : Hid (∀ n ∈ ls, n.kids.length ≤ 1000000) := Lib.hid (fun nd hnd => by
        obtain ⟨k, hk, rfl⟩ := List.mem_iff_getElem.1 hnd
        have := HO.out k hk (by rw [HM.out] at hk; omega)
        omega)
      have HCk := Lib.hid (CheckR_any _ ls w HRl.out (by rw [HM.out]; omega) (fun n hn => Nat.le_trans (HK5.out n hn) (by decide)))
      rw [HM.out] at HCk
      clear HA HO
      by_cases hv : Valid ls
      · rw [check_T hv] at HCk
        clear hv
        go_upto_region 8 with fail
        go_wp2_with fail
        refine HCk.out.mono ?_
        rintro e w2 ⟨rfl, hb2⟩
        have HB2 := Lib.hid hb2
        clear hb2
        obtain ⟨d, hdm⟩ : ∃ d, d = Tx.modF n 3 := ⟨_, rfl⟩
        have hd0 := Tx.modF_lo n 3 (by decide)
        have hd1 := Tx.modF_hi n 3 (by decide)
        have HD := Lib.hid hdm.symm
        rw [← hdm] at hd0 hd1
        clear hdm
        go_upto_region 12 with (go_at_call 19; refine (Tx.Mod_any _ _ _ (by omega) (by omega) (by omega) (by omega)).mono ?_; rintro e w7 ⟨rfl, rfl⟩; rw [HD.out])
        have HNm : Hid (39 ≤ 39 + d ∧ 39 + d ≤ 41) := Lib.hid ⟨by omega, by omega⟩
        obtain ⟨q, hq⟩ : ∃ q, q = 39 + d := ⟨_, rfl⟩
        rw [← hq] at HNm ⊢
        clear hq
        obtain ⟨k0, k1, k2⟩ := three_mem w2 q
        have HBm : Hid (Below w.heap.size w (((w2.alloc (objK 0)).alloc (objK 1)).alloc (objM w2.heap.size q 0))) := Lib.hid (((HB2.out.alloc HB2.out.size _).alloc (by have := HB2.out.size; simp; omega) _).alloc (by have := HB2.out.size; simp; omega) _)
        have hHs : w.heap.size ≤ w2.heap.size := HB2.out.size
        generalize w2.heap.size = H at k0 k1 k2 HBm hHs ⊢
        generalize ((w2.alloc (objK 0)).alloc (objK 1)).alloc (objM H q 0) = w4 at k0 k1 k2 HBm ⊢
        have HRm := Lib.hid (three_rd k0 k1 k2)
        have HB5 := Lib.hid (HBm.out.setCell (p := ⟨H + 1 + 1, 22, none⟩) (by show w.heap.size ≤ H + 1 + 1; omega) (.int .i64 q))
        have c1 : w4.cell? ⟨H + 1 + 1, 21, none⟩ = some (.int .i64 q) := by simp [World.cell?, k2]
        have c2 : w4.cell? ⟨H + 1 + 1, 22, none⟩ = some (.int .i64 0) := by simp [World.cell?, k2]
        have f2 : w4.frozen? ⟨H + 1 + 1, 22, none⟩ = false := by simp [World.frozen?, k2]
        clear k0 k1 k2 HBm HCk HK5 HRl
        go_upto_region 13 with fail
        generalize w4.setCell ⟨H + 1 + 1, 22, none⟩ (.int .i64 q) = w5 at HRm HB5 ⊢
        clear c1 c2 f2
        have HWt := Lib.hid (WeightR_any _ (three q) w5 HRm.out (Nat.le_of_ble_eq_true rfl) (fun n hn => by
          rcases List.mem_cons.1 hn with rfl | hn
          · exact Nat.le_of_ble_eq_true rfl
          rcases List.mem_cons.1 hn with rfl | hn
          · exact Nat.le_of_ble_eq_true rfl
          rcases List.mem_cons.1 hn with rfl | hn
          · exact Nat.le_of_ble_eq_true rfl
          · cases hn))
        have HWv : Hid (checkF (three q) = 0) := Lib.hid (check_T (three_valid q HNm.out.1 HNm.out.2))
        rw [HWv.out] at HWt
        have HCd := Lib.hid (three_code q HNm.out.1 HNm.out.2)
        have HBd := Lib.hid (fun w' (hr : RdN w' (.slice (some ⟨H + 1 + 1, 0, none⟩) 3 3) (three q)) => build_three _ q HNm.out.1 HNm.out.2 w' hr)
        go_wp2_with fail
        refine HWt.out.mono ?_
        rintro e w6 ⟨rfl, hb6⟩
        have HRm6 := Lib.hid (HRm.out.below hb6)
        have HB6a := Lib.hid (below_tr HB5.out hb6)
        have HBd6 := Lib.hid (HBd.out w6 HRm6.out)
        clear hb6
        generalize weightR (three q) = wt at HCd ⊢
        by_cases hwt : 4000 < wt
        · have d1 : decide ((4000 : Int) < wt) = true := decide_eq_true hwt
          have HC1 : Hid (codeB (three q) = 1) := Lib.hid (by rw [HCd.out, if_pos hwt])
          clear hwt
          go_wp2_with fail
          refine HBd6.out.mono ?_
          rintro e w7 ⟨v7, rfl, hr7, hb7⟩
          rw [HC1.out]
          obtain ⟨A7, c7, rfl, _⟩ := hr7
          have HB7 := Lib.hid (below_tr HB6a.out hb7)
          clear hb7
          generalize (resB (three q)).1 = st7
          generalize (resB (three q)).2.length = l7
          have HB6 : Hid (Below w.heap.size w (w7.alloc (.cells #[.slice A7 l7 c7, .int .i64 st7] tAu))) := Lib.hid (HB7.out.alloc HB7.out.size _)
          go_upto_region 18 with fail
          generalize w7.alloc (.cells #[.slice A7 l7 c7, .int .i64 st7] tAu) = w8 at HB6 ⊢
          go_wp2_with (go_at_call 17; refine (awake5_any _).mono ?_; rintro e w9 ⟨rfl, B9⟩; have HB9 := Lib.hid (below_tr HB6.out B9); clear B9)
          go_ret
          exact ⟨rfl, HB9.out⟩
        · have d1 : decide ((4000 : Int) < wt) = false := decide_eq_false hwt
          have HC1 : Hid (codeB (three q) = 0) := Lib.hid (by rw [HCd.out, if_neg hwt])
          clear hwt
          go_wp2_with fail
          refine HBd6.out.mono ?_
          rintro e w7 ⟨v7, rfl, hr7, hb7⟩
          rw [HC1.out]
          obtain ⟨A7, c7, rfl, _⟩ := hr7
          have HB7 := Lib.hid (below_tr HB6a.out hb7)
          clear hb7
          generalize (resB (three q)).1 = st7
          generalize (resB (three q)).2.length = l7
          have HB6 : Hid (Below w.heap.size w (w7.alloc (.cells #[.slice A7 l7 c7, .int .i64 st7] tAu))) := Lib.hid (HB7.out.alloc HB7.out.size _)
          go_upto_region 18 with fail
          generalize w7.alloc (.cells #[.slice A7 l7 c7, .int .i64 st7] tAu) = w8 at HB6 ⊢
          go_wp2_with (go_at_call 17; refine (awake5_any _).mono ?_; rintro e w9 ⟨rfl, B9⟩; have HB9 := Lib.hid (below_tr HB6.out B9); clear B9)
          go_ret
          exact ⟨rfl, HB9.out⟩
      · rw [check_F hv] at HCk
        have HBd := Lib.hid (fun w' (hb : Below w.heap.size w w') => Build_any _ ls w' 1 (HRl.out.below hb) (by rw [HM.out]; omega) HK5.out (by decide) (fun h => absurd h (by unfold codeB; rw [if_neg hv]; decide)))
        have HCode : Hid (codeB ls = 2 ∧ resB ls = (0, [])) := Lib.hid (by
          have h1 : codeB ls = 2 := by unfold codeB; rw [if_neg hv]
          refine ⟨h1, ?_⟩
          unfold resB
          rw [h1]
          rfl)
        rw [HM.out] at HBd
        clear hv HK5
        go_wp2_with fail
        refine HCk.out.mono ?_
        rintro e w2 ⟨rfl, hb2⟩
        have HB2 := Lib.hid hb2
        clear hb2
        go_wp2_with fail
        refine (HBd.out w2 HB2.out).mono ?_
        rintro e w3 ⟨v3, rfl, hr3, hb3⟩
        rw [HCode.out.1, HCode.out.2]
        rw [HCode.out.2] at hr3
        have HB3 := Lib.hid (below_tr HB2.out hb3)
        obtain ⟨A3, c3, rfl, _⟩ := hr3
        clear hb3
        have HB4 : Hid (Below w.heap.size w (w3.alloc (.cells #[.slice A3 0 c3, .int .i64 0] tAu))) := Lib.hid (HB3.out.alloc HB3.out.size _)
        have HC4 : Hid ((w3.alloc (.cells #[.slice A3 0 c3, .int .i64 0] tAu)).cell? ⟨w3.heap.size, 0, none⟩ = some (.slice A3 0 c3)) := Lib.hid (any_newC w3 _ _ 0 _ rfl)
        go_upto_region 10 with fail
        generalize w3.alloc (.cells #[.slice A3 0 c3, .int .i64 0] tAu) = w4 at HB4 HC4 ⊢
        generalize w3.heap.size = Q at HC4 ⊢
        have c0 := HC4.out
        go_wp2_with (go_at_call 17; refine (awake5_any _).mono ?_; rintro e w9 ⟨rfl, B9⟩; have HB9 := Lib.hid (below_tr HB4.out B9); clear B9)
        go_ret
        exact ⟨rfl, HB9.out⟩
theorem walk (vl : Value) (ls : List Nd) (n : Int) (w : World) (hvl : RdN w vl ls) (bn : -9223372036854775808 ≤ n ∧ n ≤ 9223372036854775807) :
    Calls Try.prog 6 #[vl, .int .i64 n] w fun e w' => e = .returned (.bool true) ∧ Below w.heap.size w w' := by
  by_cases h : ls.length ≤ 8
  · exact walk_short vl ls n w hvl h bn
  · exact walk_long vl ls n w hvl (by omega)
set_option maxRecDepth 100000 in
theorem lifted (os : Os) (started : os.Started) (H : Type) (enc : TypeId × Value → H) :
    ReturnsInHanded {} Try.checked os 6 .any (Rows.automatonRefusesSpec.pre6 enc Try.prog Try.f6 Rows.automatonRefusesRow.domain false) (Rows.automatonRefusesSpec.post enc Try.prog Try.f6 false true false false) := by
  refine returnsInHanded_of_change_shaped (C := Try.checked) own started (by kernel_rfl) Try.func6
    (ChangeSpec.witness6 (enc := enc) (C := Try.checked) false ⟨#[], #[.slice none 0 0, .int .i64 0], []⟩ 8 (by kernel_rfl) (by kernel_rfl) (by kernel_rfl) (by kernel_rfl)) ?_
  intro W base args ds gs before hval0 hW _ _ hsh _
  have hval : ∀ (j : Nat) t v, Try.f6.params[j]? = some t → args[j]? = some v → Value.okWide Try.prog W .any base t v := hval0
  have hW' := hW
  obtain ⟨p, q, hA0, hV, rfl, hfz, hnd⟩ := hW
  have hA : DataW.TrodAll enc Try.prog W 0 (fun _ => true) true Try.f6.params.toList args.toList ds p := hA0
  rw [Try.params6] at hA hval
  obtain ⟨v0, v1, d0, d1, p0, p1, rfl, rfl, rfl, h0, h1⟩ := trodAll_two hA
  obtain ⟨rfl, rfl⟩ := trodVars_none hV
  obtain ⟨A0, n0, c0, rfl⟩ := okWide_slice Try.underlying23 (hval 0 23 v0 rfl rfl)
  have k0 := h0
  have lt0 : ∀ x ∈ p0, x.block < W.heap.size := by obtain ⟨m, hm⟩ := k0; exact DataW.trod_lt m _ _ _ hm
  obtain ⟨l, r0, s0, t0⟩ : ∃ l : List Nd, RdN W (.slice A0 n0 c0) l ∧ l.length ≤ maxLen ∧ ∀ z ∈ l, NdB z := by obtain ⟨fuel, hf⟩ := h0; exact open_nodesV hf
  obtain ⟨n, rfl, rfl, rfl, wn⟩ := open_int Try.underlying3 (hval 1 3 v1 rfl rfl) h1
  have bn := bounds_int wn
  clear hA0 hval0
  simp only [List.append_nil] at hW'
  refine (walk _ l n W r0 bn).mono fun e W' ⟨he, hbel⟩ => ?_
  subst he
  exact ⟨_, rfl, _, _, _, [], _, [], hW', trodAll_mk1 (shut_bool Try.underlying4 _), trodAll_mk2 (Below.trod laidOut (by kernel_rfl) (of_decide_eq_true (by kernel_rfl)) k0 hbel lt0) (shut_int Try.underlying3 wn), rfl, hbel.frame _, fun h => by cases h⟩
theorem row_holds : Rows.AutomatonRefusesSaid :=
  OpenClaim.holds_of_wide 6 Try.f6 rfl rfl rfl rfl rfl rfl rfl ⟨rfl, rfl, rfl, rfl, rfl⟩ rfl rfl rfl rfl rfl (by kernel_rfl) Try.func6 (by kernel_rfl)
    (of_decide_eq_true (by kernel_rfl)) (by unfold Func.isWrapper; first | (rw [if_pos (by decide +kernel)]; kernel_rfl) | (rw [if_neg (by decide +kernel)]; exact ⟨rfl, rfl⟩))
    (fun os started H enc _ => lifted os started H enc)
end Px.AutomatonRefuses
end Go.Proofs.Ytkkolakhckiidaa

/-
  Proved: the law InternNumbers of layer 3 returns true for every input, and its arguments read as before. No conditions.
-/
import Derived.Test.YthfadfennkkkjaaInternAwake
import Derived.Test.YthfadfennkkkjaaComOwn
import Derived.Test.YthfadfennkkkjaaTextGen
import Derived.Test.YthfadfennkkkjaaComFrame
namespace Go.Proofs.Ythfadfennkkkjaa
open Go.ChangeShapes Go.WideShapes Go.ChangeAt Go.RowKit
open Go.ChangeMaps (open_string shut_string)
namespace Nt.InternNumbers
open Cm Nt
theorem ids_bounds (fs : List (List ByteArray)) (h1 : fs.length ≤ 1000) (h2 : ∀ f ∈ fs, f.length ≤ 1000) :
    (idsF fs).length ≤ 4611686018427387904 ∧ (∀ l ∈ idsF fs, l.length ≤ 4611686018427387904) ∧ (namesF fs).length ≤ 4611686018427387904 := by
  refine ⟨by unfold idsF; rw [List.length_map]; omega, fun l hl => ?_, ?_⟩
  · unfold idsF at hl
    obtain ⟨f, hf, rfl⟩ := List.mem_map.1 hl
    rw [List.length_map]; have := h2 f hf; omega
  · have h3 := namesA_len fs.flatten ([] : List ByteArray)
    have h4 := flat_bound fs 1000 h2
    unfold namesF
    simp only [List.length_nil] at h3; omega
theorem At_some (v : Value) (n : Nat) (w0 w : World) (k : Int) (h : Tx.RdI w0 v n) (hb : Below w0.heap.size w0 w) (hn : n ≤ maxLen) (h0 : 0 ≤ k) (h1 : k ≤ 1000000) :
    Calls Try.prog 10 #[v, .int .i64 k] w (Tx.SomeInt w) := Tx.At_any v n k w (h.below hb) hn h0 h1
set_option maxRecDepth 100000 in
set_option maxHeartbeats 4000000 in
theorem walk (u v : Value) (fs : List (List ByteArray)) (n : Nat) (w : World) (hr : RdLL w u (fs.map stringsV)) (hl : fs.length ≤ maxLen) (hll : ∀ f ∈ fs, f.length ≤ maxLen) (hsz : ∀ f ∈ fs, ∀ s ∈ f, s.size ≤ maxLen) (hi : Tx.RdI w v n) (hn : n ≤ maxLen) :
    Calls Try.prog 3 #[u, v] w fun e w' => e = .returned (.bool true) ∧ Below w.heap.size w w' := by
  have HSm := Lib.hid (small_any u fs w hr hl hll)
  have HAw := Lib.hid (fun w => awake_any w)
  have HAt : Hid (∀ w' k, Below w.heap.size w w' → 0 ≤ k → k ≤ 1000000 → Calls Try.prog 10 #[v, .int .i64 k] w' (Tx.SomeInt w')) := Lib.hid (fun w' k hb h0 h1 => At_some v n w w' k hi hb hn h0 h1)
  have HR := Lib.hid hr
  have HSz := Lib.hid hsz
  obtain ⟨A0, c0, rfl, _⟩ := hi
  obtain ⟨Au, cu, rfl⟩ : ∃ A c, u = .slice A fs.length c := by obtain ⟨us, ⟨A, c, e, _⟩, h2, _⟩ := hr; exact ⟨A, c, by rw [e, h2, List.length_map]⟩
  clear hr hl hll hsz hn
  generalize hfl : fs.length = fl at HSm HR ⊢
  have HFl := Lib.hid hfl
  clear hfl
  go_enter Try.func3, Try.ntmps3
  go_wp2_with fail
  refine HSm.out.mono ?_
  rintro e w1 ⟨b, rfl, hb, q, rfl⟩
  have HB1 := Lib.hid (below_drewN (Below.refl w.heap.size w) q)
  have HR1 := Lib.hid (HR.out.drewN q)
  generalize World.drewN w q = w1 at HB1 HR1 ⊢
  clear HSm
  cases b with
  | false =>
    clear hb
    go_wp2_with (go_at_call 8; refine (HAw.out _).mono ?_; rintro e w2 ⟨rfl, hb2⟩)
    go_ret
    exact ⟨rfl, HB1.out.trans (hb2.mono HB1.out.size)⟩
  | true =>
    have HSmall := Lib.hid (hb rfl)
    clear hb
    have HB2 := Lib.hid (HB1.out.alloc HB1.out.size (.cells #[] 26))
    have HE := Lib.hid ((OwnG.empty (e := tStr) (t := 26) w1).base HB1.out.size)
    go_wp2_with fail
    go_loopw [5, 6] (fun mv i wr => ∃ (j : Nat) (ms : List (List ByteArray)), j ≤ 3 ∧ i = .int .i64 j ∧ ms.length = j ∧ Hid (OwnG tStr 26 wr w.heap.size mv (ms.map stringsV)) ∧ Hid (∀ f ∈ ms, f.length ≤ 8 ∧ ∀ s ∈ f, s.size ≤ 3) ∧ Below w.heap.size w wr) (fun _ i _ => 3 - (intOf i).toNat)
    case atStart => exact ⟨0, [], Nat.zero_le _, rfl, rfl, HE, Lib.hid (fun f h => by cases h), HB2.out⟩
    case round =>
      obtain ⟨wo, rfl⟩ : ∃ wo, wo = wr := ⟨wr, rfl⟩
      obtain ⟨j, ms, hj, rfl, hml, HO, HM, hnx⟩ := hrel
      have hsz0 := hnx.size
      by_cases hlt : j < 3
      · have i1 : (j : Int) < 3 := by omega
        have i0 : (0 : Int) ≤ (j : Int) := by omega
        obtain ⟨Am, cm, hme⟩ := HO.out.form
        rw [List.length_map] at hme
        subst hme
        have hml2 : ms.length ≤ 3 := by omega
        have HML := Lib.hid hml
        clear hml
        have HNil := Lib.hid (World.ownsRow_nil wo wo.heap.size tStr 1)
        go_wp2_with fail
        go_loopw [7, 8] (fun xv q wr => ∃ (k : Nat) (xs : List ByteArray), k ≤ 8 ∧ q = .int .i64 k ∧ xs.length = k ∧ Hid (wr.ownsRow wo.heap.size tStr 1 xv xs.length (stringsV xs)) ∧ Hid (∀ s ∈ xs, s.size ≤ 3) ∧ Below wo.heap.size wo wr) (fun _ q _ => 8 - (intOf q).toNat)
        case atStart => exact ⟨0, [], Nat.zero_le _, rfl, rfl, HNil, Lib.hid (fun s h => by cases h), Below.refl _ _⟩
        case round =>
          obtain ⟨k, xs, hk, rfl, hxl, HX, HXs, hnx1⟩ := hrel
          obtain ⟨Bx, dx, rfl⟩ := own_form HX.out
          have hsz1 := hnx1.size
          have hxl2 : xs.length ≤ 8 := by omega
          have HXl := Lib.hid hxl
          clear hxl
          have HB3 := Lib.hid (hnx.trans (hnx1.mono hsz0))
          have k0 : (0 : Int) ≤ (k : Int) := by omega
          have k8 : (k : Int) ≤ 8 := by omega
          go_wp2_with fail
          refine (HAt.out _ _ HB3.out (by omega) (by omega)).mono ?_
          rintro e w2 ⟨z, hz1, hz2, rfl, rfl⟩
          have HMod := Lib.hid (Tx.Mod_any z 8 wr (by omega) (by omega) hz1 hz2)
          have hm0 := Tx.modF_lo z 8 (by omega)
          have hm1 := Tx.modF_hi z 8 (by omega)
          generalize Tx.modF z 8 = y at HMod hm0 hm1
          clear hz1 hz2
          by_cases hky : (k : Int) < y
          · have hk7 : k < 8 := by omega
            have HAt2 := Lib.hid (HAt.out wr (10 * (j : Int) + (k : Int) + 5) HB3.out (by omega) (by omega))
            go_wp2_with (go_at_call 9; refine HMod.out.mono ?_; rintro e w2 ⟨rfl, rfl⟩)
            refine HAt2.out.mono ?_
            rintro e w2 ⟨z2, hz3, hz4, rfl, rfl⟩
            have HLine := Lib.hid (Tx.Line_any z2 wr hz3 hz4)
            clear hz3 hz4
            go_wp2_with fail
            refine HLine.out.mono ?_
            rintro e w2 ⟨s, hs3, rfl, hb4⟩
            have HX2 := Lib.hid (own_below HX.out hb4)
            have hb5 := hnx1.trans (hb4.mono hsz1)
            have hsz2 := hb5.size
            have HS2 : Hid (∀ t ∈ xs ++ [s], t.size ≤ 3) := Lib.hid (fun t ht => by
              rcases List.mem_append.1 ht with ht | ht
              · exact HXs.out t ht
              · rw [List.mem_singleton] at ht; subst ht; exact hs3)
            clear hb4 hnx1 HX hs3
            go_wp2_with (at_builtin; refine app_one rfl Try.underlying26 info_str rfl (by omega) (.tmp 26) (.tmp 35) rfl wo.heap.size xs.length (stringsV xs) (.string s) rfl _ _ rfl HX2.out rfl rfl (by omega) hsz2 ?_; intro v3 w3 ho3 hb3 _; have HO3 := Lib.hid ho3; clear ho3)
            go_roundw
            case rel => exact ⟨k + 1, xs ++ [s], by omega, by go_num, by rw [List.length_append, HXl.out]; rfl, by rw [List.length_append, show stringsV (xs ++ [s]) = stringsV xs ++ [Value.string s] from by simp [stringsV]]; exact HO3, HS2, hb5.trans hb3⟩
            case measure => simp [intOf]; omega
          · have hd : decide ((k : Int) < y) = false := by simp only [decide_eq_false_iff_not]; exact hky
            obtain ⟨us, husl, hus, happ⟩ := (HO.out.below hnx1).out (by decide)
            rw [List.length_map] at hus happ
            have HUs := Lib.hid hus
            have HU : Hid (wr.ownsRow w.heap.size tStr 1 (.slice Bx xs.length dx) (stringsV xs).length (stringsV xs)) := Lib.hid (by rw [stringsV_len]; exact own_base HX.out hsz0)
            have HApp := Lib.hid happ
            have HM2 : Hid (∀ f ∈ ms ++ [xs], f.length ≤ 8 ∧ ∀ s ∈ f, s.size ≤ 3) := Lib.hid (fun f hf => by
              rcases List.mem_append.1 hf with hf | hf
              · exact HM.out f hf
              · rw [List.mem_singleton] at hf; subst hf; exact ⟨by omega, HXs.out⟩)
            have hszw : w.heap.size ≤ wr.heap.size := by omega
            clear husl hus happ hky
            go_wp2_with (first
              | (go_at_call 9; refine HMod.out.mono ?_; rintro e w2 ⟨rfl, rfl⟩)
              | (at_builtin; refine app_one rfl Try.underlying22 info_strs rfl (by omega) (.tmp 37) (.tmp 39) rfl w.heap.size ms.length us (.slice Bx xs.length dx) rfl _ _ rfl HUs.out rfl rfl (by omega) hszw ?_; intro v3 w3 ho3 hb3 hg3; have HO3 := Lib.hid (HApp.out _ _ _ _ _ HU.out ho3 hg3); clear ho3 hg3))
            go_roundw
            case rel => exact ⟨j + 1, ms ++ [xs], by omega, by go_num, by rw [List.length_append, HML.out]; rfl, by rw [List.map_append]; exact HO3, HM2, HB3.out.trans hb3⟩
            case measure => simp [intOf]; omega
      · have hd : decide ((j : Int) < 3) = false := by simp only [decide_eq_false_iff_not]; omega
        have RM0 := Lib.hid HO.out.rd
        obtain ⟨Am, cm, hme⟩ := HO.out.form
        rw [List.length_map] at hme
        subst hme
        have HM3 : Hid (ms.length ≤ 1000 ∧ (∀ f ∈ ms, f.length ≤ 1000) ∧ ∀ f ∈ ms, ∀ s ∈ f, s.size ≤ maxLen) := Lib.hid ⟨by omega, fun f hf => by have := (HM.out f hf).1; omega, fun f hf s hs => by have := (HM.out f hf).2 s hs; unfold maxLen; omega⟩
        have HL3 : Hid (fs.length ≤ 1000 ∧ (∀ f ∈ fs, f.length ≤ 1000) ∧ ∀ f ∈ fs, ∀ s ∈ f, s.size ≤ maxLen) := Lib.hid ⟨by rw [HFl.out]; have := HSmall.out.1; omega, fun f hf => by have := HSmall.out.2 f hf; omega, HSz.out⟩
        have RL0 := Lib.hid (HR.out.below hnx)
        have I1 := Lib.hid (fun w v h => Ids_any v fs w h HL3.out.1 HL3.out.2.1 HL3.out.2.2)
        have I2 := Lib.hid (fun w v h => IdsR_any v fs w h HL3.out.1 HL3.out.2.1)
        have N1 := Lib.hid (fun w v h => Names_any v fs w h HL3.out.1 HL3.out.2.1 HL3.out.2.2)
        have N2 := Lib.hid (fun w v h => NamesR_any v fs w h HL3.out.1 HL3.out.2.1)
        have J1 := Lib.hid (fun w v h => Ids_any v ms w h HM3.out.1 HM3.out.2.1 HM3.out.2.2)
        have J2 := Lib.hid (fun w v h => IdsR_any v ms w h HM3.out.1 HM3.out.2.1)
        have M1 := Lib.hid (fun w v h => Names_any v ms w h HM3.out.1 HM3.out.2.1 HM3.out.2.2)
        have M2 := Lib.hid (fun w v h => NamesR_any v ms w h HM3.out.1 HM3.out.2.1)
        have LI := Lib.hid (ids_bounds fs HL3.out.1 HL3.out.2.1)
        have LM := Lib.hid (ids_bounds ms HM3.out.1 HM3.out.2.1)
        have B0 := Lib.hid hnx
        clear hml HO HM hnx hsz0
        generalize idsF fs = ia at I1 I2 LI
        generalize idsF ms = ib at J1 J2 LM
        generalize namesF fs = na at N1 N2 LI
        generalize namesF ms = nb at M1 M2 LM
        go_wp2_with fail
        refine (I1.out _ _ RL0.out).mono ?_
        rintro e x1 ⟨v1, rfl, o1, b1⟩
        have P1 := Lib.hid (o1.rd)
        have RL1 := Lib.hid (RL0.out.below b1)
        have RM1 := Lib.hid (RM0.out.below b1)
        have B1 := Lib.hid (B0.out.trans (b1.mono B0.out.size))
        clear o1 b1 RL0 RM0 B0 I1
        go_wp2_with fail
        refine (I2.out _ _ RL1.out).mono ?_
        rintro e x2 ⟨v2, rfl, o2, b2⟩
        have P2 := Lib.hid (o2.rd)
        have Q2 := Lib.hid (P1.out.below b2)
        have RL2 := Lib.hid (RL1.out.below b2)
        have RM2 := Lib.hid (RM1.out.below b2)
        have B2 := Lib.hid (B1.out.trans (b2.mono B1.out.size))
        clear o2 b2 RL1 RM1 B1 P1 I2
        go_wp2_with fail
        refine (Lists_same _ _ _ _ LI.out.1 LI.out.2.1 Q2.out P2.out).mono ?_
        rintro e x3 ⟨rfl, q3, rfl⟩
        have RL3 := Lib.hid (RL2.out.drewN q3)
        have RM3 := Lib.hid (RM2.out.drewN q3)
        have B3 := Lib.hid (below_drewN B2.out q3)
        clear RL2 RM2 B2 P2 Q2
        generalize World.drewN _ q3 = x3 at RL3 RM3 B3 ⊢
        go_wp2_with fail
        refine (N1.out _ _ RL3.out).mono ?_
        rintro e x4 ⟨v4, rfl, o4, b4⟩
        have P4 := Lib.hid (RdV.of_own o4)
        have RL4 := Lib.hid (RL3.out.below b4)
        have RM4 := Lib.hid (RM3.out.below b4)
        have B4 := Lib.hid (B3.out.trans (b4.mono B3.out.size))
        clear o4 b4 RL3 RM3 B3 N1
        go_wp2_with fail
        refine (N2.out _ _ RL4.out).mono ?_
        rintro e x5 ⟨v5, rfl, o5, b5⟩
        have P5 := Lib.hid (RdV.of_own o5)
        have Q5 := Lib.hid (P4.out.below b5)
        have RL5 := Lib.hid (RL4.out.below b5)
        have RM5 := Lib.hid (RM4.out.below b5)
        have B5 := Lib.hid (B4.out.trans (b5.mono B4.out.size))
        clear o5 b5 RL4 RM4 B4 P4 N2
        go_wp2_with fail
        refine (Strings_same _ _ _ _ LI.out.2.2 Q5.out P5.out).mono ?_
        rintro e x6 ⟨rfl, q6, rfl⟩
        have RL6 := Lib.hid (RL5.out.drewN q6)
        have RM6 := Lib.hid (RM5.out.drewN q6)
        have B6 := Lib.hid (below_drewN B5.out q6)
        clear RL5 RM5 B5 P5 Q5
        generalize World.drewN _ q6 = x6 at RL6 RM6 B6 ⊢
        go_wp2_with fail
        refine (J1.out _ _ RM6.out).mono ?_
        rintro e x7 ⟨v7, rfl, o7, b7⟩
        have P7 := Lib.hid (o7.rd)
        have RL7 := Lib.hid (RL6.out.below b7)
        have RM7 := Lib.hid (RM6.out.below b7)
        have B7 := Lib.hid (B6.out.trans (b7.mono B6.out.size))
        clear o7 b7 RL6 RM6 B6 J1
        go_wp2_with fail
        refine (J2.out _ _ RM7.out).mono ?_
        rintro e x8 ⟨v8, rfl, o8, b8⟩
        have P8 := Lib.hid (o8.rd)
        have Q8 := Lib.hid (P7.out.below b8)
        have RL8 := Lib.hid (RL7.out.below b8)
        have RM8 := Lib.hid (RM7.out.below b8)
        have B8 := Lib.hid (B7.out.trans (b8.mono B7.out.size))
        clear o8 b8 RL7 RM7 B7 P7 J2
        go_wp2_with fail
        refine (Lists_same _ _ _ _ LM.out.1 LM.out.2.1 Q8.out P8.out).mono ?_
        rintro e x9 ⟨rfl, q9, rfl⟩
        have RL9 := Lib.hid (RL8.out.drewN q9)
        have RM9 := Lib.hid (RM8.out.drewN q9)
        have B9 := Lib.hid (below_drewN B8.out q9)
        clear RL8 RM8 B8 P8 Q8
        generalize World.drewN _ q9 = x9 at RL9 RM9 B9 ⊢
        go_wp2_with fail
        refine (M1.out _ _ RM9.out).mono ?_
        rintro e x10 ⟨v10, rfl, o10, b10⟩
        have P10 := Lib.hid (RdV.of_own o10)
        have RL10 := Lib.hid (RL9.out.below b10)
        have RM10 := Lib.hid (RM9.out.below b10)
        have B10 := Lib.hid (B9.out.trans (b10.mono B9.out.size))
        clear o10 b10 RL9 RM9 B9 M1
        go_wp2_with fail
        refine (M2.out _ _ RM10.out).mono ?_
        rintro e x11 ⟨v11, rfl, o11, b11⟩
        have P11 := Lib.hid (RdV.of_own o11)
        have Q11 := Lib.hid (P10.out.below b11)
        have RL11 := Lib.hid (RL10.out.below b11)
        have RM11 := Lib.hid (RM10.out.below b11)
        have B11 := Lib.hid (B10.out.trans (b11.mono B10.out.size))
        clear o11 b11 RL10 RM10 B10 P10 M2
        go_wp2_with fail
        refine (Strings_same _ _ _ _ LM.out.2.2 Q11.out P11.out).mono ?_
        rintro e x12 ⟨rfl, q12, rfl⟩
        have RL12 := Lib.hid (RL11.out.drewN q12)
        have RM12 := Lib.hid (RM11.out.drewN q12)
        have B12 := Lib.hid (below_drewN B11.out q12)
        clear RL11 RM11 B11 P11 Q11
        generalize World.drewN _ q12 = x12 at RL12 RM12 B12 ⊢
        go_wp2_with fail
        refine (HAw.out _).mono ?_
        rintro e x ⟨rfl, b⟩
        go_wp2_with fail
        go_ret
        exact ⟨rfl, B12.out.trans (b.mono B12.out.size)⟩
set_option maxRecDepth 100000 in
theorem lifted (os : Os) (started : os.Started) (H : Type) (enc : TypeId × Value → H) :
    ReturnsInHanded {} Try.checked os 3 .any (Rows.internNumbersSpec.pre6 enc Try.prog Try.f3 Rows.internNumbersRow.domain false) (Rows.internNumbersSpec.post enc Try.prog Try.f3 false true false false) := by
  refine returnsInHanded_of_change (C := Try.checked) own started (by kernel_rfl) Try.func3
    (ChangeSpec.witness6 (enc := enc) (C := Try.checked) false ⟨#[], #[.slice none 0 0, .slice none 0 0], []⟩ 8 (by kernel_rfl) (by kernel_rfl) (by kernel_rfl) (by kernel_rfl)) ?_
  intro W base args ds gs before hval0 hW _ _
  have hval : ∀ (j : Nat) t v, Try.f3.params[j]? = some t → args[j]? = some v → Value.okWide Try.prog W .any base t v := hval0
  have hW' := hW
  obtain ⟨p, q, hA0, hV, rfl, hfz, hnd⟩ := hW
  have hA : DataW.TrodAll enc Try.prog W 0 (fun _ => true) true Try.f3.params.toList args.toList ds p := hA0
  rw [Try.params3] at hA hval
  obtain ⟨v0, v1, d0, d1, p0, p1, rfl, rfl, rfl, h0, h1⟩ := trodAll_two hA
  obtain ⟨rfl, rfl⟩ := trodVars_none hV
  obtain ⟨A0, n0, c0, rfl⟩ := okWide_slice Try.underlying22 (hval 0 22 v0 rfl rfl)
  have k0 := h0
  have lt0 : ∀ x ∈ p0, x.block < W.heap.size := by obtain ⟨m, hm⟩ := k0; exact DataW.trod_lt m _ _ _ hm
  obtain ⟨fs, r0, s0, t0⟩ : ∃ fs : List (List ByteArray), RdLL W (.slice A0 n0 c0) (fs.map stringsV) ∧ fs.length ≤ maxLen ∧ ∀ f ∈ fs, f.length ≤ maxLen ∧ ∀ s ∈ f, s.size ≤ maxLen := by obtain ⟨fuel, hf⟩ := h0; exact open_filesV hf
  obtain ⟨A1, n1, c1, rfl⟩ := okWide_slice Try.underlying23 (hval 1 23 v1 rfl rfl)
  have k1 := h1
  have lt1 : ∀ x ∈ p1, x.block < W.heap.size := by obtain ⟨m, hm⟩ := k1; exact DataW.trod_lt m _ _ _ hm
  obtain ⟨zs, r1, s1, t1⟩ : ∃ l : List Int, RdV W (.slice A1 n1 c1) (intsV l) ∧ l.length ≤ maxLen ∧ ∀ z ∈ l, -9223372036854775808 ≤ z ∧ z ≤ 9223372036854775807 := by obtain ⟨fuel, hf⟩ := h1; exact open_intsV hf
  clear hA0 hval0
  simp only [List.append_nil] at hW'
  refine (walk (.slice A0 n0 c0) (.slice A1 n1 c1) fs zs.length W r0 s0 (fun f hf => (t0 f hf).1) (fun f hf => (t0 f hf).2) (rdI_of r1 t1) s1).mono fun e W' ⟨he, hbel⟩ => ?_
  subst he
  exact ⟨_, rfl, _, _, _, [], _, [], hW', trodAll_mk1 (shut_bool Try.underlying4 _), trodAll_mk2 (Below.trod laidOut (by kernel_rfl) (of_decide_eq_true (by kernel_rfl)) k0 hbel lt0) (Below.trod laidOut (by kernel_rfl) (of_decide_eq_true (by kernel_rfl)) k1 hbel lt1), rfl, hbel.frame _, fun h => by cases h⟩
theorem row_holds : Rows.InternNumbersSaid :=
  OpenClaim.holds_of_wide 3 Try.f3 rfl rfl rfl rfl rfl rfl rfl ⟨rfl, rfl, rfl, rfl, rfl⟩ rfl rfl rfl rfl rfl (by kernel_rfl) Try.func3 (by kernel_rfl)
    (of_decide_eq_true (by kernel_rfl)) (by unfold Func.isWrapper; first | (rw [if_pos (by decide +kernel)]; kernel_rfl) | (rw [if_neg (by decide +kernel)]; exact ⟨rfl, rfl⟩))
    (fun os started H enc _ => lifted os started H enc)
end Nt.InternNumbers
end Go.Proofs.Ythfadfennkkkjaa

/-
  Proved: the law TextJoins of layer 2 returns true for every input, and its arguments read as before. No conditions.
-/
import Derived.Test.YtfhbffplbjmgoaaTextFrame
import Derived.Test.YtfhbffplbjmgoaaTextAppend
import Derived.Deep.OwnRows
namespace Go.Proofs.Ytfhbffplbjmgoaa
open Go.ChangeShapes Go.WideShapes Go.ChangeAt Go.RowKit
open Go.ChangeMaps (open_string shut_string)
namespace Tx.TextJoins
/-- A slice that the call owns, with its last element set anew. -/
theorem set_last {w : World} {base g c : Nat} {ms : List (List UInt8)} {x y : List UInt8} (h : w.ownsRow base 9 1 (.slice (some ⟨g, 0, none⟩) (ms ++ [x]).length c) (ms ++ [x]).length (strsV (ms ++ [x]))) :
    RdS (w.setCell ⟨g, ms.length, none⟩ (strV y)) (.slice (some ⟨g, 0, none⟩) (ms ++ [x]).length c) (mks (ms ++ [y])) := by
  have hcap : (ms ++ [x]).length ≤ c := by
    rcases h.2 with ⟨e, _⟩ | ⟨g', cap, cur, e, _, _, hc, _⟩
    · cases e
    · cases e; exact hc
  have hl : (mks (ms ++ [y])).length = (ms ++ [x]).length := by rw [mks_len, List.length_append, List.length_append]; rfl
  refine ⟨_, c, by rw [hl], ⟨by rw [hl]; exact hcap, fun e => by cases e⟩, fun _ => ⟨g, 0, rfl, fun j hj => ?_⟩⟩
  rw [hl, List.length_append, List.length_singleton] at hj
  rw [Nat.zero_add]
  have hc0 := h.cellAt j (by rw [List.length_append, List.length_singleton]; omega)
  by_cases e : j = ms.length
  · subst e
    rw [World.cell?_setCell_same' _ _ _ (by rw [hc0]; simp [strsV])]
    simp [mks]
  · rw [World.cell?_setCell_other (h := fun e2 => e (by injection e2 with _ e3; exact e3.symm)), hc0]
    have hj2 : j < ms.length := by omega
    have e1 : (strsV (ms ++ [x]))[j]? = ((mks (ms ++ [y]))[j]?).map Value.string := by
      rw [strsV_append, mks_append, List.getElem?_append_left (by rw [strsV_len]; exact hj2), List.getElem?_append_left (by rw [mks_len]; exact hj2)]
      simp [strsV, mks, List.getElem?_eq_getElem hj2]
    rw [e1, List.getElem?_eq_getElem (by rw [mks_len, List.length_append, List.length_singleton]; omega)]
    rfl
theorem bareB_le (s : ByteArray) : (bareB s).size ≤ s.size := by
  unfold bareB; split
  · exact ext_le _ _ _
  · exact Nat.le_refl _
/-- What Join gives, as a text and an error. -/
theorem joined (L : List (List UInt8)) : ∃ (J : ByteArray) (z : Int), (if isListF L then #[Value.string ⟨L.flatten.toArray⟩, .int .i64 0] else #[.string ⟨#[]⟩, .int .i64 2]) = #[.string J, .int .i64 z] := by
  split
  · exact ⟨_, _, rfl⟩
  · exact ⟨_, _, rfl⟩
theorem total_mks (L : List (List UInt8)) : total (mks L) = L.flatten.length := by unfold total; rw [show bss (mks L) = L from mks_map _]
theorem total_le (xs : List ByteArray) (b : Nat) (h : ∀ x ∈ xs, x.size ≤ b) : total xs ≤ b * xs.length := by
  induction xs with
  | nil => exact Nat.zero_le _
  | cons x r ih =>
    have h1 := ih (fun y hy => h y (List.mem_cons_of_mem _ hy))
    have h2 := h x (List.mem_cons_self ..)
    unfold total at h1 ⊢
    simp only [bss, List.map_cons, List.flatten_cons, List.length_append, List.length_cons] at h1 ⊢
    rw [bs_len, Nat.mul_add]; omega
/-- Both Joins of one list. -/
theorem joins (xs : List ByteArray) (h1 : xs.length ≤ 4096) (h2 : total xs ≤ 1048576) : ∃ (J : ByteArray) (z : Int), (∀ v w, RdS w v xs → Calls Try.prog 20 #[v] w fun e w' => e = .returned (.tuple #[.string J, .int .i64 z]) ∧ Below w.heap.size w w') ∧
    (∀ v w, RdS w v xs → Calls Try.prog 21 #[v] w fun e w' => e = .returned (.tuple #[.string J, .int .i64 z]) ∧ Below w.heap.size w w') := by
  obtain ⟨J, z, hJ⟩ := joined (bss xs)
  exact ⟨J, z, fun v w h => (Join_any v xs w h h1 h2).mono fun e w' ⟨e1, e2⟩ => ⟨by rw [e1, hJ], e2⟩, fun v w h => (JoinR_any v xs w h h1 h2).mono fun e w' ⟨e1, e2⟩ => ⟨by rw [e1, hJ], e2⟩⟩
set_option maxRecDepth 100000 in
set_option maxHeartbeats 4000000 in
theorem walk (A : Option Addr) (n c : Nat) (xs : List ByteArray) (ended : Bool) (w : World) (hx : RdS w (.slice A n c) xs) (hn : n ≤ maxLen) :
    Calls Try.prog 4 #[.slice A n c, .bool ended] w fun e w' => e = .returned (.bool true) ∧ Below w.heap.size w w' := by
  have HA := Lib.hid (fun w => awake_any w)
  unfold maxLen at hn
  by_cases h1 : (12 : Int) < (n : Int)
  · clear hx
    go_enter Try.func4, Try.ntmps4
    go_wp2_with (go_at_call 8; refine (HA.out _).mono ?_; rintro e w1 ⟨rfl, hb⟩)
    go_ret
    exact ⟨rfl, by assumption⟩
  have hn2 : n ≤ 12 := by omega
  have HX := Lib.hid hx
  have HNX : Hid (xs.length = n) := Lib.hid (by obtain ⟨A', c', e, _⟩ := hx; injection e with _ e2 _; exact e2.symm)
  obtain ⟨A', c', e', _, hA⟩ := hx
  injection e' with e1 e2 e3
  subst e1
  subst e3
  clear e2
  have HC := Lib.hid hA
  clear hA h1
  go_enter Try.func4, Try.ntmps4
  go_wp2_with fail
  go_loopw [5, 6] (fun v i wr => ∃ (j : Nat) (ms : List (List UInt8)), j ≤ n ∧ i = .int .i64 j ∧ ms.length = j ∧ Hid (wr.ownsRow w.heap.size 9 1 v ms.length (strsV ms)) ∧ Hid (∀ x ∈ ms, x.length ≤ 41) ∧ Hid (∀ k, k < j → ∀ h : k < xs.length, xs[k].size ≤ 40) ∧ Below w.heap.size w wr) (fun _ i _ => n - (intOf i).toNat)
  case atStart => exact ⟨0, [], Nat.zero_le _, rfl, rfl, Lib.hid (World.ownsRow_nil _ _ _ _), Lib.hid (fun x h => by cases h), Lib.hid (fun k hk => absurd hk (by omega)), Below.refl _ _⟩
  case round =>
    obtain ⟨j, ms, hj, rfl, hml, HO, HM, HS, hnx⟩ := hrel
    have hsz := hnx.size
    by_cases hlt : j < n
    · have hjx : j < xs.length := by rw [HNX.out]; exact hlt
      obtain ⟨b, off, rfl, hcell⟩ := HC.out (by omega)
      have hc0 : w.cell? ⟨b, off + j, none⟩ = some (.string xs[j]) := hcell j hjx
      have hc : wr.cell? ⟨b, off + j, none⟩ = some (.string xs[j]) := (hnx.cell (p := ⟨b, off + j, none⟩) (cell_lt hc0)).trans hc0
      have HS2 : Hid (xs[j].size ≤ 40 → ∀ k, k < j + 1 → ∀ h : k < xs.length, xs[k].size ≤ 40) := Lib.hid (fun h40 k hk h => by
        by_cases hkj : k < j
        · exact HS.out k hkj h
        · have : k = j := by omega
          subst this; exact h40)
      clear hcell hc0
      generalize xs[j] = x at hc HS2
      have i1 : (0 : Int) ≤ (j : Int) := by omega
      have i2 : (j : Int) < (n : Int) := by omega
      by_cases h40 : (40 : Int) < (x.size : Int)
      · go_wp2_with (go_at_call 8; refine (HA.out _).mono ?_; rintro e w1 ⟨rfl, hb⟩)
        go_ret
        exact ⟨rfl, hnx.trans (hb.mono hsz)⟩
      · have HS3 := Lib.hid (HS2.out (by omega))
        have HB := Lib.hid (fun w => BareR_any x w (by omega))
        have hbl := bareB_le x
        generalize bareB x = y at HB hbl
        have HM2 : Hid (∀ z ∈ ms ++ [bs (y ++ ⟨#[10]⟩)], z.length ≤ 41) := Lib.hid (fun z hz => by
          rcases List.mem_append.1 hz with hz | hz
          · exact HM.out z hz
          · rw [List.mem_singleton] at hz; subst hz
            rw [bs_len, ByteArray.size_append]
            have : (ByteArray.mk #[10]).size = 1 := rfl
            omega)
        have HML := Lib.hid hml
        have hml2 : ms.length ≤ 12 := by omega
        clear hml
        go_wp2_with (first
          | (go_at_call 17; refine (HB.out _).mono ?_; rintro e w1 ⟨rfl, rfl⟩)
          | (at_builtin; refine app_newS rfl (.tmp 32) (.tmp 39) rfl w.heap.size ms (bs (y ++ ⟨#[10]⟩)) _ rfl HO.out rfl rfl (by omega) hsz ?_; intro v3 w3 ho3 hb3; have HO3 := Lib.hid ho3; clear ho3))
        go_roundw
        case rel => exact ⟨j + 1, ms ++ [bs (y ++ ⟨#[10]⟩)], by omega, by go_num, by rw [List.length_append, HML.out]; rfl, HO3, HM2, HS3, hnx.trans hb3⟩
        case measure => simp [intOf]; omega
    · have hd : decide (j < n) = false := by simp only [decide_eq_false_iff_not]; omega
      have htx : total xs ≤ 480 := by
        have h1 := total_le xs 40 (fun x hx => by
          obtain ⟨k, hk, e⟩ := List.mem_iff_getElem.1 hx
          rw [← e]; exact HS.out k (by rw [HNX.out] at hk; omega) hk)
        rw [HNX.out] at h1; omega
      obtain ⟨J1, z1, hP1, hR1⟩ := joins xs (by rw [HNX.out]; omega) (by omega)
      have P1 := Lib.hid hP1
      have Q1 := Lib.hid hR1
      have HX2 := Lib.hid (HX.out.below hnx)
      clear hP1 hR1 htx HC
      have htm : ∀ L : List (List UInt8), (∀ z ∈ L, z.length ≤ 41) → L.length ≤ 12 → (mks L).length ≤ 4096 ∧ total (mks L) ≤ 1048576 := fun L h1 h2 => by
        refine ⟨by rw [mks_len]; omega, ?_⟩
        have h3 := total_le (mks L) 41 (fun x hx => by
          unfold mks at hx
          obtain ⟨z, hz, rfl⟩ := List.mem_map.1 hx
          rw [size_mk]; exact h1 z hz)
        rw [mks_len] at h3; omega
      have HTM := Lib.hid htm
      clear htm
      have hjn : j = n := by omega
      by_cases hz : n = 0
      · obtain ⟨J2, z2, hP2, hR2⟩ := joins (mks ms) (HTM.out ms HM.out (by omega)).1 (HTM.out ms HM.out (by omega)).2
        have P2 := Lib.hid hP2
        have Q2 := Lib.hid hR2
        have hl0 : ¬ ((0 : Int) < (ms.length : Int)) := by omega
        have HR0 := Lib.hid (RdS.of_own HO.out)
        obtain ⟨B, d, rfl⟩ := own_len HO.out
        clear hP2 hR2 hjn hz hml hlt
        go_wp2_with fail
        refine (P1.out _ _ HX2.out).mono ?_
        rintro e w1 ⟨rfl, hb1⟩
        have HX3 := Lib.hid (HX2.out.below hb1)
        have HR1 := Lib.hid (HR0.out.below hb1)
        have b1 := hnx.trans (hb1.mono hnx.size)
        clear hb1 HX2 HR0
        go_wp2_with fail
        refine (Q1.out _ _ HX3.out).mono ?_
        rintro e w2 ⟨rfl, hb2⟩
        have HR2 := Lib.hid (HR1.out.below hb2)
        have b2 := b1.trans (hb2.mono b1.size)
        clear hb2 HX3 HR1 b1
        go_wp2_with fail
        refine (P2.out _ _ HR2.out).mono ?_
        rintro e w3 ⟨rfl, hb3⟩
        have HR3 := Lib.hid (HR2.out.below hb3)
        have b3 := b2.trans (hb3.mono b2.size)
        clear hb3 HR2 b2
        go_wp2_with fail
        refine (Q2.out _ _ HR3.out).mono ?_
        rintro e w4 ⟨rfl, hb4⟩
        have b4 := b3.trans (hb4.mono b3.size)
        clear hb4 HR3 b3
        go_wp2_with (go_at_call 8; refine (HA.out _).mono ?_; rintro e w5 ⟨rfl, hb5⟩)
        go_ret
        exact ⟨rfl, b4.trans (hb5.mono b4.size)⟩
      · have hmp : 0 < ms.length := by omega
        cases ended with
        | true =>
          obtain ⟨J2, z2, hP2, hR2⟩ := joins (mks ms) (HTM.out ms HM.out (by omega)).1 (HTM.out ms HM.out (by omega)).2
          have P2 := Lib.hid hP2
          have Q2 := Lib.hid hR2
          have hl0 : ((0 : Int) < (ms.length : Int)) := by omega
          have HR0 := Lib.hid (RdS.of_own HO.out)
          obtain ⟨B, d, rfl⟩ := own_len HO.out
          clear hP2 hR2 hjn hz hml hlt
          go_wp2_with fail
          refine (P1.out _ _ HX2.out).mono ?_
          rintro e w1 ⟨rfl, hb1⟩
          have HX3 := Lib.hid (HX2.out.below hb1)
          have HR1 := Lib.hid (HR0.out.below hb1)
          have b1 := hnx.trans (hb1.mono hnx.size)
          clear hb1 HX2 HR0
          go_wp2_with fail
          refine (Q1.out _ _ HX3.out).mono ?_
          rintro e w2 ⟨rfl, hb2⟩
          have HR2 := Lib.hid (HR1.out.below hb2)
          have b2 := b1.trans (hb2.mono b1.size)
          clear hb2 HX3 HR1 b1
          go_wp2_with fail
          refine (P2.out _ _ HR2.out).mono ?_
          rintro e w3 ⟨rfl, hb3⟩
          have HR3 := Lib.hid (HR2.out.below hb3)
          have b3 := b2.trans (hb3.mono b2.size)
          clear hb3 HR2 b2
          go_wp2_with fail
          refine (Q2.out _ _ HR3.out).mono ?_
          rintro e w4 ⟨rfl, hb4⟩
          have b4 := b3.trans (hb4.mono b3.size)
          clear hb4 HR3 b3
          go_wp2_with (go_at_call 8; refine (HA.out _).mono ?_; rintro e w5 ⟨rfl, hb5⟩)
          go_ret
          exact ⟨rfl, b4.trans (hb5.mono b4.size)⟩
        | false =>
          obtain ⟨ms0, x0, hms⟩ : ∃ ms0 x0, ms = ms0 ++ [x0] := ⟨ms.dropLast, ms.getLast (List.length_pos_iff.1 hmp), (List.dropLast_concat_getLast _).symm⟩
          subst hms
          have HMb : Hid (∀ z ∈ ms0 ++ [bs (bareB ⟨x0.toArray⟩)], z.length ≤ 41) := Lib.hid (fun z hz => by
            rcases List.mem_append.1 hz with hz | hz
            · exact HM.out z (List.mem_append_left _ hz)
            · rw [List.mem_singleton] at hz; subst hz
              have h1 := bareB_le ⟨x0.toArray⟩
              have h2 := HM.out x0 (List.mem_append_right _ (List.mem_singleton.2 rfl))
              rw [size_mk x0] at h1
              rw [bs_len]; omega)
          obtain ⟨J2, z2, hP2, hR2⟩ := joins (mks (ms0 ++ [bs (bareB ⟨x0.toArray⟩)])) (HTM.out _ HMb.out (by rw [List.length_append] at hml ⊢; simp only [List.length_singleton] at hml ⊢; omega)).1 (HTM.out _ HMb.out (by rw [List.length_append] at hml ⊢; simp only [List.length_singleton] at hml ⊢; omega)).2
          have P2 := Lib.hid hP2
          have Q2 := Lib.hid hR2
          have hpl : (ms0 ++ [x0]).length = ms0.length + 1 := by simp
          obtain ⟨g, d, cur, rfl, hg⟩ : ∃ g d cur, u5 = .slice (some ⟨g, 0, none⟩) (ms0 ++ [x0]).length d ∧ w.heap.size ≤ g ∧ wr.heap[g]? = some (.cells cur 9 (0, 0)) := by
            rcases HO.out.2 with ⟨_, h0⟩ | ⟨g, cap, cur, e, hb, hh, _⟩
            · omega
            · exact ⟨g, cap, cur, e, hb, hh⟩
          have HSet := Lib.hid (set_last (y := bs (bareB ⟨x0.toArray⟩)) HO.out)
          have hcl : wr.cell? ⟨g, ms0.length, none⟩ = some (.string ⟨x0.toArray⟩) := by
            rw [HO.out.cellAt ms0.length (by rw [hpl]; omega), strsV_append]
            simp [strsV]
          have hfl : wr.frozen? ⟨g, ms0.length, none⟩ = false := by simp [World.frozen?, hg.2]
          rw [hpl] at HSet
          rw [hpl]
          have HB0 := Lib.hid (fun w => BareR_any ⟨x0.toArray⟩ w (by
            have h2 := HM.out x0 (List.mem_append_right _ (List.mem_singleton.2 rfl))
            rw [size_mk x0]; omega))
          have hbg := hg.1
          have hp12 : ms0.length ≤ 11 := by omega
          clear hP2 hR2 hjn hz hml hlt hpl hg hmp HMb HTM
          generalize (ByteArray.mk x0.toArray) = x1 at HSet hcl HB0 P2 Q2
          generalize bareB x1 = y1 at HSet HB0 P2 Q2
          go_wp2_with (go_at_call 17; refine (HB0.out _).mono ?_; rintro e w1 ⟨rfl, rfl⟩)
          rw [show strV (bs y1) = .string y1 from congrArg Value.string (mk_bs y1)] at HSet
          have hnx2 : Below w.heap.size w (wr.setCell ⟨g, ms0.length, none⟩ (.string y1)) := hnx.setCell hbg _
          have HX2 := Lib.hid (HX.out.below hnx2)
          have HR0 := Lib.hid HSet.out
          have hnx := hnx2
          refine (P1.out _ _ HX2.out).mono ?_
          rintro e w1 ⟨rfl, hb1⟩
          have HX3 := Lib.hid (HX2.out.below hb1)
          have HR1 := Lib.hid (HR0.out.below hb1)
          have b1 := hnx.trans (hb1.mono hnx.size)
          clear hb1 HX2 HR0
          go_wp2_with fail
          refine (Q1.out _ _ HX3.out).mono ?_
          rintro e w2 ⟨rfl, hb2⟩
          have HR2 := Lib.hid (HR1.out.below hb2)
          have b2 := b1.trans (hb2.mono b1.size)
          clear hb2 HX3 HR1 b1
          go_wp2_with fail
          refine (P2.out _ _ HR2.out).mono ?_
          rintro e w3 ⟨rfl, hb3⟩
          have HR3 := Lib.hid (HR2.out.below hb3)
          have b3 := b2.trans (hb3.mono b2.size)
          clear hb3 HR2 b2
          go_wp2_with fail
          refine (Q2.out _ _ HR3.out).mono ?_
          rintro e w4 ⟨rfl, hb4⟩
          have b4 := b3.trans (hb4.mono b3.size)
          clear hb4 HR3 b3
          go_wp2_with (go_at_call 8; refine (HA.out _).mono ?_; rintro e w5 ⟨rfl, hb5⟩)
          go_ret
          exact ⟨rfl, b4.trans (hb5.mono b4.size)⟩
set_option maxRecDepth 100000 in
theorem lifted (os : Os) (started : os.Started) (H : Type) (enc : TypeId × Value → H) :
    ReturnsInHanded {} Try.checked os 4 .any (Rows.textJoinsSpec.pre6 enc Try.prog Try.f4 Rows.textJoinsRow.domain false) (Rows.textJoinsSpec.post enc Try.prog Try.f4 false true false false) := by
  refine returnsInHanded_of_change (C := Try.checked) own started (by kernel_rfl) Try.func4
    (ChangeSpec.witness6 (enc := enc) (C := Try.checked) false ⟨#[], #[.slice none 0 0, .bool false], []⟩ 8 (by kernel_rfl) (by kernel_rfl) (by kernel_rfl) (by kernel_rfl)) ?_
  intro W base args ds gs before hval0 hW _ _
  have hval : ∀ (j : Nat) t v, Try.f4.params[j]? = some t → args[j]? = some v → Value.okWide Try.prog W .any base t v := hval0
  have hW' := hW
  obtain ⟨p, q, hA0, hV, rfl, hfz, hnd⟩ := hW
  have hA : DataW.TrodAll enc Try.prog W 0 (fun _ => true) true Try.f4.params.toList args.toList ds p := hA0
  rw [Try.params4] at hA hval
  obtain ⟨v0, v1, d0, d1, p0, p1, rfl, rfl, rfl, h0, h1⟩ := trodAll_two hA
  obtain ⟨rfl, rfl⟩ := trodVars_none hV
  obtain ⟨A0, n0, c0, rfl⟩ := okWide_slice Try.underlying25 (hval 0 25 v0 rfl rfl)
  have k0 := h0
  have lt0 : ∀ x ∈ p0, x.block < W.heap.size := by obtain ⟨m, hm⟩ := k0; exact DataW.trod_lt m _ _ _ hm
  obtain ⟨xs, r0, s0⟩ : ∃ xs, RdS W (.slice A0 n0 c0) xs ∧ n0 ≤ maxLen := by obtain ⟨fuel, hf⟩ := h0; exact rdS_open hf
  obtain ⟨ended, rfl, rfl, rfl⟩ := open_bool Try.underlying4 (hval 1 4 v1 rfl rfl) h1
  clear hA0 hval0
  simp only [List.append_nil] at hW'
  refine (walk A0 n0 c0 xs ended W r0 s0).mono fun e W' ⟨he, hbel⟩ => ?_
  subst he
  exact ⟨_, rfl, _, _, _, [], _, [], hW', trodAll_mk1 (shut_bool Try.underlying4 _), trodAll_mk2 (Below.trod laidOut (by kernel_rfl) (of_decide_eq_true (by kernel_rfl)) k0 hbel lt0) (shut_bool Try.underlying4 ended), rfl, hbel.frame _, fun h => by cases h⟩
theorem row_holds : Rows.TextJoinsSaid :=
  OpenClaim.holds_of_wide 4 Try.f4 rfl rfl rfl rfl rfl rfl rfl ⟨rfl, rfl, rfl, rfl, rfl⟩ rfl rfl rfl rfl rfl (by kernel_rfl) Try.func4 (by kernel_rfl)
    (of_decide_eq_true (by kernel_rfl)) (by unfold Func.isWrapper; first | (rw [if_pos (by decide +kernel)]; kernel_rfl) | (rw [if_neg (by decide +kernel)]; exact ⟨rfl, rfl⟩))
    (fun os started H enc _ => lifted os started H enc)
end Tx.TextJoins
end Go.Proofs.Ytfhbffplbjmgoaa

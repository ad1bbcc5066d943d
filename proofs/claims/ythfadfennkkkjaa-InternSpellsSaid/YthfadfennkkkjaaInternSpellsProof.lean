/-
  Proved: the law InternSpells of layer 3 returns true for every input, and its arguments read as before. No conditions.
-/
import Derived.Test.YthfadfennkkkjaaInternAwake
import Derived.Test.YthfadfennkkkjaaComOwn
import Derived.Test.YthfadfennkkkjaaTextGen
import Derived.Test.YthfadfennkkkjaaComFrame
namespace Go.Proofs.Ythfadfennkkkjaa
open Go.ChangeShapes Go.WideShapes Go.ChangeAt Go.RowKit
open Go.ChangeMaps (open_string shut_string)
namespace Nt.InternSpells
open Cm Nt
def errOf (r : Option (List ByteArray)) : Int := if r.isNone then 3 else 0
theorem spell_uni {w w' : World} {r : Option (List ByteArray)} {e : Ending} (h : SpellPost w r e w') : ∃ v, e = .returned (.tuple #[v, .int .i64 (errOf r)]) ∧ RdV w' v (stringsV (r.getD [])) ∧ Below w.heap.size w w' := by
  cases r with
  | none => exact ⟨_, h.1, RdV.nil _, h.2⟩
  | some l =>
    obtain ⟨v, h1, h2, h3⟩ := h
    exact ⟨v, h1, RdV.of_own h2, h3⟩
theorem spellF_len (names : List ByteArray) (ids : List Int) : ((spellF names ids).getD []).length ≤ ids.length := by
  induction ids with
  | nil => exact Nat.le_refl _
  | cons z r ih =>
    unfold spellF
    split
    · cases h : spellF names r with
      | none => simp
      | some l => rw [h] at ih; simpa using ih
    · simp
theorem set_snoc {β : Type} (xs : List β) (x y : β) (k : Nat) (hk : xs.length = k) : (xs ++ [x]).set k y = xs ++ [y] := by
  subst hk; rw [List.set_append]; simp
set_option maxRecDepth 100000 in
set_option maxHeartbeats 4000000 in
theorem walk (u v : Value) (ns : List ByteArray) (zs : List Int) (fit : Bool) (w : World) (hr : RdV w u (stringsV ns)) (hl : ns.length ≤ maxLen) (hi : RdV w v (intsV zs)) (hn : zs.length ≤ maxLen) (hb : ∀ z ∈ zs, -9223372036854775808 ≤ z ∧ z ≤ 9223372036854775807) :
    Calls Try.prog 4 #[u, v, .bool fit] w fun e w' => e = .returned (.bool true) ∧ Below w.heap.size w w' := by
  have HAw := Lib.hid (fun w => awake_any w)
  have HR := Lib.hid hr
  obtain ⟨Au, cu, rfl⟩ := hr.form
  obtain ⟨A, c, rfl, _, hA⟩ := hi
  rw [stringsV_len, intsV_len]
  rw [stringsV_len] at HR
  have HA : Hid (∀ j (h : j < zs.length), ∃ b off, A = some ⟨b, off, none⟩ ∧ w.cell? ⟨b, off + j, none⟩ = some (.int .i64 zs[j])) := Lib.hid (fun j h => by
    obtain ⟨b, off, e, hc⟩ := hA (by rw [intsV_len]; omega)
    exact ⟨b, off, e, by rw [hc j (by rw [intsV_len]; exact h)]; simp [intsV]⟩)
  have HBd := Lib.hid hb
  unfold maxLen at hl hn
  have HS1 : Hid (∀ (ls : List Int) (v : Value) (w : World), RdV w (.slice Au ns.length cu) (stringsV ns) → RdV w v (intsV ls) → ls.length ≤ 12 → (∀ z ∈ ls, -9223372036854775808 ≤ z ∧ z ≤ 9223372036854775807) → ns.length ≤ 10 →
      Calls Try.prog 18 #[.slice Au ns.length cu, v] w fun e w' => ∃ v, e = .returned (.tuple #[v, .int .i64 (errOf (spellF ns ls))]) ∧ RdV w' v (stringsV ((spellF ns ls).getD [])) ∧ Below w.heap.size w w') :=
    Lib.hid (fun ls v w h1 h2 h3 h4 h5 => (Spell_any _ v ns ls w h1 h2 (by omega) (by omega) h4).mono fun e w' h => spell_uni h)
  have HS2 : Hid (∀ (ls : List Int) (v : Value) (w : World), RdV w (.slice Au ns.length cu) (stringsV ns) → RdV w v (intsV ls) → ls.length ≤ 12 → (∀ z ∈ ls, -9223372036854775808 ≤ z ∧ z ≤ 9223372036854775807) → ns.length ≤ 10 →
      Calls Try.prog 19 #[.slice Au ns.length cu, v] w fun e w' => ∃ v, e = .returned (.tuple #[v, .int .i64 (errOf (spellF ns ls))]) ∧ RdV w' v (stringsV ((spellF ns ls).getD [])) ∧ Below w.heap.size w w') :=
    Lib.hid (fun ls v w h1 h2 h3 h4 h5 => (SpellR_any _ v ns ls w h1 h2 (by omega) (by omega) h4).mono fun e w' h => spell_uni h)
  clear hr hA hb
  generalize hnl : ns.length = nl at hl HR HS1 HS2 ⊢
  clear hnl
  generalize hm : zs.length = m at hn ⊢
  have HM := Lib.hid hm
  clear hm
  by_cases h10 : (10 : Int) < (nl : Int)
  · go_enter Try.func4, Try.ntmps4
    go_wp2_with (go_at_call 8; refine (HAw.out _).mono ?_; rintro e w2 ⟨rfl, hb2⟩)
    go_ret
    exact ⟨rfl, hb2⟩
  by_cases h12 : (12 : Int) < (m : Int)
  · go_enter Try.func4, Try.ntmps4
    go_wp2_with (go_at_call 8; refine (HAw.out _).mono ?_; rintro e w2 ⟨rfl, hb2⟩)
    go_ret
    exact ⟨rfl, hb2⟩
  have hn10 : nl ≤ 10 := by omega
  have hm12 : m ≤ 12 := by omega
  go_enter Try.func4, Try.ntmps4
  go_wp2_with fail
  go_loopw [7, 8] (fun lv i wr => ∃ (j : Nat) (ls : List Int), j ≤ m ∧ i = .int .i64 j ∧ Hid (ls.length = j) ∧ Hid (wr.ownsRow w.heap.size tInt 1 lv j (intsV ls)) ∧ Hid (∀ z ∈ ls, -9223372036854775808 ≤ z ∧ z ≤ 9223372036854775807) ∧ Below w.heap.size w wr) (fun _ i _ => m - (intOf i).toNat)
  case atStart => exact ⟨0, [], Nat.zero_le _, rfl, Lib.hid rfl, Lib.hid (World.ownsRow_nil _ _ _ _), Lib.hid (fun z h => by cases h), Below.refl _ _⟩
  case round =>
    obtain ⟨j, ls, hj, rfl, HLn, HO, HLs, hnx⟩ := hrel
    obtain ⟨B, d, rfl⟩ := own_form HO.out
    have hsz := hnx.size
    by_cases hlt : j < m
    · have hx : j < zs.length := by rw [HM.out]; exact hlt
      obtain ⟨b, off, rfl, hc0⟩ := HA.out j hx
      have hc : wr.cell? ⟨b, off + j, none⟩ = some (.int .i64 zs[j]) := (hnx.cell (p := ⟨b, off + j, none⟩) (Tx.cell_lt hc0)).trans hc0
      have hbl := Tx.cell_lt hc0
      have hbd := HBd.out _ (List.getElem_mem hx)
      clear hc0
      generalize zs[j] = z at hc hbd
      have hz1 := hbd.1
      have hz2 := hbd.2
      have HSn : Hid (∀ y, -9223372036854775808 ≤ y → y ≤ 9223372036854775807 → (∀ z ∈ ls ++ [y], -9223372036854775808 ≤ z ∧ z ≤ 9223372036854775807)) := Lib.hid (fun y h1 h2 t ht => by
        rcases List.mem_append.1 ht with ht | ht
        · exact HLs.out t ht
        · rw [List.mem_singleton] at ht; subst ht; exact ⟨h1, h2⟩)
      have HInt : Hid (∀ y, intsV (ls ++ [y]) = intsV ls ++ [.int .i64 y]) := Lib.hid (fun y => by simp [intsV])
      have HLn2 : Hid (∀ y : Int, (ls ++ [y]).length = j + 1) := Lib.hid (fun y => by rw [List.length_append, HLn.out]; rfl)
      have HSet : Hid (∀ x y : Int, (intsV ls ++ [Value.int .i64 x]).set j (Value.int .i64 y) = intsV ls ++ [Value.int .i64 y]) := Lib.hid (fun x y => set_snoc _ _ _ _ (by rw [intsV_len, HLn.out]))
      generalize intsV ls = row at HO HInt HSet
      clear hbd
      have i1 : (0 : Int) ≤ (j : Int) := by omega
      have i2 : (j : Int) < (m : Int) := by omega
      have i3 : (j : Int) < (j : Int) + 1 := by omega
      by_cases hfit : fit = true ∧ 0 < nl
      · obtain ⟨rfl, hnp⟩ := hfit
        have hnp2 : (0 : Int) < (nl : Int) := by omega
        have HMod := Lib.hid (fun w => Tx.Mod_any z nl w hnp2 (by omega) hz1 hz2)
        have hm0 := Tx.modF_lo z nl hnp2
        have hm1 := Tx.modF_hi z nl hnp2
        generalize Tx.modF z nl = y at HMod hm0 hm1
        have HY := Lib.hid (HSn.out y (by omega) (by omega))
        go_wp2_with (at_builtin; refine app_one rfl Try.underlying23 info_int rfl (by omega) (.tmp 28) (.tmp 33) rfl w.heap.size j row (.int .i64 z) rfl _ _ rfl HO.out rfl rfl (by omega) hsz ?_; intro v3 w3 ho3 hb3 _; have HO3 := Lib.hid ho3; obtain ⟨g3, cap3, cur3, rfl, hbg, hgg⟩ := own_some ho3 (by omega); have hc3 := (hb3.cell (p := ⟨b, off + j, none⟩) hbl).trans hc; have f3 := HO3.out.frozenAt j; obtain ⟨y3, k3⟩ : ∃ y, w3.cell? ⟨g3, j, none⟩ = some y := by { have h5 := HO3.out.cellAt j (by omega); have h6 := own_len HO3.out; exact ⟨_, by rw [h5, List.getElem?_eq_getElem (by omega)]⟩ }; clear ho3)
        refine (HMod.out _).mono ?_
        rintro e w4 ⟨rfl, rfl⟩
        go_wp2_with fail
        go_roundw
        case rel => exact ⟨j + 1, ls ++ [y], by omega, by go_num, Lib.hid (HLn2.out y), by rw [HInt.out, ← HSet.out z y]; exact Lib.hid (HO3.out.stored j _).1, HY, (hnx.trans hb3).setCell (p := ⟨g3, j, none⟩) hbg _⟩
        case measure => simp [intOf]; omega
      · have HY := Lib.hid (HSn.out z (by omega) (by omega))
        have hcase : fit = false ∨ (fit = true ∧ nl = 0) := by
          cases fit with
          | false => exact .inl rfl
          | true => exact .inr ⟨rfl, by rcases Nat.eq_zero_or_pos nl with h | h; exact h; exact absurd ⟨rfl, h⟩ hfit⟩
        clear hfit
        rcases hcase with rfl | ⟨rfl, hnz⟩
        · skip
          go_wp2_with (at_builtin; refine app_one rfl Try.underlying23 info_int rfl (by omega) (.tmp 28) (.tmp 33) rfl w.heap.size j row (.int .i64 z) rfl _ _ rfl HO.out rfl rfl (by omega) hsz ?_; intro v3 w3 ho3 hb3 _; have HO3 := Lib.hid ho3; clear ho3)
          go_roundw
          case rel => exact ⟨j + 1, ls ++ [z], by omega, by go_num, Lib.hid (HLn2.out z), by rw [HInt.out]; exact HO3, HY, hnx.trans hb3⟩
          case measure => simp [intOf]; omega
        · have hd : decide (0 < nl) = false := by simp only [decide_eq_false_iff_not]; omega
          clear hnz
          go_wp2_with (at_builtin; refine app_one rfl Try.underlying23 info_int rfl (by omega) (.tmp 28) (.tmp 33) rfl w.heap.size j row (.int .i64 z) rfl _ _ rfl HO.out rfl rfl (by omega) hsz ?_; intro v3 w3 ho3 hb3 _; have HO3 := Lib.hid ho3; clear ho3)
          go_roundw
          case rel => exact ⟨j + 1, ls ++ [z], by omega, by go_num, Lib.hid (HLn2.out z), by rw [HInt.out]; exact HO3, HY, hnx.trans hb3⟩
          case measure => simp [intOf]; omega
    · have hjm : j = m := by omega
      have hd : decide (j < m) = false := by simp only [decide_eq_false_iff_not]; omega
      have HN0 := Lib.hid (HR.out.below hnx)
      have HL0 := Lib.hid (RdV.of_own HO.out)
      have hlen := HLn.out
      have HLe : Hid (((spellF ns ls).getD []).length ≤ 4611686018427387904) := Lib.hid (by have := spellF_len ns ls; omega)
      have T1 := Lib.hid (fun v w h1 h2 => HS1.out ls v w h1 h2 (by omega) HLs.out hn10)
      have T2 := Lib.hid (fun v w h1 h2 => HS2.out ls v w h1 h2 (by omega) HLs.out hn10)
      clear hlen HS1 HS2 HLs HLn hjm
      generalize errOf (spellF ns ls) = z at T1 T2
      generalize (spellF ns ls).getD [] = r at T1 T2 HLe
      go_wp2_with fail
      refine (T1.out _ _ HN0.out HL0.out).mono ?_
      rintro e w1 ⟨v1, rfl, r1, b1⟩
      have P1 := Lib.hid r1
      have HN1 := Lib.hid (HN0.out.below b1)
      have HL1 := Lib.hid (HL0.out.below b1)
      have B1 := Lib.hid (hnx.trans (b1.mono hsz))
      clear r1 b1 HN0 HL0
      go_wp2_with fail
      refine (T2.out _ _ HN1.out HL1.out).mono ?_
      rintro e w2 ⟨v2, rfl, r2, b2⟩
      have P2 := Lib.hid r2
      have Q2 := Lib.hid (P1.out.below b2)
      have B2 := Lib.hid (B1.out.trans (b2.mono B1.out.size))
      clear r2 b2 HN1 HL1 B1 P1
      go_wp2_with fail
      refine (Strings_same _ _ _ _ HLe.out Q2.out P2.out).mono ?_
      rintro e w3 ⟨rfl, q, rfl⟩
      have B3 := Lib.hid (below_drewN B2.out q)
      clear B2 P2 Q2
      generalize World.drewN _ q = w3 at B3 ⊢
      go_wp2_with fail
      refine (HAw.out _).mono ?_
      rintro e w4 ⟨rfl, b⟩
      go_wp2_with fail
      go_ret
      exact ⟨rfl, B3.out.trans (b.mono B3.out.size)⟩
set_option maxRecDepth 100000 in
theorem lifted (os : Os) (started : os.Started) (H : Type) (enc : TypeId × Value → H) :
    ReturnsInHanded {} Try.checked os 4 .any (Rows.internSpellsSpec.pre6 enc Try.prog Try.f4 Rows.internSpellsRow.domain false) (Rows.internSpellsSpec.post enc Try.prog Try.f4 false true false false) := by
  refine returnsInHanded_of_change (C := Try.checked) own started (by kernel_rfl) Try.func4
    (ChangeSpec.witness6 (enc := enc) (C := Try.checked) false ⟨#[], #[.slice none 0 0, .slice none 0 0, .bool false], []⟩ 8 (by kernel_rfl) (by kernel_rfl) (by kernel_rfl) (by kernel_rfl)) ?_
  intro W base args ds gs before hval0 hW _ _
  have hval : ∀ (j : Nat) t v, Try.f4.params[j]? = some t → args[j]? = some v → Value.okWide Try.prog W .any base t v := hval0
  have hW' := hW
  obtain ⟨p, q, hA0, hV, rfl, hfz, hnd⟩ := hW
  have hA : DataW.TrodAll enc Try.prog W 0 (fun _ => true) true Try.f4.params.toList args.toList ds p := hA0
  rw [Try.params4] at hA hval
  obtain ⟨v0, v1, v2, d0, d1, d2, p0, p1, p2, rfl, rfl, rfl, h0, h1, h2⟩ := trodAll_three hA
  obtain ⟨rfl, rfl⟩ := trodVars_none hV
  obtain ⟨A0, n0, c0, rfl⟩ := okWide_slice Try.underlying26 (hval 0 26 v0 rfl rfl)
  have k0 := h0
  have lt0 : ∀ x ∈ p0, x.block < W.heap.size := by obtain ⟨m, hm⟩ := k0; exact DataW.trod_lt m _ _ _ hm
  obtain ⟨ns, r0, s0, t0⟩ : ∃ l : List ByteArray, RdV W (.slice A0 n0 c0) (stringsV l) ∧ l.length ≤ maxLen ∧ ∀ s ∈ l, s.size ≤ maxLen := by obtain ⟨fuel, hf⟩ := h0; exact open_stringsV hf
  obtain ⟨A1, n1, c1, rfl⟩ := okWide_slice Try.underlying23 (hval 1 23 v1 rfl rfl)
  have k1 := h1
  have lt1 : ∀ x ∈ p1, x.block < W.heap.size := by obtain ⟨m, hm⟩ := k1; exact DataW.trod_lt m _ _ _ hm
  obtain ⟨zs, r1, s1, t1⟩ : ∃ l : List Int, RdV W (.slice A1 n1 c1) (intsV l) ∧ l.length ≤ maxLen ∧ ∀ z ∈ l, -9223372036854775808 ≤ z ∧ z ≤ 9223372036854775807 := by obtain ⟨fuel, hf⟩ := h1; exact open_intsV hf
  obtain ⟨fit, rfl, rfl, rfl⟩ := open_bool Try.underlying4 (hval 2 4 v2 rfl rfl) h2
  clear hA0 hval0
  simp only [List.append_nil] at hW'
  refine (walk (.slice A0 n0 c0) (.slice A1 n1 c1) ns zs fit W r0 s0 r1 s1 t1).mono fun e W' ⟨he, hbel⟩ => ?_
  subst he
  exact ⟨_, rfl, _, _, _, [], _, [], hW', trodAll_mk1 (shut_bool Try.underlying4 _), trodAll_mk3 (Below.trod laidOut (by kernel_rfl) (of_decide_eq_true (by kernel_rfl)) k0 hbel lt0) (Below.trod laidOut (by kernel_rfl) (of_decide_eq_true (by kernel_rfl)) k1 hbel lt1) (shut_bool Try.underlying4 fit), rfl, hbel.frame _, fun h => by cases h⟩
theorem row_holds : Rows.InternSpellsSaid :=
  OpenClaim.holds_of_wide 4 Try.f4 rfl rfl rfl rfl rfl rfl rfl ⟨rfl, rfl, rfl, rfl, rfl⟩ rfl rfl rfl rfl rfl (by kernel_rfl) Try.func4 (by kernel_rfl)
    (of_decide_eq_true (by kernel_rfl)) (by unfold Func.isWrapper; first | (rw [if_pos (by decide +kernel)]; kernel_rfl) | (rw [if_neg (by decide +kernel)]; exact ⟨rfl, rfl⟩))
    (fun os started H enc _ => lifted os started H enc)
end Nt.InternSpells
end Go.Proofs.Ythfadfennkkkjaa

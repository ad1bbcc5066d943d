/-
  Proved: the law RegexValid of layer 4 returns true for every input, and its arguments read as before. No conditions.
-/
import Derived.Test.YtbjfopoakiagpaaRegexLaw
import Derived.Test.YtbjfopoakiagpaaRegexFrame
import Derived.Test.YtbjfopoakiagpaaRegexPattern
import Derived.Test.YtbjfopoakiagpaaRegexShift
import Derived.Test.YtbjfopoakiagpaaRegexCk
namespace Go.Proofs.Ytbjfopoakiagpaa
open Go.ChangeShapes Go.WideShapes Go.ChangeAt Go.RowKit
open Go.ChangeMaps (open_string shut_string)
namespace Px.RegexValid
open Cm Rx
theorem rdI_of {w : World} {v : Value} {l : List Int} (h : RdV w v (intsV l)) (ht : ∀ z ∈ l, -9223372036854775808 ≤ z ∧ z ≤ 9223372036854775807) : Tx.RdI w v l.length := by
  obtain ⟨A, c, e, _, h⟩ := h
  rw [intsV_len] at e
  refine ⟨A, c, e, fun hp => ?_⟩
  obtain ⟨b, off, h1, h2⟩ := h (by rw [intsV_len]; exact hp)
  refine ⟨b, off, h1, fun j hj => ⟨l[j], ?_, ht _ (List.getElem_mem hj)⟩⟩
  rw [h2 j (by rw [intsV_len]; exact hj)]
  simp [intsV]
theorem grp_bs (x : ByteArray) : Tx.bs (⟨#[40]⟩ ++ x ++ ⟨#[41]⟩) = 40 :: (Tx.bs x ++ [41]) := by
  rw [Tx.bs_append, Tx.bs_append]; rfl
theorem grp_size (x : ByteArray) : (⟨#[40]⟩ ++ x ++ ⟨#[41]⟩ : ByteArray).size = x.size + 2 := by
  rw [ByteArray.size_append, ByteArray.size_append]
  show 1 + x.size + 1 = _
  omega
set_option maxRecDepth 100000 in
set_option maxHeartbeats 4000000 in
theorem walk (v : Value) (l : List Int) (n : Int) (w : World) (hG : Glb w.heap.size w) (hv : RdV w v (intsV l)) (hl : l.length ≤ maxLen) (ht : ∀ z ∈ l, -9223372036854775808 ≤ z ∧ z ≤ 9223372036854775807) (h0 : -9223372036854775808 ≤ n) (h1 : n ≤ 9223372036854775807) :
    Calls Try.prog 6 #[v, .int .i64 n] w fun e w' => e = .returned (.bool true) ∧ Below w.heap.size w w' := by
  have HAw := Lib.hid (fun (wq : World) (hb : Below w.heap.size w wq) => awake_any wq (hG.self hb))
  have HPat := Lib.hid (Pattern_any v l.length n w (rdI_of hv ht) hl h0 h1)
  have HPar := Lib.hid (fun (x : ByteArray) (wq : World) (hb : Below w.heap.size w wq) => ParseP_rd x wq (hG.self hb))
  obtain ⟨A, c, rfl⟩ := hv.form
  clear hG hv hl ht
  go_enter Try.func6, Try.ntmps6
  go_wp2_with fail
  refine HPat.out.mono ?_
  rintro e w1 ⟨x, hx, hcnt, rfl, B1⟩
  have HB1 := Lib.hid B1
  have HPar1 := Lib.hid (HPar.out x w1 B1)
  have HSm := Lib.hid (nodes_small (Tx.bs x))
  have hxl := Tx.bs_len x
  cases hr : parseF (Tx.bs x) with
  | error cd =>
    have hc0 : cd ≠ 0 := parse_nz cd hr
    rw [hr] at HPar1
    have e1 : (cd == 0) = false := by rw [beq_eq_false_iff_ne]; exact hc0
    have e2 : (cd != 0) = true := by rw [bne, e1]; rfl
    clear B1 hr hc0 hx hcnt hxl
    go_wp2_with fail
    refine HPar1.out.mono ?_
    rintro e w2 ⟨v2, rfl, r2, B2⟩
    obtain ⟨A2, c2, rfl, _⟩ := r2
    have HB2 := Lib.hid (below_tr HB1.out B2)
    clear B2
    unfold codeR nodesR
    simp only [List.length_nil]
    go_wp2_with (go_at_call 18; refine (HAw.out _ HB2.out).mono ?_; rintro e w9 ⟨rfl, B9⟩; have HB9 := Lib.hid (below_tr HB2.out B9); clear B9)
    go_ret
    exact ⟨rfl, HB9.out⟩
  | ok ns =>
    have HG := Lib.hid (parse_good hr)
    have hpos : 0 < ns.length := HG.out.1.1
    have HPar2 := Lib.hid (fun (wq : World) (hb : Below w.heap.size w wq) => HPar.out (⟨#[40]⟩ ++ x ++ ⟨#[41]⟩) wq hb)
    rw [grp_bs, parse_grp hr (by rw [hxl]; omega) (by unfold cnt at hcnt; omega)] at HPar2
    rw [hr] at HPar1
    unfold codeR nodesR at HPar1 HPar2
    have HCk := Lib.hid (fun (wq : World) (v : Value) (h : RdN wq v ns) => Check_any v ns wq h (Nat.le_trans HG.out.2.1 (by decide)) (fun k hk => Nat.le_trans (HG.out.2.2 k hk) (by decide)))
    have HV : Hid (checkF ns = 0) := Lib.hid (check_T HG.out.1)
    rw [HV.out] at HCk
    have HNo := Lib.hid (fun (a b : Value) (wq : World) (ha : RdN wq a ns) (hb : RdN wq b ns) => Nodes_same a b ns wq (Nat.le_trans HG.out.2.1 (by decide)) (fun k hk => Nat.le_trans (HG.out.2.2 k hk) (by decide)) ha hb)
    have hsz := grp_size x
    have b1 : ¬ (9223372036854775807 < (⟨#[40]⟩ : ByteArray).size + x.size) := by show ¬ (9223372036854775807 < 1 + x.size); omega
    have b2 : ¬ (9223372036854775807 < (⟨#[40]⟩ ++ x : ByteArray).size + (⟨#[41]⟩ : ByteArray).size) := by rw [ByteArray.size_append]; show ¬ (9223372036854775807 < 1 + x.size + 1); omega
    have b3 : x.size ≤ 128 := hx
    clear B1 hr hcnt hxl hsz hx
    go_wp2_with fail
    refine HPar1.out.mono ?_
    rintro e w2 ⟨v2, rfl, r2, B2⟩
    have HB2 := Lib.hid (below_tr HB1.out B2)
    have HPar3 := Lib.hid (HPar2.out w2 HB2.out)
    have HR2 := Lib.hid r2
    obtain ⟨A2, c2, rfl, _⟩ := r2
    clear B2
    go_wp2_with fail
    refine HPar3.out.mono ?_
    rintro e w3 ⟨v3, rfl, r3, B3⟩
    have HR3 := Lib.hid r3
    have HR23 := Lib.hid (HR2.out.below B3)
    have HB3 := Lib.hid (below_tr HB2.out B3)
    have HCk3 := Lib.hid (HCk.out w3 _ HR23.out)
    clear r3 B3
    go_wp2_with fail
    refine HCk3.out.mono ?_
    rintro e w4 ⟨rfl, B4⟩
    have HNo4 := Lib.hid (HNo.out _ _ w4 (HR23.out.below B4) (HR3.out.below B4))
    have HB4 := Lib.hid (below_tr HB3.out B4)
    clear B4
    go_wp2_with (first | (go_at_call 17; refine HNo4.out.mono ?_; rintro e w5 ⟨rfl, q5, rfl⟩) | (go_at_call 18; refine (HAw.out _ (below_drewN HB4.out _)).mono ?_; rintro e w9 ⟨rfl, B9⟩; have HB9 := Lib.hid (below_tr (below_drewN HB4.out _) B9); clear B9))
    go_ret
    exact ⟨rfl, HB9.out⟩
set_option maxRecDepth 100000 in
theorem lifted (os : Os) (started : os.Started) (H : Type) (enc : TypeId × Value → H) :
    ReturnsInHanded {} Try.checked os 6 .any (Rows.regexValidSpec.pre6 enc Try.prog Try.f6 Rows.regexValidRow.domain false) (Rows.regexValidSpec.post enc Try.prog Try.f6 false true false false) := by
  refine returnsInHanded_of_change_shaped (C := Try.checked) own started (by kernel_rfl) Try.func6
    (ChangeSpec.witness6 (enc := enc) (C := Try.checked) false ⟨#[], #[.slice none 0 0, .int .i64 0], []⟩ 8 (by kernel_rfl) (by kernel_rfl) (by kernel_rfl) (by kernel_rfl)) ?_
  intro W base args ds gs before hval0 hW _ _ hsh _
  have hval : ∀ (j : Nat) t v, Try.f6.params[j]? = some t → args[j]? = some v → Value.okWide Try.prog W .any base t v := hval0
  have hW' := hW
  obtain ⟨p, q, hA0, hV, rfl, hfz, hnd⟩ := hW
  have hA : DataW.TrodAll enc Try.prog W 0 (fun _ => true) true Try.f6.params.toList args.toList ds p := hA0
  rw [Try.params6] at hA hval
  obtain ⟨v0, v1, d0, d1, p0, p1, rfl, rfl, rfl, h0, h1⟩ := trodAll_two hA
  obtain ⟨rfl, rfl⟩ := trodVars_none hV
  obtain ⟨A0, n0, c0, rfl⟩ := okWide_slice Try.underlying22 (hval 0 22 v0 rfl rfl)
  have k0 := h0
  have lt0 : ∀ x ∈ p0, x.block < W.heap.size := by obtain ⟨m, hm⟩ := k0; exact DataW.trod_lt m _ _ _ hm
  obtain ⟨l, r0, s0, t0⟩ : ∃ l : List Int, RdV W (.slice A0 n0 c0) (intsV l) ∧ l.length ≤ maxLen ∧ ∀ z ∈ l, -9223372036854775808 ≤ z ∧ z ≤ 9223372036854775807 := by obtain ⟨fuel, hf⟩ := h0; exact open_intsV hf
  obtain ⟨n, rfl, rfl, rfl, wn⟩ := open_int Try.underlying3 (hval 1 3 v1 rfl rfl) h1
  have bn := bounds_int wn
  clear hA0 hval0
  simp only [List.append_nil] at hW'
  refine (walk _ l n W (glb_of hsh) r0 s0 t0 bn.1 bn.2).mono fun e W' ⟨he, hbel⟩ => ?_
  subst he
  exact ⟨_, rfl, _, _, _, [], _, [], hW', trodAll_mk1 (shut_bool Try.underlying4 _), trodAll_mk2 (Below.trod laidOut (by kernel_rfl) (of_decide_eq_true (by kernel_rfl)) k0 hbel lt0) (shut_int Try.underlying3 wn), rfl, hbel.frame _, fun h => by cases h⟩
theorem row_holds : Rows.RegexValidSaid :=
  OpenClaim.holds_of_wide 6 Try.f6 rfl rfl rfl rfl rfl rfl rfl ⟨rfl, rfl, rfl, rfl, rfl⟩ rfl rfl rfl rfl rfl (by kernel_rfl) Try.func6 (by kernel_rfl)
    (of_decide_eq_true (by kernel_rfl)) (by unfold Func.isWrapper; first | (rw [if_pos (by decide +kernel)]; kernel_rfl) | (rw [if_neg (by decide +kernel)]; exact ⟨rfl, rfl⟩))
    (fun os started H enc _ => lifted os started H enc)
end Px.RegexValid
end Go.Proofs.Ytbjfopoakiagpaa

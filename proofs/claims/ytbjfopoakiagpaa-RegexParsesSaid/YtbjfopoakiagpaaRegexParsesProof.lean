/-
  Proved: the law RegexParses of layer 4 returns true for every input, and its arguments read as before. No conditions.
-/
import Derived.Test.YtbjfopoakiagpaaRegexLawX
import Derived.Test.YtbjfopoakiagpaaRegexFrameX
import Derived.Test.YtbjfopoakiagpaaRegexPattern
import Derived.Test.YtbjfopoakiagpaaRegexSpoil
namespace Go.Proofs.Ytbjfopoakiagpaa
open Go.ChangeShapes Go.WideShapes Go.ChangeAt Go.RowKit
open Go.ChangeMaps (open_string shut_string)
namespace Px.RegexParses
open Cm Rx
theorem rdI_of {w : World} {v : Value} {l : List Int} (h : RdV w v (intsV l)) (ht : ∀ z ∈ l, -9223372036854775808 ≤ z ∧ z ≤ 9223372036854775807) : Tx.RdI w v l.length := by
  obtain ⟨A, c, e, _, h⟩ := h
  rw [intsV_len] at e
  refine ⟨A, c, e, fun hp => ?_⟩
  obtain ⟨b, off, h1, h2⟩ := h (by rw [intsV_len]; exact hp)
  refine ⟨b, off, h1, fun j hj => ⟨l[j], ?_, ht _ (List.getElem_mem hj)⟩⟩
  rw [h2 j (by rw [intsV_len]; exact hj)]
  simp [intsV]
set_option maxRecDepth 100000 in
set_option maxHeartbeats 4000000 in
theorem walk (v : Value) (l : List Int) (n what at_ cc : Int) (w : World) (hG : Glb w.heap.size w) (hv : RdV w v (intsV l)) (hl : l.length ≤ maxLen) (ht : ∀ z ∈ l, -9223372036854775808 ≤ z ∧ z ≤ 9223372036854775807)
    (h0 : -9223372036854775808 ≤ n ∧ n ≤ 9223372036854775807) (h1 : -9223372036854775808 ≤ what ∧ what ≤ 9223372036854775807) (h2 : -9223372036854775808 ≤ at_ ∧ at_ ≤ 9223372036854775807) :
    Calls Try.prog 3 #[v, .int .i64 n, .int .i64 what, .int .i64 at_, .int .i64 cc] w fun e w' => e = .returned (.bool true) ∧ Below w.heap.size w w' := by
  have HAw := Lib.hid (fun (wq : World) (hb : Below w.heap.size w wq) => awake_any wq (hG.self hb))
  have HPat := Lib.hid (Pattern_any v l.length n w (rdI_of hv ht) hl h0.1 h0.2)
  have HPar := Lib.hid (fun (x : ByteArray) (wq : World) (hb : Below w.heap.size w wq) => ParseP_rd x wq (hG.self hb))
  have HSp := Lib.hid (fun (x : ByteArray) (hx : x.size ≤ 128) W => Spoiled_any x what at_ cc W (by omega) h1.1 h1.2 h2.1 h2.2)
  obtain ⟨A, c, rfl⟩ := hv.form
  clear hG hv hl ht h0 h1 h2
  go_enter Try.func3, Try.ntmps3
  go_wp2_with fail
  refine HPat.out.mono ?_
  rintro e w1 ⟨x, hx, _, rfl, B1⟩
  have HB1 := Lib.hid B1
  have HSp1 := Lib.hid (HSp.out x hx w1)
  have HX := Lib.hid hx
  clear B1 hx
  go_wp2_with fail
  refine HSp1.out.mono ?_
  rintro e w2 ⟨y, hy, rfl, B2⟩
  have HB2 := Lib.hid (below_tr HB1.out B2)
  have HRx := Lib.hid (fun W => ParseR_rd x W (by have := HX.out; omega))
  have HRy := Lib.hid (fun W => ParseR_rd y W (by have := HX.out; omega))
  have HPx := Lib.hid (HPar.out x)
  have HPy := Lib.hid (HPar.out y)
  have HSx := Lib.hid (nodes_small (Tx.bs x))
  have HSy := Lib.hid (nodes_small (Tx.bs y))
  generalize codeR (parseF (Tx.bs x)) = cx at HRx HPx
  generalize nodesR (parseF (Tx.bs x)) = nx at HRx HPx HSx
  generalize codeR (parseF (Tx.bs y)) = cy at HRy HPy
  generalize nodesR (parseF (Tx.bs y)) = ny at HRy HPy HSy
  have HNx := Lib.hid (fun (a b : Value) (wq : World) (ha : RdN wq a nx) (hb : RdN wq b nx) => Nodes_same a b nx wq (Nat.le_trans HSx.out.1 (by decide)) (fun k hk => Nat.le_trans (HSx.out.2 k hk) (by decide)) ha hb)
  have HNy := Lib.hid (fun (a b : Value) (wq : World) (ha : RdN wq a ny) (hb : RdN wq b ny) => Nodes_same a b ny wq (Nat.le_trans HSy.out.1 (by decide)) (fun k hk => Nat.le_trans (HSy.out.2 k hk) (by decide)) ha hb)
  have HPx2 := Lib.hid (HPx.out w2 HB2.out)
  clear B2 hy
  go_wp2_with fail
  refine HPx2.out.mono ?_
  rintro e w3 ⟨v3, rfl, r3, B3⟩
  have HB3 := Lib.hid (below_tr HB2.out B3)
  have HR3 := Lib.hid r3
  clear B3 r3
  go_wp2_with fail
  refine (HRx.out _).mono ?_
  rintro e w4 ⟨v4, rfl, r4, B4⟩
  have HB4 := Lib.hid (below_tr HB3.out B4)
  have HR34 := Lib.hid (HR3.out.below B4)
  have HR4 := Lib.hid r4
  have HPy4 := Lib.hid (HPy.out w4 HB4.out)
  clear B4 r4
  go_wp2_with fail
  refine HPy4.out.mono ?_
  rintro e w5 ⟨v5, rfl, r5, B5⟩
  have HB5 := Lib.hid (below_tr HB4.out B5)
  have HR35 := Lib.hid (HR34.out.below B5)
  have HR45 := Lib.hid (HR4.out.below B5)
  have HR5 := Lib.hid r5
  clear B5 r5
  go_wp2_with fail
  refine (HRy.out _).mono ?_
  rintro e w6 ⟨v6, rfl, r6, B6⟩
  have HB6 := Lib.hid (below_tr HB5.out B6)
  have HN6 := Lib.hid (HNx.out v3 v4 w6 (HR35.out.below B6) (HR45.out.below B6))
  have HM6 := Lib.hid (fun q => HNy.out v5 v6 (w6.drewN q) ((HR5.out.below B6).drewN q) (r6.drewN q))
  clear B6 r6
  go_wp2_with fail
  refine HN6.out.mono ?_
  rintro e w7 ⟨rfl, q7, rfl⟩
  have HM7 := Lib.hid (HM6.out q7)
  go_wp2_with fail
  refine HM7.out.mono ?_
  rintro e w8 ⟨rfl, q8, rfl⟩
  have HB8 := Lib.hid (fun q => below_drewN HB6.out q)
  go_wp2_with (go_at_call 18; refine (HAw.out _ (HB8.out _)).mono ?_; rintro e w9 ⟨rfl, B9⟩; have HB9 := Lib.hid (below_tr (HB8.out _) B9); clear B9)
  go_ret
  exact ⟨rfl, HB9.out⟩
set_option maxRecDepth 100000 in
theorem lifted (os : Os) (started : os.Started) (H : Type) (enc : TypeId × Value → H) :
    ReturnsInHanded {} Try.checked os 3 .any (Rows.regexParsesSpec.pre6 enc Try.prog Try.f3 Rows.regexParsesRow.domain false) (Rows.regexParsesSpec.post enc Try.prog Try.f3 false true false false) := by
  refine returnsInHanded_of_change_shaped (C := Try.checked) own started (by kernel_rfl) Try.func3
    (ChangeSpec.witness6 (enc := enc) (C := Try.checked) false ⟨#[], #[.slice none 0 0, .int .i64 0, .int .i64 0, .int .i64 0, .int .i64 0], []⟩ 8 (by kernel_rfl) (by kernel_rfl) (by kernel_rfl) (by kernel_rfl)) ?_
  intro W base args ds gs before hval0 hW _ _ hsh _
  have hval : ∀ (j : Nat) t v, Try.f3.params[j]? = some t → args[j]? = some v → Value.okWide Try.prog W .any base t v := hval0
  have hW' := hW
  obtain ⟨p, q, hA0, hV, rfl, hfz, hnd⟩ := hW
  have hA : DataW.TrodAll enc Try.prog W 0 (fun _ => true) true Try.f3.params.toList args.toList ds p := hA0
  rw [Try.params3] at hA hval
  obtain ⟨v0, v1, v2, v3, v4, d0, d1, d2, d3, d4, p0, p1, p2, p3, p4, rfl, rfl, rfl, h0, h1, h2, h3, h4⟩ := trodAll_five hA
  obtain ⟨rfl, rfl⟩ := trodVars_none hV
  obtain ⟨A0, n0, c0, rfl⟩ := okWide_slice Try.underlying22 (hval 0 22 v0 rfl rfl)
  have k0 := h0
  have lt0 : ∀ x ∈ p0, x.block < W.heap.size := by obtain ⟨m, hm⟩ := k0; exact DataW.trod_lt m _ _ _ hm
  obtain ⟨l, r0, s0, t0⟩ : ∃ l : List Int, RdV W (.slice A0 n0 c0) (intsV l) ∧ l.length ≤ maxLen ∧ ∀ z ∈ l, -9223372036854775808 ≤ z ∧ z ≤ 9223372036854775807 := by obtain ⟨fuel, hf⟩ := h0; exact open_intsV hf
  obtain ⟨n, rfl, rfl, rfl, wn⟩ := open_int Try.underlying3 (hval 1 3 v1 rfl rfl) h1
  have bn := bounds_int wn
  obtain ⟨what, rfl, rfl, rfl, wwhat⟩ := open_int Try.underlying3 (hval 2 3 v2 rfl rfl) h2
  have bwhat := bounds_int wwhat
  obtain ⟨a, rfl, rfl, rfl, wa⟩ := open_int Try.underlying3 (hval 3 3 v3 rfl rfl) h3
  have ba := bounds_int wa
  obtain ⟨cc, rfl, rfl, rfl, wcc⟩ := open_int Try.underlying3 (hval 4 3 v4 rfl rfl) h4
  have bcc := bounds_int wcc
  clear hA0 hval0
  simp only [List.append_nil] at hW'
  refine (walk _ l n what a cc W (glb_of hsh) r0 s0 t0 bn bwhat ba).mono fun e W' ⟨he, hbel⟩ => ?_
  subst he
  exact ⟨_, rfl, _, _, _, [], _, [], hW', trodAll_mk1 (shut_bool Try.underlying4 _), trodAll_mk5 (Below.trod laidOut (by kernel_rfl) (of_decide_eq_true (by kernel_rfl)) k0 hbel lt0) (shut_int Try.underlying3 wn) (shut_int Try.underlying3 wwhat) (shut_int Try.underlying3 wa) (shut_int Try.underlying3 wcc), rfl, hbel.frame _, fun h => by cases h⟩
theorem row_holds : Rows.RegexParsesSaid :=
  OpenClaim.holds_of_wide 3 Try.f3 rfl rfl rfl rfl rfl rfl rfl ⟨rfl, rfl, rfl, rfl, rfl⟩ rfl rfl rfl rfl rfl (by kernel_rfl) Try.func3 (by kernel_rfl)
    (of_decide_eq_true (by kernel_rfl)) (by unfold Func.isWrapper; first | (rw [if_pos (by decide +kernel)]; kernel_rfl) | (rw [if_neg (by decide +kernel)]; exact ⟨rfl, rfl⟩))
    (fun os started H enc _ => lifted os started H enc)
end Px.RegexParses
end Go.Proofs.Ytbjfopoakiagpaa

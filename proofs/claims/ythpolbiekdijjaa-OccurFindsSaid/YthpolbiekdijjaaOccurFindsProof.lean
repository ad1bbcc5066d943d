/-
  Proved: the law OccurFinds of layer 7 returns true for every input, and its arguments read as before. No conditions.
-/
import Derived.Test.YthpolbiekdijjaaOccWord
namespace Go.Proofs.Ythpolbiekdijjaa
open Go.ChangeShapes Go.WideShapes Go.ChangeAt Go.RowKit
open Go.ChangeMaps (open_string shut_string)
namespace Oc.OccurFinds
open Cm Tx Oc
def nxI : Option Nat → Int
  | some i => i
  | none => 0
def nxB : Option Nat → Bool
  | some _ => true
  | none => false
theorem nextT_eq (o : Option Nat) : nextT o = .tuple #[.int .i64 (nxI o), .bool (nxB o)] := by cases o <;> rfl
theorem Next_v (n s : ByteArray) (p : Int) (w : World) (hn : n.size ≤ 4194304) (hs : s.size ≤ 4194304) :
    Calls Try.prog 10 #[.string n, .string s, .int .i64 p] w fun e w' => e = .returned (.tuple #[.int .i64 (nxI (nextR (bs n) (bs s) p)), .bool (nxB (nextR (bs n) (bs s) p))]) ∧ Below w.heap.size w w' :=
  (Next_any n s p w hn hs).mono fun e w' ⟨h1, h2⟩ => ⟨by rw [h1, nextT_eq], h2⟩
theorem NextR_v (n s : ByteArray) (p : Int) (w : World) (hn : n.size ≤ 4194304) (hs : s.size ≤ 4194304) (hp : p ≤ 9223372036854775807) :
    Calls Try.prog 11 #[.string n, .string s, .int .i64 p] w fun e w' => e = .returned (.tuple #[.int .i64 (nxI (nextR (bs n) (bs s) p)), .bool (nxB (nextR (bs n) (bs s) p))]) ∧ Below w.heap.size w w' :=
  (NextR_any n s p w hn hs hp).mono fun e w' ⟨h1, h2⟩ => ⟨by rw [h1, nextT_eq], by rw [← h2]; exact Below.refl _ _⟩
theorem pos_small (n s : ByteArray) (h : s.size ≤ 1000) : (natsI (posL (bs n) (bs s) 0)).length ≤ 4611686018427387904 := by
  have := (posL_is (bs n) (bs s) 0).count (Nat.zero_le _)
  rw [bs_len] at this
  rw [natsI_len]; omega
set_option maxRecDepth 100000 in
set_option maxHeartbeats 8000000 in
theorem walk (needle s : ByteArray) (from_ : Int) (v : Value) (N : Nat) (w : World) (hb1 : -9223372036854775808 ≤ from_) (hb2 : from_ ≤ 9223372036854775807) (hv : RdI w v N) (hN : N ≤ maxLen) :
    Calls Try.prog 3 #[.string needle, .string s, .int .i64 from_, v] w fun e w' => e = .returned (.bool true) ∧ Below w.heap.size w w' := by
  have HAw := Lib.hid (fun w => awake_any w)
  have HI := Lib.hid (fun a b l w hl ha hb => Ints_same a b l w hl ha hb)
  by_cases h1 : 30 < needle.size
  · have hd : decide (30 < needle.size) = true := by simpa using h1
    go_enter Try.func3, Try.ntmps3
    go_wp2_with fail
    refine (HAw.out _).mono ?_
    rintro e w1 ⟨rfl, hb⟩
    go_wp2_with fail
    go_ret
    exact ⟨rfl, hb⟩
  have hd1 : decide (30 < needle.size) = false := by simpa using h1
  by_cases h2 : 100 < s.size
  · have hd : decide (100 < s.size) = true := by simpa using h2
    go_enter Try.func3, Try.ntmps3
    go_wp2_with fail
    refine (HAw.out _).mono ?_
    rintro e w1 ⟨rfl, hb⟩
    go_wp2_with fail
    go_ret
    exact ⟨rfl, hb⟩
  · have hd2 : decide (100 < s.size) = false := by simpa using h2
    have HW1 : Hid (∀ w2, Below w.heap.size w w2 → Calls Try.prog 12 #[v, .int .i64 0, .int .i64 4] w2 (WordPost 4 w2)) := Lib.hid (fun w2 hb => word_any v N 0 4 w2 (hv.below hb) hN (by omega) (by omega))
    have HW2 : Hid (∀ w2, Below w.heap.size w w2 → Calls Try.prog 12 #[v, .int .i64 20, .int .i64 30] w2 (WordPost 30 w2)) := Lib.hid (fun w2 hb => word_any v N 20 30 w2 (hv.below hb) hN (by omega) (by omega))
    have HN1 := Lib.hid (fun w => Next_v needle s from_ w (by omega) (by omega))
    have HN2 := Lib.hid (fun w => NextR_v needle s from_ w (by omega) (by omega) (by omega))
    generalize nxI (nextR (bs needle) (bs s) from_) = x1 at HN1 HN2
    generalize nxB (nextR (bs needle) (bs s) from_) = x2 at HN1 HN2
    clear hv hN
    go_enter Try.func3, Try.ntmps3
    go_wp2_with fail
    refine (HN1.out _).mono ?_
    rintro e w1 ⟨rfl, hb⟩
    have HB1 := Lib.hid hb
    clear hb
    go_wp2_with fail
    refine (HN2.out _).mono ?_
    rintro e w2 ⟨rfl, hb⟩
    have HB2 := Lib.hid (HB1.out.trans (hb.mono HB1.out.size))
    clear hb
    clear HB1
    go_wp2_with fail
    refine (HW1.out _ HB2.out).mono ?_
    rintro e w3 ⟨n, hn, _, rfl, hb⟩
    have HB3 := Lib.hid (HB2.out.trans (hb.mono HB2.out.size))
    clear hb
    clear HB2
    go_wp2_with fail
    refine (HW2.out _ HB3.out).mono ?_
    rintro e w4 ⟨t, ht, _, rfl, hb⟩
    have HB4 := Lib.hid (HB3.out.trans (hb.mono HB3.out.size))
    clear hb
    clear HB3
    have hm1 := modF_lo from_ ((t.size : Int) + 2) (by omega)
    have hm2 := modF_hi from_ ((t.size : Int) + 2) (by omega)
    have HM := Lib.hid (fun w => Mod_any from_ ((t.size : Int) + 2) w (by omega) (by omega) hb1 hb2)
    generalize modF from_ ((t.size : Int) + 2) = m at hm1 hm2 HM
    have HN3 := Lib.hid (fun w => Next_v n t m w (by omega) (by omega))
    have HN4 := Lib.hid (fun w => NextR_v n t m w (by omega) (by omega) (by omega))
    generalize nxI (nextR (bs n) (bs t) m) = y1 at HN3 HN4
    generalize nxB (nextR (bs n) (bs t) m) = y2 at HN3 HN4
    go_wp2_with (go_at_call 13; refine (HM.out _).mono ?_; rintro e w8 ⟨rfl, rfl⟩)
    go_wp2_with fail
    refine (HN3.out _).mono ?_
    rintro e w5 ⟨rfl, hb⟩
    have HB5 := Lib.hid (HB4.out.trans (hb.mono HB4.out.size))
    clear hb
    clear HB4
    go_wp2_with (go_at_call 13; refine (HM.out _).mono ?_; rintro e w8 ⟨rfl, rfl⟩)
    go_wp2_with fail
    refine (HN4.out _).mono ?_
    rintro e w6 ⟨rfl, hb⟩
    have HB6 := Lib.hid (HB5.out.trans (hb.mono HB5.out.size))
    clear hb
    clear HB5
    go_wp2_with fail
    refine (Positions_any needle s _ (by omega) (by omega)).mono ?_
    rintro e w7 ⟨vaneedle, rfl, hr, hb⟩
    have HB7 := Lib.hid (HB6.out.trans (hb.mono HB6.out.size))
    clear hb
    clear HB6
    have HRaneedle := Lib.hid (RdV.of_own hr)
    clear hr
    go_wp2_with fail
    refine (PositionsR_any needle s _ (by omega) (by omega)).mono ?_
    rintro e w8 ⟨vbneedle, rfl, hr, hb⟩
    have HB8 := Lib.hid (HB7.out.trans (hb.mono HB7.out.size))
    have HRaneedle := Lib.hid (HRaneedle.out.below hb)
    clear hb
    clear HB7
    have HRbneedle := Lib.hid (RdV.of_own hr)
    clear hr
    go_wp2_with fail
    refine (HI.out _ _ (natsI (posL (bs needle) (bs s) 0)) _ (pos_small _ _ (by omega)) HRaneedle.out HRbneedle.out).mono ?_
    rintro e w9 ⟨rfl, q, hq⟩
    have hb : Below w8.heap.size w8 w9 := by rw [hq]; exact below_drewN (Below.refl _ _) q
    clear hq HRaneedle HRbneedle
    have HB9 := Lib.hid (HB8.out.trans (hb.mono HB8.out.size))
    clear hb
    clear HB8
    go_wp2_with fail
    refine (Positions_any n t _ (by omega) (by omega)).mono ?_
    rintro e w10 ⟨van, rfl, hr, hb⟩
    have HB10 := Lib.hid (HB9.out.trans (hb.mono HB9.out.size))
    clear hb
    clear HB9
    have HRan := Lib.hid (RdV.of_own hr)
    clear hr
    go_wp2_with fail
    refine (PositionsR_any n t _ (by omega) (by omega)).mono ?_
    rintro e w11 ⟨vbn, rfl, hr, hb⟩
    have HB11 := Lib.hid (HB10.out.trans (hb.mono HB10.out.size))
    have HRan := Lib.hid (HRan.out.below hb)
    clear hb
    clear HB10
    have HRbn := Lib.hid (RdV.of_own hr)
    clear hr
    go_wp2_with fail
    refine (HI.out _ _ (natsI (posL (bs n) (bs t) 0)) _ (pos_small _ _ (by omega)) HRan.out HRbn.out).mono ?_
    rintro e w12 ⟨rfl, q, hq⟩
    have hb : Below w11.heap.size w11 w12 := by rw [hq]; exact below_drewN (Below.refl _ _) q
    clear hq HRan HRbn
    have HB12 := Lib.hid (HB11.out.trans (hb.mono HB11.out.size))
    clear hb
    clear HB11
    go_wp2_with fail
    refine (Count_any needle s _ (by omega) (by omega)).mono ?_
    rintro e w13 ⟨rfl, hb⟩
    have HB13 := Lib.hid (HB12.out.trans (hb.mono HB12.out.size))
    clear hb
    clear HB12
    go_wp2_with fail
    refine (PositionsR_any needle s _ (by omega) (by omega)).mono ?_
    rintro e w14 ⟨v, rfl, hr, hb⟩
    obtain ⟨A, c, rfl⟩ := own_form hr
    clear hr
    have HB14 := Lib.hid (HB13.out.trans (hb.mono HB13.out.size))
    clear hb
    clear HB13
    go_wp2_with fail
    refine (Count_any n t _ (by omega) (by omega)).mono ?_
    rintro e w15 ⟨rfl, hb⟩
    have HB15 := Lib.hid (HB14.out.trans (hb.mono HB14.out.size))
    clear hb
    clear HB14
    go_wp2_with fail
    refine (PositionsR_any n t _ (by omega) (by omega)).mono ?_
    rintro e w16 ⟨v, rfl, hr, hb⟩
    obtain ⟨A, c, rfl⟩ := own_form hr
    clear hr
    have HB16 := Lib.hid (HB15.out.trans (hb.mono HB15.out.size))
    clear hb
    clear HB15
    go_wp2_with fail
    refine (HAw.out _).mono ?_
    rintro e w17 ⟨rfl, hb⟩
    have HB17 := Lib.hid (HB16.out.trans (hb.mono HB16.out.size))
    clear hb
    clear HB16
    go_wp2_with fail
    go_ret
    exact ⟨rfl, HB17.out⟩
set_option maxRecDepth 100000 in
theorem lifted (os : Os) (started : os.Started) (H : Type) (enc : TypeId × Value → H) :
    ReturnsInHanded {} Try.checked os 3 .any (Rows.occurFindsSpec.pre6 enc Try.prog Try.f3 Rows.occurFindsRow.domain false) (Rows.occurFindsSpec.post enc Try.prog Try.f3 false true false false) := by
  refine returnsInHanded_of_change (C := Try.checked) own started (by kernel_rfl) Try.func3
    (ChangeSpec.witness6 (enc := enc) (C := Try.checked) false ⟨#[], #[.string ⟨#[]⟩, .string ⟨#[]⟩, .int .i64 0, .slice none 0 0], []⟩ 8 (by kernel_rfl) (by kernel_rfl) (by kernel_rfl) (by kernel_rfl)) ?_
  intro W base args ds gs before hval0 hW _ _
  have hval : ∀ (j : Nat) t v, Try.f3.params[j]? = some t → args[j]? = some v → Value.okWide Try.prog W .any base t v := hval0
  have hW' := hW
  obtain ⟨p, q, hA0, hV, rfl, hfz, hnd⟩ := hW
  have hA : DataW.TrodAll enc Try.prog W 0 (fun _ => true) true Try.f3.params.toList args.toList ds p := hA0
  rw [Try.params3] at hA hval
  obtain ⟨v0, v1, v2, v3, d0, d1, d2, d3, p0, p1, p2, p3, rfl, rfl, rfl, h0, h1, h2, h3⟩ := trodAll_four hA
  obtain ⟨rfl, rfl⟩ := trodVars_none hV
  obtain ⟨nd, rfl, rfl, rfl, wnd⟩ := open_string Try.underlying9 (hval 0 9 v0 rfl rfl) h0
  obtain ⟨s, rfl, rfl, rfl, ws⟩ := open_string Try.underlying9 (hval 1 9 v1 rfl rfl) h1
  obtain ⟨f, rfl, rfl, rfl, wf⟩ := open_int Try.underlying3 (hval 2 3 v2 rfl rfl) h2
  have bf := bounds_int wf
  obtain ⟨A3, n3, c3, rfl⟩ := okWide_slice Try.underlying22 (hval 3 22 v3 rfl rfl)
  have k3 := h3
  have lt3 : ∀ x ∈ p3, x.block < W.heap.size := by obtain ⟨m, hm⟩ := k3; exact DataW.trod_lt m _ _ _ hm
  obtain ⟨zs, r3, s3, t3⟩ : ∃ l : List Int, RdV W (.slice A3 n3 c3) (intsV l) ∧ l.length ≤ maxLen ∧ ∀ z ∈ l, -9223372036854775808 ≤ z ∧ z ≤ 9223372036854775807 := by obtain ⟨fuel, hf⟩ := h3; exact open_intsV hf
  clear hA0 hval0
  simp only [List.append_nil] at hW'
  refine (walk nd s f (.slice A3 n3 c3) zs.length W bf.1 bf.2 (rdI_of r3 t3) s3).mono fun e W' ⟨he, hbel⟩ => ?_
  subst he
  exact ⟨_, rfl, _, _, _, [], _, [], hW', trodAll_mk1 (shut_bool Try.underlying4 _), trodAll_mk4 (shut_string Try.underlying9 wnd) (shut_string Try.underlying9 ws) (shut_int Try.underlying3 wf) (Below.trod laidOut (by kernel_rfl) (of_decide_eq_true (by kernel_rfl)) k3 hbel lt3), rfl, hbel.frame _, fun h => by cases h⟩
theorem row_holds : Rows.OccurFindsSaid :=
  OpenClaim.holds_of_wide 3 Try.f3 rfl rfl rfl rfl rfl rfl rfl ⟨rfl, rfl, rfl, rfl, rfl⟩ rfl rfl rfl rfl rfl (by kernel_rfl) Try.func3 (by kernel_rfl)
    (of_decide_eq_true (by kernel_rfl)) (by unfold Func.isWrapper; first | (rw [if_pos (by decide +kernel)]; kernel_rfl) | (rw [if_neg (by decide +kernel)]; exact ⟨rfl, rfl⟩))
    (fun os started H enc _ => lifted os started H enc)
end Oc.OccurFinds
end Go.Proofs.Ythpolbiekdijjaa

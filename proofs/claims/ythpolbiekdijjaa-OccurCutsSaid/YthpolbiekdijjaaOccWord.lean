/-
  Layer 7's statements: the word of raw numbers, and the sanity check. No conditions.
-/
import Derived.Test.YthpolbiekdijjaaOccRepR
import Derived.Test.YthpolbiekdijjaaTextPick
import Derived.Test.YthpolbiekdijjaaComFrameI
namespace Go.Proofs.Ythpolbiekdijjaa
open Go.RowKit
namespace Oc
open Tx Cm
/-- Some string of at most m bytes, each an 'a' or a 'b'. -/
def WordPost (m : Nat) (w : World) (e : Ending) (w' : World) : Prop := ∃ b : ByteArray, b.size ≤ m ∧ (∀ x ∈ bs b, x = 97 ∨ x = 98) ∧ e = .returned (.string b) ∧ Below w.heap.size w w'
theorem word_lit (w : World) (k : Nat) (hk : k < 3) : ∃ c : ByteArray, (w.alloc (.cells #[.string ⟨#[97]⟩, .string ⟨#[97]⟩, .string ⟨#[98]⟩] 9)).cell? ⟨w.heap.size, k, none⟩ = some (.string c) ∧ c.size = 1 ∧ ∀ x ∈ bs c, x = 97 ∨ x = 98 := by
  rw [World.cell?_alloc_mark]
  match k, hk with
  | 0, _ => exact ⟨⟨#[97]⟩, rfl, rfl, by decide⟩
  | 1, _ => exact ⟨⟨#[97]⟩, rfl, rfl, by decide⟩
  | 2, _ => exact ⟨⟨#[98]⟩, rfl, rfl, by decide⟩
set_option maxRecDepth 100000 in
set_option maxHeartbeats 2000000 in
theorem word_any (v : Value) (N : Nat) (from_ m : Nat) (w : World) (hv : RdI w v N) (hN : N ≤ maxLen) (hf : from_ ≤ 1000) (hm : m ≤ 1000) :
    Calls Try.prog 12 #[v, .int .i64 from_, .int .i64 m] w (WordPost m w) := by
  have HAt := Lib.hid (fun (W : World) (k : Int) (hb : Below w.heap.size w W) (h0 : 0 ≤ k) (h1 : k ≤ 1000000) => Tx.At_any v N k W (hv.below hb) hN h0 h1)
  clear hv hN
  go_enter Try.func12, Try.ntmps12
  go_wp2_with fail
  go_loopw [7, 8] (fun u i wr => ∃ (k : Nat) (b : ByteArray), k ≤ m ∧ i = .int .i64 (k : Int) ∧ u = .string b ∧ b.size = k ∧ Hid (∀ x ∈ bs b, x = 97 ∨ x = 98) ∧ Hid (Below w.heap.size w wr)) (fun _ i _ => m - (intOf i).toNat)
  case atStart => exact ⟨0, ⟨#[]⟩, Nat.zero_le _, by go_num, rfl, rfl, Lib.hid (fun x hx => by cases hx), Lib.hid (Below.refl _ _)⟩
  case round =>
    obtain ⟨k, b, hk, rfl, rfl, hbk, HX, HB⟩ := hrel
    have HK := Lib.hid hbk
    clear hbk
    have HA1 := Lib.hid (HAt.out wr (from_ : Int) HB.out (by omega) (by omega))
    go_wp2_with (go_at_call 24; refine HA1.out.mono ?_; clear HA1; rintro e w2 ⟨z, hz1, hz2, rfl, rfl⟩)
    have q1 := modF_lo z ((m : Int) + 1) (by omega)
    have q2 := modF_hi z ((m : Int) + 1) (by omega)
    have HM1 := Lib.hid (Mod_any z ((m : Int) + 1) wr (by omega) (by omega) hz1 hz2)
    generalize modF z ((m : Int) + 1) = q at q1 q2 HM1
    obtain ⟨q, rfl⟩ := Int.eq_ofNat_of_zero_le q1
    clear hz1 hz2 q1
    by_cases hlt : k < q
    · have hd : decide (k < q) = true := by simpa using hlt
      have HB1 := Lib.hid (HB.out.alloc HB.out.size (.cells #[.string ⟨#[97]⟩, .string ⟨#[97]⟩, .string ⟨#[98]⟩] 9))
      have HA2 := Lib.hid (HAt.out _ ((from_ : Int) + 1 + (k : Int)) HB1.out (by omega) (by omega))
      have hbs : b.size ≤ 1000 := by have := HK.out; omega
      go_wp2_with (go_at_call 13; refine HM1.out.mono ?_; clear HM1; rintro e w3 ⟨rfl, rfl⟩)
      refine HA2.out.mono ?_
      clear HA2
      rintro e w2 ⟨y, hy1, hy2, rfl, rfl⟩
      have d1 := modF_lo y 3 (by omega)
      have d2 := modF_hi y 3 (by omega)
      have HM2 := Lib.hid (fun w => Mod_any y 3 w (by omega) (by omega) hy1 hy2)
      generalize modF y 3 = d at d1 d2 HM2
      obtain ⟨d, rfl⟩ := Int.eq_ofNat_of_zero_le d1
      clear hy1 hy2
      obtain ⟨c, hc1, hc2, hc3⟩ := word_lit wr d (by omega)
      have HX2 := Lib.hid hc3
      have HC2 := Lib.hid hc2
      have hsum : ¬ (9223372036854775807 < b.size + c.size) := by omega
      clear hc2 hc3
      go_wp2_with (go_at_call 13; refine (HM2.out _).mono ?_; clear HM2; rintro e w3 ⟨rfl, rfl⟩)
      go_roundw
      case rel => exact ⟨k + 1, b ++ c, by omega, by go_num, rfl, by rw [ByteArray.size_append, HK.out, HC2.out], Lib.hid (fun x hx => by rw [bs_append] at hx; exact (List.mem_append.1 hx).elim (HX.out x) (HX2.out x)), HB1⟩
      case measure => simp [intOf]; omega
    · have hd : decide (k < q) = false := by simpa using hlt
      go_wp2_with (go_at_call 13; refine HM1.out.mono ?_; clear HM1; rintro e w3 ⟨rfl, rfl⟩)
      go_ret
      exact ⟨b, by have := HK.out; omega, HX.out, rfl, HB.out⟩
theorem aw_pos : natsI (posL [97, 97] [97, 97, 97, 97, 97] 0) = [0, 2] := by decide
theorem aw_bord : bordsI [97, 98, 97, 98] 4 = [0, 0, 1, 2] := by decide
theorem aw_count : (posL [98] [97, 98, 98] 0).length = 2 := by decide
theorem rd_lit (w : World) (l : List Int) (C : Array Value) (hC : C.toList = intsV l) : RdV (w.alloc (.cells C tInt)) (.slice (some ⟨w.heap.size, 0, none⟩) l.length l.length) (intsV l) := by
  have := RdV.lit w tInt (intsV l) C hC
  rw [intsV_len] at this; exact this
set_option maxRecDepth 100000 in
set_option maxHeartbeats 1000000 in
theorem awake_any (w : World) : Calls Try.prog 9 #[] w fun e w' => e = .returned (.bool true) ∧ Below w.heap.size w w' := by
  have H1 := Positions_any ⟨#[97, 97]⟩ ⟨#[97, 97, 97, 97, 97]⟩ w (by decide) (by decide)
  have H2 := fun w => Borders_rd ⟨#[97, 98, 97, 98]⟩ w (by decide)
  have H3 := fun w => Count_any ⟨#[98]⟩ ⟨#[97, 98, 98]⟩ w (by decide) (by decide)
  unfold ListPost at H1
  unfold BordRd at H2
  unfold CountPost at H3
  rw [show bs ⟨#[97, 97]⟩ = [97, 97] from rfl, show bs ⟨#[97, 97, 97, 97, 97]⟩ = [97, 97, 97, 97, 97] from rfl, aw_pos] at H1
  rw [show bs ⟨#[97, 98, 97, 98]⟩ = [97, 98, 97, 98] from rfl, show ([97, 98, 97, 98] : List UInt8).length = 4 from rfl, aw_bord] at H2
  rw [show bs ⟨#[98]⟩ = [98] from rfl, show bs ⟨#[97, 98, 98]⟩ = [97, 98, 98] from rfl, aw_count] at H3
  have HP := Lib.hid H1
  have HBo := Lib.hid H2
  have HCo := Lib.hid H3
  clear H1 H2 H3
  have HI := Lib.hid (fun a b l w hl ha hb => Ints_same a b l w hl ha hb)
  go_enter Try.func9, Try.ntmps9
  go_wp2_with fail
  refine HP.out.mono ?_
  rintro e w1 ⟨v1, rfl, ho1, hb1⟩
  have HR1 := Lib.hid (RdV.of_own ho1)
  have HB1 := Lib.hid hb1
  clear ho1 hb1
  go_wp2_with fail
  refine (HI.out _ _ [0, 2] _ (by decide) (HR1.out.below ((Below.refl _ _).alloc (Nat.le_refl _) _)) (rd_lit w1 [0, 2] _ rfl)).mono ?_
  rintro e w2 ⟨rfl, q2, hq2⟩
  have HB2 : Hid (Below w.heap.size w w2) := Lib.hid (by rw [hq2]; exact below_drewN (HB1.out.alloc HB1.out.size _) q2)
  clear hq2
  go_wp2_with fail
  refine (HBo.out _).mono ?_
  rintro e w3 ⟨v3, rfl, hr3, hb3⟩
  have HR3 := Lib.hid hr3
  have HB3 := Lib.hid (HB2.out.trans (hb3.mono HB2.out.size))
  clear hr3 hb3
  go_wp2_with fail
  refine (HI.out _ _ [0, 0, 1, 2] _ (by decide) (HR3.out.below ((Below.refl _ _).alloc (Nat.le_refl _) _)) (rd_lit w3 [0, 0, 1, 2] _ rfl)).mono ?_
  rintro e w4 ⟨rfl, q4, hq4⟩
  have HB4 : Hid (Below w.heap.size w w4) := Lib.hid (by rw [hq4]; exact below_drewN (HB3.out.alloc HB3.out.size _) q4)
  clear hq4
  go_wp2_with fail
  refine (HCo.out _).mono ?_
  rintro e w5 ⟨rfl, hb5⟩
  have HB5 := Lib.hid (HB4.out.trans (hb5.mono HB4.out.size))
  clear hb5
  go_wp2_with fail
  go_ret
  exact ⟨rfl, HB5.out⟩
end Oc
end Go.Proofs.Ythpolbiekdijjaa

/-
  Walk of layer 6's verifier: word, a text of at most 8 bytes of raw numbers. Condition: a slice that reads as a list of ints.
-/
import Derived.Test.YtgadomcbaenodaaAutoAt
import Derived.Test.YtgadomcbaenodaaTextPick
namespace Go.Proofs.Ytgadomcbaenodaa
open Go.RowKit
namespace Se
open Cm
/-- Some string of at most 8 bytes. -/
def WordPost (w : World) (e : Ending) (w' : World) : Prop := ∃ b : ByteArray, b.size ≤ 8 ∧ e = .returned (.string b) ∧ Below w.heap.size w w'
theorem word_lit (w : World) (k : Nat) (hk : k < 3) : ∃ c : ByteArray, (w.alloc (.cells #[.string ⟨#[97]⟩, .string ⟨#[98]⟩, .string ⟨#[120]⟩] 9)).cell? ⟨w.heap.size, k, none⟩ = some (.string c) ∧ c.size = 1 := by
  rw [World.cell?_alloc_mark]
  match k, hk with
  | 0, _ => exact ⟨⟨#[97]⟩, rfl, rfl⟩
  | 1, _ => exact ⟨⟨#[98]⟩, rfl, rfl⟩
  | 2, _ => exact ⟨⟨#[120]⟩, rfl, rfl⟩
set_option maxRecDepth 100000 in
set_option maxHeartbeats 2000000 in
theorem word_any (v : Value) (us : List Int) (from_ : Nat) (w : World) (hv : RdV w v (intsV us)) (hN : us.length ≤ maxLen) (hf : from_ ≤ 1000) :
    Calls Try.prog 8 #[v, .int .i64 from_] w (WordPost w) := by
  have HAt := Lib.hid (fun (W : World) (k : Int) (hb : Below w.heap.size w W) (h0 : 0 ≤ k) (h1 : k ≤ 1000000) => Au.At_fn v us k W (hv.below hb) hN h0 h1)
  clear hv hN
  go_enter Try.func8, Try.ntmps8
  go_wp2_with fail
  go_loopw [5, 6] (fun u i wr => ∃ (k : Nat) (b : ByteArray), k ≤ 8 ∧ i = .int .i64 (k : Int) ∧ u = .string b ∧ b.size = k ∧ Hid (Below w.heap.size w wr)) (fun _ i _ => 8 - (intOf i).toNat)
  case atStart => exact ⟨0, ⟨#[]⟩, Nat.zero_le _, by go_num, rfl, rfl, Lib.hid (Below.refl _ _)⟩
  case round =>
    obtain ⟨k, b, hk, rfl, rfl, hbk, HB⟩ := hrel
    have HK := Lib.hid hbk
    clear hbk
    have HA1 := Lib.hid (HAt.out wr (from_ : Int) HB.out (by omega) (by omega))
    have hz1 := Au.atF_lo us (from_ : Int)
    have hz2 := Au.atF_hi us (from_ : Int)
    generalize Au.atF us (from_ : Int) = z at hz1 hz2 HA1
    have q1 := Tx.modF_lo z 9 (by omega)
    have q2 := Tx.modF_hi z 9 (by omega)
    have HM1 := Lib.hid (Tx.Mod_any z 9 wr (by omega) (by omega) hz1 hz2)
    generalize Tx.modF z 9 = q at q1 q2 HM1
    obtain ⟨q, rfl⟩ := Int.eq_ofNat_of_zero_le q1
    clear hz1 hz2 q1
    by_cases hlt : k < q
    · have hd : decide (k < q) = true := by simpa using hlt
      have HB1 := Lib.hid (HB.out.alloc HB.out.size (.cells #[.string ⟨#[97]⟩, .string ⟨#[98]⟩, .string ⟨#[120]⟩] 9))
      have HA2 := Lib.hid (HAt.out _ ((from_ : Int) + 1 + (k : Int)) HB1.out (by omega) (by omega))
      have hy1 := Au.atF_lo us ((from_ : Int) + 1 + (k : Int))
      have hy2 := Au.atF_hi us ((from_ : Int) + 1 + (k : Int))
      generalize Au.atF us ((from_ : Int) + 1 + (k : Int)) = y at hy1 hy2 HA2
      have hbs : b.size ≤ 1000 := by have := HK.out; omega
      go_wp2_with (first | (go_at_call 15; refine HA1.out.mono ?_; clear HA1; rintro e w2 ⟨rfl, rfl⟩) | (go_at_call 9; refine HM1.out.mono ?_; clear HM1; rintro e w3 ⟨rfl, rfl⟩))
      refine HA2.out.mono ?_
      clear HA2
      rintro e w2 ⟨rfl, rfl⟩
      have d1 := Tx.modF_lo y 3 (by omega)
      have d2 := Tx.modF_hi y 3 (by omega)
      have HM2 := Lib.hid (fun w => Tx.Mod_any y 3 w (by omega) (by omega) hy1 hy2)
      generalize Tx.modF y 3 = d at d1 d2 HM2
      obtain ⟨d, rfl⟩ := Int.eq_ofNat_of_zero_le d1
      clear hy1 hy2
      obtain ⟨c, hc1, hc2⟩ := word_lit wr d (by omega)
      have HC2 := Lib.hid hc2
      have hsum : ¬ (9223372036854775807 < b.size + c.size) := by omega
      clear hc2
      go_wp2_with (go_at_call 9; refine (HM2.out _).mono ?_; clear HM2; rintro e w3 ⟨rfl, rfl⟩)
      go_roundw
      case rel => exact ⟨k + 1, b ++ c, by omega, by go_num, rfl, by rw [ByteArray.size_append, HK.out, HC2.out], HB1⟩
      case measure => simp [intOf]; omega
    · have hd : decide (k < q) = false := by simpa using hlt
      go_wp2_with (first | (go_at_call 15; refine HA1.out.mono ?_; clear HA1; rintro e w2 ⟨rfl, rfl⟩) | (go_at_call 9; refine HM1.out.mono ?_; clear HM1; rintro e w3 ⟨rfl, rfl⟩))
      go_ret
      exact ⟨b, by have := HK.out; omega, rfl, HB.out⟩
end Se
end Go.Proofs.Ytgadomcbaenodaa

/-
  Walk of layer 1, the reference's Unquote. Condition: the text has at most 2^20 bytes.
-/
import Derived.Test.YtgfinppppgpleaaDoorScanUnqC
import Derived.Test.YtgfinppppgpleaaDoorScanQuoteR
import Derived.Test.YtgfinppppgpleaaDoorScanOctR
namespace Go.Proofs.YtgfinppppgpleaaDoor
open Go.RowKit
namespace Sc
theorem n92 (b : UInt8) (h : b ≠ 92) : ((b.toNat : Int) != 92) = true := by
  have h2 : ((b.toNat : Int) == 92) = false := bne_of _ 92 h
  rw [bne, h2]; rfl
theorem b92 (b : UInt8) (h : b = 92) : ((b.toNat : Int) != 92) = false := by rw [h]; rfl
set_option maxRecDepth 100000 in
set_option maxHeartbeats 1000000 in
/-- The plain arm. -/
theorem UnquoteR_plain (s : ByteArray) (k : Nat) (w : World) (hs : s.size ≤ 1048576) (hk : k < s.size) (hq : s[k] ≠ 34) :
    Calls Tryd.prog 21 #[.string s, .int .i64 k] w fun e w' => e = .returned (unqV (unqF (bs s) k)) ∧ Below w.heap.size w w' := by
  have HV := Lib.hid (unqF_in (bs s) k hk)
  have d0 : decide ((k : Int) < 0) = false := by simp only [decide_eq_false_iff_not]; omega
  have d1 : decide (s.size ≤ k) = false := by simp only [decide_eq_false_iff_not]; omega
  have e1 := n34 _ hq
  have hq2 : ¬ (bs s)[k]? = some 34 := by rw [bs_get? s k hk]; intro h; exact hq (Option.some.inj h)
  have HY := Lib.hid (unqAt_yes (bs s) k hq2)
  have HN := Lib.hid (unqAt_no (bs s) k hq2)
  have HP := Lib.hid (fun b w => PlainR_any b w)
  clear hq hq2
  go_enter Tryd.func21, Tryd.ntmps21
  go_wp2_with fail
  go_loop [7] (fun i => ∃ j : Nat, k ≤ j ∧ j ≤ s.size ∧ i = .int .i64 j ∧ Hid (endOf isPlain (bs s) j = endOf isPlain (bs s) k)) (fun i => s.size - (intOf i).toNat)
  case atStart => exact ⟨k, Nat.le_refl _, by omega, rfl, Lib.hid rfl⟩
  case round =>
    obtain ⟨j, hj0, hj, rfl, H⟩ := hrel
    by_cases hgo : ∃ h : j < s.size, isPlain s[j] = true
    · obtain ⟨hlt, hp⟩ := hgo
      have HS := Lib.hid (endOf_step isPlain (bs s) j hlt hp)
      have HPP : Hid (∀ w, Calls Tryd.prog 32 #[.int .u8 s[j].toNat] w fun e w' => e = .returned (.bool true) ∧ w = w') := Lib.hid (by rw [← hp]; exact fun w => HP.out _ w)
      clear hp
      go_wp2_with (go_at_call 32; refine (HPP.out _).mono ?_; rintro e w' ⟨rfl, rfl⟩)
      go_round
      case rel => exact ⟨j + 1, by omega, by omega, by go_num, Lib.hid (HS.out.symm.trans H.out)⟩
      case measure => simp [intOf]; omega
    · have HE : Hid (endOf isPlain (bs s) k = j) := Lib.hid (by
        rw [← H.out]
        by_cases hlt : j < s.size
        · refine endOf_no isPlain (bs s) j hlt ?_
          cases h : isPlain s[j] with
          | false => exact h
          | true => exact absurd ⟨hlt, h⟩ hgo
        · exact endOf_end isPlain (bs s) j (by rw [bs_len]; omega))
      by_cases hjk : j = k
      · have HX : Hid (unqF (bs s) k = none) := Lib.hid (by rw [HV.out, HN.out (by rw [HE.out, hjk])])
        subst hjk
        have e2 : ((j : Int) == (j : Int)) = true := by simp
        have hpf : isPlain s[j] = false := by
          cases h : isPlain s[j] with
          | false => rfl
          | true => exact absurd ⟨hk, h⟩ hgo
        have HPP : Hid (∀ w, Calls Tryd.prog 32 #[.int .u8 s[j].toNat] w fun e w' => e = .returned (.bool false) ∧ w = w') := Lib.hid (by rw [← hpf]; exact fun w => HP.out _ w)
        clear hpf hgo
        go_wp2_with (go_at_call 32; refine (HPP.out _).mono ?_; rintro e w' ⟨rfl, rfl⟩)
        go_ret3
        exact ⟨by rw [HX.out]; rfl, Below.refl _ _⟩
      · have HX : Hid (unqF (bs s) k = some (bs (s.extract k j), j)) := Lib.hid (by rw [HV.out, HY.out (by rw [HE.out]; exact hjk), HE.out, bs_extract])
        have e2 : ((j : Int) == (k : Int)) = false := by simp only [beq_eq_false_iff_ne, ne_eq]; omega
        by_cases hlt : j < s.size
        · have hpf : isPlain s[j] = false := by
            cases h : isPlain s[j] with
            | false => rfl
            | true => exact absurd ⟨hlt, h⟩ hgo
          have HPP : Hid (∀ w, Calls Tryd.prog 32 #[.int .u8 s[j].toNat] w fun e w' => e = .returned (.bool false) ∧ w = w') := Lib.hid (by rw [← hpf]; exact fun w => HP.out _ w)
          clear hpf hgo hjk
          go_wp2_with (go_at_call 32; refine (HPP.out _).mono ?_; rintro e w' ⟨rfl, rfl⟩)
          go_ret3
          exact ⟨by rw [HX.out]; rfl, Below.refl _ _⟩
        · have hd : decide ((j : Int) < (s.size : Int)) = false := by simp only [decide_eq_false_iff_not]; omega
          clear hgo hjk
          go_wp2_with fail
          go_ret3
          exact ⟨by rw [HX.out]; rfl, Below.refl _ _⟩
end Sc
end Go.Proofs.YtgfinppppgpleaaDoor

/-
  Walks of layer 1, the reference's Number: it computes Sc.numF. Condition: the text has at most 2^62 bytes.
-/
import Derived.Test.YtebljjdhgepfkaaScanNum
namespace Go.Proofs.Ytebljjdhgepfkaa
open Go.RowKit
namespace Sc
theorem scanV_end (s : ByteArray) (j m : Nat) (h : s.size ≤ j) : scanV ((bs s).drop j) m j = some (m, j) := by
  rw [List.drop_eq_nil_of_le (by rw [bs_len]; exact h), scanV]
theorem scanV_stop (s : ByteArray) (j m : Nat) (h : j < s.size) (hd : isDig s[j] = false) : scanV ((bs s).drop j) m j = some (m, j) := by
  rw [bs_drop s j h, scanV, if_neg (by rw [hd]; decide)]
theorem scanV_no (s : ByteArray) (j m : Nat) (h : j < s.size) (hd : isDig s[j] = true) (h1 : 2147483647 < 10 * (m : Int) + ((s[j].toNat : Int) - 48) % 256) : scanV ((bs s).drop j) m j = none := by
  have := dig_val s[j]
  rw [bs_drop s j h, scanV, if_pos hd, if_pos (by unfold maxNum; omega)]
theorem scanV_yes (s : ByteArray) (j m : Nat) (h : j < s.size) (hd : isDig s[j] = true) (h1 : ¬ 2147483647 < 10 * (m : Int) + ((s[j].toNat : Int) - 48) % 256) : scanV ((bs s).drop j) m j = scanV ((bs s).drop (j + 1)) (10 * m + dig s[j]) (j + 1) := by
  have := dig_val s[j]
  rw [bs_drop s j h, scanV, if_pos hd, if_neg (by unfold maxNum; omega)]
theorem numAt_none (l : List UInt8) (k : Nat) (h : scanV (l.drop k) 0 k = none) : numAt l k = none := by
  unfold numAt; split
  · rfl
  · split
    · rfl
    · exact h
theorem numAt_some (l : List UInt8) (k j m : Nat) (h : scanV (l.drop k) 0 k = some (m, j)) (h1 : endOf isDig l k = j) (h2 : j ≠ k) (h3 : ¬ (l[k]? = some 48 ∧ k + 1 < j)) : numAt l k = some (m, j) := by
  unfold numAt; rw [h1, if_neg h2, if_neg h3, h]
theorem endOf_lt2 (s : ByteArray) (j : Nat) (h : j < s.size) (hd : isDig s[j] = true) : j < endOf isDig (bs s) j := by
  rw [endOf_step isDig (bs s) j h hd]; exact endOf_ge isDig (bs s) (j + 1)
theorem eq48 (b : UInt8) (h : b = 48) : ((b.toNat : Int) == 48) = true := by rw [h]; rfl
theorem ne48 (b : UInt8) (h : ¬ b = 48) : ((b.toNat : Int) == 48) = false := by
  simp only [beq_eq_false_iff_ne, ne_eq]
  intro e
  apply h
  apply UInt8.toNat_inj.1
  show b.toNat = 48
  omega
theorem num_step2 (b : UInt8) (m : Nat) (h : (48 : Int) ≤ (b.toNat : Int)) : Value.int .i64 (10 * (m : Int) + ((b.toNat : Int) - 48)) = .int .i64 ((10 * m + dig b : Nat) : Int) := by
  congr 1; have := dig_val b; have := u8_lt b; omega
set_option maxHeartbeats 1600000 in
set_option maxRecDepth 100000 in
theorem NumberR_any (s : ByteArray) (k : Int) (w : World) (hs : s.size ≤ 4611686018427387904) :
    Calls Try.prog 90 #[.string s, .int .i64 k] w fun e w' => e = .returned (numV (numF (bs s) k)) ∧ w = w' := by
  by_cases h0 : k < 0
  · have HV := Lib.hid (numF_out (bs s) k (.inl h0))
    go_enter Try.func90, Try.ntmps90
    go_wp2
    go_ret3
    exact ⟨by rw [HV.out]; rfl, rfl⟩
  by_cases h1 : (s.size : Int) < k
  · have HV := Lib.hid (numF_out (bs s) k (.inr h1))
    go_enter Try.func90, Try.ntmps90
    go_wp2
    go_ret3
    exact ⟨by rw [HV.out]; rfl, rfl⟩
  obtain ⟨k, rfl⟩ := Int.eq_ofNat_of_zero_le (Int.not_lt.1 h0)
  have hk : k ≤ s.size := by omega
  have HV := Lib.hid (numF_in (bs s) k hk)
  have d0 : decide ((k : Int) < 0) = false := by simp only [decide_eq_false_iff_not]; omega
  have d1 : decide ((s.size : Int) < (k : Int)) = false := by simp only [decide_eq_false_iff_not]; omega
  clear h0 h1
  go_enter Try.func90, Try.ntmps90
  go_wp2
  go_loop [7, 8] (fun n i => ∃ j m : Nat, k ≤ j ∧ j ≤ s.size ∧ i = .int .i64 j ∧ n = .int .i64 m ∧ m ≤ 2147483647 ∧ Hid (scanV ((bs s).drop j) m j = scanV ((bs s).drop k) 0 k) ∧ Hid (endOf isDig (bs s) j = endOf isDig (bs s) k) ∧ Hid (k + 1 < j → ¬ (bs s)[k]? = some 48)) (fun _ i => s.size - (intOf i).toNat)
  case atStart => exact ⟨k, 0, Nat.le_refl _, hk, rfl, rfl, by decide, Lib.hid rfl, Lib.hid rfl, Lib.hid (fun h => by omega)⟩
  case round =>
    obtain ⟨j, m, hkj, hj, rfl, rfl, hm, H, HE, HL⟩ := hrel
    by_cases hdg : ∃ h : j < s.size, isDig s[j] = true
    · obtain ⟨hlt, hd⟩ := hdg
      have hu := u8_lt s[j]
      have hks : k < s.size := by omega
      have g1 : (48 : Int) ≤ (s[j].toNat : Int) := by unfold isDig at hd; simp at hd; omega
      have g2 : (s[j].toNat : Int) ≤ 57 := by unfold isDig at hd; simp at hd; omega
      have HD := Lib.hid hd
      clear hd
      by_cases hlead : k < j ∧ s[k] = 48
      · obtain ⟨hl1, hl2⟩ := hlead
        have e1 := eq48 _ hl2
        have HN : Hid (numF (bs s) k = none) := Lib.hid (by
          have h2 := endOf_lt2 s j hlt HD.out
          rw [HE.out] at h2
          rw [HV.out]
          exact numAt_lead (bs s) k (by omega) ⟨by rw [bs_get? s k hks, hl2], by omega⟩)
        clear hl2
        go_wp2
        go_ret3
        exact ⟨by rw [HN.out]; rfl, rfl⟩
      · have HL2 : Hid (k + 1 < j + 1 → ¬ (bs s)[k]? = some 48) := Lib.hid (fun h => by
          rw [bs_get? s k hks]
          intro h2
          exact hlead ⟨by omega, Option.some.inj h2⟩)
        by_cases hbig : 2147483647 < 10 * (m : Int) + ((s[j].toNat : Int) - 48) % 256
        · have HN : Hid (numF (bs s) k = none) := Lib.hid (by
            rw [HV.out]
            exact numAt_none (bs s) k (by rw [← H.out]; exact scanV_no s j m hlt HD.out hbig))
          by_cases hkj2 : k < j
          · have e1 := ne48 s[k] (fun h => hlead ⟨hkj2, h⟩)
            clear hlead
            go_wp2
            go_ret3
            exact ⟨by rw [HN.out]; rfl, rfl⟩
          · have e1 : decide ((k : Int) < (j : Int)) = false := by simp only [decide_eq_false_iff_not]; omega
            clear hlead
            go_wp2
            go_ret3
            exact ⟨by rw [HN.out]; rfl, rfl⟩
        · have HY := Lib.hid (scanV_yes s j m hlt HD.out hbig)
          have HT := Lib.hid (endOf_step isDig (bs s) j hlt HD.out)
          by_cases hkj2 : k < j
          · have e1 := ne48 s[k] (fun h => hlead ⟨hkj2, h⟩)
            clear hlead
            go_wp2
            go_round
            case rel => exact ⟨j + 1, 10 * m + dig s[j], by omega, by omega, by go_num, num_step2 _ _ g1, by have := dig_val s[j]; omega, Lib.hid (HY.out.symm.trans H.out), Lib.hid (HT.out.symm.trans HE.out), HL2⟩
            case measure => simp [intOf]; omega
          · have e1 : decide ((k : Int) < (j : Int)) = false := by simp only [decide_eq_false_iff_not]; omega
            clear hlead
            go_wp2
            go_round
            case rel => exact ⟨j + 1, 10 * m + dig s[j], by omega, by omega, by go_num, num_step2 _ _ g1, by have := dig_val s[j]; omega, Lib.hid (HY.out.symm.trans H.out), Lib.hid (HT.out.symm.trans HE.out), HL2⟩
            case measure => simp [intOf]; omega
    · have HS : Hid (scanV ((bs s).drop j) m j = some (m, j) ∧ endOf isDig (bs s) j = j) := Lib.hid (by
        by_cases hlt : j < s.size
        · have hn : isDig s[j] = false := by
            cases h : isDig s[j] with
            | false => rfl
            | true => exact absurd ⟨hlt, h⟩ hdg
          exact ⟨scanV_stop s j m hlt hn, endOf_no isDig (bs s) j hlt hn⟩
        · exact ⟨scanV_end s j m (by omega), endOf_end isDig (bs s) j (by rw [bs_len]; omega)⟩)
      by_cases hjk : j = k
      · have e1 : ((j : Int) == (k : Int)) = true := by simp only [beq_iff_eq]; omega
        have HN : Hid (numF (bs s) k = none) := Lib.hid (by rw [HV.out]; exact numAt_no (bs s) k (by rw [← HE.out, HS.out.2, hjk]))
        clear hjk
        by_cases hlt : j < s.size
        · by_cases g1 : (48 : Int) ≤ (s[j].toNat : Int)
          · have g2 : ¬ (s[j].toNat : Int) ≤ 57 := fun g2 => hdg ⟨hlt, dig_yes s[j] g1 g2⟩
            clear hdg
            go_wp2
            go_ret3
            exact ⟨by rw [HN.out]; rfl, rfl⟩
          · clear hdg
            go_wp2
            go_ret3
            exact ⟨by rw [HN.out]; rfl, rfl⟩
        · clear hdg
          go_wp2
          go_ret3
          exact ⟨by rw [HN.out]; rfl, rfl⟩
      · have e1 : ((j : Int) == (k : Int)) = false := by simp only [beq_eq_false_iff_ne, ne_eq]; omega
        have HN : Hid (numF (bs s) k = some (m, j)) := Lib.hid (by
          rw [HV.out]
          exact numAt_some (bs s) k j m (by rw [← H.out, HS.out.1]) (by rw [← HE.out, HS.out.2]) hjk (fun h => HL.out h.2 h.1))
        clear hjk
        by_cases hlt : j < s.size
        · by_cases g1 : (48 : Int) ≤ (s[j].toNat : Int)
          · have g2 : ¬ (s[j].toNat : Int) ≤ 57 := fun g2 => hdg ⟨hlt, dig_yes s[j] g1 g2⟩
            clear hdg
            go_wp2
            go_ret3
            exact ⟨by rw [HN.out]; rfl, rfl⟩
          · clear hdg
            go_wp2
            go_ret3
            exact ⟨by rw [HN.out]; rfl, rfl⟩
        · clear hdg
          go_wp2
          go_ret3
          exact ⟨by rw [HN.out]; rfl, rfl⟩
end Sc
end Go.Proofs.Ytebljjdhgepfkaa

/-
  Small facts that the walks of layer 1 share: strings as lists of bytes, digits and plain bytes in the walk's own spelling. No conditions. Walks of layer 1, numbers: digitsEnd, value, Number (the program's and the reference's) compute Sc.endOf, Sc.valOf, Sc.numF. Condition: the text has at most 2^62 bytes. Walks of layer 1, the reference's Number: it computes Sc.numF. Condition: the text has at most 2^62 bytes. Walk of the verifier's Mod: the remainder of the number taken as an unsigned one. Condition: the divisor is from 1 to 2^40.
-/
import Derived.Test.YtlnghfmedkfkmaaGreatDoorChecked
import Derived.Test.YtlnghfmedkfkmaaGreatDoorGTextMath
import Derived.WalkKit
import Derived.WalkSpells
import Derived.WalkLawsBesides
import Derived.LoopTactic
import Derived.Lib.Hide
import Derived.Deep.QuietTactic
import Derived.BigQuiet
import Derived.IntWalk
import Derived.Deep.LoopGhost
namespace Go.Proofs.YtlnghfmedkfkmaaGreatDoor
section
open Go.RowKit
namespace Sc
theorem ret_int {k : IntKind} {a b : Int} (h : a = b) : Ending.returned (.int k a) = .returned (.int k b) := by rw [h]
/-- The bytes of a string. -/
abbrev bs (s : ByteArray) : List UInt8 := s.data.toList
theorem bs_len (s : ByteArray) : (bs s).length = s.size := rfl
theorem bs_get? (s : ByteArray) (k : Nat) (h : k < s.size) : (bs s)[k]? = some s[k] := by rw [List.getElem?_eq_getElem (by simpa using h)]; rfl
theorem bs_drop (s : ByteArray) (k : Nat) (h : k < s.size) : (bs s).drop k = s[k] :: (bs s).drop (k + 1) := drop_eq (bs s) k h
theorem bs_extract (s : ByteArray) (a b : Nat) : bs (s.extract a b) = ((bs s).drop a).take (b - a) := by
  simp [bs, List.take_drop]
theorem dig_yes (b : UInt8) (h1 : (48 : Int) ≤ (b.toNat : Int)) (h2 : (b.toNat : Int) ≤ 57) : isDig b = true := by
  unfold isDig; simp; omega
theorem dig_lo (b : UInt8) (h1 : (b.toNat : Int) < 48) : isDig b = false := by
  unfold isDig; simp; omega
theorem dig_hi (b : UInt8) (h1 : (57 : Int) < (b.toNat : Int)) : isDig b = false := by
  unfold isDig; simp; omega
theorem u8_lt (b : UInt8) : (b.toNat : Int) < 256 := by have := b.toNat_lt; omega
end Sc
end
section
open Go.RowKit
namespace Sc
set_option maxHeartbeats 400000 in
theorem digitsEnd_any (s : ByteArray) (k : Nat) (w : World) (hs : s.size ≤ 4611686018427387904) (hk : k ≤ s.size) :
    Calls Tryz.prog 173 #[.string s, .int .i64 k] w fun e w' => e = .returned (.int .i64 (endOf isDig (bs s) k)) ∧ w = w' := by
  go_enter Tryz.func173, Tryz.ntmps173
  go_wp2
  go_loop [1] (fun i => ∃ j : Nat, k ≤ j ∧ j ≤ s.size ∧ i = .int .i64 j ∧ Hid (endOf isDig (bs s) j = endOf isDig (bs s) k)) (fun i => s.size - (intOf i).toNat)
  case atStart => exact ⟨k, Nat.le_refl _, hk, rfl, Lib.hid rfl⟩
  case round =>
    obtain ⟨j, hj0, hj, rfl, H⟩ := hrel
    by_cases hlt : j < s.size
    · by_cases h1 : (48 : Int) ≤ (s[j].toNat : Int)
      · by_cases h2 : (s[j].toNat : Int) ≤ 57
        · have hst := endOf_step isDig (bs s) j hlt (dig_yes _ h1 h2)
          have HS := Lib.hid hst
          clear hst
          go_wp2
          go_round
          case rel => exact ⟨j + 1, by omega, by omega, by go_num, Lib.hid (HS.out.symm.trans H.out)⟩
          case measure => simp [intOf]; omega
        · have hst := endOf_no isDig (bs s) j hlt (dig_hi s[j] (by omega))
          have HS := Lib.hid hst
          clear hst
          go_wp2
          go_ret
          exact ⟨ret_int (by rw [← H.out, HS.out]), rfl⟩
      · have hst := endOf_no isDig (bs s) j hlt (dig_lo s[j] (by omega))
        have HS := Lib.hid hst
        clear hst
        go_wp2
        go_ret
        exact ⟨ret_int (by rw [← H.out, HS.out]), rfl⟩
    · have hst := endOf_end isDig (bs s) j (by rw [bs_len]; omega)
      have HS := Lib.hid hst
      clear hst
      go_wp2
      go_ret
      exact ⟨ret_int (by rw [← H.out, HS.out]), rfl⟩

/-- The byte of a digit, as the walk spells it. -/
theorem dig_val (b : UInt8) : ((dig b : Nat) : Int) = ((b.toNat : Int) - 48) % 256 := by unfold dig; omega
theorem valOf_no (s : ByteArray) (j m : Nat) (h : j < s.size) (h1 : (2147483647 - ((s[j].toNat : Int) - 48) % 256) / 10 < (m : Int)) : valOf ((bs s).drop j) m = none := by
  have := dig_val s[j]
  rw [bs_drop s j h, valOf, if_pos (by unfold maxNum; omega)]
theorem valOf_yes (s : ByteArray) (j m : Nat) (h : j < s.size) (h1 : (m : Int) ≤ (2147483647 - ((s[j].toNat : Int) - 48) % 256) / 10) : valOf ((bs s).drop j) m = valOf ((bs s).drop (j + 1)) (10 * m + dig s[j]) := by
  have := dig_val s[j]
  rw [bs_drop s j h, valOf, if_neg (by unfold maxNum; omega)]
theorem valOf_end (s : ByteArray) (j m : Nat) (h : s.size ≤ j) : valOf ((bs s).drop j) m = some m := by
  rw [List.drop_eq_nil_of_le (by rw [bs_len]; exact h), valOf]
theorem num_step (b : UInt8) (m : Nat) : Value.int .i64 (10 * (m : Int) + ((b.toNat : Int) - 48) % 256) = .int .i64 ((10 * m + dig b : Nat) : Int) := by
  congr 1; have := dig_val b; omega
/-- What 'value' hands back. -/
def valV : Option Nat → Value
  | some v => .tuple #[.int .i64 v, .bool true]
  | none => .tuple #[.int .i64 0, .bool false]
set_option maxHeartbeats 400000 in
set_option maxRecDepth 100000 in
theorem value_any (s : ByteArray) (w : World) (hs : s.size ≤ 4611686018427387904) :
    Calls Tryz.prog 174 #[.string s] w fun e w' => e = .returned (valV (valOf (bs s) 0)) ∧ w = w' := by
  go_enter Tryz.func174, Tryz.ntmps174
  go_wp2
  go_loop [4, 5] (fun n i => ∃ j m : Nat, j ≤ s.size ∧ i = .int .i64 j ∧ n = .int .i64 m ∧ m ≤ 2147483647 ∧ Hid (valOf ((bs s).drop j) m = valOf (bs s) 0)) (fun _ i => s.size - (intOf i).toNat)
  case atStart => exact ⟨0, 0, Nat.zero_le _, rfl, rfl, by decide, Lib.hid rfl⟩
  case round =>
    obtain ⟨j, m, hj, rfl, rfl, hm, H⟩ := hrel
    by_cases hlt : j < s.size
    · have hu := u8_lt s[j]
      by_cases hc : (2147483647 - ((s[j].toNat : Int) - 48) % 256) / 10 < (m : Int)
      · have HE := Lib.hid (valOf_no s j m hlt hc)
        go_wp2
        go_ret2
        exact ⟨by rw [← H.out, HE.out]; rfl, rfl⟩
      · have HE := Lib.hid (valOf_yes s j m hlt (by omega))
        go_wp2
        go_round
        case rel => exact ⟨j + 1, 10 * m + dig s[j], by omega, by go_num, num_step _ _, by have := dig_val s[j]; omega, Lib.hid (HE.out.symm.trans H.out)⟩
        case measure => simp [intOf]; omega
    · have HE := Lib.hid (valOf_end s j m (by omega))
      go_wp2
      go_ret2
      exact ⟨by rw [← H.out, HE.out]; rfl, rfl⟩

/-- What 'Number' hands back. -/
def numV : Option (Nat × Nat) → Value
  | some (v, e) => .tuple #[.int .i64 v, .int .i64 e, .bool true]
  | none => .tuple #[.int .i64 0, .int .i64 0, .bool false]
theorem numF_out (l : List UInt8) (k : Int) (h : k < 0 ∨ (l.length : Int) < k) : numF l k = none := by unfold numF; rw [if_pos h]
theorem numF_in (l : List UInt8) (k : Nat) (h : k ≤ l.length) : numF l k = numAt l k := by unfold numF; rw [if_neg (by omega)]; rfl
theorem numAt_no (l : List UInt8) (k : Nat) (h : endOf isDig l k = k) : numAt l k = none := by unfold numAt; rw [if_pos h]
theorem numAt_lead (l : List UInt8) (k : Nat) (h : endOf isDig l k ≠ k) (h2 : l[k]? = some 48 ∧ k + 1 < endOf isDig l k) : numAt l k = none := by unfold numAt; rw [if_neg h, if_pos h2]
set_option maxHeartbeats 1000000 in
set_option maxRecDepth 100000 in
theorem Number_any (s : ByteArray) (k : Int) (w : World) (hs : s.size ≤ 4611686018427387904) :
    Calls Tryz.prog 155 #[.string s, .int .i64 k] w fun e w' => e = .returned (numV (numF (bs s) k)) ∧ w = w' := by
  by_cases h0 : k < 0
  · have HV := Lib.hid (numF_out (bs s) k (.inl h0))
    go_enter Tryz.func155, Tryz.ntmps155
    go_wp2
    go_ret3
    exact ⟨by rw [HV.out]; rfl, rfl⟩
  by_cases h1 : (s.size : Int) < k
  · have HV := Lib.hid (numF_out (bs s) k (.inr h1))
    go_enter Tryz.func155, Tryz.ntmps155
    go_wp2
    go_ret3
    exact ⟨by rw [HV.out]; rfl, rfl⟩
  obtain ⟨k, rfl⟩ := Int.eq_ofNat_of_zero_le (Int.not_lt.1 h0)
  have hk : k ≤ s.size := by omega
  have HV := Lib.hid (numF_in (bs s) k hk)
  clear h0 h1
  have hge := endOf_ge isDig (bs s) k
  have hle := endOf_le isDig (bs s) k hk
  rw [bs_len] at hle
  generalize hE : endOf isDig (bs s) k = E at hge hle
  have HE := Lib.hid hE
  clear hE
  by_cases e1 : E = k
  · have HN := Lib.hid (numAt_no (bs s) k (by rw [HE.out, e1]))
    have HC : Hid (Calls Tryz.prog 173 #[.string s, .int .i64 k] w fun e w' => e = .returned (.int .i64 E) ∧ w = w') := Lib.hid (HE.out ▸ digitsEnd_any s k w hs hk)
    subst e1
    go_enter Tryz.func155, Tryz.ntmps155
    go_wp2_with (first | (go_at_call 173; refine HC.out.mono ?_; rintro e w' ⟨rfl, rfl⟩))
    go_ret3
    exact ⟨by rw [HV.out, HN.out]; rfl, rfl⟩
  have hlt : k < s.size := by omega
  have hne : k < E := by omega
  have hEk : ((E : Int) == (k : Int)) = false := by simp only [beq_eq_false_iff_ne, ne_eq]; omega
  have HC : Hid (∀ w, Calls Tryz.prog 173 #[.string s, .int .i64 k] w fun e w' => e = .returned (.int .i64 E) ∧ w = w') := Lib.hid (fun w => HE.out ▸ digitsEnd_any s k w hs hk)
  by_cases e2 : s[k] = 48 ∧ k + 1 < E
  · obtain ⟨e2, e3⟩ := e2
    have HN := Lib.hid (numAt_lead (bs s) k (by rw [HE.out]; exact e1) ⟨by rw [bs_get? s k hlt, e2], by rw [HE.out]; exact e3⟩)
    have e4 : ((s[k].toNat : Int) == 48) = true := by rw [e2]; rfl
    clear e2
    go_enter Tryz.func155, Tryz.ntmps155
    go_wp2_with (first | (go_at_call 173; refine (HC.out _).mono ?_; rintro e w' ⟨rfl, rfl⟩))
    go_ret3
    exact ⟨by rw [HV.out, HN.out]; rfl, rfl⟩
  have hx : (s.extract k E).size ≤ 4611686018427387904 := by simp only [ByteArray.size_extract]; omega
  have HW : Hid (∀ w, Calls Tryz.prog 174 #[.string (s.extract k E)] w fun e w' => e = .returned (valV (valOf (bs (s.extract k E)) 0)) ∧ w = w') := Lib.hid (fun w => value_any (s.extract k E) w hx)
  have HX : Hid (numF (bs s) k = (valOf (bs (s.extract k E)) 0).map fun v => (v, E)) := Lib.hid (by
    rw [HV.out, numAt_val (bs s) k (by rw [HE.out]; exact e1) (by
      rw [HE.out]
      intro h
      refine e2 ⟨?_, h.2⟩
      have h1 := h.1
      rw [bs_get? s k hlt] at h1
      exact Option.some.inj h1), HE.out, bs_extract])
  clear hx HV
  by_cases e3 : s[k] = 48
  · have e5 : ¬ k + 1 < E := fun h => e2 ⟨e3, h⟩
    have e4 : ((s[k].toNat : Int) == 48) = true := by rw [e3]; rfl
    have e6 : decide ((k : Int) + 1 < (E : Int)) = false := by simp only [decide_eq_false_iff_not]; omega
    clear e2 e3
    cases hV : valOf (bs (s.extract k E)) 0 with
    | none =>
      rw [hV] at HX HW
      clear hV
      go_enter Tryz.func155, Tryz.ntmps155
      go_wp2_with (first | (go_at_call 173; refine (HC.out _).mono ?_; rintro e w' ⟨rfl, rfl⟩) | (go_at_call 174; refine (HW.out _).mono ?_; rintro e w' ⟨rfl, rfl⟩; unfold valV))
      go_ret3
      exact ⟨by rw [HX.out]; rfl, rfl⟩
    | some v =>
      rw [hV] at HX HW
      clear hV
      go_enter Tryz.func155, Tryz.ntmps155
      go_wp2_with (first | (go_at_call 173; refine (HC.out _).mono ?_; rintro e w' ⟨rfl, rfl⟩) | (go_at_call 174; refine (HW.out _).mono ?_; rintro e w' ⟨rfl, rfl⟩; unfold valV))
      go_ret3
      exact ⟨by rw [HX.out]; rfl, rfl⟩
  · have e4 : ((s[k].toNat : Int) == 48) = false := by
      simp only [beq_eq_false_iff_ne, ne_eq]
      intro h
      apply e3
      apply UInt8.toNat_inj.1
      show s[k].toNat = 48
      omega
    clear e2 e3
    cases hV : valOf (bs (s.extract k E)) 0 with
    | none =>
      rw [hV] at HX HW
      clear hV
      go_enter Tryz.func155, Tryz.ntmps155
      go_wp2_with (first | (go_at_call 173; refine (HC.out _).mono ?_; rintro e w' ⟨rfl, rfl⟩) | (go_at_call 174; refine (HW.out _).mono ?_; rintro e w' ⟨rfl, rfl⟩; unfold valV))
      go_ret3
      exact ⟨by rw [HX.out]; rfl, rfl⟩
    | some v =>
      rw [hV] at HX HW
      clear hV
      go_enter Tryz.func155, Tryz.ntmps155
      go_wp2_with (first | (go_at_call 173; refine (HC.out _).mono ?_; rintro e w' ⟨rfl, rfl⟩) | (go_at_call 174; refine (HW.out _).mono ?_; rintro e w' ⟨rfl, rfl⟩; unfold valV))
      go_ret3
      exact ⟨by rw [HX.out]; rfl, rfl⟩
end Sc
end
section
open Go.RowKit
namespace Sc
theorem scanV_end (s : ByteArray) (j m : Nat) (h : s.size ≤ j) : scanV ((bs s).drop j) m j = some (m, j) := by
  rw [List.drop_eq_nil_of_le (by rw [bs_len]; exact h), scanV]
theorem scanV_stop (s : ByteArray) (j m : Nat) (h : j < s.size) (hd : isDig s[j] = false) : scanV ((bs s).drop j) m j = some (m, j) := by
  rw [bs_drop s j h, scanV, if_neg (by rw [hd]; decide)]
theorem scanV_no (s : ByteArray) (j m : Nat) (h : j < s.size) (hd : isDig s[j] = true) (h1 : 2147483647 < 10 * (m : Int) + ((s[j].toNat : Int) - 48) % 256) : scanV ((bs s).drop j) m j = none := by
  have := dig_val s[j]
  rw [bs_drop s j h, scanV, if_pos hd, if_pos (by unfold maxNum; omega)]
theorem scanV_yes (s : ByteArray) (j m : Nat) (h : j < s.size) (hd : isDig s[j] = true) (h1 : ¬ 2147483647 < 10 * (m : Int) + ((s[j].toNat : Int) - 48) % 256) : scanV ((bs s).drop j) m j = scanV ((bs s).drop (j + 1)) (10 * m + dig s[j]) (j + 1) := by
  have := dig_val s[j]
  rw [bs_drop s j h, scanV, if_pos hd, if_neg (by unfold maxNum; omega)]
theorem numAt_none (l : List UInt8) (k : Nat) (h : scanV (l.drop k) 0 k = none) : numAt l k = none := by
  unfold numAt; split
  · rfl
  · split
    · rfl
    · exact h
theorem numAt_some (l : List UInt8) (k j m : Nat) (h : scanV (l.drop k) 0 k = some (m, j)) (h1 : endOf isDig l k = j) (h2 : j ≠ k) (h3 : ¬ (l[k]? = some 48 ∧ k + 1 < j)) : numAt l k = some (m, j) := by
  unfold numAt; rw [h1, if_neg h2, if_neg h3, h]
theorem endOf_lt2 (s : ByteArray) (j : Nat) (h : j < s.size) (hd : isDig s[j] = true) : j < endOf isDig (bs s) j := by
  rw [endOf_step isDig (bs s) j h hd]; exact endOf_ge isDig (bs s) (j + 1)
theorem eq48 (b : UInt8) (h : b = 48) : ((b.toNat : Int) == 48) = true := by rw [h]; rfl
theorem ne48 (b : UInt8) (h : ¬ b = 48) : ((b.toNat : Int) == 48) = false := by
  simp only [beq_eq_false_iff_ne, ne_eq]
  intro e
  apply h
  apply UInt8.toNat_inj.1
  show b.toNat = 48
  omega
theorem num_step2 (b : UInt8) (m : Nat) (h : (48 : Int) ≤ (b.toNat : Int)) : Value.int .i64 (10 * (m : Int) + ((b.toNat : Int) - 48)) = .int .i64 ((10 * m + dig b : Nat) : Int) := by
  congr 1; have := dig_val b; have := u8_lt b; omega
set_option maxHeartbeats 1600000 in
set_option maxRecDepth 100000 in
theorem NumberR_any (s : ByteArray) (k : Int) (w : World) (hs : s.size ≤ 4611686018427387904) :
    Calls Tryz.prog 158 #[.string s, .int .i64 k] w fun e w' => e = .returned (numV (numF (bs s) k)) ∧ w = w' := by
  by_cases h0 : k < 0
  · have HV := Lib.hid (numF_out (bs s) k (.inl h0))
    go_enter Tryz.func158, Tryz.ntmps158
    go_wp2
    go_ret3
    exact ⟨by rw [HV.out]; rfl, rfl⟩
  by_cases h1 : (s.size : Int) < k
  · have HV := Lib.hid (numF_out (bs s) k (.inr h1))
    go_enter Tryz.func158, Tryz.ntmps158
    go_wp2
    go_ret3
    exact ⟨by rw [HV.out]; rfl, rfl⟩
  obtain ⟨k, rfl⟩ := Int.eq_ofNat_of_zero_le (Int.not_lt.1 h0)
  have hk : k ≤ s.size := by omega
  have HV := Lib.hid (numF_in (bs s) k hk)
  have d0 : decide ((k : Int) < 0) = false := by simp only [decide_eq_false_iff_not]; omega
  have d1 : decide ((s.size : Int) < (k : Int)) = false := by simp only [decide_eq_false_iff_not]; omega
  clear h0 h1
  go_enter Tryz.func158, Tryz.ntmps158
  go_wp2
  go_loop [7, 8] (fun n i => ∃ j m : Nat, k ≤ j ∧ j ≤ s.size ∧ i = .int .i64 j ∧ n = .int .i64 m ∧ m ≤ 2147483647 ∧ Hid (scanV ((bs s).drop j) m j = scanV ((bs s).drop k) 0 k) ∧ Hid (endOf isDig (bs s) j = endOf isDig (bs s) k) ∧ Hid (k + 1 < j → ¬ (bs s)[k]? = some 48)) (fun _ i => s.size - (intOf i).toNat)
  case atStart => exact ⟨k, 0, Nat.le_refl _, hk, rfl, rfl, by decide, Lib.hid rfl, Lib.hid rfl, Lib.hid (fun h => by omega)⟩
  case round =>
    obtain ⟨j, m, hkj, hj, rfl, rfl, hm, H, HE, HL⟩ := hrel
    by_cases hdg : ∃ h : j < s.size, isDig s[j] = true
    · obtain ⟨hlt, hd⟩ := hdg
      have hu := u8_lt s[j]
      have hks : k < s.size := by omega
      have g1 : (48 : Int) ≤ (s[j].toNat : Int) := by unfold isDig at hd; simp at hd; omega
      have g2 : (s[j].toNat : Int) ≤ 57 := by unfold isDig at hd; simp at hd; omega
      have HD := Lib.hid hd
      clear hd
      by_cases hlead : k < j ∧ s[k] = 48
      · obtain ⟨hl1, hl2⟩ := hlead
        have e1 := eq48 _ hl2
        have HN : Hid (numF (bs s) k = none) := Lib.hid (by
          have h2 := endOf_lt2 s j hlt HD.out
          rw [HE.out] at h2
          rw [HV.out]
          exact numAt_lead (bs s) k (by omega) ⟨by rw [bs_get? s k hks, hl2], by omega⟩)
        clear hl2
        go_wp2
        go_ret3
        exact ⟨by rw [HN.out]; rfl, rfl⟩
      · have HL2 : Hid (k + 1 < j + 1 → ¬ (bs s)[k]? = some 48) := Lib.hid (fun h => by
          rw [bs_get? s k hks]
          intro h2
          exact hlead ⟨by omega, Option.some.inj h2⟩)
        by_cases hbig : 2147483647 < 10 * (m : Int) + ((s[j].toNat : Int) - 48) % 256
        · have HN : Hid (numF (bs s) k = none) := Lib.hid (by
            rw [HV.out]
            exact numAt_none (bs s) k (by rw [← H.out]; exact scanV_no s j m hlt HD.out hbig))
          by_cases hkj2 : k < j
          · have e1 := ne48 s[k] (fun h => hlead ⟨hkj2, h⟩)
            clear hlead
            go_wp2
            go_ret3
            exact ⟨by rw [HN.out]; rfl, rfl⟩
          · have e1 : decide ((k : Int) < (j : Int)) = false := by simp only [decide_eq_false_iff_not]; omega
            clear hlead
            go_wp2
            go_ret3
            exact ⟨by rw [HN.out]; rfl, rfl⟩
        · have HY := Lib.hid (scanV_yes s j m hlt HD.out hbig)
          have HT := Lib.hid (endOf_step isDig (bs s) j hlt HD.out)
          by_cases hkj2 : k < j
          · have e1 := ne48 s[k] (fun h => hlead ⟨hkj2, h⟩)
            clear hlead
            go_wp2
            go_round
            case rel => exact ⟨j + 1, 10 * m + dig s[j], by omega, by omega, by go_num, num_step2 _ _ g1, by have := dig_val s[j]; omega, Lib.hid (HY.out.symm.trans H.out), Lib.hid (HT.out.symm.trans HE.out), HL2⟩
            case measure => simp [intOf]; omega
          · have e1 : decide ((k : Int) < (j : Int)) = false := by simp only [decide_eq_false_iff_not]; omega
            clear hlead
            go_wp2
            go_round
            case rel => exact ⟨j + 1, 10 * m + dig s[j], by omega, by omega, by go_num, num_step2 _ _ g1, by have := dig_val s[j]; omega, Lib.hid (HY.out.symm.trans H.out), Lib.hid (HT.out.symm.trans HE.out), HL2⟩
            case measure => simp [intOf]; omega
    · have HS : Hid (scanV ((bs s).drop j) m j = some (m, j) ∧ endOf isDig (bs s) j = j) := Lib.hid (by
        by_cases hlt : j < s.size
        · have hn : isDig s[j] = false := by
            cases h : isDig s[j] with
            | false => rfl
            | true => exact absurd ⟨hlt, h⟩ hdg
          exact ⟨scanV_stop s j m hlt hn, endOf_no isDig (bs s) j hlt hn⟩
        · exact ⟨scanV_end s j m (by omega), endOf_end isDig (bs s) j (by rw [bs_len]; omega)⟩)
      by_cases hjk : j = k
      · have e1 : ((j : Int) == (k : Int)) = true := by simp only [beq_iff_eq]; omega
        have HN : Hid (numF (bs s) k = none) := Lib.hid (by rw [HV.out]; exact numAt_no (bs s) k (by rw [← HE.out, HS.out.2, hjk]))
        clear hjk
        by_cases hlt : j < s.size
        · by_cases g1 : (48 : Int) ≤ (s[j].toNat : Int)
          · have g2 : ¬ (s[j].toNat : Int) ≤ 57 := fun g2 => hdg ⟨hlt, dig_yes s[j] g1 g2⟩
            clear hdg
            go_wp2
            go_ret3
            exact ⟨by rw [HN.out]; rfl, rfl⟩
          · clear hdg
            go_wp2
            go_ret3
            exact ⟨by rw [HN.out]; rfl, rfl⟩
        · clear hdg
          go_wp2
          go_ret3
          exact ⟨by rw [HN.out]; rfl, rfl⟩
      · have e1 : ((j : Int) == (k : Int)) = false := by simp only [beq_eq_false_iff_ne, ne_eq]; omega
        have HN : Hid (numF (bs s) k = some (m, j)) := Lib.hid (by
          rw [HV.out]
          exact numAt_some (bs s) k j m (by rw [← H.out, HS.out.1]) (by rw [← HE.out, HS.out.2]) hjk (fun h => HL.out h.2 h.1))
        clear hjk
        by_cases hlt : j < s.size
        · by_cases g1 : (48 : Int) ≤ (s[j].toNat : Int)
          · have g2 : ¬ (s[j].toNat : Int) ≤ 57 := fun g2 => hdg ⟨hlt, dig_yes s[j] g1 g2⟩
            clear hdg
            go_wp2
            go_ret3
            exact ⟨by rw [HN.out]; rfl, rfl⟩
          · clear hdg
            go_wp2
            go_ret3
            exact ⟨by rw [HN.out]; rfl, rfl⟩
        · clear hdg
          go_wp2
          go_ret3
          exact ⟨by rw [HN.out]; rfl, rfl⟩
end Sc
end
section
open Go.RowKit
namespace Sc
def modF (a n : Int) : Int := (a % 18446744073709551616) % n
theorem modF_lo (a n : Int) (h : 0 < n) : 0 ≤ modF a n := Int.emod_nonneg _ (by omega)
theorem modF_hi (a n : Int) (h : 0 < n) : modF a n < n := Int.emod_lt_of_pos _ h
theorem modF_walk (a n : Int) (h1 : 0 < n) (h2 : n ≤ 1099511627776) : wrap64 ((IntKind.u64.wrap a).tmod n) = modF a n := by
  have h3 := modF_lo a n h1
  have h4 := modF_hi a n h1
  have h5 : (IntKind.u64.wrap a).tmod n = modF a n := by
    rw [IntKind.wrap_u64, Int.tmod_eq_emod_of_nonneg (Int.emod_nonneg _ (by decide))]
    rfl
  rw [h5]
  exact IntWalk.wrap64_in _ ⟨by omega, by omega⟩
theorem Mod_any (a n : Int) (w : World) (h1 : 0 < n) (h2 : n ≤ 1099511627776) (_h0 : -9223372036854775808 ≤ a) (_h3 : a ≤ 9223372036854775807) :
    Calls Tryz.prog 14 #[.int .i64 a, .int .i64 n] w fun e w' => e = .returned (.int .i64 (modF a n)) ∧ w = w' := by
  go_enter Tryz.func14, Tryz.ntmps14
  go_wp2_with fail
  go_ret
  exact ⟨ret_int (modF_walk a n h1 h2), rfl⟩
end Sc
end
end Go.Proofs.YtlnghfmedkfkmaaGreatDoor

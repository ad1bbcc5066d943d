/- Facts; each states its conditions. -/
import Derived.Test.YtjecfmbecgpbmaaGreatDoorChecked
import Derived.Test.YtjecfmbecgpbmaaGreatDoorScanMathB
import Derived.WalkKit
import Derived.WalkSpells
import Derived.WalkLawsBesides
import Derived.LoopTactic
import Derived.Lib.Hide
import Derived.Deep.QuietTactic
import Derived.BigQuiet
import Derived.IntWalk
import Derived.Deep.LoopGhost
namespace Go.Proofs.YtjecfmbecgpbmaaGreatDoor
section
open Go.RowKit
namespace Sc
theorem ret_int {k : IntKind} {a b : Int} (h : a = b) : Ending.returned (.int k a) = .returned (.int k b) := by rw [h]
abbrev bs (s : ByteArray) : List UInt8 := s.data.toList
theorem bs_len (s : ByteArray) : (bs s).length = s.size := rfl
theorem bs_get? (s : ByteArray) (k : Nat) (h : k < s.size) : (bs s)[k]? = some s[k] := by rw [List.getElem?_eq_getElem (by simpa using h)]; rfl
theorem bs_drop (s : ByteArray) (k : Nat) (h : k < s.size) : (bs s).drop k = s[k] :: (bs s).drop (k + 1) := drop_eq (bs s) k h
theorem bs_extract (s : ByteArray) (a b : Nat) : bs (s.extract a b) = ((bs s).drop a).take (b - a) := by
 simp [bs, List.take_drop]
theorem dig_yes (b : UInt8) (h1 : (48 : Int) ≤ (b.toNat : Int)) (h2 : (b.toNat : Int) ≤ 57) : isDig b = true := by
 unfold isDig; simp; omega
theorem dig_lo (b : UInt8) (h1 : (b.toNat : Int) < 48) : isDig b = false := by
 unfold isDig; simp; omega
theorem dig_hi (b : UInt8) (h1 : (57 : Int) < (b.toNat : Int)) : isDig b = false := by
 unfold isDig; simp; omega
theorem u8_lt (b : UInt8) : (b.toNat : Int) < 256 := by have := b.toNat_lt; omega
end Sc
end
section
open Go.RowKit
namespace Sc
set_option maxHeartbeats 400000 in
theorem digitsEnd_any (s : ByteArray) (k : Nat) (w : World) (hs : s.size ≤ 4611686018427387904) (hk : k ≤ s.size) :
 Calls Tryz.prog 178 #[.string s, .int .i64 k] w fun e w' => e = .returned (.int .i64 (endOf isDig (bs s) k)) ∧ w = w' := by
 go_enter Tryz.func178, Tryz.ntmps178
 go_wp2
 go_loop [1] (fun i => ∃ j : Nat, k ≤ j ∧ j ≤ s.size ∧ i = .int .i64 j ∧ Hid (endOf isDig (bs s) j = endOf isDig (bs s) k)) (fun i => s.size - (intOf i).toNat)
 case atStart => exact ⟨k, Nat.le_refl _, hk, rfl, Lib.hid rfl⟩
 case round =>
  obtain ⟨j, hj0, hj, rfl, H⟩ := hrel
  by_cases hlt : j < s.size
  · by_cases h1 : (48 : Int) ≤ (s[j].toNat : Int)
    · by_cases h2 : (s[j].toNat : Int) ≤ 57
      · have hst := endOf_step isDig (bs s) j hlt (dig_yes _ h1 h2)
        have HS := Lib.hid hst
        clear hst
        go_wp2
        go_round
        case rel => exact ⟨j + 1, by omega, by omega, by go_num, Lib.hid (HS.out.symm.trans H.out)⟩
        case measure => simp [intOf]; omega
      · have hst := endOf_no isDig (bs s) j hlt (dig_hi s[j] (by omega))
        have HS := Lib.hid hst
        clear hst
        go_wp2
        go_ret
        exact ⟨ret_int (by rw [← H.out, HS.out]), rfl⟩
    · have hst := endOf_no isDig (bs s) j hlt (dig_lo s[j] (by omega))
      have HS := Lib.hid hst
      clear hst
      go_wp2
      go_ret
      exact ⟨ret_int (by rw [← H.out, HS.out]), rfl⟩
  · have hst := endOf_end isDig (bs s) j (by rw [bs_len]; omega)
    have HS := Lib.hid hst
    clear hst
    go_wp2
    go_ret
    exact ⟨ret_int (by rw [← H.out, HS.out]), rfl⟩
theorem dig_val (b : UInt8) : ((dig b : Nat) : Int) = ((b.toNat : Int) - 48) % 256 := by unfold dig; omega
theorem valOf_no (s : ByteArray) (j m : Nat) (h : j < s.size) (h1 : (2147483647 - ((s[j].toNat : Int) - 48) % 256) / 10 < (m : Int)) : valOf ((bs s).drop j) m = none := by
 have := dig_val s[j]
 rw [bs_drop s j h, valOf, if_pos (by unfold maxNum; omega)]
theorem valOf_yes (s : ByteArray) (j m : Nat) (h : j < s.size) (h1 : (m : Int) ≤ (2147483647 - ((s[j].toNat : Int) - 48) % 256) / 10) : valOf ((bs s).drop j) m = valOf ((bs s).drop (j + 1)) (10 * m + dig s[j]) := by
 have := dig_val s[j]
 rw [bs_drop s j h, valOf, if_neg (by unfold maxNum; omega)]
theorem valOf_end (s : ByteArray) (j m : Nat) (h : s.size ≤ j) : valOf ((bs s).drop j) m = some m := by
 rw [List.drop_eq_nil_of_le (by rw [bs_len]; exact h), valOf]
theorem num_step (b : UInt8) (m : Nat) : Value.int .i64 (10 * (m : Int) + ((b.toNat : Int) - 48) % 256) = .int .i64 ((10 * m + dig b : Nat) : Int) := by
 congr 1; have := dig_val b; omega
def valV : Option Nat → Value
 | some v => .tuple #[.int .i64 v, .bool true]
 | none => .tuple #[.int .i64 0, .bool false]
set_option maxHeartbeats 400000 in
set_option maxRecDepth 100000 in
theorem value_any (s : ByteArray) (w : World) (hs : s.size ≤ 4611686018427387904) :
 Calls Tryz.prog 179 #[.string s] w fun e w' => e = .returned (valV (valOf (bs s) 0)) ∧ w = w' := by
 go_enter Tryz.func179, Tryz.ntmps179
 go_wp2
 go_loop [4, 5] (fun n i => ∃ j m : Nat, j ≤ s.size ∧ i = .int .i64 j ∧ n = .int .i64 m ∧ m ≤ 2147483647 ∧ Hid (valOf ((bs s).drop j) m = valOf (bs s) 0)) (fun _ i => s.size - (intOf i).toNat)
 case atStart => exact ⟨0, 0, Nat.zero_le _, rfl, rfl, by decide, Lib.hid rfl⟩
 case round =>
  obtain ⟨j, m, hj, rfl, rfl, hm, H⟩ := hrel
  by_cases hlt : j < s.size
  · have hu := u8_lt s[j]
    by_cases hc : (2147483647 - ((s[j].toNat : Int) - 48) % 256) / 10 < (m : Int)
    · have HE := Lib.hid (valOf_no s j m hlt hc)
      go_wp2
      go_ret2
      exact ⟨by rw [← H.out, HE.out]; rfl, rfl⟩
    · have HE := Lib.hid (valOf_yes s j m hlt (by omega))
      go_wp2
      go_round
      case rel => exact ⟨j + 1, 10 * m + dig s[j], by omega, by go_num, num_step _ _, by have := dig_val s[j]; omega, Lib.hid (HE.out.symm.trans H.out)⟩
      case measure => simp [intOf]; omega
  · have HE := Lib.hid (valOf_end s j m (by omega))
    go_wp2
    go_ret2
    exact ⟨by rw [← H.out, HE.out]; rfl, rfl⟩
def numV : Option (Nat × Nat) → Value
 | some (v, e) => .tuple #[.int .i64 v, .int .i64 e, .bool true]
 | none => .tuple #[.int .i64 0, .int .i64 0, .bool false]
theorem numF_out (l : List UInt8) (k : Int) (h : k < 0 ∨ (l.length : Int) < k) : numF l k = none := by unfold numF; rw [if_pos h]
theorem numF_in (l : List UInt8) (k : Nat) (h : k ≤ l.length) : numF l k = numAt l k := by unfold numF; rw [if_neg (by omega)]; rfl
theorem numAt_no (l : List UInt8) (k : Nat) (h : endOf isDig l k = k) : numAt l k = none := by unfold numAt; rw [if_pos h]
theorem numAt_lead (l : List UInt8) (k : Nat) (h : endOf isDig l k ≠ k) (h2 : l[k]? = some 48 ∧ k + 1 < endOf isDig l k) : numAt l k = none := by unfold numAt; rw [if_neg h, if_pos h2]
set_option maxHeartbeats 1000000 in
set_option maxRecDepth 100000 in
theorem Number_any (s : ByteArray) (k : Int) (w : World) (hs : s.size ≤ 4611686018427387904) :
 Calls Tryz.prog 160 #[.string s, .int .i64 k] w fun e w' => e = .returned (numV (numF (bs s) k)) ∧ w = w' := by
 by_cases h0 : k < 0
 · have HV := Lib.hid (numF_out (bs s) k (.inl h0))
   go_enter Tryz.func160, Tryz.ntmps160
   go_wp2
   go_ret3
   exact ⟨by rw [HV.out]; rfl, rfl⟩
 by_cases h1 : (s.size : Int) < k
 · have HV := Lib.hid (numF_out (bs s) k (.inr h1))
   go_enter Tryz.func160, Tryz.ntmps160
   go_wp2
   go_ret3
   exact ⟨by rw [HV.out]; rfl, rfl⟩
 obtain ⟨k, rfl⟩ := Int.eq_ofNat_of_zero_le (Int.not_lt.1 h0)
 have hk : k ≤ s.size := by omega
 have HV := Lib.hid (numF_in (bs s) k hk)
 clear h0 h1
 have hge := endOf_ge isDig (bs s) k
 have hle := endOf_le isDig (bs s) k hk
 rw [bs_len] at hle
 generalize hE : endOf isDig (bs s) k = E at hge hle
 have HE := Lib.hid hE
 clear hE
 by_cases e1 : E = k
 · have HN := Lib.hid (numAt_no (bs s) k (by rw [HE.out, e1]))
   have HC : Hid (Calls Tryz.prog 178 #[.string s, .int .i64 k] w fun e w' => e = .returned (.int .i64 E) ∧ w = w') := Lib.hid (HE.out ▸ digitsEnd_any s k w hs hk)
   subst e1
   go_enter Tryz.func160, Tryz.ntmps160
   go_wp2_with (first | (go_at_call 178; refine HC.out.mono ?_; rintro e w' ⟨rfl, rfl⟩))
   go_ret3
   exact ⟨by rw [HV.out, HN.out]; rfl, rfl⟩
 have hlt : k < s.size := by omega
 have hne : k < E := by omega
 have hEk : ((E : Int) == (k : Int)) = false := by simp only [beq_eq_false_iff_ne, ne_eq]; omega
 have HC : Hid (∀ w, Calls Tryz.prog 178 #[.string s, .int .i64 k] w fun e w' => e = .returned (.int .i64 E) ∧ w = w') := Lib.hid (fun w => HE.out ▸ digitsEnd_any s k w hs hk)
 by_cases e2 : s[k] = 48 ∧ k + 1 < E
 · obtain ⟨e2, e3⟩ := e2
   have HN := Lib.hid (numAt_lead (bs s) k (by rw [HE.out]; exact e1) ⟨by rw [bs_get? s k hlt, e2], by rw [HE.out]; exact e3⟩)
   have e4 : ((s[k].toNat : Int) == 48) = true := by rw [e2]; rfl
   clear e2
   go_enter Tryz.func160, Tryz.ntmps160
   go_wp2_with (first | (go_at_call 178; refine (HC.out _).mono ?_; rintro e w' ⟨rfl, rfl⟩))
   go_ret3
   exact ⟨by rw [HV.out, HN.out]; rfl, rfl⟩
 have hx : (s.extract k E).size ≤ 4611686018427387904 := by simp only [ByteArray.size_extract]; omega
 have HW : Hid (∀ w, Calls Tryz.prog 179 #[.string (s.extract k E)] w fun e w' => e = .returned (valV (valOf (bs (s.extract k E)) 0)) ∧ w = w') := Lib.hid (fun w => value_any (s.extract k E) w hx)
 have HX : Hid (numF (bs s) k = (valOf (bs (s.extract k E)) 0).map fun v => (v, E)) := Lib.hid (by
  rw [HV.out, numAt_val (bs s) k (by rw [HE.out]; exact e1) (by
   rw [HE.out]
   intro h
   refine e2 ⟨?_, h.2⟩
   have h1 := h.1
   rw [bs_get? s k hlt] at h1
   exact Option.some.inj h1), HE.out, bs_extract])
 clear hx HV
 by_cases e3 : s[k] = 48
 · have e5 : ¬ k + 1 < E := fun h => e2 ⟨e3, h⟩
   have e4 : ((s[k].toNat : Int) == 48) = true := by rw [e3]; rfl
   have e6 : decide ((k : Int) + 1 < (E : Int)) = false := by simp only [decide_eq_false_iff_not]; omega
   clear e2 e3
   cases hV : valOf (bs (s.extract k E)) 0 with
   | none =>
     rw [hV] at HX HW
     clear hV
     go_enter Tryz.func160, Tryz.ntmps160
     go_wp2_with (first | (go_at_call 178; refine (HC.out _).mono ?_; rintro e w' ⟨rfl, rfl⟩) | (go_at_call 179; refine (HW.out _).mono ?_; rintro e w' ⟨rfl, rfl⟩; unfold valV))
     go_ret3
     exact ⟨by rw [HX.out]; rfl, rfl⟩
   | some v =>
     rw [hV] at HX HW
     clear hV
     go_enter Tryz.func160, Tryz.ntmps160
     go_wp2_with (first | (go_at_call 178; refine (HC.out _).mono ?_; rintro e w' ⟨rfl, rfl⟩) | (go_at_call 179; refine (HW.out _).mono ?_; rintro e w' ⟨rfl, rfl⟩; unfold valV))
     go_ret3
     exact ⟨by rw [HX.out]; rfl, rfl⟩
 · have e4 : ((s[k].toNat : Int) == 48) = false := by
    simp only [beq_eq_false_iff_ne, ne_eq]
    intro h
    apply e3
    apply UInt8.toNat_inj.1
    show s[k].toNat = 48
    omega
   clear e2 e3
   cases hV : valOf (bs (s.extract k E)) 0 with
   | none =>
     rw [hV] at HX HW
     clear hV
     go_enter Tryz.func160, Tryz.ntmps160
     go_wp2_with (first | (go_at_call 178; refine (HC.out _).mono ?_; rintro e w' ⟨rfl, rfl⟩) | (go_at_call 179; refine (HW.out _).mono ?_; rintro e w' ⟨rfl, rfl⟩; unfold valV))
     go_ret3
     exact ⟨by rw [HX.out]; rfl, rfl⟩
   | some v =>
     rw [hV] at HX HW
     clear hV
     go_enter Tryz.func160, Tryz.ntmps160
     go_wp2_with (first | (go_at_call 178; refine (HC.out _).mono ?_; rintro e w' ⟨rfl, rfl⟩) | (go_at_call 179; refine (HW.out _).mono ?_; rintro e w' ⟨rfl, rfl⟩; unfold valV))
     go_ret3
     exact ⟨by rw [HX.out]; rfl, rfl⟩
end Sc
end
end Go.Proofs.YtjecfmbecgpbmaaGreatDoor

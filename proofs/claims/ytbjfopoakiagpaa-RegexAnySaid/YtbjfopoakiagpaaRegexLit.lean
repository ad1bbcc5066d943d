/-
  The reference's Literal: a backslash before each byte with a meaning of its own. Condition: short strings.
-/
import Derived.Test.YtbjfopoakiagpaaComBytes
import Derived.Laws.IdiomStrings
namespace Go.Proofs.Ytbjfopoakiagpaa
open Go.RowKit
namespace Rx
open Cm
def specB (b : UInt8) : Bool := b == 40 || b == 41 || b == 91 || b == 123 || b == 42 || b == 43 || b == 63 || b == 124 || b == 46 || b == 94 || b == 36 || b == 92
def litB (b : UInt8) : List UInt8 := if specB b then [92, b] else [b]
def litF (l : List UInt8) : List UInt8 := l.flatMap litB
theorem lit_len (l : List UInt8) : (litF l).length ≤ 2 * l.length := by
  induction l with
  | nil => exact Nat.zero_le _
  | cons b r ih =>
    have : (litB b).length ≤ 2 := by unfold litB; split <;> simp
    unfold litF at ih ⊢
    rw [List.flatMap_cons, List.length_append, List.length_cons]; omega
theorem lit_snoc (s : ByteArray) (j : Nat) (h : j < s.size) : litF ((Tx.bs s).take (j + 1)) = litF ((Tx.bs s).take j) ++ litB s[j] := by
  unfold litF
  rw [List.take_succ_eq_append_getElem (by simpa using h), List.flatMap_append]
  simp
  rfl
theorem bT {b k : UInt8} (h : b = k) : ((b.toNat : Int) == (k.toNat : Int)) = true := by rw [h]; exact beq_self_eq_true _
theorem bF {b k : UInt8} (h : b ≠ k) : ((b.toNat : Int) == (k.toNat : Int)) = false := by
  rw [beq_eq_false_iff_ne]; intro e
  apply h
  apply UInt8.toNat_inj.1
  omega
set_option maxRecDepth 100000 in
set_option maxHeartbeats 1000000 in
theorem special_any (b : UInt8) (w : World) : Calls Try.prog 47 #[.int .u8 (b.toNat : Int)] w fun e w' => e = .returned (.bool (specB b)) ∧ w = w' := by
  by_cases h40 : b = 40
  · have HA : Hid (specB b = true) := Lib.hid (by unfold specB; simp [h40])
    have e40 : ((b.toNat : Int) == 40) = true := bT h40
    clear h40
    go_enter Try.func47, Try.ntmps47
    go_wp2_with fail
    go_ret
    exact ⟨by rw [HA.out]; rfl, rfl⟩
  by_cases h41 : b = 41
  · have HA : Hid (specB b = true) := Lib.hid (by unfold specB; simp [h41])
    have e40 : ((b.toNat : Int) == 40) = false := bF h40
    have e41 : ((b.toNat : Int) == 41) = true := bT h41
    clear h40 h41
    go_enter Try.func47, Try.ntmps47
    go_wp2_with fail
    go_ret
    exact ⟨by rw [HA.out]; rfl, rfl⟩
  by_cases h91 : b = 91
  · have HA : Hid (specB b = true) := Lib.hid (by unfold specB; simp [h91])
    have e40 : ((b.toNat : Int) == 40) = false := bF h40
    have e41 : ((b.toNat : Int) == 41) = false := bF h41
    have e91 : ((b.toNat : Int) == 91) = true := bT h91
    clear h40 h41 h91
    go_enter Try.func47, Try.ntmps47
    go_wp2_with fail
    go_ret
    exact ⟨by rw [HA.out]; rfl, rfl⟩
  by_cases h123 : b = 123
  · have HA : Hid (specB b = true) := Lib.hid (by unfold specB; simp [h123])
    have e40 : ((b.toNat : Int) == 40) = false := bF h40
    have e41 : ((b.toNat : Int) == 41) = false := bF h41
    have e91 : ((b.toNat : Int) == 91) = false := bF h91
    have e123 : ((b.toNat : Int) == 123) = true := bT h123
    clear h40 h41 h91 h123
    go_enter Try.func47, Try.ntmps47
    go_wp2_with fail
    go_ret
    exact ⟨by rw [HA.out]; rfl, rfl⟩
  by_cases h42 : b = 42
  · have HA : Hid (specB b = true) := Lib.hid (by unfold specB; simp [h42])
    have e40 : ((b.toNat : Int) == 40) = false := bF h40
    have e41 : ((b.toNat : Int) == 41) = false := bF h41
    have e91 : ((b.toNat : Int) == 91) = false := bF h91
    have e123 : ((b.toNat : Int) == 123) = false := bF h123
    have e42 : ((b.toNat : Int) == 42) = true := bT h42
    clear h40 h41 h91 h123 h42
    go_enter Try.func47, Try.ntmps47
    go_wp2_with fail
    go_ret
    exact ⟨by rw [HA.out]; rfl, rfl⟩
  by_cases h43 : b = 43
  · have HA : Hid (specB b = true) := Lib.hid (by unfold specB; simp [h43])
    have e40 : ((b.toNat : Int) == 40) = false := bF h40
    have e41 : ((b.toNat : Int) == 41) = false := bF h41
    have e91 : ((b.toNat : Int) == 91) = false := bF h91
    have e123 : ((b.toNat : Int) == 123) = false := bF h123
    have e42 : ((b.toNat : Int) == 42) = false := bF h42
    have e43 : ((b.toNat : Int) == 43) = true := bT h43
    clear h40 h41 h91 h123 h42 h43
    go_enter Try.func47, Try.ntmps47
    go_wp2_with fail
    go_ret
    exact ⟨by rw [HA.out]; rfl, rfl⟩
  by_cases h63 : b = 63
  · have HA : Hid (specB b = true) := Lib.hid (by unfold specB; simp [h63])
    have e40 : ((b.toNat : Int) == 40) = false := bF h40
    have e41 : ((b.toNat : Int) == 41) = false := bF h41
    have e91 : ((b.toNat : Int) == 91) = false := bF h91
    have e123 : ((b.toNat : Int) == 123) = false := bF h123
    have e42 : ((b.toNat : Int) == 42) = false := bF h42
    have e43 : ((b.toNat : Int) == 43) = false := bF h43
    have e63 : ((b.toNat : Int) == 63) = true := bT h63
    clear h40 h41 h91 h123 h42 h43 h63
    go_enter Try.func47, Try.ntmps47
    go_wp2_with fail
    go_ret
    exact ⟨by rw [HA.out]; rfl, rfl⟩
  by_cases h124 : b = 124
  · have HA : Hid (specB b = true) := Lib.hid (by unfold specB; simp [h124])
    have e40 : ((b.toNat : Int) == 40) = false := bF h40
    have e41 : ((b.toNat : Int) == 41) = false := bF h41
    have e91 : ((b.toNat : Int) == 91) = false := bF h91
    have e123 : ((b.toNat : Int) == 123) = false := bF h123
    have e42 : ((b.toNat : Int) == 42) = false := bF h42
    have e43 : ((b.toNat : Int) == 43) = false := bF h43
    have e63 : ((b.toNat : Int) == 63) = false := bF h63
    have e124 : ((b.toNat : Int) == 124) = true := bT h124
    clear h40 h41 h91 h123 h42 h43 h63 h124
    go_enter Try.func47, Try.ntmps47
    go_wp2_with fail
    go_ret
    exact ⟨by rw [HA.out]; rfl, rfl⟩
  by_cases h46 : b = 46
  · have HA : Hid (specB b = true) := Lib.hid (by unfold specB; simp [h46])
    have e40 : ((b.toNat : Int) == 40) = false := bF h40
    have e41 : ((b.toNat : Int) == 41) = false := bF h41
    have e91 : ((b.toNat : Int) == 91) = false := bF h91
    have e123 : ((b.toNat : Int) == 123) = false := bF h123
    have e42 : ((b.toNat : Int) == 42) = false := bF h42
    have e43 : ((b.toNat : Int) == 43) = false := bF h43
    have e63 : ((b.toNat : Int) == 63) = false := bF h63
    have e124 : ((b.toNat : Int) == 124) = false := bF h124
    have e46 : ((b.toNat : Int) == 46) = true := bT h46
    clear h40 h41 h91 h123 h42 h43 h63 h124 h46
    go_enter Try.func47, Try.ntmps47
    go_wp2_with fail
    go_ret
    exact ⟨by rw [HA.out]; rfl, rfl⟩
  by_cases h94 : b = 94
  · have HA : Hid (specB b = true) := Lib.hid (by unfold specB; simp [h94])
    have e40 : ((b.toNat : Int) == 40) = false := bF h40
    have e41 : ((b.toNat : Int) == 41) = false := bF h41
    have e91 : ((b.toNat : Int) == 91) = false := bF h91
    have e123 : ((b.toNat : Int) == 123) = false := bF h123
    have e42 : ((b.toNat : Int) == 42) = false := bF h42
    have e43 : ((b.toNat : Int) == 43) = false := bF h43
    have e63 : ((b.toNat : Int) == 63) = false := bF h63
    have e124 : ((b.toNat : Int) == 124) = false := bF h124
    have e46 : ((b.toNat : Int) == 46) = false := bF h46
    have e94 : ((b.toNat : Int) == 94) = true := bT h94
    clear h40 h41 h91 h123 h42 h43 h63 h124 h46 h94
    go_enter Try.func47, Try.ntmps47
    go_wp2_with fail
    go_ret
    exact ⟨by rw [HA.out]; rfl, rfl⟩
  by_cases h36 : b = 36
  · have HA : Hid (specB b = true) := Lib.hid (by unfold specB; simp [h36])
    have e40 : ((b.toNat : Int) == 40) = false := bF h40
    have e41 : ((b.toNat : Int) == 41) = false := bF h41
    have e91 : ((b.toNat : Int) == 91) = false := bF h91
    have e123 : ((b.toNat : Int) == 123) = false := bF h123
    have e42 : ((b.toNat : Int) == 42) = false := bF h42
    have e43 : ((b.toNat : Int) == 43) = false := bF h43
    have e63 : ((b.toNat : Int) == 63) = false := bF h63
    have e124 : ((b.toNat : Int) == 124) = false := bF h124
    have e46 : ((b.toNat : Int) == 46) = false := bF h46
    have e94 : ((b.toNat : Int) == 94) = false := bF h94
    have e36 : ((b.toNat : Int) == 36) = true := bT h36
    clear h40 h41 h91 h123 h42 h43 h63 h124 h46 h94 h36
    go_enter Try.func47, Try.ntmps47
    go_wp2_with fail
    go_ret
    exact ⟨by rw [HA.out]; rfl, rfl⟩
  by_cases h92 : b = 92
  · have HA : Hid (specB b = true) := Lib.hid (by unfold specB; simp [h92])
    have e40 : ((b.toNat : Int) == 40) = false := bF h40
    have e41 : ((b.toNat : Int) == 41) = false := bF h41
    have e91 : ((b.toNat : Int) == 91) = false := bF h91
    have e123 : ((b.toNat : Int) == 123) = false := bF h123
    have e42 : ((b.toNat : Int) == 42) = false := bF h42
    have e43 : ((b.toNat : Int) == 43) = false := bF h43
    have e63 : ((b.toNat : Int) == 63) = false := bF h63
    have e124 : ((b.toNat : Int) == 124) = false := bF h124
    have e46 : ((b.toNat : Int) == 46) = false := bF h46
    have e94 : ((b.toNat : Int) == 94) = false := bF h94
    have e36 : ((b.toNat : Int) == 36) = false := bF h36
    have e92 : ((b.toNat : Int) == 92) = true := bT h92
    clear h40 h41 h91 h123 h42 h43 h63 h124 h46 h94 h36 h92
    go_enter Try.func47, Try.ntmps47
    go_wp2_with fail
    go_ret
    exact ⟨by rw [HA.out]; rfl, rfl⟩
  have HA : Hid (specB b = false) := Lib.hid (by unfold specB; simp [h40, h41, h91, h123, h42, h43, h63, h124, h46, h94, h36, h92])
  have e40 : ((b.toNat : Int) == 40) = false := bF h40
  have e41 : ((b.toNat : Int) == 41) = false := bF h41
  have e91 : ((b.toNat : Int) == 91) = false := bF h91
  have e123 : ((b.toNat : Int) == 123) = false := bF h123
  have e42 : ((b.toNat : Int) == 42) = false := bF h42
  have e43 : ((b.toNat : Int) == 43) = false := bF h43
  have e63 : ((b.toNat : Int) == 63) = false := bF h63
  have e124 : ((b.toNat : Int) == 124) = false := bF h124
  have e46 : ((b.toNat : Int) == 46) = false := bF h46
  have e94 : ((b.toNat : Int) == 94) = false := bF h94
  have e36 : ((b.toNat : Int) == 36) = false := bF h36
  have e92 : ((b.toNat : Int) == 92) = false := bF h92
  clear h40 h41 h91 h123 h42 h43 h63 h124 h46 h94 h36 h92
  go_enter Try.func47, Try.ntmps47
  go_wp2_with fail
  go_ret
  exact ⟨by rw [HA.out]; rfl, rfl⟩
set_option maxRecDepth 100000 in
set_option maxHeartbeats 2000000 in
theorem LiteralR_any (s : ByteArray) (w : World) (hs : s.size ≤ 1000000) : Calls Try.prog 20 #[.string s] w fun e w' => e = .returned (.string ⟨(litF (Tx.bs s)).toArray⟩) ∧ Below w.heap.size w w' := by
  have HSp := Lib.hid special_any
  go_enter Try.func20, Try.ntmps20
  go_wp2_with fail
  go_loopw [3, 4] (fun v i wr => ∃ j : Nat, j ≤ s.size ∧ i = .int .i64 j ∧ Hid (wr.ownsRow w.heap.size 5 1 v (litF ((Tx.bs s).take j)).length (bytesV (litF ((Tx.bs s).take j)))) ∧ Below w.heap.size w wr) (fun _ i _ => s.size - (intOf i).toNat)
  case atStart => exact ⟨0, Nat.zero_le _, rfl, Lib.hid (World.ownsRow_nil _ _ _ _), Below.refl _ _⟩
  case round =>
    obtain ⟨j, hj, rfl, HO, hnx⟩ := hrel
    obtain ⟨B, d, rfl⟩ := own_form HO.out
    have hsz := hnx.size
    by_cases hlt : j < s.size
    · have HT := Lib.hid (lit_snoc s j hlt)
      have hbd : (litF ((Tx.bs s).take j)).length ≤ 2000000 := by
        have h1 := lit_len ((Tx.bs s).take j)
        have h2 := List.length_take_le j (Tx.bs s)
        omega
      have i1 : (0 : Int) ≤ (j : Int) := by omega
      have i2 : (j : Int) < (s.size : Int) := by omega
      have HSj := Lib.hid (fun w => HSp.out s[j] w)
      generalize litF ((Tx.bs s).take j) = acc at HO HT hbd
      cases hsp : specB s[j] with
      | true =>
        have HT2 : Hid (litF ((Tx.bs s).take (j + 1)) = acc ++ [92] ++ [s[j]]) := Lib.hid (by rw [HT.out]; unfold litB; rw [hsp]; simp)
        rw [hsp] at HSj
        clear hsp
        go_wp2_with (first
          | (go_at_call 47; refine (HSj.out _).mono ?_; rintro e w1 ⟨rfl, rfl⟩)
          | (at_builtin; refine app_one rfl Try.underlying69 info_byte rfl (by omega) (.tmp 15) (.tmp 16) rfl w.heap.size acc.length (bytesV acc) (.int .u8 92) rfl _ _ rfl HO.out rfl rfl (by omega) hsz ?_; intro v3 w3 ho3 hb3 _; have HO3 := Lib.hid ho3; have hs3 := hb3.size; clear ho3)
          | (at_builtin; refine app_one rfl Try.underlying69 info_byte rfl (by omega) (.tmp 18) (.tmp 22) rfl w.heap.size (acc.length + 1) (bytesV acc ++ [.int .u8 92]) (.int .u8 (s[j].toNat : Int)) rfl v3 _ rfl HO3.out rfl rfl (by omega) (by omega) ?_; intro v4 w4 ho4 hb4 _; have HO4 := Lib.hid ho4; clear ho4))
        go_roundw
        case rel => exact ⟨j + 1, by omega, by go_num, by rw [HT2.out, bytesV_snoc, bytesV_snoc, List.length_append, List.length_append]; exact HO4, hnx.trans (hb3.trans hb4)⟩
        case measure => simp [intOf]; omega
      | false =>
        have HT2 : Hid (litF ((Tx.bs s).take (j + 1)) = acc ++ [s[j]]) := Lib.hid (by rw [HT.out]; unfold litB; rw [hsp]; simp)
        rw [hsp] at HSj
        clear hsp
        go_wp2_with (first
          | (go_at_call 47; refine (HSj.out _).mono ?_; rintro e w1 ⟨rfl, rfl⟩)
          | (at_builtin; refine app_one rfl Try.underlying69 info_byte rfl (by omega) (.tmp 18) (.tmp 22) rfl w.heap.size acc.length (bytesV acc) (.int .u8 (s[j].toNat : Int)) rfl _ _ rfl HO.out rfl rfl (by omega) hsz ?_; intro v4 w4 ho4 hb4 _; have HO4 := Lib.hid ho4; clear ho4))
        go_roundw
        case rel => exact ⟨j + 1, by omega, by go_num, by rw [HT2.out, bytesV_snoc, List.length_append]; exact HO4, hnx.trans hb4⟩
        case measure => simp [intOf]; omega
    · have HE : Hid ((Tx.bs s).take j = Tx.bs s) := Lib.hid (List.take_of_length_le (by rw [Tx.bs_len]; omega))
      have hd : decide (j < s.size) = false := by simp only [decide_eq_false_iff_not]; omega
      have hcv := own_string HO.out
      go_wp2_with fail
      go_ret
      exact ⟨congrArg (fun l : List UInt8 => Ending.returned (.string ⟨l.toArray⟩)) (by rw [HE.out]), hnx⟩
end Rx
end Go.Proofs.Ytbjfopoakiagpaa

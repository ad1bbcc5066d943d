/-
  Walks of layer 2 that make no list: Ended, Bare, countLines, Check, isList, fits, Join. Conditions: the blob has at most 2^22 bytes; a list at most 4096 elements of together at most 2^20 bytes.
-/
import Derived.Test.YtlnghfmedkfkmaaGreatDoorShelf
import Derived.Test.YtlnghfmedkfkmaaGreatDoorTextRefJ
import Derived.Lib.IndexLaws
import Derived.Lib.IndexAny
namespace Go.Proofs.YtlnghfmedkfkmaaGreatDoor
open Go.RowKit
namespace Tx
theorem suffix_lf (l : List UInt8) : Lib.hasSuffix l [10] = endedF l := by
  unfold Lib.hasSuffix endedF
  rw [Bool.eq_iff_iff, List.isSuffixOf_iff_suffix, beq_iff_eq, List.getLast?_eq_some_iff]
  constructor
  · rintro ⟨t, rfl⟩; exact ⟨t, rfl⟩
  · rintro ⟨t, rfl⟩; exact ⟨t, rfl⟩
theorem trim_lf (l : List UInt8) : Lib.trimSuffix l [10] = bareF l := by
  unfold Lib.trimSuffix bareF
  rw [suffix_lf, List.dropLast_eq_take]; rfl
theorem HasSuffix_lf (s : ByteArray) (w : World) (hs : s.size ≤ 9223372036854775807) : Calls Tryz.prog 119 #[.string s, .string ⟨#[10]⟩] w fun e w' => e = .returned (.bool (endedF (bs s))) ∧ w = w' :=
  (Tryz.strings_HasSuffix s ⟨#[10]⟩ w hs).mono fun _ _ ⟨h1, h2⟩ => ⟨by rw [h1]; exact congrArg (fun b => Ending.returned (.bool b)) (suffix_lf (bs s)), h2.symm⟩
theorem TrimSuffix_lf (s : ByteArray) (w : World) (hs : s.size ≤ 9223372036854775807) : Calls Tryz.prog 130 #[.string s, .string ⟨#[10]⟩] w fun e w' => e = .returned (.string (bareB s)) ∧ w = w' :=
  (Tryz.strings_TrimSuffix s ⟨#[10]⟩ w hs).mono fun _ _ ⟨h1, h2⟩ => ⟨by
    rw [h1, ← mk_bs (bareB s), bareB_bs, ← trim_lf], h2.symm⟩
theorem Contains_lf (s : ByteArray) (w : World) : Calls Tryz.prog 151 #[.string s, .string ⟨#[10]⟩] w fun e w' => e = .returned (.bool ((bs s).contains 10)) ∧ w = w' :=
  (Tryz.strings_Contains_one s 10 w).mono fun _ _ ⟨h1, h2⟩ => ⟨by rw [h1, ← Lib.contains_iff_indexByte], h2.symm⟩
theorem Count_lf (s : ByteArray) (w : World) : Calls Tryz.prog 90 #[.string s, .string ⟨#[10]⟩] w fun e w' => e = .returned (.int .i64 (lfs (bs s))) ∧ w = w' :=
  (Tryz.strings_Count_one s 10 w).mono fun _ _ ⟨h1, h2⟩ => ⟨h1, h2.symm⟩
theorem Ended_any (s : ByteArray) (w : World) (hs : s.size ≤ 9223372036854775807) : Calls Tryz.prog 81 #[.string s] w fun e w' => e = .returned (.bool (endedF (bs s))) ∧ w = w' := by
  go_enter Tryz.func81, Tryz.ntmps81
  go_wp2_with (go_at_call 119; refine (HasSuffix_lf s _ hs).mono ?_; rintro e w1 ⟨rfl, rfl⟩)
  go_ret
  exact ⟨rfl, rfl⟩
theorem Bare_any (s : ByteArray) (w : World) (hs : s.size ≤ 9223372036854775807) : Calls Tryz.prog 152 #[.string s] w fun e w' => e = .returned (.string (bareB s)) ∧ w = w' := by
  go_enter Tryz.func152, Tryz.ntmps152
  go_wp2_with (go_at_call 130; refine (TrimSuffix_lf s _ hs).mono ?_; rintro e w1 ⟨rfl, rfl⟩)
  go_ret
  exact ⟨rfl, rfl⟩
theorem lfs_le (l : List UInt8) : lfs l ≤ l.length := List.count_le_length
theorem countLines_any (s : ByteArray) (w : World) (hs : s.size ≤ 4194304) : Calls Tryz.prog 141 #[.string s] w fun e w' => e = .returned (.int .i64 ((linesF (bs s)).length : Int)) ∧ w = w' := by
  have HC := Lib.hid (fun w => Count_lf s w)
  have HE := Lib.hid (fun w => Ended_any s w (by omega))
  have HL := Lib.hid (linesF_len (bs s))
  have hle := lfs_le (bs s)
  rw [bs_len] at hle
  by_cases h0 : s.size = 0
  · have e0 := empty_of s h0
    have e1 : s.toList.isEmpty = true := by rw [e0]; rfl
    have HX : Hid ((linesF (bs s)).length = lfs (bs s)) := Lib.hid (by
      have : bs s = [] := List.eq_nil_of_length_eq_zero h0
      rw [HL.out, this]; rfl)
    have H0 := Lib.hid h0
    clear h0
    go_enter Tryz.func141, Tryz.ntmps141
    go_wp2_with (go_at_call 90; refine (HC.out _).mono ?_; rintro e w1 ⟨rfl, rfl⟩)
    go_ret
    exact ⟨by rw [HX.out]; rfl, rfl⟩
  · have hp : 0 < s.size := by omega
    have e0 := nonempty_of s hp
    have e1 : s.toList.isEmpty = false := by simpa using e0
    have HB : Hid ((bs s).isEmpty = false) := Lib.hid (by
      rw [List.isEmpty_eq_false_iff]; intro e
      have h2 := bs_len s
      rw [e, List.length_nil] at h2; omega)
    clear h0
    cases he : endedF (bs s) with
    | true =>
      have HX : Hid ((linesF (bs s)).length = lfs (bs s)) := Lib.hid (by rw [HL.out, he, HB.out]; rfl)
      rw [he] at HE
      clear he
      go_enter Tryz.func141, Tryz.ntmps141
      go_wp2_with (first
        | (go_at_call 90; refine (HC.out _).mono ?_; rintro e w1 ⟨rfl, rfl⟩)
        | (go_at_call 81; refine (HE.out _).mono ?_; rintro e w1 ⟨rfl, rfl⟩))
      go_ret
      exact ⟨by rw [HX.out]; rfl, rfl⟩
    | false =>
      have HX : Hid (((linesF (bs s)).length : Int) = lfs (bs s) + 1) := Lib.hid (by rw [HL.out, he, HB.out]; rfl)
      rw [he] at HE
      clear he
      go_enter Tryz.func141, Tryz.ntmps141
      go_wp2_with (first
        | (go_at_call 90; refine (HC.out _).mono ?_; rintro e w1 ⟨rfl, rfl⟩)
        | (go_at_call 81; refine (HE.out _).mono ?_; rintro e w1 ⟨rfl, rfl⟩))
      go_ret
      exact ⟨by rw [HX.out]; rfl, rfl⟩
theorem Check_any (s : ByteArray) (w : World) (hs : s.size ≤ 4194304) : Calls Tryz.prog 102 #[.string s] w fun e w' => e = .returned (.int .i64 (checkF (bs s))) ∧ w = w' := by
  have HL := Lib.hid (fun w => countLines_any s w hs)
  by_cases h1 : (1048576 : Int) < (s.size : Int)
  · have H := Lib.hid (checkF_long (bs s) (by rw [bs_len]; omega))
    rw [H.out]
    go_enter Tryz.func102, Tryz.ntmps102
    go_wp2_with fail
    go_ret
    exact ⟨rfl, rfl⟩
  · have hl0 := linesF_le (bs s)
    rw [bs_len] at hl0
    have HC1 := Lib.hid (checkF_no (bs s) (by rw [bs_len]; omega))
    have HC2 := Lib.hid (checkF_many (bs s))
    generalize (linesF (bs s)).length = n at hl0 HC1 HC2 HL
    by_cases h2 : (4096 : Int) < (n : Int)
    · have HC : Hid (checkF (bs s) = 1) := Lib.hid (HC2.out (by omega))
      rw [HC.out]
      go_enter Tryz.func102, Tryz.ntmps102
      go_wp2_with (go_at_call 141; refine (HL.out _).mono ?_; rintro e w1 ⟨rfl, rfl⟩)
      go_ret
      exact ⟨rfl, rfl⟩
    · have HC : Hid (checkF (bs s) = 0) := Lib.hid (HC1.out (by omega))
      rw [HC.out]
      go_enter Tryz.func102, Tryz.ntmps102
      go_wp2_with (go_at_call 141; refine (HL.out _).mono ?_; rintro e w1 ⟨rfl, rfl⟩)
      go_ret
      exact ⟨rfl, rfl⟩
theorem isLine_bare (l : List UInt8) : isLine l = (!l.isEmpty && !(bareF l).contains 10) := by
  unfold isLine bareF
  by_cases he : endedF l = true
  · rw [if_pos he]
  · rw [if_neg he]
    by_cases h0 : l = []
    · subst h0; rfl
    · have hl : l.contains 10 = l.dropLast.contains 10 := by
        rw [Bool.eq_iff_iff, List.contains_iff_mem, List.contains_iff_mem]
        conv => lhs; rw [← List.dropLast_concat_getLast h0]
        rw [List.mem_append, List.mem_singleton]
        constructor
        · rintro (h | h)
          · exact h
          · exfalso; apply he
            unfold endedF; rw [List.getLast?_eq_some_getLast h0, ← h]; rfl
        · exact .inl
      rw [hl]
end Tx
end Go.Proofs.YtlnghfmedkfkmaaGreatDoor

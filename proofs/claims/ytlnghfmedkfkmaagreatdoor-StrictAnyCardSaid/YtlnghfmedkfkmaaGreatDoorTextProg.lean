/-
  Walks of layer 2 that make no list: Ended, Bare, countLines, Check, isList, fits, Join. Conditions: the blob has at most 2^22 bytes; a list at most 4096 elements of together at most 2^20 bytes.
-/
import Derived.Test.YtlnghfmedkfkmaaGreatDoorShelf
import Derived.Test.YtlnghfmedkfkmaaGreatDoorTextRefJ
import Derived.Lib.IndexLaws
import Derived.Lib.IndexAny
namespace Go.Proofs.YtlnghfmedkfkmaaGreatDoor
open Go.RowKit
namespace Tx
theorem suffix_lf (l : List UInt8) : Lib.hasSuffix l [10] = endedF l := by
  unfold Lib.hasSuffix endedF
  rw [Bool.eq_iff_iff, List.isSuffixOf_iff_suffix, beq_iff_eq, List.getLast?_eq_some_iff]
  constructor
  · rintro ⟨t, rfl⟩; exact ⟨t, rfl⟩
  · rintro ⟨t, rfl⟩; exact ⟨t, rfl⟩
theorem trim_lf (l : List UInt8) : Lib.trimSuffix l [10] = bareF l := by
  unfold Lib.trimSuffix bareF
  rw [suffix_lf, List.dropLast_eq_take]; rfl
theorem HasSuffix_lf (s : ByteArray) (w : World) (hs : s.size ≤ 9223372036854775807) : Calls Tryz.prog 119 #[.string s, .string ⟨#[10]⟩] w fun e w' => e = .returned (.bool (endedF (bs s))) ∧ w = w' :=
  (Tryz.strings_HasSuffix s ⟨#[10]⟩ w hs).mono fun _ _ ⟨h1, h2⟩ => ⟨by rw [h1]; exact congrArg (fun b => Ending.returned (.bool b)) (suffix_lf (bs s)), h2.symm⟩
theorem TrimSuffix_lf (s : ByteArray) (w : World) (hs : s.size ≤ 9223372036854775807) : Calls Tryz.prog 130 #[.string s, .string ⟨#[10]⟩] w fun e w' => e = .returned (.string (bareB s)) ∧ w = w' :=
  (Tryz.strings_TrimSuffix s ⟨#[10]⟩ w hs).mono fun _ _ ⟨h1, h2⟩ => ⟨by
    rw [h1, ← mk_bs (bareB s), bareB_bs, ← trim_lf], h2.symm⟩
theorem Contains_lf (s : ByteArray) (w : World) : Calls Tryz.prog 151 #[.string s, .string ⟨#[10]⟩] w fun e w' => e = .returned (.bool ((bs s).contains 10)) ∧ w = w' :=
  (Tryz.strings_Contains_one s 10 w).mono fun _ _ ⟨h1, h2⟩ => ⟨by rw [h1, ← Lib.contains_iff_indexByte], h2.symm⟩
theorem Ended_any (s : ByteArray) (w : World) (hs : s.size ≤ 9223372036854775807) : Calls Tryz.prog 81 #[.string s] w fun e w' => e = .returned (.bool (endedF (bs s))) ∧ w = w' := by
  go_enter Tryz.func81, Tryz.ntmps81
  go_wp2_with (go_at_call 119; refine (HasSuffix_lf s _ hs).mono ?_; rintro e w1 ⟨rfl, rfl⟩)
  go_ret
  exact ⟨rfl, rfl⟩
theorem Bare_any (s : ByteArray) (w : World) (hs : s.size ≤ 9223372036854775807) : Calls Tryz.prog 152 #[.string s] w fun e w' => e = .returned (.string (bareB s)) ∧ w = w' := by
  go_enter Tryz.func152, Tryz.ntmps152
  go_wp2_with (go_at_call 130; refine (TrimSuffix_lf s _ hs).mono ?_; rintro e w1 ⟨rfl, rfl⟩)
  go_ret
  exact ⟨rfl, rfl⟩
theorem isLine_bare (l : List UInt8) : isLine l = (!l.isEmpty && !(bareF l).contains 10) := by
  unfold isLine bareF
  by_cases he : endedF l = true
  · rw [if_pos he]
  · rw [if_neg he]
    by_cases h0 : l = []
    · subst h0; rfl
    · have hl : l.contains 10 = l.dropLast.contains 10 := by
        rw [Bool.eq_iff_iff, List.contains_iff_mem, List.contains_iff_mem]
        conv => lhs; rw [← List.dropLast_concat_getLast h0]
        rw [List.mem_append, List.mem_singleton]
        constructor
        · rintro (h | h)
          · exact h
          · exfalso; apply he
            unfold endedF; rw [List.getLast?_eq_some_getLast h0, ← h]; rfl
        · exact .inl
      rw [hl]
end Tx
end Go.Proofs.YtlnghfmedkfkmaaGreatDoor

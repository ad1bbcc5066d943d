/- Facts; each states its conditions. -/
import Derived.Test.YtjecfmbecgpbmaaGreatDoorShelf
import Derived.Test.YtjecfmbecgpbmaaGreatDoorTextRefJ
import Derived.Lib.IndexLaws
import Derived.Lib.IndexAny
import Derived.Test.YtjecfmbecgpbmaaGreatDoorShelfJ
namespace Go.Proofs.YtjecfmbecgpbmaaGreatDoor
section
open Go.RowKit
namespace Tx
theorem suffix_lf (l : List UInt8) : Lib.hasSuffix l [10] = endedF l := by
 unfold Lib.hasSuffix endedF
 rw [Bool.eq_iff_iff, List.isSuffixOf_iff_suffix, beq_iff_eq, List.getLast?_eq_some_iff]
 constructor
 · rintro ⟨t, rfl⟩; exact ⟨t, rfl⟩
 · rintro ⟨t, rfl⟩; exact ⟨t, rfl⟩
theorem trim_lf (l : List UInt8) : Lib.trimSuffix l [10] = bareF l := by
 unfold Lib.trimSuffix bareF
 rw [suffix_lf, List.dropLast_eq_take]; rfl
theorem HasSuffix_lf (s : ByteArray) (w : World) (hs : s.size ≤ 9223372036854775807) : Calls Tryz.prog 121 #[.string s, .string ⟨#[10]⟩] w fun e w' => e = .returned (.bool (endedF (bs s))) ∧ w = w' :=
 (Tryz.strings_HasSuffix s ⟨#[10]⟩ w hs).mono fun _ _ ⟨h1, h2⟩ => ⟨by rw [h1]; exact congrArg (fun b => Ending.returned (.bool b)) (suffix_lf (bs s)), h2.symm⟩
theorem TrimSuffix_lf (s : ByteArray) (w : World) (hs : s.size ≤ 9223372036854775807) : Calls Tryz.prog 130 #[.string s, .string ⟨#[10]⟩] w fun e w' => e = .returned (.string (bareB s)) ∧ w = w' :=
 (Tryz.strings_TrimSuffix s ⟨#[10]⟩ w hs).mono fun _ _ ⟨h1, h2⟩ => ⟨by
  rw [h1, ← mk_bs (bareB s), bareB_bs, ← trim_lf], h2.symm⟩
theorem Contains_lf (s : ByteArray) (w : World) : Calls Tryz.prog 101 #[.string s, .string ⟨#[10]⟩] w fun e w' => e = .returned (.bool ((bs s).contains 10)) ∧ w = w' :=
 (Tryz.strings_Contains_one s 10 w).mono fun _ _ ⟨h1, h2⟩ => ⟨by rw [h1, ← Lib.contains_iff_indexByte], h2.symm⟩
theorem Count_lf (s : ByteArray) (w : World) : Calls Tryz.prog 84 #[.string s, .string ⟨#[10]⟩] w fun e w' => e = .returned (.int .i64 (lfs (bs s))) ∧ w = w' :=
 (Tryz.strings_Count_one s 10 w).mono fun _ _ ⟨h1, h2⟩ => ⟨h1, h2.symm⟩
theorem Ended_any (s : ByteArray) (w : World) (hs : s.size ≤ 9223372036854775807) : Calls Tryz.prog 82 #[.string s] w fun e w' => e = .returned (.bool (endedF (bs s))) ∧ w = w' := by
 go_enter Tryz.func82, Tryz.ntmps82
 go_wp2_with (go_at_call 121; refine (HasSuffix_lf s _ hs).mono ?_; rintro e w1 ⟨rfl, rfl⟩)
 go_ret
 exact ⟨rfl, rfl⟩
theorem Bare_any (s : ByteArray) (w : World) (hs : s.size ≤ 9223372036854775807) : Calls Tryz.prog 102 #[.string s] w fun e w' => e = .returned (.string (bareB s)) ∧ w = w' := by
 go_enter Tryz.func102, Tryz.ntmps102
 go_wp2_with (go_at_call 130; refine (TrimSuffix_lf s _ hs).mono ?_; rintro e w1 ⟨rfl, rfl⟩)
 go_ret
 exact ⟨rfl, rfl⟩
theorem lfs_le (l : List UInt8) : lfs l ≤ l.length := List.count_le_length
theorem countLines_any (s : ByteArray) (w : World) (hs : s.size ≤ 4194304) : Calls Tryz.prog 136 #[.string s] w fun e w' => e = .returned (.int .i64 ((linesF (bs s)).length : Int)) ∧ w = w' := by
 have HC := Lib.hid (fun w => Count_lf s w)
 have HE := Lib.hid (fun w => Ended_any s w (by omega))
 have HL := Lib.hid (linesF_len (bs s))
 have hle := lfs_le (bs s)
 rw [bs_len] at hle
 by_cases h0 : s.size = 0
 · have e0 := empty_of s h0
   have e1 : s.toList.isEmpty = true := by rw [e0]; rfl
   have HX : Hid ((linesF (bs s)).length = lfs (bs s)) := Lib.hid (by
    have : bs s = [] := List.eq_nil_of_length_eq_zero h0
    rw [HL.out, this]; rfl)
   have H0 := Lib.hid h0
   clear h0
   go_enter Tryz.func136, Tryz.ntmps136
   go_wp2_with (go_at_call 84; refine (HC.out _).mono ?_; rintro e w1 ⟨rfl, rfl⟩)
   go_ret
   exact ⟨by rw [HX.out]; rfl, rfl⟩
 · have hp : 0 < s.size := by omega
   have e0 := nonempty_of s hp
   have e1 : s.toList.isEmpty = false := by simpa using e0
   have HB : Hid ((bs s).isEmpty = false) := Lib.hid (by
    rw [List.isEmpty_eq_false_iff]; intro e
    have h2 := bs_len s
    rw [e, List.length_nil] at h2; omega)
   clear h0
   cases he : endedF (bs s) with
   | true =>
     have HX : Hid ((linesF (bs s)).length = lfs (bs s)) := Lib.hid (by rw [HL.out, he, HB.out]; rfl)
     rw [he] at HE
     clear he
     go_enter Tryz.func136, Tryz.ntmps136
     go_wp2_with (first
      | (go_at_call 84; refine (HC.out _).mono ?_; rintro e w1 ⟨rfl, rfl⟩)
      | (go_at_call 82; refine (HE.out _).mono ?_; rintro e w1 ⟨rfl, rfl⟩))
     go_ret
     exact ⟨by rw [HX.out]; rfl, rfl⟩
   | false =>
     have HX : Hid (((linesF (bs s)).length : Int) = lfs (bs s) + 1) := Lib.hid (by rw [HL.out, he, HB.out]; rfl)
     rw [he] at HE
     clear he
     go_enter Tryz.func136, Tryz.ntmps136
     go_wp2_with (first
      | (go_at_call 84; refine (HC.out _).mono ?_; rintro e w1 ⟨rfl, rfl⟩)
      | (go_at_call 82; refine (HE.out _).mono ?_; rintro e w1 ⟨rfl, rfl⟩))
     go_ret
     exact ⟨by rw [HX.out]; rfl, rfl⟩
theorem Check_any (s : ByteArray) (w : World) (hs : s.size ≤ 4194304) : Calls Tryz.prog 98 #[.string s] w fun e w' => e = .returned (.int .i64 (checkF (bs s))) ∧ w = w' := by
 have HL := Lib.hid (fun w => countLines_any s w hs)
 by_cases h1 : (1048576 : Int) < (s.size : Int)
 · have H := Lib.hid (checkF_long (bs s) (by rw [bs_len]; omega))
   rw [H.out]
   go_enter Tryz.func98, Tryz.ntmps98
   go_wp2_with fail
   go_ret
   exact ⟨rfl, rfl⟩
 · have hl0 := linesF_le (bs s)
   rw [bs_len] at hl0
   have HC1 := Lib.hid (checkF_no (bs s) (by rw [bs_len]; omega))
   have HC2 := Lib.hid (checkF_many (bs s))
   generalize (linesF (bs s)).length = n at hl0 HC1 HC2 HL
   by_cases h2 : (4096 : Int) < (n : Int)
   · have HC : Hid (checkF (bs s) = 1) := Lib.hid (HC2.out (by omega))
     rw [HC.out]
     go_enter Tryz.func98, Tryz.ntmps98
     go_wp2_with (go_at_call 136; refine (HL.out _).mono ?_; rintro e w1 ⟨rfl, rfl⟩)
     go_ret
     exact ⟨rfl, rfl⟩
   · have HC : Hid (checkF (bs s) = 0) := Lib.hid (HC1.out (by omega))
     rw [HC.out]
     go_enter Tryz.func98, Tryz.ntmps98
     go_wp2_with (go_at_call 136; refine (HL.out _).mono ?_; rintro e w1 ⟨rfl, rfl⟩)
     go_ret
     exact ⟨rfl, rfl⟩
theorem isLine_bare (l : List UInt8) : isLine l = (!l.isEmpty && !(bareF l).contains 10) := by
 unfold isLine bareF
 by_cases he : endedF l = true
 · rw [if_pos he]
 · rw [if_neg he]
   by_cases h0 : l = []
   · subst h0; rfl
   · have hl : l.contains 10 = l.dropLast.contains 10 := by
      rw [Bool.eq_iff_iff, List.contains_iff_mem, List.contains_iff_mem]
      conv => lhs; rw [← List.dropLast_concat_getLast h0]
      rw [List.mem_append, List.mem_singleton]
      constructor
      · rintro (h | h)
        · exact h
        · exfalso; apply he
          unfold endedF; rw [List.getLast?_eq_some_getLast h0, ← h]; rfl
      · exact .inl
     rw [hl]
end Tx
end
section
open Go.RowKit
namespace Tx
set_option maxRecDepth 100000 in
set_option maxHeartbeats 4000000 in
theorem isList_any (v : Value) (xs : List ByteArray) (w : World) (h : RdS w v xs) (hl : xs.length ≤ 1048576) (hsz : ∀ x ∈ xs, x.size ≤ 4194304) :
 Calls Tryz.prog 61 #[v] w fun e w' => e = .returned (.bool (isListF (bss xs))) ∧ Below w.heap.size w w' := by
 obtain ⟨A, c, rfl, _, hA⟩ := h
 have HA := Lib.hid hA
 have HS := Lib.hid hsz
 clear hA hsz
 generalize hn : xs.length = n at hl
 have HN := Lib.hid hn
 clear hn
 go_enter Tryz.func61, Tryz.ntmps61
 go_wp2_with fail
 go_loopw [7] (fun i wr => ∃ j : Nat, j ≤ n ∧ i = .int .i64 j ∧ Hid (isListF ((bss xs).drop j) = isListF (bss xs)) ∧ ∃ m, wr = w.drewN m) (fun i _ => n - (intOf i).toNat)
 case atStart => exact ⟨0, Nat.zero_le _, rfl, Lib.hid rfl, 0, rfl⟩
 case round =>
  obtain ⟨j, hj, rfl, HL, m, rfl⟩ := hrel
  by_cases hlt : j < n
  · have hx : j < xs.length := by rw [HN.out]; exact hlt
    obtain ⟨b, off, rfl, hcell⟩ := HA.out (by omega)
    have hc : w.cell? ⟨b, off + j, none⟩ = some (.string xs[j]) := hcell j hx
    have hxs : xs[j].size ≤ 4194304 := HS.out _ (List.getElem_mem hx)
    have HST := Lib.hid (isListF_step xs j hx)
    clear hcell
    generalize xs[j] = x at hc hxs HST
    have i1 : (0 : Int) ≤ (j : Int) := by omega
    have i2 : (j : Int) < (n : Int) := by omega
    have HLine := Lib.hid (isLine_bare (bs x))
    have HE := Lib.hid (fun w => Ended_any x w (by omega))
    have HBa := Lib.hid (fun w => Bare_any x w (by omega))
    have HCo : Hid (∀ w, Calls Tryz.prog 101 #[.string (bareB x), .string ⟨#[10]⟩] w fun e w' => e = .returned (.bool ((bareF (bs x)).contains 10)) ∧ w = w') := Lib.hid (fun w => by rw [← bareB_bs]; exact Contains_lf _ w)
    generalize bareB x = y at HBa HCo
    by_cases h0 : x.size = 0
    · have e0 := empty_of x h0
      have e1 : x.toList.isEmpty = true := by rw [e0]; rfl
      have HF : Hid (isListF (bss xs) = false) := Lib.hid (by
       have hx0 : bs x = [] := List.eq_nil_of_length_eq_zero h0
       rw [← HL.out, HST.out, HLine.out, hx0]; rfl)
      have H0 := Lib.hid h0
      clear h0
      go_wp2_with fail
      go_ret
      exact ⟨by rw [HF.out]; rfl, below_drewN (Below.refl _ _) _⟩
    · have hp : 0 < x.size := by omega
      have e0 := nonempty_of x hp
      have e1 : x.toList.isEmpty = false := by simpa using e0
      have HB : Hid ((bs x).isEmpty = false) := Lib.hid (by
       rw [List.isEmpty_eq_false_iff]; intro e
       have h2 := bs_len x
       rw [e, List.length_nil] at h2; omega)
      clear h0
      cases hco : (bareF (bs x)).contains 10 with
      | true =>
        have HF : Hid (isListF (bss xs) = false) := Lib.hid (by rw [← HL.out, HST.out, HLine.out, hco]; simp)
        rw [hco] at HCo
        clear hco
        go_wp2_with (first
         | (go_at_call 102; refine (HBa.out _).mono ?_; rintro e w1 ⟨rfl, rfl⟩)
         | (go_at_call 101; refine (HCo.out _).mono ?_; rintro e w1 ⟨rfl, rfl⟩))
        go_ret
        exact ⟨by rw [HF.out]; rfl, below_drewN (Below.refl _ _) _⟩
      | false =>
        have HLine2 : Hid (isLine (bs x) = true) := Lib.hid (by rw [HLine.out, hco, HB.out]; rfl)
        rw [hco] at HCo
        clear hco
        by_cases hl2 : j + 1 = n
        · have hd : ¬ ((j : Int) < (n : Int) - 1) := by omega
          have HF : Hid (isListF ((bss xs).drop (j + 1)) = isListF (bss xs)) := Lib.hid (by
           rw [← HL.out, HST.out, HLine2.out, decide_eq_true (show j + 1 = xs.length by rw [HN.out]; exact hl2)]; simp)
          have HL2 := Lib.hid hl2
          clear hl2
          go_wp2_with (first
           | (go_at_call 102; refine (HBa.out _).mono ?_; rintro e w1 ⟨rfl, rfl⟩)
           | (go_at_call 101; refine (HCo.out _).mono ?_; rintro e w1 ⟨rfl, rfl⟩))
          go_roundw
          case rel => exact ⟨j + 1, by omega, by go_num, HF, m, rfl⟩
          case measure => simp [intOf]; omega
        · have hd : (j : Int) < (n : Int) - 1 := by omega
          have HND : Hid (decide (j + 1 = xs.length) = false) := Lib.hid (decide_eq_false (by rw [HN.out]; exact hl2))
          clear hl2
          cases he : endedF (bs x) with
          | true =>
            have HF : Hid (isListF ((bss xs).drop (j + 1)) = isListF (bss xs)) := Lib.hid (by rw [← HL.out, HST.out, HLine2.out, he]; simp)
            rw [he] at HE
            clear he
            go_wp2_with (first
             | (go_at_call 102; refine (HBa.out _).mono ?_; rintro e w1 ⟨rfl, rfl⟩)
             | (go_at_call 101; refine (HCo.out _).mono ?_; rintro e w1 ⟨rfl, rfl⟩)
             | (go_at_call 82; refine (HE.out _).mono ?_; rintro e w1 ⟨rfl, rfl⟩))
            go_roundw
            case rel => exact ⟨j + 1, by omega, by go_num, HF, m, rfl⟩
            case measure => simp [intOf]; omega
          | false =>
            have HF : Hid (isListF (bss xs) = false) := Lib.hid (by rw [← HL.out, HST.out, HND.out, he]; simp)
            rw [he] at HE
            clear he
            go_wp2_with (first
             | (go_at_call 102; refine (HBa.out _).mono ?_; rintro e w1 ⟨rfl, rfl⟩)
             | (go_at_call 101; refine (HCo.out _).mono ?_; rintro e w1 ⟨rfl, rfl⟩)
             | (go_at_call 82; refine (HE.out _).mono ?_; rintro e w1 ⟨rfl, rfl⟩))
            go_ret
            exact ⟨by rw [HF.out]; rfl, below_drewN (Below.refl _ _) _⟩
  · have HF : Hid (isListF (bss xs) = true) := Lib.hid (by rw [← HL.out]; exact isListF_end xs j (by rw [HN.out]; omega))
    have hd : decide (j < n) = false := by simp only [decide_eq_false_iff_not]; omega
    go_wp2_with fail
    go_ret
    exact ⟨by rw [HF.out]; rfl, below_drewN (Below.refl _ _) _⟩
set_option maxRecDepth 100000 in
set_option maxHeartbeats 2000000 in
theorem fitsG_any (v : Value) (xs : List ByteArray) (w : World) (h : RdS w v xs) (hl : xs.length ≤ 1048576) (hsz : ∀ x ∈ xs, x.size ≤ 4194304) :
 Calls Tryz.prog 62 #[v] w fun e w' => e = .returned (.bool (decide (total xs ≤ 1048576))) ∧ Below w.heap.size w w' := by
 obtain ⟨A, c, rfl, _, hA⟩ := h
 have HA := Lib.hid hA
 have HSz := Lib.hid hsz
 have HTo : Hid (((bss xs).take xs.length).flatten.length = total xs) := Lib.hid (by rw [List.take_of_length_le (by simp [bss])]; rfl)
 clear hA hsz
 generalize hn : xs.length = n at hl HTo
 have HN := Lib.hid hn
 have HF := Lib.hid (fun j => flat_le xs j)
 clear hn
 generalize total xs = T at *
 go_enter Tryz.func62, Tryz.ntmps62
 go_wp2_with fail
 go_loopw [3, 8] (fun r i wr => ∃ (j : Nat) (z : Int), j ≤ n ∧ i = .int .i64 j ∧ r = .int .i64 z ∧ Hid (z = 1048576 - (((bss xs).take j).flatten.length : Int)) ∧ 0 ≤ z ∧ z ≤ 1048576 ∧ ∃ m, wr = w.drewN m) (fun _ i _ => n - (intOf i).toNat)
 case atStart => exact ⟨0, 1048576, Nat.zero_le _, rfl, rfl, Lib.hid rfl, by omega, by omega, 0, rfl⟩
 case round =>
  obtain ⟨j, z, hj, rfl, rfl, HZ, hz0, hz1, m, rfl⟩ := hrel
  by_cases hlt : j < n
  · have hx : j < xs.length := by rw [HN.out]; exact hlt
    obtain ⟨b, off, rfl, hcell⟩ := HA.out (by omega)
    have hc : w.cell? ⟨b, off + j, none⟩ = some (.string xs[j]) := hcell j hx
    have hxs : xs[j].size ≤ 4194304 := HSz.out _ (List.getElem_mem hx)
    have HS : Hid (((bss xs).take (j + 1)).flatten.length = ((bss xs).take j).flatten.length + xs[j].size) := Lib.hid (by rw [flat_step xs j hx, List.length_append, bs_len])
    have HFj := Lib.hid (HF.out (j + 1))
    clear hcell
    generalize xs[j] = x at hc hxs HS
    have i1 : (0 : Int) ≤ (j : Int) := by omega
    have i2 : (j : Int) < (n : Int) := by omega
    by_cases hle : z < (x.size : Int)
    · have HX : Hid (decide (T ≤ 1048576) = false) := Lib.hid (decide_eq_false (by have h1 := HFj.out; have h2 := HS.out; have h3 := HZ.out; omega))
      clear HS HFj HZ
      go_wp2_with fail
      go_ret
      exact ⟨by rw [HX.out]; rfl, below_drewN (Below.refl _ _) _⟩
    · have HZ2 : Hid (z - (x.size : Int) = 1048576 - (((bss xs).take (j + 1)).flatten.length : Int)) := Lib.hid (by have h2 := HS.out; have h3 := HZ.out; omega)
      clear HS HFj HZ
      go_wp2_with fail
      go_roundw
      case rel => exact ⟨j + 1, z - (x.size : Int), by omega, by go_num, rfl, HZ2, by omega, by omega, m, rfl⟩
      case measure => simp [intOf]; omega
  · obtain rfl : j = n := by omega
    have hd : decide (j < j) = false := by simp only [decide_eq_false_iff_not]; omega
    have HX : Hid (decide (T ≤ 1048576) = true) := Lib.hid (decide_eq_true (by have h2 := HTo.out; have h3 := HZ.out; omega))
    go_wp2_with fail
    go_ret
    exact ⟨by rw [HX.out]; rfl, below_drewN (Below.refl _ _) _⟩
theorem join_flat (l : List (List UInt8)) : Lib.join l [] = l.flatten := by
 unfold Lib.join List.intercalate
 induction l with
 | nil => rfl
 | cons x r ih =>
   cases r with
   | nil => simp
   | cons y r => rw [List.intersperse_cons_cons, List.flatten_cons, List.flatten_cons, ih]; rfl
theorem StrJoin_any (v : Value) (xs : List ByteArray) (w : World) (h : RdS w v xs) (hl : xs.length ≤ 4096) (ht : total xs ≤ 1048576) :
 Calls Tryz.prog 63 #[v, .string ⟨#[]⟩] w fun e w' => e = .returned (.string ⟨(bss xs).flatten.toArray⟩) ∧ Below w.heap.size w w' := by
 obtain ⟨A, c, rfl, ⟨hcap, _⟩, hA⟩ := h
 by_cases h0 : xs = []
 · subst h0
   exact (Tryz.strings_Join_none A c ⟨#[]⟩ w).mono fun e w' ⟨h1, h2⟩ => ⟨h1, by subst h2; exact Below.refl _ _⟩
 · have hp : 0 < xs.length := List.length_pos_iff.2 h0
   obtain ⟨b, off, rfl, hcell⟩ := hA hp
   have hj : Lib.join (xs.map (·.data.toList)) (ByteArray.mk #[]).data.toList = (bss xs).flatten := join_flat _
   have := Tryz.strings_Join b off c xs ⟨#[]⟩ w (fun j x hx => by
    obtain ⟨hj, e⟩ := List.getElem?_eq_some_iff.1 hx
    rw [← e]; exact hcell j hj) (cell_lt (hcell 0 hp)) (by omega) hcap (by rw [hj]; unfold total at ht; omega)
   rw [hj] at this
   exact this
def joinF (l : List ByteArray) : ByteArray × Int :=
 if isListF (bss l) = false then (⟨#[]⟩, 2) else if 1048576 < total l ∨ 4096 < l.length then (⟨#[]⟩, 1) else (⟨(bss l).flatten.toArray⟩, 0)
def JgPost (w : World) (l : List ByteArray) (e : Ending) (w' : World) : Prop :=
 e = .returned (.tuple #[.string (joinF l).1, .int .i64 (joinF l).2]) ∧ Below w.heap.size w w'
set_option maxRecDepth 100000 in
set_option maxHeartbeats 2000000 in
theorem JoinG_any (v : Value) (xs : List ByteArray) (w : World) (h : RdS w v xs) (hl : xs.length ≤ 1048576) (hsz : ∀ x ∈ xs, x.size ≤ 4194304) :
 Calls Tryz.prog 36 #[v] w (JgPost w xs) := by
 have HR := Lib.hid h
 obtain ⟨A, c, rfl, _, _⟩ := h
 have H1 := Lib.hid (isList_any _ xs w HR.out hl hsz)
 have H3 : Hid (∀ w', Below w.heap.size w w' → Calls Tryz.prog 62 #[.slice A xs.length c] w' fun e w'' => e = .returned (.bool (decide (total xs ≤ 1048576))) ∧ Below w'.heap.size w' w'') :=
  Lib.hid (fun w' hb => fitsG_any _ xs w' (HR.out.below hb) hl hsz)
 cases hi : isListF (bss xs) with
 | false =>
   have HJ : Hid (∀ w', Below w.heap.size w w' → JgPost w xs (.returned (.tuple #[.string ⟨#[]⟩, .int .i64 2])) w') := Lib.hid (fun w' h2 => ⟨by unfold joinF; rw [if_pos hi], h2⟩)
   rw [hi] at H1
   clear hi hsz H3
   go_enter Tryz.func36, Tryz.ntmps36
   go_wp2_with (go_at_call 61; refine H1.out.mono ?_; rintro e w1 ⟨rfl, hb⟩)
   go_ret2
   exact HJ.out _ hb
 | true =>
   rw [hi] at H1
   by_cases hl2 : (4096 : Int) < (xs.length : Int)
   · have HJ : Hid (∀ w', Below w.heap.size w w' → JgPost w xs (.returned (.tuple #[.string ⟨#[]⟩, .int .i64 1])) w') := Lib.hid (fun w' h2 => ⟨by unfold joinF; rw [if_neg (by rw [hi]; decide), if_pos (.inr (by omega))], h2⟩)
     clear hi hsz H3
     go_enter Tryz.func36, Tryz.ntmps36
     go_wp2_with (go_at_call 61; refine H1.out.mono ?_; rintro e w1 ⟨rfl, hb⟩)
     go_ret2
     exact HJ.out _ hb
   · by_cases ht : total xs ≤ 1048576
     · have H2 : Hid (∀ w', Below w.heap.size w w' → Calls Tryz.prog 63 #[.slice A xs.length c, .string ⟨#[]⟩] w' fun e w'' => e = .returned (.string ⟨(bss xs).flatten.toArray⟩) ∧ Below w'.heap.size w' w'') :=
        Lib.hid (fun w' hb => StrJoin_any _ xs w' (HR.out.below hb) (by omega) (by omega))
       have HJ : Hid (∀ w', Below w.heap.size w w' → JgPost w xs (.returned (.tuple #[.string ⟨(bss xs).flatten.toArray⟩, .int .i64 0])) w') := Lib.hid (fun w' h2 => ⟨by unfold joinF; rw [if_neg (by rw [hi]; decide), if_neg (by omega)], h2⟩)
       rw [decide_eq_true ht] at H3
       generalize ByteArray.mk (bss xs).flatten.toArray = J at H2 HJ
       clear hi hsz ht
       go_enter Tryz.func36, Tryz.ntmps36
       go_wp2_with (first
        | (go_at_call 61; refine H1.out.mono ?_; rintro e w1 ⟨rfl, hb⟩)
        | (go_at_call 62; refine (H3.out _ hb).mono ?_; rintro e w2 ⟨rfl, hb2⟩; have hb3 := hb.trans (hb2.mono hb.size))
        | (go_at_call 63; refine (H2.out _ hb3).mono ?_; rintro e w4 ⟨rfl, hb4⟩))
       go_ret2
       exact HJ.out _ (hb3.trans (hb4.mono hb3.size))
     · have HJ : Hid (∀ w', Below w.heap.size w w' → JgPost w xs (.returned (.tuple #[.string ⟨#[]⟩, .int .i64 1])) w') := Lib.hid (fun w' h2 => ⟨by unfold joinF; rw [if_neg (by rw [hi]; decide), if_pos (.inl (by omega))], h2⟩)
       rw [decide_eq_false ht] at H3
       clear hi hsz ht
       go_enter Tryz.func36, Tryz.ntmps36
       go_wp2_with (first
        | (go_at_call 61; refine H1.out.mono ?_; rintro e w1 ⟨rfl, hb⟩)
        | (go_at_call 62; refine (H3.out _ hb).mono ?_; rintro e w2 ⟨rfl, hb2⟩; have hb3 := hb.trans (hb2.mono hb.size)))
       go_ret2
       exact HJ.out _ hb3
end Tx
end
end Go.Proofs.YtjecfmbecgpbmaaGreatDoor

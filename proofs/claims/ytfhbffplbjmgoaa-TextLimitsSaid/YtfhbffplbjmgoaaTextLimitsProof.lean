/-
  Proved: the law TextLimits of layer 2 returns true for every input, and its arguments read as before. No conditions.
-/
import Derived.Test.YtfhbffplbjmgoaaTextFrame
import Derived.Test.YtfhbffplbjmgoaaTextAppend
import Derived.Deep.OwnRows
namespace Go.Proofs.Ytfhbffplbjmgoaa
open Go.ChangeShapes Go.WideShapes Go.ChangeAt Go.RowKit
open Go.ChangeMaps (open_string shut_string)
namespace Tx.TextLimits
theorem lines_lfs (n : Nat) : (linesF (List.replicate n 10)).length = n := by
  induction n with
  | zero => rfl
  | succ n ih => rw [List.replicate_succ, linesF_lf, List.length_cons, ih]
theorem lines_zeros (n : Nat) (h : 0 < n) : (linesF (List.replicate n 0)).length = 1 := by
  rw [linesF_one _ (by intro hm; have := List.eq_of_mem_replicate hm; exact absurd this (by decide)) (by intro e; have := congrArg List.length e; rw [List.length_replicate] at this; simp at this; omega)]
  rfl
theorem check_lfs (n : Nat) (h : n ≤ 4096) : checkF (List.replicate n 10) = 0 := checkF_no _ (by rw [List.length_replicate]; omega) (by rw [lines_lfs]; exact h)
theorem check_lfs_no (n : Nat) (h : 4096 < n) : checkF (List.replicate n 10) = 1 := checkF_many _ (by rw [lines_lfs]; exact h)
theorem check_zeros (n : Nat) (h0 : 0 < n) (h : n ≤ 1048576) : checkF (List.replicate n 0) = 0 := checkF_no _ (by rw [List.length_replicate]; exact h) (by rw [lines_zeros n h0]; omega)
theorem check_zeros_no (n : Nat) (h : 1048576 < n) : checkF (List.replicate n 0) = 1 := checkF_long _ (by rw [List.length_replicate]; exact h)
/-- make of bytes. -/
theorem mk_row {ops : Array Oper} {rest : List Oper} {o : Oper} {a : Act} {Q : Exit → Act → World → Prop} {w : World} (hgd : o.guard = none) (l c : Operand) (ho : o.op = Op.makeSlice 38 l c)
    (n : Nat) (hl : a.eval l = .int .i64 (n : Int)) (hc : a.eval c = .int .i64 (n : Int)) (hn : n ≤ 2097152)
    (h : ∀ w', w'.rowIs w.heap.size 5 n (fun _ => .int .u8 0) → Below w.heap.size w w' → wpList Try.prog ops Q rest (a.put o.dst (.slice (some ⟨w.heap.size, 0, none⟩) n n)) w') : wpList Try.prog ops Q (o :: rest) a w := by
  obtain ⟨i0, hi0, hz0, hz1, hz2⟩ := info_parts info_u8
  exact wpList_make_row w hgd l c _ ho 5 i0 (.int .u8 0) Try.underlying38 hi0 hz0 hz1 rfl .i64 .i64 n hl hc (by rw [hz2]; omega) (by omega) (h _ (World.rowIs_made w _ n _) ((Below.refl _ w).alloc (Nat.le_refl _) _))
theorem conv_row {w : World} {g n : Nat} {b : UInt8} (h : w.rowIs g 5 n (fun _ => .int .u8 (b.toNat : Int))) :
    (convert 38 9 (.slice (some ⟨g, 0, none⟩) n n)).run Try.prog w = .ok (.string ⟨(List.replicate n b).toArray⟩) w := by
  have := run_convert_bytes_back (P := Try.prog) w 38 9 5 ⟨g, 0, none⟩ n (List.replicate n b) Try.underlying38 Try.underlying5 Try.underlying9 (by
    intro j hj
    rw [List.length_replicate] at hj
    rw [addr_at, Nat.zero_add, h.cell hj, List.getElem_replicate])
  rw [List.length_replicate] at this
  exact this
theorem row_below {w w' : World} {g : Nat} {t : TypeId} {n : Nat} {f : Nat → Value} (h : w.rowIs g t n f) (hb : Below w.heap.size w w') : w'.rowIs g t n f := h.of_block (hb.block _ h.lt)
set_option maxRecDepth 100000 in
set_option maxHeartbeats 4000000 in
theorem walk_false_false (w : World) : Calls Try.prog 6 #[.bool false, .bool false] w fun e w' => e = .returned (.bool true) ∧ Below w.heap.size w w' := by
  have HA := Lib.hid (fun w => awake_any w)
  obtain ⟨s, hs⟩ : ∃ s : ByteArray, s = ⟨(List.replicate 4096 10).toArray⟩ := ⟨_, rfl⟩
  have hbs : bs s = List.replicate 4096 10 := by rw [hs]
  have hsz : s.size ≤ 4194304 := by rw [hs, size_mk, List.length_replicate]; omega
  have HC : Hid (checkF (bs s) = 0) := Lib.hid (by rw [hbs]; exact check_lfs 4096 (by omega))
  have HS := Lib.hid (fun w => Split_any s w hsz)
  have HK : Hid (∀ w, Calls Try.prog 12 #[.string s] w fun e w' => e = .returned (.int .i64 0) ∧ w = w') := Lib.hid (fun w => by rw [← HC.out]; exact Check_any s w hsz)
  have HV : Hid (∀ w' g, w'.rowIs g 5 4096 (fun _ => .int .u8 10) → (convert 38 9 (.slice (some ⟨g, 0, none⟩) 4096 4096)).run Try.prog w' = .ok (.string s) w') := Lib.hid (fun w' g h => by rw [hs]; exact conv_row (b := 10) h)
  have HM0 : Hid ((linesF (bs s)).length = 4096) := Lib.hid (by rw [hbs]; exact lines_lfs 4096)
  clear hs hbs
  go_enter Try.func6, Try.ntmps6
  go_wp2_with (refine mk_row rfl (.tmp 14) (.tmp 14) rfl 4096 rfl rfl (by omega) ?_; intro w1 hr1 hb1)
  have HR1 := Lib.hid hr1
  clear hr1
  go_loopw [7] (fun i wr => ∃ k : Nat, k ≤ 4096 ∧ i = .int .i64 k ∧ Hid (wr.rowIs w.heap.size 5 4096 (fun j => if j < k then .int .u8 10 else .int .u8 0)) ∧ Below w.heap.size w wr) (fun i _ => 4096 - (intOf i).toNat)
  case atStart => exact ⟨0, Nat.zero_le _, rfl, HR1, hb1⟩
  case round =>
  obtain ⟨k, hk, rfl, HR, hnx⟩ := hrel
  by_cases hlt : (k : Int) < 4096
  · have hc0 := HR.out.cell (i := k) (by omega)
    have hf0 := HR.out.frozen k
    rw [if_neg (Nat.lt_irrefl k)] at hc0
    have HR2 : Hid ((wr.setCell ⟨w.heap.size, k, none⟩ (.int .u8 10)).rowIs w.heap.size 5 4096 (fun j => if j < k + 1 then .int .u8 10 else .int .u8 0)) := Lib.hid ((HR.out.set k (.int .u8 10)).congr (fun j _ => by
      by_cases e : j = k
      · rw [if_pos e, if_pos (by omega)]
      · rw [if_neg e]
        by_cases e2 : j < k
        · rw [if_pos e2, if_pos (by omega)]
        · rw [if_neg e2, if_neg (by omega)]))
    go_wp2_with fail
    go_roundw
    case rel => exact ⟨k + 1, by omega, by go_num, HR2, hnx.setCell (Nat.le_refl _) _⟩
    case measure => simp [intOf]; omega
  have hkn : k = 4096 := by omega
  have HRow : Hid (wr.rowIs w.heap.size 5 4096 (fun _ => .int .u8 10)) := Lib.hid (HR.out.congr (fun j hj => by rw [if_pos (by omega)]))
  have hd : decide ((k : Int) < 4096) = false := by simp only [decide_eq_false_iff_not]; exact hlt
  have hsw := hnx.size
  clear hkn hlt hb1
  have hcv := HV.out wr w.heap.size HRow.out
  have hnx4 := Lib.hid hnx
  have HR4 := Lib.hid HRow.out
  go_wp2_with fail
  refine (HS.out _).mono ?_
  rintro e w5 ⟨v5, rfl, r5, hb5⟩
  rw [HC.out]
  rw [HC.out, if_pos rfl] at r5
  obtain ⟨A5, c5, rfl, _, _⟩ := r5
  have HM : Hid ((mks (linesF (bs s))).length = 4096) := Lib.hid (by rw [mks_len]; exact HM0.out)
  generalize (mks (linesF (bs s))).length = m at HM
  have hm1 : ((m : Int) == 1) = false := by rw [HM.out]; rfl
  have hm2 : ((m : Int) == 4096) = true := by rw [HM.out]; rfl
  have hcv2 := HV.out w5 _ (row_below HR4.out hb5)
  clear hcv
  go_wp2_with (first
    | (go_at_call 12; refine (HK.out _).mono ?_; rintro e w6 ⟨rfl, rfl⟩)
    | (go_at_call 8; refine (HA.out _).mono ?_; rintro e w7 ⟨rfl, hb7⟩))
  go_ret
  have b5 := hnx4.out.trans (hb5.mono hnx4.out.size)
  exact ⟨rfl, b5.trans (hb7.mono b5.size)⟩
set_option maxRecDepth 100000 in
set_option maxHeartbeats 4000000 in
theorem walk_false_true (w : World) : Calls Try.prog 6 #[.bool false, .bool true] w fun e w' => e = .returned (.bool true) ∧ Below w.heap.size w w' := by
  have HA := Lib.hid (fun w => awake_any w)
  obtain ⟨s, hs⟩ : ∃ s : ByteArray, s = ⟨(List.replicate 1048576 0).toArray⟩ := ⟨_, rfl⟩
  have hbs : bs s = List.replicate 1048576 0 := by rw [hs]
  have hsz : s.size ≤ 4194304 := by rw [hs, size_mk, List.length_replicate]; omega
  have HC : Hid (checkF (bs s) = 0) := Lib.hid (by rw [hbs]; exact check_zeros 1048576 (by omega) (by omega))
  have HS := Lib.hid (fun w => Split_any s w hsz)
  have HK : Hid (∀ w, Calls Try.prog 12 #[.string s] w fun e w' => e = .returned (.int .i64 0) ∧ w = w') := Lib.hid (fun w => by rw [← HC.out]; exact Check_any s w hsz)
  have HV : Hid (∀ w' g, w'.rowIs g 5 1048576 (fun _ => .int .u8 0) → (convert 38 9 (.slice (some ⟨g, 0, none⟩) 1048576 1048576)).run Try.prog w' = .ok (.string s) w') := Lib.hid (fun w' g h => by rw [hs]; exact conv_row (b := 0) h)
  have HM0 : Hid ((linesF (bs s)).length = 1) := Lib.hid (by rw [hbs]; exact lines_zeros 1048576 (by omega))
  clear hs hbs
  go_enter Try.func6, Try.ntmps6
  go_wp2_with (refine mk_row rfl (.tmp 14) (.tmp 14) rfl 4096 rfl rfl (by omega) ?_; intro w1 hr1 hb1)
  have HR1 := Lib.hid hr1
  clear hr1
  go_loopw [7] (fun i wr => ∃ k : Nat, k ≤ 4096 ∧ i = .int .i64 k ∧ Hid (wr.rowIs w.heap.size 5 4096 (fun j => if j < k then .int .u8 10 else .int .u8 0)) ∧ Below w.heap.size w wr) (fun i _ => 4096 - (intOf i).toNat)
  case atStart => exact ⟨0, Nat.zero_le _, rfl, HR1, hb1⟩
  case round =>
  obtain ⟨k, hk, rfl, HR, hnx⟩ := hrel
  by_cases hlt : (k : Int) < 4096
  · have hc0 := HR.out.cell (i := k) (by omega)
    have hf0 := HR.out.frozen k
    rw [if_neg (Nat.lt_irrefl k)] at hc0
    have HR2 : Hid ((wr.setCell ⟨w.heap.size, k, none⟩ (.int .u8 10)).rowIs w.heap.size 5 4096 (fun j => if j < k + 1 then .int .u8 10 else .int .u8 0)) := Lib.hid ((HR.out.set k (.int .u8 10)).congr (fun j _ => by
      by_cases e : j = k
      · rw [if_pos e, if_pos (by omega)]
      · rw [if_neg e]
        by_cases e2 : j < k
        · rw [if_pos e2, if_pos (by omega)]
        · rw [if_neg e2, if_neg (by omega)]))
    go_wp2_with fail
    go_roundw
    case rel => exact ⟨k + 1, by omega, by go_num, HR2, hnx.setCell (Nat.le_refl _) _⟩
    case measure => simp [intOf]; omega
  have hkn : k = 4096 := by omega
  have HRow : Hid (wr.rowIs w.heap.size 5 4096 (fun _ => .int .u8 10)) := Lib.hid (HR.out.congr (fun j hj => by rw [if_pos (by omega)]))
  have hd : decide ((k : Int) < 4096) = false := by simp only [decide_eq_false_iff_not]; exact hlt
  have hsw := hnx.size
  clear hkn hlt hb1
  go_wp2_with (refine mk_row rfl (.tmp 27) (.tmp 27) rfl 1048576 rfl rfl (by omega) ?_; intro w4 hr4 hb4; have hcv := HV.out w4 _ hr4; have HR4 := Lib.hid hr4; have hnx4 := Lib.hid (hnx.trans (hb4.mono hsw)); clear hr4 hb4)
  refine (HS.out _).mono ?_
  rintro e w5 ⟨v5, rfl, r5, hb5⟩
  rw [HC.out]
  rw [HC.out, if_pos rfl] at r5
  obtain ⟨A5, c5, rfl, _, _⟩ := r5
  have HM : Hid ((mks (linesF (bs s))).length = 1) := Lib.hid (by rw [mks_len]; exact HM0.out)
  generalize (mks (linesF (bs s))).length = m at HM
  have hm1 : ((m : Int) == 1) = true := by rw [HM.out]; rfl
  have hm2 : ((m : Int) == 4096) = false := by rw [HM.out]; rfl
  have hcv2 := HV.out w5 _ (row_below HR4.out hb5)
  clear hcv
  go_wp2_with (first
    | (go_at_call 12; refine (HK.out _).mono ?_; rintro e w6 ⟨rfl, rfl⟩)
    | (go_at_call 8; refine (HA.out _).mono ?_; rintro e w7 ⟨rfl, hb7⟩))
  go_ret
  have b5 := hnx4.out.trans (hb5.mono hnx4.out.size)
  exact ⟨rfl, b5.trans (hb7.mono b5.size)⟩
set_option maxRecDepth 100000 in
set_option maxHeartbeats 4000000 in
theorem walk_true_false (w : World) : Calls Try.prog 6 #[.bool true, .bool false] w fun e w' => e = .returned (.bool true) ∧ Below w.heap.size w w' := by
  have HA := Lib.hid (fun w => awake_any w)
  obtain ⟨s, hs⟩ : ∃ s : ByteArray, s = ⟨(List.replicate 4097 10).toArray⟩ := ⟨_, rfl⟩
  have hbs : bs s = List.replicate 4097 10 := by rw [hs]
  have hsz : s.size ≤ 4194304 := by rw [hs, size_mk, List.length_replicate]; omega
  have HC : Hid (checkF (bs s) = 1) := Lib.hid (by rw [hbs]; exact check_lfs_no 4097 (by omega))
  have HS := Lib.hid (fun w => Split_any s w hsz)
  have HK : Hid (∀ w, Calls Try.prog 12 #[.string s] w fun e w' => e = .returned (.int .i64 1) ∧ w = w') := Lib.hid (fun w => by rw [← HC.out]; exact Check_any s w hsz)
  have HV : Hid (∀ w' g, w'.rowIs g 5 4097 (fun _ => .int .u8 10) → (convert 38 9 (.slice (some ⟨g, 0, none⟩) 4097 4097)).run Try.prog w' = .ok (.string s) w') := Lib.hid (fun w' g h => by rw [hs]; exact conv_row (b := 10) h)
  have HM0 : Hid ((linesF (bs s)).length = 4097) := Lib.hid (by rw [hbs]; exact lines_lfs 4097)
  clear hs hbs
  go_enter Try.func6, Try.ntmps6
  go_wp2_with (refine mk_row rfl (.tmp 14) (.tmp 14) rfl 4097 rfl rfl (by omega) ?_; intro w1 hr1 hb1)
  have HR1 := Lib.hid hr1
  clear hr1
  go_loopw [7] (fun i wr => ∃ k : Nat, k ≤ 4097 ∧ i = .int .i64 k ∧ Hid (wr.rowIs w.heap.size 5 4097 (fun j => if j < k then .int .u8 10 else .int .u8 0)) ∧ Below w.heap.size w wr) (fun i _ => 4097 - (intOf i).toNat)
  case atStart => exact ⟨0, Nat.zero_le _, rfl, HR1, hb1⟩
  case round =>
  obtain ⟨k, hk, rfl, HR, hnx⟩ := hrel
  by_cases hlt : (k : Int) < 4097
  · have hc0 := HR.out.cell (i := k) (by omega)
    have hf0 := HR.out.frozen k
    rw [if_neg (Nat.lt_irrefl k)] at hc0
    have HR2 : Hid ((wr.setCell ⟨w.heap.size, k, none⟩ (.int .u8 10)).rowIs w.heap.size 5 4097 (fun j => if j < k + 1 then .int .u8 10 else .int .u8 0)) := Lib.hid ((HR.out.set k (.int .u8 10)).congr (fun j _ => by
      by_cases e : j = k
      · rw [if_pos e, if_pos (by omega)]
      · rw [if_neg e]
        by_cases e2 : j < k
        · rw [if_pos e2, if_pos (by omega)]
        · rw [if_neg e2, if_neg (by omega)]))
    go_wp2_with fail
    go_roundw
    case rel => exact ⟨k + 1, by omega, by go_num, HR2, hnx.setCell (Nat.le_refl _) _⟩
    case measure => simp [intOf]; omega
  have hkn : k = 4097 := by omega
  have HRow : Hid (wr.rowIs w.heap.size 5 4097 (fun _ => .int .u8 10)) := Lib.hid (HR.out.congr (fun j hj => by rw [if_pos (by omega)]))
  have hd : decide ((k : Int) < 4097) = false := by simp only [decide_eq_false_iff_not]; exact hlt
  have hsw := hnx.size
  clear hkn hlt hb1
  have hcv := HV.out wr w.heap.size HRow.out
  have hnx4 := Lib.hid hnx
  have HR4 := Lib.hid HRow.out
  go_wp2_with fail
  refine (HS.out _).mono ?_
  rintro e w5 ⟨v5, rfl, r5, hb5⟩
  rw [HC.out]
  rw [HC.out, if_neg (by decide)] at r5
  obtain ⟨A5, c5, rfl, _, _⟩ := r5
  have hcv2 := HV.out w5 _ (row_below HR4.out hb5)
  clear hcv
  go_wp2_with (first
    | (go_at_call 12; refine (HK.out _).mono ?_; rintro e w6 ⟨rfl, rfl⟩)
    | (go_at_call 8; refine (HA.out _).mono ?_; rintro e w7 ⟨rfl, hb7⟩))
  go_ret
  have b5 := hnx4.out.trans (hb5.mono hnx4.out.size)
  exact ⟨rfl, b5.trans (hb7.mono b5.size)⟩
set_option maxRecDepth 100000 in
set_option maxHeartbeats 4000000 in
theorem walk_true_true (w : World) : Calls Try.prog 6 #[.bool true, .bool true] w fun e w' => e = .returned (.bool true) ∧ Below w.heap.size w w' := by
  have HA := Lib.hid (fun w => awake_any w)
  obtain ⟨s, hs⟩ : ∃ s : ByteArray, s = ⟨(List.replicate 1048577 0).toArray⟩ := ⟨_, rfl⟩
  have hbs : bs s = List.replicate 1048577 0 := by rw [hs]
  have hsz : s.size ≤ 4194304 := by rw [hs, size_mk, List.length_replicate]; omega
  have HC : Hid (checkF (bs s) = 1) := Lib.hid (by rw [hbs]; exact check_zeros_no 1048577 (by omega))
  have HS := Lib.hid (fun w => Split_any s w hsz)
  have HK : Hid (∀ w, Calls Try.prog 12 #[.string s] w fun e w' => e = .returned (.int .i64 1) ∧ w = w') := Lib.hid (fun w => by rw [← HC.out]; exact Check_any s w hsz)
  have HV : Hid (∀ w' g, w'.rowIs g 5 1048577 (fun _ => .int .u8 0) → (convert 38 9 (.slice (some ⟨g, 0, none⟩) 1048577 1048577)).run Try.prog w' = .ok (.string s) w') := Lib.hid (fun w' g h => by rw [hs]; exact conv_row (b := 0) h)
  have HM0 : Hid ((linesF (bs s)).length = 1) := Lib.hid (by rw [hbs]; exact lines_zeros 1048577 (by omega))
  clear hs hbs
  go_enter Try.func6, Try.ntmps6
  go_wp2_with (refine mk_row rfl (.tmp 14) (.tmp 14) rfl 4097 rfl rfl (by omega) ?_; intro w1 hr1 hb1)
  have HR1 := Lib.hid hr1
  clear hr1
  go_loopw [7] (fun i wr => ∃ k : Nat, k ≤ 4097 ∧ i = .int .i64 k ∧ Hid (wr.rowIs w.heap.size 5 4097 (fun j => if j < k then .int .u8 10 else .int .u8 0)) ∧ Below w.heap.size w wr) (fun i _ => 4097 - (intOf i).toNat)
  case atStart => exact ⟨0, Nat.zero_le _, rfl, HR1, hb1⟩
  case round =>
  obtain ⟨k, hk, rfl, HR, hnx⟩ := hrel
  by_cases hlt : (k : Int) < 4097
  · have hc0 := HR.out.cell (i := k) (by omega)
    have hf0 := HR.out.frozen k
    rw [if_neg (Nat.lt_irrefl k)] at hc0
    have HR2 : Hid ((wr.setCell ⟨w.heap.size, k, none⟩ (.int .u8 10)).rowIs w.heap.size 5 4097 (fun j => if j < k + 1 then .int .u8 10 else .int .u8 0)) := Lib.hid ((HR.out.set k (.int .u8 10)).congr (fun j _ => by
      by_cases e : j = k
      · rw [if_pos e, if_pos (by omega)]
      · rw [if_neg e]
        by_cases e2 : j < k
        · rw [if_pos e2, if_pos (by omega)]
        · rw [if_neg e2, if_neg (by omega)]))
    go_wp2_with fail
    go_roundw
    case rel => exact ⟨k + 1, by omega, by go_num, HR2, hnx.setCell (Nat.le_refl _) _⟩
    case measure => simp [intOf]; omega
  have hkn : k = 4097 := by omega
  have HRow : Hid (wr.rowIs w.heap.size 5 4097 (fun _ => .int .u8 10)) := Lib.hid (HR.out.congr (fun j hj => by rw [if_pos (by omega)]))
  have hd : decide ((k : Int) < 4097) = false := by simp only [decide_eq_false_iff_not]; exact hlt
  have hsw := hnx.size
  clear hkn hlt hb1
  go_wp2_with (refine mk_row rfl (.tmp 27) (.tmp 27) rfl 1048577 rfl rfl (by omega) ?_; intro w4 hr4 hb4; have hcv := HV.out w4 _ hr4; have HR4 := Lib.hid hr4; have hnx4 := Lib.hid (hnx.trans (hb4.mono hsw)); clear hr4 hb4)
  refine (HS.out _).mono ?_
  rintro e w5 ⟨v5, rfl, r5, hb5⟩
  rw [HC.out]
  rw [HC.out, if_neg (by decide)] at r5
  obtain ⟨A5, c5, rfl, _, _⟩ := r5
  have hcv2 := HV.out w5 _ (row_below HR4.out hb5)
  clear hcv
  go_wp2_with (first
    | (go_at_call 12; refine (HK.out _).mono ?_; rintro e w6 ⟨rfl, rfl⟩)
    | (go_at_call 8; refine (HA.out _).mono ?_; rintro e w7 ⟨rfl, hb7⟩))
  go_ret
  have b5 := hnx4.out.trans (hb5.mono hnx4.out.size)
  exact ⟨rfl, b5.trans (hb7.mono b5.size)⟩
theorem walk (more wide : Bool) (w : World) : Calls Try.prog 6 #[.bool more, .bool wide] w fun e w' => e = .returned (.bool true) ∧ Below w.heap.size w w' := by
  cases more <;> cases wide
  · exact walk_false_false w
  · exact walk_false_true w
  · exact walk_true_false w
  · exact walk_true_true w
set_option maxRecDepth 100000 in
theorem lifted (os : Os) (started : os.Started) (H : Type) (enc : TypeId × Value → H) :
    ReturnsInHanded {} Try.checked os 6 .any (Rows.textLimitsSpec.pre6 enc Try.prog Try.f6 Rows.textLimitsRow.domain false) (Rows.textLimitsSpec.post enc Try.prog Try.f6 false true false false) := by
  refine returnsInHanded_of_change (C := Try.checked) own started (by kernel_rfl) Try.func6
    (ChangeSpec.witness6 (enc := enc) (C := Try.checked) false ⟨#[], #[.bool false, .bool false], []⟩ 8 (by kernel_rfl) (by kernel_rfl) (by kernel_rfl) (by kernel_rfl)) ?_
  intro W base args ds gs before hval0 hW _ _
  have hval : ∀ (j : Nat) t v, Try.f6.params[j]? = some t → args[j]? = some v → Value.okWide Try.prog W .any base t v := hval0
  have hW' := hW
  obtain ⟨p, q, hA0, hV, rfl, hfz, hnd⟩ := hW
  have hA : DataW.TrodAll enc Try.prog W 0 (fun _ => true) true Try.f6.params.toList args.toList ds p := hA0
  rw [Try.params6] at hA hval
  obtain ⟨v0, v1, d0, d1, p0, p1, rfl, rfl, rfl, h0, h1⟩ := trodAll_two hA
  obtain ⟨rfl, rfl⟩ := trodVars_none hV
  obtain ⟨more, rfl, rfl, rfl⟩ := open_bool Try.underlying4 (hval 0 4 v0 rfl rfl) h0
  obtain ⟨wide, rfl, rfl, rfl⟩ := open_bool Try.underlying4 (hval 1 4 v1 rfl rfl) h1
  clear hA0 hval0
  simp only [List.append_nil] at hW'
  refine (walk more wide W ).mono fun e W' ⟨he, hbel⟩ => ?_
  subst he
  exact ⟨_, rfl, _, _, _, [], _, [], hW', trodAll_mk1 (shut_bool Try.underlying4 _), trodAll_mk2 (shut_bool Try.underlying4 more) (shut_bool Try.underlying4 wide), rfl, hbel.frame _, fun h => by cases h⟩
theorem row_holds : Rows.TextLimitsSaid :=
  OpenClaim.holds_of_wide 6 Try.f6 rfl rfl rfl rfl rfl rfl rfl ⟨rfl, rfl, rfl, rfl, rfl⟩ rfl rfl rfl rfl rfl (by kernel_rfl) Try.func6 (by kernel_rfl)
    (of_decide_eq_true (by kernel_rfl)) (by unfold Func.isWrapper; first | (rw [if_pos (by decide +kernel)]; kernel_rfl) | (rw [if_neg (by decide +kernel)]; exact ⟨rfl, rfl⟩))
    (fun os started H enc _ => lifted os started H enc)
end Tx.TextLimits
end Go.Proofs.Ytfhbffplbjmgoaa

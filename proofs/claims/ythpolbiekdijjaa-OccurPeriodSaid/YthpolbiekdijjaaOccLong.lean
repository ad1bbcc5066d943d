/-
  Walks of layer 7: the function that finds the longest prefix that ends a text once a byte follows, and Borders. Condition: the needle has at most 2^22 bytes.
-/
import Derived.Test.YthpolbiekdijjaaComInts
import Derived.Test.YthpolbiekdijjaaOccMath
import Derived.StillTailTactics
import Derived.Deep.OwnRows
namespace Go.Proofs.Ythpolbiekdijjaa
open Go.RowKit
namespace Oc
open Tx Cm
theorem get_some {s : ByteArray} {j : Nat} (h : j < s.size) {b : UInt8} (hb : s[j] = b) : (bs s)[j]? = some b := by rw [bs_get? s j h, hb]
theorem get_ne {s : ByteArray} {j : Nat} (h : j < s.size) {b : UInt8} (hb : s[j] ≠ b) : (bs s)[j]? ≠ some b := by
  rw [bs_get? s j h]; intro e; injection e with e; exact hb e
theorem beq_of {a b : UInt8} (h : a = b) : ((a.toNat : Int) == (b.toNat : Int)) = true ∧ ((a.toNat : Int) != (b.toNat : Int)) = false := by subst h; simp
theorem bne_of {a b : UInt8} (h : a ≠ b) : ((a.toNat : Int) == (b.toNat : Int)) = false ∧ ((a.toNat : Int) != (b.toNat : Int)) = true := by
  have : (a.toNat : Int) ≠ (b.toNat : Int) := fun e => h (UInt8.toNat_inj.1 (by omega))
  simp [this]
set_option maxRecDepth 100000 in
set_option maxHeartbeats 1000000 in
theorem longest_any (s : ByteArray) (v : Value) (L : List Int) (m : Nat) (b : UInt8) (w : World) (hs : s.size ≤ 4194304) (hv : RdV w v (intsV L)) (hm : m < s.size)
    (hL : ∀ j, j < m → L[j]? = some (bordF (bs s) (j + 1) : Int)) :
    Calls Try.prog 26 #[.string s, v, .int .i64 m, .int .u8 b.toNat] w fun e w' => e = .returned (.int .i64 (longF (bs s) m b : Int)) ∧ w = w' := by
  obtain ⟨A, c, rfl, hc⟩ := hv
  have hlen := intsV_len L
  have HCell : Hid (∀ j, j < m → j < (intsV L).length ∧ ∃ b1 o1, A = some ⟨b1, o1, none⟩ ∧ w.cell? ⟨b1, o1 + j, none⟩ = some (.int .i64 (bordF (bs s) (j + 1)))) := Lib.hid (fun j hj => by
    have h1 := hL j hj
    obtain ⟨h2, h3⟩ := List.getElem?_eq_some_iff.1 h1
    obtain ⟨b1, o1, e, h4⟩ := hc.2 (by omega)
    refine ⟨by omega, b1, o1, e, ?_⟩
    rw [h4 j (by omega)]; simp [intsV, h3])
  clear hc hL hlen
  generalize (intsV L).length = len at HCell
  have h0 := LongI.start (n := bs s) (m := m) b (by rw [bs_len]; omega)
  go_enter Try.func26, Try.ntmps26
  go_wp2_with fail
  go_loop [2] (fun t => ∃ j : Nat, t = .int .i64 j ∧ j ≤ m ∧ Hid (LongI (bs s) m b j)) (fun t => (intOf t).toNat)
  case atStart => exact ⟨m, rfl, Nat.le_refl _, Lib.hid h0⟩
  case round =>
    obtain ⟨j, rfl, hj, HI⟩ := hrel
    have hjs : j < s.size := by omega
    clear h0
    by_cases e : s[j] = b
    · obtain ⟨e1, e2⟩ := beq_of e
      have HP := Lib.hid (HI.out.yes (get_some hjs e))
      clear e
      by_cases hp : 0 < j
      · have hd : decide ((0 : Int) < (j : Int)) = true := by simp only [decide_eq_true_eq]; omega
        go_wp2_with fail
        go_ret
        exact ⟨ret_int (by rw [longF_eq HP.out]; rfl), rfl⟩
      · obtain rfl : j = 0 := by omega
        go_wp2_with fail
        go_ret
        exact ⟨ret_int (by rw [longF_eq HP.out]; rfl), rfl⟩
    · obtain ⟨e1, e2⟩ := bne_of e
      cases j with
      | zero =>
        have HP := Lib.hid (HI.out.no (get_ne hjs e))
        clear e
        go_wp2_with fail
        go_ret
        exact ⟨ret_int (by rw [longF_eq HP.out]; rfl), rfl⟩
      | succ i =>
        have HN := Lib.hid (HI.out.step (by omega) (get_ne hjs e))
        clear e
        obtain ⟨hil, b1, o1, rfl, hcell⟩ := HCell.out i (by omega)
        have hle : bordF (bs s) (i + 1) ≤ i := by have := bordF_lt (bs s) (k := i + 1) (by omega); omega
        generalize bordF (bs s) (i + 1) = q at HN hcell hle
        rw [show ((i + 1 : Nat) : Int) = (i : Int) + 1 from rfl]
        go_wp2_with fail
        go_round
        case rel => exact ⟨q, rfl, by omega, HN⟩
        case measure => simp [intOf]; omega
abbrev tInt : TypeId := 3
theorem info_int : (Try.prog.info? 3).map (fun i => (i.zero, i.size, i.bytes)) = some (some (.int .i64 0), 1, 8) := by kernel_rfl
/-- make of ints. -/
theorem mk_ints {ops : Array Oper} {rest : List Oper} {o : Oper} {a : Act} {Q : Exit → Act → World → Prop} {w : World} (hgd : o.guard = none) (l c : Operand) (ho : o.op = Op.makeSlice 22 l c)
    (n : Nat) (hl : a.eval l = .int .i64 (n : Int)) (hc : a.eval c = .int .i64 (n : Int)) (hn : n ≤ 4194304)
    (h : ∀ w', w'.rowIs w.heap.size tInt n (fun _ => .int .i64 0) → Below w.heap.size w w' → wpList Try.prog ops Q rest (a.put o.dst (.slice (some ⟨w.heap.size, 0, none⟩) n n)) w') : wpList Try.prog ops Q (o :: rest) a w := by
  obtain ⟨i0, hi0, hz0, hz1, hz2⟩ := info_parts info_int
  exact wpList_make_row w hgd l c _ ho tInt i0 (.int .i64 0) Try.underlying22 hi0 hz0 hz1 rfl .i64 .i64 n hl hc (by rw [hz2]; omega) (by omega) (h _ (World.rowIs_made w _ n _) ((Below.refl _ w).alloc (Nat.le_refl _) _))
/-- The borders so far. -/
def bordI (n : List UInt8) (k i : Nat) : Int := if i < k then (bordF n (i + 1) : Int) else 0
abbrev rowBd (n : List UInt8) (k : Nat) : Nat → Value := fun i => .int .i64 (bordI n k i)
theorem rd_row {w : World} {G n : Nat} {t : TypeId} {f : Nat → Int} (h : w.rowIs G t n (fun i => .int .i64 (f i))) : RdV w (.slice (some ⟨G, 0, none⟩) n n) (intsV ((List.range n).map f)) := by
  refine ⟨_, _, by rw [intsV_len, List.length_map, List.length_range], ⟨by rw [intsV_len, List.length_map, List.length_range]; exact Nat.le_refl _, fun e => by cases e⟩, fun _ => ⟨G, 0, rfl, fun j hj => ?_⟩⟩
  rw [intsV_len, List.length_map, List.length_range] at hj
  rw [Nat.zero_add, h.cell hj]
  simp [intsV]
theorem row_get {n : List UInt8} {k N m : Nat} (hk : m ≤ k) (hN : m ≤ N) : ∀ j, j < m → ((List.range N).map (bordI n k))[j]? = some (bordF n (j + 1) : Int) := fun j hj => by
  rw [List.getElem?_map, List.getElem?_range (by omega)]
  show some (bordI n k j) = _
  unfold bordI; rw [if_pos (by omega)]
def BordPost (n : List UInt8) (w : World) (e : Ending) (w' : World) : Prop :=
  ∃ G, e = .returned (.slice (some ⟨G, 0, none⟩) n.length n.length) ∧ w.heap.size ≤ G ∧ w'.rowIs G tInt n.length (rowBd n n.length) ∧ Below w.heap.size w w'
set_option maxRecDepth 100000 in
set_option maxHeartbeats 2000000 in
theorem Borders_any (s : ByteArray) (w : World) (hs : s.size ≤ 4194304) :
    Calls Try.prog 18 #[.string s] w (BordPost (bs s) w) := by
  go_enter Try.func18, Try.ntmps18
  go_wp2_with (refine mk_ints rfl (.tmp 6) (.tmp 6) rfl s.size rfl rfl (by omega) ?_; intro w4 hr4 hb4; have HR4 := Lib.hid hr4; have HB4 := Lib.hid hb4; clear hr4 hb4)
  go_loopw [4] (fun i wr => ∃ k : Nat, 1 ≤ k ∧ (k ≤ s.size ∨ k = 1) ∧ i = .int .i64 (k : Int) ∧ Hid (wr.rowIs w.heap.size tInt s.size (rowBd (bs s) k)) ∧ Hid (Below w.heap.size w wr)) (fun i _ => s.size - (intOf i).toNat)
  case atStart => exact ⟨1, Nat.le_refl _, .inr rfl, by go_num, Lib.hid (HR4.out.congr (fun j _ => by
      show Value.int .i64 0 = .int .i64 (bordI (bs s) 1 j)
      unfold bordI
      by_cases e : j < 1
      · obtain rfl : j = 0 := by omega
        rw [if_pos (by omega), bordF_eq (isB_one _)]; rfl
      · rw [if_neg e])), HB4⟩
  case round =>
    obtain ⟨k, hk1, hk2, rfl, HRow, HB⟩ := hrel
    by_cases hlt : k < s.size
    · obtain ⟨i, rfl⟩ : ∃ i, k = i + 1 := ⟨k - 1, by omega⟩
      have hc1 := HRow.out.cell (i := i) (by omega)
      have hc2 := HRow.out.cell (i := i + 1) hlt
      have hf1 := HRow.out.frozen (i + 1)
      have hbl := bordF_lt (bs s) (k := i + 1) (by omega)
      have HSt : Hid (bordF (bs s) (i + 1 + 1) = longF (bs s) (bordF (bs s) (i + 1)) s[i + 1]) := Lib.hid (bordF_step (by omega) (by rw [bs_len]; exact hlt))
      have e1 : bordI (bs s) (i + 1) i = (bordF (bs s) (i + 1) : Int) := by unfold bordI; rw [if_pos (by omega)]
      have HL := Lib.hid (longest_any s (.slice (some ⟨w.heap.size, 0, none⟩) s.size s.size) _ (bordF (bs s) (i + 1)) s[i + 1] wr.drew hs (rd_row HRow.out.drew) (by omega) (row_get (by omega) (by omega)))
      have HRow2 : Hid (∀ W : World, W.rowIs w.heap.size tInt s.size (rowBd (bs s) (i + 1)) → (W.setCell ⟨w.heap.size, i + 1, none⟩ (.int .i64 (longF (bs s) (bordF (bs s) (i + 1)) s[i + 1] : Int))).rowIs w.heap.size tInt s.size (rowBd (bs s) (i + 1 + 1))) := Lib.hid (fun W hW => (hW.set (i + 1) _).congr (fun j _ => by
        unfold rowBd bordI
        by_cases e : j = i + 1
        · subst e; rw [if_pos rfl, if_pos (by omega), HSt.out]
        · rw [if_neg e]
          by_cases e2 : j < i + 1
          · rw [if_pos e2, if_pos (by omega)]
          · rw [if_neg e2, if_neg (by omega)]))
      have hc1' : wr.cell? ⟨w.heap.size, i, none⟩ = some (.int .i64 (bordF (bs s) (i + 1) : Int)) := by rw [hc1]; show some (Value.int .i64 (bordI (bs s) (i + 1) i)) = _; rw [e1]
      clear hc1 e1
      generalize bordF (bs s) (i + 1) = q at hc1' hbl HL HRow2
      generalize longF (bs s) q s[i + 1] = r at HL HRow2
      have i1 : (0 : Int) ≤ (i : Int) := by omega
      have i2 : (i : Int) < (s.size : Int) := by omega
      have i3 : (i : Int) + 1 < (s.size : Int) := by omega
      have i5 : (0 : Int) ≤ (i : Int) + 1 := by omega
      have i4 : IntKind.i64.wrap (i : Int) = (i : Int) := IntWalk.i64_in _ (by omega)
      rw [show ((i + 1 : Nat) : Int) = (i : Int) + 1 from rfl]
      go_wp2_with fail
      go_still_tail 14, (by kernel_rfl)
      still_call (HL.out.mono fun _ _ h => ⟨h.1, h.2.symm⟩)
      repeat still_step
      refine wpStill_nil ?_
      change wpList _ _ _ _ _ wr.drew
      have HR5 := Lib.hid (HRow2.out _ HRow.out.drew)
      have c5 := hc2
      rw [← World.cell?_drew] at c5
      have HB5 := Lib.hid (HB.out.drew.setCell (p := ⟨w.heap.size, i + 1, none⟩) (Nat.le_refl _) (.int .i64 (r : Int)))
      clear HL hc1' hc2 i4 HRow2
      go_wp2_with fail
      go_roundw
      case rel => exact ⟨i + 1 + 1, by omega, by omega, by go_num, HR5, HB5⟩
      case measure => simp [intOf]; omega
    · have hd : decide (k < s.size) = false := by simp only [decide_eq_false_iff_not]; omega
      go_wp2_with fail
      go_ret
      exact ⟨_, rfl, Nat.le_refl _, HRow.out.congr (fun j hj => by
        have h9 := bs_len s
        show Value.int .i64 (bordI (bs s) k j) = .int .i64 (bordI (bs s) (bs s).length j)
        unfold bordI
        rw [if_pos (by omega), if_pos (by omega)]), HB.out⟩
end Oc
end Go.Proofs.Ythpolbiekdijjaa

/-
  The program's sets of bytes: span, with, complement. No conditions.
-/
import Derived.Test.YtgadomcbaenodaaRegexPs
namespace Go.Proofs.Ytgadomcbaenodaa
open Go.RowKit
namespace Rx
open Cm
abbrev tBs : TypeId := 128
def spanM (f l : Nat) : Nat → Bool := fun x => decide (f ≤ x) && decide (x ≤ l)
def upM (f b : Nat) : Nat → Bool := fun x => decide (f ≤ x) && decide (x < b)
theorem upM_succ {f b : Nat} (h : f ≤ b) : upM f (b + 1) = putM (upM f b) b := by
  funext x
  unfold upM putM
  rw [Bool.eq_iff_iff]
  simp only [Bool.or_eq_true, Bool.and_eq_true, decide_eq_true_eq, beq_iff_eq]
  omega
theorem upM_end (f l : Nat) : upM f (l + 1) = spanM f l := by
  funext x
  unfold upM spanM
  rw [Bool.eq_iff_iff]
  simp only [Bool.and_eq_true, decide_eq_true_eq]
  omega
theorem upM_none (f : Nat) (j : Nat) : word (upM f f) j = 0 := by
  have : upM f f = fun _ => false := by
    funext x
    unfold upM
    rw [Bool.eq_iff_iff]
    simp
  rw [this, word_none]
abbrev rowS (m : Nat → Bool) : Obj := .cells #[.int .u64 (word m 0 : Nat), .int .u64 (word m 1 : Nat), .int .u64 (word m 2 : Nat), .int .u64 (word m 3 : Nat)] tBs
abbrev zeroS : Obj := .cells #[.int .u64 0, .int .u64 0, .int .u64 0, .int .u64 0] tBs
/-- A set in a block of its own, behind the result's. -/
def SetAt (w wr : World) (m : Nat → Bool) : Prop := Below w.heap.size w wr ∧ wr.heap[w.heap.size + 1]? = some (rowS m) ∧ wr.heap[w.heap.size]? = some zeroS
theorem drewN_heap (w : World) (q : Nat) : (w.drewN q).heap = w.heap := by
  induction q with
  | zero => rfl
  | succ q ih => exact ih
theorem SetAt.drewN {w wr : World} {m : Nat → Bool} (h : SetAt w wr m) (q : Nat) : SetAt w (wr.drewN q) m :=
  ⟨below_drewN h.1 q, by rw [drewN_heap]; exact h.2.1, by rw [drewN_heap]; exact h.2.2⟩
theorem SetAt.cells {w wr : World} {m : Nat → Bool} (h : SetAt w wr m) : wr.cell? ⟨w.heap.size + 1, 0, none⟩ = some (.int .u64 (word m 0 : Nat)) ∧ wr.cell? ⟨w.heap.size + 1, 1, none⟩ = some (.int .u64 (word m 1 : Nat)) ∧ wr.cell? ⟨w.heap.size + 1, 2, none⟩ = some (.int .u64 (word m 2 : Nat)) ∧ wr.cell? ⟨w.heap.size + 1, 3, none⟩ = some (.int .u64 (word m 3 : Nat)) ∧ ∀ j, wr.frozen? ⟨w.heap.size + 1, j, none⟩ = false := by
  have hh := h.2.1
  refine ⟨?_, ?_, ?_, ?_, fun j => ?_⟩
  · simp [World.cell?, hh]
  · simp [World.cell?, hh]
  · simp [World.cell?, hh]
  · simp [World.cell?, hh]
  · simp [World.frozen?, hh]
theorem SetAt.zeros {w wr : World} {m : Nat → Bool} (h : SetAt w wr m) : (wr.cell? ⟨w.heap.size, 0, none⟩ = some (.int .u64 0) ∧ wr.cell? ⟨w.heap.size, 1, none⟩ = some (.int .u64 0) ∧ wr.cell? ⟨w.heap.size, 2, none⟩ = some (.int .u64 0) ∧ wr.cell? ⟨w.heap.size, 3, none⟩ = some (.int .u64 0)) ∧ wr.frozen? ⟨w.heap.size, 0, none⟩ = false ∧ wr.frozen? ⟨w.heap.size, 1, none⟩ = false ∧ wr.frozen? ⟨w.heap.size, 2, none⟩ = false ∧ wr.frozen? ⟨w.heap.size, 3, none⟩ = false := by
  have hh := h.2.2
  simp [World.cell?, World.frozen?, hh]
/-- The result is copied. -/
theorem SetAt.done {w wr : World} {m : Nat → Bool} (h : SetAt w wr m) {a b c d : Value} (e0 : a = .int .u64 (word m 0 : Nat)) (e1 : b = .int .u64 (word m 1 : Nat)) (e2 : c = .int .u64 (word m 2 : Nat)) (e3 : d = .int .u64 (word m 3 : Nat)) :
    ((((wr.setCell ⟨w.heap.size, 0, none⟩ a).setCell ⟨w.heap.size, 1, none⟩ b).setCell ⟨w.heap.size, 2, none⟩ c).setCell ⟨w.heap.size, 3, none⟩ d).heap[w.heap.size]? = some (rowS m) ∧
    Below w.heap.size w ((((wr.setCell ⟨w.heap.size, 0, none⟩ a).setCell ⟨w.heap.size, 1, none⟩ b).setCell ⟨w.heap.size, 2, none⟩ c).setCell ⟨w.heap.size, 3, none⟩ d) := by
  subst e0 e1 e2 e3
  refine ⟨?_, (((h.1.setCell (p := ⟨w.heap.size, 0, none⟩) (Nat.le_refl _) _).setCell (p := ⟨w.heap.size, 1, none⟩) (Nat.le_refl _) _).setCell (p := ⟨w.heap.size, 2, none⟩) (Nat.le_refl _) _).setCell (p := ⟨w.heap.size, 3, none⟩) (Nat.le_refl _) _⟩
  rw [set_block (set_block (set_block (set_block h.2.2)))]
  rfl
theorem SetAt.put {w wr : World} {m : Nat → Bool} (h : SetAt w wr m) (b j : Nat) (hb : b / 64 = j) (hj : b < 256) : SetAt w (wr.setCell ⟨w.heap.size + 1, j, none⟩ (.int .u64 ((word m j ||| 2 ^ (b % 64) : Nat) : Int))) (putM m b) := by
  refine ⟨h.1.setCell (p := ⟨w.heap.size + 1, j, none⟩) (by show w.heap.size ≤ w.heap.size + 1; omega) _, ?_, ?_⟩
  · rw [set_block h.2.1]
    unfold rowS
    have hc : j = 0 ∨ j = 1 ∨ j = 2 ∨ j = 3 := by omega
    rcases hc with rfl | rfl | rfl | rfl
    · rw [put_eq (j := 0) hb, put_ne (j := 1) (by omega), put_ne (j := 2) (by omega), put_ne (j := 3) (by omega)]; rfl
    · rw [put_eq (j := 1) hb, put_ne (j := 0) (by omega), put_ne (j := 2) (by omega), put_ne (j := 3) (by omega)]; rfl
    · rw [put_eq (j := 2) hb, put_ne (j := 1) (by omega), put_ne (j := 0) (by omega), put_ne (j := 3) (by omega)]; rfl
    · rw [put_eq (j := 3) hb, put_ne (j := 1) (by omega), put_ne (j := 2) (by omega), put_ne (j := 0) (by omega)]; rfl
  · rw [Below.heap_setCell _ _ _ _ (by show w.heap.size ≠ w.heap.size + 1; omega)]
    exact h.2.2
set_option maxRecDepth 100000 in
set_option maxHeartbeats 4000000 in
theorem span_any (f l : Nat) (hf : f ≤ l) (hl : l < 256) (w : World) :
    Calls Try.prog 83 #[.int .u8 (f : Int), .int .u8 (l : Int)] w fun e w' => e = .returned (setV (spanM f l)) ∧ Below w.heap.size w w' := by
  have H0 : Hid (SetAt w ((w.alloc zeroS).alloc zeroS) (upM f f)) := Lib.hid ⟨((Below.refl _ _).alloc (Nat.le_refl _) _).alloc (by simp) _, by
    unfold rowS
    rw [upM_none, upM_none, upM_none, upM_none]
    have := heap_new (w.alloc zeroS) zeroS
    rwa [show (w.alloc zeroS).heap.size = w.heap.size + 1 from by simp] at this, by
    rw [Below.heap_alloc _ _ _ (by simp)]
    exact heap_new w _⟩
  have HUp : Hid (∀ b, f ≤ b → upM f (b + 1) = putM (upM f b) b) := Lib.hid (fun b h => upM_succ h)
  go_enter Try.func83, Try.ntmps83
  go_wp2_with fail
  go_loopw [6] (fun i wr => ∃ b : Nat, f ≤ b ∧ b ≤ l + 1 ∧ i = .int .i64 b ∧ Hid (SetAt w wr (upM f b))) (fun i _ => l + 1 - (intOf i).toNat)
  case atStart => exact ⟨f, Nat.le_refl _, by omega, by go_num, H0⟩
  case round =>
    obtain ⟨b, hb1, hb2, rfl, HS⟩ := hrel
    obtain ⟨c0, c1, c2, c3, hz⟩ := HS.out.cells
    by_cases hlt : b ≤ l
    · have hb : b < 256 := by omega
      have hc : b / 64 = 0 ∨ b / 64 = 1 ∨ b / 64 = 2 ∨ b / 64 = 3 := by omega
      rcases hc with h | h | h | h
      · have z0 := hz 0
        have HO := Lib.hid (or_walk (word (upM f b) 0) (b % 64) (word_lt _ _) (by omega))
        have HP : Hid (SetAt w (wr.setCell ⟨w.heap.size + 1, 0, none⟩ (.int .u64 ((word (upM f b) 0 ||| 2 ^ (b % 64) : Nat) : Int))).drew (putM (upM f b) b)) := Lib.hid ((HS.out.put b 0 h hb).drewN 1)
        have e1 : (b : Int) / 64 = 0 := by omega
        clear hz h
        go_wp2_with fail
        go_region
        go_wp2_with fail
        go_roundw
        case rel => exact ⟨b + 1, by omega, by omega, by go_num, Lib.hid (by rw [HO.out, HUp.out b hb1]; exact HP.out)⟩
        case measure => simp [intOf]; omega
      · have z0 := hz 1
        have HO := Lib.hid (or_walk (word (upM f b) 1) (b % 64) (word_lt _ _) (by omega))
        have HP : Hid (SetAt w (wr.setCell ⟨w.heap.size + 1, 1, none⟩ (.int .u64 ((word (upM f b) 1 ||| 2 ^ (b % 64) : Nat) : Int))).drew (putM (upM f b) b)) := Lib.hid ((HS.out.put b 1 h hb).drewN 1)
        have e1 : (b : Int) / 64 = 1 := by omega
        clear hz h
        go_wp2_with fail
        go_region
        go_wp2_with fail
        go_roundw
        case rel => exact ⟨b + 1, by omega, by omega, by go_num, Lib.hid (by rw [HO.out, HUp.out b hb1]; exact HP.out)⟩
        case measure => simp [intOf]; omega
      · have z0 := hz 2
        have HO := Lib.hid (or_walk (word (upM f b) 2) (b % 64) (word_lt _ _) (by omega))
        have HP : Hid (SetAt w (wr.setCell ⟨w.heap.size + 1, 2, none⟩ (.int .u64 ((word (upM f b) 2 ||| 2 ^ (b % 64) : Nat) : Int))).drew (putM (upM f b) b)) := Lib.hid ((HS.out.put b 2 h hb).drewN 1)
        have e1 : (b : Int) / 64 = 2 := by omega
        clear hz h
        go_wp2_with fail
        go_region
        go_wp2_with fail
        go_roundw
        case rel => exact ⟨b + 1, by omega, by omega, by go_num, Lib.hid (by rw [HO.out, HUp.out b hb1]; exact HP.out)⟩
        case measure => simp [intOf]; omega
      · have z0 := hz 3
        have HO := Lib.hid (or_walk (word (upM f b) 3) (b % 64) (word_lt _ _) (by omega))
        have HP : Hid (SetAt w (wr.setCell ⟨w.heap.size + 1, 3, none⟩ (.int .u64 ((word (upM f b) 3 ||| 2 ^ (b % 64) : Nat) : Int))).drew (putM (upM f b) b)) := Lib.hid ((HS.out.put b 3 h hb).drewN 1)
        have e1 : (b : Int) / 64 = 3 := by omega
        clear hz h
        go_wp2_with fail
        go_region
        go_wp2_with fail
        go_roundw
        case rel => exact ⟨b + 1, by omega, by omega, by go_num, Lib.hid (by rw [HO.out, HUp.out b hb1]; exact HP.out)⟩
        case measure => simp [intOf]; omega
    · have hd : decide (b ≤ l) = false := by simp only [decide_eq_false_iff_not]; omega
      have hbl : b = l + 1 := by omega
      have HE : Hid (upM f b = spanM f l) := Lib.hid (by rw [hbl, upM_end])
      obtain ⟨⟨d0, d1, d2, d3⟩, y0, y1, y2, y3⟩ := HS.out.zeros
      have HD := Lib.hid (HS.out.done rfl rfl rfl rfl)
      clear H0 HUp hz hbl
      go_wp2_with fail
      try simp only [Exit.inBlock, Exit.then]
      apply bodyPost_ret
      · exact results_cell_row (p := 4) rfl _ _ _ _ _ _ _ rfl HD.out.1 Try.underlying128 rfl (by kernel_rfl)
      · rfl
      exact ⟨by rw [← HE.out]; rfl, HD.out.2⟩
theorem heap_alloc3 (w : World) (a b c : Obj) : (((w.alloc a).alloc b).alloc c).heap[w.heap.size + 1 + 1]? = some c := by
  have h := heap_new ((w.alloc a).alloc b) c
  rwa [show ((w.alloc a).alloc b).heap.size = w.heap.size + 1 + 1 from by simp] at h
theorem word_or (m m' : Nat → Bool) (j : Nat) : word (fun x => m x || m' x) j = word m j ||| word m' j := by
  apply Nat.eq_of_testBit_eq
  intro b
  rw [Nat.testBit_or, testBit_word, testBit_word, testBit_word]
  cases decide (b < 64) <;> simp
set_option maxRecDepth 100000 in
set_option maxHeartbeats 4000000 in
theorem with_any (m m' : Nat → Bool) (w : World) :
    Calls Try.prog 80 #[setV m, setV m'] w fun e w' => e = .returned (setV (fun x => m x || m' x)) ∧ Below w.heap.size w w' := by
  unfold setV
  have hor := fun j => bits_or_nat (word m j) (word m' j) (word_lt m j) (word_lt m' j)
  have HO := Lib.hid hor
  have HV := Lib.hid (word_or m m')
  clear hor
  rw [HV.out 0, HV.out 1, HV.out 2, HV.out 3]
  go_enter Try.func80, Try.ntmps80
  go_wp2_with fail
  refine wp_loop_rounds 5 ?_
  rw [rounds_succ]
  go_wp2_with fail
  go_region
  go_wp2_with fail
  rw [rounds_succ]
  go_wp2_with fail
  go_region
  go_wp2_with fail
  rw [rounds_succ]
  go_wp2_with fail
  go_region
  go_wp2_with fail
  rw [rounds_succ]
  go_wp2_with fail
  go_region
  go_wp2_with fail
  rw [rounds_succ]
  go_wp2_with fail
  try simp only [Exit.inBlock, Exit.then]
  apply bodyPost_ret
  · exact results_cell_row (p := 4) rfl _ _ _ _ _ _ _ rfl (heap_alloc3 _ _ _ _) Try.underlying128 rfl (by kernel_rfl)
  · rfl
  refine ⟨?_, below_drewN ((((Below.refl _ _).alloc (Nat.le_refl _) _).alloc (by simp) _).alloc (by simp; omega) _) 4⟩
  rw [HO.out, HO.out, HO.out, HO.out]
set_option maxRecDepth 100000 in
set_option maxHeartbeats 4000000 in
theorem compl_any (m : Nat → Bool) (w : World) :
    Calls Try.prog 81 #[setV m] w fun e w' => e = .returned (setV (fun x => !m x)) ∧ Below w.heap.size w w' := by
  unfold setV
  have HV := Lib.hid (word_not m)
  have h0 := word_lt m 0
  have h1 := word_lt m 1
  have h2 := word_lt m 2
  have h3 := word_lt m 3
  rw [HV.out 0, HV.out 1, HV.out 2, HV.out 3]
  go_enter Try.func81, Try.ntmps81
  go_wp2_with fail
  refine wp_loop_rounds 5 ?_
  rw [rounds_succ]
  go_wp2_with fail
  go_wp2_with fail
  rw [rounds_succ]
  go_wp2_with fail
  go_wp2_with fail
  rw [rounds_succ]
  go_wp2_with fail
  go_wp2_with fail
  rw [rounds_succ]
  go_wp2_with fail
  go_wp2_with fail
  rw [rounds_succ]
  go_wp2_with fail
  try simp only [Exit.inBlock, Exit.then]
  apply bodyPost_ret
  · exact results_cell_row (p := 2) rfl _ _ _ _ _ _ _ rfl (heap_alloc2_new _ _ _) Try.underlying128 rfl (by kernel_rfl)
  · rfl
  refine ⟨?_, ((Below.refl _ _).alloc (Nat.le_refl _) _).alloc (by simp) _⟩
  rw [not_walk _ h0, not_walk _ h1, not_walk _ h2, not_walk _ h3]
end Rx
end Go.Proofs.Ytgadomcbaenodaa

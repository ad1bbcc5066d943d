/-
  Walk of layer 6's verifier: star, the automaton of the chapter's example. No conditions.
-/
import Derived.Test.YthoidaaldngpmaaSeaFind
import Derived.Laws.Rows
namespace Go.Proofs.Ythoidaaldngpmaa
open Go.RowKit
namespace Se
open Cm Rx Au
def starS : List St := [⟨1, noSet, 1, 2⟩, ⟨0, putM noSet 97, 0, 0⟩, ⟨4, noSet, 0, 0⟩]
def StarPost (w : World) (e : Ending) (w' : World) : Prop := ∃ v, e = .returned (.agg #[v, .int .i64 0]) ∧ w'.ownsRow w.heap.size tSt 7 v starS.length (flatS starS) ∧ Below w.heap.size w w'
set_option maxRecDepth 100000 in
set_option maxHeartbeats 2000000 in
theorem star_any (w : World) : Calls Try.prog 70 #[] w (StarPost w) := by
  have HP : Hid (∀ W : World, Calls Try.prog 48 #[.agg #[.int .u64 0, .int .u64 0, .int .u64 0, .int .u64 0], .int .u8 97] W fun e w' => e = .returned (setV (putM noSet 97)) ∧ Below W.heap.size W w') := Lib.hid (fun W => by
    have h := Put_any noSet 97 W
    have e1 : setV noSet = .agg #[.int .u64 0, .int .u64 0, .int .u64 0, .int .u64 0] := by
      show setV (fun _ => false) = _
      simp [setV, word_none]
    rw [e1] at h
    exact h)
  have HR0 := Lib.hid (alloc2 w (.cells #[.slice none 0 0, .int .i64 0] tAuto) (.cells #[.int .u64 0, .int .u64 0, .int .u64 0, .int .u64 0] 72))
  go_enter Try.func70, Try.ntmps70
  go_wp2_with (go_at_call 48; refine (HP.out _).mono ?_; rintro e w5 ⟨rfl, hb⟩; have HB5 := Lib.hid (HR0.out.2.2.trans (hb.mono HR0.out.2.2.size)); have hr5 := (hb.block _ (lt_some HR0.out.1)).trans HR0.out.1; have hl5 := lt_some hr5; have qf0 : ∀ o, (w5.alloc o).frozen? ⟨w.heap.size, 0, none⟩ = false := (fun o => by simp [World.frozen?, Below.heap_alloc w5 o _ hl5, hr5]); have qf1 : ∀ o, (w5.alloc o).frozen? ⟨w.heap.size, 1, none⟩ = false := (fun o => by simp [World.frozen?, Below.heap_alloc w5 o _ hl5, hr5]); have qc0 : ∀ o, (w5.alloc o).cell? ⟨w.heap.size, 0, none⟩ = some (.slice none 0 0) := (fun o => by simp [World.cell?, Below.heap_alloc w5 o _ hl5, hr5]); have qc1 : ∀ o, (w5.alloc o).cell? ⟨w.heap.size, 1, none⟩ = some (.int .i64 0) := (fun o => by simp [World.cell?, Below.heap_alloc w5 o _ hl5, hr5]); have HR5 := Lib.hid hr5; clear hb hr5 hl5; unfold setV)
  have hl5 := lt_some HR5.out
  have hs5 := HB5.out.size
  have e7 : (flatS starS).length = 3 * 7 := by simp [flatS, starS, stC]
  have hz : word noSet 0 = 0 ∧ word noSet 1 = 0 ∧ word noSet 2 = 0 ∧ word noSet 3 = 0 := ⟨word_none 0, word_none 1, word_none 2, word_none 3⟩
  have hlist : flatS starS = [.int .i64 1, .int .u64 0, .int .u64 0, .int .u64 0, .int .u64 0, .int .i64 1, .int .i64 2, .int .i64 0, .int .u64 (word (putM noSet 97) 0 : Nat), .int .u64 (word (putM noSet 97) 1 : Nat), .int .u64 (word (putM noSet 97) 2 : Nat), .int .u64 (word (putM noSet 97) 3 : Nat), .int .i64 0, .int .i64 0, .int .i64 4, .int .u64 0, .int .u64 0, .int .u64 0, .int .u64 0, .int .i64 0, .int .i64 0] := by
    simp [flatS, starS, stC, hz.1, hz.2.1, hz.2.2.1, hz.2.2.2]
  have hw := heap_new w5 (.cells #[.int .i64 1, .int .u64 0, .int .u64 0, .int .u64 0, .int .u64 0, .int .i64 1, .int .i64 2, .int .i64 0, .int .u64 (word (putM noSet 97) 0 : Nat), .int .u64 (word (putM noSet 97) 1 : Nat), .int .u64 (word (putM noSet 97) 2 : Nat), .int .u64 (word (putM noSet 97) 3 : Nat), .int .i64 0, .int .i64 0, .int .i64 4, .int .u64 0, .int .u64 0, .int .u64 0, .int .u64 0, .int .i64 0, .int .i64 0] tSt)
  generalize hO : (Obj.cells #[.int .i64 1, .int .u64 0, .int .u64 0, .int .u64 0, .int .u64 0, .int .i64 1, .int .i64 2, .int .i64 0, .int .u64 (word (putM noSet 97) 0 : Nat), .int .u64 (word (putM noSet 97) 1 : Nat), .int .u64 (word (putM noSet 97) 2 : Nat), .int .u64 (word (putM noSet 97) 3 : Nat), .int .i64 0, .int .i64 0, .int .i64 4, .int .u64 0, .int .u64 0, .int .u64 0, .int .u64 0, .int .i64 0, .int .i64 0] tSt) = o at hw ⊢
  have g0 := (Below.heap_alloc w5 o _ hl5).trans HR5.out
  have g1 := set_block (o := 0) (u := .slice (some ⟨w5.heap.size, 0, none⟩) 3 3) g0
  have g2 := set_block (o := 1) (u := .int .i64 0) g1
  refine bodyPost_ret (results_cell_row (p := 0) rfl _ _ _ _ _ _ _ rfl g2 Try.underlying40 rfl (by kernel_rfl)) rfl ⟨_, rfl, ?_, ((HB5.out.alloc hs5 o).setCell (p := ⟨w.heap.size, 0, none⟩) (Nat.le_refl _) _).setCell (p := ⟨w.heap.size, 1, none⟩) (Nat.le_refl _) _⟩
  have hcells : o = .cells (flatS starS).toArray tSt := by rw [← hO, hlist]
  refine ⟨e7, .inr ⟨w5.heap.size, 3, (flatS starS).toArray, rfl, hs5, ?_, Nat.le_refl _, by unfold maxLen; omega, ?_, ?_⟩⟩
  · rw [← hcells]
    exact (Below.heap_setCell _ _ _ _ (by show w5.heap.size ≠ w.heap.size; omega)).trans ((Below.heap_setCell _ _ _ _ (by show w5.heap.size ≠ w.heap.size; omega)).trans hw)
  · rw [List.size_toArray, e7]
  · show List.take (3 * 7) (flatS starS) = _
    rw [List.take_of_length_le (by rw [e7]; exact Nat.le_refl _)]
end Se
end Go.Proofs.Ythoidaaldngpmaa

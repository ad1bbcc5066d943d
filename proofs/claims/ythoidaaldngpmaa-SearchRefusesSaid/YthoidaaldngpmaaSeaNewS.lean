/-
  Walks of layer 6: the program's newSteps and add. Condition: at least one and at most 8000 states.
-/
import Derived.Test.YthoidaaldngpmaaSeaRep
import Derived.Test.YthoidaaldngpmaaSeaSteps
import Derived.Deep.RegionHeld3
import Derived.Laws.MakeOwn
import Derived.Laws.Rows
namespace Go.Proofs.Ythoidaaldngpmaa
open Go.RowKit
namespace Se
open Cm Rx Au
abbrev tSteps : TypeId := 135
theorem mk_heap (w : World) (n : Nat) : (w.alloc (.cells (madeCells #[.int .i64 0] n) tInt)).heap[w.heap.size]? = some (.cells (List.replicate n (.int .i64 0)).toArray tInt (0, 0)) := by
  obtain ⟨c, h1, h2, h3⟩ := World.rowIs_made w (.int .i64 0) n tInt
  have e : c = (List.replicate n (.int .i64 0)).toArray := by
    refine Array.ext (by rw [h2, List.size_toArray, List.length_replicate]) fun i hi1 hi2 => ?_
    have h4 := h3 i (by omega)
    rw [Array.getElem?_eq_getElem hi1] at h4
    have h5 := Option.some.inj h4
    rw [h5, List.getElem_toArray, List.getElem_replicate]
  rw [e] at h1
  exact h1
/-- make of ints, as a step of a region that draws its order. -/
theorem step_mk {ops : Array Oper} {o : Oper} {a : Act} {Q : Exit → Act → World → Prop} {K : Act → World → Prop} {E : Prop} {w : World} (hgd : o.guard = none) (l c : Operand) (ho : o.op = Op.makeSlice 30 l c)
    (n : Nat) (L : Int) (hl : a.eval l = .int .i64 L) (hc : a.eval c = .int .i64 L) (hL : L = (n : Int)) (hn : n ≤ 4194304)
    (h : ∀ w', Hid (w'.heap[w.heap.size]? = some (.cells (List.replicate n (.int .i64 0)).toArray tInt (0, 0))) → Below w.heap.size w w' → Hid (w.heap.size < w'.heap.size) → K (a.put o.dst (.slice (some ⟨w.heap.size, 0, none⟩) n n)) w') : if Region.wanted o (yielded ops a.tmps) = true then Oper.wp Try.prog o a w K Q else E := by
  have hw : Region.wanted o (yielded ops a.tmps) = true := by simp [Region.wanted, hgd]
  rw [if_pos hw]
  subst hL
  obtain ⟨i0, hi0, hz0, hz1, hz2⟩ := info_parts info_intH
  have hrun := run_make_row (P := Try.prog) 30 tInt i0 (.int .i64 0) Try.underlying30 hi0 hz0 hz1 rfl .i64 .i64 n (by rw [hz2]; omega) (by omega) w
  unfold Oper.wp
  simp [execOp, ho, hl, hc, hrun, Result.andThen]
  exact h _ (mk_heap w n) ((Below.refl _ w).alloc (Nat.le_refl _) _) (by show w.heap.size < (w.alloc _).heap.size; simp)
def stepsV (G F n : Nat) : Value := .agg #[.slice (some ⟨G, 0, none⟩) n n, .slice (some ⟨F, 0, none⟩) (2 * n : Nat) (2 * n : Nat)]
/-- Empty lists of steps. -/
def NsPost (n : Nat) (w : World) (e : Ending) (w' : World) : Prop :=
  ∃ G F, e = .returned (stepsV G F n) ∧ w.heap.size ≤ G ∧ w.heap.size ≤ F ∧ G ≠ F ∧ w'.heap[G]? = some (.cells (List.replicate n (.int .i64 (-1))).toArray tInt (0, 0)) ∧ w'.heap[F]? = some (.cells (List.replicate (2 * n) (.int .i64 0)).toArray tInt (0, 0)) ∧ Below w.heap.size w w'
theorem ns_fin {n G F : Nat} {w W : World} (hW : Below w.heap.size w W) (h : W.heap[w.heap.size]? = some (.cells #[.slice none 0 0, .slice none 0 0] tSteps (0, 0))) (hG : W.heap[G]? = some (.cells (List.replicate n (.int .i64 (-1))).toArray tInt (0, 0))) (hF : W.heap[F]? = some (.cells (List.replicate (2 * n) (.int .i64 0)).toArray tInt (0, 0)))
    (h1 : w.heap.size < G) (h2 : w.heap.size < F) (h3 : G ≠ F) :
    ((W.setCell ⟨w.heap.size, 0, none⟩ (.slice (some ⟨G, 0, none⟩) n n)).setCell ⟨w.heap.size, 1, none⟩ (.slice (some ⟨F, 0, none⟩) (2 * n : Nat) (2 * n : Nat))).heap[w.heap.size]? = some (.cells #[.slice (some ⟨G, 0, none⟩) n n, .slice (some ⟨F, 0, none⟩) (2 * n : Nat) (2 * n : Nat)] tSteps (0, 0)) ∧
    NsPost n w (.returned (stepsV G F n)) ((W.setCell ⟨w.heap.size, 0, none⟩ (.slice (some ⟨G, 0, none⟩) n n)).setCell ⟨w.heap.size, 1, none⟩ (.slice (some ⟨F, 0, none⟩) (2 * n : Nat) (2 * n : Nat))) := by
  have a1 := set_block (o := 0) (u := .slice (some ⟨G, 0, none⟩) n n) h
  have a2 := set_block (o := 1) (u := .slice (some ⟨F, 0, none⟩) (2 * n : Nat) (2 * n : Nat)) a1
  refine ⟨a2, G, F, rfl, by omega, by omega, h3, ?_, ?_, (hW.setCell (p := ⟨w.heap.size, 0, none⟩) (Nat.le_refl _) _).setCell (p := ⟨w.heap.size, 1, none⟩) (Nat.le_refl _) _⟩
  · exact (Below.heap_setCell _ _ _ _ (by show G ≠ w.heap.size; omega)).trans ((Below.heap_setCell _ _ _ _ (by show G ≠ w.heap.size; omega)).trans hG)
  · exact (Below.heap_setCell _ _ _ _ (by show F ≠ w.heap.size; omega)).trans ((Below.heap_setCell _ _ _ _ (by show F ≠ w.heap.size; omega)).trans hF)
set_option maxRecDepth 100000 in
set_option maxHeartbeats 400000 in
theorem newSteps_any (n : Nat) (w : World) (h1 : 1 ≤ n) (h2 : n ≤ 8000) : Calls Try.prog 119 #[.int .i64 n] w (NsPost n w) := by
  have hwr : IntKind.i64.wrap (2 * (n : Int)) = ((2 * n : Nat) : Int) := by rw [IntWalk.i64_in _ (by omega)]; omega
  go_enter Try.func119, Try.ntmps119
  have e1 : (w.alloc (.cells #[.slice none 0 0, .slice none 0 0] tSteps)).heap.size = w.heap.size + 1 := by simp
  have e2 : ((w.alloc (.cells #[.slice none 0 0, .slice none 0 0] tSteps)).alloc (.cells #[.int .i64 (-1)] tInt)).heap.size = w.heap.size + 1 + 1 := by simp
  have HC1 : Hid ((((w.alloc (.cells #[.slice none 0 0, .slice none 0 0] tSteps)).alloc (.cells #[.int .i64 (-1)] tInt)).drew).cell? ⟨w.heap.size + 1, 0, none⟩ = some (.int .i64 (-1)) ∧ (((w.alloc (.cells #[.slice none 0 0, .slice none 0 0] tSteps)).alloc (.cells #[.int .i64 (-1)] tInt)).drew).heap[w.heap.size]? = some (.cells #[.slice none 0 0, .slice none 0 0] tSteps (0, 0)) ∧ Below w.heap.size w (((w.alloc (.cells #[.slice none 0 0, .slice none 0 0] tSteps)).alloc (.cells #[.int .i64 (-1)] tInt)).drew) ∧ w.heap.size < (((w.alloc (.cells #[.slice none 0 0, .slice none 0 0] tSteps)).alloc (.cells #[.int .i64 (-1)] tInt)).drew).heap.size) := Lib.hid (by
    refine ⟨?_, (Below.heap_alloc _ _ _ (by rw [e1]; omega)).trans (heap_new w _), (((Below.refl _ _).alloc (Nat.le_refl _) _).alloc (by rw [e1]; omega) _).drew, by show w.heap.size < (World.alloc _ _).heap.size; rw [World.size_alloc, e1]; omega⟩
    rw [World.cell?_drew, ← e1, World.cell?_alloc_mark]; rfl)
  have HC2 : Hid (((((w.alloc (.cells #[.slice none 0 0, .slice none 0 0] tSteps)).alloc (.cells #[.int .i64 (-1)] tInt)).alloc (.cells (madeCells #[.int .i64 0] (2 * n)) tInt)).drew).cell? ⟨w.heap.size + 1, 0, none⟩ = some (.int .i64 (-1)) ∧ ((((w.alloc (.cells #[.slice none 0 0, .slice none 0 0] tSteps)).alloc (.cells #[.int .i64 (-1)] tInt)).alloc (.cells (madeCells #[.int .i64 0] (2 * n)) tInt)).drew).heap[w.heap.size]? = some (.cells #[.slice none 0 0, .slice none 0 0] tSteps (0, 0)) ∧ Below w.heap.size w ((((w.alloc (.cells #[.slice none 0 0, .slice none 0 0] tSteps)).alloc (.cells #[.int .i64 (-1)] tInt)).alloc (.cells (madeCells #[.int .i64 0] (2 * n)) tInt)).drew) ∧ w.heap.size + 1 + 1 < ((((w.alloc (.cells #[.slice none 0 0, .slice none 0 0] tSteps)).alloc (.cells #[.int .i64 (-1)] tInt)).alloc (.cells (madeCells #[.int .i64 0] (2 * n)) tInt)).drew).heap.size ∧ ((((w.alloc (.cells #[.slice none 0 0, .slice none 0 0] tSteps)).alloc (.cells #[.int .i64 (-1)] tInt)).alloc (.cells (madeCells #[.int .i64 0] (2 * n)) tInt)).drew).heap[w.heap.size + 1 + 1]? = some (.cells (List.replicate (2 * n) (.int .i64 0)).toArray tInt (0, 0))) := Lib.hid (by
    have hm := mk_heap ((w.alloc (.cells #[.slice none 0 0, .slice none 0 0] tSteps)).alloc (.cells #[.int .i64 (-1)] tInt)) (2 * n)
    rw [e2] at hm
    refine ⟨?_, (Below.heap_alloc _ _ _ (by rw [e2]; omega)).trans HC1.out.2.1, (HC1.out.2.2.1.alloc (by show w.heap.size ≤ (World.alloc _ _).heap.size; rw [e2]; omega) _), by show _ < (World.alloc _ _).heap.size; rw [World.size_alloc, e2]; omega, hm⟩
    exact (World.cell?_of_block (w := ((w.alloc (.cells #[.slice none 0 0, .slice none 0 0] tSteps)).alloc (.cells #[.int .i64 (-1)] tInt)).drew) (a := ⟨w.heap.size + 1, 0, none⟩) (Below.heap_alloc _ _ _ (by show w.heap.size + 1 < (World.alloc _ _).heap.size; rw [e2]; omega))).trans HC1.out.1)
  have e3 : ((w.alloc (.cells #[.slice none 0 0, .slice none 0 0] tSteps)).alloc (.cells (madeCells #[.int .i64 0] (2 * n)) tInt)).heap.size = w.heap.size + 1 + 1 := by simp
  have HC3 : Hid (((((w.alloc (.cells #[.slice none 0 0, .slice none 0 0] tSteps)).alloc (.cells (madeCells #[.int .i64 0] (2 * n)) tInt)).alloc (.cells #[.int .i64 (-1)] tInt)).drew).cell? ⟨w.heap.size + 1 + 1, 0, none⟩ = some (.int .i64 (-1)) ∧ ((((w.alloc (.cells #[.slice none 0 0, .slice none 0 0] tSteps)).alloc (.cells (madeCells #[.int .i64 0] (2 * n)) tInt)).alloc (.cells #[.int .i64 (-1)] tInt)).drew).heap[w.heap.size]? = some (.cells #[.slice none 0 0, .slice none 0 0] tSteps (0, 0)) ∧ Below w.heap.size w ((((w.alloc (.cells #[.slice none 0 0, .slice none 0 0] tSteps)).alloc (.cells (madeCells #[.int .i64 0] (2 * n)) tInt)).alloc (.cells #[.int .i64 (-1)] tInt)).drew) ∧ w.heap.size + 1 < ((((w.alloc (.cells #[.slice none 0 0, .slice none 0 0] tSteps)).alloc (.cells (madeCells #[.int .i64 0] (2 * n)) tInt)).alloc (.cells #[.int .i64 (-1)] tInt)).drew).heap.size ∧ ((((w.alloc (.cells #[.slice none 0 0, .slice none 0 0] tSteps)).alloc (.cells (madeCells #[.int .i64 0] (2 * n)) tInt)).alloc (.cells #[.int .i64 (-1)] tInt)).drew).heap[w.heap.size + 1]? = some (.cells (List.replicate (2 * n) (.int .i64 0)).toArray tInt (0, 0))) := Lib.hid (by
    have hm := mk_heap (w.alloc (.cells #[.slice none 0 0, .slice none 0 0] tSteps)) (2 * n)
    rw [e1] at hm
    refine ⟨?_, (Below.heap_alloc _ _ _ (by rw [e3]; omega)).trans ((Below.heap_alloc _ _ _ (by rw [e1]; omega)).trans (heap_new w _)), ((((Below.refl _ _).alloc (Nat.le_refl _) _).alloc (by rw [e1]; omega) _).alloc (by rw [e3]; omega) _).drew, by show _ < (World.alloc _ _).heap.size; rw [World.size_alloc, e3]; omega, (Below.heap_alloc _ _ _ (by rw [e3]; omega)).trans hm⟩
    rw [World.cell?_drew, ← e3, World.cell?_alloc_mark]; rfl)
  clear e1 e2 e3
  have hmk : ∀ W : World, Sem.run Try.prog (Instr.makeSlice 30 (.int .i64 (2 * (n : Int))) (.int .i64 (2 * (n : Int)))) W = .ok (.slice (some ⟨W.heap.size, 0, none⟩) (2 * n : Nat) (2 * n : Nat)) (W.alloc (.cells (madeCells #[.int .i64 0] (2 * n)) tInt)) := fun W => by
    obtain ⟨i0, hi0, hz0, hz1, hz2⟩ := info_parts info_intH
    exact run_make_row (P := Try.prog) 30 tInt i0 (.int .i64 0) Try.underlying30 hi0 hz0 hz1 rfl .i64 .i64 (2 * n) (by rw [hz2]; omega) (by omega) W
  go_upto_region 1 with fail
  go_region_with (first
    | (go_at_call 120; go_fit (Repeat_any (w.heap.size + 1) 1 n (-1) _ HC1.out.1 h1 (by omega)); rintro e w5 ⟨G, rfl, hG, hg, hb⟩; have hr5 := (hb.block _ HC1.out.2.2.2).trans HC1.out.2.1; have hl5 := lt_some hr5; have qf0 : ∀ o, (w5.alloc o).frozen? ⟨w.heap.size, 0, none⟩ = false := (fun o => by simp [World.frozen?, Below.heap_alloc w5 o _ hl5, hr5]); have qf1 : ∀ o, (w5.alloc o).frozen? ⟨w.heap.size, 1, none⟩ = false := (fun o => by simp [World.frozen?, Below.heap_alloc w5 o _ hl5, hr5]); have qc0 : ∀ o, (w5.alloc o).cell? ⟨w.heap.size, 0, none⟩ = some (.slice none 0 0) := (fun o => by simp [World.cell?, Below.heap_alloc w5 o _ hl5, hr5]); have qc1 : ∀ o, (w5.alloc o).cell? ⟨w.heap.size, 1, none⟩ = some (.slice none 0 0) := (fun o => by simp [World.cell?, Below.heap_alloc w5 o _ hl5, hr5]); have HR5 : Hid (w5.heap[w.heap.size]? = some (.cells #[.slice none 0 0, .slice none 0 0] tSteps (0, 0)) ∧ Below w.heap.size w w5 ∧ w5.heap[G]? = some (.cells (List.replicate n (.int .i64 (-1))).toArray tInt (0, 0)) ∧ w.heap.size < G) := Lib.hid ⟨hr5, HC1.out.2.2.1.trans (hb.mono HC1.out.2.2.1.size), hg, Nat.lt_of_lt_of_le HC1.out.2.2.2 hG⟩; clear hG hg hb hr5 hl5)
    | (go_at_call 120; go_fit (Repeat_any (w.heap.size + 1) 1 n (-1) _ HC2.out.1 h1 (by omega)); rintro e w5 ⟨G, rfl, hG, hg, hb⟩; have hr5 := (hb.block _ (Nat.lt_trans (Nat.lt_trans (Nat.lt_succ_self _) (Nat.lt_succ_self _)) HC2.out.2.2.2.1)).trans HC2.out.2.1; have hl5 := lt_some hr5; have qf0 : w5.frozen? ⟨w.heap.size, 0, none⟩ = false := (by simp [World.frozen?, hr5]); have qf1 : w5.frozen? ⟨w.heap.size, 1, none⟩ = false := (by simp [World.frozen?, hr5]); have qc0 : w5.cell? ⟨w.heap.size, 0, none⟩ = some (.slice none 0 0) := (by simp [World.cell?, hr5]); have qc1 : w5.cell? ⟨w.heap.size, 1, none⟩ = some (.slice none 0 0) := (by simp [World.cell?, hr5]); have HR6 : Hid (w5.heap[w.heap.size]? = some (.cells #[.slice none 0 0, .slice none 0 0] tSteps (0, 0)) ∧ Below w.heap.size w w5 ∧ w5.heap[G]? = some (.cells (List.replicate n (.int .i64 (-1))).toArray tInt (0, 0)) ∧ w5.heap[w.heap.size + 1 + 1]? = some (.cells (List.replicate (2 * n) (.int .i64 0)).toArray tInt (0, 0)) ∧ w.heap.size + 1 + 1 < G) := Lib.hid ⟨hr5, HC2.out.2.2.1.trans (hb.mono HC2.out.2.2.1.size), hg, (hb.block _ HC2.out.2.2.2.1).trans HC2.out.2.2.2.2, Nat.lt_of_lt_of_le HC2.out.2.2.2.1 hG⟩; clear hG hg hb hr5 hl5)
    | (go_at_call 120; go_fit (Repeat_any (w.heap.size + 1 + 1) 1 n (-1) _ HC3.out.1 h1 (by omega)); rintro e w5 ⟨G, rfl, hG, hg, hb⟩; have hr5 := (hb.block _ (Nat.lt_trans (Nat.lt_succ_self _) HC3.out.2.2.2.1)).trans HC3.out.2.1; have hl5 := lt_some hr5; have qf0 : w5.frozen? ⟨w.heap.size, 0, none⟩ = false := (by simp [World.frozen?, hr5]); have qf1 : w5.frozen? ⟨w.heap.size, 1, none⟩ = false := (by simp [World.frozen?, hr5]); have qc0 : w5.cell? ⟨w.heap.size, 0, none⟩ = some (.slice none 0 0) := (by simp [World.cell?, hr5]); have qc1 : w5.cell? ⟨w.heap.size, 1, none⟩ = some (.slice none 0 0) := (by simp [World.cell?, hr5]); have HR6 : Hid (w5.heap[w.heap.size]? = some (.cells #[.slice none 0 0, .slice none 0 0] tSteps (0, 0)) ∧ Below w.heap.size w w5 ∧ w5.heap[G]? = some (.cells (List.replicate n (.int .i64 (-1))).toArray tInt (0, 0)) ∧ w5.heap[w.heap.size + 1]? = some (.cells (List.replicate (2 * n) (.int .i64 0)).toArray tInt (0, 0)) ∧ w.heap.size + 1 < G) := Lib.hid ⟨hr5, HC3.out.2.2.1.trans (hb.mono HC3.out.2.2.1.size), hg, (hb.block _ HC3.out.2.2.2.1).trans HC3.out.2.2.2.2, Nat.lt_of_lt_of_le HC3.out.2.2.2.1 hG⟩; clear hG hg hb hr5 hl5))
  all_goals go_wp2_with fail
  · have hz : w5.heap.size ≠ G := fun e => by have h1 := lt_some HR5.out.2.2.1; omega
    have hlt := HR5.out.2.1.size
    have h9 := lt_some HR5.out.1
    have hf := ns_fin (n := n) (G := G) (F := w5.heap.size) (HR5.out.2.1.alloc hlt (.cells (madeCells #[.int .i64 0] (2 * n)) tInt)) ((Below.heap_alloc _ _ _ h9).trans HR5.out.1) ((Below.heap_alloc _ _ _ (lt_some HR5.out.2.2.1)).trans HR5.out.2.2.1) (mk_heap w5 (2 * n)) HR5.out.2.2.2 h9 hz.symm
    exact bodyPost_ret (results_cell_row (p := 2) rfl _ _ _ _ _ _ _ rfl hf.1 Try.underlying135 rfl (by kernel_rfl)) rfl hf.2
  all_goals
    have hf := ns_fin (n := n) (G := G) HR6.out.2.1 HR6.out.1 HR6.out.2.2.1 HR6.out.2.2.2.1 (by have := HR6.out.2.2.2.2; omega) (by omega) (by have := HR6.out.2.2.2.2; omega)
    exact bodyPost_ret (results_cell_row (p := 2) rfl _ _ _ _ _ _ _ rfl hf.1 Try.underlying135 rfl (by kernel_rfl)) rfl hf.2
end Se
end Go.Proofs.Ythoidaaldngpmaa

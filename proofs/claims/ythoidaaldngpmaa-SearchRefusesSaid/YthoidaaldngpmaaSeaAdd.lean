/-
  Walk of layer 6: the program's add of a step. Condition: the step and the state lie within the lists.
-/
import Derived.Test.YthoidaaldngpmaaSeaNewS
namespace Go.Proofs.Ythoidaaldngpmaa
open Go.RowKit
namespace Se
open Cm Rx Au
def AddPost (gl gb : Nat) (L Bf : List Int) (t q : Nat) (x : Int) (w : World) (e : Ending) (w' : World) : Prop :=
  e = .returned (.tuple #[]) ∧ w'.heap[gl]? = some (.cells (intsV (L.set q t)).toArray tInt (0, 0)) ∧ w'.heap[gb]? = some (.cells (intsV (Bf.set t x)).toArray tInt (0, 0)) ∧ (∀ k, k < w.heap.size → k ≠ gl → k ≠ gb → w'.heap[k]? = w.heap[k]?) ∧ ∀ B, B ≤ gl → B ≤ gb → Below B w w'
theorem ints_set {w : World} {g i : Nat} {L : List Int} {x : Int} (h : w.heap[g]? = some (.cells (intsV L).toArray tInt (0, 0))) : (w.setCell ⟨g, i, none⟩ (.int .i64 x)).heap[g]? = some (.cells (intsV (L.set i x)).toArray tInt (0, 0)) := by
  rw [set_block (o := i) (u := .int .i64 x) h]
  congr 2
  simp [intsV, List.map_set]
theorem cell_intsN {w : World} {g : Nat} {l : List Int} (h : w.heap[g]? = some (.cells (intsV l).toArray tInt (0, 0))) {j : Nat} (hj : j < l.length) : w.cell? ⟨g, j, none⟩ = some (.int .i64 l[j]) := by
  simp only [World.cell?, h]
  simp [intsV, hj]
set_option maxRecDepth 100000 in
set_option maxHeartbeats 1000000 in
theorem add_any (gl gb : Nat) (n m : Nat) (L Bf : List Int) (t q : Nat) (w : World) (hL : w.heap[gl]? = some (.cells (intsV L).toArray tInt (0, 0))) (hB : w.heap[gb]? = some (.cells (intsV Bf).toArray tInt (0, 0))) (hne : gl ≠ gb) (hn : L.length = n) (hm : Bf.length = m) (hq : q < n) (ht : t < m) :
    Calls Try.prog 121 #[.agg #[.slice (some ⟨gl, 0, none⟩) n n, .slice (some ⟨gb, 0, none⟩) m m], .int .i64 t, .int .i64 q] w (AddPost gl gb L Bf t q (L.getD q 0) w) := by
  have hx : L.getD q 0 = L[q]'(by omega) := by rw [List.getD_eq_getElem?_getD, List.getElem?_eq_getElem (by omega)]; rfl
  have hcl := cell_intsN hL (j := q) (by omega)
  rw [← hx] at hcl
  have HN := Lib.hid hne
  clear hx
  generalize L.getD q 0 = x at hcl
  have hll := lt_some hL
  have hlb := lt_some hB
  have a0 : ∀ o, (w.alloc o).drew.cell? ⟨gl, q, none⟩ = some (.int .i64 x) := fun o => by rw [World.cell?_drew]; exact (World.cell?_of_block (w := w) (a := ⟨gl, q, none⟩) (Below.heap_alloc w o _ hll)).trans hcl
  have a1 : ∀ o, (w.alloc o).drew.frozen? ⟨gb, t, none⟩ = false := fun o => by
    have : (w.alloc o).drew.heap[gb]? = _ := (Below.heap_alloc w o _ hlb).trans hB
    simp [World.frozen?, this]
  have a2 : ∀ o u, ((w.alloc o).drew.setCell ⟨gb, t, none⟩ u).frozen? ⟨gl, q, none⟩ = false := fun o u => by
    have : ((w.alloc o).drew.setCell ⟨gb, t, none⟩ u).heap[gl]? = _ := (Below.heap_setCell _ _ _ _ HN.out).trans ((Below.heap_alloc w o _ hll).trans hL)
    simp [World.frozen?, this]
  have hcb := cell_intsN hB (j := t) (by omega)
  have a3 : ∀ o, (w.alloc o).cell? ⟨gl, q, none⟩ = some (.int .i64 x) := a0
  have a4 : ∀ o, (w.alloc o).frozen? ⟨gb, t, none⟩ = false := a1
  have a5 : ∀ o, (w.alloc o).cell? ⟨gb, t, none⟩ = some (.int .i64 (Bf[t]'(by omega))) := fun o => (World.cell?_of_block (w := w) (a := ⟨gb, t, none⟩) (Below.heap_alloc w o _ hlb)).trans hcb
  have a6 : ∀ o, (w.alloc o).frozen? ⟨gl, q, none⟩ = false := fun o => by
    have : (w.alloc o).heap[gl]? = _ := (Below.heap_alloc w o _ hll).trans hL
    simp [World.frozen?, this]
  generalize Bf[t]'(by omega) = y at a5
  clear hcb
  have HP : Hid (∀ o, AddPost gl gb L Bf t q x w (.returned (.tuple #[])) (((w.alloc o).drew.setCell ⟨gb, t, none⟩ (.int .i64 x)).setCell ⟨gl, q, none⟩ (.int .i64 t))) := Lib.hid (fun o => by
    have b0 : (w.alloc o).drew.heap[gb]? = _ := (Below.heap_alloc w o _ hlb).trans hB
    have l0 : (w.alloc o).drew.heap[gl]? = _ := (Below.heap_alloc w o _ hll).trans hL
    refine ⟨rfl, ints_set ((Below.heap_setCell _ _ _ _ HN.out).trans l0), (Below.heap_setCell _ _ _ _ HN.out.symm).trans (ints_set b0), fun k hk h1 h2 => ?_, fun B h1 h2 => ?_⟩
    · exact (Below.heap_setCell _ _ _ _ h1).trans ((Below.heap_setCell _ _ _ _ h2).trans (Below.heap_alloc w o _ hk))
    · exact (((Below.refl B w).alloc (by omega) o).drew.setCell (p := ⟨gb, t, none⟩) h2 _).setCell (p := ⟨gl, q, none⟩) h1 _)
  have i0 : (0 : Int) ≤ (t : Int) := by omega
  have i1 : (t : Int) < (m : Int) := by omega
  have i2 : (0 : Int) ≤ (q : Int) := by omega
  have i3 : (q : Int) < (n : Int) := by omega
  have n1 : ¬ gb = w.heap.size := by omega
  have n2 : ¬ gl = w.heap.size := by omega
  have n3 : ¬ w.heap.size = gb := by omega
  have n4 : ¬ w.heap.size = gl := by omega
  clear hL hB hne hn hm hcl hll hlb
  go_enter Try.func121, Try.ntmps121
  go_upto_region 1 with fail
  have hne := HN.out
  have hne2 := HN.out.symm
  go_region_with (fail)
  all_goals
    go_wp2_with fail
    go_end0
    exact HP.out _
end Se
end Go.Proofs.Ythoidaaldngpmaa

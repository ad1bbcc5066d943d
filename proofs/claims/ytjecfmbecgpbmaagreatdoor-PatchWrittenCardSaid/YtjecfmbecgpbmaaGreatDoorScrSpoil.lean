/- Facts; each states its conditions. -/
import Derived.Test.YtjecfmbecgpbmaaGreatDoorGScrBase
import Derived.Laws.OwnMore
namespace Go.Proofs.YtjecfmbecgpbmaaGreatDoor
namespace Cm
end Cm
open Go.RowKit
namespace Sc
open Cm
theorem flat_set {α : Type} {k : Nat} {enc : α → List Value} (he : ∀ x, (enc x).length = k) : ∀ (xs : List α) (j : Nat) (hj : j < xs.length) (i : Nat) (_ : i < k) (u : Value) (y : α), enc y = (enc xs[j]).set i u → (flatK enc xs).set (j * k + i) u = flatK enc (xs.set j y)
 | [], j, h, _, _, _, _, _ => absurd h (Nat.not_lt_zero _)
 | s :: ss, 0, _, i, hi, u, y, hy => by
   show (enc s ++ flatK enc ss).set (0 * k + i) u = enc y ++ flatK enc ss
   rw [Nat.zero_mul, Nat.zero_add, List.set_append_left _ _ (by rw [he]; exact hi), hy]
   rfl
 | s :: ss, j + 1, h, i, hi, u, y, hy => by
   show (enc s ++ flatK enc ss).set ((j + 1) * k + i) u = enc s ++ flatK enc (ss.set j y)
   rw [List.set_append_right _ _ (by rw [he, Nat.succ_mul]; omega), he, show (j + 1) * k + i - k = j * k + i by rw [Nat.succ_mul]; omega, flat_set he ss j (by simpa using h) i hi u y hy]
theorem OwnC.block {base : Nat} {w : World} {v : Value} {l : List Ch} (h : OwnC base w v l) (hp : 0 < l.length) : ∃ g c, v = .slice (some ⟨g, 0, none⟩) l.length c ∧ base ≤ g := by
 rcases h.2 with ⟨_, h0⟩ | ⟨g, cap, cur, rfl, hb, _⟩
 · omega
 · exact ⟨g, cap, rfl, hb⟩
theorem OwnC.cells {base g N c : Nat} {w : World} {l : List Ch} (h : OwnC base w (.slice (some ⟨g, 0, none⟩) N c) l) (k : Nat) (hk : k < l.length) :
 (w.cell? ⟨g, k * 4, none⟩ = some (.int .i64 l[k].old) ∧ w.cell? ⟨g, k * 4 + 1, none⟩ = some (.int .i64 l[k].oldLen) ∧ w.cell? ⟨g, k * 4 + 2, none⟩ = some (.int .i64 l[k].new) ∧ w.cell? ⟨g, k * 4 + 3, none⟩ = some (.int .i64 l[k].newLen)) ∧ ∀ j, w.frozen? ⟨g, j, none⟩ = false := by
 have hN : N = l.length := by
  rcases h.2 with ⟨e, _⟩ | ⟨g', cap, cur, e, _⟩
  · cases e
  · injection e
 subst hN
 have e : ∀ i, i < 4 → w.cell? ⟨g, k * 4 + i, none⟩ = (chC l[k])[i]? := fun i hi => by
  have h2 : w.ownsRow base tCh 4 (.slice (some ⟨g, 0, none⟩) l.length c) l.length (flatK chC l) := h
  rw [h2.cellAt (k * 4 + i) (by omega), flatK_get chC_len l k hk i hi]
 exact ⟨⟨e 0 (by omega), e 1 (by omega), e 2 (by omega), e 3 (by omega)⟩, fun j => World.ownsRow.frozenAt (h : w.ownsRow base tCh 4 (.slice (some ⟨g, 0, none⟩) l.length c) l.length (flatK chC l)) j⟩
theorem OwnC.put {base g N c : Nat} {w : World} {l : List Ch} (h : OwnC base w (.slice (some ⟨g, 0, none⟩) N c) l) (k : Nat) (hk : k < l.length) (i : Nat) (hi : i < 4) (u : Value) (y : Ch) (hy : chC y = (chC l[k]).set i u) :
 OwnC base (w.setCell ⟨g, k * 4 + i, none⟩ u) (.slice (some ⟨g, 0, none⟩) N c) (l.set k y) := by
 have hN : N = l.length := by
  rcases h.2 with ⟨e, _⟩ | ⟨g', cap, cur, e, _⟩
  · cases e
  · injection e
 subst hN
 have h2 : w.ownsRow base tCh 4 (.slice (some ⟨g, 0, none⟩) l.length c) l.length (flatK chC l) := h
 have h3 := (h2.stored (k * 4 + i) u).1
 rw [flat_set chC_len l k hk i hi u y hy] at h3
 unfold OwnC
 rw [List.length_set]
 exact h3
end Sc
end Go.Proofs.YtjecfmbecgpbmaaGreatDoor

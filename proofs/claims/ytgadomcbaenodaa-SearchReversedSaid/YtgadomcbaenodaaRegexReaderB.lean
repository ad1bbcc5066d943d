/-
  The reference's reader of patterns: node. Conditions: short patterns, at most a million nodes.
-/
import Derived.Test.YtgadomcbaenodaaRegexReader
namespace Go.Proofs.Ytgadomcbaenodaa
open Go.RowKit
namespace Rx
open Cm
abbrev tNodes : TypeId := 23
/-- A row stays where all old blocks stay. -/
theorem own_same {w W : World} {base n size : Nat} {e : TypeId} {v : Value} {xs : List Value} (h : w.ownsRow base e size v n xs) (hs : ∀ k, k < w.heap.size → W.heap[k]? = w.heap[k]?) : W.ownsRow base e size v n xs := by
  refine ⟨h.1, ?_⟩
  rcases h.2 with hn | ⟨g, cap, cur, hv, hbg, hh, r⟩
  · exact .inl hn
  · exact .inr ⟨g, cap, cur, hv, hbg, (hs g (lt_some hh)).trans hh, r⟩
theorem own_ne' {w : World} {base base' n n' z z' : Nat} {t e : TypeId} {v v' : Value} {xs xs' : List Value} (h : w.ownsRow base e z v n xs) (h' : w.ownsRow base' t z' v' n' xs') (hne : e ≠ t) : v.ownBlock = none ∨ v.ownBlock ≠ v'.ownBlock := by
  rcases h.2 with ⟨rfl, _⟩ | ⟨g, cap, cur, rfl, _, hh, _⟩
  · exact .inl rfl
  · right
    rcases h'.2 with ⟨rfl, _⟩ | ⟨g', cap', cur', rfl, _, hh', _⟩
    · simp [Value.ownBlock]
    · intro hg
      have : g = g' := by simpa [Value.ownBlock] using hg
      subst this
      rw [hh] at hh'
      injection hh' with hh'
      injection hh' with _ ht
      exact hne ht
end Rx
end Go.Proofs.Ytgadomcbaenodaa

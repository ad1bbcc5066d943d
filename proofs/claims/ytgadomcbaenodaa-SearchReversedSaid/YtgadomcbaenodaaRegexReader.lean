/-
  The reference's reader of patterns: what its blocks hold; fail, is, node. Conditions: short patterns, at most a million nodes.
-/
import Derived.Test.YtgadomcbaenodaaRegexNode
import Derived.Deep.AppendLies
import Derived.Deep.RegionLaw
namespace Go.Proofs.Ytgadomcbaenodaa
open Go.RowKit
namespace Rx
open Cm
theorem set_block {w : World} {b o : Nat} {cs : Array Value} {t : TypeId} {u : Value} (h : w.heap[b]? = some (.cells cs t (0, 0))) : (w.setCell ⟨b, o, none⟩ u).heap[b]? = some (.cells (cs.setIfInBounds o u) t (0, 0)) :=
  heap_setCell_same w b o cs t u h
/-- Nodes stay while a cell of the reader's block is written. -/
theorem OwnN.setCell {w : World} {base b o : Nat} {v u : Value} {ns : List Nd} {ks : List Value} {cs : Array Value} {t : TypeId} (h : OwnN w base v ns ks) (hb : w.heap[b]? = some (.cells cs t (0, 0))) (h1 : tNode ≠ t) (h2 : tInt ≠ t) : OwnN (w.setCell ⟨b, o, none⟩ u) base v ns ks := by
  have hk : ∀ (e : TypeId) (size n : Nat) (x : Value) (xs : List Value), e ≠ t → w.ownsRow base e size x n xs → (w.setCell ⟨b, o, none⟩ u).ownsRow base e size x n xs := fun e size n x xs hne hx => by
    refine ownsRow_setCell_other hx ?_ u
    intro hkv
    rcases hx.2 with ⟨rfl, _⟩ | ⟨g, cap, cur, rfl, _, hh, _⟩
    · simp [Value.ownBlock] at hkv
    · have : g = b := by simpa [Value.ownBlock] using hkv
      subst this
      rw [hb] at hh
      injection hh with hh
      injection hh with _ ht
      exact hne ht.symm
  exact ⟨h.1, hk _ _ _ _ _ h1 h.2.1, fun j a c => hk _ _ _ _ _ h2 (h.2.2 j a c)⟩
theorem OwnN.drewN {w : World} {base : Nat} {v : Value} {ns : List Nd} {ks : List Value} (h : OwnN w base v ns ks) (m : Nat) : OwnN (w.drewN m) base v ns ks := by
  induction m generalizing w with
  | zero => exact h
  | succ m ih => exact ih (w := w.drew) h
section
variable {w : World} {base rb : Nat} {s : ByteArray} {a d e : Int} {ns : List Nd} {ks : List Value}
/-- Is the next byte this one? -/
def isF (l : List UInt8) (at_ : Nat) (c : Nat) : Bool := match l[at_]? with | some b => b.toNat == c | none => false
end
end Rx
end Go.Proofs.Ytgadomcbaenodaa

/-
  append of a slice of strings that reads as a list onto a slice of strings that the call owns, guarded or not. Condition: fewer than 2^24 elements together.
-/
import Derived.Test.YtlnghfmedkfkmaaDoorTextRefJ
import Derived.Laws.AppendOwnNone
namespace Go.Proofs.YtlnghfmedkfkmaaDoor
open Go.RowKit
namespace Tx
theorem wpList_wanted {P : Program} {ops : Array Oper} {Q : Exit → Act → World → Prop} {a : Act} {w : World} {rest : List Oper} {o : Oper} (hg : Region.wanted o (yielded ops a.tmps) = true)
    (h : ∀ K : Act → World → Prop, (∀ a w, wpList P ops Q rest a w → K a w) → o.wp P a w K Q) : wpList P ops Q (o :: rest) a w :=
  wpList_step fun K hK => by rw [if_pos hg]; exact h K hK
end Tx
end Go.Proofs.YtlnghfmedkfkmaaDoor

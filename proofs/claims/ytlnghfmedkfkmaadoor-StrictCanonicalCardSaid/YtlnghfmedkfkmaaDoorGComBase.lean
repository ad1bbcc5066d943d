/-
  Slices of one-cell elements that read as lists, slices that the call owns, and appending: for every element type. No conditions. Lists of numbers and strings as values; slices of slices. No conditions.
-/
import Derived.Test.YtlnghfmedkfkmaaDoorGTextBase
import Derived.Laws.AppendOwnNone
namespace Go.Proofs.YtlnghfmedkfkmaaDoor
section
open Go.RowKit
namespace Cm
/-- A slice that reads as a list of values. -/
def RdV (w : World) (v : Value) (us : List Value) : Prop :=
  ∃ A c, v = .slice A us.length c ∧ (us.length ≤ c ∧ (A = none → c = 0)) ∧ (0 < us.length → ∃ b off, A = some ⟨b, off, none⟩ ∧ ∀ j (h : j < us.length), w.cell? ⟨b, off + j, none⟩ = some us[j])
theorem RdV.nil (w : World) : RdV w (.slice none 0 0) [] := ⟨none, 0, rfl, ⟨Nat.le_refl _, fun _ => rfl⟩, fun hp => absurd hp (by decide)⟩
section
variable {t e : TypeId}
theorem own_form {w : World} {base n : Nat} {v : Value} {xs : List Value} (h : w.ownsRow base e 1 v n xs) : ∃ A c, v = .slice A n c := by
  rcases h.2 with ⟨rfl, rfl⟩ | ⟨g, cap, cur, rfl, _⟩
  · exact ⟨none, 0, rfl⟩
  · exact ⟨_, cap, rfl⟩
theorem own_below {w w' : World} {base n : Nat} {v : Value} {xs : List Value} (h : w.ownsRow base e 1 v n xs) (hb : Below w.heap.size w w') : w'.ownsRow base e 1 v n xs :=
  h.kept (row := none) ⟨hb.os, hb.tape, hb.output, hb.size, fun k hk _ => hb.block k hk⟩ (by cases v.ownBlock <;> simp)
theorem heap_new (w : World) (o : Obj) : (w.alloc o).heap[w.heap.size]? = some o := by
  show (w.heap.push o)[w.heap.size]? = some o
  simp
theorem below_drewN {n : Nat} {w w' : World} (h : Below n w w') (m : Nat) : Below n w (w'.drewN m) := by
  induction m with
  | zero => exact h
  | succ m ih => exact ih.drew
end
section
variable {P : Program} {ops : Array Oper} {rest : List Oper} {o : Oper} {a : Act} {Q : Exit → Act → World → Prop} {w : World} {t e : TypeId} {z : Value} {bytes : Nat}
theorem wpList_wanted (hg : Region.wanted o (yielded ops a.tmps) = true)
    (h : ∀ K : Act → World → Prop, (∀ a w, wpList P ops Q rest a w → K a w) → o.wp P a w K Q) : wpList P ops Q (o :: rest) a w :=
  wpList_step fun K hK => by rw [if_pos hg]; exact h K hK
end
end Cm
end
section
open Go.RowKit
namespace Cm
def intsV (l : List Int) : List Value := l.map fun z => .int .i64 z
def stringsV (l : List ByteArray) : List Value := l.map Value.string
theorem intsV_len (l : List Int) : (intsV l).length = l.length := by simp [intsV]
end Cm
end
end Go.Proofs.YtlnghfmedkfkmaaDoor

/-
  The first of the longest matches, read off a table of pairs. No conditions.
-/
import Derived.Test.YtgadomcbaenodaaSeaLong
namespace Go.Proofs.Ytgadomcbaenodaa
namespace Se
open Au
theorem find_hit {ss : List St} {st : Nat} {bs : List UInt8} {T : Nat → Nat → Bool} (hacc : ∀ i e, Run ss bs i st e ↔ e ≤ bs.length ∧ T i e = true) {i j : Nat} (hj : j ≤ bs.length) (hT : T i j = true) (hno : ∀ k, j < k → k ≤ bs.length → T i k = false) : findF ss st bs i = some (i, j) := by
  refine findF_hit (bestF_some.2 ⟨(hacc i j).2 ⟨hj, hT⟩, fun e he => ?_⟩)
  obtain ⟨h1, h2⟩ := (hacc i e).1 he
  rcases Nat.lt_or_ge j e with h | h
  · rw [hno e h h1] at h2; cases h2
  · exact h
theorem find_miss {ss : List St} {st : Nat} {bs : List UInt8} {T : Nat → Nat → Bool} (hacc : ∀ i e, Run ss bs i st e ↔ e ≤ bs.length ∧ T i e = true) {i : Nat} (hno : ∀ k, i ≤ k → k ≤ bs.length → T i k = false) : findF ss st bs i = findF ss st bs (i + 1) := by
  refine findF_miss ?_
  cases h : bestF ss st bs i with
  | none => rfl
  | some e =>
    have hr := (bestF_some.1 h).1
    obtain ⟨h1, h2⟩ := (hacc i e).1 hr
    rw [hno e hr.le.1 h1] at h2
    cases h2
end Se
end Go.Proofs.Ytgadomcbaenodaa

/-
  Plain mathematics of layer 7: replacing. No conditions.
-/
import Derived.Test.YthpolbiekdijjaaOccMath
namespace Go.Proofs.Ythpolbiekdijjaa
namespace Oc
def stepR (n s b : List UInt8) (st : List UInt8 × Nat) (x : Nat) : List UInt8 × Nat := (st.1 ++ (s.drop st.2).take (x - st.2) ++ b, x + n.length)
def accR (n s b : List UInt8) (pre : List Nat) : List UInt8 × Nat := pre.foldl (stepR n s b) ([], 0)
theorem accR_snoc (n s b : List UInt8) (pre : List Nat) (x : Nat) : accR n s b (pre ++ [x]) = stepR n s b (accR n s b pre) x := by
  unfold accR; rw [List.foldl_append]; rfl
def replF (n s b : List UInt8) : List UInt8 := (accR n s b (posL n s 0)).1 ++ s.drop (accR n s b (posL n s 0)).2
theorem acc_from {n s b : List UInt8} : ∀ (pre L : List Nat) (p : Nat) (o : List UInt8), p ≤ s.length → IsPos n s p (pre ++ L) →
    p ≤ (pre.foldl (stepR n s b) (o, p)).2 ∧ (pre.foldl (stepR n s b) (o, p)).2 ≤ s.length ∧ (pre.foldl (stepR n s b) (o, p)).1.length + p ≤ o.length + (pre.foldl (stepR n s b) (o, p)).2 + pre.length * b.length ∧
      IsPos n s (pre.foldl (stepR n s b) (o, p)).2 L
  | [], L, p, o, hp, h => ⟨Nat.le_refl _, hp, by simp, h⟩
  | x :: pre, L, p, o, hp, h => by
    have hx := h.2.1.le
    have h1 := h.1
    obtain ⟨a, c, d, e⟩ := acc_from (b := b) pre L (x + n.length) (o ++ (s.drop p).take (x - p) ++ b) hx.1 h.2.2.2
    rw [List.foldl_cons]
    refine ⟨?_, c, ?_, e⟩
    · show p ≤ (pre.foldl (stepR n s b) (o ++ (s.drop p).take (x - p) ++ b, x + n.length)).2
      omega
    · show (pre.foldl (stepR n s b) (o ++ (s.drop p).take (x - p) ++ b, x + n.length)).1.length + p ≤ _
      rw [List.length_append, List.length_append, List.length_take, List.length_drop] at d
      show _ ≤ o.length + (pre.foldl (stepR n s b) (o ++ (s.drop p).take (x - p) ++ b, x + n.length)).2 + (pre.length + 1) * b.length
      rw [Nat.add_mul, Nat.one_mul]
      omega
/-- What holds of what is written so far. -/
theorem acc_pre {n s b : List UInt8} {pre : List Nat} (h : pre <+: posL n s 0) : (accR n s b pre).2 ≤ s.length ∧ (accR n s b pre).1.length ≤ (accR n s b pre).2 + pre.length * b.length ∧ pre.length ≤ s.length := by
  obtain ⟨L, hL⟩ := h
  have hp := posL_is n s 0
  have hc := hp.count (Nat.zero_le _)
  rw [← hL] at hp hc
  obtain ⟨_, a, c, _⟩ := acc_from (b := b) pre L 0 [] (Nat.zero_le _) hp
  rw [List.length_append] at hc
  refine ⟨a, by have : accR n s b pre = pre.foldl (stepR n s b) ([], 0) := rfl; rw [this]; simpa using c, by omega⟩
theorem acc_next {n s b : List UInt8} {pre : List Nat} {x : Nat} (h : pre ++ [x] <+: posL n s 0) : (accR n s b pre).2 ≤ x ∧ x + n.length ≤ s.length ∧ 0 < n.length := by
  obtain ⟨L, hL⟩ := h
  have hp := posL_is n s 0
  rw [← hL, List.append_assoc] at hp
  obtain ⟨_, _, _, d⟩ := acc_from (b := b) pre ([x] ++ L) 0 [] (Nat.zero_le _) hp
  exact ⟨d.1, d.2.1.le.1, d.2.1.le.2⟩
theorem replF_len {n s b : List UInt8} : (replF n s b).length ≤ s.length + s.length * b.length := by
  obtain ⟨h1, h2, h3⟩ := acc_pre (b := b) (List.prefix_refl (posL n s 0))
  unfold replF
  rw [List.length_append, List.length_drop]
  have := Nat.mul_le_mul_right b.length h3
  omega
end Oc
end Go.Proofs.Ythpolbiekdijjaa

/-
  Plain mathematics of layer 7: cutting a text behind an occurrence, replacing by the needle itself and by a byte that it has not. No conditions.
-/
import Derived.Test.YthpolbiekdijjaaOccRepM
namespace Go.Proofs.Ythpolbiekdijjaa
namespace Oc
theorem occ_take {n s : List UInt8} {c j : Nat} : OccAt n (s.take c) j ↔ OccAt n s j ∧ j + n.length ≤ c := by
  constructor
  · intro h
    have hl := h.le
    rw [List.length_take] at hl
    have hc : j + n.length ≤ c := by omega
    refine ⟨⟨h.1, ?_⟩, hc⟩
    have h2 := h.2
    rw [List.drop_take, List.take_take, Nat.min_eq_left (by omega)] at h2
    exact h2
  · rintro ⟨h, hc⟩
    refine ⟨h.1, ?_⟩
    rw [List.drop_take, List.take_take, Nat.min_eq_left (by omega)]
    exact h.2
theorem occ_drop {n s : List UInt8} {c j : Nat} : OccAt n (s.drop c) j ↔ OccAt n s (c + j) := by
  unfold OccAt
  rw [List.drop_drop]
def endF (n : List UInt8) (p : Nat) : List Nat → Nat
  | [] => p
  | x :: l => endF n (x + n.length) l
theorem endF_le {n s : List UInt8} : ∀ {l L : List Nat} {p : Nat}, IsPos n s p (l ++ L) → p ≤ endF n p l
  | [], _, _, _ => Nat.le_refl _
  | x :: l, L, p, h => by
    have h1 := h.1
    have h2 := endF_le (l := l) h.2.2.2
    show p ≤ endF n (x + n.length) l
    omega
theorem endF_rest {n s : List UInt8} : ∀ {l L : List Nat} {p : Nat}, IsPos n s p (l ++ L) → IsPos n s (endF n p l) L
  | [], _, _, h => h
  | _ :: l, _, _, h => endF_rest (l := l) h.2.2.2
theorem isPos_take {n s : List UInt8} : ∀ {l L : List Nat} {p : Nat}, IsPos n s p (l ++ L) → IsPos n (s.take (endF n p l)) p l
  | [], _, p, _ => fun j hj ho => by
    have h1 := (occ_take.1 ho).2
    have h2 := ho.le.2
    simp only [endF] at h1
    omega
  | x :: l, L, p, h => by
    have h2 := endF_le (l := l) h.2.2.2
    exact ⟨h.1, occ_take.2 ⟨h.2.1, h2⟩, fun j a b ho => h.2.2.1 j a b (occ_take.1 ho).1, isPos_take (l := l) h.2.2.2⟩
theorem isPos_drop {n s : List UInt8} {c : Nat} : ∀ {l : List Nat} {p : Nat}, c ≤ p → IsPos n s p l → IsPos n (s.drop c) (p - c) (l.map fun x => x - c)
  | [], p, hp, h => fun j hj ho => h (c + j) (by omega) (occ_drop.1 ho)
  | x :: l, p, hp, h => by
    have h1 := h.1
    refine ⟨show p - c ≤ x - c by omega, show OccAt n (s.drop c) (x - c) from occ_drop.2 (by rw [show c + (x - c) = x by omega]; exact h.2.1), fun j a (b : j < x - c) ho => h.2.2.1 (c + j) (by omega) (by omega) (occ_drop.1 ho), ?_⟩
    have := isPos_drop (l := l) (p := x + n.length) (c := c) (by omega) h.2.2.2
    show IsPos n (s.drop c) (x - c + n.length) (l.map fun x => x - c)
    rw [show x - c + n.length = x + n.length - c by omega]
    exact this
theorem endF_snoc {n : List UInt8} : ∀ (l : List Nat) (p x : Nat), endF n p (l ++ [x]) = x + n.length
  | [], _, _ => rfl
  | _ :: l, _, x => endF_snoc l _ x
/-- The occurrences before and behind a cut. -/
theorem cut_count {n s : List UInt8} {m : Nat} (h : m < (posL n s 0).length) :
    (posL n (s.take ((posL n s 0)[m] + n.length)) 0).length + (posL n (s.drop ((posL n s 0)[m] + n.length)) 0).length = (posL n s 0).length := by
  have hp := posL_is n s 0
  generalize posL n s 0 = L at h hp
  have e : L = (L.take m ++ [L[m]]) ++ L.drop (m + 1) := by rw [← List.take_succ_eq_append_getElem h, List.take_append_drop]
  have hp2 := hp
  rw [e] at hp2
  have h1 := isPos_take hp2
  have h2 := endF_rest hp2
  rw [endF_snoc] at h1 h2
  have h3 := isPos_drop (Nat.le_refl _) h2
  rw [Nat.sub_self] at h3
  rw [posL_eq h1, posL_eq h3, List.length_map, List.length_append, List.length_take, List.length_drop, List.length_singleton]
  omega
/-- Replacing, from an offset on. -/
def repFrom (n s b : List UInt8) (p : Nat) : List Nat → List UInt8
  | [] => s.drop p
  | x :: l => (s.drop p).take (x - p) ++ b ++ repFrom n s b (x + n.length) l
theorem rep_from {n s b : List UInt8} : ∀ (l : List Nat) (p : Nat) (o : List UInt8), (l.foldl (stepR n s b) (o, p)).1 ++ s.drop (l.foldl (stepR n s b) (o, p)).2 = o ++ repFrom n s b p l
  | [], _, _ => rfl
  | x :: l, p, o => by
    rw [List.foldl_cons]
    have := rep_from (n := n) (s := s) (b := b) l (x + n.length) (o ++ (s.drop p).take (x - p) ++ b)
    show (l.foldl (stepR n s b) (o ++ (s.drop p).take (x - p) ++ b, x + n.length)).1 ++ s.drop (l.foldl (stepR n s b) (o ++ (s.drop p).take (x - p) ++ b, x + n.length)).2 = _
    rw [this]
    simp [repFrom, List.append_assoc]
theorem replF_eq (n s b : List UInt8) : replF n s b = repFrom n s b 0 (posL n s 0) := by
  have := rep_from (n := n) (s := s) (b := b) (posL n s 0) 0 []
  rw [List.nil_append] at this
  exact this
theorem seg_join (s : List UInt8) {p x : Nat} (h : p ≤ x) : (s.drop p).take (x - p) ++ s.drop x = s.drop p := by
  have : s.drop x = (s.drop p).drop (x - p) := by rw [List.drop_drop]; congr 1; omega
  rw [this, List.take_append_drop]
theorem rep_self {n s : List UInt8} : ∀ {l : List Nat} {p : Nat}, IsPos n s p l → repFrom n s n p l = s.drop p
  | [], _, _ => rfl
  | x :: l, p, h => by
    have h1 := rep_self (l := l) h.2.2.2
    have h2 := h.2.1.2
    show (s.drop p).take (x - p) ++ n ++ repFrom n s n (x + n.length) l = s.drop p
    rw [h1, List.append_assoc]
    have e : n ++ s.drop (x + n.length) = s.drop x := by
      conv => lhs; lhs; rw [← h2]
      have : s.drop (x + n.length) = (s.drop x).drop n.length := by rw [List.drop_drop]
      rw [this, List.take_append_drop]
    rw [e, seg_join s h.1]
theorem replF_self (n s : List UInt8) : replF n s n = s := by
  rw [replF_eq, rep_self (posL_is n s 0), List.drop_zero]
theorem rep_len {n s : List UInt8} {z : UInt8} : ∀ {l : List Nat} {p : Nat}, p ≤ s.length → IsPos n s p l → (repFrom n s [z] p l).length + l.length * (n.length - 1) = s.length - p
  | [], p, _, _ => by simp [repFrom]
  | x :: l, p, hp, h => by
    have h0 := h.2.1.le
    have h1 := rep_len (l := l) (z := z) h0.1 h.2.2.2
    have h2 := h.1
    show ((s.drop p).take (x - p) ++ [z] ++ repFrom n s [z] (x + n.length) l).length + (l.length + 1) * (n.length - 1) = _
    rw [List.length_append, List.length_append, List.length_take, List.length_drop, List.length_singleton, Nat.add_mul, Nat.one_mul]
    omega
theorem replF_z (n s : List UInt8) (z : UInt8) : (replF n s [z]).length + (posL n s 0).length * (n.length - 1) = s.length := by
  rw [replF_eq, rep_len (Nat.zero_le _) (posL_is n s 0)]; omega
/-- What occurs across a byte that the needle has not. -/
theorem occ_across {n a b : List UInt8} {z : UInt8} (hz : z ∉ n) {i : Nat} (h : OccAt n (a ++ [z] ++ b) i) : OccAt n a i ∨ ∃ j, OccAt n b j := by
  have hl := h.le
  rw [List.append_assoc] at h
  by_cases h1 : i + n.length ≤ a.length
  · left
    refine ⟨h.1, ?_⟩
    have h2 := h.2
    rw [List.drop_append_of_le_length (by omega), List.take_append_of_le_length (by rw [List.length_drop]; omega)] at h2
    exact h2
  · by_cases h2 : a.length < i
    · right
      refine ⟨i - a.length - 1, h.1, ?_⟩
      have h3 := h.2
      have e : (a ++ ([z] ++ b)).drop i = b.drop (i - a.length - 1) := by
        rw [← List.append_assoc, List.drop_append, List.drop_eq_nil_of_le (by rw [List.length_append, List.length_singleton]; omega), List.nil_append]
        congr 1
        rw [List.length_append, List.length_singleton]; omega
      rw [e] at h3
      exact h3
    · exfalso
      apply hz
      have h3 := congrArg (fun l => l[a.length - i]?) h.2
      simp only [List.getElem?_take, List.getElem?_drop] at h3
      rw [if_pos (by omega), show i + (a.length - i) = a.length by omega, List.getElem?_append_right (Nat.le_refl _), Nat.sub_self] at h3
      simp only [List.singleton_append, List.getElem?_cons_zero] at h3
      exact List.mem_of_getElem? h3.symm
theorem rep_none {n s : List UInt8} {z : UInt8} (hz : z ∉ n) : ∀ {l : List Nat} {p : Nat}, IsPos n s p l → ∀ i, ¬ OccAt n (repFrom n s [z] p l) i
  | [], p, h, i, ho => h (p + i) (by omega) (occ_drop.1 ho)
  | x :: l, p, h, i, ho => by
    rcases occ_across hz ho with h1 | ⟨j, h1⟩
    · have h2 := occ_take.1 h1
      have h3 := h1.le.2
      exact h.2.2.1 (p + i) (by omega) (by omega) (occ_drop.1 h2.1)
    · exact rep_none (l := l) hz h.2.2.2 j h1
theorem replF_none (n s : List UInt8) {z : UInt8} (hz : z ∉ n) : posL n (replF n s [z]) 0 = [] := by
  rw [replF_eq]
  exact posL_eq (fun j _ => rep_none hz (posL_is n s 0) j)
end Oc
end Go.Proofs.Ythpolbiekdijjaa

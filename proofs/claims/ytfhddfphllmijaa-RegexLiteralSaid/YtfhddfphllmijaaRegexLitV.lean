/-
  The nodes of a literal are valid; how they read. Condition: at most 100 bytes.
-/
import Derived.Test.YtfhddfphllmijaaRegexLitM
import Derived.Test.YtfhddfphllmijaaRegexCheck
namespace Go.Proofs.Ytfhddfphllmijaa
open Go.RowKit
namespace Px
open Cm Rx
theorem upTo_len (n : Nat) : (upTo n).length = n := by unfold upTo; simp
theorem upTo_mem {n : Nat} {k : Int} (h : k ∈ upTo n) : 0 ≤ k ∧ k < (n : Int) := by
  unfold upTo at h
  rw [List.mem_map] at h
  obtain ⟨i, hi, rfl⟩ := h
  rw [List.mem_range] at hi
  omega
theorem fine_set (b : UInt8) : fineF (setB b) = true := rfl
theorem ok_set (k : Nat) (b : UInt8) : NodeOk k (setB b) := ⟨fun _ hx => (List.not_mem_nil hx).elim, rfl⟩
theorem nodes_many {l : List UInt8} (h : 2 ≤ l.length) : nodesL l = l.map setB ++ [manyN 4 (upTo l.length)] := by
  rcases l with _ | ⟨b, _ | ⟨b2, r⟩⟩
  · simp at h
  · simp at h
  · rfl
theorem nodes_len {l : List UInt8} : (nodesL l).length = if l.length = 0 then 1 else if l.length = 1 then 1 else l.length + 1 := by
  rcases l with _ | ⟨b, _ | ⟨b2, r⟩⟩
  · rfl
  · rfl
  · rw [if_neg (by simp), if_neg (by simp), nodes_many (by simp)]
    simp
theorem nodes_get {l : List UInt8} {j : Nat} (h : j < l.length) (h2 : j < (nodesL l).length) : (nodesL l)[j] = setB l[j] := by
  rcases l with _ | ⟨b, _ | ⟨b2, r⟩⟩
  · simp at h
  · have : j = 0 := by simp at h; exact h
    subst this
    rfl
  · have e : (nodesL (b :: b2 :: r))[j]? = some (setB (b :: b2 :: r)[j]) := by
      rw [nodes_many (by simp), List.getElem?_append_left (by simpa using h), List.getElem?_map, List.getElem?_eq_getElem h]
      rfl
    rw [List.getElem?_eq_getElem h2] at e
    exact Option.some.inj e
theorem nodes_last {l : List UInt8} (h : 2 ≤ l.length) (h2 : l.length < (nodesL l).length) : (nodesL l)[l.length] = manyN 4 (upTo l.length) := by
  have e : (nodesL l)[l.length]? = some (manyN 4 (upTo l.length)) := by
    rw [nodes_many h, List.getElem?_append_right (by simp)]
    simp
  rw [List.getElem?_eq_getElem h2] at e
  exact Option.some.inj e
theorem ok_plain (k : Nat) : NodeOk k (plainN 0) := ⟨fun _ hx => (List.not_mem_nil hx).elim, rfl⟩
theorem nodes_valid {l : List UInt8} (h : l.length ≤ 100) : Valid (nodesL l) := by
  have hlen := nodes_len (l := l)
  refine ⟨?_, ?_, fun k hk => ?_⟩
  · rw [hlen]; repeat' split
    all_goals omega
  · rw [hlen]; repeat' split
    all_goals omega
  · by_cases hkl : k < l.length
    · rw [nodes_get hkl hk]
      exact ok_set k _
    · rcases l with _ | ⟨b, _ | ⟨b2, r⟩⟩
      · have : k = 0 := by simp [nodesL] at hk; exact hk
        subst this
        exact ok_plain 0
      · rw [hlen] at hk
        simp at hk hkl
        omega
      · have hk2 : k = (b :: b2 :: r).length := by
          rw [hlen, if_neg (by simp), if_neg (by simp)] at hk
          omega
        subst hk2
        rw [nodes_last (by simp) hk]
        refine ⟨fun x hx => upTo_mem hx, ?_⟩
        rw [fine_iff]
        right; left
        exact ⟨.inl rfl, by show 2 ≤ (upTo _).length; rw [upTo_len]; simp⟩
theorem nodes_kids {l : List UInt8} (h : l.length ≤ 100) : ∀ n ∈ nodesL l, n.kids.length ≤ 100 := by
  intro n hn
  obtain ⟨j, hj, rfl⟩ := List.mem_iff_getElem.1 hn
  by_cases hkl : j < l.length
  · rw [nodes_get hkl hj]
    exact Nat.zero_le _
  · have hlen := nodes_len (l := l)
    rcases l with _ | ⟨b, _ | ⟨b2, r⟩⟩
    · have : j = 0 := by simp [nodesL] at hj; exact hj
      subst this
      exact Nat.zero_le _
    · rw [hlen] at hj
      simp at hj hkl
      omega
    · have hk2 : j = (b :: b2 :: r).length := by
        rw [hlen, if_neg (by simp), if_neg (by simp)] at hj
        omega
      subst hk2
      rw [nodes_last (by simp) hj]
      show (upTo _).length ≤ 100
      rw [upTo_len]
      exact h
end Px
end Go.Proofs.Ytfhddfphllmijaa

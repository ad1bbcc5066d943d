/-
  Layer 6: what the automaton of the chapter's example matches. No program. No conditions.
-/
import Derived.Test.YthoidaaldngpmaaSeaStar
namespace Go.Proofs.Ythoidaaldngpmaa
namespace Se
open Cm Rx Au
theorem star_valid : ValidA starS ((0 : Nat) : Int) := by
  refine ⟨by simp [starS], rfl, fun k h => ?_⟩
  match k, h with
  | 0, _ => rfl
  | 1, _ => rfl
  | 2, _ => rfl
theorem put97 {x : UInt8} (h : putM noSet 97 x.toNat = true) : x = 97 := by
  have : x.toNat = 97 := by
    unfold putM noSet at h
    simpa using h
  exact UInt8.toNat_inj.1 (by rw [this]; rfl)
theorem star_up {bs : List UInt8} {i q e : Nat} (h : Run starS bs i q e) : (q = 0 ∨ q = 1 → ∀ k, i ≤ k → k < e → bs[k]? = some 97) ∧ (q = 2 → e = i) := by
  induction h with
  | acc h hk hi => exact ⟨fun _ k h1 h2 => by omega, fun _ => rfl⟩
  | @next i q e h hp hr ih =>
    have hq : q = 0 ∨ q = 1 ∨ q = 2 := by simp [starS] at h; omega
    rcases hq with rfl | rfl | rfl
    · exact ⟨fun _ => ih.1 (.inr rfl), fun h => by cases h⟩
    · simp [starS, passS] at hp
    · simp [starS, passS] at hp
  | @other i q e h hk hr ih =>
    have hq : q = 0 ∨ q = 1 ∨ q = 2 := by simp [starS] at h; omega
    rcases hq with rfl | rfl | rfl
    · have he : e = i := ih.2 rfl
      exact ⟨fun _ k h1 h2 => by omega, fun h => by cases h⟩
    · simp [starS] at hk
    · simp [starS] at hk
  | @read i q e h hk hi hb hr ih =>
    have hq : q = 0 ∨ q = 1 ∨ q = 2 := by simp [starS] at h; omega
    rcases hq with rfl | rfl | rfl
    · simp [starS] at hk
    · refine ⟨fun _ k h1 h2 => ?_, fun h => by cases h⟩
      by_cases e1 : k = i
      · subst e1
        rw [List.getElem?_eq_getElem hi]
        exact congrArg some (put97 hb)
      · exact ih.1 (.inl rfl) k (by omega) h2
    · simp [starS] at hk
theorem star_end {bs : List UInt8} {i : Nat} (h : i ≤ bs.length) : Run starS bs i 0 i :=
  .other (by simp [starS]) rfl (.acc (by simp [starS]) rfl h)
theorem star_read {bs : List UInt8} {i e : Nat} (h : bs[i]? = some 97) (hr : Run starS bs (i + 1) 0 e) : Run starS bs i 0 e := by
  obtain ⟨hi, hb⟩ := List.getElem?_eq_some_iff.1 h
  exact .next (by simp [starS]) rfl (.read (by simp [starS]) rfl hi (by rw [hb]; rfl) hr)
theorem star_best {bs : List UInt8} {i e : Nat} (hr : Run starS bs i 0 e) (hs : e = bs.length ∨ bs[e]? ≠ some 97) : bestF starS 0 bs i = some e := by
  refine bestF_some.2 ⟨hr, fun e' h' => ?_⟩
  have h1 := h'.le
  have h2 := hr.le
  rcases hs with h | h
  · omega
  · by_cases hc : e' ≤ e
    · exact hc
    · exact absurd ((star_up h').1 (.inl rfl) e h2.1 (by omega)) h
theorem star_whole : wholeF starS 0 [97, 97] = true := by
  have h : bestF starS 0 [97, 97] 0 = some 2 := star_best (star_read rfl (star_read rfl (star_end (Nat.le_refl 2)))) (.inl rfl)
  unfold wholeF
  rw [h]
  rfl
theorem star_all : allL starS 0 [98, 97, 97] = [(0, 0), (1, 3), (3, 3)] := by
  have h0 : bestF starS 0 [98, 97, 97] 0 = some 0 := star_best (star_end (Nat.zero_le _)) (.inr (by decide))
  have h3 : bestF starS 0 [98, 97, 97] 3 = some 3 := star_best (star_end (Nat.le_refl 3)) (.inl rfl)
  have h1 : bestF starS 0 [98, 97, 97] 1 = some 3 := star_best (star_read rfl (star_read rfl (star_end (Nat.le_refl 3)))) (.inl rfl)
  unfold allL
  rw [allG_cons (findF_hit h0)]
  show (0, 0) :: allG starS 0 [98, 97, 97] 3 1 = _
  rw [allG_cons (findF_hit h1)]
  show (0, 0) :: (1, 3) :: allG starS 0 [98, 97, 97] 2 3 = _
  rw [allG_cons (findF_hit h3)]
  show (0, 0) :: (1, 3) :: (3, 3) :: allG starS 0 [98, 97, 97] 1 4 = _
  rw [allG_nil (findF_end (by decide))]
end Se
end Go.Proofs.Ythoidaaldngpmaa

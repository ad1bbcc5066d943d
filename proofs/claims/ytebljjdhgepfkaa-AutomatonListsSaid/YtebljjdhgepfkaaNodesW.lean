/-
  The law's lists of nodes are valid and not heavy: Build accepts them. Plain mathematics, no conditions.
-/
import Derived.Test.YtebljjdhgepfkaaAutoW
import Derived.Test.YtebljjdhgepfkaaNodes
namespace Go.Proofs.Ytebljjdhgepfkaa
open Go.RowKit
namespace No
open Cm Rx Au Th
theorem Small.ok {i : Nat} {x : Nd} (h : Small i x) : NodeOk i x := by
  refine ⟨?_, (fine_iff x).2 ?_⟩
  · intro k hk
    rcases h with ⟨h1, _⟩ | ⟨_, ⟨m, h1, h2, h3⟩, _⟩ | ⟨_, m, r, h1, h2, h3, h4, h5⟩
    · rw [h1] at hk; cases hk
    · rw [h1, List.mem_singleton] at hk; subst hk; exact ⟨h2, h3⟩
    · rw [h1] at hk
      simp only [List.mem_cons, List.not_mem_nil, or_false] at hk
      rcases hk with rfl | rfl
      · exact ⟨h2, h3⟩
      · exact ⟨h4, h5⟩
  · unfold FineP
    rcases h with ⟨h1, h2, h3⟩ | ⟨h0, ⟨m, h1, _, _⟩, h4, h5, h6⟩ | ⟨h0, m, r, h1, _⟩
    · exact .inr (.inr ⟨by omega, by omega, by omega, by rw [h1]; rfl, by omega, by omega⟩)
    · exact .inl ⟨h0, by rw [h1]; rfl, by omega, by omega, by omega⟩
    · exact .inr (.inl ⟨h0, by rw [h1]; simp⟩)
def bnd : Nat → Int
  | 0 => 1
  | k + 1 => 4 * bnd k + 2
theorem bnd_pos : ∀ k, 1 ≤ bnd k
  | 0 => by decide
  | k + 1 => by have := bnd_pos k; simp only [bnd]; omega
theorem bnd_mono : ∀ {j k : Nat}, j ≤ k → bnd j ≤ bnd k
  | j, 0, h => by obtain rfl : j = 0 := by omega
                  exact Int.le_refl _
  | j, k + 1, h => by
    by_cases e : j = k + 1
    · subst e; exact Int.le_refl _
    · have := bnd_mono (j := j) (k := k) (by omega)
      have := bnd_pos k
      simp only [bnd]
      omega
theorem weigh_small {i : Nat} {x : Nd} {B : Int} {g : Int → Int} (h : Small i x) (hB : 1 ≤ B) (hg : ∀ k : Int, 0 ≤ k → k < i → 0 ≤ g k ∧ g k ≤ B) {S : Int} (hS : S = (x.kids.map g).sum) : 0 ≤ weighF x S ∧ weighF x S ≤ 4 * B + 2 := by
  unfold weighF
  rcases h with ⟨h1, h2, h3⟩ | ⟨h0, ⟨m, h1, hm1, hm2⟩, h4, h5, h6⟩ | ⟨h0, m, r, h1, hm1, hm2, hr1, hr2⟩
  · rw [if_neg (by omega), if_neg (by omega), if_neg (by omega)]
    omega
  · obtain ⟨g1, g2⟩ := hg m hm1 hm2
    rw [h1] at hS
    simp only [List.map_cons, List.map_nil, List.sum_cons, List.sum_nil] at hS
    rw [if_neg (by omega), if_neg (by omega), if_pos h0]
    have ho : optW x.mn x.mx = 0 ∨ optW x.mn x.mx = 1 ∨ optW x.mn x.mx = 2 := by
      unfold optW
      split <;> omega
    have hn : x.mn = 0 ∨ x.mn = 1 ∨ x.mn = 2 := by omega
    rcases ho with e | e | e <;> rcases hn with e2 | e2 | e2 <;> rw [e, e2] <;> omega
  · obtain ⟨g1, g2⟩ := hg m hm1 hm2
    obtain ⟨g3, g4⟩ := hg r hr1 hr2
    rw [h1] at hS
    simp only [List.map_cons, List.map_nil, List.sum_cons, List.sum_nil] at hS
    rcases h0 with h0 | h0
    · rw [if_pos h0]; omega
    · rw [if_neg (by omega), if_pos h0, h1]
      simp only [List.length_cons, List.length_nil]
      omega
theorem sumW_map (ws : List Int) : ∀ l : List Int, sumW ws l = (l.map fun k => ws.getD k.toNat 0).sum
  | [] => rfl
  | k :: r => by simp only [sumW, List.map_cons, List.sum_cons, sumW_map ws r]
theorem small_weight {ns : List Nd} (h : ∀ k (h : k < ns.length), Small k ns[k]) : ∀ k, k < ns.length → 0 ≤ (bigW ns).getD k 0 ∧ (bigW ns).getD k 0 ≤ bnd k := by
  intro j
  induction j using Nat.strongRecOn with
  | _ j ih =>
    intro hj
    have e : (bigW ns).getD j 0 = weighF ns[j] (sumW (bigW (ns.take j)) ns[j].kids) := tabG_at hj
    have hk : ∀ k : Int, 0 ≤ k → k < j → (bigW (ns.take j)).getD k.toNat 0 = (bigW ns).getD k.toNat 0 := fun k h0 h1 => tabG_kid (by omega) (by omega)
    rw [e]
    cases j with
    | zero =>
      have hs := h 0 hj
      rcases hs with ⟨h1, h2, h3⟩ | ⟨_, ⟨m, _, h2, h3⟩, _⟩ | ⟨_, m, r, _, h2, h3, _⟩
      · unfold weighF
        rw [if_neg (by omega), if_neg (by omega), if_neg (by omega)]
        decide
      · omega
      · omega
    | succ p =>
      have hB := bnd_pos p
      refine weigh_small (B := bnd p) (g := fun k => (bigW (ns.take (p + 1))).getD k.toNat 0) (h (p + 1) hj) hB (fun k h0 h1 => ?_) (sumW_map _ _)
      show 0 ≤ (bigW (ns.take (p + 1))).getD k.toNat 0 ∧ (bigW (ns.take (p + 1))).getD k.toNat 0 ≤ bnd p
      rw [hk k h0 h1]
      have h2 := ih k.toNat (by omega) (by omega)
      exact ⟨h2.1, Int.le_trans h2.2 (bnd_mono (by omega))⟩
open Classical in
theorem small_code {ns : List Nd} (h0 : 0 < ns.length) (hl : ns.length ≤ 6) (h : ∀ k (h : k < ns.length), Small k ns[k]) : codeB ns = 0 ∧ checkF ns = 0 ∧ Valid ns ∧ ∀ n ∈ ns, n.kids.length ≤ 1000000 := by
  have hv : Valid ns := ⟨h0, by omega, fun k hk => (h k hk).ok⟩
  refine ⟨?_, check_T hv, hv, fun n hn => ?_⟩
  · unfold codeB
    rw [if_pos hv]
    have e : weightR ns = weightF ns := by unfold weightR; rw [check_T hv, if_pos rfl]
    have e2 : weightF ns = min ((bigW ns).getD (ns.length - 1) 0) 4001 := cap_at hv.2.2 (ns.length - 1) (by omega)
    have e3 := (small_weight h (ns.length - 1) (by omega)).2
    have e4 : bnd (ns.length - 1) ≤ bnd 5 := bnd_mono (by omega)
    have e5 : bnd 5 = 1706 := by decide
    rw [if_neg (by rw [e, e2]; omega)]
  · obtain ⟨k, hk, rfl⟩ := List.mem_iff_getElem.1 hn
    rcases h k hk with ⟨h1, _⟩ | ⟨_, ⟨m, h1, _⟩, _⟩ | ⟨_, m, r, h1, _⟩ <;> rw [h1] <;> simp
theorem small_wt {ns : List Nd} (h0 : 0 < ns.length) (hl : ns.length ≤ 6) (h : ∀ k (h : k < ns.length), Small k ns[k]) : 0 ≤ weightR ns ∧ weightR ns ≤ 4000 := by
  obtain ⟨_, h1, h2⟩ := code_zero (small_code h0 hl h).1
  rw [h2]
  exact ⟨(small_weight h (ns.length - 1) (by omega)).1, h1⟩
end No
end Go.Proofs.Ytebljjdhgepfkaa

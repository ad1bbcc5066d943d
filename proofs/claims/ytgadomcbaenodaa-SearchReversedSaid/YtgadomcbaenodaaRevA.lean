/-
  Appending one node, and appending a list of nodes onto a new one; nodes of single bytes as cells. Conditions: short lists.
-/
import Derived.Test.YtgadomcbaenodaaRevM
import Derived.Test.YtgadomcbaenodaaAutoAt
import Derived.Deep.AppendLies
import Derived.Laws.AppendOwnNone
import Derived.Laws.OwnMore
namespace Go.Proofs.Ytgadomcbaenodaa
open Go.RowKit
namespace Rv
open Cm Rx Au
abbrev tNds : TypeId := 23
def enc8 (g : Nat → Bool) : List Value := ndC (oneN g) (.slice none 0 0)
def fl (gs : Gs) : List Value := gs.flatMap enc8
theorem fl_snoc (gs : Gs) (g : Nat → Bool) : fl (gs ++ [g]) = fl gs ++ enc8 g := by simp [fl]
theorem fl_cons (gs : Gs) (g : Nat → Bool) : fl (g :: gs) = enc8 g ++ fl gs := by simp [fl]
theorem fl_flat : ∀ (gs : Gs), fl gs = flatC (gs.map oneN) (List.replicate gs.length (.slice none 0 0))
  | [] => rfl
  | g :: gs => by
    rw [fl_cons, fl_flat gs]
    rfl
theorem fl_len (gs : Gs) : (fl gs).length = gs.length * 8 := by
  induction gs with
  | nil => rfl
  | cons g gs ih => rw [fl_cons, List.length_append, ih, List.length_cons]; unfold enc8 ndC; simp; omega
theorem one_nd (x : Nd) (kv : Value) (hk : kv.oneCell' = true) : ∀ u ∈ ndC x kv, u.oneCell' = true := by
  intro u hu
  unfold ndC at hu
  simp only [List.mem_cons, List.not_mem_nil, or_false] at hu
  rcases hu with rfl | rfl | rfl | rfl | rfl | rfl | rfl | rfl
  all_goals first | rfl | exact hk
theorem one_fl (gs : Gs) : ∀ u ∈ fl gs, u.oneCell' = true := by
  intro u hu
  obtain ⟨g, _, hg⟩ := List.mem_flatMap.1 hu
  exact one_nd (oneN g) _ rfl u hg
section
variable {ops : Array Oper} {rest : List Oper} {o : Oper} {a : Act} {Q : Exit → Act → World → Prop} {w : World}
/-- append of one new node; where the row lies then. -/
theorem app_nd (hg : Region.wanted o (yielded ops a.tmps) = true) (s x : Operand) (ho : o.op = .call { callee := .builtin .append, args := #[s, x], argTypes := #[tNds, tNds] })
    (base n : Nat) (xs us : List Value) (hus : us.length = 8) (hone : ∀ u ∈ us, u.oneCell' = true) (v : Value) (C : Array Value) (hs : a.eval s = v) (hown : w.ownsRow base tNode 8 v n xs)
    {H : Nat} (hH : w.heap.size = H) (hx : a.eval x = .slice (some ⟨H, 0, none⟩) 1 1) (hC : C.toList = us) (hsz : n + 1 ≤ 1000) (hbase : base ≤ w.heap.size)
    (h : ∀ v' w', w'.ownsRow base tNode 8 v' (n + 1) (xs ++ us) → Below base w w' → (w.alloc (.cells C tNode)).grownBy w' v.ownBlock → (∀ k, v'.ownBlock = some k → v.ownBlock = some k ∨ k = w.heap.size + 1) → wpList Try.prog ops Q rest (a.put o.dst v') w') :
    wpList Try.prog ops Q (o :: rest) a (w.alloc (.cells C tNode)) := by
  subst hH
  obtain ⟨i0, hi0, hz0, hz1, hz2⟩ := info_parts info_node
  refine wpList_wanted hg fun K hK => ?_
  refine wp_append_lies _ s x tNds ho base tNode i0 _ 8 80 Try.underlying23 hi0 hz0 hz1 hz2 rfl (by omega) v n xs hs (hown.alloc _) ⟨w.heap.size, 0, none⟩ 1 1 us hx (by rw [hus]) (fun j y hy => ?_) hone (by omega) (by unfold maxLen; omega) (by omega) (by simp; omega) (w.heap.size + 1) (by simp) ?_
  · have he : (Addr.mk w.heap.size 0 none).add j = ⟨w.heap.size, j, none⟩ := by
      unfold Addr.add; split
      · rename_i h0; rw [h0]
      · simp
    rw [he, World.cell?_alloc_mark, ← hy, ← hC]; simp
  · intro g cap w' h1 h2 h3 _
    refine hK _ _ (h _ w' h1 (((Below.refl base w).alloc hbase _).trans ((Below.refl base _).grown h2 (by simp; omega) (fun k hk => (hown.lt k hk).1))) h2 fun k hk => ?_)
    have e : g = k := by simpa [Value.ownBlock] using hk
    subst e
    exact h3
/-- append of a list onto one new node. -/
theorem app_front (hg : Region.wanted o (yielded ops a.tmps) = true) (s x : Operand) (ho : o.op = .call { callee := .builtin .append, args := #[s, x], argTypes := #[tNds, tNds] })
    (bm n : Nat) (xs us : List Value) (hus : us.length = 8) (hone : ∀ u ∈ xs, u.oneCell' = true) (v : Value) (C : Array Value) {H : Nat} (hH : w.heap.size = H) (hs : a.eval s = .slice (some ⟨H, 0, none⟩) 1 1) (hm : w.ownsRow bm tNode 8 v n xs)
    (hx : a.eval x = v) (hnil : n = 0 → v = .slice none 0 0) (hC : C.toList = us) (hsz : n + 1 ≤ 1000)
    (h : ∀ v' w', w'.ownsRow w.heap.size tNode 8 v' (n + 1) (us ++ xs) → Below w.heap.size w w' → wpList Try.prog ops Q rest (a.put o.dst v') w') :
    wpList Try.prog ops Q (o :: rest) a (w.alloc (.cells C tNode)) := by
  subst hH
  obtain ⟨i0, hi0, hz0, hz1, hz2⟩ := info_parts info_node
  have hfresh : (w.alloc (.cells C tNode)).ownsRow w.heap.size tNode 8 (.slice (some ⟨w.heap.size, 0, none⟩) 1 1) 1 us :=
    ⟨by rw [hus], .inr ⟨w.heap.size, 1, C, rfl, Nat.le_refl _, heap_new w _, Nat.le_refl _, by unfold maxLen; omega, by rw [← Array.length_toList, hC, hus], by rw [hC, ← hus, Nat.one_mul, List.take_length]⟩⟩
  have hb0 : Below w.heap.size w (w.alloc (.cells C tNode)) := (Below.refl _ _).alloc (Nat.le_refl _) _
  refine wpList_wanted hg fun K hK => ?_
  have hm0 := hm
  rcases hm.2 with ⟨rfl, rfl⟩ | ⟨g, cap, cur, rfl, _, _, _⟩
  · have h0 : xs = [] := List.eq_nil_of_length_eq_zero (by have := hm.1; omega)
    subst h0
    have hrun := run_append_owned_none (P := Try.prog) (w := w.alloc (.cells C tNode)) w.heap.size tNds o.type tNode i0 8 Try.underlying23 hi0 _ 1 us hfresh
    unfold Oper.wp
    simp [execOp, ho, resolve, invoke, builtin, hs, hx, hrun, Result.andThen]
    exact hK _ _ (h _ _ (by rw [List.append_nil]; exact hfresh) hb0)
  · by_cases hn : n = 0
    · cases hnil hn
    · refine wp_append_own _ s x _ ho w.heap.size tNode i0 _ 8 80 Try.underlying23 hi0 hz0 hz1 hz2 rfl (by omega) _ 1 us hs hfresh ⟨g, 0, none⟩ n cap xs hx (by have := hm0.1; omega) (fun j y hy => ?_) hone (by unfold maxLen; omega) (by omega) (by simp) ?_
      · have he : (Addr.mk g 0 none).add j = ⟨g, j, none⟩ := by
          unfold Addr.add; split
          · rename_i h0; rw [h0]
          · simp
        have hj : j < n * 8 := by
          rw [← hm0.1]
          rcases Nat.lt_or_ge j xs.length with h1 | h1
          · exact h1
          · rw [List.getElem?_eq_none h1] at hy; cases hy
        have hc := hm0.cellAt j hj
        rw [he, (hb0.cell (p := ⟨g, j, none⟩) (by rw [hy] at hc; exact Tx.cell_lt hc)), hc, hy]
      · intro v' w' h1 h2 _
        exact hK _ _ (h v' w' (by rw [Nat.add_comm]; exact h1) (hb0.trans ((Below.refl _ _).grown h2 (by simp) (fun k hk => (hfresh.lt k hk).1))))
end
end Rv
end Go.Proofs.Ytgadomcbaenodaa

/-
  Slices of one-cell elements that read as lists, slices that the call owns, and appending: for every element type. No conditions.
-/
import Derived.Test.YtechabkmepejaaaTextBase
import Derived.Laws.AppendOwnNone
namespace Go.Proofs.Ytechabkmepejaaa
open Go.RowKit
namespace Cm
/-- A slice that reads as a list of values. -/
def RdV (w : World) (v : Value) (us : List Value) : Prop :=
  ∃ A c, v = .slice A us.length c ∧ (us.length ≤ c ∧ (A = none → c = 0)) ∧ (0 < us.length → ∃ b off, A = some ⟨b, off, none⟩ ∧ ∀ j (h : j < us.length), w.cell? ⟨b, off + j, none⟩ = some us[j])
theorem RdV.below {w w' : World} {v : Value} {us : List Value} (h : RdV w v us) (hb : Below w.heap.size w w') : RdV w' v us := by
  obtain ⟨A, c, rfl, hcap, hc⟩ := h
  refine ⟨A, c, rfl, hcap, fun hp => ?_⟩
  obtain ⟨b, off, rfl, hcell⟩ := hc hp
  exact ⟨b, off, rfl, fun j hj => (hb.cell (p := ⟨b, off + j, none⟩) (Tx.cell_lt (hcell j hj))).trans (hcell j hj)⟩
theorem RdV.below_at {n : Nat} {w w' : World} {v : Value} {us : List Value} (h : RdV w v us) (hn : w.heap.size = n) (hb : Below n w w') : RdV w' v us := by
  subst hn; exact h.below hb
theorem RdV.drewN {w : World} {v : Value} {us : List Value} (h : RdV w v us) (m : Nat) : RdV (w.drewN m) v us := by
  induction m generalizing w with
  | zero => exact h
  | succ m ih => exact ih (w := w.drew) h
theorem RdV.nil (w : World) : RdV w (.slice none 0 0) [] := ⟨none, 0, rfl, ⟨Nat.le_refl _, fun _ => rfl⟩, fun hp => absurd hp (by decide)⟩
theorem RdV.form {w : World} {v : Value} {us : List Value} (h : RdV w v us) : ∃ A c, v = .slice A us.length c := by
  obtain ⟨A, c, rfl, _⟩ := h; exact ⟨A, c, rfl⟩
/-- Its cells, where it is not empty. -/
theorem RdV.at {w : World} {A : Option Addr} {n c : Nat} {us : List Value} (h : RdV w (.slice A n c) us) (hp : 0 < us.length) : n = us.length ∧ ∃ b off, A = some ⟨b, off, none⟩ ∧ ∀ j (hj : j < us.length), w.cell? ⟨b, off + j, none⟩ = some us[j] := by
  obtain ⟨A', c', e, _, hc⟩ := h
  injection e with e1 e2 _
  subst e1
  exact ⟨e2, hc hp⟩
theorem RdV.len {w : World} {A : Option Addr} {n c : Nat} {us : List Value} (h : RdV w (.slice A n c) us) : n = us.length := by
  obtain ⟨A', c', e, _⟩ := h
  injection e
theorem RdV.lit (w : World) (t : TypeId) (us : List Value) (C : Array Value) (hC : C.toList = us) : RdV (w.alloc (.cells C t)) (.slice (some ⟨w.heap.size, 0, none⟩) us.length us.length) us := by
  refine ⟨_, _, rfl, ⟨Nat.le_refl _, fun e => by cases e⟩, fun _ => ⟨_, 0, rfl, fun j hj => ?_⟩⟩
  subst hC
  rw [Nat.zero_add, World.cell?_alloc_mark, ← Array.getElem?_toList, List.getElem?_eq_getElem hj]
section
variable {t e : TypeId}
theorem own_form {w : World} {base n : Nat} {v : Value} {xs : List Value} (h : w.ownsRow base e 1 v n xs) : ∃ A c, v = .slice A n c := by
  rcases h.2 with ⟨rfl, rfl⟩ | ⟨g, cap, cur, rfl, _⟩
  · exact ⟨none, 0, rfl⟩
  · exact ⟨_, cap, rfl⟩
theorem own_some {w : World} {base n : Nat} {v : Value} {xs : List Value} (h : w.ownsRow base e 1 v n xs) (hp : 0 < n) : ∃ g c cur, v = .slice (some ⟨g, 0, none⟩) n c ∧ base ≤ g ∧ w.heap[g]? = some (.cells cur e (0, 0)) := by
  rcases h.2 with ⟨_, h0⟩ | ⟨g, cap, cur, rfl, hb, hh, _⟩
  · omega
  · exact ⟨g, cap, cur, rfl, hb, hh⟩
theorem own_len {w : World} {base n : Nat} {v : Value} {xs : List Value} (h : w.ownsRow base e 1 v n xs) : xs.length = n := by
  have := h.1; omega
theorem RdV.of_own {w : World} {base n : Nat} {v : Value} {us : List Value} (h : w.ownsRow base e 1 v n us) : RdV w v us := by
  have hl := own_len h
  rcases h.2 with ⟨rfl, h0⟩ | ⟨g, cap, cur, rfl, _, _, hcap, _⟩
  · exact ⟨none, 0, by rw [hl, h0], ⟨by omega, fun _ => rfl⟩, fun hp => by omega⟩
  · refine ⟨_, cap, by rw [hl], ⟨by omega, fun e => by cases e⟩, fun _ => ⟨g, 0, rfl, fun j hj => ?_⟩⟩
    have hc := h.cellAt j (by omega)
    rw [Nat.zero_add, hc, List.getElem?_eq_getElem hj]
theorem own_below {w w' : World} {base n : Nat} {v : Value} {xs : List Value} (h : w.ownsRow base e 1 v n xs) (hb : Below w.heap.size w w') : w'.ownsRow base e 1 v n xs :=
  h.kept (row := none) ⟨hb.os, hb.tape, hb.output, hb.size, fun k hk _ => hb.block k hk⟩ (by cases v.ownBlock <;> simp)
theorem own_base {w : World} {base base' n : Nat} {v : Value} {xs : List Value} (h : w.ownsRow base e 1 v n xs) (hb : base' ≤ base) : w.ownsRow base' e 1 v n xs := by
  refine ⟨h.1, ?_⟩
  rcases h.2 with hn | ⟨g, cap, cur, hv, hbg, rest⟩
  · exact .inl hn
  · exact .inr ⟨g, cap, cur, hv, Nat.le_trans hb hbg, rest⟩
/-- A row of other elements lies in another block. -/
theorem own_ne {w : World} {base n n' base' : Nat} {v v' : Value} {xs xs' : List Value} (h : w.ownsRow base e 1 v n xs) (h' : w.ownsRow base' t 1 v' n' xs') (hne : e ≠ t) : v.ownBlock = none ∨ v.ownBlock ≠ v'.ownBlock := by
  rcases h.2 with ⟨rfl, _⟩ | ⟨g, cap, cur, rfl, _, hh, _⟩
  · exact .inl rfl
  · right
    rcases h'.2 with ⟨rfl, _⟩ | ⟨g', cap', cur', rfl, _, hh', _⟩
    · simp [Value.ownBlock]
    · intro hg
      have : g = g' := by simpa [Value.ownBlock] using hg
      subst this
      rw [hh] at hh'
      injection hh' with hh'
      injection hh' with _ ht
      exact hne ht
/-- A row that began later lies in another block. -/
theorem own_late {w : World} {base n n' base' : Nat} {v v' : Value} {xs xs' : List Value} (h : w.ownsRow base e 1 v n xs) (hlt : ∀ k, v.ownBlock = some k → k < base') (h' : w.ownsRow base' t 1 v' n' xs') : v.ownBlock = none ∨ v.ownBlock ≠ v'.ownBlock := by
  rcases h.2 with ⟨rfl, _⟩ | ⟨g, cap, cur, rfl, _, _, _⟩
  · exact .inl rfl
  · right
    rcases h'.2 with ⟨rfl, _⟩ | ⟨g', cap', cur', rfl, hb, _, _⟩
    · simp [Value.ownBlock]
    · have := hlt g (by simp [Value.ownBlock])
      intro hg
      have : g = g' := by simpa [Value.ownBlock] using hg
      omega
theorem below_app {w w' : World} {base n : Nat} {v : Value} {xs : List Value} (hown : w.ownsRow base e 1 v n xs) (hg : w.grownBy w' v.ownBlock) (hb : base ≤ w.heap.size) : Below base w w' :=
  (Below.refl _ _).grown hg hb (fun k hk => (hown.lt k hk).1)
theorem heap_new (w : World) (o : Obj) : (w.alloc o).heap[w.heap.size]? = some o := by
  show (w.heap.push o)[w.heap.size]? = some o
  simp
theorem own_empty (w : World) (e : TypeId) : (w.alloc (.cells #[] e)).ownsRow w.heap.size e 1 (.slice (some ⟨w.heap.size, 0, none⟩) 0 0) 0 [] :=
  ⟨rfl, .inr ⟨w.heap.size, 0, #[], rfl, Nat.le_refl _, heap_new w _, Nat.le_refl _, Nat.zero_le _, rfl, rfl⟩⟩
theorem below_drewN {n : Nat} {w w' : World} (h : Below n w w') (m : Nat) : Below n w (w'.drewN m) := by
  induction m with
  | zero => exact h
  | succ m ih => exact ih.drew
end
section
variable {P : Program} {ops : Array Oper} {rest : List Oper} {o : Oper} {a : Act} {Q : Exit → Act → World → Prop} {w : World} {t e : TypeId} {z : Value} {bytes : Nat}
theorem wpList_wanted (hg : Region.wanted o (yielded ops a.tmps) = true)
    (h : ∀ K : Act → World → Prop, (∀ a w, wpList P ops Q rest a w → K a w) → o.wp P a w K Q) : wpList P ops Q (o :: rest) a w :=
  wpList_step fun K hK => by rw [if_pos hg]; exact h K hK
/-- append of one new element onto a row that the call owns. -/
theorem app_one (hg : Region.wanted o (yielded ops a.tmps) = true) (ht : P.underlying t = some (.slice e)) (hinfo : (P.info? e).map (fun i => (i.zero, i.size, i.bytes)) = some (some z, 1, bytes)) (hz : z.cells.size = 1) (hby : bytes ≤ 24)
    (s x : Operand) (ho : o.op = .call { callee := .builtin .append, args := #[s, x], argTypes := #[t, t] })
    (base n : Nat) (l : List Value) (u : Value) (hu : u.oneCell' = true) (v : Value) (C : Array Value) (hs : a.eval s = v) (hown : w.ownsRow base e 1 v n l)
    (hx : a.eval x = .slice (some ⟨w.heap.size, 0, none⟩) 1 1) (hC : C.toList = [u])
    (hsz : n + 1 ≤ 100000000) (hbase : base ≤ w.heap.size)
    (h : ∀ v' w', w'.ownsRow base e 1 v' (n + 1) (l ++ [u]) → Below base w w' → (w.alloc (.cells C e)).grownBy w' v.ownBlock → wpList P ops Q rest (a.put o.dst v') w') :
    wpList P ops Q (o :: rest) a (w.alloc (.cells C e)) := by
  obtain ⟨i0, hi0, hz0, hz1, hz2⟩ := info_parts hinfo
  have hsize : (w.alloc (.cells C e)).heap.size = w.heap.size + 1 := by simp
  refine wpList_wanted hg fun K hK => ?_
  refine wp_append_own _ s x _ ho base e i0 _ 1 bytes ht hi0 hz0 hz1 hz2 hz (by omega) v n l hs (hown.alloc _) ⟨w.heap.size, 0, none⟩ 1 1 [u] hx
    rfl (fun j y hy => ?_) ?_ (by unfold maxLen; omega) ?_ (by omega) ?_
  · have he : (Addr.mk w.heap.size 0 none).add j = ⟨w.heap.size, j, none⟩ := by
      unfold Addr.add; split
      · rename_i h0; rw [h0]
      · simp
    rw [he, World.cell?_alloc_mark, ← hy, ← hC]; simp
  · intro y hy
    simp only [List.mem_singleton] at hy
    subst hy
    exact hu
  · have := Nat.mul_le_mul_left (n + 1) hby
    omega
  · intro v' w' h1 h2 _
    exact hK _ _ (h v' w' h1 (((Below.refl base w).alloc hbase _).trans (below_app (hown.alloc _) h2 (by omega))) h2)
/-- append of a list that reads onto a row that the call owns. -/
theorem app_rd (hg : Region.wanted o (yielded ops a.tmps) = true) (ht : P.underlying t = some (.slice e)) (hinfo : (P.info? e).map (fun i => (i.zero, i.size, i.bytes)) = some (some z, 1, bytes)) (hz : z.cells.size = 1) (hby : bytes ≤ 24)
    (s x : Operand) (ho : o.op = .call { callee := .builtin .append, args := #[s, x], argTypes := #[t, t] })
    (base n : Nat) (l us : List Value) (v y : Value) (hs : a.eval s = v) (hown : w.ownsRow base e 1 v n l)
    (hx : a.eval x = y) (hr : RdV w y us) (hone : ∀ u ∈ us, u.oneCell' = true) (hsz : n + us.length ≤ 16777216) (hbase : base ≤ w.heap.size)
    (h : ∀ v' w', w'.ownsRow base e 1 v' (n + us.length) (l ++ us) → Below base w w' → w.grownBy w' v.ownBlock → wpList P ops Q rest (a.put o.dst v') w') :
    wpList P ops Q (o :: rest) a w := by
  obtain ⟨i0, hi0, hz0, hz1, hz2⟩ := info_parts hinfo
  obtain ⟨A, c, rfl, ⟨_, hnone⟩, hc⟩ := hr
  refine wpList_wanted hg fun K hK => ?_
  cases A with
  | none =>
    have h0 : us = [] := by
      rcases Nat.eq_zero_or_pos us.length with h1 | h1
      · exact List.eq_nil_of_length_eq_zero h1
      · obtain ⟨b, off, e, _⟩ := hc h1; cases e
    subst h0
    obtain rfl := hnone rfl
    have hrun := run_append_owned_none (P := P) (w := w) base t o.type e i0 1 ht hi0 v n l hown
    unfold Oper.wp
    simp [execOp, ho, resolve, invoke, builtin, hs, hx, hrun, Result.andThen]
    exact hK _ _ (h v w (by rw [List.append_nil]; exact hown) (Below.refl _ _) ⟨rfl, rfl, rfl, Nat.le_refl _, fun _ _ _ => rfl⟩)
  | some ad =>
    refine wp_append_own w s x _ ho base e i0 _ 1 bytes ht hi0 hz0 hz1 hz2 hz (by omega) v n l hs hown ad us.length c us hx (by omega) (fun j u hu => ?_) hone (by unfold maxLen; omega) ?_ hbase ?_
    · have hj : j < us.length := by
        rcases Nat.lt_or_ge j us.length with h1 | h1
        · exact h1
        · rw [List.getElem?_eq_none h1] at hu; cases hu
      obtain ⟨b, off, e, hcell⟩ := hc (by omega)
      cases e
      have he : (Addr.mk b off none).add j = ⟨b, off + j, none⟩ := by
        unfold Addr.add; split
        · rename_i h0; rw [h0]; rfl
        · rfl
      rw [he, hcell j hj, ← hu, List.getElem?_eq_getElem hj]
    · have := Nat.mul_le_mul_left (n + us.length) hby
      omega
    · intro v' w' h1 h2 _
      exact hK _ _ (h v' w' h1 (below_app hown h2 hbase) h2)
end
end Cm
end Go.Proofs.Ytechabkmepejaaa

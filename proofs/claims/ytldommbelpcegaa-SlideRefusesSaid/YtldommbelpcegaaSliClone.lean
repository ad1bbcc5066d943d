/-
  append of a slice of changes that reads as a list onto one that the call owns; slices.Clone; scripts that fit, as a list. Conditions: fewer than a million changes.
-/
import Derived.Test.YtldommbelpcegaaSliRoom
import Derived.Laws.AppendOwnNone
import Derived.Lib.SliceRun
namespace Go.Proofs.Ytldommbelpcegaa
open Go.RowKit
namespace Sl
open Cm Sc
theorem flat_at {l : List Ch} {j : Nat} {y : Value} (h : (flatK chC l)[j]? = some y) : ∃ (hj : j / 4 < l.length) (hi : j % 4 < (chC l[j / 4]).length), y = (chC l[j / 4])[j % 4] := by
  have hlt : j < (flatK chC l).length := by
    rcases Nat.lt_or_ge j (flatK chC l).length with h1 | h1
    · exact h1
    · rw [List.getElem?_eq_none h1] at h; cases h
  rw [flatK_len chC_len] at hlt
  have hj : j / 4 < l.length := by omega
  have hi : j % 4 < 4 := Nat.mod_lt _ (by decide)
  refine ⟨hj, hi, ?_⟩
  have := flatK_get chC_len l (j / 4) hj (j % 4) hi
  rw [show j / 4 * 4 + j % 4 = j from by omega, h] at this
  rw [List.getElem?_eq_getElem (show j % 4 < (chC l[j / 4]).length from hi)] at this
  exact Option.some.inj this
theorem flat_one (l : List Ch) : ∀ u ∈ flatK chC l, u.oneCell' = true := by
  intro u hu
  unfold flatK at hu
  obtain ⟨c, _, hc⟩ := List.mem_flatMap.1 hu
  exact one_ch c u hc
theorem flatK_app (l xs : List Ch) : flatK chC (l ++ xs) = flatK chC l ++ flatK chC xs := by simp [flatK]
theorem app_all {ops : Array Oper} {rest : List Oper} {o : Oper} {a : Act} {Q : Exit → Act → World → Prop} {w : World} (hg : Region.wanted o (yielded ops a.tmps) = true) (s x : Operand)
    (ho : o.op = .call { callee := .builtin .append, args := #[s, x], argTypes := #[tChs, tChs] })
    (base : Nat) (l xs : List Ch) (v u : Value) (hs : a.eval s = v) (hown : OwnC base w v l)
    (hx : a.eval x = u) (hr : RdC w u xs) (hsz : l.length + xs.length ≤ 1000000) (hbase : base ≤ w.heap.size)
    (h : ∀ v' w', OwnC base w' v' (l ++ xs) → Below base w w' → wpList Try.prog ops Q rest (a.put o.dst v') w') :
    wpList Try.prog ops Q (o :: rest) a w := by
  obtain ⟨i0, hi0, hz0, hz1, hz2⟩ := info_parts info_ch
  obtain ⟨A, c, rfl, ⟨_, hnone⟩, hc⟩ := hr
  refine wpList_wanted hg fun K hK => ?_
  cases A with
  | none =>
    have h0 : xs = [] := by
      rcases Nat.eq_zero_or_pos xs.length with h1 | h1
      · exact List.eq_nil_of_length_eq_zero h1
      · obtain ⟨b, off, e, _⟩ := hc h1; cases e
    subst h0
    obtain rfl := hnone rfl
    have hrun := run_append_owned_none (P := Try.prog) (w := w) base tChs o.type tCh i0 4 Try.underlying23 hi0 v l.length (flatK chC l) hown
    unfold Oper.wp
    simp [execOp, ho, resolve, invoke, builtin, hs, hx, hrun, Result.andThen]
    exact hK _ _ (h v w (by rw [show l ++ [] = l from List.append_nil _]; exact hown) (Below.refl _ _))
  | some ad =>
    refine wp_append_own w s x _ ho base tCh i0 _ 4 32 Try.underlying23 hi0 hz0 hz1 hz2 rfl (by omega) v l.length (flatK chC l) hs hown ad xs.length c (flatK chC xs) hx (by rw [flatK_len chC_len, Nat.mul_comm]) (fun j y hy => ?_) (flat_one xs) (by unfold maxLen; omega) (by omega) hbase ?_
    · obtain ⟨hj, hi, rfl⟩ := flat_at hy
      obtain ⟨b, off, e, hcell⟩ := hc (by omega)
      cases e
      have he : (Addr.mk b off none).add j = ⟨b, off + j, none⟩ := by
        unfold Addr.add; split
        · rename_i h0; rw [h0]; rfl
        · rfl
      rw [he]
      have := hcell (j / 4) hj (j % 4) hi
      rw [show off + j / 4 * 4 + j % 4 = off + j from by omega] at this
      exact this
    · intro v' w' h1 h2 _
      refine hK _ _ (h v' w' ?_ ((Below.refl base w).grown h2 hbase (fun k hk => (World.ownsRow.lt hown k hk).1)))
      unfold OwnC
      rw [flatK_app, List.length_append]
      exact h1
theorem OwnC.empty (w : World) (base : Nat) (hb : base ≤ w.heap.size) : OwnC base (w.alloc (.cells #[] tCh)) (.slice (some ⟨w.heap.size, 0, none⟩) 0 0) [] :=
  ⟨rfl, .inr ⟨w.heap.size, 0, #[], rfl, hb, heap_new w _, Nat.le_refl _, Nat.zero_le _, rfl, rfl⟩⟩
set_option maxHeartbeats 1000000 in
theorem Clone_any (v : Value) (l : List Ch) (w : World) (h : RdC w v l) (hl : l.length ≤ 100000) :
    Calls Try.prog 30 #[v] w (NewC l w) := by
  obtain ⟨A, c, rfl, ⟨hle, hnone⟩, hc⟩ := h
  cases A with
  | none =>
    have h0 : l = [] := by
      rcases Nat.eq_zero_or_pos l.length with h1 | h1
      · exact List.eq_nil_of_length_eq_zero h1
      · obtain ⟨b, off, e, _⟩ := hc h1; cases e
    subst h0
    obtain rfl := hnone rfl
    clear hc hle hnone
    go_enter Try.func30, Try.ntmps30
    have hrn : ∀ w : World, Sem.run Try.prog (binOp .eql tChs (.slice none 0 0) (.slice none 0 0)) w = .ok (.bool true) w := fun w => Lib.run_eql_slice_nil w tChs tCh none 0 0 0 0 Try.underlying23
    go_wp2_with fail
    go_ret
    exact ⟨_, rfl, OwnC.nil _ _, Below.refl _ _⟩
  | some ad =>
    have HR : Hid (RdC w (.slice (some ad) l.length c) l) := Lib.hid ⟨_, _, rfl, ⟨hle, fun e => by cases e⟩, hc⟩
    clear hc hle hnone
    generalize hN : l.length = N at *
    have HN := Lib.hid hN
    clear hN
    go_enter Try.func30, Try.ntmps30
    have hrn : ∀ w : World, Sem.run Try.prog (binOp .eql tChs (.slice (some ad) N c) (.slice none 0 0)) w = .ok (.bool false) w := fun w => Lib.run_eql_slice_nil w tChs tCh (some ad) N c 0 0 Try.underlying23
    have HR2 := Lib.hid (HR.out.below ((Below.refl w.heap.size w).alloc (Nat.le_refl _) (.cells #[] tCh)))
    go_wp2_with (at_builtin; refine app_all rfl (.tmp 5) (.tmp 6) rfl w.heap.size [] l _ _ rfl (OwnC.empty w _ (Nat.le_refl _)) rfl HR2.out (by rw [HN.out]; simp; omega) (by simp) ?_; intro v3 w3 ho3 hb3; have HO3 := Lib.hid ho3; have HB3 := Lib.hid (((Below.refl w.heap.size w).alloc (Nat.le_refl _) (.cells #[] tCh)).trans hb3); clear ho3 hb3)
    go_ret
    exact ⟨_, rfl, HO3.out, HB3.out⟩
end Sl
end Go.Proofs.Ytldommbelpcegaa

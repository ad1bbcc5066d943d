/-
  append of a slice of strings that reads as a list onto a slice of strings that the call owns, guarded or not. Condition: fewer than 2^24 elements together.
-/
import Derived.Test.YtlnghfmedkfkmaaGreatDoorTextRefJ
import Derived.Laws.AppendOwnNone
namespace Go.Proofs.YtlnghfmedkfkmaaGreatDoor
open Go.RowKit
namespace Tx
theorem wpList_wanted {P : Program} {ops : Array Oper} {Q : Exit → Act → World → Prop} {a : Act} {w : World} {rest : List Oper} {o : Oper} (hg : Region.wanted o (yielded ops a.tmps) = true)
    (h : ∀ K : Act → World → Prop, (∀ a w, wpList P ops Q rest a w → K a w) → o.wp P a w K Q) : wpList P ops Q (o :: rest) a w :=
  wpList_step fun K hK => by rw [if_pos hg]; exact h K hK
theorem app_rds {ops : Array Oper} {rest : List Oper} {o : Oper} {a : Act} {Q : Exit → Act → World → Prop} {w : World} (hg : Region.wanted o (yielded ops a.tmps) = true) (s x : Operand)
    (ho : o.op = .call { callee := .builtin .append, args := #[s, x], argTypes := #[51, 51] })
    (base : Nat) (l : List (List UInt8)) (xs : List ByteArray) (v u : Value) (hs : a.eval s = v) (hown : w.ownsRow base 9 1 v l.length (strsV l))
    (hx : a.eval x = u) (hr : RdS w u xs) (hsz : l.length + xs.length ≤ 16777216) (hbase : base ≤ w.heap.size)
    (h : ∀ v' w', w'.ownsRow base 9 1 v' (l ++ bss xs).length (strsV (l ++ bss xs)) → Below base w w' → wpList Tryz.prog ops Q rest (a.put o.dst v') w') :
    wpList Tryz.prog ops Q (o :: rest) a w := by
  obtain ⟨i0, hi0, hz0, hz1, hz2⟩ := info_parts info_str
  obtain ⟨A, c, rfl, ⟨_, hnone⟩, hc⟩ := hr
  refine wpList_wanted hg fun K hK => ?_
  cases A with
  | none =>
    have h0 : xs = [] := by
      rcases Nat.eq_zero_or_pos xs.length with h1 | h1
      · exact List.eq_nil_of_length_eq_zero h1
      · obtain ⟨b, off, e, _⟩ := hc h1; cases e
    subst h0
    obtain rfl := hnone rfl
    have hrun := run_append_owned_none (P := Tryz.prog) (w := w) base 51 o.type 9 i0 1 Tryz.underlying51 hi0 v l.length (strsV l) hown
    unfold Oper.wp
    simp [execOp, ho, resolve, invoke, builtin, hs, hx, hrun, Result.andThen]
    exact hK _ _ (h v w (by rw [show l ++ bss [] = l from List.append_nil _]; exact hown) (Below.refl _ _))
  | some ad =>
    refine wp_append_own w s x _ ho base 9 i0 _ 1 16 Tryz.underlying51 hi0 hz0 hz1 hz2 rfl (by omega) v l.length (strsV l) hs hown ad xs.length c (strsV (bss xs)) hx (by rw [strsV_len]; simp [bss]) (fun j y hy => ?_) (fun y hy => ?_) (by unfold maxLen; omega) (by omega) hbase ?_
    · have hj : j < xs.length := by
        rcases Nat.lt_or_ge j xs.length with h1 | h1
        · exact h1
        · rw [List.getElem?_eq_none (by rw [strsV_len]; simp [bss]; exact h1)] at hy; cases hy
      obtain ⟨b, off, e, hcell⟩ := hc (by omega)
      cases e
      have he : (Addr.mk b off none).add j = ⟨b, off + j, none⟩ := by
        unfold Addr.add; split
        · rename_i h0; rw [h0]; rfl
        · rfl
      rw [he, hcell j hj, ← hy]
      simp [strsV, bss, List.getElem?_eq_getElem hj]
    · simp only [strsV, List.mem_map] at hy
      obtain ⟨z, _, rfl⟩ := hy
      rfl
    · intro v' w' h1 h2 _
      refine hK _ _ (h v' w' ?_ (below_of_appendS hown h2 hbase))
      rw [strsV_append, List.length_append, show (bss xs).length = xs.length from by simp [bss]]
      exact h1
end Tx
end Go.Proofs.YtlnghfmedkfkmaaGreatDoor

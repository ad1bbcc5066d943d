/-
  Kids that are gathered while nodes are made: an append to a row of numbers of the call's own, beside the reader. No conditions.
-/
import Derived.Test.YtebljjdhgepfkaaRegexPost
namespace Go.Proofs.Ytebljjdhgepfkaa
open Go.RowKit
namespace Rx
open Cm
/-- A row lies in none of the kids' blocks. -/
def Apart (v : Value) (ks : List Value) : Prop := ∀ kv ∈ ks, v.ownBlock = none ∨ kv.ownBlock ≠ v.ownBlock
section
variable {w w' w0 : World} {base rb : Nat} {s : ByteArray} {a d e : Int} {ns : List Nd} {ks : List Value} {v : Value} {n : Nat} {xs : List Value} {C : Array Value} {B : Nat}
/-- Old blocks but a row of numbers stay. -/
theorem app_block (hg : (w.alloc (.cells C tInt)).grownBy w' v.ownBlock) {k : Nat} (hk : k < w.heap.size) (hne : some k ≠ v.ownBlock) : w'.heap[k]? = w.heap[k]? := by
  rw [hg.block k (by simp; omega) hne]
  exact Below.heap_alloc w _ k hk
theorem block_type {k : Nat} {cur : Array Value} {t : TypeId} (hv : w.ownsRow B tInt 1 v n xs) (hk : w.heap[k]? = some (.cells cur t (0, 0))) (ht : t ≠ tInt) : some k ≠ v.ownBlock := by
  intro hkv
  rcases hv.2 with ⟨rfl, _⟩ | ⟨g, cap, cur', rfl, _, hh, _⟩
  · simp [Value.ownBlock] at hkv
  · have : k = g := by simpa [Value.ownBlock] using hkv
    subst this
    rw [hk] at hh
    injection hh with hh
    injection hh with _ h2
    exact ht h2
theorem own_app {z m : Nat} {t : TypeId} {x : Value} {us : List Value} (hx : w.ownsRow B t z x m us) (hg : (w.alloc (.cells C tInt)).grownBy w' v.ownBlock) (hne : v.ownBlock = none ∨ x.ownBlock ≠ v.ownBlock) : w'.ownsRow B t z x m us := by
  refine ⟨hx.1, ?_⟩
  rcases hx.2 with h | ⟨g, cap, cur, hv, hbg, hh, r⟩
  · exact .inl h
  · refine .inr ⟨g, cap, cur, hv, hbg, (app_block hg (lt_some hh) ?_).trans hh, r⟩
    rcases hne with h | h
    · rw [h]; simp
    · intro e
      apply h
      rw [hv, ← e]; rfl
theorem Rdr_app (h : Rdr w base rb s a d e ns ks) (hv : w.ownsRow B tInt 1 v n xs) (hap : Apart v ks) (hg : (w.alloc (.cells C tInt)).grownBy w' v.ownBlock) : Rdr w' base rb s a d e ns ks := by
  obtain ⟨x, hb, hh, hn⟩ := h
  refine ⟨x, hb, (app_block hg (lt_some hh) (block_type hv hh (by decide))).trans hh, hn.1, own_app hn.2.1 hg ?_, fun j c1 c2 => own_app (hn.2.2 j c1 c2) hg ?_⟩
  · rcases own_ne' hn.2.1 hv (by decide) with h | h
    · rcases hv.2 with ⟨rfl, _⟩ | ⟨g, cap, cur', rfl, _⟩
      · exact .inl rfl
      · right; rw [h]; simp [Value.ownBlock]
    · exact .inr h
  · exact hap _ (List.getElem_mem c1)
theorem RdE_app (h : RdE w base rb s a d e) (hv : w.ownsRow B tInt 1 v n xs) (hg : (w.alloc (.cells C tInt)).grownBy w' v.ownBlock) : RdE w' base rb s a d e := by
  obtain ⟨x, hb, hh⟩ := h
  exact ⟨x, hb, (app_block hg (lt_some hh) (block_type hv hh (by decide))).trans hh⟩
/-- What was there before the row was made stays. -/
theorem Kept_app (h0 : KeptR w0 w) (hb : w0.heap.size ≤ w.heap.size) (hv : w.ownsRow w0.heap.size tInt 1 v n xs) (hg : (w.alloc (.cells C tInt)).grownBy w' v.ownBlock) : KeptR w0 w' := fun k cur t h1 h2 h3 => by
  have h4 := h0 k cur t h1 h2 h3
  have hk := lt_some h3
  refine (app_block hg (by omega) ?_).trans h4
  intro hkv
  have := (hv.lt k hkv.symm).1
  omega
theorem Apart_app {g cap m : Nat} (h : Rdr w base rb s a d e ns ks) (hap : Apart v ks) (hat : v.ownBlock = some g ∨ g = w.heap.size + 1) : Apart (.slice (some ⟨g, 0, none⟩) m cap) ks := by
  obtain ⟨x, hb, hh, hn⟩ := h
  intro kv hkv
  right
  rcases hat with h1 | h1
  · rcases hap kv hkv with h2 | h2
    · rw [h2] at h1; cases h1
    · rw [h1] at h2; exact h2
  · obtain ⟨j, hj, rfl⟩ := List.mem_iff_getElem.1 hkv
    intro hkv2
    have := ((hn.2.2 j hj (by rw [← hn.1]; exact hj)).lt g hkv2).2
    omega
theorem Apart_more {ks2 : List Value} (hap : Apart v ks) (hv : w.ownsRow B tInt 1 v n xs) (hl : ∀ kv ∈ ks2, Late w.heap.size kv) : Apart v (ks ++ ks2) := by
  intro kv hkv
  rcases List.mem_append.1 hkv with hkv | hkv
  · exact hap kv hkv
  · rcases hv.2 with ⟨rfl, _⟩ | ⟨g, cap, cur', rfl, _, hh, _⟩
    · exact .inl rfl
    · right
      intro h2
      have h3 := hl kv hkv g (by rw [h2]; rfl)
      have := lt_some hh
      omega
theorem Apart_new {cap m : Nat} (h : Rdr w base rb s a d e ns ks) {g : Nat} (hg : w.heap.size ≤ g) : Apart (.slice (some ⟨g, 0, none⟩) m cap) ks := by
  obtain ⟨x, hb, hh, hn⟩ := h
  intro kv hkv
  right
  obtain ⟨j, hj, rfl⟩ := List.mem_iff_getElem.1 hkv
  intro hkv2
  have := ((hn.2.2 j hj (by rw [← hn.1]; exact hj)).lt g hkv2).2
  omega
theorem apart_nil : Apart (.slice none 0 0) ks := fun _ _ => .inl rfl
end
section
variable {P : Program} {ops : Array Oper} {rest : List Oper} {o : Oper} {a : Act} {Q : Exit → Act → World → Prop} {w : World} {t e : TypeId} {z : Value} {bytes : Nat}
/-- append of one new element onto a row that the call owns, and where the new row lies. -/
theorem app_at (hgd : o.guard = none) (ht : P.underlying t = some (.slice e)) (hinfo : (P.info? e).map (fun i => (i.zero, i.size, i.bytes)) = some (some z, 1, bytes)) (hz : z.cells.size = 1) (hby : bytes ≤ 24)
    (s x : Operand) (ho : o.op = .call { callee := .builtin .append, args := #[s, x], argTypes := #[t, t] })
    (base n : Nat) (l : List Value) (u : Value) (hu : u.oneCell' = true) (v : Value) (C : Array Value) (hs : a.eval s = v) (hown : w.ownsRow base e 1 v n l)
    (hx : a.eval x = .slice (some ⟨w.heap.size, 0, none⟩) 1 1) (hC : C.toList = [u])
    (hsz : n + 1 ≤ 100000000) (hbase : base ≤ w.heap.size)
    (h : ∀ g cap w', w'.ownsRow base e 1 (.slice (some ⟨g, 0, none⟩) (n + 1) cap) (n + 1) (l ++ [u]) → Below base w w' → (w.alloc (.cells C e)).grownBy w' v.ownBlock → (v.ownBlock = some g ∨ g = w.heap.size + 1) → wpList P ops Q rest (a.put o.dst (.slice (some ⟨g, 0, none⟩) (n + 1) cap)) w') :
    wpList P ops Q (o :: rest) a (w.alloc (.cells C e)) := by
  obtain ⟨i0, hi0, hz0, hz1, hz2⟩ := info_parts hinfo
  have hsize : (w.alloc (.cells C e)).heap.size = w.heap.size + 1 := by simp
  refine wpList_append_lies _ hgd s x t ho base e i0 z 1 bytes ht hi0 hz0 hz1 hz2 hz (by omega) v n l hs (hown.alloc _) ⟨w.heap.size, 0, none⟩ 1 1 [u] hx rfl (fun j y hy => ?_) ?_ (by omega) (by unfold maxLen; omega) ?_ (by omega) (w.heap.size + 1) hsize ?_
  · have he : (Addr.mk w.heap.size 0 none).add j = ⟨w.heap.size, j, none⟩ := by
      unfold Addr.add; split
      · rename_i h0; rw [h0]
      · simp
    rw [he, World.cell?_alloc_mark, ← hy, ← hC]; simp
  · intro y hy
    simp only [List.mem_singleton] at hy
    subst hy
    exact hu
  · have := Nat.mul_le_mul_left (n + 1) hby
    omega
  · intro g cap w' h1 h2 h3 _
    exact h g cap w' h1 (((Below.refl base w).alloc hbase _).trans (below_app (hown.alloc _) h2 (by omega))) h2 h3
end
end Rx
end Go.Proofs.Ytebljjdhgepfkaa

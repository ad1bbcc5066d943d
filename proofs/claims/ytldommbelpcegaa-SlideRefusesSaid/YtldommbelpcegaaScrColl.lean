/-
  slices.AppendSeq and slices.Collect over the iterator of partners; Pairs. Conditions: the fields of the changes are numbers of lines.
-/
import Derived.Test.YtldommbelpcegaaScrRange
import Derived.Test.YtldommbelpcegaaScrMade
import Derived.Maps.AppendAt
namespace Go.Proofs.Ytldommbelpcegaa
open Go.RowKit
attribute [local go_sem] Oper.semAt_some
namespace Sc
open Cm
section
variable {F : Fence} {n : Nat} {ops : Array Oper} {rest : List Oper} {o : Oper} {a : Act} {Q : Exit → Act → World → Prop} {w : World}
theorem appI_sp (hg : o.guard = none) (s x : Operand) (ho : o.op = .call { callee := .builtin .append, args := #[s, x], argTypes := #[tSps, tSps] })
    (base : Nat) (l : List Sp) (c : Sp) (v : Value) (C : Array Value) (hs : a.eval s = v) (hown : OwnS base w v l)
    {g : Nat} (hz : w.heap.size = g) (hx : a.eval x = .slice (some ⟨g, 0, none⟩) 1 1) (hC : C.toList = spC c) (hsz : l.length + 1 ≤ 1000000) (hbase : base ≤ w.heap.size)
    (hK : ∀ v' w', OwnS base w' v' (l ++ [c]) → (w.alloc (.cells C tSp)).grownBy w' v.ownBlock → (v'.ownBlock = v.ownBlock ∨ v'.ownBlock = some (w.heap.size + 1)) → wpListIn F n Try.prog ops Q rest (a.put o.dst v') w') :
    wpListIn F n Try.prog ops Q (o :: rest) a (w.alloc (.cells C tSp)) := by
  obtain ⟨i0, hi0, hz0, hz1, hz2⟩ := info_parts info_sp
  have hsize : (w.alloc (.cells C tSp)).heap.size = w.heap.size + 1 := by simp
  subst hz
  refine wpListIn_plain hg fun K hK' => ?_
  obtain ⟨v', w', hrun, r1, r2, _, r4⟩ := run_append_own_at (P := Try.prog) (w.alloc (.cells C tSp)) base tSps o.type tSp i0 _ 2 16 Try.underlying50 hi0 hz0 hz1 hz2 rfl (by decide) v l.length (flatK spC l) (hown.below ((Below.refl _ _).alloc (Nat.le_refl _) _)) ⟨w.heap.size, 0, none⟩ 1 1 (spC c) rfl (fun j y hy => by
    have he : (Addr.mk w.heap.size 0 none).add j = ⟨w.heap.size, j, none⟩ := by
      unfold Addr.add; split
      · rename_i h0; rw [h0]
      · simp
    rw [he, World.cell?_alloc_mark, ← hy, ← hC]; simp) (one_sp c) (by unfold maxLen; omega) (by omega) (by rw [hsize]; omega)
  unfold Oper.wpIn
  refine ⟨?_, ?_⟩
  · simp [Oper.about, ho, resolve, Target.leads, Sem.run_pure]
  · rw [Oper.semAt_plain F _ _ (by rw [ho]; intro c hc'; cases hc')]
    simp [execOp, ho, resolve, invoke, builtin, hs, hx, hrun, Result.andThen]
    refine hK' _ _ (hK v' w' ?_ r2 (by rw [hsize] at r4; exact r4))
    unfold OwnS
    rw [List.length_append, List.length_singleton, flatK_snoc]
    exact r1
end
theorem OwnS.same {base : Nat} {w W : World} {v : Value} {l : List Sp} (h : OwnS base w v l) (hs : ∀ k, v.ownBlock = some k → W.heap[k]? = w.heap[k]?) : OwnS base W v l := by
  refine ⟨h.1, ?_⟩
  rcases h.2 with hn | ⟨g, cap, cur, hv, hbg, hh, r⟩
  · exact .inl hn
  · exact .inr ⟨g, cap, cur, hv, hbg, (hs g (by rw [hv]; simp [Value.ownBlock])).trans hh, r⟩
theorem OwnS.own {base : Nat} {w : World} {v : Value} {l : List Sp} (h : OwnS base w v l) : ∀ k, v.ownBlock = some k → base ≤ k ∧ k < w.heap.size ∧ ∃ cur, w.heap[k]? = some (.cells cur tSp (0, 0)) := by
  intro k hk
  rcases h.2 with ⟨rfl, _⟩ | ⟨g, cap, cur, rfl, hb, hh, _⟩
  · simp [Value.ownBlock] at hk
  · obtain rfl : g = k := by simpa [Value.ownBlock] using hk
    exact ⟨hb, (Array.getElem?_eq_some_iff.1 hh).1, cur, hh⟩
theorem OwnS.form {base : Nat} {w : World} {v : Value} {l : List Sp} {x : Sp} (h : OwnS base w v (l ++ [x])) : ∃ g c, v = .slice (some ⟨g, 0, none⟩) (l ++ [x]).length c := by
  rcases h.2 with ⟨_, h0⟩ | ⟨g, cap, cur, rfl, _⟩
  · rw [List.length_append, List.length_singleton] at h0; omega
  · exact ⟨g, cap, rfl⟩
/-- A box with a list of spans that the call owns; its blocks. -/
structure BoxS (W : World) (C : Nat) (t : TypeId) (base : Nat) (l : List Sp) (O : List Nat) : Prop where
  ex : ∃ v, Boxed W C t v ∧ OwnS base W v l ∧ O = C :: v.ownBlock.toList ∧ (l = [] → v = .slice none 0 0)
  lt : C < base
theorem BoxS.eff {W W' : World} {C : Nat} {t : TypeId} {base n : Nat} {l : List Sp} {O : List Nat} (h : BoxS W C t base l O) (he : Eff O n W W') : BoxS W' C t base l O := by
  obtain ⟨⟨v, hb, ho, rfl, hn⟩, hlt⟩ := h
  exact ⟨⟨v, (he.block C (.inr (by simp))).trans hb, ho.same (fun k hk => he.block k (.inr (by rw [hk]; simp))), rfl, hn⟩, hlt⟩
theorem BoxS.all {W : World} {C : Nat} {t : TypeId} {base : Nat} {l : List Sp} {O : List Nat} (h : BoxS W C t base l O) : ∀ k ∈ O, k = C ∨ base ≤ k := by
  obtain ⟨⟨v, hb, ho, rfl, _⟩, _⟩ := h
  intro k hk
  rcases List.mem_cons.1 hk with h1 | h1
  · exact .inl h1
  · exact .inr (ho.own k (by simpa using h1)).1
theorem BoxS.lts {W : World} {C : Nat} {t : TypeId} {base : Nat} {l : List Sp} {O : List Nat} (h : BoxS W C t base l O) : ∀ k ∈ O, k < W.heap.size := by
  obtain ⟨⟨v, hb, ho, rfl, _⟩, _⟩ := h
  intro k hk
  rcases List.mem_cons.1 hk with h1 | h1
  · subst h1; exact (Array.getElem?_eq_some_iff.1 hb).1
  · exact (ho.own k (by simpa using h1)).2.1
theorem BoxS.new (w : World) (t : TypeId) : BoxS (w.alloc (.cells #[.slice none 0 0] t)) w.heap.size t (w.heap.size + 1) [] [w.heap.size] :=
  ⟨⟨.slice none 0 0, heap_new w _, OwnS.nil _ _, rfl, fun _ => rfl⟩, by omega⟩
/-- One element more, and the store into the box. -/
theorem BoxS.step {W w1 : World} {C : Nat} {t : TypeId} {base : Nat} {l : List Sp} {x : Sp} {v v' : Value} (hlt : C < base) (hb : Boxed W C t v) (ho : OwnS base W v l) {tmp : Obj} (ho' : OwnS base w1 v' (l ++ [x])) (hg : (W.alloc tmp).grownBy w1 v.ownBlock)
    (hat : v'.ownBlock = v.ownBlock ∨ v'.ownBlock = some (W.heap.size + 1)) :
    Boxed w1 C t v ∧ BoxS (w1.setCell ⟨C, 0, none⟩ v') C t base (l ++ [x]) (C :: v'.ownBlock.toList) ∧ KeptO (C :: v.ownBlock.toList) W (w1.setCell ⟨C, 0, none⟩ v') ∧ ∀ k ∈ C :: v'.ownBlock.toList, k ∈ C :: v.ownBlock.toList ∨ W.heap.size ≤ k := by
  have hCW : C < W.heap.size := (Array.getElem?_eq_some_iff.1 hb).1
  have hne : some C ≠ v.ownBlock := fun e => by
    have := (ho.own C e.symm).1; omega
  have hb1 : Boxed w1 C t v := (hg.block C (by simp; omega) hne).trans ((Below.heap_alloc _ _ _ hCW).trans hb)
  have hne' : ∀ k, v'.ownBlock = some k → k ≠ C := fun k e => by have := (ho'.own k e).1; omega
  refine ⟨hb1, ⟨⟨v', hb1.set _, ho'.same (fun k hk => Below.heap_setCell _ _ _ _ (hne' k hk)), rfl, fun h => by simp at h⟩, hlt⟩, ?_, fun k hk => ?_⟩
  · refine ((((KeptO.refl _ W).alloc tmp).grown hg (fun k hk => .inl (by rw [hk]; simp))).setCell (p := ⟨C, 0, none⟩) (.inl (by simp)) v')
  · rcases List.mem_cons.1 hk with h1 | h1
    · exact .inl (by rw [h1]; simp)
    · have h2 : v'.ownBlock = some k := by simpa using h1
      rcases hat with h | h
      · exact .inl (List.mem_cons_of_mem _ (by rw [← h]; simpa using h2))
      · rw [h] at h2
        have : W.heap.size + 1 = k := by simpa using h2
        exact .inr (by omega)
theorem mt_small {m n : Int} {l : List Ch} (hm : inI m) (hn : inI n) (h : OkL true 0 0 l m n) : (mtF m 0 0 l).length ≤ 4096 := by
  have h1 := (mt_len l true 0 0 hm hn hm.1 (fun _ => rfl) h).1
  have h2 := (szO_bd l).1
  have h3 := hm.2
  omega
theorem cell_one {W : World} {k : Nat} {t : TypeId} {v : Value} (h : W.heap[k]? = some (.cells #[v] t (0, 0))) : W.cell? ⟨k, 0, none⟩ = some v := by simp [World.cell?, h]
theorem cap_new {w : World} {A : Option Addr} {N c : Nat} {l : List Ch} (h : RdC w (.slice A N c) l) (m : Int) : Cap ((w.alloc (.cells #[.slice A N c] tChs)).alloc (.cells #[.int .i64 m] 3)) w.heap.size A N c l m := by
  have h1 := heap_new w (.cells #[.slice A N c] tChs)
  have h2 := heap_new (w.alloc (.cells #[.slice A N c] tChs)) (.cells #[.int .i64 m] 3)
  have s1 : (w.alloc (.cells #[.slice A N c] tChs)).heap.size = w.heap.size + 1 := by simp
  rw [s1] at h2
  have h3 : ((w.alloc (.cells #[.slice A N c] tChs)).alloc (.cells #[.int .i64 m] 3)).heap[w.heap.size]? = some (.cells #[.slice A N c] tChs (0, 0)) := (Below.heap_alloc _ _ _ (by rw [s1]; omega)).trans h1
  exact ⟨cell_one h3, cell_one h2, (h.below ((Below.refl _ _).alloc (Nat.le_refl _) _)).below ((Below.refl _ _).alloc (Nat.le_refl _) _)⟩
/-- What Pairs returns. -/
def PrPost (l : List Ch) (m n : Int) (w : World) (e : Ending) (w' : World) : Prop :=
  ∃ v, e = .returned (.tuple #[v, .int .i64 (chkF l m n)]) ∧ (chkF l m n = 0 → OwnS w.heap.size w' v (mtF m 0 0 l)) ∧ (chkF l m n ≠ 0 → v = .slice none 0 0) ∧ Below w.heap.size w w'
theorem ok_chN {m n : Int} (hm : inI m) (hn : inI n) {l : List Ch} (h : OkL true 0 0 l m n) : ∀ c ∈ l, ChN c := by
  have hr := (ok_iff hm hn).1 h
  have : ∀ (l : List Ch) (f : Bool) (i j : Int), RfL f i j l m n → ∀ c ∈ l, ChN c := by
    intro l
    induction l with
    | nil => intro _ _ _ _ c hc; cases hc
    | cons x l ih =>
      intro f i j h c hc
      rcases List.mem_cons.1 hc with rfl | hc
      · obtain ⟨⟨a, b, c, d, _⟩, _⟩ := h
        exact ⟨a, b, c, d⟩
      · exact ih _ _ _ h.2 c hc
  exact this l true 0 0 hr
end Sc
end Go.Proofs.Ytldommbelpcegaa

/-
  A loop over the iterator of partners: what its body must keep, and what holds behind it. Conditions: the fields of the changes are numbers of lines.
-/
import Derived.Test.YtldommbelpcegaaScrMat
import Derived.RangeFuncWrites
import Derived.RangeFuncBox
import Derived.RangeFuncNested
namespace Go.Proofs.Ytldommbelpcegaa
open Go.RowKit
attribute [local go_sem] Oper.semAt_some
namespace Sc
open Cm
/-- How the body of a round may be left. -/
def RdPost (I : List Sp → List Nat → World → Prop) (Ix : Code → List Sp → World → Prop) (xs : List Sp) (O : List Nat) (W : World) : Exit → Act → World → Prop
  | .normal, _, W' => ∃ O', I xs O' W' ∧ KeptO O W W' ∧ ∀ k ∈ O', k ∈ O ∨ W.heap.size ≤ k
  | .ret, _, W' => KeptO O W W' ∧ Ix .ret xs W'
  | .exit id, _, W' => KeptO O W W' ∧ Ix (.exit id) xs W'
  | .goto t, _, W' => KeptO O W W' ∧ Ix (.goto t) xs W'
  | .panic _, _, _ => False
  | .outgrown, _, _ => False
theorem KeptO.putObj {O : List Nat} {a w : World} (h : KeptO O a w) {k : Nat} (hk : k ∈ O ∨ a.heap.size ≤ k) (o : Obj) : KeptO O a (w.putObj k o) :=
  h.grown (grownBy_putObj' w k o) (fun r e => by cases e; exact hk)
theorem Eff.putObj {O : List Nat} {n k : Nat} {w : World} (hk : n ≤ k ∧ k ∉ O) (o : Obj) : Eff O n w (w.putObj k o) :=
  ⟨rfl, rfl, rfl, (grownBy_putObj' w k o).size, fun i hi => (World.putObj_heap_other (by
    rcases hi with h | h
    · omega
    · intro e; subst e; exact hk.2 h))⟩
theorem size_putObj (w : World) (k : Nat) (o : Obj) : (w.putObj k o).heap.size = w.heap.size := by simp [World.putObj]
set_option maxHeartbeats 1000000 in
theorem range_mat {g : Operand} {ps : Array Tmp} {assign body : Code} {Q : Exit → Act → World → Prop} {a : Act} {w : World} (f : Nat) (hf : 3 ≤ f)
    (B : Nat) (A : Option Addr) (N c : Nat) (l : List Ch) (m : Int) (hN : l.length = N) (hNb : N ≤ 1000000) (hb : ∀ c ∈ l, ChN c) (hm : 0 ≤ m ∧ m ≤ 4096) (hg : a.eval g = matV B) (hps : ps.size = 1) (hc : Cap w B A N c l m)
    (I : List Sp → List Nat → World → Prop) (Ix : Code → List Sp → World → Prop)
    (hI : ∀ pre O W W', I pre O W → Eff O w.heap.size W W' → I pre O W') (hIl : ∀ pre O W, I pre O W → ∀ k ∈ O, k < W.heap.size ∧ Sep B A N k)
    (hIx : ∀ c pre W k o, Ix c pre W → (w.heap.size ≤ k) → (∃ o' : Obj, W.heap[k]? = some o' ∧ o'.isCells = false) → Ix c pre (W.putObj k o))
    (O0 : List Nat) (h0 : I [] O0 w)
    (a₁ : Sp → Nat → Act)
    (hassign : ∀ (lp : Nat) (x : Sp) (W : World) (K : Act → World → Prop), K (a₁ x W.heap.size) (W.alloc (.cells #[.int .i64 x.frm, .int .i64 x.to] tSp)) →
      assign.wpIn (Fence.wide.inRound lp) (f - 1 - 1 - 1) Try.prog (Exit.then K (fun _ _ _ => False)) { tmps := (ps.zip #[spV x]).foldl (fun t (p, v) => t.setIfInBounds p v) a.tmps, defers := [] } W)
    (hbody : ∀ (lp : Nat) (pre : List Sp) (O : List Nat) (x : Sp) (bx : Nat) (W : World), I pre O W → pre ++ [x] <+: mtF m 0 0 l → W.heap[bx]? = some (.cells #[.int .i64 x.frm, .int .i64 x.to] tSp (0, 0)) → bx ∉ O → w.heap.size ≤ bx → w.heap.size ≤ W.heap.size →
      body.wpIn (Fence.wide.inRound lp) (f - 1 - 1 - 1) Try.prog (RdPost I Ix (pre ++ [x]) O W) (a₁ x bx) W)
    (hdone : ∀ (D : Nat) (O : List Nat) (W : World), w.heap.size ≤ D → D ∉ O → I (mtF m 0 0 l) O W → W.heap[D]? = some (.deferred (some [])) → Q .normal { a with defers := { target := .collected D, args := #[] } :: a.defers } W)
    (hstop : ∀ (D : Nat) (c : Code) (pre : List Sp) (W : World), w.heap.size ≤ D → pre ≠ [] → pre <+: mtF m 0 0 l → Ix c pre W → W.heap[D]? = some (.deferred (some [])) → c.wpIn Fence.wide f Try.prog Q { a with defers := { target := .collected D, args := #[] } :: a.defers } W) :
    (Code.rangeFunc g ps assign body).wpIn Fence.wide f Try.prog Q a w := by
  refine wpIn_rangeFunc ?_
  intro fn hfn
  obtain ⟨rec, hrec⟩ : ∃ rec : LoopState → Option Code → Loop, rec = fun st pe => { state := st, pending := pe, fn, tmps := a.tmps, params := ps, assign, body, defers := w.heap.size } := ⟨_, rfl⟩
  obtain ⟨W1, hW1⟩ : ∃ W1, (w.alloc (.deferred (some []))).alloc (.loop (rec .ready none)) = W1 := ⟨_, rfl⟩
  have hL1 : W1.heap[w.heap.size + 1]? = some (.loop (rec .ready none)) := by
    rw [← hW1]; have := World.alloc_heap_new (w.alloc (.deferred (some []))) (.loop (rec .ready none)); rwa [World.size_alloc] at this
  have hK1 : W1.heap[w.heap.size]? = some (.deferred (some [])) := by
    rw [← hW1]; exact (Below.heap_alloc _ _ _ (by simp)).trans (World.alloc_heap_new w _)
  have hs1 : W1.heap.size = w.heap.size + 2 := by rw [← hW1]; simp
  have hk1 : KeptO [] w W1 := by rw [← hW1]; exact ((KeptO.refl _ _).alloc _).alloc _
  have hI1 : I [] O0 W1 := hI _ _ _ _ h0 (Eff.of_kept hk1 (Nat.le_refl _) (fun k hk => (hIl _ _ _ h0 k hk).1) (fun k hk => by cases hk))
  have e30 : ∀ args w, (callFunc 48 args).run Try.prog w = .ok (.enter 48 args) w := enters_of Try.func48 (by kernel_rfl) rfl
  refine ⟨w.heap.size + 1, [{ target := .collected w.heap.size, args := #[] }], W1, { target := .fn (.func 48) #[.pointer (some ⟨B, 0, none⟩), .pointer (some ⟨B + 1, 0, none⟩)], args := #[.func (.yield (w.heap.size + 1)) #[] #[]] }, W1, 48,
    #[.func (.yield (w.heap.size + 1)) #[] #[], .pointer (some ⟨B, 0, none⟩), .pointer (some ⟨B + 1, 0, none⟩)], W1, ?_, ?_, fun _ _ => trivial, ?_, fun _ => by omega, ?_⟩
  · rw [← hW1, hrec]; exact run_enterLoop_outer _ _ _ _ _
  · simp only [resolve, hg]
    simp [go_sem]
  · simp [invoke, go_sem, e30]
  · -- J: the caller's word, and the two records of the loop lie there, no blocks of the caller's
    have hJeff : ∀ pre O W W', (I pre O W ∧ (w.heap.size ∉ O ∧ w.heap.size + 1 ∉ O) ∧ w.heap.size + 2 ≤ W.heap.size ∧ W.heap[w.heap.size + 1]? = some (.loop (rec .ready none)) ∧ W.heap[w.heap.size]? = some (.deferred (some []))) → Eff O W1.heap.size W W' →
        (I pre O W' ∧ (w.heap.size ∉ O ∧ w.heap.size + 1 ∉ O) ∧ w.heap.size + 2 ≤ W'.heap.size ∧ W'.heap[w.heap.size + 1]? = some (.loop (rec .ready none)) ∧ W'.heap[w.heap.size]? = some (.deferred (some []))) := by
      rintro pre O W W' ⟨h1, h2, h3, h4, h5⟩ he
      exact ⟨hI _ _ _ _ h1 ⟨he.os, he.tape, he.output, he.size, fun k hk => he.block k (by rcases hk with h | h; exact .inl (by omega); exact .inr h)⟩, h2, Nat.le_trans h3 he.size, (he.block _ (.inl (by omega))).trans h4, (he.block _ (.inl (by omega))).trans h5⟩
    refine (matched1_in (f - 1) (by omega) (w.heap.size + 1) B A N c l m hN hNb hb hm
      (fun pre O W => I pre O W ∧ (w.heap.size ∉ O ∧ w.heap.size + 1 ∉ O) ∧ w.heap.size + 2 ≤ W.heap.size ∧ W.heap[w.heap.size + 1]? = some (.loop (rec .ready none)) ∧ W.heap[w.heap.size]? = some (.deferred (some [])))
      (fun pre W => ∃ c, Ix c pre W ∧ W.heap[w.heap.size + 1]? = some (.loop (rec .done (some c))) ∧ W.heap[w.heap.size]? = some (.deferred (some [])))
      W1 ?_ hJeff (fun pre O W h => hIl pre O W h.1) (hc.kept hk1 (fun k hk => by cases hk)) O0 ⟨hI1, ⟨fun hm => by have := (hIl _ _ _ h0 _ hm).1; omega, fun hm => by have := (hIl _ _ _ h0 _ hm).1; omega⟩, by omega, hL1, hK1⟩).mono ?_
    · -- one round
      rintro pre O x W ⟨hi, ⟨hn1, hn2⟩, hsz, hl, hk⟩ hpre
      have hlt : w.heap.size + 1 < W.heap.size := (Array.getElem?_eq_some_iff.1 hl).1
      have hy := run_yield (P := Try.prog) (args := #[spV x]) hl (by rw [hrec]; exact hps.symm)
      rw [hrec] at hy
      obtain ⟨Wa, hWa⟩ : ∃ Wa, W.alloc (.cells #[.int .i64 x.frm, .int .i64 x.to] tSp) = Wa := ⟨_, rfl⟩
      have hka : KeptO [] W Wa := by rw [← hWa]; exact (KeptO.refl _ _).alloc _
      have hla : Wa.heap[w.heap.size + 1]? = some (.loop (rec .ready none)) := (hka.block _ hlt (by simp)).trans hl
      have hda : Wa.heap[w.heap.size]? = some (.deferred (some [])) := (hka.block _ (by omega) (by simp)).trans hk
      have hxa : Wa.heap[W.heap.size]? = some (.cells #[.int .i64 x.frm, .int .i64 x.to] tSp (0, 0)) := by rw [← hWa]; exact heap_new W _
      have hia : I pre O Wa := hI _ _ _ _ hi (Eff.of_kept hka (by omega) (fun k hk => (hIl _ _ _ hi k hk).1) (fun k hk => by cases hk))
      have hsa : Wa.heap.size = W.heap.size + 1 := by rw [← hWa]; simp
      refine ⟨fn, _, assign, body, hy, roundIn_of_wpIn hfn (hassign _ x W _ ⟨_, by rw [hWa]; exact run_beginRound hla (by rw [hrec]), ?_⟩)⟩
      have hlt2 : w.heap.size + 1 < Wa.heap.size := by omega
      have hl2 : (Wa.putObj (w.heap.size + 1) (.loop { rec .ready none with state := .busy })).heap[w.heap.size + 1]? = some (.loop { rec .ready none with state := .busy }) := World.putObj_heap_same hlt2
      have hk2 : (Wa.putObj (w.heap.size + 1) (.loop { rec .ready none with state := .busy })).heap[w.heap.size]? = some (.deferred (some [])) := (World.putObj_heap_other (by omega)).trans hda
      have hx2 : (Wa.putObj (w.heap.size + 1) (.loop { rec .ready none with state := .busy })).heap[W.heap.size]? = some (.cells #[.int .i64 x.frm, .int .i64 x.to] tSp (0, 0)) := (World.putObj_heap_other (by omega)).trans hxa
      refine wpIn_mono (hbody _ pre O x W.heap.size _ (hI _ _ _ _ hia (Eff.putObj ⟨by omega, hn2⟩ _)) hpre hx2 (fun hm => by have := (hIl _ _ _ hi _ hm).1; omega) (by omega) (by rw [size_putObj]; omega)) ?_
      have fin : ∀ (jump : Option Code) (W3 : World), KeptO O (Wa.putObj (w.heap.size + 1) (.loop { rec .ready none with state := .busy })) W3 →
          (Instr.endRound (w.heap.size + 1) jump).run Try.prog W3 = .ok (.bool jump.isNone) (W3.putObj (w.heap.size + 1) (.loop (rec (if jump.isNone then .ready else .done) jump))) ∧
          W3.heap[w.heap.size + 1]? = some (.loop { rec .ready none with state := .busy }) ∧
          (W3.putObj (w.heap.size + 1) (.loop (rec (if jump.isNone then .ready else .done) jump))).heap[w.heap.size + 1]? = some (.loop (rec (if jump.isNone then .ready else .done) jump)) ∧
          (W3.putObj (w.heap.size + 1) (.loop (rec (if jump.isNone then .ready else .done) jump))).heap[w.heap.size]? = some (.deferred (some [])) := fun jump W3 hk3 => by
        have hl3 := (hk3.block _ (by rw [size_putObj]; omega) hn2).trans hl2
        have := run_endRound (P := Try.prog) jump hl3
        rw [hrec] at this ⊢
        exact ⟨this, by rw [hrec] at hl3; exact hl3, World.putObj_heap_same (Array.getElem?_eq_some_iff.1 hl3).1, (World.putObj_heap_other (by omega)).trans ((hk3.block _ (by rw [size_putObj]; omega) hn1).trans hk2)⟩
      rintro e a3 W3 hp
      cases e with
      | normal =>
        obtain ⟨O', hi3, hk3, hO'⟩ := hp
        obtain ⟨hr, hl3, hl4, hk4⟩ := fin none W3 hk3
        have hs3 := hk3.size
        rw [size_putObj] at hs3
        have hs4 := size_putObj Wa (w.heap.size + 1) (.loop { rec .ready none with state := .busy })
        have m1 : w.heap.size ∉ O' := fun hm => by
          rcases hO' _ hm with h | h
          · exact hn1 h
          · rw [size_putObj] at h; omega
        have m2 : w.heap.size + 1 ∉ O' := fun hm => by
          rcases hO' _ hm with h | h
          · exact hn2 h
          · rw [size_putObj] at h; omega
        have hkW : KeptO O W (W3.putObj (w.heap.size + 1) (.loop (rec .ready none))) := by
          refine ⟨?_, ?_, ?_, ?_, fun k hk hn => ?_⟩
          · exact hk3.os.trans hka.os
          · exact hk3.tape.trans hka.tape
          · exact hk3.output.trans hka.output
          · rw [size_putObj]; omega
          · by_cases e : k = w.heap.size + 1
            · subst e; exact hl4.trans hl.symm
            · exact (World.putObj_heap_other e).trans ((hk3.block k (by rw [size_putObj]; omega) hn).trans ((World.putObj_heap_other e).trans (hka.block k hk (by simp))))
        exact ⟨_, _, hr, .inl ⟨rfl, O', ⟨hI _ _ _ _ hi3 (Eff.putObj ⟨by omega, m2⟩ _), ⟨m1, m2⟩, by rw [size_putObj]; omega, hl4, hk4⟩, hkW, fun k hk => by
          rcases hO' k hk with h | h
          · exact .inl h
          · exact .inr (by rw [size_putObj] at h; omega)⟩⟩
      | ret =>
        obtain ⟨hk3, hi3⟩ := hp
        obtain ⟨hr, hl3, hl4, hk4⟩ := fin (some .ret) W3 hk3
        exact ⟨_, _, hr, .inr ⟨rfl, .ret, hIx _ _ _ _ _ hi3 (by omega) ⟨_, hl3, rfl⟩, hl4, hk4⟩⟩
      | exit id =>
        obtain ⟨hk3, hi3⟩ := hp
        obtain ⟨hr, hl3, hl4, hk4⟩ := fin (some (.exit id)) W3 hk3
        exact ⟨_, _, hr, .inr ⟨rfl, .exit id, hIx _ _ _ _ _ hi3 (by omega) ⟨_, hl3, rfl⟩, hl4, hk4⟩⟩
      | goto t =>
        obtain ⟨hk3, hi3⟩ := hp
        obtain ⟨hr, hl3, hl4, hk4⟩ := fin (some (.goto t)) W3 hk3
        exact ⟨_, _, hr, .inr ⟨rfl, .goto t, hIx _ _ _ _ _ hi3 (by omega) ⟨_, hl3, rfl⟩, hl4, hk4⟩⟩
      | panic ch => exact hp.elim
      | outgrown => exact hp.elim
    · -- behind the iterator
      rintro e W2 ⟨⟨v, rfl⟩, (⟨O, hi, ⟨hn1, hn2⟩, hsz, hl, hk⟩ | ⟨pre, hne, hpre, c, hi, hl, hk⟩)⟩
      · exact ⟨none, _, by have := run_endLoop (P := Try.prog) hl (by rw [hrec]; simp); rw [hrec] at this; exact this, hdone _ O _ (Nat.le_refl _) hn1 (hI _ _ _ _ hi (Eff.putObj ⟨by omega, hn2⟩ _)) ((World.putObj_heap_other (by omega)).trans hk)⟩
      · exact ⟨some c, _, by have := run_endLoop (P := Try.prog) hl (by rw [hrec]; simp); rw [hrec] at this; exact this, hstop _ c pre _ (Nat.le_refl _) hne hpre (hIx _ _ _ _ _ hi (by omega) ⟨_, hl, rfl⟩) ((World.putObj_heap_other (by omega)).trans hk)⟩
end Sc
end Go.Proofs.Ytldommbelpcegaa

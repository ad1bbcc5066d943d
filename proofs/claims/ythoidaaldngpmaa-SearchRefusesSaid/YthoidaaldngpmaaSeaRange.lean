/-
  A loop over the iterator of the longest matches: what its body must keep, and what holds behind it. Conditions: a valid automaton, a text of at most 100000 bytes, and an offset within the text.
-/
import Derived.Test.YthoidaaldngpmaaSeaIter
import Derived.RangeFuncWrites
namespace Go.Proofs.Ythoidaaldngpmaa
open Go.RowKit
attribute [local go_sem] Oper.semAt_some
namespace Se
open Cm Rx Au
/-- How the body of a round may be left. -/
def RoundPost (B0 : Nat) (I : List (Nat × Nat) → World → Prop) (Ix : Code → List (Nat × Nat) → World → Prop) (xs : List (Nat × Nat)) (W : World) : Exit → Act → World → Prop
  | .normal, _, W' => KeepsFrom B0 W W' ∧ I xs W' ∧ K2 W W'
  | .ret, _, W' => KeepsFrom B0 W W' ∧ Ix .ret xs W'
  | .exit id, _, W' => KeepsFrom B0 W W' ∧ Ix (.exit id) xs W'
  | .goto t, _, W' => KeepsFrom B0 W W' ∧ Ix (.goto t) xs W'
  | .panic _, _, _ => False
  | .outgrown, _, _ => False
set_option maxHeartbeats 1000000 in
theorem range_longest {g : Operand} {ps : Array Tmp} {assign body : Code} {Q : Exit → Act → World → Prop} {a : Act} {w : World} (f : Nat) (hf : 2 ≤ f)
    (B : Nat) (ss : List St) (st bA oA c p : Nat) (s : ByteArray) (h1 : 1 ≤ ss.length) (h8 : ss.length ≤ 8000) (hs : s.size ≤ 100000) (hst : st < ss.length) (hp : p ≤ s.size) (hok : ∀ k (h : k < ss.length), okS ss.length ss[k] = true)
    (hg : a.eval g = longV B) (hps : ps.size = 1) (hsat : ∀ j (h : j < ss.length), StAt w bA (oA + j * 7) ss[j]) (hty : ∃ cs t z, w.heap[bA]? = some (Obj.cells cs t z) ∧ callT t = false) (hc : Caps w B (some ⟨bA, oA, none⟩) ss.length c st s p)
    (I : List (Nat × Nat) → World → Prop) (Ix : Code → List (Nat × Nat) → World → Prop)
    (hI : OwnFrom w.heap.size I) (hJ : ∀ pre W W', I pre W → K1 W W' → Below w.heap.size W W' → I pre W') (hIx : ∀ c, OwnFrom w.heap.size (Ix c)) (h0 : I [] w)
    (a₁ : Nat × Nat → World → Act) (w₁ : Nat × Nat → World → World) (hw₁ : ∀ x W, Below W.heap.size W (w₁ x W))
    (hassign : ∀ (l : Nat) (x : Nat × Nat) (W : World) (K : Act → World → Prop), K (a₁ x W) (w₁ x W) →
      assign.wpIn (Fence.wide.inRound l) (f - 1 - 1) Try.prog (Exit.then K (fun _ _ _ => False)) { tmps := (ps.zip #[.agg #[.int .i64 (x.1 : Int), .int .i64 (x.2 : Int)]]).foldl (fun t (p, v) => t.setIfInBounds p v) a.tmps, defers := [] } W)
    (hbody : ∀ (l : Nat) (pre : List (Nat × Nat)) (x : Nat × Nat) (W V : World), I pre V → w.heap.size ≤ W.heap.size → (∀ k, W.heap.size ≤ k → V.heap[k]? = (w₁ x W).heap[k]?) → V.heap.size = (w₁ x W).heap.size → pre ++ [x] <+: desL ss st (Tx.bs s) p → body.wpIn (Fence.wide.inRound l) (f - 1 - 1) Try.prog (RoundPost w.heap.size I Ix (pre ++ [x]) V) (a₁ x W) V)
    (hdone : ∀ (D : Nat) (W : World), w.heap.size ≤ D → I (desL ss st (Tx.bs s) p) W → W.heap[D]? = some (.deferred (some [])) → Q .normal { a with defers := { target := .collected D, args := #[] } :: a.defers } W)
    (hstop : ∀ (D : Nat) (c : Code) (pre : List (Nat × Nat)) (W : World), w.heap.size ≤ D → pre ≠ [] → pre <+: desL ss st (Tx.bs s) p → Ix c pre W → W.heap[D]? = some (.deferred (some [])) → c.wpIn Fence.wide f Try.prog Q { a with defers := { target := .collected D, args := #[] } :: a.defers } W) :
    (Code.rangeFunc g ps assign body).wpIn Fence.wide f Try.prog Q a w := by
  refine wpIn_rangeFunc ?_
  intro fn hfn
  obtain ⟨rec, hrec⟩ : ∃ rec : LoopState → Option Code → Loop, rec = fun st pe => { state := st, pending := pe, fn, tmps := a.tmps, params := ps, assign, body, defers := w.heap.size } := ⟨_, rfl⟩
  obtain ⟨W1, hW1⟩ : ∃ W1, (w.alloc (.deferred (some []))).alloc (.loop (rec .ready none)) = W1 := ⟨_, rfl⟩
  have hL1 : W1.heap[w.heap.size + 1]? = some (.loop (rec .ready none)) := by
    rw [← hW1]; have := World.alloc_heap_new (w.alloc (.deferred (some []))) (.loop (rec .ready none)); rwa [World.size_alloc] at this
  have hK1 : W1.heap[w.heap.size]? = some (.deferred (some [])) := by
    rw [← hW1]; exact (Below.heap_alloc _ _ _ (by simp)).trans (World.alloc_heap_new w _)
  have hs1 : W1.heap.size = w.heap.size + 2 := by rw [← hW1]; simp
  have hI1 : I [] W1 := by rw [← hW1]; exact hI.alloc _ (hI.alloc _ h0)
  have hb1 : Below w.heap.size w W1 := by
    rw [← hW1]; exact ((Below.refl _ w).alloc (Nat.le_refl _) _).alloc (by simp) _
  have e30 : ∀ args w, (callFunc 92 args).run Try.prog w = .ok (.enter 92 args) w := enters_of Try.func92 (by kernel_rfl) rfl
  refine ⟨w.heap.size + 1, [{ target := .collected w.heap.size, args := #[] }], W1, { target := .fn (.func 92) #[.pointer (some ⟨B, 0, none⟩), .pointer (some ⟨B + 1, 0, none⟩), .pointer (some ⟨B + 2, 0, none⟩)], args := #[.func (.yield (w.heap.size + 1)) #[] #[]] }, W1, 92,
    #[.func (.yield (w.heap.size + 1)) #[] #[], .pointer (some ⟨B, 0, none⟩), .pointer (some ⟨B + 1, 0, none⟩), .pointer (some ⟨B + 2, 0, none⟩)], W1, ?_, ?_, fun _ _ => trivial, ?_, fun _ => by omega, ?_⟩
  · rw [← hW1, hrec]; exact run_enterLoop_outer _ _ _ _ _
  · simp only [resolve, hg]
    simp [go_sem]
  · simp [invoke, go_sem, e30]
  · have hBz : B + 2 < w.heap.size := lt_some hc.p
    obtain ⟨tcs, tt, tz, hta, htf⟩ := hty
    refine (longest1_in (f - 1) (by omega) (w.heap.size + 1) B ss st bA oA c p s h1 h8 hs hst hp hok
      (fun pre W => I pre W ∧ W.heap[w.heap.size + 1]? = some (.loop (rec .ready none)) ∧ W.heap[w.heap.size]? = some (.deferred (some [])))
      (fun pre W => ∃ c, Ix c pre W ∧ W.heap[w.heap.size + 1]? = some (.loop (rec .done (some c))) ∧ W.heap[w.heap.size]? = some (.deferred (some [])))
      W1.heap.size (by omega) (fun pre W W' h hk hb => ⟨hJ _ _ _ h.1 hk (hb.mono (by omega)), hk.same _ _ h.2.1 (fun _ _ _ e => by cases e), hk.same _ _ h.2.2 (fun _ _ _ e => by cases e)⟩) ?_ W1
      (fun j hj => (hsat j hj).below hb1) ⟨tcs, tt, tz, (hb1.block _ (lt_some hta)).trans hta, htf⟩ (hc.same (fun k hk => hb1.block k (by omega))) ⟨hI1, hL1, hK1⟩ (Nat.le_refl _)).mono ?_
    · -- one round
      rintro pre x W ⟨hi, hl, hk⟩ hpre
      have hlt : w.heap.size + 1 < W.heap.size := (Array.getElem?_eq_some_iff.1 hl).1
      have hy := run_yield (P := Try.prog) (args := #[.agg #[.int .i64 (x.1 : Int), .int .i64 (x.2 : Int)]]) hl (by rw [hrec]; exact hps.symm)
      rw [hrec] at hy
      have hbw := hw₁ x W
      have hlW : (w₁ x W).heap[w.heap.size + 1]? = some (.loop (rec .ready none)) := (hbw.block _ hlt).trans hl
      have hltW := lt_some hlW
      refine ⟨fn, _, assign, body, hy, roundIn_of_wpIn hfn (hassign _ x W _ ⟨_, run_beginRound hlW (by rw [hrec]), ?_⟩)⟩
      have hl2 : ((w₁ x W).putObj (w.heap.size + 1) (.loop { rec .ready none with state := .busy })).heap[w.heap.size + 1]? = some (.loop { rec .ready none with state := .busy }) := World.putObj_heap_same hltW
      have hk2 : ((w₁ x W).putObj (w.heap.size + 1) (.loop { rec .ready none with state := .busy })).heap[w.heap.size]? = some (.deferred (some [])) := (World.putObj_heap_other (by omega)).trans ((hbw.block _ (by omega)).trans hk)
      have hkA : K2 W ((w₁ x W).putObj (w.heap.size + 1) (.loop { rec .ready none with state := .busy })) := (K2.below hbw).trans (K2.putObj hlW rfl)
      have hIA : I pre ((w₁ x W).putObj (w.heap.size + 1) (.loop { rec .ready none with state := .busy })) := hI.putObj _ (hJ _ _ _ hi (.below hbw) (hbw.mono (by omega))) (by omega) hlW rfl
      refine wpIn_mono (hbody _ pre x W _ hIA (by omega) (fun k hk => World.putObj_heap_other (by omega)) (by simp [World.putObj]) hpre) ?_
      have fin : ∀ (jump : Option Code) (W3 : World), KeepsFrom w.heap.size ((w₁ x W).putObj (w.heap.size + 1) (.loop { rec .ready none with state := .busy })) W3 →
          (Instr.endRound (w.heap.size + 1) jump).run Try.prog W3 = .ok (.bool jump.isNone) (W3.putObj (w.heap.size + 1) (.loop (rec (if jump.isNone then .ready else .done) jump))) ∧
          W3.heap[w.heap.size + 1]? = some (.loop { rec .ready none with state := .busy }) ∧
          (W3.putObj (w.heap.size + 1) (.loop (rec (if jump.isNone then .ready else .done) jump))).heap[w.heap.size + 1]? = some (.loop (rec (if jump.isNone then .ready else .done) jump)) ∧
          (W3.putObj (w.heap.size + 1) (.loop (rec (if jump.isNone then .ready else .done) jump))).heap[w.heap.size]? = some (.deferred (some [])) := fun jump W3 hk3 => by
        have hl3 := hk3.same _ _ (by omega) hl2 rfl
        have := run_endRound (P := Try.prog) jump hl3
        rw [hrec] at this ⊢
        exact ⟨this, by rw [hrec] at hl3; exact hl3, World.putObj_heap_same (Array.getElem?_eq_some_iff.1 hl3).1, (World.putObj_heap_other (by omega)).trans (hk3.same _ _ (Nat.le_refl _) hk2 rfl)⟩
      rintro e a3 W3 hp
      cases e with
      | normal =>
        obtain ⟨hk3, hi3, hq3⟩ := hp
        obtain ⟨hr, hl3, hl4, hk4⟩ := fin none W3 hk3
        exact ⟨_, _, hr, .inl ⟨rfl, ⟨hI.putObj _ hi3 (by omega) hl3 rfl, hl4, hk4⟩, (hkA.trans hq3).trans (K2.putObj hl3 rfl)⟩⟩
      | ret =>
        obtain ⟨hk3, hi3⟩ := hp
        obtain ⟨hr, hl3, hl4, hk4⟩ := fin (some .ret) W3 hk3
        exact ⟨_, _, hr, .inr ⟨rfl, .ret, (hIx _).putObj _ hi3 (by omega) hl3 rfl, hl4, hk4⟩⟩
      | exit id =>
        obtain ⟨hk3, hi3⟩ := hp
        obtain ⟨hr, hl3, hl4, hk4⟩ := fin (some (.exit id)) W3 hk3
        exact ⟨_, _, hr, .inr ⟨rfl, .exit id, (hIx _).putObj _ hi3 (by omega) hl3 rfl, hl4, hk4⟩⟩
      | goto t =>
        obtain ⟨hk3, hi3⟩ := hp
        obtain ⟨hr, hl3, hl4, hk4⟩ := fin (some (.goto t)) W3 hk3
        exact ⟨_, _, hr, .inr ⟨rfl, .goto t, (hIx _).putObj _ hi3 (by omega) hl3 rfl, hl4, hk4⟩⟩
      | panic ch => exact hp.elim
      | outgrown => exact hp.elim
    · -- behind the iterator
      rintro e W2 ⟨⟨v, rfl⟩, (⟨hi, hl, hk⟩ | ⟨pre, hne, hpre, c, hi, hl, hk⟩)⟩
      · exact ⟨none, _, by have := run_endLoop (P := Try.prog) hl (by rw [hrec]; simp); rw [hrec] at this; exact this, hdone _ _ (Nat.le_refl _) (hI.putObj _ hi (by omega) hl rfl) ((World.putObj_heap_other (by omega)).trans hk)⟩
      · exact ⟨some c, _, by have := run_endLoop (P := Try.prog) hl (by rw [hrec]; simp); rw [hrec] at this; exact this, hstop _ c pre _ (Nat.le_refl _) hne hpre ((hIx c).putObj _ hi (by omega) hl rfl) ((World.putObj_heap_other (by omega)).trans hk)⟩
end Se
end Go.Proofs.Ythoidaaldngpmaa

/-
  A loop over the iterator of the longest matches: what its body must keep, and what holds behind it. Conditions: a valid automaton, a text of at most 100000 bytes, and an offset within the text. Walks of layer 6: the program's Whole and Any. Conditions: a slice of states that reads as a list; a text of at most 100000 bytes. Walk of layer 6: the program's Any. Conditions: a valid automaton; a text of at most 100000 bytes. Walk of layer 6: the program's Find. Conditions: a valid automaton; a text of at most 100000 bytes.
-/
import Derived.Test.YtgadomcbaenodaaSeaIter
import Derived.RangeFuncWrites
import Derived.Test.YtgadomcbaenodaaAutoC
import Derived.RangeFuncBox
import Derived.RangeFuncNested
import Derived.RangeFuncKeeps
namespace Go.Proofs.Ytgadomcbaenodaa
section
open Go.RowKit
attribute [local go_sem] Oper.semAt_some
namespace Se
open Cm Rx Au
/-- How the body of a round may be left. -/
def RoundPost (B0 : Nat) (I : List (Nat × Nat) → World → Prop) (Ix : Code → List (Nat × Nat) → World → Prop) (xs : List (Nat × Nat)) (W : World) : Exit → Act → World → Prop
  | .normal, _, W' => KeepsFrom B0 W W' ∧ I xs W' ∧ K2 W W'
  | .ret, _, W' => KeepsFrom B0 W W' ∧ Ix .ret xs W'
  | .exit id, _, W' => KeepsFrom B0 W W' ∧ Ix (.exit id) xs W'
  | .goto t, _, W' => KeepsFrom B0 W W' ∧ Ix (.goto t) xs W'
  | .panic _, _, _ => False
  | .outgrown, _, _ => False
set_option maxHeartbeats 1000000 in
theorem range_longest {g : Operand} {ps : Array Tmp} {assign body : Code} {Q : Exit → Act → World → Prop} {a : Act} {w : World} (f : Nat) (hf : 2 ≤ f)
    (B : Nat) (ss : List St) (st bA oA c p : Nat) (s : ByteArray) (h1 : 1 ≤ ss.length) (h8 : ss.length ≤ 8000) (hs : s.size ≤ 100000) (hst : st < ss.length) (hp : p ≤ s.size) (hok : ∀ k (h : k < ss.length), okS ss.length ss[k] = true)
    (hg : a.eval g = longV B) (hps : ps.size = 1) (hsat : ∀ j (h : j < ss.length), StAt w bA (oA + j * 7) ss[j]) (hty : ∃ cs t z, w.heap[bA]? = some (Obj.cells cs t z) ∧ callT t = false) (hc : Caps w B (some ⟨bA, oA, none⟩) ss.length c st s p)
    (I : List (Nat × Nat) → World → Prop) (Ix : Code → List (Nat × Nat) → World → Prop)
    (hI : OwnFrom w.heap.size I) (hJ : ∀ pre W W', I pre W → K1 W W' → Below w.heap.size W W' → I pre W') (hIx : ∀ c, OwnFrom w.heap.size (Ix c)) (h0 : I [] w)
    (a₁ : Nat × Nat → World → Act) (w₁ : Nat × Nat → World → World) (hw₁ : ∀ x W, Below W.heap.size W (w₁ x W))
    (hassign : ∀ (l : Nat) (x : Nat × Nat) (W : World) (K : Act → World → Prop), K (a₁ x W) (w₁ x W) →
      assign.wpIn (Fence.wide.inRound l) (f - 1 - 1) Try.prog (Exit.then K (fun _ _ _ => False)) { tmps := (ps.zip #[.agg #[.int .i64 (x.1 : Int), .int .i64 (x.2 : Int)]]).foldl (fun t (p, v) => t.setIfInBounds p v) a.tmps, defers := [] } W)
    (hbody : ∀ (l : Nat) (pre : List (Nat × Nat)) (x : Nat × Nat) (W V : World), I pre V → w.heap.size ≤ W.heap.size → (∀ k, W.heap.size ≤ k → V.heap[k]? = (w₁ x W).heap[k]?) → V.heap.size = (w₁ x W).heap.size → pre ++ [x] <+: desL ss st (Tx.bs s) p → body.wpIn (Fence.wide.inRound l) (f - 1 - 1) Try.prog (RoundPost w.heap.size I Ix (pre ++ [x]) V) (a₁ x W) V)
    (hdone : ∀ (D : Nat) (W : World), w.heap.size ≤ D → I (desL ss st (Tx.bs s) p) W → W.heap[D]? = some (.deferred (some [])) → Q .normal { a with defers := { target := .collected D, args := #[] } :: a.defers } W)
    (hstop : ∀ (D : Nat) (c : Code) (pre : List (Nat × Nat)) (W : World), w.heap.size ≤ D → pre ≠ [] → pre <+: desL ss st (Tx.bs s) p → Ix c pre W → W.heap[D]? = some (.deferred (some [])) → c.wpIn Fence.wide f Try.prog Q { a with defers := { target := .collected D, args := #[] } :: a.defers } W) :
    (Code.rangeFunc g ps assign body).wpIn Fence.wide f Try.prog Q a w := by
  refine wpIn_rangeFunc ?_
  intro fn hfn
  obtain ⟨rec, hrec⟩ : ∃ rec : LoopState → Option Code → Loop, rec = fun st pe => { state := st, pending := pe, fn, tmps := a.tmps, params := ps, assign, body, defers := w.heap.size } := ⟨_, rfl⟩
  obtain ⟨W1, hW1⟩ : ∃ W1, (w.alloc (.deferred (some []))).alloc (.loop (rec .ready none)) = W1 := ⟨_, rfl⟩
  have hL1 : W1.heap[w.heap.size + 1]? = some (.loop (rec .ready none)) := by
    rw [← hW1]; have := World.alloc_heap_new (w.alloc (.deferred (some []))) (.loop (rec .ready none)); rwa [World.size_alloc] at this
  have hK1 : W1.heap[w.heap.size]? = some (.deferred (some [])) := by
    rw [← hW1]; exact (Below.heap_alloc _ _ _ (by simp)).trans (World.alloc_heap_new w _)
  have hs1 : W1.heap.size = w.heap.size + 2 := by rw [← hW1]; simp
  have hI1 : I [] W1 := by rw [← hW1]; exact hI.alloc _ (hI.alloc _ h0)
  have hb1 : Below w.heap.size w W1 := by
    rw [← hW1]; exact ((Below.refl _ w).alloc (Nat.le_refl _) _).alloc (by simp) _
  have e30 : ∀ args w, (callFunc 43 args).run Try.prog w = .ok (.enter 43 args) w := enters_of Try.func43 (by kernel_rfl) rfl
  refine ⟨w.heap.size + 1, [{ target := .collected w.heap.size, args := #[] }], W1, { target := .fn (.func 43) #[.pointer (some ⟨B, 0, none⟩), .pointer (some ⟨B + 1, 0, none⟩), .pointer (some ⟨B + 2, 0, none⟩)], args := #[.func (.yield (w.heap.size + 1)) #[] #[]] }, W1, 43,
    #[.func (.yield (w.heap.size + 1)) #[] #[], .pointer (some ⟨B, 0, none⟩), .pointer (some ⟨B + 1, 0, none⟩), .pointer (some ⟨B + 2, 0, none⟩)], W1, ?_, ?_, fun _ _ => trivial, ?_, fun _ => by omega, ?_⟩
  · rw [← hW1, hrec]; exact run_enterLoop_outer _ _ _ _ _
  · simp only [resolve, hg]
    simp [go_sem]
  · simp [invoke, go_sem, e30]
  · have hBz : B + 2 < w.heap.size := lt_some hc.p
    obtain ⟨tcs, tt, tz, hta, htf⟩ := hty
    refine (longest1_in (f - 1) (by omega) (w.heap.size + 1) B ss st bA oA c p s h1 h8 hs hst hp hok
      (fun pre W => I pre W ∧ W.heap[w.heap.size + 1]? = some (.loop (rec .ready none)) ∧ W.heap[w.heap.size]? = some (.deferred (some [])))
      (fun pre W => ∃ c, Ix c pre W ∧ W.heap[w.heap.size + 1]? = some (.loop (rec .done (some c))) ∧ W.heap[w.heap.size]? = some (.deferred (some [])))
      W1.heap.size (by omega) (fun pre W W' h hk hb => ⟨hJ _ _ _ h.1 hk (hb.mono (by omega)), hk.same _ _ h.2.1 (fun _ _ _ e => by cases e), hk.same _ _ h.2.2 (fun _ _ _ e => by cases e)⟩) ?_ W1
      (fun j hj => (hsat j hj).below hb1) ⟨tcs, tt, tz, (hb1.block _ (lt_some hta)).trans hta, htf⟩ (hc.same (fun k hk => hb1.block k (by omega))) ⟨hI1, hL1, hK1⟩ (Nat.le_refl _)).mono ?_
    · -- one round
      rintro pre x W ⟨hi, hl, hk⟩ hpre
      have hlt : w.heap.size + 1 < W.heap.size := (Array.getElem?_eq_some_iff.1 hl).1
      have hy := run_yield (P := Try.prog) (args := #[.agg #[.int .i64 (x.1 : Int), .int .i64 (x.2 : Int)]]) hl (by rw [hrec]; exact hps.symm)
      rw [hrec] at hy
      have hbw := hw₁ x W
      have hlW : (w₁ x W).heap[w.heap.size + 1]? = some (.loop (rec .ready none)) := (hbw.block _ hlt).trans hl
      have hltW := lt_some hlW
      refine ⟨fn, _, assign, body, hy, roundIn_of_wpIn hfn (hassign _ x W _ ⟨_, run_beginRound hlW (by rw [hrec]), ?_⟩)⟩
      have hl2 : ((w₁ x W).putObj (w.heap.size + 1) (.loop { rec .ready none with state := .busy })).heap[w.heap.size + 1]? = some (.loop { rec .ready none with state := .busy }) := World.putObj_heap_same hltW
      have hk2 : ((w₁ x W).putObj (w.heap.size + 1) (.loop { rec .ready none with state := .busy })).heap[w.heap.size]? = some (.deferred (some [])) := (World.putObj_heap_other (by omega)).trans ((hbw.block _ (by omega)).trans hk)
      have hkA : K2 W ((w₁ x W).putObj (w.heap.size + 1) (.loop { rec .ready none with state := .busy })) := (K2.below hbw).trans (K2.putObj hlW rfl)
      have hIA : I pre ((w₁ x W).putObj (w.heap.size + 1) (.loop { rec .ready none with state := .busy })) := hI.putObj _ (hJ _ _ _ hi (.below hbw) (hbw.mono (by omega))) (by omega) hlW rfl
      refine wpIn_mono (hbody _ pre x W _ hIA (by omega) (fun k hk => World.putObj_heap_other (by omega)) (by simp [World.putObj]) hpre) ?_
      have fin : ∀ (jump : Option Code) (W3 : World), KeepsFrom w.heap.size ((w₁ x W).putObj (w.heap.size + 1) (.loop { rec .ready none with state := .busy })) W3 →
          (Instr.endRound (w.heap.size + 1) jump).run Try.prog W3 = .ok (.bool jump.isNone) (W3.putObj (w.heap.size + 1) (.loop (rec (if jump.isNone then .ready else .done) jump))) ∧
          W3.heap[w.heap.size + 1]? = some (.loop { rec .ready none with state := .busy }) ∧
          (W3.putObj (w.heap.size + 1) (.loop (rec (if jump.isNone then .ready else .done) jump))).heap[w.heap.size + 1]? = some (.loop (rec (if jump.isNone then .ready else .done) jump)) ∧
          (W3.putObj (w.heap.size + 1) (.loop (rec (if jump.isNone then .ready else .done) jump))).heap[w.heap.size]? = some (.deferred (some [])) := fun jump W3 hk3 => by
        have hl3 := hk3.same _ _ (by omega) hl2 rfl
        have := run_endRound (P := Try.prog) jump hl3
        rw [hrec] at this ⊢
        exact ⟨this, by rw [hrec] at hl3; exact hl3, World.putObj_heap_same (Array.getElem?_eq_some_iff.1 hl3).1, (World.putObj_heap_other (by omega)).trans (hk3.same _ _ (Nat.le_refl _) hk2 rfl)⟩
      rintro e a3 W3 hp
      cases e with
      | normal =>
        obtain ⟨hk3, hi3, hq3⟩ := hp
        obtain ⟨hr, hl3, hl4, hk4⟩ := fin none W3 hk3
        exact ⟨_, _, hr, .inl ⟨rfl, ⟨hI.putObj _ hi3 (by omega) hl3 rfl, hl4, hk4⟩, (hkA.trans hq3).trans (K2.putObj hl3 rfl)⟩⟩
      | ret =>
        obtain ⟨hk3, hi3⟩ := hp
        obtain ⟨hr, hl3, hl4, hk4⟩ := fin (some .ret) W3 hk3
        exact ⟨_, _, hr, .inr ⟨rfl, .ret, (hIx _).putObj _ hi3 (by omega) hl3 rfl, hl4, hk4⟩⟩
      | exit id =>
        obtain ⟨hk3, hi3⟩ := hp
        obtain ⟨hr, hl3, hl4, hk4⟩ := fin (some (.exit id)) W3 hk3
        exact ⟨_, _, hr, .inr ⟨rfl, .exit id, (hIx _).putObj _ hi3 (by omega) hl3 rfl, hl4, hk4⟩⟩
      | goto t =>
        obtain ⟨hk3, hi3⟩ := hp
        obtain ⟨hr, hl3, hl4, hk4⟩ := fin (some (.goto t)) W3 hk3
        exact ⟨_, _, hr, .inr ⟨rfl, .goto t, (hIx _).putObj _ hi3 (by omega) hl3 rfl, hl4, hk4⟩⟩
      | panic ch => exact hp.elim
      | outgrown => exact hp.elim
    · -- behind the iterator
      rintro e W2 ⟨⟨v, rfl⟩, (⟨hi, hl, hk⟩ | ⟨pre, hne, hpre, c, hi, hl, hk⟩)⟩
      · exact ⟨none, _, by have := run_endLoop (P := Try.prog) hl (by rw [hrec]; simp); rw [hrec] at this; exact this, hdone _ _ (Nat.le_refl _) (hI.putObj _ hi (by omega) hl rfl) ((World.putObj_heap_other (by omega)).trans hk)⟩
      · exact ⟨some c, _, by have := run_endLoop (P := Try.prog) hl (by rw [hrec]; simp); rw [hrec] at this; exact this, hstop _ c pre _ (Nat.le_refl _) hne hpre ((hIx c).putObj _ hi (by omega) hl rfl) ((World.putObj_heap_other (by omega)).trans hk)⟩
end Se
end
section
open Go.RowKit
attribute [local go_sem] Oper.semAt_some
namespace Se
open Cm Rx Au
/-- A slice of states that reads as a list, and whose block no body of a loop changes. -/
def RdT (w : World) (v : Value) (ss : List St) : Prop :=
  ∃ A c, v = .slice A ss.length c ∧ (0 < ss.length → ∃ b off, A = some ⟨b, off, none⟩ ∧ (∀ j (h : j < ss.length), StAt w b (off + j * 7) ss[j]) ∧ ∃ cs t z, w.heap[b]? = some (Obj.cells cs t z) ∧ callT t = false)
theorem RdT.rd {w : World} {v : Value} {ss : List St} (h : RdT w v ss) : RdA w v ss := by
  obtain ⟨A, c, rfl, h⟩ := h
  refine ⟨A, c, rfl, fun hp => ?_⟩
  obtain ⟨b, off, e, h1, _⟩ := h hp
  exact ⟨b, off, e, h1⟩
theorem RdT.below {w w' : World} {v : Value} {ss : List St} (h : RdT w v ss) (hb : Below w.heap.size w w') : RdT w' v ss := by
  obtain ⟨A, c, rfl, h⟩ := h
  refine ⟨A, c, rfl, fun hp => ?_⟩
  obtain ⟨b, off, e, h1, cs, t, z, h2, h3⟩ := h hp
  exact ⟨b, off, e, fun j hj => (h1 j hj).below hb, cs, t, z, (hb.block _ (lt_some h2)).trans h2, h3⟩
theorem RdT.of_own {w : World} {base : Nat} {v : Value} {ss : List St} (h : w.ownsRow base tSt 7 v ss.length (flatS ss)) : RdT w v ss := by
  obtain ⟨A, c, rfl, hA⟩ := RdA.of_own h
  refine ⟨A, c, rfl, fun hp => ?_⟩
  obtain ⟨b, off, e, h1⟩ := hA hp
  subst e
  rcases h.2 with ⟨e, _⟩ | ⟨g, cap, cur, e, _, hg, _⟩
  · cases e
  · injection e with e _ _
    injection e with e
    injection e with e
    subst e
    exact ⟨b, off, rfl, h1, cur, tSt, _, hg, rfl⟩
theorem put_one (t : Array Value) (i : Nat) (v : Value) : Array.foldl (fun t (x : Tmp × Value) => t.setIfInBounds x.fst x.snd) t (#[i].zip #[v]) = t.setIfInBounds i v := by simp [Array.zip]
theorem boxed_k1 {W W' : World} {b : Nat} {t : TypeId} {v : Value} (h : Boxed W b t v) (hk : K1 W W') (ht : walkT t = false) : Boxed W' b t v :=
  hk.same _ _ h (fun cs t' z e => by injection e with _ e _; subst e; exact ht)
abbrev tBool : TypeId := 4
abbrev tErr : TypeId := 24
/-- A bool and an error. -/
def BePost (b : Bool) (e : Int) (w : World) (x : Ending) (w' : World) : Prop := x = .returned (.tuple #[.bool b, .int .i64 e]) ∧ Below w.heap.size w w'
/-- Two result cells beside a frame. -/
structure Two (C D : Nat) (w : World) (u v : Value) (W : World) : Prop where
  b : Boxed W D tBool u
  e : Boxed W (D + 1) tErr v
  bel : Below C w W
  lo : C ≤ D
theorem Two.kept {C D : Nat} {w : World} {u v : Value} {A B : World} {row : Option Nat} {N : Nat} (h : Two C D w u v A) (hg : A.grownBy B row) (hD : D + 1 < N) (hr : ∀ r, row = some r → N ≤ r) : Two C D w u v B :=
  ⟨h.b.kept hg (fun e => by have := hr _ e.symm; omega), h.e.kept hg (fun e => by have := hr _ e.symm; omega), h.bel.grown hg (by have := h.b.lt; have := h.lo; omega) (fun k e => by have := hr k e; have := h.lo; omega), h.lo⟩
theorem Two.k1 {C D N : Nat} {w : World} {u v : Value} {A B : World} (h : Two C D w u v A) (hk : K1 A B) (hb : Below N A B) (hN : C ≤ N) : Two C D w u v B :=
  ⟨boxed_k1 h.b hk rfl, boxed_k1 h.e hk rfl, h.bel.trans (hb.mono hN), h.lo⟩
theorem alloc4 (w : World) (a b c d : Obj) : ((((w.alloc a).alloc b).alloc c).alloc d).heap[w.heap.size]? = some a ∧ ((((w.alloc a).alloc b).alloc c).alloc d).heap[w.heap.size + 1]? = some b ∧ ((((w.alloc a).alloc b).alloc c).alloc d).heap[w.heap.size + 1 + 1]? = some c ∧ ((((w.alloc a).alloc b).alloc c).alloc d).heap[w.heap.size + 1 + 1 + 1]? = some d ∧ Below w.heap.size w ((((w.alloc a).alloc b).alloc c).alloc d) := by
  have e1 : (w.alloc a).heap.size = w.heap.size + 1 := by simp
  have e2 : ((w.alloc a).alloc b).heap.size = w.heap.size + 1 + 1 := by simp
  have e3 : (((w.alloc a).alloc b).alloc c).heap.size = w.heap.size + 1 + 1 + 1 := by simp
  have h0 := World.alloc_heap_new w a
  have h1 := World.alloc_heap_new (w.alloc a) b
  have h2 := World.alloc_heap_new ((w.alloc a).alloc b) c
  have h3 := World.alloc_heap_new (((w.alloc a).alloc b).alloc c) d
  rw [e1] at h1
  rw [e2] at h2
  rw [e3] at h3
  refine ⟨?_, ?_, ?_, h3, ((((Below.refl _ _).alloc (Nat.le_refl _) _).alloc (by omega) _).alloc (by omega) _).alloc (by omega) _⟩
  · rw [Below.heap_alloc _ _ _ (by omega), Below.heap_alloc _ _ _ (by omega), Below.heap_alloc _ _ _ (by omega)]; exact h0
  · rw [Below.heap_alloc _ _ _ (by omega), Below.heap_alloc _ _ _ (by omega)]; exact h1
  · rw [Below.heap_alloc _ _ _ (by omega)]; exact h2
theorem Two.set {C D : Nat} {w : World} {u v u' v' : Value} {W : World} (h : Two C D w u v W) : Two C D w u' v' ((W.setCell ⟨D, 0, none⟩ u').setCell ⟨D + 1, 0, none⟩ v') :=
  ⟨(h.b.set _).other (by omega) _, (h.e.other (by omega) _).set _, (h.bel.setCell (p := ⟨D, 0, none⟩) h.lo _).setCell (p := ⟨D + 1, 0, none⟩) (Nat.le_succ_of_le h.lo) _, h.lo⟩
theorem keeps_two {N : Nat} {W : World} {a b : Addr} {u v : Value} : KeepsFrom N W ((W.setCell a u).setCell b v) := ((KeepsOthers.setCell W a u).trans (KeepsOthers.setCell _ b v)).from N
theorem des_in {ss : List St} {st : Nat} {bs : List UInt8} {p : Nat} {pre : List (Nat × Nat)} {x : Nat × Nat} (h : pre ++ [x] <+: desL ss st bs p) : bestF ss st bs x.1 = some x.2 ∧ p ≤ x.1 := by
  have h1 : x ∈ desL ss st bs p := h.subset (List.mem_append_right _ (List.mem_singleton.2 rfl))
  have h2 := ascL_in.1 (List.mem_reverse.1 h1)
  exact ⟨h2.2, h2.1⟩
theorem rd_parts {w : World} {bA oA c : Nat} {ss : List St} (h : RdT w (.slice (some ⟨bA, oA, none⟩) ss.length c) ss) (h1 : 0 < ss.length) : (∀ j (h : j < ss.length), StAt w bA (oA + j * 7) ss[j]) ∧ ∃ cs t z, w.heap[bA]? = some (Obj.cells cs t z) ∧ callT t = false := by
  obtain ⟨A, c', e, hA⟩ := h
  obtain ⟨b, off, e2, h2, h3⟩ := hA h1
  subst e2
  injection e with e _ _
  injection e with e
  injection e with e1 e2
  subst e1 e2
  exact ⟨h2, h3⟩
/-- What Whole answers. -/
noncomputable def wholeF (ss : List St) (st : Nat) (bs : List UInt8) : Bool := decide (bestF ss st bs 0 = some bs.length)
set_option maxRecDepth 100000 in
set_option maxHeartbeats 2000000 in
theorem Whole_ok (v : Value) (ss : List St) (st : Nat) (s : ByteArray) (w : World) (h : RdT w v ss) (hv : ValidA ss (st : Int)) (hs : s.size ≤ 100000) :
    Calls Try.prog 17 #[.agg #[v, .int .i64 (st : Int)], .string s] w (BePost (wholeF ss st (Tx.bs s)) 0 w) := by
  have hst : st < ss.length := by have := of_decide_eq_true hv.2.1; omega
  have h8 := hv.1
  have HOk := Lib.hid hv.2.2
  have hBl : (Tx.bs s).length = s.size := bs_len s
  have HBl := Lib.hid hBl
  have HCk := Lib.hid (fun W (hb : Below w.heap.size w W) => CheckA_any v ss st W (h.rd.below hb) (by omega))
  rw [checkA_T hv] at HCk
  have HRd := Lib.hid (fun W (hb : Below w.heap.size w W) => h.below hb)
  obtain ⟨A, c, rfl, hA⟩ := h
  obtain ⟨bA, oA, rfl, -⟩ := hA (by omega)
  clear hA hv hBl
  have HLo := Lib.hid (fun W => longest_any (some ⟨bA, oA, none⟩) ss.length c st 0 s W)
  obtain ⟨C, hC⟩ : ∃ C, C = w.heap.size := ⟨_, rfl⟩
  refine (callsIn_wide (n := 4)).1 ?_
  refine callsIn_of_wp_marks Try.func17 rfl trivial ?_ rfl
  simp only [Try.ntmps17, List.size_toArray, List.length_cons, List.length_nil, Nat.reduceAdd, Nat.reduceSub, Array.replicate_succ, Array.replicate_zero, List.push_toArray, List.append_toArray, List.nil_append, List.cons_append]
  gi_upto_region 1 with fail
  have HW4 := Lib.hid (alloc4 w (.cells #[.slice (some ⟨bA, oA, none⟩) ss.length c, .int .i64 (st : Int)] tAuto) (.cells #[.string s] tStr) (.cells #[.bool false] tBool) (.cells #[.int .i64 0] tErr))
  generalize (((w.alloc (.cells #[.slice (some ⟨bA, oA, none⟩) ss.length c, .int .i64 (st : Int)] tAuto)).alloc (.cells #[.string s] tStr)).alloc (.cells #[.bool false] tBool)).alloc (.cells #[.int .i64 0] tErr) = w4 at HW4 ⊢
  rw [← hC] at HW4 HCk HRd ⊢
  have HCw := Lib.hid hC
  clear hC
  obtain ⟨⟨c0, c1⟩, -, -⟩ := box_cells HW4.out.1
  gi_wp2_with (first
    | (refine ⟨(trivial : Fence.wide.fn 27), ?_⟩; gi_at_call 27; refine (callsIn_wide.2 (HCk.out _ HW4.out.2.2.2.2)).mono ?_; rintro e w1 ⟨rfl, hb1⟩; have HB1 := Lib.hid hb1; clear c0 c1 hb1; obtain ⟨⟨c0, c1⟩, -, -⟩ := box_cells ((HB1.out.block _ (lt_some HW4.out.1)).trans HW4.out.1); have c2 : w1.cell? ⟨C + 1, 0, none⟩ = some (.string s) := Boxed.cell ((HB1.out.block _ (lt_some HW4.out.2.1)).trans HW4.out.2.1))
    | (refine ⟨(trivial : Fence.wide.fn 28), ?_⟩; gi_at_call 28; refine (callsIn_wide.2 (HLo.out _)).mono ?_; rintro e w2 ⟨rfl, hc2, hb2, hz2⟩; have HB2 := Lib.hid hb2; have HC2 := Lib.hid hc2; clear hb2 hc2 hz2)
    | gi_in)
  clear c0 c1 c2
  have hbw : Below C w w2 := HW4.out.2.2.2.2.trans (((HB1.out.trans (HB2.out.mono HB1.out.size))).mono (by have := HW4.out.2.2.2.2.size; have := HCw.out; omega))
  have hk2 : ∀ k o, w4.heap[k]? = some o → w2.heap[k]? = some o := fun k o hk => (HB2.out.block _ (by have := lt_some hk; have := HB1.out.size; omega)).trans ((HB1.out.block _ (lt_some hk)).trans hk)
  have hT2 : Boxed w2 (C + 1) tStr (.string s) ∧ Two C (C + 1 + 1) w (.bool false) (.int .i64 0) w2 := ⟨hk2 _ _ HW4.out.2.1, hk2 _ _ HW4.out.2.2.1, hk2 _ _ HW4.out.2.2.2.1, hbw, by omega⟩
  have HT2 := Lib.hid hT2
  have hzC := hT2.2.e.lt
  obtain ⟨hsat, hty⟩ := rd_parts (HRd.out _ hbw) (by omega)
  generalize w1.heap.size = B at HC2 ⊢
  clear hbw hk2 hT2 HB1 HB2 HW4 HLo HCk HRd
  refine range_longest 4 (by omega) B ss st bA oA c 0 s (by omega) h8 hs hst (Nat.zero_le _) HOk.out (by rfl) rfl hsat hty HC2.out
    (fun pre W => (∀ x ∈ pre, x.1 ≠ 0) ∧ Boxed W (C + 1) tStr (.string s) ∧ Two C (C + 1 + 1) w (.bool false) (.int .i64 0) W)
    (fun cd _ W => cd = .ret ∧ ∃ e, bestF ss st (Tx.bs s) 0 = some e ∧ Two C (C + 1 + 1) w (.bool ((e : Int) == (s.size : Int))) (.int .i64 0) W)
    (fun pre A B row h hg hr => ?own) (fun pre W W' h hk hb => ?k1) (fun cd pre A B row h hg hr => ?own3) ⟨fun x hx => (by cases hx), HT2.out⟩
    (fun x W => { tmps := #[.agg #[.slice (some ⟨bA, oA, none⟩) ss.length c, .int .i64 (st : Int)], .string s, .pointer (some ⟨C, 0, none⟩), .pointer (some ⟨C + 1, 0, none⟩), .pointer (some ⟨C + 1 + 1, 0, none⟩), .pointer (some ⟨C + 1 + 1 + 1, 0, none⟩), .int .i64 0, .pointer (some ⟨W.heap.size, 0, none⟩), .agg #[.slice (some ⟨bA, oA, none⟩) ss.length c, .int .i64 (st : Int)], .int .i64 0, .int .i64 0, .bool false, undef, .agg #[.slice (some ⟨bA, oA, none⟩) ss.length c, .int .i64 (st : Int)], .string s, longV B, .agg #[.int .i64 (x.1 : Int), .int .i64 (x.2 : Int)], undef, undef, undef, undef, undef, undef, undef, undef], defers := [] })
    (fun x W => W.alloc (.cells #[.int .i64 (x.1 : Int), .int .i64 (x.2 : Int)] tSp)) (fun x W => (Below.refl _ _).alloc (Nat.le_refl _) _) ?assign ?body ?done ?stop
  case own => exact ⟨h.1, h.2.1.kept hg (fun e => by have := (hr _ e.symm).1; omega), h.2.2.kept hg (by omega) (fun r e => (hr r e).1)⟩
  case own3 =>
    obtain ⟨h0, e, h1, h2⟩ := h
    exact ⟨h0, e, h1, h2.kept hg (by omega) (fun r e => (hr r e).1)⟩
  case k1 => exact ⟨h.1, boxed_k1 h.2.1 hk rfl, h.2.2.k1 hk hb (by omega)⟩
  case assign =>
    intro l x W K hK
    rw [put_one]
    gi_wp2
    exact hK
  case body =>
    rintro l pre x W V ⟨hi0, hbx, hTw⟩ hW hVk hVs hpre
    obtain ⟨hx, -⟩ := des_in hpre
    have hnew : V.heap[W.heap.size]? = some (.cells #[.int .i64 (x.1 : Int), .int .i64 (x.2 : Int)] tSp (0, 0)) := (hVk _ (Nat.le_refl _)).trans (heap_new W _)
    obtain ⟨⟨m0, m1⟩, -, -⟩ := box_cells hnew
    clear hVk hVs hpre hnew
    by_cases h0 : x.1 = 0
    · have hb0 : bestF ss st (Tx.bs s) 0 = some x.2 := by rw [← h0]; exact hx
      rw [h0] at m0
      have HF : Hid (KeepsFrom w2.heap.size V ((V.setCell ⟨C + 1 + 1, 0, none⟩ (.bool ((x.2 : Int) == (s.size : Int)))).setCell ⟨C + 1 + 1 + 1, 0, none⟩ (.int .i64 0)) ∧ bestF ss st (Tx.bs s) 0 = some x.2 ∧ Two C (C + 1 + 1) w (.bool ((x.2 : Int) == (s.size : Int))) (.int .i64 0) ((V.setCell ⟨C + 1 + 1, 0, none⟩ (.bool ((x.2 : Int) == (s.size : Int)))).setCell ⟨C + 1 + 1 + 1, 0, none⟩ (.int .i64 0))) := Lib.hid ⟨keeps_two, hb0, hTw.set⟩
      have k0 := hbx.cell
      have k1 := hTw.b.cell
      have k2 := hTw.e.cell
      have f1 := hTw.b.frozen
      have f2 := hTw.e.frozen
      clear hi0 hbx hTw hx hb0 h0 hsat hty HT2 HC2
      gi_wp2
      exact ⟨HF.out.1, rfl, _, HF.out.2.1, HF.out.2.2⟩
    · have HF : Hid ((∀ y ∈ pre ++ [x], y.1 ≠ 0) ∧ Boxed V (C + 1) tStr (.string s) ∧ Two C (C + 1 + 1) w (.bool false) (.int .i64 0) V) := Lib.hid ⟨fun y hy => by
        rcases List.mem_append.1 hy with hy | hy
        · exact hi0 y hy
        · rw [List.mem_singleton] at hy; subst hy; exact h0, hbx, hTw⟩
      have t0 : ((x.1 : Int) == 0) = false := by rw [beq_eq_false_iff_ne]; omega
      clear hi0 hbx hTw hx h0 hsat hty HT2 HC2
      gi_wp2
      exact ⟨KeepsFrom.refl _ _, HF.out, K2.refl _⟩
  case done =>
    rintro D W hD ⟨hno, hbx, hTw⟩ hK
    have HF : Hid (wholeF ss st (Tx.bs s) = false) := Lib.hid (decide_eq_false (fun h => hno (0, (Tx.bs s).length) (List.mem_reverse.2 (ascL_in.2 ⟨Nat.zero_le _, h⟩)) rfl))
    have hTw2 : Two C (C + 1 + 1) w (.bool false) (.int .i64 0) ((W.setCell ⟨C + 1 + 1, 0, none⟩ (.bool false)).setCell ⟨C + 1 + 1 + 1, 0, none⟩ (.int .i64 0)) := hTw.set
    have hK' : ((W.setCell ⟨C + 1 + 1, 0, none⟩ (.bool false)).setCell ⟨C + 1 + 1 + 1, 0, none⟩ (.int .i64 0)).heap[D]? = some (.deferred (some [])) := (keeps_two (N := w2.heap.size)).same _ _ hD hK rfl
    have f1 := hTw.b.frozen
    have f2 := hTw.e.frozen
    have k1 := hTw.b.cell
    have k2 := hTw.e.cell
    obtain ⟨W2, hW2⟩ : ∃ W2, (W.setCell ⟨C + 1 + 1, 0, none⟩ (.bool false)).setCell ⟨C + 1 + 1 + 1, 0, none⟩ (.int .i64 0) = W2 := ⟨_, rfl⟩
    have HW := Lib.hid hW2
    rw [hW2] at hTw2 hK'
    have hl : ∀ r, some D = some r → ∃ o : Obj, W2.heap[r]? = some o ∧ o.isCells = false := fun r e => by cases e; exact ⟨_, hK', rfl⟩
    have q1 := cell_kept hTw2.b.cell (grownBy_putObj' W2 D (.deferred none)) hl
    have q2 := cell_kept hTw2.e.cell (grownBy_putObj' W2 D (.deferred none)) hl
    have HB := Lib.hid (hTw2.bel.trans (belowK_b (w := w2) (n₀ := C) (by omega) W2 D _ (.deferred none) hD hK' rfl rfl))
    clear hno hbx hTw hK hTw2 hW2 hl hsat hty HT2 HC2
    gi_wp2
    rw [HW.out]
    refine ⟨by simp, .inl ⟨_, _, rfl, run_takeDeferred hK', ?_⟩⟩
    rw [HF.out]
    refine ⟨_, (by simp [results, Try.f17, go_sem, q1, q2]), rfl, ?_⟩
    rw [← HCw.out]
    exact HB.out
  case stop =>
    rintro D c pre W hD hne hpre ⟨rfl, e, he, hTw⟩ hK
    have HF : Hid (wholeF ss st (Tx.bs s) = ((e : Int) == (s.size : Int))) := Lib.hid (by
      unfold wholeF
      rw [he, HBl.out]
      by_cases h : e = s.size
      · subst h; simp
      · rw [decide_eq_false (fun h2 => h (Option.some.inj h2)), beq_eq_false_iff_ne.2 (by omega)])
    have hl : ∀ r, some D = some r → ∃ o : Obj, W.heap[r]? = some o ∧ o.isCells = false := fun r e => by cases e; exact ⟨_, hK, rfl⟩
    have q1 := cell_kept hTw.b.cell (grownBy_putObj' W D (.deferred none)) hl
    have q2 := cell_kept hTw.e.cell (grownBy_putObj' W D (.deferred none)) hl
    have HB := Lib.hid (hTw.bel.trans (belowK_b (w := w2) (n₀ := C) (by omega) W D _ (.deferred none) hD hK rfl rfl))
    generalize ((e : Int) == (s.size : Int)) = bb at HF q1
    clear hne hpre he hTw hl hsat hty HT2 HC2
    gi_wp2
    refine ⟨by simp, .inl ⟨_, _, rfl, run_takeDeferred hK, ?_⟩⟩
    rw [HF.out]
    refine ⟨_, (by simp [results, Try.f17, go_sem, q1, q2]), rfl, ?_⟩
    rw [← HCw.out]
    exact HB.out
end Se
end
section
open Go.RowKit
attribute [local go_sem] Oper.semAt_some
namespace Se
open Cm Rx Au
theorem alloc3 (w : World) (a b c : Obj) : (((w.alloc a).alloc b).alloc c).heap[w.heap.size]? = some a ∧ (((w.alloc a).alloc b).alloc c).heap[w.heap.size + 1]? = some b ∧ (((w.alloc a).alloc b).alloc c).heap[w.heap.size + 1 + 1]? = some c ∧ Below w.heap.size w (((w.alloc a).alloc b).alloc c) := by
  have e1 : (w.alloc a).heap.size = w.heap.size + 1 := by simp
  have e2 : ((w.alloc a).alloc b).heap.size = w.heap.size + 1 + 1 := by simp
  have h0 := World.alloc_heap_new w a
  have h1 := World.alloc_heap_new (w.alloc a) b
  have h2 := World.alloc_heap_new ((w.alloc a).alloc b) c
  rw [e1] at h1
  rw [e2] at h2
  refine ⟨?_, ?_, h2, (((Below.refl _ _).alloc (Nat.le_refl _) _).alloc (by omega) _).alloc (by omega) _⟩
  · rw [Below.heap_alloc _ _ _ (by omega), Below.heap_alloc _ _ _ (by omega)]; exact h0
  · rw [Below.heap_alloc _ _ _ (by omega)]; exact h1
/-- What Any answers. -/
noncomputable def anyF (ss : List St) (st : Nat) (bs : List UInt8) : Bool := (findF ss st bs 0).isSome
theorem anyF_nil {ss : List St} {st : Nat} {bs : List UInt8} (h : desL ss st bs 0 = []) : anyF ss st bs = false := by
  unfold anyF
  rw [← findF_last, h]; rfl
theorem anyF_some {ss : List St} {st : Nat} {bs : List UInt8} {pre : List (Nat × Nat)} (h : pre ≠ []) (hp : pre <+: desL ss st bs 0) : anyF ss st bs = true := by
  unfold anyF
  rw [← findF_last]
  obtain ⟨r, hr⟩ := hp
  cases pre with
  | nil => exact absurd rfl h
  | cons a l => rw [← hr]; simp [List.getLast?_cons]
end Se
end
section
open Go.RowKit
attribute [local go_sem] Oper.semAt_some
namespace Se
open Cm Rx Au
theorem alloc2 (w : World) (a b : Obj) : ((w.alloc a).alloc b).heap[w.heap.size]? = some a ∧ ((w.alloc a).alloc b).heap[w.heap.size + 1]? = some b ∧ Below w.heap.size w ((w.alloc a).alloc b) := by
  have e1 : (w.alloc a).heap.size = w.heap.size + 1 := by simp
  have h0 := World.alloc_heap_new w a
  have h1 := World.alloc_heap_new (w.alloc a) b
  rw [e1] at h1
  refine ⟨?_, h1, ((Below.refl _ _).alloc (Nat.le_refl _) _).alloc (by omega) _⟩
  rw [Below.heap_alloc _ _ _ (by omega)]; exact h0
/-- The value of what Find returns. -/
def spanV (o : Option (Nat × Nat)) : Value := match o with
  | some x => .agg #[.int .i64 (x.1 : Int), .int .i64 (x.2 : Int)]
  | none => .agg #[.int .i64 0, .int .i64 0]
def spanC (o : Option (Nat × Nat)) : Array Value := match o with
  | some x => #[.int .i64 (x.1 : Int), .int .i64 (x.2 : Int)]
  | none => #[.int .i64 0, .int .i64 0]
def FindPost (o : Option (Nat × Nat)) (w : World) (e : Ending) (w' : World) : Prop := e = .returned (.tuple #[spanV o, .bool o.isSome, .int .i64 0]) ∧ Below w.heap.size w w'
set_option maxRecDepth 100000 in
set_option maxHeartbeats 2000000 in
theorem Find_ok (v : Value) (ss : List St) (st : Nat) (s : ByteArray) (p : Nat) (w : World) (h : RdT w v ss) (hv : ValidA ss (st : Int)) (hs : s.size ≤ 100000) (hp : p ≤ s.size) :
    Calls Try.prog 11 #[.agg #[v, .int .i64 (st : Int)], .string s, .int .i64 (p : Int)] w (FindPost (findF ss st (Tx.bs s) p) w) := by
  have hst : st < ss.length := by have := of_decide_eq_true hv.2.1; omega
  have h8 := hv.1
  have HOk := Lib.hid hv.2.2
  have HCk := Lib.hid (fun W (hb : Below w.heap.size w W) => CheckA_any v ss st W (h.rd.below hb) (by omega))
  rw [checkA_T hv] at HCk
  have HRd := Lib.hid (fun W (hb : Below w.heap.size w W) => h.below hb)
  obtain ⟨A, c, rfl, hA⟩ := h
  obtain ⟨bA, oA, rfl, -⟩ := hA (by omega)
  clear hA hv
  have HLo := Lib.hid (fun W => longest_any (some ⟨bA, oA, none⟩) ss.length c st p s W)
  have hp1 : decide ((p : Int) < 0) = false := by simp only [decide_eq_false_iff_not]; omega
  have hp2 : decide (s.size < p) = false := by simp only [decide_eq_false_iff_not]; omega
  obtain ⟨C, hC⟩ : ∃ C, C = w.heap.size := ⟨_, rfl⟩
  refine (callsIn_wide (n := 4)).1 ?_
  refine callsIn_of_wp_marks Try.func11 rfl trivial ?_ rfl
  simp only [Try.ntmps11, List.size_toArray, List.length_cons, List.length_nil, Nat.reduceAdd, Nat.reduceSub, Array.replicate_succ, Array.replicate_zero, List.push_toArray, List.append_toArray, List.nil_append, List.cons_append]
  gi_upto_region 1 with fail
  have HW4 := Lib.hid (alloc2 w (.cells #[.slice (some ⟨bA, oA, none⟩) ss.length c, .int .i64 (st : Int)] tAuto) (.cells #[.int .i64 0, .int .i64 0] tSp))
  generalize (w.alloc (.cells #[.slice (some ⟨bA, oA, none⟩) ss.length c, .int .i64 (st : Int)] tAuto)).alloc (.cells #[.int .i64 0, .int .i64 0] tSp) = w4 at HW4 ⊢
  rw [← hC] at HW4 HCk HRd ⊢
  have HCw := Lib.hid hC
  clear hC
  obtain ⟨⟨c0, c1⟩, -, -⟩ := box_cells HW4.out.1
  gi_upto_region 6 with (first
    | (refine ⟨(trivial : Fence.wide.fn 27), ?_⟩; gi_at_call 27; refine (callsIn_wide.2 (HCk.out _ HW4.out.2.2)).mono ?_; rintro e w1 ⟨rfl, hb1⟩; have HB1 := Lib.hid hb1; clear c0 c1 hb1)
    | gi_in)
  have hwl : C + 1 < w1.heap.size := by have := lt_some HW4.out.2.1; have := HB1.out.size; omega
  gi_upto_region 8 with fail
  have HW5 := Lib.hid (alloc2 w1 (.cells #[.int .i64 0, .int .i64 0] tSp) (.cells #[.bool false] tBool))
  generalize (w1.alloc (.cells #[.int .i64 0, .int .i64 0] tSp)).alloc (.cells #[.bool false] tBool) = w5 at HW5 ⊢
  obtain ⟨⟨c0, c1⟩, -, -⟩ := box_cells ((HW5.out.2.2.block C (by omega)).trans ((HB1.out.block _ (lt_some HW4.out.1)).trans HW4.out.1))
  gi_wp2_with (first
    | (refine ⟨(trivial : Fence.wide.fn 28), ?_⟩; gi_at_call 28; refine (callsIn_wide.2 (HLo.out _)).mono ?_; rintro e w2 ⟨rfl, hc2, hb2, hz2⟩; have HB2 := Lib.hid hb2; have HC2 := Lib.hid hc2; clear hb2 hc2 hz2)
    | gi_in)
  clear c0 c1 hp1 hp2
  have hz5 := HW5.out.2.2.size
  have hbw : Below C w w2 := HW4.out.2.2.trans ((HB1.out.trans ((HW5.out.2.2.trans (HB2.out.mono hz5)).mono HB1.out.size)).mono (by have := HW4.out.2.2.size; have := HCw.out; omega))
  have hF1 : w2.heap[w1.heap.size]? = some (.cells (spanC none) tSp (0, 0)) := (HB2.out.block _ (lt_some HW5.out.1)).trans HW5.out.1
  have hF2 : Boxed w2 (w1.heap.size + 1) tBool (.bool false) := (HB2.out.block _ (lt_some HW5.out.2.1)).trans HW5.out.2.1
  have hR : w2.heap[C + 1]? = some (.cells #[.int .i64 0, .int .i64 0] tSp (0, 0)) := (HB2.out.block _ (by omega)).trans ((HW5.out.2.2.block _ hwl).trans ((HB1.out.block _ (lt_some HW4.out.2.1)).trans HW4.out.2.1))
  have hz2 : w1.heap.size + 1 < w2.heap.size := hF2.lt
  have HI := Lib.hid (And.intro hF1 (And.intro hF2 (And.intro hR hbw)))
  obtain ⟨hsat, hty⟩ := rd_parts (HRd.out _ hbw) (by omega)
  generalize w5.heap.size = B at HC2 ⊢
  generalize hF : w1.heap.size = F at HI hwl hz2 ⊢
  clear hbw hF1 hF2 hR hz5 hF HB1 HB2 HW4 HW5 HLo HCk HRd
  refine range_longest 4 (by omega) B ss st bA oA c p s (by omega) h8 hs hst hp HOk.out (by rfl) rfl hsat hty HC2.out
    (fun pre W => W.heap[F]? = some (.cells (spanC pre.getLast?) tSp (0, 0)) ∧ Boxed W (F + 1) tBool (.bool pre.getLast?.isSome) ∧ W.heap[C + 1]? = some (.cells #[.int .i64 0, .int .i64 0] tSp (0, 0)) ∧ Below C w W)
    (fun _ _ _ => False)
    (fun pre A B row h hg hr => ?own) (fun pre W W' h hk hb => ?k1) (fun cd pre A B row h hg hr => h) HI.out
    (fun x W => { tmps := #[.agg #[.slice (some ⟨bA, oA, none⟩) ss.length c, .int .i64 (st : Int)], .string s, .int .i64 (p : Int), .pointer (some ⟨C, 0, none⟩), undef, undef, .pointer (some ⟨C + 1, 0, none⟩), .bool false, .int .i64 0, .int .i64 0, .pointer (some ⟨F, 0, none⟩), .pointer (some ⟨F + 1, 0, none⟩), .pointer (some ⟨W.heap.size, 0, none⟩), .agg #[.slice (some ⟨bA, oA, none⟩) ss.length c, .int .i64 (st : Int)], .int .i64 0, .int .i64 0, .bool false, undef, undef, .int .i64 (p : Int), .bool false, .bool false, .int .i64 (p : Int), .string s, .int .i64 (s.size : Int), .bool false, .bool false, undef, .agg #[.slice (some ⟨bA, oA, none⟩) ss.length c, .int .i64 (st : Int)], .string s, .int .i64 (p : Int), longV B, .agg #[.int .i64 (x.1 : Int), .int .i64 (x.2 : Int)], undef, undef, undef], defers := [] })
    (fun x W => W.alloc (.cells #[.int .i64 (x.1 : Int), .int .i64 (x.2 : Int)] tSp)) (fun x W => (Below.refl _ _).alloc (Nat.le_refl _) _) ?assign ?body ?done ?stop
  case own =>
    have hr2 : ∀ (b : Nat) (o : Obj), b < w2.heap.size → A.heap[b]? = some o → B.heap[b]? = some o := fun b o hb ho => (hg.block b (lt_some ho) (fun e => by have := (hr _ e.symm).1; omega)).trans ho
    have hz := lt_some h.2.2.1
    exact ⟨hr2 _ _ (by omega) h.1, hr2 _ _ (by omega) h.2.1, hr2 _ _ (by omega) h.2.2.1, h.2.2.2.grown hg (by omega) (fun k e => by have := (hr k e).1; omega)⟩
  case k1 =>
    have hr2 : ∀ (b : Nat) (cs : Array Value) (t : TypeId), walkT t = false → W.heap[b]? = some (.cells cs t (0, 0)) → W'.heap[b]? = some (.cells cs t (0, 0)) := fun b cs t ht ho => hk.same _ _ ho (fun cs' t' z e => by injection e with _ e _; subst e; exact ht)
    exact ⟨hr2 _ _ _ rfl h.1, hr2 _ _ _ rfl h.2.1, hr2 _ _ _ rfl h.2.2.1, h.2.2.2.trans (hb.mono (by omega))⟩
  case assign =>
    intro l x W K hK
    rw [put_one]
    gi_wp2
    exact hK
  case body =>
    rintro l pre x W V ⟨h1, h2, h3, h4⟩ hW hVk hVs hpre
    have hnew : V.heap[W.heap.size]? = some (.cells #[.int .i64 (x.1 : Int), .int .i64 (x.2 : Int)] tSp (0, 0)) := (hVk _ (Nat.le_refl _)).trans (heap_new W _)
    obtain ⟨⟨m0, m1⟩, -, -⟩ := box_cells hnew
    obtain ⟨a0, a1, ha⟩ : ∃ a0 a1, spanC pre.getLast? = #[a0, a1] := by cases pre.getLast? <;> exact ⟨_, _, rfl⟩
    rw [ha] at h1
    have g1 := set_block (o := 0) (u := .int .i64 (x.1 : Int)) h1
    have g2 := set_block (o := 1) (u := .int .i64 (x.2 : Int)) g1
    have g3 : Boxed ((V.setCell ⟨F, 0, none⟩ (.int .i64 (x.1 : Int))).setCell ⟨F, 1, none⟩ (.int .i64 (x.2 : Int))) (F + 1) tBool (.bool pre.getLast?.isSome) := (Below.heap_setCell _ _ _ _ (by show F + 1 ≠ F; omega)).trans ((Below.heap_setCell _ _ _ _ (by show F + 1 ≠ F; omega)).trans h2)
    have hV3 : ∀ (k : Nat), k ≠ F → k ≠ F + 1 → (((V.setCell ⟨F, 0, none⟩ (.int .i64 (x.1 : Int))).setCell ⟨F, 1, none⟩ (.int .i64 (x.2 : Int))).setCell ⟨F + 1, 0, none⟩ (.bool true)).heap[k]? = V.heap[k]? := fun k k1 k2 => (Below.heap_setCell _ _ _ _ k2).trans ((Below.heap_setCell _ _ _ _ k1).trans (Below.heap_setCell _ _ _ _ k1))
    have HF : Hid (KeepsFrom w2.heap.size V (((V.setCell ⟨F, 0, none⟩ (.int .i64 (x.1 : Int))).setCell ⟨F, 1, none⟩ (.int .i64 (x.2 : Int))).setCell ⟨F + 1, 0, none⟩ (.bool true)) ∧
        ((((V.setCell ⟨F, 0, none⟩ (.int .i64 (x.1 : Int))).setCell ⟨F, 1, none⟩ (.int .i64 (x.2 : Int))).setCell ⟨F + 1, 0, none⟩ (.bool true)).heap[F]? = some (.cells (spanC (pre ++ [x]).getLast?) tSp (0, 0)) ∧ Boxed (((V.setCell ⟨F, 0, none⟩ (.int .i64 (x.1 : Int))).setCell ⟨F, 1, none⟩ (.int .i64 (x.2 : Int))).setCell ⟨F + 1, 0, none⟩ (.bool true)) (F + 1) tBool (.bool (pre ++ [x]).getLast?.isSome) ∧
          (((V.setCell ⟨F, 0, none⟩ (.int .i64 (x.1 : Int))).setCell ⟨F, 1, none⟩ (.int .i64 (x.2 : Int))).setCell ⟨F + 1, 0, none⟩ (.bool true)).heap[C + 1]? = some (.cells #[.int .i64 0, .int .i64 0] tSp (0, 0)) ∧ Below C w (((V.setCell ⟨F, 0, none⟩ (.int .i64 (x.1 : Int))).setCell ⟨F, 1, none⟩ (.int .i64 (x.2 : Int))).setCell ⟨F + 1, 0, none⟩ (.bool true))) ∧
        K2 V (((V.setCell ⟨F, 0, none⟩ (.int .i64 (x.1 : Int))).setCell ⟨F, 1, none⟩ (.int .i64 (x.2 : Int))).setCell ⟨F + 1, 0, none⟩ (.bool true))) := Lib.hid (by
      refine ⟨(((KeepsOthers.setCell V _ _).trans (KeepsOthers.setCell _ _ _)).trans (KeepsOthers.setCell _ _ _)).from _, ⟨?_, ?_, (hV3 _ (by omega) (by omega)).trans h3, ((h4.setCell (p := ⟨F, 0, none⟩) (by show C ≤ F; omega) _).setCell (p := ⟨F, 1, none⟩) (by show C ≤ F; omega) _).setCell (p := ⟨F + 1, 0, none⟩) (by show C ≤ F + 1; omega) _⟩, ((K2.setCell h1 rfl).trans (K2.setCell g1 rfl)).trans (K2.setCell g3 rfl)⟩
      · rw [List.getLast?_concat]
        exact (Below.heap_setCell _ _ _ _ (by show F ≠ F + 1; omega)).trans g2
      · rw [List.getLast?_concat]
        exact g3.set _)
    have hC1 : V.cell? ⟨F, 0, none⟩ = some a0 := by simp [World.cell?, h1]
    have hC2 : V.cell? ⟨F, 1, none⟩ = some a1 := by simp [World.cell?, h1]
    have hf : ∀ k, V.frozen? ⟨F, k, none⟩ = false := fun k => by simp [World.frozen?, h1]
    have hC3 := h2.cell
    have hf3 := h2.frozen
    clear h1 h2 h3 h4 hVk hVs hpre hnew ha g1 g2 g3 hV3 hsat hty HI HC2
    gi_wp2
    exact ⟨HF.out.1, HF.out.2.1, HF.out.2.2⟩
  case done =>
    rintro D W hD ⟨h1, h2, h3, h4⟩ hK
    rw [findF_last] at h1 h2
    obtain ⟨i0, e0, ha, hv0⟩ : ∃ i0 e0 : Int, spanC (findF ss st (Tx.bs s) p) = #[.int .i64 i0, .int .i64 e0] ∧ spanV (findF ss st (Tx.bs s) p) = .agg #[.int .i64 i0, .int .i64 e0] := by cases findF ss st (Tx.bs s) p <;> exact ⟨_, _, rfl, rfl⟩
    rw [ha] at h1
    obtain ⟨⟨m0, m1⟩, -, -⟩ := box_cells h1
    obtain ⟨⟨n0, n1⟩, -, -⟩ := box_cells h3
    have hf : ∀ k, W.frozen? ⟨C + 1, k, none⟩ = false := fun k => by simp [World.frozen?, h3]
    have k3 := h2.cell
    have g1 := set_block (o := 0) (u := .int .i64 i0) h3
    have g2 := set_block (o := 1) (u := .int .i64 e0) g1
    have hK' : ((W.setCell ⟨C + 1, 0, none⟩ (.int .i64 i0)).setCell ⟨C + 1, 1, none⟩ (.int .i64 e0)).drew.heap[D]? = some (.deferred (some [])) := (keeps_two (N := w2.heap.size)).same _ _ hD hK rfl
    have HB : Hid (Below C w (((W.setCell ⟨C + 1, 0, none⟩ (.int .i64 i0)).setCell ⟨C + 1, 1, none⟩ (.int .i64 e0)).drew.putObj D (.deferred none))) := Lib.hid (((h4.setCell (p := ⟨C + 1, 0, none⟩) (Nat.le_succ C) _).setCell (p := ⟨C + 1, 1, none⟩) (Nat.le_succ C) _).drew.trans (belowK_b (w := w2) (n₀ := C) (by omega) _ D _ (.deferred none) hD hK' rfl rfl))
    have hl : ∀ r, some D = some r → ∃ o : Obj, ((W.setCell ⟨C + 1, 0, none⟩ (.int .i64 i0)).setCell ⟨C + 1, 1, none⟩ (.int .i64 e0)).drew.heap[r]? = some o ∧ o.isCells = false := fun r e => by cases e; exact ⟨_, hK', rfl⟩
    obtain ⟨⟨r0, r1⟩, -, -⟩ := box_cells (W := ((W.setCell ⟨C + 1, 0, none⟩ (.int .i64 i0)).setCell ⟨C + 1, 1, none⟩ (.int .i64 e0)).drew) g2
    have q1 := Lib.hid (cell_kept r0 (grownBy_putObj' _ D (.deferred none)) hl)
    have q2 := Lib.hid (cell_kept r1 (grownBy_putObj' _ D (.deferred none)) hl)
    have HKD := Lib.hid hK'
    have HPost : Hid (∀ W', Below w.heap.size w W' → FindPost (findF ss st (Tx.bs s) p) w (.returned (.tuple #[.agg #[.int .i64 i0, .int .i64 e0], .bool (findF ss st (Tx.bs s) p).isSome, .int .i64 0])) W') := Lib.hid (fun W' h => ⟨by rw [hv0], h⟩)
    have hne : ¬ F = C + 1 := by omega
    have hne2 : ¬ C + 1 = F := by omega
    have hne3 : ¬ F + 1 = C + 1 := by omega
    have hne4 : ¬ C + 1 = F + 1 := by omega
    generalize (findF ss st (Tx.bs s) p).isSome = bb at k3 HPost
    clear h1 h2 h3 h4 hK ha hv0 hsat hty HI HC2 g1 g2 hK' hl r0 r1
    gi_upto_region 11 with fail
    refine wpIn_region_any (by kernel_rfl) ?_
    change wpAnyIn _ _ _ _ _ _ _ _ _ (World.drew _)
    refine wpAnyIn_ready (rs := [0, 1]) (by kernel_rfl) (by simp) ?_
    refine AllReadyIn.cons rfl (fun K hK => ?_) (AllReadyIn.cons rfl (fun K hK => ?_) AllReadyIn.nil)
    · go_simp
      refine hK _ _ ?_
      clear hK K
      refine wpAnyIn_ready (rs := [1, 2]) (by kernel_rfl) (by simp) ?_
      refine AllReadyIn.cons rfl (fun K hK => ?_) (AllReadyIn.cons rfl (fun K hK => ?_) AllReadyIn.nil)
      · go_simp
        refine hK _ _ ?_
        clear hK K
        refine wpAnyIn_ready (rs := [2]) (by kernel_rfl) (by simp) ?_
        refine AllReadyIn.cons rfl (fun K hK => ?_) AllReadyIn.nil
        go_simp
        refine hK _ _ ?_
        clear hK K
        refine wpAnyIn_ready (rs := [3]) (by kernel_rfl) (by simp) ?_
        refine AllReadyIn.cons rfl (fun K hK => ?_) AllReadyIn.nil
        go_simp
        refine hK _ _ ?_
        clear hK K
        refine wpAnyIn_ready (rs := [4]) (by kernel_rfl) (by simp) ?_
        refine AllReadyIn.cons rfl (fun K hK => ?_) AllReadyIn.nil
        go_simp
        refine hK _ _ ?_
        clear hK K
        refine wpAnyIn_done (by kernel_rfl) ?_ _
        gi_wp2
        refine ⟨by simp, .inl ⟨_, _, rfl, run_takeDeferred HKD.out, ?_⟩⟩
        have q1 := q1.out
        have q2 := q2.out
        refine ⟨_, (by simp [results, Try.f11, go_sem, q1, q2]), HPost.out _ ?_⟩
        rw [← HCw.out]
        exact HB.out
      · go_simp
        refine hK _ _ ?_
        clear hK K
        refine wpAnyIn_ready (rs := [1]) (by kernel_rfl) (by simp) ?_
        refine AllReadyIn.cons rfl (fun K hK => ?_) AllReadyIn.nil
        go_simp
        refine hK _ _ ?_
        clear hK K
        refine wpAnyIn_ready (rs := [3]) (by kernel_rfl) (by simp) ?_
        refine AllReadyIn.cons rfl (fun K hK => ?_) AllReadyIn.nil
        go_simp
        refine hK _ _ ?_
        clear hK K
        refine wpAnyIn_ready (rs := [4]) (by kernel_rfl) (by simp) ?_
        refine AllReadyIn.cons rfl (fun K hK => ?_) AllReadyIn.nil
        go_simp
        refine hK _ _ ?_
        clear hK K
        refine wpAnyIn_done (by kernel_rfl) ?_ _
        gi_wp2
        refine ⟨by simp, .inl ⟨_, _, rfl, run_takeDeferred HKD.out, ?_⟩⟩
        have q1 := q1.out
        have q2 := q2.out
        refine ⟨_, (by simp [results, Try.f11, go_sem, q1, q2]), HPost.out _ ?_⟩
        rw [← HCw.out]
        exact HB.out
    · go_simp
      refine hK _ _ ?_
      clear hK K
      refine wpAnyIn_ready (rs := [0]) (by kernel_rfl) (by simp) ?_
      refine AllReadyIn.cons rfl (fun K hK => ?_) AllReadyIn.nil
      go_simp
      refine hK _ _ ?_
      clear hK K
      refine wpAnyIn_ready (rs := [2]) (by kernel_rfl) (by simp) ?_
      refine AllReadyIn.cons rfl (fun K hK => ?_) AllReadyIn.nil
      go_simp
      refine hK _ _ ?_
      clear hK K
      refine wpAnyIn_ready (rs := [3]) (by kernel_rfl) (by simp) ?_
      refine AllReadyIn.cons rfl (fun K hK => ?_) AllReadyIn.nil
      go_simp
      refine hK _ _ ?_
      clear hK K
      refine wpAnyIn_ready (rs := [4]) (by kernel_rfl) (by simp) ?_
      refine AllReadyIn.cons rfl (fun K hK => ?_) AllReadyIn.nil
      go_simp
      refine hK _ _ ?_
      clear hK K
      refine wpAnyIn_done (by kernel_rfl) ?_ _
      gi_wp2
      refine ⟨by simp, .inl ⟨_, _, rfl, run_takeDeferred HKD.out, ?_⟩⟩
      have q1 := q1.out
      have q2 := q2.out
      refine ⟨_, (by simp [results, Try.f11, go_sem, q1, q2]), HPost.out _ ?_⟩
      rw [← HCw.out]
      exact HB.out
  case stop =>
    rintro D c pre W _ _ _ h _
    exact h.elim
end Se
end
end Go.Proofs.Ytgadomcbaenodaa

/- Facts; each states its conditions. -/
import Derived.Test.YtjecfmbecgpbmaaGreatDoorGScrIter
import Derived.RangeFuncWrites
import Derived.RangeFuncBox
import Derived.RangeFuncNested
import Derived.Test.YtjecfmbecgpbmaaGreatDoorGScrBase
import Derived.Maps.AppendAt
import Derived.Sort.QuietTacIn
namespace Go.Proofs.YtjecfmbecgpbmaaGreatDoor
section
namespace Cm
end Cm
open Go.RowKit
attribute [local go_sem] Oper.semAt_some
namespace Sc
open Cm
def RdPost (I : List Sp → List Nat → World → Prop) (Ix : Code → List Sp → World → Prop) (xs : List Sp) (O : List Nat) (W : World) : Exit → Act → World → Prop
 | .normal, _, W' => ∃ O', I xs O' W' ∧ KeptO O W W' ∧ ∀ k ∈ O', k ∈ O ∨ W.heap.size ≤ k
 | .ret, _, W' => KeptO O W W' ∧ Ix .ret xs W'
 | .exit id, _, W' => KeptO O W W' ∧ Ix (.exit id) xs W'
 | .goto t, _, W' => KeptO O W W' ∧ Ix (.goto t) xs W'
 | .panic _, _, _ => False
 | .outgrown, _, _ => False
theorem Eff.putObj {O : List Nat} {n k : Nat} {w : World} (hk : n ≤ k ∧ k ∉ O) (o : Obj) : Eff O n w (w.putObj k o) :=
 ⟨rfl, rfl, rfl, (grownBy_putObj' w k o).size, fun i hi => (World.putObj_heap_other (by
  rcases hi with h | h
  · omega
  · intro e; subst e; exact hk.2 h))⟩
theorem size_putObj (w : World) (k : Nat) (o : Obj) : (w.putObj k o).heap.size = w.heap.size := by simp [World.putObj]
set_option maxHeartbeats 1000000 in
theorem range_mat {g : Operand} {ps : Array Tmp} {assign body : Code} {Q : Exit → Act → World → Prop} {a : Act} {w : World} (f : Nat) (hf : 3 ≤ f)
 (B : Nat) (A : Option Addr) (N c : Nat) (l : List Ch) (m : Int) (hN : l.length = N) (hNb : N ≤ 1000000) (hb : ∀ c ∈ l, ChN c) (hm : 0 ≤ m ∧ m ≤ 4096) (hg : a.eval g = matV B) (hps : ps.size = 1) (hc : Cap w B A N c l m)
 (I : List Sp → List Nat → World → Prop) (Ix : Code → List Sp → World → Prop)
 (hI : ∀ pre O W W', I pre O W → Eff O w.heap.size W W' → I pre O W') (hIl : ∀ pre O W, I pre O W → ∀ k ∈ O, k < W.heap.size ∧ Sep B A N k)
 (hIx : ∀ c pre W k o, Ix c pre W → (w.heap.size ≤ k) → (∃ o' : Obj, W.heap[k]? = some o' ∧ o'.isCells = false) → Ix c pre (W.putObj k o))
 (O0 : List Nat) (h0 : I [] O0 w)
 (a₁ : Sp → Nat → Act)
 (hassign : ∀ (lp : Nat) (x : Sp) (W : World) (K : Act → World → Prop), K (a₁ x W.heap.size) (W.alloc (.cells #[.int .i64 x.frm, .int .i64 x.to] tSp)) →
  assign.wpIn (Fence.wide.inRound lp) (f - 1 - 1 - 1) Tryz.prog (Exit.then K (fun _ _ _ => False)) { tmps := (ps.zip #[spV x]).foldl (fun t (p, v) => t.setIfInBounds p v) a.tmps, defers := [] } W)
 (hbody : ∀ (lp : Nat) (pre : List Sp) (O : List Nat) (x : Sp) (bx : Nat) (W : World), I pre O W → pre ++ [x] <+: mtF m 0 0 l → W.heap[bx]? = some (.cells #[.int .i64 x.frm, .int .i64 x.to] tSp (0, 0)) → bx ∉ O → w.heap.size ≤ bx → w.heap.size ≤ W.heap.size →
  body.wpIn (Fence.wide.inRound lp) (f - 1 - 1 - 1) Tryz.prog (RdPost I Ix (pre ++ [x]) O W) (a₁ x bx) W)
 (hdone : ∀ (D : Nat) (O : List Nat) (W : World), w.heap.size ≤ D → D ∉ O → I (mtF m 0 0 l) O W → W.heap[D]? = some (.deferred (some [])) → Q .normal { a with defers := { target := .collected D, args := #[] } :: a.defers } W)
 (hstop : ∀ (D : Nat) (c : Code) (pre : List Sp) (W : World), w.heap.size ≤ D → pre ≠ [] → pre <+: mtF m 0 0 l → Ix c pre W → W.heap[D]? = some (.deferred (some [])) → c.wpIn Fence.wide f Tryz.prog Q { a with defers := { target := .collected D, args := #[] } :: a.defers } W) :
 (Code.rangeFunc g ps assign body).wpIn Fence.wide f Tryz.prog Q a w := by
 refine wpIn_rangeFunc ?_
 intro fn hfn
 obtain ⟨rec, hrec⟩ : ∃ rec : LoopState → Option Code → Loop, rec = fun st pe => { state := st, pending := pe, fn, tmps := a.tmps, params := ps, assign, body, defers := w.heap.size } := ⟨_, rfl⟩
 obtain ⟨W1, hW1⟩ : ∃ W1, (w.alloc (.deferred (some []))).alloc (.loop (rec .ready none)) = W1 := ⟨_, rfl⟩
 have hL1 : W1.heap[w.heap.size + 1]? = some (.loop (rec .ready none)) := by
  rw [← hW1]; have := World.alloc_heap_new (w.alloc (.deferred (some []))) (.loop (rec .ready none)); rwa [World.size_alloc] at this
 have hK1 : W1.heap[w.heap.size]? = some (.deferred (some [])) := by
  rw [← hW1]; exact (Below.heap_alloc _ _ _ (by simp)).trans (World.alloc_heap_new w _)
 have hs1 : W1.heap.size = w.heap.size + 2 := by rw [← hW1]; simp
 have hk1 : KeptO [] w W1 := by rw [← hW1]; exact ((KeptO.refl _ _).alloc _).alloc _
 have hI1 : I [] O0 W1 := hI _ _ _ _ h0 (Eff.of_kept hk1 (Nat.le_refl _) (fun k hk => (hIl _ _ _ h0 k hk).1) (fun k hk => by cases hk))
 have e30 : ∀ args w, (callFunc 170 args).run Tryz.prog w = .ok (.enter 170 args) w := enters_of Tryz.func170 (by kernel_rfl) rfl
 refine ⟨w.heap.size + 1, [{ target := .collected w.heap.size, args := #[] }], W1, { target := .fn (.func 170) #[.pointer (some ⟨B, 0, none⟩), .pointer (some ⟨B + 1, 0, none⟩)], args := #[.func (.yield (w.heap.size + 1)) #[] #[]] }, W1, 170,
  #[.func (.yield (w.heap.size + 1)) #[] #[], .pointer (some ⟨B, 0, none⟩), .pointer (some ⟨B + 1, 0, none⟩)], W1, ?_, ?_, fun _ _ => trivial, ?_, fun _ => by omega, ?_⟩
 · rw [← hW1, hrec]; exact run_enterLoop_outer _ _ _ _ _
 · simp only [resolve, hg]
   simp [go_sem]
 · simp [invoke, go_sem, e30]
 · -- J: the caller's word, and the two records of the loop lie there, no blocks of the caller's
   have hJeff : ∀ pre O W W', (I pre O W ∧ (w.heap.size ∉ O ∧ w.heap.size + 1 ∉ O) ∧ w.heap.size + 2 ≤ W.heap.size ∧ W.heap[w.heap.size + 1]? = some (.loop (rec .ready none)) ∧ W.heap[w.heap.size]? = some (.deferred (some []))) → Eff O W1.heap.size W W' →
    (I pre O W' ∧ (w.heap.size ∉ O ∧ w.heap.size + 1 ∉ O) ∧ w.heap.size + 2 ≤ W'.heap.size ∧ W'.heap[w.heap.size + 1]? = some (.loop (rec .ready none)) ∧ W'.heap[w.heap.size]? = some (.deferred (some []))) := by
    rintro pre O W W' ⟨h1, h2, h3, h4, h5⟩ he
    exact ⟨hI _ _ _ _ h1 ⟨he.os, he.tape, he.output, he.size, fun k hk => he.block k (by rcases hk with h | h; exact .inl (by omega); exact .inr h)⟩, h2, Nat.le_trans h3 he.size, (he.block _ (.inl (by omega))).trans h4, (he.block _ (.inl (by omega))).trans h5⟩
   refine (matched1_in (f - 1) (by omega) (w.heap.size + 1) B A N c l m hN hNb hb hm
    (fun pre O W => I pre O W ∧ (w.heap.size ∉ O ∧ w.heap.size + 1 ∉ O) ∧ w.heap.size + 2 ≤ W.heap.size ∧ W.heap[w.heap.size + 1]? = some (.loop (rec .ready none)) ∧ W.heap[w.heap.size]? = some (.deferred (some [])))
    (fun pre W => ∃ c, Ix c pre W ∧ W.heap[w.heap.size + 1]? = some (.loop (rec .done (some c))) ∧ W.heap[w.heap.size]? = some (.deferred (some [])))
    W1 ?_ hJeff (fun pre O W h => hIl pre O W h.1) (hc.kept hk1 (fun k hk => by cases hk)) O0 ⟨hI1, ⟨fun hm => by have := (hIl _ _ _ h0 _ hm).1; omega, fun hm => by have := (hIl _ _ _ h0 _ hm).1; omega⟩, by omega, hL1, hK1⟩).mono ?_
   · -- one round
     rintro pre O x W ⟨hi, ⟨hn1, hn2⟩, hsz, hl, hk⟩ hpre
     have hlt : w.heap.size + 1 < W.heap.size := (Array.getElem?_eq_some_iff.1 hl).1
     have hy := run_yield (P := Tryz.prog) (args := #[spV x]) hl (by rw [hrec]; exact hps.symm)
     rw [hrec] at hy
     obtain ⟨Wa, hWa⟩ : ∃ Wa, W.alloc (.cells #[.int .i64 x.frm, .int .i64 x.to] tSp) = Wa := ⟨_, rfl⟩
     have hka : KeptO [] W Wa := by rw [← hWa]; exact (KeptO.refl _ _).alloc _
     have hla : Wa.heap[w.heap.size + 1]? = some (.loop (rec .ready none)) := (hka.block _ hlt (by simp)).trans hl
     have hda : Wa.heap[w.heap.size]? = some (.deferred (some [])) := (hka.block _ (by omega) (by simp)).trans hk
     have hxa : Wa.heap[W.heap.size]? = some (.cells #[.int .i64 x.frm, .int .i64 x.to] tSp (0, 0)) := by rw [← hWa]; exact heap_new W _
     have hia : I pre O Wa := hI _ _ _ _ hi (Eff.of_kept hka (by omega) (fun k hk => (hIl _ _ _ hi k hk).1) (fun k hk => by cases hk))
     have hsa : Wa.heap.size = W.heap.size + 1 := by rw [← hWa]; simp
     refine ⟨fn, _, assign, body, hy, roundIn_of_wpIn hfn (hassign _ x W _ ⟨_, by rw [hWa]; exact run_beginRound hla (by rw [hrec]), ?_⟩)⟩
     have hlt2 : w.heap.size + 1 < Wa.heap.size := by omega
     have hl2 : (Wa.putObj (w.heap.size + 1) (.loop { rec .ready none with state := .busy })).heap[w.heap.size + 1]? = some (.loop { rec .ready none with state := .busy }) := World.putObj_heap_same hlt2
     have hk2 : (Wa.putObj (w.heap.size + 1) (.loop { rec .ready none with state := .busy })).heap[w.heap.size]? = some (.deferred (some [])) := (World.putObj_heap_other (by omega)).trans hda
     have hx2 : (Wa.putObj (w.heap.size + 1) (.loop { rec .ready none with state := .busy })).heap[W.heap.size]? = some (.cells #[.int .i64 x.frm, .int .i64 x.to] tSp (0, 0)) := (World.putObj_heap_other (by omega)).trans hxa
     refine wpIn_mono (hbody _ pre O x W.heap.size _ (hI _ _ _ _ hia (Eff.putObj ⟨by omega, hn2⟩ _)) hpre hx2 (fun hm => by have := (hIl _ _ _ hi _ hm).1; omega) (by omega) (by rw [size_putObj]; omega)) ?_
     have fin : ∀ (jump : Option Code) (W3 : World), KeptO O (Wa.putObj (w.heap.size + 1) (.loop { rec .ready none with state := .busy })) W3 →
      (Instr.endRound (w.heap.size + 1) jump).run Tryz.prog W3 = .ok (.bool jump.isNone) (W3.putObj (w.heap.size + 1) (.loop (rec (if jump.isNone then .ready else .done) jump))) ∧
      W3.heap[w.heap.size + 1]? = some (.loop { rec .ready none with state := .busy }) ∧
      (W3.putObj (w.heap.size + 1) (.loop (rec (if jump.isNone then .ready else .done) jump))).heap[w.heap.size + 1]? = some (.loop (rec (if jump.isNone then .ready else .done) jump)) ∧
      (W3.putObj (w.heap.size + 1) (.loop (rec (if jump.isNone then .ready else .done) jump))).heap[w.heap.size]? = some (.deferred (some [])) := fun jump W3 hk3 => by
      have hl3 := (hk3.block _ (by rw [size_putObj]; omega) hn2).trans hl2
      have := run_endRound (P := Tryz.prog) jump hl3
      rw [hrec] at this ⊢
      exact ⟨this, by rw [hrec] at hl3; exact hl3, World.putObj_heap_same (Array.getElem?_eq_some_iff.1 hl3).1, (World.putObj_heap_other (by omega)).trans ((hk3.block _ (by rw [size_putObj]; omega) hn1).trans hk2)⟩
     rintro e a3 W3 hp
     cases e with
     | normal =>
       obtain ⟨O', hi3, hk3, hO'⟩ := hp
       obtain ⟨hr, hl3, hl4, hk4⟩ := fin none W3 hk3
       have hs3 := hk3.size
       rw [size_putObj] at hs3
       have hs4 := size_putObj Wa (w.heap.size + 1) (.loop { rec .ready none with state := .busy })
       have m1 : w.heap.size ∉ O' := fun hm => by
        rcases hO' _ hm with h | h
        · exact hn1 h
        · rw [size_putObj] at h; omega
       have m2 : w.heap.size + 1 ∉ O' := fun hm => by
        rcases hO' _ hm with h | h
        · exact hn2 h
        · rw [size_putObj] at h; omega
       have hkW : KeptO O W (W3.putObj (w.heap.size + 1) (.loop (rec .ready none))) := by
        refine ⟨?_, ?_, ?_, ?_, fun k hk hn => ?_⟩
        · exact hk3.os.trans hka.os
        · exact hk3.tape.trans hka.tape
        · exact hk3.output.trans hka.output
        · rw [size_putObj]; omega
        · by_cases e : k = w.heap.size + 1
          · subst e; exact hl4.trans hl.symm
          · exact (World.putObj_heap_other e).trans ((hk3.block k (by rw [size_putObj]; omega) hn).trans ((World.putObj_heap_other e).trans (hka.block k hk (by simp))))
       exact ⟨_, _, hr, .inl ⟨rfl, O', ⟨hI _ _ _ _ hi3 (Eff.putObj ⟨by omega, m2⟩ _), ⟨m1, m2⟩, by rw [size_putObj]; omega, hl4, hk4⟩, hkW, fun k hk => by
        rcases hO' k hk with h | h
        · exact .inl h
        · exact .inr (by rw [size_putObj] at h; omega)⟩⟩
     | ret =>
       obtain ⟨hk3, hi3⟩ := hp
       obtain ⟨hr, hl3, hl4, hk4⟩ := fin (some .ret) W3 hk3
       exact ⟨_, _, hr, .inr ⟨rfl, .ret, hIx _ _ _ _ _ hi3 (by omega) ⟨_, hl3, rfl⟩, hl4, hk4⟩⟩
     | exit id =>
       obtain ⟨hk3, hi3⟩ := hp
       obtain ⟨hr, hl3, hl4, hk4⟩ := fin (some (.exit id)) W3 hk3
       exact ⟨_, _, hr, .inr ⟨rfl, .exit id, hIx _ _ _ _ _ hi3 (by omega) ⟨_, hl3, rfl⟩, hl4, hk4⟩⟩
     | goto t =>
       obtain ⟨hk3, hi3⟩ := hp
       obtain ⟨hr, hl3, hl4, hk4⟩ := fin (some (.goto t)) W3 hk3
       exact ⟨_, _, hr, .inr ⟨rfl, .goto t, hIx _ _ _ _ _ hi3 (by omega) ⟨_, hl3, rfl⟩, hl4, hk4⟩⟩
     | panic ch => exact hp.elim
     | outgrown => exact hp.elim
   · -- behind the iterator
     rintro e W2 ⟨⟨v, rfl⟩, (⟨O, hi, ⟨hn1, hn2⟩, hsz, hl, hk⟩ | ⟨pre, hne, hpre, c, hi, hl, hk⟩)⟩
     · exact ⟨none, _, by have := run_endLoop (P := Tryz.prog) hl (by rw [hrec]; simp); rw [hrec] at this; exact this, hdone _ O _ (Nat.le_refl _) hn1 (hI _ _ _ _ hi (Eff.putObj ⟨by omega, hn2⟩ _)) ((World.putObj_heap_other (by omega)).trans hk)⟩
     · exact ⟨some c, _, by have := run_endLoop (P := Tryz.prog) hl (by rw [hrec]; simp); rw [hrec] at this; exact this, hstop _ c pre _ (Nat.le_refl _) hne hpre (hIx _ _ _ _ _ hi (by omega) ⟨_, hl, rfl⟩) ((World.putObj_heap_other (by omega)).trans hk)⟩
end Sc
end
section
open Go.RowKit
attribute [local go_sem] Oper.semAt_some
namespace Sc
open Cm
section
variable {F : Fence} {n : Nat} {ops : Array Oper} {rest : List Oper} {o : Oper} {a : Act} {Q : Exit → Act → World → Prop} {w : World}
end
theorem mt_small {m n : Int} {l : List Ch} (hm : inI m) (hn : inI n) (h : OkL true 0 0 l m n) : (mtF m 0 0 l).length ≤ 4096 := by
 have h1 := (mt_len l true 0 0 hm hn hm.1 (fun _ => rfl) h).1
 have h2 := (szO_bd l).1
 have h3 := hm.2
 omega
theorem cell_one {W : World} {k : Nat} {t : TypeId} {v : Value} (h : W.heap[k]? = some (.cells #[v] t (0, 0))) : W.cell? ⟨k, 0, none⟩ = some v := by simp [World.cell?, h]
theorem cap_new {w : World} {A : Option Addr} {N c : Nat} {l : List Ch} (h : RdC w (.slice A N c) l) (m : Int) : Cap ((w.alloc (.cells #[.slice A N c] tChs)).alloc (.cells #[.int .i64 m] 3)) w.heap.size A N c l m := by
 have h1 := heap_new w (.cells #[.slice A N c] tChs)
 have h2 := heap_new (w.alloc (.cells #[.slice A N c] tChs)) (.cells #[.int .i64 m] 3)
 have s1 : (w.alloc (.cells #[.slice A N c] tChs)).heap.size = w.heap.size + 1 := by simp
 rw [s1] at h2
 have h3 : ((w.alloc (.cells #[.slice A N c] tChs)).alloc (.cells #[.int .i64 m] 3)).heap[w.heap.size]? = some (.cells #[.slice A N c] tChs (0, 0)) := (Below.heap_alloc _ _ _ (by rw [s1]; omega)).trans h1
 exact ⟨cell_one h3, cell_one h2, (h.below ((Below.refl _ _).alloc (Nat.le_refl _) _)).below ((Below.refl _ _).alloc (Nat.le_refl _) _)⟩
def PrPost (l : List Ch) (m n : Int) (w : World) (e : Ending) (w' : World) : Prop :=
 ∃ v, e = .returned (.tuple #[v, .int .i64 (chkF l m n)]) ∧ (chkF l m n = 0 → OwnS w.heap.size w' v (mtF m 0 0 l)) ∧ (chkF l m n ≠ 0 → v = .slice none 0 0) ∧ Below w.heap.size w w'
theorem ok_chN {m n : Int} (hm : inI m) (hn : inI n) {l : List Ch} (h : OkL true 0 0 l m n) : ∀ c ∈ l, ChN c := by
 have hr := (ok_iff hm hn).1 h
 have : ∀ (l : List Ch) (f : Bool) (i j : Int), RfL f i j l m n → ∀ c ∈ l, ChN c := by
  intro l
  induction l with
  | nil => intro _ _ _ _ c hc; cases hc
  | cons x l ih =>
    intro f i j h c hc
    rcases List.mem_cons.1 hc with rfl | hc
    · obtain ⟨⟨a, b, c, d, _⟩, _⟩ := h
      exact ⟨a, b, c, d⟩
    · exact ih _ _ _ h.2 c hc
 exact this l true 0 0 hr
end Sc
end
section
open Go.RowKit
namespace Sc
open Cm
set_option maxRecDepth 100000 in
set_option maxHeartbeats 8000000 in
theorem Matched_any (v : Value) (l : List Ch) (m n : Int) (w : World) (h : RdC w v l) (hl : l.length ≤ 1000000) (hm : inI m) (hn : inI n) (hok : OkL true 0 0 l m n) :
 Calls Tryz.prog 162 #[v, .int .i64 m] w (NewS (mtF m 0 0 l) w) := by
 obtain ⟨A, cp, rfl⟩ := h.form
 have HR := Lib.hid h
 have HSm : Hid ((mtF m 0 0 l).length ≤ 100000) := Lib.hid (by have := mt_small hm hn hok; omega)
 have HOk := Lib.hid hok
 obtain ⟨m0, m1⟩ := hm
 obtain ⟨n0, n1⟩ := hn
 clear h hok
 generalize hN : l.length = N at hl ⊢
 have HN := Lib.hid hN
 clear hN
 go_enter Tryz.func162, Tryz.ntmps162
 go_wp2_with fail
 go_loopw [5, 6, 7, 8] (fun s' i' j' k' wr => ∃ (k : Nat) (i j : Int) (dn : List Sp), k ≤ N ∧ k' = .int .i64 (k : Int) ∧ i' = .int .i64 i ∧ j' = .int .i64 j ∧ (0 ≤ i ∧ i ≤ m) ∧ (0 ≤ j ∧ j ≤ n) ∧ Hid ((k = 0 → i = 0) ∧ OkL (k == 0) i j (l.drop k) m n) ∧ Hid (OwnS w.heap.size wr s' dn) ∧ Hid (Below w.heap.size w wr) ∧ Hid (dn ++ mtF m i j (l.drop k) = mtF m 0 0 l)) (fun _ _ _ k' _ => N - (intOf k').toNat)
 case atStart => exact ⟨0, 0, 0, [], Nat.zero_le _, rfl, rfl, rfl, ⟨by omega, by omega⟩, ⟨by omega, by omega⟩, Lib.hid ⟨fun _ => rfl, HOk.out⟩, Lib.hid (OwnS.nil _ _), Lib.hid (Below.refl _ _), Lib.hid rfl⟩
 case round =>
  obtain ⟨wo, rfl⟩ : ∃ wo, wo = wr := ⟨wr, rfl⟩
  obtain ⟨k, i, j, dn, hk, rfl, rfl, rfl, ⟨i0, i1⟩, ⟨j0, j1⟩, HV, HO, HBl, HP⟩ := hrel
  by_cases hlt : k < N
  · have hx : k < l.length := by rw [HN.out]; exact hlt
    have hv := HV.out.2
    rw [drop_at hx] at hv
    obtain ⟨⟨⟨⟨o0, l0, o1⟩, ⟨w0, v0, w1⟩, hne⟩, hdf, hfst⟩, hnxt⟩ := hv
    have hio : i ≤ l[k].old := by
     by_cases hk0 : k = 0
     · have := HV.out.1 hk0; omega
     · have := hfst (by simpa using hk0); omega
    have HNv := Lib.hid hnxt
    clear hne hfst hnxt HV
    have HCl : Hid (∀ wq, Below w.heap.size w wq → ∃ b off, A = some ⟨b, off, none⟩ ∧ wq.cell? ⟨b, off + k * 4, none⟩ = some (.int .i64 l[k].old) ∧ wq.cell? ⟨b, off + k * 4 + 1, none⟩ = some (.int .i64 l[k].oldLen) ∧ wq.cell? ⟨b, off + k * 4 + 2, none⟩ = some (.int .i64 l[k].new) ∧ wq.cell? ⟨b, off + k * 4 + 3, none⟩ = some (.int .i64 l[k].newLen)) := Lib.hid (fun wq hb => RdC_at (HR.out.below hb) k hx)
    have HP2 : Hid (dn ++ (run i j (l[k].old - i).toNat ++ mtF m (l[k].old + l[k].oldLen) (l[k].new + l[k].newLen) (l.drop (k + 1))) = mtF m 0 0 l) := Lib.hid (by have := HP.out; rw [drop_at hx] at this; exact this)
    clear HP
    generalize l[k] = c at *
    obtain ⟨o, ol, nw, nl⟩ := c
    simp only at o0 o1 l0 w0 w1 v0 hdf hio
    have dk : decide (k < N) = true := decide_eq_true hlt
    have q1 : (0 : Int) ≤ (k : Int) := by omega
    have q2 : (k : Int) < (N : Int) := by omega
    generalize hT : (o - i).toNat = T at HP2
    have ht1 : o - i ≤ (T : Int) := by omega
    have HT := Lib.hid hT
    have ht2 : 0 < T → (T : Int) = o - i := by omega
    have ht4 : i + (T : Int) = o := by omega
    have ht5 : j + (T : Int) = nw := by omega
    have HT4 := Lib.hid (And.intro ht4 ht5)
    have ht3 : (T : Int) ≤ 4096 := by omega
    have HT2 := Lib.hid ht2
    clear hT ht2 ht4 ht5 hdf
    go_wp2_with fail
    go_loopw [5, 6, 7] (fun s' i' j' wr => ∃ (t : Nat), i' = .int .i64 (i + (t : Int)) ∧ j' = .int .i64 (j + (t : Int)) ∧ t ≤ T ∧ Hid (OwnS w.heap.size wr s' (dn ++ run i j t)) ∧ Hid (Below w.heap.size w wr)) (fun _ i' _ _ => (o - intOf i').toNat)
    case atStart => exact ⟨0, by rw [show i + ((0 : Nat) : Int) = i from by omega], by rw [show j + ((0 : Nat) : Int) = j from by omega], Nat.zero_le _, Lib.hid (by rw [run_zero, List.append_nil]; exact HO.out), HBl⟩
    case round =>
     obtain ⟨t, rfl, rfl, ht, HO1, HB1⟩ := hrel
     clear HO HBl
     obtain ⟨b, off, rfl, c0, c1, c2, c3⟩ := HCl.out wr HB1.out
     by_cases hlt1 : t < T
     · have e1 := HT2.out (by omega)
       have d1 : decide (i + (t : Int) < o) = true := decide_eq_true (by omega)
       have HLn : Hid ((dn ++ run i j t).length + 1 ≤ 1000000) := Lib.hid (by
        have h1 := HP2.out
        have h2 := HSm.out
        rw [← h1] at h2
        simp only [List.length_append, run_len] at h2 ⊢
        omega)
       have b1 : i + (t : Int) ≤ 20000 := by omega
       have b2 : j + (t : Int) ≤ 20000 := by omega
       have b3 : 0 ≤ i + (t : Int) := by omega
       have b4 : 0 ≤ j + (t : Int) := by omega
       have HE1 := Lib.hid e1
       clear e1
       go_wp2_with (at_builtin; refine app_sp rfl (.tmp 22) (.tmp 26) rfl w.heap.size (dn ++ run i j t) ⟨i + (t : Int), j + (t : Int)⟩ _ _ rfl HO1.out rfl rfl rfl HLn.out HB1.out.size ?_; intro v3 w3 ho3 hb3 _; have HO3 := Lib.hid ho3; have HB3 := Lib.hid (HB1.out.trans hb3); clear ho3 hb3)
       go_roundw
       case rel => exact ⟨t + 1, by rw [show i + ((t + 1 : Nat) : Int) = i + (t : Int) + 1 from by omega], by rw [show j + ((t + 1 : Nat) : Int) = j + (t : Int) + 1 from by omega], by omega, Lib.hid (by rw [run_snoc, ← List.append_assoc]; exact HO3.out), HB3⟩
       case measure => have e1 := HE1.out; simp [intOf]; omega
     · have htT : t = T := by omega
       have d1 : decide (i + (t : Int) < o) = false := decide_eq_false (by omega)
       have HNx : Hid (dn ++ run i j t ++ mtF m (o + ol) (nw + nl) (l.drop (k + 1)) = mtF m 0 0 l) := Lib.hid (by rw [htT, List.append_assoc]; exact HP2.out)
       obtain ⟨e4, e5⟩ := HT4.out
       have e6 : i + (t : Int) + ol = o + ol := by rw [htT, e4]
       have e7 : j + (t : Int) + nl = nw + nl := by rw [htT, e5]
       have HE6 := Lib.hid (And.intro e6 e7)
       clear htT e4 e5 e6 e7
       have b1 : i + (t : Int) ≤ 20000 := by omega
       have b2 : j + (t : Int) ≤ 20000 := by omega
       go_wp2_with fail
       go_quiet (fail)
       go_wp2_with fail
       go_roundw
       case rel => exact ⟨k + 1, o + ol, nw + nl, _, by omega, by go_num, by rw [HE6.out.1], by rw [HE6.out.2], ⟨by omega, by omega⟩, ⟨by omega, by omega⟩, Lib.hid ⟨fun h => absurd h (Nat.succ_ne_zero _), HNv.out⟩, Lib.hid (HO1.out.drewN _), Lib.hid (below_drewN HB1.out _), HNx⟩
       case measure => simp [intOf]; omega
  · have dk : decide (k < N) = false := decide_eq_false hlt
    generalize hT : (m - i).toNat = T
    have ht1 : m - i ≤ (T : Int) := by omega
    have ht3 : (T : Int) ≤ 4096 := by omega
    have HT2 : Hid (0 < T → (T : Int) = m - i) := Lib.hid (by omega)
    have HP2 : Hid (dn ++ run i j T = mtF m 0 0 l) := Lib.hid (by
     have h := HP.out
     rw [List.drop_eq_nil_of_le (by rw [HN.out]; omega)] at h
     rw [← hT]; exact h)
    clear hT HP HV
    go_wp2_with fail
    go_loopw [5, 6, 7] (fun s' i' j' wr => ∃ (t : Nat), i' = .int .i64 (i + (t : Int)) ∧ j' = .int .i64 (j + (t : Int)) ∧ t ≤ T ∧ Hid (OwnS w.heap.size wr s' (dn ++ run i j t)) ∧ Hid (Below w.heap.size w wr)) (fun _ i' _ _ => (m - intOf i').toNat)
    case atStart => exact ⟨0, by rw [show i + ((0 : Nat) : Int) = i from by omega], by rw [show j + ((0 : Nat) : Int) = j from by omega], Nat.zero_le _, Lib.hid (by rw [run_zero, List.append_nil]; exact HO.out), HBl⟩
    case round =>
     obtain ⟨t, rfl, rfl, ht, HO1, HB1⟩ := hrel
     clear HO HBl
     by_cases hlt1 : t < T
     · have e1 := HT2.out (by omega)
       have d1 : decide (i + (t : Int) < m) = true := decide_eq_true (by omega)
       have HLn : Hid ((dn ++ run i j t).length + 1 ≤ 1000000) := Lib.hid (by
        have h1 := HP2.out
        have h2 := HSm.out
        rw [← h1] at h2
        simp only [List.length_append, run_len] at h2 ⊢
        omega)
       have b1 : i + (t : Int) ≤ 20000 := by omega
       have b2 : j + (t : Int) ≤ 20000 := by omega
       have b3 : 0 ≤ i + (t : Int) := by omega
       have b4 : 0 ≤ j + (t : Int) := by omega
       have HE1 := Lib.hid e1
       clear e1
       go_wp2_with (at_builtin; refine app_sp rfl (.tmp 49) (.tmp 53) rfl w.heap.size (dn ++ run i j t) ⟨i + (t : Int), j + (t : Int)⟩ _ _ rfl HO1.out rfl rfl rfl HLn.out HB1.out.size ?_; intro v3 w3 ho3 hb3 _; have HO3 := Lib.hid ho3; have HB3 := Lib.hid (HB1.out.trans hb3); clear ho3 hb3)
       go_roundw
       case rel => exact ⟨t + 1, by rw [show i + ((t + 1 : Nat) : Int) = i + (t : Int) + 1 from by omega], by rw [show j + ((t + 1 : Nat) : Int) = j + (t : Int) + 1 from by omega], by omega, Lib.hid (by rw [run_snoc, ← List.append_assoc]; exact HO3.out), HB3⟩
       case measure => have e1 := HE1.out; simp [intOf]; omega
     · have htT : t = T := by omega
       have d1 : decide (i + (t : Int) < m) = false := decide_eq_false (by omega)
       subst htT
       go_wp2_with fail
       go_ret
       exact ⟨_, rfl, by rw [← HP2.out]; exact HO1.out, HB1.out⟩
end Sc
end
section
open Go.RowKit
namespace Sc
open Cm
set_option maxRecDepth 100000 in
set_option maxHeartbeats 2000000 in
theorem PairsR_any (v : Value) (l : List Ch) (m n : Int) (w : World) (h : RdC w v l) (hl : l.length ≤ 1000000) :
 Calls Tryz.prog 133 #[v, .int .i64 m, .int .i64 n] w (PrPost l m n w) := by
 obtain ⟨A, cp, rfl⟩ := h.form
 have HC := Lib.hid (CheckR_any _ l m n w h (by omega))
 by_cases hv : inI m ∧ inI n ∧ OkL true 0 0 l m n
 · obtain ⟨hm, hn, hok⟩ := hv
   have hz := chkF_ok hm hn hok
   have HK := Lib.hid (fun w1 (hb1 : Below w.heap.size w w1) => Matched_any _ l m n w1 (h.below hb1) hl hm hn hok)
   unfold PrPost
   unfold CkPost at HC
   rw [hz] at HC ⊢
   clear hz h hm hn hok
   generalize l.length = N at *
   go_enter Tryz.func133, Tryz.ntmps133
   go_wp2_with (first
    | (go_at_call 97; refine HC.out.mono ?_; rintro e w1 ⟨rfl, hb1⟩; have HB1 := Lib.hid hb1; clear hb1)
    | (go_at_call 162; refine (HK.out _ HB1.out).mono ?_; rintro e w3 ⟨v3, rfl, ho3, hb3⟩; have HO3 := Lib.hid ho3; have HB3 := Lib.hid hb3; clear ho3 hb3))
   go_ret2
   have hs := HB1.out.size
   exact ⟨_, rfl, fun _ => HO3.out.base hs, fun h => absurd rfl h, HB1.out.trans (HB3.out.mono hs)⟩
 · have hz := chkF_no hv
   unfold PrPost
   unfold CkPost at HC
   rw [hz] at HC ⊢
   clear hz h hv
   generalize l.length = N at *
   go_enter Tryz.func133, Tryz.ntmps133
   go_wp2_with (go_at_call 97; refine HC.out.mono ?_; rintro e w1 ⟨rfl, hb1⟩; have HB1 := Lib.hid hb1; clear hb1)
   go_ret2
   exact ⟨_, rfl, fun h => absurd h (by decide), fun _ => rfl, HB1.out⟩
end Sc
end
section
open Go.RowKit
namespace Sc
section
variable {F : Fence} {n : Nat} {P : Program} {ops : Array Oper}
theorem upon_round (l0 : Nat) (o : Oper) (a : Act) (K : Act → World → Prop) (Q : Exit → Act → World → Prop) (r : Result Next) (h : o.uponIn F n P a K Q r) : o.uponIn (F.inRound l0) n P a K Q r := h
theorem op_round (hro : F.round = none) (l0 : Nat) {o : Oper} (hd : ∀ c, o.op ≠ .defer c) {a : Act} {K : Act → World → Prop} {Q : Exit → Act → World → Prop} {w : World} (h : o.wpIn F n P a w K Q) : o.wpIn (F.inRound l0) n P a w K Q := by
 unfold Oper.wpIn at *
 refine ⟨h.1, ?_⟩
 have h2 := h.2
 rw [hro, Oper.semAt_none] at h2
 rw [show (F.inRound l0).round = some l0 from rfl, Oper.semAt_some l0 _ _ hd]
 exact upon_round l0 o a K Q _ h2
theorem opAt_round (hro : F.round = none) (l0 : Nat) (hd : ∀ o ∈ ops.toList, ∀ c, o.op ≠ .defer c) {i : Nat} {a : Act} {K K' : Act → World → Prop} {Q : Exit → Act → World → Prop} {w : World} (hK : ∀ a w, K a w → K' a w)
 (h : wpOpIn F n P ops Q i K a w) : wpOpIn (F.inRound l0) n P ops Q i K' a w := by
 unfold wpOpIn at *
 cases ho : ops[i]? with
 | none => rw [ho] at h; exact hK _ _ h
 | some o =>
   rw [ho] at h
   simp only at h ⊢
   have hm : o ∈ ops.toList := by
    obtain ⟨h1, h2⟩ := Array.getElem?_eq_some_iff.1 ho
    rw [← h2]; simp
   by_cases hw : Region.wanted o (yielded ops a.tmps) = true
   · rw [if_pos hw] at h ⊢
     exact op_round hro l0 (hd o hm) (Oper.wpIn_mono hK h)
   · rw [if_neg hw] at h ⊢
     exact ⟨h.1, hK _ _ h.2⟩
theorem any_round (hro : F.round = none) (l0 : Nat) (hd : ∀ o ∈ ops.toList, ∀ c, o.op ≠ .defer c) {md : Region.Mode} {Q : Exit → Act → World → Prop} : ∀ (fuel : Nat) (listed : Array Bool) (a : Act) (w : World), wpAnyIn F n P md ops Q fuel listed a w → wpAnyIn (F.inRound l0) n P md ops Q fuel listed a w
 | 0, _, _, _, h => h
 | fuel + 1, _, _, _, h => ⟨h.1, fun i hi => opAt_round hro l0 hd (fun _ _ h => any_round hro l0 hd fuel _ _ _ h) (h.2 i hi)⟩
def noDefer (l : List Oper) : Bool := l.all fun o => match o.op with | .defer _ => false | _ => true
theorem noDefer_spec {l : List Oper} (h : noDefer l = true) : ∀ o ∈ l, ∀ c, o.op ≠ .defer c := fun o ho c e => by
 have h2 := List.all_eq_true.1 h o ho
 rw [e] at h2
 cases h2
theorem quiet_round {id : Nat} {Q : Exit → Act → World → Prop} {a : Act} {w : World} {l : List Oper} (l0 : Nat) (hro : F.round = none) (hm : P.follows .mixedOrders = true) (hB : Region.lexB .any l.toArray = true) (hd : noDefer l = true)
 (h : wpQuietIn F n P l.toArray (fun w' => ∃ n, w' = w.drewN n) (fun a' => ∀ w', (∃ n, w' = w.drewN n) → Q .normal a' w') l a) : (Code.region id l.toArray true).wpIn (F.inRound l0) n P Q a w := by
 simp only [Region.lexB, Bool.and_eq_true] at hB
 refine wpIn_region_any hm (any_round hro l0 (by simpa using noDefer_spec hd) _ _ _ _ (wpAnyIn_of_quiet (C := fun w' => ∃ n, w' = w.drewN n) (Q := fun a' => ∀ w', (∃ n, w' = w.drewN n) → Q .normal a' w') hro (fun _ w' hw' h => h w' hw') _ _ _ _ ⟨1, rfl⟩ ?_))
 have := wpAnyQIn_lex (F := F) (n := n) (C := fun w' => ∃ n, w' = w.drewN n) (md := .any) hB.1 l 0 (Array.replicate l.length false) a (by simp) (by simpa using hB.2) h
 simpa using this
end
end Sc
end
end Go.Proofs.YtjecfmbecgpbmaaGreatDoor

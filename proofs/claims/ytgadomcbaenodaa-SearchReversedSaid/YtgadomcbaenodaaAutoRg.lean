/-
  slices.Backward over a slice of ints: the iterator's contract, and a loop over it whose body reads and writes. Condition: at most a million ints.
-/
import Derived.Test.YtgadomcbaenodaaComInts
import Derived.RangeFuncWrites
import Derived.RangeFuncBox
import Derived.RangeFuncCalls
import Derived.RangeFuncBound
import Derived.Shelf.AbstractIn
import Derived.WalkKit
import Derived.OwnWalkIn
import Derived.TacticsInMore
import Derived.LoopNIn
import Derived.LoopIn
import Derived.Test.YtgadomcbaenodaaProg
namespace Go.Proofs.Ytgadomcbaenodaa
open Go.RowKit Go.Shelf
attribute [local go_sem] Oper.semAt_some
namespace Au
open Cm
theorem rev_take {zs : List Int} {m : Nat} (h : m < zs.length) : zs.reverse.take (zs.length - (m + 1)) ++ [zs[m]] = zs.reverse.take (zs.length - m) := by
  have e : zs.length - m = zs.length - (m + 1) + 1 := by omega
  rw [e, List.take_succ_eq_append_getElem (by rw [List.length_reverse]; omega), List.getElem_reverse]
  congr 2
  have : zs.length - 1 - (zs.length - (m + 1)) = m := by omega
  simp only [this]
set_option maxRecDepth 100000 in
set_option maxHeartbeats 2000000 in
theorem back1_in (n : Nat) (hn : 1 ≤ n) (l Bs : Nat) (zs : List Int) (A : Option Addr) (c : Nat) (hz : zs.length ≤ 1000000) (J : List Int → World → Prop)
    (hJ : ∀ pre W, J pre W → W.cell? ⟨Bs, 0, none⟩ = some (.slice A zs.length c) ∧ RdV W (.slice A zs.length c) (intsV zs))
    (hY : ∀ pre x (i : Int) W, J pre W → pre ++ [x] <+: zs.reverse → YieldAt Fence.wide (n - 1) Try.prog l #[.int .i64 i, .int .i64 x] W fun e W' => e = .returned (.bool true) ∧ J (pre ++ [x]) W')
    (W : World) (h0 : J [] W) :
    CallsIn Fence.wide n Try.prog 64 #[.func (.yield l) #[] #[], .pointer (some ⟨Bs, 0, none⟩)] W fun e W' => (∃ v, e = .returned v) ∧ J zs.reverse W' := by
  refine callsIn_of_wp Try.func64 rfl trivial ?_ rfl
  simp only [Try.ntmps64, List.size_toArray, List.length_cons, List.length_nil, Nat.reduceAdd, Nat.reduceSub, Array.replicate_succ, Array.replicate_zero, List.push_toArray, List.append_toArray, List.nil_append, List.cons_append]
  have hb := (hJ _ _ h0).1
  have ew : wrap64 ((zs.length : Int) - 1) = (zs.length : Int) - 1 := (by unfold wrap64; omega)
  gi_wp2
  gi_loopw [3] (fun i wr => ∃ m : Nat, m ≤ zs.length ∧ i = .int .i64 ((m : Int) - 1) ∧ J (zs.reverse.take (zs.length - m)) wr)
    (fun i _ => (intOf i + 1).toNat)
  case atStart => exact ⟨zs.length, Nat.le_refl _, by first | rfl | rw [ew], by rw [Nat.sub_self]; exact h0⟩
  case round =>
    obtain ⟨m, hm, rfl, hJs⟩ := hrel
    obtain ⟨hbx, hrd⟩ := hJ _ _ hJs
    cases m with
    | zero =>
      gi_wp2
      go_end0
      exact ⟨⟨_, rfl⟩, by rw [Nat.sub_zero, List.take_of_length_le (by rw [List.length_reverse]; exact Nat.le_refl _)] at hJs; exact hJs⟩
    | succ m =>
      have e0 : ((m + 1 : Nat) : Int) - 1 = (m : Int) := by omega
      rw [e0]
      have hlt : m < zs.length := by omega
      obtain ⟨A', c', e, hc', hA⟩ := hrd
      rw [intsV_len] at e
      cases e
      obtain ⟨b, off, rfl, hcell⟩ := hA (by rw [intsV_len]; omega)
      have hcx : wr.cell? ⟨b, off + m, none⟩ = some (.int .i64 zs[m]) := by
        have := hcell m (by rw [intsV_len]; exact hlt)
        simpa [intsV] using this
      have hpre : zs.reverse.take (zs.length - (m + 1)) ++ [zs[m]] <+: zs.reverse := by rw [rev_take hlt]; exact List.take_prefix _ _
      obtain ⟨fn, tmps, assign, body, hy, hR⟩ := hY _ zs[m] (m : Int) wr hJs hpre
      have hg0 : (0 : Int) ≤ (m : Int) := Int.natCast_nonneg m
      have ew2 : wrap64 ((m : Int) - 1) = (m : Int) - 1 := (by unfold wrap64; omega)
      gi_wp2
      refine hR.mono ?_
      rintro e W3 ⟨rfl, hJ3⟩
      gi_wp2
      go_roundw
      case rel => exact ⟨m, by omega, by first | rfl | rw [ew2], by rw [← rev_take hlt]; exact hJ3⟩
      case measure => simp [intOf]
/-- How the body of a round that goes on is left. -/
def GoesOn (B0 : Nat) (I : List Int → World → Prop) (xs : List Int) (W : World) : Exit → Act → World → Prop
  | .normal, _, W' => KeepsFrom B0 W W' ∧ I xs W'
  | _, _, _ => False
set_option maxHeartbeats 1000000 in
theorem range_back {g : Operand} {ps : Array Tmp} {assign body : Code} {Q : Exit → Act → World → Prop} {a : Act} {w : World} (f : Nat) (hf : 2 ≤ f)
    (Bs : Nat) (zs : List Int) (A : Option Addr) (c : Nat) (hz : zs.length ≤ 1000000) (hg : a.eval g = .func (.func 64) #[] #[.pointer (some ⟨Bs, 0, none⟩)]) (hps : ps.size = 2)
    (I : List Int → World → Prop)
    (hIr : ∀ pre W, I pre W → W.cell? ⟨Bs, 0, none⟩ = some (.slice A zs.length c) ∧ RdV W (.slice A zs.length c) (intsV zs))
    (hI : OwnFrom w.heap.size I) (h0 : I [] w)
    (a₁ : Int → Int → Act)
    (hassign : ∀ (l : Nat) (i x : Int) (W : World) (K : Act → World → Prop), K (a₁ i x) W →
      assign.wpIn (Fence.wide.inRound l) (f - 1 - 1) Try.prog (Exit.then K (fun _ _ _ => False)) { tmps := (ps.zip #[.int .i64 i, .int .i64 x]).foldl (fun t (p, v) => t.setIfInBounds p v) a.tmps, defers := [] } W)
    (hbody : ∀ (l : Nat) (pre : List Int) (i x : Int) (W : World), I pre W → pre ++ [x] <+: zs.reverse → body.wpIn (Fence.wide.inRound l) (f - 1 - 1) Try.prog (GoesOn w.heap.size I (pre ++ [x]) W) (a₁ i x) W)
    (hdone : ∀ (D : Nat) (W : World), w.heap.size ≤ D → I zs.reverse W → W.heap[D]? = some (.deferred (some [])) → Q .normal { a with defers := { target := .collected D, args := #[] } :: a.defers } W) :
    (Code.rangeFunc g ps assign body).wpIn Fence.wide f Try.prog Q a w := by
  refine wpIn_rangeFunc ?_
  intro fn hfn
  obtain ⟨rec, hrec⟩ : ∃ rec : LoopState → Option Code → Loop, rec = fun st pe => { state := st, pending := pe, fn, tmps := a.tmps, params := ps, assign, body, defers := w.heap.size } := ⟨_, rfl⟩
  obtain ⟨W1, hW1⟩ : ∃ W1, (w.alloc (.deferred (some []))).alloc (.loop (rec .ready none)) = W1 := ⟨_, rfl⟩
  have hL1 : W1.heap[w.heap.size + 1]? = some (.loop (rec .ready none)) := by
    rw [← hW1]; have := World.alloc_heap_new (w.alloc (.deferred (some []))) (.loop (rec .ready none)); rwa [World.size_alloc] at this
  have hK1 : W1.heap[w.heap.size]? = some (.deferred (some [])) := by
    rw [← hW1]; exact (Below.heap_alloc _ _ _ (by simp)).trans (World.alloc_heap_new w _)
  have hI1 : I [] W1 := by rw [← hW1]; exact hI.alloc _ (hI.alloc _ h0)
  have e82 : ∀ args w, (callFunc 64 args).run Try.prog w = .ok (.enter 64 args) w := enters_of Try.func64 (by kernel_rfl) rfl
  refine ⟨w.heap.size + 1, [{ target := .collected w.heap.size, args := #[] }], W1, { target := .fn (.func 64) #[.pointer (some ⟨Bs, 0, none⟩)], args := #[.func (.yield (w.heap.size + 1)) #[] #[]] }, W1, 64,
    #[.func (.yield (w.heap.size + 1)) #[] #[], .pointer (some ⟨Bs, 0, none⟩)], W1, ?_, ?_, fun _ _ => trivial, ?_, fun _ => by omega, ?_⟩
  · rw [← hW1, hrec]; exact run_enterLoop_outer _ _ _ _ _
  · simp only [resolve, hg]
    simp [go_sem]
  · simp [invoke, go_sem, e82]
  · refine (back1_in (f - 1) (by omega) (w.heap.size + 1) Bs zs A c hz
      (fun pre W => I pre W ∧ W.heap[w.heap.size + 1]? = some (.loop (rec .ready none)) ∧ W.heap[w.heap.size]? = some (.deferred (some [])))
      (fun pre W h => hIr pre W h.1) ?_ W1 ⟨hI1, hL1, hK1⟩).mono ?_
    · -- one round
      rintro pre x i W ⟨hi, hl, hk⟩ hpre
      have hlt : w.heap.size + 1 < W.heap.size := (Array.getElem?_eq_some_iff.1 hl).1
      have hy := run_yield (P := Try.prog) (args := #[.int .i64 i, .int .i64 x]) hl (by rw [hrec]; exact hps.symm)
      rw [hrec] at hy
      refine ⟨fn, _, assign, body, hy, roundIn_of_wpIn hfn (hassign _ i x W _ ⟨_, run_beginRound hl (by rw [hrec]), ?_⟩)⟩
      have hl2 : (W.putObj (w.heap.size + 1) (.loop { rec .ready none with state := .busy })).heap[w.heap.size + 1]? = some (.loop { rec .ready none with state := .busy }) := World.putObj_heap_same hlt
      have hk2 : (W.putObj (w.heap.size + 1) (.loop { rec .ready none with state := .busy })).heap[w.heap.size]? = some (.deferred (some [])) := (World.putObj_heap_other (by omega)).trans hk
      refine wpIn_mono (hbody _ pre i x _ (hI.putObj _ hi (by omega) hl rfl) hpre) ?_
      rintro e a3 W3 hp
      cases e with
      | normal =>
        obtain ⟨hk3, hi3⟩ := hp
        have hl3 := hk3.same _ _ (by omega) hl2 rfl
        have hr := run_endRound (P := Try.prog) none hl3
        rw [hrec] at hr
        refine ⟨_, _, hr, rfl, hI.putObj _ hi3 (by omega) hl3 rfl, ?_, (World.putObj_heap_other (by omega)).trans (hk3.same _ _ (Nat.le_refl _) hk2 rfl)⟩
        rw [World.putObj_heap_same (Array.getElem?_eq_some_iff.1 hl3).1, hrec]
        rfl
      | _ => exact hp.elim
    · -- behind the iterator
      rintro e W2 ⟨⟨v, rfl⟩, hi, hl, hk⟩
      exact ⟨none, _, by have := run_endLoop (P := Try.prog) hl (by rw [hrec]; simp); rw [hrec] at this; exact this, hdone _ _ (Nat.le_refl _) (hI.putObj _ hi (by omega) hl rfl) ((World.putObj_heap_other (by omega)).trans hk)⟩
set_option maxHeartbeats 1000000 in
theorem backward_in (n : Nat) (A : Option Addr) (len c : Nat) (w : World) :
    CallsIn Fence.wide n Try.prog 54 #[.slice A len c] w fun e w' => e = .returned (.func (.func 64) #[] #[.pointer (some ⟨w.heap.size, 0, none⟩)]) ∧ w' = w.alloc (.cells #[.slice A len c] 22) := by
  refine callsIn_of_wp Try.func54 rfl trivial ?_ rfl
  simp only [Try.ntmps54, List.size_toArray, List.length_cons, List.length_nil, Nat.reduceAdd, Nat.reduceSub, Array.replicate_succ, Array.replicate_zero, List.push_toArray, List.append_toArray, List.nil_append, List.cons_append]
  gi_wp2
  go_ret
  exact ⟨rfl, rfl⟩
end Au
end Go.Proofs.Ytgadomcbaenodaa

/-
  Automata: states as data, how they lie in memory, when an automaton is valid. No conditions. The program's builder of automata: its block, its states; add. Condition: at most a million states. The program's builder of automata: heavy, split. Conditions: the builder's list of blank nodes reaches as far as the kids; at most a million kids and states. The program's newBuilder: which nodes are blank, and the parts of a list. Conditions: valid nodes, at most 4000; short lists of kids. The program's newBuilder. Conditions: valid nodes; at most a million kids each.
-/
import Derived.Test.YtgadomcbaenodaaRegexNode
import Derived.Test.YtgadomcbaenodaaRegexReaderB
import Derived.Test.YtgadomcbaenodaaRegexMath
import Derived.Test.YtgadomcbaenodaaRegexCheck
import Derived.Deep.OwnRows
import Derived.Deep.RegionHeld3
import Derived.Deep.RegionLaw
import Derived.Deep.Cut
import Derived.Deep.CutRange
import Derived.Deep.QuietTactic
import Derived.BigQuiet
import Derived.BigRegion
import Derived.Laws.MakeOwn
import Derived.StillTailTactics
import Derived.RangeFuncCalls
namespace Go.Proofs.Ytgadomcbaenodaa
section
open Go.RowKit
namespace Au
open Cm Rx
abbrev tSt : TypeId := 72
structure St where
  kind : Int
  set : Nat → Bool
  next : Int
  other : Int
/-- The cells of one state. -/
def StAt (w : World) (b o : Nat) (s : St) : Prop :=
  w.cell? ⟨b, o, none⟩ = some (.int .i64 s.kind) ∧ w.cell? ⟨b, o + 1, none⟩ = some (.int .u64 (word s.set 0 : Nat)) ∧ w.cell? ⟨b, o + 2, none⟩ = some (.int .u64 (word s.set 1 : Nat)) ∧ w.cell? ⟨b, o + 3, none⟩ = some (.int .u64 (word s.set 2 : Nat)) ∧ w.cell? ⟨b, o + 4, none⟩ = some (.int .u64 (word s.set 3 : Nat)) ∧
    w.cell? ⟨b, o + 5, none⟩ = some (.int .i64 s.next) ∧ w.cell? ⟨b, o + 6, none⟩ = some (.int .i64 s.other)
/-- A slice of states that reads as a list. -/
def RdA (w : World) (v : Value) (ss : List St) : Prop :=
  ∃ A c, v = .slice A ss.length c ∧ (0 < ss.length → ∃ b off, A = some ⟨b, off, none⟩ ∧ ∀ j (h : j < ss.length), StAt w b (off + j * 7) ss[j])
theorem StAt.below {w w' : World} {b o : Nat} {s : St} (h : StAt w b o s) (hb : Below w.heap.size w w') : StAt w' b o s := by
  obtain ⟨h0, h1, h2, h3, h4, h5, h6⟩ := h
  have e : ∀ (i : Nat) (u : Value), w.cell? ⟨b, i, none⟩ = some u → w'.cell? ⟨b, i, none⟩ = some u := fun i u hu => (hb.cell (p := ⟨b, i, none⟩) (Tx.cell_lt hu)).trans hu
  exact ⟨e _ _ h0, e _ _ h1, e _ _ h2, e _ _ h3, e _ _ h4, e _ _ h5, e _ _ h6⟩
theorem RdA.below {w w' : World} {v : Value} {ss : List St} (h : RdA w v ss) (hb : Below w.heap.size w w') : RdA w' v ss := by
  obtain ⟨A, c, rfl, hA⟩ := h
  refine ⟨A, c, rfl, fun hp => ?_⟩
  obtain ⟨b, off, rfl, hj⟩ := hA hp
  exact ⟨b, off, rfl, fun j h => (hj j h).below hb⟩
theorem StAt.drewN {w : World} {b o : Nat} {s : St} (h : StAt w b o s) (m : Nat) : StAt (w.drewN m) b o s := by
  induction m generalizing w with
  | zero => exact h
  | succ m ih => exact ih (w := w.drew) h
theorem RdA.drewN {w : World} {v : Value} {ss : List St} (h : RdA w v ss) (m : Nat) : RdA (w.drewN m) v ss := by
  obtain ⟨A, c, rfl, hA⟩ := h
  refine ⟨A, c, rfl, fun hp => ?_⟩
  obtain ⟨b, off, rfl, hj⟩ := hA hp
  exact ⟨b, off, rfl, fun j h => (hj j h).drewN m⟩
/-- Is it the index of a state? -/
def hasB (n : Nat) (i : Int) : Bool := decide (0 ≤ i ∧ i < (n : Int))
/-- Has a state a known kind, and states after it as its kind asks for? -/
def okS (n : Nat) (s : St) : Bool :=
  if s.kind = 0 ∨ s.kind = 2 ∨ s.kind = 3 then hasB n s.next else if s.kind = 1 then hasB n s.next && hasB n s.other else decide (s.kind = 4)
def ValidA (ss : List St) (start : Int) : Prop := ss.length ≤ 8000 ∧ hasB ss.length start = true ∧ ∀ k (h : k < ss.length), okS ss.length ss[k] = true
open Classical in
noncomputable def checkA (ss : List St) (start : Int) : Int := if ValidA ss start then 0 else 2
theorem checkA_T {ss : List St} {start : Int} (h : ValidA ss start) : checkA ss start = 0 := by unfold checkA; rw [if_pos h]
theorem checkA_F {ss : List St} {start : Int} (h : ¬ ValidA ss start) : checkA ss start = 2 := by unfold checkA; rw [if_neg h]
end Au
end
section
open Go.RowKit
namespace Au
open Cm Rx
abbrev tBd : TypeId := 75
abbrev tSts : TypeId := 30
abbrev zeroSt : Value := .agg #[.int .i64 0, .int .u64 0, .int .u64 0, .int .u64 0, .int .u64 0, .int .i64 0, .int .i64 0]
theorem info_st : (Try.prog.info? tSt).map (fun i => (i.zero, i.size, i.bytes)) = some (some zeroSt, 7, 56) := by kernel_rfl
/-- A state as cells. -/
def stC (s : St) : List Value := [.int .i64 s.kind, .int .u64 (word s.set 0 : Nat), .int .u64 (word s.set 1 : Nat), .int .u64 (word s.set 2 : Nat), .int .u64 (word s.set 3 : Nat), .int .i64 s.next, .int .i64 s.other]
/-- .. as a value. -/
def stV (s : St) : Value := .agg #[.int .i64 s.kind, .int .u64 (word s.set 0 : Nat), .int .u64 (word s.set 1 : Nat), .int .u64 (word s.set 2 : Nat), .int .u64 (word s.set 3 : Nat), .int .i64 s.next, .int .i64 s.other]
def flatS (ss : List St) : List Value := ss.flatMap stC
theorem flatS_len (ss : List St) : (flatS ss).length = 7 * ss.length := by
  induction ss with
  | nil => rfl
  | cons s r ih =>
    show (stC s ++ flatS r).length = _
    rw [List.length_append, ih, List.length_cons]
    show 7 + _ = _
    omega
theorem flatS_snoc (ss : List St) (s : St) : flatS (ss ++ [s]) = flatS ss ++ stC s := by simp [flatS]
theorem flatS_get : ∀ (ss : List St) (j : Nat) (hj : j < ss.length) (i : Nat), i < 7 → (flatS ss)[j * 7 + i]? = (stC ss[j])[i]?
  | [], j, h, _, _ => absurd h (Nat.not_lt_zero _)
  | s :: ss, 0, _, i, hi => by
    show (stC s ++ flatS ss)[0 * 7 + i]? = _
    rw [List.getElem?_append_left (by show 0 * 7 + i < 7; omega)]
    simp
  | s :: ss, j + 1, h, i, hi => by
    show (stC s ++ flatS ss)[(j + 1) * 7 + i]? = _
    rw [List.getElem?_append_right (by show 7 ≤ (j + 1) * 7 + i; omega), show (j + 1) * 7 + i - (stC s).length = j * 7 + i by show (j + 1) * 7 + i - 7 = _; omega, flatS_get ss j (by simpa using h) i hi]
    rfl
/-- The builder's block, and its states. -/
def Bld (w : World) (base rb : Nat) (vn vp vb : Value) (ss : List St) : Prop :=
  ∃ v, base ≤ w.heap.size ∧ w.heap[rb]? = some (.cells #[vn, vp, vb, v] tBd (0, 0)) ∧ w.ownsRow base tSt 7 v ss.length (flatS ss)
/-- Below base, but for the block rb, the world is as it was. -/
structure Chg (base rb : Nat) (w w' : World) : Prop where
  os : w'.os = w.os
  tape : w'.tape = w.tape
  output : w'.output = w.output
  size : w.heap.size ≤ w'.heap.size
  block : ∀ k, k < base → k ≠ rb → w'.heap[k]? = w.heap[k]?
  oth : KeepsOthers w w'
  kept : KeptX tBd tSt w w'
theorem Chg.refl (base rb : Nat) (w : World) : Chg base rb w w := ⟨rfl, rfl, rfl, Nat.le_refl _, fun _ _ _ => rfl, KeepsOthers.refl w, KeptX.refl w⟩
theorem Chg.of {base rb : Nat} {w w' : World} (h : Below base w w') (ho : KeepsOthers w w') (hk : KeptX tBd tSt w w') : Chg base rb w w' := ⟨h.os, h.tape, h.output, h.size, fun k hk _ => h.block k hk, ho, hk⟩
theorem Chg.trans {base rb : Nat} {a b c : World} (h : Chg base rb a b) (k : Chg base rb b c) : Chg base rb a c :=
  ⟨k.os.trans h.os, k.tape.trans h.tape, k.output.trans h.output, Nat.le_trans h.size k.size, fun i hi hr => (k.block i hi hr).trans (h.block i hi hr), h.oth.trans k.oth, h.kept.trans k.kept⟩
theorem Chg.store {base rb o : Nat} {a w : World} (h : Chg base rb a w) {cur : Array Value} {fr : Nat × Nat} (hb : w.heap[rb]? = some (.cells cur tBd fr)) (u : Value) : Chg base rb a (w.setCell ⟨rb, o, none⟩ u) :=
  h.trans ⟨rfl, rfl, rfl, by simp [World.setCell], fun _ _ hr => Below.heap_setCell _ _ _ _ hr, KeepsOthers.setCell _ _ _, KeptX.store hb⟩
theorem Chg.below {base rb B : Nat} {a w : World} (h : Chg base rb a w) (h1 : B ≤ base) (h2 : B ≤ rb) : Below B a w :=
  ⟨h.os, h.tape, h.output, h.size, fun k hk => h.block k (by omega) (by omega)⟩
theorem Chg.cell {base rb b o : Nat} {w w' : World} (h : Chg base rb w w') (h1 : b < base) (h2 : b ≠ rb) : w'.cell? ⟨b, o, none⟩ = w.cell? ⟨b, o, none⟩ := World.cell?_of_block (w := w) (h.block b h1 h2)
theorem bld_cells {w : World} {rb : Nat} {vn vp vb v : Value} (h : w.heap[rb]? = some (.cells #[vn, vp, vb, v] tBd (0, 0))) :
    w.cell? ⟨rb, 0, none⟩ = some vn ∧ w.cell? ⟨rb, 1, none⟩ = some vp ∧ w.cell? ⟨rb, 2, none⟩ = some vb ∧ w.cell? ⟨rb, 3, none⟩ = some v ∧ ∀ j, w.frozen? ⟨rb, j, none⟩ = false := by
  refine ⟨?_, ?_, ?_, ?_, fun j => ?_⟩
  · simp [World.cell?, h]
  · simp [World.cell?, h]
  · simp [World.cell?, h]
  · simp [World.cell?, h]
  · simp [World.frozen?, h]
/-- Owned states read as a list. -/
theorem RdA.of_own {w : World} {base : Nat} {v : Value} {ss : List St} (h : w.ownsRow base tSt 7 v ss.length (flatS ss)) : RdA w v ss := by
  rcases h.2 with ⟨rfl, h0⟩ | ⟨g, cap, cur, rfl, _, _, _, _⟩
  · exact ⟨none, 0, by rw [h0], fun hp => by omega⟩
  · refine ⟨some ⟨g, 0, none⟩, cap, rfl, fun _ => ⟨g, 0, rfl, fun j hj => ?_⟩⟩
    have e : ∀ i, i < 7 → w.cell? ⟨g, 0 + j * 7 + i, none⟩ = (stC ss[j])[i]? := fun i hi => by
      rw [Nat.zero_add, h.cellAt (j * 7 + i) (by omega), flatS_get ss j hj i hi]
    exact ⟨e 0 (by omega), e 1 (by omega), e 2 (by omega), e 3 (by omega), e 4 (by omega), e 5 (by omega), e 6 (by omega)⟩
/-- What 'add' leaves. -/
theorem add_step {w W w1 : World} {base rb : Nat} {vn vp vb v v1 : Value} {ss : List St} (hb : base ≤ w.heap.size) (hh : w.heap[rb]? = some (.cells #[vn, vp, vb, v] tBd (0, 0))) (hn : w.ownsRow base tSt 7 v ss.length (flatS ss))
    (hs : ∀ k, k < w.heap.size → W.heap[k]? = w.heap[k]?) (hB : Below base w W) (s : St) (hv1 : w1.ownsRow base tSt 7 v1 (ss.length + 1) (flatS ss ++ stC s)) (hg : W.grownBy w1 v.ownBlock) :
    Bld (w1.setCell ⟨rb, 3, none⟩ v1) base rb vn vp vb (ss ++ [s]) ∧ Chg base rb w (w1.setCell ⟨rb, 3, none⟩ v1) ∧ w1.frozen? ⟨rb, 3, none⟩ = false ∧ w1.cell? ⟨rb, 3, none⟩ = some v ∧ (w1.setCell ⟨rb, 3, none⟩ v1).cell? ⟨rb, 3, none⟩ = some v1 := by
  have hsz : w.heap.size ≤ W.heap.size := hB.size
  have hrl := lt_some hh
  have hvW := own_same hn hs
  have hrv : some rb ≠ v.ownBlock := by
    intro hkv
    rcases hn.2 with ⟨rfl, _⟩ | ⟨g, cap, cur, rfl, _, hh', _⟩
    · simp [Value.ownBlock] at hkv
    · have : rb = g := by simpa [Value.ownBlock] using hkv
      subst this
      rw [hh] at hh'
      injection hh' with hh'
      injection hh' with _ ht
      exact absurd ht (by decide)
  have hh1 : w1.heap[rb]? = some (.cells #[vn, vp, vb, v] tBd (0, 0)) := (hg.block rb (by omega) hrv).trans ((hs rb hrl).trans hh)
  have hB1 : Below base w w1 := hB.grown hg (by omega) (fun k hk => (hn.lt k hk).1)
  have hK1 : KeepsOthers w w1 := by
    refine KeepsOthers.trans ⟨hsz, fun k o hk _ => (hs k (lt_some hk)).trans hk⟩ (KeepsOthers.of_grownBy hg fun j o hj ho => ?_)
    rcases hn.2 with ⟨rfl, _⟩ | ⟨g, cap, cur, rfl, _, hh', _⟩
    · simp [Value.ownBlock] at hj
    · have : g = j := by simpa [Value.ownBlock] using hj
      subst this
      rw [hs g (lt_some hh'), hh'] at ho
      cases ho
      rfl
  have hX1 : KeptX tBd tSt w w1 := by
    refine KeptX.trans (fun k cur e _ _ hk => hs k (lt_some hk)) (KeptX.grown hvW hg)
  have hne1 : v1.ownBlock ≠ some rb := by
    intro hkv
    rcases hv1.2 with ⟨e1, _⟩ | ⟨g, cap, cur, e1, _, hh', _⟩
    · rw [e1] at hkv; simp [Value.ownBlock] at hkv
    · rw [e1] at hkv
      have : g = rb := by simpa [Value.ownBlock] using hkv
      subst this
      rw [hh1] at hh'
      injection hh' with hh'
      injection hh' with _ ht
      exact absurd ht (by decide)
  have hO := ownsRow_setCell_other (a := ⟨rb, 3, none⟩) hv1 hne1 v1
  refine ⟨⟨v1, by have := hB1.size; simp [World.setCell]; omega, set_block hh1, by rw [List.length_append, List.length_singleton, flatS_snoc]; exact hO⟩, (Chg.of hB1 hK1 hX1).store hh1 _, (bld_cells hh1).2.2.2.2 3, (bld_cells hh1).2.2.2.1, ?_⟩
  exact (bld_cells (set_block (o := 3) (u := v1) hh1)).2.2.2.1
set_option maxRecDepth 100000 in
set_option maxHeartbeats 1000000 in
theorem add_any {w : World} {base rb : Nat} {vn vp vb : Value} {ss : List St} (h : Bld w base rb vn vp vb ss) (s : St) (hl : ss.length ≤ 1000000) :
    Calls Try.prog 25 #[.pointer (some ⟨rb, 0, none⟩), stV s] w fun en w' => en = .returned (.int .i64 (ss.length : Int)) ∧ Bld w' base rb vn vp vb (ss ++ [s]) ∧ Chg base rb w w' := by
  obtain ⟨v, hb, hh, hn⟩ := h
  have hrl := lt_some hh
  obtain ⟨c0, c1, c2, c3, hf⟩ := bld_cells hh
  obtain ⟨i0, hi, hz0, hz1, hz2⟩ := info_parts info_st
  have HI := Lib.hid (And.intro hi (And.intro hz0 (And.intro hz1 hz2)))
  clear hi hz0 hz1 hz2 hf c0 c1 c2
  have HStep : Hid (∀ (wb : World) (C : Array Value) (v1 : Value) (w1 : World), (∀ k, k < w.heap.size → wb.heap[k]? = w.heap[k]?) → Below base w wb → w1.ownsRow base tSt 7 v1 (ss.length + 1) (flatS ss ++ stC s) → ((wb.drew).alloc (.cells C tSt)).grownBy w1 v.ownBlock →
      (Bld (w1.setCell ⟨rb, 3, none⟩ v1) base rb vn vp vb (ss ++ [s]) ∧ Chg base rb w (w1.setCell ⟨rb, 3, none⟩ v1)) ∧ w1.frozen? ⟨rb, 3, none⟩ = false ∧ w1.cell? ⟨rb, 3, none⟩ = some v ∧ (w1.setCell ⟨rb, 3, none⟩ v1).cell? ⟨rb, 3, none⟩ = some v1) := Lib.hid (fun wb C v1 w1 h1 h2 h3 h4 => by
    have hsz := h2.size
    have hbw : base ≤ w.heap.size := by omega
    obtain ⟨r1, r2, r4, r5, r6⟩ := add_step hb hh hn (W := (wb.drew).alloc (.cells C tSt)) (fun j hj => (Below.heap_alloc wb.drew _ j (by show j < wb.heap.size; omega)).trans (h1 j hj)) (h2.drew.alloc (by show base ≤ wb.heap.size; omega) _) s h3 h4
    exact ⟨⟨r1, r2⟩, r4, r5, r6⟩)
  have HOwn : Hid (∀ (wb : World) (C : Array Value), (∀ k, k < w.heap.size → wb.heap[k]? = w.heap[k]?) → w.heap.size ≤ wb.heap.size → ((wb.drew).alloc (.cells C tSt)).ownsRow base tSt 7 v ss.length (flatS ss)) := Lib.hid (fun wb C h1 h2 =>
    own_same hn (fun j hj => (Below.heap_alloc wb.drew _ j (by show j < wb.heap.size; omega)).trans (h1 j hj)))
  have hfl := flatS_len ss
  have hbw : base ≤ w.heap.size := by omega
  have HForm : Hid (∃ A c, v = .slice A ss.length c) := Lib.hid (by
    rcases hn.2 with ⟨rfl, h0⟩ | ⟨g, cap, cur, rfl, _⟩
    · exact ⟨none, 0, by rw [h0]⟩
    · exact ⟨_, cap, rfl⟩)
  clear hh hn
  obtain ⟨A, c, rfl⟩ := HForm.out
  unfold stV
  unfold stC at HStep
  generalize (word s.set 0 : Nat) = x0 at HStep ⊢
  generalize (word s.set 1 : Nat) = x1 at HStep ⊢
  generalize (word s.set 2 : Nat) = x2 at HStep ⊢
  generalize (word s.set 3 : Nat) = x3 at HStep ⊢
  generalize flatS ss = xs at HStep HOwn hfl
  go_enter Try.func25, Try.ntmps25
  go_wp2_with fail
  have hwb1 : ∀ C, (w.alloc (Obj.cells C tSt)).heap[w.heap.size]? = some (Obj.cells C tSt) := fun C => heap_new w _
  have hwb2 : ∀ (C : Array Value) (j : Nat), j < w.heap.size → (w.alloc (Obj.cells C tSt)).heap[j]? = w.heap[j]? := fun C j hj => Below.heap_alloc w _ j hj
  have hwb3 : ∀ C, Below base w (w.alloc (Obj.cells C tSt)) := fun C => (Below.refl _ _).alloc hbw _
  have hwb4 : ∀ C, (w.alloc (Obj.cells C tSt)).heap.size = w.heap.size + 1 := fun C => by simp
  have k1 := hwb1 #[.int .i64 s.kind, .int .u64 x0, .int .u64 x1, .int .u64 x2, .int .u64 x3, .int .i64 s.next, .int .i64 s.other]
  have K2 := Lib.hid (hwb2 #[.int .i64 s.kind, .int .u64 x0, .int .u64 x1, .int .u64 x2, .int .u64 x3, .int .i64 s.next, .int .i64 s.other])
  have K3 := Lib.hid (hwb3 #[.int .i64 s.kind, .int .u64 x0, .int .u64 x1, .int .u64 x2, .int .u64 x3, .int .i64 s.next, .int .i64 s.other])
  have k4 := hwb4 #[.int .i64 s.kind, .int .u64 x0, .int .u64 x1, .int .u64 x2, .int .u64 x3, .int .i64 s.next, .int .i64 s.other]
  clear hwb1 hwb2 hwb3 hwb4
  generalize w.alloc (Obj.cells #[Value.int .i64 s.kind, .int .u64 x0, .int .u64 x1, .int .u64 x2, .int .u64 x3, .int .i64 s.next, .int .i64 s.other] tSt) = wb at k1 K2 K3 k4 ⊢
  generalize hH : w.heap.size = H at k1 K2 hrl hbw k4 HOwn HStep ⊢
  have b3 : wb.cell? ⟨rb, 3, none⟩ = some (.slice A ss.length c) := by rw [World.cell?_of_block (w := w) (K2.out rb hrl)]; exact c3
  have d0 : wb.cell? ⟨H, 0, none⟩ = some (.int .i64 s.kind) := by simp [World.cell?, k1]
  have d1 : wb.cell? ⟨H, 1, none⟩ = some (.int .u64 x0) := by simp [World.cell?, k1]
  have d2 : wb.cell? ⟨H, 2, none⟩ = some (.int .u64 x1) := by simp [World.cell?, k1]
  have d3 : wb.cell? ⟨H, 3, none⟩ = some (.int .u64 x2) := by simp [World.cell?, k1]
  have d4 : wb.cell? ⟨H, 4, none⟩ = some (.int .u64 x3) := by simp [World.cell?, k1]
  have d5 : wb.cell? ⟨H, 5, none⟩ = some (.int .i64 s.next) := by simp [World.cell?, k1]
  have d6 : wb.cell? ⟨H, 6, none⟩ = some (.int .i64 s.other) := by simp [World.cell?, k1]
  have r1 : rb < wb.heap.size := by omega
  have r2 : H < wb.heap.size := by omega
  have HNews : Hid (∀ (C : Array Value) (j : Nat) (u : Value), C.toList[j]? = some u → ((wb.drew).alloc (.cells C tSt)).cell? ((⟨H + 1, 0, none⟩ : Addr).add j) = some u) := Lib.hid (fun C j u h => by
    have h2 := World.news_of_block (heap_new wb.drew (.cells C tSt)) j u h
    rw [show (wb.drew).heap.size = H + 1 from k4] at h2
    exact h2)
  have HOnes : Hid (∀ u ∈ [Value.int .i64 s.kind, .int .u64 x0, .int .u64 x1, .int .u64 x2, .int .u64 x3, .int .i64 s.next, .int .i64 s.other], u.oneCell' = true) := Lib.hid (fun u hu => by
    simp only [List.mem_cons, List.not_mem_nil, or_false] at hu
    rcases hu with rfl | rfl | rfl | rfl | rfl | rfl | rfl
    all_goals rfl)
  clear k1 c3 HForm
  go_region_law ((refine step_append_lies _ (by rfl) (.tmp 9) (.tmp 11) tSts (by rfl) base tSt i0 zeroSt 7 56 Try.underlying30 HI.out.1 HI.out.2.1 HI.out.2.2.1 HI.out.2.2.2 (by decide) (by decide) (.slice A ss.length c) ss.length xs (by rfl) (HOwn.out wb _ K2.out (by omega)) ⟨H + 1, 0, none⟩ 1 1 [.int .i64 s.kind, .int .u64 x0, .int .u64 x1, .int .u64 x2, .int .u64 x3, .int .i64 s.next, .int .i64 s.other] (by rfl) (by rfl) (HNews.out _) HOnes.out (by decide) (by unfold maxLen; omega) (by omega) (by simp; omega) _ rfl ?_; intro g cap w1 hown1 hgrow hat hlt; obtain ⟨q1, q2, q3, q4⟩ := HStep.out wb _ _ _ K2.out K3.out hown1 hgrow; have Q := Lib.hid q1; clear q1 hown1 hgrow hat hlt))
  all_goals
    go_wp2_with fail
    go_ret
    exact ⟨rfl, Q.out⟩
end Au
end
section
open Go.RowKit
namespace Au
open Cm Rx
theorem info_intH : (Try.prog.info? 3).map (fun i => (i.zero, i.size, i.bytes)) = some (some (.int .i64 0), 1, 8) := by kernel_rfl
def heavyF (bl : List Bool) (kids : List Int) : List Int := kids.filter fun k => !bl.getD k.toNat false
theorem heavy_take {bl : List Bool} {kids : List Int} {q : Nat} (h : q < kids.length) : heavyF bl (kids.take (q + 1)) = heavyF bl (kids.take q) ++ if bl.getD kids[q].toNat false = true then [] else [kids[q]] := by
  unfold heavyF
  rw [List.take_succ_eq_append_getElem h, List.filter_append]
  congr 1
  rw [List.filter_cons, List.filter_nil]
  cases bl.getD kids[q].toNat false
  · rfl
  · rfl
theorem heavy_len (bl : List Bool) (kids : List Int) : (heavyF bl kids).length ≤ kids.length := List.length_filter_le _ _
theorem intsV_end (l : List Int) (z : Int) : intsV (l ++ [z]) = intsV l ++ [.int .i64 z] := by simp [intsV]
set_option maxRecDepth 100000 in
set_option maxHeartbeats 4000000 in
theorem heavy_any {w : World} {rb G c kn ck N : Nat} {vn vp v3 : Value} {Ak : Option Addr} {kids : List Int} {bl : List Bool} (hh : w.heap[rb]? = some (.cells #[vn, vp, .slice (some ⟨G, 0, none⟩) N c, v3] tBd (0, 0))) (hkn : kids.length = kn) (hk : RdV w (.slice Ak kn ck) (intsV kids)) (hl : kn ≤ 1000000)
    (hN : bl.length ≤ N) (hb : ∀ k ∈ kids, 0 ≤ k ∧ k < (bl.length : Int)) (hc : ∀ i (h : i < bl.length), w.cell? ⟨G, i, none⟩ = some (.bool bl[i])) :
    Calls Try.prog 37 #[.pointer (some ⟨rb, 0, none⟩), .slice Ak kn ck] w fun e w' => ∃ v, e = .returned v ∧ w'.ownsRow w.heap.size tInt 1 v (heavyF bl kids).length (intsV (heavyF bl kids)) ∧ Below w.heap.size w w' := by
  obtain ⟨_, _, c2, _, _⟩ := bld_cells hh
  have HC2 := Lib.hid c2
  have HRb := Lib.hid (lt_some hh)
  have HKids : Hid (∀ q (h : q < kids.length), ∃ b2 o2, Ak = some ⟨b2, o2, none⟩ ∧ w.cell? ⟨b2, o2 + q, none⟩ = some (.int .i64 kids[q])) := Lib.hid (fun q hq => by
    obtain ⟨_, b2, o2, e, hc⟩ := hk.at (by rw [intsV_len]; omega)
    have h2 := hc q (by rw [intsV_len]; exact hq)
    exact ⟨b2, o2, e, by rw [h2]; simp [intsV]⟩)
  have HB := Lib.hid hb
  have HC := Lib.hid hc
  have HKn := Lib.hid hkn
  have HT := Lib.hid (fun q (h : q < kids.length) => heavy_take (bl := bl) h)
  have HLe := Lib.hid (fun q => Nat.le_trans (heavy_len bl (kids.take q)) (List.length_take_le q kids))
  clear hh hk hb hc hkn c2
  go_enter Try.func37, Try.ntmps37
  go_wp2_with fail
  go_loopw [5, 10] (fun v i wr => ∃ q : Nat, q ≤ kn ∧ i = .int .i64 (q : Int) ∧ Hid (wr.ownsRow w.heap.size tInt 1 v (heavyF bl (kids.take q)).length (intsV (heavyF bl (kids.take q)))) ∧ Hid (Below w.heap.size w wr)) (fun _ i _ => kn - (intOf i).toNat)
  case atStart => exact ⟨0, Nat.zero_le _, by go_num, Lib.hid (by rw [List.take_zero]; exact World.ownsRow_nil _ _ _ _), Lib.hid (Below.refl _ _)⟩
  case round =>
    obtain ⟨q, hq, rfl, HO, HBw⟩ := hrel
    obtain ⟨Av, cv, rfl⟩ := own_form HO.out
    have hsz := HBw.out.size
    by_cases hlt : q < kn
    · have hx : q < kids.length := by rw [HKn.out]; exact hlt
      obtain ⟨b2, o2, rfl, hc2⟩ := HKids.out q hx
      have hkb := HB.out _ (List.getElem_mem hx)
      have HT2 := Lib.hid (HT.out q hx)
      have hle := HLe.out q
      generalize hkq : kids[q] = kq at hc2 hkb HT2
      obtain ⟨z, rfl⟩ : ∃ z : Nat, kq = (z : Int) := ⟨kq.toNat, by omega⟩
      rw [show ((z : Int)).toNat = z from by omega] at HT2
      have hz : z < bl.length := by omega
      have hcz := HC.out z hz
      have hgd : bl.getD z false = bl[z] := by rw [List.getD_eq_getElem?_getD, List.getElem?_eq_getElem hz]; rfl
      rw [hgd] at HT2
      have e1 : wr.cell? ⟨b2, o2 + q, none⟩ = some (.int .i64 (z : Int)) := (HBw.out.cell (p := ⟨b2, o2 + q, none⟩) (Tx.cell_lt hc2)).trans hc2
      have e2 : wr.cell? ⟨rb, 2, none⟩ = some (.slice (some ⟨G, 0, none⟩) N c) := (HBw.out.cell (p := ⟨rb, 2, none⟩) (Tx.cell_lt HC2.out)).trans HC2.out
      have e3 : wr.cell? ⟨G, z, none⟩ = some (.bool bl[z]) := (HBw.out.cell (p := ⟨G, z, none⟩) (Tx.cell_lt hcz)).trans hcz
      generalize bl[z] = bz at e3 HT2
      have i1 : (0 : Int) ≤ (q : Int) := by omega
      have i2 : (q : Int) < (kn : Int) := by omega
      have i3 : (0 : Int) ≤ (z : Int) := by omega
      have i4 : (z : Int) < (N : Int) := by omega
      clear hc2 hkq hgd hcz
      generalize hL : heavyF bl (kids.take q) = L at HO HT2 hle ⊢
      clear hL
      cases bz with
      | true =>
        go_wp2_with fail
        go_roundw
        case rel => exact ⟨q + 1, by omega, by go_num, Lib.hid (by rw [HT2.out, if_pos rfl, List.append_nil]; exact HO.out), HBw⟩
        case measure => simp [intOf]; omega
      | false =>
        have hle2 : L.length ≤ 1000000 := by omega
        go_wp2_with (at_builtin; refine app_one rfl Try.underlying22 info_intH rfl (by omega) (.tmp 22) (.tmp 24) rfl w.heap.size L.length (intsV L) (.int .i64 (z : Int)) rfl _ _ rfl HO.out rfl rfl (by omega) hsz ?_; intro v4 w4 ho4 hb4 _; have HO4 := Lib.hid ho4; have HB4 := Lib.hid (HBw.out.trans hb4); clear ho4 hb4)
        go_roundw
        case rel => exact ⟨q + 1, by omega, by go_num, Lib.hid (by rw [HT2.out, if_neg (by decide), intsV_end, List.length_append, List.length_singleton]; exact HO4.out), HB4⟩
        case measure => simp [intOf]; omega
    · obtain rfl : q = kn := by omega
      have hd : decide (q < q) = false := by simp only [decide_eq_false_iff_not]; omega
      have HTk : Hid (kids.take q = kids) := Lib.hid (List.take_of_length_le (by rw [HKn.out]; omega))
      go_wp2_with fail
      go_ret
      exact ⟨_, rfl, by have h := HO.out; rw [HTk.out] at h ⊢; exact h, HBw.out⟩
set_option maxRecDepth 100000 in
theorem split_any {w : World} {base rb : Nat} {vn vp vb : Value} {ss : List St} (h : Bld w base rb vn vp vb ss) (a b : Int) (hl : ss.length ≤ 1000000) :
    Calls Try.prog 55 #[.pointer (some ⟨rb, 0, none⟩), .int .i64 a, .int .i64 b] w fun en w' => en = .returned (.int .i64 (ss.length : Int)) ∧ Bld w' base rb vn vp vb (ss ++ [⟨1, noSet, a, b⟩]) ∧ Chg base rb w w' := by
  have HA := Lib.hid (add_any h ⟨1, noSet, a, b⟩ hl)
  unfold stV at HA
  simp only [show ∀ j, word noSet j = 0 from fun j => word_none j] at HA
  clear h
  go_enter Try.func55, Try.ntmps55
  go_wp2_with fail
  refine HA.out.mono ?_
  rintro e w2 ⟨rfl, q1, q2⟩
  have Q := Lib.hid (And.intro q1 q2)
  clear q1 q2
  go_wp2_with fail
  go_ret
  exact ⟨rfl, Q.out⟩
end Au
end
section
open Go.RowKit
namespace Au
open Cm Rx
theorem info_bool : (Try.prog.info? 4).map (fun i => (i.zero, i.size, i.bytes)) = some (some (.bool false), 1, 1) := by kernel_rfl
theorem info_ints : (Try.prog.info? 22).map (fun i => (i.zero, i.size, i.bytes)) = some (some (.slice none 0 0), 1, 24) := by kernel_rfl
theorem make_bools (n : Nat) (hn : n ≤ 1000000) (W : World) : (Instr.makeSlice 42 (.int .i64 (n : Int)) (.int .i64 (n : Int))).run Try.prog W = .ok (.slice (some ⟨W.heap.size, 0, none⟩) n n) (W.alloc (.cells (madeCells #[.bool false] n) 4)) := by
  obtain ⟨i0, hi, hz, h1, h2⟩ := info_parts info_bool
  have h := run_make (w := W) (P := Try.prog) 42 4 i0 _ Try.underlying42 hi hz .i64 .i64 (n : Int) (n : Int) (by omega) (Int.le_refl _) (by rw [h2]; omega) (by omega)
  rw [h1, Nat.mul_one, Int.toNat_natCast] at h
  exact h
theorem make_lists (n : Nat) (hn : n ≤ 1000000) (W : World) : (Instr.makeSlice 73 (.int .i64 (n : Int)) (.int .i64 (n : Int))).run Try.prog W = .ok (.slice (some ⟨W.heap.size, 0, none⟩) n n) (W.alloc (.cells (madeCells #[.slice none 0 0] n) 22)) := by
  obtain ⟨i0, hi, hz, h1, h2⟩ := info_parts info_ints
  have h := run_make (w := W) (P := Try.prog) 73 22 i0 _ Try.underlying73 hi hz .i64 .i64 (n : Int) (n : Int) (by omega) (Int.le_refl _) (by rw [h2]; omega) (by omega)
  rw [h1, Nat.mul_one, Int.toNat_natCast] at h
  exact h
/-- Is a node blank, if those before it are as bl says? -/
def blankN (bl : List Bool) (n : Nd) : Bool :=
  if n.kind = 4 then decide ((heavyF bl n.kids).length = 0) else if n.kind = 6 then (n.mn == n.mx) && ((n.mn == 0) || bl.getD (n.kids.headD 0).toNat false) else false
def blanksF (ns : List Nd) : List Bool := ns.foldl (fun bl n => bl ++ [blankN bl n]) []
def partN (bl : List Bool) (n : Nd) : List Int := if n.kind = 4 then heavyF bl n.kids else []
theorem blanks_take {ns : List Nd} {j : Nat} (h : j < ns.length) : blanksF (ns.take (j + 1)) = blanksF (ns.take j) ++ [blankN (blanksF (ns.take j)) ns[j]] := by
  unfold blanksF
  rw [List.take_succ_eq_append_getElem h, List.foldl_append]; rfl
theorem blanks_len (ns : List Nd) : (blanksF ns).length = ns.length := by
  suffices h : ∀ (ns : List Nd) (bl : List Bool), (ns.foldl (fun bl n => bl ++ [blankN bl n]) bl).length = bl.length + ns.length by
    have := h ns []; simpa [blanksF] using this
  intro ns
  induction ns with
  | nil => intro bl; rfl
  | cons n r ih => intro bl; rw [List.foldl_cons, ih]; simp; omega
theorem getB_snoc (l : List Bool) (x : Bool) (i : Nat) : (l ++ [x]).getD i false = if i = l.length then x else l.getD i false := by
  rw [List.getD_eq_getElem?_getD, List.getD_eq_getElem?_getD]
  by_cases h : i = l.length
  · subst h; rw [if_pos rfl]; simp
  · rw [if_neg h]
    rcases Nat.lt_or_ge i l.length with h2 | h2
    · rw [List.getElem?_append_left h2]
    · rw [List.getElem?_eq_none (by simp; omega), List.getElem?_eq_none h2]
theorem rowIs_out {w : World} {b n i : Nat} {t : TypeId} {f : Nat → Value} (h : w.rowIs b t n f) (hi : n ≤ i) : w.cell? ⟨b, i, none⟩ = none := by
  obtain ⟨cs, h1, h2, _⟩ := h
  simp [World.cell?, h1, Array.getElem?_eq_none (by omega : cs.size ≤ i)]
abbrev rowB (bl : List Bool) : Nat → Value := fun i => .bool (bl.getD i false)
/-- The builder before its node j. -/
def NbS (w wr : World) (B G P : Nat) (vl : Value) (n j : Nat) (ns : List Nd) : Prop :=
  Below w.heap.size w wr ∧ (w.heap.size ≤ B ∧ w.heap.size ≤ G ∧ w.heap.size ≤ P ∧ B ≠ G ∧ B ≠ P ∧ G ≠ P) ∧ wr.heap[B]? = some (.cells #[vl, .slice (some ⟨P, 0, none⟩) n n, .slice (some ⟨G, 0, none⟩) n n, .slice none 0 0] tBd (0, 0)) ∧
    wr.rowIs G 4 n (rowB (blanksF (ns.take j))) ∧ ∃ pv : Nat → Value, wr.rowIs P 22 n pv ∧ (∀ i (h : i < ns.length), i < j → RdV wr (pv i) (intsV (partN (blanksF (ns.take i)) ns[i]))) ∧ ∀ i, j ≤ i → pv i = .slice none 0 0
theorem NbS.below {w wr w2 : World} {B G P n j : Nat} {vl : Value} {ns : List Nd} (h : NbS w wr B G P vl n j ns) (hb : Below wr.heap.size wr w2) : NbS w w2 B G P vl n j ns := by
  obtain ⟨h1, h2, h3, h4, pv, h5, h6, h7⟩ := h
  exact ⟨h1.trans (hb.mono h1.size), h2, (hb.block B (lt_some h3)).trans h3, h4.of_block (hb.block G h4.lt), pv, h5.of_block (hb.block P h5.lt), fun i hi hij => (h6 i hi hij).below hb, h7⟩
/-- A node that is neither a list nor a repetition. -/
theorem NbS.skip {w wr : World} {B G P n j : Nat} {vl : Value} {ns : List Nd} (h : NbS w wr B G P vl n j ns) (hj : j < ns.length) (hl : (blanksF (ns.take j)).length = j) (h4 : ns[j].kind ≠ 4) (h6 : ns[j].kind ≠ 6) : NbS w wr B G P vl n (j + 1) ns := by
  obtain ⟨a1, a2, a3, a4, pv, a5, a6, a7⟩ := h
  have hb : blankN (blanksF (ns.take j)) ns[j] = false := by unfold blankN; rw [if_neg h4, if_neg h6]
  have hp : partN (blanksF (ns.take j)) ns[j] = [] := by unfold partN; rw [if_neg h4]
  refine ⟨a1, a2, a3, a4.congr (fun i _ => ?_), pv, a5, fun i hi hij => ?_, fun i hi => a7 i (by omega)⟩
  · show Value.bool _ = Value.bool _
    rw [blanks_take hj, hb, getB_snoc, hl]
    by_cases e : i = j
    · rw [if_pos e, e, List.getD_eq_getElem?_getD, List.getElem?_eq_none (by omega)]; rfl
    · rw [if_neg e]
  · by_cases e : i = j
    · subst e
      rw [a7 i (Nat.le_refl _), hp]
      exact RdV.nil _
    · exact a6 i hi (by omega)
/-- A list of ints stays while a cell of a row of bools is written. -/
theorem rd_other {w : World} {G n j : Nat} {bl : List Bool} {v u : Value} {us : List Int} (hG : w.rowIs G 4 n (rowB bl)) (h : RdV w u (intsV us)) : RdV (w.setCell ⟨G, j, none⟩ v) u (intsV us) := by
  obtain ⟨A, c, rfl, hc, hA⟩ := h
  refine ⟨A, c, rfl, hc, fun hp => ?_⟩
  obtain ⟨b, off, rfl, hcell⟩ := hA hp
  refine ⟨b, off, rfl, fun k hk => ?_⟩
  have hne : b ≠ G := by
    rintro rfl
    have h0 := hcell 0 hp
    have h1 : (intsV us)[0] = .int .i64 (us[0]'(by rw [intsV_len] at hp; exact hp)) := by simp [intsV]
    rw [h1] at h0
    by_cases hn : off + 0 < n
    · rw [hG.cell hn] at h0
      cases h0
    · rw [rowIs_out hG (by omega)] at h0
      cases h0
  rw [World.cell?_of_block (Below.heap_setCell _ _ _ _ hne)]
  exact hcell k hk
/-- The builder with the parts of its node j, and without its blank. -/
def NbM (w wr : World) (B G P : Nat) (vl : Value) (n j : Nat) (ns : List Nd) : Prop :=
  Below w.heap.size w wr ∧ (w.heap.size ≤ B ∧ w.heap.size ≤ G ∧ w.heap.size ≤ P ∧ B ≠ G ∧ B ≠ P ∧ G ≠ P) ∧ wr.heap[B]? = some (.cells #[vl, .slice (some ⟨P, 0, none⟩) n n, .slice (some ⟨G, 0, none⟩) n n, .slice none 0 0] tBd (0, 0)) ∧
      wr.rowIs G 4 n (rowB (blanksF (ns.take j))) ∧ ∃ pv : Nat → Value, wr.rowIs P 22 n pv ∧ (∀ i (h : i < ns.length), i < j + 1 → RdV wr (pv i) (intsV (partN (blanksF (ns.take i)) ns[i]))) ∧ ∀ i, j + 1 ≤ i → pv i = .slice none 0 0
theorem rd_otherP {w : World} {P n j : Nat} {pv : Nat → Value} {v u : Value} {us : List Int} (hP : w.rowIs P 22 n pv) (hpv : ∀ i z, pv i ≠ .int .i64 z) (h : RdV w u (intsV us)) : RdV (w.setCell ⟨P, j, none⟩ v) u (intsV us) := by
  obtain ⟨A, c, rfl, hc, hA⟩ := h
  refine ⟨A, c, rfl, hc, fun hp => ?_⟩
  obtain ⟨b, off, rfl, hcell⟩ := hA hp
  refine ⟨b, off, rfl, fun k hk => ?_⟩
  have hne : b ≠ P := by
    rintro rfl
    have h0 := hcell 0 hp
    have h1 : (intsV us)[0] = .int .i64 (us[0]'(by rw [intsV_len] at hp; exact hp)) := by simp [intsV]
    rw [h1] at h0
    by_cases hn : off + 0 < n
    · rw [hP.cell hn] at h0
      exact hpv _ _ (Option.some.inj h0)
    · rw [rowIs_out hP (by omega)] at h0
      cases h0
  rw [World.cell?_of_block (Below.heap_setCell _ _ _ _ hne)]
  exact hcell k hk
/-- A node's parts are written. -/
theorem NbS.part {w wr : World} {B G P n j base L c : Nat} {A : Option Addr} {vl : Value} {ns : List Nd} (h : NbS w wr B G P vl n j ns) (hj : j < ns.length) (hv : wr.ownsRow base tInt 1 (.slice A L c) L (intsV (partN (blanksF (ns.take j)) ns[j]))) :
    NbM w (wr.setCell ⟨P, j, none⟩ (.slice A L c)) B G P vl n j ns := by
  obtain ⟨a1, a2, a3, a4, pv, a5, a6, a7⟩ := h
  have hpv : ∀ i, i < ns.length → ∀ z, pv i ≠ .int .i64 z := fun i hi z e => by
    by_cases hij : i < j
    · obtain ⟨A', c', e2, _⟩ := a6 i hi hij
      rw [e] at e2; cases e2
    · rw [a7 i (by omega)] at e; cases e
  have hpv2 : ∀ i z, pv i ≠ .int .i64 z := fun i z e => by
    by_cases hi : i < ns.length
    · exact hpv i hi z e
    · rw [a7 i (by omega)] at e; cases e
  have hne : (Value.slice A L c).ownBlock ≠ some P := by
    rcases hv.2 with ⟨e1, _⟩ | ⟨g, cap, cur, e1, _, hh, _⟩
    · rw [e1]; simp [Value.ownBlock]
    · rw [e1]
      intro e2
      have : g = P := by simpa [Value.ownBlock] using e2
      subst this
      obtain ⟨cs, h1, _⟩ := a5
      rw [h1] at hh
      injection hh with hh
      injection hh with _ ht
      exact absurd ht (by decide)
  refine ⟨a1.setCell (p := ⟨P, j, none⟩) a2.2.2.1 _, a2, (Below.heap_setCell _ _ _ _ a2.2.2.2.2.1).trans a3, a4.setOther (a := ⟨P, j, none⟩) a2.2.2.2.2.2 _, _, a5.set j _, fun i hi hij => ?_, fun i hi => ?_⟩
  · by_cases e : i = j
    · subst e
      simp only [if_true]
      exact RdV.of_own (ownsRow_setCell_other (a := ⟨P, i, none⟩) hv hne _)
    · simp only [if_neg e]
      exact rd_otherP a5 hpv2 (a6 i hi (by omega))
  · simp only [if_neg (show ¬ i = j by omega)]
    exact a7 i (by omega)
/-- A node's blank cell is written. -/
theorem NbM.mark {w wr : World} {B G P n j : Nat} {vl : Value} {ns : List Nd} {x : Bool} (h : NbM w wr B G P vl n j ns)
    (hj : j < ns.length) (hl : (blanksF (ns.take j)).length = j) (hx : blankN (blanksF (ns.take j)) ns[j] = x) : NbS w (wr.setCell ⟨G, j, none⟩ (.bool x)) B G P vl n (j + 1) ns := by
  obtain ⟨a1, a2, a3, a4, pv, a5, a6, a7⟩ := h
  refine ⟨a1.setCell (p := ⟨G, j, none⟩) a2.2.1 _, a2, (Below.heap_setCell _ _ _ _ a2.2.2.2.1).trans a3, (a4.set j _).congr (fun i _ => ?_), pv, a5.setOther (a := ⟨G, j, none⟩) (fun e => a2.2.2.2.2.2 e.symm) _, fun i hi hij => rd_other a4 (a6 i hi hij), a7⟩
  show (if i = j then Value.bool x else Value.bool _) = Value.bool _
  rw [blanks_take hj, hx, getB_snoc, hl]
  by_cases e : i = j
  · rw [if_pos e, if_pos e]
  · rw [if_neg e, if_neg e]
end Au
end
section
open Go.RowKit
namespace Au
open Cm Rx
abbrev objP (n : Nat) : Obj := .cells (madeCells #[.slice none 0 0] n) 22
abbrev objG (n : Nat) : Obj := .cells (madeCells #[.bool false] n) 4
theorem row_nil (n : Nat) {w : World} {G : Nat} (ns : List Nd) (h : w.rowIs G 4 n (fun _ => .bool false)) : w.rowIs G 4 n (rowB (blanksF (ns.take 0))) := h.congr (fun i _ => by rw [List.take_zero]; rfl)
theorem start1 {w : World} {n : Nat} {vl : Value} {ns : List Nd} : NbS w (((w.drew.alloc (objP n)).alloc (objG n)).alloc (.cells #[vl, .slice (some ⟨w.heap.size, 0, none⟩) n n, .slice (some ⟨w.heap.size + 1, 0, none⟩) n n, .slice none 0 0] tBd)) (w.heap.size + 1 + 1) (w.heap.size + 1) w.heap.size vl n 0 ns := by
  have s1 : (w.drew.alloc (objP n)).heap.size = w.heap.size + 1 := by simp
  have s2 : ((w.drew.alloc (objP n)).alloc (objG n)).heap.size = w.heap.size + 1 + 1 := by simp
  have hP := World.rowIs_made w.drew (.slice none 0 0) n 22
  have hG := World.rowIs_made (w.drew.alloc (objP n)) (.bool false) n 4
  rw [s1] at hG
  refine ⟨((((Below.refl w.heap.size w).drew).alloc (Nat.le_refl _) _).alloc (by simp) _).alloc (by simp; omega) _, ⟨by omega, by omega, Nat.le_refl _, by omega, by omega, by omega⟩, ?_, row_nil n ns (hG.alloc _), fun _ => .slice none 0 0, (hP.alloc _).alloc _, fun i _ hi => absurd hi (Nat.not_lt_zero _), fun _ _ => rfl⟩
  have h := heap_new ((w.drew.alloc (objP n)).alloc (objG n)) (.cells #[vl, .slice (some ⟨w.heap.size, 0, none⟩) n n, .slice (some ⟨w.heap.size + 1, 0, none⟩) n n, .slice none 0 0] tBd)
  rwa [s2] at h
theorem start2 {w : World} {n : Nat} {vl : Value} {ns : List Nd} : NbS w (((w.drew.alloc (objG n)).alloc (objP n)).alloc (.cells #[vl, .slice (some ⟨w.heap.size + 1, 0, none⟩) n n, .slice (some ⟨w.heap.size, 0, none⟩) n n, .slice none 0 0] tBd)) (w.heap.size + 1 + 1) w.heap.size (w.heap.size + 1) vl n 0 ns := by
  have s1 : (w.drew.alloc (objG n)).heap.size = w.heap.size + 1 := by simp
  have s2 : ((w.drew.alloc (objG n)).alloc (objP n)).heap.size = w.heap.size + 1 + 1 := by simp
  have hG := World.rowIs_made w.drew (.bool false) n 4
  have hP := World.rowIs_made (w.drew.alloc (objG n)) (.slice none 0 0) n 22
  rw [s1] at hP
  refine ⟨((((Below.refl w.heap.size w).drew).alloc (Nat.le_refl _) _).alloc (by simp) _).alloc (by simp; omega) _, ⟨by omega, Nat.le_refl _, by omega, by omega, by omega, by omega⟩, ?_, row_nil n ns ((hG.alloc _).alloc _), fun _ => .slice none 0 0, hP.alloc _, fun i _ hi => absurd hi (Nat.not_lt_zero _), fun _ _ => rfl⟩
  have h := heap_new ((w.drew.alloc (objG n)).alloc (objP n)) (.cells #[vl, .slice (some ⟨w.heap.size + 1, 0, none⟩) n n, .slice (some ⟨w.heap.size, 0, none⟩) n n, .slice none 0 0] tBd)
  rwa [s2] at h
theorem headD_get {l : List Int} (h : 0 < l.length) : l.headD 0 = l[0] := by
  cases l with
  | nil => cases h
  | cons a r => rfl
theorem NbS.nopart {w wr : World} {B G P n j : Nat} {vl : Value} {ns : List Nd} (h : NbS w wr B G P vl n j ns) (hj : j < ns.length) (h4 : ns[j].kind ≠ 4) : NbM w wr B G P vl n j ns := by
  obtain ⟨a1, a2, a3, a4, pv, a5, a6, a7⟩ := h
  refine ⟨a1, a2, a3, a4, pv, a5, fun i hi hij => ?_, fun i hi => a7 i (by omega)⟩
  by_cases e : i = j
  · subst e
    have hp : partN (blanksF (ns.take i)) ns[i] = [] := by unfold partN; rw [if_neg h4]
    rw [a7 i (Nat.le_refl _), hp]
    exact RdV.nil _
  · exact a6 i hi (by omega)
set_option maxRecDepth 100000 in
set_option maxHeartbeats 4000000 in
theorem new_any (A : Option Addr) (c : Nat) (ns : List Nd) (w : World) (h : RdN w (.slice A ns.length c) ns) (hv : Valid ns) (hk : ∀ n ∈ ns, n.kids.length ≤ 1000000) :
    Calls Try.prog 24 #[.slice A ns.length c] w fun e w' => ∃ B G P, e = .returned (.pointer (some ⟨B, 0, none⟩)) ∧ NbS w w' B G P (.slice A ns.length c) ns.length ns.length ns := by
  obtain ⟨A', c', e, hA⟩ := h
  cases e
  obtain ⟨_, h4000, hno⟩ := hv
  have HA := Lib.hid hA
  have HK := Lib.hid hk
  have HOk := Lib.hid hno
  have HBl : Hid (∀ j, j ≤ ns.length → (blanksF (ns.take j)).length = j) := Lib.hid (fun j hj => by rw [blanks_len, List.length_take]; omega)
  clear hA hk hno
  obtain ⟨n, hn⟩ : ∃ n, n = ns.length := ⟨_, rfl⟩
  have HN := Lib.hid hn.symm
  rw [← hn] at h4000 ⊢
  clear hn
  have b1 : (n : Int) ≤ 4000 := by omega
  have b0 : (0 : Int) ≤ (n : Int) := by omega
  have hm1 := make_bools n (by omega)
  have hm2 := make_lists n (by omega)
  go_enter Try.func24, Try.ntmps24
  go_upto_region 1 with fail
  go_cut [3] from 6 (fun p wx => ∃ B G P, p = .pointer (some ⟨B, 0, none⟩) ∧ Hid (NbS w wx B G P (.slice A n c) n 0 ns))
  case first =>
    go_region
    all_goals
      go_wp2_with fail
      go_meet
      case rel => first | exact ⟨_, _, _, rfl, Lib.hid start1⟩ | exact ⟨_, _, _, rfl, Lib.hid start2⟩
  case rest =>
    obtain ⟨B, G, P, rfl, HS⟩ := hcut
    clear hm1 hm2
    go_wp2_with fail
    go_loopw [17] (fun i wr => ∃ j : Nat, j ≤ n ∧ i = .int .i64 (j : Int) ∧ Hid (NbS w wr B G P (.slice A n c) n j ns)) (fun i _ => n - (intOf i).toNat)
    case atStart => exact ⟨0, Nat.zero_le _, by go_num, HS⟩
    case round =>
      obtain ⟨j, hj, rfl, HJ⟩ := hrel
      by_cases hlt : j < n
      · have hx : j < ns.length := by rw [HN.out]; exact hlt
        obtain ⟨b, off, rfl, hA1⟩ := HA.out (by rw [HN.out]; omega)
        have hat := (hA1 j hx).below HJ.out.1
        have HBj := Lib.hid (HBl.out j (by rw [HN.out]; omega))
        have HSk := Lib.hid (fun (h4 : ns[j].kind ≠ 4) (h6 : ns[j].kind ≠ 6) (o : Obj) => (HJ.out.below ((Below.refl _ _).alloc (Nat.le_refl _) o)).skip hx HBj.out h4 h6)
        have hok := HOk.out j hx
        have hkl := HK.out _ (List.getElem_mem hx)
        clear hA1
        generalize hnd : ns[j] = nd at hat HSk hok hkl
        have HNd := Lib.hid hnd
        clear hnd
        obtain ⟨kv, p0, p1, p2, p3, p4, p5, p6, p7, rk⟩ := hat
        generalize word nd.set 0 = x0 at p1
        generalize word nd.set 1 = x1 at p2
        generalize word nd.set 2 = x2 at p3
        generalize word nd.set 3 = x3 at p4
        obtain ⟨Ak, ck, hke⟩ := rk.form
        rw [intsV_len] at hke
        subst hke
        have HRk := Lib.hid rk
        generalize hkn : nd.kids.length = kn at p7 hkl HRk
        have i1 : (0 : Int) ≤ (j : Int) := by omega
        have i2 : (j : Int) < (n : Int) := by omega
        by_cases k4 : nd.kind = 4
        · have HPart : Hid (partN (blanksF (ns.take j)) nd = heavyF (blanksF (ns.take j)) nd.kids) := Lib.hid (by unfold partN; rw [if_pos k4])
          have HBk : Hid (blankN (blanksF (ns.take j)) nd = decide ((heavyF (blanksF (ns.take j)) nd.kids).length = 0)) := Lib.hid (by unfold blankN; rw [if_pos k4])
          have HHv := Lib.hid (fun W (hb : Below wr.heap.size wr W) => heavy_any (HJ.out.below hb).2.2.1 hkn (HRk.out.below hb) hkl (by rw [HBj.out]; omega) (fun k hk => by rw [HBj.out]; exact hok.1 k hk) (fun i hi => by
            have h1 := (HJ.out.below hb).2.2.2.1.cell (i := i) (by rw [HBj.out] at hi; omega)
            rw [h1]
            show some (Value.bool ((blanksF (ns.take j)).getD i false)) = _
            rw [List.getD_eq_getElem?_getD, List.getElem?_eq_getElem hi]; rfl))
          have e4 : (nd.kind == 4) = true := by rw [k4]; rfl
          have e6 : (nd.kind == 6) = false := by rw [k4]; rfl
          clear rk hok hkn k4 hkl
          generalize heavyF (blanksF (ns.take j)) nd.kids = hv at HPart HBk HHv
          go_upto_region 7 with fail
          have HB1 : Hid (Below wr.heap.size wr (wr.alloc (Obj.cells #[Value.int .i64 nd.kind, .int .u64 x0, .int .u64 x1, .int .u64 x2, .int .u64 x3, .int .i64 nd.mn, .int .i64 nd.mx, .slice Ak kn ck] tNode))) := Lib.hid ((Below.refl _ _).alloc (Nat.le_refl _) _)
          have HN1 := Lib.hid (HJ.out.below HB1.out)
          have HK1 : Hid ((wr.alloc (Obj.cells #[Value.int .i64 nd.kind, .int .u64 x0, .int .u64 x1, .int .u64 x2, .int .u64 x3, .int .i64 nd.mn, .int .i64 nd.mx, .slice Ak kn ck] tNode)).cell? ⟨wr.heap.size, 7, none⟩ = some (.slice Ak kn ck)) := Lib.hid (by rw [World.cell?_alloc_mark]; rfl)
          generalize wr.alloc (Obj.cells #[Value.int .i64 nd.kind, .int .u64 x0, .int .u64 x1, .int .u64 x2, .int .u64 x3, .int .i64 nd.mn, .int .i64 nd.mx, .slice Ak kn ck] tNode) = W at HB1 HN1 HK1 ⊢
          have HHv1 := Lib.hid (HHv.out W.drew HB1.out.drew)
          have hPH : wr.heap.size ≠ P := by
            obtain ⟨_, _, _, _, _, a5, _⟩ := HJ.out
            have := a5.lt
            omega
          have hBP : B ≠ P := HJ.out.2.1.2.2.2.2.1
          have HNe := Lib.hid (And.intro hBP hPH)
          clear hBP hPH
          generalize wr.heap.size = H at HK1 HNe ⊢
          have HS1 : Hid (W.cell? ⟨B, 1, none⟩ = some (.slice (some ⟨P, 0, none⟩) n n) ∧ W.cell? ⟨H, 7, none⟩ = some (.slice Ak kn ck)) := Lib.hid ⟨(bld_cells HN1.out.2.2.1).2.1, HK1.out⟩
          clear HB1 HK1 HHv
          go_region_held3 (fun V => V.cell? ⟨B, 1, none⟩ = some (.slice (some ⟨P, 0, none⟩) n n) ∧ V.cell? ⟨H, 7, none⟩ = some (.slice Ak kn ck)) (first | exact HS6.out | exact HS1.out | exact HS7.out _) (first | (go_at_call 37; refine HHv1.out.mono ?_; rintro e w6 ⟨v6, rfl, ho6, B6⟩; obtain ⟨Av, cv, rfl⟩ := own_form ho6; have HO6 := Lib.hid ho6; have HS6 : Hid (w6.cell? ⟨B, 1, none⟩ = some (.slice (some ⟨P, 0, none⟩) n n) ∧ w6.cell? ⟨H, 7, none⟩ = some (.slice Ak kn ck)) := Lib.hid ⟨(B6.cell (p := ⟨B, 1, none⟩) (Tx.cell_lt HS1.out.1)).trans HS1.out.1, (B6.cell (p := ⟨H, 7, none⟩) (Tx.cell_lt HS1.out.2)).trans HS1.out.2⟩; have HS7 : Hid (∀ u, (w6.setCell ⟨P, j, none⟩ u).cell? ⟨B, 1, none⟩ = some (.slice (some ⟨P, 0, none⟩) n n) ∧ (w6.setCell ⟨P, j, none⟩ u).cell? ⟨H, 7, none⟩ = some (.slice Ak kn ck)) := Lib.hid (fun u => ⟨(World.cell?_of_block (Below.heap_setCell _ _ _ _ HNe.out.1)).trans HS6.out.1, (World.cell?_of_block (Below.heap_setCell _ _ _ _ HNe.out.2)).trans HS6.out.2⟩); have HN6 := Lib.hid (HN1.out.below ((Below.refl W.heap.size W).drew.trans B6)); have hn6 := HN6.out; obtain ⟨_, _, _, _, pv6, hr6, _, _⟩ := hn6; have c6 := hr6.cell (i := j) hlt; have f6 := hr6.frozen j; have HP6 := Lib.hid hr6; clear hr6 ho6 B6))
          all_goals
            go_upto_region 8 with fail
            have HM := Lib.hid (HN6.out.part (A := Av) (L := hv.length) (c := cv) (base := W.drew.heap.size) hx (by rw [HNd.out, HPart.out]; exact HO6.out))
            have q3 := (HP6.out.set j (.slice Av hv.length cv)).cell (i := j) hlt
            simp only [if_true] at q3
            clear c6 f6
            generalize w6.setCell ⟨P, j, none⟩ (.slice Av hv.length cv) = w7 at HM q3 ⊢
            have hm := HM.out
            obtain ⟨_, _, hm3, hm4, _⟩ := hm
            obtain ⟨_, q1, q2, _, _⟩ := bld_cells hm3
            have q4 := hm4.cell (i := j) hlt
            have f4 := hm4.frozen j
            have HMk := Lib.hid (fun x (hx2 : blankN (blanksF (ns.take j)) ns[j] = x) => NbM.mark (wr := w7.drew) (x := x) ⟨HM.out.1.drew, HM.out.2⟩ hx HBj.out hx2)
            clear hm3 hm4
            have HX : Hid (blankN (blanksF (ns.take j)) ns[j] = ((hv.length : Int) == 0)) := Lib.hid (by
              rw [HNd.out, HBk.out, Bool.eq_iff_iff, decide_eq_true_eq, beq_iff_eq]; omega)
            have HEnd := Lib.hid (HMk.out _ HX.out)
            clear HMk
            go_still_tail 15, (by kernel_rfl)
            change wpList _ _ _ _ _ w7.drew
            go_wp2_with fail
            go_roundw
            case rel => exact ⟨j + 1, by omega, by go_num, HEnd⟩
            case measure => simp [intOf]; omega
        have e4 : (nd.kind == 4) = false := by rw [beq_eq_false_iff_ne]; exact k4
        by_cases k6 : nd.kind = 6
        · have hfi := (fine_iff nd).1 hok.2
          unfold FineP at hfi
          obtain rfl : kn = 1 := by omega
          have hkp : 0 < nd.kids.length := by omega
          have hk0 := hok.1 _ (List.getElem_mem hkp)
          obtain ⟨hl1, b2, o2, e2, hkc⟩ := HRk.out.at (by rw [intsV_len]; omega)
          clear hl1
          have hkc0 := hkc 0 (by rw [intsV_len]; omega)
          have hkv : (intsV nd.kids)[0]'(by rw [intsV_len]; omega) = .int .i64 nd.kids[0] := by simp [intsV]
          rw [hkv] at hkc0
          subst e2
          have hhd : nd.kids.headD 0 = nd.kids[0] := headD_get hkp
          have HBk : Hid (blankN (blanksF (ns.take j)) nd = ((nd.mn == nd.mx) && ((nd.mn == 0) || (blanksF (ns.take j)).getD (nd.kids[0]).toNat false))) := Lib.hid (by unfold blankN; rw [if_neg k4, if_pos k6, hhd])
          generalize nd.kids[0] = kz at hk0 hkc0 HBk
          obtain ⟨z, rfl⟩ : ∃ z : Nat, kz = (z : Int) := ⟨kz.toNat, by omega⟩
          rw [show ((z : Int)).toNat = z from by omega] at HBk
          have hzj : z < j := by omega
          have HNp := Lib.hid (fun W (hb : Below wr.heap.size wr W) => (HJ.out.below hb).nopart hx (by rw [HNd.out]; exact k4))
          have e6 : (nd.kind == 6) = true := by rw [k6]; rfl
          have hkcl := Tx.cell_lt hkc0
          clear rk hok hkn k4 k6 hkl hfi hkv hhd hkc hkp hk0
          go_upto_region 10 with fail
          have HB1 : Hid (Below wr.heap.size wr (wr.alloc (Obj.cells #[Value.int .i64 nd.kind, .int .u64 x0, .int .u64 x1, .int .u64 x2, .int .u64 x3, .int .i64 nd.mn, .int .i64 nd.mx, .slice (some ⟨b2, o2, none⟩) 1 ck] tNode))) := Lib.hid ((Below.refl _ _).alloc (Nat.le_refl _) _)
          have HM1 := Lib.hid (HNp.out _ HB1.out)
          have m5 : (wr.alloc (Obj.cells #[Value.int .i64 nd.kind, .int .u64 x0, .int .u64 x1, .int .u64 x2, .int .u64 x3, .int .i64 nd.mn, .int .i64 nd.mx, .slice (some ⟨b2, o2, none⟩) 1 ck] tNode)).cell? ⟨wr.heap.size, 5, none⟩ = some (.int .i64 nd.mn) := by rw [World.cell?_alloc_mark]; rfl
          have m6 : (wr.alloc (Obj.cells #[Value.int .i64 nd.kind, .int .u64 x0, .int .u64 x1, .int .u64 x2, .int .u64 x3, .int .i64 nd.mn, .int .i64 nd.mx, .slice (some ⟨b2, o2, none⟩) 1 ck] tNode)).cell? ⟨wr.heap.size, 6, none⟩ = some (.int .i64 nd.mx) := by rw [World.cell?_alloc_mark]; rfl
          have m7 : (wr.alloc (Obj.cells #[Value.int .i64 nd.kind, .int .u64 x0, .int .u64 x1, .int .u64 x2, .int .u64 x3, .int .i64 nd.mn, .int .i64 nd.mx, .slice (some ⟨b2, o2, none⟩) 1 ck] tNode)).cell? ⟨wr.heap.size, 7, none⟩ = some (.slice (some ⟨b2, o2, none⟩) 1 ck) := by rw [World.cell?_alloc_mark]; rfl
          have mk : (wr.alloc (Obj.cells #[Value.int .i64 nd.kind, .int .u64 x0, .int .u64 x1, .int .u64 x2, .int .u64 x3, .int .i64 nd.mn, .int .i64 nd.mx, .slice (some ⟨b2, o2, none⟩) 1 ck] tNode)).cell? ⟨b2, o2, none⟩ = some (.int .i64 (z : Int)) := (HB1.out.cell (p := ⟨b2, o2, none⟩) hkcl).trans hkc0
          generalize wr.alloc (Obj.cells #[Value.int .i64 nd.kind, .int .u64 x0, .int .u64 x1, .int .u64 x2, .int .u64 x3, .int .i64 nd.mn, .int .i64 nd.mx, .slice (some ⟨b2, o2, none⟩) 1 ck] tNode) = W at HB1 HM1 m5 m6 m7 mk ⊢
          have hGH : wr.heap.size ≠ G := by
            obtain ⟨_, _, _, a4, _⟩ := HJ.out
            have := a4.lt
            omega
          have hBG : B ≠ G := HJ.out.2.1.2.2.2.1
          have HNe := Lib.hid (And.intro hBG hGH)
          clear hGH hBG
          generalize wr.heap.size = H at m5 m6 m7 HNe ⊢
          have hm := HM1.out
          obtain ⟨_, _, hm3, hm4, _⟩ := hm
          obtain ⟨_, _, q2, _, _⟩ := bld_cells hm3
          have q4 := hm4.cell (i := j) hlt
          have f4 := hm4.frozen j
          have qz := hm4.cell (i := z) (by omega)
          have HMk := Lib.hid (fun x (hx2 : blankN (blanksF (ns.take j)) ns[j] = x) => NbM.mark (wr := W.drew) (x := x) ⟨HM1.out.1.drew, HM1.out.2⟩ hx HBj.out hx2)
          have z0 : (0 : Int) ≤ (z : Int) := by omega
          have z1 : (z : Int) < (n : Int) := by omega
          clear hm3 hm4 hkc0 HNp HB1 p0 p1 p2 p3 p4 p5 p6 p7
          by_cases hmm : nd.mn = nd.mx
          · by_cases hm0 : nd.mn = 0
            · have HX : Hid (blankN (blanksF (ns.take j)) ns[j] = true) := Lib.hid (by rw [HNd.out, HBk.out, hmm, ← hmm, hm0]; simp)
              have t1 : (nd.mn == nd.mx) = true := by rw [hmm]; exact beq_self_eq_true _
              have t2 : (nd.mn == 0) = true := by rw [hm0]; rfl
              clear hmm hm0
              have HEnd := Lib.hid (HMk.out _ HX.out)
              clear HMk HX
              have HS7 : Hid (∀ u, (W.setCell ⟨G, j, none⟩ u).cell? ⟨B, 2, none⟩ = some (.slice (some ⟨G, 0, none⟩) n n) ∧ (W.setCell ⟨G, j, none⟩ u).cell? ⟨H, 5, none⟩ = some (.int .i64 nd.mn) ∧ (W.setCell ⟨G, j, none⟩ u).cell? ⟨H, 6, none⟩ = some (.int .i64 nd.mx)) := Lib.hid (fun u => ⟨(World.cell?_of_block (Below.heap_setCell _ _ _ _ HNe.out.1)).trans q2, (World.cell?_of_block (Below.heap_setCell _ _ _ _ HNe.out.2)).trans m5, (World.cell?_of_block (Below.heap_setCell _ _ _ _ HNe.out.2)).trans m6⟩)
              refine wp_region_held_drew (S := fun V => V.cell? ⟨B, 2, none⟩ = some (.slice (some ⟨G, 0, none⟩) n n) ∧ V.cell? ⟨H, 5, none⟩ = some (.int .i64 nd.mn) ∧ V.cell? ⟨H, 6, none⟩ = some (.int .i64 nd.mx)) (by kernel_rfl) ⟨q2, m5, m6⟩ (fun hHeld => ?_)
              refine wpAnyH_take (i := 0) (v := .pointer (some ⟨B, 0, none⟩)) rfl (by kernel_rfl) (by kernel_rfl) (by kernel_rfl) (fun _ _ _ h => h) (Or.inl ⟨by kernel_rfl, ?_⟩) (by assumption) ?_
              · intro V hV
                obtain ⟨h0, h1, h2⟩ := hV
                go_simp
              change wpAnyH _ _ _ _ _ _ _ (Act.put _ (some 53) _) _
              simp only [Act.put, List.setIfInBounds_toArray, List.set_cons_zero, List.set_cons_succ]
              refine wpAnyH_take (i := 1) (v := .pointer (some ⟨B, 0, none⟩)) rfl (by kernel_rfl) (by kernel_rfl) (by kernel_rfl) (fun _ _ _ h => h) (Or.inl ⟨by kernel_rfl, ?_⟩) (by assumption) ?_
              · intro V hV
                obtain ⟨h0, h1, h2⟩ := hV
                go_simp
              change wpAnyH _ _ _ _ _ _ _ (Act.put _ (some 54) _) _
              simp only [Act.put, List.setIfInBounds_toArray, List.set_cons_zero, List.set_cons_succ]
              refine wpAnyH_take (i := 2) (v := .pointer (some ⟨B, 2, none⟩)) rfl (by kernel_rfl) (by kernel_rfl) (by kernel_rfl) (fun _ _ _ h => h) (Or.inl ⟨by kernel_rfl, ?_⟩) (by assumption) ?_
              · intro V hV
                obtain ⟨h0, h1, h2⟩ := hV
                go_simp
              change wpAnyH _ _ _ _ _ _ _ (Act.put _ (some 55) _) _
              simp only [Act.put, List.setIfInBounds_toArray, List.set_cons_zero, List.set_cons_succ]
              refine wpAnyH_take (i := 3) (v := .slice (some ⟨G, 0, none⟩) n n) rfl (by kernel_rfl) (by kernel_rfl) (by kernel_rfl) (fun _ _ _ h => h) (Or.inl ⟨by kernel_rfl, ?_⟩) (by assumption) ?_
              · intro V hV
                obtain ⟨h0, h1, h2⟩ := hV
                go_simp
              change wpAnyH _ _ _ _ _ _ _ (Act.put _ (some 56) _) _
              simp only [Act.put, List.setIfInBounds_toArray, List.set_cons_zero, List.set_cons_succ]
              refine wpAnyH_take (i := 4) (v := .int .i64 (j : Int)) rfl (by kernel_rfl) (by kernel_rfl) (by kernel_rfl) (fun _ _ _ h => h) (Or.inl ⟨by kernel_rfl, ?_⟩) (by assumption) ?_
              · intro V hV
                obtain ⟨h0, h1, h2⟩ := hV
                go_simp
              change wpAnyH _ _ _ _ _ _ _ (Act.put _ (some 57) _) _
              simp only [Act.put, List.setIfInBounds_toArray, List.set_cons_zero, List.set_cons_succ]
              refine wpAnyH_take (i := 5) (v := .pointer (some ⟨H, 5, none⟩)) rfl (by kernel_rfl) (by kernel_rfl) (by kernel_rfl) (fun _ _ _ h => h) (Or.inl ⟨by kernel_rfl, ?_⟩) (by assumption) ?_
              · intro V hV
                obtain ⟨h0, h1, h2⟩ := hV
                go_simp
              change wpAnyH _ _ _ _ _ _ _ (Act.put _ (some 58) _) _
              simp only [Act.put, List.setIfInBounds_toArray, List.set_cons_zero, List.set_cons_succ]
              refine wpAnyH_take (i := 6) (v := .int .i64 nd.mn) rfl (by kernel_rfl) (by kernel_rfl) (by kernel_rfl) (fun _ _ _ h => h) (Or.inl ⟨by kernel_rfl, ?_⟩) (by assumption) ?_
              · intro V hV
                obtain ⟨h0, h1, h2⟩ := hV
                go_simp
              change wpAnyH _ _ _ _ _ _ _ (Act.put _ (some 59) _) _
              simp only [Act.put, List.setIfInBounds_toArray, List.set_cons_zero, List.set_cons_succ]
              refine wpAnyH_take (i := 7) (v := .pointer (some ⟨H, 6, none⟩)) rfl (by kernel_rfl) (by kernel_rfl) (by kernel_rfl) (fun _ _ _ h => h) (Or.inl ⟨by kernel_rfl, ?_⟩) (by assumption) ?_
              · intro V hV
                obtain ⟨h0, h1, h2⟩ := hV
                go_simp
              change wpAnyH _ _ _ _ _ _ _ (Act.put _ (some 60) _) _
              simp only [Act.put, List.setIfInBounds_toArray, List.set_cons_zero, List.set_cons_succ]
              refine wpAnyH_take (i := 8) (v := .int .i64 nd.mx) rfl (by kernel_rfl) (by kernel_rfl) (by kernel_rfl) (fun _ _ _ h => h) (Or.inl ⟨by kernel_rfl, ?_⟩) (by assumption) ?_
              · intro V hV
                obtain ⟨h0, h1, h2⟩ := hV
                go_simp
              change wpAnyH _ _ _ _ _ _ _ (Act.put _ (some 61) _) _
              simp only [Act.put, List.setIfInBounds_toArray, List.set_cons_zero, List.set_cons_succ]
              refine wpAnyH_take (i := 9) (v := .bool true) rfl (by kernel_rfl) (by kernel_rfl) (by kernel_rfl) (fun _ _ _ h => h) (Or.inl ⟨by kernel_rfl, ?_⟩) (by assumption) ?_
              · intro V hV
                obtain ⟨h0, h1, h2⟩ := hV
                go_simp
              change wpAnyH _ _ _ _ _ _ _ (Act.put _ (some 62) _) _
              simp only [Act.put, List.setIfInBounds_toArray, List.set_cons_zero, List.set_cons_succ]
              refine wpAnyH_take (i := 10) (v := .bool true) rfl (by kernel_rfl) (by kernel_rfl) (by kernel_rfl) (fun _ _ _ h => h) (Or.inl ⟨by kernel_rfl, ?_⟩) (by assumption) ?_
              · intro V hV
                obtain ⟨h0, h1, h2⟩ := hV
                go_simp
              change wpAnyH _ _ _ _ _ _ _ (Act.put _ (some 63) _) _
              simp only [Act.put, List.setIfInBounds_toArray, List.set_cons_zero, List.set_cons_succ]
              refine wpAnyH_take (i := 11) (v := .pointer (some ⟨H, 5, none⟩)) rfl (by kernel_rfl) (by kernel_rfl) (by kernel_rfl) (fun _ _ _ h => h) (Or.inl ⟨by kernel_rfl, ?_⟩) (by assumption) ?_
              · intro V hV
                obtain ⟨h0, h1, h2⟩ := hV
                go_simp
              change wpAnyH _ _ _ _ _ _ _ (Act.put _ (some 64) _) _
              simp only [Act.put, List.setIfInBounds_toArray, List.set_cons_zero, List.set_cons_succ]
              refine wpAnyH_take (i := 12) (v := .int .i64 nd.mn) rfl (by kernel_rfl) (by kernel_rfl) (by kernel_rfl) (fun _ _ _ h => h) (Or.inl ⟨by kernel_rfl, ?_⟩) (by assumption) ?_
              · intro V hV
                obtain ⟨h0, h1, h2⟩ := hV
                go_simp
              change wpAnyH _ _ _ _ _ _ _ (Act.put _ (some 65) _) _
              simp only [Act.put, List.setIfInBounds_toArray, List.set_cons_zero, List.set_cons_succ]
              refine wpAnyH_take (i := 13) (v := .bool true) rfl (by kernel_rfl) (by kernel_rfl) (by kernel_rfl) (fun _ _ _ h => h) (Or.inl ⟨by kernel_rfl, ?_⟩) (by assumption) ?_
              · intro V hV
                obtain ⟨h0, h1, h2⟩ := hV
                go_simp
              change wpAnyH _ _ _ _ _ _ _ (Act.put _ (some 66) _) _
              simp only [Act.put, List.setIfInBounds_toArray, List.set_cons_zero, List.set_cons_succ]
              refine wpAnyH_take (i := 14) (v := .bool true) rfl (by kernel_rfl) (by kernel_rfl) (by kernel_rfl) (fun _ _ _ h => h) (Or.inl ⟨by kernel_rfl, ?_⟩) (by assumption) ?_
              · intro V hV
                obtain ⟨h0, h1, h2⟩ := hV
                go_simp
              change wpAnyH _ _ _ _ _ _ _ (Act.put _ (some 67) _) _
              simp only [Act.put, List.setIfInBounds_toArray, List.set_cons_zero, List.set_cons_succ]
              refine wpAnyH_take (i := 15) (v := undef) rfl (by kernel_rfl) (by kernel_rfl) (by kernel_rfl) (fun _ _ _ h => h) (Or.inr ⟨by kernel_rfl, rfl⟩) (by assumption) ?_
              change wpAnyH _ _ _ _ _ _ _ (Act.put _ (some 68) _) _
              simp only [Act.put, List.setIfInBounds_toArray, List.set_cons_zero, List.set_cons_succ]
              refine wpAnyH_take (i := 16) (v := undef) rfl (by kernel_rfl) (by kernel_rfl) (by kernel_rfl) (fun _ _ _ h => h) (Or.inr ⟨by kernel_rfl, rfl⟩) (by assumption) ?_
              change wpAnyH _ _ _ _ _ _ _ (Act.put _ (some 69) _) _
              simp only [Act.put, List.setIfInBounds_toArray, List.set_cons_zero, List.set_cons_succ]
              refine wpAnyH_take (i := 17) (v := undef) rfl (by kernel_rfl) (by kernel_rfl) (by kernel_rfl) (fun _ _ _ h => h) (Or.inr ⟨by kernel_rfl, rfl⟩) (by assumption) ?_
              change wpAnyH _ _ _ _ _ _ _ (Act.put _ (some 70) _) _
              simp only [Act.put, List.setIfInBounds_toArray, List.set_cons_zero, List.set_cons_succ]
              refine wpAnyH_take (i := 18) (v := undef) rfl (by kernel_rfl) (by kernel_rfl) (by kernel_rfl) (fun _ _ _ h => h) (Or.inr ⟨by kernel_rfl, rfl⟩) (by assumption) ?_
              change wpAnyH _ _ _ _ _ _ _ (Act.put _ (some 71) _) _
              simp only [Act.put, List.setIfInBounds_toArray, List.set_cons_zero, List.set_cons_succ]
              refine wpAnyH_take (i := 19) (v := undef) rfl (by kernel_rfl) (by kernel_rfl) (by kernel_rfl) (fun _ _ _ h => h) (Or.inr ⟨by kernel_rfl, rfl⟩) (by assumption) ?_
              change wpAnyH _ _ _ _ _ _ _ (Act.put _ (some 72) _) _
              simp only [Act.put, List.setIfInBounds_toArray, List.set_cons_zero, List.set_cons_succ]
              refine wpAnyH_take (i := 20) (v := undef) rfl (by kernel_rfl) (by kernel_rfl) (by kernel_rfl) (fun _ _ _ h => h) (Or.inr ⟨by kernel_rfl, rfl⟩) (by assumption) ?_
              change wpAnyH _ _ _ _ _ _ _ (Act.put _ (some 73) _) _
              simp only [Act.put, List.setIfInBounds_toArray, List.set_cons_zero, List.set_cons_succ]
              refine wpAnyH_take (i := 21) (v := undef) rfl (by kernel_rfl) (by kernel_rfl) (by kernel_rfl) (fun _ _ _ h => h) (Or.inr ⟨by kernel_rfl, rfl⟩) (by assumption) ?_
              change wpAnyH _ _ _ _ _ _ _ (Act.put _ (some 74) _) _
              simp only [Act.put, List.setIfInBounds_toArray, List.set_cons_zero, List.set_cons_succ]
              refine wpAnyH_take (i := 22) (v := undef) rfl (by kernel_rfl) (by kernel_rfl) (by kernel_rfl) (fun _ _ _ h => h) (Or.inr ⟨by kernel_rfl, rfl⟩) (by assumption) ?_
              change wpAnyH _ _ _ _ _ _ _ (Act.put _ (some 75) _) _
              simp only [Act.put, List.setIfInBounds_toArray, List.set_cons_zero, List.set_cons_succ]
              refine wpAnyH_take (i := 23) (v := undef) rfl (by kernel_rfl) (by kernel_rfl) (by kernel_rfl) (fun _ _ _ h => h) (Or.inr ⟨by kernel_rfl, rfl⟩) (by assumption) ?_
              change wpAnyH _ _ _ _ _ _ _ (Act.put _ (some 76) _) _
              simp only [Act.put, List.setIfInBounds_toArray, List.set_cons_zero, List.set_cons_succ]
              refine wpAnyH_take (i := 24) (v := undef) rfl (by kernel_rfl) (by kernel_rfl) (by kernel_rfl) (fun _ _ _ h => h) (Or.inr ⟨by kernel_rfl, rfl⟩) (by assumption) ?_
              change wpAnyH _ _ _ _ _ _ _ (Act.put _ (some 77) _) _
              simp only [Act.put, List.setIfInBounds_toArray, List.set_cons_zero, List.set_cons_succ]
              refine wpAnyH_take (i := 25) (v := .bool true) rfl (by kernel_rfl) (by kernel_rfl) (by kernel_rfl) (fun _ _ _ h => h) (Or.inl ⟨by kernel_rfl, ?_⟩) (by assumption) ?_
              · intro V hV
                obtain ⟨h0, h1, h2⟩ := hV
                go_simp
              change wpAnyH _ _ _ _ _ _ _ (Act.put _ (some 78) _) _
              simp only [Act.put, List.setIfInBounds_toArray, List.set_cons_zero, List.set_cons_succ]
              refine wpAnyH_take (i := 26) (v := .bool true) rfl (by kernel_rfl) (by kernel_rfl) (by kernel_rfl) (fun _ _ _ h => h) (Or.inl ⟨by kernel_rfl, ?_⟩) (by assumption) ?_
              · intro V hV
                obtain ⟨h0, h1, h2⟩ := hV
                go_simp
              change wpAnyH _ _ _ _ _ _ _ (Act.put _ (some 79) _) _
              simp only [Act.put, List.setIfInBounds_toArray, List.set_cons_zero, List.set_cons_succ]
              refine wpAnyH_take (i := 27) (v := .pointer (some ⟨G, j, none⟩)) rfl (by kernel_rfl) (by kernel_rfl) (by kernel_rfl) (fun _ _ _ h => h) (Or.inl ⟨by kernel_rfl, ?_⟩) (by assumption) ?_
              · intro V hV
                obtain ⟨h0, h1, h2⟩ := hV
                go_simp
              change wpAnyH _ _ _ _ _ _ _ (Act.put _ (some 80) _) _
              simp only [Act.put, List.setIfInBounds_toArray, List.set_cons_zero, List.set_cons_succ]
              refine wpAnyH_ready (rs := [28]) (by kernel_rfl) (by simp) ?_
              refine AllReadyH.cons rfl (fun K hK => ?_) AllReadyH.nil
              go_simp
              refine hK.out _ _ (HS7.out _) (fun hHeld2 => ?_)
              clear hK K
              refine wpAnyH_done (by kernel_rfl) ?_ _
              go_wp2_with fail
              go_roundw
              case rel => exact ⟨j + 1, by omega, by go_num, HEnd⟩
              case measure => simp [intOf]; omega
            · have HX : Hid (blankN (blanksF (ns.take j)) ns[j] = (blanksF (ns.take j)).getD z false) := Lib.hid (by
                rw [HNd.out, HBk.out, show (nd.mn == nd.mx) = true from by rw [hmm]; exact beq_self_eq_true _, show (nd.mn == 0) = false from by rw [beq_eq_false_iff_ne]; exact hm0]; rfl)
              have t1 : (nd.mn == nd.mx) = true := by rw [hmm]; exact beq_self_eq_true _
              have t2 : (nd.mn == 0) = false := by rw [beq_eq_false_iff_ne]; exact hm0
              clear hmm hm0
              have HEnd := Lib.hid (HMk.out _ HX.out)
              clear HMk HX
              have qz : W.cell? ⟨G, z, none⟩ = some (.bool ((blanksF (ns.take j)).getD z false)) := qz
              generalize (blanksF (ns.take j)).getD z false = bz at qz HEnd
              have hzj2 : z ≠ j := by omega
              have hqz2 : ∀ u, (W.setCell ⟨G, j, none⟩ u).cell? ⟨G, z, none⟩ = some (.bool bz) := fun u => by
                have hne : (⟨G, j, none⟩ : Addr) ≠ ⟨G, z, none⟩ := fun e => by injection e with _ e2 _; exact hzj2 e2.symm
                exact (World.cell?_setCell_other _ _ _ _ hne).trans qz
              have hb2G : b2 ≠ G := by
                rintro rfl
                obtain ⟨_, _, _, hr, _⟩ := HM1.out
                by_cases ho : o2 < n
                · have h1 := hr.cell (i := o2) ho
                  rw [mk] at h1; cases h1
                · have h1 := rowIs_out hr (i := o2) (by omega)
                  rw [mk] at h1; cases h1
              have hmk2 : ∀ u, (W.setCell ⟨G, j, none⟩ u).cell? ⟨b2, o2, none⟩ = some (.int .i64 (z : Int)) := fun u => (World.cell?_of_block (Below.heap_setCell _ _ _ _ hb2G)).trans mk
              have HS7 : Hid (∀ u, (W.setCell ⟨G, j, none⟩ u).cell? ⟨B, 2, none⟩ = some (.slice (some ⟨G, 0, none⟩) n n) ∧ (W.setCell ⟨G, j, none⟩ u).cell? ⟨H, 5, none⟩ = some (.int .i64 nd.mn) ∧ (W.setCell ⟨G, j, none⟩ u).cell? ⟨H, 6, none⟩ = some (.int .i64 nd.mx) ∧ (W.setCell ⟨G, j, none⟩ u).cell? ⟨H, 7, none⟩ = some (.slice (some ⟨b2, o2, none⟩) 1 ck) ∧ (W.setCell ⟨G, j, none⟩ u).cell? ⟨b2, o2, none⟩ = some (.int .i64 (z : Int)) ∧ (W.setCell ⟨G, j, none⟩ u).cell? ⟨G, z, none⟩ = some (.bool bz)) := Lib.hid (fun u => ⟨(World.cell?_of_block (Below.heap_setCell _ _ _ _ HNe.out.1)).trans q2, (World.cell?_of_block (Below.heap_setCell _ _ _ _ HNe.out.2)).trans m5, (World.cell?_of_block (Below.heap_setCell _ _ _ _ HNe.out.2)).trans m6, (World.cell?_of_block (Below.heap_setCell _ _ _ _ HNe.out.2)).trans m7, hmk2 u, hqz2 u⟩)
              refine wp_region_held_drew (S := fun V => V.cell? ⟨B, 2, none⟩ = some (.slice (some ⟨G, 0, none⟩) n n) ∧ V.cell? ⟨H, 5, none⟩ = some (.int .i64 nd.mn) ∧ V.cell? ⟨H, 6, none⟩ = some (.int .i64 nd.mx) ∧ V.cell? ⟨H, 7, none⟩ = some (.slice (some ⟨b2, o2, none⟩) 1 ck) ∧ V.cell? ⟨b2, o2, none⟩ = some (.int .i64 (z : Int)) ∧ V.cell? ⟨G, z, none⟩ = some (.bool bz)) (by kernel_rfl) ⟨q2, m5, m6, m7, mk, qz⟩ (fun hHeld => ?_)
              refine wpAnyH_take (i := 0) (v := .pointer (some ⟨B, 0, none⟩)) rfl (by kernel_rfl) (by kernel_rfl) (by kernel_rfl) (fun _ _ _ h => h) (Or.inl ⟨by kernel_rfl, ?_⟩) (by assumption) ?_
              · intro V hV
                obtain ⟨h0, h1, h2, h3, h4, h5⟩ := hV
                go_simp
              change wpAnyH _ _ _ _ _ _ _ (Act.put _ (some 53) _) _
              simp only [Act.put, List.setIfInBounds_toArray, List.set_cons_zero, List.set_cons_succ]
              refine wpAnyH_take (i := 1) (v := .pointer (some ⟨B, 0, none⟩)) rfl (by kernel_rfl) (by kernel_rfl) (by kernel_rfl) (fun _ _ _ h => h) (Or.inl ⟨by kernel_rfl, ?_⟩) (by assumption) ?_
              · intro V hV
                obtain ⟨h0, h1, h2, h3, h4, h5⟩ := hV
                go_simp
              change wpAnyH _ _ _ _ _ _ _ (Act.put _ (some 54) _) _
              simp only [Act.put, List.setIfInBounds_toArray, List.set_cons_zero, List.set_cons_succ]
              refine wpAnyH_take (i := 2) (v := .pointer (some ⟨B, 2, none⟩)) rfl (by kernel_rfl) (by kernel_rfl) (by kernel_rfl) (fun _ _ _ h => h) (Or.inl ⟨by kernel_rfl, ?_⟩) (by assumption) ?_
              · intro V hV
                obtain ⟨h0, h1, h2, h3, h4, h5⟩ := hV
                go_simp
              change wpAnyH _ _ _ _ _ _ _ (Act.put _ (some 55) _) _
              simp only [Act.put, List.setIfInBounds_toArray, List.set_cons_zero, List.set_cons_succ]
              refine wpAnyH_take (i := 3) (v := .slice (some ⟨G, 0, none⟩) n n) rfl (by kernel_rfl) (by kernel_rfl) (by kernel_rfl) (fun _ _ _ h => h) (Or.inl ⟨by kernel_rfl, ?_⟩) (by assumption) ?_
              · intro V hV
                obtain ⟨h0, h1, h2, h3, h4, h5⟩ := hV
                go_simp
              change wpAnyH _ _ _ _ _ _ _ (Act.put _ (some 56) _) _
              simp only [Act.put, List.setIfInBounds_toArray, List.set_cons_zero, List.set_cons_succ]
              refine wpAnyH_take (i := 4) (v := .int .i64 (j : Int)) rfl (by kernel_rfl) (by kernel_rfl) (by kernel_rfl) (fun _ _ _ h => h) (Or.inl ⟨by kernel_rfl, ?_⟩) (by assumption) ?_
              · intro V hV
                obtain ⟨h0, h1, h2, h3, h4, h5⟩ := hV
                go_simp
              change wpAnyH _ _ _ _ _ _ _ (Act.put _ (some 57) _) _
              simp only [Act.put, List.setIfInBounds_toArray, List.set_cons_zero, List.set_cons_succ]
              refine wpAnyH_take (i := 5) (v := .pointer (some ⟨H, 5, none⟩)) rfl (by kernel_rfl) (by kernel_rfl) (by kernel_rfl) (fun _ _ _ h => h) (Or.inl ⟨by kernel_rfl, ?_⟩) (by assumption) ?_
              · intro V hV
                obtain ⟨h0, h1, h2, h3, h4, h5⟩ := hV
                go_simp
              change wpAnyH _ _ _ _ _ _ _ (Act.put _ (some 58) _) _
              simp only [Act.put, List.setIfInBounds_toArray, List.set_cons_zero, List.set_cons_succ]
              refine wpAnyH_take (i := 6) (v := .int .i64 nd.mn) rfl (by kernel_rfl) (by kernel_rfl) (by kernel_rfl) (fun _ _ _ h => h) (Or.inl ⟨by kernel_rfl, ?_⟩) (by assumption) ?_
              · intro V hV
                obtain ⟨h0, h1, h2, h3, h4, h5⟩ := hV
                go_simp
              change wpAnyH _ _ _ _ _ _ _ (Act.put _ (some 59) _) _
              simp only [Act.put, List.setIfInBounds_toArray, List.set_cons_zero, List.set_cons_succ]
              refine wpAnyH_take (i := 7) (v := .pointer (some ⟨H, 6, none⟩)) rfl (by kernel_rfl) (by kernel_rfl) (by kernel_rfl) (fun _ _ _ h => h) (Or.inl ⟨by kernel_rfl, ?_⟩) (by assumption) ?_
              · intro V hV
                obtain ⟨h0, h1, h2, h3, h4, h5⟩ := hV
                go_simp
              change wpAnyH _ _ _ _ _ _ _ (Act.put _ (some 60) _) _
              simp only [Act.put, List.setIfInBounds_toArray, List.set_cons_zero, List.set_cons_succ]
              refine wpAnyH_take (i := 8) (v := .int .i64 nd.mx) rfl (by kernel_rfl) (by kernel_rfl) (by kernel_rfl) (fun _ _ _ h => h) (Or.inl ⟨by kernel_rfl, ?_⟩) (by assumption) ?_
              · intro V hV
                obtain ⟨h0, h1, h2, h3, h4, h5⟩ := hV
                go_simp
              change wpAnyH _ _ _ _ _ _ _ (Act.put _ (some 61) _) _
              simp only [Act.put, List.setIfInBounds_toArray, List.set_cons_zero, List.set_cons_succ]
              refine wpAnyH_take (i := 9) (v := .bool true) rfl (by kernel_rfl) (by kernel_rfl) (by kernel_rfl) (fun _ _ _ h => h) (Or.inl ⟨by kernel_rfl, ?_⟩) (by assumption) ?_
              · intro V hV
                obtain ⟨h0, h1, h2, h3, h4, h5⟩ := hV
                go_simp
              change wpAnyH _ _ _ _ _ _ _ (Act.put _ (some 62) _) _
              simp only [Act.put, List.setIfInBounds_toArray, List.set_cons_zero, List.set_cons_succ]
              refine wpAnyH_take (i := 10) (v := .bool true) rfl (by kernel_rfl) (by kernel_rfl) (by kernel_rfl) (fun _ _ _ h => h) (Or.inl ⟨by kernel_rfl, ?_⟩) (by assumption) ?_
              · intro V hV
                obtain ⟨h0, h1, h2, h3, h4, h5⟩ := hV
                go_simp
              change wpAnyH _ _ _ _ _ _ _ (Act.put _ (some 63) _) _
              simp only [Act.put, List.setIfInBounds_toArray, List.set_cons_zero, List.set_cons_succ]
              refine wpAnyH_take (i := 11) (v := .pointer (some ⟨H, 5, none⟩)) rfl (by kernel_rfl) (by kernel_rfl) (by kernel_rfl) (fun _ _ _ h => h) (Or.inl ⟨by kernel_rfl, ?_⟩) (by assumption) ?_
              · intro V hV
                obtain ⟨h0, h1, h2, h3, h4, h5⟩ := hV
                go_simp
              change wpAnyH _ _ _ _ _ _ _ (Act.put _ (some 64) _) _
              simp only [Act.put, List.setIfInBounds_toArray, List.set_cons_zero, List.set_cons_succ]
              refine wpAnyH_take (i := 12) (v := .int .i64 nd.mn) rfl (by kernel_rfl) (by kernel_rfl) (by kernel_rfl) (fun _ _ _ h => h) (Or.inl ⟨by kernel_rfl, ?_⟩) (by assumption) ?_
              · intro V hV
                obtain ⟨h0, h1, h2, h3, h4, h5⟩ := hV
                go_simp
              change wpAnyH _ _ _ _ _ _ _ (Act.put _ (some 65) _) _
              simp only [Act.put, List.setIfInBounds_toArray, List.set_cons_zero, List.set_cons_succ]
              refine wpAnyH_take (i := 13) (v := .bool false) rfl (by kernel_rfl) (by kernel_rfl) (by kernel_rfl) (fun _ _ _ h => h) (Or.inl ⟨by kernel_rfl, ?_⟩) (by assumption) ?_
              · intro V hV
                obtain ⟨h0, h1, h2, h3, h4, h5⟩ := hV
                go_simp
              change wpAnyH _ _ _ _ _ _ _ (Act.put _ (some 66) _) _
              simp only [Act.put, List.setIfInBounds_toArray, List.set_cons_zero, List.set_cons_succ]
              refine wpAnyH_take (i := 14) (v := .bool false) rfl (by kernel_rfl) (by kernel_rfl) (by kernel_rfl) (fun _ _ _ h => h) (Or.inl ⟨by kernel_rfl, ?_⟩) (by assumption) ?_
              · intro V hV
                obtain ⟨h0, h1, h2, h3, h4, h5⟩ := hV
                go_simp
              change wpAnyH _ _ _ _ _ _ _ (Act.put _ (some 67) _) _
              simp only [Act.put, List.setIfInBounds_toArray, List.set_cons_zero, List.set_cons_succ]
              refine wpAnyH_take (i := 15) (v := .pointer (some ⟨B, 0, none⟩)) rfl (by kernel_rfl) (by kernel_rfl) (by kernel_rfl) (fun _ _ _ h => h) (Or.inl ⟨by kernel_rfl, ?_⟩) (by assumption) ?_
              · intro V hV
                obtain ⟨h0, h1, h2, h3, h4, h5⟩ := hV
                go_simp
              change wpAnyH _ _ _ _ _ _ _ (Act.put _ (some 68) _) _
              simp only [Act.put, List.setIfInBounds_toArray, List.set_cons_zero, List.set_cons_succ]
              refine wpAnyH_take (i := 16) (v := .pointer (some ⟨B, 0, none⟩)) rfl (by kernel_rfl) (by kernel_rfl) (by kernel_rfl) (fun _ _ _ h => h) (Or.inl ⟨by kernel_rfl, ?_⟩) (by assumption) ?_
              · intro V hV
                obtain ⟨h0, h1, h2, h3, h4, h5⟩ := hV
                go_simp
              change wpAnyH _ _ _ _ _ _ _ (Act.put _ (some 69) _) _
              simp only [Act.put, List.setIfInBounds_toArray, List.set_cons_zero, List.set_cons_succ]
              refine wpAnyH_take (i := 17) (v := .pointer (some ⟨B, 2, none⟩)) rfl (by kernel_rfl) (by kernel_rfl) (by kernel_rfl) (fun _ _ _ h => h) (Or.inl ⟨by kernel_rfl, ?_⟩) (by assumption) ?_
              · intro V hV
                obtain ⟨h0, h1, h2, h3, h4, h5⟩ := hV
                go_simp
              change wpAnyH _ _ _ _ _ _ _ (Act.put _ (some 70) _) _
              simp only [Act.put, List.setIfInBounds_toArray, List.set_cons_zero, List.set_cons_succ]
              refine wpAnyH_take (i := 18) (v := .slice (some ⟨G, 0, none⟩) n n) rfl (by kernel_rfl) (by kernel_rfl) (by kernel_rfl) (fun _ _ _ h => h) (Or.inl ⟨by kernel_rfl, ?_⟩) (by assumption) ?_
              · intro V hV
                obtain ⟨h0, h1, h2, h3, h4, h5⟩ := hV
                go_simp
              change wpAnyH _ _ _ _ _ _ _ (Act.put _ (some 71) _) _
              simp only [Act.put, List.setIfInBounds_toArray, List.set_cons_zero, List.set_cons_succ]
              refine wpAnyH_take (i := 19) (v := .pointer (some ⟨H, 7, none⟩)) rfl (by kernel_rfl) (by kernel_rfl) (by kernel_rfl) (fun _ _ _ h => h) (Or.inl ⟨by kernel_rfl, ?_⟩) (by assumption) ?_
              · intro V hV
                obtain ⟨h0, h1, h2, h3, h4, h5⟩ := hV
                go_simp
              change wpAnyH _ _ _ _ _ _ _ (Act.put _ (some 72) _) _
              simp only [Act.put, List.setIfInBounds_toArray, List.set_cons_zero, List.set_cons_succ]
              refine wpAnyH_take (i := 20) (v := .slice (some ⟨b2, o2, none⟩) 1 ck) rfl (by kernel_rfl) (by kernel_rfl) (by kernel_rfl) (fun _ _ _ h => h) (Or.inl ⟨by kernel_rfl, ?_⟩) (by assumption) ?_
              · intro V hV
                obtain ⟨h0, h1, h2, h3, h4, h5⟩ := hV
                go_simp
              change wpAnyH _ _ _ _ _ _ _ (Act.put _ (some 73) _) _
              simp only [Act.put, List.setIfInBounds_toArray, List.set_cons_zero, List.set_cons_succ]
              refine wpAnyH_take (i := 21) (v := .pointer (some ⟨b2, o2, none⟩)) rfl (by kernel_rfl) (by kernel_rfl) (by kernel_rfl) (fun _ _ _ h => h) (Or.inl ⟨by kernel_rfl, ?_⟩) (by assumption) ?_
              · intro V hV
                obtain ⟨h0, h1, h2, h3, h4, h5⟩ := hV
                go_simp
              change wpAnyH _ _ _ _ _ _ _ (Act.put _ (some 74) _) _
              simp only [Act.put, List.setIfInBounds_toArray, List.set_cons_zero, List.set_cons_succ]
              refine wpAnyH_take (i := 22) (v := .int .i64 (z : Int)) rfl (by kernel_rfl) (by kernel_rfl) (by kernel_rfl) (fun _ _ _ h => h) (Or.inl ⟨by kernel_rfl, ?_⟩) (by assumption) ?_
              · intro V hV
                obtain ⟨h0, h1, h2, h3, h4, h5⟩ := hV
                go_simp
              change wpAnyH _ _ _ _ _ _ _ (Act.put _ (some 75) _) _
              simp only [Act.put, List.setIfInBounds_toArray, List.set_cons_zero, List.set_cons_succ]
              refine wpAnyH_take (i := 23) (v := .pointer (some ⟨G, z, none⟩)) rfl (by kernel_rfl) (by kernel_rfl) (by kernel_rfl) (fun _ _ _ h => h) (Or.inl ⟨by kernel_rfl, ?_⟩) (by assumption) ?_
              · intro V hV
                obtain ⟨h0, h1, h2, h3, h4, h5⟩ := hV
                go_simp
              change wpAnyH _ _ _ _ _ _ _ (Act.put _ (some 76) _) _
              simp only [Act.put, List.setIfInBounds_toArray, List.set_cons_zero, List.set_cons_succ]
              refine wpAnyH_take (i := 24) (v := .bool bz) rfl (by kernel_rfl) (by kernel_rfl) (by kernel_rfl) (fun _ _ _ h => h) (Or.inl ⟨by kernel_rfl, ?_⟩) (by assumption) ?_
              · intro V hV
                obtain ⟨h0, h1, h2, h3, h4, h5⟩ := hV
                go_simp
              change wpAnyH _ _ _ _ _ _ _ (Act.put _ (some 77) _) _
              simp only [Act.put, List.setIfInBounds_toArray, List.set_cons_zero, List.set_cons_succ]
              refine wpAnyH_take (i := 25) (v := .bool bz) rfl (by kernel_rfl) (by kernel_rfl) (by kernel_rfl) (fun _ _ _ h => h) (Or.inl ⟨by kernel_rfl, ?_⟩) (by assumption) ?_
              · intro V hV
                obtain ⟨h0, h1, h2, h3, h4, h5⟩ := hV
                go_simp
              change wpAnyH _ _ _ _ _ _ _ (Act.put _ (some 78) _) _
              simp only [Act.put, List.setIfInBounds_toArray, List.set_cons_zero, List.set_cons_succ]
              refine wpAnyH_take (i := 26) (v := .bool bz) rfl (by kernel_rfl) (by kernel_rfl) (by kernel_rfl) (fun _ _ _ h => h) (Or.inl ⟨by kernel_rfl, ?_⟩) (by assumption) ?_
              · intro V hV
                obtain ⟨h0, h1, h2, h3, h4, h5⟩ := hV
                go_simp
              change wpAnyH _ _ _ _ _ _ _ (Act.put _ (some 79) _) _
              simp only [Act.put, List.setIfInBounds_toArray, List.set_cons_zero, List.set_cons_succ]
              refine wpAnyH_take (i := 27) (v := .pointer (some ⟨G, j, none⟩)) rfl (by kernel_rfl) (by kernel_rfl) (by kernel_rfl) (fun _ _ _ h => h) (Or.inl ⟨by kernel_rfl, ?_⟩) (by assumption) ?_
              · intro V hV
                obtain ⟨h0, h1, h2, h3, h4, h5⟩ := hV
                go_simp
              change wpAnyH _ _ _ _ _ _ _ (Act.put _ (some 80) _) _
              simp only [Act.put, List.setIfInBounds_toArray, List.set_cons_zero, List.set_cons_succ]
              refine wpAnyH_ready (rs := [28]) (by kernel_rfl) (by simp) ?_
              refine AllReadyH.cons rfl (fun K hK => ?_) AllReadyH.nil
              go_simp
              refine hK.out _ _ (HS7.out _) (fun hHeld2 => ?_)
              clear hK K
              refine wpAnyH_done (by kernel_rfl) ?_ _
              go_wp2_with fail
              go_roundw
              case rel => exact ⟨j + 1, by omega, by go_num, HEnd⟩
              case measure => simp [intOf]; omega
          · have HX : Hid (blankN (blanksF (ns.take j)) ns[j] = false) := Lib.hid (by
              rw [HNd.out, HBk.out, show (nd.mn == nd.mx) = false from by rw [beq_eq_false_iff_ne]; exact hmm]; rfl)
            have t1 : (nd.mn == nd.mx) = false := by rw [beq_eq_false_iff_ne]; exact hmm
            clear hmm
            have HEnd := Lib.hid (HMk.out _ HX.out)
            clear HMk HX
            have HS7 : Hid (∀ u, (W.setCell ⟨G, j, none⟩ u).cell? ⟨B, 2, none⟩ = some (.slice (some ⟨G, 0, none⟩) n n) ∧ (W.setCell ⟨G, j, none⟩ u).cell? ⟨H, 5, none⟩ = some (.int .i64 nd.mn) ∧ (W.setCell ⟨G, j, none⟩ u).cell? ⟨H, 6, none⟩ = some (.int .i64 nd.mx)) := Lib.hid (fun u => ⟨(World.cell?_of_block (Below.heap_setCell _ _ _ _ HNe.out.1)).trans q2, (World.cell?_of_block (Below.heap_setCell _ _ _ _ HNe.out.2)).trans m5, (World.cell?_of_block (Below.heap_setCell _ _ _ _ HNe.out.2)).trans m6⟩)
            refine wp_region_held_drew (S := fun V => V.cell? ⟨B, 2, none⟩ = some (.slice (some ⟨G, 0, none⟩) n n) ∧ V.cell? ⟨H, 5, none⟩ = some (.int .i64 nd.mn) ∧ V.cell? ⟨H, 6, none⟩ = some (.int .i64 nd.mx)) (by kernel_rfl) ⟨q2, m5, m6⟩ (fun hHeld => ?_)
            refine wpAnyH_take (i := 0) (v := .pointer (some ⟨B, 0, none⟩)) rfl (by kernel_rfl) (by kernel_rfl) (by kernel_rfl) (fun _ _ _ h => h) (Or.inl ⟨by kernel_rfl, ?_⟩) (by assumption) ?_
            · intro V hV
              obtain ⟨h0, h1, h2⟩ := hV
              go_simp
            change wpAnyH _ _ _ _ _ _ _ (Act.put _ (some 53) _) _
            simp only [Act.put, List.setIfInBounds_toArray, List.set_cons_zero, List.set_cons_succ]
            refine wpAnyH_take (i := 1) (v := .pointer (some ⟨B, 0, none⟩)) rfl (by kernel_rfl) (by kernel_rfl) (by kernel_rfl) (fun _ _ _ h => h) (Or.inl ⟨by kernel_rfl, ?_⟩) (by assumption) ?_
            · intro V hV
              obtain ⟨h0, h1, h2⟩ := hV
              go_simp
            change wpAnyH _ _ _ _ _ _ _ (Act.put _ (some 54) _) _
            simp only [Act.put, List.setIfInBounds_toArray, List.set_cons_zero, List.set_cons_succ]
            refine wpAnyH_take (i := 2) (v := .pointer (some ⟨B, 2, none⟩)) rfl (by kernel_rfl) (by kernel_rfl) (by kernel_rfl) (fun _ _ _ h => h) (Or.inl ⟨by kernel_rfl, ?_⟩) (by assumption) ?_
            · intro V hV
              obtain ⟨h0, h1, h2⟩ := hV
              go_simp
            change wpAnyH _ _ _ _ _ _ _ (Act.put _ (some 55) _) _
            simp only [Act.put, List.setIfInBounds_toArray, List.set_cons_zero, List.set_cons_succ]
            refine wpAnyH_take (i := 3) (v := .slice (some ⟨G, 0, none⟩) n n) rfl (by kernel_rfl) (by kernel_rfl) (by kernel_rfl) (fun _ _ _ h => h) (Or.inl ⟨by kernel_rfl, ?_⟩) (by assumption) ?_
            · intro V hV
              obtain ⟨h0, h1, h2⟩ := hV
              go_simp
            change wpAnyH _ _ _ _ _ _ _ (Act.put _ (some 56) _) _
            simp only [Act.put, List.setIfInBounds_toArray, List.set_cons_zero, List.set_cons_succ]
            refine wpAnyH_take (i := 4) (v := .int .i64 (j : Int)) rfl (by kernel_rfl) (by kernel_rfl) (by kernel_rfl) (fun _ _ _ h => h) (Or.inl ⟨by kernel_rfl, ?_⟩) (by assumption) ?_
            · intro V hV
              obtain ⟨h0, h1, h2⟩ := hV
              go_simp
            change wpAnyH _ _ _ _ _ _ _ (Act.put _ (some 57) _) _
            simp only [Act.put, List.setIfInBounds_toArray, List.set_cons_zero, List.set_cons_succ]
            refine wpAnyH_take (i := 5) (v := .pointer (some ⟨H, 5, none⟩)) rfl (by kernel_rfl) (by kernel_rfl) (by kernel_rfl) (fun _ _ _ h => h) (Or.inl ⟨by kernel_rfl, ?_⟩) (by assumption) ?_
            · intro V hV
              obtain ⟨h0, h1, h2⟩ := hV
              go_simp
            change wpAnyH _ _ _ _ _ _ _ (Act.put _ (some 58) _) _
            simp only [Act.put, List.setIfInBounds_toArray, List.set_cons_zero, List.set_cons_succ]
            refine wpAnyH_take (i := 6) (v := .int .i64 nd.mn) rfl (by kernel_rfl) (by kernel_rfl) (by kernel_rfl) (fun _ _ _ h => h) (Or.inl ⟨by kernel_rfl, ?_⟩) (by assumption) ?_
            · intro V hV
              obtain ⟨h0, h1, h2⟩ := hV
              go_simp
            change wpAnyH _ _ _ _ _ _ _ (Act.put _ (some 59) _) _
            simp only [Act.put, List.setIfInBounds_toArray, List.set_cons_zero, List.set_cons_succ]
            refine wpAnyH_take (i := 7) (v := .pointer (some ⟨H, 6, none⟩)) rfl (by kernel_rfl) (by kernel_rfl) (by kernel_rfl) (fun _ _ _ h => h) (Or.inl ⟨by kernel_rfl, ?_⟩) (by assumption) ?_
            · intro V hV
              obtain ⟨h0, h1, h2⟩ := hV
              go_simp
            change wpAnyH _ _ _ _ _ _ _ (Act.put _ (some 60) _) _
            simp only [Act.put, List.setIfInBounds_toArray, List.set_cons_zero, List.set_cons_succ]
            refine wpAnyH_take (i := 8) (v := .int .i64 nd.mx) rfl (by kernel_rfl) (by kernel_rfl) (by kernel_rfl) (fun _ _ _ h => h) (Or.inl ⟨by kernel_rfl, ?_⟩) (by assumption) ?_
            · intro V hV
              obtain ⟨h0, h1, h2⟩ := hV
              go_simp
            change wpAnyH _ _ _ _ _ _ _ (Act.put _ (some 61) _) _
            simp only [Act.put, List.setIfInBounds_toArray, List.set_cons_zero, List.set_cons_succ]
            refine wpAnyH_take (i := 9) (v := .bool false) rfl (by kernel_rfl) (by kernel_rfl) (by kernel_rfl) (fun _ _ _ h => h) (Or.inl ⟨by kernel_rfl, ?_⟩) (by assumption) ?_
            · intro V hV
              obtain ⟨h0, h1, h2⟩ := hV
              go_simp
            change wpAnyH _ _ _ _ _ _ _ (Act.put _ (some 62) _) _
            simp only [Act.put, List.setIfInBounds_toArray, List.set_cons_zero, List.set_cons_succ]
            refine wpAnyH_take (i := 10) (v := .bool false) rfl (by kernel_rfl) (by kernel_rfl) (by kernel_rfl) (fun _ _ _ h => h) (Or.inl ⟨by kernel_rfl, ?_⟩) (by assumption) ?_
            · intro V hV
              obtain ⟨h0, h1, h2⟩ := hV
              go_simp
            change wpAnyH _ _ _ _ _ _ _ (Act.put _ (some 63) _) _
            simp only [Act.put, List.setIfInBounds_toArray, List.set_cons_zero, List.set_cons_succ]
            refine wpAnyH_take (i := 11) (v := undef) rfl (by kernel_rfl) (by kernel_rfl) (by kernel_rfl) (fun _ _ _ h => h) (Or.inr ⟨by kernel_rfl, rfl⟩) (by assumption) ?_
            change wpAnyH _ _ _ _ _ _ _ (Act.put _ (some 64) _) _
            simp only [Act.put, List.setIfInBounds_toArray, List.set_cons_zero, List.set_cons_succ]
            refine wpAnyH_take (i := 12) (v := undef) rfl (by kernel_rfl) (by kernel_rfl) (by kernel_rfl) (fun _ _ _ h => h) (Or.inr ⟨by kernel_rfl, rfl⟩) (by assumption) ?_
            change wpAnyH _ _ _ _ _ _ _ (Act.put _ (some 65) _) _
            simp only [Act.put, List.setIfInBounds_toArray, List.set_cons_zero, List.set_cons_succ]
            refine wpAnyH_take (i := 13) (v := undef) rfl (by kernel_rfl) (by kernel_rfl) (by kernel_rfl) (fun _ _ _ h => h) (Or.inr ⟨by kernel_rfl, rfl⟩) (by assumption) ?_
            change wpAnyH _ _ _ _ _ _ _ (Act.put _ (some 66) _) _
            simp only [Act.put, List.setIfInBounds_toArray, List.set_cons_zero, List.set_cons_succ]
            refine wpAnyH_take (i := 14) (v := undef) rfl (by kernel_rfl) (by kernel_rfl) (by kernel_rfl) (fun _ _ _ h => h) (Or.inr ⟨by kernel_rfl, rfl⟩) (by assumption) ?_
            change wpAnyH _ _ _ _ _ _ _ (Act.put _ (some 67) _) _
            simp only [Act.put, List.setIfInBounds_toArray, List.set_cons_zero, List.set_cons_succ]
            refine wpAnyH_take (i := 15) (v := undef) rfl (by kernel_rfl) (by kernel_rfl) (by kernel_rfl) (fun _ _ _ h => h) (Or.inr ⟨by kernel_rfl, rfl⟩) (by assumption) ?_
            change wpAnyH _ _ _ _ _ _ _ (Act.put _ (some 68) _) _
            simp only [Act.put, List.setIfInBounds_toArray, List.set_cons_zero, List.set_cons_succ]
            refine wpAnyH_take (i := 16) (v := undef) rfl (by kernel_rfl) (by kernel_rfl) (by kernel_rfl) (fun _ _ _ h => h) (Or.inr ⟨by kernel_rfl, rfl⟩) (by assumption) ?_
            change wpAnyH _ _ _ _ _ _ _ (Act.put _ (some 69) _) _
            simp only [Act.put, List.setIfInBounds_toArray, List.set_cons_zero, List.set_cons_succ]
            refine wpAnyH_take (i := 17) (v := undef) rfl (by kernel_rfl) (by kernel_rfl) (by kernel_rfl) (fun _ _ _ h => h) (Or.inr ⟨by kernel_rfl, rfl⟩) (by assumption) ?_
            change wpAnyH _ _ _ _ _ _ _ (Act.put _ (some 70) _) _
            simp only [Act.put, List.setIfInBounds_toArray, List.set_cons_zero, List.set_cons_succ]
            refine wpAnyH_take (i := 18) (v := undef) rfl (by kernel_rfl) (by kernel_rfl) (by kernel_rfl) (fun _ _ _ h => h) (Or.inr ⟨by kernel_rfl, rfl⟩) (by assumption) ?_
            change wpAnyH _ _ _ _ _ _ _ (Act.put _ (some 71) _) _
            simp only [Act.put, List.setIfInBounds_toArray, List.set_cons_zero, List.set_cons_succ]
            refine wpAnyH_take (i := 19) (v := undef) rfl (by kernel_rfl) (by kernel_rfl) (by kernel_rfl) (fun _ _ _ h => h) (Or.inr ⟨by kernel_rfl, rfl⟩) (by assumption) ?_
            change wpAnyH _ _ _ _ _ _ _ (Act.put _ (some 72) _) _
            simp only [Act.put, List.setIfInBounds_toArray, List.set_cons_zero, List.set_cons_succ]
            refine wpAnyH_take (i := 20) (v := undef) rfl (by kernel_rfl) (by kernel_rfl) (by kernel_rfl) (fun _ _ _ h => h) (Or.inr ⟨by kernel_rfl, rfl⟩) (by assumption) ?_
            change wpAnyH _ _ _ _ _ _ _ (Act.put _ (some 73) _) _
            simp only [Act.put, List.setIfInBounds_toArray, List.set_cons_zero, List.set_cons_succ]
            refine wpAnyH_take (i := 21) (v := undef) rfl (by kernel_rfl) (by kernel_rfl) (by kernel_rfl) (fun _ _ _ h => h) (Or.inr ⟨by kernel_rfl, rfl⟩) (by assumption) ?_
            change wpAnyH _ _ _ _ _ _ _ (Act.put _ (some 74) _) _
            simp only [Act.put, List.setIfInBounds_toArray, List.set_cons_zero, List.set_cons_succ]
            refine wpAnyH_take (i := 22) (v := undef) rfl (by kernel_rfl) (by kernel_rfl) (by kernel_rfl) (fun _ _ _ h => h) (Or.inr ⟨by kernel_rfl, rfl⟩) (by assumption) ?_
            change wpAnyH _ _ _ _ _ _ _ (Act.put _ (some 75) _) _
            simp only [Act.put, List.setIfInBounds_toArray, List.set_cons_zero, List.set_cons_succ]
            refine wpAnyH_take (i := 23) (v := undef) rfl (by kernel_rfl) (by kernel_rfl) (by kernel_rfl) (fun _ _ _ h => h) (Or.inr ⟨by kernel_rfl, rfl⟩) (by assumption) ?_
            change wpAnyH _ _ _ _ _ _ _ (Act.put _ (some 76) _) _
            simp only [Act.put, List.setIfInBounds_toArray, List.set_cons_zero, List.set_cons_succ]
            refine wpAnyH_take (i := 24) (v := undef) rfl (by kernel_rfl) (by kernel_rfl) (by kernel_rfl) (fun _ _ _ h => h) (Or.inr ⟨by kernel_rfl, rfl⟩) (by assumption) ?_
            change wpAnyH _ _ _ _ _ _ _ (Act.put _ (some 77) _) _
            simp only [Act.put, List.setIfInBounds_toArray, List.set_cons_zero, List.set_cons_succ]
            refine wpAnyH_take (i := 25) (v := undef) rfl (by kernel_rfl) (by kernel_rfl) (by kernel_rfl) (fun _ _ _ h => h) (Or.inr ⟨by kernel_rfl, rfl⟩) (by assumption) ?_
            change wpAnyH _ _ _ _ _ _ _ (Act.put _ (some 78) _) _
            simp only [Act.put, List.setIfInBounds_toArray, List.set_cons_zero, List.set_cons_succ]
            refine wpAnyH_take (i := 26) (v := .bool false) rfl (by kernel_rfl) (by kernel_rfl) (by kernel_rfl) (fun _ _ _ h => h) (Or.inl ⟨by kernel_rfl, ?_⟩) (by assumption) ?_
            · intro V hV
              obtain ⟨h0, h1, h2⟩ := hV
              go_simp
            change wpAnyH _ _ _ _ _ _ _ (Act.put _ (some 79) _) _
            simp only [Act.put, List.setIfInBounds_toArray, List.set_cons_zero, List.set_cons_succ]
            refine wpAnyH_take (i := 27) (v := .pointer (some ⟨G, j, none⟩)) rfl (by kernel_rfl) (by kernel_rfl) (by kernel_rfl) (fun _ _ _ h => h) (Or.inl ⟨by kernel_rfl, ?_⟩) (by assumption) ?_
            · intro V hV
              obtain ⟨h0, h1, h2⟩ := hV
              go_simp
            change wpAnyH _ _ _ _ _ _ _ (Act.put _ (some 80) _) _
            simp only [Act.put, List.setIfInBounds_toArray, List.set_cons_zero, List.set_cons_succ]
            refine wpAnyH_ready (rs := [28]) (by kernel_rfl) (by simp) ?_
            refine AllReadyH.cons rfl (fun K hK => ?_) AllReadyH.nil
            go_simp
            refine hK.out _ _ (HS7.out _) (fun hHeld2 => ?_)
            clear hK K
            refine wpAnyH_done (by kernel_rfl) ?_ _
            go_wp2_with fail
            go_roundw
            case rel => exact ⟨j + 1, by omega, by go_num, HEnd⟩
            case measure => simp [intOf]; omega
        have e6 : (nd.kind == 6) = false := by rw [beq_eq_false_iff_ne]; exact k6
        have HSk2 := Lib.hid (HSk.out k4 k6)
        clear rk hok hkn k4 k6 hkl
        go_wp2_with fail
        go_roundw
        case rel => exact ⟨j + 1, by omega, by go_num, Lib.hid (HSk2.out _)⟩
        case measure => simp [intOf]; omega
      · obtain rfl : j = n := by omega
        have hd : decide (j < j) = false := by simp only [decide_eq_false_iff_not]; omega
        go_wp2_with fail
        go_ret
        exact ⟨B, G, P, rfl, HJ.out⟩
end Au
end
end Go.Proofs.Ytgadomcbaenodaa

/-
  The iterator over the partners of a script, for every loop body that keeps what is not its own. Conditions: the fields of the changes are numbers of lines.
-/
import Derived.Test.YtldommbelpcegaaScrScr
import Derived.RangeFuncGives
import Derived.RangeFuncOwn
import Derived.RangeFuncCalls
import Derived.RangeFuncLeaves
import Derived.RangeFuncBound
import Derived.Maps.AppendAt
import Derived.Shelf.AbstractIn
import Derived.OwnWalkIn
import Derived.TacticsInMore
import Derived.RegionIn
import Derived.LoopNIn
import Derived.LoopIn
import Derived.Sort.QuietTacIn
namespace Go.Proofs.Ytldommbelpcegaa
open Go.RowKit
attribute [local go_sem] Oper.semAt_some
namespace Sc
open Cm
/-- Every block that is not one of these is as it was. -/
structure KeptO (O : List Nat) (w w' : World) : Prop where
  os : w'.os = w.os
  tape : w'.tape = w.tape
  output : w'.output = w.output
  size : w.heap.size ≤ w'.heap.size
  block : ∀ k, k < w.heap.size → k ∉ O → w'.heap[k]? = w.heap[k]?
/-- The blocks below n, and these, are as they were. -/
structure Eff (O : List Nat) (n : Nat) (w w' : World) : Prop where
  os : w'.os = w.os
  tape : w'.tape = w.tape
  output : w'.output = w.output
  size : w.heap.size ≤ w'.heap.size
  block : ∀ k, (k < n ∨ k ∈ O) → w'.heap[k]? = w.heap[k]?
theorem KeptO.refl (O : List Nat) (w : World) : KeptO O w w := ⟨rfl, rfl, rfl, Nat.le_refl _, fun _ _ _ => rfl⟩
theorem KeptO.trans {O O' : List Nat} {a b c : World} (h : KeptO O a b) (k : KeptO O' b c) (hO : ∀ i ∈ O', i ∈ O ∨ a.heap.size ≤ i) : KeptO O a c :=
  ⟨k.os.trans h.os, k.tape.trans h.tape, k.output.trans h.output, Nat.le_trans h.size k.size, fun i hi hn =>
    (k.block i (Nat.lt_of_lt_of_le hi h.size) (fun hm => by rcases hO i hm with h1 | h1; exact hn h1; omega)).trans (h.block i hi hn)⟩
theorem KeptO.more {O O' : List Nat} {a b : World} (h : KeptO O a b) (hO : ∀ i ∈ O, i ∈ O' ∨ a.heap.size ≤ i) : KeptO O' a b :=
  ⟨h.os, h.tape, h.output, h.size, fun i hi hn => h.block i hi (fun hm => by rcases hO i hm with h1 | h1; exact hn h1; omega)⟩
theorem KeptO.alloc {O : List Nat} {a w : World} (h : KeptO O a w) (o : Obj) : KeptO O a (w.alloc o) :=
  h.trans (O' := []) ⟨rfl, rfl, rfl, by simp, fun k hk _ => Below.heap_alloc _ _ _ hk⟩ (fun i hi => by cases hi)
theorem KeptO.drew {O : List Nat} {a w : World} (h : KeptO O a w) : KeptO O a w.drew := ⟨h.os, h.tape, h.output, h.size, h.block⟩
theorem KeptO.drewN {O : List Nat} {a w : World} (h : KeptO O a w) (m : Nat) : KeptO O a (w.drewN m) := by
  induction m with
  | zero => exact h
  | succ m ih => exact ih.drew
theorem KeptO.setCell {O : List Nat} {a w : World} (h : KeptO O a w) {p : Addr} (hp : p.block ∈ O ∨ a.heap.size ≤ p.block) (u : Value) : KeptO O a (w.setCell p u) :=
  h.trans (O' := [p.block]) ⟨rfl, rfl, rfl, by simp [World.setCell], fun k _ hn => Below.heap_setCell _ _ _ _ (by simpa using hn)⟩ (fun i hi => by
    obtain rfl : i = p.block := by simpa using hi
    exact hp)
theorem KeptO.grown {O : List Nat} {a w w' : World} {row : Option Nat} (h : KeptO O a w) (hg : w.grownBy w' row) (hr : ∀ k, row = some k → k ∈ O ∨ a.heap.size ≤ k) : KeptO O a w' :=
  h.trans (O' := row.toList) ⟨hg.os, hg.tape, hg.output, hg.size, fun k hk hn => hg.block k hk (fun e => hn (by rw [← e]; simp))⟩ (fun i hi => by
    cases row with
    | none => cases hi
    | some k =>
      obtain rfl : i = k := by simpa using hi
      exact hr i rfl)
theorem KeptO.below {O : List Nat} {w w' : World} {n : Nat} (h : KeptO O w w') (hn : n ≤ w.heap.size) (hO : ∀ k ∈ O, n ≤ k) : Below n w w' :=
  ⟨h.os, h.tape, h.output, h.size, fun k hk => h.block k (by omega) (fun hm => by have := hO k hm; omega)⟩
theorem KeptO.of_below {O : List Nat} {w w' : World} (h : Below w.heap.size w w') : KeptO O w w' := ⟨h.os, h.tape, h.output, h.size, fun k hk _ => h.block k hk⟩
theorem Eff.of_kept {O O' : List Nat} {n : Nat} {w w' : World} (h : KeptO O' w w') (hn : n ≤ w.heap.size) (hO : ∀ k ∈ O, k < w.heap.size) (hd : ∀ k ∈ O', n ≤ k ∧ k ∉ O) : Eff O n w w' :=
  ⟨h.os, h.tape, h.output, h.size, fun k hk => h.block k (by rcases hk with h1 | h1; omega; exact hO k h1) (fun hm => by
    have := hd k hm
    rcases hk with h1 | h1
    · omega
    · exact this.2 h1)⟩
abbrev tYld : TypeId := 75
abbrev yldV (l : Nat) : Value := .func (.yield l) #[] #[]
abbrev spV (s : Sp) : Value := .agg #[.int .i64 s.frm, .int .i64 s.to]
abbrev matV (B : Nat) : Value := .func (.func 48) #[] #[.pointer (some ⟨B, 0, none⟩), .pointer (some ⟨B + 1, 0, none⟩)]
theorem matched_any (A : Option Addr) (n c : Nat) (m : Int) (w : World) : Calls Try.prog 41 #[.slice A n c, .int .i64 m] w fun e w' => e = .returned (matV w.heap.size) ∧ w' = (w.alloc (.cells #[.slice A n c] tChs)).alloc (.cells #[.int .i64 m] 3) := by
  go_enter Try.func41, Try.ntmps41
  go_wp2_with fail
  go_ret
  exact ⟨rfl, rfl⟩
/-- What a round of the loop over the iterator does: the body's word. -/
def Yld (n : Nat) (l : Nat) (J : List Sp → List Nat → World → Prop) (Jx : List Sp → World → Prop) (PL : List Sp) : Prop :=
  ∀ pre O (x : Sp) W, J pre O W → pre ++ [x] <+: PL → YieldAt Fence.wide n Try.prog l #[spV x] W fun e W' => (e = .returned (.bool true) ∧ ∃ O', J (pre ++ [x]) O' W' ∧ KeptO O W W' ∧ ∀ k ∈ O', k ∈ O ∨ W.heap.size ≤ k) ∨ (e = .returned (.bool false) ∧ Jx (pre ++ [x]) W')
theorem run_pre (i j : Int) {t n : Nat} (h : t ≤ n) : run i j t <+: run i j n := by
  obtain ⟨d, rfl⟩ : ∃ d, n = t + d := ⟨n - t, by omega⟩
  clear h
  induction d with
  | zero => exact List.prefix_refl _
  | succ d ih => rw [show t + (d + 1) = (t + d) + 1 from by omega, run_snoc]; exact ih.trans (List.prefix_append _ _)
def BefPost (J : List Sp → List Nat → World → Prop) (Jx : List Sp → World → Prop) (PL pre : List Sp) (O : List Nat) (X : Nat) (i j old : Int) (W : World) (e : Ending) (W' : World) : Prop :=
  (e = .returned (.bool true) ∧ ∃ O', J (pre ++ run i j (old - i).toNat) O' W' ∧ KeptO (X :: O) W W' ∧ (∀ k ∈ O', k ∈ O ∨ W.heap.size ≤ k) ∧ W'.heap[X]? = some (.cells #[.int .i64 (i + ((old - i).toNat : Int)), .int .i64 (j + ((old - i).toNat : Int))] tSp (0, 0))) ∨
  (e = .returned (.bool false) ∧ ∃ pre', pre' ≠ [] ∧ pre' <+: PL ∧ Jx pre' W')
theorem cells2 {W : World} {X : Nat} {a b : Value} (h : W.heap[X]? = some (.cells #[a, b] tSp (0, 0))) : (W.cell? ⟨X, 0, none⟩ = some a ∧ W.cell? ⟨X, 1, none⟩ = some b) ∧ ∀ j, W.frozen? ⟨X, j, none⟩ = false :=
  ⟨⟨by simp [World.cell?, h], by simp [World.cell?, h]⟩, fun j => by simp [World.frozen?, h]⟩
theorem set2 {W : World} {X : Nat} {a b u v : Value} (h : W.heap[X]? = some (.cells #[a, b] tSp (0, 0))) : ((W.setCell ⟨X, 0, none⟩ u).setCell ⟨X, 1, none⟩ v).heap[X]? = some (.cells #[u, v] tSp (0, 0)) := by
  rw [heap_setCell_same _ X 1 _ tSp v (heap_setCell_same W X 0 _ tSp u h)]
  rfl
set_option maxRecDepth 100000 in
set_option maxHeartbeats 4000000 in
theorem before_in (f : Nat) (hf : 1 ≤ f) (l : Nat) (J : List Sp → List Nat → World → Prop) (Jx : List Sp → World → Prop) (PL : List Sp) (n0 X Y : Nat) (hY : Yld (f - 1) l J Jx PL)
    (hJ : ∀ pre O W W', J pre O W → Eff O n0 W W' → J pre O W') (hJl : ∀ pre O W, J pre O W → ∀ k ∈ O, k < W.heap.size)
    (pre : List Sp) (O : List Nat) (i j old : Int) (W : World) (hi : 0 ≤ i ∧ i ≤ 20000) (hj : 0 ≤ j ∧ j ≤ 20000) (ho : old ≤ 4096) (hp : pre ++ run i j (old - i).toNat <+: PL)
    (h0 : J pre O W) (hX : W.heap[X]? = some (.cells #[.int .i64 i, .int .i64 j] tSp (0, 0))) (hYb : W.heap[Y]? = some (.cells #[yldV l] tYld (0, 0))) (hXY : n0 ≤ X ∧ n0 ≤ Y ∧ X ≠ Y ∧ X ∉ O ∧ Y ∉ O) (hn0 : n0 ≤ W.heap.size) :
    CallsIn Fence.wide f Try.prog 49 #[.int .i64 old, .pointer (some ⟨X, 0, none⟩), .pointer (some ⟨Y, 0, none⟩)] W (BefPost J Jx PL pre O X i j old W) := by
  have HY := Lib.hid hY
  have HJ := Lib.hid hJ
  have HJl := Lib.hid hJl
  have HP := Lib.hid hp
  obtain ⟨hx1, hx2, hx3, hx4, hx5⟩ := hXY
  have HN := Lib.hid (And.intro hx1 (And.intro hx2 (And.intro hx3 (And.intro hx4 (And.intro hx5 (And.intro hn0 (And.intro (Array.getElem?_eq_some_iff.1 hX).1 (Array.getElem?_eq_some_iff.1 hYb).1)))))))
  have HYb := Lib.hid hYb
  obtain ⟨i0, i1⟩ := hi
  obtain ⟨j0, j1⟩ := hj
  have HS : Hid (∃ O', J (pre ++ run i j 0) O' W ∧ KeptO (X :: O) W W ∧ (∀ k ∈ O', k ∈ O ∨ W.heap.size ≤ k) ∧ W.heap[X]? = some (.cells #[.int .i64 (i + ((0 : Nat) : Int)), .int .i64 (j + ((0 : Nat) : Int))] tSp (0, 0))) := Lib.hid ⟨O, by rw [run_zero, List.append_nil]; exact h0, KeptO.refl _ _, fun k hk => .inl hk, by simpa using hX⟩
  generalize hn : (old - i).toNat = N at HP
  have HNn := Lib.hid hn
  clear hY hJ hJl hp h0 hX hYb hx1 hx2 hx3 hx4 hx5 hn0 hn
  unfold BefPost
  refine callsIn_of_wp Try.func49 rfl trivial ?_ rfl
  simp only [Try.ntmps49, List.size_toArray, List.length_cons, List.length_nil, Nat.reduceAdd, Nat.reduceSub, Array.replicate_succ, Array.replicate_zero, List.push_toArray, List.append_toArray, List.nil_append, List.cons_append]
  gi_wp2
  gi_loopw [6] (fun _ wr => ∃ t : Nat, t ≤ N ∧ Hid (∃ O', J (pre ++ run i j t) O' wr ∧ KeptO (X :: O) W wr ∧ (∀ k ∈ O', k ∈ O ∨ W.heap.size ≤ k) ∧ wr.heap[X]? = some (.cells #[.int .i64 (i + (t : Int)), .int .i64 (j + (t : Int))] tSp (0, 0)))) (fun _ wr => (old - intOf ((wr.cell? ⟨X, 0, none⟩).getD undef)).toNat)
  case atStart => exact ⟨0, Nat.zero_le _, HS⟩
  case round =>
    obtain ⟨t, ht, HR⟩ := hrel
    clear HS
    obtain ⟨O1, hJ1, hK1, hO1, hX1⟩ := HR.out
    obtain ⟨⟨c0, c1⟩, cf⟩ := cells2 hX1
    have hsz := hK1.size
    obtain ⟨n1, n2, n3, n4, n5, n6, n7, n8⟩ := HN.out
    have hX1n : X ∉ O1 := fun hm => by
      rcases hO1 X hm with h | h
      · exact n4 h
      · omega
    have hY1n : Y ∉ O1 := fun hm => by
      rcases hO1 Y hm with h | h
      · exact n5 h
      · omega
    have hY1 : wr.heap[Y]? = some (.cells #[yldV l] tYld (0, 0)) := (hK1.block Y n8 (fun hm => by
      rcases List.mem_cons.1 hm with h | h
      · exact n3 h.symm
      · exact n5 h)).trans HYb.out
    have HC0 := Lib.hid c0
    have cy : wr.cell? ⟨Y, 0, none⟩ = some (yldV l) := by simp [World.cell?, hY1]
    have hold : old - i ≤ (N : Int) ∧ (0 < N → (N : Int) = old - i) := by have := HNn.out; omega
    obtain ⟨hol1, hol2⟩ := hold
    have HIn := Lib.hid (And.intro hX1n (And.intro hY1n (And.intro hX1 (And.intro hY1 (And.intro hJ1 (And.intro hK1 hO1))))))
    clear hX1n hY1n hX1 hY1 hK1 hO1 hJ1 n1 n2 n3 n4 n5
    by_cases hlt : t < N
    · have e1 : (N : Int) = old - i := hol2 (by omega)
      have hd : decide (i + (t : Int) < old) = true := decide_eq_true (by omega)
      have hx : pre ++ run i j t ++ [⟨i + (t : Int), j + (t : Int)⟩] <+: PL := by
        rw [List.append_assoc, ← run_snoc]
        exact (List.prefix_append_right_inj pre).2 (run_pre i j (by omega)) |>.trans HP.out
      obtain ⟨fn, tmps, assign, body, hy, hR⟩ := HY.out _ O1 ⟨i + (t : Int), j + (t : Int)⟩ wr HIn.out.2.2.2.2.1 hx
      have b1 : i + (t : Int) ≤ 30000 := by omega
      have b2 : j + (t : Int) ≤ 30000 := by omega
      have b3 : 0 ≤ i + (t : Int) := by omega
      have b4 : 0 ≤ j + (t : Int) := by omega
      have HX := Lib.hid hx
      have HE := Lib.hid e1
      clear hx e1 hol1 hol2
      gi_wp2
      refine hR.mono ?_
      rintro e W3 (⟨rfl, O3, hJ3, hK3, hO3⟩ | ⟨rfl, hJx⟩)
      · obtain ⟨q1, q2, q3, q4, q5, q6, q7⟩ := HIn.out
        have hX3 : W3.heap[X]? = some (.cells #[.int .i64 (i + (t : Int)), .int .i64 (j + (t : Int))] tSp (0, 0)) := (hK3.block X (by omega) q1).trans q3
        obtain ⟨⟨d0, d1⟩, df⟩ := cells2 hX3
        have HNx : Hid (∃ O', J (pre ++ run i j (t + 1)) O' ((W3.setCell ⟨X, 0, none⟩ (.int .i64 (i + (t : Int) + 1))).setCell ⟨X, 1, none⟩ (.int .i64 (j + (t : Int) + 1))) ∧ KeptO (X :: O) W ((W3.setCell ⟨X, 0, none⟩ (.int .i64 (i + (t : Int) + 1))).setCell ⟨X, 1, none⟩ (.int .i64 (j + (t : Int) + 1))) ∧ (∀ k ∈ O', k ∈ O ∨ W.heap.size ≤ k) ∧ ((W3.setCell ⟨X, 0, none⟩ (.int .i64 (i + (t : Int) + 1))).setCell ⟨X, 1, none⟩ (.int .i64 (j + (t : Int) + 1))).heap[X]? = some (.cells #[.int .i64 (i + ((t + 1 : Nat) : Int)), .int .i64 (j + ((t + 1 : Nat) : Int))] tSp (0, 0))) := Lib.hid (by
          obtain ⟨n1, _, _, n4, _, n6, n7, _⟩ := HN.out
          have hX3n : X ∉ O3 := fun hm => by
            rcases hO3 X hm with h | h
            · exact q1 h
            · omega
          have hs : KeptO [X] W3 ((W3.setCell ⟨X, 0, none⟩ (.int .i64 (i + (t : Int) + 1))).setCell ⟨X, 1, none⟩ (.int .i64 (j + (t : Int) + 1))) := ((KeptO.refl [X] W3).setCell (p := ⟨X, 0, none⟩) (.inl (by simp)) _).setCell (p := ⟨X, 1, none⟩) (.inl (by simp)) _
          have hsz3 := hK3.size
          refine ⟨O3, ?_, ?_, ?_, ?_⟩
          · rw [run_snoc, ← List.append_assoc]
            exact HJ.out _ _ _ _ hJ3 (Eff.of_kept hs (by omega) (HJl.out _ _ _ hJ3) (fun k hk => by
              obtain rfl : k = X := by simpa using hk
              exact ⟨n1, hX3n⟩))
          · refine (q6.trans hK3 (fun k hk => ?_)).trans hs (fun k hk => ?_)
            · rcases q7 k hk with h | h
              · exact .inl (List.mem_cons_of_mem _ h)
              · exact .inr h
            · obtain rfl : k = X := by simpa using hk
              exact .inl (by simp)
          · intro k hk
            rcases hO3 k hk with h | h
            · exact q7 k h
            · exact .inr (by omega)
          · rw [set2 hX3]
            rw [show ((t + 1 : Nat) : Int) = (t : Int) + 1 from rfl, Int.add_assoc, Int.add_assoc])
        clear HIn hJ3 hK3 hO3 q1 q2 q3 q4 q5 q6 q7 hX3 hR hy cf c0 c1 cy
        gi_wp2
        go_roundw
        case rel => exact ⟨t + 1, by omega, HNx⟩
        case measure =>
          obtain ⟨_, _, _, _, hh⟩ := HNx.out
          have e := HE.out
          rw [(cells2 hh).1.1, HC0.out]
          simp [intOf]
          omega
      · have HQ := Lib.hid hJx
        clear hJx
        gi_wp2
        go_ret
        exact .inr ⟨rfl, _, by simp, HX.out, HQ.out⟩
    · have hd : decide (i + (t : Int) < old) = false := decide_eq_false (by omega)
      obtain rfl : t = N := by omega
      clear hol1 hol2
      gi_wp2
      go_ret
      refine .inl ⟨rfl, O1, ?_⟩
      rw [HNn.out]
      exact ⟨HIn.out.2.2.2.2.1, HIn.out.2.2.2.2.2.1, HIn.out.2.2.2.2.2.2, HIn.out.2.2.1⟩
/-- What the iterator needs to find as it was: the boxes of the script and of the number of lines, the script's own memory. -/
structure Cap (W : World) (B : Nat) (A : Option Addr) (N c : Nat) (l : List Ch) (m : Int) : Prop where
  b0 : W.cell? ⟨B, 0, none⟩ = some (.slice A N c)
  b1 : W.cell? ⟨B + 1, 0, none⟩ = some (.int .i64 m)
  rd : RdC W (.slice A N c) l
def Sep (B : Nat) (A : Option Addr) (N : Nat) (k : Nat) : Prop := k ≠ B ∧ k ≠ B + 1 ∧ (0 < N → ∀ a, A = some a → k ≠ a.block)
theorem Cap.kept {W W' : World} {B : Nat} {A : Option Addr} {N c : Nat} {l : List Ch} {m : Int} {O : List Nat} (h : Cap W B A N c l m) (hk : KeptO O W W') (hO : ∀ k ∈ O, Sep B A N k) : Cap W' B A N c l m := by
  have hc : ∀ b o u, W.cell? ⟨b, o, none⟩ = some u → b ∉ O → W'.cell? ⟨b, o, none⟩ = some u := fun b o u h1 h2 =>
    (World.cell?_of_block (w := W) (a := ⟨b, o, none⟩) (hk.block b (Tx.cell_lt h1) h2)).trans h1
  refine ⟨hc _ _ _ h.b0 (fun hm => (hO _ hm).1 rfl), hc _ _ _ h.b1 (fun hm => (hO _ hm).2.1 rfl), ?_⟩
  obtain ⟨A', c', e, hcap, hr⟩ := h.rd
  refine ⟨A', c', e, hcap, fun hp => ?_⟩
  obtain ⟨b, off, e2, hcell⟩ := hr hp
  refine ⟨b, off, e2, fun j hj i hi => hc _ _ _ (hcell j hj i hi) (fun hm => ?_)⟩
  have e3 : A = A' := by injection e
  have e4 : N = l.length := by injection e
  exact (hO _ hm).2.2 (by omega) _ (e3.trans e2) rfl
theorem Cap.sep {W : World} {B : Nat} {A : Option Addr} {N c : Nat} {l : List Ch} {m : Int} (h : Cap W B A N c l m) {k : Nat} (hk : W.heap.size ≤ k) : Sep B A N k := by
  have h0 := Tx.cell_lt h.b0
  have h1 := Tx.cell_lt h.b1
  refine ⟨by omega, by omega, fun hp a ha => ?_⟩
  obtain ⟨A', c', e, hcap, hr⟩ := h.rd
  have e4 : N = l.length := by injection e
  obtain ⟨b, off, e2, hcell⟩ := hr (by omega)
  have e3 : A = A' := by injection e
  have h2 := Tx.cell_lt (hcell 0 (by omega) 0 (show 0 < 4 by decide))
  rw [e3, e2] at ha
  cases ha
  show k ≠ b
  omega
def ItPost (J : List Sp → List Nat → World → Prop) (Jx : List Sp → World → Prop) (PL : List Sp) (e : Ending) (W' : World) : Prop :=
  (∃ v, e = .returned v) ∧ ((∃ O, J PL O W') ∨ (∃ pre, pre ≠ [] ∧ pre <+: PL ∧ Jx pre W'))
end Sc
end Go.Proofs.Ytldommbelpcegaa

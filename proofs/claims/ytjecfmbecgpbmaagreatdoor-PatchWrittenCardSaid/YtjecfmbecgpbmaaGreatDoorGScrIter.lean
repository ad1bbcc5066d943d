/- Facts; each states its conditions. -/
import Derived.Test.YtjecfmbecgpbmaaGreatDoorGScrBase
import Derived.RangeFuncGives
import Derived.RangeFuncOwn
import Derived.RangeFuncCalls
import Derived.RangeFuncLeaves
import Derived.RangeFuncBound
import Derived.Maps.AppendAt
import Derived.Shelf.AbstractIn
import Derived.OwnWalkIn
import Derived.TacticsInMore
import Derived.RegionIn
import Derived.LoopNIn
import Derived.LoopIn
import Derived.Sort.QuietTacIn
namespace Go.Proofs.YtjecfmbecgpbmaaGreatDoor
section
namespace Cm
end Cm
open Go.RowKit
attribute [local go_sem] Oper.semAt_some
namespace Sc
open Cm
structure KeptO (O : List Nat) (w w' : World) : Prop where
 os : w'.os = w.os
 tape : w'.tape = w.tape
 output : w'.output = w.output
 size : w.heap.size ≤ w'.heap.size
 block : ∀ k, k < w.heap.size → k ∉ O → w'.heap[k]? = w.heap[k]?
structure Eff (O : List Nat) (n : Nat) (w w' : World) : Prop where
 os : w'.os = w.os
 tape : w'.tape = w.tape
 output : w'.output = w.output
 size : w.heap.size ≤ w'.heap.size
 block : ∀ k, (k < n ∨ k ∈ O) → w'.heap[k]? = w.heap[k]?
theorem KeptO.refl (O : List Nat) (w : World) : KeptO O w w := ⟨rfl, rfl, rfl, Nat.le_refl _, fun _ _ _ => rfl⟩
theorem KeptO.trans {O O' : List Nat} {a b c : World} (h : KeptO O a b) (k : KeptO O' b c) (hO : ∀ i ∈ O', i ∈ O ∨ a.heap.size ≤ i) : KeptO O a c :=
 ⟨k.os.trans h.os, k.tape.trans h.tape, k.output.trans h.output, Nat.le_trans h.size k.size, fun i hi hn =>
  (k.block i (Nat.lt_of_lt_of_le hi h.size) (fun hm => by rcases hO i hm with h1 | h1; exact hn h1; omega)).trans (h.block i hi hn)⟩
theorem KeptO.alloc {O : List Nat} {a w : World} (h : KeptO O a w) (o : Obj) : KeptO O a (w.alloc o) :=
 h.trans (O' := []) ⟨rfl, rfl, rfl, by simp, fun k hk _ => Below.heap_alloc _ _ _ hk⟩ (fun i hi => by cases hi)
theorem KeptO.drew {O : List Nat} {a w : World} (h : KeptO O a w) : KeptO O a w.drew := ⟨h.os, h.tape, h.output, h.size, h.block⟩
theorem KeptO.drewN {O : List Nat} {a w : World} (h : KeptO O a w) (m : Nat) : KeptO O a (w.drewN m) := by
 induction m with
 | zero => exact h
 | succ m ih => exact ih.drew
theorem KeptO.setCell {O : List Nat} {a w : World} (h : KeptO O a w) {p : Addr} (hp : p.block ∈ O ∨ a.heap.size ≤ p.block) (u : Value) : KeptO O a (w.setCell p u) :=
 h.trans (O' := [p.block]) ⟨rfl, rfl, rfl, by simp [World.setCell], fun k _ hn => Below.heap_setCell _ _ _ _ (by simpa using hn)⟩ (fun i hi => by
  obtain rfl : i = p.block := by simpa using hi
  exact hp)
theorem Eff.of_kept {O O' : List Nat} {n : Nat} {w w' : World} (h : KeptO O' w w') (hn : n ≤ w.heap.size) (hO : ∀ k ∈ O, k < w.heap.size) (hd : ∀ k ∈ O', n ≤ k ∧ k ∉ O) : Eff O n w w' :=
 ⟨h.os, h.tape, h.output, h.size, fun k hk => h.block k (by rcases hk with h1 | h1; omega; exact hO k h1) (fun hm => by
  have := hd k hm
  rcases hk with h1 | h1
  · omega
  · exact this.2 h1)⟩
abbrev tYld : TypeId := 215
abbrev yldV (l : Nat) : Value := .func (.yield l) #[] #[]
abbrev spV (s : Sp) : Value := .agg #[.int .i64 s.frm, .int .i64 s.to]
abbrev matV (B : Nat) : Value := .func (.func 170) #[] #[.pointer (some ⟨B, 0, none⟩), .pointer (some ⟨B + 1, 0, none⟩)]
theorem matched_any (A : Option Addr) (n c : Nat) (m : Int) (w : World) : Calls Tryz.prog 150 #[.slice A n c, .int .i64 m] w fun e w' => e = .returned (matV w.heap.size) ∧ w' = (w.alloc (.cells #[.slice A n c] tChs)).alloc (.cells #[.int .i64 m] 3) := by
 go_enter Tryz.func150, Tryz.ntmps150
 go_wp2_with fail
 go_ret
 exact ⟨rfl, rfl⟩
def Yld (n : Nat) (l : Nat) (J : List Sp → List Nat → World → Prop) (Jx : List Sp → World → Prop) (PL : List Sp) : Prop :=
 ∀ pre O (x : Sp) W, J pre O W → pre ++ [x] <+: PL → YieldAt Fence.wide n Tryz.prog l #[spV x] W fun e W' => (e = .returned (.bool true) ∧ ∃ O', J (pre ++ [x]) O' W' ∧ KeptO O W W' ∧ ∀ k ∈ O', k ∈ O ∨ W.heap.size ≤ k) ∨ (e = .returned (.bool false) ∧ Jx (pre ++ [x]) W')
theorem run_pre (i j : Int) {t n : Nat} (h : t ≤ n) : run i j t <+: run i j n := by
 obtain ⟨d, rfl⟩ : ∃ d, n = t + d := ⟨n - t, by omega⟩
 clear h
 induction d with
 | zero => exact List.prefix_refl _
 | succ d ih => rw [show t + (d + 1) = (t + d) + 1 from by omega, run_snoc]; exact ih.trans (List.prefix_append _ _)
def BefPost (J : List Sp → List Nat → World → Prop) (Jx : List Sp → World → Prop) (PL pre : List Sp) (O : List Nat) (X : Nat) (i j old : Int) (W : World) (e : Ending) (W' : World) : Prop :=
 (e = .returned (.bool true) ∧ ∃ O', J (pre ++ run i j (old - i).toNat) O' W' ∧ KeptO (X :: O) W W' ∧ (∀ k ∈ O', k ∈ O ∨ W.heap.size ≤ k) ∧ W'.heap[X]? = some (.cells #[.int .i64 (i + ((old - i).toNat : Int)), .int .i64 (j + ((old - i).toNat : Int))] tSp (0, 0))) ∨
 (e = .returned (.bool false) ∧ ∃ pre', pre' ≠ [] ∧ pre' <+: PL ∧ Jx pre' W')
theorem cells2 {W : World} {X : Nat} {a b : Value} (h : W.heap[X]? = some (.cells #[a, b] tSp (0, 0))) : (W.cell? ⟨X, 0, none⟩ = some a ∧ W.cell? ⟨X, 1, none⟩ = some b) ∧ ∀ j, W.frozen? ⟨X, j, none⟩ = false :=
 ⟨⟨by simp [World.cell?, h], by simp [World.cell?, h]⟩, fun j => by simp [World.frozen?, h]⟩
theorem set2 {W : World} {X : Nat} {a b u v : Value} (h : W.heap[X]? = some (.cells #[a, b] tSp (0, 0))) : ((W.setCell ⟨X, 0, none⟩ u).setCell ⟨X, 1, none⟩ v).heap[X]? = some (.cells #[u, v] tSp (0, 0)) := by
 rw [heap_setCell_same _ X 1 _ tSp v (heap_setCell_same W X 0 _ tSp u h)]
 rfl
set_option maxRecDepth 100000 in
set_option maxHeartbeats 4000000 in
theorem before_in (f : Nat) (hf : 1 ≤ f) (l : Nat) (J : List Sp → List Nat → World → Prop) (Jx : List Sp → World → Prop) (PL : List Sp) (n0 X Y : Nat) (hY : Yld (f - 1) l J Jx PL)
 (hJ : ∀ pre O W W', J pre O W → Eff O n0 W W' → J pre O W') (hJl : ∀ pre O W, J pre O W → ∀ k ∈ O, k < W.heap.size)
 (pre : List Sp) (O : List Nat) (i j old : Int) (W : World) (hi : 0 ≤ i ∧ i ≤ 20000) (hj : 0 ≤ j ∧ j ≤ 20000) (ho : old ≤ 4096) (hp : pre ++ run i j (old - i).toNat <+: PL)
 (h0 : J pre O W) (hX : W.heap[X]? = some (.cells #[.int .i64 i, .int .i64 j] tSp (0, 0))) (hYb : W.heap[Y]? = some (.cells #[yldV l] tYld (0, 0))) (hXY : n0 ≤ X ∧ n0 ≤ Y ∧ X ≠ Y ∧ X ∉ O ∧ Y ∉ O) (hn0 : n0 ≤ W.heap.size) :
 CallsIn Fence.wide f Tryz.prog 171 #[.int .i64 old, .pointer (some ⟨X, 0, none⟩), .pointer (some ⟨Y, 0, none⟩)] W (BefPost J Jx PL pre O X i j old W) := by
 have HY := Lib.hid hY
 have HJ := Lib.hid hJ
 have HJl := Lib.hid hJl
 have HP := Lib.hid hp
 obtain ⟨hx1, hx2, hx3, hx4, hx5⟩ := hXY
 have HN := Lib.hid (And.intro hx1 (And.intro hx2 (And.intro hx3 (And.intro hx4 (And.intro hx5 (And.intro hn0 (And.intro (Array.getElem?_eq_some_iff.1 hX).1 (Array.getElem?_eq_some_iff.1 hYb).1)))))))
 have HYb := Lib.hid hYb
 obtain ⟨i0, i1⟩ := hi
 obtain ⟨j0, j1⟩ := hj
 have HS : Hid (∃ O', J (pre ++ run i j 0) O' W ∧ KeptO (X :: O) W W ∧ (∀ k ∈ O', k ∈ O ∨ W.heap.size ≤ k) ∧ W.heap[X]? = some (.cells #[.int .i64 (i + ((0 : Nat) : Int)), .int .i64 (j + ((0 : Nat) : Int))] tSp (0, 0))) := Lib.hid ⟨O, by rw [run_zero, List.append_nil]; exact h0, KeptO.refl _ _, fun k hk => .inl hk, by simpa using hX⟩
 generalize hn : (old - i).toNat = N at HP
 have HNn := Lib.hid hn
 clear hY hJ hJl hp h0 hX hYb hx1 hx2 hx3 hx4 hx5 hn0 hn
 unfold BefPost
 refine callsIn_of_wp Tryz.func171 rfl trivial ?_ rfl
 simp only [Tryz.ntmps171, List.size_toArray, List.length_cons, List.length_nil, Nat.reduceAdd, Nat.reduceSub, Array.replicate_succ, Array.replicate_zero, List.push_toArray, List.append_toArray, List.nil_append, List.cons_append]
 gi_wp2
 gi_loopw [6] (fun _ wr => ∃ t : Nat, t ≤ N ∧ Hid (∃ O', J (pre ++ run i j t) O' wr ∧ KeptO (X :: O) W wr ∧ (∀ k ∈ O', k ∈ O ∨ W.heap.size ≤ k) ∧ wr.heap[X]? = some (.cells #[.int .i64 (i + (t : Int)), .int .i64 (j + (t : Int))] tSp (0, 0)))) (fun _ wr => (old - intOf ((wr.cell? ⟨X, 0, none⟩).getD undef)).toNat)
 case atStart => exact ⟨0, Nat.zero_le _, HS⟩
 case round =>
  obtain ⟨t, ht, HR⟩ := hrel
  clear HS
  obtain ⟨O1, hJ1, hK1, hO1, hX1⟩ := HR.out
  obtain ⟨⟨c0, c1⟩, cf⟩ := cells2 hX1
  have hsz := hK1.size
  obtain ⟨n1, n2, n3, n4, n5, n6, n7, n8⟩ := HN.out
  have hX1n : X ∉ O1 := fun hm => by
   rcases hO1 X hm with h | h
   · exact n4 h
   · omega
  have hY1n : Y ∉ O1 := fun hm => by
   rcases hO1 Y hm with h | h
   · exact n5 h
   · omega
  have hY1 : wr.heap[Y]? = some (.cells #[yldV l] tYld (0, 0)) := (hK1.block Y n8 (fun hm => by
   rcases List.mem_cons.1 hm with h | h
   · exact n3 h.symm
   · exact n5 h)).trans HYb.out
  have HC0 := Lib.hid c0
  have cy : wr.cell? ⟨Y, 0, none⟩ = some (yldV l) := by simp [World.cell?, hY1]
  have hold : old - i ≤ (N : Int) ∧ (0 < N → (N : Int) = old - i) := by have := HNn.out; omega
  obtain ⟨hol1, hol2⟩ := hold
  have HIn := Lib.hid (And.intro hX1n (And.intro hY1n (And.intro hX1 (And.intro hY1 (And.intro hJ1 (And.intro hK1 hO1))))))
  clear hX1n hY1n hX1 hY1 hK1 hO1 hJ1 n1 n2 n3 n4 n5
  by_cases hlt : t < N
  · have e1 : (N : Int) = old - i := hol2 (by omega)
    have hd : decide (i + (t : Int) < old) = true := decide_eq_true (by omega)
    have hx : pre ++ run i j t ++ [⟨i + (t : Int), j + (t : Int)⟩] <+: PL := by
     rw [List.append_assoc, ← run_snoc]
     exact (List.prefix_append_right_inj pre).2 (run_pre i j (by omega)) |>.trans HP.out
    obtain ⟨fn, tmps, assign, body, hy, hR⟩ := HY.out _ O1 ⟨i + (t : Int), j + (t : Int)⟩ wr HIn.out.2.2.2.2.1 hx
    have b1 : i + (t : Int) ≤ 30000 := by omega
    have b2 : j + (t : Int) ≤ 30000 := by omega
    have b3 : 0 ≤ i + (t : Int) := by omega
    have b4 : 0 ≤ j + (t : Int) := by omega
    have HX := Lib.hid hx
    have HE := Lib.hid e1
    clear hx e1 hol1 hol2
    gi_wp2
    refine hR.mono ?_
    rintro e W3 (⟨rfl, O3, hJ3, hK3, hO3⟩ | ⟨rfl, hJx⟩)
    · obtain ⟨q1, q2, q3, q4, q5, q6, q7⟩ := HIn.out
      have hX3 : W3.heap[X]? = some (.cells #[.int .i64 (i + (t : Int)), .int .i64 (j + (t : Int))] tSp (0, 0)) := (hK3.block X (by omega) q1).trans q3
      obtain ⟨⟨d0, d1⟩, df⟩ := cells2 hX3
      have HNx : Hid (∃ O', J (pre ++ run i j (t + 1)) O' ((W3.setCell ⟨X, 0, none⟩ (.int .i64 (i + (t : Int) + 1))).setCell ⟨X, 1, none⟩ (.int .i64 (j + (t : Int) + 1))) ∧ KeptO (X :: O) W ((W3.setCell ⟨X, 0, none⟩ (.int .i64 (i + (t : Int) + 1))).setCell ⟨X, 1, none⟩ (.int .i64 (j + (t : Int) + 1))) ∧ (∀ k ∈ O', k ∈ O ∨ W.heap.size ≤ k) ∧ ((W3.setCell ⟨X, 0, none⟩ (.int .i64 (i + (t : Int) + 1))).setCell ⟨X, 1, none⟩ (.int .i64 (j + (t : Int) + 1))).heap[X]? = some (.cells #[.int .i64 (i + ((t + 1 : Nat) : Int)), .int .i64 (j + ((t + 1 : Nat) : Int))] tSp (0, 0))) := Lib.hid (by
       obtain ⟨n1, _, _, n4, _, n6, n7, _⟩ := HN.out
       have hX3n : X ∉ O3 := fun hm => by
        rcases hO3 X hm with h | h
        · exact q1 h
        · omega
       have hs : KeptO [X] W3 ((W3.setCell ⟨X, 0, none⟩ (.int .i64 (i + (t : Int) + 1))).setCell ⟨X, 1, none⟩ (.int .i64 (j + (t : Int) + 1))) := ((KeptO.refl [X] W3).setCell (p := ⟨X, 0, none⟩) (.inl (by simp)) _).setCell (p := ⟨X, 1, none⟩) (.inl (by simp)) _
       have hsz3 := hK3.size
       refine ⟨O3, ?_, ?_, ?_, ?_⟩
       · rw [run_snoc, ← List.append_assoc]
         exact HJ.out _ _ _ _ hJ3 (Eff.of_kept hs (by omega) (HJl.out _ _ _ hJ3) (fun k hk => by
          obtain rfl : k = X := by simpa using hk
          exact ⟨n1, hX3n⟩))
       · refine (q6.trans hK3 (fun k hk => ?_)).trans hs (fun k hk => ?_)
         · rcases q7 k hk with h | h
           · exact .inl (List.mem_cons_of_mem _ h)
           · exact .inr h
         · obtain rfl : k = X := by simpa using hk
           exact .inl (by simp)
       · intro k hk
         rcases hO3 k hk with h | h
         · exact q7 k h
         · exact .inr (by omega)
       · rw [set2 hX3]
         rw [show ((t + 1 : Nat) : Int) = (t : Int) + 1 from rfl, Int.add_assoc, Int.add_assoc])
      clear HIn hJ3 hK3 hO3 q1 q2 q3 q4 q5 q6 q7 hX3 hR hy cf c0 c1 cy
      gi_wp2
      go_roundw
      case rel => exact ⟨t + 1, by omega, HNx⟩
      case measure =>
       obtain ⟨_, _, _, _, hh⟩ := HNx.out
       have e := HE.out
       rw [(cells2 hh).1.1, HC0.out]
       simp [intOf]
       omega
    · have HQ := Lib.hid hJx
      clear hJx
      gi_wp2
      go_ret
      exact .inr ⟨rfl, _, by simp, HX.out, HQ.out⟩
  · have hd : decide (i + (t : Int) < old) = false := decide_eq_false (by omega)
    obtain rfl : t = N := by omega
    clear hol1 hol2
    gi_wp2
    go_ret
    refine .inl ⟨rfl, O1, ?_⟩
    rw [HNn.out]
    exact ⟨HIn.out.2.2.2.2.1, HIn.out.2.2.2.2.2.1, HIn.out.2.2.2.2.2.2, HIn.out.2.2.1⟩
structure Cap (W : World) (B : Nat) (A : Option Addr) (N c : Nat) (l : List Ch) (m : Int) : Prop where
 b0 : W.cell? ⟨B, 0, none⟩ = some (.slice A N c)
 b1 : W.cell? ⟨B + 1, 0, none⟩ = some (.int .i64 m)
 rd : RdC W (.slice A N c) l
def Sep (B : Nat) (A : Option Addr) (N : Nat) (k : Nat) : Prop := k ≠ B ∧ k ≠ B + 1 ∧ (0 < N → ∀ a, A = some a → k ≠ a.block)
theorem Cap.kept {W W' : World} {B : Nat} {A : Option Addr} {N c : Nat} {l : List Ch} {m : Int} {O : List Nat} (h : Cap W B A N c l m) (hk : KeptO O W W') (hO : ∀ k ∈ O, Sep B A N k) : Cap W' B A N c l m := by
 have hc : ∀ b o u, W.cell? ⟨b, o, none⟩ = some u → b ∉ O → W'.cell? ⟨b, o, none⟩ = some u := fun b o u h1 h2 =>
  (World.cell?_of_block (w := W) (a := ⟨b, o, none⟩) (hk.block b (Tx.cell_lt h1) h2)).trans h1
 refine ⟨hc _ _ _ h.b0 (fun hm => (hO _ hm).1 rfl), hc _ _ _ h.b1 (fun hm => (hO _ hm).2.1 rfl), ?_⟩
 obtain ⟨A', c', e, hcap, hr⟩ := h.rd
 refine ⟨A', c', e, hcap, fun hp => ?_⟩
 obtain ⟨b, off, e2, hcell⟩ := hr hp
 refine ⟨b, off, e2, fun j hj i hi => hc _ _ _ (hcell j hj i hi) (fun hm => ?_)⟩
 have e3 : A = A' := by injection e
 have e4 : N = l.length := by injection e
 exact (hO _ hm).2.2 (by omega) _ (e3.trans e2) rfl
theorem Cap.sep {W : World} {B : Nat} {A : Option Addr} {N c : Nat} {l : List Ch} {m : Int} (h : Cap W B A N c l m) {k : Nat} (hk : W.heap.size ≤ k) : Sep B A N k := by
 have h0 := Tx.cell_lt h.b0
 have h1 := Tx.cell_lt h.b1
 refine ⟨by omega, by omega, fun hp a ha => ?_⟩
 obtain ⟨A', c', e, hcap, hr⟩ := h.rd
 have e4 : N = l.length := by injection e
 obtain ⟨b, off, e2, hcell⟩ := hr (by omega)
 have e3 : A = A' := by injection e
 have h2 := Tx.cell_lt (hcell 0 (by omega) 0 (show 0 < 4 by decide))
 rw [e3, e2] at ha
 cases ha
 show k ≠ b
 omega
def ItPost (J : List Sp → List Nat → World → Prop) (Jx : List Sp → World → Prop) (PL : List Sp) (e : Ending) (W' : World) : Prop :=
 (∃ v, e = .returned v) ∧ ((∃ O, J PL O W') ∨ (∃ pre, pre ≠ [] ∧ pre <+: PL ∧ Jx pre W'))
end Sc
end
section
open Go.RowKit
attribute [local go_sem] Oper.semAt_some
namespace Sc
open Cm
def ChN (c : Ch) : Prop := (0 ≤ c.old ∧ c.old ≤ 4096) ∧ (0 ≤ c.oldLen ∧ c.oldLen ≤ 4096) ∧ (0 ≤ c.new ∧ c.new ≤ 4096) ∧ (0 ≤ c.newLen ∧ c.newLen ≤ 4096)
structure ItS (J : List Sp → List Nat → World → Prop) (PL : List Sp) (l : List Ch) (m : Int) (B : Nat) (A : Option Addr) (N c lp X Y n0 : Nat) (k : Nat) (i j : Int) (pre : List Sp) (O : List Nat) (W : World) : Prop where
 jj : J pre O W
 cap : Cap W B A N c l m
 x : W.heap[X]? = some (.cells #[.int .i64 i, .int .i64 j] tSp (0, 0))
 y : W.heap[Y]? = some (.cells #[yldV lp] tYld (0, 0))
 xo : X ∉ O ∧ Y ∉ O
 sz : n0 ≤ W.heap.size
 pl : pre ++ mtF m i j (l.drop k) = PL
theorem ItS.alloc {J : List Sp → List Nat → World → Prop} {PL : List Sp} {l : List Ch} {m : Int} {B : Nat} {A : Option Addr} {N c lp X Y n0 k : Nat} {i j : Int} {pre : List Sp} {O : List Nat} {W : World} (h : ItS J PL l m B A N c lp X Y n0 k i j pre O W)
 (hJ : ∀ pre O W W', J pre O W → Eff O n0 W W' → J pre O W') (hJl : ∀ pre O W, J pre O W → ∀ k ∈ O, k < W.heap.size ∧ Sep B A N k) (o : Obj) : ItS J PL l m B A N c lp X Y n0 k i j pre O (W.alloc o) := by
 have hk : KeptO [] W (W.alloc o) := (KeptO.refl _ _).alloc o
 have lx : X < W.heap.size := (Array.getElem?_eq_some_iff.1 h.x).1
 have ly : Y < W.heap.size := (Array.getElem?_eq_some_iff.1 h.y).1
 refine ⟨hJ _ _ _ _ h.jj (Eff.of_kept hk h.sz (fun k hk => (hJl _ _ _ h.jj k hk).1) (fun k hk => by cases hk)), h.cap.kept hk (fun k hk => by cases hk), (hk.block X lx (by simp)).trans h.x, (hk.block Y ly (by simp)).trans h.y, h.xo, Nat.le_trans h.sz hk.size, h.pl⟩
set_option maxRecDepth 100000 in
set_option maxHeartbeats 4000000 in
theorem matched1_in (f : Nat) (hf : 2 ≤ f) (lp B : Nat) (A : Option Addr) (N c : Nat) (l : List Ch) (m : Int) (hN : l.length = N) (hNb : N ≤ 1000000) (hb : ∀ c ∈ l, ChN c) (hm : 0 ≤ m ∧ m ≤ 4096)
 (J : List Sp → List Nat → World → Prop) (Jx : List Sp → World → Prop) (W : World) (hY : Yld (f - 1 - 1) lp J Jx (mtF m 0 0 l))
 (hJ : ∀ pre O W1 W', J pre O W1 → Eff O W.heap.size W1 W' → J pre O W') (hJl : ∀ pre O W, J pre O W → ∀ k ∈ O, k < W.heap.size ∧ Sep B A N k)
 (hc : Cap W B A N c l m) (O0 : List Nat) (h0 : J [] O0 W) :
 CallsIn Fence.wide f Tryz.prog 170 #[yldV lp, .pointer (some ⟨B, 0, none⟩), .pointer (some ⟨B + 1, 0, none⟩)] W (ItPost J Jx (mtF m 0 0 l)) := by
 have HB := Lib.hid hb
 obtain ⟨m0, m1⟩ := hm
 have hf1 : 1 ≤ f - 1 := by omega
 have hf0 : 1 ≤ f := by omega
 have HBef := Lib.hid (fun pre O i j old W1 a b c d e g1 g2 h k => before_in (f - 1) hf1 lp J Jx (mtF m 0 0 l) W.heap.size (W.heap.size + 1) W.heap.size hY hJ (fun pre O W h k hk => (hJl pre O W h k hk).1) pre O i j old W1 a b c d e g1 g2 h k)
 have hk2 : KeptO [] W ((W.alloc (.cells #[yldV lp] tYld)).alloc (.cells #[.int .i64 0, .int .i64 0] tSp)) := ((KeptO.refl _ _).alloc _).alloc _
 have HS0 : Hid (ItS J (mtF m 0 0 l) l m B A N c lp (W.heap.size + 1) W.heap.size W.heap.size 0 0 0 [] O0 ((W.alloc (.cells #[yldV lp] tYld)).alloc (.cells #[.int .i64 0, .int .i64 0] tSp))) := Lib.hid (by
  have a1 := heap_new W (.cells #[yldV lp] tYld)
  have a2 := heap_new (W.alloc (.cells #[yldV lp] tYld)) (.cells #[.int .i64 0, .int .i64 0] tSp)
  have s1 : (W.alloc (.cells #[yldV lp] tYld)).heap.size = W.heap.size + 1 := by simp
  rw [s1] at a2
  refine ⟨hJ _ _ _ _ h0 (Eff.of_kept hk2 (Nat.le_refl _) (fun k hk => (hJl _ _ _ h0 k hk).1) (fun k hk => by cases hk)), hc.kept hk2 (fun k hk => by cases hk), a2, (Below.heap_alloc _ _ _ (by rw [s1]; omega)).trans a1, ⟨fun hm => ?_, fun hm => ?_⟩, hk2.size, rfl⟩
  · have := (hJl _ _ _ h0 _ hm).1; omega
  · have := (hJl _ _ _ h0 _ hm).1; omega)
 have HCs := Lib.hid (fun k (hk : W.heap.size ≤ k) => hc.sep hk)
 have HJ := Lib.hid hJ
 have HJl := Lib.hid hJl
 have HN := Lib.hid hN
 have hcB := HS0.out.cap.b0
 have hcM := hc.b0
 clear hY hJ hJl h0 hc hb hN hk2
 refine callsIn_of_wp Tryz.func170 rfl trivial ?_ rfl
 simp only [Tryz.ntmps170, List.size_toArray, List.length_cons, List.length_nil, Nat.reduceAdd, Nat.reduceSub, Array.replicate_succ, Array.replicate_zero, List.push_toArray, List.append_toArray, List.nil_append, List.cons_append]
 gi_wp2
 generalize ((W.alloc (.cells #[yldV lp] tYld)).alloc (.cells #[.int .i64 0, .int .i64 0] tSp)) = W2 at HS0 hcB ⊢
 clear hcM
 generalize W.heap.size = n0 at *
 gi_loopw [11] (fun k' wr => ∃ (k : Nat) (i j : Int) (pre : List Sp) (O : List Nat), k' = .int .i64 (k : Int) ∧ k ≤ N ∧ (0 ≤ i ∧ i ≤ 10000) ∧ (0 ≤ j ∧ j ≤ 10000) ∧ Hid (ItS J (mtF m 0 0 l) l m B A N c lp (n0 + 1) n0 n0 k i j pre O wr)) (fun k' _ => N - (intOf k').toNat)
 case atStart => exact ⟨0, 0, 0, [], O0, rfl, Nat.zero_le _, ⟨by omega, by omega⟩, ⟨by omega, by omega⟩, HS0⟩
 case round =>
  obtain ⟨k, i, j, pre, O, rfl, hk, ⟨i0, i1⟩, ⟨j0, j1⟩, HS⟩ := hrel
  clear HS0 hcB
  by_cases hlt : k < N
  · have hx : k < l.length := by rw [HN.out]; exact hlt
    obtain ⟨b, off, rfl, c0, c1, c2, c3⟩ := RdC_at HS.out.cap.rd k hx
    obtain ⟨⟨o0, o1⟩, ⟨l0, l1⟩, ⟨w0, w1⟩, ⟨v0, v1⟩⟩ := HB.out _ (List.getElem_mem hx)
    have HPl : Hid (pre ++ (run i j (l[k].old - i).toNat ++ mtF m (l[k].old + l[k].oldLen) (l[k].new + l[k].newLen) (l.drop (k + 1))) = mtF m 0 0 l) := Lib.hid (by have := HS.out.pl; rw [drop_at hx] at this; exact this)
    have HSa := Lib.hid (HS.out.alloc HJ.out HJl.out (.cells #[.int .i64 l[k].old, .int .i64 l[k].oldLen, .int .i64 l[k].new, .int .i64 l[k].newLen] tCh))
    generalize l[k] = ch at *
    obtain ⟨o, ol, nw, nl⟩ := ch
    simp only at c0 c1 c2 c3 o0 o1 l0 l1 w0 w1 v0 v1
    have hdk : decide (k < N) = true := decide_eq_true hlt
    have q1 : (0 : Int) ≤ (k : Int) := by omega
    have q2 : (k : Int) < (N : Int) := by omega
    have HC : Hid (∀ kk, kk < (n0 + 1) + 1 → True) := Lib.hid (fun _ _ => trivial)
    have HCb : Hid ((wr.alloc (.cells #[.int .i64 o, .int .i64 ol, .int .i64 nw, .int .i64 nl] tCh)).heap[wr.heap.size]? = some (.cells #[.int .i64 o, .int .i64 ol, .int .i64 nw, .int .i64 nl] tCh (0, 0))) := Lib.hid (heap_new wr _)
    have HCo : Hid (wr.heap.size ∉ (n0 + 1) :: O) := Lib.hid (fun hm => by
     have lx : n0 + 1 < wr.heap.size := (Array.getElem?_eq_some_iff.1 HS.out.x).1
     rcases List.mem_cons.1 hm with h | h
     · omega
     · have := (HJl.out _ _ _ HS.out.jj _ h).1; omega)
    have hpre : pre ++ run i j (o - i).toNat <+: mtF m 0 0 l := by
     rw [← HPl.out, ← List.append_assoc]; exact List.prefix_append _ _
    have hbf := HBef.out pre O i j o (wr.alloc (.cells #[.int .i64 o, .int .i64 ol, .int .i64 nw, .int .i64 nl] tCh)) ⟨i0, by omega⟩ ⟨j0, by omega⟩ o1 hpre HSa.out.jj HSa.out.x HSa.out.y ⟨by omega, by omega, by omega, HSa.out.xo.1, HSa.out.xo.2⟩ HSa.out.sz
    have HBf := Lib.hid hbf
    clear hbf hpre HC
    gi_wp2_with (refine ⟨(trivial : Fence.wide.fn 171), ?_⟩; gi_at_call 171; refine HBf.out.mono ?_; clear HBf)
    · rintro e W3 (⟨rfl, O3, hJ3, hK3, hO3, hX3⟩ | ⟨rfl, pre', hp1, hp2, hp3⟩)
      · have hC3 : W3.heap[wr.heap.size]? = some (.cells #[.int .i64 o, .int .i64 ol, .int .i64 nw, .int .i64 nl] tCh (0, 0)) := (hK3.block _ (by simp) HCo.out).trans HCb.out
        have d0 : W3.cell? ⟨wr.heap.size, 0, none⟩ = some (.int .i64 o) := by simp [World.cell?, hC3]
        have d1 : W3.cell? ⟨wr.heap.size, 1, none⟩ = some (.int .i64 ol) := by simp [World.cell?, hC3]
        have d2 : W3.cell? ⟨wr.heap.size, 2, none⟩ = some (.int .i64 nw) := by simp [World.cell?, hC3]
        have d3 : W3.cell? ⟨wr.heap.size, 3, none⟩ = some (.int .i64 nl) := by simp [World.cell?, hC3]
        obtain ⟨⟨x0, x1⟩, xf⟩ := cells2 hX3
        have HNx : Hid (ItS J (mtF m 0 0 l) l m B (some ⟨b, off, none⟩) N c lp (n0 + 1) n0 n0 (k + 1) (o + ol) (nw + nl) (pre ++ run i j (o - i).toNat) O3 ((W3.setCell ⟨n0 + 1, 0, none⟩ (.int .i64 (o + ol))).setCell ⟨n0 + 1, 1, none⟩ (.int .i64 (nw + nl)))) := Lib.hid (by
         have lx : n0 + 1 < wr.heap.size := (Array.getElem?_eq_some_iff.1 HS.out.x).1
         have sa : (wr.alloc (.cells #[.int .i64 o, .int .i64 ol, .int .i64 nw, .int .i64 nl] tCh)).heap.size = wr.heap.size + 1 := by simp
         have s3 := hK3.size
         have hXn : n0 + 1 ∉ O3 := fun hm => by
          rcases hO3 _ hm with h | h
          · exact HSa.out.xo.1 h
          · omega
         have hYn : n0 ∉ O3 := fun hm => by
          rcases hO3 _ hm with h | h
          · exact HSa.out.xo.2 h
          · omega
         have hs : KeptO [n0 + 1] W3 ((W3.setCell ⟨n0 + 1, 0, none⟩ (.int .i64 (o + ol))).setCell ⟨n0 + 1, 1, none⟩ (.int .i64 (nw + nl))) := ((KeptO.refl [n0 + 1] W3).setCell (p := ⟨n0 + 1, 0, none⟩) (.inl (by simp)) _).setCell (p := ⟨n0 + 1, 1, none⟩) (.inl (by simp)) _
         have hall : KeptO ((n0 + 1) :: O) (wr.alloc (.cells #[.int .i64 o, .int .i64 ol, .int .i64 nw, .int .i64 nl] tCh)) ((W3.setCell ⟨n0 + 1, 0, none⟩ (.int .i64 (o + ol))).setCell ⟨n0 + 1, 1, none⟩ (.int .i64 (nw + nl))) := hK3.trans hs (fun k hk => by
          obtain rfl : k = n0 + 1 := by simpa using hk
          exact .inl (by simp))
         refine ⟨HJ.out _ _ _ _ hJ3 (Eff.of_kept hs (by have := HS.out.sz; omega) (fun k hk => (HJl.out _ _ _ hJ3 k hk).1) (fun k hk => ?_)), HSa.out.cap.kept hall (fun k hk => ?_), set2 hX3, ?_, ⟨hXn, hYn⟩, ?_, by rw [List.append_assoc]; exact HPl.out⟩
         · obtain rfl : k = n0 + 1 := by simpa using hk
           exact ⟨by omega, hXn⟩
         · rcases List.mem_cons.1 hk with h | h
           · subst h
             exact HCs.out _ (by omega)
           · exact (HJl.out _ _ _ HSa.out.jj k h).2
         · refine (hall.block n0 (by omega) (fun hm => ?_)).trans HSa.out.y
           rcases List.mem_cons.1 hm with h | h
           · omega
           · exact HSa.out.xo.2 h
         · have := hall.size
           have := HSa.out.sz
           omega)
        clear hC3 hX3 hJ3 hK3 hO3 HS HSa HCb HCo HPl c0 c1 c2 c3
        generalize wr.heap.size = cb at *
        gi_wp2
        go_roundw
        case rel => exact ⟨k + 1, o + ol, nw + nl, _, O3, by go_num, by omega, ⟨by omega, by omega⟩, ⟨by omega, by omega⟩, HNx⟩
        case measure => simp [intOf]; omega
      · have HQ := Lib.hid (And.intro hp1 (And.intro hp2 hp3))
        clear hp1 hp2 hp3
        gi_wp2
        go_end0
        exact ⟨⟨_, rfl⟩, .inr ⟨pre', HQ.out⟩⟩
  · have hdk : decide (k < N) = false := decide_eq_false hlt
    have hcm := HS.out.cap.b1
    have HPl : Hid (pre ++ run i j (m - i).toNat = mtF m 0 0 l) := Lib.hid (by
     have h := HS.out.pl
     rw [List.drop_eq_nil_of_le (by rw [HN.out]; omega)] at h
     exact h)
    have hbf := HBef.out pre O i j m wr ⟨i0, by omega⟩ ⟨j0, by omega⟩ m1 (by rw [HPl.out]; exact List.prefix_refl _) HS.out.jj HS.out.x HS.out.y ⟨by omega, by omega, by omega, HS.out.xo.1, HS.out.xo.2⟩ HS.out.sz
    have HBf := Lib.hid hbf
    clear hbf
    gi_wp2_with (refine ⟨(trivial : Fence.wide.fn 171), ?_⟩; gi_at_call 171; refine HBf.out.mono ?_; clear HBf)
    rintro e W3 (⟨rfl, O3, hJ3, hK3, hO3, hX3⟩ | ⟨rfl, pre', hp1, hp2, hp3⟩)
    · have HQ := Lib.hid hJ3
      clear hJ3 hK3 hO3 hX3
      gi_wp2
      go_end0
      exact ⟨⟨_, rfl⟩, .inl ⟨O3, by rw [← HPl.out]; exact HQ.out⟩⟩
    · have HQ := Lib.hid (And.intro hp1 (And.intro hp2 hp3))
      clear hp1 hp2 hp3
      gi_wp2
      go_end0
      exact ⟨⟨_, rfl⟩, .inr ⟨pre', HQ.out⟩⟩
end Sc
end
end Go.Proofs.YtjecfmbecgpbmaaGreatDoor

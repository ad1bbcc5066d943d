/-
  Walks of layer 6: the iterator over the longest matches, for every loop body that keeps what a walker reads. Conditions: a valid automaton, a text of at most 100000 bytes, and an offset within the text.
-/
import Derived.Test.YtgadomcbaenodaaSeaNewW
import Derived.Test.YtgadomcbaenodaaSeaBack
import Derived.Test.YtgadomcbaenodaaSeaLong
import Derived.RangeFuncGives
import Derived.RangeFuncOwn
import Derived.RangeFuncCalls
import Derived.RangeFuncLeaves
import Derived.RangeFuncBound
import Derived.Shelf.AbstractIn
import Derived.OwnWalkIn
import Derived.TacticsInMore
import Derived.RegionIn
import Derived.LoopNIn
import Derived.LoopIn
import Derived.Sort.QuietTacIn
import Derived.Sort.QuietIn
import Derived.Sort.CutIn
import Derived.Stop.RegionWithIn
namespace Go.Proofs.Ytgadomcbaenodaa
open Go.RowKit
attribute [local go_sem] Oper.semAt_some
namespace Se
open Cm Rx Au
abbrev tAuto : TypeId := 32
abbrev tStr : TypeId := 9
/-- The cells of the iterator: automaton, text, offset. -/
structure Caps (W : World) (B : Nat) (A : Option Addr) (n c st : Nat) (s : ByteArray) (p : Nat) : Prop where
  a : W.heap[B]? = some (.cells #[.slice A n c, .int .i64 (st : Int)] tAuto (0, 0))
  s : W.heap[B + 1]? = some (.cells #[.string s] tStr (0, 0))
  p : W.heap[B + 2]? = some (.cells #[.int .i64 (p : Int)] tInt (0, 0))
variable {W W' : World} {B n c st p : Nat} {A : Option Addr} {s : ByteArray}
theorem Caps.same (h : Caps W B A n c st s p) (hk : ∀ k, k < B + 3 → W'.heap[k]? = W.heap[k]?) : Caps W' B A n c st s p :=
  ⟨(hk _ (by omega)).trans h.a, (hk _ (by omega)).trans h.s, (hk _ (by omega)).trans h.p⟩
theorem Caps.turn (h : Caps W B A n c st s p) (hk : K2 W W') : Caps W' B A n c st s p :=
  ⟨hk.same _ _ _ _ h.a rfl, hk.same _ _ _ _ h.s rfl, hk.same _ _ _ _ h.p rfl⟩
theorem Caps.cells (h : Caps W B A n c st s p) : W.cell? ⟨B, 0, none⟩ = some (.slice A n c) ∧ W.cell? ⟨B, 1, none⟩ = some (.int .i64 (st : Int)) ∧ W.cell? ⟨B + 1, 0, none⟩ = some (.string s) ∧ W.cell? ⟨B + 2, 0, none⟩ = some (.int .i64 (p : Int)) :=
  ⟨by simp [World.cell?, h.a], by simp [World.cell?, h.a], by simp [World.cell?, h.s], by simp [World.cell?, h.p]⟩
abbrev longV (B : Nat) : Value := .func (.func 43) #[] #[.pointer (some ⟨B, 0, none⟩), .pointer (some ⟨B + 1, 0, none⟩), .pointer (some ⟨B + 2, 0, none⟩)]
theorem longest_any (A : Option Addr) (n c st p : Nat) (s : ByteArray) (w : World) : Calls Try.prog 28 #[.agg #[.slice A n c, .int .i64 (st : Int)], .string s, .int .i64 (p : Int)] w fun e w' => e = .returned (longV w.heap.size) ∧ Caps w' w.heap.size A n c st s p ∧ Below w.heap.size w w' ∧ w'.heap.size = w.heap.size + 3 := by
  have HF : Hid (Caps (((w.alloc (.cells #[.slice A n c, .int .i64 (st : Int)] tAuto)).alloc (.cells #[.string s] tStr)).alloc (.cells #[.int .i64 (p : Int)] tInt)) w.heap.size A n c st s p ∧ Below w.heap.size w (((w.alloc (.cells #[.slice A n c, .int .i64 (st : Int)] tAuto)).alloc (.cells #[.string s] tStr)).alloc (.cells #[.int .i64 (p : Int)] tInt)) ∧ (((w.alloc (.cells #[.slice A n c, .int .i64 (st : Int)] tAuto)).alloc (.cells #[.string s] tStr)).alloc (.cells #[.int .i64 (p : Int)] tInt)).heap.size = w.heap.size + 3) := Lib.hid (by
    have e1 : (w.alloc (.cells #[.slice A n c, .int .i64 (st : Int)] tAuto)).heap.size = w.heap.size + 1 := by simp
    have e2 : ((w.alloc (.cells #[.slice A n c, .int .i64 (st : Int)] tAuto)).alloc (.cells #[.string s] tStr)).heap.size = w.heap.size + 2 := by simp
    refine ⟨⟨?_, ?_, ?_⟩, (((Below.refl _ w).alloc (Nat.le_refl _) _).alloc (by omega) _).alloc (by omega) _, by simp⟩
    · exact (Below.heap_alloc _ _ _ (by omega)).trans ((Below.heap_alloc _ _ _ (by omega)).trans (heap_new w _))
    · have h := heap_new (w.alloc (.cells #[.slice A n c, .int .i64 (st : Int)] tAuto)) (.cells #[.string s] tStr)
      rw [e1] at h
      exact (Below.heap_alloc _ _ _ (by omega)).trans h
    · have h := heap_new ((w.alloc (.cells #[.slice A n c, .int .i64 (st : Int)] tAuto)).alloc (.cells #[.string s] tStr)) (.cells #[.int .i64 (p : Int)] tInt)
      rw [e2] at h
      exact h)
  go_enter Try.func28, Try.ntmps28
  go_wp2_with fail
  go_ret
  exact ⟨rfl, HF.out⟩
theorem bel_two {N : Nat} {a b c : World} (h : Below N a b) (k : Below N a c) (hs : b.heap.size ≤ c.heap.size) : Below N b c := ⟨k.os.trans h.os.symm, k.tape.trans h.tape.symm, k.output.trans h.output.symm, hs, fun i hi => (k.block i hi).trans (h.block i hi).symm⟩
/-- Where a walker stands. -/
def atOf (B : Nat) (w : World) : Nat := match w.cell? ⟨B, 8, none⟩ with
  | some (.int _ q) => q.toNat
  | _ => 0
theorem atOf_eq {w : World} {B : Nat} {k : Nat} (h : w.cell? ⟨B, 8, none⟩ = some (.int .i64 (k : Int))) : atOf B w = k := by
  unfold atOf
  rw [h]
  rfl
/-- The iterator between two offsets. -/
structure Mid (ss : List St) (st : Nat) (P : Parts) (N Bc : Nat) (A : Option Addr) (c p k : Nat) (s : ByteArray) (J : List (Nat × Nat) → World → Prop) (w : World) : Prop where
  ex : ∃ w0 w1 D vL vM, WkS ss w1 P ∧ WkT w1 P ∧ Wk ss.length st w0 w1 w P D vL vM ∧ DP ss (Tx.bs s) k D ∧ N ≤ w0.heap.size
  caps : Caps w Bc A ss.length c st s p
  j : J (desL ss st (Tx.bs s) k) w
theorem Mid.drewN {ss : List St} {st : Nat} {P : Parts} {N Bc : Nat} {A : Option Addr} {c p k : Nat} {s : ByteArray} {J : List (Nat × Nat) → World → Prop} {w : World} (hJ : ∀ pre W W', J pre W → K1 W W' → Below N W W' → J pre W') (h : Mid ss st P N Bc A c p k s J w) (m : Nat) : Mid ss st P N Bc A c p k s J (w.drewN m) := by
  obtain ⟨⟨w0, w1, D, vL, vM, a1, a2, a3, a4, a5⟩, b, j⟩ := h
  have hb := below_drewN (Below.refl w.heap.size w) m
  exact ⟨⟨w0, w1, D, vL, vM, a1, a2, a3.drewN m, a4, a5⟩, b.same (fun k hk => hb.block k (by have := lt_some b.p; omega)), hJ _ _ _ j (.below hb) (below_drewN (Below.refl _ _) m)⟩
/-- What the iterator leaves. -/
def IterPost (L : List (Nat × Nat)) (J : List (Nat × Nat) → World → Prop) (Jx : List (Nat × Nat) → World → Prop) (e : Ending) (W' : World) : Prop :=
  (∃ v, e = .returned v) ∧ (J L W' ∨ ∃ pre, pre ≠ [] ∧ pre <+: L ∧ Jx pre W')
set_option maxRecDepth 100000 in
set_option maxHeartbeats 2000000 in
theorem longest1_in (f : Nat) (hf : 1 ≤ f) (l B : Nat) (ss : List St) (st bA oA c p : Nat) (s : ByteArray) (h1 : 1 ≤ ss.length) (h8 : ss.length ≤ 8000) (hs : s.size ≤ 100000) (hst : st < ss.length) (hp : p ≤ s.size) (hok : ∀ k (h : k < ss.length), okS ss.length ss[k] = true)
    (J Jx : List (Nat × Nat) → World → Prop)
    (N : Nat) (hN : B + 3 ≤ N)
    (hJ : ∀ pre W W', J pre W → K1 W W' → Below N W W' → J pre W')
    (hY : ∀ pre (x : Nat × Nat) W, J pre W → pre ++ [x] <+: desL ss st (Tx.bs s) p → YieldAt Fence.wide (f - 1) Try.prog l #[.agg #[.int .i64 (x.1 : Int), .int .i64 (x.2 : Int)]] W fun e W' => (e = .returned (.bool true) ∧ J (pre ++ [x]) W' ∧ K2 W W') ∨ (e = .returned (.bool false) ∧ Jx (pre ++ [x]) W'))
    (W : World) (hsat : ∀ j (h : j < ss.length), StAt W bA (oA + j * 7) ss[j]) (hty : ∃ cs t z, W.heap[bA]? = some (Obj.cells cs t z) ∧ callT t = false) (hc : Caps W B (some ⟨bA, oA, none⟩) ss.length c st s p) (h0 : J [] W) (hNW : N ≤ W.heap.size) :
    CallsIn Fence.wide f Try.prog 43 #[.func (.yield l) #[] #[], .pointer (some ⟨B, 0, none⟩), .pointer (some ⟨B + 1, 0, none⟩), .pointer (some ⟨B + 2, 0, none⟩)] W (IterPost (desL ss st (Tx.bs s) p) J Jx) := by
  have HJ := Lib.hid hJ
  have HY := Lib.hid hY
  have HC := Lib.hid hc
  have H0 := Lib.hid h0
  have hBz : B + 2 < W.heap.size := lt_some hc.p
  have HBl : Hid ((Tx.bs s).length = s.size) := Lib.hid (bs_len s)
  obtain ⟨k0, k1, k2, -⟩ := hc.cells
  have HN := Lib.hid (newWalker_any ss st bA oA c s W h1 h8 hs hok hsat hty)
  clear hJ hY hc h0 hsat hty hok
  refine callsIn_of_wp Try.func43 rfl trivial ?_ rfl
  simp only [Try.ntmps43, List.size_toArray, List.length_cons, List.length_nil, Nat.reduceAdd, Nat.reduceSub, Array.replicate_succ, Array.replicate_zero, List.push_toArray, List.append_toArray, List.nil_append, List.cons_append]
  gi_wp2_with (refine ⟨(trivial : Fence.wide.fn 44), ?_⟩; gi_at_call 44; refine (callsIn_wide.2 HN.out).mono ?_; rintro e w1 ⟨P, D, rfl, hPs, hS, hT, hW, hD⟩)
  have HM : Hid (Mid ss st P N B (some ⟨bA, oA, none⟩) c p (s.size + 1) s J w1) := Lib.hid ⟨⟨W, w1, D, _, _, hS, hT, hW, hD, hNW⟩, HC.out.same (fun k hk => hW.bel.block k (by omega)), by
    rw [desL_end (by rw [HBl.out]; omega)]; exact HJ.out _ _ _ H0.out (.below hW.bel) (hW.bel.mono hNW)⟩
  have HPs := Lib.hid hPs
  clear hPs hS hT hW hD HN H0 HC k0 k1 k2 hBz
  gi_loopw [9] (fun _ wr => ∃ k : Nat, p ≤ k ∧ k ≤ s.size + 1 ∧ Hid (Mid ss st P N B (some ⟨bA, oA, none⟩) c p k s J wr)) (fun _ wr => atOf P.B wr)
  case atStart => exact ⟨s.size + 1, by omega, Nat.le_refl _, HM⟩
  case round =>
    clear HM
    obtain ⟨k, hpk, hks, HM⟩ := hrel
    obtain ⟨⟨w0, w1', D1, vL, vM, hS, hT, hW, hD, hz⟩, hcp, hj⟩ := HM.out
    have c8 : wr.cell? ⟨P.B, 8, none⟩ = some (.int .i64 (k : Int)) := by rw [← hD.at_]; exact hW.own 8 rfl
    obtain ⟨-, -, -, k3⟩ := hcp.cells
    have HAt := Lib.hid (atOf_eq c8)
    clear hS hT hW hD hz hcp hj
    by_cases hlt : p < k
    · obtain ⟨q, rfl⟩ : ∃ q, k = q + 1 := ⟨k - 1, by omega⟩
      have hd : decide ((p : Int) < ((q + 1 : Nat) : Int)) = true := by simp only [decide_eq_true_eq]; omega
      gi_upto_region 1 with fail
      gi_quiet (fail)
      have HM2 := Lib.hid (HM.out.drewN HJ.out nq)
      have HAt2 : Hid (atOf P.B wr = q + 1) := HAt
      clear HM c8 k3 HAt
      generalize wr.drewN nq = w2 at HM2 ⊢
      obtain ⟨⟨w0, w1', D1, vL, vM, hS, hT, hW, hD, hz⟩, hcp, hj⟩ := HM2.out
      have HBk := Lib.hid (back_any ss hS hW q (by rw [HPs.out]; exact hD) (by rw [HPs.out]; omega) (by rw [HPs.out]; exact hs) hst h8)
      have HS := Lib.hid hS
      have HT := Lib.hid hT
      have HW := Lib.hid hW
      have HZ := Lib.hid hz
      have HCp := Lib.hid hcp
      have HJ2 := Lib.hid hj
      clear hS hT hW hD hz hcp hj
      gi_upto_region 3 with (refine ⟨(trivial : Fence.wide.fn 45), ?_⟩; gi_at_call 45; refine (callsIn_wide.2 HBk.out).mono ?_; rintro e w3 ⟨rfl, D3, vL3, vM3, hW3, hD3, hF3, hK3⟩)
      rw [HPs.out] at hD3 hF3
      have HCp3 := Lib.hid (HCp.out.same (W' := w3) (fun k hk => (hW3.bel.block k (by have := HZ.out; omega)).trans (HW.out.bel.block k (by have := HZ.out; omega)).symm))
      have HJ3 := Lib.hid (HJ.out _ _ _ HJ2.out hK3 (bel_two (HW.out.bel.mono HZ.out) (hW3.bel.mono HZ.out) hK3.size))
      have c8 : w3.cell? ⟨P.B, 8, none⟩ = some (.int .i64 (q : Int)) := by rw [← hD3.at_]; exact hW3.own 8 rfl
      have HAt3 := Lib.hid (atOf_eq c8)
      have c12 : w3.cell? ⟨P.B, 12, none⟩ = some (.int .i64 D3.fin) := hW3.own 12 rfl
      cases hb : bestF ss st (Tx.bs s) q with
      | none =>
        have hf : D3.fin = -1 := by
          rcases hF3 with ⟨e, he, _⟩ | ⟨_, h⟩
          · exact absurd he.1 (bestF_none.1 hb e)
          · exact h
        rw [hf] at c12
        have HM3 : Hid (Mid ss st P N B (some ⟨bA, oA, none⟩) c p q s J w3) := Lib.hid ⟨⟨w0, w1', D3, _, _, HS.out, HT.out, hW3, hD3, HZ.out⟩, HCp3.out, by rw [desL_miss hb]; exact HJ3.out⟩
        clear hb hf hF3 hD3 hW3 hK3 HS HT HW HZ HBk HM2 HCp HCp3 HJ2 HJ3
        refine wpIn_region_quiet_lit rfl (by kernel_rfl) (by kernel_rfl) ?_
        repeat (refine wpQuietIn_step (fun _ _ _ _ => trivial) (fun K hK => ?_); go_simp; refine hK _ ?_; clear hK K)
        refine wpQuietIn_nil ?_
        intro _ hw'
        obtain ⟨nq, hw''⟩ := hw'
        subst hw''
        gi_wp2
        go_roundw
        case rel => exact ⟨q, by omega, by omega, Lib.hid (HM3.out.drewN HJ.out nq)⟩
        case measure => show atOf P.B w3 < _; rw [HAt2.out, HAt3.out]; omega
      | some e =>
        have hf : D3.fin = (e : Int) := by
          rcases hF3 with ⟨e', he, h⟩ | ⟨h, _⟩
          · rw [h, he.unique (bestF_some.1 hb)]
          · exact absurd (bestF_some.1 hb).1 (h e)
        rw [hf] at c12
        have HPr : Hid (desL ss st (Tx.bs s) (q + 1) ++ [(q, e)] = desL ss st (Tx.bs s) q) := Lib.hid (desL_hit hb).symm
        have HPx : Hid (desL ss st (Tx.bs s) q <+: desL ss st (Tx.bs s) p) := Lib.hid (desL_pre (by omega))
        have HW3 := Lib.hid hW3
        have HD3 := Lib.hid hD3
        have hnn : decide ((0 : Int) ≤ (e : Int)) = true := by simp
        have HYy := Lib.hid (HY.out (desL ss st (Tx.bs s) (q + 1)) (q, e) w3.drew (HJ.out _ _ _ HJ3.out (.below (Below.refl _ _).drew) (Below.refl _ _).drew) (by rw [HPr.out]; exact HPx.out))
        clear hb hf hF3 hD3 hW3 hK3 HW HBk HM2 HCp HJ2
        obtain ⟨fn, tmps, assign, body, hy, hR⟩ := HYy.out
        -- BY HAND
        refine wpIn_region_any (by kernel_rfl) ?_
        change wpAnyIn _ _ _ _ _ _ _ _ _ (World.drew _)
        refine wpAnyIn_take (i := 0) (v := .pointer (some ⟨P.B, 0, none⟩)) rfl rfl (by kernel_rfl) (by kernel_rfl) (by kernel_rfl) (fun _ _ _ h => h) ⟨Or.inl ⟨by kernel_rfl, ?_⟩, fun _ => rfl⟩ ?_
        · intro V
          go_simp
          try with_reducible rfl
        change wpAnyIn _ _ _ _ _ _ _ _ (Act.put _ (some 17) _) _
        simp only [Act.put, List.setIfInBounds_toArray, List.set_cons_zero, List.set_cons_succ]
        refine wpAnyIn_take (i := 1) (v := .pointer (some ⟨P.B, 0, none⟩)) rfl rfl (by kernel_rfl) (by kernel_rfl) (by kernel_rfl) (fun _ _ _ h => h) ⟨Or.inl ⟨by kernel_rfl, ?_⟩, fun _ => rfl⟩ ?_
        · intro V
          go_simp
          try with_reducible rfl
        change wpAnyIn _ _ _ _ _ _ _ _ (Act.put _ (some 18) _) _
        simp only [Act.put, List.setIfInBounds_toArray, List.set_cons_zero, List.set_cons_succ]
        refine wpAnyIn_take (i := 2) (v := .pointer (some ⟨P.B, 12, none⟩)) rfl rfl (by kernel_rfl) (by kernel_rfl) (by kernel_rfl) (fun _ _ _ h => h) ⟨Or.inl ⟨by kernel_rfl, ?_⟩, fun _ => rfl⟩ ?_
        · intro V
          go_simp
          try with_reducible rfl
        change wpAnyIn _ _ _ _ _ _ _ _ (Act.put _ (some 19) _) _
        simp only [Act.put, List.setIfInBounds_toArray, List.set_cons_zero, List.set_cons_succ]
        refine wpAnyIn_ready (rs := [3]) (by kernel_rfl) (by simp) ?_
        refine AllReadyIn.cons rfl (fun K hK => ?_) AllReadyIn.nil
        go_simp
        refine hK _ _ ?_
        clear hK K
        refine wpAnyIn_take (i := 4) (v := .bool true) rfl rfl (by kernel_rfl) (by kernel_rfl) (by kernel_rfl) (fun _ _ _ h => h) ⟨Or.inl ⟨by kernel_rfl, ?_⟩, fun _ => rfl⟩ ?_
        · intro V
          go_simp
          try with_reducible rfl
        change wpAnyIn _ _ _ _ _ _ _ _ (Act.put _ (some 21) _) _
        simp only [Act.put, List.setIfInBounds_toArray, List.set_cons_zero, List.set_cons_succ]
        refine wpAnyIn_take (i := 5) (v := .bool true) rfl rfl (by kernel_rfl) (by kernel_rfl) (by kernel_rfl) (fun _ _ _ h => h) ⟨Or.inl ⟨by kernel_rfl, ?_⟩, fun _ => rfl⟩ ?_
        · intro V
          go_simp
          try with_reducible rfl
        change wpAnyIn _ _ _ _ _ _ _ _ (Act.put _ (some 22) _) _
        simp only [Act.put, List.setIfInBounds_toArray, List.set_cons_zero, List.set_cons_succ]
        refine wpAnyIn_take (i := 6) (v := .func (.yield l) #[] #[]) rfl rfl (by kernel_rfl) (by kernel_rfl) (by kernel_rfl) (fun _ _ _ h => h) ⟨Or.inl ⟨by kernel_rfl, ?_⟩, fun _ => rfl⟩ ?_
        · intro V
          go_simp
          try with_reducible rfl
        change wpAnyIn _ _ _ _ _ _ _ _ (Act.put _ (some 23) _) _
        simp only [Act.put, List.setIfInBounds_toArray, List.set_cons_zero, List.set_cons_succ]
        refine wpAnyIn_take (i := 7) (v := .pointer (some ⟨P.B, 0, none⟩)) rfl rfl (by kernel_rfl) (by kernel_rfl) (by kernel_rfl) (fun _ _ _ h => h) ⟨Or.inl ⟨by kernel_rfl, ?_⟩, fun _ => rfl⟩ ?_
        · intro V
          go_simp
          try with_reducible rfl
        change wpAnyIn _ _ _ _ _ _ _ _ (Act.put _ (some 24) _) _
        simp only [Act.put, List.setIfInBounds_toArray, List.set_cons_zero, List.set_cons_succ]
        refine wpAnyIn_take (i := 8) (v := .pointer (some ⟨P.B, 0, none⟩)) rfl rfl (by kernel_rfl) (by kernel_rfl) (by kernel_rfl) (fun _ _ _ h => h) ⟨Or.inl ⟨by kernel_rfl, ?_⟩, fun _ => rfl⟩ ?_
        · intro V
          go_simp
          try with_reducible rfl
        change wpAnyIn _ _ _ _ _ _ _ _ (Act.put _ (some 25) _) _
        simp only [Act.put, List.setIfInBounds_toArray, List.set_cons_zero, List.set_cons_succ]
        refine wpAnyIn_take (i := 9) (v := .pointer (some ⟨P.B, 8, none⟩)) rfl rfl (by kernel_rfl) (by kernel_rfl) (by kernel_rfl) (fun _ _ _ h => h) ⟨Or.inl ⟨by kernel_rfl, ?_⟩, fun _ => rfl⟩ ?_
        · intro V
          go_simp
          try with_reducible rfl
        change wpAnyIn _ _ _ _ _ _ _ _ (Act.put _ (some 26) _) _
        simp only [Act.put, List.setIfInBounds_toArray, List.set_cons_zero, List.set_cons_succ]
        refine wpAnyIn_take (i := 11) (v := .pointer (some ⟨P.B, 0, none⟩)) rfl rfl (by kernel_rfl) (by kernel_rfl) (by kernel_rfl) (fun _ _ _ h => h) ⟨Or.inl ⟨by kernel_rfl, ?_⟩, fun _ => rfl⟩ ?_
        · intro V
          go_simp
          try with_reducible rfl
        change wpAnyIn _ _ _ _ _ _ _ _ (Act.put _ (some 28) _) _
        simp only [Act.put, List.setIfInBounds_toArray, List.set_cons_zero, List.set_cons_succ]
        refine wpAnyIn_take (i := 12) (v := .pointer (some ⟨P.B, 0, none⟩)) rfl rfl (by kernel_rfl) (by kernel_rfl) (by kernel_rfl) (fun _ _ _ h => h) ⟨Or.inl ⟨by kernel_rfl, ?_⟩, fun _ => rfl⟩ ?_
        · intro V
          go_simp
          try with_reducible rfl
        change wpAnyIn _ _ _ _ _ _ _ _ (Act.put _ (some 29) _) _
        simp only [Act.put, List.setIfInBounds_toArray, List.set_cons_zero, List.set_cons_succ]
        refine wpAnyIn_take (i := 13) (v := .pointer (some ⟨P.B, 12, none⟩)) rfl rfl (by kernel_rfl) (by kernel_rfl) (by kernel_rfl) (fun _ _ _ h => h) ⟨Or.inl ⟨by kernel_rfl, ?_⟩, fun _ => rfl⟩ ?_
        · intro V
          go_simp
          try with_reducible rfl
        change wpAnyIn _ _ _ _ _ _ _ _ (Act.put _ (some 30) _) _
        simp only [Act.put, List.setIfInBounds_toArray, List.set_cons_zero, List.set_cons_succ]
        refine wpAnyIn_ready (rs := [10, 14]) (by kernel_rfl) (by simp) ?_
        refine AllReadyIn.cons rfl (fun K hK => ?_) (AllReadyIn.cons rfl (fun K hK => ?_) AllReadyIn.nil)
        · go_simp
          refine hK _ _ ?_
          clear hK K
          refine wpAnyIn_ready (rs := [14]) (by kernel_rfl) (by simp) ?_
          refine AllReadyIn.cons rfl (fun K hK => ?_) AllReadyIn.nil
          go_simp
          refine hK _ _ ?_
          clear hK K
          refine wpAnyIn_take (i := 15) (v := .agg #[.int .i64 (q : Int), .int .i64 (e : Int)]) rfl rfl (by kernel_rfl) (by kernel_rfl) (by kernel_rfl) (fun _ _ _ h => h) ⟨Or.inl ⟨by kernel_rfl, ?_⟩, fun _ => rfl⟩ ?_
          · intro V
            go_simp
            try with_reducible rfl
          change wpAnyIn _ _ _ _ _ _ _ _ (Act.put _ (some 32) _) _
          simp only [Act.put, List.setIfInBounds_toArray, List.set_cons_zero, List.set_cons_succ]
          refine wpAnyIn_ready (rs := [16]) (by kernel_rfl) (by simp) ?_
          refine AllReadyIn.cons rfl (fun K hK => ?_) AllReadyIn.nil
          go_simp
          refine hR.mono ?_
          rintro x W4 (⟨rfl, hj4, hk4⟩ | ⟨rfl, hj4⟩)
          · have HJ4 := Lib.hid hj4
            have HK4 := Lib.hid hk4
            clear hj4 hk4 hy hR
            first | refine hK _ _ ?_ | (go_simp; refine hK _ _ ?_)
            clear hK K
            refine wpAnyIn_take (i := 17) (v := .bool false) rfl rfl (by kernel_rfl) (by kernel_rfl) (by kernel_rfl) (fun _ _ _ h => h) ⟨Or.inl ⟨by kernel_rfl, ?_⟩, fun _ => rfl⟩ ?_
            · intro V
              go_simp
              try with_reducible rfl
            change wpAnyIn _ _ _ _ _ _ _ _ (Act.put _ (some 34) _) _
            simp only [Act.put, List.setIfInBounds_toArray, List.set_cons_zero, List.set_cons_succ]
            refine wpAnyIn_take (i := 18) (v := .bool false) rfl rfl (by kernel_rfl) (by kernel_rfl) (by kernel_rfl) (fun _ _ _ h => h) ⟨Or.inl ⟨by kernel_rfl, ?_⟩, fun _ => rfl⟩ ?_
            · intro V
              go_simp
              try with_reducible rfl
            change wpAnyIn _ _ _ _ _ _ _ _ (Act.put _ (some 35) _) _
            simp only [Act.put, List.setIfInBounds_toArray, List.set_cons_zero, List.set_cons_succ]
            refine wpAnyIn_done (by kernel_rfl) ?_ _
            have HKx : Hid (K2 w3 W4) := Lib.hid ((K2.below ((Below.refl _ _).drew)).trans HK4.out)
            have HT4 := Lib.hid (Wk.turn HS.out HT.out HW3.out HKx.out)
            have HM4 : Hid (Mid ss st P N B (some ⟨bA, oA, none⟩) c p q s J W4) := Lib.hid ⟨⟨_, _, D3, vL3, vM3, HT4.out.1, HT4.out.2.1, HT4.out.2.2, HD3.out, by rw [cutW_size (Nat.le_trans HW3.out.bel.size HKx.out.size)]; exact HZ.out⟩, HCp3.out.turn HKx.out, by rw [← HPr.out]; exact HJ4.out⟩
            have HAt4 : Hid (atOf P.B W4 = q) := Lib.hid (atOf_eq (by rw [← HD3.out.at_]; exact HT4.out.2.2.own 8 rfl))
            clear HT4 HKx c8 c12 HYy HJ4 HK4 HS HT HZ HCp3 HJ3 HW3 HD3 HPr
            gi_wp2
            go_roundw
            case rel => exact ⟨q, by omega, by omega, HM4⟩
            case measure => show atOf P.B W4 < _; rw [HAt2.out, HAt4.out]; omega
          · have HJ4 := Lib.hid hj4
            clear hj4 hy hR
            first | refine hK _ _ ?_ | (go_simp; refine hK _ _ ?_)
            clear hK K
            refine wpAnyIn_take (i := 17) (v := .bool true) rfl rfl (by kernel_rfl) (by kernel_rfl) (by kernel_rfl) (fun _ _ _ h => h) ⟨Or.inl ⟨by kernel_rfl, ?_⟩, fun _ => rfl⟩ ?_
            · intro V
              go_simp
              try with_reducible rfl
            change wpAnyIn _ _ _ _ _ _ _ _ (Act.put _ (some 34) _) _
            simp only [Act.put, List.setIfInBounds_toArray, List.set_cons_zero, List.set_cons_succ]
            refine wpAnyIn_take (i := 18) (v := .bool true) rfl rfl (by kernel_rfl) (by kernel_rfl) (by kernel_rfl) (fun _ _ _ h => h) ⟨Or.inl ⟨by kernel_rfl, ?_⟩, fun _ => rfl⟩ ?_
            · intro V
              go_simp
              try with_reducible rfl
            change wpAnyIn _ _ _ _ _ _ _ _ (Act.put _ (some 35) _) _
            simp only [Act.put, List.setIfInBounds_toArray, List.set_cons_zero, List.set_cons_succ]
            refine wpAnyIn_done (by kernel_rfl) ?_ _
            gi_wp2
            go_end0
            exact ⟨⟨_, rfl⟩, .inr ⟨_, by simp, by rw [HPr.out]; exact HPx.out, HJ4.out⟩⟩
        · go_simp
          refine hK _ _ ?_
          clear hK K
          refine wpAnyIn_ready (rs := [10]) (by kernel_rfl) (by simp) ?_
          refine AllReadyIn.cons rfl (fun K hK => ?_) AllReadyIn.nil
          go_simp
          refine hK _ _ ?_
          clear hK K
          refine wpAnyIn_take (i := 15) (v := .agg #[.int .i64 (q : Int), .int .i64 (e : Int)]) rfl rfl (by kernel_rfl) (by kernel_rfl) (by kernel_rfl) (fun _ _ _ h => h) ⟨Or.inl ⟨by kernel_rfl, ?_⟩, fun _ => rfl⟩ ?_
          · intro V
            go_simp
            try with_reducible rfl
          change wpAnyIn _ _ _ _ _ _ _ _ (Act.put _ (some 32) _) _
          simp only [Act.put, List.setIfInBounds_toArray, List.set_cons_zero, List.set_cons_succ]
          refine wpAnyIn_ready (rs := [16]) (by kernel_rfl) (by simp) ?_
          refine AllReadyIn.cons rfl (fun K hK => ?_) AllReadyIn.nil
          go_simp
          refine hR.mono ?_
          rintro x W4 (⟨rfl, hj4, hk4⟩ | ⟨rfl, hj4⟩)
          · have HJ4 := Lib.hid hj4
            have HK4 := Lib.hid hk4
            clear hj4 hk4 hy hR
            first | refine hK _ _ ?_ | (go_simp; refine hK _ _ ?_)
            clear hK K
            refine wpAnyIn_take (i := 17) (v := .bool false) rfl rfl (by kernel_rfl) (by kernel_rfl) (by kernel_rfl) (fun _ _ _ h => h) ⟨Or.inl ⟨by kernel_rfl, ?_⟩, fun _ => rfl⟩ ?_
            · intro V
              go_simp
              try with_reducible rfl
            change wpAnyIn _ _ _ _ _ _ _ _ (Act.put _ (some 34) _) _
            simp only [Act.put, List.setIfInBounds_toArray, List.set_cons_zero, List.set_cons_succ]
            refine wpAnyIn_take (i := 18) (v := .bool false) rfl rfl (by kernel_rfl) (by kernel_rfl) (by kernel_rfl) (fun _ _ _ h => h) ⟨Or.inl ⟨by kernel_rfl, ?_⟩, fun _ => rfl⟩ ?_
            · intro V
              go_simp
              try with_reducible rfl
            change wpAnyIn _ _ _ _ _ _ _ _ (Act.put _ (some 35) _) _
            simp only [Act.put, List.setIfInBounds_toArray, List.set_cons_zero, List.set_cons_succ]
            refine wpAnyIn_done (by kernel_rfl) ?_ _
            have HKx : Hid (K2 w3 W4) := Lib.hid ((K2.below ((Below.refl _ _).drew)).trans HK4.out)
            have HT4 := Lib.hid (Wk.turn HS.out HT.out HW3.out HKx.out)
            have HM4 : Hid (Mid ss st P N B (some ⟨bA, oA, none⟩) c p q s J W4) := Lib.hid ⟨⟨_, _, D3, vL3, vM3, HT4.out.1, HT4.out.2.1, HT4.out.2.2, HD3.out, by rw [cutW_size (Nat.le_trans HW3.out.bel.size HKx.out.size)]; exact HZ.out⟩, HCp3.out.turn HKx.out, by rw [← HPr.out]; exact HJ4.out⟩
            have HAt4 : Hid (atOf P.B W4 = q) := Lib.hid (atOf_eq (by rw [← HD3.out.at_]; exact HT4.out.2.2.own 8 rfl))
            clear HT4 HKx c8 c12 HYy HJ4 HK4 HS HT HZ HCp3 HJ3 HW3 HD3 HPr
            gi_wp2
            go_roundw
            case rel => exact ⟨q, by omega, by omega, HM4⟩
            case measure => show atOf P.B W4 < _; rw [HAt2.out, HAt4.out]; omega
          · have HJ4 := Lib.hid hj4
            clear hj4 hy hR
            first | refine hK _ _ ?_ | (go_simp; refine hK _ _ ?_)
            clear hK K
            refine wpAnyIn_take (i := 17) (v := .bool true) rfl rfl (by kernel_rfl) (by kernel_rfl) (by kernel_rfl) (fun _ _ _ h => h) ⟨Or.inl ⟨by kernel_rfl, ?_⟩, fun _ => rfl⟩ ?_
            · intro V
              go_simp
              try with_reducible rfl
            change wpAnyIn _ _ _ _ _ _ _ _ (Act.put _ (some 34) _) _
            simp only [Act.put, List.setIfInBounds_toArray, List.set_cons_zero, List.set_cons_succ]
            refine wpAnyIn_take (i := 18) (v := .bool true) rfl rfl (by kernel_rfl) (by kernel_rfl) (by kernel_rfl) (fun _ _ _ h => h) ⟨Or.inl ⟨by kernel_rfl, ?_⟩, fun _ => rfl⟩ ?_
            · intro V
              go_simp
              try with_reducible rfl
            change wpAnyIn _ _ _ _ _ _ _ _ (Act.put _ (some 35) _) _
            simp only [Act.put, List.setIfInBounds_toArray, List.set_cons_zero, List.set_cons_succ]
            refine wpAnyIn_done (by kernel_rfl) ?_ _
            gi_wp2
            go_end0
            exact ⟨⟨_, rfl⟩, .inr ⟨_, by simp, by rw [HPr.out]; exact HPx.out, HJ4.out⟩⟩
    · obtain rfl : k = p := by omega
      have hd : decide ((k : Int) < (k : Int)) = false := by simp
      gi_upto_region 1 with fail
      gi_quiet (fail)
      gi_wp2
      go_end0
      exact ⟨⟨_, rfl⟩, .inl (HJ.out _ _ _ HM.out.j (.below (below_drewN (Below.refl _ _) _)) (below_drewN (Below.refl _ _) _))⟩
end Se
end Go.Proofs.Ytgadomcbaenodaa

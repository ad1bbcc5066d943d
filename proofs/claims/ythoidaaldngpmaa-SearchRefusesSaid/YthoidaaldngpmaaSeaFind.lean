/-
  Walk of layer 6: the program's Find. Conditions: a valid automaton; a text of at most 100000 bytes.
-/
import Derived.Test.YthoidaaldngpmaaSeaAny
namespace Go.Proofs.Ythoidaaldngpmaa
open Go.RowKit
attribute [local go_sem] Oper.semAt_some
namespace Se
open Cm Rx Au
theorem alloc2 (w : World) (a b : Obj) : ((w.alloc a).alloc b).heap[w.heap.size]? = some a ∧ ((w.alloc a).alloc b).heap[w.heap.size + 1]? = some b ∧ Below w.heap.size w ((w.alloc a).alloc b) := by
  have e1 : (w.alloc a).heap.size = w.heap.size + 1 := by simp
  have h0 := World.alloc_heap_new w a
  have h1 := World.alloc_heap_new (w.alloc a) b
  rw [e1] at h1
  refine ⟨?_, h1, ((Below.refl _ _).alloc (Nat.le_refl _) _).alloc (by omega) _⟩
  rw [Below.heap_alloc _ _ _ (by omega)]; exact h0
/-- The value of what Find returns. -/
def spanV (o : Option (Nat × Nat)) : Value := match o with
  | some x => .agg #[.int .i64 (x.1 : Int), .int .i64 (x.2 : Int)]
  | none => .agg #[.int .i64 0, .int .i64 0]
def spanC (o : Option (Nat × Nat)) : Array Value := match o with
  | some x => #[.int .i64 (x.1 : Int), .int .i64 (x.2 : Int)]
  | none => #[.int .i64 0, .int .i64 0]
def FindPost (o : Option (Nat × Nat)) (w : World) (e : Ending) (w' : World) : Prop := e = .returned (.tuple #[spanV o, .bool o.isSome, .int .i64 0]) ∧ Below w.heap.size w w'
set_option maxRecDepth 100000 in
set_option maxHeartbeats 2000000 in
theorem Find_ok (v : Value) (ss : List St) (st : Nat) (s : ByteArray) (p : Nat) (w : World) (h : RdT w v ss) (hv : ValidA ss (st : Int)) (hs : s.size ≤ 100000) (hp : p ≤ s.size) :
    Calls Try.prog 40 #[.agg #[v, .int .i64 (st : Int)], .string s, .int .i64 (p : Int)] w (FindPost (findF ss st (Tx.bs s) p) w) := by
  have hst : st < ss.length := by have := of_decide_eq_true hv.2.1; omega
  have h8 := hv.1
  have HOk := Lib.hid hv.2.2
  have HCk := Lib.hid (fun W (hb : Below w.heap.size w W) => CheckA_any v ss st W (h.rd.below hb) (by omega))
  rw [checkA_T hv] at HCk
  have HRd := Lib.hid (fun W (hb : Below w.heap.size w W) => h.below hb)
  obtain ⟨A, c, rfl, hA⟩ := h
  obtain ⟨bA, oA, rfl, -⟩ := hA (by omega)
  clear hA hv
  have HLo := Lib.hid (fun W => longest_any (some ⟨bA, oA, none⟩) ss.length c st p s W)
  have hp1 : decide ((p : Int) < 0) = false := by simp only [decide_eq_false_iff_not]; omega
  have hp2 : decide (s.size < p) = false := by simp only [decide_eq_false_iff_not]; omega
  obtain ⟨C, hC⟩ : ∃ C, C = w.heap.size := ⟨_, rfl⟩
  refine (callsIn_wide (n := 4)).1 ?_
  refine callsIn_of_wp_marks Try.func40 rfl trivial ?_ rfl
  simp only [Try.ntmps40, List.size_toArray, List.length_cons, List.length_nil, Nat.reduceAdd, Nat.reduceSub, Array.replicate_succ, Array.replicate_zero, List.push_toArray, List.append_toArray, List.nil_append, List.cons_append]
  gi_upto_region 1 with fail
  have HW4 := Lib.hid (alloc2 w (.cells #[.slice (some ⟨bA, oA, none⟩) ss.length c, .int .i64 (st : Int)] tAuto) (.cells #[.int .i64 0, .int .i64 0] tSp))
  generalize (w.alloc (.cells #[.slice (some ⟨bA, oA, none⟩) ss.length c, .int .i64 (st : Int)] tAuto)).alloc (.cells #[.int .i64 0, .int .i64 0] tSp) = w4 at HW4 ⊢
  rw [← hC] at HW4 HCk HRd ⊢
  have HCw := Lib.hid hC
  clear hC
  obtain ⟨⟨c0, c1⟩, -, -⟩ := box_cells HW4.out.1
  gi_upto_region 6 with (first
    | (refine ⟨(trivial : Fence.wide.fn 59), ?_⟩; gi_at_call 59; refine (callsIn_wide.2 (HCk.out _ HW4.out.2.2)).mono ?_; rintro e w1 ⟨rfl, hb1⟩; have HB1 := Lib.hid hb1; clear c0 c1 hb1)
    | gi_in)
  have hwl : C + 1 < w1.heap.size := by have := lt_some HW4.out.2.1; have := HB1.out.size; omega
  gi_upto_region 8 with fail
  have HW5 := Lib.hid (alloc2 w1 (.cells #[.int .i64 0, .int .i64 0] tSp) (.cells #[.bool false] tBool))
  generalize (w1.alloc (.cells #[.int .i64 0, .int .i64 0] tSp)).alloc (.cells #[.bool false] tBool) = w5 at HW5 ⊢
  obtain ⟨⟨c0, c1⟩, -, -⟩ := box_cells ((HW5.out.2.2.block C (by omega)).trans ((HB1.out.block _ (lt_some HW4.out.1)).trans HW4.out.1))
  gi_wp2_with (first
    | (refine ⟨(trivial : Fence.wide.fn 69), ?_⟩; gi_at_call 69; refine (callsIn_wide.2 (HLo.out _)).mono ?_; rintro e w2 ⟨rfl, hc2, hb2, hz2⟩; have HB2 := Lib.hid hb2; have HC2 := Lib.hid hc2; clear hb2 hc2 hz2)
    | gi_in)
  clear c0 c1 hp1 hp2
  have hz5 := HW5.out.2.2.size
  have hbw : Below C w w2 := HW4.out.2.2.trans ((HB1.out.trans ((HW5.out.2.2.trans (HB2.out.mono hz5)).mono HB1.out.size)).mono (by have := HW4.out.2.2.size; have := HCw.out; omega))
  have hF1 : w2.heap[w1.heap.size]? = some (.cells (spanC none) tSp (0, 0)) := (HB2.out.block _ (lt_some HW5.out.1)).trans HW5.out.1
  have hF2 : Boxed w2 (w1.heap.size + 1) tBool (.bool false) := (HB2.out.block _ (lt_some HW5.out.2.1)).trans HW5.out.2.1
  have hR : w2.heap[C + 1]? = some (.cells #[.int .i64 0, .int .i64 0] tSp (0, 0)) := (HB2.out.block _ (by omega)).trans ((HW5.out.2.2.block _ hwl).trans ((HB1.out.block _ (lt_some HW4.out.2.1)).trans HW4.out.2.1))
  have hz2 : w1.heap.size + 1 < w2.heap.size := hF2.lt
  have HI := Lib.hid (And.intro hF1 (And.intro hF2 (And.intro hR hbw)))
  obtain ⟨hsat, hty⟩ := rd_parts (HRd.out _ hbw) (by omega)
  generalize w5.heap.size = B at HC2 ⊢
  generalize hF : w1.heap.size = F at HI hwl hz2 ⊢
  clear hbw hF1 hF2 hR hz5 hF HB1 HB2 HW4 HW5 HLo HCk HRd
  refine range_longest 4 (by omega) B ss st bA oA c p s (by omega) h8 hs hst hp HOk.out (by rfl) rfl hsat hty HC2.out
    (fun pre W => W.heap[F]? = some (.cells (spanC pre.getLast?) tSp (0, 0)) ∧ Boxed W (F + 1) tBool (.bool pre.getLast?.isSome) ∧ W.heap[C + 1]? = some (.cells #[.int .i64 0, .int .i64 0] tSp (0, 0)) ∧ Below C w W)
    (fun _ _ _ => False)
    (fun pre A B row h hg hr => ?own) (fun pre W W' h hk hb => ?k1) (fun cd pre A B row h hg hr => h) HI.out
    (fun x W => { tmps := #[.agg #[.slice (some ⟨bA, oA, none⟩) ss.length c, .int .i64 (st : Int)], .string s, .int .i64 (p : Int), .pointer (some ⟨C, 0, none⟩), undef, undef, .pointer (some ⟨C + 1, 0, none⟩), .bool false, .int .i64 0, .int .i64 0, .pointer (some ⟨F, 0, none⟩), .pointer (some ⟨F + 1, 0, none⟩), .pointer (some ⟨W.heap.size, 0, none⟩), .agg #[.slice (some ⟨bA, oA, none⟩) ss.length c, .int .i64 (st : Int)], .int .i64 0, .int .i64 0, .bool false, undef, undef, .int .i64 (p : Int), .bool false, .bool false, .int .i64 (p : Int), .string s, .int .i64 (s.size : Int), .bool false, .bool false, undef, .agg #[.slice (some ⟨bA, oA, none⟩) ss.length c, .int .i64 (st : Int)], .string s, .int .i64 (p : Int), longV B, .agg #[.int .i64 (x.1 : Int), .int .i64 (x.2 : Int)], undef, undef, undef], defers := [] })
    (fun x W => W.alloc (.cells #[.int .i64 (x.1 : Int), .int .i64 (x.2 : Int)] tSp)) (fun x W => (Below.refl _ _).alloc (Nat.le_refl _) _) ?assign ?body ?done ?stop
  case own =>
    have hr2 : ∀ (b : Nat) (o : Obj), b < w2.heap.size → A.heap[b]? = some o → B.heap[b]? = some o := fun b o hb ho => (hg.block b (lt_some ho) (fun e => by have := (hr _ e.symm).1; omega)).trans ho
    have hz := lt_some h.2.2.1
    exact ⟨hr2 _ _ (by omega) h.1, hr2 _ _ (by omega) h.2.1, hr2 _ _ (by omega) h.2.2.1, h.2.2.2.grown hg (by omega) (fun k e => by have := (hr k e).1; omega)⟩
  case k1 =>
    have hr2 : ∀ (b : Nat) (cs : Array Value) (t : TypeId), walkT t = false → W.heap[b]? = some (.cells cs t (0, 0)) → W'.heap[b]? = some (.cells cs t (0, 0)) := fun b cs t ht ho => hk.same _ _ ho (fun cs' t' z e => by injection e with _ e _; subst e; exact ht)
    exact ⟨hr2 _ _ _ rfl h.1, hr2 _ _ _ rfl h.2.1, hr2 _ _ _ rfl h.2.2.1, h.2.2.2.trans (hb.mono (by omega))⟩
  case assign =>
    intro l x W K hK
    rw [put_one]
    gi_wp2
    exact hK
  case body =>
    rintro l pre x W V ⟨h1, h2, h3, h4⟩ hW hVk hVs hpre
    have hnew : V.heap[W.heap.size]? = some (.cells #[.int .i64 (x.1 : Int), .int .i64 (x.2 : Int)] tSp (0, 0)) := (hVk _ (Nat.le_refl _)).trans (heap_new W _)
    obtain ⟨⟨m0, m1⟩, -, -⟩ := box_cells hnew
    obtain ⟨a0, a1, ha⟩ : ∃ a0 a1, spanC pre.getLast? = #[a0, a1] := by cases pre.getLast? <;> exact ⟨_, _, rfl⟩
    rw [ha] at h1
    have g1 := set_block (o := 0) (u := .int .i64 (x.1 : Int)) h1
    have g2 := set_block (o := 1) (u := .int .i64 (x.2 : Int)) g1
    have g3 : Boxed ((V.setCell ⟨F, 0, none⟩ (.int .i64 (x.1 : Int))).setCell ⟨F, 1, none⟩ (.int .i64 (x.2 : Int))) (F + 1) tBool (.bool pre.getLast?.isSome) := (Below.heap_setCell _ _ _ _ (by show F + 1 ≠ F; omega)).trans ((Below.heap_setCell _ _ _ _ (by show F + 1 ≠ F; omega)).trans h2)
    have hV3 : ∀ (k : Nat), k ≠ F → k ≠ F + 1 → (((V.setCell ⟨F, 0, none⟩ (.int .i64 (x.1 : Int))).setCell ⟨F, 1, none⟩ (.int .i64 (x.2 : Int))).setCell ⟨F + 1, 0, none⟩ (.bool true)).heap[k]? = V.heap[k]? := fun k k1 k2 => (Below.heap_setCell _ _ _ _ k2).trans ((Below.heap_setCell _ _ _ _ k1).trans (Below.heap_setCell _ _ _ _ k1))
    have HF : Hid (KeepsFrom w2.heap.size V (((V.setCell ⟨F, 0, none⟩ (.int .i64 (x.1 : Int))).setCell ⟨F, 1, none⟩ (.int .i64 (x.2 : Int))).setCell ⟨F + 1, 0, none⟩ (.bool true)) ∧
        ((((V.setCell ⟨F, 0, none⟩ (.int .i64 (x.1 : Int))).setCell ⟨F, 1, none⟩ (.int .i64 (x.2 : Int))).setCell ⟨F + 1, 0, none⟩ (.bool true)).heap[F]? = some (.cells (spanC (pre ++ [x]).getLast?) tSp (0, 0)) ∧ Boxed (((V.setCell ⟨F, 0, none⟩ (.int .i64 (x.1 : Int))).setCell ⟨F, 1, none⟩ (.int .i64 (x.2 : Int))).setCell ⟨F + 1, 0, none⟩ (.bool true)) (F + 1) tBool (.bool (pre ++ [x]).getLast?.isSome) ∧
          (((V.setCell ⟨F, 0, none⟩ (.int .i64 (x.1 : Int))).setCell ⟨F, 1, none⟩ (.int .i64 (x.2 : Int))).setCell ⟨F + 1, 0, none⟩ (.bool true)).heap[C + 1]? = some (.cells #[.int .i64 0, .int .i64 0] tSp (0, 0)) ∧ Below C w (((V.setCell ⟨F, 0, none⟩ (.int .i64 (x.1 : Int))).setCell ⟨F, 1, none⟩ (.int .i64 (x.2 : Int))).setCell ⟨F + 1, 0, none⟩ (.bool true))) ∧
        K2 V (((V.setCell ⟨F, 0, none⟩ (.int .i64 (x.1 : Int))).setCell ⟨F, 1, none⟩ (.int .i64 (x.2 : Int))).setCell ⟨F + 1, 0, none⟩ (.bool true))) := Lib.hid (by
      refine ⟨(((KeepsOthers.setCell V _ _).trans (KeepsOthers.setCell _ _ _)).trans (KeepsOthers.setCell _ _ _)).from _, ⟨?_, ?_, (hV3 _ (by omega) (by omega)).trans h3, ((h4.setCell (p := ⟨F, 0, none⟩) (by show C ≤ F; omega) _).setCell (p := ⟨F, 1, none⟩) (by show C ≤ F; omega) _).setCell (p := ⟨F + 1, 0, none⟩) (by show C ≤ F + 1; omega) _⟩, ((K2.setCell h1 rfl).trans (K2.setCell g1 rfl)).trans (K2.setCell g3 rfl)⟩
      · rw [List.getLast?_concat]
        exact (Below.heap_setCell _ _ _ _ (by show F ≠ F + 1; omega)).trans g2
      · rw [List.getLast?_concat]
        exact g3.set _)
    have hC1 : V.cell? ⟨F, 0, none⟩ = some a0 := by simp [World.cell?, h1]
    have hC2 : V.cell? ⟨F, 1, none⟩ = some a1 := by simp [World.cell?, h1]
    have hf : ∀ k, V.frozen? ⟨F, k, none⟩ = false := fun k => by simp [World.frozen?, h1]
    have hC3 := h2.cell
    have hf3 := h2.frozen
    clear h1 h2 h3 h4 hVk hVs hpre hnew ha g1 g2 g3 hV3 hsat hty HI HC2
    gi_wp2
    exact ⟨HF.out.1, HF.out.2.1, HF.out.2.2⟩
  case done =>
    rintro D W hD ⟨h1, h2, h3, h4⟩ hK
    rw [findF_last] at h1 h2
    obtain ⟨i0, e0, ha, hv0⟩ : ∃ i0 e0 : Int, spanC (findF ss st (Tx.bs s) p) = #[.int .i64 i0, .int .i64 e0] ∧ spanV (findF ss st (Tx.bs s) p) = .agg #[.int .i64 i0, .int .i64 e0] := by cases findF ss st (Tx.bs s) p <;> exact ⟨_, _, rfl, rfl⟩
    rw [ha] at h1
    obtain ⟨⟨m0, m1⟩, -, -⟩ := box_cells h1
    obtain ⟨⟨n0, n1⟩, -, -⟩ := box_cells h3
    have hf : ∀ k, W.frozen? ⟨C + 1, k, none⟩ = false := fun k => by simp [World.frozen?, h3]
    have k3 := h2.cell
    have g1 := set_block (o := 0) (u := .int .i64 i0) h3
    have g2 := set_block (o := 1) (u := .int .i64 e0) g1
    have hK' : ((W.setCell ⟨C + 1, 0, none⟩ (.int .i64 i0)).setCell ⟨C + 1, 1, none⟩ (.int .i64 e0)).drew.heap[D]? = some (.deferred (some [])) := (keeps_two (N := w2.heap.size)).same _ _ hD hK rfl
    have HB : Hid (Below C w (((W.setCell ⟨C + 1, 0, none⟩ (.int .i64 i0)).setCell ⟨C + 1, 1, none⟩ (.int .i64 e0)).drew.putObj D (.deferred none))) := Lib.hid (((h4.setCell (p := ⟨C + 1, 0, none⟩) (Nat.le_succ C) _).setCell (p := ⟨C + 1, 1, none⟩) (Nat.le_succ C) _).drew.trans (belowK_b (w := w2) (n₀ := C) (by omega) _ D _ (.deferred none) hD hK' rfl rfl))
    have hl : ∀ r, some D = some r → ∃ o : Obj, ((W.setCell ⟨C + 1, 0, none⟩ (.int .i64 i0)).setCell ⟨C + 1, 1, none⟩ (.int .i64 e0)).drew.heap[r]? = some o ∧ o.isCells = false := fun r e => by cases e; exact ⟨_, hK', rfl⟩
    obtain ⟨⟨r0, r1⟩, -, -⟩ := box_cells (W := ((W.setCell ⟨C + 1, 0, none⟩ (.int .i64 i0)).setCell ⟨C + 1, 1, none⟩ (.int .i64 e0)).drew) g2
    have q1 := Lib.hid (cell_kept r0 (grownBy_putObj' _ D (.deferred none)) hl)
    have q2 := Lib.hid (cell_kept r1 (grownBy_putObj' _ D (.deferred none)) hl)
    have HKD := Lib.hid hK'
    have HPost : Hid (∀ W', Below w.heap.size w W' → FindPost (findF ss st (Tx.bs s) p) w (.returned (.tuple #[.agg #[.int .i64 i0, .int .i64 e0], .bool (findF ss st (Tx.bs s) p).isSome, .int .i64 0])) W') := Lib.hid (fun W' h => ⟨by rw [hv0], h⟩)
    have hne : ¬ F = C + 1 := by omega
    have hne2 : ¬ C + 1 = F := by omega
    have hne3 : ¬ F + 1 = C + 1 := by omega
    have hne4 : ¬ C + 1 = F + 1 := by omega
    generalize (findF ss st (Tx.bs s) p).isSome = bb at k3 HPost
    clear h1 h2 h3 h4 hK ha hv0 hsat hty HI HC2 g1 g2 hK' hl r0 r1
    gi_upto_region 11 with fail
    refine wpIn_region_any (by kernel_rfl) ?_
    change wpAnyIn _ _ _ _ _ _ _ _ _ (World.drew _)
    refine wpAnyIn_ready (rs := [0, 1]) (by kernel_rfl) (by simp) ?_
    refine AllReadyIn.cons rfl (fun K hK => ?_) (AllReadyIn.cons rfl (fun K hK => ?_) AllReadyIn.nil)
    · go_simp
      refine hK _ _ ?_
      clear hK K
      refine wpAnyIn_ready (rs := [1, 2]) (by kernel_rfl) (by simp) ?_
      refine AllReadyIn.cons rfl (fun K hK => ?_) (AllReadyIn.cons rfl (fun K hK => ?_) AllReadyIn.nil)
      · go_simp
        refine hK _ _ ?_
        clear hK K
        refine wpAnyIn_ready (rs := [2]) (by kernel_rfl) (by simp) ?_
        refine AllReadyIn.cons rfl (fun K hK => ?_) AllReadyIn.nil
        go_simp
        refine hK _ _ ?_
        clear hK K
        refine wpAnyIn_ready (rs := [3]) (by kernel_rfl) (by simp) ?_
        refine AllReadyIn.cons rfl (fun K hK => ?_) AllReadyIn.nil
        go_simp
        refine hK _ _ ?_
        clear hK K
        refine wpAnyIn_ready (rs := [4]) (by kernel_rfl) (by simp) ?_
        refine AllReadyIn.cons rfl (fun K hK => ?_) AllReadyIn.nil
        go_simp
        refine hK _ _ ?_
        clear hK K
        refine wpAnyIn_done (by kernel_rfl) ?_ _
        gi_wp2
        refine ⟨by simp, .inl ⟨_, _, rfl, run_takeDeferred HKD.out, ?_⟩⟩
        have q1 := q1.out
        have q2 := q2.out
        refine ⟨_, (by simp [results, Try.f40, go_sem, q1, q2]), HPost.out _ ?_⟩
        rw [← HCw.out]
        exact HB.out
      · go_simp
        refine hK _ _ ?_
        clear hK K
        refine wpAnyIn_ready (rs := [1]) (by kernel_rfl) (by simp) ?_
        refine AllReadyIn.cons rfl (fun K hK => ?_) AllReadyIn.nil
        go_simp
        refine hK _ _ ?_
        clear hK K
        refine wpAnyIn_ready (rs := [3]) (by kernel_rfl) (by simp) ?_
        refine AllReadyIn.cons rfl (fun K hK => ?_) AllReadyIn.nil
        go_simp
        refine hK _ _ ?_
        clear hK K
        refine wpAnyIn_ready (rs := [4]) (by kernel_rfl) (by simp) ?_
        refine AllReadyIn.cons rfl (fun K hK => ?_) AllReadyIn.nil
        go_simp
        refine hK _ _ ?_
        clear hK K
        refine wpAnyIn_done (by kernel_rfl) ?_ _
        gi_wp2
        refine ⟨by simp, .inl ⟨_, _, rfl, run_takeDeferred HKD.out, ?_⟩⟩
        have q1 := q1.out
        have q2 := q2.out
        refine ⟨_, (by simp [results, Try.f40, go_sem, q1, q2]), HPost.out _ ?_⟩
        rw [← HCw.out]
        exact HB.out
    · go_simp
      refine hK _ _ ?_
      clear hK K
      refine wpAnyIn_ready (rs := [0]) (by kernel_rfl) (by simp) ?_
      refine AllReadyIn.cons rfl (fun K hK => ?_) AllReadyIn.nil
      go_simp
      refine hK _ _ ?_
      clear hK K
      refine wpAnyIn_ready (rs := [2]) (by kernel_rfl) (by simp) ?_
      refine AllReadyIn.cons rfl (fun K hK => ?_) AllReadyIn.nil
      go_simp
      refine hK _ _ ?_
      clear hK K
      refine wpAnyIn_ready (rs := [3]) (by kernel_rfl) (by simp) ?_
      refine AllReadyIn.cons rfl (fun K hK => ?_) AllReadyIn.nil
      go_simp
      refine hK _ _ ?_
      clear hK K
      refine wpAnyIn_ready (rs := [4]) (by kernel_rfl) (by simp) ?_
      refine AllReadyIn.cons rfl (fun K hK => ?_) AllReadyIn.nil
      go_simp
      refine hK _ _ ?_
      clear hK K
      refine wpAnyIn_done (by kernel_rfl) ?_ _
      gi_wp2
      refine ⟨by simp, .inl ⟨_, _, rfl, run_takeDeferred HKD.out, ?_⟩⟩
      have q1 := q1.out
      have q2 := q2.out
      refine ⟨_, (by simp [results, Try.f40, go_sem, q1, q2]), HPost.out _ ?_⟩
      rw [← HCw.out]
      exact HB.out
  case stop =>
    rintro D c pre W _ _ _ h _
    exact h.elim
end Se
end Go.Proofs.Ythoidaaldngpmaa

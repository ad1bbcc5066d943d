/-
  Walks of layer 6: the program's Whole and Any. Conditions: a slice of states that reads as a list; a text of at most 100000 bytes.
-/
import Derived.Test.YthoidaaldngpmaaSeaRange
import Derived.Test.YthoidaaldngpmaaAutoC
import Derived.RangeFuncBox
import Derived.RangeFuncNested
import Derived.RangeFuncKeeps
namespace Go.Proofs.Ythoidaaldngpmaa
open Go.RowKit
attribute [local go_sem] Oper.semAt_some
namespace Se
open Cm Rx Au
/-- A slice of states that reads as a list, and whose block no body of a loop changes. -/
def RdT (w : World) (v : Value) (ss : List St) : Prop :=
  ∃ A c, v = .slice A ss.length c ∧ (0 < ss.length → ∃ b off, A = some ⟨b, off, none⟩ ∧ (∀ j (h : j < ss.length), StAt w b (off + j * 7) ss[j]) ∧ ∃ cs t z, w.heap[b]? = some (Obj.cells cs t z) ∧ callT t = false)
theorem RdT.rd {w : World} {v : Value} {ss : List St} (h : RdT w v ss) : RdA w v ss := by
  obtain ⟨A, c, rfl, h⟩ := h
  refine ⟨A, c, rfl, fun hp => ?_⟩
  obtain ⟨b, off, e, h1, _⟩ := h hp
  exact ⟨b, off, e, h1⟩
theorem RdT.below {w w' : World} {v : Value} {ss : List St} (h : RdT w v ss) (hb : Below w.heap.size w w') : RdT w' v ss := by
  obtain ⟨A, c, rfl, h⟩ := h
  refine ⟨A, c, rfl, fun hp => ?_⟩
  obtain ⟨b, off, e, h1, cs, t, z, h2, h3⟩ := h hp
  exact ⟨b, off, e, fun j hj => (h1 j hj).below hb, cs, t, z, (hb.block _ (lt_some h2)).trans h2, h3⟩
theorem RdT.of_own {w : World} {base : Nat} {v : Value} {ss : List St} (h : w.ownsRow base tSt 7 v ss.length (flatS ss)) : RdT w v ss := by
  obtain ⟨A, c, rfl, hA⟩ := RdA.of_own h
  refine ⟨A, c, rfl, fun hp => ?_⟩
  obtain ⟨b, off, e, h1⟩ := hA hp
  subst e
  rcases h.2 with ⟨e, _⟩ | ⟨g, cap, cur, e, _, hg, _⟩
  · cases e
  · injection e with e _ _
    injection e with e
    injection e with e
    subst e
    exact ⟨b, off, rfl, h1, cur, tSt, _, hg, rfl⟩
theorem put_one (t : Array Value) (i : Nat) (v : Value) : Array.foldl (fun t (x : Tmp × Value) => t.setIfInBounds x.fst x.snd) t (#[i].zip #[v]) = t.setIfInBounds i v := by simp [Array.zip]
theorem boxed_k1 {W W' : World} {b : Nat} {t : TypeId} {v : Value} (h : Boxed W b t v) (hk : K1 W W') (ht : walkT t = false) : Boxed W' b t v :=
  hk.same _ _ h (fun cs t' z e => by injection e with _ e _; subst e; exact ht)
abbrev tBool : TypeId := 4
abbrev tErr : TypeId := 24
/-- A bool and an error. -/
def BePost (b : Bool) (e : Int) (w : World) (x : Ending) (w' : World) : Prop := x = .returned (.tuple #[.bool b, .int .i64 e]) ∧ Below w.heap.size w w'
/-- Two result cells beside a frame. -/
structure Two (C D : Nat) (w : World) (u v : Value) (W : World) : Prop where
  b : Boxed W D tBool u
  e : Boxed W (D + 1) tErr v
  bel : Below C w W
  lo : C ≤ D
theorem Two.kept {C D : Nat} {w : World} {u v : Value} {A B : World} {row : Option Nat} {N : Nat} (h : Two C D w u v A) (hg : A.grownBy B row) (hD : D + 1 < N) (hr : ∀ r, row = some r → N ≤ r) : Two C D w u v B :=
  ⟨h.b.kept hg (fun e => by have := hr _ e.symm; omega), h.e.kept hg (fun e => by have := hr _ e.symm; omega), h.bel.grown hg (by have := h.b.lt; have := h.lo; omega) (fun k e => by have := hr k e; have := h.lo; omega), h.lo⟩
theorem Two.k1 {C D N : Nat} {w : World} {u v : Value} {A B : World} (h : Two C D w u v A) (hk : K1 A B) (hb : Below N A B) (hN : C ≤ N) : Two C D w u v B :=
  ⟨boxed_k1 h.b hk rfl, boxed_k1 h.e hk rfl, h.bel.trans (hb.mono hN), h.lo⟩
theorem alloc4 (w : World) (a b c d : Obj) : ((((w.alloc a).alloc b).alloc c).alloc d).heap[w.heap.size]? = some a ∧ ((((w.alloc a).alloc b).alloc c).alloc d).heap[w.heap.size + 1]? = some b ∧ ((((w.alloc a).alloc b).alloc c).alloc d).heap[w.heap.size + 1 + 1]? = some c ∧ ((((w.alloc a).alloc b).alloc c).alloc d).heap[w.heap.size + 1 + 1 + 1]? = some d ∧ Below w.heap.size w ((((w.alloc a).alloc b).alloc c).alloc d) := by
  have e1 : (w.alloc a).heap.size = w.heap.size + 1 := by simp
  have e2 : ((w.alloc a).alloc b).heap.size = w.heap.size + 1 + 1 := by simp
  have e3 : (((w.alloc a).alloc b).alloc c).heap.size = w.heap.size + 1 + 1 + 1 := by simp
  have h0 := World.alloc_heap_new w a
  have h1 := World.alloc_heap_new (w.alloc a) b
  have h2 := World.alloc_heap_new ((w.alloc a).alloc b) c
  have h3 := World.alloc_heap_new (((w.alloc a).alloc b).alloc c) d
  rw [e1] at h1
  rw [e2] at h2
  rw [e3] at h3
  refine ⟨?_, ?_, ?_, h3, ((((Below.refl _ _).alloc (Nat.le_refl _) _).alloc (by omega) _).alloc (by omega) _).alloc (by omega) _⟩
  · rw [Below.heap_alloc _ _ _ (by omega), Below.heap_alloc _ _ _ (by omega), Below.heap_alloc _ _ _ (by omega)]; exact h0
  · rw [Below.heap_alloc _ _ _ (by omega), Below.heap_alloc _ _ _ (by omega)]; exact h1
  · rw [Below.heap_alloc _ _ _ (by omega)]; exact h2
theorem Two.set {C D : Nat} {w : World} {u v u' v' : Value} {W : World} (h : Two C D w u v W) : Two C D w u' v' ((W.setCell ⟨D, 0, none⟩ u').setCell ⟨D + 1, 0, none⟩ v') :=
  ⟨(h.b.set _).other (by omega) _, (h.e.other (by omega) _).set _, (h.bel.setCell (p := ⟨D, 0, none⟩) h.lo _).setCell (p := ⟨D + 1, 0, none⟩) (Nat.le_succ_of_le h.lo) _, h.lo⟩
theorem keeps_two {N : Nat} {W : World} {a b : Addr} {u v : Value} : KeepsFrom N W ((W.setCell a u).setCell b v) := ((KeepsOthers.setCell W a u).trans (KeepsOthers.setCell _ b v)).from N
theorem des_in {ss : List St} {st : Nat} {bs : List UInt8} {p : Nat} {pre : List (Nat × Nat)} {x : Nat × Nat} (h : pre ++ [x] <+: desL ss st bs p) : bestF ss st bs x.1 = some x.2 ∧ p ≤ x.1 := by
  have h1 : x ∈ desL ss st bs p := h.subset (List.mem_append_right _ (List.mem_singleton.2 rfl))
  have h2 := ascL_in.1 (List.mem_reverse.1 h1)
  exact ⟨h2.2, h2.1⟩
theorem rd_parts {w : World} {bA oA c : Nat} {ss : List St} (h : RdT w (.slice (some ⟨bA, oA, none⟩) ss.length c) ss) (h1 : 0 < ss.length) : (∀ j (h : j < ss.length), StAt w bA (oA + j * 7) ss[j]) ∧ ∃ cs t z, w.heap[bA]? = some (Obj.cells cs t z) ∧ callT t = false := by
  obtain ⟨A, c', e, hA⟩ := h
  obtain ⟨b, off, e2, h2, h3⟩ := hA h1
  subst e2
  injection e with e _ _
  injection e with e
  injection e with e1 e2
  subst e1 e2
  exact ⟨h2, h3⟩
/-- What Whole answers. -/
noncomputable def wholeF (ss : List St) (st : Nat) (bs : List UInt8) : Bool := decide (bestF ss st bs 0 = some bs.length)
set_option maxRecDepth 100000 in
set_option maxHeartbeats 2000000 in
theorem Whole_ok (v : Value) (ss : List St) (st : Nat) (s : ByteArray) (w : World) (h : RdT w v ss) (hv : ValidA ss (st : Int)) (hs : s.size ≤ 100000) :
    Calls Try.prog 36 #[.agg #[v, .int .i64 (st : Int)], .string s] w (BePost (wholeF ss st (Tx.bs s)) 0 w) := by
  have hst : st < ss.length := by have := of_decide_eq_true hv.2.1; omega
  have h8 := hv.1
  have HOk := Lib.hid hv.2.2
  have hBl : (Tx.bs s).length = s.size := bs_len s
  have HBl := Lib.hid hBl
  have HCk := Lib.hid (fun W (hb : Below w.heap.size w W) => CheckA_any v ss st W (h.rd.below hb) (by omega))
  rw [checkA_T hv] at HCk
  have HRd := Lib.hid (fun W (hb : Below w.heap.size w W) => h.below hb)
  obtain ⟨A, c, rfl, hA⟩ := h
  obtain ⟨bA, oA, rfl, -⟩ := hA (by omega)
  clear hA hv hBl
  have HLo := Lib.hid (fun W => longest_any (some ⟨bA, oA, none⟩) ss.length c st 0 s W)
  obtain ⟨C, hC⟩ : ∃ C, C = w.heap.size := ⟨_, rfl⟩
  refine (callsIn_wide (n := 4)).1 ?_
  refine callsIn_of_wp_marks Try.func36 rfl trivial ?_ rfl
  simp only [Try.ntmps36, List.size_toArray, List.length_cons, List.length_nil, Nat.reduceAdd, Nat.reduceSub, Array.replicate_succ, Array.replicate_zero, List.push_toArray, List.append_toArray, List.nil_append, List.cons_append]
  gi_upto_region 1 with fail
  have HW4 := Lib.hid (alloc4 w (.cells #[.slice (some ⟨bA, oA, none⟩) ss.length c, .int .i64 (st : Int)] tAuto) (.cells #[.string s] tStr) (.cells #[.bool false] tBool) (.cells #[.int .i64 0] tErr))
  generalize (((w.alloc (.cells #[.slice (some ⟨bA, oA, none⟩) ss.length c, .int .i64 (st : Int)] tAuto)).alloc (.cells #[.string s] tStr)).alloc (.cells #[.bool false] tBool)).alloc (.cells #[.int .i64 0] tErr) = w4 at HW4 ⊢
  rw [← hC] at HW4 HCk HRd ⊢
  have HCw := Lib.hid hC
  clear hC
  obtain ⟨⟨c0, c1⟩, -, -⟩ := box_cells HW4.out.1
  gi_wp2_with (first
    | (refine ⟨(trivial : Fence.wide.fn 59), ?_⟩; gi_at_call 59; refine (callsIn_wide.2 (HCk.out _ HW4.out.2.2.2.2)).mono ?_; rintro e w1 ⟨rfl, hb1⟩; have HB1 := Lib.hid hb1; clear c0 c1 hb1; obtain ⟨⟨c0, c1⟩, -, -⟩ := box_cells ((HB1.out.block _ (lt_some HW4.out.1)).trans HW4.out.1); have c2 : w1.cell? ⟨C + 1, 0, none⟩ = some (.string s) := Boxed.cell ((HB1.out.block _ (lt_some HW4.out.2.1)).trans HW4.out.2.1))
    | (refine ⟨(trivial : Fence.wide.fn 69), ?_⟩; gi_at_call 69; refine (callsIn_wide.2 (HLo.out _)).mono ?_; rintro e w2 ⟨rfl, hc2, hb2, hz2⟩; have HB2 := Lib.hid hb2; have HC2 := Lib.hid hc2; clear hb2 hc2 hz2)
    | gi_in)
  clear c0 c1 c2
  have hbw : Below C w w2 := HW4.out.2.2.2.2.trans (((HB1.out.trans (HB2.out.mono HB1.out.size))).mono (by have := HW4.out.2.2.2.2.size; have := HCw.out; omega))
  have hk2 : ∀ k o, w4.heap[k]? = some o → w2.heap[k]? = some o := fun k o hk => (HB2.out.block _ (by have := lt_some hk; have := HB1.out.size; omega)).trans ((HB1.out.block _ (lt_some hk)).trans hk)
  have hT2 : Boxed w2 (C + 1) tStr (.string s) ∧ Two C (C + 1 + 1) w (.bool false) (.int .i64 0) w2 := ⟨hk2 _ _ HW4.out.2.1, hk2 _ _ HW4.out.2.2.1, hk2 _ _ HW4.out.2.2.2.1, hbw, by omega⟩
  have HT2 := Lib.hid hT2
  have hzC := hT2.2.e.lt
  obtain ⟨hsat, hty⟩ := rd_parts (HRd.out _ hbw) (by omega)
  generalize w1.heap.size = B at HC2 ⊢
  clear hbw hk2 hT2 HB1 HB2 HW4 HLo HCk HRd
  refine range_longest 4 (by omega) B ss st bA oA c 0 s (by omega) h8 hs hst (Nat.zero_le _) HOk.out (by rfl) rfl hsat hty HC2.out
    (fun pre W => (∀ x ∈ pre, x.1 ≠ 0) ∧ Boxed W (C + 1) tStr (.string s) ∧ Two C (C + 1 + 1) w (.bool false) (.int .i64 0) W)
    (fun cd _ W => cd = .ret ∧ ∃ e, bestF ss st (Tx.bs s) 0 = some e ∧ Two C (C + 1 + 1) w (.bool ((e : Int) == (s.size : Int))) (.int .i64 0) W)
    (fun pre A B row h hg hr => ?own) (fun pre W W' h hk hb => ?k1) (fun cd pre A B row h hg hr => ?own3) ⟨fun x hx => (by cases hx), HT2.out⟩
    (fun x W => { tmps := #[.agg #[.slice (some ⟨bA, oA, none⟩) ss.length c, .int .i64 (st : Int)], .string s, .pointer (some ⟨C, 0, none⟩), .pointer (some ⟨C + 1, 0, none⟩), .pointer (some ⟨C + 1 + 1, 0, none⟩), .pointer (some ⟨C + 1 + 1 + 1, 0, none⟩), .int .i64 0, .pointer (some ⟨W.heap.size, 0, none⟩), .agg #[.slice (some ⟨bA, oA, none⟩) ss.length c, .int .i64 (st : Int)], .int .i64 0, .int .i64 0, .bool false, undef, .agg #[.slice (some ⟨bA, oA, none⟩) ss.length c, .int .i64 (st : Int)], .string s, longV B, .agg #[.int .i64 (x.1 : Int), .int .i64 (x.2 : Int)], undef, undef, undef, undef, undef, undef, undef, undef], defers := [] })
    (fun x W => W.alloc (.cells #[.int .i64 (x.1 : Int), .int .i64 (x.2 : Int)] tSp)) (fun x W => (Below.refl _ _).alloc (Nat.le_refl _) _) ?assign ?body ?done ?stop
  case own => exact ⟨h.1, h.2.1.kept hg (fun e => by have := (hr _ e.symm).1; omega), h.2.2.kept hg (by omega) (fun r e => (hr r e).1)⟩
  case own3 =>
    obtain ⟨h0, e, h1, h2⟩ := h
    exact ⟨h0, e, h1, h2.kept hg (by omega) (fun r e => (hr r e).1)⟩
  case k1 => exact ⟨h.1, boxed_k1 h.2.1 hk rfl, h.2.2.k1 hk hb (by omega)⟩
  case assign =>
    intro l x W K hK
    rw [put_one]
    gi_wp2
    exact hK
  case body =>
    rintro l pre x W V ⟨hi0, hbx, hTw⟩ hW hVk hVs hpre
    obtain ⟨hx, -⟩ := des_in hpre
    have hnew : V.heap[W.heap.size]? = some (.cells #[.int .i64 (x.1 : Int), .int .i64 (x.2 : Int)] tSp (0, 0)) := (hVk _ (Nat.le_refl _)).trans (heap_new W _)
    obtain ⟨⟨m0, m1⟩, -, -⟩ := box_cells hnew
    clear hVk hVs hpre hnew
    by_cases h0 : x.1 = 0
    · have hb0 : bestF ss st (Tx.bs s) 0 = some x.2 := by rw [← h0]; exact hx
      rw [h0] at m0
      have HF : Hid (KeepsFrom w2.heap.size V ((V.setCell ⟨C + 1 + 1, 0, none⟩ (.bool ((x.2 : Int) == (s.size : Int)))).setCell ⟨C + 1 + 1 + 1, 0, none⟩ (.int .i64 0)) ∧ bestF ss st (Tx.bs s) 0 = some x.2 ∧ Two C (C + 1 + 1) w (.bool ((x.2 : Int) == (s.size : Int))) (.int .i64 0) ((V.setCell ⟨C + 1 + 1, 0, none⟩ (.bool ((x.2 : Int) == (s.size : Int)))).setCell ⟨C + 1 + 1 + 1, 0, none⟩ (.int .i64 0))) := Lib.hid ⟨keeps_two, hb0, hTw.set⟩
      have k0 := hbx.cell
      have k1 := hTw.b.cell
      have k2 := hTw.e.cell
      have f1 := hTw.b.frozen
      have f2 := hTw.e.frozen
      clear hi0 hbx hTw hx hb0 h0 hsat hty HT2 HC2
      gi_wp2
      exact ⟨HF.out.1, rfl, _, HF.out.2.1, HF.out.2.2⟩
    · have HF : Hid ((∀ y ∈ pre ++ [x], y.1 ≠ 0) ∧ Boxed V (C + 1) tStr (.string s) ∧ Two C (C + 1 + 1) w (.bool false) (.int .i64 0) V) := Lib.hid ⟨fun y hy => by
        rcases List.mem_append.1 hy with hy | hy
        · exact hi0 y hy
        · rw [List.mem_singleton] at hy; subst hy; exact h0, hbx, hTw⟩
      have t0 : ((x.1 : Int) == 0) = false := by rw [beq_eq_false_iff_ne]; omega
      clear hi0 hbx hTw hx h0 hsat hty HT2 HC2
      gi_wp2
      exact ⟨KeepsFrom.refl _ _, HF.out, K2.refl _⟩
  case done =>
    rintro D W hD ⟨hno, hbx, hTw⟩ hK
    have HF : Hid (wholeF ss st (Tx.bs s) = false) := Lib.hid (decide_eq_false (fun h => hno (0, (Tx.bs s).length) (List.mem_reverse.2 (ascL_in.2 ⟨Nat.zero_le _, h⟩)) rfl))
    have hTw2 : Two C (C + 1 + 1) w (.bool false) (.int .i64 0) ((W.setCell ⟨C + 1 + 1, 0, none⟩ (.bool false)).setCell ⟨C + 1 + 1 + 1, 0, none⟩ (.int .i64 0)) := hTw.set
    have hK' : ((W.setCell ⟨C + 1 + 1, 0, none⟩ (.bool false)).setCell ⟨C + 1 + 1 + 1, 0, none⟩ (.int .i64 0)).heap[D]? = some (.deferred (some [])) := (keeps_two (N := w2.heap.size)).same _ _ hD hK rfl
    have f1 := hTw.b.frozen
    have f2 := hTw.e.frozen
    have k1 := hTw.b.cell
    have k2 := hTw.e.cell
    obtain ⟨W2, hW2⟩ : ∃ W2, (W.setCell ⟨C + 1 + 1, 0, none⟩ (.bool false)).setCell ⟨C + 1 + 1 + 1, 0, none⟩ (.int .i64 0) = W2 := ⟨_, rfl⟩
    have HW := Lib.hid hW2
    rw [hW2] at hTw2 hK'
    have hl : ∀ r, some D = some r → ∃ o : Obj, W2.heap[r]? = some o ∧ o.isCells = false := fun r e => by cases e; exact ⟨_, hK', rfl⟩
    have q1 := cell_kept hTw2.b.cell (grownBy_putObj' W2 D (.deferred none)) hl
    have q2 := cell_kept hTw2.e.cell (grownBy_putObj' W2 D (.deferred none)) hl
    have HB := Lib.hid (hTw2.bel.trans (belowK_b (w := w2) (n₀ := C) (by omega) W2 D _ (.deferred none) hD hK' rfl rfl))
    clear hno hbx hTw hK hTw2 hW2 hl hsat hty HT2 HC2
    gi_wp2
    rw [HW.out]
    refine ⟨by simp, .inl ⟨_, _, rfl, run_takeDeferred hK', ?_⟩⟩
    rw [HF.out]
    refine ⟨_, (by simp [results, Try.f36, go_sem, q1, q2]), rfl, ?_⟩
    rw [← HCw.out]
    exact HB.out
  case stop =>
    rintro D c pre W hD hne hpre ⟨rfl, e, he, hTw⟩ hK
    have HF : Hid (wholeF ss st (Tx.bs s) = ((e : Int) == (s.size : Int))) := Lib.hid (by
      unfold wholeF
      rw [he, HBl.out]
      by_cases h : e = s.size
      · subst h; simp
      · rw [decide_eq_false (fun h2 => h (Option.some.inj h2)), beq_eq_false_iff_ne.2 (by omega)])
    have hl : ∀ r, some D = some r → ∃ o : Obj, W.heap[r]? = some o ∧ o.isCells = false := fun r e => by cases e; exact ⟨_, hK, rfl⟩
    have q1 := cell_kept hTw.b.cell (grownBy_putObj' W D (.deferred none)) hl
    have q2 := cell_kept hTw.e.cell (grownBy_putObj' W D (.deferred none)) hl
    have HB := Lib.hid (hTw.bel.trans (belowK_b (w := w2) (n₀ := C) (by omega) W D _ (.deferred none) hD hK rfl rfl))
    generalize ((e : Int) == (s.size : Int)) = bb at HF q1
    clear hne hpre he hTw hl hsat hty HT2 HC2
    gi_wp2
    refine ⟨by simp, .inl ⟨_, _, rfl, run_takeDeferred hK, ?_⟩⟩
    rw [HF.out]
    refine ⟨_, (by simp [results, Try.f36, go_sem, q1, q2]), rfl, ?_⟩
    rw [← HCw.out]
    exact HB.out
end Se
end Go.Proofs.Ythoidaaldngpmaa

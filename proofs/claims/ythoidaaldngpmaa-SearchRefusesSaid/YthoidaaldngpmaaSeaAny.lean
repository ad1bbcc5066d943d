/-
  Walk of layer 6: the program's Any. Conditions: a valid automaton; a text of at most 100000 bytes.
-/
import Derived.Test.YthoidaaldngpmaaSeaWhole
namespace Go.Proofs.Ythoidaaldngpmaa
open Go.RowKit
attribute [local go_sem] Oper.semAt_some
namespace Se
open Cm Rx Au
theorem alloc3 (w : World) (a b c : Obj) : (((w.alloc a).alloc b).alloc c).heap[w.heap.size]? = some a ∧ (((w.alloc a).alloc b).alloc c).heap[w.heap.size + 1]? = some b ∧ (((w.alloc a).alloc b).alloc c).heap[w.heap.size + 1 + 1]? = some c ∧ Below w.heap.size w (((w.alloc a).alloc b).alloc c) := by
  have e1 : (w.alloc a).heap.size = w.heap.size + 1 := by simp
  have e2 : ((w.alloc a).alloc b).heap.size = w.heap.size + 1 + 1 := by simp
  have h0 := World.alloc_heap_new w a
  have h1 := World.alloc_heap_new (w.alloc a) b
  have h2 := World.alloc_heap_new ((w.alloc a).alloc b) c
  rw [e1] at h1
  rw [e2] at h2
  refine ⟨?_, ?_, h2, (((Below.refl _ _).alloc (Nat.le_refl _) _).alloc (by omega) _).alloc (by omega) _⟩
  · rw [Below.heap_alloc _ _ _ (by omega), Below.heap_alloc _ _ _ (by omega)]; exact h0
  · rw [Below.heap_alloc _ _ _ (by omega)]; exact h1
/-- What Any answers. -/
noncomputable def anyF (ss : List St) (st : Nat) (bs : List UInt8) : Bool := (findF ss st bs 0).isSome
theorem anyF_nil {ss : List St} {st : Nat} {bs : List UInt8} (h : desL ss st bs 0 = []) : anyF ss st bs = false := by
  unfold anyF
  rw [← findF_last, h]; rfl
theorem anyF_some {ss : List St} {st : Nat} {bs : List UInt8} {pre : List (Nat × Nat)} (h : pre ≠ []) (hp : pre <+: desL ss st bs 0) : anyF ss st bs = true := by
  unfold anyF
  rw [← findF_last]
  obtain ⟨r, hr⟩ := hp
  cases pre with
  | nil => exact absurd rfl h
  | cons a l => rw [← hr]; simp [List.getLast?_cons]
set_option maxRecDepth 100000 in
set_option maxHeartbeats 2000000 in
theorem Any_ok (v : Value) (ss : List St) (st : Nat) (s : ByteArray) (w : World) (h : RdT w v ss) (hv : ValidA ss (st : Int)) (hs : s.size ≤ 100000) :
    Calls Try.prog 38 #[.agg #[v, .int .i64 (st : Int)], .string s] w (BePost (anyF ss st (Tx.bs s)) 0 w) := by
  have hst : st < ss.length := by have := of_decide_eq_true hv.2.1; omega
  have h8 := hv.1
  have HOk := Lib.hid hv.2.2
  have HCk := Lib.hid (fun W (hb : Below w.heap.size w W) => CheckA_any v ss st W (h.rd.below hb) (by omega))
  rw [checkA_T hv] at HCk
  have HRd := Lib.hid (fun W (hb : Below w.heap.size w W) => h.below hb)
  obtain ⟨A, c, rfl, hA⟩ := h
  obtain ⟨bA, oA, rfl, -⟩ := hA (by omega)
  clear hA hv
  have HLo := Lib.hid (fun W => longest_any (some ⟨bA, oA, none⟩) ss.length c st 0 s W)
  obtain ⟨C, hC⟩ : ∃ C, C = w.heap.size := ⟨_, rfl⟩
  refine (callsIn_wide (n := 4)).1 ?_
  refine callsIn_of_wp_marks Try.func38 rfl trivial ?_ rfl
  simp only [Try.ntmps38, List.size_toArray, List.length_cons, List.length_nil, Nat.reduceAdd, Nat.reduceSub, Array.replicate_succ, Array.replicate_zero, List.push_toArray, List.append_toArray, List.nil_append, List.cons_append]
  gi_upto_region 1 with fail
  have HW4 := Lib.hid (alloc3 w (.cells #[.slice (some ⟨bA, oA, none⟩) ss.length c, .int .i64 (st : Int)] tAuto) (.cells #[.bool false] tBool) (.cells #[.int .i64 0] tErr))
  generalize ((w.alloc (.cells #[.slice (some ⟨bA, oA, none⟩) ss.length c, .int .i64 (st : Int)] tAuto)).alloc (.cells #[.bool false] tBool)).alloc (.cells #[.int .i64 0] tErr) = w4 at HW4 ⊢
  rw [← hC] at HW4 HCk HRd ⊢
  have HCw := Lib.hid hC
  clear hC
  obtain ⟨⟨c0, c1⟩, -, -⟩ := box_cells HW4.out.1
  gi_wp2_with (first
    | (refine ⟨(trivial : Fence.wide.fn 59), ?_⟩; gi_at_call 59; refine (callsIn_wide.2 (HCk.out _ HW4.out.2.2.2)).mono ?_; rintro e w1 ⟨rfl, hb1⟩; have HB1 := Lib.hid hb1; clear c0 c1 hb1; obtain ⟨⟨c0, c1⟩, -, -⟩ := box_cells ((HB1.out.block _ (lt_some HW4.out.1)).trans HW4.out.1))
    | (refine ⟨(trivial : Fence.wide.fn 69), ?_⟩; gi_at_call 69; refine (callsIn_wide.2 (HLo.out _)).mono ?_; rintro e w2 ⟨rfl, hc2, hb2, hz2⟩; have HB2 := Lib.hid hb2; have HC2 := Lib.hid hc2; clear hb2 hc2 hz2)
    | gi_in)
  clear c0 c1
  have hbw : Below C w w2 := HW4.out.2.2.2.trans (((HB1.out.trans (HB2.out.mono HB1.out.size))).mono (by have := HW4.out.2.2.2.size; have := HCw.out; omega))
  have hk2 : ∀ k o, w4.heap[k]? = some o → w2.heap[k]? = some o := fun k o hk => (HB2.out.block _ (by have := lt_some hk; have := HB1.out.size; omega)).trans ((HB1.out.block _ (lt_some hk)).trans hk)
  have hT2 : Two C (C + 1) w (.bool false) (.int .i64 0) w2 := ⟨hk2 _ _ HW4.out.2.1, hk2 _ _ HW4.out.2.2.1, hbw, by omega⟩
  have HT2 := Lib.hid hT2
  have hzC := hT2.e.lt
  obtain ⟨hsat, hty⟩ := rd_parts (HRd.out _ hbw) (by omega)
  generalize w1.heap.size = B at HC2 ⊢
  clear hbw hk2 hT2 HB1 HB2 HW4 HLo HCk HRd
  refine range_longest 4 (by omega) B ss st bA oA c 0 s (by omega) h8 hs hst (Nat.zero_le _) HOk.out (by rfl) rfl hsat hty HC2.out
    (fun pre W => pre = [] ∧ Two C (C + 1) w (.bool false) (.int .i64 0) W)
    (fun cd _ W => cd = .ret ∧ Two C (C + 1) w (.bool true) (.int .i64 0) W)
    (fun pre A B row h hg hr => ?own) (fun pre W W' h hk hb => ?k1) (fun cd pre A B row h hg hr => ?own3) ⟨rfl, HT2.out⟩
    (fun x _ => { tmps := #[.agg #[.slice (some ⟨bA, oA, none⟩) ss.length c, .int .i64 (st : Int)], .string s, .pointer (some ⟨C, 0, none⟩), undef, .pointer (some ⟨C + 1, 0, none⟩), .pointer (some ⟨C + 1 + 1, 0, none⟩), .int .i64 0, .agg #[.slice (some ⟨bA, oA, none⟩) ss.length c, .int .i64 (st : Int)], .int .i64 0, .int .i64 0, .bool false, undef, .agg #[.slice (some ⟨bA, oA, none⟩) ss.length c, .int .i64 (st : Int)], .string s, longV B, .agg #[.int .i64 (x.1 : Int), .int .i64 (x.2 : Int)]], defers := [] })
    (fun _ W => W) (fun x W => Below.refl _ _) ?assign ?body ?done ?stop
  case own => exact ⟨h.1, h.2.kept hg (by omega) (fun r e => (hr r e).1)⟩
  case own3 => exact ⟨h.1, h.2.kept hg (by omega) (fun r e => (hr r e).1)⟩
  case k1 => exact ⟨h.1, h.2.k1 hk hb (by omega)⟩
  case assign =>
    intro l x W K hK
    rw [put_one]
    gi_wp2
    exact hK
  case body =>
    rintro l pre x W V ⟨hi0, hTw⟩ hW hVk hVs hpre
    have HF : Hid (KeepsFrom w2.heap.size V ((V.setCell ⟨C + 1, 0, none⟩ (.bool true)).setCell ⟨C + 1 + 1, 0, none⟩ (.int .i64 0)) ∧ Two C (C + 1) w (.bool true) (.int .i64 0) ((V.setCell ⟨C + 1, 0, none⟩ (.bool true)).setCell ⟨C + 1 + 1, 0, none⟩ (.int .i64 0))) := Lib.hid ⟨keeps_two, hTw.set⟩
    have k1 := hTw.b.cell
    have k2 := hTw.e.cell
    have f1 := hTw.b.frozen
    have f2 := hTw.e.frozen
    clear hi0 hTw hVk hVs hpre hsat hty HT2 HC2
    gi_wp2
    exact ⟨HF.out.1, rfl, HF.out.2⟩
  case done =>
    rintro D W hD ⟨hno, hTw⟩ hK
    have HF : Hid (anyF ss st (Tx.bs s) = false) := Lib.hid (anyF_nil hno)
    have hTw2 : Two C (C + 1) w (.bool false) (.int .i64 0) ((W.setCell ⟨C + 1, 0, none⟩ (.bool false)).setCell ⟨C + 1 + 1, 0, none⟩ (.int .i64 0)) := hTw.set
    have hK' : ((W.setCell ⟨C + 1, 0, none⟩ (.bool false)).setCell ⟨C + 1 + 1, 0, none⟩ (.int .i64 0)).heap[D]? = some (.deferred (some [])) := (keeps_two (N := w2.heap.size)).same _ _ hD hK rfl
    have f1 := hTw.b.frozen
    have f2 := hTw.e.frozen
    have k1 := hTw.b.cell
    have k2 := hTw.e.cell
    obtain ⟨W2, hW2⟩ : ∃ W2, (W.setCell ⟨C + 1, 0, none⟩ (.bool false)).setCell ⟨C + 1 + 1, 0, none⟩ (.int .i64 0) = W2 := ⟨_, rfl⟩
    have HW := Lib.hid hW2
    rw [hW2] at hTw2 hK'
    have hl : ∀ r, some D = some r → ∃ o : Obj, W2.heap[r]? = some o ∧ o.isCells = false := fun r e => by cases e; exact ⟨_, hK', rfl⟩
    have q1 := cell_kept hTw2.b.cell (grownBy_putObj' W2 D (.deferred none)) hl
    have q2 := cell_kept hTw2.e.cell (grownBy_putObj' W2 D (.deferred none)) hl
    have HB := Lib.hid (hTw2.bel.trans (belowK_b (w := w2) (n₀ := C) (by omega) W2 D _ (.deferred none) hD hK' rfl rfl))
    clear hno hTw hK hTw2 hW2 hl hsat hty HT2 HC2
    gi_wp2
    rw [HW.out]
    refine ⟨by simp, .inl ⟨_, _, rfl, run_takeDeferred hK', ?_⟩⟩
    rw [HF.out]
    refine ⟨_, (by simp [results, Try.f38, go_sem, q1, q2]), rfl, ?_⟩
    rw [← HCw.out]
    exact HB.out
  case stop =>
    rintro D c pre W hD hne hpre ⟨rfl, hTw⟩ hK
    have HF : Hid (anyF ss st (Tx.bs s) = true) := Lib.hid (anyF_some hne hpre)
    have hl : ∀ r, some D = some r → ∃ o : Obj, W.heap[r]? = some o ∧ o.isCells = false := fun r e => by cases e; exact ⟨_, hK, rfl⟩
    have q1 := cell_kept hTw.b.cell (grownBy_putObj' W D (.deferred none)) hl
    have q2 := cell_kept hTw.e.cell (grownBy_putObj' W D (.deferred none)) hl
    have HB := Lib.hid (hTw.bel.trans (belowK_b (w := w2) (n₀ := C) (by omega) W D _ (.deferred none) hD hK rfl rfl))
    clear hne hpre hTw hl hsat hty HT2 HC2
    gi_wp2
    refine ⟨by simp, .inl ⟨_, _, rfl, run_takeDeferred hK, ?_⟩⟩
    rw [HF.out]
    refine ⟨_, (by simp [results, Try.f38, go_sem, q1, q2]), rfl, ?_⟩
    rw [← HCw.out]
    exact HB.out
end Se
end Go.Proofs.Ythoidaaldngpmaa

/-
  Walk of layer 6: the program's All. Conditions: a valid automaton; a text of at most 100000 bytes.
-/
import Derived.Test.YthoidaaldngpmaaSeaFind
import Derived.Test.YthoidaaldngpmaaSeaApart
import Derived.OwnWalkIn
namespace Go.Proofs.Ythoidaaldngpmaa
open Go.RowKit
attribute [local go_sem] Oper.semAt_some
namespace Se
open Cm Rx Au
/-- What All leaves. -/
def AllPost (K : List (Nat × Nat)) (w : World) (e : Ending) (w' : World) : Prop :=
  ∃ v, e = .returned (.tuple #[v, .int .i64 0]) ∧ w'.ownsRow w.heap.size tSp 2 v K.length (flatP K) ∧ Below w.heap.size w w'
theorem cell_two_new (w : World) (a b : Value) (t : TypeId) : ∀ j u, [a, b][j]? = some u → (w.alloc (.cells #[a, b] t)).cell? ((⟨w.heap.size, 0, none⟩ : Addr).add j) = some u := fun j u hu => by
  have he : (Addr.mk w.heap.size 0 none).add j = ⟨w.heap.size, j, none⟩ := by
    unfold Addr.add; split
    · rename_i h0; rw [h0]
    · simp
  rw [he, World.cell?_alloc_mark, ← hu]; simp
theorem own_keep {w W : World} {base t s n : Nat} {v : Value} {xs : List Value} (h : w.ownsRow base t s v n xs) (hk : ∀ (k : Nat) (o : Obj), w.heap[k]? = some o → (∃ cs t z, o = Obj.cells cs t z) → W.heap[k]? = some o) : W.ownsRow base t s v n xs :=
  own_one h (fun k _ hc => hk k _ hc ⟨_, _, _, rfl⟩)
theorem K2.app {V w1 : World} {tmp : Obj} {v : Value} {b n : Nat} {xs : List Value} (hrow : V.ownsRow b tSp 2 v n xs) (hg : (V.alloc tmp).grownBy w1 v.ownBlock) : K2 V w1 :=
  (K2.alloc V tmp).trans (K2.of hg.size fun k cs t z h1 h2 => hg.block k (lt_some h1) (fun e => by
    obtain ⟨cur, hc⟩ := own_cells (hrow.alloc tmp) e.symm
    rw [hc] at h1
    injection h1 with h1
    injection h1 with _ h1 _
    subst h1
    cases h2))
set_option maxRecDepth 100000 in
set_option maxHeartbeats 2000000 in
theorem All_ok (v : Value) (ss : List St) (st : Nat) (s : ByteArray) (w : World) (h : RdT w v ss) (hv : ValidA ss (st : Int)) (hs : s.size ≤ 100000) :
    Calls Try.prog 43 #[.agg #[v, .int .i64 (st : Int)], .string s] w (AllPost (allL ss st (Tx.bs s)) w) := by
  have hst : st < ss.length := by have := of_decide_eq_true hv.2.1; omega
  have h8 := hv.1
  have HOk := Lib.hid hv.2.2
  have HCk := Lib.hid (fun W (hb : Below w.heap.size w W) => CheckA_any v ss st W (h.rd.below hb) (by omega))
  rw [checkA_T hv] at HCk
  have HRd := Lib.hid (fun W (hb : Below w.heap.size w W) => h.below hb)
  have HBl : Hid ((Tx.bs s).length = s.size) := Lib.hid (bs_len s)
  obtain ⟨A, c, rfl, hA⟩ := h
  obtain ⟨bA, oA, rfl, -⟩ := hA (by omega)
  clear hA hv
  obtain ⟨i0, hi, hz0, hz1, hz2⟩ := info_parts info_sp
  have HI := Lib.hid (And.intro hi (And.intro hz0 (And.intro hz1 hz2)))
  clear hi hz0 hz1 hz2
  have HLo := Lib.hid (fun W => longest_any (some ⟨bA, oA, none⟩) ss.length c st 0 s W)
  obtain ⟨C, hC⟩ : ∃ C, C = w.heap.size := ⟨_, rfl⟩
  refine (callsIn_wide (n := 4)).1 ?_
  refine callsIn_of_wp_marks Try.func43 rfl trivial ?_ rfl
  simp only [Try.ntmps43, List.size_toArray, List.length_cons, List.length_nil, Nat.reduceAdd, Nat.reduceSub, Array.replicate_succ, Array.replicate_zero, List.push_toArray, List.append_toArray, List.nil_append, List.cons_append]
  gi_upto_region 1 with fail
  have HW4 : Hid ((w.alloc (.cells #[.slice (some ⟨bA, oA, none⟩) ss.length c, .int .i64 (st : Int)] tAuto)).heap[w.heap.size]? = some (.cells #[.slice (some ⟨bA, oA, none⟩) ss.length c, .int .i64 (st : Int)] tAuto (0, 0)) ∧ Below w.heap.size w (w.alloc (.cells #[.slice (some ⟨bA, oA, none⟩) ss.length c, .int .i64 (st : Int)] tAuto))) := Lib.hid ⟨heap_new w _, (Below.refl _ _).alloc (Nat.le_refl _) _⟩
  generalize w.alloc (.cells #[.slice (some ⟨bA, oA, none⟩) ss.length c, .int .i64 (st : Int)] tAuto) = w4 at HW4 ⊢
  rw [← hC] at HW4 HCk HRd ⊢
  have HCw := Lib.hid hC
  clear hC
  obtain ⟨⟨c0, c1⟩, -, -⟩ := box_cells HW4.out.1
  gi_upto_region 5 with (first
    | (refine ⟨(trivial : Fence.wide.fn 59), ?_⟩; gi_at_call 59; refine (callsIn_wide.2 (HCk.out _ HW4.out.2)).mono ?_; rintro e w1 ⟨rfl, hb1⟩; have HB1 := Lib.hid hb1; clear c0 c1 hb1)
    | gi_in)
  have HW5 : Hid ((w1.alloc (.cells #[.slice none 0 0] tSps)).heap[w1.heap.size]? = some (.cells #[.slice none 0 0] tSps (0, 0)) ∧ Below w1.heap.size w1 (w1.alloc (.cells #[.slice none 0 0] tSps))) := Lib.hid ⟨heap_new w1 _, (Below.refl _ _).alloc (Nat.le_refl _) _⟩
  generalize w1.alloc (.cells #[.slice none 0 0] tSps) = w5 at HW5 ⊢
  obtain ⟨⟨c0, c1⟩, -, -⟩ := box_cells ((HW5.out.2.block C (by have := lt_some HW4.out.1; have := HB1.out.size; omega)).trans ((HB1.out.block _ (lt_some HW4.out.1)).trans HW4.out.1))
  gi_wp2_with (first
    | (refine ⟨(trivial : Fence.wide.fn 69), ?_⟩; gi_at_call 69; refine (callsIn_wide.2 (HLo.out _)).mono ?_; rintro e w2 ⟨rfl, hc2, hb2, hz2⟩; have HB2 := Lib.hid hb2; have HC2 := Lib.hid hc2; clear hb2 hc2 hz2)
    | gi_in)
  clear c0 c1
  have hCl := lt_some HW4.out.1
  have hz1 := HB1.out.size
  have hz5 := HW5.out.2.size
  have hbw : Below C w w2 := HW4.out.2.trans ((HB1.out.trans ((HW5.out.2.trans (HB2.out.mono hz5)).mono hz1)).mono (by omega))
  have hM : Boxed w2 w1.heap.size tSps (.slice none 0 0) := (HB2.out.block _ (lt_some HW5.out.1)).trans HW5.out.1
  have hz2 := hM.lt
  have HI2 := Lib.hid (And.intro hM hbw)
  obtain ⟨hsat, hty⟩ := rd_parts (HRd.out _ hbw) (by omega)
  generalize w5.heap.size = B at HC2 ⊢
  have hCM : C < w1.heap.size := by omega
  generalize hM' : w1.heap.size = M at HI2 hz2 hCM ⊢
  clear hbw hM hz5 hz1 hM' hCl HB1 HB2 HW4 HW5 HLo HCk HRd
  refine range_longest 4 (by omega) B ss st bA oA c 0 s (by omega) h8 hs hst (Nat.zero_le _) HOk.out (by rfl) rfl hsat hty HC2.out
    (fun pre W => (∃ v, Boxed W M tSps v ∧ W.ownsRow C tSp 2 v pre.length (flatP pre)) ∧ Below C w W)
    (fun _ _ _ => False)
    (fun pre A B row h hg hr => ?own) (fun pre W W' h hk hb => ?k1) (fun cd pre A B row h hg hr => h) ⟨⟨_, HI2.out.1, rfl, .inl ⟨rfl, rfl⟩⟩, HI2.out.2⟩
    (fun x W => { tmps := #[.agg #[.slice (some ⟨bA, oA, none⟩) ss.length c, .int .i64 (st : Int)], .string s, .pointer (some ⟨C, 0, none⟩), undef, .slice none 0 0, .int .i64 0, .int .i64 0, .pointer (some ⟨M, 0, none⟩), .pointer (some ⟨W.heap.size, 0, none⟩), .agg #[.slice (some ⟨bA, oA, none⟩) ss.length c, .int .i64 (st : Int)], .int .i64 0, .int .i64 0, .bool false, undef, .agg #[.slice (some ⟨bA, oA, none⟩) ss.length c, .int .i64 (st : Int)], .string s, longV B, .agg #[.int .i64 (x.1 : Int), .int .i64 (x.2 : Int)], undef, undef, undef, undef, undef, undef, undef, undef], defers := [] })
    (fun x W => W.alloc (.cells #[.int .i64 (x.1 : Int), .int .i64 (x.2 : Int)] tSp)) (fun x W => (Below.refl _ _).alloc (Nat.le_refl _) _) ?assign ?body ?done ?stop
  case own =>
    obtain ⟨⟨v, h1, h2⟩, h3⟩ := h
    refine ⟨⟨v, h1.kept hg (fun e => by have := (hr _ e.symm).1; omega), own_keep h2 (fun k o hk ho => (hg.block k (lt_some hk) (fun e => ?_)).trans hk)⟩, h3.grown hg (by have := h1.lt; omega) (fun k e => by have := (hr k e).1; omega)⟩
    obtain ⟨_, o', ho', hc'⟩ := hr k e.symm
    rw [hk] at ho'
    injection ho' with ho'
    subst ho'
    obtain ⟨cs, t, z, rfl⟩ := ho
    cases hc'
  case k1 =>
    obtain ⟨⟨v, h1, h2⟩, h3⟩ := h
    exact ⟨⟨v, boxed_k1 h1 hk rfl, own_one h2 (fun k cur hc => hk.same _ _ hc (fun cs t z e => by injection e with _ e _; subst e; rfl))⟩, h3.trans (hb.mono (by omega))⟩
  case assign =>
    intro l x W K hK
    rw [put_one]
    gi_wp2
    exact hK
  case body =>
    rintro l pre x W V ⟨⟨v, hv, hrow⟩, h5⟩ hW hVk hVs hpre
    have hnew : V.heap[W.heap.size]? = some (.cells #[.int .i64 (x.1 : Int), .int .i64 (x.2 : Int)] tSp (0, 0)) := (hVk _ (Nat.le_refl _)).trans (heap_new W _)
    obtain ⟨⟨m0, m1⟩, -, -⟩ := box_cells hnew
    have hpl : pre.length ≤ 200000 := by
      have h6 := hpre.length_le
      have h7 := desL_len ss st (Tx.bs s) 0
      rw [HBl.out] at h7
      simp at h6
      omega
    have hc := hv.cell
    have hf := hv.frozen
    have Hrow := Lib.hid hrow
    have Hv := Lib.hid hv
    have H5 := Lib.hid h5
    have hvz := hv.lt
    have HVs := Lib.hid (show C ≤ V.heap.size by omega)
    clear hVk hVs hpre hnew hsat hty HI2 HC2 hrow hv h5
    gi_wp2_with (first
      | (gi_at_builtin; refine wpListIn_append_own _ rfl _ _ tSps rfl C tSp i0 _ 2 16 Try.underlying61 HI.out.1 HI.out.2.1 HI.out.2.2.1 HI.out.2.2.2 rfl (by decide) _ _ _ rfl (Hrow.out.alloc _) ⟨V.heap.size, 0, none⟩ 1 1 [.int .i64 (x.1 : Int), .int .i64 (x.2 : Int)] rfl rfl (cell_two_new _ _ _ _) (by simp [Value.oneCell']) (by unfold maxLen; omega) (by omega) (by simp; omega) ?_; intro v' w6 hown' hgrow _; obtain ⟨A', c', rfl⟩ := own_formP2 hown'; obtain ⟨hv1, hv2, hr2, hk2, hb2⟩ := Hv.out.appended (by decide) Hrow.out HVs.out (by omega) hown' hgrow; have HK2 := Lib.hid ((K2.app Hrow.out hgrow).trans (K2.setCell (i := 0) (u := .slice A' (pre.length + 1 : Nat) c') hv1 rfl)); have hc1 := hv1.cell; have hf1 := hv1.frozen; clear hv1 hown' hgrow)
      | gi_in)
    refine ⟨hk2.from _, ⟨⟨_, hv2, ?_⟩, H5.out.trans hb2⟩, HK2.out⟩
    rw [List.length_append, List.length_singleton, flatP_append]
    exact hr2
  case done =>
    rintro D W hD ⟨⟨v, h1, h2⟩, h3⟩ hK
    have hlen : (desL ss st (Tx.bs s) 0).length ≤ 1000000 := by
      have h7 := desL_len ss st (Tx.bs s) 0
      rw [HBl.out] at h7
      omega
    have hrl : (ascL ss st (Tx.bs s) 0).length = (desL ss st (Tx.bs s) 0).length := by unfold desL; rw [List.length_reverse]
    have hrr : (desL ss st (Tx.bs s) 0).reverse = ascL ss st (Tx.bs s) 0 := by unfold desL; rw [List.reverse_reverse]
    have HRev := Lib.hid (Reverse_any C v (desL ss st (Tx.bs s) 0) W h2 hlen)
    have hzW : C ≤ W.heap.size := by have := h1.lt; omega
    have HAp := Lib.hid (fun (W7 : World) (hz : W.heap.size ≤ W7.heap.size) (ho : W7.ownsRow C tSp 2 v (desL ss st (Tx.bs s) 0).length (flatP (desL ss st (Tx.bs s) 0).reverse)) => apart_any C v (ascL ss st (Tx.bs s) 0) W7 (by rw [hrl, ← hrr]; exact ho) (by omega) (by omega))
    have HAll : Hid (apartL 0 (ascL ss st (Tx.bs s) 0) = allL ss st (Tx.bs s)) := Lib.hid (allL_apart ss st (Tx.bs s))
    have hc1 := h1.cell
    have HM := Lib.hid h1
    have H3 := Lib.hid h3
    have HK := Lib.hid hK
    clear h1 h2 h3 hK hlen hrl hrr hzW hsat hty HI2 HC2
    gi_wp2_with (first
      | (refine ⟨(trivial : Fence.wide.fn 71), ?_⟩; gi_at_call 71; refine (callsIn_wide.2 HRev.out).mono ?_; rintro e w7 ⟨rfl, ho7, hb7, hk7⟩; have HO7 := Lib.hid ho7; have HB7 := Lib.hid hb7; have HK7 := Lib.hid hk7; have c7 : w7.cell? ⟨M, 0, none⟩ = some v := Boxed.cell (hk7.same _ _ HM.out (fun cs z e => by injection e with _ e _; cases e)); clear ho7 hb7 hk7)
      | (refine ⟨(trivial : Fence.wide.fn 72), ?_⟩; gi_at_call 72; refine (callsIn_wide.2 (HAp.out w7 HK7.out.size HO7.out)).mono ?_; rintro e w8 ⟨v8, rfl, ho8, hb8, hk8⟩; have HO8 := Lib.hid ho8; have HB8 := Lib.hid hb8; have HK8 := Lib.hid hk8; clear ho8 hb8 hk8)
      | gi_in)
    have hK8 : w8.heap[D]? = some (.deferred (some [])) := HK8.out.same _ _ (HK7.out.same _ _ HK.out (fun cs z e => by cases e)) (fun cs z e => by cases e)
    refine ⟨by simp, .inl ⟨_, _, rfl, run_takeDeferred hK8, ?_⟩⟩
    refine ⟨_, results_tmp2 rfl _ _ _, v8, rfl, ?_, ?_⟩
    · rw [← HCw.out, ← HAll.out]
      exact ownsRow_putObj HO8.out (.deferred none) hK8 rfl
    · rw [← HCw.out]
      exact ((H3.out.trans HB7.out).trans HB8.out).trans (belowK_b (w := w2) (n₀ := C) (by omega) w8 D _ (.deferred none) hD hK8 rfl rfl)
  case stop =>
    rintro D c pre W _ _ _ h _
    exact h.elim
end Se
end Go.Proofs.Ythoidaaldngpmaa

/-
  Walks of layer 6's reference: Whole, Any. Conditions: a valid automaton; a text of at most 100000 bytes.
-/
import Derived.Test.YthoidaaldngpmaaSeaRef
namespace Go.Proofs.Ythoidaaldngpmaa
open Go.RowKit
namespace Se
open Cm Rx Au
set_option maxRecDepth 100000 in
set_option maxHeartbeats 2000000 in
theorem WholeR_ok (v : Value) (ss : List St) (st : Nat) (s : ByteArray) (w : World) (h : RdA w v ss) (hv : ValidA ss (st : Int)) (hs : s.size ≤ 100000) :
    Calls Try.prog 37 #[.agg #[v, .int .i64 (st : Int)], .string s] w (BePost (wholeF ss st (Tx.bs s)) 0 w) := by
  have hst : st < ss.length := by have := of_decide_eq_true hv.2.1; omega
  have hBl : (Tx.bs s).length = s.size := bs_len s
  have HBl := Lib.hid hBl
  have HCk := Lib.hid (fun W (hb : Below w.heap.size w W) => CheckAR_any v ss st W (h.below hb) (by have := hv.1; omega))
  rw [checkA_T hv] at HCk
  obtain ⟨A, c, rfl, hA⟩ := id h
  have HEn := Lib.hid (fun (W : World) (hb : Below w.heap.size w W) => EndsR_any ss st A c s 0 (h.below hb) hv hs (Nat.zero_le _))
  rw [show ((0 : Nat) : Int) = 0 from rfl] at HEn
  have HWh := Lib.hid (fun (l : List Bool) (hl : IsEnds ss st (Tx.bs s) 0 l) => ends_whole hl hst)
  have HW4 : Hid ((w.alloc (.cells #[.slice A ss.length c, .int .i64 (st : Int)] tAuto)).heap[w.heap.size]? = some (.cells #[.slice A ss.length c, .int .i64 (st : Int)] tAuto (0, 0)) ∧ Below w.heap.size w (w.alloc (.cells #[.slice A ss.length c, .int .i64 (st : Int)] tAuto))) := Lib.hid ⟨heap_new w _, (Below.refl _ _).alloc (Nat.le_refl _) _⟩
  clear hA hBl
  obtain ⟨C, hC⟩ : ∃ C, C = w.heap.size := ⟨_, rfl⟩
  have HCw := Lib.hid hC
  go_enter Try.func37, Try.ntmps37
  go_upto_region 1 with fail
  generalize w.alloc (.cells #[.slice A ss.length c, .int .i64 (st : Int)] tAuto) = w4 at HW4 ⊢
  rw [← hC] at HW4 HCk HEn ⊢
  clear hC h
  obtain ⟨⟨c0, c1⟩, -, -⟩ := box_cells HW4.out.1
  have i1 : (0 : Int) ≤ (s.size : Int) := by omega
  have i2 : (s.size : Int) < (s.size : Int) + 1 := by omega
  go_wp2_with (first
    | (go_at_call 26; refine (HCk.out _ HW4.out.2).mono ?_; rintro e w1 ⟨rfl, hb1⟩; have HB1 : Hid (Below C w w1) := Lib.hid (HW4.out.2.trans (hb1.mono (by have := lt_some HW4.out.1; omega))); clear c0 c1; obtain ⟨⟨c0, c1⟩, -, -⟩ := box_cells ((hb1.block _ (lt_some HW4.out.1)).trans HW4.out.1); clear hb1)
    | (go_at_call 58; refine (HEn.out _ HB1.out).mono ?_; rintro e w2 ⟨l, hl, g, c2, rfl, hbk, hg, hb⟩; have HL := Lib.hid (HWh.out l hl); have hll : l.length = s.size + 1 := (by rw [hl.1, HBl.out]); have q0 := hbk.bit (i := s.size) (by omega); have HB2 : Hid (Below C w w2) := Lib.hid (HB1.out.trans (hb.mono (by have := HB1.out.size; have := HCw.out; omega))); clear hl hbk hg hb hll))
  go_ret2
  refine ⟨?_, by rw [← HCw.out]; exact HB2.out⟩
  rw [← HL.out, HBl.out]
  rfl
set_option maxRecDepth 100000 in
set_option maxHeartbeats 2000000 in
theorem AnyR_ok (v : Value) (ss : List St) (st : Nat) (s : ByteArray) (w : World) (h : RdA w v ss) (hv : ValidA ss (st : Int)) (hs : s.size ≤ 100000) :
    Calls Try.prog 39 #[.agg #[v, .int .i64 (st : Int)], .string s] w (BePost (anyF ss st (Tx.bs s)) 0 w) := by
  have HFi := Lib.hid (fun W (hb : Below w.heap.size w W) => FindR_ok v ss st s 0 W (h.below hb) hv hs (Nat.zero_le _))
  rw [show ((0 : Nat) : Int) = 0 from rfl] at HFi
  obtain ⟨A, c, rfl, hA⟩ := id h
  have HW4 : Hid ((w.alloc (.cells #[.slice A ss.length c, .int .i64 (st : Int)] tAuto)).heap[w.heap.size]? = some (.cells #[.slice A ss.length c, .int .i64 (st : Int)] tAuto (0, 0)) ∧ Below w.heap.size w (w.alloc (.cells #[.slice A ss.length c, .int .i64 (st : Int)] tAuto))) := Lib.hid ⟨heap_new w _, (Below.refl _ _).alloc (Nat.le_refl _) _⟩
  clear hA
  obtain ⟨C, hC⟩ : ∃ C, C = w.heap.size := ⟨_, rfl⟩
  have HCw := Lib.hid hC
  go_enter Try.func39, Try.ntmps39
  go_upto_region 1 with fail
  generalize w.alloc (.cells #[.slice A ss.length c, .int .i64 (st : Int)] tAuto) = w4 at HW4 ⊢
  rw [← hC] at HW4 HFi ⊢
  clear hC h
  obtain ⟨⟨c0, c1⟩, -, -⟩ := box_cells HW4.out.1
  obtain ⟨i0, e0, hv0⟩ : ∃ i0 e0 : Int, spanV (findF ss st (Tx.bs s) 0) = .agg #[.int .i64 i0, .int .i64 e0] := by cases findF ss st (Tx.bs s) 0 <;> exact ⟨_, _, rfl⟩
  have HV := Lib.hid hv0
  clear hv0
  go_wp2_with (go_at_call 41; refine (HFi.out _ HW4.out.2).mono ?_; rintro e w1 ⟨rfl, hb1⟩; rw [HV.out]; have HB1 : Hid (Below C w w1) := Lib.hid (HW4.out.2.trans (hb1.mono (by have := lt_some HW4.out.1; omega))); clear c0 c1 hb1)
  go_ret2
  refine ⟨rfl, ?_⟩
  rw [← HCw.out]
  have := HB1.out.size
  exact HB1.out.alloc (by have := HCw.out; omega) _
end Se
end Go.Proofs.Ythoidaaldngpmaa

/-
  Walks of layer 6's reference: Find, Whole, Any. Conditions: a valid automaton; a text of at most 100000 bytes; for Find, an offset within the text.
-/
import Derived.Test.YthoidaaldngpmaaSeaFind
import Derived.Test.YthoidaaldngpmaaAutoE
import Derived.Laws.Rows
namespace Go.Proofs.Ythoidaaldngpmaa
open Go.RowKit
namespace Se
open Cm Rx Au
theorem ends_best {ss : List St} {st : Nat} {bs : List UInt8} {i j : Nat} {l : List Bool} (h : IsEnds ss st bs i l) (hst : st < ss.length) (hj : l.getD j false = true) (hle : j ≤ bs.length) (hno : ∀ k, j < k → k ≤ bs.length → l.getD k false = false) : bestF ss st bs i = some j := by
  obtain ⟨d, rfl, ha⟩ := (h.2 j hle).1 hj
  refine bestF_some.2 ⟨(run_iff hst hle).1 ha, fun e' hr => ?_⟩
  have hle2 := hr.le
  by_cases hc : e' ≤ i + d
  · exact hc
  · have hf := hno e' (by omega) hle2.2
    have ht : l.getD e' false = true := (h.2 e' hle2.2).2 ⟨e' - i, by omega, (run_iff hst (by omega)).2 (by rw [show i + (e' - i) = e' by omega]; exact hr)⟩
    rw [hf] at ht
    cases ht
theorem ends_none {ss : List St} {st : Nat} {bs : List UInt8} {i : Nat} {l : List Bool} (h : IsEnds ss st bs i l) (hst : st < ss.length) (hno : ∀ k, i ≤ k → k ≤ bs.length → l.getD k false = false) : bestF ss st bs i = none := by
  refine bestF_none.2 fun e hr => ?_
  have hle := hr.le
  have hf := hno e hle.1 hle.2
  have ht : l.getD e false = true := (h.2 e hle.2).2 ⟨e - i, by omega, (run_iff hst (by omega)).2 (by rw [show i + (e - i) = e by omega]; exact hr)⟩
  rw [hf] at ht
  cases ht
theorem ends_whole {ss : List St} {st : Nat} {bs : List UInt8} {l : List Bool} (h : IsEnds ss st bs 0 l) (hst : st < ss.length) : l.getD bs.length false = wholeF ss st bs := by
  unfold wholeF
  cases hl : l.getD bs.length false with
  | true => exact (decide_eq_true (ends_best h hst hl (Nat.le_refl _) (fun k h1 h2 => by omega))).symm
  | false =>
    refine (decide_eq_false (fun hb => ?_)).symm
    have hr := (bestF_some.1 hb).1
    have ht : l.getD bs.length false = true := (h.2 _ (Nat.le_refl _)).2 ⟨bs.length, by omega, (run_iff hst (by omega)).2 (by rw [Nat.zero_add]; exact hr)⟩
    rw [hl] at ht
    cases ht
set_option maxRecDepth 100000 in
set_option maxHeartbeats 2000000 in
theorem FindR_ok (v : Value) (ss : List St) (st : Nat) (s : ByteArray) (p : Nat) (w : World) (h : RdA w v ss) (hv : ValidA ss (st : Int)) (hs : s.size ≤ 100000) (hp : p ≤ s.size) :
    Calls Try.prog 41 #[.agg #[v, .int .i64 (st : Int)], .string s, .int .i64 (p : Int)] w (FindPost (findF ss st (Tx.bs s) p) w) := by
  have hst : st < ss.length := by have := of_decide_eq_true hv.2.1; omega
  have hBl : (Tx.bs s).length = s.size := bs_len s
  have HBl := Lib.hid hBl
  have HCk := Lib.hid (fun W (hb : Below w.heap.size w W) => CheckAR_any v ss st W (h.below hb) (by have := hv.1; omega))
  rw [checkA_T hv] at HCk
  obtain ⟨A, c, rfl, hA⟩ := id h
  have HEn := Lib.hid (fun (W : World) (i : Nat) (hb : Below w.heap.size w W) (hi : i ≤ s.size) => EndsR_any ss st A c s i (h.below hb) hv hs hi)
  have HB1 := Lib.hid (fun (i j : Nat) (l : List Bool) (hl : IsEnds ss st (Tx.bs s) i l) h1 h2 h3 => ends_best (j := j) hl hst h1 h2 h3)
  have HB2 := Lib.hid (fun (i : Nat) (l : List Bool) (hl : IsEnds ss st (Tx.bs s) i l) h1 => ends_none hl hst h1)
  clear hA hBl
  have HW4 := Lib.hid (alloc2 w (.cells #[.slice A ss.length c, .int .i64 (st : Int)] tAuto) (.cells #[.int .i64 0, .int .i64 0] tSp))
  have hp1 : decide ((p : Int) < 0) = false := by simp only [decide_eq_false_iff_not]; omega
  have hp2 : decide (s.size < p) = false := by simp only [decide_eq_false_iff_not]; omega
  obtain ⟨C, hC⟩ : ∃ C, C = w.heap.size := ⟨_, rfl⟩
  have HCw := Lib.hid hC
  go_enter Try.func41, Try.ntmps41
  go_upto_region 1 with fail
  generalize (w.alloc (.cells #[.slice A ss.length c, .int .i64 (st : Int)] tAuto)).alloc (.cells #[.int .i64 0, .int .i64 0] tSp) = w4 at HW4 ⊢
  rw [← hC] at HW4 HCk HEn ⊢
  clear hC h
  obtain ⟨⟨c0, c1⟩, -, -⟩ := box_cells HW4.out.1
  go_wp2_with (go_at_call 26; refine (HCk.out _ HW4.out.2.2).mono ?_; rintro e w1 ⟨rfl, hb1⟩; have HB := Lib.hid hb1; clear c0 c1 hb1)
  have HI : Hid (w1.heap[C]? = some (.cells #[.slice A ss.length c, .int .i64 (st : Int)] tAuto (0, 0)) ∧ w1.heap[C + 1]? = some (.cells #[.int .i64 0, .int .i64 0] tSp (0, 0)) ∧ Below C w w1) := Lib.hid ⟨(HB.out.block _ (lt_some HW4.out.1)).trans HW4.out.1, (HB.out.block _ (lt_some HW4.out.2.1)).trans HW4.out.2.1, HW4.out.2.2.trans (HB.out.mono (by have := lt_some HW4.out.1; omega))⟩
  have HF0 : Hid (findF ss st (Tx.bs s) p = findF ss st (Tx.bs s) p) := Lib.hid rfl
  clear HB HW4 HCk hp1 hp2
  go_loopw [9] (fun a wr => ∃ i : Nat, a = .int .i64 (i : Int) ∧ i ≤ s.size + 1 ∧ Hid (findF ss st (Tx.bs s) p = findF ss st (Tx.bs s) i) ∧ Hid (wr.heap[C]? = some (.cells #[.slice A ss.length c, .int .i64 (st : Int)] tAuto (0, 0)) ∧ wr.heap[C + 1]? = some (.cells #[.int .i64 0, .int .i64 0] tSp (0, 0)) ∧ Below C w wr)) (fun a _ => s.size + 1 - (intOf a).toNat)
  case atStart => exact ⟨p, rfl, by omega, HF0, HI⟩
  case round =>
    clear HI HF0
    obtain ⟨i, rfl, hi, HF, HI⟩ := hrel
    by_cases hlt : i ≤ s.size
    · have i2 : decide (i ≤ s.size) = true := by simpa using hlt
      obtain ⟨⟨c0, c1⟩, -, -⟩ := box_cells HI.out.1
      have HE := Lib.hid (HEn.out wr i HI.out.2.2 hlt)
      go_upto_region 9 with (go_at_call 58; refine HE.out.mono ?_; rintro e w2 ⟨l, hl, g, c2, rfl, hbk, hg, hb⟩; have HL := Lib.hid hl; have HBk := Lib.hid hbk; have HI2 : Hid (w2.heap[C]? = some (.cells #[.slice A ss.length c, .int .i64 (st : Int)] tAuto (0, 0)) ∧ w2.heap[C + 1]? = some (.cells #[.int .i64 0, .int .i64 0] tSp (0, 0)) ∧ Below C w w2) := Lib.hid ⟨(hb.block _ (lt_some HI.out.1)).trans HI.out.1, (hb.block _ (lt_some HI.out.2.1)).trans HI.out.2.1, HI.out.2.2.trans (hb.mono (by have := lt_some HI.out.1; omega))⟩; clear hl hbk hg hb)
      clear HE HI c0 c1
      have HLl : Hid (l.length = s.size + 1) := Lib.hid (by rw [HL.out.1, HBl.out])
      have HA0 : Hid (∀ k : Nat, (s.size : Int) < (k : Int) → k ≤ s.size → l.getD k false = false) := Lib.hid (fun k h1 h2 => by omega)
      go_wp2_with fail
      go_loopw [11] (fun b wq => ∃ j : Int, b = .int .i64 j ∧ (i : Int) - 1 ≤ j ∧ j ≤ (s.size : Int) ∧ Hid (∀ k : Nat, j < (k : Int) → k ≤ s.size → l.getD k false = false) ∧ wq = w2) (fun b _ => (intOf b + 1).toNat)
      case atStart => exact ⟨(s.size : Int), rfl, by omega, Int.le_refl _, HA0, rfl⟩
      case round =>
        clear HA0
        obtain ⟨j, rfl, hj1, hj2, HNo, rfl⟩ := hrel
        by_cases hij : (i : Int) ≤ j
        · obtain ⟨j, rfl⟩ := Int.eq_ofNat_of_zero_le (by omega : 0 ≤ j)
          have i3 : decide (i ≤ j) = true := by simp only [decide_eq_true_eq]; omega
          have q0 := HBk.out.bit (i := j) (by rw [HLl.out]; omega)
          have k0 : (0 : Int) ≤ (j : Int) := by omega
          have k1 : (j : Int) < (s.size : Int) + 1 := by omega
          cases hbit : l.getD j false with
          | true =>
            rw [hbit] at q0
            have hbest := HB1.out i j l HL.out hbit (by rw [HBl.out]; omega) (fun k h1 h2 => HNo.out k (by omega) (by rw [HBl.out] at h2; exact h2))
            have HV : Hid (findF ss st (Tx.bs s) p = some (i, j)) := Lib.hid (by rw [HF.out, findF_hit hbest])
            have g1 := set_block (o := 0) (u := .int .i64 (i : Int)) HI2.out.2.1
            have g2 := set_block (o := 1) (u := .int .i64 (j : Int)) g1
            obtain ⟨⟨r0, r1⟩, -, -⟩ := box_cells g2
            obtain ⟨⟨n0, n1⟩, -, -⟩ := box_cells HI2.out.2.1
            have hf : ∀ k, wr.frozen? ⟨C + 1, k, none⟩ = false := fun k => by simp [World.frozen?, HI2.out.2.1]
            have HR0 := Lib.hid r0
            have HR1 := Lib.hid r1
            have HPost : Hid (FindPost (findF ss st (Tx.bs s) p) w (.returned (.tuple #[.agg #[.int .i64 (i : Int), .int .i64 (j : Int)], .bool true, .int .i64 0])) ((wr.setCell ⟨C + 1, 0, none⟩ (.int .i64 (i : Int))).setCell ⟨C + 1, 1, none⟩ (.int .i64 (j : Int)))) := Lib.hid ⟨by rw [HV.out]; rfl, by rw [← HCw.out]; exact (HI2.out.2.2.setCell (p := ⟨C + 1, 0, none⟩) (Nat.le_succ C) _).setCell (p := ⟨C + 1, 1, none⟩) (Nat.le_succ C) _⟩
            clear hbit hbest g1 g2 r0 r1
            go_wp2_with fail
            have r0 := HR0.out
            have r1 := HR1.out
            exact bodyPost_ret (by simp [results, Try.f41, go_sem, r0, r1]) rfl HPost.out
          | false =>
            have HNo2 : Hid (∀ k : Nat, (j : Int) - 1 < (k : Int) → k ≤ s.size → l.getD k false = false) := Lib.hid (fun k h1 h2 => by
              by_cases e : k = j
              · subst e; exact hbit
              · exact HNo.out k (by omega) h2)
            rw [hbit] at q0
            clear hbit
            go_wp2_with fail
            go_roundw
            case rel => exact ⟨(j : Int) - 1, by first | rfl | (congr 1; omega), by omega, by omega, HNo2, by first | trivial | rfl⟩
            case measure => first | (simp [intOf]; done) | (simp [intOf]; omega)
        · have i3 : decide ((i : Int) ≤ j) = false := by simp only [decide_eq_false_iff_not]; omega
          have HF2 : Hid (findF ss st (Tx.bs s) p = findF ss st (Tx.bs s) (i + 1)) := Lib.hid (by
            rw [HF.out, findF_miss (HB2.out i l HL.out (fun k h1 h2 => HNo.out k (by omega) (by rw [HBl.out] at h2; exact h2)))])
          go_wp2_with fail
          go_roundw
          case rel => exact ⟨i + 1, by go_num, by omega, HF2, HI2⟩
          case measure => simp [intOf]; omega
    · have i2 : decide (i ≤ s.size) = false := by simpa using hlt
      have HV : Hid (findF ss st (Tx.bs s) p = none) := Lib.hid (by rw [HF.out, findF_end (by rw [HBl.out]; omega)])
      have g1 := set_block (o := 0) (u := .int .i64 0) HI.out.2.1
      have g2 := set_block (o := 1) (u := .int .i64 0) g1
      obtain ⟨⟨r0, r1⟩, -, -⟩ := box_cells g2
      obtain ⟨⟨n0, n1⟩, -, -⟩ := box_cells HI.out.2.1
      have hf : ∀ k, wr.frozen? ⟨C + 1, k, none⟩ = false := fun k => by simp [World.frozen?, HI.out.2.1]
      have HR0 := Lib.hid r0
      have HR1 := Lib.hid r1
      have HPost : Hid (FindPost (findF ss st (Tx.bs s) p) w (.returned (.tuple #[.agg #[.int .i64 0, .int .i64 0], .bool false, .int .i64 0])) ((wr.setCell ⟨C + 1, 0, none⟩ (.int .i64 0)).setCell ⟨C + 1, 1, none⟩ (.int .i64 0))) := Lib.hid ⟨by rw [HV.out]; rfl, by rw [← HCw.out]; exact (HI.out.2.2.setCell (p := ⟨C + 1, 0, none⟩) (Nat.le_succ C) _).setCell (p := ⟨C + 1, 1, none⟩) (Nat.le_succ C) _⟩
      clear g1 g2 r0 r1
      go_wp2_with fail
      have r0 := HR0.out
      have r1 := HR1.out
      exact bodyPost_ret (by simp [results, Try.f41, go_sem, r0, r1]) rfl HPost.out
/-- The offset out of range. -/
def OutPost (e : Int) (w : World) (x : Ending) (w' : World) : Prop := x = .returned (.tuple #[.agg #[.int .i64 0, .int .i64 0], .bool false, .int .i64 e]) ∧ Below w.heap.size w w'
set_option maxRecDepth 100000 in
set_option maxHeartbeats 2000000 in
theorem FindR_out (v : Value) (ss : List St) (st : Nat) (s : ByteArray) (p : Int) (w : World) (h : RdA w v ss) (hv : ValidA ss (st : Int)) (hp : p < 0 ∨ (s.size : Int) < p) :
    Calls Try.prog 41 #[.agg #[v, .int .i64 (st : Int)], .string s, .int .i64 p] w (OutPost 3 w) := by
  have HCk := Lib.hid (fun W (hb : Below w.heap.size w W) => CheckAR_any v ss st W (h.below hb) (by have := hv.1; omega))
  rw [checkA_T hv] at HCk
  obtain ⟨A, c, rfl, hA⟩ := id h
  have HW4 := Lib.hid (alloc2 w (.cells #[.slice A ss.length c, .int .i64 (st : Int)] tAuto) (.cells #[.int .i64 0, .int .i64 0] tSp))
  obtain ⟨C, hC⟩ : ∃ C, C = w.heap.size := ⟨_, rfl⟩
  have HCw := Lib.hid hC
  have hcs : (decide (p < 0) = true) ∨ (decide (p < 0) = false ∧ decide ((s.size : Int) < p) = true) := by
    by_cases h0 : p < 0
    · exact .inl (decide_eq_true h0)
    · exact .inr ⟨decide_eq_false h0, decide_eq_true (by omega)⟩
  clear hA hp
  go_enter Try.func41, Try.ntmps41
  go_upto_region 1 with fail
  generalize (w.alloc (.cells #[.slice A ss.length c, .int .i64 (st : Int)] tAuto)).alloc (.cells #[.int .i64 0, .int .i64 0] tSp) = w4 at HW4 ⊢
  rw [← hC] at HW4 HCk ⊢
  clear hC h
  obtain ⟨⟨c0, c1⟩, -, -⟩ := box_cells HW4.out.1
  rcases hcs with hp1 | ⟨hp1, hp2⟩
  all_goals
    go_upto_region 4 with (go_at_call 26; refine (HCk.out _ HW4.out.2.2).mono ?_; rintro e w1 ⟨rfl, hb1⟩; have HB := Lib.hid hb1; clear c0 c1 hb1)
    have hR : w1.heap[C + 1]? = some (.cells #[.int .i64 0, .int .i64 0] tSp (0, 0)) := (HB.out.block _ (lt_some HW4.out.2.1)).trans HW4.out.2.1
    have g1 := set_block (o := 0) (u := .int .i64 0) hR
    have g2 := set_block (o := 1) (u := .int .i64 0) g1
    obtain ⟨⟨r0, r1⟩, -, -⟩ := box_cells g2
    obtain ⟨⟨n0, n1⟩, -, -⟩ := box_cells hR
    have hf : ∀ k, w1.frozen? ⟨C + 1, k, none⟩ = false := fun k => by simp [World.frozen?, hR]
    have HR0 := Lib.hid r0
    have HR1 := Lib.hid r1
    have HPost : Hid (OutPost 3 w (.returned (.tuple #[.agg #[.int .i64 0, .int .i64 0], .bool false, .int .i64 3])) ((w1.setCell ⟨C + 1, 0, none⟩ (.int .i64 0)).setCell ⟨C + 1, 1, none⟩ (.int .i64 0))) := Lib.hid ⟨rfl, by rw [← HCw.out]; exact ((HW4.out.2.2.trans (HB.out.mono (by have := lt_some HW4.out.1; omega))).setCell (p := ⟨C + 1, 0, none⟩) (Nat.le_succ C) _).setCell (p := ⟨C + 1, 1, none⟩) (Nat.le_succ C) _⟩
    clear g1 g2 r0 r1 hR
    go_wp2_with fail
    have r0 := HR0.out
    have r1 := HR1.out
    exact bodyPost_ret (by simp [results, Try.f41, go_sem, r0, r1]) rfl HPost.out
set_option maxRecDepth 100000 in
set_option maxHeartbeats 2000000 in
theorem Find_out (v : Value) (ss : List St) (st : Nat) (s : ByteArray) (p : Int) (w : World) (h : RdA w v ss) (hv : ValidA ss (st : Int)) (hp : p < 0 ∨ (s.size : Int) < p) :
    Calls Try.prog 40 #[.agg #[v, .int .i64 (st : Int)], .string s, .int .i64 p] w (OutPost 3 w) := by
  have HCk := Lib.hid (fun W (hb : Below w.heap.size w W) => CheckA_any v ss st W (h.below hb) (by have := hv.1; omega))
  rw [checkA_T hv] at HCk
  obtain ⟨A, c, rfl, hA⟩ := id h
  have HW4 := Lib.hid (alloc2 w (.cells #[.slice A ss.length c, .int .i64 (st : Int)] tAuto) (.cells #[.int .i64 0, .int .i64 0] tSp))
  obtain ⟨C, hC⟩ : ∃ C, C = w.heap.size := ⟨_, rfl⟩
  have HCw := Lib.hid hC
  have hcs : (decide (p < 0) = true) ∨ (decide (p < 0) = false ∧ decide ((s.size : Int) < p) = true) := by
    by_cases h0 : p < 0
    · exact .inl (decide_eq_true h0)
    · exact .inr ⟨decide_eq_false h0, decide_eq_true (by omega)⟩
  clear hA hp
  go_enter Try.func40, Try.ntmps40
  go_upto_region 1 with fail
  generalize (w.alloc (.cells #[.slice A ss.length c, .int .i64 (st : Int)] tAuto)).alloc (.cells #[.int .i64 0, .int .i64 0] tSp) = w4 at HW4 ⊢
  rw [← hC] at HW4 HCk ⊢
  clear hC h
  obtain ⟨⟨c0, c1⟩, -, -⟩ := box_cells HW4.out.1
  rcases hcs with hp1 | ⟨hp1, hp2⟩
  all_goals
    go_upto_region 5 with (go_at_call 59; refine (HCk.out _ HW4.out.2.2).mono ?_; rintro e w1 ⟨rfl, hb1⟩; have HB := Lib.hid hb1; clear c0 c1 hb1)
    have hR : w1.heap[C + 1]? = some (.cells #[.int .i64 0, .int .i64 0] tSp (0, 0)) := (HB.out.block _ (lt_some HW4.out.2.1)).trans HW4.out.2.1
    have g1 := set_block (o := 0) (u := .int .i64 0) hR
    have g2 := set_block (o := 1) (u := .int .i64 0) g1
    obtain ⟨⟨r0, r1⟩, -, -⟩ := box_cells g2
    obtain ⟨⟨n0, n1⟩, -, -⟩ := box_cells hR
    have hf : ∀ k, w1.frozen? ⟨C + 1, k, none⟩ = false := fun k => by simp [World.frozen?, hR]
    have HR0 := Lib.hid r0
    have HR1 := Lib.hid r1
    have HPost : Hid (OutPost 3 w (.returned (.tuple #[.agg #[.int .i64 0, .int .i64 0], .bool false, .int .i64 3])) ((w1.setCell ⟨C + 1, 0, none⟩ (.int .i64 0)).setCell ⟨C + 1, 1, none⟩ (.int .i64 0))) := Lib.hid ⟨rfl, by rw [← HCw.out]; exact ((HW4.out.2.2.trans (HB.out.mono (by have := lt_some HW4.out.1; omega))).setCell (p := ⟨C + 1, 0, none⟩) (Nat.le_succ C) _).setCell (p := ⟨C + 1, 1, none⟩) (Nat.le_succ C) _⟩
    clear g1 g2 r0 r1 hR
    go_wp2_with fail
    have r0 := HR0.out
    have r1 := HR1.out
    exact bodyPost_ret (by simp [results, Try.f40, go_sem, r0, r1]) rfl HPost.out
end Se
end Go.Proofs.Ythoidaaldngpmaa

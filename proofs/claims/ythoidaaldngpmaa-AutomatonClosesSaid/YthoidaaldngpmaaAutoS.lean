/-
  The reference's Closure. Conditions: a valid automaton; at most a million states to begin with. Layer 5's statements: equal automata compare as equal. Condition: at most a million states.
-/
import Derived.Test.YthoidaaldngpmaaAutoQ
import Derived.Test.YthoidaaldngpmaaAutoC
import Derived.Test.YthoidaaldngpmaaRegexRead
namespace Go.Proofs.Ythoidaaldngpmaa
section
open Go.RowKit
namespace Au
open Cm Rx
/-- The states marked so far. -/
def markL (n : Nat) (us : List Int) : List Bool := (List.range n).map fun i : Nat => decide ((i : Int) ∈ us)
theorem markL_len (n : Nat) (us : List Int) : (markL n us).length = n := by simp [markL]
theorem markL_get {n i : Nat} {us : List Int} : (markL n us).getD i false = true ↔ i < n ∧ (i : Int) ∈ us := by
  unfold markL
  rw [List.getD_eq_getElem?_getD, List.getElem?_map]
  by_cases h : i < n
  · rw [List.getElem?_range h]; simp [h]
  · rw [List.getElem?_eq_none (by simpa using h)]; simp [h]
theorem markL_nil (n : Nat) : markL n [] = List.replicate n false := by
  refine ext_getB (by rw [markL_len, List.length_replicate]) fun i _ => ?_
  rw [markL_get, getB_rep]; simp
theorem markL_snoc {n k : Nat} {us : List Int} (hk : k < n) : (markL n us).set k true = markL n (us ++ [(k : Int)]) := by
  refine ext_getB (by rw [List.length_set, markL_len, markL_len]) fun i hi => ?_
  rw [List.length_set, markL_len] at hi
  rw [getB_set _ _ _ (by rw [markL_len]; exact hk), markL_get, List.mem_append, List.mem_singleton]
  by_cases e : i = k
  · subst e; rw [if_pos rfl]; simp [hi]
  · rw [if_neg e, markL_get]
    constructor
    · rintro ⟨a, b⟩; exact ⟨a, .inl b⟩
    · rintro ⟨a, b | b⟩
      · exact ⟨a, b⟩
      · exact absurd (by omega) e
theorem markL_inn {n : Nat} {us : List Int} (h : ∀ u ∈ us, 0 ≤ u ∧ u < (n : Int)) : (fun i => (markL n us).getD i false = true) = fun k : Nat => (k : Int) ∈ us := by
  funext i
  rw [markL_get]
  exact propext ⟨fun h => h.2, fun hi => ⟨by have := (h _ hi).2; omega, hi⟩⟩
open Classical in
noncomputable def outL (ss : List St) (st en : Bool) (inn : Nat → Prop) (q : Nat) : List Int := ((List.range q).filter fun i => decide (Reach ss st en inn i)).map fun i : Nat => (i : Int)
open Classical in
theorem outL_all (ss : List St) (st en : Bool) (inn : Nat → Prop) : outL ss st en inn ss.length = closureL ss st en inn := rfl
open Classical in
theorem outL_succ (ss : List St) (st en : Bool) (inn : Nat → Prop) (q : Nat) : outL ss st en inn (q + 1) = if Reach ss st en inn q then outL ss st en inn q ++ [(q : Int)] else outL ss st en inn q := by
  unfold outL
  rw [List.range_succ, List.filter_append, List.map_append]
  by_cases h : Reach ss st en inn q
  · rw [if_pos h]; simp [h]
  · rw [if_neg h]; simp [h]
theorem outL_len (ss : List St) (st en : Bool) (inn : Nat → Prop) (q : Nat) : (outL ss st en inn q).length ≤ q := by
  unfold outL
  rw [List.length_map]
  exact Nat.le_trans (List.length_filter_le _ _) (by simp)
theorem app_int_snoc (l : List Int) (x : Int) : intsV (l ++ [x]) = intsV l ++ [.int .i64 x] := by simp [intsV]
set_option maxRecDepth 100000 in
set_option maxHeartbeats 4000000 in
theorem ClosureR_any {w : World} (ss : List St) (st : Int) (A : Option Addr) (c : Nat) (vu : Value) (us : List Int) (s e : Bool) (hr : RdA w (.slice A ss.length c) ss) (hv : ValidA ss st) (hu : RdV w vu (intsV us)) (hul : us.length ≤ 1000000) :
    Calls Try.prog 31 #[.agg #[.slice A ss.length c, .int .i64 st], vu, .bool s, .bool e] w (ClosPost w ss s e us) := by
  have HCk := Lib.hid (fun (w' : World) (hb : Below w.heap.size w w') => CheckAR_any (.slice A ss.length c) ss st w' (hr.below hb) (by have := hv.1; omega))
  have HCt : Hid (checkA ss st = 0) := Lib.hid (checkA_T hv)
  rw [HCt.out] at HCk
  have HR := Lib.hid hr
  have HU := Lib.hid hu
  obtain ⟨h8, hst, hok⟩ := hv
  have hpos : 0 < ss.length := by have := of_decide_eq_true hst; omega
  have HCl := Lib.hid (fun (w' : World) (hb : Below w.heap.size w w') vin l0 (hin : RdV w' vin (boolsV l0)) (hl : l0.length = ss.length) => CloseR_any (w := w') ss st A c vin l0 s e (hr.below hb) hok h8 hin hl hpos)
  obtain ⟨Au, cu, hue⟩ := hu.form
  rw [intsV_len] at hue
  subst hue
  have HCT := Lib.hid (codeC_T (n := ss.length) (us := us))
  have HCF := Lib.hid (codeC_F (n := ss.length) (us := us))
  clear hr hu hok hst
  have HEnd : Hid (∀ w', Below w.heap.size w w' → codeC ss.length us = 3 → ClosPost w ss s e us (.returned (.tuple #[.slice none 0 0, .int .i64 3])) w') := Lib.hid (fun w' h1 h2 => ⟨.slice none 0 0, by rw [h2], h1, fun _ => rfl, fun h => (by rw [h2] at h; cases h)⟩)
  have HFin : Hid (∀ v w', Below w.heap.size w w' → codeC ss.length us = 0 → w'.ownsRow w.heap.size tInt 1 v (outL ss s e (fun k => (k : Int) ∈ us) ss.length).length (intsV (outL ss s e (fun k => (k : Int) ∈ us) ss.length)) → ClosPost w ss s e us (.returned (.tuple #[v, .int .i64 0])) w') := Lib.hid (fun v w' h1 h2 h3 => ⟨v, by rw [h2], h1, fun h => (by rw [h2] at h; cases h), fun _ => h3⟩)
  have HInn : Hid ((∀ u ∈ us, 0 ≤ u ∧ u < (ss.length : Int)) → (fun i => (markL ss.length us).getD i false = true) = fun k : Nat => (k : Int) ∈ us) := Lib.hid markL_inn
  generalize ClosPost w ss s e us = Post at HEnd HFin ⊢
  obtain ⟨n, hn⟩ : ∃ n, n = ss.length := ⟨_, rfl⟩
  have HN := Lib.hid hn.symm
  rw [← hn] at h8 hpos ⊢
  rw [HN.out] at HCk HCl HCT HCF HEnd HFin HInn
  clear hn
  have hmk := make_bools n (by omega)
  obtain ⟨nu, hnu⟩ : ∃ nu, nu = us.length := ⟨_, rfl⟩
  have HNu := Lib.hid hnu.symm
  rw [← hnu] at hul ⊢
  clear hnu
  go_enter Try.func31, Try.ntmps31
  go_upto_region 1 with fail
  have HB1 : Hid (Below w.heap.size w (w.alloc (.cells #[.slice A n c, .int .i64 st] 40))) := Lib.hid ((Below.refl _ _).alloc (Nat.le_refl _) _)
  have HX1 : Hid ((w.alloc (.cells #[.slice A n c, .int .i64 st] 40)).heap[w.heap.size]? = some (.cells #[.slice A n c, .int .i64 st] 40 (0, 0))) := Lib.hid (heap_new w _)
  generalize w.alloc (.cells #[.slice A n c, .int .i64 st] 40) = w1 at HB1 HX1 ⊢
  have c0 : w1.cell? ⟨w.heap.size, 0, none⟩ = some (.slice A n c) := by simp [World.cell?, HX1.out]
  have c1 : w1.cell? ⟨w.heap.size, 1, none⟩ = some (.int .i64 st) := by simp [World.cell?, HX1.out]
  go_wp2_with fail
  refine (HCk.out w1 HB1.out).mono ?_
  rintro x w2 ⟨rfl, hb2⟩
  have HB2 := Lib.hid (HB1.out.trans (hb2.mono HB1.out.size))
  have HX2 := Lib.hid ((hb2.block _ (lt_some HX1.out)).trans HX1.out)
  have d0 : w2.cell? ⟨w.heap.size, 0, none⟩ = some (.slice A n c) := by simp [World.cell?, HX2.out]
  have HH : Hid (w.heap.size < w2.heap.size) := Lib.hid (lt_some HX2.out)
  have d1 : w2.cell? ⟨w.heap.size, 1, none⟩ = some (.int .i64 st) := by simp [World.cell?, HX2.out]
  clear hb2 c0 c1 HB1 HX1
  go_upto_region 4 with fail
  have HK3 : Hid (Blk (w2.alloc (.cells (madeCells #[.bool false] n) tBool)) w2.heap.size tBool (boolsV (markL n (us.take 0)))) := Lib.hid (by rw [List.take_zero, markL_nil]; exact blk_madeC w2 n)
  have HB3 : Hid (Below w2.heap.size w2 (w2.alloc (.cells (madeCells #[.bool false] n) tBool))) := Lib.hid ((Below.refl _ _).alloc (Nat.le_refl _) _)
  generalize w2.alloc (.cells (madeCells #[.bool false] n) tBool) = w3 at HK3 HB3 ⊢
  generalize hg : w2.heap.size = g at HK3 HB3 HH ⊢
  have HG := Lib.hid hg
  clear hg d0 d1 hmk
  go_wp2_with fail
  go_loopw [11] (fun i wr => ∃ q : Nat, q ≤ nu ∧ i = .int .i64 (q : Int) ∧ Hid (Blk wr g tBool (boolsV (markL n (us.take q)))) ∧ Hid (∀ j (h : j < us.length), j < q → 0 ≤ us[j] ∧ us[j] < (n : Int)) ∧ Hid (Below g w2 wr)) (fun i _ => nu - (intOf i).toNat)
  case atStart => exact ⟨0, Nat.zero_le _, by go_num, HK3, Lib.hid (fun j _ h => absurd h (Nat.not_lt_zero _)), HB3⟩
  case round =>
    obtain ⟨q, hq, rfl, HK, HAll, HBw⟩ := hrel
    have HBa : Hid (Below w.heap.size w wr) := Lib.hid (HB2.out.trans (HBw.out.mono (Nat.le_of_lt HH.out)))
    by_cases hlt : q < nu
    · have hx : q < us.length := by rw [HNu.out]; exact hlt
      obtain ⟨he, bu, ou, rfl, hcu⟩ := HU.out.at (by rw [intsV_len]; omega)
      have hc0 := hcu q (by rw [intsV_len]; exact hx)
      have hcv : (intsV us)[q]'(by rw [intsV_len]; exact hx) = .int .i64 us[q] := by simp [intsV]
      rw [hcv] at hc0
      have u0 : wr.cell? ⟨bu, ou + q, none⟩ = some (.int .i64 us[q]) := (HBa.out.cell (p := ⟨bu, ou + q, none⟩) (Tx.cell_lt hc0)).trans hc0
      have HMem : Hid (us[q] ∈ us) := Lib.hid (List.getElem_mem hx)
      have HTk : Hid (us.take (q + 1) = us.take q ++ [us[q]]) := Lib.hid (List.take_succ_eq_append_getElem hx)
      have HAllS : Hid (0 ≤ us[q] ∧ us[q] < (n : Int) → ∀ j (h : j < us.length), j < q + 1 → 0 ≤ us[j] ∧ us[j] < (n : Int)) := Lib.hid (fun h2 j hj hjq => by
        by_cases ej : j = q
        · subst ej; exact h2
        · exact HAll.out j hj (by omega))
      clear he hcu hc0 hcv
      generalize us[q] = z at u0 HMem HTk HAllS
      have i0 : (0 : Int) ≤ (q : Int) := by omega
      have i1 : (q : Int) < (nu : Int) := by omega
      have hd : decide (q < nu) = true := by simpa using hlt
      by_cases hz : 0 ≤ z ∧ z < (n : Int)
      · have HA2 := Lib.hid (HAllS.out hz)
        obtain ⟨k, rfl⟩ := Int.eq_ofNat_of_zero_le hz.1
        have hkn : k < n := by omega
        have d1 : decide ((k : Int) < 0) = false := by simp only [decide_eq_false_iff_not]; omega
        have d2 : decide (n ≤ k) = false := by simp only [decide_eq_false_iff_not]; omega
        have b0 := HK.out.bit (i := k) (by rw [markL_len]; exact hkn)
        have f0 := HK.out.frozen k
        have HK4 : Hid (Blk (wr.setCell ⟨g, k, none⟩ (.bool true)) g tBool (boolsV (markL n (us.take (q + 1))))) := Lib.hid (by
          rw [HTk.out, ← markL_snoc hkn]
          exact HK.out.setBit k true)
        have HB4 := Lib.hid (HBw.out.setCell (p := ⟨g, k, none⟩) (Nat.le_refl _) (.bool true))
        generalize (markL n (us.take q)).getD k false = bb at b0
        have i2 : (0 : Int) ≤ (k : Int) := by omega
        have i3 : (k : Int) < (n : Int) := by omega
        clear hz HAllS
        go_wp2_with fail
        go_roundw
        case rel => exact ⟨q + 1, by omega, by go_num, HK4, HA2, HB4⟩
        case measure => simp [intOf]; omega
      · have HE := Lib.hid (HEnd.out wr HBa.out (HCF.out (fun h => hz (h z HMem.out))))
        clear HAllS
        by_cases hz0 : z < 0
        · go_wp2_with fail
          exact HE.out
        · have hz1 : (n : Int) ≤ z := by omega
          clear hz
          go_wp2_with fail
          exact HE.out
    · obtain rfl : q = nu := by omega
      have hd : decide (q < q) = false := by simp
      have HTk : Hid (us.take q = us) := Lib.hid (List.take_of_length_le (by rw [HNu.out]; exact Nat.le_refl _))
      rw [HTk.out] at HK
      have HV : Hid (∀ u ∈ us, 0 ≤ u ∧ u < (n : Int)) := Lib.hid (fun u hu => by
        obtain ⟨j, hj, rfl⟩ := List.mem_iff_getElem.1 hu
        exact HAll.out j hj (by rw [← HNu.out]; exact hj))
      have HCode := Lib.hid (HCT.out HV.out)
      have HI2 := Lib.hid (HInn.out HV.out)
      have HXr : Hid (wr.heap[w.heap.size]? = some (.cells #[.slice A n c, .int .i64 st] 40 (0, 0))) := Lib.hid ((HBw.out.block _ HH.out).trans HX2.out)
      have c0 : wr.cell? ⟨w.heap.size, 0, none⟩ = some (.slice A n c) := by simp [World.cell?, HXr.out]
      have c1 : wr.cell? ⟨w.heap.size, 1, none⟩ = some (.int .i64 st) := by simp [World.cell?, HXr.out]
      have HC := HCl.out wr HBa.out (.slice (some ⟨g, 0, none⟩) n n) (markL n us) (rd_blk HK.out (markL_len n us) (Nat.le_refl _)) (markL_len n us)
      unfold BoolsOut at HC
      rw [HI2.out] at HC
      have HCh := Lib.hid HC
      clear HC HAll HTk HInn HCT HCF HEnd
      go_wp2_with fail
      refine HCh.out.mono ?_
      rintro x w4 ⟨g2, c2, rfl, hbk, hg2, hb4⟩
      have HK4 := Lib.hid hbk
      have HB4 := Lib.hid (HBa.out.trans (hb4.mono HBa.out.size))
      clear hbk hg2 hb4 c0 c1 HCh
      go_wp2_with fail
      go_loopw [12, 13] (fun v i wr => ∃ q2 : Nat, q2 ≤ n ∧ i = .int .i64 (q2 : Int) ∧ Hid (wr.ownsRow w4.heap.size tInt 1 v (outL ss s e (fun k => (k : Int) ∈ us) q2).length (intsV (outL ss s e (fun k => (k : Int) ∈ us) q2))) ∧ Hid (Below w4.heap.size w4 wr)) (fun _ i _ => n - (intOf i).toNat)
      case atStart => exact ⟨0, Nat.zero_le _, by go_num, Lib.hid (World.ownsRow_nil _ _ _ _), Lib.hid (Below.refl _ _)⟩
      case round =>
        obtain ⟨q2, hq2, rfl, HO, HBx⟩ := hrel
        by_cases hlt2 : q2 < n
        · have hd2 : decide (q2 < n) = true := by simpa using hlt2
          have HSu := Lib.hid (outL_succ ss s e (fun k => (k : Int) ∈ us) q2)
          have hol := outL_len ss s e (fun k => (k : Int) ∈ us) q2
          have b0 := HK4.out.bit (i := q2) (by rw [close_len]; exact hlt2)
          have b1 : wr.cell? ⟨g2, q2, none⟩ = _ := (HBx.out.cell (p := ⟨g2, q2, none⟩) HK4.out.lt).trans b0
          have HGe := Lib.hid (close_get (ss := ss) (st := s) (en := e) (inn := fun k => (k : Int) ∈ us) hlt2)
          generalize (closeF ss s e (fun k => (k : Int) ∈ us) n).getD q2 false = bb at b1 HGe
          have i0 : (0 : Int) ≤ (q2 : Int) := by omega
          have i1 : (q2 : Int) < (n : Int) := by omega
          obtain ⟨Av, cv, rfl⟩ := own_form HO.out
          clear b0
          cases bb with
          | true =>
            rw [if_pos (HGe.out.1 rfl)] at HSu
            have HOl : Hid ((outL ss s e (fun k => (k : Int) ∈ us) q2).length ≤ 8000) := Lib.hid (by omega)
            generalize outL ss s e (fun k => (k : Int) ∈ us) q2 = ol at HO HSu HOl hol
            go_wp2_with (at_builtin; refine app_one rfl Try.underlying30 info_int rfl (by omega) (.tmp 62) (.tmp 64) rfl w4.heap.size ol.length (intsV ol) (.int .i64 (q2 : Int)) rfl _ _ rfl HO.out rfl rfl (by omega) HBx.out.size ?_; intro v5 w5 ho5 hb5 _; have HO5 := Lib.hid ho5; have HB5 := Lib.hid (HBx.out.trans hb5); obtain ⟨A5, c5, rfl⟩ := own_form ho5; clear ho5 hb5)
            go_roundw
            case rel => exact ⟨q2 + 1, by omega, by go_num, Lib.hid (by rw [HSu.out, List.length_append, List.length_singleton, app_int_snoc]; exact HO5.out), HB5⟩
            case measure => simp [intOf]; omega
          | false =>
            rw [if_neg (fun h => by have := HGe.out.2 h; cases this)] at HSu
            go_wp2_with fail
            go_roundw
            case rel => exact ⟨q2 + 1, by omega, by go_num, Lib.hid (by rw [HSu.out]; exact HO.out), HBx⟩
            case measure => simp [intOf]; omega
        · obtain rfl : q2 = n := by omega
          have hd2 : decide (q2 < q2) = false := by simp
          have HE := Lib.hid (HFin.out _ wr (HB4.out.trans (HBx.out.mono HB4.out.size)) HCode.out (own_base HO.out HB4.out.size))
          go_wp2_with fail
          exact HE.out
end Au
end
section
open Go.RowKit
namespace Au
open Cm Rx
abbrev tAuS : TypeId := 40
theorem alloc_szA (w : World) (o : Obj) : (w.alloc o).heap.size = w.heap.size + 1 := by show (w.heap.push o).size = _; simp
theorem guard_st : Try.prog.eqGuardType Try.prog.depth tSt = false := by kernel_rfl
theorem eqI (d : Nat) (x : Int) (w : World) : (Op.equalIn (d + 1) 3 (.int .i64 x) (.int .i64 x)).run Try.prog w = .ok true w := by
  simp [Op.equalIn, run_underlying Try.underlying3]
theorem eqSet (x0 x1 x2 x3 : Int) (w : World) : (Op.equalIn 9999 tSet (.agg #[.int .u64 x0, .int .u64 x1, .int .u64 x2, .int .u64 x3]) (.agg #[.int .u64 x0, .int .u64 x1, .int .u64 x2, .int .u64 x3])).run Try.prog w = .ok true w := by
  show (Op.equalIn (9998 + 1) tSet _ _).run Try.prog w = _
  unfold Op.equalIn
  simp [run_underlying Try.underlying72]
  have e := fun x w => eq64 9997 x w
  simp at e
  have hs : ∀ w, (sizeOf 71).run Try.prog w = .ok 1 w := fun w => by kernel_rfl
  have hp : ∀ (cs : Array Value) (i : Nat) (v : Value) (w : World), cs[i]? = some v → (part 71 cs i).run Try.prog w = .ok v w := fun cs i v w h => by
    unfold part
    simp [hs, h]
  simp [List.range', hp, e, Result.andThen]
/-- Equal states compare as equal. -/
theorem equal_st (k x0 x1 x2 x3 nx ox : Int) (w : World) : (Op.equalIn 10000 tSt (.agg #[.int .i64 k, .int .u64 x0, .int .u64 x1, .int .u64 x2, .int .u64 x3, .int .i64 nx, .int .i64 ox]) (.agg #[.int .i64 k, .int .u64 x0, .int .u64 x1, .int .u64 x2, .int .u64 x3, .int .i64 nx, .int .i64 ox])).run Try.prog w = .ok true w := by
  show (Op.equalIn (9999 + 1) tSt _ _).run Try.prog w = _
  unfold Op.equalIn
  have hst : Try.prog.stoodInHeld tSt = false := by kernel_rfl
  have e1 := fun x w => eqI 9998 x w
  have e2 := fun x0 x1 x2 x3 w => eqSet x0 x1 x2 x3 w
  simp at e1
  have hs : ∀ w, (sizeOf 3).run Try.prog w = .ok 1 w := fun w => by kernel_rfl
  have hp : ∀ (cs : Array Value) (i : Nat) (v : Value) (w : World), cs[i]? = some v → (part 3 cs i).run Try.prog w = .ok v w := fun cs i v w h => by
    unfold part
    simp [hs, h]
  have h0 := fun w => hp #[.int .i64 k, .int .u64 x0, .int .u64 x1, .int .u64 x2, .int .u64 x3, .int .i64 nx, .int .i64 ox] 0 _ w rfl
  have h5 := fun w => hp #[.int .i64 k, .int .u64 x0, .int .u64 x1, .int .u64 x2, .int .u64 x3, .int .i64 nx, .int .i64 ox] 5 _ w rfl
  have h6 := fun w => hp #[.int .i64 k, .int .u64 x0, .int .u64 x1, .int .u64 x2, .int .u64 x3, .int .i64 nx, .int .i64 ox] 6 _ w rfl
  have h1 : ∀ w : World, (part 72 #[.int .i64 k, .int .u64 x0, .int .u64 x1, .int .u64 x2, .int .u64 x3, .int .i64 nx, .int .i64 ox] 1).run Try.prog w = .ok (.agg #[.int .u64 x0, .int .u64 x1, .int .u64 x2, .int .u64 x3]) w := fun w => by kernel_rfl
  simp only [tSet] at e2
  simp [run_underlying Try.underlying103, hst, h0, h1, h5, h6, e1, e2, Result.andThen]
set_option maxRecDepth 100000 in
set_option maxHeartbeats 4000000 in
/-- Equal automata compare as equal. -/
theorem same_any (va vb : Value) (ss : List St) (st : Int) (w : World) (ha : RdA w va ss) (hb : RdA w vb ss) (hl : ss.length ≤ 1000000) :
    Calls Try.prog 33 #[.agg #[va, .int .i64 st], .agg #[vb, .int .i64 st]] w fun e w' => e = .returned (.bool true) ∧ Below w.heap.size w w' := by
  have HA := Lib.hid ha
  have HB := Lib.hid hb
  obtain ⟨A, c, rfl, ha2⟩ := ha
  obtain ⟨B, d, rfl, hb2⟩ := hb
  clear ha2 hb2
  obtain ⟨n, hn⟩ : ∃ n, n = ss.length := ⟨_, rfl⟩
  have HN := Lib.hid hn.symm
  rw [← hn] at hl ⊢
  clear hn
  go_enter Try.func33, Try.ntmps33
  go_upto_region 3 with fail
  have HB2 : Hid (Below w.heap.size w ((w.alloc (.cells #[.slice A n c, .int .i64 st] tAuS)).alloc (.cells #[.slice B n d, .int .i64 st] tAuS))) := Lib.hid (((Below.refl _ _).alloc (Nat.le_refl _) _).alloc (by rw [alloc_szA]; omega) _)
  have HX : Hid (((w.alloc (.cells #[.slice A n c, .int .i64 st] tAuS)).alloc (.cells #[.slice B n d, .int .i64 st] tAuS)).heap[w.heap.size]? = some (.cells #[.slice A n c, .int .i64 st] tAuS (0, 0))) := Lib.hid ((Below.heap_alloc _ _ _ (by rw [alloc_szA]; omega)).trans (heap_new w _))
  have HY : Hid (((w.alloc (.cells #[.slice A n c, .int .i64 st] tAuS)).alloc (.cells #[.slice B n d, .int .i64 st] tAuS)).heap[w.heap.size + 1]? = some (.cells #[.slice B n d, .int .i64 st] tAuS (0, 0))) := Lib.hid (by have h := heap_new (w.alloc (.cells #[.slice A n c, .int .i64 st] tAuS)) (.cells #[.slice B n d, .int .i64 st] tAuS); rw [alloc_szA] at h; exact h)
  generalize (w.alloc (.cells #[.slice A n c, .int .i64 st] tAuS)).alloc (.cells #[.slice B n d, .int .i64 st] tAuS) = w2 at HB2 HX HY ⊢
  have HA2 := Lib.hid (HA.out.below HB2.out)
  have HC2 := Lib.hid (HB.out.below HB2.out)
  clear HA HB
  go_wp2_with fail
  go_loopw [5] (fun i wr => ∃ j : Nat, j ≤ n ∧ i = .int .i64 (j : Int) ∧ ∃ m, wr = w2.drewN m) (fun i _ => n - (intOf i).toNat)
  case atStart => exact ⟨0, Nat.zero_le _, rfl, 0, rfl⟩
  case round =>
    obtain ⟨j, hj, rfl, m, rfl⟩ := hrel
    have x0 : w2.cell? ⟨w.heap.size, 0, none⟩ = some (.slice A n c) := by simp [World.cell?, HX.out]
    have y0 : w2.cell? ⟨w.heap.size + 1, 0, none⟩ = some (.slice B n d) := by simp [World.cell?, HY.out]
    by_cases hlt : j < n
    · have hx : j < ss.length := by rw [HN.out]; exact hlt
      obtain ⟨A1, c1, e1, hA⟩ := HA2.out
      obtain ⟨A2, c2, e2, hB⟩ := HC2.out
      obtain ⟨b1, o1, rfl, hA1⟩ := hA (by omega)
      obtain ⟨b2, o2, rfl, hB1⟩ := hB (by omega)
      obtain ⟨p0, p1, p2, p3, p4, p5, p6⟩ := hA1 j hx
      obtain ⟨q0, q1, q2, q3, q4, q5, q6⟩ := hB1 j hx
      obtain ⟨rfl, -, -⟩ : A = some ⟨b1, o1, none⟩ ∧ _ ∧ _ := by injection e1 with h1 h2 h3; exact ⟨h1, h2, h3⟩
      obtain ⟨rfl, -, -⟩ : B = some ⟨b2, o2, none⟩ ∧ _ ∧ _ := by injection e2 with h1 h2 h3; exact ⟨h1, h2, h3⟩
      generalize ss[j] = nd at p0 p1 p2 p3 p4 p5 p6 q0 q1 q2 q3 q4 q5 q6
      clear hA1 hB1 hA hB e1 e2
      generalize word nd.set 0 = z0 at p1 q1
      generalize word nd.set 1 = z1 at p2 q2
      generalize word nd.set 2 = z2 at p3 q3
      generalize word nd.set 3 = z3 at p4 q4
      generalize nd.kind = k at p0 q0
      generalize nd.next = nx at p5 q5
      generalize nd.other = ox at p6 q6
      have i1 : (0 : Int) ≤ (j : Int) := by omega
      have i2 : (j : Int) < (n : Int) := by omega
      have heq := equal_st k (z0 : Int) (z1 : Int) (z2 : Int) (z3 : Int) nx ox
      have hgd := guard_st
      go_wp2_with fail
      go_quiet (fail)
      go_wp2_with fail
      go_roundw
      case rel => exact ⟨j + 1, by omega, by go_num, _, rfl⟩
      case measure => simp [intOf]; omega
    · have hd : decide (j < n) = false := by simp only [decide_eq_false_iff_not]; omega
      go_wp2_with fail
      go_ret
      exact ⟨rfl, below_drewN HB2.out m⟩
end Au
end
end Go.Proofs.Ythoidaaldngpmaa

/-
  The reference's Table: the distances of all rests. Condition: at most 1000 lines.
-/
import Derived.Test.YtechabkmepejaaaShoScr
import Derived.StillTailTactics
namespace Go.Proofs.Ytechabkmepejaaa
open Go.RowKit
namespace Sh
open Cm Sc
abbrev tIs : TypeId := 22
theorem info_is : (Try.prog.info? tIs).map (fun i => (i.zero, i.size, i.bytes)) = some (some (.slice none 0 0), 1, 24) := by kernel_rfl
def dI (a b : List Int) (i j : Nat) : Int := dist (a.drop i) (b.drop j)
theorem dist_rng (a b : List Int) : 0 ≤ dist a b ∧ dist a b ≤ a.length + b.length := by
  have := lcs_le a b
  unfold dist; omega
theorem dI_rng (a b : List Int) (i j : Nat) : 0 ≤ dI a b i j ∧ dI a b i j ≤ a.length + b.length := by
  have h := dist_rng (a.drop i) (b.drop j)
  rw [List.length_drop, List.length_drop] at h
  unfold dI; omega
theorem dI_endA {a b : List Int} {j : Nat} (hj : j ≤ b.length) : dI a b a.length j = (b.length : Int) - j := by
  unfold dI dist
  rw [List.drop_length, lcs_nil, List.length_drop]
  simp only [List.length_nil]; omega
theorem dI_endB {a b : List Int} {i : Nat} (hi : i ≤ a.length) : dI a b i b.length = (a.length : Int) - i := by
  unfold dI dist
  rw [List.drop_length, lcs_nil', List.length_drop]
  simp only [List.length_nil]; omega
theorem dI_eq {a b : List Int} {i j : Nat} (hi : i < a.length) (hj : j < b.length) (h : a[i] = b[j]) : dI a b i j = dI a b (i + 1) (j + 1) := by
  unfold dI dist
  rw [List.drop_eq_getElem_cons hi, List.drop_eq_getElem_cons hj, h, lcs_eq, List.length_cons, List.length_cons]
  omega
theorem dI_ne {a b : List Int} {i j : Nat} (hi : i < a.length) (hj : j < b.length) (h : a[i] ≠ b[j]) : dI a b i j = 1 + min (dI a b (i + 1) j) (dI a b i (j + 1)) := by
  unfold dI dist
  rw [List.drop_eq_getElem_cons hi, List.drop_eq_getElem_cons hj, lcs_ne h, List.length_cons, List.length_cons]
  omega
theorem dI_old {a b : List Int} {i j : Nat} (hi : i < a.length) (_hj : j ≤ b.length) : (dI a b (i + 1) j + 1 = dI a b i j) ↔ lcs (a.drop (i + 1)) (b.drop j) = lcs (a.drop i) (b.drop j) := by
  unfold dI dist
  rw [List.length_drop, List.length_drop, List.length_drop]
  omega
/-- The row of line i. -/
def rowV (a b : List Int) (i : Nat) : List Value := (List.range (b.length + 1)).map fun j => .int .i64 (dI a b i j)
theorem rowV_len (a b : List Int) (i : Nat) : (rowV a b i).length = b.length + 1 := by simp [rowV]
theorem rowV_get {a b : List Int} {i j : Nat} (h : j < (rowV a b i).length) : (rowV a b i)[j] = .int .i64 (dI a b i j) := by simp [rowV]
def halfR (a b : List Int) (i s : Nat) : List Value := List.replicate s (.int .i64 0) ++ (rowV a b i).drop s
theorem halfR_len {a b : List Int} {i s : Nat} (h : s ≤ b.length + 1) : (halfR a b i s).length = b.length + 1 := by simp [halfR, rowV_len]; omega
theorem halfR_all (a b : List Int) (i : Nat) : halfR a b i (b.length + 1) = List.replicate (b.length + 1) (.int .i64 0) := by
  unfold halfR
  rw [List.drop_of_length_le (by rw [rowV_len]; exact Nat.le_refl _), List.append_nil]
theorem halfR_zero (a b : List Int) (i : Nat) : halfR a b i 0 = rowV a b i := by simp [halfR]
theorem halfR_set {a b : List Int} {i s : Nat} (h : s ≤ b.length) : (halfR a b i (s + 1)).set s (.int .i64 (dI a b i s)) = halfR a b i s := by
  unfold halfR
  rw [List.replicate_succ', List.append_assoc, List.singleton_append, List.set_append]
  simp only [List.length_replicate, Nat.lt_irrefl, if_false, Nat.sub_self, List.set_cons_zero]
  rw [List.drop_eq_getElem_cons (show s < (rowV a b i).length from by rw [rowV_len]; omega), rowV_get]
theorem halfR_get {a b : List Int} {i s j : Nat} (h1 : s ≤ j) (h3 : j ≤ b.length) : (halfR a b i s)[j]? = some (.int .i64 (dI a b i j)) := by
  unfold halfR
  rw [List.getElem?_append_right (by rw [List.length_replicate]; exact h1), List.length_replicate, List.getElem?_drop, show s + (j - s) = j from by omega, List.getElem?_eq_getElem (by rw [rowV_len]; omega), rowV_get]
theorem cell_dn {w : World} {b o : Nat} {v : Value} (h : w.cell? ⟨b, o, none⟩ = some v) (q : Nat) : (w.drewN q).cell? ⟨b, o, none⟩ = some v := ((below_drewN (Below.refl w.heap.size w) q).cell (p := ⟨b, o, none⟩) (Tx.cell_lt h)).trans h
theorem Blk.cellq {w : World} {G : Nat} {t : TypeId} {l : List Value} (h : Blk w G t l) {k : Nat} {v : Value} (hk : l[k]? = some v) : w.cell? ⟨G, k, none⟩ = some v := by
  obtain ⟨hl, e⟩ := List.getElem?_eq_some_iff.1 hk
  rw [h.cell hl, e]
/-- The rows from r on. -/
def Rws (w : World) (D r : Nat) (a b : List Int) (us : List Value) : Prop := Blk w D tIs (List.replicate r (.slice none 0 0) ++ us) ∧ us.length = a.length + 1 - r ∧ ∀ k (h : k < us.length), ∃ g, us[k] = .slice (some ⟨g, 0, none⟩) (b.length + 1) (b.length + 1) ∧ Blk w g tI (rowV a b (r + k))
theorem Rws.below {w w' : World} {D r : Nat} {a b : List Int} {us : List Value} (h : Rws w D r a b us) (hb : Below w.heap.size w w') : Rws w' D r a b us :=
  ⟨h.1.below hb, h.2.1, fun k hk => by obtain ⟨g, e, hB⟩ := h.2.2 k hk; exact ⟨g, e, hB.below hb⟩⟩
theorem set_last2 (r : Nat) (us : List Value) (z u : Value) : (List.replicate (r + 1) z ++ us).set r u = List.replicate r z ++ (u :: us) := by
  rw [List.replicate_succ', List.append_assoc, List.singleton_append, List.set_append]
  simp
/-- The place of a row is laid: the row's block, and what stays of the others. -/
theorem Rws.lay {w0 w : World} {D r g : Nat} {a b : List Int} {us l : List Value} {u : Value} (h0 : Rws w0 D (r + 1) a b us) (hbl : Below w0.heap.size w0 w) (hg0 : w0.heap.size = g) (hg : Blk w g tI l) :
    Blk (w.setCell ⟨D, r, none⟩ u) D tIs (List.replicate r (.slice none 0 0) ++ (u :: us)) ∧ Blk (w.setCell ⟨D, r, none⟩ u) g tI l ∧ ∀ k (hk : k < us.length), ∃ g', us[k] = .slice (some ⟨g', 0, none⟩) (b.length + 1) (b.length + 1) ∧ g' < g ∧ Blk (w.setCell ⟨D, r, none⟩ u) g' tI (rowV a b (r + 1 + k)) := by
  obtain ⟨h1, h2, h3⟩ := h0.below hbl
  refine ⟨by rw [← set_last2]; exact h1.set r u, ?_, fun k hk => ?_⟩
  · exact hg.set_ne (hg.ne h1 (by decide)) r u
  · obtain ⟨g', e, hB⟩ := h0.2.2 k hk
    have hB2 := hB.below hbl
    exact ⟨g', e, by rw [← hg0]; exact hB.lt, hB2.set_ne (hB2.ne h1 (by decide)) r u⟩
/-- A finished table. -/
def TbR (w : World) (v : Value) (a b : List Int) : Prop := ∃ D us, v = .slice (some ⟨D, 0, none⟩) (a.length + 1) (a.length + 1) ∧ Rws w D 0 a b us
theorem TbR.below {w w' : World} {v : Value} {a b : List Int} (h : TbR w v a b) (hb : Below w.heap.size w w') : TbR w' v a b := by
  obtain ⟨D, us, e, hr⟩ := h; exact ⟨D, us, e, hr.below hb⟩
/-- What a look at row i, column j finds. -/
theorem Rws.at {w : World} {D : Nat} {a b : List Int} {us : List Value} (h : Rws w D 0 a b us) {i j : Nat} (hi : i ≤ a.length) (hj : j ≤ b.length) :
    ∃ g, w.cell? ⟨D, i, none⟩ = some (.slice (some ⟨g, 0, none⟩) (b.length + 1) (b.length + 1)) ∧ w.cell? ⟨g, j, none⟩ = some (.int .i64 (dI a b i j)) := by
  obtain ⟨h1, h2, h3⟩ := h
  rw [List.replicate_zero, List.nil_append] at h1
  have hl : i < us.length := by omega
  obtain ⟨g, e, hB⟩ := h3 i hl
  rw [Nat.zero_add] at hB
  refine ⟨g, by rw [h1.cell hl, e], ?_⟩
  rw [hB.cell (k := j) (by rw [rowV_len]; omega), rowV_get]
def TrPost (a b : List Int) (w : World) (e : Ending) (w' : World) : Prop := ∃ v, e = .returned v ∧ TbR w' v a b ∧ Below w.heap.size w w'
set_option maxRecDepth 100000 in
set_option maxHeartbeats 16000000 in
theorem TableR_at (A B : Option Addr) (c d n m : Nat) (a b : List Int) (w : World) (HA : Hid (RdV w (.slice A n c) (intsV a))) (HB : Hid (RdV w (.slice B m d) (intsV b))) (hn : n ≤ 1000) (hm : m ≤ 1000) (HN : Hid (n = a.length)) (HM : Hid (m = b.length)) :
    Calls Try.prog 42 #[.slice A n c, .slice B m d] w (TrPost a b w) := by
  have HRng : Hid (∀ i j, 0 ≤ dI a b i j ∧ dI a b i j ≤ n + m) := Lib.hid (fun i j => by rw [HN.out, HM.out]; exact dI_rng a b i j)
  go_enter Try.func42, Try.ntmps42
  go_upto_region 2 with (refine mk_row rfl (.tmp 10) (.tmp 10) rfl Try.underlying23 info_is rfl (by omega) (n + 1) (by simp [go_sem]) (by simp [go_sem]) (by omega) ?_; intro w1 HR1 _ hb1; have HB1 := Lib.hid hb1; have HC1 : Hid (Rws w1 w.heap.size (n + 1) a b []) := Lib.hid ⟨by rw [List.append_nil]; exact HR1.out, by rw [← HN.out]; simp, fun k hk => absurd hk (Nat.not_lt_zero _)⟩; clear hb1 HR1)
  go_wp2_with fail
  go_loopw [6] (fun i' wr => ∃ (r : Nat) (us : List Value), r ≤ n + 1 ∧ i' = .int .i64 ((r : Int) - 1) ∧ Hid (Rws wr w.heap.size r a b us) ∧ Hid (Below w.heap.size w wr)) (fun i' _ => (intOf i' + 1).toNat)
  case atStart => exact ⟨n + 1, [], Nat.le_refl _, by go_num, HC1, HB1⟩
  case round =>
    clear HC1 HB1
    obtain ⟨wo, rfl⟩ : ∃ wo, wo = wr := ⟨wr, rfl⟩
    obtain ⟨r, us, hr, rfl, HC, HBl⟩ := hrel
    cases r with
    | zero =>
      have es : ((0 : Nat) : Int) - 1 = -1 := rfl
      rw [es]
      go_wp2_with fail
      go_ret
      exact ⟨_, rfl, ⟨w.heap.size, us, by rw [← HN.out]; rfl, HC.out⟩, HBl.out⟩
    | succ i =>
      have es : ((i + 1 : Nat) : Int) - 1 = (i : Int) := by omega
      rw [es]
      have i0 : (0 : Int) ≤ (i : Int) := by omega
      have i1 : (i : Int) < (n : Int) + 1 := by omega
      have i2 : i ≤ n := by omega
      clear es
      go_upto_region 6 with (refine mk_row rfl (.tmp 22) (.tmp 22) rfl Try.underlying22 info_i rfl (by omega) (m + 1) (by simp [go_sem]) (by simp [go_sem]) (by omega) ?_; intro w2 HR2 HZ2 hb2; have HB2 := Lib.hid hb2; have HC2 := Lib.hid (HC.out.below hb2); have qc := HC2.out.1.cell (k := i) (by rw [List.length_append, List.length_replicate]; omega); have qf := HC2.out.1.free i; generalize (List.replicate (i + 1) (Value.slice none 0 0) ++ us)[i]'(by rw [List.length_append, List.length_replicate]; omega) = z6 at qc; clear hb2)
      obtain ⟨k1, k2, k3⟩ := Rws.lay (r := i) (u := .slice (some ⟨wo.heap.size, 0, none⟩) (m + 1) (m + 1)) HC.out HB2.out rfl HR2.out
      have hUs := HC.out.2.1
      have hUi : us.length = n - i := by rw [hUs, ← HN.out]; omega
      have HUs := Lib.hid hUi
      have hDg : w.heap.size < wo.heap.size := HC.out.1.lt
      have HB3 : Hid (Below w.heap.size w (w2.setCell ⟨w.heap.size, i, none⟩ (.slice (some ⟨wo.heap.size, 0, none⟩) (m + 1) (m + 1)))) := Lib.hid ((HBl.out.trans (HB2.out.mono HBl.out.size)).setCell (Nat.le_refl _) _)
      have HK1 := Lib.hid k1
      have HK2 : Hid (Blk (w2.setCell ⟨w.heap.size, i, none⟩ (.slice (some ⟨wo.heap.size, 0, none⟩) (m + 1) (m + 1))) wo.heap.size tI (halfR a b i (m + 1))) := Lib.hid (by
        have h := halfR_all a b i
        rw [← HM.out] at h
        rw [h]; exact k2)
      have HK3 := Lib.hid k3
      clear k1 k2 k3 HC2 HR2 HC HZ2 qc qf hUs hUi HB2 HBl
      generalize wo.heap.size = g at *
      generalize w2.setCell ⟨w.heap.size, i, none⟩ (.slice (some ⟨g, 0, none⟩) (m + 1) (m + 1)) = w3 at *
      go_wp2_with fail
      go_loopw [7] (fun j' wr => ∃ s : Nat, s ≤ m + 1 ∧ j' = .int .i64 ((s : Int) - 1) ∧ Hid (Blk wr g tI (halfR a b i s)) ∧ Hid (Below g w3 wr)) (fun j' _ => (intOf j' + 1).toNat)
      case atStart => exact ⟨m + 1, Nat.le_refl _, by go_num, HK2, Lib.hid (Below.refl _ _)⟩
      case round =>
        clear HK2
        obtain ⟨s, hs, rfl, HR, HBq⟩ := hrel
        cases s with
        | zero =>
          have es : ((0 : Nat) : Int) - 1 = -1 := rfl
          rw [es]
          have HNew : Hid (Rws wr w.heap.size i a b (.slice (some ⟨g, 0, none⟩) (m + 1) (m + 1) :: us)) := Lib.hid (by
            refine ⟨(HBq.out.block _ hDg).trans HK1.out, by rw [List.length_cons, HUs.out, ← HN.out]; omega, fun k hk => ?_⟩
            cases k with
            | zero => exact ⟨g, by rw [← HM.out]; rfl, by have := HR.out; rw [halfR_zero] at this; exact this⟩
            | succ k =>
              obtain ⟨g', e, hlt, hB⟩ := HK3.out k (by simpa using hk)
              exact ⟨g', e, by rw [show i + (k + 1) = i + 1 + k from by omega]; exact (HBq.out.block _ hlt).trans hB⟩)
          have HBn := Lib.hid (HB3.out.trans (HBq.out.mono (Nat.le_of_lt hDg)))
          clear HR HBq HK1 HK3 HB3
          go_wp2_with fail
          go_roundw
          case rel => exact ⟨i, _, by omega, rfl, HNew, HBn⟩
          case measure => simp [intOf]
        | succ j =>
          have es : ((j + 1 : Nat) : Int) - 1 = (j : Int) := by omega
          rw [es]
          have j0 : (0 : Int) ≤ (j : Int) := by omega
          have j1 : (j : Int) < (m : Int) + 1 := by omega
          have hjm : j ≤ m := by omega
          have q5 := HR.out.cell (k := j) (by rw [halfR_len (by rw [← HM.out]; omega), ← HM.out]; omega)
          have f5 := HR.out.free j
          generalize (halfR a b i (j + 1))[j]'(by rw [halfR_len (by rw [← HM.out]; omega), ← HM.out]; omega) = z5 at q5
          have qD : wr.cell? ⟨w.heap.size, i, none⟩ = some (.slice (some ⟨g, 0, none⟩) (m + 1) (m + 1)) := Blk.cellq ((HBq.out.block _ hDg).trans HK1.out) (by simp)
          have HRn : Hid (Blk (wr.setCell ⟨g, j, none⟩ (.int .i64 (dI a b i j))) g tI (halfR a b i j)) := Lib.hid (by rw [← halfR_set (by rw [← HM.out]; exact hjm)]; exact HR.out.set j _)
          have HBn : Hid (Below g w3 (wr.setCell ⟨g, j, none⟩ (.int .i64 (dI a b i j)))) := Lib.hid (HBq.out.setCell (Nat.le_refl _) _)
          have HRg : Hid (∀ q, Blk ((wr.drewN q).setCell ⟨g, j, none⟩ (.int .i64 (dI a b i j))) g tI (halfR a b i j)) := Lib.hid (fun q => by rw [← halfR_set (by rw [← HM.out]; exact hjm)]; exact (HR.out.drewN q).set j _)
          have HBg : Hid (∀ q, Below g w3 ((wr.drewN q).setCell ⟨g, j, none⟩ (.int .i64 (dI a b i j)))) := Lib.hid (fun q => (below_drewN HBq.out q).setCell (Nat.le_refl _) _)
          have HFr : Hid (∀ q, (wr.drewN q).frozen? ⟨g, j, none⟩ = false) := Lib.hid (fun q => (HR.out.drewN q).free j)
          clear es
          by_cases hin : i = n
          · have hd : ((i : Int) == (n : Int)) = true := by rw [beq_iff_eq, hin]
            have HV : Hid ((m : Int) - (j : Int) = dI a b i j) := Lib.hid (by rw [hin, HN.out, dI_endA (by rw [← HM.out]; exact hjm), HM.out])
            clear hin HR HBq
            go_wp2_with fail
            go_roundw
            case rel => exact ⟨j, by omega, rfl, Lib.hid (by rw [HV.out]; exact HRn.out), Lib.hid (by rw [HV.out]; exact HBn.out)⟩
            case measure => simp [intOf]
          · have hd : ((i : Int) == (n : Int)) = false := by rw [beq_eq_false_iff_ne]; omega
            have x1 : i < a.length := by rw [← HN.out]; omega
            by_cases hjn : j = m
            · have hd2 : ((j : Int) == (m : Int)) = true := by rw [beq_iff_eq, hjn]
              have HV : Hid ((n : Int) - (i : Int) = dI a b i j) := Lib.hid (by rw [hjn, HM.out, dI_endB (Nat.le_of_lt x1), HN.out])
              clear hin hjn HR HBq x1
              go_wp2_with fail
              go_roundw
              case rel => exact ⟨j, by omega, rfl, Lib.hid (by rw [HV.out]; exact HRn.out), Lib.hid (by rw [HV.out]; exact HBn.out)⟩
              case measure => simp [intOf]
            · have hd2 : ((j : Int) == (m : Int)) = false := by rw [beq_eq_false_iff_ne]; omega
              have x2 : j < b.length := by rw [← HM.out]; omega
              obtain ⟨g1, e1, hg1, hB1⟩ := HK3.out 0 (by rw [HUs.out]; omega)
              have hB1q : Blk wr g1 tI (rowV a b (i + 1)) := (HBq.out.block _ hg1).trans hB1
              have qE : wr.cell? ⟨w.heap.size, i + 1, none⟩ = some (.slice (some ⟨g1, 0, none⟩) (m + 1) (m + 1)) := Blk.cellq ((HBq.out.block _ hDg).trans HK1.out) (by
                rw [List.getElem?_append_right (by rw [List.length_replicate]; omega), List.length_replicate, show i + 1 - i = 1 from by omega, List.getElem?_cons_succ, List.getElem?_eq_getElem (by rw [HUs.out]; omega), e1, HM.out])
              have q2 := hB1q.cell (k := j) (by rw [rowV_len]; omega)
              have q3 := hB1q.cell (k := j + 1) (by rw [rowV_len]; omega)
              rw [rowV_get] at q2 q3
              have q4 : wr.cell? ⟨g, j + 1, none⟩ = some (.int .i64 (dI a b i (j + 1))) := HR.out.cellq (halfR_get (Nat.le_refl _) (by omega))
              have hra := HA.out.below (HB3.out.trans (HBq.out.mono (Nat.le_of_lt hDg)))
              have hrb := HB.out.below (HB3.out.trans (HBq.out.mono (Nat.le_of_lt hDg)))
              obtain ⟨ba, oa, rfl, r1⟩ := int_at hra i x1
              obtain ⟨bb, ob, rfl, r2⟩ := int_at hrb j x2
              have y1 := HRng.out i j
              have y2 := HRng.out (i + 1) j
              have y3 := HRng.out i (j + 1)
              have y4 := HRng.out (i + 1) (j + 1)
              have i3 : (i : Int) < (n : Int) := by omega
              have j3 : (j : Int) < (m : Int) := by omega
              have i4 : (i : Int) + 1 < (n : Int) + 1 := by omega
              have j4 : (j : Int) + 1 < (m : Int) + 1 := by omega
              have i5 : (0 : Int) ≤ (i : Int) + 1 := by omega
              have j5 : (0 : Int) ≤ (j : Int) + 1 := by omega
              have hEq := fun h => dI_eq (a := a) (b := b) x1 x2 h
              have hNe := fun h => dI_ne (a := a) (b := b) x1 x2 h
              have HEq := Lib.hid hEq
              have HNe := Lib.hid hNe
              clear hra hrb hB1 hB1q hg1 e1 hEq hNe
              by_cases he : a[i] = b[j]
              · have HV := Lib.hid (HEq.out he)
                rw [he] at r1
                clear he HEq HNe HR HBq
                generalize b[j] = z at r1 r2
                clear x1 x2
                generalize dI a b (i + 1) (j + 1) = v4 at *
                go_wp2_with fail
                go_quiet (fail)
                have HRd := Lib.hid (HRg.out nq).drew
                have HBd := Lib.hid (HBg.out nq).drew
                rw [HV.out] at HRd HBd
                have qf := HFr.out nq
                replace qD := cell_dn qD nq
                replace qE := cell_dn qE nq
                replace q2 := cell_dn q2 nq
                replace q3 := cell_dn q3 nq
                replace q4 := cell_dn q4 nq
                replace q5 := cell_dn q5 nq
                clear HRg HBg HFr HRn HBn f5 r1 r2
                generalize World.drewN wr nq = wn at *
                go_wp2_with fail
                have s0 : IntKind.i64.wrap ((i : Int) + 1) = (i : Int) + 1 := by rw [IntWalk.i64_in _ (by omega)]
                have s1 : IntKind.i64.wrap ((j : Int) + 1) = (j : Int) + 1 := by rw [IntWalk.i64_in _ (by omega)]
                have s3 : ((i : Int) + 1).toNat = i + 1 := by omega
                have s4 : ((j : Int) + 1).toNat = j + 1 := by omega
                go_still_tail 15, (by kernel_rfl)
                change wpList _ _ _ _ _ wn.drew
                clear s0 s1 s3 s4
                go_wp2_with fail
                go_roundw
                case rel => exact ⟨j, by omega, rfl, HRd, HBd⟩
                case measure => simp [intOf]
              · have hx : (a[i] == b[j]) = false := by simpa using he
                have HV := Lib.hid (HNe.out he)
                clear he HEq HNe HR HBq
                generalize a[i] = y at r1 hx
                generalize b[j] = z at r2 hx
                clear x1 x2
                generalize hx1 : dI a b (i + 1) j = v1 at *
                generalize hx2 : dI a b i (j + 1) = v2 at *
                have k0 : (0 : Int) ≤ v1 := y2.1
                have k1 : v1 ≤ (n : Int) + m := y2.2
                have k2 : (0 : Int) ≤ v2 := y3.1
                have k3 : v2 ≤ (n : Int) + m := y3.2
                have HX1 := Lib.hid hx1
                have HX2 := Lib.hid hx2
                clear hx1 hx2 y1 y2 y3 y4
                go_wp2_with fail
                go_quiet (fail)
                have HRd := Lib.hid (HRg.out nq).drew
                have HBd := Lib.hid (HBg.out nq).drew
                rw [HV.out] at HRd HBd
                have qf := HFr.out nq
                replace qD := cell_dn qD nq
                replace qE := cell_dn qE nq
                replace q2 := cell_dn q2 nq
                replace q3 := cell_dn q3 nq
                replace q4 := cell_dn q4 nq
                replace q5 := cell_dn q5 nq
                clear HRg HBg HFr HRn HBn f5 r1 r2
                generalize World.drewN wr nq = wn at *
                go_wp2_with fail
                have s0 : IntKind.i64.wrap ((i : Int) + 1) = (i : Int) + 1 := by rw [IntWalk.i64_in _ (by omega)]
                have s1 : IntKind.i64.wrap ((j : Int) + 1) = (j : Int) + 1 := by rw [IntWalk.i64_in _ (by omega)]
                have s2 : IntKind.i64.wrap (1 + min v1 v2) = 1 + min v1 v2 := by rw [IntWalk.i64_in _ (by omega)]
                have s3 : ((i : Int) + 1).toNat = i + 1 := by omega
                have s4 : ((j : Int) + 1).toNat = j + 1 := by omega
                go_still_tail 24, (by kernel_rfl)
                change wpList _ _ _ _ _ wn.drew
                clear s0 s1 s2 s3 s4
                go_wp2_with fail
                go_roundw
                case rel =>
                  have hm : min v1 v2 = if v2 < v1 then v2 else v1 := by split <;> omega
                  rw [hm] at HRd HBd
                  exact ⟨j, by omega, rfl, HRd, HBd⟩
                case measure => simp [intOf]
end Sh
end Go.Proofs.Ytechabkmepejaaa

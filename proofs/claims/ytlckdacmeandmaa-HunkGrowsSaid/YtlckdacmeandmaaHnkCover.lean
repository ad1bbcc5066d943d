/-
  The program's Cover: which lines lie in a hunk. Condition: fewer hunks than a slice may have.
-/
import Derived.Test.YtlckdacmeandmaaHnkBase
import Derived.Test.YtlckdacmeandmaaScrCk
namespace Go.Proofs.Ytlckdacmeandmaa
open Go.RowKit
namespace Hn
open Cm Sc
def boolsV (l : List Bool) : List Value := l.map fun b => .bool b
theorem boolsV_len (l : List Bool) : (boolsV l).length = l.length := by simp [boolsV]
/-- The lines of Cover. -/
def cvF (l : List Hk) (m : Int) : List Bool := if 0 ≤ m ∧ m ≤ 4096 then covF l m.toNat else []
def CvPost (l : List Hk) (m : Int) (w : World) (e : Ending) (w' : World) : Prop := ∃ v, e = .returned v ∧ RdV w' v (boolsV (cvF l m)) ∧ Below w.heap.size w w'
/-- The first i lines are told. -/
def cvP (l : List Hk) (m i : Nat) : List Bool := (List.range m).map fun j : Nat => if j < i then covB l (j : Int) else false
theorem cvP_len (l : List Hk) (m i : Nat) : (cvP l m i).length = m := by simp [cvP]
theorem cvP_zero (l : List Hk) (m : Nat) : boolsV (cvP l m 0) = List.replicate m (.bool false) := by
  refine List.ext_getElem (by simp [boolsV, cvP]) fun j h1 h2 => ?_
  simp [boolsV, cvP]
theorem cvP_all (l : List Hk) (m : Nat) : cvP l m m = covF l m := by
  refine List.ext_getElem (by simp [cvP, covF]) fun j h1 h2 => ?_
  have : j < m := by simpa [covF] using h2
  simp [cvP, covF, this]
theorem cvP_set (l : List Hk) (m i : Nat) (b : Bool) (hb : b = covB l (i : Int)) : (boolsV (cvP l m i)).set i (.bool b) = boolsV (cvP l m (i + 1)) := by
  refine List.ext_getElem (by simp [boolsV, cvP]) fun j h1 h2 => ?_
  subst hb
  by_cases hj : j = i
  · subst hj
    simp [boolsV, cvP]
  · rw [List.getElem_set_ne (fun e => hj e.symm)]
    have e : (j < i) = (j < i + 1) := by apply propext; omega
    simp [boolsV, cvP, e]
/-- The ends that the first loop has found. -/
def EnL (l : List Hk) (k m : Nat) (E : List Int) : Prop := E.length = m ∧ ∀ j (h : j < E.length), ∀ t, t < E[j] ↔ Ends (l.take k) (j : Int) t
theorem EnL.start (l : List Hk) (m : Nat) : EnL l 0 m (List.replicate m 0) := ⟨by simp, fun j h t => by rw [List.getElem_replicate, List.take_zero, ends_nil]⟩
theorem EnL.skip {l : List Hk} {k m : Nat} {E : List Int} (h : EnL l k m E) (hk : k < l.length) (hf : (m : Int) ≤ (if l[k].oF < 0 then 0 else l[k].oF)) : EnL l (k + 1) m E := by
  refine ⟨h.1, fun j hj t => ?_⟩
  rw [h.2 j hj t, List.take_succ_eq_append_getElem hk, ends_snoc]
  have := h.1
  constructor
  · exact .inl
  · rintro (g | ⟨g, _⟩)
    · exact g
    · omega
theorem EnL.put {l : List Hk} {k m F : Nat} {E : List Int} (h : EnL l k m E) (hk : k < l.length) (hF : (if l[k].oF < 0 then 0 else l[k].oF) = (F : Int)) (hFE : F < E.length) : EnL l (k + 1) m (E.set F (if E[F] < l[k].oT then l[k].oT else E[F])) := by
  refine ⟨by rw [List.length_set]; exact h.1, fun j hj t => ?_⟩
  rw [List.length_set] at hj
  rw [List.take_succ_eq_append_getElem hk, ends_snoc, ← h.2 j hj t, hF]
  by_cases hjF : j = F
  · subst hjF
    rw [List.getElem_set_self]
    split <;> omega
  · rw [List.getElem_set_ne (fun e => hjF e.symm)]
    constructor
    · exact .inl
    · rintro (g | ⟨g, _⟩)
      · exact g
      · omega
theorem EnL.bd {l : List Hk} {k m : Nat} {E : List Int} (h : EnL l k m E) (j : Nat) (hj : j < E.length) : 0 ≤ E[j] := by
  have := (h.2 j hj (-1)).2 (.inl (by decide))
  omega
theorem intsV_set (E : List Int) (F : Nat) (z : Int) : (intsV E).set F (.int .i64 z) = intsV (E.set F z) := by simp [intsV, List.map_set]
theorem intsV_rep (m : Nat) : List.replicate m (Value.int .i64 0) = intsV (List.replicate m 0) := by simp [intsV]
set_option maxRecDepth 100000 in
set_option maxHeartbeats 4000000 in
theorem Cover_in (A : Option Addr) (cp N M : Nat) (l : List Hk) (w : World) (HR : Hid (RdH w (.slice A N cp) l)) (HN : Hid (l.length = N)) (hN : N ≤ 4611686018427387904) (hM : M ≤ 4096) :
    Calls Try.prog 14 #[.slice A N cp, .int .i64 (M : Int)] w (CvPost l (M : Int) w) := by
  have HP : Hid (cvF l (M : Int) = covF l M) := Lib.hid (by unfold cvF; rw [if_pos ⟨by omega, by omega⟩, Int.toNat_natCast])
  go_enter Try.func14, Try.ntmps14
  go_upto_region 4 with (refine mk_row rfl (.tmp 18) (.tmp 18) rfl Try.underlying22 info_i rfl (by omega) M rfl rfl (by omega) ?_; intro w1 HR1 _ hb1; have HB1 := Lib.hid hb1; have HE1 : Hid (Blk w1 w.heap.size tI (intsV (List.replicate M 0))) := Lib.hid (by rw [← intsV_rep]; exact HR1.out); clear hb1 HR1)
  go_wp2_with fail
  go_loopw [22] (fun i' wr => ∃ (k : Nat) (E : List Int), k ≤ N ∧ i' = .int .i64 (k : Int) ∧ Hid (Blk wr w.heap.size tI (intsV E)) ∧ Hid (EnL l k M E) ∧ Hid (Below w.heap.size w wr)) (fun i' _ => N - (intOf i').toNat)
  case atStart => exact ⟨0, _, Nat.zero_le _, by go_num, HE1, Lib.hid (EnL.start l M), HB1⟩
  case round =>
    clear HE1 HB1
    obtain ⟨k, E, hk, rfl, HE, HL, HB⟩ := hrel
    by_cases hlt : k < N
    · have hkl : k < l.length := by rw [HN.out]; exact hlt
      have HRr := Lib.hid (HR.out.below HB.out)
      obtain ⟨bl, off, rfl, c0, c1, c2, c3, c4, c5⟩ := RdH_at HRr.out k hkl
      obtain ⟨f, hf⟩ : ∃ f, (if l[k].oF < 0 then 0 else l[k].oF) = f := ⟨_, rfl⟩
      have hf0 : 0 ≤ f := by split at hf <;> omega
      have HF := Lib.hid hf
      have HSk : Hid ((M : Int) ≤ f → EnL l (k + 1) M E) := Lib.hid (fun h => HL.out.skip hkl (by rw [hf]; exact h))
      have HPt : Hid (∀ F : Nat, f = (F : Int) → ∀ hF : F < E.length, EnL l (k + 1) M (E.set F (if E[F] < l[k].oT then l[k].oT else E[F]))) := Lib.hid (fun F h hF => HL.out.put hkl (by rw [hf]; exact h) hF)
      clear hf HRr
      generalize l[k] = h at *
      obtain ⟨h0, h1, h2, h3, h4, h5⟩ := h
      simp only at c0 c1 c2 c3 c4 c5 HF HPt
      have i1 : (0 : Int) ≤ (k : Int) := by omega
      have i2 : (k : Int) < (N : Int) := by omega
      have dk : decide (k < N) = true := decide_eq_true hlt
      have HEx := Lib.hid (HE.out.alloc (.cells #[.int .i64 h0, .int .i64 h1, .int .i64 h2, .int .i64 h3, .int .i64 h4, .int .i64 h5] tHk))
      have HBx := Lib.hid (HB.out.alloc HB.out.size (.cells #[.int .i64 h0, .int .i64 h1, .int .i64 h2, .int .i64 h3, .int .i64 h4, .int .i64 h5] tHk))
      go_upto_region 7 with fail
      go_cut [8] from 26 to 30 (fun v wx => v = .int .i64 f ∧ wx = wr.alloc (.cells #[.int .i64 h0, .int .i64 h1, .int .i64 h2, .int .i64 h3, .int .i64 h4, .int .i64 h5] tHk))
      case first =>
        by_cases hz : h2 < 0
        · have HF2 : Hid (0 = f) := Lib.hid (by rw [← HF.out, if_pos hz])
          go_wp2_with fail
          go_meet
          case rel => exact ⟨by rw [HF2.out], rfl⟩
        · have HF2 : Hid (h2 = f) := Lib.hid (by rw [← HF.out, if_neg hz])
          go_wp2_with fail
          go_meet
          case rel => exact ⟨by rw [HF2.out], rfl⟩
      case rest =>
        obtain ⟨rfl, rfl⟩ := hcut
        clear HF c0 c1 c2 c3 c4 c5 HE HB
        by_cases hfm : f < (M : Int)
        · obtain ⟨F, rfl⟩ : ∃ F : Nat, f = (F : Int) := ⟨f.toNat, by omega⟩
          have hFE : F < E.length := by rw [HL.out.1]; omega
          have HN2 := Lib.hid (HPt.out F rfl hFE)
          have hBox : Blk (wr.alloc (.cells #[.int .i64 h0, .int .i64 h1, .int .i64 h2, .int .i64 h3, .int .i64 h4, .int .i64 h5] tHk)) wr.heap.size tHk (hkC ⟨h0, h1, h2, h3, h4, h5⟩) := heap_new wr _
          have b3 := hBox.cell (k := 3) (show 3 < 6 by decide)
          simp only [hkC, List.getElem_cons_zero, List.getElem_cons_succ] at b3
          have q5 := HEx.out.cell (k := F) (by rw [intsV_len]; exact hFE)
          have e5 : (intsV E)[F]'(by rw [intsV_len]; exact hFE) = .int .i64 E[F] := by simp [intsV]
          rw [e5] at q5
          have fz := HEx.out.free F
          have HBn := Lib.hid ((HBx.out.setCell (p := ⟨w.heap.size, F, none⟩) (Nat.le_refl _) (.int .i64 (if E[F] < h3 then h3 else E[F]))).drew)
          have HEn : Hid (Blk ((wr.alloc (.cells #[.int .i64 h0, .int .i64 h1, .int .i64 h2, .int .i64 h3, .int .i64 h4, .int .i64 h5] tHk)).setCell ⟨w.heap.size, F, none⟩ (.int .i64 (if E[F] < h3 then h3 else E[F]))).drew w.heap.size tI (intsV (E.set F (if E[F] < h3 then h3 else E[F])))) := Lib.hid (by rw [← intsV_set]; exact (HEx.out.set F _).drewN 1)
          clear hBox e5 HSk HPt HEx HBx
          generalize wr.alloc (.cells #[.int .i64 h0, .int .i64 h1, .int .i64 h2, .int .i64 h3, .int .i64 h4, .int .i64 h5] tHk) = W at *
          generalize E.set F (if E[F] < h3 then h3 else E[F]) = E2 at *
          generalize E[F] = z at *
          have j1 : (0 : Int) ≤ (F : Int) := by omega
          go_upto_region 9 with fail
          go_still_tail 11, (by kernel_rfl)
          change wpList _ _ _ _ _ W.drew
          go_wp2_with fail
          go_roundw
          case rel => exact ⟨k + 1, E2, by omega, by go_num, HEn, HN2, HBn⟩
          case measure => simp [intOf]; omega
        · have HN2 := Lib.hid (HSk.out (by omega))
          have df : decide (f < (M : Int)) = false := decide_eq_false hfm
          clear HSk HPt
          go_wp2_with fail
          go_roundw
          case rel => exact ⟨k + 1, E, by omega, by go_num, HEx, HN2, HBx⟩
          case measure => simp [intOf]; omega
    · obtain rfl : k = N := by omega
      have dk : decide (k < k) = false := decide_eq_false (Nat.lt_irrefl _)
      have HL2 : Hid (EnL l l.length M E) := Lib.hid (by rw [HN.out]; exact HL.out)
      clear HL
      go_upto_region 12 with (refine mk_row rfl (.tmp 45) (.tmp 45) rfl Try.underlying34 info_b rfl (by omega) M rfl rfl (by omega) ?_; intro w2 HR2 _ hb2; have HB2 := Lib.hid (HB.out.trans (hb2.mono HB.out.size)); have HE2 := Lib.hid (HE.out.below hb2); have HC2 : Hid (Blk w2 wr.heap.size tB (boolsV (cvP l M 0))) := Lib.hid (by rw [cvP_zero]; exact HR2.out); clear hb2 HR2)
      have hgw := HE.out.lt
      clear HE HB
      generalize wr.heap.size = G at *
      go_wp2_with fail
      go_loopw [10, 49] (fun e' i' wr => ∃ (i : Nat) (e : Int), i ≤ M ∧ i' = .int .i64 (i : Int) ∧ e' = .int .i64 e ∧ Hid (∀ t, t < e ↔ Upto l (i : Int) t) ∧ Hid (Blk wr G tB (boolsV (cvP l M i))) ∧ Hid (Blk wr w.heap.size tI (intsV E)) ∧ Hid (Below w.heap.size w wr)) (fun _ i' _ => M - (intOf i').toNat)
      case atStart => exact ⟨0, 0, Nat.zero_le _, by go_num, rfl, Lib.hid (fun t => (upto_zero t).symm), HC2, HE2, HB2⟩
      case round =>
        clear HC2 HE2 HB2
        obtain ⟨i, e, hi, rfl, rfl, HU, HC, HE, HB⟩ := hrel
        by_cases hiM : i < M
        · have hiE : i < E.length := by rw [HL2.out.1]; exact hiM
          have q5 := HE.out.cell (k := i) (by rw [intsV_len]; exact hiE)
          have e5 : (intsV E)[i]'(by rw [intsV_len]; exact hiE) = .int .i64 E[i] := by simp [intsV]
          rw [e5] at q5
          have q6 := HC.out.cell (k := i) (by rw [boolsV_len, cvP_len]; exact hiM)
          have fz := HC.out.free i
          obtain ⟨e2, he2⟩ : ∃ e2, (if e < E[i] then E[i] else e) = e2 := ⟨_, rfl⟩
          have HX := Lib.hid he2
          have HU2 : Hid (∀ t, t < e2 ↔ Upto l ((i : Int) + 1) t) := Lib.hid (fun t => by
            have h1 := HL2.out.2 i hiE t
            rw [List.take_length] at h1
            rw [upto_succ, ← HU.out t, ← h1, ← he2]
            split <;> omega)
          have HBb : Hid (decide ((i : Int) < e2) = covB l (i : Int)) := Lib.hid (by
            rw [Bool.eq_iff_iff, decide_eq_true_iff, HU2.out, upto_cov (by omega)])
          have HCn : Hid (Blk (wr.setCell ⟨G, i, none⟩ (.bool (decide ((i : Int) < e2)))) G tB (boolsV (cvP l M (i + 1)))) := Lib.hid (by rw [← cvP_set l M i _ HBb.out]; exact HC.out.set i _)
          have HEn : Hid (Blk (wr.setCell ⟨G, i, none⟩ (.bool (decide ((i : Int) < e2)))) w.heap.size tI (intsV E)) := Lib.hid ((Below.heap_setCell _ _ _ _ (Nat.ne_of_lt hgw)).trans HE.out)
          have HBn := Lib.hid (HB.out.setCell (p := ⟨G, i, none⟩) (Nat.le_of_lt hgw) (.bool (decide ((i : Int) < e2))))
          clear e5 he2 HBb HL2 HU
          generalize E[i] = z at *
          generalize (boolsV (cvP l M i))[i]'(by rw [boolsV_len, cvP_len]; exact hiM) = zb at q6
          clear HC HE HB
          have j1 : (0 : Int) ≤ (i : Int) := by omega
          have j2 : (i : Int) < (M : Int) := by omega
          by_cases hez : e < z
          · have HX2 : Hid (z = e2) := Lib.hid (by rw [← HX.out, if_pos hez])
            obtain rfl := HX2.out
            clear HX HX2
            go_wp2_with fail
            go_roundw
            case rel => exact ⟨i + 1, _, by omega, by go_num, rfl, HU2, HCn, HEn, HBn⟩
            case measure => simp [intOf]; omega
          · have HX2 : Hid (e = e2) := Lib.hid (by rw [← HX.out, if_neg hez])
            obtain rfl := HX2.out
            clear HX HX2
            go_wp2_with fail
            go_roundw
            case rel => exact ⟨i + 1, _, by omega, by go_num, rfl, HU2, HCn, HEn, HBn⟩
            case measure => simp [intOf]; omega
        · obtain rfl : i = M := by omega
          have dk : decide (i < i) = false := decide_eq_false (Nat.lt_irrefl _)
          have HRd : Hid (RdV wr (.slice (some ⟨G, 0, none⟩) i i) (boolsV (cvF l (i : Int)))) := Lib.hid (by
            have h := HC.out.rd
            rw [boolsV_len, cvP_len, cvP_all] at h
            rw [HP.out]; exact h)
          clear HU HC HE
          go_wp2_with fail
          go_ret
          exact ⟨_, rfl, HRd.out, HB.out⟩
end Hn
end Go.Proofs.Ytlckdacmeandmaa

/-
  The walk of the law ShortestNames of layer 9. No conditions.
-/
import Derived.Test.YtlnjhacchnfbkaaShoBlo
import Derived.Test.YtlnjhacchnfbkaaShoNamM
namespace Go.Proofs.Ytlnjhacchnfbkaa
open Go.RowKit
namespace Sh
open Cm Sc Au Nt
def LnPost (s : ByteArray) (w : World) (e : Ending) (w' : World) : Prop := ∃ v, e = .returned v ∧ RdV w' v (stringsV (lnB s)) ∧ Below w.heap.size w w'
theorem Ln_any (s : ByteArray) (hs : s.size ≤ 1000) (w : World) : Calls Try.prog 30 #[.string s] w (LnPost s w) :=
  (Tx.LinesR_any s w (by omega)).mono fun e w' ⟨v, h1, h2, h3⟩ => ⟨v, h1, by
    have h := RdV.of_own (us := Tx.strsV (Tx.linesF (Tx.bs s))) h2
    rw [show stringsV (lnB s) = Tx.strsV (Tx.linesF (Tx.bs s)) from by simp [stringsV, lnB, Tx.mks, Tx.strsV]]
    exact h, h3⟩
def LdPost (s t : ByteArray) (w : World) (e : Ending) (w' : World) : Prop := ∃ v, e = .returned v ∧ OwnLD w' w.heap.size v [idA s t, idB s t] ∧ Below w.heap.size w w'
theorem IdsR_ld2 (s t : ByteArray) (hs : s.size ≤ 1000) (ht : t.size ≤ 1000) (u : Value) (w : World) (h : RdLL w u [stringsV (lnB s), stringsV (lnB t)]) : Calls Try.prog 29 #[u] w (LdPost s t w) := by
  have l1 := lnB_len s
  have l2 := lnB_len t
  refine (Nt.IdsR_ld u [lnB s, lnB t] w h (by simp) (fun f hf => ?_)).mono ?_
  · simp only [List.mem_cons, List.not_mem_nil, or_false] at hf
    rcases hf with rfl | rfl <;> omega
  · rintro e w' ⟨v, rfl, ho, hb⟩
    exact ⟨v, rfl, ho, hb⟩
theorem id_small {s t : ByteArray} (hs : s.size ≤ 1000) (ht : t.size ≤ 1000) : (∀ z ∈ idA s t, -1 ≤ z ∧ z ≤ 2000) ∧ ∀ z ∈ idB s t, -1 ≤ z ∧ z ≤ 2000 := by
  have h3 := names_len s t
  constructor
  · intro z hz
    obtain ⟨x, _, rfl⟩ := List.mem_map.1 hz
    have h1 := Nt.placeI_lo (Nt.namesF [lnB s, lnB t]) x
    have h2 := Nt.placeI_hi (Nt.namesF [lnB s, lnB t]) x
    omega
  · intro z hz
    obtain ⟨x, _, rfl⟩ := List.mem_map.1 hz
    have h1 := Nt.placeI_lo (Nt.namesF [lnB s, lnB t]) x
    have h2 := Nt.placeI_hi (Nt.namesF [lnB s, lnB t]) x
    omega
/-- The lists behind f whole rounds and i numbers of the next one. -/
def stL (g : Int → Int) (a b : List Int) (f i : Nat) : List (List Int) := [if f = 0 then pre g i a else a.map g, if f = 0 then b else if f = 1 then pre g i b else b.map g]
theorem stL_next0 (g : Int → Int) (a b : List Int) : stL g a b 0 a.length = stL g a b 1 0 := by
  unfold stL
  simp only [if_true, show ((1 : Nat) = 0) = False from by simp, if_false]
  rw [pre_all, pre_zero]
theorem stL_next1 (g : Int → Int) (a b : List Int) : stL g a b 1 b.length = stL g a b 2 0 := by
  unfold stL
  simp only [show ((1 : Nat) = 0) = False from by simp, show ((2 : Nat) = 0) = False from by simp, show ((2 : Nat) = 1) = False from by simp, if_true, if_false]
  rw [pre_all]
theorem stL_start (g : Int → Int) (a b : List Int) : stL g a b 0 0 = [a, b] := by
  unfold stL
  simp only [if_true]
  rw [pre_zero]
theorem stL_end (g : Int → Int) (a b : List Int) : stL g a b 2 0 = [a.map g, b.map g] := by
  unfold stL
  simp
def lenF (a b : List Int) (f : Nat) : Nat := (if f = 0 then a else b).length
/-- What a look at the place of the next number finds, and its store. -/
theorem stL_at {w : World} {base : Nat} {v : Value} {g : Int → Int} {a b : List Int} {f i : Nat} (h : OwnLD w base v (stL g a b f i)) (hf : f < 2) (_hi : i ≤ lenF a b f) :
    ∃ B c A n cc, v = .slice (some ⟨B, 0, none⟩) 2 c ∧ base ≤ B ∧ w.cell? ⟨B, f, none⟩ = some (.slice A n cc) ∧ n = lenF a b f ∧ (i < lenF a b f → ∃ G z, A = some ⟨G, 0, none⟩ ∧ base ≤ G ∧ z ∈ (if f = 0 then a else b) ∧ w.cell? ⟨G, i, none⟩ = some (.int .i64 z) ∧ w.frozen? ⟨G, i, none⟩ = false ∧
      OwnLD (w.setCell ⟨G, i, none⟩ (.int .i64 (g z))) base v (stL g a b f (i + 1))) := by
  obtain ⟨B, c, A, n, cc, e1, e2, e3, e4, e5⟩ := ld_at h hf
  have hf01 : f = 0 ∨ f = 1 := by omega
  rcases hf01 with rfl | rfl
  · simp only [if_true] at e4 e5
    refine ⟨B, c, A, n, cc, e1, e2, e3, by rw [e4, pre_len]; rfl, fun hi => ?_⟩
    have hi2 : i < a.length := hi
    obtain ⟨G, g1, g2, g3, g4, g5⟩ := e5 i (by rw [pre_len]; exact hi2)
    have hz := pre_get g hi2
    rw [List.getElem?_eq_getElem (by rw [pre_len]; exact hi2)] at hz
    rw [Option.some.inj hz] at g3
    refine ⟨G, a[i], g1, g2, by simp, g3, g4, ?_⟩
    have := g5 (g a[i])
    rw [pre_set g hi2] at this
    exact this
  · simp only [show ((1 : Nat) = 0) = False from by simp, if_false, if_true] at e4 e5
    refine ⟨B, c, A, n, cc, e1, e2, e3, by rw [e4, pre_len]; rfl, fun hi => ?_⟩
    have hi2 : i < b.length := hi
    obtain ⟨G, g1, g2, g3, g4, g5⟩ := e5 i (by rw [pre_len]; exact hi2)
    have hz := pre_get g hi2
    rw [List.getElem?_eq_getElem (by rw [pre_len]; exact hi2)] at hz
    rw [Option.some.inj hz] at g3
    refine ⟨G, b[i], g1, g2, by simp, g3, g4, ?_⟩
    have := g5 (g b[i])
    rw [pre_set g hi2] at this
    exact this
theorem stL_next {g : Int → Int} {a b : List Int} {f : Nat} (hf : f < 2) : stL g a b f (lenF a b f) = stL g a b (f + 1) 0 := by
  have hf01 : f = 0 ∨ f = 1 := by omega
  rcases hf01 with rfl | rfl
  · exact stL_next0 g a b
  · exact stL_next1 g a b
set_option maxRecDepth 100000 in
set_option maxHeartbeats 8000000 in
theorem names_walk (v : Value) (us : List Int) (by_ : Int) (w : World) (h : RdV w v (intsV us)) (hu : us.length ≤ maxLen) (hub : ∀ z ∈ us, -9223372036854775808 ≤ z ∧ z ≤ 9223372036854775807) (hby : -9223372036854775808 ≤ by_ ∧ by_ ≤ 9223372036854775807) :
    Calls Try.prog 8 #[v, .int .i64 by_] w (AwPost w) := by
  have HAw := Lib.hid (fun w => awake_any w)
  have HB0 := Lib.hid (Tx.Blob_any v us.length 0 9 5 w (rdI_V h hub) hu (by omega) (by omega) (by omega) (by omega) (by omega) (by omega))
  have HNr := Lib.hid (fun wq (hb : Below w.heap.size w wq) (a : ByteArray) (ha : a.size ≤ 36) => Near_any a v us 100 wq (h.below hb) hu (by omega) ⟨by omega, by omega⟩)
  have HMd := Lib.hid (fun w => Tx.Mod_any by_ 1000 w (by omega) (by omega) hby.1 hby.2)
  have m1 := Tx.modF_lo by_ 1000 (by omega)
  have m2 := Tx.modF_hi by_ 1000 (by omega)
  generalize Tx.modF by_ 1000 = bm at *
  obtain ⟨A, c, rfl⟩ := h.form
  clear h hu hub hby
  rw [intsV_len] at HB0 HNr ⊢
  generalize us.length = nu at *
  unfold Tx.SomeStr at HB0 HNr
  rw [show (9 : Int).toNat = 9 from rfl] at HB0
  go_enter Try.func8, Try.ntmps8
  go_wp2_with fail
  refine HB0.out.mono ?_
  rintro e w1 ⟨s, hs, rfl, hb1⟩
  have HW1 := Lib.hid hb1
  clear hb1 HB0
  go_wp2_with fail
  refine (HNr.out _ HW1.out s (by omega)).mono ?_
  rintro e w2 ⟨t, ht, rfl, hb2⟩
  have HW2 := Lib.hid (HW1.out.trans (hb2.mono HW1.out.size))
  clear hb2 HNr HW1
  have hs1 : s.size ≤ 1000 := by omega
  have ht1 : t.size ≤ 1000 := by omega
  have HL1 := Lib.hid (fun w => Ln_any s hs1 w)
  have HL2 := Lib.hid (fun w => Ln_any t ht1 w)
  have HIs := Lib.hid (fun u w h => IdsR_ld2 s t hs1 ht1 u w h)
  have HBl := Lib.hid (fun w => Blobs_any s t hs1 ht1 w)
  obtain ⟨hA, hB⟩ := id_small hs1 ht1
  have hlA := idA_len s t
  have hlB := idB_len s t
  have HScr := Lib.hid (fun (g : Int → Int) (hg : ∀ x y, g x = g y → x = y) => scr_map hg (idA s t) (idB s t))
  have HLn : Hid ((blbF s t).length ≤ 1000) := Lib.hid (by have h1 := scr_len (idA s t) (idB s t); unfold blbF; omega)
  unfold LnPost at HL1 HL2
  unfold LdPost at HIs
  unfold blbF at HBl HLn
  generalize idA s t = a at *
  generalize idB s t = b at *
  generalize stringsV (lnB s) = sa at *
  generalize stringsV (lnB t) = sb at *
  generalize scrF a b = l at *
  go_wp2_with fail
  refine (HL1.out _).mono ?_
  rintro e w3 ⟨v1, rfl, hr1, hb3⟩
  obtain ⟨A1, c1, rfl⟩ := hr1.form
  have HR1 := Lib.hid hr1
  have HW3 := Lib.hid (HW2.out.trans (hb3.mono HW2.out.size))
  clear hr1 hb3 HL1 HW2
  go_wp2_with fail
  refine (HL2.out _).mono ?_
  rintro e w4 ⟨v2, rfl, hr2, hb4⟩
  obtain ⟨A2, c2, rfl⟩ := hr2.form
  have HR1 := Lib.hid (HR1.out.below hb4)
  have HR2 := Lib.hid hr2
  have HW4 := Lib.hid (HW3.out.trans (hb4.mono HW3.out.size))
  clear hr2 hb4 HL2 HW3
  have HLL := Lib.hid (ll_lit HR1.out HR2.out tStrs)
  have HWl := Lib.hid (HW4.out.alloc HW4.out.size (.cells #[.slice A1 sa.length c1, .slice A2 sb.length c2] tStrs))
  clear HR1 HR2 HW4
  go_wp2_with fail
  refine (HIs.out _ _ HLL.out).mono ?_
  rintro e w5 ⟨vi, rfl, ho5, hb5⟩
  have HO5 := Lib.hid (ho5.base HWl.out.size)
  have HW5 := Lib.hid (HWl.out.trans (hb5.mono HWl.out.size))
  clear ho5 hb5 HIs HLL HWl
  go_wp2_with fail
  refine (HMd.out _).mono ?_
  rintro e w6 ⟨rfl, rfl⟩
  obtain ⟨G, hG⟩ : ∃ G : Int → Int, G = fun z => 5 - (1 + bm) * z := ⟨_, rfl⟩
  have HGi : Hid (∀ x y, G x = G y → x = y) := Lib.hid (fun x y hxy => by
    rw [hG] at hxy
    have h2 : (1 + bm) * x = (1 + bm) * y := by
      have : 5 - (1 + bm) * x = 5 - (1 + bm) * y := hxy
      omega
    exact Int.eq_of_mul_eq_mul_left (by omega) h2)
  have HGv : Hid (∀ z, -1 ≤ z → z ≤ 2000 → IntKind.i64.wrap ((1 + bm) * z) = (1 + bm) * z ∧ IntKind.i64.wrap (5 - (1 + bm) * z) = 5 - (1 + bm) * z ∧ 5 - (1 + bm) * z = G z ∧ zB (G z)) := Lib.hid (fun z h1 h2 => by
    have hp1 : -1000 ≤ (1 + bm) * z := by
      by_cases h0 : 0 ≤ z
      · have := Int.mul_nonneg (show 0 ≤ 1 + bm from by omega) h0
        omega
      · obtain rfl : z = -1 := by omega
        omega
    have hp2 : (1 + bm) * z ≤ 2000000 := by
      have h3 : (1 + bm) * z ≤ (1 + bm) * 2000 := Int.mul_le_mul_of_nonneg_left h2 (by omega)
      omega
    refine ⟨by rw [IntWalk.i64_in _ (by omega)], by rw [IntWalk.i64_in _ (by omega)], by rw [hG], ?_⟩
    rw [hG]
    exact ⟨by show _ ≤ 5 - (1 + bm) * z; omega, by show 5 - (1 + bm) * z ≤ _; omega⟩)
  clear hG
  have HZ : Hid (∀ f z, z ∈ (if f = 0 then a else b : List Int) → -1 ≤ z ∧ z ≤ 2000) := Lib.hid (fun f z hz => by
    by_cases h0 : f = 0
    · rw [if_pos h0] at hz; exact hA z hz
    · rw [if_neg h0] at hz; exact hB z hz)
  have HLf : Hid (∀ f, lenF a b f ≤ 1000) := Lib.hid (fun f => by unfold lenF; split <;> omega)
  have HSt : Hid (OwnLD w5 w.heap.size vi (stL G a b 0 0)) := Lib.hid (by rw [stL_start]; exact HO5.out)
  clear HO5
  go_wp2_with fail
  go_loopw [8] (fun f' wr => ∃ f : Nat, f ≤ 2 ∧ f' = .int .i64 (f : Int) ∧ Hid (OwnLD wr w.heap.size vi (stL G a b f 0)) ∧ Hid (Below w.heap.size w wr)) (fun f' _ => 2 - (intOf f').toNat)
  case atStart => exact ⟨0, Nat.zero_le _, rfl, HSt, HW5⟩
  case round =>
    clear HSt HW5
    obtain ⟨wo, rfl⟩ : ∃ wo, wo = wr := ⟨wr, rfl⟩
    obtain ⟨f, hf, rfl, HO, HBw⟩ := hrel
    by_cases hlt : f < 2
    · have f0 : (0 : Int) ≤ (f : Int) := by omega
      have f1 : (f : Int) < 2 := by omega
      have hlf := HLf.out f
      go_wp2_with fail
      go_loopw [9] (fun i' wr => ∃ i : Nat, i ≤ lenF a b f ∧ i' = .int .i64 (i : Int) ∧ Hid (OwnLD wr w.heap.size vi (stL G a b f i)) ∧ Hid (Below w.heap.size w wr)) (fun i' _ => lenF a b f - (intOf i').toNat)
      case atStart => exact ⟨0, Nat.zero_le _, rfl, HO, HBw⟩
      case round =>
        clear HO HBw
        obtain ⟨i, hi, rfl, HO, HBw⟩ := hrel
        obtain ⟨B, cv, Ar, n, cc, rfl, hBb, q1, hn, hst⟩ := stL_at HO.out hlt hi
        have HNx := Lib.hid (stL_next (g := G) (a := a) (b := b) hlt)
        have HN := Lib.hid hn
        have hnn : n ≤ 1000 := by rw [hn]; exact hlf
        by_cases hin : i < lenF a b f
        · obtain ⟨Gk, z, rfl, hGb, hzm, q2, q3, hnew⟩ := hst hin
          obtain ⟨z1, z2⟩ := HZ.out f z hzm
          obtain ⟨s1, s2, s3, _⟩ := HGv.out z z1 z2
          have HNew := Lib.hid (OwnLD.below hnew (Below.refl _ _).drew)
          have HBn : Hid (Below w.heap.size w ((wr.setCell ⟨Gk, i, none⟩ (.int .i64 (G z))).drew)) := Lib.hid ((HBw.out.setCell (p := ⟨Gk, i, none⟩) hGb _).drew)
          rw [← s3] at HNew HBn
          have i0 : (0 : Int) ≤ (i : Int) := by omega
          have i1 : (i : Int) < (n : Int) := by rw [hn]; omega
          have d1 : decide (i < n) = true := by rw [decide_eq_true_iff, hn]; exact hin
          clear hst hnew hzm s3 hn
          go_wp2_with fail
          go_still_tail 16, (by kernel_rfl)
          change wpList _ _ _ _ _ wr.drew
          go_wp2_with fail
          go_roundw
          case rel => exact ⟨i + 1, by omega, by go_num, HNew, HBn⟩
          case measure => simp [intOf]; omega
        · have d1 : decide (i < n) = false := by rw [decide_eq_false_iff_not, hn]; exact hin
          have hil : i = lenF a b f := by omega
          have HO2 : Hid (OwnLD wr w.heap.size (.slice (some ⟨B, 0, none⟩) 2 cv) (stL G a b (f + 1) 0)) := Lib.hid (by rw [← HNx.out, ← hil]; exact HO.out)
          clear hst hil hn HO HNx
          go_wp2_with fail
          go_roundw
          case rel => exact ⟨f + 1, by omega, by go_num, HO2, HBw⟩
          case measure => simp [intOf]; omega
    · obtain rfl : f = 2 := by omega
      have HO2 : Hid (OwnLD wo w.heap.size vi [a.map G, b.map G]) := Lib.hid (by rw [← stL_end]; exact HO.out)
      clear HO hlt
      have HSc : Hid (∀ va vb w, RdV w va (intsV (a.map G)) → RdV w vb (intsV (b.map G)) → Calls Try.prog 12 #[va, vb] w (ScPost l w)) := Lib.hid (fun va vb w h1 h2 => by
        have h := Scr_rd va vb (a.map G) (b.map G) w h1 h2 (by rw [List.length_map]; omega) (by rw [List.length_map]; omega) (fun x hx => by
          obtain ⟨z, hz, rfl⟩ := List.mem_map.1 hx
          have := hA z hz
          exact (HGv.out z this.1 this.2).2.2.2) (fun x hx => by
          obtain ⟨z, hz, rfl⟩ := List.mem_map.1 hx
          have := hB z hz
          exact (HGv.out z this.1 this.2).2.2.2)
        rw [HScr.out G HGi.out] at h
        exact h)
      go_wp2_with fail
      refine (HBl.out _).mono ?_
      rintro e w7 ⟨v7, rfl, ho7, hb7⟩
      obtain ⟨A7, c7, rfl⟩ := ho7.rd.form
      have HR7 := Lib.hid ho7.rd
      have HW7 := Lib.hid (HBw.out.trans (hb7.mono HBw.out.size))
      obtain ⟨b7, off, c, u0, u1, rfl, q0, q1, r0, r1⟩ := ll_two (HO2.out.ll.rd.below hb7)
      have HR0 := Lib.hid (r0.below (Below.refl w7.heap.size w7).drew)
      have HR1 := Lib.hid (r1.below (Below.refl w7.heap.size w7).drew)
      have HWd := Lib.hid HW7.out.drew
      clear ho7 hb7 r0 r1 HO2
      go_upto_region 13 with fail
      go_region_with (first | (go_at_call 12; refine (HSc.out _ _ _ HR0.out HR1.out).mono ?_; rintro e w8 ⟨v8, rfl, ho8, hb8⟩; obtain ⟨A8, c8, hf8⟩ := ho8.rd.form; subst hf8; have HR8 := Lib.hid ho8.rd; have HW8 := Lib.hid (HWd.out.trans (hb8.mono HWd.out.size)); have HR7b := Lib.hid ((HR7.out.below (Below.refl w7.heap.size w7).drew).below hb8); clear ho8 hb8))
      all_goals
        go_wp2_with fail
        refine (Changes_same _ _ l _ (by have := HLn.out; omega) HR7b.out HR8.out).mono ?_
        rintro e _ ⟨rfl, q, rfl⟩
        have HW9 := Lib.hid (below_drewN HW8.out q)
        generalize World.drewN w8 q = w9 at *
        go_wp2_with fail
        refine (HAw.out _).mono ?_
        rintro e w10 ⟨rfl, hb⟩
        have HW10 := Lib.hid (HW9.out.trans (hb.mono HW9.out.size))
        go_wp2_with fail
        go_ret
        exact ⟨rfl, HW10.out⟩
end Sh
end Go.Proofs.Ytlnjhacchnfbkaa

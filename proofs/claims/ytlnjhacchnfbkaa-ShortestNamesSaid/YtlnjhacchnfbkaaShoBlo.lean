/-
  The walk of the law ShortestBlobs of layer 9. No conditions.
-/
import Derived.Test.YtlnjhacchnfbkaaShoNea
namespace Go.Proofs.Ytlnjhacchnfbkaa
open Go.RowKit
namespace Sh
open Cm Sc Au
theorem rdI_V {w : World} {v : Value} {l : List Int} (h : RdV w v (intsV l)) (hb : ∀ z ∈ l, -9223372036854775808 ≤ z ∧ z ≤ 9223372036854775807) : Tx.RdI w v l.length := by
  obtain ⟨A, c, rfl, _, hc⟩ := h
  refine ⟨A, c, by rw [intsV_len], fun hp => ?_⟩
  obtain ⟨b, off, rfl, hcell⟩ := hc (by rw [intsV_len]; exact hp)
  refine ⟨b, off, rfl, fun j hj => ⟨l[j], ?_, hb _ (List.getElem_mem hj)⟩⟩
  rw [hcell j (by rw [intsV_len]; exact hj)]
  simp [intsV]
set_option maxRecDepth 100000 in
set_option maxHeartbeats 8000000 in
theorem blobs_walk (v : Value) (us : List Int) (s t : ByteArray) (w : World) (h : RdV w v (intsV us)) (hu : us.length ≤ maxLen) (hub : ∀ z ∈ us, -9223372036854775808 ≤ z ∧ z ≤ 9223372036854775807) :
    Calls Try.prog 4 #[v, .string s, .string t] w (AwPost w) := by
  have HAw := Lib.hid (fun w => awake_any w)
  have HB0 := Lib.hid (Tx.Blob_any v us.length 0 9 5 w (rdI_V h hub) hu (by omega) (by omega) (by omega) (by omega) (by omega) (by omega))
  have HNr := Lib.hid (fun wq (hb : Below w.heap.size w wq) (a : ByteArray) (ha : a.size ≤ 36) => Near_any a v us 100 wq (h.below hb) hu (by omega) ⟨by omega, by omega⟩)
  obtain ⟨A, c, rfl⟩ := h.form
  clear h hu hub
  rw [intsV_len] at HB0 HNr ⊢
  generalize us.length = nu at *
  unfold Tx.SomeStr at HB0 HNr
  rw [show (9 : Int).toNat = 9 from rfl] at HB0
  by_cases hs : s.size ≤ 40 ∧ t.size ≤ 40
  · obtain ⟨hs1, hs2⟩ := hs
    have d1 : decide ((40 : Int) < (s.size : Int)) = false := by rw [decide_eq_false_iff_not]; omega
    have d2 : decide ((40 : Int) < (t.size : Int)) = false := by rw [decide_eq_false_iff_not]; omega
    go_enter Try.func4, Try.ntmps4
    go_wp2_with fail
    refine (HB0.out).mono ?_
    rintro e w1 ⟨a, ha, rfl, hb⟩
    have HW1 := Lib.hid hb
    clear hb
    go_wp2_with fail
    refine (HNr.out _ HW1.out a (by omega)).mono ?_
    rintro e w2 ⟨b, hb', rfl, hb⟩
    have HW2 := Lib.hid (HW1.out.trans (hb.mono HW1.out.size))
    clear HW1
    clear hb
    have HC1 := Lib.hid (fun W => Blobs_any a b (by omega) (by omega) W)
    have HC2 := Lib.hid (fun W => BlobsR_any a b (by omega) (by omega) W)
    have HC3 := Lib.hid (fun W => Blobs_any s t (by omega) (by omega) W)
    have HC4 := Lib.hid (fun W => BlobsR_any s t (by omega) (by omega) W)
    have HS1 : Hid ((blbF a b).length ≤ 1000) := Lib.hid (by have h1 := scr_len (idA a b) (idB a b); have h2 := idA_len a b; unfold blbF; omega)
    have HS2 : Hid ((blbF s t).length ≤ 1000) := Lib.hid (by have h1 := scr_len (idA s t) (idB s t); have h2 := idA_len s t; unfold blbF; omega)
    generalize blbF a b = l at *
    generalize blbF s t = lx at *
    go_wp2_with fail
    refine (HC1.out _).mono ?_
    rintro e w3 ⟨vl1, rfl, ho, hb⟩
    have HW3 := Lib.hid (HW2.out.trans (hb.mono HW2.out.size))
    clear HW2
    clear hb
    obtain ⟨Al1, cl1, hfl1⟩ := ho.rd.form
    subst hfl1
    have Hl1 := Lib.hid ho.rd
    clear ho
    go_wp2_with fail
    refine (HC2.out _).mono ?_
    rintro e w4 ⟨vm1, rfl, ho, hb⟩
    have HW4 := Lib.hid (HW3.out.trans (hb.mono HW3.out.size))
    have Hl1 := Lib.hid (Hl1.out.below hb)
    clear HW3
    clear hb
    obtain ⟨Am1, cm1, hfm1⟩ := ho.rd.form
    subst hfm1
    have Hm1 := Lib.hid ho.rd
    clear ho
    go_wp2_with fail
    refine (HC3.out _).mono ?_
    rintro e w5 ⟨vl2, rfl, ho, hb⟩
    have HW5 := Lib.hid (HW4.out.trans (hb.mono HW4.out.size))
    have Hl1 := Lib.hid (Hl1.out.below hb)
    have Hm1 := Lib.hid (Hm1.out.below hb)
    clear HW4
    clear hb
    obtain ⟨Al2, cl2, hfl2⟩ := ho.rd.form
    subst hfl2
    have Hl2 := Lib.hid ho.rd
    clear ho
    go_wp2_with fail
    refine (HC4.out _).mono ?_
    rintro e w6 ⟨vm2, rfl, ho, hb⟩
    have HW6 := Lib.hid (HW5.out.trans (hb.mono HW5.out.size))
    have Hl1 := Lib.hid (Hl1.out.below hb)
    have Hm1 := Lib.hid (Hm1.out.below hb)
    have Hl2 := Lib.hid (Hl2.out.below hb)
    clear HW5
    clear hb
    obtain ⟨Am2, cm2, hfm2⟩ := ho.rd.form
    subst hfm2
    have Hm2 := Lib.hid ho.rd
    clear ho
    clear HC1 HC2 HC3 HC4
    go_wp2_with fail
    refine (Changes_same _ _ l _ (by have := HS1.out; omega) Hl1.out Hm1.out).mono ?_
    rintro e _ ⟨rfl, q, rfl⟩
    have hb := below_drewN (Below.refl w6.heap.size w6) q
    have HW7 := Lib.hid (HW6.out.trans (hb.mono HW6.out.size))
    have Hl1 := Lib.hid (Hl1.out.below hb)
    have Hm1 := Lib.hid (Hm1.out.below hb)
    have Hl2 := Lib.hid (Hl2.out.below hb)
    have Hm2 := Lib.hid (Hm2.out.below hb)
    clear HW6
    clear hb
    generalize World.drewN w6 q = w7 at *
    go_wp2_with fail
    refine (Changes_same _ _ lx _ (by have := HS2.out; omega) Hl2.out Hm2.out).mono ?_
    rintro e _ ⟨rfl, q, rfl⟩
    have hb := below_drewN (Below.refl w7.heap.size w7) q
    have HW8 := Lib.hid (HW7.out.trans (hb.mono HW7.out.size))
    have Hl1 := Lib.hid (Hl1.out.below hb)
    have Hm1 := Lib.hid (Hm1.out.below hb)
    have Hl2 := Lib.hid (Hl2.out.below hb)
    have Hm2 := Lib.hid (Hm2.out.below hb)
    clear HW7
    clear hb
    generalize World.drewN w7 q = w8 at *
    go_wp2_with fail
    refine (HAw.out _).mono ?_
    rintro e w9 ⟨rfl, hb⟩
    have HW9 := Lib.hid (HW8.out.trans (hb.mono HW8.out.size))
    have Hl1 := Lib.hid (Hl1.out.below hb)
    have Hm1 := Lib.hid (Hm1.out.below hb)
    have Hl2 := Lib.hid (Hl2.out.below hb)
    have Hm2 := Lib.hid (Hm2.out.below hb)
    clear HW8
    clear hb
    go_wp2_with fail
    go_ret
    exact ⟨rfl, HW9.out⟩
  · by_cases hs1 : s.size ≤ 40
    · have d1 : decide ((40 : Int) < (s.size : Int)) = false := by rw [decide_eq_false_iff_not]; omega
      have d2 : decide ((40 : Int) < (t.size : Int)) = true := by rw [decide_eq_true_iff]; omega
      clear hs HB0 HNr
      go_enter Try.func4, Try.ntmps4
      go_wp2_with fail
      refine (HAw.out _).mono ?_
      rintro e w1 ⟨rfl, hb⟩
      go_wp2_with fail
      go_ret
      exact ⟨rfl, hb⟩
    · have d1 : decide ((40 : Int) < (s.size : Int)) = true := by rw [decide_eq_true_iff]; omega
      clear hs HB0 HNr
      go_enter Try.func4, Try.ntmps4
      go_wp2_with fail
      refine (HAw.out _).mono ?_
      rintro e w1 ⟨rfl, hb⟩
      go_wp2_with fail
      go_ret
      exact ⟨rfl, hb⟩
end Sh
end Go.Proofs.Ytlnjhacchnfbkaa

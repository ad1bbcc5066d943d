/-
  Walks of layer 10's laws: SlideExchange. Conditions: what a row asks of its arguments.
-/
import Derived.Test.YtldommbelpcegaaSliBack
namespace Go.Proofs.Ytldommbelpcegaa
open Go.RowKit
namespace Sl
open Cm Sc Au Sh
theorem changes_c (a b : Value) (l : List Ch) (w : World) (hl : l.length ≤ 4611686018427387904) (ha : RdC w a l) (hb : RdC w b l) :
    Calls Try.prog 14 #[a, b] w fun e w' => e = .returned (.bool true) ∧ Below w.heap.size w w' :=
  (Changes_same a b l w hl ha hb).mono (by rintro e w' ⟨rfl, q, rfl⟩; exact ⟨rfl, below_drewN (Below.refl _ _) q⟩)
set_option maxRecDepth 100000 in
set_option maxHeartbeats 8000000 in
theorem exchange_walk (v : Value) (us : List Int) (other : Bool) (w : World) (h : RdV w v (intsV us)) (hu : us.length ≤ maxLen) :
    Calls Try.prog 8 #[v, .bool other] w (AwPost w) := by
  have HAw := Lib.hid (fun w => awake_any w)
  have HPk := Lib.hid (pick_any v us other w h hu)
  obtain ⟨A, c, rfl⟩ := h.form
  clear h hu
  rw [intsV_len] at HPk ⊢
  generalize us.length = nu at *
  go_enter Try.func8, Try.ntmps8
  go_wp2_with fail
  refine (HPk.out).mono ?_
  rintro e w1 ⟨vl, va, vb, l, a, b, rfl, hf, hla, hlb, hl, ha, hbv, hb⟩
  have HB1 := Lib.hid hb
  obtain ⟨Al, cl, rfl⟩ := hl.form
  obtain ⟨Aa, ca, ea⟩ := ha.form
  rw [intsV_len] at ea
  subst ea
  obtain ⟨Ab, cb, eb⟩ := hbv.form
  rw [intsV_len] at eb
  subst eb
  have HL := Lib.hid hl
  have HA := Lib.hid ha
  have HV := Lib.hid hbv
  have hla2 : a.length ≤ 4096 := by omega
  have hlb2 : b.length ≤ 4096 := by omega
  have hfew := fit_few hf
  have HD := Lib.hid (fun wq (h1 : RdC wq (.slice Al l.length cl) l) (h2 : RdV wq (.slice Aa a.length ca) (intsV a)) (h3 : RdV wq (.slice Ab b.length cb) (intsV b)) => Down_any _ l _ _ a b wq h1 h2 h3 hla2 hlb2 hf)
  have HI := Lib.hid (fun wq (h1 : RdC wq (.slice Al l.length cl) l) => InvertR_any _ l wq h1 (by omega))
  have HE := Lib.hid (fun v wq (h1 : RdC wq v (l.map inv)) (h2 : RdV wq (.slice Ab b.length cb) (intsV b)) (h3 : RdV wq (.slice Aa a.length ca) (intsV a)) => Down_any v (l.map inv) _ _ b a wq h1 h2 h3 hlb2 hla2 (fit_inv l true 0 0 hf))
  rw [exchange l true 0 0 hf] at HE
  have hx : (downF a b a.length l).length ≤ 100 := by rw [downF_len]; omega
  generalize downF a b a.length l = X at *
  have HJ := Lib.hid (fun v wq (h1 : RdC wq v X) => InvertR_any v X wq h1 (by omega))
  clear HPk hl ha hbv hf
  clear hb
  go_wp2_with fail
  refine (HD.out _ HL.out HA.out HV.out).mono ?_
  rintro e w2 ⟨v1, rfl, ho, hb⟩
  have HB2 := Lib.hid (HB1.out.trans (hb.mono HB1.out.size))
  have HL := Lib.hid (HL.out.below hb)
  have HA := Lib.hid (HA.out.below hb)
  have HV := Lib.hid (HV.out.below hb)
  obtain ⟨A1, c1, ev⟩ := ho.rd.form
  subst ev
  have HX1 := Lib.hid ho.rd
  clear ho
  clear hb HB1
  clear HD
  go_wp2_with fail
  refine (HI.out _ HL.out).mono ?_
  rintro e w3 ⟨v2, rfl, ho, hb⟩
  have HB3 := Lib.hid (HB2.out.trans (hb.mono HB2.out.size))
  have HL := Lib.hid (HL.out.below hb)
  have HA := Lib.hid (HA.out.below hb)
  have HV := Lib.hid (HV.out.below hb)
  have HX1 := Lib.hid (HX1.out.below hb)
  obtain ⟨A2, c2, ev⟩ := ho.rd.form
  rw [List.length_map] at ev
  subst ev
  have HX2 := Lib.hid ho.rd
  clear ho
  clear hb HB2
  clear HI
  go_wp2_with fail
  refine (HE.out _ _ HX2.out HV.out HA.out).mono ?_
  rintro e w4 ⟨v3, rfl, ho, hb⟩
  have HB4 := Lib.hid (HB3.out.trans (hb.mono HB3.out.size))
  have HL := Lib.hid (HL.out.below hb)
  have HA := Lib.hid (HA.out.below hb)
  have HV := Lib.hid (HV.out.below hb)
  have HX1 := Lib.hid (HX1.out.below hb)
  have HX2 := Lib.hid (HX2.out.below hb)
  obtain ⟨A3, c3, ev⟩ := ho.rd.form
  rw [List.length_map] at ev
  subst ev
  have HX3 := Lib.hid ho.rd
  clear ho
  clear hb HB3
  clear HE
  clear HL HA HV HX2
  go_wp2_with fail
  refine (HJ.out _ _ HX1.out).mono ?_
  rintro e w5 ⟨v4, rfl, ho, hb⟩
  have HB5 := Lib.hid (HB4.out.trans (hb.mono HB4.out.size))
  have HX1 := Lib.hid (HX1.out.below hb)
  have HX3 := Lib.hid (HX3.out.below hb)
  obtain ⟨A4, c4, ev⟩ := ho.rd.form
  rw [List.length_map] at ev
  subst ev
  have HX4 := Lib.hid ho.rd
  clear ho
  clear hb HB4
  clear HJ
  clear HX1
  go_wp2_with fail
  refine (changes_c _ _ (X.map inv) _ (by rw [List.length_map]; omega) HX4.out HX3.out).mono ?_
  rintro e w6 ⟨rfl, hb⟩
  have HB6 := Lib.hid (HB5.out.trans (hb.mono HB5.out.size))
  have HX3 := Lib.hid (HX3.out.below hb)
  have HX4 := Lib.hid (HX4.out.below hb)
  clear hb HB5
  clear HX3 HX4
  go_wp2_with fail
  refine (HAw.out _).mono ?_
  rintro e w7 ⟨rfl, hb⟩
  have HB7 := Lib.hid (HB6.out.trans (hb.mono HB6.out.size))
  clear hb HB6
  go_wp2_with fail
  go_ret
  exact ⟨rfl, HB7.out⟩
end Sl
end Go.Proofs.Ytldommbelpcegaa

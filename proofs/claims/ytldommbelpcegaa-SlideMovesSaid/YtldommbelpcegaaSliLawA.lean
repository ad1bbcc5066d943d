/-
  Walks of layer 10's laws: SlideMoves. Conditions: what a row asks of its arguments.
-/
import Derived.Test.YtldommbelpcegaaSliBack
namespace Go.Proofs.Ytldommbelpcegaa
open Go.RowKit
namespace Sl
open Cm Sc Au Sh
theorem changes_b (a b : Value) (l : List Ch) (w : World) (hl : l.length ≤ 4611686018427387904) (ha : RdC w a l) (hb : RdC w b l) :
    Calls Try.prog 14 #[a, b] w fun e w' => e = .returned (.bool true) ∧ Below w.heap.size w w' :=
  (Changes_same a b l w hl ha hb).mono (by rintro e w' ⟨rfl, q, rfl⟩; exact ⟨rfl, below_drewN (Below.refl _ _) q⟩)
set_option maxRecDepth 100000 in
set_option maxHeartbeats 8000000 in
theorem moves_walk (v : Value) (us : List Int) (other : Bool) (w : World) (h : RdV w v (intsV us)) (hu : us.length ≤ maxLen) :
    Calls Try.prog 3 #[v, .bool other] w (AwPost w) := by
  have HAw := Lib.hid (fun w => awake_any w)
  have HPk := Lib.hid (pick_any v us other w h hu)
  obtain ⟨A, c, rfl⟩ := h.form
  clear h hu
  rw [intsV_len] at HPk ⊢
  generalize us.length = nu at *
  go_enter Try.func3, Try.ntmps3
  go_wp2_with fail
  refine (HPk.out).mono ?_
  rintro e w1 ⟨vl, va, vb, l, a, b, rfl, hf, hla, hlb, hl, ha, hbv, hb⟩
  have HB1 := Lib.hid hb
  obtain ⟨Al, cl, rfl⟩ := hl.form
  obtain ⟨Aa, ca, ea⟩ := ha.form
  rw [intsV_len] at ea
  subst ea
  obtain ⟨Ab, cb, eb⟩ := hbv.form
  rw [intsV_len] at eb
  subst eb
  have HL := Lib.hid hl
  have HA := Lib.hid ha
  have HV := Lib.hid hbv
  have hla2 : a.length ≤ 4096 := by omega
  have hlb2 : b.length ≤ 4096 := by omega
  have hfew := fit_few hf
  have HD := Lib.hid (fun wq (h1 : RdC wq (.slice Al l.length cl) l) (h2 : RdV wq (.slice Aa a.length ca) (intsV a)) (h3 : RdV wq (.slice Ab b.length cb) (intsV b)) => Down_any _ l _ _ a b wq h1 h2 h3 hla2 hlb2 hf)
  have HDr := Lib.hid (fun wq (h1 : RdC wq (.slice Al l.length cl) l) (h2 : RdV wq (.slice Aa a.length ca) (intsV a)) (h3 : RdV wq (.slice Ab b.length cb) (intsV b)) => DownR_any _ l _ _ a b wq h1 h2 h3 hla2 hlb2 hf)
  have HU := Lib.hid (fun wq (h1 : RdC wq (.slice Al l.length cl) l) (h2 : RdV wq (.slice Aa a.length ca) (intsV a)) (h3 : RdV wq (.slice Ab b.length cb) (intsV b)) => Up_any _ l _ _ a b wq h1 h2 h3 hla2 hlb2 hf)
  have HUr := Lib.hid (fun wq (h1 : RdC wq (.slice Al l.length cl) l) (h2 : RdV wq (.slice Aa a.length ca) (intsV a)) (h3 : RdV wq (.slice Ab b.length cb) (intsV b)) => UpR_any _ l _ _ a b wq h1 h2 h3 hla2 hlb2 hf)
  have hx : (downF a b a.length l).length ≤ 100 := by rw [downF_len]; omega
  have hy : (upF a b 0 l).length ≤ 100 := by rw [upF_len]; omega
  generalize downF a b a.length l = X at *
  generalize upF a b 0 l = Y at *
  clear HPk hl ha hbv hf
  clear hb
  go_wp2_with fail
  refine (HD.out _ HL.out HA.out HV.out).mono ?_
  rintro e w2 ⟨v1, rfl, ho, hb⟩
  have HB2 := Lib.hid (HB1.out.trans (hb.mono HB1.out.size))
  have HL := Lib.hid (HL.out.below hb)
  have HA := Lib.hid (HA.out.below hb)
  have HV := Lib.hid (HV.out.below hb)
  obtain ⟨A1, c1, rfl⟩ := ho.rd.form
  have HX1 := Lib.hid ho.rd
  clear ho
  clear hb HB1
  clear HD
  go_wp2_with fail
  refine (HDr.out _ HL.out HA.out HV.out).mono ?_
  rintro e w3 ⟨v2, rfl, ho, hb⟩
  have HB3 := Lib.hid (HB2.out.trans (hb.mono HB2.out.size))
  have HL := Lib.hid (HL.out.below hb)
  have HA := Lib.hid (HA.out.below hb)
  have HV := Lib.hid (HV.out.below hb)
  have HX1 := Lib.hid (HX1.out.below hb)
  obtain ⟨A2, c2, rfl⟩ := ho.rd.form
  have HX2 := Lib.hid ho.rd
  clear ho
  clear hb HB2
  clear HDr
  go_wp2_with fail
  refine (HU.out _ HL.out HA.out HV.out).mono ?_
  rintro e w4 ⟨v3, rfl, ho, hb⟩
  have HB4 := Lib.hid (HB3.out.trans (hb.mono HB3.out.size))
  have HL := Lib.hid (HL.out.below hb)
  have HA := Lib.hid (HA.out.below hb)
  have HV := Lib.hid (HV.out.below hb)
  have HX1 := Lib.hid (HX1.out.below hb)
  have HX2 := Lib.hid (HX2.out.below hb)
  obtain ⟨A3, c3, rfl⟩ := ho.rd.form
  have HX3 := Lib.hid ho.rd
  clear ho
  clear hb HB3
  clear HU
  go_wp2_with fail
  refine (HUr.out _ HL.out HA.out HV.out).mono ?_
  rintro e w5 ⟨v4, rfl, ho, hb⟩
  have HB5 := Lib.hid (HB4.out.trans (hb.mono HB4.out.size))
  have HL := Lib.hid (HL.out.below hb)
  have HA := Lib.hid (HA.out.below hb)
  have HV := Lib.hid (HV.out.below hb)
  have HX1 := Lib.hid (HX1.out.below hb)
  have HX2 := Lib.hid (HX2.out.below hb)
  have HX3 := Lib.hid (HX3.out.below hb)
  obtain ⟨A4, c4, rfl⟩ := ho.rd.form
  have HX4 := Lib.hid ho.rd
  clear ho
  clear hb HB4
  clear HUr
  clear HL HA HV
  go_wp2_with fail
  refine (changes_b _ _ X _ (by omega) HX1.out HX2.out).mono ?_
  rintro e w6 ⟨rfl, hb⟩
  have HB6 := Lib.hid (HB5.out.trans (hb.mono HB5.out.size))
  have HX1 := Lib.hid (HX1.out.below hb)
  have HX2 := Lib.hid (HX2.out.below hb)
  have HX3 := Lib.hid (HX3.out.below hb)
  have HX4 := Lib.hid (HX4.out.below hb)
  clear hb HB5
  clear HX1 HX2
  go_wp2_with fail
  refine (changes_b _ _ Y _ (by omega) HX3.out HX4.out).mono ?_
  rintro e w7 ⟨rfl, hb⟩
  have HB7 := Lib.hid (HB6.out.trans (hb.mono HB6.out.size))
  have HX3 := Lib.hid (HX3.out.below hb)
  have HX4 := Lib.hid (HX4.out.below hb)
  clear hb HB6
  clear HX3 HX4
  go_wp2_with fail
  refine (HAw.out _).mono ?_
  rintro e w8 ⟨rfl, hb⟩
  have HB8 := Lib.hid (HB7.out.trans (hb.mono HB7.out.size))
  clear hb HB7
  go_wp2_with fail
  go_ret
  exact ⟨rfl, HB8.out⟩
end Sl
end Go.Proofs.Ytldommbelpcegaa

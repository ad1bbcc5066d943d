/-
  Walks of layer 10's laws: SlideMirror. Conditions: what a row asks of its arguments.
-/
import Derived.Test.YtldommbelpcegaaSliBack
namespace Go.Proofs.Ytldommbelpcegaa
open Go.RowKit
namespace Sl
open Cm Sc Au Sh
theorem changes_e (a b : Value) (l : List Ch) (w : World) (hl : l.length ≤ 4611686018427387904) (ha : RdC w a l) (hb : RdC w b l) :
    Calls Try.prog 14 #[a, b] w fun e w' => e = .returned (.bool true) ∧ Below w.heap.size w w' :=
  (Changes_same a b l w hl ha hb).mono (by rintro e w' ⟨rfl, q, rfl⟩; exact ⟨rfl, below_drewN (Below.refl _ _) q⟩)
set_option maxRecDepth 100000 in
set_option maxHeartbeats 8000000 in
theorem mirror_walk (v : Value) (us : List Int) (other : Bool) (w : World) (h : RdV w v (intsV us)) (hu : us.length ≤ maxLen) :
    Calls Try.prog 7 #[v, .bool other] w (AwPost w) := by
  have HAw := Lib.hid (fun w => awake_any w)
  have HPk := Lib.hid (pick_any v us other w h hu)
  obtain ⟨A, c, rfl⟩ := h.form
  clear h hu
  rw [intsV_len] at HPk ⊢
  generalize us.length = nu at *
  go_enter Try.func7, Try.ntmps7
  go_wp2_with fail
  refine (HPk.out).mono ?_
  rintro e w1 ⟨vl, va, vb, l, a, b, rfl, hf, hla, hlb, hl, ha, hbv, hb⟩
  have HB1 := Lib.hid hb
  obtain ⟨Al, cl, rfl⟩ := hl.form
  obtain ⟨Aa, ca, ea⟩ := ha.form
  rw [intsV_len] at ea
  subst ea
  obtain ⟨Ab, cb, eb⟩ := hbv.form
  rw [intsV_len] at eb
  subst eb
  have HL := Lib.hid hl
  have HA := Lib.hid ha
  have HV := Lib.hid hbv
  have hla2 : a.length ≤ 4096 := by omega
  have hlb2 : b.length ≤ 4096 := by omega
  have hfew := fit_few hf
  have HU := Lib.hid (fun wq (h1 : RdC wq (.slice Al l.length cl) l) (h2 : RdV wq (.slice Aa a.length ca) (intsV a)) (h3 : RdV wq (.slice Ab b.length cb) (intsV b)) => Up_any _ l _ _ a b wq h1 h2 h3 hla2 hlb2 hf)
  have HT := Lib.hid (fun wq (h1 : RdC wq (.slice Al l.length cl) l) => turned_any _ l (a.length : Int) (b.length : Int) wq h1 (by omega) (fit_chN hf hla2 hlb2) ⟨by omega, by omega⟩ ⟨by omega, by omega⟩)
  have HBa := Lib.hid (fun wq (h1 : RdV wq (.slice Aa a.length ca) (intsV a)) => back_any _ a wq h1 hla2)
  have HBb := Lib.hid (fun wq (h1 : RdV wq (.slice Ab b.length cb) (intsV b)) => back_any _ b wq h1 hlb2)
  have HD := Lib.hid (fun v va vb wq (h1 : RdC wq v (turnL a.length b.length l)) (h2 : RdV wq va (intsV a.reverse)) (h3 : RdV wq vb (intsV b.reverse)) => Down_any v _ va vb a.reverse b.reverse wq h1 h2 h3 (by rw [List.length_reverse]; exact hla2) (by rw [List.length_reverse]; exact hlb2) (turn_fits hf))
  rw [List.length_reverse, mirror hf] at HD
  have hx : (upF a b 0 l).length = l.length := upF_len a b l 0
  have hfx := fit_upF l true 0 0 (Int.le_refl _) (Int.le_refl _) hf
  rw [show firstI true 0 = 0 from rfl] at hfx
  have hcx : ∀ c ∈ turnL a.length b.length (upF a b 0 l), ChN c := by have := turn_fits hfx; exact fit_chN this (by rw [List.length_reverse]; exact hla2) (by rw [List.length_reverse]; exact hlb2)
  have hxl : (turnL a.length b.length (upF a b 0 l)).length = l.length := by rw [turn_len, hx]
  have HJ := Lib.hid (fun v wq (h1 : RdC wq v (turnL a.length b.length (upF a b 0 l))) => turned_any v _ (a.length : Int) (b.length : Int) wq h1 (by omega) hcx ⟨by omega, by omega⟩ ⟨by omega, by omega⟩)
  rw [turn_turn] at HJ
  have hX : (upF a b 0 l).length ≤ 100 := by omega
  have HLT : Hid ((turnL a.length b.length l).length = l.length) := Lib.hid (turn_len _ _ _)
  have HLX := Lib.hid hxl
  have HLY := Lib.hid hx
  clear hfx hcx hxl
  generalize turnL a.length b.length (upF a b 0 l) = Z at *
  generalize upF a b 0 l = X at *
  generalize turnL a.length b.length l = T at *
  clear HPk hl ha hbv hf
  clear hb
  go_wp2_with fail
  refine (HU.out _ HL.out HA.out HV.out).mono ?_
  rintro e w2 ⟨v1, rfl, ho, hb⟩
  have HB2 := Lib.hid (HB1.out.trans (hb.mono HB1.out.size))
  have HL := Lib.hid (HL.out.below hb)
  have HA := Lib.hid (HA.out.below hb)
  have HV := Lib.hid (HV.out.below hb)
  obtain ⟨A1, c1, ev⟩ := ho.rd.form
  rw [HLY.out] at ev
  subst ev
  have HX1 := Lib.hid ho.rd
  clear ho
  clear hb HB1
  clear HU
  go_wp2_with fail
  refine (HT.out _ HL.out).mono ?_
  rintro e w3 ⟨v2, rfl, ho, hb⟩
  have HB3 := Lib.hid (HB2.out.trans (hb.mono HB2.out.size))
  have HL := Lib.hid (HL.out.below hb)
  have HA := Lib.hid (HA.out.below hb)
  have HV := Lib.hid (HV.out.below hb)
  have HX1 := Lib.hid (HX1.out.below hb)
  obtain ⟨A2, c2, ev⟩ := ho.rd.form
  rw [HLT.out] at ev
  subst ev
  have HX2 := Lib.hid ho.rd
  clear ho
  clear hb HB2
  clear HT
  clear HL
  go_wp2_with fail
  refine (HBa.out _ HA.out).mono ?_
  rintro e w4 ⟨vp, rfl, ho, hb⟩
  have HB4 := Lib.hid (HB3.out.trans (hb.mono HB3.out.size))
  have HA := Lib.hid (HA.out.below hb)
  have HV := Lib.hid (HV.out.below hb)
  have HX1 := Lib.hid (HX1.out.below hb)
  have HX2 := Lib.hid (HX2.out.below hb)
  obtain ⟨Ap, cp, ev⟩ := ho.form
  rw [intsV_len, List.length_reverse] at ev
  subst ev
  have HIp := Lib.hid ho
  clear ho
  clear hb HB3
  go_wp2_with fail
  refine (HBb.out _ HV.out).mono ?_
  rintro e w5 ⟨vq, rfl, ho, hb⟩
  have HB5 := Lib.hid (HB4.out.trans (hb.mono HB4.out.size))
  have HA := Lib.hid (HA.out.below hb)
  have HV := Lib.hid (HV.out.below hb)
  have HX1 := Lib.hid (HX1.out.below hb)
  have HX2 := Lib.hid (HX2.out.below hb)
  have HIp := Lib.hid (HIp.out.below hb)
  obtain ⟨Aq, cq, ev⟩ := ho.form
  rw [intsV_len, List.length_reverse] at ev
  subst ev
  have HIq := Lib.hid ho
  clear ho
  clear hb HB4
  clear HBa HBb
  clear HA HV
  go_wp2_with fail
  refine (HD.out _ _ _ _ HX2.out HIp.out HIq.out).mono ?_
  rintro e w6 ⟨v3, rfl, ho, hb⟩
  have HB6 := Lib.hid (HB5.out.trans (hb.mono HB5.out.size))
  have HX1 := Lib.hid (HX1.out.below hb)
  have HX2 := Lib.hid (HX2.out.below hb)
  have HIp := Lib.hid (HIp.out.below hb)
  have HIq := Lib.hid (HIq.out.below hb)
  obtain ⟨A3, c3, ev⟩ := ho.rd.form
  rw [HLX.out] at ev
  subst ev
  have HX3 := Lib.hid ho.rd
  clear ho
  clear hb HB5
  clear HD
  clear HX2 HIp HIq
  go_wp2_with fail
  refine (HJ.out _ _ HX3.out).mono ?_
  rintro e w7 ⟨v4, rfl, ho, hb⟩
  have HB7 := Lib.hid (HB6.out.trans (hb.mono HB6.out.size))
  have HX1 := Lib.hid (HX1.out.below hb)
  have HX3 := Lib.hid (HX3.out.below hb)
  obtain ⟨A4, c4, ev⟩ := ho.rd.form
  rw [HLY.out] at ev
  subst ev
  have HX4 := Lib.hid ho.rd
  clear ho
  clear hb HB6
  clear HJ
  clear HX3
  go_wp2_with fail
  refine (changes_e _ _ X _ (by omega) HX1.out HX4.out).mono ?_
  rintro e w8 ⟨rfl, hb⟩
  have HB8 := Lib.hid (HB7.out.trans (hb.mono HB7.out.size))
  have HX1 := Lib.hid (HX1.out.below hb)
  have HX4 := Lib.hid (HX4.out.below hb)
  clear hb HB7
  clear HX1 HX4
  go_wp2_with fail
  refine (HAw.out _).mono ?_
  rintro e w9 ⟨rfl, hb⟩
  have HB9 := Lib.hid (HB8.out.trans (hb.mono HB8.out.size))
  clear hb HB8
  go_wp2_with fail
  go_ret
  exact ⟨rfl, HB9.out⟩
end Sl
end Go.Proofs.Ytldommbelpcegaa

/-
  Walks of layer 10's laws: SlideRoom. Conditions: what a row asks of its arguments.
-/
import Derived.Test.YtldommbelpcegaaSliBack
namespace Go.Proofs.Ytldommbelpcegaa
open Go.RowKit
namespace Sl
open Cm Sc Au Sh
set_option maxRecDepth 100000 in
set_option maxHeartbeats 8000000 in
theorem room_walk (v : Value) (us : List Int) (other : Bool) (k : Int) (w : World) (h : RdV w v (intsV us)) (hu : us.length ≤ maxLen) (hk : -9223372036854775808 ≤ k ∧ k ≤ 9223372036854775807) :
    Calls Try.prog 4 #[v, .bool other, .int .i64 k] w (AwPost w) := by
  have HAw := Lib.hid (fun w => awake_any w)
  have HPk := Lib.hid (pick_any v us other w h hu)
  obtain ⟨A, c, rfl⟩ := h.form
  clear h hu
  rw [intsV_len] at HPk ⊢
  generalize us.length = nu at *
  go_enter Try.func4, Try.ntmps4
  go_wp2_with fail
  refine (HPk.out).mono ?_
  rintro e w1 ⟨vl, va, vb, l, a, b, rfl, hf, hla, hlb, hl, ha, hbv, hb⟩
  have HB1 := Lib.hid hb
  obtain ⟨Al, cl, rfl⟩ := hl.form
  obtain ⟨Aa, ca, ea⟩ := ha.form
  rw [intsV_len] at ea
  subst ea
  obtain ⟨Ab, cb, eb⟩ := hbv.form
  rw [intsV_len] at eb
  subst eb
  have HL := Lib.hid hl
  have HA := Lib.hid ha
  have HV := Lib.hid hbv
  have hla2 : a.length ≤ 4096 := by omega
  have hlb2 : b.length ≤ 4096 := by omega
  have hfew := fit_few hf
  have HR := Lib.hid (fun wq (h1 : RdC wq (.slice Al l.length cl) l) (h2 : RdV wq (.slice Aa a.length ca) (intsV a)) (h3 : RdV wq (.slice Ab b.length cb) (intsV b)) => Room_any _ l _ _ a b k wq h1 h2 h3 hla2 hlb2 hf)
  have HRr := Lib.hid (fun wq (h1 : RdC wq (.slice Al l.length cl) l) (h2 : RdV wq (.slice Aa a.length ca) (intsV a)) (h3 : RdV wq (.slice Ab b.length cb) (intsV b)) => RoomR_any _ l _ _ a b k wq h1 h2 h3 hla2 hlb2 hf)
  have HQ := Lib.hid (fun k2 wq (h1 : RdC wq (.slice Al l.length cl) l) (h2 : RdV wq (.slice Aa a.length ca) (intsV a)) (h3 : RdV wq (.slice Ab b.length cb) (intsV b)) => Room_any _ l _ _ a b k2 wq h1 h2 h3 hla2 hlb2 hf)
  have HQr := Lib.hid (fun k2 wq (h1 : RdC wq (.slice Al l.length cl) l) (h2 : RdV wq (.slice Aa a.length ca) (intsV a)) (h3 : RdV wq (.slice Ab b.length cb) (intsV b)) => RoomR_any _ l _ _ a b k2 wq h1 h2 h3 hla2 hlb2 hf)
  unfold Rm3 at HR HRr HQ HQr
  generalize rmU a b l k = u at HR HRr
  generalize rmD a b l k = d at HR HRr
  generalize rmE l k = r at HR HRr
  clear HPk hl ha hbv hf
  clear hb
  go_wp2_with fail
  refine (HR.out _ HL.out HA.out HV.out).mono ?_
  rintro e w2 ⟨rfl, hb⟩
  have HB2 := Lib.hid (HB1.out.trans (hb.mono HB1.out.size))
  have HL := Lib.hid (HL.out.below hb)
  have HA := Lib.hid (HA.out.below hb)
  have HV := Lib.hid (HV.out.below hb)
  clear hb HB1
  clear HR
  go_wp2_with fail
  refine (HRr.out _ HL.out HA.out HV.out).mono ?_
  rintro e w3 ⟨rfl, hb⟩
  have HB3 := Lib.hid (HB2.out.trans (hb.mono HB2.out.size))
  have HL := Lib.hid (HL.out.below hb)
  have HA := Lib.hid (HA.out.below hb)
  have HV := Lib.hid (HV.out.below hb)
  clear hb HB2
  clear HRr
  by_cases h0 : 0 < l.length
  · have HMd := Lib.hid (fun w => Tx.Mod_any k (l.length : Int) w (by omega) (by omega) hk.1 hk.2)
    generalize Tx.modF k (l.length : Int) = z at *
    have HQ1 := Lib.hid (HQ.out z)
    have HQ2 := Lib.hid (HQr.out z)
    generalize rmU a b l z = u2 at HQ1 HQ2
    generalize rmD a b l z = d2 at HQ1 HQ2
    generalize rmE l z = r2 at HQ1 HQ2
    clear HQ HQr
    generalize l.length = N at *
    have dn : decide (0 < N) = true := decide_eq_true h0
    go_wp2_with fail
    refine (HMd.out _).mono ?_
    rintro e w9 ⟨rfl, rfl⟩
    go_wp2_with fail
    refine (HQ1.out _ HL.out HA.out HV.out).mono ?_
    rintro e w4 ⟨rfl, hb⟩
    have HB4 := Lib.hid (HB3.out.trans (hb.mono HB3.out.size))
    have HL := Lib.hid (HL.out.below hb)
    have HA := Lib.hid (HA.out.below hb)
    have HV := Lib.hid (HV.out.below hb)
    clear hb HB3
    go_wp2_with fail
    refine (HQ2.out _ HL.out HA.out HV.out).mono ?_
    rintro e w5 ⟨rfl, hb⟩
    have HB5 := Lib.hid (HB4.out.trans (hb.mono HB4.out.size))
    have HL := Lib.hid (HL.out.below hb)
    have HA := Lib.hid (HA.out.below hb)
    have HV := Lib.hid (HV.out.below hb)
    clear hb HB4
    clear HL HA HV
    go_wp2_with fail
    refine (HAw.out _).mono ?_
    rintro e w6 ⟨rfl, hb⟩
    have HB6 := Lib.hid (HB5.out.trans (hb.mono HB5.out.size))
    clear hb HB5
    go_wp2_with fail
    go_ret
    exact ⟨rfl, HB6.out⟩
  · have HQ1 := Lib.hid (HQ.out k)
    have HQ2 := Lib.hid (HQr.out k)
    generalize rmU a b l k = u2 at HQ1 HQ2
    generalize rmD a b l k = d2 at HQ1 HQ2
    generalize rmE l k = r2 at HQ1 HQ2
    clear HQ HQr
    generalize l.length = N at *
    have dn : decide (0 < N) = false := decide_eq_false h0
    go_wp2_with fail
    refine (HQ1.out _ HL.out HA.out HV.out).mono ?_
    rintro e w4 ⟨rfl, hb⟩
    have HB4 := Lib.hid (HB3.out.trans (hb.mono HB3.out.size))
    have HL := Lib.hid (HL.out.below hb)
    have HA := Lib.hid (HA.out.below hb)
    have HV := Lib.hid (HV.out.below hb)
    clear hb HB3
    go_wp2_with fail
    refine (HQ2.out _ HL.out HA.out HV.out).mono ?_
    rintro e w5 ⟨rfl, hb⟩
    have HB5 := Lib.hid (HB4.out.trans (hb.mono HB4.out.size))
    have HL := Lib.hid (HL.out.below hb)
    have HA := Lib.hid (HA.out.below hb)
    have HV := Lib.hid (HV.out.below hb)
    clear hb HB4
    clear HL HA HV
    go_wp2_with fail
    refine (HAw.out _).mono ?_
    rintro e w6 ⟨rfl, hb⟩
    have HB6 := Lib.hid (HB5.out.trans (hb.mono HB5.out.size))
    clear hb HB5
    go_wp2_with fail
    go_ret
    exact ⟨rfl, HB6.out⟩
end Sl
end Go.Proofs.Ytldommbelpcegaa

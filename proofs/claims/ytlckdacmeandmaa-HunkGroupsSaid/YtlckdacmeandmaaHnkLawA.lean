/-
  The walk of layer 11's law HunkGroups. Conditions: what a row asks of its arguments.
-/
import Derived.Test.YtlckdacmeandmaaHnkRd
namespace Go.Proofs.Ytlckdacmeandmaa
open Go.RowKit
namespace Hn
open Cm Sc Au
set_option maxRecDepth 100000 in
set_option maxHeartbeats 8000000 in
theorem groups_walk (v : Value) (us : List Int) (k : Int) (vl : Value) (l : List Ch) (m n c : Int) (w : World) (h : RdV w v (intsV us)) (hu : us.length ≤ maxLen) (hk : -9223372036854775808 ≤ k ∧ k ≤ 9223372036854775807) (hl : RdC w vl l) (hll : l.length ≤ maxLen) (hlb : ∀ z ∈ l, ChB z) :
    Calls Try.prog 3 #[v, .int .i64 k, vl, .int .i64 m, .int .i64 n, .int .i64 c] w (AwPost w) := by
  have HAw := Lib.hid (fun w => awake_any w)
  have HSc := Lib.hid (Script_any v us 0 w h hu ⟨by omega, by omega⟩)
  have HMd := Lib.hid (fun w => Tx.Mod_any k 5 w (by decide) (by decide) hk.1 hk.2)
  have z0 := Tx.modF_lo k 5 (by decide)
  have z1 := Tx.modF_hi k 5 (by decide)
  have HG2 := Lib.hid (fun wq (hq : Below w.heap.size w wq) (h10 : l.length ≤ 10) => Group_rd vl l m n c wq (hl.below hq) (by omega) hlb)
  have HR2 := Lib.hid (fun wq (hq : Below w.heap.size w wq) (h10 : l.length ≤ 10) => GroupR_rd vl l m n c wq (hl.below hq) (by omega))
  have HLn := Lib.hid (grL_len c l m n)
  obtain ⟨A, cp, rfl⟩ := h.form
  obtain ⟨Al, cl, rfl⟩ := hl.form
  clear h hu hl hlb
  unfold maxLen at hll
  rw [intsV_len] at HSc ⊢
  generalize us.length = nu at *
  generalize Tx.modF k 5 = z at *
  unfold GrRd at HG2 HR2
  generalize grL c l m n = L2 at *
  generalize gcF c l m n = g2 at *
  generalize l.length = N at *
  by_cases h10 : (10 : Int) < (N : Int)
  · have hd : decide ((10 : Int) < (N : Int)) = true := decide_eq_true h10
    go_enter Try.func3, Try.ntmps3
    go_wp2_with fail
    refine (HAw.out _).mono ?_
    rintro e w1 ⟨rfl, hb⟩
    go_wp2_with fail
    go_ret
    exact ⟨rfl, hb⟩
  · have hd : decide ((10 : Int) < (N : Int)) = false := decide_eq_false h10
    have hN : N ≤ 10 := by omega
    have hL2 : L2.length ≤ 10 := by have := HLn.out; omega
    go_enter Try.func3, Try.ntmps3
    go_wp2_with fail
    refine (HSc.out).mono ?_
    rintro e w1 ⟨vs, ls, a, b, rfl, hg, ho, hb⟩
    have HB1 := Lib.hid hb
    obtain ⟨As, cs, ev⟩ := ho.rd.form
    subst ev
    have HS := Lib.hid ho.rd
    have HG1 := Lib.hid (fun wq (h1 : RdC wq (.slice As ls.length cs) ls) => Group_rd _ ls a b z wq h1 (by have := hg.len; omega) hg.chB)
    have HR1 := Lib.hid (fun wq (h1 : RdC wq (.slice As ls.length cs) ls) => GroupR_rd _ ls a b z wq h1 (by have := hg.len; omega))
    have HGx := Lib.hid (fun wq (h1 : RdC wq (.slice As ls.length cs) ls) => Group_rd _ ls a b 1048577 wq h1 (by have := hg.len; omega) hg.chB)
    have hL1 : (grL z ls a b).length ≤ 10 := by have := grL_len z ls a b; have := hg.len; omega
    unfold GrRd at HG1 HR1 HGx
    rw [gc_out (.inr (by omega))] at HGx
    generalize grL z ls a b = L1 at *
    generalize grL 1048577 ls a b = Lx at *
    generalize gcF z ls a b = g1 at *
    generalize ls.length = Ns at *
    clear ho hg HSc
    clear hb
    go_wp2_with fail
    refine (HMd.out _).mono ?_
    rintro e wm ⟨rfl, rfl⟩
    go_wp2_with fail
    refine (HG1.out _ HS.out).mono ?_
    rintro e w2 ⟨v1, rfl, hr, hb⟩
    have HB2 := Lib.hid (HB1.out.trans (hb.mono HB1.out.size))
    have HS := Lib.hid (HS.out.below hb)
    obtain ⟨A1, c1, ev⟩ := hr.form
    subst ev
    have HX1 := Lib.hid hr
    clear hr
    clear hb HB1
    clear HG1
    go_wp2_with fail
    refine (HMd.out _).mono ?_
    rintro e wm ⟨rfl, rfl⟩
    go_wp2_with fail
    refine (HR1.out _ HS.out).mono ?_
    rintro e w3 ⟨v2, rfl, hr, hb⟩
    have HB3 := Lib.hid (HB2.out.trans (hb.mono HB2.out.size))
    have HS := Lib.hid (HS.out.below hb)
    have HX1 := Lib.hid (HX1.out.below hb)
    obtain ⟨A2, c2, ev⟩ := hr.form
    subst ev
    have HX2 := Lib.hid hr
    clear hr
    clear hb HB2
    clear HR1 HMd
    go_wp2_with fail
    refine (HG2.out _ HB3.out hN).mono ?_
    rintro e w4 ⟨v3, rfl, hr, hb⟩
    have HB4 := Lib.hid (HB3.out.trans (hb.mono HB3.out.size))
    have HS := Lib.hid (HS.out.below hb)
    have HX1 := Lib.hid (HX1.out.below hb)
    have HX2 := Lib.hid (HX2.out.below hb)
    obtain ⟨A3, c3, ev⟩ := hr.form
    subst ev
    have HX3 := Lib.hid hr
    clear hr
    clear hb HB3
    clear HG2
    go_wp2_with fail
    refine (HR2.out _ HB4.out hN).mono ?_
    rintro e w5 ⟨v4, rfl, hr, hb⟩
    have HB5 := Lib.hid (HB4.out.trans (hb.mono HB4.out.size))
    have HS := Lib.hid (HS.out.below hb)
    have HX1 := Lib.hid (HX1.out.below hb)
    have HX2 := Lib.hid (HX2.out.below hb)
    have HX3 := Lib.hid (HX3.out.below hb)
    obtain ⟨A4, c4, ev⟩ := hr.form
    subst ev
    have HX4 := Lib.hid hr
    clear hr
    clear hb HB4
    clear HR2
    go_wp2_with fail
    refine (HGx.out _ HS.out).mono ?_
    rintro e w6 ⟨vx, rfl, -, hb⟩
    have HB6 := Lib.hid (HB5.out.trans (hb.mono HB5.out.size))
    have HS := Lib.hid (HS.out.below hb)
    have HX1 := Lib.hid (HX1.out.below hb)
    have HX2 := Lib.hid (HX2.out.below hb)
    have HX3 := Lib.hid (HX3.out.below hb)
    have HX4 := Lib.hid (HX4.out.below hb)
    clear hb HB5
    clear HGx
    clear HS
    go_wp2_with fail
    refine (hunks_b _ _ L1 _ (by omega) HX1.out HX2.out).mono ?_
    rintro e w7 ⟨rfl, hb⟩
    have HB7 := Lib.hid (HB6.out.trans (hb.mono HB6.out.size))
    have HX1 := Lib.hid (HX1.out.below hb)
    have HX2 := Lib.hid (HX2.out.below hb)
    have HX3 := Lib.hid (HX3.out.below hb)
    have HX4 := Lib.hid (HX4.out.below hb)
    clear hb HB6
    clear HX1 HX2
    go_wp2_with fail
    refine (hunks_b _ _ L2 _ (by omega) HX3.out HX4.out).mono ?_
    rintro e w8 ⟨rfl, hb⟩
    have HB8 := Lib.hid (HB7.out.trans (hb.mono HB7.out.size))
    have HX3 := Lib.hid (HX3.out.below hb)
    have HX4 := Lib.hid (HX4.out.below hb)
    clear hb HB7
    clear HX3 HX4
    go_wp2_with fail
    refine (HAw.out _).mono ?_
    rintro e w9 ⟨rfl, hb⟩
    have HB9 := Lib.hid (HB8.out.trans (hb.mono HB8.out.size))
    clear hb HB8
    go_wp2_with fail
    go_ret
    exact ⟨rfl, HB9.out⟩
end Hn
end Go.Proofs.Ytlckdacmeandmaa

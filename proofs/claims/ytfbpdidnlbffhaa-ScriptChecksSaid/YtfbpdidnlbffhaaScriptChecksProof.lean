/-
  Proved: the law ScriptChecks of layer 8 returns true for every input, and its arguments read as before. No conditions.
-/
import Derived.Test.YtfbpdidnlbffhaaScrSpoil
import Derived.Test.YtfbpdidnlbffhaaScrCkR
import Derived.Test.YtfbpdidnlbffhaaScrAwake
import Derived.Test.YtfbpdidnlbffhaaScrFrame
namespace Go.Proofs.Ytfbpdidnlbffhaa
open Go.ChangeShapes Go.WideShapes Go.ChangeAt Go.RowKit
namespace Sc.ScriptChecks
open Cm Au Sc
set_option maxRecDepth 100000 in
set_option maxHeartbeats 16000000 in
theorem walk (vl : Value) (l : List Ch) (m n : Int) (vr : Value) (us : List Int) (at_ what by_ : Int) (w : World) (hl : RdC w vl l) (hll : l.length ≤ maxLen) (hlb : ∀ c ∈ l, ChB c) (hr : RdV w vr (intsV us)) (hrl : us.length ≤ maxLen)
    (ba : -9223372036854775808 ≤ at_ ∧ at_ ≤ 9223372036854775807) (bw : -9223372036854775808 ≤ what ∧ what ≤ 9223372036854775807) (bb : -9223372036854775808 ≤ by_ ∧ by_ ≤ 9223372036854775807) :
    Calls Try.prog 3 #[vl, .int .i64 m, .int .i64 n, vr, .int .i64 at_, .int .i64 what, .int .i64 by_] w fun e w' => e = .returned (.bool true) ∧ Below w.heap.size w w' := by
  have HAw := Lib.hid (fun w => awake_any w)
  obtain ⟨A0, c0, rfl⟩ := hl.form
  obtain ⟨A3, c3, rfl⟩ := hr.form
  have HScr := Lib.hid (Script_any _ us 0 w hr hrl (by omega))
  have HL := Lib.hid (fun (wq : World) (hb : Below w.heap.size w wq) => RdK.below hl hb)
  have HLb := Lib.hid hlb
  obtain ⟨ba0, ba1⟩ := ba
  obtain ⟨bw0, bw1⟩ := bw
  obtain ⟨bb0, bb1⟩ := bb
  unfold maxLen at hll
  rw [intsV_len] at HScr ⊢
  generalize us.length = nu at HScr ⊢
  clear hl hr hrl hlb
  by_cases h12 : (12 : Int) < (l.length : Int)
  · have hd : decide ((12 : Int) < (l.length : Int)) = true := decide_eq_true h12
    generalize l.length = N0 at *
    go_enter Try.func3, Try.ntmps3
    go_wp2_with fail
    refine (HAw.out _).mono ?_
    rintro e w1 ⟨rfl, hb⟩
    go_wp2_with fail
    go_ret
    exact ⟨rfl, hb⟩
  · have hd : decide ((12 : Int) < (l.length : Int)) = false := decide_eq_false h12
    have HS1 := Lib.hid (fun wq hb => Size_any _ l wq (HL.out wq hb) (by omega))
    have HS2 := Lib.hid (fun wq hb => SizeR_any _ l wq (HL.out wq hb) (by omega))
    have HC1 := Lib.hid (fun wq hb => Check_any _ l m n wq (HL.out wq hb) (by omega) HLb.out)
    have HC2 := Lib.hid (fun wq hb => CheckR_any _ l m n wq (HL.out wq hb) (by omega))
    unfold SzPost at HS1 HS2
    unfold CkPost at HC1 HC2
    generalize szO l = y1 at HS1 HS2
    generalize szN l = y2 at HS1 HS2
    generalize chkF l m n = y3 at HC1 HC2
    clear HL HLb hll h12
    generalize l.length = N0 at *
    have d0 := Tx.modF_lo by_ 5 (by decide)
    have d1 := Tx.modF_hi by_ 5 (by decide)
    go_enter Try.func3, Try.ntmps3
    go_wp2_with fail
    refine HScr.out.mono ?_
    rintro e w1 ⟨vx, x, a, b, rfl, hG, ho, hb1⟩
    have HB1 := Lib.hid hb1
    have HG := Lib.hid hG
    have hxl := hG.len
    obtain ⟨ma0, ma1⟩ := hG.bm
    have HO := Lib.hid ho
    clear hb1 HScr hG
    by_cases hx0 : 0 < x.length
    · obtain ⟨g, cx, rfl, hgb⟩ := ho.block hx0
      have HGb := Lib.hid hgb
      have hd2 : decide (0 < x.length) = true := decide_eq_true hx0
      have k0 := Tx.modF_lo at_ (x.length : Int) (by omega)
      have k1 := Tx.modF_hi at_ (x.length : Int) (by omega)
      have q0 := Tx.modF_lo what 6 (by decide)
      have q1 := Tx.modF_hi what 6 (by decide)
      have HMk := Lib.hid (fun wq => Tx.Mod_any at_ (x.length : Int) wq (by omega) (by omega) ba0 ba1)
      have HMq := Lib.hid (fun wq => Tx.Mod_any what 6 wq (by decide) (by decide) bw0 bw1)
      have HMd := Lib.hid (fun wq => Tx.Mod_any by_ 5 wq (by decide) (by decide) bb0 bb1)
      generalize Tx.modF by_ 5 = dm at d0 d1 HMd
      obtain ⟨k, hk⟩ : ∃ k : Nat, Tx.modF at_ (x.length : Int) = k := ⟨(Tx.modF at_ (x.length : Int)).toNat, by omega⟩
      rw [hk] at k0 k1 HMk
      have hkl : k < x.length := by omega
      obtain ⟨⟨e0, e1, e2, e3⟩, ef⟩ := ho.cells k hkl
      obtain ⟨⟨r0, r1⟩, ⟨r2, r3⟩, ⟨r4, r5⟩, ⟨r6, r7⟩⟩ := HG.out.bd _ (List.getElem_mem hkl)
      have HCb := Lib.hid HG.out.chB
      have HPut := Lib.hid (fun (i : Nat) (hi : i < 4) (u : Value) (y : Ch) (hy : chC y = (chC x[k]).set i u) => ho.put k hkl i hi u y hy)
      have HO3 := Lib.hid ho
      clear hk ho HG HO
      generalize x[k] = c at *
      obtain ⟨o, ol, nw, nl⟩ := c
      simp only at e0 e1 e2 e3 r0 r1 r2 r3 r4 r5 r6 r7
      have k0 : 0 ≤ k := Nat.zero_le _
      generalize hq : Tx.modF what 6 = q at q0 q1 HMq
      clear hq
      generalize hN : x.length = N at *
      have HN := Lib.hid hN.symm
      clear hN
      have hq : q = 0 ∨ q = 1 ∨ q = 2 ∨ q = 3 ∨ q = 4 ∨ q = 5 := by omega
      clear q0 q1
      rcases hq with rfl | rfl | rfl | rfl | rfl | rfl
      · have hu : (0 : Int) ≤ o := by omega
        go_upto_region 18 with (first | (go_at_call 11; refine (HMd.out _).mono ?_; rintro e w9 ⟨rfl, rfl⟩; clear HMd) | (go_at_call 11; refine (HMk.out _).mono ?_; rintro e w9 ⟨rfl, rfl⟩; clear HMk) | (go_at_call 11; refine (HMq.out _).mono ?_; rintro e w9 ⟨rfl, rfl⟩; clear HMq))
        have HO2 := Lib.hid (HPut.out 0 (by decide) (.int .i64 (o + (dm - 2))) ⟨o + (dm - 2), ol, nw, nl⟩ rfl)
        have HB2 := Lib.hid (HB1.out.setCell (p := ⟨g, k * 4, none⟩) HGb.out (.int .i64 (o + (dm - 2))))
        have HX := Lib.hid HO2.out.rd
        have HCb2 := Lib.hid (mem_set_B (k := k) (y := ⟨o + (dm - 2), ol, nw, nl⟩) HCb.out ⟨⟨by show _ ≤ _; simp only; omega, by show _ ≤ _; simp only; omega⟩, ⟨by show _ ≤ _; simp only; omega, by show _ ≤ _; simp only; omega⟩, ⟨by show _ ≤ _; simp only; omega, by show _ ≤ _; simp only; omega⟩, ⟨by show _ ≤ _; simp only; omega, by show _ ≤ _; simp only; omega⟩⟩)
        have HLn : Hid ((x.set k ⟨o + (dm - 2), ol, nw, nl⟩).length ≤ 1000000) := Lib.hid (by rw [List.length_set, ← HN.out]; omega)
        have HLm : Hid ((x.set k ⟨o + (dm - 2), ol, nw, nl⟩).length ≤ 4611686018427387904) := Lib.hid (by rw [List.length_set, ← HN.out]; omega)
        clear HPut HO2 HO3 HCb e0 e1 e2 e3 ef HB1
        have HB1 := Lib.hid HB2.out
        clear HB2
        generalize x.set k ⟨o + (dm - 2), ol, nw, nl⟩ = x2 at *
        go_wp2_with fail
        refine (HS1.out _ HB1.out).mono ?_
        rintro e w2 ⟨rfl, hb⟩
        have HB2 := Lib.hid (HB1.out.trans (hb.mono HB1.out.size))
        have HX := Lib.hid (HX.out.below hb)
        clear hb HB1
        go_wp2_with fail
        refine (HS2.out _ HB2.out).mono ?_
        rintro e w3 ⟨rfl, hb⟩
        have HB3 := Lib.hid (HB2.out.trans (hb.mono HB2.out.size))
        have HX := Lib.hid (HX.out.below hb)
        clear hb HB2
        go_wp2_with fail
        refine (Size_any _ _ _ HX.out HLn.out).mono ?_
        rintro e w4 ⟨rfl, hb⟩
        have HB4 := Lib.hid (HB3.out.trans (hb.mono HB3.out.size))
        have HX := Lib.hid (HX.out.below hb)
        clear hb HB3
        go_wp2_with fail
        refine (SizeR_any _ _ _ HX.out HLn.out).mono ?_
        rintro e w5 ⟨rfl, hb⟩
        have HB5 := Lib.hid (HB4.out.trans (hb.mono HB4.out.size))
        have HX := Lib.hid (HX.out.below hb)
        clear hb HB4
        go_wp2_with fail
        refine (HC1.out _ HB5.out).mono ?_
        rintro e w6 ⟨rfl, hb⟩
        have HB6 := Lib.hid (HB5.out.trans (hb.mono HB5.out.size))
        have HX := Lib.hid (HX.out.below hb)
        clear hb HB5
        go_wp2_with fail
        refine (HC2.out _ HB6.out).mono ?_
        rintro e w7 ⟨rfl, hb⟩
        have HB7 := Lib.hid (HB6.out.trans (hb.mono HB6.out.size))
        have HX := Lib.hid (HX.out.below hb)
        clear hb HB6
        go_wp2_with fail
        refine (Check_any _ _ _ _ _ HX.out HLm.out HCb2.out).mono ?_
        rintro e w8 ⟨rfl, hb⟩
        have HB8 := Lib.hid (HB7.out.trans (hb.mono HB7.out.size))
        have HX := Lib.hid (HX.out.below hb)
        clear hb HB7
        go_wp2_with fail
        refine (CheckR_any _ _ _ _ _ HX.out HLm.out).mono ?_
        rintro e w9 ⟨rfl, hb⟩
        have HB9 := Lib.hid (HB8.out.trans (hb.mono HB8.out.size))
        have HX := Lib.hid (HX.out.below hb)
        clear hb HB8
        go_wp2_with fail
        refine (HAw.out _).mono ?_
        rintro e w10 ⟨rfl, hb⟩
        have HB10 := Lib.hid (HB9.out.trans (hb.mono HB9.out.size))
        have HX := Lib.hid (HX.out.below hb)
        clear hb HB9
        go_wp2_with fail
        go_ret
        exact ⟨rfl, HB10.out⟩
      · have hu : (0 : Int) ≤ ol := by omega
        go_upto_region 18 with (first | (go_at_call 11; refine (HMd.out _).mono ?_; rintro e w9 ⟨rfl, rfl⟩; clear HMd) | (go_at_call 11; refine (HMk.out _).mono ?_; rintro e w9 ⟨rfl, rfl⟩; clear HMk) | (go_at_call 11; refine (HMq.out _).mono ?_; rintro e w9 ⟨rfl, rfl⟩; clear HMq))
        have HO2 := Lib.hid (HPut.out 1 (by decide) (.int .i64 (ol + (dm - 2))) ⟨o, ol + (dm - 2), nw, nl⟩ rfl)
        have HB2 := Lib.hid (HB1.out.setCell (p := ⟨g, k * 4 + 1, none⟩) HGb.out (.int .i64 (ol + (dm - 2))))
        have HX := Lib.hid HO2.out.rd
        have HCb2 := Lib.hid (mem_set_B (k := k) (y := ⟨o, ol + (dm - 2), nw, nl⟩) HCb.out ⟨⟨by show _ ≤ _; simp only; omega, by show _ ≤ _; simp only; omega⟩, ⟨by show _ ≤ _; simp only; omega, by show _ ≤ _; simp only; omega⟩, ⟨by show _ ≤ _; simp only; omega, by show _ ≤ _; simp only; omega⟩, ⟨by show _ ≤ _; simp only; omega, by show _ ≤ _; simp only; omega⟩⟩)
        have HLn : Hid ((x.set k ⟨o, ol + (dm - 2), nw, nl⟩).length ≤ 1000000) := Lib.hid (by rw [List.length_set, ← HN.out]; omega)
        have HLm : Hid ((x.set k ⟨o, ol + (dm - 2), nw, nl⟩).length ≤ 4611686018427387904) := Lib.hid (by rw [List.length_set, ← HN.out]; omega)
        clear HPut HO2 HO3 HCb e0 e1 e2 e3 ef HB1
        have HB1 := Lib.hid HB2.out
        clear HB2
        generalize x.set k ⟨o, ol + (dm - 2), nw, nl⟩ = x2 at *
        go_wp2_with fail
        refine (HS1.out _ HB1.out).mono ?_
        rintro e w2 ⟨rfl, hb⟩
        have HB2 := Lib.hid (HB1.out.trans (hb.mono HB1.out.size))
        have HX := Lib.hid (HX.out.below hb)
        clear hb HB1
        go_wp2_with fail
        refine (HS2.out _ HB2.out).mono ?_
        rintro e w3 ⟨rfl, hb⟩
        have HB3 := Lib.hid (HB2.out.trans (hb.mono HB2.out.size))
        have HX := Lib.hid (HX.out.below hb)
        clear hb HB2
        go_wp2_with fail
        refine (Size_any _ _ _ HX.out HLn.out).mono ?_
        rintro e w4 ⟨rfl, hb⟩
        have HB4 := Lib.hid (HB3.out.trans (hb.mono HB3.out.size))
        have HX := Lib.hid (HX.out.below hb)
        clear hb HB3
        go_wp2_with fail
        refine (SizeR_any _ _ _ HX.out HLn.out).mono ?_
        rintro e w5 ⟨rfl, hb⟩
        have HB5 := Lib.hid (HB4.out.trans (hb.mono HB4.out.size))
        have HX := Lib.hid (HX.out.below hb)
        clear hb HB4
        go_wp2_with fail
        refine (HC1.out _ HB5.out).mono ?_
        rintro e w6 ⟨rfl, hb⟩
        have HB6 := Lib.hid (HB5.out.trans (hb.mono HB5.out.size))
        have HX := Lib.hid (HX.out.below hb)
        clear hb HB5
        go_wp2_with fail
        refine (HC2.out _ HB6.out).mono ?_
        rintro e w7 ⟨rfl, hb⟩
        have HB7 := Lib.hid (HB6.out.trans (hb.mono HB6.out.size))
        have HX := Lib.hid (HX.out.below hb)
        clear hb HB6
        go_wp2_with fail
        refine (Check_any _ _ _ _ _ HX.out HLm.out HCb2.out).mono ?_
        rintro e w8 ⟨rfl, hb⟩
        have HB8 := Lib.hid (HB7.out.trans (hb.mono HB7.out.size))
        have HX := Lib.hid (HX.out.below hb)
        clear hb HB7
        go_wp2_with fail
        refine (CheckR_any _ _ _ _ _ HX.out HLm.out).mono ?_
        rintro e w9 ⟨rfl, hb⟩
        have HB9 := Lib.hid (HB8.out.trans (hb.mono HB8.out.size))
        have HX := Lib.hid (HX.out.below hb)
        clear hb HB8
        go_wp2_with fail
        refine (HAw.out _).mono ?_
        rintro e w10 ⟨rfl, hb⟩
        have HB10 := Lib.hid (HB9.out.trans (hb.mono HB9.out.size))
        have HX := Lib.hid (HX.out.below hb)
        clear hb HB9
        go_wp2_with fail
        go_ret
        exact ⟨rfl, HB10.out⟩
      · have hu : (0 : Int) ≤ nw := by omega
        go_upto_region 18 with (first | (go_at_call 11; refine (HMd.out _).mono ?_; rintro e w9 ⟨rfl, rfl⟩; clear HMd) | (go_at_call 11; refine (HMk.out _).mono ?_; rintro e w9 ⟨rfl, rfl⟩; clear HMk) | (go_at_call 11; refine (HMq.out _).mono ?_; rintro e w9 ⟨rfl, rfl⟩; clear HMq))
        have HO2 := Lib.hid (HPut.out 2 (by decide) (.int .i64 (nw + (dm - 2))) ⟨o, ol, nw + (dm - 2), nl⟩ rfl)
        have HB2 := Lib.hid (HB1.out.setCell (p := ⟨g, k * 4 + 2, none⟩) HGb.out (.int .i64 (nw + (dm - 2))))
        have HX := Lib.hid HO2.out.rd
        have HCb2 := Lib.hid (mem_set_B (k := k) (y := ⟨o, ol, nw + (dm - 2), nl⟩) HCb.out ⟨⟨by show _ ≤ _; simp only; omega, by show _ ≤ _; simp only; omega⟩, ⟨by show _ ≤ _; simp only; omega, by show _ ≤ _; simp only; omega⟩, ⟨by show _ ≤ _; simp only; omega, by show _ ≤ _; simp only; omega⟩, ⟨by show _ ≤ _; simp only; omega, by show _ ≤ _; simp only; omega⟩⟩)
        have HLn : Hid ((x.set k ⟨o, ol, nw + (dm - 2), nl⟩).length ≤ 1000000) := Lib.hid (by rw [List.length_set, ← HN.out]; omega)
        have HLm : Hid ((x.set k ⟨o, ol, nw + (dm - 2), nl⟩).length ≤ 4611686018427387904) := Lib.hid (by rw [List.length_set, ← HN.out]; omega)
        clear HPut HO2 HO3 HCb e0 e1 e2 e3 ef HB1
        have HB1 := Lib.hid HB2.out
        clear HB2
        generalize x.set k ⟨o, ol, nw + (dm - 2), nl⟩ = x2 at *
        go_wp2_with fail
        refine (HS1.out _ HB1.out).mono ?_
        rintro e w2 ⟨rfl, hb⟩
        have HB2 := Lib.hid (HB1.out.trans (hb.mono HB1.out.size))
        have HX := Lib.hid (HX.out.below hb)
        clear hb HB1
        go_wp2_with fail
        refine (HS2.out _ HB2.out).mono ?_
        rintro e w3 ⟨rfl, hb⟩
        have HB3 := Lib.hid (HB2.out.trans (hb.mono HB2.out.size))
        have HX := Lib.hid (HX.out.below hb)
        clear hb HB2
        go_wp2_with fail
        refine (Size_any _ _ _ HX.out HLn.out).mono ?_
        rintro e w4 ⟨rfl, hb⟩
        have HB4 := Lib.hid (HB3.out.trans (hb.mono HB3.out.size))
        have HX := Lib.hid (HX.out.below hb)
        clear hb HB3
        go_wp2_with fail
        refine (SizeR_any _ _ _ HX.out HLn.out).mono ?_
        rintro e w5 ⟨rfl, hb⟩
        have HB5 := Lib.hid (HB4.out.trans (hb.mono HB4.out.size))
        have HX := Lib.hid (HX.out.below hb)
        clear hb HB4
        go_wp2_with fail
        refine (HC1.out _ HB5.out).mono ?_
        rintro e w6 ⟨rfl, hb⟩
        have HB6 := Lib.hid (HB5.out.trans (hb.mono HB5.out.size))
        have HX := Lib.hid (HX.out.below hb)
        clear hb HB5
        go_wp2_with fail
        refine (HC2.out _ HB6.out).mono ?_
        rintro e w7 ⟨rfl, hb⟩
        have HB7 := Lib.hid (HB6.out.trans (hb.mono HB6.out.size))
        have HX := Lib.hid (HX.out.below hb)
        clear hb HB6
        go_wp2_with fail
        refine (Check_any _ _ _ _ _ HX.out HLm.out HCb2.out).mono ?_
        rintro e w8 ⟨rfl, hb⟩
        have HB8 := Lib.hid (HB7.out.trans (hb.mono HB7.out.size))
        have HX := Lib.hid (HX.out.below hb)
        clear hb HB7
        go_wp2_with fail
        refine (CheckR_any _ _ _ _ _ HX.out HLm.out).mono ?_
        rintro e w9 ⟨rfl, hb⟩
        have HB9 := Lib.hid (HB8.out.trans (hb.mono HB8.out.size))
        have HX := Lib.hid (HX.out.below hb)
        clear hb HB8
        go_wp2_with fail
        refine (HAw.out _).mono ?_
        rintro e w10 ⟨rfl, hb⟩
        have HB10 := Lib.hid (HB9.out.trans (hb.mono HB9.out.size))
        have HX := Lib.hid (HX.out.below hb)
        clear hb HB9
        go_wp2_with fail
        go_ret
        exact ⟨rfl, HB10.out⟩
      · have hu : (0 : Int) ≤ nl := by omega
        go_upto_region 18 with (first | (go_at_call 11; refine (HMd.out _).mono ?_; rintro e w9 ⟨rfl, rfl⟩; clear HMd) | (go_at_call 11; refine (HMk.out _).mono ?_; rintro e w9 ⟨rfl, rfl⟩; clear HMk) | (go_at_call 11; refine (HMq.out _).mono ?_; rintro e w9 ⟨rfl, rfl⟩; clear HMq))
        have HO2 := Lib.hid (HPut.out 3 (by decide) (.int .i64 (nl + (dm - 2))) ⟨o, ol, nw, nl + (dm - 2)⟩ rfl)
        have HB2 := Lib.hid (HB1.out.setCell (p := ⟨g, k * 4 + 3, none⟩) HGb.out (.int .i64 (nl + (dm - 2))))
        have HX := Lib.hid HO2.out.rd
        have HCb2 := Lib.hid (mem_set_B (k := k) (y := ⟨o, ol, nw, nl + (dm - 2)⟩) HCb.out ⟨⟨by show _ ≤ _; simp only; omega, by show _ ≤ _; simp only; omega⟩, ⟨by show _ ≤ _; simp only; omega, by show _ ≤ _; simp only; omega⟩, ⟨by show _ ≤ _; simp only; omega, by show _ ≤ _; simp only; omega⟩, ⟨by show _ ≤ _; simp only; omega, by show _ ≤ _; simp only; omega⟩⟩)
        have HLn : Hid ((x.set k ⟨o, ol, nw, nl + (dm - 2)⟩).length ≤ 1000000) := Lib.hid (by rw [List.length_set, ← HN.out]; omega)
        have HLm : Hid ((x.set k ⟨o, ol, nw, nl + (dm - 2)⟩).length ≤ 4611686018427387904) := Lib.hid (by rw [List.length_set, ← HN.out]; omega)
        clear HPut HO2 HO3 HCb e0 e1 e2 e3 ef HB1
        have HB1 := Lib.hid HB2.out
        clear HB2
        generalize x.set k ⟨o, ol, nw, nl + (dm - 2)⟩ = x2 at *
        go_wp2_with fail
        refine (HS1.out _ HB1.out).mono ?_
        rintro e w2 ⟨rfl, hb⟩
        have HB2 := Lib.hid (HB1.out.trans (hb.mono HB1.out.size))
        have HX := Lib.hid (HX.out.below hb)
        clear hb HB1
        go_wp2_with fail
        refine (HS2.out _ HB2.out).mono ?_
        rintro e w3 ⟨rfl, hb⟩
        have HB3 := Lib.hid (HB2.out.trans (hb.mono HB2.out.size))
        have HX := Lib.hid (HX.out.below hb)
        clear hb HB2
        go_wp2_with fail
        refine (Size_any _ _ _ HX.out HLn.out).mono ?_
        rintro e w4 ⟨rfl, hb⟩
        have HB4 := Lib.hid (HB3.out.trans (hb.mono HB3.out.size))
        have HX := Lib.hid (HX.out.below hb)
        clear hb HB3
        go_wp2_with fail
        refine (SizeR_any _ _ _ HX.out HLn.out).mono ?_
        rintro e w5 ⟨rfl, hb⟩
        have HB5 := Lib.hid (HB4.out.trans (hb.mono HB4.out.size))
        have HX := Lib.hid (HX.out.below hb)
        clear hb HB4
        go_wp2_with fail
        refine (HC1.out _ HB5.out).mono ?_
        rintro e w6 ⟨rfl, hb⟩
        have HB6 := Lib.hid (HB5.out.trans (hb.mono HB5.out.size))
        have HX := Lib.hid (HX.out.below hb)
        clear hb HB5
        go_wp2_with fail
        refine (HC2.out _ HB6.out).mono ?_
        rintro e w7 ⟨rfl, hb⟩
        have HB7 := Lib.hid (HB6.out.trans (hb.mono HB6.out.size))
        have HX := Lib.hid (HX.out.below hb)
        clear hb HB6
        go_wp2_with fail
        refine (Check_any _ _ _ _ _ HX.out HLm.out HCb2.out).mono ?_
        rintro e w8 ⟨rfl, hb⟩
        have HB8 := Lib.hid (HB7.out.trans (hb.mono HB7.out.size))
        have HX := Lib.hid (HX.out.below hb)
        clear hb HB7
        go_wp2_with fail
        refine (CheckR_any _ _ _ _ _ HX.out HLm.out).mono ?_
        rintro e w9 ⟨rfl, hb⟩
        have HB9 := Lib.hid (HB8.out.trans (hb.mono HB8.out.size))
        have HX := Lib.hid (HX.out.below hb)
        clear hb HB8
        go_wp2_with fail
        refine (HAw.out _).mono ?_
        rintro e w10 ⟨rfl, hb⟩
        have HB10 := Lib.hid (HB9.out.trans (hb.mono HB9.out.size))
        have HX := Lib.hid (HX.out.below hb)
        clear hb HB9
        go_wp2_with fail
        go_ret
        exact ⟨rfl, HB10.out⟩
      · go_upto_region 18 with (first | (go_at_call 11; refine (HMd.out _).mono ?_; rintro e w9 ⟨rfl, rfl⟩; clear HMd) | (go_at_call 11; refine (HMk.out _).mono ?_; rintro e w9 ⟨rfl, rfl⟩; clear HMk) | (go_at_call 11; refine (HMq.out _).mono ?_; rintro e w9 ⟨rfl, rfl⟩; clear HMq))
        have HX := Lib.hid HO3.out.rd
        have HLn : Hid (x.length ≤ 1000000) := Lib.hid (by rw [← HN.out]; omega)
        have HLm : Hid (x.length ≤ 4611686018427387904) := Lib.hid (by rw [← HN.out]; omega)
        clear HPut HO3 e0 e1 e2 e3 ef
        go_wp2_with fail
        refine (HS1.out _ HB1.out).mono ?_
        rintro e w2 ⟨rfl, hb⟩
        have HB2 := Lib.hid (HB1.out.trans (hb.mono HB1.out.size))
        have HX := Lib.hid (HX.out.below hb)
        clear hb HB1
        go_wp2_with fail
        refine (HS2.out _ HB2.out).mono ?_
        rintro e w3 ⟨rfl, hb⟩
        have HB3 := Lib.hid (HB2.out.trans (hb.mono HB2.out.size))
        have HX := Lib.hid (HX.out.below hb)
        clear hb HB2
        go_wp2_with fail
        refine (Size_any _ _ _ HX.out HLn.out).mono ?_
        rintro e w4 ⟨rfl, hb⟩
        have HB4 := Lib.hid (HB3.out.trans (hb.mono HB3.out.size))
        have HX := Lib.hid (HX.out.below hb)
        clear hb HB3
        go_wp2_with fail
        refine (SizeR_any _ _ _ HX.out HLn.out).mono ?_
        rintro e w5 ⟨rfl, hb⟩
        have HB5 := Lib.hid (HB4.out.trans (hb.mono HB4.out.size))
        have HX := Lib.hid (HX.out.below hb)
        clear hb HB4
        go_wp2_with fail
        refine (HC1.out _ HB5.out).mono ?_
        rintro e w6 ⟨rfl, hb⟩
        have HB6 := Lib.hid (HB5.out.trans (hb.mono HB5.out.size))
        have HX := Lib.hid (HX.out.below hb)
        clear hb HB5
        go_wp2_with fail
        refine (HC2.out _ HB6.out).mono ?_
        rintro e w7 ⟨rfl, hb⟩
        have HB7 := Lib.hid (HB6.out.trans (hb.mono HB6.out.size))
        have HX := Lib.hid (HX.out.below hb)
        clear hb HB6
        go_wp2_with fail
        refine (Check_any _ _ _ _ _ HX.out HLm.out HCb.out).mono ?_
        rintro e w8 ⟨rfl, hb⟩
        have HB8 := Lib.hid (HB7.out.trans (hb.mono HB7.out.size))
        have HX := Lib.hid (HX.out.below hb)
        clear hb HB7
        go_wp2_with fail
        refine (CheckR_any _ _ _ _ _ HX.out HLm.out).mono ?_
        rintro e w9 ⟨rfl, hb⟩
        have HB9 := Lib.hid (HB8.out.trans (hb.mono HB8.out.size))
        have HX := Lib.hid (HX.out.below hb)
        clear hb HB8
        go_wp2_with fail
        refine (HAw.out _).mono ?_
        rintro e w10 ⟨rfl, hb⟩
        have HB10 := Lib.hid (HB9.out.trans (hb.mono HB9.out.size))
        have HX := Lib.hid (HX.out.below hb)
        clear hb HB9
        go_wp2_with fail
        go_ret
        exact ⟨rfl, HB10.out⟩
      · go_upto_region 18 with (first | (go_at_call 11; refine (HMd.out _).mono ?_; rintro e w9 ⟨rfl, rfl⟩; clear HMd) | (go_at_call 11; refine (HMk.out _).mono ?_; rintro e w9 ⟨rfl, rfl⟩; clear HMk) | (go_at_call 11; refine (HMq.out _).mono ?_; rintro e w9 ⟨rfl, rfl⟩; clear HMq))
        have HX := Lib.hid HO3.out.rd
        have HLn : Hid (x.length ≤ 1000000) := Lib.hid (by rw [← HN.out]; omega)
        have HLm : Hid (x.length ≤ 4611686018427387904) := Lib.hid (by rw [← HN.out]; omega)
        clear HPut HO3 e0 e1 e2 e3 ef
        go_wp2_with fail
        refine (HS1.out _ HB1.out).mono ?_
        rintro e w2 ⟨rfl, hb⟩
        have HB2 := Lib.hid (HB1.out.trans (hb.mono HB1.out.size))
        have HX := Lib.hid (HX.out.below hb)
        clear hb HB1
        go_wp2_with fail
        refine (HS2.out _ HB2.out).mono ?_
        rintro e w3 ⟨rfl, hb⟩
        have HB3 := Lib.hid (HB2.out.trans (hb.mono HB2.out.size))
        have HX := Lib.hid (HX.out.below hb)
        clear hb HB2
        go_wp2_with fail
        refine (Size_any _ _ _ HX.out HLn.out).mono ?_
        rintro e w4 ⟨rfl, hb⟩
        have HB4 := Lib.hid (HB3.out.trans (hb.mono HB3.out.size))
        have HX := Lib.hid (HX.out.below hb)
        clear hb HB3
        go_wp2_with fail
        refine (SizeR_any _ _ _ HX.out HLn.out).mono ?_
        rintro e w5 ⟨rfl, hb⟩
        have HB5 := Lib.hid (HB4.out.trans (hb.mono HB4.out.size))
        have HX := Lib.hid (HX.out.below hb)
        clear hb HB4
        go_wp2_with fail
        refine (HC1.out _ HB5.out).mono ?_
        rintro e w6 ⟨rfl, hb⟩
        have HB6 := Lib.hid (HB5.out.trans (hb.mono HB5.out.size))
        have HX := Lib.hid (HX.out.below hb)
        clear hb HB5
        go_wp2_with fail
        refine (HC2.out _ HB6.out).mono ?_
        rintro e w7 ⟨rfl, hb⟩
        have HB7 := Lib.hid (HB6.out.trans (hb.mono HB6.out.size))
        have HX := Lib.hid (HX.out.below hb)
        clear hb HB6
        go_wp2_with fail
        refine (Check_any _ _ _ _ _ HX.out HLm.out HCb.out).mono ?_
        rintro e w8 ⟨rfl, hb⟩
        have HB8 := Lib.hid (HB7.out.trans (hb.mono HB7.out.size))
        have HX := Lib.hid (HX.out.below hb)
        clear hb HB7
        go_wp2_with fail
        refine (CheckR_any _ _ _ _ _ HX.out HLm.out).mono ?_
        rintro e w9 ⟨rfl, hb⟩
        have HB9 := Lib.hid (HB8.out.trans (hb.mono HB8.out.size))
        have HX := Lib.hid (HX.out.below hb)
        clear hb HB8
        go_wp2_with fail
        refine (HAw.out _).mono ?_
        rintro e w10 ⟨rfl, hb⟩
        have HB10 := Lib.hid (HB9.out.trans (hb.mono HB9.out.size))
        have HX := Lib.hid (HX.out.below hb)
        clear hb HB9
        go_wp2_with fail
        go_ret
        exact ⟨rfl, HB10.out⟩
    · have hx1 : x = [] := List.eq_nil_of_length_eq_zero (by omega)
      have hd2 : decide (0 < 0) = false := by decide
      obtain ⟨Ax, cx, rfl⟩ := ho.rd.form
      subst hx1
      clear ho HG
      have HX := Lib.hid HO.out.rd
      go_upto_region 18 with (go_at_call 11; refine (Tx.Mod_any _ _ _ (by omega) (by omega) (by omega) (by omega)).mono ?_; rintro e w9 ⟨rfl, rfl⟩)
      clear HO
      have HLn : Hid (([] : List Ch).length ≤ 1000000) := Lib.hid (by decide)
      have HLm : Hid (([] : List Ch).length ≤ 4611686018427387904) := Lib.hid (by decide)
      have HCb : Hid (∀ c ∈ ([] : List Ch), ChB c) := Lib.hid (fun c hc => by cases hc)
      go_wp2_with fail
      refine (HS1.out _ HB1.out).mono ?_
      rintro e w2 ⟨rfl, hb⟩
      have HB2 := Lib.hid (HB1.out.trans (hb.mono HB1.out.size))
      have HX := Lib.hid (HX.out.below hb)
      clear hb HB1
      go_wp2_with fail
      refine (HS2.out _ HB2.out).mono ?_
      rintro e w3 ⟨rfl, hb⟩
      have HB3 := Lib.hid (HB2.out.trans (hb.mono HB2.out.size))
      have HX := Lib.hid (HX.out.below hb)
      clear hb HB2
      go_wp2_with fail
      refine (Size_any _ _ _ HX.out HLn.out).mono ?_
      rintro e w4 ⟨rfl, hb⟩
      have HB4 := Lib.hid (HB3.out.trans (hb.mono HB3.out.size))
      have HX := Lib.hid (HX.out.below hb)
      clear hb HB3
      go_wp2_with fail
      refine (SizeR_any _ _ _ HX.out HLn.out).mono ?_
      rintro e w5 ⟨rfl, hb⟩
      have HB5 := Lib.hid (HB4.out.trans (hb.mono HB4.out.size))
      have HX := Lib.hid (HX.out.below hb)
      clear hb HB4
      go_wp2_with fail
      refine (HC1.out _ HB5.out).mono ?_
      rintro e w6 ⟨rfl, hb⟩
      have HB6 := Lib.hid (HB5.out.trans (hb.mono HB5.out.size))
      have HX := Lib.hid (HX.out.below hb)
      clear hb HB5
      go_wp2_with fail
      refine (HC2.out _ HB6.out).mono ?_
      rintro e w7 ⟨rfl, hb⟩
      have HB7 := Lib.hid (HB6.out.trans (hb.mono HB6.out.size))
      have HX := Lib.hid (HX.out.below hb)
      clear hb HB6
      go_wp2_with fail
      refine (Check_any _ _ _ _ _ HX.out HLm.out HCb.out).mono ?_
      rintro e w8 ⟨rfl, hb⟩
      have HB8 := Lib.hid (HB7.out.trans (hb.mono HB7.out.size))
      have HX := Lib.hid (HX.out.below hb)
      clear hb HB7
      go_wp2_with fail
      refine (CheckR_any _ _ _ _ _ HX.out HLm.out).mono ?_
      rintro e w9 ⟨rfl, hb⟩
      have HB9 := Lib.hid (HB8.out.trans (hb.mono HB8.out.size))
      have HX := Lib.hid (HX.out.below hb)
      clear hb HB8
      go_wp2_with fail
      refine (HAw.out _).mono ?_
      rintro e w10 ⟨rfl, hb⟩
      have HB10 := Lib.hid (HB9.out.trans (hb.mono HB9.out.size))
      have HX := Lib.hid (HX.out.below hb)
      clear hb HB9
      go_wp2_with fail
      go_ret
      exact ⟨rfl, HB10.out⟩
set_option maxRecDepth 100000 in
theorem lifted (os : Os) (started : os.Started) (H : Type) (enc : TypeId × Value → H) :
    ReturnsInHanded {} Try.checked os 3 .any (Rows.scriptChecksSpec.pre6 enc Try.prog Try.f3 Rows.scriptChecksRow.domain false) (Rows.scriptChecksSpec.post enc Try.prog Try.f3 false true false false) := by
  refine returnsInHanded_of_change (C := Try.checked) own started (by kernel_rfl) Try.func3
    (ChangeSpec.witness6 (enc := enc) (C := Try.checked) false ⟨#[], #[.slice none 0 0, .int .i64 0, .int .i64 0, .slice none 0 0, .int .i64 0, .int .i64 0, .int .i64 0], []⟩ 8 (by kernel_rfl) (by kernel_rfl) (by kernel_rfl) (by kernel_rfl)) ?_
  intro W base args ds gs before hval0 hW _ _
  have hval : ∀ (j : Nat) t v, Try.f3.params[j]? = some t → args[j]? = some v → Value.okWide Try.prog W .any base t v := hval0
  have hW' := hW
  obtain ⟨p, q, hA0, hV, rfl, hfz, hnd⟩ := hW
  have hA : DataW.TrodAll enc Try.prog W 0 (fun _ => true) true Try.f3.params.toList args.toList ds p := hA0
  rw [Try.params3] at hA hval
  obtain ⟨v0, v1, v2, v3, v4, v5, v6, d0, d1, d2, d3, d4, d5, d6, p0, p1, p2, p3, p4, p5, p6, rfl, rfl, rfl, h0, h1, h2, h3, h4, h5, h6⟩ := trodAll_seven hA
  obtain ⟨rfl, rfl⟩ := trodVars_none hV
  obtain ⟨A0, n0, c0, rfl⟩ := okWide_slice Try.underlying22 (hval 0 22 v0 rfl rfl)
  have k0 := h0
  have lt0 : ∀ x ∈ p0, x.block < W.heap.size := by obtain ⟨m, hm⟩ := k0; exact DataW.trod_lt m _ _ _ hm
  obtain ⟨l, r0, s0, t0⟩ : ∃ l : List Ch, RdC W (.slice A0 n0 c0) l ∧ l.length ≤ maxLen ∧ ∀ z ∈ l, ChB z := by obtain ⟨fuel, hf⟩ := h0; exact open_changesV hf
  obtain ⟨m, rfl, rfl, rfl, wm⟩ := open_int Try.underlying3 (hval 1 3 v1 rfl rfl) h1
  have bm := bounds_int wm
  obtain ⟨n, rfl, rfl, rfl, wn⟩ := open_int Try.underlying3 (hval 2 3 v2 rfl rfl) h2
  have bn := bounds_int wn
  obtain ⟨A3, n3, c3, rfl⟩ := okWide_slice Try.underlying23 (hval 3 23 v3 rfl rfl)
  have k3 := h3
  have lt3 : ∀ x ∈ p3, x.block < W.heap.size := by obtain ⟨m, hm⟩ := k3; exact DataW.trod_lt m _ _ _ hm
  obtain ⟨us, r3, s3, t3⟩ : ∃ l : List Int, RdV W (.slice A3 n3 c3) (intsV l) ∧ l.length ≤ maxLen ∧ ∀ z ∈ l, -9223372036854775808 ≤ z ∧ z ≤ 9223372036854775807 := by obtain ⟨fuel, hf⟩ := h3; exact open_intsV hf
  obtain ⟨at_, rfl, rfl, rfl, wat_⟩ := open_int Try.underlying3 (hval 4 3 v4 rfl rfl) h4
  have bat_ := bounds_int wat_
  obtain ⟨what, rfl, rfl, rfl, wwhat⟩ := open_int Try.underlying3 (hval 5 3 v5 rfl rfl) h5
  have bwhat := bounds_int wwhat
  obtain ⟨by_, rfl, rfl, rfl, wby_⟩ := open_int Try.underlying3 (hval 6 3 v6 rfl rfl) h6
  have bby_ := bounds_int wby_
  clear hA0 hval0
  simp only [List.append_nil] at hW'
  refine (walk _ l m n _ us at_ what by_ W r0 s0 t0 r3 s3 bat_ bwhat bby_).mono fun e W' ⟨he, hbel⟩ => ?_
  subst he
  exact ⟨_, rfl, _, _, _, [], _, [], hW', trodAll_mk1 (shut_bool Try.underlying4 _), trodAll_mk7 (Below.trod laidOut (by kernel_rfl) (of_decide_eq_true (by kernel_rfl)) k0 hbel lt0) (shut_int Try.underlying3 wm) (shut_int Try.underlying3 wn) (Below.trod laidOut (by kernel_rfl) (of_decide_eq_true (by kernel_rfl)) k3 hbel lt3) (shut_int Try.underlying3 wat_) (shut_int Try.underlying3 wwhat) (shut_int Try.underlying3 wby_), rfl, hbel.frame _, fun h => by cases h⟩
theorem row_holds : Rows.ScriptChecksSaid :=
  OpenClaim.holds_of_wide 3 Try.f3 rfl rfl rfl rfl rfl rfl rfl ⟨rfl, rfl, rfl, rfl, rfl⟩ rfl rfl rfl rfl rfl (by kernel_rfl) Try.func3 (by kernel_rfl)
    (of_decide_eq_true (by kernel_rfl)) (by unfold Func.isWrapper; first | (rw [if_pos (by decide +kernel)]; kernel_rfl) | (rw [if_neg (by decide +kernel)]; exact ⟨rfl, rfl⟩))
    (fun os started H enc _ => lifted os started H enc)
end Sc.ScriptChecks
end Go.Proofs.Ytfbpdidnlbffhaa

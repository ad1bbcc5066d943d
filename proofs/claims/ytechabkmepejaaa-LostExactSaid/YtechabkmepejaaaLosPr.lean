/-
  The walk of the law LostProjects. Conditions: merged lines and a number that a machine holds.
-/
import Derived.Test.YtechabkmepejaaaLosAw
import Derived.Test.YtechabkmepejaaaTextPick
namespace Go.Proofs.Ytechabkmepejaaa
open Go.RowKit
namespace Lo
open Cm Sc
/-- Two slices that read as one list are the same. -/
theorem Ints_two (a b : Value) (xs : List Int) (w W : World) (hl : xs.length ≤ 1000000) (ha : RdV W a (intsV xs)) (hb : RdV W b (intsV xs)) (hB : Below w.heap.size w W) :
    Calls Try.prog 13 #[a, b] W fun e w' => e = .returned (.bool true) ∧ Below w.heap.size w w' :=
  (Ints_same a b xs W (by omega) ha hb).mono (by
    rintro e w' ⟨rfl, m, rfl⟩
    exact ⟨rfl, below_drewN hB m⟩)
theorem prF_len (l : List Mg) (p : Int) : (prF l p).length ≤ l.length := by
  unfold prF
  split
  · unfold lnM
    rw [List.length_map]
    exact List.length_filter_le _ _
  · exact Nat.zero_le _
set_option maxRecDepth 100000 in
set_option maxHeartbeats 4000000 in
theorem projects_walk (v : Value) (l : List Mg) (q : Int) (w : World) (h : RdM w v l) (hl : l.length ≤ maxLen) (hb : ∀ m ∈ l, MgB m) (hq : zB q) :
    Calls Try.prog 4 #[v, .int .i64 q] w (AwPost w) := by
  have HAw := Lib.hid (fun w => awake_any w)
  have HR := Lib.hid (fun W (hB : Below w.heap.size w W) => h.below hB)
  obtain ⟨A, c, rfl⟩ := h.form
  have hbp : ∀ m ∈ l, m.par < 4294967296 := fun m hm => (hb m hm).2
  by_cases hbig : 20 < l.length
  · clear HR h hb hbp
    unfold maxLen at hl
    generalize l.length = N at *
    have d1 : decide ((20 : Int) < (N : Int)) = true := decide_eq_true (by omega)
    go_enter Try.func4, Try.ntmps4
    go_wp2_with fail
    refine (HAw.out _).mono ?_
    rintro e w1 ⟨rfl, hb1⟩
    go_wp2_with fail
    go_ret
    exact ⟨rfl, hb1⟩
  · have HPr := Lib.hid (fun p W (hB : Below w.heap.size w W) => Project_any (.slice A l.length c) l p W (HR.out W hB) (by omega) hbp)
    have HRf := Lib.hid (fun p W (hB : Below w.heap.size w W) => ProjectR_any (.slice A l.length c) l p W (HR.out W hB) (by omega) hbp)
    have HIn := Lib.hid (fun a b p W (ha : RdV W a (intsV (prF l p))) (hb : RdV W b (intsV (prF l p))) hB => Ints_two a b (prF l p) w W (by have := prF_len l p; omega) ha hb hB)
    have HMd := Lib.hid (fun W => Tx.Mod_any q 34 W (by omega) (by omega) hq.1 hq.2)
    generalize Tx.modF q 34 = q2 at *
    have d1 : decide ((20 : Int) < (l.length : Int)) = false := decide_eq_false (by omega)
    clear HR h hb hbp hl hbig
    generalize l.length = N at *
    have HB0 := Lib.hid (Below.refl w.heap.size w)
    go_enter Try.func4, Try.ntmps4
    go_wp2_with fail
    refine (HPr.out q _ HB0.out).mono ?_
    rintro e w1 ⟨v1, rfl, ho, hb⟩
    have HR1 := Lib.hid (RdV.of_own ho)
    obtain ⟨A1, c1, rfl⟩ := HR1.out.form
    have HB1 := Lib.hid (HB0.out.trans (hb.mono HB0.out.size))
    clear ho hb HB0
    go_wp2_with fail
    refine (HRf.out q _ HB1.out).mono ?_
    rintro e w2 ⟨v2, rfl, ho, hb⟩
    have HR2 := Lib.hid (RdV.of_own ho)
    obtain ⟨A2, c2, rfl⟩ := HR2.out.form
    have HB2 := Lib.hid (HB1.out.trans (hb.mono HB1.out.size))
    have HR1 := Lib.hid (HR1.out.below hb)
    clear ho hb HB1
    go_wp2_with fail
    refine (HIn.out _ _ q _ HR1.out HR2.out HB2.out).mono ?_
    rintro e w3 ⟨rfl, hb⟩
    have HB3 := Lib.hid hb
    clear hb HB2 HR1 HR2
    go_wp2_with fail
    refine (HMd.out _).mono ?_
    rintro e w7 ⟨rfl, rfl⟩
    go_wp2_with fail
    refine (HPr.out q2 _ HB3.out).mono ?_
    rintro e w4 ⟨v4, rfl, ho, hb⟩
    have HR4 := Lib.hid (RdV.of_own ho)
    obtain ⟨A4, c4, rfl⟩ := HR4.out.form
    have HB4 := Lib.hid (HB3.out.trans (hb.mono HB3.out.size))
    clear ho hb HB3
    go_wp2_with fail
    refine (HMd.out _).mono ?_
    rintro e w7 ⟨rfl, rfl⟩
    go_wp2_with fail
    refine (HRf.out q2 _ HB4.out).mono ?_
    rintro e w5 ⟨v5, rfl, ho, hb⟩
    have HR5 := Lib.hid (RdV.of_own ho)
    obtain ⟨A5, c5, rfl⟩ := HR5.out.form
    have HB5 := Lib.hid (HB4.out.trans (hb.mono HB4.out.size))
    have HR4 := Lib.hid (HR4.out.below hb)
    clear ho hb HB4
    go_wp2_with fail
    refine (HIn.out _ _ q2 _ HR4.out HR5.out HB5.out).mono ?_
    rintro e w6 ⟨rfl, hb⟩
    have HBZ := Lib.hid hb
    clear hb HB5 HR4 HR5
    go_wp2_with fail
    refine (HAw.out _).mono ?_
    rintro e w9 ⟨rfl, hb9⟩
    have HB9 := Lib.hid (HBZ.out.trans (hb9.mono HBZ.out.size))
    clear hb9
    go_wp2_with fail
    go_ret
    exact ⟨rfl, HB9.out⟩
end Lo
end Go.Proofs.Ytechabkmepejaaa

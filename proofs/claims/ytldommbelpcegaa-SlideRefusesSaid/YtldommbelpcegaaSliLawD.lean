/-
  Walks of layer 10's laws: SlideRefuses. Conditions: what a row asks of its arguments.
-/
import Derived.Test.YtldommbelpcegaaSliBack
namespace Go.Proofs.Ytldommbelpcegaa
open Go.RowKit
namespace Sl
open Cm Sc Au Sh
set_option maxRecDepth 100000 in
set_option maxHeartbeats 8000000 in
theorem refuses_walk (vl : Value) (l : List Ch) (va vb : Value) (a b : List Int) (k : Int) (w : World) (hl : RdC w vl l) (hll : l.length ≤ maxLen) (hlb : ∀ c ∈ l, ChB c) (ha : RdV w va (intsV a)) (hal : a.length ≤ maxLen) (hb : RdV w vb (intsV b)) (hbl : b.length ≤ maxLen) :
    Calls Try.prog 5 #[vl, va, vb, .int .i64 k] w (AwPost w) := by
  have HAw := Lib.hid (fun w => awake_any w)
  have HFr := Lib.hid (fun wq (hq : Below w.heap.size w wq) (h10 : l.length ≤ 10) => FitsR_any vl l va vb a b wq (hl.below hq) (by omega) (ha.below hq) (hb.below hq))
  have HFp := Lib.hid (fun wq (hq : Below w.heap.size w wq) (h10 : l.length ≤ 10) (h12 : a.length ≤ 12) (h13 : b.length ≤ 12) => Fits_any vl l va vb a b wq (hl.below hq) (by omega) hlb (ha.below hq) (hb.below hq) (by omega) (by omega))
  obtain ⟨Al, cl, rfl⟩ := hl.form
  obtain ⟨Aa, ca, ea⟩ := ha.form
  rw [intsV_len] at ea
  subst ea
  obtain ⟨Ab, cb, eb⟩ := hb.form
  rw [intsV_len] at eb
  subst eb
  unfold maxLen at hll hal hbl
  unfold FtPost at HFr HFp
  clear hl ha hb hlb
  generalize fitsB l a b = F at *
  generalize l.length = N at *
  generalize a.length = m at *
  generalize b.length = n at *
  by_cases h10 : (10 : Int) < (N : Int)
  · have hd : decide ((10 : Int) < (N : Int)) = true := decide_eq_true h10
    go_enter Try.func5, Try.ntmps5
    go_wp2_with fail
    refine (HAw.out _).mono ?_
    rintro e w1 ⟨rfl, hb⟩
    go_wp2_with fail
    go_ret
    exact ⟨rfl, hb⟩
  · have hd : decide ((10 : Int) < (N : Int)) = false := decide_eq_false h10
    by_cases h12 : (12 : Int) < (m : Int)
    · have hd2 : decide ((12 : Int) < (m : Int)) = true := decide_eq_true h12
      go_enter Try.func5, Try.ntmps5
      go_wp2_with fail
      refine (HAw.out _).mono ?_
      rintro e w1 ⟨rfl, hb⟩
      go_wp2_with fail
      go_ret
      exact ⟨rfl, hb⟩
    · have hd2 : decide ((12 : Int) < (m : Int)) = false := decide_eq_false h12
      by_cases h13 : (12 : Int) < (n : Int)
      · have hd3 : decide ((12 : Int) < (n : Int)) = true := decide_eq_true h13
        go_enter Try.func5, Try.ntmps5
        go_wp2_with fail
        refine (HAw.out _).mono ?_
        rintro e w1 ⟨rfl, hb⟩
        go_wp2_with fail
        go_ret
        exact ⟨rfl, hb⟩
      · have hd3 : decide ((12 : Int) < (n : Int)) = false := decide_eq_false h13
        have HF1 := Lib.hid (HFr.out w (Below.refl _ _) (by omega))
        have HF2 := Lib.hid (fun wq (hq : Below w.heap.size w wq) => HFp.out wq hq (by omega) (by omega) (by omega))
        clear HFr HFp h10 h12 h13 hll hal hbl
        cases F with
        | true =>
          go_enter Try.func5, Try.ntmps5
          go_wp2_with fail
          refine HF1.out.mono ?_
          rintro e w1 ⟨rfl, hb⟩
          go_wp2_with fail
          refine (HAw.out _).mono ?_
          rintro e w2 ⟨rfl, hb2⟩
          go_wp2_with fail
          go_ret
          exact ⟨rfl, hb.trans (hb2.mono hb.size)⟩
        | false =>
          have HNo : Hid (∀ wq, Below w.heap.size w wq → NotFit (.slice Al N cl) (.slice Aa m ca) (.slice Ab n cb) wq) := Lib.hid (fun wq hq wr hr => HF2.out wr (hq.trans (hr.mono hq.size)))
          clear HF2
          go_enter Try.func5, Try.ntmps5
          go_wp2_with fail
          refine HF1.out.mono ?_
          rintro e w1 ⟨rfl, hb⟩
          have HB1 := Lib.hid hb
          clear hb HF1
          go_wp2_with fail
          refine (Down_bad _ _ _ _ (HNo.out _ HB1.out)).mono ?_
          rintro e w2 ⟨rfl, hb⟩
          have HB2 := Lib.hid (HB1.out.trans (hb.mono HB1.out.size))
          clear hb HB1
          go_wp2_with fail
          refine (Up_bad _ _ _ _ (HNo.out _ HB2.out)).mono ?_
          rintro e w3 ⟨rfl, hb⟩
          have HB3 := Lib.hid (HB2.out.trans (hb.mono HB2.out.size))
          clear hb HB2
          go_wp2_with fail
          refine (Room_bad _ _ _ _ _ (HNo.out _ HB3.out)).mono ?_
          rintro e w4 ⟨rfl, hb⟩
          have HB4 := Lib.hid (HB3.out.trans (hb.mono HB3.out.size))
          clear hb HB3
          go_wp2_with fail
          refine (HAw.out _).mono ?_
          rintro e w5 ⟨rfl, hb⟩
          have HB5 := Lib.hid (HB4.out.trans (hb.mono HB4.out.size))
          clear hb HB4
          go_wp2_with fail
          go_ret
          exact ⟨rfl, HB5.out⟩
end Sl
end Go.Proofs.Ytldommbelpcegaa

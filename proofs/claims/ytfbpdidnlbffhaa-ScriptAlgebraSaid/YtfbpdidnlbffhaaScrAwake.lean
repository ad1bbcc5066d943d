/-
  The sanity check that every law of layer 8 calls: it returns true. No conditions.
-/
import Derived.Test.YtfbpdidnlbffhaaScrFp
import Derived.Test.YtfbpdidnlbffhaaScrGen
namespace Go.Proofs.Ytfbpdidnlbffhaa
open Go.RowKit
namespace Sc
open Cm
abbrev awP : List Sp := [⟨0, 0⟩, ⟨2, 1⟩]
abbrev awL : List Ch := [⟨1, 1, 1, 0⟩]
theorem aw_ok : OkP 3 2 0 0 awP := ⟨⟨by decide, by decide, by decide, by decide⟩, ⟨by decide, by decide, by decide, by decide⟩, trivial⟩
theorem aw_fr : frF 3 2 0 0 awP = awL := by
  simp only [frF]
  rw [btw_same, btw_new (by decide), show (2 : Int) + 1 = 3 from rfl, show (1 : Int) + 1 = 2 from rfl, btw_same]
  rfl
theorem aw_ck : chkF awL 3 2 = 0 := chkF_ok ⟨by decide, by decide⟩ ⟨by decide, by decide⟩ ⟨⟨⟨⟨by decide, by decide, by decide⟩, ⟨by decide, by decide, by decide⟩, by decide⟩, rfl, fun h => by cases h⟩, rfl⟩
theorem aw_no : chkF awL 3 3 = 80 := chkF_no (fun h => by
  have h2 : (3 : Int) - (1 + 1) = 3 - (1 + 0) := h.2.2.2
  exact absurd h2 (by decide))
def AwPost (w : World) (e : Ending) (w' : World) : Prop := e = .returned (.bool true) ∧ Below w.heap.size w w'
set_option maxRecDepth 100000 in
set_option maxHeartbeats 4000000 in
theorem awake_any (w : World) : Calls Try.prog 9 #[] w (AwPost w) := by
  have H1 : Hid (Calls Try.prog 18 #[.slice (some ⟨w.heap.size, 0, none⟩) 2 2, .int .i64 3, .int .i64 2] (w.alloc (.cells #[.int .i64 0, .int .i64 0, .int .i64 2, .int .i64 1] tSp)) fun e w' => ∃ A c, e = .returned (.tuple #[.slice A 1 c, .int .i64 0]) ∧ OwnC w.heap.size w' (.slice A 1 c) awL ∧ Below w.heap.size w w') := Lib.hid (by
    have hr : RdS (w.alloc (.cells #[.int .i64 0, .int .i64 0, .int .i64 2, .int .i64 1] tSp)) (.slice (some ⟨w.heap.size, 0, none⟩) 2 2) awP := RdK.lit w tSp awP _ spC_len rfl
    have hc : fpF awP 3 2 = 0 := fpF_ok ⟨by decide, by decide⟩ ⟨by decide, by decide⟩ aw_ok
    refine (FromPairs_any _ awP 3 2 _ hr (by decide) (fun s hs => ?_)).mono ?_
    · simp only [List.mem_cons, List.not_mem_nil, or_false] at hs
      rcases hs with rfl | rfl
      · exact ⟨⟨by decide, by decide⟩, ⟨by decide, by decide⟩⟩
      · exact ⟨⟨by decide, by decide⟩, ⟨by decide, by decide⟩⟩
    · rintro e w' ⟨v, rfl, ho, _, hb⟩
      have ho2 := ho hc
      rw [aw_fr] at ho2
      obtain ⟨A, c, rfl⟩ := ho2.rd.form
      rw [hc]
      exact ⟨A, c, rfl, ho2.base (by simp), ((Below.refl _ w).alloc (Nat.le_refl _) _).trans (hb.mono (by simp))⟩)
  have HC : Hid (∀ (A : Option Addr) (c : Nat) (wx : World) (n : Int), RdC wx (.slice A 1 c) awL → Calls Try.prog 14 #[.slice A 1 c, .int .i64 3, .int .i64 n] wx (CkPost awL 3 n wx)) := Lib.hid (fun A c wx n hr => Check_any _ awL 3 n wx hr (by decide) (fun c hc => by
    simp only [List.mem_singleton] at hc
    subst hc
    exact ⟨⟨by decide, by decide⟩, ⟨by decide, by decide⟩, ⟨by decide, by decide⟩, ⟨by decide, by decide⟩⟩))
  have hc2 := aw_ck
  have hc3 := aw_no
  have HK2 := Lib.hid hc2
  have HK3 := Lib.hid hc3
  clear hc2 hc3
  go_enter Try.func9, Try.ntmps9
  go_wp2_with (first
    | (go_at_call 18; refine H1.out.mono ?_; rintro e w1 ⟨A, c, rfl, ho, hb⟩; have HO := Lib.hid ho; have HB := Lib.hid hb; clear ho hb H1)
    | (go_at_call 21; refine (Changes_same _ _ awL _ (by decide) (HO.out.rd.below ((Below.refl _ _).alloc (Nat.le_refl _) _)) (RdK.lit w1 tCh awL _ chC_len rfl)).mono ?_; rintro e w2 ⟨rfl, q, rfl⟩; have HB2 := Lib.hid (below_drewN (HB.out.alloc HB.out.size (.cells #[.int .i64 1, .int .i64 1, .int .i64 1, .int .i64 0] tCh)) q); have HR2 := Lib.hid ((HO.out.rd.below ((Below.refl _ _).alloc (Nat.le_refl _) (.cells #[.int .i64 1, .int .i64 1, .int .i64 1, .int .i64 0] tCh))).drewN q); clear HB HO)
    | (go_at_call 14; refine (HC.out A c _ 2 HR2.out).mono ?_; rintro e w4 ⟨rfl, hb4⟩; rw [HK2.out]; have HR4 := Lib.hid (HR2.out.below hb4); have HB4 := Lib.hid (HB2.out.trans (hb4.mono HB2.out.size)); clear hb4 HR2 HB2)
    | (go_at_call 14; refine (HC.out A c _ 3 HR4.out).mono ?_; rintro e w5 ⟨rfl, hb5⟩; rw [HK3.out]; have HB5 := Lib.hid (HB4.out.trans (hb5.mono HB4.out.size)); clear hb5))
  go_ret
  exact ⟨rfl, HB5.out⟩
end Sc
end Go.Proofs.Ytfbpdidnlbffhaa

/-
  The sanity check of layer 10 returns true; lists and scripts turned round. No conditions beyond the lengths.
-/
import Derived.Test.YtldommbelpcegaaSliGen
import Derived.Test.YtldommbelpcegaaScrGen
import Derived.Test.YtldommbelpcegaaScrInv
namespace Go.Proofs.Ytldommbelpcegaa
open Go.RowKit
namespace Sl
open Cm Sc Au Sh
abbrev awA : List Int := [1, 2]
abbrev awB : List Int := [1, 1, 2]
abbrev awL : List Ch := [⟨0, 0, 0, 1⟩]
abbrev awR : List Ch := [⟨1, 0, 1, 1⟩]
theorem aw_fit : FitL awA awB true 0 0 awL := by
  refine fit_cons.2 ⟨⟨⟨⟨by decide, by decide, by decide⟩, ⟨by decide, by decide, by decide⟩, by decide⟩, by decide, by decide⟩, ?_, fit_nil.2 ⟨by decide, ?_⟩⟩
  · intro t h0 h1
    simp only at h1
    omega
  · intro t h0 h1
    have h2 : t = 0 ∨ t = 1 := by
      simp only [List.length_cons, List.length_nil] at h1
      omega
    rcases h2 with rfl | rfl <;> rfl
theorem aw_down : downF awA awB (awA.length : Int) awL = awR := by rfl
theorem aw_u : rmU awA awB awL 0 = 0 := by rfl
theorem aw_d : rmD awA awB awL 0 = 1 := by rfl
theorem aw_e : rmE awL 0 = 0 := by rfl
def AwPost (w : World) (e : Ending) (w' : World) : Prop := e = .returned (.bool true) ∧ Below w.heap.size w w'
theorem lits (W : World) (g : Nat) (hg : W.heap.size = g) : RdV ((W.alloc (.cells #[.int .i64 1, .int .i64 2] Sh.tI)).alloc (.cells #[.int .i64 1, .int .i64 1, .int .i64 2] Sh.tI)) (.slice (some ⟨g, 0, none⟩) 2 2) (intsV awA) ∧ RdV ((W.alloc (.cells #[.int .i64 1, .int .i64 2] Sh.tI)).alloc (.cells #[.int .i64 1, .int .i64 1, .int .i64 2] Sh.tI)) (.slice (some ⟨g + 1, 0, none⟩) 3 3) (intsV awB) := by
  subst hg
  have e : (W.alloc (.cells #[.int .i64 1, .int .i64 2] Sh.tI)).heap.size = W.heap.size + 1 := by simp
  refine ⟨(RdV.lit W Sh.tI (intsV [1, 2]) _ rfl).below ((Below.refl _ _).alloc (Nat.le_refl _) _), ?_⟩
  have := RdV.lit (W.alloc (.cells #[.int .i64 1, .int .i64 2] Sh.tI)) Sh.tI (intsV [1, 1, 2]) #[.int .i64 1, .int .i64 1, .int .i64 2] rfl
  rw [e] at this
  exact this
theorem lits_below (W : World) : Below W.heap.size W ((W.alloc (.cells #[.int .i64 1, .int .i64 2] Sh.tI)).alloc (.cells #[.int .i64 1, .int .i64 1, .int .i64 2] Sh.tI)) :=
  ((Below.refl _ W).alloc (Nat.le_refl _) _).alloc (by simp) _
theorem awD (v va vb : Value) (w' : World) (h1 : RdC w' v awL) (h2 : RdV w' va (intsV awA)) (h3 : RdV w' vb (intsV awB)) : Calls Try.prog 10 #[v, va, vb] w' (DnPost awR w') := by
  have := Down_any v awL va vb awA awB w' h1 h2 h3 (by decide) (by decide) aw_fit
  rw [aw_down] at this
  exact this
theorem awM (v va vb : Value) (w' : World) (h1 : RdC w' v awL) (h2 : RdV w' va (intsV awA)) (h3 : RdV w' vb (intsV awB)) : Calls Try.prog 16 #[v, va, vb, .int .i64 0] w' (Rm3 0 1 0 w') := by
  have := Room_any v awL va vb awA awB 0 w' h1 h2 h3 (by decide) (by decide) aw_fit
  rw [aw_u, aw_d, aw_e] at this
  exact this
set_option maxRecDepth 100000 in
set_option maxHeartbeats 4000000 in
theorem awake_any (w : World) : Calls Try.prog 15 #[] w (AwPost w) := by
  have HL0 : Hid (RdC (w.alloc (.cells #[.int .i64 0, .int .i64 0, .int .i64 0, .int .i64 1] tCh)) (.slice (some ⟨w.heap.size, 0, none⟩) 1 1) awL) := Lib.hid (RdK.lit w tCh awL _ chC_len rfl)
  have HB0 := Lib.hid ((Below.refl w.heap.size w).alloc (Nat.le_refl _) (.cells #[.int .i64 0, .int .i64 0, .int .i64 0, .int .i64 1] tCh))
  have HK1 := Lib.hid (HL0.out.below (lits_below _))
  have HB1 := Lib.hid (HB0.out.trans ((lits_below _).mono HB0.out.size))
  clear HL0 HB0
  go_enter Try.func15, Try.ntmps15
  go_wp2_with fail
  refine (awD _ _ _ _ HK1.out (lits _ _ (by simp)).1 (lits _ _ (by simp)).2).mono ?_
  rintro e w1 ⟨v1, rfl, ho1, hb1⟩
  obtain ⟨A1, c1, rfl⟩ := ho1.rd.form
  have HR1 := Lib.hid ho1.rd
  have HB2 := Lib.hid (HB1.out.trans (hb1.mono HB1.out.size))
  have HK2 := Lib.hid ((HK1.out.below hb1).below (lits_below _))
  have HR2 := Lib.hid (HR1.out.below (lits_below _))
  have HB3 := Lib.hid (HB2.out.trans ((lits_below _).mono HB2.out.size))
  clear ho1 hb1 HK1 HB1 HR1 HB2
  go_wp2_with fail
  refine (awM _ _ _ _ HK2.out (lits _ _ rfl).1 (lits _ _ rfl).2).mono ?_
  rintro e w2 ⟨rfl, hb2⟩
  have HB4 := Lib.hid (HB3.out.trans (hb2.mono HB3.out.size))
  have HR3 := Lib.hid (HR2.out.below hb2)
  clear hb2 HK2 HB3 HR2
  have HCh : Hid (∀ C, C.toList = flatK chC awR → Calls Try.prog 14 #[.slice A1 1 c1, .slice (some ⟨w2.heap.size, 0, none⟩) 1 1] (w2.alloc (.cells C tCh)) fun e w' => e = .returned (.bool true) ∧ Below w.heap.size w w') := Lib.hid (fun C hC => (Changes_same _ _ awR _ (by decide) (HR3.out.below ((Below.refl _ _).alloc (Nat.le_refl _) _)) (RdK.lit w2 tCh _ _ chC_len hC)).mono (by
    rintro e w' ⟨rfl, q, rfl⟩
    exact ⟨rfl, below_drewN (HB4.out.alloc HB4.out.size _) q⟩))
  clear HR3 HB4
  go_wp2_with fail
  refine (HCh.out _ rfl).mono ?_
  rintro e w3 ⟨rfl, hb3⟩
  go_wp2_with fail
  go_ret
  exact ⟨rfl, hb3⟩
end Sl
end Go.Proofs.Ytldommbelpcegaa

/-
  The sanity check of layer 15: it returns true. No conditions.
-/
import Derived.Test.YtechabkmepejaaaLosU
import Derived.Test.YtechabkmepejaaaLosG
import Derived.Test.YtechabkmepejaaaLosC
namespace Go.Proofs.Ytechabkmepejaaa
open Go.RowKit
namespace Lo
open Cm Sc
def AwPost (w : World) (e : Ending) (w' : World) : Prop := e = .returned (.bool true) ∧ Below w.heap.size w w'
def awL : List Mg := [⟨1, 1⟩, ⟨2, 3⟩, ⟨3, 2⟩]
theorem aw_jn : jn [⟨1, 1⟩, ⟨2, 1⟩] [2, 3] 2 = awL := by
  unfold jn
  have e : Sh.wkF 0 0 (lnM [⟨1, 1⟩, ⟨2, 1⟩]) [2, 3] = [⟨1, 0⟩] := by
    show Sh.wkF 0 0 [1, 2] [2, 3] = _
    simp [Sh.wkF, Sh.lcs]
  rw [e]
  rfl
theorem aw_col : codeF [[1, 2], [2, 3]] = 0 ∧ colF [[1, 2], [2, 3]] = awL := by
  obtain ⟨h1, h2⟩ := col_small (ls := [[1, 2], [2, 3]]) (by simp) (by simp)
  refine ⟨h2, ?_⟩
  rw [h1]
  show jn (jn [] [1, 2] 1) [2, 3] 2 = awL
  rw [jn_new]
  exact aw_jn
theorem aw_pr : prF awL 1 = [2, 3] := by
  rfl
set_option maxRecDepth 100000 in
set_option maxHeartbeats 4000000 in
theorem awake_any (w : World) : Calls Try.prog 8 #[] w (AwPost w) := by
  have HL : Hid (∀ x y z : Obj, x = .cells #[.int .i64 1, .int .i64 2] tI → y = .cells #[.int .i64 2, .int .i64 3] tI → z = .cells #[.slice (some ⟨w.heap.size, 0, none⟩) 2 2, .slice (some ⟨w.heap.size + 1, 0, none⟩) 2 2] tIs → RdLL (((w.alloc x).alloc y).alloc z) (.slice (some ⟨w.heap.size + 1 + 1, 0, none⟩) 2 2) ([[1, 2], [2, 3]].map intsV) ∧ Below w.heap.size w (((w.alloc x).alloc y).alloc z)) := Lib.hid (by
    rintro x y z rfl rfl rfl
    have e1 : ∀ (V : World) (o : Obj), (V.alloc o).heap.size = V.heap.size + 1 := fun V o => by simp
    refine ⟨⟨[.slice (some ⟨w.heap.size, 0, none⟩) 2 2, .slice (some ⟨w.heap.size + 1, 0, none⟩) 2 2], ?_, rfl, fun j h1 h2 => ?_⟩, (((Below.refl _ w).alloc (Nat.le_refl _) _).alloc (by rw [e1]; omega) _).alloc (by rw [e1, e1]; omega) _⟩
    · have h := RdV.lit ((w.alloc (.cells #[.int .i64 1, .int .i64 2] tI)).alloc (.cells #[.int .i64 2, .int .i64 3] tI)) tIs [.slice (some ⟨w.heap.size, 0, none⟩) 2 2, .slice (some ⟨w.heap.size + 1, 0, none⟩) 2 2] #[.slice (some ⟨w.heap.size, 0, none⟩) 2 2, .slice (some ⟨w.heap.size + 1, 0, none⟩) 2 2] rfl
      rw [e1, e1] at h
      exact h
    · have h3 : j = 0 ∨ j = 1 := by simp at h1; omega
      rcases h3 with rfl | rfl
      · exact (RdV.lit w tI (intsV [1, 2]) #[.int .i64 1, .int .i64 2] rfl).below (((Below.refl _ _).alloc (Nat.le_refl _) _).alloc (by simp) _)
      · have h := (RdV.lit (w.alloc (.cells #[.int .i64 1, .int .i64 2] tI)) tI (intsV [2, 3]) #[.int .i64 2, .int .i64 3] rfl).below ((Below.refl _ _).alloc (Nat.le_refl _) (.cells #[.slice (some ⟨w.heap.size, 0, none⟩) 2 2, .slice (some ⟨w.heap.size + 1, 0, none⟩) 2 2] tIs))
        rw [e1] at h
        exact h)
  have HL2 := Lib.hid (HL.out _ _ _ rfl rfl rfl)
  have HZ : Hid (∀ l ∈ ([[1, 2], [2, 3]] : List (List Int)), ∀ z ∈ l, zB z) := Lib.hid (by
    intro l hl z hz
    simp only [List.mem_cons, List.not_mem_nil, or_false] at hl
    rcases hl with rfl | rfl
    all_goals
      simp only [List.mem_cons, List.not_mem_nil, or_false] at hz
      unfold zB
      omega)
  have HCo := Lib.hid (Coalesce_any _ [[1, 2], [2, 3]] _ HL2.out.1 (by simp) HZ.out)
  unfold CoPost at HCo
  rw [aw_col.1, aw_col.2] at HCo
  have HB0 := Lib.hid HL2.out.2
  have HSm := Lib.hid (fun a b W h1 h2 => Same_mg a b awL W (by simp [awL]) h1 h2)
  have HPr := Lib.hid (fun a W h1 => Project_any a awL 1 W h1 (by simp [awL]) (by
    intro m hm
    unfold awL at hm
    simp only [List.mem_cons, List.not_mem_nil, or_false] at hm
    rcases hm with rfl | rfl | rfl
    all_goals decide))
  rw [aw_pr] at HPr
  clear HL HL2 HZ
  go_enter Try.func8, Try.ntmps8
  go_wp2_with fail
  refine HCo.out.mono ?_
  rintro e w1 ⟨v1, rfl, ho1, hb1⟩
  obtain ⟨A1, c1, rfl⟩ := ho1.rd.form
  have HR1 := Lib.hid ho1.rd
  have HB1 := Lib.hid (HB0.out.trans (hb1.mono HB0.out.size))
  clear ho1 hb1 HCo HB0
  have HR2 : Hid (∀ C : Array Value, C.toList = flatK mgC awL → RdM (w1.alloc (.cells C tMg)) (.slice A1 awL.length c1) awL ∧ RdM (w1.alloc (.cells C tMg)) (.slice (some ⟨w1.heap.size, 0, none⟩) 3 3) awL ∧ Below w.heap.size w (w1.alloc (.cells C tMg))) := Lib.hid (fun C hC => ⟨HR1.out.below ((Below.refl _ _).alloc (Nat.le_refl _) _), RdK.lit w1 tMg awL C mgC_len hC, HB1.out.alloc HB1.out.size _⟩)
  go_wp2_with fail
  obtain ⟨q1, q2, q3⟩ := HR2.out _ (show (#[Value.int .i64 1, Value.int .u32 1, Value.int .i64 2, Value.int .u32 3, Value.int .i64 3, Value.int .u32 2]).toList = flatK mgC awL from rfl)
  have HQ1 := Lib.hid q1
  have HQ3 := Lib.hid q3
  refine (HSm.out _ _ _ q1 q2).mono ?_
  clear q1 q2 q3 HR2 HR1 HB1 HSm
  rintro e w2 ⟨rfl, m2, rfl⟩
  have HQ4 := Lib.hid (HQ1.out.drewN m2)
  have HB4 := Lib.hid (below_drewN HQ3.out m2)
  clear HQ1 HQ3
  generalize World.drewN _ m2 = w3 at *
  go_wp2_with fail
  refine (HPr.out _ _ HQ4.out).mono ?_
  rintro e w4 ⟨v4, rfl, ho4, hb4⟩
  have HR4 := Lib.hid (RdV.of_own ho4)
  obtain ⟨A4, c4, rfl⟩ := HR4.out.form
  have HB5 := Lib.hid (HB4.out.trans (hb4.mono HB4.out.size))
  clear ho4 hb4 HB4 HQ4 HPr
  have HIn : Hid (∀ C : Array Value, C.toList = intsV [2, 3] → Calls Try.prog 13 #[.slice A4 (intsV [2, 3]).length c4, .slice (some ⟨w4.heap.size, 0, none⟩) 2 2] (w4.alloc (.cells C tI)) fun e w' => e = .returned (.bool true) ∧ Below w.heap.size w w') := Lib.hid (fun C hC => (Ints_same _ _ [2, 3] _ (by decide) (HR4.out.below ((Below.refl _ _).alloc (Nat.le_refl _) _)) (RdV.lit w4 tI (intsV [2, 3]) C hC)).mono (by
    rintro e w' ⟨rfl, m, rfl⟩
    exact ⟨rfl, below_drewN (HB5.out.alloc HB5.out.size _) m⟩))
  clear HR4 HB5
  go_wp2_with fail
  refine (HIn.out _ rfl).mono ?_
  rintro e w5 ⟨rfl, hb5⟩
  go_wp2_with fail
  go_ret
  exact ⟨rfl, hb5⟩
end Lo
end Go.Proofs.Ytechabkmepejaaa

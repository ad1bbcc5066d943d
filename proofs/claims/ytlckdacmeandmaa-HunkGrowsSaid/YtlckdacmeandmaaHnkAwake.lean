/-
  The sanity check of layer 11's laws: it returns true. No conditions.
-/
import Derived.Test.YtlckdacmeandmaaHnkAny
import Derived.Test.YtlckdacmeandmaaHnkSame
namespace Go.Proofs.Ytlckdacmeandmaa
open Go.RowKit
namespace Hn
open Cm Sc
def awL : List Ch := [⟨2, 1, 2, 1⟩, ⟨6, 0, 6, 1⟩]
def awH : List Hk := [⟨0, 2, 0, 8, 0, 9⟩]
theorem aw_group : group 2 10 awL = awH := by rfl
theorem aw_code : gcF 2 awL 10 11 = 0 := by
  rw [gc_in (by omega)]
  refine chkF_ok ⟨by omega, by omega⟩ ⟨by omega, by omega⟩ ?_
  unfold awL OkL OkL OkL OkC wiI
  simp
def AwPost (w : World) (e : Ending) (w' : World) : Prop := e = .returned (.bool true) ∧ Below w.heap.size w w'
theorem hunks_b (a b : Value) (l : List Hk) (w : World) (hl : l.length ≤ 4611686018427387904) (ha : RdH w a l) (hb : RdH w b l) :
    Calls Try.prog 13 #[a, b] w fun e w' => e = .returned (.bool true) ∧ Below w.heap.size w w' :=
  (Hunks_same a b l w hl ha hb).mono (by rintro e w' ⟨rfl, q, rfl⟩; exact ⟨rfl, below_drewN (Below.refl _ _) q⟩)
theorem awG (v : Value) (w' : World) (h1 : RdC w' v awL) : Calls Try.prog 10 #[v, .int .i64 10, .int .i64 11, .int .i64 2] w' fun e w'' => ∃ v', e = .returned (.tuple #[v', .int .i64 0]) ∧ OwnH w'.heap.size w'' v' awH ∧ Below w'.heap.size w' w'' := by
  have h := Group_any v awL 10 11 2 w' h1 (by decide) (by
    intro c hc
    unfold awL at hc
    simp only [List.mem_cons, List.not_mem_nil, or_false] at hc
    rcases hc with rfl | rfl <;> exact ⟨⟨by decide, by decide⟩, ⟨by decide, by decide⟩, ⟨by decide, by decide⟩, ⟨by decide, by decide⟩⟩)
  unfold GrPost at h
  rw [aw_code, aw_group] at h
  exact h.mono fun e w'' ⟨v', h1, h2, _, h4⟩ => ⟨v', h1, h2 rfl, h4⟩
set_option maxRecDepth 100000 in
set_option maxHeartbeats 4000000 in
theorem awake_any (w : World) : Calls Try.prog 8 #[] w (AwPost w) := by
  have HL0 : Hid (RdC (w.alloc (.cells #[.int .i64 2, .int .i64 1, .int .i64 2, .int .i64 1, .int .i64 6, .int .i64 0, .int .i64 6, .int .i64 1] tCh)) (.slice (some ⟨w.heap.size, 0, none⟩) 2 2) awL) := Lib.hid (RdK.lit w tCh awL _ chC_len rfl)
  have HB0 := Lib.hid ((Below.refl w.heap.size w).alloc (Nat.le_refl _) (.cells #[.int .i64 2, .int .i64 1, .int .i64 2, .int .i64 1, .int .i64 6, .int .i64 0, .int .i64 6, .int .i64 1] tCh))
  go_enter Try.func8, Try.ntmps8
  go_wp2_with fail
  refine (awG _ _ HL0.out).mono ?_
  rintro e w1 ⟨v1, rfl, ho1, hb1⟩
  obtain ⟨A1, c1, rfl⟩ := ho1.rd.form
  have HR1 := Lib.hid ho1.rd
  have HB1 := Lib.hid (HB0.out.trans (hb1.mono HB0.out.size))
  clear ho1 hb1 HB0
  have HCh : Hid (∀ C, C.toList = flatK hkC awH → Calls Try.prog 13 #[.slice A1 1 c1, .slice (some ⟨w1.heap.size, 0, none⟩) 1 1] (w1.alloc (.cells C tHk)) fun e w' => e = .returned (.bool true) ∧ Below w.heap.size w w') := Lib.hid (fun C hC => (hunks_b _ _ awH _ (by decide) (HR1.out.below ((Below.refl _ _).alloc (Nat.le_refl _) _)) (RdK.lit w1 tHk _ _ hkC_len hC)).mono (by
    rintro e w' ⟨rfl, hb⟩
    exact ⟨rfl, (HB1.out.alloc HB1.out.size _).trans (hb.mono (HB1.out.alloc HB1.out.size _).size)⟩))
  clear HR1
  go_wp2_with fail
  refine (HCh.out _ rfl).mono ?_
  rintro e w3 ⟨rfl, hb3⟩
  go_wp2_with fail
  go_ret
  exact ⟨rfl, hb3⟩
end Hn
end Go.Proofs.Ytlckdacmeandmaa

/-
  The walk of the law ShortestPrefix of layer 9. No conditions.
-/
import Derived.Test.YtechabkmepejaaaShoGen
import Derived.Test.YtechabkmepejaaaShoPreM
namespace Go.Proofs.Ytechabkmepejaaa
open Go.RowKit
namespace Sh
open Cm Sc Au
/-- Script on lists that read, few lines. -/
theorem Scr_rd (va vb : Value) (a b : List Int) (w : World) (ha : RdV w va (intsV a)) (hb : RdV w vb (intsV b)) (hla : a.length ≤ 4096) (hlb : b.length ≤ 4096) (hza : ∀ z ∈ a, zB z) (hzb : ∀ z ∈ b, zB z) :
    Calls Try.prog 19 #[va, vb] w (ScPost (scrF a b) w) := by
  obtain ⟨A, c, rfl⟩ := ha.form
  obtain ⟨B, d, rfl⟩ := hb.form
  rw [intsV_len] at ha hb ⊢
  rw [intsV_len]
  exact Script_at A B c d _ _ a b w (Lib.hid ha) (Lib.hid hb) hla hlb (Lib.hid rfl) (Lib.hid rfl) (Lib.hid hza) (Lib.hid hzb)
theorem scr_len (a b : List Int) : (scrF a b).length ≤ a.length + 1 := by
  have h := frF_len (a.length : Int) (b.length : Int) (wkF 0 0 a b) 0 0
  rw [wkF_len] at h
  have := (lcs_le a b).1
  unfold scrF
  omega
theorem scr_ok (a b : List Int) : OkL true 0 0 (scrF a b) (a.length : Int) (b.length : Int) :=
  frF_ok (wkF 0 0 a b) true 0 0 0 0 rfl (fun h => by cases h) (Int.le_refl _) (Int.le_refl _) (by omega) (by omega) (wk_okP a b)
theorem one_ints (l : List Int) : ∀ u ∈ intsV l, u.oneCell' = true := by
  intro u hu
  obtain ⟨z, _, rfl⟩ := List.mem_map.1 hu
  rfl
end Sh
end Go.Proofs.Ytechabkmepejaaa

/-
  The program's room of package slide: how often a change can be moved up and down. Conditions: a script that fits, lists of at most 4096 lines.
-/
import Derived.Test.YtlnghfmedkfkmaaGreatDoorSliProg
import Derived.Test.YtlnghfmedkfkmaaGreatDoorScrFitR
namespace Go.Proofs.YtlnghfmedkfkmaaGreatDoor
namespace Cm
end Cm
namespace Sc
end Sc
open Go.RowKit
namespace Sl
open Cm Sc
theorem gI_at {T : List Int} {i : Nat} (h : i < T.length) : gI T (i : Int) = T[i] := by
  unfold gI
  rw [Int.toNat_natCast, List.getD_eq_getElem?_getD, List.getElem?_eq_getElem h, Option.getD_some]
theorem beq_dec (x y : Int) : decide (x = y) = (x == y) := by
  by_cases h : x = y
  · rw [decide_eq_true h, beq_iff_eq.2 h]
  · rw [decide_eq_false h, beq_eq_false_iff_ne.2 h]
theorem dnB_at {a b : List Int} {c : Ch} (hp : Pure c) {f e d : Nat} (hf : frC c = f) (he : frC c + lnC c = e) (h1 : f + d < (txt a b c).length) (h2 : e + d < (txt a b c).length) :
    dnB a b (sh c (d : Int)) = ((txt a b c)[f + d] == (txt a b c)[e + d]) := by
  unfold dnB
  have e0 : Pure (sh c (d : Int)) := hp
  have e1 : txt a b (sh c (d : Int)) = txt a b c := rfl
  have e2 : frC (sh c (d : Int)) = frC c + d := by unfold frC sh; simp only; split <;> omega
  have e3 : lnC (sh c (d : Int)) = lnC c := rfl
  rw [e1, e2, e3, show frC c + (d : Int) + lnC c = ((e + d : Nat) : Int) from by omega, show frC c + (d : Int) = ((f + d : Nat) : Int) from by omega, gI_at h1, gI_at h2, ← beq_dec]
  exact decide_eq_decide.2 ⟨fun h => h.2, fun h => ⟨e0, h⟩⟩
theorem dn_step {a b : List Int} {c : Ch} {u ab U : Nat} (h : u + dnR a b (sh c (u : Int)) (ab - u) = U) (hB : dnB a b (sh c (u : Int)) = true) (hu : u < ab) : (u + 1) + dnR a b (sh c ((u + 1 : Nat) : Int)) (ab - (u + 1)) = U := by
  rw [dnR_T hB (by omega), sh_sh, show (u : Int) + 1 = ((u + 1 : Nat) : Int) from by omega, show ab - u - 1 = ab - (u + 1) from by omega] at h
  omega
theorem dn_stop {a b : List Int} {c : Ch} {u ab U : Nat} (h : u + dnR a b (sh c (u : Int)) (ab - u) = U) (hB : dnB a b (sh c (u : Int)) = false ∨ ab ≤ u) : U = u := by
  rw [dnR_F (hB.imp id (fun h => by omega))] at h
  omega
end Sl
end Go.Proofs.YtlnghfmedkfkmaaGreatDoor

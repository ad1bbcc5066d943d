/-
  A slice of ints that came in, read as a list. No conditions.
-/
import Derived.Test.YtjecfmbecgpbmaaGreatDoorRows
import Derived.Test.YtjecfmbecgpbmaaGreatDoorGComBase
import Derived.ProofKit
import Derived.OpenShut
import Derived.ShutString
import Derived.ChangeOld
import Derived.Deep.Slices
namespace Go.Proofs.YtjecfmbecgpbmaaGreatDoor
open Go.ChangeShapes Go.WideShapes Go.ChangeAt Go.RowKit
namespace Cm
section
variable {H : Type} {enc : TypeId × Value → H} {P : Program} {w : World} {base : Nat} {spare : Nat → Bool} {held : Bool}
end
theorem own : ownKnob Tryz.prog.godebug = none := by kernel_rfl
theorem laidOut : laidOutB Tryz.prog = true := by kernel_rfl
theorem bounds_int {n : Int} (h : (Lit.int .i64 n).wf = true) : -9223372036854775808 ≤ n ∧ n ≤ 9223372036854775807 := by
  simp [Lit.wf] at h
  exact h
theorem addr_add {b off j : Nat} : (Addr.mk b off none).add j = ⟨b, off + j, none⟩ := by
  unfold Addr.add; split
  · rename_i h0; rw [h0]; rfl
  · rfl
/-- A slice whose cells lie behind its address. -/
theorem rdV_mk {w : World} {a : Addr} {len cap : Nat} {us : List Value} (hl : us.length = len) (hc : len ≤ cap) (h : ∀ i (hi : i < us.length), w.cell? (a.add i) = some us[i]) : RdV w (.slice (some a) len cap) us := by
  refine ⟨some a, cap, by rw [hl], ⟨by omega, fun e => by cases e⟩, fun hp => ?_⟩
  obtain ⟨b, off, spot⟩ := a
  have hc0 := h 0 hp
  have hspot : spot = none := by simpa [Addr.add] using World.cell?_spot hc0
  subst hspot
  exact ⟨b, off, rfl, fun j hj => by rw [← addr_add]; exact h j hj⟩
section
variable {H : Type} {enc : TypeId × Value → H} {W : World} {base : Nat} {spare : Nat → Bool} {held : Bool} {fuel : Nat} {u : Value} {x : DataW H × List MemPlace}
theorem open_intsV (h : DataW.trod enc Tryz.prog W base spare held fuel 22 [u] = some x) : ∃ l : List Int, RdV W u (intsV l) ∧ l.length ≤ maxLen ∧ ∀ z ∈ l, -9223372036854775808 ≤ z ∧ z ≤ 9223372036854775807 := by
  rcases open_ints Tryz.underlying22 Tryz.underlying3 (by kernel_rfl) h with ⟨hcs, _⟩ | ⟨a, l, c', zs, hcs, _, hl, hm, hlen, _, hcell, hwf⟩
  · obtain rfl : u = .slice none 0 0 := by simpa using hcs
    exact ⟨[], RdV.nil _, Nat.zero_le _, fun z hz => by cases hz⟩
  · obtain rfl : u = .slice (some a) l c' := by simpa using hcs
    have hsl : l ≤ zs.length := by rw [hlen]; split <;> omega
    have hmin : (zs.take l).length = l := by rw [List.length_take]; omega
    refine ⟨zs.take l, rdV_mk (by rw [intsV_len, hmin]) hl (fun i hi => ?_), by omega, fun z hz => bounds_int (hwf z (List.mem_of_mem_take hz))⟩
    rw [intsV_len, hmin] at hi
    rw [hcell i (by omega)]
    simp [intsV, List.getD, List.getElem?_eq_getElem (show i < zs.length by omega)]
end
end Cm
end Go.Proofs.YtjecfmbecgpbmaaGreatDoor

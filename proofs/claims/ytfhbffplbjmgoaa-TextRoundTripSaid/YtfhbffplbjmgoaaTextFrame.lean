/-
  What the rows of layer 2 share: slices that came in read as lists. No conditions.
-/
import Derived.Test.YtfhbffplbjmgoaaRows
import Derived.Test.YtfhbffplbjmgoaaTextAwake
import Derived.ProofKit
import Derived.OpenShut
import Derived.ShutString
import Derived.ChangeOld
namespace Go.Proofs.Ytfhbffplbjmgoaa
open Go.ChangeShapes Go.WideShapes Go.ChangeAt Go.RowKit
namespace Tx
theorem own : ownKnob Try.prog.godebug = none := by kernel_rfl
theorem laidOut : laidOutB Try.prog = true := by kernel_rfl
theorem bounds_i64 {n : Int} (h : (Lit.int .i64 n).wf = true) : -9223372036854775808 ≤ n ∧ n ≤ 9223372036854775807 := by
  simp [Lit.wf] at h
  exact h
theorem addr_at {b off j : Nat} : (Addr.mk b off none).add j = ⟨b, off + j, none⟩ := by
  unfold Addr.add; split
  · rename_i h0; rw [h0]; rfl
  · rfl
section
variable {H : Type} {enc : TypeId × Value → H} {W : World} {base : Nat} {spare : Nat → Bool} {held : Bool} {fuel : Nat} {A : Option Addr} {n c : Nat} {x : DataW H × List MemPlace}
theorem rdI_open (h : DataW.trod enc Try.prog W base spare held fuel 22 (Value.slice A n c).cells.toList = some x) : RdI W (.slice A n c) n ∧ n ≤ maxLen := by
  rcases open_ints Try.underlying22 Try.underlying3 (by kernel_rfl) h with ⟨hcs, _⟩ | ⟨a, l, c', zs, hcs, _, hl, hm, hlen, _, hcell, hwf⟩
  · simp [Value.cells] at hcs
    obtain ⟨rfl, rfl, rfl⟩ := hcs
    exact ⟨⟨none, 0, rfl, fun hp => absurd hp (by decide)⟩, Nat.zero_le _⟩
  · simp [Value.cells] at hcs
    obtain ⟨rfl, rfl, rfl⟩ := hcs
    have hsl : n ≤ zs.length := by rw [hlen]; split <;> omega
    refine ⟨⟨_, c, rfl, fun hp => ?_⟩, by omega⟩
    obtain ⟨b, off, spot⟩ := a
    have hc0 := hcell 0 (by omega)
    have hspot : spot = none := by simpa [Addr.add] using World.cell?_spot hc0
    subst hspot
    refine ⟨b, off, rfl, fun j hj => ?_⟩
    have hc := hcell j (by omega)
    rw [addr_at] at hc
    have hb := bounds_i64 (hwf (zs.getD j 0) (by
      rw [List.getD_eq_getElem?_getD, List.getElem?_eq_getElem (show j < zs.length by omega)]
      exact List.getElem_mem _))
    exact ⟨_, hc, hb.1, hb.2⟩
theorem rdS_open (h : DataW.trod enc Try.prog W base spare held fuel 25 (Value.slice A n c).cells.toList = some x) : ∃ xs, RdS W (.slice A n c) xs ∧ n ≤ maxLen := by
  rcases open_strings Try.underlying25 Try.underlying9 (by kernel_rfl) h with ⟨hcs, _⟩ | ⟨a, l, c', ss, hcs, _, hl, hm, hlen, _, hcell, _⟩
  · simp [Value.cells] at hcs
    obtain ⟨rfl, rfl, rfl⟩ := hcs
    exact ⟨[], RdS.nil _, Nat.zero_le _⟩
  · simp [Value.cells] at hcs
    obtain ⟨rfl, rfl, rfl⟩ := hcs
    have hsl : n ≤ ss.length := by rw [hlen]; split <;> omega
    have hmin : (ss.take n).length = n := by rw [List.length_take]; omega
    refine ⟨ss.take n, ⟨_, c, by rw [hmin], ⟨by rw [hmin]; exact hl, fun e => by cases e⟩, fun hp => ?_⟩, by omega⟩
    rw [hmin] at hp
    obtain ⟨b, off, spot⟩ := a
    have hc0 := hcell 0 (by omega)
    have hspot : spot = none := by simpa [Addr.add] using World.cell?_spot hc0
    subst hspot
    refine ⟨b, off, rfl, fun j hj => ?_⟩
    rw [hmin] at hj
    have hc := hcell j (by omega)
    rw [addr_at] at hc
    rw [hc, List.getElem_take]
    simp [List.getD, List.getElem?_eq_getElem (show j < ss.length by omega)]
end
end Tx
end Go.Proofs.Ytfhbffplbjmgoaa

/-
  Small facts that the walks of layer 2 share: strings as lists of bytes, slices that read as lists. No conditions.
-/
import Derived.Test.YtechabkmepejaaaChecked
import Derived.Test.YtechabkmepejaaaTextMath
import Derived.WalkKit
import Derived.WalkSpells
import Derived.WalkLawsBesides
import Derived.LoopTactic
import Derived.Lib.Hide
import Derived.Deep.QuietTactic
import Derived.BigQuiet
import Derived.IntWalk
import Derived.Deep.LoopGhost
import Derived.Deep.RegionHeld3
import Derived.Laws.IdiomStrings
import Derived.OwnWalk
import Derived.WalkSmall
namespace Go.Proofs.Ytechabkmepejaaa
open Go.RowKit
namespace Tx
theorem ret_int {k : IntKind} {a b : Int} (h : a = b) : Ending.returned (.int k a) = .returned (.int k b) := by rw [h]
/-- The bytes of a string. -/
abbrev bs (s : ByteArray) : List UInt8 := s.data.toList
theorem bs_len (s : ByteArray) : (bs s).length = s.size := rfl
theorem bs_get? (s : ByteArray) (k : Nat) (h : k < s.size) : (bs s)[k]? = some s[k] := by rw [List.getElem?_eq_getElem (by simpa using h)]; rfl
theorem bs_drop (s : ByteArray) (k : Nat) (h : k < s.size) : (bs s).drop k = s[k] :: (bs s).drop (k + 1) := List.drop_eq_getElem_cons (l := bs s) (i := k) h
theorem bs_extract (s : ByteArray) (a b : Nat) : bs (s.extract a b) = ((bs s).drop a).take (b - a) := by
  simp [bs, List.take_drop]
theorem bs_append (a b : ByteArray) : bs (a ++ b) = bs a ++ bs b := by simp [bs]
theorem mk_bs (s : ByteArray) : (ByteArray.mk (bs s).toArray) = s := by cases s; simp [bs]
theorem bs_mk (l : List UInt8) : bs ⟨l.toArray⟩ = l := by simp [bs]
theorem size_mk (l : List UInt8) : (ByteArray.mk l.toArray).size = l.length := by simp [ByteArray.size]
theorem u8_lt (b : UInt8) : (b.toNat : Int) < 256 := by have := b.toNat_lt; omega
/-- A slice of ints that reads. -/
def RdI (w : World) (v : Value) (n : Nat) : Prop :=
  ∃ A c, v = .slice A n c ∧ (0 < n → ∃ b off, A = some ⟨b, off, none⟩ ∧ ∀ j, j < n → ∃ z, w.cell? ⟨b, off + j, none⟩ = some (.int .i64 z) ∧ -9223372036854775808 ≤ z ∧ z ≤ 9223372036854775807)
theorem cell_lt {w : World} {b o : Nat} {u : Value} (h : w.cell? ⟨b, o, none⟩ = some u) : b < w.heap.size := by
  rcases Nat.lt_or_ge b w.heap.size with h2 | h2
  · exact h2
  · unfold World.cell? at h
    rw [Array.getElem?_eq_none (by simpa using h2)] at h
    cases h
theorem RdI.below {w w' : World} {v : Value} {n : Nat} (h : RdI w v n) (hb : Below w.heap.size w w') : RdI w' v n := by
  obtain ⟨A, c, rfl, hc⟩ := h
  refine ⟨A, c, rfl, fun hp => ?_⟩
  obtain ⟨b, off, rfl, hcell⟩ := hc hp
  refine ⟨b, off, rfl, fun j hj => ?_⟩
  obtain ⟨z, h1, h2, h3⟩ := hcell j hj
  exact ⟨z, (hb.cell (p := ⟨b, off + j, none⟩) (cell_lt h1)).trans h1, h2, h3⟩
/-- A slice of strings that reads as a list. -/
def RdS (w : World) (v : Value) (xs : List ByteArray) : Prop :=
  ∃ A c, v = .slice A xs.length c ∧ (xs.length ≤ c ∧ (A = none → c = 0)) ∧ (0 < xs.length → ∃ b off, A = some ⟨b, off, none⟩ ∧ ∀ j (h : j < xs.length), w.cell? ⟨b, off + j, none⟩ = some (.string xs[j]))
theorem RdS.below {w w' : World} {v : Value} {xs : List ByteArray} (h : RdS w v xs) (hb : Below w.heap.size w w') : RdS w' v xs := by
  obtain ⟨A, c, rfl, hcap, hc⟩ := h
  refine ⟨A, c, rfl, hcap, fun hp => ?_⟩
  obtain ⟨b, off, rfl, hcell⟩ := hc hp
  exact ⟨b, off, rfl, fun j hj => (hb.cell (p := ⟨b, off + j, none⟩) (cell_lt (hcell j hj))).trans (hcell j hj)⟩
/-- The strings of lists of bytes. -/
def mks (l : List (List UInt8)) : List ByteArray := l.map fun l => ⟨l.toArray⟩
theorem mks_bs (xs : List ByteArray) : mks (xs.map bs) = xs := by
  unfold mks; rw [List.map_map]
  conv => rhs; rw [← List.map_id xs]
  exact List.map_congr_left fun x _ => mk_bs x
theorem mks_len (l : List (List UInt8)) : (mks l).length = l.length := by simp [mks]
theorem mks_map (l : List (List UInt8)) : (mks l).map bs = l := by
  unfold mks; rw [List.map_map]
  conv => rhs; rw [← List.map_id l]
  exact List.map_congr_left fun x _ => bs_mk x
theorem mks_append (a b : List (List UInt8)) : mks (a ++ b) = mks a ++ mks b := by simp [mks]
abbrev strV (l : List UInt8) : Value := .string ⟨l.toArray⟩
def strsV (l : List (List UInt8)) : List Value := l.map strV
theorem strsV_append (a b : List (List UInt8)) : strsV (a ++ b) = strsV a ++ strsV b := by simp [strsV]
theorem strsV_len (a : List (List UInt8)) : (strsV a).length = a.length := by simp [strsV]
theorem RdS.of_own {w : World} {base : Nat} {v : Value} {ws : List (List UInt8)} (h : w.ownsRow base 9 1 v ws.length (strsV ws)) : RdS w v (mks ws) := by
  rcases h.2 with ⟨rfl, h0⟩ | ⟨g, cap, cur, rfl, _, _, hcap, _⟩
  · exact ⟨none, 0, by rw [mks_len, h0], ⟨by rw [mks_len, h0]; exact Nat.le_refl _, fun _ => rfl⟩, fun hp => by rw [mks_len] at hp; omega⟩
  · refine ⟨_, cap, by rw [mks_len], ⟨by rw [mks_len]; exact hcap, fun e => by cases e⟩, fun _ => ⟨g, 0, rfl, fun j hj => ?_⟩⟩
    rw [mks_len] at hj
    have hc := h.cellAt j (by omega)
    rw [Nat.zero_add, hc]
    simp [strsV, mks, List.getElem?_eq_getElem hj]
theorem RdS.nil (w : World) : RdS w (.slice none 0 0) [] := ⟨none, 0, rfl, ⟨Nat.le_refl _, fun _ => rfl⟩, fun hp => absurd hp (by decide)⟩
end Tx
end Go.Proofs.Ytechabkmepejaaa

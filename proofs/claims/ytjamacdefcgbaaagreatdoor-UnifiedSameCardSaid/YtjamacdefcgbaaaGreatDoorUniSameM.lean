/-
  Numbers of lines of a made patch, and how long it is. Conditions: short blobs.
-/
import Derived.Test.YtjamacdefcgbaaaGreatDoorUniCount
import Derived.Test.YtjamacdefcgbaaaGreatDoorUniMake
namespace Go.Proofs.YtjamacdefcgbaaaGreatDoor
open Go.RowKit
namespace Uf
open Sc Hn Sl
theorem ph_cnt {x y : List ByteArray} {l : List Ch} : ∀ {hs : List Hk} {p i j : Nat}, Ph x y l p i j hs → (cntP 45 (hs.map (mkPH x y l)) : Int) = sumO (l.drop p) ∧ (cntP 43 (hs.map (mkPH x y l)) : Int) = sumN (l.drop p)
  | [], p, i, j, h => by
    have h' : p = l.length := h
    have e : l.drop p = [] := List.drop_eq_nil_of_le (by omega)
    rw [e]
    exact ⟨rfl, rfl⟩
  | h :: hs, p, i, j, ⟨k, oF, nF, oT, nT, e, h1, h2, h3, h4, h5, h6, h7⟩ => by
    obtain ⟨g1, g2⟩ := ph_cnt h7
    obtain ⟨c1, c2⟩ := h6.cnt
    have e1 : l.drop p = cut l p k ++ l.drop k := by
      unfold cut
      have := List.take_append_drop (k - p) (l.drop p)
      rw [List.drop_drop, show p + (k - p) = k from by omega] at this
      exact this.symm
    have e2 : ∀ q : Int, cntP q ((h :: hs).map (mkPH x y l)) = cntK q (mkPH x y l h).lines + cntP q (hs.map (mkPH x y l)) := fun q => by
      unfold cntP; simp
    rw [e2, e2, e, mkPH_nat, e1]
    simp only
    rw [Int.natCast_add, Int.natCast_add, c1, c2, g1, g2]
    unfold sumO sumN
    rw [List.map_append, List.sum_append, List.map_append, List.sum_append]
    exact ⟨rfl, rfl⟩
theorem cut_lt {α : Type} (l : List α) (a b : Nat) : (cut l a b).length ≤ l.length := by
  unfold cut
  rw [List.length_take, List.length_drop]
  omega
theorem Lf.num {x y : List ByteArray} : ∀ {cs : List Ch} {i j T U : Nat}, Lf x y i j cs T U → cs.length ≤ (T - i) + (U - j)
  | [], _, _, _, _, _ => Nat.zero_le _
  | c :: cs, i, j, T, U, ⟨o, ol, nw, nl, e, g1, g2, g3, g4, g5, g6⟩ => by
    have h := g6.num
    have h2 := g6.le
    rw [List.length_cons]
    omega
theorem ph_few {x y : List ByteArray} {l : List Ch} : ∀ {hs : List Hk} {p i j : Nat}, Ph x y l p i j hs → hs.length + p ≤ l.length ∧ ∀ h ∈ hs.map (mkPH x y l), h.lines.length ≤ x.length + y.length
  | [], p, i, j, h => ⟨by have h' : p = l.length := h; simp; omega, fun h hh => by cases hh⟩
  | h :: hs, p, i, j, ⟨k, oF, nF, oT, nT, e, h1, h2, h3, h4, h5, h6, h7⟩ => by
    obtain ⟨g1, g2⟩ := ph_few h7
    refine ⟨by rw [List.length_cons]; omega, fun q hq => ?_⟩
    rcases List.mem_cons.1 (show q ∈ mkPH x y l h :: hs.map (mkPH x y l) from hq) with rfl | hq
    · rw [e, mkPH_nat]
      simp only
      have h8 := lens (lnsF x y oF (cut l p k) oT)
      rw [h6.old, h6.new] at h8
      have a := cut_lt x oF oT
      have b := cut_lt y nF nT
      omega
    · exact g2 q hq
theorem pat_few {ctx : Int} (hc : 0 ≤ ctx) {s t : ByteArray} (hs : s.size ≤ 1000) (ht : t.size ≤ 1000) (down : Bool) : (patH (Sh.lnB s) (Sh.lnB t) ctx (scrD down s t)).length ≤ 1000000 ∧ ∀ h ∈ patH (Sh.lnB s) (Sh.lnB t) ctx (scrD down s t), h.lines.length ≤ 2000 := by
  have hL := scrD_lf (s := s) (t := t) (by omega) (by omega) down
  have a := Sh.lnB_len s
  have b := Sh.lnB_len t
  obtain ⟨h1, h2⟩ := ph_few (ph_group hc hL)
  refine ⟨?_, fun h hh => ?_⟩
  · unfold patH
    rw [List.length_map]
    have hk := hL.num
    omega
  · have := h2 h hh
    omega
theorem pat_cnt {ctx : Int} (hc : 0 ≤ ctx) {s t : ByteArray} (hs : s.size ≤ 1000) (ht : t.size ≤ 1000) (down : Bool) : (cntP 45 (patH (Sh.lnB s) (Sh.lnB t) ctx (scrD down s t)) : Int) = sumO (Sh.blbF s t) ∧ (cntP 43 (patH (Sh.lnB s) (Sh.lnB t) ctx (scrD down s t)) : Int) = sumN (Sh.blbF s t) := by
  have hL := scrD_lf (s := s) (t := t) (by omega) (by omega) down
  have h := ph_cnt (ph_group hc hL)
  have e := scrD_sum (s := s) (t := t) (by omega) (by omega) down
  rw [List.drop_zero, e.1, e.2] at h
  exact h
theorem pat_self (ctx : Int) (s : ByteArray) (down : Bool) : patH (Sh.lnB s) (Sh.lnB s) ctx (scrD down s s) = [] := by
  have e : scrD down s s = [] := List.eq_nil_of_length_eq_zero (by rw [scrD_len, blb_self]; rfl)
  rw [e]
  rfl
theorem mk_on {s t : ByteArray} {ctx : Int} {down : Bool} {on nn : ByteArray} (h1 : nameB on = true) (h2 : nameB nn = true) (h3 : 0 ≤ ctx ∧ ctx ≤ 1048576) : mkC on nn ctx = 0 ∧ mkP on nn s t ctx down = ⟨on, nn, patH (Sh.lnB s) (Sh.lnB t) ctx (scrD down s t)⟩ := by
  have e : mkC on nn ctx = 0 := by
    unfold mkC
    rw [if_pos ⟨h1, h2⟩, if_neg (by omega)]
  exact ⟨e, by unfold mkP; rw [if_pos e]⟩
end Uf
end Go.Proofs.YtjamacdefcgbaaaGreatDoor

/-
  Scripts that fit the numbers of lines fit the lines; when the shortest script is empty; sums. No conditions. isName, compare; Name of the reference. Conditions: blobs of at most 1000 bytes.
-/
import Derived.Test.YtjecfmbecgpbmaaGreatDoorGTextBase
import Derived.Test.YtjecfmbecgpbmaaGreatDoorShoNea
import Derived.Test.YtjecfmbecgpbmaaGreatDoorSliGen
import Derived.Test.YtjecfmbecgpbmaaGreatDoorInternTab
import Derived.Deep.OwnRows
import Derived.Maps.OwnOps
import Derived.Test.YtjecfmbecgpbmaaGreatDoorGHnkBase
import Derived.Test.YtjecfmbecgpbmaaGreatDoorGSliClone
namespace Go.Proofs.YtjecfmbecgpbmaaGreatDoor
section
namespace Hn
end Hn
namespace Sc
end Sc
namespace Sh
end Sh
namespace Sl
end Sl
namespace Uf
open Sc Hn Sl Sh
theorem cut_eq {α : Type} {xs ys : List α} {i j n : Nat} (hi : i + n ≤ xs.length) (hj : j + n ≤ ys.length) (h : ∀ t, t < n → xs[i + t]? = ys[j + t]?) : cut xs i (i + n) = cut ys j (j + n) := by
  apply List.ext_getElem?
  intro k
  by_cases hk : k < n
  · rw [cut_get xs (by omega), cut_get ys (by omega), h k hk]
  · rw [List.getElem?_eq_none (by rw [cut_len xs hi]; omega), List.getElem?_eq_none (by rw [cut_len ys hj]; omega)]
/-- Equal numbers stand for equal lines. -/
theorem run_cut {s t : ByteArray} {i j n : Nat} (hi : i + n ≤ (lnB s).length) (hj : j + n ≤ (lnB t).length) (h : RunE (idA s t) (idB s t) i j n) : cut (lnB s) i (i + n) = cut (lnB t) j (j + n) := by
  refine cut_eq hi hj fun k hk => ?_
  have h1 := h k (by omega) (by omega)
  unfold gI at h1
  rw [show ((i : Int) + (k : Int)).toNat = i + k from by omega, show ((j : Int) + (k : Int)).toNat = j + k from by omega] at h1
  have li : i + k < (lnB s).length := by omega
  have lj : j + k < (lnB t).length := by omega
  unfold idA idB at h1
  rw [List.getD_eq_getElem?_getD, List.getD_eq_getElem?_getD, List.getElem?_map, List.getElem?_map, List.getElem?_eq_getElem li, List.getElem?_eq_getElem lj] at h1
  simp only [Option.map_some, Option.getD_some] at h1
  have m1 : (lnB s)[i + k] ∈ Nt.namesF [lnB s, lnB t] := Nt.mem_namesF (f := lnB s) (by simp) (List.getElem_mem li)
  have m2 : (lnB t)[j + k] ∈ Nt.namesF [lnB s, lnB t] := Nt.mem_namesF (f := lnB t) (by simp) (List.getElem_mem lj)
  rw [List.getElem?_eq_getElem li, List.getElem?_eq_getElem lj, (Nt.placeI_inj m1 m2).1 h1]
theorem lf_fit {s t : ByteArray} : ∀ (l : List Ch) (f : Bool) (i j : Nat), (f = true → i = 0) → i ≤ (lnB s).length → j ≤ (lnB t).length → FitL (idA s t) (idB s t) f i j l → Lf (lnB s) (lnB t) i j l (lnB s).length (lnB t).length
  | [], f, i, j, hf, hi, hj, h => by
    obtain ⟨h1, h2⟩ := fit_nil.1 h
    have la : (idA s t).length = (lnB s).length := by unfold idA; rw [List.length_map]
    have lb : (idB s t).length = (lnB t).length := by unfold idB; rw [List.length_map]
    rw [la] at h1 h2
    rw [lb] at h1
    refine ⟨hi, hj, Nat.le_refl _, Nat.le_refl _, by omega, ?_⟩
    have h3 := run_cut (s := s) (t := t) (i := i) (j := j) (n := (lnB s).length - i) (by omega) (by omega) (by rw [show (((lnB s).length - i : Nat) : Int) = ((lnB s).length : Int) - i from by omega]; exact h2)
    rw [show i + ((lnB s).length - i) = (lnB s).length from by omega, show j + ((lnB s).length - i) = (lnB t).length from by omega] at h3
    exact h3
  | c :: l, f, i, j, hf, hi, hj, h => by
    obtain ⟨h1, h2, h3⟩ := fit_cons.1 h
    have la : (idA s t).length = (lnB s).length := by unfold idA; rw [List.length_map]
    have lb : (idB s t).length = (lnB t).length := by unfold idB; rw [List.length_map]
    rw [la, lb] at h1
    obtain ⟨⟨⟨a0, a1, a2⟩, ⟨b0, b1, b2⟩, e⟩, g, q⟩ := h1
    obtain ⟨o, ol, nw, nl⟩ := c
    simp only at a0 a1 a2 b0 b1 b2 e g q h2 h3
    obtain ⟨o, rfl⟩ : ∃ n : Nat, o = n := ⟨o.toNat, by omega⟩
    obtain ⟨ol, rfl⟩ : ∃ n : Nat, ol = n := ⟨ol.toNat, by omega⟩
    obtain ⟨nw, rfl⟩ : ∃ n : Nat, nw = n := ⟨nw.toNat, by omega⟩
    obtain ⟨nl, rfl⟩ : ∃ n : Nat, nl = n := ⟨nl.toNat, by omega⟩
    have hio : i ≤ o := by
      cases f with
      | true => have := hf rfl; omega
      | false => have := q rfl; omega
    have h4 := run_cut (s := s) (t := t) (i := i) (j := j) (n := o - i) (by omega) (by omega) (by rw [show ((o - i : Nat) : Int) = (o : Int) - i from by omega]; exact h2)
    rw [show i + (o - i) = o from by omega, show j + (o - i) = nw from by omega] at h4
    refine ⟨o, ol, nw, nl, rfl, hio, by omega, by omega, by omega, h4, ?_⟩
    exact lf_fit l false (o + ol) (nw + nl) (fun h => by cases h) (by omega) (by omega) (by rw [Int.natCast_add, Int.natCast_add]; exact h3)
theorem lf_top {s t : ByteArray} {l : List Ch} (h : FitL (idA s t) (idB s t) true 0 0 l) : Lf (lnB s) (lnB t) 0 0 l (lnB s).length (lnB t).length := lf_fit l true 0 0 (fun _ => rfl) (Nat.zero_le _) (Nat.zero_le _) h
theorem lnB_flat (s : ByteArray) : ((lnB s).map Tx.bs).flatten = Tx.bs s := by
  unfold lnB
  rw [Tx.mks_map, Tx.linesF_flatten]
/-- The script of two blobs, moved down or not. -/
def scrD (down : Bool) (s t : ByteArray) : List Ch := if down = true then downF (idA s t) (idB s t) ((idA s t).length : Int) (blbF s t) else blbF s t
theorem scrD_fit {s t : ByteArray} (hs : s.size ≤ 4096) (ht : t.size ≤ 4096) (down : Bool) : FitL (idA s t) (idB s t) true 0 0 (scrD down s t) := by
  have l1 := idA_len s t
  have l2 := idB_len s t
  have hf := pick_fit1 (idA s t) (idB s t) (by omega) (by omega)
  unfold scrD
  split
  · exact fit_downF _ _ _ _ hf
  · exact hf
theorem scrD_lf {s t : ByteArray} (hs : s.size ≤ 4096) (ht : t.size ≤ 4096) (down : Bool) : Lf (lnB s) (lnB t) 0 0 (scrD down s t) (lnB s).length (lnB t).length := lf_top (scrD_fit hs ht down)
end Uf
end
section
namespace Cm
end Cm
namespace Hn
end Hn
namespace Sc
end Sc
namespace Sh
end Sh
namespace Sl
end Sl
open Go.RowKit
namespace Uf
open Cm Sc Hn Sl
open Sh (lnB lnB_len lnB_size idA idB idA_len idB_len blbF Spl_any SpPost2 ScPost)
def nameB (s : ByteArray) : Bool := decide (0 < s.size ∧ s.size ≤ 200)
theorem empty_of (s : ByteArray) (h : s.size = 0) : s.toList = [] := by
  rw [ByteArray.toList_eq]
  exact List.eq_nil_of_length_eq_zero h
theorem not_empty_of (s : ByteArray) (h : 0 < s.size) : ¬ s.toList = [] := by
  rw [ByteArray.toList_eq]
  intro e
  have : s.data.toList.length = 0 := by rw [e]; rfl
  have h2 : s.data.toList.length = s.size := rfl
  omega
set_option maxRecDepth 100000 in
theorem isName_any (s : ByteArray) (w : World) : Calls Tryz.prog 45 #[.string s] w fun e w' => e = .returned (.bool (nameB s)) ∧ w' = w := by
  by_cases h0 : s.size = 0
  · have e0 := empty_of s h0
    have e1 : (!s.toList.isEmpty) = false := by rw [e0]; rfl
    have en : nameB s = false := by unfold nameB; rw [decide_eq_false_iff_not]; omega
    rw [en]
    clear h0
    go_enter Tryz.func45, Tryz.ntmps45
    go_wp2_with fail
    go_ret
    exact ⟨rfl, rfl⟩
  · have e0 := not_empty_of s (by omega)
    have e1 : (!s.toList.isEmpty) = true := by simpa using e0
    by_cases h2 : (s.size : Int) ≤ 200
    · have en : nameB s = true := by unfold nameB; rw [decide_eq_true_iff]; omega
      rw [en]
      go_enter Tryz.func45, Tryz.ntmps45
      go_wp2_with fail
      go_ret
      exact ⟨rfl, rfl⟩
    · have en : nameB s = false := by unfold nameB; rw [decide_eq_false_iff_not]; omega
      have hd : decide ((s.size : Int) ≤ 200) = false := decide_eq_false h2
      rw [en]
      go_enter Tryz.func45, Tryz.ntmps45
      go_wp2_with fail
      go_ret
      exact ⟨rfl, rfl⟩
set_option maxRecDepth 100000 in
theorem NameR_any (s : ByteArray) (w : World) : Calls Tryz.prog 53 #[.string s] w fun e w' => e = .returned (.bool (nameB s)) ∧ w' = w := by
  by_cases h1 : (1 : Int) ≤ (s.size : Int)
  · by_cases h2 : (s.size : Int) ≤ 200
    · have en : nameB s = true := by unfold nameB; rw [decide_eq_true_iff]; omega
      rw [en]
      go_enter Tryz.func53, Tryz.ntmps53
      go_wp2_with fail
      go_ret
      exact ⟨rfl, rfl⟩
    · have en : nameB s = false := by unfold nameB; rw [decide_eq_false_iff_not]; omega
      have hd : decide ((s.size : Int) ≤ 200) = false := decide_eq_false h2
      rw [en]
      go_enter Tryz.func53, Tryz.ntmps53
      go_wp2_with fail
      go_ret
      exact ⟨rfl, rfl⟩
  · have en : nameB s = false := by unfold nameB; rw [decide_eq_false_iff_not]; omega
    have hd : decide ((1 : Int) ≤ (s.size : Int)) = false := decide_eq_false h1
    rw [en]
    go_enter Tryz.func53, Tryz.ntmps53
    go_wp2_with fail
    go_ret
    exact ⟨rfl, rfl⟩
end Uf
end
end Go.Proofs.YtjecfmbecgpbmaaGreatDoor

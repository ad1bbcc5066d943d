/-
  Scripts that fit the numbers of lines fit the lines; when the shortest script is empty; sums. No conditions.
-/
import Derived.Test.YtlnghfmedkfkmaaGreatDoorGTextBase
import Derived.Test.YtlnghfmedkfkmaaGreatDoorShoBlb
import Derived.Test.YtlnghfmedkfkmaaGreatDoorSliGen
namespace Go.Proofs.YtlnghfmedkfkmaaGreatDoor
namespace Uf
open Sc Hn Sl Sh
theorem cut_eq {α : Type} {xs ys : List α} {i j n : Nat} (hi : i + n ≤ xs.length) (hj : j + n ≤ ys.length) (h : ∀ t, t < n → xs[i + t]? = ys[j + t]?) : cut xs i (i + n) = cut ys j (j + n) := by
  apply List.ext_getElem?
  intro k
  by_cases hk : k < n
  · rw [cut_get xs (by omega), cut_get ys (by omega), h k hk]
  · rw [List.getElem?_eq_none (by rw [cut_len xs hi]; omega), List.getElem?_eq_none (by rw [cut_len ys hj]; omega)]
/-- Equal numbers stand for equal lines. -/
theorem run_cut {s t : ByteArray} {i j n : Nat} (hi : i + n ≤ (lnB s).length) (hj : j + n ≤ (lnB t).length) (h : RunE (idA s t) (idB s t) i j n) : cut (lnB s) i (i + n) = cut (lnB t) j (j + n) := by
  refine cut_eq hi hj fun k hk => ?_
  have h1 := h k (by omega) (by omega)
  unfold gI at h1
  rw [show ((i : Int) + (k : Int)).toNat = i + k from by omega, show ((j : Int) + (k : Int)).toNat = j + k from by omega] at h1
  have li : i + k < (lnB s).length := by omega
  have lj : j + k < (lnB t).length := by omega
  unfold idA idB at h1
  rw [List.getD_eq_getElem?_getD, List.getD_eq_getElem?_getD, List.getElem?_map, List.getElem?_map, List.getElem?_eq_getElem li, List.getElem?_eq_getElem lj] at h1
  simp only [Option.map_some, Option.getD_some] at h1
  have m1 : (lnB s)[i + k] ∈ Nt.namesF [lnB s, lnB t] := Nt.mem_namesF (f := lnB s) (by simp) (List.getElem_mem li)
  have m2 : (lnB t)[j + k] ∈ Nt.namesF [lnB s, lnB t] := Nt.mem_namesF (f := lnB t) (by simp) (List.getElem_mem lj)
  rw [List.getElem?_eq_getElem li, List.getElem?_eq_getElem lj, (Nt.placeI_inj m1 m2).1 h1]
theorem lf_fit {s t : ByteArray} : ∀ (l : List Ch) (f : Bool) (i j : Nat), (f = true → i = 0) → i ≤ (lnB s).length → j ≤ (lnB t).length → FitL (idA s t) (idB s t) f i j l → Lf (lnB s) (lnB t) i j l (lnB s).length (lnB t).length
  | [], f, i, j, hf, hi, hj, h => by
    obtain ⟨h1, h2⟩ := fit_nil.1 h
    have la : (idA s t).length = (lnB s).length := by unfold idA; rw [List.length_map]
    have lb : (idB s t).length = (lnB t).length := by unfold idB; rw [List.length_map]
    rw [la] at h1 h2
    rw [lb] at h1
    refine ⟨hi, hj, Nat.le_refl _, Nat.le_refl _, by omega, ?_⟩
    have h3 := run_cut (s := s) (t := t) (i := i) (j := j) (n := (lnB s).length - i) (by omega) (by omega) (by rw [show (((lnB s).length - i : Nat) : Int) = ((lnB s).length : Int) - i from by omega]; exact h2)
    rw [show i + ((lnB s).length - i) = (lnB s).length from by omega, show j + ((lnB s).length - i) = (lnB t).length from by omega] at h3
    exact h3
  | c :: l, f, i, j, hf, hi, hj, h => by
    obtain ⟨h1, h2, h3⟩ := fit_cons.1 h
    have la : (idA s t).length = (lnB s).length := by unfold idA; rw [List.length_map]
    have lb : (idB s t).length = (lnB t).length := by unfold idB; rw [List.length_map]
    rw [la, lb] at h1
    obtain ⟨⟨⟨a0, a1, a2⟩, ⟨b0, b1, b2⟩, e⟩, g, q⟩ := h1
    obtain ⟨o, ol, nw, nl⟩ := c
    simp only at a0 a1 a2 b0 b1 b2 e g q h2 h3
    obtain ⟨o, rfl⟩ : ∃ n : Nat, o = n := ⟨o.toNat, by omega⟩
    obtain ⟨ol, rfl⟩ : ∃ n : Nat, ol = n := ⟨ol.toNat, by omega⟩
    obtain ⟨nw, rfl⟩ : ∃ n : Nat, nw = n := ⟨nw.toNat, by omega⟩
    obtain ⟨nl, rfl⟩ : ∃ n : Nat, nl = n := ⟨nl.toNat, by omega⟩
    have hio : i ≤ o := by
      cases f with
      | true => have := hf rfl; omega
      | false => have := q rfl; omega
    have h4 := run_cut (s := s) (t := t) (i := i) (j := j) (n := o - i) (by omega) (by omega) (by rw [show ((o - i : Nat) : Int) = (o : Int) - i from by omega]; exact h2)
    rw [show i + (o - i) = o from by omega, show j + (o - i) = nw from by omega] at h4
    refine ⟨o, ol, nw, nl, rfl, hio, by omega, by omega, by omega, h4, ?_⟩
    exact lf_fit l false (o + ol) (nw + nl) (fun h => by cases h) (by omega) (by omega) (by rw [Int.natCast_add, Int.natCast_add]; exact h3)
theorem lf_top {s t : ByteArray} {l : List Ch} (h : FitL (idA s t) (idB s t) true 0 0 l) : Lf (lnB s) (lnB t) 0 0 l (lnB s).length (lnB t).length := lf_fit l true 0 0 (fun _ => rfl) (Nat.zero_le _) (Nat.zero_le _) h
theorem lnB_flat (s : ByteArray) : ((lnB s).map Tx.bs).flatten = Tx.bs s := by
  unfold lnB
  rw [Tx.mks_map, Tx.linesF_flatten]
theorem lnB_inj {s t : ByteArray} (h : lnB s = lnB t) : s = t := by
  have h2 : Tx.bs s = Tx.bs t := by rw [← lnB_flat s, ← lnB_flat t, h]
  rw [← Tx.mk_bs s, ← Tx.mk_bs t, h2]
/-- A script without changes fits equal blobs alone. -/
theorem lf_nil {s t : ByteArray} (h : Lf (lnB s) (lnB t) 0 0 [] (lnB s).length (lnB t).length) : s = t := by
  obtain ⟨_, _, _, _, _, h⟩ := h
  rw [cut_all, cut_all] at h
  exact lnB_inj h
theorem wk_self : ∀ (a : List Int) (i j : Int), wkF i j a a = run i j a.length
  | [], i, j => wkF_nil i j []
  | x :: a, i, j => by rw [wkF_eq, wk_self a, List.length_cons, run_cons]
theorem scr_self (a : List Int) : scrF a a = [] := by
  unfold scrF
  have h := frF_run (m := (a.length : Int)) (n := (a.length : Int)) [] a.length 0 0
  rw [List.append_nil] at h
  rw [wk_self, h, frF, Int.zero_add, btw_same]
theorem blb_self (s : ByteArray) : blbF s s = [] := by
  unfold blbF
  have e : idB s s = idA s s := rfl
  rw [e, scr_self]
theorem blb_nil {s t : ByteArray} (hs : s.size ≤ 4096) (ht : t.size ≤ 4096) : blbF s t = [] ↔ s = t := by
  constructor
  · intro h
    have l1 := idA_len s t
    have l2 := idB_len s t
    have hf := pick_fit1 (idA s t) (idB s t) (by omega) (by omega)
    have e : scrF (idA s t) (idB s t) = [] := h
    rw [e] at hf
    exact lf_nil (lf_top hf)
  · rintro rfl
    exact blb_self s
theorem Lf.sums : ∀ {x y : List ByteArray} {cs : List Ch} {i j T U : Nat}, Lf x y i j cs T U → x.length ≤ 4096 → y.length ≤ 4096 → szO cs = sumO cs ∧ szN cs = sumN cs
  | _, _, [], _, _, _, _, _, _, _ => ⟨rfl, rfl⟩
  | x, y, c :: cs, i, j, T, U, ⟨o, ol, nw, nl, e, g1, g2, g3, g4, g5, g6⟩, hx, hy => by
    subst e
    have hl := g6.le
    have hs := g6.sums hx hy
    unfold szO szN sumO sumN at hs ⊢
    simp only [List.map_cons, List.sum_cons]
    have e1 : cntI (ol : Int) = ol := by unfold cntI; rw [if_pos ⟨by omega, by omega⟩]
    have e2 : cntI (nl : Int) = nl := by unfold cntI; rw [if_pos ⟨by omega, by omega⟩]
    rw [e1, e2, hs.1, hs.2]
    exact ⟨rfl, rfl⟩
/-- The script of two blobs, moved down or not. -/
def scrD (down : Bool) (s t : ByteArray) : List Ch := if down = true then downF (idA s t) (idB s t) ((idA s t).length : Int) (blbF s t) else blbF s t
theorem scrD_fit {s t : ByteArray} (hs : s.size ≤ 4096) (ht : t.size ≤ 4096) (down : Bool) : FitL (idA s t) (idB s t) true 0 0 (scrD down s t) := by
  have l1 := idA_len s t
  have l2 := idB_len s t
  have hf := pick_fit1 (idA s t) (idB s t) (by omega) (by omega)
  unfold scrD
  split
  · exact fit_downF _ _ _ _ hf
  · exact hf
theorem scrD_lf {s t : ByteArray} (hs : s.size ≤ 4096) (ht : t.size ≤ 4096) (down : Bool) : Lf (lnB s) (lnB t) 0 0 (scrD down s t) (lnB s).length (lnB t).length := lf_top (scrD_fit hs ht down)
theorem scrD_len (down : Bool) (s t : ByteArray) : (scrD down s t).length = (blbF s t).length := by
  unfold scrD
  split
  · exact downF_len _ _ _ _
  · rfl
theorem scrD_sum {s t : ByteArray} (hs : s.size ≤ 4096) (ht : t.size ≤ 4096) (down : Bool) : sumO (scrD down s t) = sumO (blbF s t) ∧ sumN (scrD down s t) = sumN (blbF s t) := by
  have l1 := lnB_len s
  have l2 := lnB_len t
  have h1 := (scrD_lf hs ht down).sums (by omega) (by omega)
  have h2 := (scrD_lf hs ht false).sums (by omega) (by omega)
  have e : scrD false s t = blbF s t := by unfold scrD; rw [if_neg (by decide)]
  rw [e] at h2
  rw [← h1.1, ← h1.2, ← h2.1, ← h2.2]
  unfold scrD
  split
  · exact sz_down _ _ _ _
  · exact ⟨rfl, rfl⟩
end Uf
end Go.Proofs.YtlnghfmedkfkmaaGreatDoor

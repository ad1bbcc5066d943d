/-
  A made patch as a text: its size and its line feeds; made of the laws of layer 13. Conditions: short blobs; the table of powers. Sizes of what the reference's reader reads. No conditions. A patch of the call's own that is written at one place stays a patch; sizes. No conditions. A made patch: its lines, positions and texts. Conditions: short blobs. The verifier's spoilt of layer 12: a made patch that is changed at one place. Conditions: none beyond the arguments' bounds. How long what hunks make of a text is, and what a loop over the hunks holds. Plain mathematics; no conditions. The program's read and Fits of layer 14. Conditions: a patch of at most a million hunks and lines, with short texts; blobs of at most 2^22 bytes; the table of powers. The program's Apply of layer 14. Conditions: a patch of at most a million hunks and half a million lines, texts of at most 2^22 bytes; blobs of at most 2^22 bytes; the table of powers. What the laws of layer 14 share: patches that are small, the program's calls on them, the sanity check, pick. Condition: the table of powers. The reference's fits and Fits of layer 14. Conditions: a patch that is short enough; blobs of at most 2^22 bytes. The reference's Fits of layer 14. Conditions: a patch that is short enough; blobs of at most 2^22 bytes. The reference's Apply of layer 14. Conditions: a patch that is short enough; blobs of at most 2^22 bytes. The walk of the law PatchApplies of layer 14. Condition: the table of powers. The walk of the law PatchRestores of layer 14. Condition: the table of powers. The walk of the law PatchAny of layer 14. Conditions: the texts of the patch's lines hold at most 1100000 bytes together; the table of powers.
-/
import Derived.Test.YtjecfmbecgpbmaaGreatDoorGStrRd
import Derived.Deep.AppendLies
import Derived.Test.YtjecfmbecgpbmaaGreatDoorTextJoin
import Derived.MapKept
import Derived.ChangeMaps4
import Derived.Test.YtjecfmbecgpbmaaGreatDoorGUniFmt
import Derived.Test.YtjecfmbecgpbmaaGreatDoorUniRMk
import Derived.Test.YtjecfmbecgpbmaaGreatDoorGUniMakes
import Derived.Test.YtjecfmbecgpbmaaGreatDoorStrM
import Derived.Test.YtjecfmbecgpbmaaGreatDoorScrSpoil
import Derived.Deep.CutRange
import Derived.Test.YtjecfmbecgpbmaaGreatDoorGPatB
import Derived.Test.YtjecfmbecgpbmaaGreatDoorGUniCheck
import Derived.Test.YtjecfmbecgpbmaaGreatDoorTextCollect
import Derived.Test.YtjecfmbecgpbmaaGreatDoorGUniIter
import Derived.Test.YtjecfmbecgpbmaaGreatDoorGTextAppend
namespace Go.Proofs.YtjecfmbecgpbmaaGreatDoor
section
section
namespace Cm
end Cm
namespace Hn
end Hn
namespace Sc
end Sc
namespace Uf
end Uf
open Go.RowKit
namespace St
open Uf Cm Hn
open Sc (Pow)
/-- A made patch is short. -/
theorem mk_small {ctx : Int} (hc : 0 ≤ ctx) {s t : ByteArray} (hs : s.size ≤ 36) (ht : t.size ≤ 180) (down : Bool) {on nn : ByteArray} (h1 : nameB on = true) (h2 : nameB nn = true) :
    szL (partsF ⟨on, nn, patH (Sh.lnB s) (Sh.lnB t) ctx (scrD down s t)⟩) ≤ 100000 ∧ (wrAll ⟨on, nn, patH (Sh.lnB s) (Sh.lnB t) ctx (scrD down s t)⟩).length ≤ 1000 := by
  have hL := scrD_lf (s := s) (t := t) (by omega) (by omega) down
  have hP := ph_group hc hL
  have a := Sh.lnB_len s
  have b := Sh.lnB_len t
  obtain ⟨s1, s2⟩ := ph_sub hP
  rw [List.drop_zero] at s1 s2
  have l1 : (allB 43 (patH (Sh.lnB s) (Sh.lnB t) ctx (scrD down s t))).length ≤ 36 := by
    have := s1.length_le
    rw [List.length_map] at this
    exact Nat.le_trans this (by omega)
  have l2 : (allB 45 (patH (Sh.lnB s) (Sh.lnB t) ctx (scrD down s t))).length ≤ 180 := by
    have := s2.length_le
    rw [List.length_map] at this
    exact Nat.le_trans this (by omega)
  obtain ⟨f1, f2⟩ := ph_few hP
  have hn : (patH (Sh.lnB s) (Sh.lnB t) ctx (scrD down s t)).length ≤ 220 := by
    unfold patH
    rw [List.length_map]
    have hk := hL.num
    omega
  have hB : ∀ h ∈ patH (Sh.lnB s) (Sh.lnB t) ctx (scrD down s t), ∀ ln ∈ h.lines, ln.text.size ≤ 180 := by
    intro h hh
    unfold patH at hh
    obtain ⟨k, hk, rfl⟩ := List.mem_map.1 hh
    obtain ⟨m, hm, rfl⟩ := List.mem_iff_getElem.1 hk
    obtain ⟨p, k, oF, nF, oT, nT, e, _, _, hlf⟩ := ph_at hP m hm
    rw [e, mkPH_nat]
    intro ln hln
    rcases (hlf.texts ln hln).1 with h3 | h3
    · exact Nat.le_trans (Sh.lnB_size s _ h3) (by omega)
    · exact Nat.le_trans (Sh.lnB_size t _ h3) ht
  generalize patH (Sh.lnB s) (Sh.lnB t) ctx (scrD down s t) = hks at *
  have z1 := szL_hks (B := 180) hB
  constructor
  · unfold partsF
    rw [szL_cons]
    have n1 := name_sz h1
    have n2 := name_sz h2
    have q1 := qB_size on
    have q2 := qB_size nn
    have e : (hdPt on nn).size = 4 + (qB on).size + 5 + (qB nn).size + 1 := by
      unfold hdPt
      simp only [ByteArray.size_append]
      rfl
    simp only
    rw [e]
    have : ((allB 43 hks).length + (allB 45 hks).length) * (180 + 30) ≤ 216 * 210 := Nat.mul_le_mul (by omega) (Nat.le_refl _)
    omega
  · unfold wrAll wrHd
    have := wr_hks hks
    simp only [List.length_append, List.length_cons, List.length_nil]
    omega
end St
end
section
namespace Sc
end Sc
namespace Uf
end Uf
namespace St
open Sc Uf
def nL (hs : List PH) : Nat := (hs.map fun h => h.lines.length).sum
def tL (ls : List Ln) : Nat := (ls.map fun l => l.text.size).sum
def tS (hs : List PH) : Nat := (hs.map fun h => tL h.lines).sum
theorem tL_app (a b : List Ln) : tL (a ++ b) = tL a + tL b := by unfold tL; rw [List.map_append, List.sum_append]
theorem tL_one (l : Ln) : tL [l] = l.text.size := by unfold tL; simp
theorem szL_lnsT : ∀ (ls : List Ln), szL (lnsPt ls) ≤ tL ls + 30 * ls.length
  | [] => Nat.le_refl _
  | l :: ls => by
    have ih := szL_lnsT ls
    have e : lnsPt (l :: ls) = lnPt l ++ lnsPt ls := by unfold lnsPt; rw [List.flatMap_cons]
    have h1 := szL_ln (ln := l) (B := l.text.size) (Nat.le_refl _)
    have h2 : tL (l :: ls) = l.text.size + tL ls := by rw [show l :: ls = [l] ++ ls from rfl, tL_app, tL_one]
    rw [e, szL_app, h2, List.length_cons]
    omega
theorem szL_hksT : ∀ (hs : List PH), szL (hs.flatMap hkPt) ≤ tS hs + 96 * hs.length + 30 * nL hs
  | [] => Nat.le_refl _
  | h :: hs => by
    have ih := szL_hksT hs
    have h1 := szL_lnsT h.lines
    have h2 : tS (h :: hs) = tL h.lines + tS hs := by unfold tS; simp
    have h3 : nL (h :: hs) = h.lines.length + nL hs := by unfold nL; simp
    have h4 : (hkB h).size ≤ 96 := by
      have := hdr_len h.old h.new h.lines
      unfold hkB
      rw [mk_size]
      exact this
    rw [List.flatMap_cons, szL_app, h2, h3, List.length_cons]
    have e : szL (hkPt h) = (hkB h).size + szL (lnsPt h.lines) := by unfold hkPt; rw [szL_cons]
    omega
theorem allB_le (k : Int) : ∀ hs : List PH, (allB k hs).length ≤ nL hs
  | [] => Nat.le_refl _
  | h :: hs => by
    have ih := allB_le k hs
    have h3 : nL (h :: hs) = h.lines.length + nL hs := by unfold nL; simp
    rw [allB_cons, List.length_append, h3]
    have : (notB k h.lines).length ≤ h.lines.length := by
      unfold notB notK
      rw [List.length_map, List.length_map]
      exact List.length_filter_le _ _
    omega
theorem wr_hksT : ∀ hs : List PH, (hs.flatMap wrHk).length ≤ hs.length + 2 * nL hs
  | [] => Nat.le_refl _
  | h :: hs => by
    have ih := wr_hksT hs
    have h3 : nL (h :: hs) = h.lines.length + nL hs := by unfold nL; simp
    have h4 := wr_lns h.lines
    have ew : (wrHk h).length = (h.lines.flatMap wrLn).length + 1 := by unfold wrHk; rw [List.length_cons]
    rw [List.flatMap_cons, List.length_append, h3, List.length_cons, ew]
    omega
theorem le_sum : ∀ {l : List Nat} {x : Nat}, x ∈ l → x ≤ l.sum
  | a :: l, x, h => by
    rw [List.sum_cons]
    rcases List.mem_cons.1 h with rfl | h
    · omega
    · have := le_sum h
      omega
theorem le_nL {hs : List PH} {h : PH} (hh : h ∈ hs) : h.lines.length ≤ nL hs := le_sum (List.mem_map_of_mem (f := fun h : PH => h.lines.length) hh)
theorem le_tS {hs : List PH} {h : PH} (hh : h ∈ hs) {l : Ln} (hl : l ∈ h.lines) : l.text.size ≤ tS hs := by
  have h1 : l.text.size ≤ tL h.lines := le_sum (List.mem_map_of_mem (f := fun l : Ln => l.text.size) hl)
  have h2 : tL h.lines ≤ tS hs := le_sum (List.mem_map_of_mem (f := fun h : PH => tL h.lines) hh)
  omega
end St
end
section
namespace Cm
end Cm
namespace Hn
end Hn
namespace Sc
end Sc
namespace Uf
end Uf
open Go.RowKit
namespace St
open Uf Cm Sc Hn
/-- Hunks that are small together, at any positions. -/
structure Sq (hs : List PH) (N T : Nat) : Prop where
  n : hs.length + nL hs ≤ N
  t : tS hs ≤ T
  p : ∀ h ∈ hs, (-9223372036854775808 ≤ h.old ∧ h.old ≤ 9223372036854775807) ∧ (-9223372036854775808 ≤ h.new ∧ h.new ≤ 9223372036854775807)
theorem Sq.sh {p : Pat} {N T : Nat} (h : Sq p.hunks N T) (hN : N ≤ 17000) (hT : T ≤ 1100000) : ShOk p := by
  have h1 := h.n
  have h2 := h.t
  refine ⟨⟨⟨by omega, fun x hx => ?_⟩, Nat.le_trans (allB_le 43 _) (by omega), Nat.le_trans (allB_le 45 _) (by omega)⟩, fun n1 n2 _ => ⟨?_, ?_⟩⟩
  · obtain ⟨a, b⟩ := h.p x hx
    exact ⟨Nat.le_trans (le_nL hx) (by omega), a, b, fun l hl => Nat.le_trans (le_tS hx hl) (by omega)⟩
  · unfold partsF
    rw [szL_cons]
    have n1 := name_sz n1
    have n2 := name_sz n2
    have q1 := qB_size p.on
    have q2 := qB_size p.nn
    have e : (hdPt p.on p.nn).size = 4 + (qB p.on).size + 5 + (qB p.nn).size + 1 := by
      unfold hdPt
      simp only [ByteArray.size_append]
      rfl
    rw [e]
    have := szL_hksT p.hunks
    omega
  · unfold wrAll wrHd
    have := wr_hksT p.hunks
    simp only [List.length_append, List.length_cons, List.length_nil]
    omega
theorem tL_max {B : Nat} : ∀ ls : List Ln, (∀ l ∈ ls, l.text.size ≤ B) → tL ls ≤ ls.length * B
  | [], _ => Nat.zero_le _
  | l :: ls, h => by
    have h1 := tL_max ls (fun x hx => h x (List.mem_cons_of_mem _ hx))
    have h2 := h l List.mem_cons_self
    unfold tL at h1 ⊢
    simp only [List.map_cons, List.sum_cons, List.length_cons, Nat.succ_mul] at h1 ⊢
    omega
theorem tS_max {B : Nat} : ∀ hs : List PH, (∀ h ∈ hs, ∀ l ∈ h.lines, l.text.size ≤ B) → tS hs ≤ nL hs * B
  | [], _ => Nat.zero_le _
  | h :: hs, hh => by
    have h1 := tS_max hs (fun x hx => hh x (List.mem_cons_of_mem _ hx))
    have h2 := tL_max h.lines (hh h List.mem_cons_self)
    unfold tS nL at h1 ⊢
    simp only [List.map_cons, List.sum_cons, Nat.add_mul] at h1 ⊢
    omega
/-- Hunks whose texts are short. -/
structure Sb (hs : List PH) (N B : Nat) : Prop where
  n : hs.length + nL hs ≤ N
  t : ∀ h ∈ hs, ∀ l ∈ h.lines, l.text.size ≤ B
  p : ∀ h ∈ hs, (-5000 ≤ h.old ∧ h.old ≤ 5000) ∧ (-5000 ≤ h.new ∧ h.new ≤ 5000)
theorem Sb.sq {hs : List PH} {N B : Nat} (h : Sb hs N B) : Sq hs N (N * B) :=
  ⟨h.n, Nat.le_trans (tS_max hs h.t) (Nat.mul_le_mul (by have := h.n; omega) (Nat.le_refl _)), fun x hx => ⟨⟨by have := (h.p x hx).1; omega, by have := (h.p x hx).1; omega⟩, ⟨by have := (h.p x hx).2; omega, by have := (h.p x hx).2; omega⟩⟩⟩
theorem nL_same {hs gs : List PH} (h : hs.length = gs.length) (he : ∀ j (a : j < hs.length) (b : j < gs.length), hs[j].lines.length = gs[j].lines.length) : nL hs = nL gs := by
  unfold nL
  congr 1
  refine List.ext_getElem (by simp [h]) (fun j a b => ?_)
  simp only [List.getElem_map]
  exact he j (by simpa using a) (by simpa using b)
theorem nL_app (a b : List PH) : nL (a ++ b) = nL a + nL b := by unfold nL; simp
theorem list_choose {α : Type} {P : Nat → α → Prop} : ∀ (n : Nat), (∀ j, j < n → ∃ a, P j a) → ∃ l : List α, l.length = n ∧ ∀ j (h : j < l.length), P j l[j]
  | 0, _ => ⟨[], rfl, fun j h => absurd h (Nat.not_lt_zero _)⟩
  | n + 1, h => by
    obtain ⟨l, h1, h2⟩ := list_choose n (fun j hj => h j (by omega))
    obtain ⟨a, ha⟩ := h n (by omega)
    refine ⟨l ++ [a], by simp [h1], fun j hj => ?_⟩
    by_cases hl : j < l.length
    · rw [List.getElem_append_left hl]; exact h2 j hl
    · have e : j = l.length := by rw [List.length_append] at hj; simp at hj; omega
      subst e
      rw [List.getElem_append_right (Nat.le_refl _)]
      simp only [Nat.sub_self, List.getElem_cons_zero]
      rw [h1]; exact ha
/-- One cell of a line is written. -/
theorem ownL_put {base g e k : Nat} {w : World} {u v : Value} {l : List Ln} (h : OwnL base w v l) (he : e < 2) (y : Ln → Ln) (hy : ∀ x, lineC (y x) = (lineC x).set e u) :
    ∃ l', OwnL base (w.setCell ⟨g, k * 2 + e, none⟩ u) v l' ∧ l'.length = l.length ∧ ∀ x ∈ l', x ∈ l ∨ ∃ z ∈ l, x = y z := by
  have h0 : w.ownsRow base tLn 2 v l.length (flatK lineC l) := h
  rcases h0.2 with ⟨rfl, e0⟩ | ⟨g', cap, cur, rfl, hb, hh, hnc⟩
  · have : l = [] := List.eq_nil_of_length_eq_zero e0
    subst this
    exact ⟨[], OwnL.nil _ _, rfl, fun x hx => by cases hx⟩
  · by_cases hg : g' = g
    · subst hg
      have h3 := (h0.stored (k * 2 + e) u).1
      by_cases hk : k < l.length
      · rw [Sc.flat_set lineC_len l k hk e he u (y l[k]) (hy _)] at h3
        refine ⟨l.set k (y l[k]), by unfold OwnL; rw [List.length_set]; exact h3, List.length_set .., fun x hx => ?_⟩
        rcases List.mem_or_eq_of_mem_set hx with h1 | h1
        · exact .inl h1
        · exact .inr ⟨_, List.getElem_mem hk, h1⟩
      · rw [List.set_eq_of_length_le (by rw [flatK_len lineC_len]; omega)] at h3
        exact ⟨l, h3, rfl, fun x hx => .inl hx⟩
    · refine ⟨l, ?_, rfl, fun x hx => .inl hx⟩
      exact ownsRow_setCell_other h0 (a := ⟨g, k * 2 + e, none⟩) (by simp [Value.ownBlock]; exact hg) u
theorem ownP_line {base g e k n c : Nat} {w : World} {u v : Value} {hs : List PH} {l : List Ln} (h : OwnP base w v hs) (hl : OwnL base w (.slice (some ⟨g, 0, none⟩) n c) l) (he : e < 2) (y : Ln → Ln) (hy : ∀ x, lineC (y x) = (lineC x).set e u) {N B : Nat} (hsb : Sb hs N B) (hB : ∀ x : Ln, x.text.size ≤ B → (y x).text.size ≤ B + 1) :
    ∃ hs', OwnP base (w.setCell ⟨g, k * 2 + e, none⟩ u) v hs' ∧ hs'.length = hs.length ∧ Sb hs' N (B + 1) := by
  obtain ⟨zs, h1, h2, h3⟩ := h
  have hrow : (w.setCell ⟨g, k * 2 + e, none⟩ u).ownsRow base tPh 3 v zs.length (flatK hunkC zs) := by
    refine ownsRow_setCell_other h1 (a := ⟨g, k * 2 + e, none⟩) ?_ u
    rcases ownK_ne h1 hl (by decide) with h4 | h4
    · rw [h4]; exact fun e => by cases e
    · exact h4
  obtain ⟨hs', e1, e2⟩ := list_choose (P := fun j (x : PH) => ∀ (a : j < zs.length) (b : j < hs.length), x.old = hs[j].old ∧ x.new = hs[j].new ∧ x.lines.length = hs[j].lines.length ∧ OwnL base (w.setCell ⟨g, k * 2 + e, none⟩ u) zs[j].u x.lines ∧ ∀ ln ∈ x.lines, ln.text.size ≤ B + 1) hs.length (fun j hj => by
    obtain ⟨l', q1, q2, q3⟩ := ownL_put (g := g) (k := k) (h3 j (by omega) hj).2.2 he y hy
    exact ⟨⟨hs[j].old, hs[j].new, l'⟩, fun a b => ⟨rfl, rfl, q2, q1, fun ln hln => by
      rcases q3 ln hln with h5 | ⟨z, h5, rfl⟩
      · exact Nat.le_succ_of_le (hsb.t _ (List.getElem_mem hj) ln h5)
      · exact hB z (hsb.t _ (List.getElem_mem hj) z h5)⟩⟩)
  refine ⟨hs', ⟨zs, hrow, by omega, fun j a b => ?_⟩, e1, ⟨?_, ?_, ?_⟩⟩
  · obtain ⟨r1, r2, r3, r4, r5⟩ := e2 j b a (by omega)
    exact ⟨by rw [(h3 j a (by omega)).1, r1], by rw [(h3 j a (by omega)).2.1, r2], r4⟩
  · rw [e1, nL_same e1 (fun j a b => (e2 j a (by omega) b).2.2.1)]; exact hsb.n
  · intro x hx
    obtain ⟨j, hj, rfl⟩ := List.mem_iff_getElem.1 hx
    exact (e2 j hj (by omega) (by omega)).2.2.2.2
  · intro x hx
    obtain ⟨j, hj, rfl⟩ := List.mem_iff_getElem.1 hx
    have r := e2 j hj (by omega) (by omega)
    rw [r.1, r.2.1]
    exact hsb.p _ (List.getElem_mem (by omega))
/-- Where the rows of a patch lie. -/
theorem ownP_row {base G n c : Nat} {w : World} {hs : List PH} (h : OwnP base w (.slice (some ⟨G, 0, none⟩) n c) hs) (k : Nat) (hk : k < hs.length) : base ≤ G ∧ ∃ (Al : Option Addr) (cl : Nat),
    w.cell? ⟨G, k * 3, none⟩ = some (.int .i64 hs[k].old) ∧ w.cell? ⟨G, k * 3 + 1, none⟩ = some (.int .i64 hs[k].new) ∧ w.cell? ⟨G, k * 3 + 2, none⟩ = some (.slice Al hs[k].lines.length cl) ∧ OwnL base w (.slice Al hs[k].lines.length cl) hs[k].lines ∧ ∀ j, w.frozen? ⟨G, j, none⟩ = false := by
  obtain ⟨zs, h1, h2, h3⟩ := h
  have hb : base ≤ G := (h1.lt G rfl).1
  have hn : n = zs.length := by
    obtain ⟨A, c', e⟩ := (show RdK 3 hunkC w (.slice (some ⟨G, 0, none⟩) n c) zs from RdK.of_own hunkC_len h1).form
    injection e
  subst hn
  obtain ⟨g1, g2, g3⟩ := h3 k (by omega) hk
  obtain ⟨Al, cl, eu⟩ := g3.form
  have cc : ∀ i, i < 3 → w.cell? ⟨G, k * 3 + i, none⟩ = (hunkC zs[k])[i]? := fun i hi => by
    rw [h1.cellAt (k * 3 + i) (by omega), flatK_get hunkC_len zs k (by omega) i hi]
  have c0 := cc 0 (by decide)
  have c1 := cc 1 (by decide)
  have c2 := cc 2 (by decide)
  simp only [hunkC, List.getElem?_cons_zero, List.getElem?_cons_succ, Nat.add_zero] at c0 c1 c2
  rw [g1] at c0
  rw [g2] at c1
  rw [eu] at c2 g3
  exact ⟨hb, Al, cl, c0, c1, c2, g3, fun j => h1.frozenAt j⟩
theorem nL_set {hs : List PH} {k : Nat} {x : PH} (hk : k < hs.length) (h : x.lines.length ≤ hs[k].lines.length) : nL (hs.set k x) ≤ nL hs := by
  have e : hs = hs.take k ++ hs[k] :: hs.drop (k + 1) := by rw [← List.drop_eq_getElem_cons hk, List.take_append_drop]
  have e2 : hs.set k x = hs.take k ++ x :: hs.drop (k + 1) := List.set_eq_take_append_cons_drop.trans (if_pos hk)
  rw [e2]
  conv => rhs; rw [e]
  rw [nL_app, nL_app]
  unfold nL
  simp only [List.map_cons, List.sum_cons]
  omega
theorem Sb.set {hs : List PH} {N B : Nat} (h : Sb hs N B) {k : Nat} {x : PH} (hk : k < hs.length) (h1 : x.lines.length ≤ hs[k].lines.length) (h2 : ∀ l ∈ x.lines, l ∈ hs[k].lines) (h3 : (-5000 ≤ x.old ∧ x.old ≤ 5000) ∧ (-5000 ≤ x.new ∧ x.new ≤ 5000)) : Sb (hs.set k x) N B := by
  refine ⟨?_, fun y hy => ?_, fun y hy => ?_⟩
  · have := nL_set hk h1
    have := h.n
    rw [List.length_set]
    omega
  · rcases List.mem_or_eq_of_mem_set hy with h4 | h4
    · exact h.t y h4
    · rw [h4]; exact fun l hl => h.t _ (List.getElem_mem hk) l (h2 l hl)
  · rcases List.mem_or_eq_of_mem_set hy with h4 | h4
    · exact h.p y h4
    · rw [h4]; exact h3
/-- A position of a hunk is written. -/
theorem ownP_pos {base G n c k e : Nat} {w : World} {hs : List PH} (h : OwnP base w (.slice (some ⟨G, 0, none⟩) n c) hs) (hk : k < hs.length) (he : e < 2) (z : Int) (x : PH) (hx : x = if e = 0 then ⟨z, hs[k].new, hs[k].lines⟩ else ⟨hs[k].old, z, hs[k].lines⟩) :
    OwnP base (w.setCell ⟨G, k * 3 + e, none⟩ (.int .i64 z)) (.slice (some ⟨G, 0, none⟩) n c) (hs.set k x) := by
  obtain ⟨zs, h1, h2, h3⟩ := h
  have hn : n = zs.length := by
    obtain ⟨A, c', e⟩ := (show RdK 3 hunkC w (.slice (some ⟨G, 0, none⟩) n c) zs from RdK.of_own hunkC_len h1).form
    injection e
  subst hn
  have hkz : k < zs.length := by omega
  have hst := (h1.stored (k * 3 + e) (.int .i64 z)).1
  rw [Sc.flat_set hunkC_len zs k hkz e (by omega) (.int .i64 z) (if e = 0 then ⟨z, zs[k].new, zs[k].u⟩ else ⟨zs[k].old, z, zs[k].u⟩) (by
    have he2 : e = 0 ∨ e = 1 := by omega
    rcases he2 with rfl | rfl <;> rfl)] at hst
  refine ⟨zs.set k (if e = 0 then ⟨z, zs[k].new, zs[k].u⟩ else ⟨zs[k].old, z, zs[k].u⟩), by rw [List.length_set]; exact hst, by rw [List.length_set, List.length_set]; exact h2, fun j a b => ?_⟩
  rw [List.length_set] at a b
  obtain ⟨g1, g2, g3⟩ := h3 j a b
  have g4 : OwnL base (w.setCell ⟨G, k * 3 + e, none⟩ (.int .i64 z)) zs[j].u hs[j].lines := by
    refine ownsRow_setCell_other (show w.ownsRow base tLn 2 zs[j].u hs[j].lines.length (flatK lineC hs[j].lines) from g3) (a := ⟨G, k * 3 + e, none⟩) ?_ _
    rcases ownK_ne (show w.ownsRow base tLn 2 zs[j].u hs[j].lines.length (flatK lineC hs[j].lines) from g3) h1 (by decide) with h4 | h4
    · rw [h4]; exact fun e => by cases e
    · exact h4
  have he2 : e = 0 ∨ e = 1 := by omega
  by_cases hjk : j = k
  · subst hjk
    rw [List.getElem_set_self, List.getElem_set_self, hx]
    rcases he2 with rfl | rfl
    · exact ⟨rfl, g2, g4⟩
    · exact ⟨g1, rfl, g4⟩
  · rw [List.getElem_set_ne (fun e => hjk e.symm), List.getElem_set_ne (fun e => hjk e.symm)]
    exact ⟨g1, g2, g4⟩
theorem Sb.mono {hs : List PH} {N B N' B' : Nat} (h : Sb hs N B) (h1 : N ≤ N') (h2 : B ≤ B') : Sb hs N' B' := ⟨Nat.le_trans h.n h1, fun x hx l hl => Nat.le_trans (h.t x hx l hl) h2, h.p⟩
end St
end
section
namespace Cm
end Cm
namespace Hn
end Hn
namespace Sc
end Sc
namespace Uf
end Uf
open Go.RowKit
namespace St
open Uf Cm Sc Hn
theorem hks_ne : ∀ (hs : List PH) (o n : Sd), hksB o n hs = true → ∀ h ∈ hs, h.lines ≠ []
  | [], _, _, _, h, hh => by cases hh
  | g :: r, o, n, hk, h, hh => by
    obtain ⟨s1, s2⟩ := hks_step (o := o) (n := n) (h := g) (r := r)
    cases h1 : skipB o n g with
    | false => rw [s1 h1] at hk; cases hk
    | true =>
      obtain ⟨s3, s4⟩ := s2 h1
      cases h2 : lnsSt (g.old, o.2) (g.new, n.2) g.lines with
      | none => rw [s3 h2] at hk; cases hk
      | some q =>
        obtain ⟨o', n'⟩ := q
        obtain ⟨s5, s6⟩ := s4 o' n' h2
        cases h3 : chgB g.lines with
        | false => rw [s5 h3] at hk; cases hk
        | true =>
          rw [s6 h3] at hk
          rcases List.mem_cons.1 hh with rfl | hh
          · intro e; rw [e] at h3; exact absurd h3 (by decide)
          · exact hks_ne r o' n' hk h hh
theorem wr_ge : ∀ hs : List PH, hs.length + nL hs ≤ (hs.flatMap wrHk).length
  | [] => Nat.le_refl _
  | h :: hs => by
    have ih := wr_ge hs
    have hl : ∀ ls : List Ln, ls.length ≤ (ls.flatMap wrLn).length := by
      intro ls
      induction ls with
      | nil => exact Nat.le_refl _
      | cons l r ih =>
        rw [List.flatMap_cons, List.length_append, List.length_cons]
        have : 1 ≤ (wrLn l).length := by unfold wrLn; simp
        omega
    rw [List.flatMap_cons, List.length_append]
    have h2 : (wrHk h).length = 1 + (h.lines.flatMap wrLn).length := by unfold wrHk; rw [List.length_cons]; omega
    have h3 := hl h.lines
    unfold nL at ih ⊢
    simp only [List.map_cons, List.sum_cons, List.length_cons]
    omega
theorem mk_sb {ctx : Int} (hc : 0 ≤ ctx) {s t : ByteArray} (hs : s.size ≤ 36) (ht : t.size ≤ 180) {on nn : ByteArray} (h1 : nameB on = true) (h2 : nameB nn = true) :
    Sb (patH (Sh.lnB s) (Sh.lnB t) ctx (scrD false s t)) 1000 180 ∧ (∀ h ∈ patH (Sh.lnB s) (Sh.lnB t) ctx (scrD false s t), h.lines ≠ []) ∧ ∀ h ∈ patH (Sh.lnB s) (Sh.lnB t) ctx (scrD false s t), (0 ≤ h.old ∧ h.old ≤ 4096) ∧ (0 ≤ h.new ∧ h.new ≤ 4096) := by
  have hok := mk_ok (ctx := ctx) hc (show s.size ≤ 1000 by omega) (show t.size ≤ 1000 by omega) false h1 h2
  have hsm := mk_small (ctx := ctx) hc hs ht false h1 h2
  have hL := scrD_lf (s := s) (t := t) (by omega) (by omega) false
  have hP := ph_group hc hL
  have hB : ∀ h ∈ patH (Sh.lnB s) (Sh.lnB t) ctx (scrD false s t), ∀ ln ∈ h.lines, ln.text.size ≤ 180 := by
    intro h hh
    unfold patH at hh
    obtain ⟨k, hk, rfl⟩ := List.mem_map.1 hh
    obtain ⟨m, hm, rfl⟩ := List.mem_iff_getElem.1 hk
    obtain ⟨p, k, oF, nF, oT, nT, e, _, _, hlf⟩ := ph_at hP m hm
    rw [e, mkPH_nat]
    intro ln hln
    rcases (hlf.texts ln hln).1 with h3 | h3
    · exact Nat.le_trans (Sh.lnB_size s _ h3) (by omega)
    · exact Nat.le_trans (Sh.lnB_size t _ h3) ht
  have hpk := okPat_of hok.chk
  have hch : hksB (0, false) (0, false) (patH (Sh.lnB s) (Sh.lnB t) ctx (scrD false s t)) = true := by
    have := hok.chk
    unfold chkC at this
    split at this
    · split at this
      · rename_i hx; exact hx
      · exact absurd this (by decide)
    · exact absurd this (by decide)
  refine ⟨⟨?_, hB, fun h hh => ?_⟩, hks_ne _ _ _ hch, fun h hh => ⟨(hpk.hk h hh).1, (hpk.hk h hh).2.1⟩⟩
  · have h3 := hsm.2
    unfold wrAll at h3
    rw [List.length_append] at h3
    have h4 := wr_ge (patH (Sh.lnB s) (Sh.lnB t) ctx (scrD false s t))
    simp only at h3
    omega
  · have h3 := (hpk.hk h hh)
    have h4 := h3.1
    have h5 := h3.2.1
    omega
theorem own_type {w : World} {base B n k o : Nat} {e t : TypeId} {v u : Value} {xs l : List Value} (h : w.ownsRow base e k v n xs) (hB : Blk w B t l) (hne : e ≠ t) : (w.setCell ⟨B, o, none⟩ u).ownsRow base e k v n xs := by
  refine ownsRow_setCell_other h (a := ⟨B, o, none⟩) ?_ u
  rcases h.2 with ⟨rfl, _⟩ | ⟨g, cap, cur, rfl, _, hh, _⟩
  · simp [Value.ownBlock]
  · simp only [Value.ownBlock, ne_eq, Option.some.injEq]
    intro e2
    subst e2
    unfold Blk at hB
    rw [hB] at hh
    injection hh with hh
    injection hh with _ h2
    exact hne h2.symm
theorem ownP_box {base B o : Nat} {w : World} {v u : Value} {l : List Value} {hs : List PH} (h : OwnP base w v hs) (hB : Blk w B tPat l) : OwnP base (w.setCell ⟨B, o, none⟩ u) v hs := by
  obtain ⟨zs, h1, h2, h3⟩ := h
  exact ⟨zs, own_type h1 hB (by decide), h2, fun j a b => ⟨(h3 j a b).1, (h3 j a b).2.1, own_type (show w.ownsRow base tLn 2 zs[j].u hs[j].lines.length (flatK lineC hs[j].lines) from (h3 j a b).2.2) hB (by decide)⟩⟩
end St
end
section
namespace Cm
end Cm
namespace Hn
end Hn
namespace Sc
end Sc
namespace Uf
end Uf
open Go.RowKit
namespace St
open Uf Cm Hn
open Sc (Pow below_drewN)
theorem put3 {w W : World} {R : Nat} (h : Below R w W) (u v x : Value) : Below R w (((W.setCell ⟨R, 0, none⟩ u).setCell ⟨R, 1, none⟩ v).setCell ⟨R, 2, none⟩ x) :=
  ((h.setCell (p := ⟨R, 0, none⟩) (Nat.le_refl _) _).setCell (p := ⟨R, 1, none⟩) (Nat.le_refl _) _).setCell (p := ⟨R, 2, none⟩) (Nat.le_refl _) _
theorem ownP_some {base : Nat} {w : World} {v : Value} {hs : List PH} (h : OwnP base w v hs) (hl : 0 < hs.length) : ∃ G c, v = .slice (some ⟨G, 0, none⟩) hs.length c ∧ base ≤ G ∧ G < w.heap.size := by
  obtain ⟨zs, h1, h2, -⟩ := h
  obtain ⟨G, c, e, e2, e3⟩ := World.ownsRow.form h1 (by omega)
  rw [h2] at e
  exact ⟨G, c, e, e2, e3⟩
theorem ownL_some {base : Nat} {w : World} {v : Value} {ls : List Ln} (h : OwnL base w v ls) (hl : 0 < ls.length) : ∃ G c, v = .slice (some ⟨G, 0, none⟩) ls.length c ∧ base ≤ G ∧ G < w.heap.size :=
  World.ownsRow.form (show w.ownsRow base tLn 2 v ls.length (Sc.flatK lineC ls) from h) hl
theorem mod_at (a : Int) (h0 : -9223372036854775808 ≤ a) (h1 : a ≤ 9223372036854775807) (n : Nat) (hn : 0 < n) (hn2 : n ≤ 100000) : ∃ k : Nat, k < n ∧ ∀ w, Calls Tryz.prog 18 #[.int .i64 a, .int .i64 (n : Int)] w fun e w' => e = .returned (.int .i64 (k : Int)) ∧ w' = w := by
  have hlo := Tx.modF_lo a (n : Int) (by omega)
  have hhi := Tx.modF_hi a (n : Int) (by omega)
  obtain ⟨k, hk⟩ := Int.eq_ofNat_of_zero_le hlo
  refine ⟨k, by omega, fun w => ?_⟩
  have := Tx.Mod_any a (n : Int) w (by omega) (by omega) h0 h1
  rw [hk] at this
  exact this.mono fun e w' ⟨a, b⟩ => ⟨a, b.symm⟩
end St
end
end
section
section
namespace Hn
end Hn
namespace Sc
end Sc
namespace Sl
end Sl
namespace St
end St
namespace Uf
end Uf
namespace Pa
open Uf Sc Hn Sl
open St (nL tL tS)
def totS (l : List ByteArray) : Nat := (l.map (·.size)).sum
theorem totS_app (a b : List ByteArray) : totS (a ++ b) = totS a + totS b := by unfold totS; rw [List.map_append, List.sum_append]
theorem totS_cons (a : ByteArray) (l : List ByteArray) : totS (a :: l) = a.size + totS l := by unfold totS; simp
theorem totS_total : ∀ l : List ByteArray, Tx.total l = totS l
  | [] => rfl
  | a :: l => by
    have ih := totS_total l
    unfold Tx.total at ih ⊢
    rw [totS_cons, ← ih]
    simp only [Tx.bss, List.map_cons, List.flatten_cons, List.length_append]
    rw [show (Tx.bs a).length = a.size from rfl]
theorem totS_drop (l : List ByteArray) (i k : Nat) (h : i ≤ k) : totS (l.drop k) ≤ totS (l.drop i) := by
  have e : l.drop k = (l.drop i).drop (k - i) := by rw [List.drop_drop, show i + (k - i) = k from by omega]
  rw [e]
  conv => rhs; rw [← List.take_append_drop (k - i) (l.drop i)]
  rw [totS_app]; omega
theorem notK_len (k : Int) (ls : List Ln) : (notK k ls).length ≤ ls.length := by
  unfold notK
  rw [List.length_map]
  exact List.length_filter_le _ _
theorem notK_tot (k : Int) : ∀ ls : List Ln, totS (notK k ls) ≤ tL ls
  | [] => Nat.le_refl _
  | l :: ls => by
    have ih := notK_tot k ls
    have e : tL (l :: ls) = l.text.size + tL ls := by unfold tL; simp
    rw [e]
    unfold notK at ih ⊢
    by_cases h : l.kind = k
    · rw [List.filter_cons_of_neg (by simpa using h)]; omega
    · rw [List.filter_cons_of_pos (by simpa using h), List.map_cons, totS_cons]; omega
theorem cut_le (xs : List ByteArray) (i o : Nat) : (cut xs i o).length ≤ min o xs.length - i := by
  unfold cut
  rw [List.length_take, List.length_drop]
  omega
theorem app_len {xs : List ByteArray} : ∀ {hs : List PH} {i j : Nat}, geo i j hs → (appT xs i hs).length ≤ (xs.length - i) + nL hs
  | [], i, _, _ => by unfold appT; rw [List.length_drop]; omega
  | h :: hs, i, j, ⟨o, n, e1, e2, h1, h2, h3, h4⟩ => by
    have ih := app_len (xs := xs) h4
    have c := cut_le xs i o
    have c2 := notK_len 45 h.lines
    have e : nL (h :: hs) = h.lines.length + nL hs := by unfold nL; simp
    rw [appT, e1, Int.toNat_natCast, List.length_append, List.length_append, e]
    unfold newT
    omega
theorem app_tot {xs : List ByteArray} : ∀ {hs : List PH} {i j : Nat}, geo i j hs → totS (appT xs i hs) ≤ totS (xs.drop i) + tS hs
  | [], i, _, _ => by unfold appT; omega
  | h :: hs, i, j, ⟨o, n, e1, e2, h1, h2, h3, h4⟩ => by
    have ih := app_tot (xs := xs) h4
    have c2 := notK_tot 45 h.lines
    have e : tS (h :: hs) = tL h.lines + tS hs := by unfold tS; simp
    have c3 := totS_drop xs o (o + (oldT h).length) (by omega)
    have c4 := congrArg totS (cut_drop xs h1)
    rw [totS_app] at c4
    rw [appT, e1, Int.toNat_natCast, totS_app, totS_app, e]
    unfold newT
    omega
theorem totS_lnB (s : ByteArray) : totS (Sh.lnB s) = s.size := by
  rw [← totS_total]
  unfold Tx.total
  have h := lnB_flat s
  unfold Tx.bss
  rw [h]
  rfl
/-- What the result may be: its lines are few, and short together. -/
theorem app_small {p : Pat} {s : ByteArray} (hc : chkC p = 0) : (appT (Sh.lnB s) 0 p.hunks).length ≤ (Sh.lnB s).length + nL p.hunks ∧ totS (appT (Sh.lnB s) 0 p.hunks) ≤ s.size + tS p.hunks := by
  have h1 := app_len (xs := Sh.lnB s) (chkC_geo hc)
  have h2 := app_tot (xs := Sh.lnB s) (chkC_geo hc)
  rw [List.drop_zero, totS_lnB] at h2
  exact ⟨by omega, h2⟩
/-- Where a loop over the hunks stands behind j of them, all of which the text has. -/
def At (xs : List ByteArray) (hs : List PH) (j : Nat) (acc : List ByteArray) (i : Nat) : Prop :=
  fitN xs hs = j + fitN xs (hs.drop j) ∧ acc ++ appT xs i (hs.drop j) = appT xs 0 hs ∧ (∃ n, geo i n (hs.drop j)) ∧ i ≤ xs.length
theorem At.zero {xs : List ByteArray} {hs : List PH} {n : Nat} (h : geo 0 n hs) : At xs hs 0 [] 0 := ⟨by simp, by simp, ⟨n, h⟩, Nat.zero_le _⟩
theorem At.len {xs : List ByteArray} {hs : List PH} {j : Nat} {acc : List ByteArray} {i : Nat} (h : At xs hs j acc i) : acc.length ≤ (appT xs 0 hs).length := by
  have := congrArg List.length h.2.1
  rw [List.length_append] at this
  omega
theorem At.place {xs : List ByteArray} {hs : List PH} {j : Nat} {acc : List ByteArray} {i : Nat} (h : At xs hs j acc i) (hj : j < hs.length) : ∃ o : Nat, hs[j].old = o ∧ i ≤ o := by
  obtain ⟨_, _, ⟨n, h3⟩, _⟩ := h
  rw [List.drop_eq_getElem_cons hj] at h3
  obtain ⟨o, n', e1, _, e3, _⟩ := h3
  exact ⟨o, e1, e3⟩
theorem At.no {xs : List ByteArray} {hs : List PH} {j : Nat} {acc : List ByteArray} {i : Nat} (h : At xs hs j acc i) (hj : j < hs.length) (hf : ¬ fitH xs hs[j]) : fitN xs hs = j := by
  obtain ⟨h1, _⟩ := h
  rw [List.drop_eq_getElem_cons hj, fitN, if_neg hf] at h1
  omega
theorem At.step {xs : List ByteArray} {hs : List PH} {j : Nat} {acc : List ByteArray} {i : Nat} (h : At xs hs j acc i) (hj : j < hs.length) (hf : fitH xs hs[j]) : At xs hs (j + 1) (acc ++ cut xs i hs[j].old.toNat ++ newT hs[j]) (hs[j].old.toNat + (oldT hs[j]).length) := by
  obtain ⟨h1, h2, ⟨n, h3⟩, h4⟩ := h
  rw [List.drop_eq_getElem_cons hj] at h1 h2 h3
  rw [fitN, if_pos hf] at h1
  obtain ⟨o, n', e1, e2, e3, e4, e5, e6⟩ := h3
  refine ⟨by omega, ?_, ⟨n' + (newT hs[j]).length, by rw [e1, Int.toNat_natCast]; exact e6⟩, hf.1⟩
  rw [← h2, appT]
  simp only [List.append_assoc]
theorem At.stop {xs : List ByteArray} {hs : List PH} {acc : List ByteArray} {i : Nat} (h : At xs hs hs.length acc i) : fitN xs hs = hs.length ∧ acc ++ xs.drop i = appT xs 0 hs := by
  obtain ⟨h1, h2, _, _⟩ := h
  rw [List.drop_length] at h1 h2
  exact ⟨h1, h2⟩
/-- The answer of Apply, when all hunks fit. -/
theorem app_joined {p : Pat} {s : ByteArray} (h1 : chkC p = 0) (h2 : Tx.checkF (Tx.bs s) = 0) (h3 : fitN (Sh.lnB s) p.hunks = p.hunks.length) :
    applyF p s = if Tx.isListF (Tx.bss (appT (Sh.lnB s) 0 p.hunks)) = false then (⟨#[]⟩, 140) else Tx.joinF (appT (Sh.lnB s) 0 p.hunks) := by
  unfold applyF Tx.joinF
  rw [fits_ok h1 h2, if_neg (fun q => q rfl), if_neg (by rw [h3]; exact Nat.lt_irrefl _)]
  have e : (allJ (appT (Sh.lnB s) 0 p.hunks)).size = Tx.total (appT (Sh.lnB s) 0 p.hunks) := by
    unfold allJ Tx.total
    exact Tx.size_mk _
  rw [e]
  split
  · rfl
  · rfl
theorem app_miss {p : Pat} {s : ByteArray} (h1 : chkC p = 0) (h2 : Tx.checkF (Tx.bs s) = 0) (h3 : fitN (Sh.lnB s) p.hunks < p.hunks.length) : applyF p s = (⟨#[]⟩, 140) := by
  unfold applyF
  rw [fits_ok h1 h2, if_neg (fun q => q rfl), if_pos h3]
theorem app_err {p : Pat} {s : ByteArray} (h : (fitsF p s).2 ≠ 0) : applyF p s = (⟨#[]⟩, (fitsF p s).2) := by
  unfold applyF
  rw [if_pos h]
theorem fits_bad {p : Pat} {s : ByteArray} (h : chkC p ≠ 0) : fitsF p s = (0, chkC p) := by unfold fitsF; rw [if_pos h]
theorem fits_big {p : Pat} {s : ByteArray} (h1 : chkC p = 0) (h : Tx.checkF (Tx.bs s) ≠ 0) : fitsF p s = (0, Tx.checkF (Tx.bs s)) := by unfold fitsF; rw [if_neg (fun q => q h1), if_pos h]
theorem fit_dec {xs : List ByteArray} {h : PH} {o : Nat} (ho : h.old = o) : decide (o + (oldT h).length ≤ xs.length ∧ cut xs o (o + (oldT h).length) = oldT h) = decide (fitH xs h) := by
  rw [decide_eq_decide]
  unfold fitH
  rw [ho, Int.toNat_natCast]
theorem fits_fst {p : Pat} {s : ByteArray} (h : (fitsF p s).2 ≠ 0) : (fitsF p s).1 = 0 := by
  by_cases h1 : chkC p = 0
  · by_cases h2 : Tx.checkF (Tx.bs s) = 0
    · rw [fits_ok h1 h2] at h; exact absurd rfl h
    · rw [fits_big h1 h2]
  · rw [fits_bad h1]
end Pa
end
section
namespace Cm
end Cm
namespace Hn
end Hn
namespace Sc
end Sc
namespace Tx
end Tx
namespace Uf
end Uf
open Go.RowKit
namespace Pa
open Cm Uf Hn
open Sc (RdK ownK_base ownK_below Pow)
open Tx (bs RdS strsV StrsPost)
/-- What read leaves: the lines, or an error. -/
def RePost (p : Pat) (s : ByteArray) (w : World) (e : Ending) (w' : World) : Prop := ∃ v, e = .returned (.tuple #[v, .int .i64 (fitsF p s).2]) ∧ ((fitsF p s).2 = 0 → RdS w' v (Sh.lnB s)) ∧ Below w.heap.size w w'
set_option maxRecDepth 100000 in
set_option maxHeartbeats 2000000 in
theorem read_any (p : Pat) (v : Value) (s : ByteArray) (w : World) (hr : RdP w v p.hunks) (hsm : PatSm p.hunks) (hs : s.size ≤ 4194304) (hp : Pow w) : Calls Tryz.prog 33 #[tPatV p v, .string s] w (RePost p s w) := by
  have HB0 := Lib.hid ((Below.refl w.heap.size w).alloc (Nat.le_refl _) (.cells #[.string p.on, .string p.nn, v] tPat))
  have hrd := hr.below HB0.out
  obtain ⟨A, c, rfl⟩ := hr.form
  have HCk := Lib.hid (Check_any p _ _ hrd hsm (hp.stays HB0.out))
  have HSp := Lib.hid (fun w => Tx.Split_any s w hs)
  unfold CkPost at HCk
  unfold Tx.SplitPost at HSp
  have HK : Hid (Blk (w.alloc (.cells #[.string p.on, .string p.nn, .slice A p.hunks.length c] tPat)) w.heap.size tPat [.string p.on, .string p.nn, .slice A p.hunks.length c]) := Lib.hid (heap_new w _)
  obtain ⟨k0, k1, k2, -, -⟩ := blk3 HK.out
  obtain ⟨W, hW⟩ : ∃ W, W = w.alloc (.cells #[.string p.on, .string p.nn, .slice A p.hunks.length c] tPat) := ⟨_, rfl⟩
  rw [← hW] at HB0 HCk HK k0 k1 k2
  clear hr hrd hsm hp
  by_cases hc : chkC p = 0
  · have HFin : Hid (∀ v' w', RdS w' v' (Tx.mks (if Tx.checkF (bs s) = 0 then Tx.linesF (bs s) else [])) → Below w.heap.size w w' → RePost p s w (.returned (.tuple #[v', .int .i64 (Tx.checkF (bs s))])) w') := Lib.hid (fun v' w' h1 h2 => by
      by_cases h0 : Tx.checkF (bs s) = 0
      · rw [if_pos h0] at h1
        refine ⟨v', by rw [fits_ok hc h0, h0], fun _ => h1, h2⟩
      · refine ⟨v', by rw [fits_big hc h0], fun h => ?_, h2⟩
        rw [fits_big hc h0] at h
        exact absurd h h0)
    rw [hc] at HCk
    clear hc
    generalize Tx.checkF (bs s) = z at *
    go_enter Tryz.func33, Tryz.ntmps33
    go_upto_region 1 with fail
    rw [← hW]
    clear hW
    go_wp2_with (first
      | (go_at_call 43; refine HCk.out.mono ?_; rintro e w1 ⟨rfl, hb⟩; have HB1 := Lib.hid (HB0.out.trans (hb.mono HB0.out.size)); clear hb)
      | (go_at_call 59; refine (HSp.out _).mono ?_; rintro e w2 ⟨v2, rfl, hr2, hb2⟩; have HB2 := Lib.hid (HB1.out.trans (hb2.mono HB1.out.size)); have HR2 := Lib.hid hr2; clear hb2 hr2))
    go_ret2
    exact HFin.out _ _ HR2.out HB2.out
  · have HFin : Hid (∀ w', Below w.heap.size w w' → RePost p s w (.returned (.tuple #[.slice none 0 0, .int .i64 (chkC p)])) w') := Lib.hid (fun w' h2 => ⟨_, by rw [fits_bad hc], fun h => by rw [fits_bad hc] at h; exact absurd h hc, h2⟩)
    have e1 : (chkC p != 0) = true := by rw [bne_iff_ne]; exact hc
    clear hc HSp
    generalize chkC p = z at *
    go_enter Tryz.func33, Tryz.ntmps33
    go_upto_region 1 with fail
    rw [← hW]
    clear hW
    go_wp2_with (go_at_call 43; refine HCk.out.mono ?_; rintro e w1 ⟨rfl, hb⟩; have HB1 := Lib.hid (HB0.out.trans (hb.mono HB0.out.size)); clear hb)
    go_ret2
    exact HFin.out _ HB1.out
/-- What Fits leaves. -/
def FiPost (p : Pat) (s : ByteArray) (w : World) (e : Ending) (w' : World) : Prop := e = .returned (.tuple #[.int .i64 (fitsF p s).1, .int .i64 (fitsF p s).2]) ∧ Below w.heap.size w w'
set_option maxRecDepth 100000 in
set_option maxHeartbeats 4000000 in
theorem Fits_any (p : Pat) (v : Value) (s : ByteArray) (w : World) (hr : RdP w v p.hunks) (hsm : PatSm p.hunks) (hs : s.size ≤ 4194304) (hp : Pow w) : Calls Tryz.prog 16 #[tPatV p v, .string s] w (FiPost p s w) := by
  have HB0 := Lib.hid ((Below.refl w.heap.size w).alloc (Nat.le_refl _) (.cells #[.string p.on, .string p.nn, v] tPat))
  have hrd := hr.below HB0.out
  obtain ⟨A, c, rfl⟩ := hr.form
  have HRe := Lib.hid (read_any p _ s _ hrd hsm hs (hp.stays HB0.out))
  unfold RePost at HRe
  have HR := Lib.hid (fun w' (hb : Below w.heap.size w w') => hr.below hb)
  have HK : Hid (Blk (w.alloc (.cells #[.string p.on, .string p.nn, .slice A p.hunks.length c] tPat)) w.heap.size tPat [.string p.on, .string p.nn, .slice A p.hunks.length c]) := Lib.hid (heap_new w _)
  obtain ⟨k0, k1, k2, -, -⟩ := blk3 HK.out
  obtain ⟨W, hW⟩ : ∃ W, W = w.alloc (.cells #[.string p.on, .string p.nn, .slice A p.hunks.length c] tPat) := ⟨_, rfl⟩
  rw [← hW] at HB0 HRe HK k0 k1 k2
  clear hr hrd hp hs
  by_cases h0 : (fitsF p s).2 = 0
  · obtain ⟨hc, hk⟩ := fits_err h0
    have hfz := fits_ok (p := p) (s := s) hc hk
    have hll : (Sh.lnB s).length ≤ 4096 := by rw [lnB_num]; exact (check_zero.1 hk).2
    have HPos := Lib.hid (fun h (hh : h ∈ p.hunks) => ((St.okPat_of hc).hk h hh).1)
    have HFin : Hid (∀ (n : Nat) w', fitN (Sh.lnB s) p.hunks = n → Below w.heap.size w w' → FiPost p s w (.returned (.tuple #[.int .i64 (n : Int), .int .i64 0])) w') := Lib.hid (fun n w' h1 h2 => ⟨by rw [hfz, h1], h2⟩)
    have HA0 : Hid (∃ acc i0, At (Sh.lnB s) p.hunks 0 acc i0) := Lib.hid ⟨[], 0, At.zero (chkC_geo hc)⟩
    have HSm := Lib.hid hsm.2
    have hfew := hsm.1
    rw [h0] at HRe
    clear h0 hc hk hfz hsm
    generalize Sh.lnB s = xs at *
    generalize hg : p.hunks = hs at *
    obtain ⟨N, hN⟩ : ∃ N, N = hs.length := ⟨_, rfl⟩
    have HN := Lib.hid hN.symm
    rw [← hN] at hfew HR HK k2 hW HRe ⊢
    clear hN hg
    go_enter Tryz.func16, Tryz.ntmps16
    go_upto_region 1 with fail
    rw [← hW]
    clear hW
    go_wp2_with fail
    refine HRe.out.mono ?_
    rintro e w1 ⟨lv, rfl, hlv, hb⟩
    have HB1 := Lib.hid (HB0.out.trans (hb.mono HB0.out.size))
    have HK1 := Lib.hid (HK.out.below hb)
    have hrl := hlv (by simp)
    have HL1 := Lib.hid (fun w' (hb : Below w1.heap.size w1 w') => hrl.below hb)
    obtain ⟨Al, cl, rfl, -, -⟩ := hrl
    obtain ⟨k0, k1, k2, -, -⟩ := blk3 HK1.out
    clear hb hlv HRe HK HB0
    generalize hX : xs.length = X at *
    have HX := Lib.hid hX
    clear hX
    go_wp2_with fail
    go_loopw [22] (fun i wr => ∃ j : Nat, j ≤ N ∧ i = .int .i64 j ∧ Hid (∃ acc i0, At xs hs j acc i0) ∧ Hid (Below w1.heap.size w1 wr)) (fun i _ => N - (intOf i).toNat)
    case atStart => exact ⟨0, Nat.zero_le _, rfl, HA0, Lib.hid (Below.refl _ _)⟩
    case round =>
      obtain ⟨j, hj, rfl, HAt, HB⟩ := hrel
      have HBw := Lib.hid (HB1.out.trans (HB.out.mono HB1.out.size))
      obtain ⟨k0, k1, k2, -, -⟩ := blk3 (HK1.out.below HB.out)
      by_cases hlt : j < N
      · have hx : j < hs.length := by rw [HN.out]; exact hlt
        obtain ⟨bl, off, Ah, ch, rfl, c0, c1, c2, hrh⟩ := RdP_at (HR.out wr HBw.out) j hx
        obtain ⟨acc, i0, hAt⟩ := HAt.out
        obtain ⟨o, ho, hio⟩ := hAt.place hx
        have hpos := HPos.out _ (List.getElem_mem hx)
        have HNo := Lib.hid (fun hf => hAt.no hx hf)
        have HSt : Hid (fitH xs hs[j] → ∃ acc i0, At xs hs (j + 1) acc i0) := Lib.hid (fun hf => ⟨_, _, hAt.step hx hf⟩)
        have hls := (HSm.out _ (List.getElem_mem hx)).1
        have hol : (oldT hs[j]).length ≤ 1000000 := Nat.le_trans (notK_len 43 _) hls
        have HfD : Hid (decide (o + (oldT hs[j]).length ≤ xs.length ∧ cut xs o (o + (oldT hs[j]).length) = oldT hs[j]) = decide (fitH xs hs[j])) := Lib.hid (fit_dec ho)
        have HOl : Hid (Tx.mks (notB 43 hs[j].lines) = oldT hs[j]) := Lib.hid (by unfold notB oldT; exact Tx.mks_bs _)
        have ho2 : o ≤ 4096 := by rw [ho] at hpos; omega
        clear hAt HAt hio hpos
        rw [ho] at c0
        clear ho
        generalize hs[j] = h at *
        obtain ⟨ho', hn, ls⟩ := h
        simp only at c0 c1 c2 hrh hls
        generalize hM : ls.length = M at *
        have i1 : (0 : Int) ≤ (j : Int) := by omega
        have i2 : (j : Int) < (N : Int) := by omega
        have HHx := Lib.hid ((Below.refl wr.heap.size wr).alloc (Nat.le_refl _) (.cells #[.int .i64 (o : Int), .int .i64 hn, .slice Ah M ch] tPh))
        have HHb : Hid (Blk (wr.alloc (.cells #[.int .i64 (o : Int), .int .i64 hn, .slice Ah M ch] tPh)) wr.heap.size tPh [.int .i64 (o : Int), .int .i64 hn, .slice Ah M ch]) := Lib.hid (heap_new wr _)
        obtain ⟨W1, hW1⟩ : ∃ W1, W1 = wr.alloc (.cells #[.int .i64 (o : Int), .int .i64 hn, .slice Ah M ch] tPh) := ⟨_, rfl⟩
        rw [← hW1] at HHx HHb
        have HB2 := Lib.hid (HB.out.trans (HHx.out.mono HB.out.size))
        have HRh := Lib.hid (fun V (hV : Below W1.heap.size W1 V) => (hrh.below HHx.out).below hV)
        have HLx := Lib.hid (fun V (hV : Below W1.heap.size W1 V) => HL1.out V (HB2.out.trans (hV.mono HB2.out.size)))
        have HWi : Hid (∀ V, Below W1.heap.size W1 V → Calls Tryz.prog 34 #[.int .u8 43, .agg #[.int .i64 (o : Int), .int .i64 hn, .slice Ah M ch]] V (StrsPost V (notB 43 ls))) := Lib.hid (fun V hV => without_any (o : Int) hn _ ls 43 V (HRh.out V hV) (by omega))
        have HHa : Hid (∀ V u, Below W1.heap.size W1 V → RdS V u (oldT ⟨ho', hn, ls⟩) → Calls Tryz.prog 35 #[.slice Al X cl, .int .i64 (o : Int), u] V fun e w' => e = .returned (.bool (decide (fitH xs ⟨ho', hn, ls⟩))) ∧ Below V.heap.size V w') := Lib.hid (fun V u hV hu => by
          have := hasAt_any (.slice Al X cl) u xs (oldT ⟨ho', hn, ls⟩) o V (HLx.out V hV) hu (by have := HX.out; omega) hol (by omega)
          rw [HfD.out] at this
          exact this)
        have HS1 : Hid (∀ V, Below W1.heap.size W1 V → V.cell? ⟨wr.heap.size, 0, none⟩ = some (.int .i64 (o : Int)) ∧ V.cell? ⟨wr.heap.size, 1, none⟩ = some (.int .i64 hn) ∧ V.cell? ⟨wr.heap.size, 2, none⟩ = some (.slice Ah M ch)) := Lib.hid (fun V hV => by
          obtain ⟨a, b, c, -, -⟩ := blk3 (HHb.out.below hV)
          exact ⟨a, b, c⟩)
        have HBr : Hid (Below W1.heap.size W1 W1.drew) := Lib.hid (Below.refl _ W1).drew
        clear HfD hrh HHx HHb HR HSm HPos
        generalize oldT ⟨ho', hn, ls⟩ = ol at *
        cases hf : decide (fitH xs ⟨ho', hn, ls⟩) with
        | true =>
          have HS2 := Lib.hid (HSt.out (of_decide_eq_true hf))
          rw [hf] at HHa
          clear hf HSt HNo
          go_upto_region 7 with fail
          rw [← hW1]
          clear hW1 c0 c1 c2 k0 k1 k2
          go_region_held3 (fun V => V.cell? ⟨wr.heap.size, 0, none⟩ = some (.int .i64 (o : Int)) ∧ V.cell? ⟨wr.heap.size, 1, none⟩ = some (.int .i64 hn) ∧ V.cell? ⟨wr.heap.size, 2, none⟩ = some (.slice Ah M ch))
            (exact HS1.out _ HBr.out)
            (first
              | (go_at_call 34; refine (HWi.out _ HBr.out).mono ?_; rintro e w' ⟨u, rfl, hu, hb⟩; have HU := Lib.hid (Tx.RdS.of_own hu); rw [HOl.out] at HU; obtain ⟨Au, cu, rfl, -, -⟩ := id HU.out; have HBr := Lib.hid (HBr.out.trans (hb.mono HBr.out.size)); clear hb hu)
              | (go_at_call 35; refine (HHa.out _ _ HBr.out HU.out).mono ?_; rintro e w' ⟨rfl, hb⟩; have HBr := Lib.hid (HBr.out.trans (hb.mono HBr.out.size)); clear hb))
          all_goals
            go_wp2_with fail
            go_roundw
            case rel => exact ⟨j + 1, by omega, by go_num, HS2, Lib.hid (HB2.out.trans (HBr.out.mono HB2.out.size))⟩
            case measure => simp [intOf]; omega
        | false =>
          have HS2 := Lib.hid (HNo.out (of_decide_eq_false hf))
          rw [hf] at HHa
          clear hf HSt HNo
          go_upto_region 7 with fail
          rw [← hW1]
          clear hW1 c0 c1 c2 k0 k1 k2
          go_region_held3 (fun V => V.cell? ⟨wr.heap.size, 0, none⟩ = some (.int .i64 (o : Int)) ∧ V.cell? ⟨wr.heap.size, 1, none⟩ = some (.int .i64 hn) ∧ V.cell? ⟨wr.heap.size, 2, none⟩ = some (.slice Ah M ch))
            (exact HS1.out _ HBr.out)
            (first
              | (go_at_call 34; refine (HWi.out _ HBr.out).mono ?_; rintro e w' ⟨u, rfl, hu, hb⟩; have HU := Lib.hid (Tx.RdS.of_own hu); rw [HOl.out] at HU; obtain ⟨Au, cu, rfl, -, -⟩ := id HU.out; have HBr := Lib.hid (HBr.out.trans (hb.mono HBr.out.size)); clear hb hu)
              | (go_at_call 35; refine (HHa.out _ _ HBr.out HU.out).mono ?_; rintro e w' ⟨rfl, hb⟩; have HBr := Lib.hid (HBr.out.trans (hb.mono HBr.out.size)); clear hb))
          all_goals
            go_wp2_with fail
            go_ret2
            exact HFin.out _ _ HS2.out (HB1.out.trans ((HB2.out.trans (HBr.out.mono HB2.out.size)).mono HB1.out.size))
      · obtain rfl : j = N := by omega
        have HS2 : Hid (fitN xs hs = j) := Lib.hid (by
          obtain ⟨acc, i0, hAt⟩ := HAt.out
          rw [← HN.out] at hAt ⊢
          exact hAt.stop.1)
        go_wp2_with fail
        go_ret2
        exact HFin.out _ _ HS2.out HBw.out
  · have h1 : (fitsF p s).1 = 0 := fits_fst h0
    have HFin : Hid (∀ w', Below w.heap.size w w' → FiPost p s w (.returned (.tuple #[.int .i64 0, .int .i64 (fitsF p s).2])) w') := Lib.hid (fun w' h2 => ⟨by rw [h1], h2⟩)
    have e1 : ((fitsF p s).2 != 0) = true := by rw [bne_iff_ne]; exact h0
    clear h0 h1 hsm
    generalize (fitsF p s).2 = z at *
    go_enter Tryz.func16, Tryz.ntmps16
    go_upto_region 1 with fail
    rw [← hW]
    clear hW
    go_wp2_with fail
    refine HRe.out.mono ?_
    rintro e w1 ⟨lv, rfl, -, hb⟩
    have HB1 := Lib.hid (HB0.out.trans (hb.mono HB0.out.size))
    clear hb
    go_wp2_with fail
    go_ret2
    exact HFin.out _ HB1.out
end Pa
end
section
namespace Cm
end Cm
namespace Hn
end Hn
namespace Sc
end Sc
namespace St
end St
namespace Tx
end Tx
namespace Uf
end Uf
open Go.RowKit
namespace Pa
open Cm Uf Hn
open Sc (RdK ownK_base ownK_below Pow)
open Tx (bs bss RdS strsV StrsPost)
open St (nL)
/-- What Apply leaves. -/
def ApPost (p : Pat) (s : ByteArray) (w : World) (e : Ending) (w' : World) : Prop := e = .returned (.tuple #[.string (applyF p s).1, .int .i64 (applyF p s).2]) ∧ Below w.heap.size w w'
/-- What the result's lines are like. -/
theorem res_ok {p : Pat} {s : ByteArray} (hc : chkC p = 0) (hk : Tx.checkF (bs s) = 0) (hsm : PatSm p.hunks) (hn : nL p.hunks ≤ 500000) : (appT (Sh.lnB s) 0 p.hunks).length ≤ 1000000 ∧ ∀ t ∈ appT (Sh.lnB s) 0 p.hunks, t.size ≤ 4194304 := by
  obtain ⟨k1, k2⟩ := check_zero.1 hk
  rw [← lnB_num] at k2
  refine ⟨by have := (app_small (p := p) (s := s) hc).1; omega, fun t ht => ?_⟩
  rcases appT_mem ht with h | ⟨h, hh, ht⟩
  · have := Sh.lnB_size s t h
    have h2 := Tx.bs_len s
    omega
  · unfold newT notK at ht
    obtain ⟨l, hl, rfl⟩ := List.mem_map.1 ht
    exact (hsm.2 h hh).2.2.2 l (List.mem_filter.1 hl).1
set_option maxRecDepth 100000 in
set_option maxHeartbeats 8000000 in
theorem Apply_any (p : Pat) (v : Value) (s : ByteArray) (w : World) (hr : RdP w v p.hunks) (hsm : PatSm p.hunks) (hn : nL p.hunks ≤ 500000) (hs : s.size ≤ 4194304) (hp : Pow w) : Calls Tryz.prog 14 #[tPatV p v, .string s] w (ApPost p s w) := by
  have HB0 := Lib.hid ((Below.refl w.heap.size w).alloc (Nat.le_refl _) (.cells #[.string p.on, .string p.nn, v] tPat))
  have hrd := hr.below HB0.out
  obtain ⟨A, c, rfl⟩ := hr.form
  have HRe := Lib.hid (read_any p _ s _ hrd hsm hs (hp.stays HB0.out))
  unfold RePost at HRe
  have HR := Lib.hid (fun w' (hb : Below w.heap.size w w') => hr.below hb)
  have HK : Hid (Blk (w.alloc (.cells #[.string p.on, .string p.nn, .slice A p.hunks.length c] tPat)) w.heap.size tPat [.string p.on, .string p.nn, .slice A p.hunks.length c]) := Lib.hid (heap_new w _)
  obtain ⟨k0, k1, k2, -, -⟩ := blk3 HK.out
  obtain ⟨W, hW⟩ : ∃ W, W = w.alloc (.cells #[.string p.on, .string p.nn, .slice A p.hunks.length c] tPat) := ⟨_, rfl⟩
  rw [← hW] at HB0 HRe HK k0 k1 k2
  clear hr hrd hp hs
  by_cases h0 : (fitsF p s).2 = 0
  · obtain ⟨hc, hk⟩ := fits_err h0
    have hll : (Sh.lnB s).length ≤ 4096 := by rw [lnB_num]; exact (check_zero.1 hk).2
    have HPos := Lib.hid (fun h (hh : h ∈ p.hunks) => ((St.okPat_of hc).hk h hh).1)
    obtain ⟨hrl, hrs⟩ := res_ok hc hk hsm hn
    have HMiss : Hid (∀ w', fitN (Sh.lnB s) p.hunks < p.hunks.length → Below w.heap.size w w' → ApPost p s w (.returned (.tuple #[.string ⟨#[]⟩, .int .i64 140])) w') := Lib.hid (fun w' h1 h2 => ⟨by rw [app_miss hc hk h1], h2⟩)
    have HNoL : Hid (∀ w', fitN (Sh.lnB s) p.hunks = p.hunks.length → Tx.isListF (bss (appT (Sh.lnB s) 0 p.hunks)) = false → Below w.heap.size w w' → ApPost p s w (.returned (.tuple #[.string ⟨#[]⟩, .int .i64 140])) w') := Lib.hid (fun w' h1 h3 h2 => ⟨by rw [app_joined hc hk h1, if_pos h3], h2⟩)
    have HOk : Hid (∀ w', fitN (Sh.lnB s) p.hunks = p.hunks.length → Tx.isListF (bss (appT (Sh.lnB s) 0 p.hunks)) = true → Below w.heap.size w w' → ApPost p s w (.returned (.tuple #[.string (Tx.joinF (appT (Sh.lnB s) 0 p.hunks)).1, .int .i64 (Tx.joinF (appT (Sh.lnB s) 0 p.hunks)).2])) w') := Lib.hid (fun w' h1 h3 h2 => ⟨by rw [app_joined hc hk h1, if_neg (by rw [h3]; decide)], h2⟩)
    have HA0 : Hid (At (Sh.lnB s) p.hunks 0 [] 0) := Lib.hid (At.zero (chkC_geo hc))
    have HJn : Hid (∀ v w', RdS w' v (appT (Sh.lnB s) 0 p.hunks) → Calls Tryz.prog 36 #[v] w' (Tx.JgPost w' (appT (Sh.lnB s) 0 p.hunks))) := Lib.hid (fun v w' h => Tx.JoinG_any v _ w' h (by omega) hrs)
    unfold Tx.JgPost at HJn
    have HSm := Lib.hid hsm.2
    have hfew := hsm.1
    rw [h0] at HRe
    clear h0 hc hk hsm hn hrs
    generalize hg : p.hunks = hs at *
    clear hg
    generalize Sh.lnB s = xs at *
    obtain ⟨R, hR⟩ : ∃ R, R = appT xs 0 hs := ⟨_, rfl⟩
    have HRd := Lib.hid hR
    rw [← hR] at HNoL HOk HJn hrl
    clear hR
    obtain ⟨N, hN⟩ : ∃ N, N = hs.length := ⟨_, rfl⟩
    have HN := Lib.hid hN.symm
    rw [← hN] at hfew HR HK k2 HMiss HNoL HOk hW HRe ⊢
    clear hN
    go_enter Tryz.func14, Tryz.ntmps14
    go_upto_region 1 with fail
    rw [← hW]
    clear hW
    go_wp2_with fail
    refine HRe.out.mono ?_
    rintro e w1 ⟨lv, rfl, hlv, hb⟩
    have HB1 := Lib.hid (HB0.out.trans (hb.mono HB0.out.size))
    have HK1 := Lib.hid (HK.out.below hb)
    have hlr := hlv (by simp)
    have HL1 := Lib.hid (fun w' (hb : Below w1.heap.size w1 w') => hlr.below hb)
    obtain ⟨Al, cl, rfl, -, -⟩ := hlr
    obtain ⟨k0, k1, k2, -, -⟩ := blk3 HK1.out
    clear hb hlv HRe HK HB0
    generalize hX : xs.length = X at *
    have HX := Lib.hid hX
    clear hX
    go_wp2_with fail
    go_loopw [8, 9, 26] (fun u nx i wr => ∃ (j : Nat) (acc : List ByteArray) (i0 : Nat), j ≤ N ∧ i = .int .i64 j ∧ nx = .int .i64 i0 ∧ Hid (At xs hs j acc i0) ∧ Hid (wr.ownsRow w1.heap.size 9 1 u (bss acc).length (strsV (bss acc))) ∧ Hid (Below w1.heap.size w1 wr)) (fun _ _ i _ => N - (intOf i).toNat)
    case atStart => exact ⟨0, [], 0, Nat.zero_le _, rfl, rfl, HA0, Lib.hid (World.ownsRow_nil _ _ _ _), Lib.hid (Below.refl _ _)⟩
    case round =>
      obtain ⟨j, acc, i0, hj, rfl, rfl, HAt, HO, HB⟩ := hrel
      have HBw := Lib.hid (HB1.out.trans (HB.out.mono HB1.out.size))
      obtain ⟨k0, k1, k2, -, -⟩ := blk3 (HK1.out.below HB.out)
      have hi0 : i0 ≤ X := by have := HAt.out.2.2.2; rw [HX.out] at this; exact this
      have hacc : acc.length ≤ 1000000 := by have := HAt.out.len; rw [← HRd.out] at this; omega
      by_cases hlt : j < N
      · have hx : j < hs.length := by rw [HN.out]; exact hlt
        obtain ⟨bl, off, Ah, ch, rfl, c0, c1, c2, hrh⟩ := RdP_at (HR.out w (Below.refl _ _)) j hx
        replace c0 := (HBw.out.cell (Tx.cell_lt c0)).trans c0
        replace c1 := (HBw.out.cell (Tx.cell_lt c1)).trans c1
        replace c2 := (HBw.out.cell (Tx.cell_lt c2)).trans c2
        have hAt := HAt.out
        obtain ⟨o, ho, hio⟩ := hAt.place hx
        have hpos := HPos.out _ (List.getElem_mem hx)
        have HNo : Hid (¬ fitH xs hs[j] → fitN xs hs < N) := Lib.hid (fun hf => by rw [hAt.no hx hf]; exact hlt)
        have HSt : Hid (fitH xs hs[j] → o + (oldT hs[j]).length ≤ xs.length ∧ At xs hs (j + 1) (acc ++ cut xs i0 o ++ newT hs[j]) (o + (oldT hs[j]).length)) := Lib.hid (fun hf => by
          have h1 := hAt.step hx hf
          have h2 := hf.1
          rw [ho, Int.toNat_natCast] at h1 h2
          exact ⟨h2, h1⟩)
        have hls := (HSm.out _ (List.getElem_mem hx)).1
        have hol : (oldT hs[j]).length ≤ 1000000 := Nat.le_trans (notK_len 43 _) hls
        have HfD : Hid (decide (o + (oldT hs[j]).length ≤ xs.length ∧ cut xs o (o + (oldT hs[j]).length) = oldT hs[j]) = decide (fitH xs hs[j])) := Lib.hid (fit_dec ho)
        have HOl : Hid (Tx.mks (notB 43 hs[j].lines) = oldT hs[j]) := Lib.hid (by unfold notB oldT; exact Tx.mks_bs _)
        have HNl : Hid (Tx.mks (notB 45 hs[j].lines) = newT hs[j]) := Lib.hid (by unfold notB newT; exact Tx.mks_bs _)
        have ho2 : o ≤ 4096 := by rw [ho] at hpos; omega
        clear hAt hpos
        rw [ho] at c0
        clear ho
        generalize hs[j] = h at *
        obtain ⟨ho', hn, ls⟩ := h
        simp only at c0 c1 c2 hrh hls HOl HNl
        generalize hM : ls.length = M at *
        have i1 : (0 : Int) ≤ (j : Int) := by omega
        have i2 : (j : Int) < (N : Int) := by omega
        have HHx := Lib.hid ((Below.refl wr.heap.size wr).alloc (Nat.le_refl _) (.cells #[.int .i64 (o : Int), .int .i64 hn, .slice Ah M ch] tPh))
        have HHb : Hid (Blk (wr.alloc (.cells #[.int .i64 (o : Int), .int .i64 hn, .slice Ah M ch] tPh)) wr.heap.size tPh [.int .i64 (o : Int), .int .i64 hn, .slice Ah M ch]) := Lib.hid (heap_new wr _)
        obtain ⟨W1, hW1⟩ : ∃ W1, W1 = wr.alloc (.cells #[.int .i64 (o : Int), .int .i64 hn, .slice Ah M ch] tPh) := ⟨_, rfl⟩
        rw [← hW1] at HHx HHb
        have HB2 := Lib.hid (HB.out.trans (HHx.out.mono HB.out.size))
        have HO1 := Lib.hid (ownK_below HO.out HHx.out)
        have HLx := Lib.hid (fun V (hV : Below w1.heap.size w1 V) => HL1.out V hV)
        have HWi : Hid (∀ k V, Below w1.heap.size w1 V → Calls Tryz.prog 34 #[.int .u8 k, .agg #[.int .i64 (o : Int), .int .i64 hn, .slice Ah M ch]] V (StrsPost V (notB k ls))) := Lib.hid (fun k V hV => without_any (o : Int) hn _ ls k V (hrh.below (HB1.out.trans (hV.mono HB1.out.size))) (by omega))
        have HHa : Hid (∀ V u, Below w1.heap.size w1 V → RdS V u (oldT ⟨ho', hn, ls⟩) → Calls Tryz.prog 35 #[.slice Al X cl, .int .i64 (o : Int), u] V fun e w' => e = .returned (.bool (decide (fitH xs ⟨ho', hn, ls⟩))) ∧ Below V.heap.size V w') := Lib.hid (fun V u hV hu => by
          have := hasAt_any (.slice Al X cl) u xs (oldT ⟨ho', hn, ls⟩) o V (HLx.out V hV) hu (by have := HX.out; omega) hol (by omega)
          rw [HfD.out] at this
          exact this)
        obtain ⟨x0, x1, x2, -, -⟩ := blk3 HHb.out
        clear HfD HHx HR HSm HPos HO
        generalize oldT ⟨ho', hn, ls⟩ = ol at *
        generalize newT ⟨ho', hn, ls⟩ = nl at *
        generalize hGb : wr.heap.size = G at *
        go_upto_region 9 with fail
        rw [← hW1]
        clear hW1 c0 c1 c2 k0 k1 k2 hrh
        go_wp2_with fail
        refine (HWi.out 43 W1 HB2.out).mono ?_
        rintro e w2 ⟨u, rfl, hu, hb⟩
        have HU := Lib.hid (Tx.RdS.of_own hu)
        rw [HOl.out] at HU
        obtain ⟨Au, cu, rfl, -, -⟩ := id HU.out
        have HV2 := Lib.hid (HB2.out.trans (hb.mono HB2.out.size))
        have HH2 := Lib.hid (HHb.out.below hb)
        have HO2 := Lib.hid (ownK_below HO1.out hb)
        obtain ⟨x0, x1, x2, -, -⟩ := blk3 HH2.out
        have HA2 := Lib.hid (HHa.out w2 _ HV2.out HU.out)
        clear hu hb HOl HHa HHb HO1
        cases hf : decide (fitH xs ⟨ho', hn, ls⟩) with
        | false =>
          have HS2 := Lib.hid (HNo.out (of_decide_eq_false hf))
          rw [hf] at HA2
          clear hf HSt HNo
          go_wp2_with fail
          refine HA2.out.mono ?_
          rintro e w3 ⟨rfl, hb⟩
          have HV3 := Lib.hid (HV2.out.trans (hb.mono HV2.out.size))
          clear hb
          go_wp2_with fail
          go_ret2
          exact HMiss.out _ HS2.out (HB1.out.trans (HV3.out.mono HB1.out.size))
        | true =>
          obtain ⟨hfit, hst⟩ := HSt.out (of_decide_eq_true hf)
          rw [HX.out] at hfit
          have HS2 := Lib.hid hst
          have hl2 : (acc ++ cut xs i0 o ++ nl).length ≤ 1000000 := by have := hst.len; rw [← HRd.out] at this; omega
          have hl3 := hl2
          rw [List.length_append] at hl2
          rw [List.length_append, List.length_append] at hl3
          rw [hf] at HA2
          clear hf HSt HNo hst
          obtain ⟨A2, hs2, hr2⟩ := slice_rds w1 (HLx.out w1 (Below.refl _ _)) i0 o hio (by have := HX.out; omega)
          have HR2 := Lib.hid hr2
          clear hr2
          have HE1 : Hid (bss acc ++ bss (cut xs i0 o) = bss (acc ++ cut xs i0 o)) := Lib.hid (by simp [bss])
          have HE2 : Hid (bss (acc ++ cut xs i0 o) ++ bss nl = bss (acc ++ cut xs i0 o ++ nl)) := Lib.hid (by simp [bss])
          have hq0 : (0 : Int) ≤ (i0 : Int) := by omega
          have hq1 : (i0 : Int) ≤ (o : Int) := by omega
          generalize hol3 : ol.length = OL at *
          go_wp2_with fail
          refine HA2.out.mono ?_
          rintro e w3 ⟨rfl, hb⟩
          have HV3 := Lib.hid (HV2.out.trans (hb.mono HV2.out.size))
          have HH3 := Lib.hid (HH2.out.below hb)
          obtain ⟨x0, x1, x2, -, -⟩ := blk3 HH3.out
          have HO3 := Lib.hid (ownK_below HO2.out hb)
          have HRc := Lib.hid (HR2.out w3 (HLx.out w3 HV3.out))
          clear hb HA2 HH2 HO2 HV2
          go_wp2_with (at_builtin; refine app_rdsG rfl (.tmp 38) (.tmp 43) rfl w1.heap.size (bss acc) (cut xs i0 o) _ _ rfl HO3.out rfl HRc.out (by simp only [bss, List.length_map]; omega) HV3.out.size ?_; intro v4 w4 ho4 hb4 hk4; rw [HE1.out] at ho4; have HO4 := Lib.hid ho4; have HV4 := Lib.hid (HV3.out.trans hb4); have HH4 := Lib.hid (hk4 _ _ _ (by decide) HH3.out); obtain ⟨x0, x1, x2, -, -⟩ := blk3 HH4.out; clear ho4 hb4 hk4 HO3 HV3 HH3 HRc)
          refine (HWi.out 45 w4 HV4.out).mono ?_
          rintro e w5 ⟨u5, rfl, hu, hb⟩
          have HU5 := Lib.hid (Tx.RdS.of_own hu)
          rw [HNl.out] at HU5
          obtain ⟨A5, c5, rfl, -, -⟩ := id HU5.out
          have HV5 := Lib.hid (HV4.out.trans (hb.mono HV4.out.size))
          have HH5 := Lib.hid (HH4.out.below hb)
          have HO5 := Lib.hid (ownK_below HO4.out hb)
          obtain ⟨x0, x1, x2, -, -⟩ := blk3 HH5.out
          clear hu hb HO4 HV4 HH4 HWi
          go_wp2_with (at_builtin; refine app_rdsG rfl (.tmp 45) (.tmp 47) rfl w1.heap.size (bss (acc ++ cut xs i0 o)) nl _ _ rfl HO5.out rfl HU5.out (by simp only [bss, List.length_map]; omega) HV5.out.size ?_; intro v6 w6 ho6 hb6 hk6; rw [HE2.out] at ho6; have HO6 := Lib.hid ho6; have HV6 := Lib.hid (HV5.out.trans hb6); have HH6 := Lib.hid (hk6 _ _ _ (by decide) HH5.out); obtain ⟨x0, x1, x2, -, -⟩ := blk3 HH6.out; clear ho6 hb6 hk6 HO5 HV5 HH5 HU5)
          go_roundw
          case rel => exact ⟨j + 1, _, _, by omega, by go_num, by go_num, HS2, HO6, HV6⟩
          case measure => simp [intOf]; omega
      · obtain rfl : j = N := by omega
        have hst := HAt.out
        rw [← HN.out] at hst
        obtain ⟨hfull, hres⟩ := hst.stop
        rw [← HRd.out] at hres
        rw [HN.out] at hfull
        have HFl := Lib.hid hfull
        obtain ⟨A2, hs2, hr2⟩ := slice_rest w1 (HL1.out w1 (Below.refl _ _)) i0 (by rw [HX.out]; exact hi0)
        have HRc := Lib.hid (hr2 wr (HL1.out wr HB.out))
        have hl2 : acc.length + (xs.drop i0).length ≤ 1000000 := by rw [← List.length_append, hres]; omega
        have HE1 : Hid (bss acc ++ bss (xs.drop i0) = bss R) := Lib.hid (by rw [← hres]; simp [bss])
        have HMr : Hid (Tx.mks (bss R) = R) := Lib.hid (Tx.mks_bs R)
        have hq0 : (0 : Int) ≤ (i0 : Int) := by omega
        have hq1 : (i0 : Int) ≤ (X : Int) := by omega
        clear hst hfull hres hr2
        go_wp2_with (at_builtin; refine app_rdsG rfl (.tmp 56) (.tmp 59) rfl w1.heap.size (bss acc) (xs.drop i0) _ _ rfl HO.out rfl HRc.out (by simp only [bss, List.length_map]; omega) HB.out.size ?_; intro v4 w4 ho4 hb4 _; rw [HE1.out] at ho4; have HO4 := Lib.hid (Tx.RdS.of_own ho4); rw [HMr.out] at HO4; obtain ⟨A5, c5, rfl, -, -⟩ := id HO4.out; have HV4 := Lib.hid (HB.out.trans hb4); clear ho4 hb4)
        have HJ := Lib.hid (HJn.out _ w4 HO4.out)
        have hrr : R.length ≤ 1000000 := hrl
        cases hli : Tx.isListF (bss R) with
        | false =>
          have ej : Tx.joinF R = (⟨#[]⟩, 2) := by unfold Tx.joinF; rw [if_pos hli]
          rw [ej] at HJ
          have HF2 := Lib.hid (fun w' hb => HNoL.out w' HFl.out hli hb)
          clear hli ej HJn HNoL HOk
          refine HJ.out.mono ?_
          rintro e w5 ⟨rfl, hb⟩
          have HV5 := Lib.hid (HV4.out.trans (hb.mono HV4.out.size))
          clear hb HJ
          go_wp2_with fail
          go_ret2
          exact HF2.out _ (HB1.out.trans (HV5.out.mono HB1.out.size))
        | true =>
          have hz : (Tx.joinF R).2 ≠ 2 := by
            unfold Tx.joinF
            rw [if_neg (by rw [hli]; decide)]
            split
            · show (1 : Int) ≠ 2
              decide
            · show (0 : Int) ≠ 2
              decide
          have HF2 := Lib.hid (fun w' hb => HOk.out w' HFl.out hli hb)
          clear hli HJn HNoL HOk
          generalize (Tx.joinF R).2 = z at *
          generalize (Tx.joinF R).1 = y at *
          have ez : (z == 2) = false := by rw [beq_eq_false_iff_ne]; exact hz
          refine HJ.out.mono ?_
          rintro e w5 ⟨rfl, hb⟩
          have HV5 := Lib.hid (HV4.out.trans (hb.mono HV4.out.size))
          clear hb HJ
          go_wp2_with fail
          go_ret2
          exact HF2.out _ (HB1.out.trans (HV5.out.mono HB1.out.size))
  · have h1 := app_err h0
    have HFin : Hid (∀ w', Below w.heap.size w w' → ApPost p s w (.returned (.tuple #[.string ⟨#[]⟩, .int .i64 (fitsF p s).2])) w') := Lib.hid (fun w' h2 => ⟨by rw [h1], h2⟩)
    have e1 : ((fitsF p s).2 != 0) = true := by rw [bne_iff_ne]; exact h0
    clear h0 h1 hsm hn
    generalize (fitsF p s).2 = z at *
    go_enter Tryz.func14, Tryz.ntmps14
    go_upto_region 1 with fail
    rw [← hW]
    clear hW
    go_wp2_with fail
    refine HRe.out.mono ?_
    rintro e w1 ⟨lv, rfl, -, hb⟩
    have HB1 := Lib.hid (HB0.out.trans (hb.mono HB0.out.size))
    clear hb
    go_wp2_with fail
    go_ret2
    exact HFin.out _ HB1.out
end Pa
end
section
namespace Cm
end Cm
namespace Hn
end Hn
namespace Sc
end Sc
namespace St
end St
namespace Tx
end Tx
namespace Uf
end Uf
open Go.RowKit
namespace Pa
open Cm Uf Hn
open Sc (Pow)
open Tx (bs)
open St (nL)
/-- A patch that is small enough for the program's calls. -/
structure Sm (p : Pat) : Prop where
  sm : PatSm p.hunks
  n : p.hunks.length + nL p.hunks ≤ 100000
theorem Sm.lines {p : Pat} (h : Sm p) : ∀ g ∈ p.hunks, g.lines.length ≤ 100000 := fun g hg => by
  have h1 := h.n
  have h2 := St.le_nL hg
  omega
theorem nL_rev : ∀ hs : List PH, nL (hs.map revH) = nL hs
  | [] => rfl
  | h :: hs => by
    have ih := nL_rev hs
    unfold nL at ih ⊢
    simp only [List.map_cons, List.sum_cons] at ih ⊢
    rw [ih]
    unfold revH
    simp
theorem Sm.rev {p : Pat} (h : Sm p) : Sm (revP p) := by
  refine ⟨⟨?_, fun g hg => ?_⟩, ?_⟩
  · show (p.hunks.map revH).length ≤ _
    rw [List.length_map]
    exact h.sm.1
  · obtain ⟨k, hk, rfl⟩ := List.mem_map.1 (show g ∈ p.hunks.map revH from hg)
    obtain ⟨h1, h2, h3, h4⟩ := h.sm.2 k hk
    refine ⟨by show (k.lines.map revL).length ≤ _; rw [List.length_map]; exact h1, h3, h2, fun l hl => ?_⟩
    obtain ⟨z, hz, rfl⟩ := List.mem_map.1 (show l ∈ k.lines.map revL from hl)
    exact h4 z hz
  · show (p.hunks.map revH).length + nL (p.hunks.map revH) ≤ _
    rw [List.length_map, nL_rev]
    exact h.n
theorem wr_sm {p : Pat} (hs : PatSm p.hunks) (h : (wrAll p).length ≤ 100000) : Sm p := by
  refine ⟨hs, ?_⟩
  have h4 := St.wr_ge p.hunks
  unfold wrAll at h
  rw [List.length_append] at h
  omega
theorem mk_sm {ctx : Int} (hc : 0 ≤ ctx) {s t : ByteArray} (hs : s.size ≤ 36) (ht : t.size ≤ 180) (down : Bool) {on nn : ByteArray} (h1 : nameB on = true) (h2 : nameB nn = true) : Sm ⟨on, nn, patH (Sh.lnB s) (Sh.lnB t) ctx (scrD down s t)⟩ :=
  wr_sm (mk_ok hc (by omega) (by omega) down h1 h2).big.1 (Nat.le_trans (St.mk_small hc hs ht down h1 h2).2 (by decide))
theorem Ap {p : Pat} (h : Sm p) {v : Value} {s : ByteArray} {w : World} (hr : RdP w v p.hunks) (hs : s.size ≤ 4194304) (hp : Pow w) : Calls Tryz.prog 14 #[tPatV p v, .string s] w fun e w' => e = .returned (.tuple #[.string (applyF p s).1, .int .i64 (applyF p s).2]) ∧ Below w.heap.size w w' :=
  Apply_any p v s w hr h.sm (by have := h.n; omega) hs hp
theorem Rv {p : Pat} (h : Sm p) {v : Value} {w : World} (hr : RdP w v p.hunks) (hp : Pow w) : Calls Tryz.prog 19 #[tPatV p v] w (PtPost (reverseF p).1 (reverseF p).2 w) :=
  Reverse_any p v w hr h.sm (by have := h.n; omega) h.lines hp
/-- The second text of the sanity check. -/
def exU : ByteArray := ⟨#[97, 10, 98, 10]⟩
def l4B : ByteArray := ⟨#[98, 10]⟩
theorem ex_lu : Sh.lnB exU = [l1B, l4B] := by rfl
theorem ex_pat : exP = ⟨xB, xB, patH (Sh.lnB exS) (Sh.lnB exT) 1 (scrD false exS exT)⟩ := by
  rw [← ex_mk]
  exact (mk_on (by decide) (by decide) ⟨by decide, by decide⟩).2
theorem ex_sm14 : Sm exP := by
  rw [ex_pat]
  exact mk_sm (by decide) (by decide) (by decide) false (by decide) (by decide)
theorem ex_app : applyF exP exS = (exT, 0) := by
  rw [ex_pat]
  exact (makes_small (by decide) (by decide) (by decide) false (by decide) (by decide)).1
theorem ex_no : applyF exP exU = (⟨#[]⟩, 140) := by
  refine app_miss ex_chk (check_le (by decide)) ?_
  have h : fitN (Sh.lnB exU) exP.hunks = 0 := by
    rw [ex_lu]
    show fitN [l1B, l4B] [⟨0, 0, [⟨32, l1B⟩, ⟨45, l2B⟩, ⟨43, l3B⟩]⟩] = 0
    rw [fitN, if_neg]
    rintro ⟨_, h⟩
    exact absurd (congrArg (List.map bs) h) (by decide)
  rw [h]
  decide
set_option maxRecDepth 100000 in
set_option maxHeartbeats 4000000 in
theorem awake_any (w : World) (hw : Pow w) : Calls Tryz.prog 11 #[] w fun e w' => e = .returned (.bool true) ∧ Below w.heap.size w w' := by
  have HM := Lib.hid (MakeR_any xB xB exS exT 1 false (by decide) (by decide) w)
  rw [ex_mk, ex_mc] at HM
  go_enter Tryz.func11, Tryz.ntmps11
  go_wp2_with fail
  refine HM.out.mono ?_
  rintro e w1 ⟨v, he, ho, hb1⟩
  obtain ⟨A, c, rfl⟩ := ho.form
  obtain rfl : e = .returned (.tuple #[.agg #[.string xB, .string xB, .slice A exP.hunks.length c], .int .i64 0]) := he
  have HX1 := Lib.hid (BxP.new (p := exP) ho.rd)
  have hb2 := (Below.refl w1.heap.size w1).alloc (Nat.le_refl _) (.cells #[.string exP.on, .string exP.nn, .slice A exP.hunks.length c] tPat)
  have HB1 := Lib.hid (hb1.trans (hb2.mono hb1.size))
  clear ho hb1 HM hb2
  go_upto_region 2 with fail
  obtain ⟨W, hW⟩ : ∃ W, W = w1.alloc (.cells #[.string exP.on, .string exP.nn, .slice A exP.hunks.length c] tPat) := ⟨_, rfl⟩
  rw [← hW] at HX1 HB1
  rw [show w1.alloc (.cells #[.string xB, .string xB, .slice A exP.hunks.length c] tPat) = W from hW.symm]
  clear hW
  obtain ⟨x0, x1, x2⟩ := HX1.out.cells
  have HA1 := Lib.hid (Ap ex_sm14 (s := exS) HX1.out.2 (by decide) (hw.stays HB1.out))
  rw [ex_app] at HA1
  go_wp2_with fail
  refine HA1.out.mono ?_
  rintro e w2 ⟨rfl, hb⟩
  have HX2 := Lib.hid (HX1.out.below hb)
  have HB2 := Lib.hid (HB1.out.trans (hb.mono HB1.out.size))
  obtain ⟨x0, x1, x2⟩ := HX2.out.cells
  have HA2 := Lib.hid (Ap ex_sm14 (s := exU) HX2.out.2 (by decide) (hw.stays HB2.out))
  rw [ex_no] at HA2
  clear hb HX1 HB1 HA1
  go_wp2_with fail
  refine HA2.out.mono ?_
  rintro e w3 ⟨rfl, hb⟩
  have HB3 := Lib.hid (HB2.out.trans (hb.mono HB2.out.size))
  have t0 : exT.toList = [97, 10, 99, 10] := by rw [ByteArray.toList_eq]; rfl
  have t1 : (exT.toList == [97, 10, 99, 10]) = true := by rw [t0]; rfl
  clear hb HX2 HB2 HA2 x0 x1 x2
  go_wp2_with fail
  go_ret
  exact ⟨rfl, HB3.out⟩
/-- What pick leaves: the patch of two short blobs, and the blobs. -/
def PkPost (w : World) (m : Int) (e : Ending) (w' : World) : Prop := ∃ (a b : ByteArray) (A : Option Addr) (c : Nat), a.size ≤ 36 ∧ b.size ≤ 180 ∧
  e = .returned (.tuple #[.agg #[.string oB, .string nB, .slice A (patH (Sh.lnB a) (Sh.lnB b) m (scrD false a b)).length c], .string a, .string b]) ∧ OwnP w.heap.size w' (.slice A (patH (Sh.lnB a) (Sh.lnB b) m (scrD false a b)).length c) (patH (Sh.lnB a) (Sh.lnB b) m (scrD false a b)) ∧ Below w.heap.size w w'
set_option maxRecDepth 100000 in
set_option maxHeartbeats 4000000 in
theorem pick_any (v : Value) (us : List Int) (ctx : Int) (w : World) (h : RdV w v (intsV us)) (hu : us.length ≤ maxLen) (hub : ∀ z ∈ us, -9223372036854775808 ≤ z ∧ z ≤ 9223372036854775807) (hc0 : -9223372036854775808 ≤ ctx) (hc1 : ctx ≤ 9223372036854775807) :
    Calls Tryz.prog 12 #[v, .int .i64 ctx] w (PkPost w (Tx.modF ctx 4)) := by
  generalize hO : (.cells #[.string ⟨#[]⟩, .string ⟨#[]⟩, .slice none 0 0] tPat : Obj) = O
  have HO := Lib.hid (((Below.refl w.heap.size w).alloc (Nat.le_refl _) O))
  have HO0 : Hid (∀ W, Below (w.alloc O).heap.size (w.alloc O) W → W.heap[w.heap.size]? = some O) := Lib.hid (fun W hb => (hb.block _ (Array.getElem?_eq_some_iff.1 (heap_new w O)).1).trans (heap_new w O))
  have HB0 := Lib.hid (Tx.Blob_any v us.length 0 9 5 (w.alloc O) (rdI_V (h.below HO.out) hub) hu (by omega) (by omega) (by omega) (by omega) (by omega) (by omega))
  have HNr := Lib.hid (fun wq (hb : Below (w.alloc O).heap.size (w.alloc O) wq) (a : ByteArray) (ha : a.size ≤ 36) => Sh.Near_any a v us 100 wq ((h.below HO.out).below hb) hu (by omega) ⟨by omega, by omega⟩)
  obtain ⟨A, c, rfl⟩ := h.form
  have HMd := Lib.hid (fun w => Tx.Mod_any ctx 4 w (by omega) (by omega) hc0 hc1)
  have hm0 := Tx.modF_lo ctx 4 (by omega)
  have hm1 := Tx.modF_hi ctx 4 (by omega)
  subst hO
  clear h hu hub hc0 hc1
  rw [intsV_len] at HB0 HNr ⊢
  generalize us.length = nu at *
  generalize Tx.modF ctx 4 = m at *
  unfold Tx.SomeStr at HB0 HNr
  rw [show (9 : Int).toNat = 9 from rfl] at HB0
  go_enter Tryz.func12, Tryz.ntmps12
  go_wp2_with fail
  refine (HB0.out).mono ?_
  rintro e w1 ⟨a, ha, rfl, hb⟩
  have HW1 := Lib.hid hb
  clear hb
  go_wp2_with fail
  refine (HNr.out _ HW1.out a (by omega)).mono ?_
  rintro e w2 ⟨b, hb', rfl, hb⟩
  have HW2 := Lib.hid (HW1.out.trans (hb.mono HW1.out.size))
  clear HW1 hb
  have hax : a.size ≤ 36 := by omega
  have hbx : b.size ≤ 180 := by omega
  obtain ⟨e1, e2⟩ := mk_on (s := a) (t := b) (ctx := m) (down := false) (on := oB) (nn := nB) (by decide) (by decide) ⟨by omega, by omega⟩
  have HR := Lib.hid (fun W => MakeR_any oB nB a b m false (by omega) (by omega) W)
  unfold PtPost at HR
  rw [e1, e2] at HR
  have HPost : Hid (∀ (A : Option Addr) (c : Nat) (w' : World), OwnP w.heap.size w' (.slice A (patH (Sh.lnB a) (Sh.lnB b) m (scrD false a b)).length c) (patH (Sh.lnB a) (Sh.lnB b) m (scrD false a b)) → Below w.heap.size w w' → PkPost w m (.returned (.tuple #[.agg #[.string oB, .string nB, .slice A (patH (Sh.lnB a) (Sh.lnB b) m (scrD false a b)).length c], .string a, .string b])) w') := Lib.hid (fun A c w' h1 h2 => ⟨a, b, A, c, hax, hbx, rfl, h1, h2⟩)
  generalize patH (Sh.lnB a) (Sh.lnB b) m (scrD false a b) = P at *
  clear e1 e2 ha hb' hax hbx HB0 HNr
  go_wp2_with fail
  refine (HMd.out _).mono ?_
  rintro e w3 ⟨rfl, rfl⟩
  go_wp2_with fail
  refine (HR.out _).mono ?_
  rintro e w4 ⟨v4, rfl, ho, hb⟩
  obtain ⟨A4, c4, rfl⟩ := ho.form
  have hb1 := HW2.out.trans (hb.mono HW2.out.size)
  have hA := (Below.refl w4.heap.size w4).alloc (Nat.le_refl _) (.cells #[.string oB, .string nB, .slice A4 P.length c4] tPat)
  have HX : Hid (BxP (w4.alloc (.cells #[.string oB, .string nB, .slice A4 P.length c4] tPat)) w4.heap.size ⟨oB, nB, P⟩ (.slice A4 P.length c4)) := Lib.hid (BxP.new (p := ⟨oB, nB, P⟩) ho.rd)
  have HOw := Lib.hid (ho.below hA)
  have hb5 := hb1.trans (hA.mono hb1.size)
  have HBw := Lib.hid (HO.out.trans (hb5.mono HO.out.size))
  obtain ⟨W, hW⟩ : ∃ W, W = w4.alloc (.cells #[.string oB, .string nB, .slice A4 P.length c4] tPat) := ⟨_, rfl⟩
  rw [← hW] at HX HOw HBw hb5
  have HZ := HO0.out W hb5
  have hw2 : w.heap.size < w2.heap.size := Nat.lt_of_lt_of_le (Array.getElem?_eq_some_iff.1 (heap_new w _)).1 HW2.out.size
  clear ho hb hb1 HR hA HW2 HO HO0 hb5
  go_upto_region 4 with fail
  rw [← hW]
  clear hW
  obtain ⟨x0, x1, x2⟩ := HX.out.cells
  obtain ⟨z0, z1, z2, zf, zlt⟩ := blk3 (show Blk W w.heap.size tPat [.string ⟨#[]⟩, .string ⟨#[]⟩, .slice none 0 0] from HZ)
  have HBy := Lib.hid (((HBw.out.setCell (p := ⟨w.heap.size, 0, none⟩) (Nat.le_refl _) (.string oB)).setCell (p := ⟨w.heap.size, 1, none⟩) (Nat.le_refl _) (.string nB)).setCell (p := ⟨w.heap.size, 2, none⟩) (Nat.le_refl _) (.slice A4 P.length c4))
  have HOz := Lib.hid ((((HOw.out.box (o := 0) (u := .string oB) hw2).box (o := 1) (u := .string nB) hw2).box (o := 2) (u := .slice A4 P.length c4) hw2).base (base' := w.heap.size) (by omega))
  clear HX HOw HBw HZ
  go_wp2_with fail
  exact bodyPost_ret (v := .tuple #[.agg #[.string oB, .string nB, .slice A4 P.length c4], .string a, .string b]) (by simp [results, Tryz.f12, go_sem, z0, z1, z2]) rfl (HPost.out _ _ _ HOz.out HBy.out)
end Pa
end
section
namespace Cm
end Cm
namespace Hn
end Hn
namespace Sc
end Sc
namespace Tx
end Tx
namespace Uf
end Uf
open Go.RowKit
namespace Pa
open Cm Uf Hn
open Sc (RdK ownK_base ownK_below)
open Tx (bs RdS strsV StrsPost below_drewN)
theorem cut_one {xs : List ByteArray} {o j : Nat} (h : o + j < xs.length) : cut xs o (o + (j + 1)) = cut xs o (o + j) ++ [xs[o + j]] := by
  have := cut_snoc xs (i := o) (j := o + j) (by omega) h
  rw [← this]
  rfl
theorem rdS_at {w : World} {A : Option Addr} {n c : Nat} {l : List ByteArray} (h : RdS w (.slice A n c) l) (j : Nat) (hj : j < l.length) : ∃ b off, A = some ⟨b, off, none⟩ ∧ w.cell? ⟨b, off + j, none⟩ = some (.string l[j]) := by
  obtain ⟨A', c', e, _, hc⟩ := h
  injection e with e1 e2 e3
  subst e1
  obtain ⟨b, off, e4, hc⟩ := hc (by omega)
  exact ⟨b, off, e4, hc j hj⟩
set_option maxRecDepth 100000 in
set_option maxHeartbeats 4000000 in
theorem fitsR_any (o : Nat) (n : Int) (hv lv : Value) (ls : List Ln) (xs : List ByteArray) (w : World) (hh : RdL w hv ls) (hx : RdS w lv xs) (hl : ls.length ≤ 1000000) (hm : xs.length ≤ 1000000) (ho : o ≤ 1000000) :
    Calls Tryz.prog 42 #[.agg #[.int .i64 (o : Int), .int .i64 n, hv], lv] w fun e w' => e = .returned (.bool (decide (o + (notK 43 ls).length ≤ xs.length ∧ cut xs o (o + (notK 43 ls).length) = notK 43 ls))) ∧ Below w.heap.size w w' := by
  have HB0 := Lib.hid ((Below.refl w.heap.size w).alloc (Nat.le_refl _) (.cells #[.int .i64 (o : Int), .int .i64 n, hv] tPh))
  have HX0 := Lib.hid (hx.below HB0.out)
  have hh0 := hh.below HB0.out
  obtain ⟨Ah, ch, rfl⟩ := hh.form
  have HLi := Lib.hid (LinesP_any (o : Int) n _ ls 43 _ hh0 hl)
  unfold StrsPost at HLi
  have hmk : Tx.mks (notB 43 ls) = notK 43 ls := by unfold notB; exact Tx.mks_bs _
  have HMk := Lib.hid hmk
  have hyl : (notK 43 ls).length ≤ 1000000 := Nat.le_trans (notK_len 43 ls) hl
  have HK0 : Hid (Blk (w.alloc (.cells #[.int .i64 (o : Int), .int .i64 n, .slice Ah ls.length ch] tPh)) w.heap.size tPh [.int .i64 (o : Int), .int .i64 n, .slice Ah ls.length ch]) := Lib.hid (heap_new w _)
  obtain ⟨W, hW⟩ : ∃ W, W = w.alloc (.cells #[.int .i64 (o : Int), .int .i64 n, .slice Ah ls.length ch] tPh) := ⟨_, rfl⟩
  rw [← hW] at HB0 HX0 HLi HK0
  obtain ⟨k0, k1, k2, -, -⟩ := blk3 HK0.out
  clear hh hx hh0 hmk
  generalize notK 43 ls = ys at *
  obtain ⟨M, hM⟩ : ∃ M, M = ys.length := ⟨_, rfl⟩
  have HM := Lib.hid hM.symm
  obtain ⟨Al, cl, rfl, -, -⟩ := id HX0.out
  obtain ⟨X, hX⟩ : ∃ X, X = xs.length := ⟨_, rfl⟩
  have HXl := Lib.hid hX.symm
  rw [← hX] at HX0 hm ⊢
  rw [← hM] at hyl ⊢
  clear hM hX
  go_enter Tryz.func42, Tryz.ntmps42
  go_upto_region 1 with fail
  rw [← hW]
  clear hW
  go_wp2_with fail
  refine HLi.out.mono ?_
  rintro e w1 ⟨u, rfl, hu, hb⟩
  have HU := Lib.hid (RdS.of_own hu)
  rw [HMk.out] at HU
  obtain ⟨Au, cu, rfl, -, -⟩ := id HU.out
  have HX1 := Lib.hid (HX0.out.below hb)
  have HB1 := Lib.hid (HB0.out.trans (hb.mono HB0.out.size))
  obtain ⟨k0, k1, k2, -, -⟩ := blk3 (HK0.out.below hb)
  rw [HM.out]
  clear hu hb HLi HMk HX0 HB0 HK0
  by_cases hfit : o + M ≤ X
  · have c1 : ¬ ((X : Int) < (o : Int) + (M : Int)) := by omega
    go_wp2_with fail
    go_loopw [6] (fun i wr => ∃ j : Nat, j ≤ M ∧ i = .int .i64 j ∧ Hid (cut xs o (o + j) = ys.take j) ∧ ∃ m, wr = w1.drewN m) (fun i _ => M - (intOf i).toNat)
    case atStart => exact ⟨0, Nat.zero_le _, rfl, Lib.hid (by rw [Nat.add_zero, cut_same]; rfl), 0, rfl⟩
    case round =>
      obtain ⟨j, hj, rfl, HT, m, rfl⟩ := hrel
      by_cases hlt : j < M
      · have hy : j < ys.length := by rw [HM.out]; exact hlt
        have hxj : o + j < xs.length := by rw [HXl.out]; omega
        obtain ⟨b1, o1, rfl, c3⟩ := rdS_at HX1.out (o + j) hxj
        obtain ⟨b2, o2, rfl, c2⟩ := rdS_at HU.out j hy
        have HX2 : Hid (xs[o + j] = ys[j] → cut xs o (o + (j + 1)) = ys.take (j + 1)) := Lib.hid (fun h => by rw [cut_one hxj, List.take_succ_eq_append_getElem hy, HT.out, h])
        have HY : Hid (xs[o + j] ≠ ys[j] → ¬ (o + M ≤ X ∧ cut xs o (o + M) = ys)) := Lib.hid (fun h e => h (by
          have e3 : (cut xs o (o + M))[j]? = ys[j]? := by rw [e.2]
          rw [cut_get xs (by omega), List.getElem?_eq_getElem hxj, List.getElem?_eq_getElem hy] at e3
          exact Option.some.inj e3))
        generalize xs[o + j] = x at *
        generalize ys[j] = y at *
        have i1 : (0 : Int) ≤ (j : Int) := by omega
        have i2 : (j : Int) < (M : Int) := by omega
        have i3 : (0 : Int) ≤ (o : Int) + (j : Int) := by omega
        have i4 : (o : Int) + (j : Int) < (X : Int) := by omega
        have i5 : ((o : Int) + (j : Int)).toNat = o + j := by omega
        by_cases hxy : x = y
        · have HT2 := Lib.hid (HX2.out hxy)
          subst hxy
          clear HX2 HY HT
          go_wp2_with fail
          go_quiet (fail)
          go_wp2_with fail
          go_roundw
          case rel => exact ⟨j + 1, by omega, by go_num, HT2, _, rfl⟩
          case measure => simp [intOf]; omega
        · have HF : Hid (decide (o + M ≤ X ∧ cut xs o (o + M) = ys) = false) := Lib.hid (decide_eq_false (HY.out hxy))
          have e2 := Nt.eqF hxy
          have e3 : (x.toList != y.toList) = true := by unfold bne; rw [e2]; rfl
          clear HX2 HY HT hxy
          go_wp2_with fail
          go_quiet (fail)
          go_wp2_with fail
          go_ret
          exact ⟨by rw [HF.out]; rfl, below_drewN (below_drewN HB1.out _) _⟩
      · obtain rfl : j = M := by omega
        have HF : Hid (decide (o + j ≤ X ∧ cut xs o (o + j) = ys) = true) := Lib.hid (decide_eq_true ⟨hfit, by
          have h := HT.out
          rw [List.take_of_length_le (by rw [HM.out]; exact Nat.le_refl _)] at h
          exact h⟩)
        clear HT
        go_wp2_with fail
        go_ret
        exact ⟨by rw [HF.out]; rfl, below_drewN HB1.out _⟩
  · have HF : Hid (decide (o + M ≤ X ∧ cut xs o (o + M) = ys) = false) := Lib.hid (decide_eq_false (fun h => hfit h.1))
    have c1 : (X : Int) < (o : Int) + (M : Int) := by omega
    go_wp2_with fail
    go_ret
    exact ⟨by rw [HF.out]; rfl, HB1.out⟩
end Pa
end
section
namespace Cm
end Cm
namespace Hn
end Hn
namespace Sc
end Sc
namespace Tx
end Tx
namespace Uf
end Uf
open Go.RowKit
namespace Pa
open Cm Uf Hn
open Sc (RdK ownK_base ownK_below)
open Tx (bs RdS strsV StrsPost)
set_option maxRecDepth 100000 in
set_option maxHeartbeats 4000000 in
theorem FitsR_any (p : Pat) (v : Value) (s : ByteArray) (w : World) (hr : RdP w v p.hunks) (hsh : ShOk p) (hs : s.size ≤ 4194304) : Calls Tryz.prog 17 #[tPatV p v, .string s] w (FiPost p s w) := by
  have HB0 := Lib.hid ((Below.refl w.heap.size w).alloc (Nat.le_refl _) (.cells #[.string p.on, .string p.nn, v] tPat))
  have hrd := hr.below HB0.out
  obtain ⟨A, c, rfl⟩ := hr.form
  have HCk := Lib.hid (CheckR_any p _ _ hrd hsh)
  unfold CkPost at HCk
  have HSp := Lib.hid (fun w => Tx.SplitR_any s w hs)
  unfold Tx.SplitPost at HSp
  have HR := Lib.hid (fun w' (hb : Below w.heap.size w w') => hr.below hb)
  have HK : Hid (Blk (w.alloc (.cells #[.string p.on, .string p.nn, .slice A p.hunks.length c] tPat)) w.heap.size tPat [.string p.on, .string p.nn, .slice A p.hunks.length c]) := Lib.hid (heap_new w _)
  obtain ⟨k0, k1, k2, -, -⟩ := blk3 HK.out
  obtain ⟨W, hW⟩ : ∃ W, W = w.alloc (.cells #[.string p.on, .string p.nn, .slice A p.hunks.length c] tPat) := ⟨_, rfl⟩
  rw [← hW] at HB0 HCk HK k0 k1 k2
  have hsm : PatSm p.hunks := hsh.1.1
  clear hr hrd hsh
  by_cases hc : chkC p = 0
  · by_cases hk : Tx.checkF (bs s) = 0
    · have hfz := fits_ok (p := p) (s := s) hc hk
      have hll : (Sh.lnB s).length ≤ 4096 := by rw [lnB_num]; exact (check_zero.1 hk).2
      have HPos := Lib.hid (fun h (hh : h ∈ p.hunks) => ((St.okPat_of hc).hk h hh).1)
      have HFin : Hid (∀ (n : Nat) w', fitN (Sh.lnB s) p.hunks = n → Below w.heap.size w w' → FiPost p s w (.returned (.tuple #[.int .i64 (n : Int), .int .i64 0])) w') := Lib.hid (fun n w' h1 h2 => ⟨by rw [hfz, h1], h2⟩)
      have HA0 : Hid (∃ acc i0, At (Sh.lnB s) p.hunks 0 acc i0) := Lib.hid ⟨[], 0, At.zero (chkC_geo hc)⟩
      have HSm := Lib.hid hsm.2
      have hfew := hsm.1
      rw [hc] at HCk
      rw [hk] at HSp
      have HSq : Hid (∀ w, Calls Tryz.prog 41 #[.string s] w fun e w' => ∃ v, e = .returned (.tuple #[v, .int .i64 0]) ∧ RdS w' v (Sh.lnB s) ∧ Below w.heap.size w w') := Lib.hid (fun w => (HSp.out w).mono (fun e w' ⟨v, h1, h2, h3⟩ => ⟨v, h1, by rw [if_pos rfl] at h2; exact h2, h3⟩))
      clear hc hk hfz hsm HSp
      generalize Sh.lnB s = xs at *
      generalize hg : p.hunks = hs at *
      obtain ⟨N, hN⟩ : ∃ N, N = hs.length := ⟨_, rfl⟩
      have HN := Lib.hid hN.symm
      rw [← hN] at hfew HR HK k2 hW HCk ⊢
      clear hN hg
      go_enter Tryz.func17, Tryz.ntmps17
      go_upto_region 1 with fail
      rw [← hW]
      clear hW
      go_wp2_with fail
      refine HCk.out.mono ?_
      rintro e w0 ⟨rfl, hb⟩
      have HBz := Lib.hid (HB0.out.trans (hb.mono HB0.out.size))
      have HKz := Lib.hid (HK.out.below hb)
      clear hb HCk HB0 HK
      go_wp2_with fail
      refine (HSq.out _).mono ?_
      rintro e w1 ⟨lv, rfl, hrl, hb⟩
      have HB1 := Lib.hid (HBz.out.trans (hb.mono HBz.out.size))
      have HK1 := Lib.hid (HKz.out.below hb)
      have HL1 := Lib.hid (fun w' (hb : Below w1.heap.size w1 w') => hrl.below hb)
      obtain ⟨Al, cl, rfl, -, -⟩ := hrl
      clear hb HBz HKz HSq
      generalize hX : xs.length = X at *
      have HX := Lib.hid hX
      clear hX
      go_wp2_with fail
      go_loopw [9] (fun i wr => ∃ j : Nat, j ≤ N ∧ i = .int .i64 j ∧ Hid (∃ acc i0, At xs hs j acc i0) ∧ Hid (Below w1.heap.size w1 wr)) (fun i _ => N - (intOf i).toNat)
      case atStart => exact ⟨0, Nat.zero_le _, rfl, HA0, Lib.hid (Below.refl _ _)⟩
      case round =>
        obtain ⟨j, hj, rfl, HAt, HB⟩ := hrel
        have HBw := Lib.hid (HB1.out.trans (HB.out.mono HB1.out.size))
        obtain ⟨k0, k1, k2, -, -⟩ := blk3 (HK1.out.below HB.out)
        by_cases hlt : j < N
        · have hx : j < hs.length := by rw [HN.out]; exact hlt
          obtain ⟨bl, off, Ah, ch, rfl, c0, c1, c2, hrh⟩ := RdP_at (HR.out wr HBw.out) j hx
          obtain ⟨acc, i0, hAt⟩ := HAt.out
          obtain ⟨o, ho, hio⟩ := hAt.place hx
          have hpos := HPos.out _ (List.getElem_mem hx)
          have HNo := Lib.hid (fun hf => hAt.no hx hf)
          have HSt : Hid (fitH xs hs[j] → ∃ acc i0, At xs hs (j + 1) acc i0) := Lib.hid (fun hf => ⟨_, _, hAt.step hx hf⟩)
          have hls := (HSm.out _ (List.getElem_mem hx)).1
          have HfD : Hid (decide (o + (oldT hs[j]).length ≤ xs.length ∧ cut xs o (o + (oldT hs[j]).length) = oldT hs[j]) = decide (fitH xs hs[j])) := Lib.hid (fit_dec ho)
          have ho2 : o ≤ 4096 := by rw [ho] at hpos; omega
          clear hAt HAt hio hpos
          rw [ho] at c0
          clear ho
          generalize hs[j] = h at *
          obtain ⟨ho', hn, ls⟩ := h
          simp only at c0 c1 c2 hrh hls
          have HFt := Lib.hid (fitsR_any o hn _ (.slice Al X cl) ls xs wr hrh (HL1.out wr HB.out) (by omega) (by have := HX.out; omega) (by omega))
          have e7 : oldT ⟨ho', hn, ls⟩ = notK 43 ls := rfl
          rw [e7] at HfD
          rw [HfD.out] at HFt
          generalize hM : ls.length = M at *
          have i1 : (0 : Int) ≤ (j : Int) := by omega
          have i2 : (j : Int) < (N : Int) := by omega
          clear HfD hrh HR HSm HPos e7
          cases hf : decide (fitH xs ⟨ho', hn, ls⟩) with
          | true =>
            have HS2 := Lib.hid (HSt.out (of_decide_eq_true hf))
            rw [hf] at HFt
            clear hf HSt HNo
            go_wp2_with fail
            refine HFt.out.mono ?_
            rintro e w3 ⟨rfl, hb⟩
            have HB3 := Lib.hid (HB.out.trans (hb.mono HB.out.size))
            clear hb
            go_wp2_with fail
            go_roundw
            case rel => exact ⟨j + 1, by omega, by go_num, HS2, HB3⟩
            case measure => simp [intOf]; omega
          | false =>
            have HS2 := Lib.hid (HNo.out (of_decide_eq_false hf))
            rw [hf] at HFt
            clear hf HSt HNo
            go_wp2_with fail
            refine HFt.out.mono ?_
            rintro e w3 ⟨rfl, hb⟩
            have HB3 := Lib.hid (HBw.out.trans (hb.mono HBw.out.size))
            clear hb
            go_wp2_with fail
            go_ret2
            exact HFin.out _ _ HS2.out HB3.out
        · obtain rfl : j = N := by omega
          have HS2 : Hid (fitN xs hs = j) := Lib.hid (by
            obtain ⟨acc, i0, hAt⟩ := HAt.out
            rw [← HN.out] at hAt ⊢
            exact hAt.stop.1)
          go_wp2_with fail
          go_ret2
          exact HFin.out _ _ HS2.out HBw.out
    · have hfz := fits_big (p := p) (s := s) hc hk
      have HFin : Hid (∀ w', Below w.heap.size w w' → FiPost p s w (.returned (.tuple #[.int .i64 0, .int .i64 (Tx.checkF (bs s))])) w') := Lib.hid (fun w' h2 => ⟨by rw [hfz], h2⟩)
      have e1 : (Tx.checkF (bs s) != 0) = true := by rw [bne_iff_ne]; exact hk
      rw [hc] at HCk
      clear hc hk hfz hsm
      generalize Tx.checkF (bs s) = z at *
      go_enter Tryz.func17, Tryz.ntmps17
      go_upto_region 1 with fail
      rw [← hW]
      clear hW
      go_wp2_with fail
      refine HCk.out.mono ?_
      rintro e w0 ⟨rfl, hb⟩
      have HBz := Lib.hid (HB0.out.trans (hb.mono HB0.out.size))
      clear hb HCk HB0 HK
      go_wp2_with fail
      refine (HSp.out _).mono ?_
      rintro e w1 ⟨lv, rfl, -, hb⟩
      have HB1 := Lib.hid (HBz.out.trans (hb.mono HBz.out.size))
      clear hb
      go_wp2_with fail
      go_ret2
      exact HFin.out _ HB1.out
  · have hfz := fits_bad (p := p) (s := s) hc
    have HFin : Hid (∀ w', Below w.heap.size w w' → FiPost p s w (.returned (.tuple #[.int .i64 0, .int .i64 (chkC p)])) w') := Lib.hid (fun w' h2 => ⟨by rw [hfz], h2⟩)
    have e1 : (chkC p != 0) = true := by rw [bne_iff_ne]; exact hc
    clear hc hfz hsm HSp
    generalize chkC p = z at *
    go_enter Tryz.func17, Tryz.ntmps17
    go_upto_region 1 with fail
    rw [← hW]
    clear hW
    go_wp2_with fail
    refine HCk.out.mono ?_
    rintro e w0 ⟨rfl, hb⟩
    have HBz := Lib.hid (HB0.out.trans (hb.mono HB0.out.size))
    clear hb
    go_wp2_with fail
    go_ret2
    exact HFin.out _ HBz.out
end Pa
end
section
namespace Cm
end Cm
namespace Hn
end Hn
namespace Sc
end Sc
namespace St
end St
namespace Tx
end Tx
namespace Uf
end Uf
open Go.RowKit
namespace Pa
open Cm Uf Hn
open Sc (RdK ownK_base ownK_below)
open Tx (bs bss RdS strsV strsV_len strsV_append StrsPost)
open St (nL tS)
theorem oper_app_rds {o : Oper} {a : Act} {K : Act → World → Prop} {Q : Exit → Act → World → Prop} {w : World} (s x : Operand)
    (ho : o.op = .call { callee := .builtin .append, args := #[s, x], argTypes := #[30, 30] })
    (base : Nat) (l : List (List UInt8)) (xs : List ByteArray) (v u : Value) (hs : a.eval s = v) (hown : w.ownsRow base 9 1 v l.length (strsV l))
    (hx : a.eval x = u) (hr : RdS w u xs) (hsz : l.length + xs.length ≤ 16777216) (hbase : base ≤ w.heap.size)
    (h : ∀ v' w', w'.ownsRow base 9 1 v' (l ++ bss xs).length (strsV (l ++ bss xs)) → Below base w w' → w.grownBy w' v.ownBlock → (∀ (G : Nat) (t : TypeId) (L : List Value), t ≠ tStr → Blk w G t L → Blk w' G t L) → K (a.put o.dst v') w') :
    Oper.wp Tryz.prog o a w K Q := by
  obtain ⟨i0, hi0, hz0, hz1, hz2⟩ := info_parts Tx.info_str
  obtain ⟨A, c, rfl, ⟨_, hnone⟩, hc⟩ := hr
  cases A with
  | none =>
    have h0 : xs = [] := by
      rcases Nat.eq_zero_or_pos xs.length with h1 | h1
      · exact List.eq_nil_of_length_eq_zero h1
      · obtain ⟨b, off, e, _⟩ := hc h1; cases e
    subst h0
    obtain rfl := hnone rfl
    have hrun := run_append_owned_none (P := Tryz.prog) (w := w) base 30 o.type 9 i0 1 Tryz.underlying30 hi0 v l.length (strsV l) hown
    unfold Oper.wp
    simp [execOp, ho, resolve, invoke, builtin, hs, hx, hrun, Result.andThen]
    exact h v w (by rw [show l ++ bss [] = l from List.append_nil _]; exact hown) (Below.refl _ _) ⟨rfl, rfl, rfl, Nat.le_refl _, fun _ _ _ => rfl⟩ (fun _ _ _ _ h => h)
  | some ad =>
    refine wp_append_own w s x _ ho base 9 i0 _ 1 16 Tryz.underlying30 hi0 hz0 hz1 hz2 rfl (by omega) v l.length (strsV l) hs hown ad xs.length c (strsV (bss xs)) hx (by rw [strsV_len]; simp [bss]) (fun j y hy => ?_) (fun y hy => ?_) (by unfold maxLen; omega) (by omega) hbase ?_
    · have hj : j < xs.length := by
        rcases Nat.lt_or_ge j xs.length with h1 | h1
        · exact h1
        · rw [List.getElem?_eq_none (by rw [strsV_len]; simp [bss]; exact h1)] at hy; cases hy
      obtain ⟨b, off, e, hcell⟩ := hc (by omega)
      cases e
      have he : (Addr.mk b off none).add j = ⟨b, off + j, none⟩ := by
        unfold Addr.add; split
        · rename_i h0; rw [h0]; rfl
        · rfl
      rw [he, hcell j hj, ← hy]
      simp [strsV, bss, List.getElem?_eq_getElem hj]
    · simp only [strsV, List.mem_map] at hy
      obtain ⟨z, _, rfl⟩ := hy
      rfl
    · intro v' w' h1 h2 _
      refine h v' w' ?_ (Tx.below_of_appendS hown h2 hbase) h2 (fun G t L ht hB => (h2.block G hB.lt (fun e => ?_)).trans hB)
      · rw [strsV_append, List.length_append, show (bss xs).length = xs.length from by simp [bss]]
        exact h1
      · rcases hown.2 with ⟨rfl, _⟩ | ⟨g', cap', cur', rfl, _, hh, _⟩
        · simp [Value.ownBlock] at e
        · have : G = g' := by simpa [Value.ownBlock] using e
          subst this
          unfold Blk at hB
          rw [hB] at hh
          injection hh with hh
          injection hh with _ ht2
          exact ht ht2
theorem step_app_rds {ops : Array Oper} {o : Oper} {a : Act} {K : Act → World → Prop} {Q : Exit → Act → World → Prop} {E : Prop} {w : World} (hgd : o.guard = none) (s x : Operand)
    (ho : o.op = .call { callee := .builtin .append, args := #[s, x], argTypes := #[30, 30] })
    (base : Nat) (l : List (List UInt8)) (xs : List ByteArray) (v u : Value) (hs : a.eval s = v) (hown : w.ownsRow base 9 1 v l.length (strsV l))
    (hx : a.eval x = u) (hr : RdS w u xs) (hsz : l.length + xs.length ≤ 16777216) (hbase : base ≤ w.heap.size)
    (h : ∀ v' w', w'.ownsRow base 9 1 v' (l ++ bss xs).length (strsV (l ++ bss xs)) → Below base w w' → w.grownBy w' v.ownBlock → (∀ (G : Nat) (t : TypeId) (L : List Value), t ≠ tStr → Blk w G t L → Blk w' G t L) → K (a.put o.dst v') w') :
    if Region.wanted o (yielded ops a.tmps) = true then Oper.wp Tryz.prog o a w K Q else E := by
  rw [if_pos (by simp [Region.wanted, hgd])]
  exact oper_app_rds s x ho base l xs v u hs hown hx hr hsz hbase h
set_option maxRecDepth 100000 in
set_option maxHeartbeats 8000000 in
theorem ApplyR_any (p : Pat) (v : Value) (s : ByteArray) (w : World) (hr : RdP w v p.hunks) (hsh : ShOk p) (hn : nL p.hunks ≤ 500000) (hts : tS p.hunks ≤ 100000000) (hs : s.size ≤ 4194304) : Calls Tryz.prog 15 #[tPatV p v, .string s] w (ApPost p s w) := by
  have HB0 := Lib.hid ((Below.refl w.heap.size w).alloc (Nat.le_refl _) (.cells #[.string p.on, .string p.nn, v] tPat))
  have hrd := hr.below HB0.out
  obtain ⟨A, c, rfl⟩ := hr.form
  have HRe := Lib.hid (FitsR_any p _ s _ hrd hsh hs)
  unfold FiPost at HRe
  have HLn := Lib.hid (fun w => Tx.LinesR_any s w hs)
  unfold StrsPost at HLn
  have HR := Lib.hid (fun w' (hb : Below w.heap.size w w') => hr.below hb)
  have HK : Hid (Blk (w.alloc (.cells #[.string p.on, .string p.nn, .slice A p.hunks.length c] tPat)) w.heap.size tPat [.string p.on, .string p.nn, .slice A p.hunks.length c]) := Lib.hid (heap_new w _)
  obtain ⟨k0, k1, k2, -, -⟩ := blk3 HK.out
  obtain ⟨W, hW⟩ : ∃ W, W = w.alloc (.cells #[.string p.on, .string p.nn, .slice A p.hunks.length c] tPat) := ⟨_, rfl⟩
  rw [← hW] at HB0 HRe HK k0 k1 k2
  have hsm : PatSm p.hunks := hsh.1.1
  clear hr hrd hsh
  by_cases h0 : (fitsF p s).2 = 0
  · obtain ⟨hc, hk⟩ := fits_err h0
    have hfo := fits_ok (p := p) (s := s) hc hk
    by_cases hfit : fitN (Sh.lnB s) p.hunks < p.hunks.length
    · have HMiss : Hid (∀ w', Below w.heap.size w w' → ApPost p s w (.returned (.tuple #[.string ⟨#[]⟩, .int .i64 140])) w') := Lib.hid (fun w' h2 => ⟨by rw [app_miss hc hk hfit], h2⟩)
      rw [hfo] at HRe
      clear h0 hc hk hfo hsm hn hts HLn HR
      generalize fitN (Sh.lnB s) p.hunks = n at *
      generalize p.hunks.length = N at *
      have c1 : (n : Int) < (N : Int) := by omega
      go_enter Tryz.func15, Tryz.ntmps15
      go_upto_region 1 with fail
      rw [← hW]
      clear hW
      go_wp2_with fail
      refine HRe.out.mono ?_
      rintro e w1 ⟨rfl, hb⟩
      have HB1 := Lib.hid (HB0.out.trans (hb.mono HB0.out.size))
      obtain ⟨k0, k1, k2, -, -⟩ := blk3 (HK.out.below hb)
      clear hb
      go_wp2_with fail
      go_ret2
      exact HMiss.out _ HB1.out
    · have hall : fitN (Sh.lnB s) p.hunks = p.hunks.length := Nat.le_antisymm (fitN_le _ _) (Nat.le_of_not_lt hfit)
      have hll : (Sh.lnB s).length ≤ 4096 := by rw [lnB_num]; exact (check_zero.1 hk).2
      have HPos := Lib.hid (fun h (hh : h ∈ p.hunks) => ((St.okPat_of hc).hk h hh).1)
      have HFt := Lib.hid (fit_all hall)
      obtain ⟨hrl, hrs⟩ := res_ok hc hk hsm hn
      have htot : Tx.total (appT (Sh.lnB s) 0 p.hunks) ≤ 500000000 := by
        rw [totS_total]
        have := (app_small (p := p) (s := s) hc).2
        omega
      have HNoL : Hid (∀ w', Tx.isListF (bss (appT (Sh.lnB s) 0 p.hunks)) = false → Below w.heap.size w w' → ApPost p s w (.returned (.tuple #[.string ⟨#[]⟩, .int .i64 140])) w') := Lib.hid (fun w' h3 h2 => ⟨by rw [app_joined hc hk hall, if_pos h3], h2⟩)
      have HOk : Hid (∀ w', Tx.isListF (bss (appT (Sh.lnB s) 0 p.hunks)) = true → Below w.heap.size w w' → ApPost p s w (.returned (.tuple #[.string (Tx.joinF (appT (Sh.lnB s) 0 p.hunks)).1, .int .i64 (Tx.joinF (appT (Sh.lnB s) 0 p.hunks)).2])) w') := Lib.hid (fun w' h3 h2 => ⟨by rw [app_joined hc hk hall, if_neg (by rw [h3]; decide)], h2⟩)
      have HA0 : Hid (At (Sh.lnB s) p.hunks 0 [] 0) := Lib.hid (At.zero (chkC_geo hc))
      have HJn : Hid (∀ v w', RdS w' v (appT (Sh.lnB s) 0 p.hunks) → Calls Tryz.prog 39 #[v] w' (Tx.JgPost w' (appT (Sh.lnB s) 0 p.hunks))) := Lib.hid (fun v w' h => Tx.JoinRG_any v _ w' h (by omega) hrs htot)
      unfold Tx.JgPost at HJn
      have HLs : Hid (∀ v w', RdS w' v (appT (Sh.lnB s) 0 p.hunks) → Calls Tryz.prog 38 #[v] w' fun e w'' => e = .returned (.bool (Tx.isListF (bss (appT (Sh.lnB s) 0 p.hunks)))) ∧ Below w'.heap.size w' w'') := Lib.hid (fun v w' h => Tx.ListR_any v _ w' h (by omega) hrs)
      have HSm := Lib.hid hsm.2
      have hfew := hsm.1
      rw [hfo, hall] at HRe
      have HLq : Hid (∀ w, Calls Tryz.prog 32 #[.string s] w fun e w' => ∃ v, e = .returned v ∧ RdS w' v (Sh.lnB s) ∧ Below w.heap.size w w') := Lib.hid (fun w => (HLn.out w).mono (fun e w' ⟨v, h1, h2, h3⟩ => ⟨v, h1, RdS.of_own h2, h3⟩))
      clear h0 hc hk hfo hall hfit hsm hn hrs htot hts HLn
      generalize hg : p.hunks = hs at *
      clear hg
      generalize Sh.lnB s = xs at *
      obtain ⟨R, hR⟩ : ∃ R, R = appT xs 0 hs := ⟨_, rfl⟩
      have HRd := Lib.hid hR
      rw [← hR] at HNoL HOk HJn HLs hrl
      clear hR
      obtain ⟨N, hN⟩ : ∃ N, N = hs.length := ⟨_, rfl⟩
      have HN := Lib.hid hN.symm
      rw [← hN] at hfew HR HK k2 hW HRe ⊢
      clear hN
      have c0 : ¬ ((N : Int) < (N : Int)) := by omega
      go_enter Tryz.func15, Tryz.ntmps15
      go_upto_region 1 with fail
      rw [← hW]
      clear hW
      go_wp2_with fail
      refine HRe.out.mono ?_
      rintro e w0 ⟨rfl, hb⟩
      have HBz := Lib.hid (HB0.out.trans (hb.mono HB0.out.size))
      have HKz := Lib.hid (HK.out.below hb)
      obtain ⟨k0, k1, k2, -, -⟩ := blk3 HKz.out
      clear hb HRe HB0 HK
      go_wp2_with fail
      refine (HLq.out _).mono ?_
      rintro e w1 ⟨lv, rfl, hlr, hb⟩
      have HB1 := Lib.hid (HBz.out.trans (hb.mono HBz.out.size))
      have HK1 := Lib.hid (HKz.out.below hb)
      have HL1 := Lib.hid (fun w' (hb : Below w1.heap.size w1 w') => hlr.below hb)
      obtain ⟨Al, cl, rfl, -, -⟩ := hlr
      obtain ⟨k0, k1, k2, -, -⟩ := blk3 HK1.out
      clear hb HBz HKz HLq c0
      generalize hX : xs.length = X at *
      have HX := Lib.hid hX
      clear hX
      go_wp2_with fail
      go_loopw [9, 10, 11] (fun u nx i wr => ∃ (j : Nat) (acc : List ByteArray) (i0 : Nat), j ≤ N ∧ i = .int .i64 j ∧ nx = .int .i64 i0 ∧ Hid (At xs hs j acc i0) ∧ Hid (wr.ownsRow w1.heap.size 9 1 u (bss acc).length (strsV (bss acc))) ∧ Hid (Below w1.heap.size w1 wr)) (fun _ _ i _ => N - (intOf i).toNat)
      case atStart => exact ⟨0, [], 0, Nat.zero_le _, rfl, rfl, HA0, Lib.hid (World.ownsRow_nil _ _ _ _), Lib.hid (Below.refl _ _)⟩
      case round =>
        obtain ⟨j, acc, i0, hj, rfl, rfl, HAt, HO, HB⟩ := hrel
        have HBw := Lib.hid (HB1.out.trans (HB.out.mono HB1.out.size))
        obtain ⟨k0, k1, k2, -, -⟩ := blk3 (HK1.out.below HB.out)
        have hi0 : i0 ≤ X := by have := HAt.out.2.2.2; rw [HX.out] at this; exact this
        have hacc : acc.length ≤ 1000000 := by have := HAt.out.len; rw [← HRd.out] at this; omega
        by_cases hlt : j < N
        · have hx : j < hs.length := by rw [HN.out]; exact hlt
          obtain ⟨bl, off, Ah, ch, rfl, c0, c1, c2, hrh⟩ := RdP_at (HR.out w (Below.refl _ _)) j hx
          replace c0 := (HBw.out.cell (Tx.cell_lt c0)).trans c0
          replace c1 := (HBw.out.cell (Tx.cell_lt c1)).trans c1
          replace c2 := (HBw.out.cell (Tx.cell_lt c2)).trans c2
          have hAt := HAt.out
          obtain ⟨o, ho, hio⟩ := hAt.place hx
          have hpos := HPos.out _ (List.getElem_mem hx)
          have hstp : o + (oldT hs[j]).length ≤ xs.length ∧ At xs hs (j + 1) (acc ++ cut xs i0 o ++ newT hs[j]) (o + (oldT hs[j]).length) := by
            have hf := HFt.out _ (List.getElem_mem hx)
            have h1 := hAt.step hx hf
            have h2 := hf.1
            rw [ho, Int.toNat_natCast] at h1 h2
            exact ⟨h2, h1⟩
          obtain ⟨hfit, hst⟩ := hstp
          rw [HX.out] at hfit
          have HS2 := Lib.hid hst
          have hl2 : (acc ++ cut xs i0 o ++ newT hs[j]).length ≤ 1000000 := by have := hst.len; rw [← HRd.out] at this; omega
          have hl3 := hl2
          rw [List.length_append] at hl2
          rw [List.length_append, List.length_append] at hl3
          have hls := (HSm.out _ (List.getElem_mem hx)).1
          have HOl : Hid (Tx.mks (notB 43 hs[j].lines) = oldT hs[j]) := Lib.hid (by unfold notB oldT; exact Tx.mks_bs _)
          have HNl : Hid (Tx.mks (notB 45 hs[j].lines) = newT hs[j]) := Lib.hid (by unfold notB newT; exact Tx.mks_bs _)
          have ho2 : o ≤ 4096 := by rw [ho] at hpos; omega
          clear hAt hpos hst
          rw [ho] at c0
          clear ho
          generalize hs[j] = h at *
          obtain ⟨ho', hn, ls⟩ := h
          simp only at c0 c1 c2 hrh hls HOl HNl
          generalize hM : ls.length = M at *
          have i1 : (0 : Int) ≤ (j : Int) := by omega
          have i2 : (j : Int) < (N : Int) := by omega
          have HHx := Lib.hid ((Below.refl wr.heap.size wr).alloc (Nat.le_refl _) (.cells #[.int .i64 (o : Int), .int .i64 hn, .slice Ah M ch] tPh))
          have HHb : Hid (Blk (wr.alloc (.cells #[.int .i64 (o : Int), .int .i64 hn, .slice Ah M ch] tPh)) wr.heap.size tPh [.int .i64 (o : Int), .int .i64 hn, .slice Ah M ch]) := Lib.hid (heap_new wr _)
          obtain ⟨W1, hW1⟩ : ∃ W1, W1 = wr.alloc (.cells #[.int .i64 (o : Int), .int .i64 hn, .slice Ah M ch] tPh) := ⟨_, rfl⟩
          rw [← hW1] at HHx HHb
          have HB2 := Lib.hid (HB.out.trans (HHx.out.mono HB.out.size))
          have HO1 := Lib.hid (ownK_below HO.out HHx.out)
          have HLx := Lib.hid (fun V (hV : Below w1.heap.size w1 V) => HL1.out V hV)
          have HWi : Hid (∀ k V, Below w1.heap.size w1 V → Calls Tryz.prog 37 #[.agg #[.int .i64 (o : Int), .int .i64 hn, .slice Ah M ch], .int .u8 k] V (StrsPost V (notB k ls))) := Lib.hid (fun k V hV => LinesP_any (o : Int) hn _ ls k V (hrh.below (HB1.out.trans (hV.mono HB1.out.size))) (by omega))
          obtain ⟨A2, hs2, hr2⟩ := slice_rds w1 (HLx.out w1 (Below.refl _ _)) i0 o hio (by have := HX.out; omega)
          have HR2 := Lib.hid hr2
          have HE1 : Hid (bss acc ++ bss (cut xs i0 o) = bss (acc ++ cut xs i0 o)) := Lib.hid (by simp [bss])
          have HE2 : Hid (bss (acc ++ cut xs i0 o) ++ bss (newT ⟨ho', hn, ls⟩) = bss (acc ++ cut xs i0 o ++ newT ⟨ho', hn, ls⟩)) := Lib.hid (by simp [bss])
          have hq0 : (0 : Int) ≤ (i0 : Int) := by omega
          have hq1 : (i0 : Int) ≤ (o : Int) := by omega
          have HSx : Hid (∀ V : World, Blk V wr.heap.size tPh [.int .i64 (o : Int), .int .i64 hn, .slice Ah M ch] → V.cell? ⟨wr.heap.size, 0, none⟩ = some (.int .i64 (o : Int)) ∧ V.cell? ⟨wr.heap.size, 1, none⟩ = some (.int .i64 hn) ∧ V.cell? ⟨wr.heap.size, 2, none⟩ = some (.slice Ah M ch)) := Lib.hid (fun V b2 => ⟨b2.cell (k := 0) (show 0 < 3 by decide), b2.cell (k := 1) (show 1 < 3 by decide), b2.cell (k := 2) (show 2 < 3 by decide)⟩)
          clear hr2 HHx HR HSm HPos HFt HO
          generalize oldT ⟨ho', hn, ls⟩ = ol at *
          generalize newT ⟨ho', hn, ls⟩ = nl at *
          generalize hGb : wr.heap.size = G at *
          go_upto_region 13 with fail
          rw [← hW1]
          clear hW1 c0 c1 c2 k0 k1 k2 hrh
          go_cut [9] from 39 to 48 (fun v wx => Hid (wx.ownsRow w1.heap.size 9 1 v (bss (acc ++ cut xs i0 o ++ nl)).length (strsV (bss (acc ++ cut xs i0 o ++ nl)))) ∧ Hid (Below w1.heap.size w1 wx) ∧ Hid (Blk wx G tPh [.int .i64 (o : Int), .int .i64 hn, .slice Ah M ch]))
          case first =>
            have HBd := Lib.hid HB2.out.drew
            have HHd := Lib.hid (HHb.out.below (Below.refl _ W1).drew)
            have HOd := Lib.hid (ownK_below HO1.out (Below.refl _ W1).drew)
            clear HHb HO1
            refine wp_region_held_drew (S := (fun V => V.cell? ⟨G, 0, none⟩ = some (.int .i64 (o : Int)) ∧ V.cell? ⟨G, 1, none⟩ = some (.int .i64 hn) ∧ V.cell? ⟨G, 2, none⟩ = some (.slice Ah M ch))) (by kernel_rfl) (HSx.out _ HHd.out) (fun hHeld => ?_)
            refine wpAnyH_take (i := 0) (v := u9) rfl (by kernel_rfl) (by kernel_rfl) (by kernel_rfl) (fun _ _ _ h => h) (Or.inl ⟨by kernel_rfl, ?_⟩) (by assumption) ?_
            · intro V hV
              obtain ⟨h0, h1, h2⟩ := hV
              go_simp
            change wpAnyH _ _ _ _ _ _ _ (Act.put _ (some 39) _) _
            simp only [Act.put, List.setIfInBounds_toArray, List.set_cons_zero, List.set_cons_succ]
            refine wpAnyH_take (i := 1) (v := .slice Al X cl) rfl (by kernel_rfl) (by kernel_rfl) (by kernel_rfl) (fun _ _ _ h => h) (Or.inl ⟨by kernel_rfl, ?_⟩) (by assumption) ?_
            · intro V hV
              obtain ⟨h0, h1, h2⟩ := hV
              go_simp
            change wpAnyH _ _ _ _ _ _ _ (Act.put _ (some 40) _) _
            simp only [Act.put, List.setIfInBounds_toArray, List.set_cons_zero, List.set_cons_succ]
            refine wpAnyH_take (i := 2) (v := .int .i64 (i0 : Int)) rfl (by kernel_rfl) (by kernel_rfl) (by kernel_rfl) (fun _ _ _ h => h) (Or.inl ⟨by kernel_rfl, ?_⟩) (by assumption) ?_
            · intro V hV
              obtain ⟨h0, h1, h2⟩ := hV
              go_simp
            change wpAnyH _ _ _ _ _ _ _ (Act.put _ (some 41) _) _
            simp only [Act.put, List.setIfInBounds_toArray, List.set_cons_zero, List.set_cons_succ]
            refine wpAnyH_take (i := 3) (v := .pointer (some ⟨G, 0, none⟩)) rfl (by kernel_rfl) (by kernel_rfl) (by kernel_rfl) (fun _ _ _ h => h) (Or.inl ⟨by kernel_rfl, ?_⟩) (by assumption) ?_
            · intro V hV
              obtain ⟨h0, h1, h2⟩ := hV
              go_simp
            change wpAnyH _ _ _ _ _ _ _ (Act.put _ (some 42) _) _
            simp only [Act.put, List.setIfInBounds_toArray, List.set_cons_zero, List.set_cons_succ]
            refine wpAnyH_take (i := 4) (v := .int .i64 (o : Int)) rfl (by kernel_rfl) (by kernel_rfl) (by kernel_rfl) (fun _ _ _ h => h) (Or.inl ⟨by kernel_rfl, ?_⟩) (by assumption) ?_
            · intro V hV
              obtain ⟨h0, h1, h2⟩ := hV
              go_simp
            change wpAnyH _ _ _ _ _ _ _ (Act.put _ (some 43) _) _
            simp only [Act.put, List.setIfInBounds_toArray, List.set_cons_zero, List.set_cons_succ]
            refine wpAnyH_take (i := 7) (v := .agg #[.int .i64 (o : Int), .int .i64 hn, .slice Ah M ch]) rfl (by kernel_rfl) (by kernel_rfl) (by kernel_rfl) (fun _ _ _ h => h) (Or.inl ⟨by kernel_rfl, ?_⟩) (by assumption) ?_
            · intro V hV
              obtain ⟨h0, h1, h2⟩ := hV
              go_simp
            change wpAnyH _ _ _ _ _ _ _ (Act.put _ (some 46) _) _
            simp only [Act.put, List.setIfInBounds_toArray, List.set_cons_zero, List.set_cons_succ]
            refine wpAnyH_ready (rs := [5]) (by kernel_rfl) (by simp) ?_
            refine AllReadyH.cons rfl (fun K hK => ?_) AllReadyH.nil
            go_simp
            refine hK.out _ _ (HSx.out _ HHd.out) (fun hHeld => ?_)
            clear hK K
            refine wpAnyH_ready (rs := [6]) (by kernel_rfl) (by simp) ?_
            refine AllReadyH.cons rfl (fun K hK => ?_) AllReadyH.nil
            refine step_app_rds (by rfl) (.tmp 39) (.tmp 44) (by rfl) w1.heap.size (bss acc) (cut xs i0 o) _ _ (by rfl) HOd.out (by rfl) (HR2.out _ (HLx.out _ HBd.out)) (by simp only [bss, List.length_map]; omega) (HBd.out).size ?_
            intro v6 w6 ho6 hb6 hg6 hk6
            rw [HE1.out] at ho6
            have HO6 := Lib.hid ho6
            have HV6 := Lib.hid ((HBd.out).trans hb6)
            have HH6 := Lib.hid (hk6 _ _ _ (by decide) HHd.out)
            refine hK.out _ _ (HSx.out _ HH6.out) (fun hHeld => ?_)
            clear hK K
            simp only [Act.put, List.setIfInBounds_toArray]
            refine wpAnyH_ready (rs := [8]) (by kernel_rfl) (by simp) ?_
            refine AllReadyH.cons rfl (fun K hK => ?_) AllReadyH.nil
            go_simp
            go_at_call 37
            refine (HWi.out 45 _ HV6.out).mono ?_
            rintro e w8 ⟨y8, rfl, hu8, hbc8⟩
            have HU8 := Lib.hid (Tx.RdS.of_own hu8)
            rw [HNl.out] at HU8
            have HW8 := Lib.hid ((HV6.out).trans (hbc8.mono (HV6.out).size))
            go_wp2_with fail
            have HHc := Lib.hid (HH6.out.below hbc8)
            have HOc := Lib.hid (ownK_below HO6.out hbc8)
            refine hK.out _ _ (HSx.out _ HHc.out) (fun hHeld => ?_)
            clear hK K
            refine wpAnyH_ready (rs := [9]) (by kernel_rfl) (by simp) ?_
            refine AllReadyH.cons rfl (fun K hK => ?_) AllReadyH.nil
            refine step_app_rds (by rfl) (.tmp 45) (.tmp 47) (by rfl) w1.heap.size (bss (acc ++ cut xs i0 o)) nl _ _ (by rfl) HOc.out (by rfl) HU8.out (by simp only [bss, List.length_map]; omega) (HW8.out).size ?_
            intro v9 w9 ho9 hb9 _ hk9
            rw [HE2.out] at ho9
            have HO9 := Lib.hid ho9
            have HV9 := Lib.hid ((HW8.out).trans hb9)
            have HH9 := Lib.hid (hk9 _ _ _ (by decide) HHc.out)
            refine hK.out _ _ (HSx.out _ HH9.out) (fun hHeld => ?_)
            clear hK K
            simp only [Act.put, List.setIfInBounds_toArray]
            refine wpAnyH_ready (rs := [10]) (by kernel_rfl) (by simp) ?_
            refine AllReadyH.cons rfl (fun K hK => ?_) AllReadyH.nil
            go_simp
            refine hK.out _ _ (HSx.out _ HH9.out) (fun hHeld => ?_)
            clear hK K
            refine wpAnyH_done (by kernel_rfl) ?_ _
            go_wp2_with fail
            go_meet
            case rel => exact ⟨HO9, HV9, HH9⟩
          case rest =>
            obtain ⟨HO9, HV9, HH9⟩ := hcut
            have HBr : Hid (Below wc.heap.size wc wc.drew) := Lib.hid (Below.refl _ wc).drew
            have HSy := Lib.hid (fun V (hV : Below wc.heap.size wc V) => HSx.out V (HH9.out.below hV))
            clear HO1 HHb HSx HR2 hs2 HE1 HE2
            have wr1 : IntKind.i64.wrap ((o : Int) + (ol.length : Int)) = (o : Int) + (ol.length : Int) := by rw [IntKind.wrap_i64]; omega
            go_upto_region 14 with fail
            go_region_held3 (fun V => V.cell? ⟨G, 0, none⟩ = some (.int .i64 (o : Int)) ∧ V.cell? ⟨G, 1, none⟩ = some (.int .i64 hn) ∧ V.cell? ⟨G, 2, none⟩ = some (.slice Ah M ch))
              (exact HSy.out _ HBr.out)
              (first
                | (go_at_call 37; refine (HWi.out 43 _ (HV9.out.trans (HBr.out.mono HV9.out.size))).mono ?_; rintro e w' ⟨u', rfl, hu, hb⟩; have HU := Lib.hid (Tx.RdS.of_own hu); rw [HOl.out] at HU; obtain ⟨Au, cu, rfl, -, -⟩ := id HU.out; have HBr := Lib.hid (HBr.out.trans (hb.mono HBr.out.size)); clear hb hu))
            all_goals
              go_wp2_with fail
              go_roundw
              case rel => exact ⟨j + 1, _, _, by omega, by go_num, by go_num, HS2, Lib.hid (ownK_below HO9.out HBr.out), Lib.hid (HV9.out.trans (HBr.out.mono HV9.out.size))⟩
              case measure => simp [intOf]; omega
        · obtain rfl : j = N := by omega
          have hst := HAt.out
          rw [← HN.out] at hst
          obtain ⟨hfull, hres⟩ := hst.stop
          rw [← HRd.out] at hres
          obtain ⟨A2, hs2, hr2⟩ := slice_rest w1 (HL1.out w1 (Below.refl _ _)) i0 (by rw [HX.out]; exact hi0)
          have HRc := Lib.hid (hr2 wr (HL1.out wr HB.out))
          have hl2 : acc.length + (xs.drop i0).length ≤ 1000000 := by rw [← List.length_append, hres]; omega
          have HE1 : Hid (bss acc ++ bss (xs.drop i0) = bss R) := Lib.hid (by rw [← hres]; simp [bss])
          have HMr : Hid (Tx.mks (bss R) = R) := Lib.hid (Tx.mks_bs R)
          have hq0 : (0 : Int) ≤ (i0 : Int) := by omega
          have hq1 : (i0 : Int) ≤ (X : Int) := by omega
          clear hst hfull hres hr2
          go_wp2_with (at_builtin; refine app_rdsG rfl (.tmp 55) (.tmp 58) rfl w1.heap.size (bss acc) (xs.drop i0) _ _ rfl HO.out rfl HRc.out (by simp only [bss, List.length_map]; omega) HB.out.size ?_; intro v4 w4 ho4 hb4 _; rw [HE1.out] at ho4; have HO4 := Lib.hid (Tx.RdS.of_own ho4); rw [HMr.out] at HO4; obtain ⟨A5, c5, rfl, -, -⟩ := id HO4.out; have HV4 := Lib.hid (HB.out.trans hb4); clear ho4 hb4)
          have HL := Lib.hid (HLs.out _ w4 HO4.out)
          have hrr : R.length ≤ 1000000 := hrl
          cases hli : Tx.isListF (bss R) with
          | false =>
            rw [hli] at HL
            have HF2 := Lib.hid (fun w' hb => HNoL.out w' hli hb)
            clear hli HJn HNoL HOk HLs
            refine HL.out.mono ?_
            rintro e w5 ⟨rfl, hb⟩
            have HV5 := Lib.hid (HV4.out.trans (hb.mono HV4.out.size))
            clear hb HL
            go_wp2_with fail
            go_ret2
            exact HF2.out _ (HB1.out.trans (HV5.out.mono HB1.out.size))
          | true =>
            rw [hli] at HL
            have HF2 := Lib.hid (fun w' hb => HOk.out w' hli hb)
            clear hli HNoL HOk HLs
            refine HL.out.mono ?_
            rintro e w5 ⟨rfl, hb⟩
            have HV5 := Lib.hid (HV4.out.trans (hb.mono HV4.out.size))
            have HJ := Lib.hid (HJn.out _ w5 (HO4.out.below hb))
            clear hb HL HJn
            generalize (Tx.joinF R).2 = z at *
            generalize (Tx.joinF R).1 = y at *
            go_wp2_with fail
            refine HJ.out.mono ?_
            rintro e w6 ⟨rfl, hb⟩
            have HV6 := Lib.hid (HV5.out.trans (hb.mono HV5.out.size))
            clear hb HJ
            go_wp2_with fail
            go_ret2
            exact HF2.out _ (HB1.out.trans (HV6.out.mono HB1.out.size))
  · have h1 := app_err h0
    have hf1 := fits_fst h0
    have HFin : Hid (∀ w', Below w.heap.size w w' → ApPost p s w (.returned (.tuple #[.string ⟨#[]⟩, .int .i64 (fitsF p s).2])) w') := Lib.hid (fun w' h2 => ⟨by rw [h1], h2⟩)
    have e1 : ((fitsF p s).2 != 0) = true := by rw [bne_iff_ne]; exact h0
    clear h0 h1 hsm hn hts hf1
    generalize (fitsF p s).2 = z at *
    generalize (fitsF p s).1 = z1 at *
    go_enter Tryz.func15, Tryz.ntmps15
    go_upto_region 1 with fail
    rw [← hW]
    clear hW
    go_wp2_with fail
    refine HRe.out.mono ?_
    rintro e w1 ⟨rfl, hb⟩
    have HB1 := Lib.hid (HB0.out.trans (hb.mono HB0.out.size))
    clear hb
    go_wp2_with fail
    go_ret2
    exact HFin.out _ HB1.out
end Pa
end
section
namespace Cm
end Cm
namespace Hn
end Hn
namespace Sc
end Sc
namespace St
end St
namespace Tx
end Tx
namespace Uf
end Uf
open Go.RowKit
namespace Pa
open Cm Uf Hn
open Sc (Pow)
open Tx (bs)
open St (nL tS tL)
theorem tL_szL : ∀ ls : List Ln, tL ls ≤ szL (lnsPt ls)
  | [] => Nat.le_refl _
  | l :: ls => by
    have ih := tL_szL ls
    have e : lnsPt (l :: ls) = lnPt l ++ lnsPt ls := by unfold lnsPt; rw [List.flatMap_cons]
    have h2 : tL (l :: ls) = l.text.size + tL ls := by rw [show l :: ls = [l] ++ ls from rfl, St.tL_app, St.tL_one]
    have h3 : l.text.size ≤ szL (lnPt l) := by unfold lnPt szL; simp; omega
    rw [e, szL_app, h2]
    omega
theorem tS_szL : ∀ hs : List PH, tS hs ≤ szL (hs.flatMap hkPt)
  | [] => Nat.le_refl _
  | h :: hs => by
    have ih := tS_szL hs
    have h1 := tL_szL h.lines
    have h2 : tS (h :: hs) = tL h.lines + tS hs := by unfold tS; simp
    have e : szL (hkPt h) = (hkB h).size + szL (lnsPt h.lines) := by unfold hkPt; rw [szL_cons]
    rw [List.flatMap_cons, szL_app, h2, e]
    omega
theorem tS_made {p : Pat} (h : MkOk p) : tS p.hunks ≤ 4194304 := by
  have h1 := tS_szL p.hunks
  have h2 := h.sz
  unfold partsF at h2
  rw [szL_cons] at h2
  omega
set_option maxRecDepth 100000 in
set_option maxHeartbeats 8000000 in
theorem applies_walk (v : Value) (us : List Int) (ctx : Int) (s : ByteArray) (w : World) (h : RdV w v (intsV us)) (hu : us.length ≤ maxLen) (hub : ∀ z ∈ us, -9223372036854775808 ≤ z ∧ z ≤ 9223372036854775807) (hc0 : -9223372036854775808 ≤ ctx) (hc1 : ctx ≤ 9223372036854775807) (hp : Pow w) :
    Calls Tryz.prog 3 #[v, .int .i64 ctx, .string s] w (AwPost w) := by
  have HAw := Lib.hid (fun w' (hb : Below w.heap.size w w') => awake_any w' (hp.stays hb))
  have HPw := Lib.hid (fun w' (hb : Below w.heap.size w w') => hp.stays hb)
  have HPk := Lib.hid (pick_any v us ctx w h hu hub hc0 hc1)
  have HNr := Lib.hid (fun wq (hb : Below w.heap.size w wq) (a : ByteArray) (ha : a.size ≤ 36) => Sh.Near_any a v us 300 wq (h.below hb) hu (by omega) ⟨by omega, by omega⟩)
  obtain ⟨A, c, rfl⟩ := h.form
  have hm0 := Tx.modF_lo ctx 4 (by omega)
  have hm1 := Tx.modF_hi ctx 4 (by omega)
  clear h hu hub hc0 hc1 hp
  rw [intsV_len] at HPk HNr ⊢
  generalize us.length = nu at *
  generalize Tx.modF ctx 4 = m at *
  unfold PkPost at HPk
  unfold Tx.SomeStr at HNr
  by_cases hs : 60 < s.size
  · have c1 : (60 : Int) < (s.size : Int) := by omega
    have HA := Lib.hid (HAw.out w (Below.refl _ _))
    clear HAw HPw HPk HNr
    go_enter Tryz.func3, Tryz.ntmps3
    go_wp2_with fail
    refine HA.out.mono ?_
    rintro e w1 ⟨rfl, hb⟩
    have HB := Lib.hid hb
    clear hb HA
    go_wp2_with fail
    go_ret
    exact ⟨rfl, HB.out⟩
  · have c1 : ¬ (60 : Int) < (s.size : Int) := by omega
    have hs6 : s.size ≤ 60 := by omega
    go_enter Tryz.func3, Tryz.ntmps3
    go_wp2_with fail
    refine HPk.out.mono ?_
    rintro e w1 ⟨a, b, A1, c1', hax, hbx, rfl, ho, hb⟩
    have hok := mk_ok (ctx := m) hm0 (show a.size ≤ 1000 by omega) (show b.size ≤ 1000 by omega) false (on := oB) (nn := nB) (by decide) (by decide)
    have hsm := mk_sm (ctx := m) hm0 hax hbx false (on := oB) (nn := nB) (by decide) (by decide)
    have hsh := hok.sh
    have hts := tS_made hok
    clear hok
    generalize patH (Sh.lnB a) (Sh.lnB b) m (scrD false a b) = P at *
    have HSm := Lib.hid hsm
    have HSh := Lib.hid hsh
    have HTs := Lib.hid hts
    have HX1 := Lib.hid (BxP.new (p := ⟨oB, nB, P⟩) ho.rd)
    have HB1 := Lib.hid (hb.alloc hb.size (.cells #[.string oB, .string nB, .slice A1 P.length c1'] tPat))
    clear hsm hsh hts hm0 hm1 hbx HPk ho
    go_upto_region 4 with fail
    obtain ⟨W0, hW⟩ : ∃ W, W = w1.alloc (.cells #[.string oB, .string nB, .slice A1 P.length c1'] tPat) := ⟨_, rfl⟩
    rw [← hW] at HX1 HB1 ⊢
    clear hW hb
    generalize w1.heap.size = pb at *
    go_wp2_with fail
    refine (HNr.out _ HB1.out a hax).mono ?_
    rintro e w2 ⟨n, hn, rfl, hb⟩
    have HX2 := Lib.hid (HX1.out.below hb)
    have HB2 := Lib.hid (HB1.out.trans (hb.mono HB1.out.size))
    have HK3 : Hid (Blk (w2.alloc (.cells #[.string a, .string n, .string s] tStr)) w2.heap.size tStr [.string a, .string n, .string s]) := Lib.hid (heap_new w2 _)
    have HB3' := Lib.hid ((Below.refl w2.heap.size w2).alloc (Nat.le_refl _) (.cells #[.string a, .string n, .string s] tStr))
    go_upto_region 5 with fail
    obtain ⟨W3, hW⟩ : ∃ W, W = w2.alloc (.cells #[.string a, .string n, .string s] tStr) := ⟨_, rfl⟩
    rw [← hW] at HK3 HB3' ⊢
    clear hW hb
    have HX3 := Lib.hid (HX2.out.below HB3'.out)
    have HB3 := Lib.hid (HB2.out.trans (HB3'.out.mono HB2.out.size))
    clear HB3' HX2 HB2 HX1 HB1 HNr
    generalize w2.heap.size = g at *
    have HL : Hid (∀ j, j < 3 → ∃ x : ByteArray, x.size ≤ 4194304 ∧ ∀ V, Below W3.heap.size W3 V → V.cell? ⟨g, j, none⟩ = some (.string x)) := Lib.hid (fun j hj => by
      rcases (show j = 0 ∨ j = 1 ∨ j = 2 by omega) with rfl | rfl | rfl
      · exact ⟨a, by omega, fun V hV => (HK3.out.below hV).cell (k := 0) (show 0 < 3 by decide)⟩
      · exact ⟨n, by omega, fun V hV => (HK3.out.below hV).cell (k := 1) (show 1 < 3 by decide)⟩
      · exact ⟨s, by omega, fun V hV => (HK3.out.below hV).cell (k := 2) (show 2 < 3 by decide)⟩)
    clear HK3
    go_wp2_with fail
    go_loopw [11] (fun i wr => ∃ j : Nat, j ≤ 3 ∧ i = .int .i64 j ∧ Hid (Below W3.heap.size W3 wr)) (fun i _ => 3 - (intOf i).toNat)
    case atStart => exact ⟨0, by decide, rfl, Lib.hid (Below.refl _ _)⟩
    case round =>
      obtain ⟨j, hj, rfl, HB⟩ := hrel
      by_cases hlt : j < 3
      · obtain ⟨x, hx, hcell⟩ := HL.out j hlt
        have HS : Hid (∀ V, Below W3.heap.size W3 V → V.cell? ⟨g, j, none⟩ = some (.string x) ∧ V.cell? ⟨pb, 0, none⟩ = some (.string oB) ∧ V.cell? ⟨pb, 1, none⟩ = some (.string nB) ∧ V.cell? ⟨pb, 2, none⟩ = some (.slice A1 P.length c1')) := Lib.hid (fun V hV => ⟨hcell V hV, (HX3.out.below hV).cells⟩)
        have HC1 : Hid (∀ V, Below W3.heap.size W3 V → Calls Tryz.prog 14 #[.agg #[.string oB, .string nB, .slice A1 P.length c1'], .string x] V (ApPost ⟨oB, nB, P⟩ x V)) := Lib.hid (fun V hV => Ap HSm.out (HX3.out.below hV).2 hx (HPw.out _ (HB3.out.trans (hV.mono HB3.out.size))))
        have HC2 : Hid (∀ V, Below W3.heap.size W3 V → Calls Tryz.prog 15 #[.agg #[.string oB, .string nB, .slice A1 P.length c1'], .string x] V (ApPost ⟨oB, nB, P⟩ x V)) := Lib.hid (fun V hV => ApplyR_any ⟨oB, nB, P⟩ _ x V (HX3.out.below hV).2 HSh.out (by have h1 := HSm.out.n; simp only at h1 ⊢; omega) (Nat.le_trans HTs.out (by decide)) hx)
        have HC3 : Hid (∀ V, Below W3.heap.size W3 V → Calls Tryz.prog 16 #[.agg #[.string oB, .string nB, .slice A1 P.length c1'], .string x] V (FiPost ⟨oB, nB, P⟩ x V)) := Lib.hid (fun V hV => Fits_any ⟨oB, nB, P⟩ _ x V (HX3.out.below hV).2 HSm.out.sm hx (HPw.out _ (HB3.out.trans (hV.mono HB3.out.size))))
        have HC4 : Hid (∀ V, Below W3.heap.size W3 V → Calls Tryz.prog 17 #[.agg #[.string oB, .string nB, .slice A1 P.length c1'], .string x] V (FiPost ⟨oB, nB, P⟩ x V)) := Lib.hid (fun V hV => FitsR_any ⟨oB, nB, P⟩ _ x V (HX3.out.below hV).2 HSh.out hx)
        unfold ApPost at HC1 HC2
        unfold FiPost at HC3 HC4
        generalize (applyF ⟨oB, nB, P⟩ x).1 = y at *
        generalize (applyF ⟨oB, nB, P⟩ x).2 = z at *
        generalize (fitsF ⟨oB, nB, P⟩ x).1 = y2 at *
        generalize (fitsF ⟨oB, nB, P⟩ x).2 = z2 at *
        have i1 : (0 : Int) ≤ (j : Int) := by omega
        have i2 : (j : Int) < 3 := by omega
        have k9 : IntKind.i64.wrap ((j : Int) + 1) = (j : Int) + 1 := IntWalk.i64_in _ (by omega)
        clear hcell hx HX3 HSm HSh HTs
        go_upto_region 8 with fail
        have HBr := Lib.hid HB.out.drew
        go_region_held3 (fun V => V.cell? ⟨g, j, none⟩ = some (.string x) ∧ V.cell? ⟨pb, 0, none⟩ = some (.string oB) ∧ V.cell? ⟨pb, 1, none⟩ = some (.string nB) ∧ V.cell? ⟨pb, 2, none⟩ = some (.slice A1 P.length c1'))
          (exact HS.out _ HBr.out)
          (first | (go_at_call 14; refine (HC1.out _ HBr.out).mono ?_; rintro e w' ⟨rfl, hb⟩; have HBr := Lib.hid (HBr.out.trans (hb.mono HBr.out.size)); clear hb))
        go_upto_region 9 with fail
        have HBr := Lib.hid HBr.out.drew
        go_region_held3 (fun V => V.cell? ⟨g, j, none⟩ = some (.string x) ∧ V.cell? ⟨pb, 0, none⟩ = some (.string oB) ∧ V.cell? ⟨pb, 1, none⟩ = some (.string nB) ∧ V.cell? ⟨pb, 2, none⟩ = some (.slice A1 P.length c1'))
          (exact HS.out _ HBr.out)
          (first | (go_at_call 15; refine (HC2.out _ HBr.out).mono ?_; rintro e w' ⟨rfl, hb⟩; have HBr := Lib.hid (HBr.out.trans (hb.mono HBr.out.size)); clear hb))
        go_upto_region 10 with fail
        have HBr := Lib.hid HBr.out.drew
        go_region_held3 (fun V => V.cell? ⟨g, j, none⟩ = some (.string x) ∧ V.cell? ⟨pb, 0, none⟩ = some (.string oB) ∧ V.cell? ⟨pb, 1, none⟩ = some (.string nB) ∧ V.cell? ⟨pb, 2, none⟩ = some (.slice A1 P.length c1'))
          (exact HS.out _ HBr.out)
          (first | (go_at_call 16; refine (HC3.out _ HBr.out).mono ?_; rintro e w' ⟨rfl, hb⟩; have HBr := Lib.hid (HBr.out.trans (hb.mono HBr.out.size)); clear hb))
        go_upto_region 11 with fail
        have HBr := Lib.hid HBr.out.drew
        go_region_held3 (fun V => V.cell? ⟨g, j, none⟩ = some (.string x) ∧ V.cell? ⟨pb, 0, none⟩ = some (.string oB) ∧ V.cell? ⟨pb, 1, none⟩ = some (.string nB) ∧ V.cell? ⟨pb, 2, none⟩ = some (.slice A1 P.length c1'))
          (exact HS.out _ HBr.out)
          (first | (go_at_call 17; refine (HC4.out _ HBr.out).mono ?_; rintro e w' ⟨rfl, hb⟩; have HBr := Lib.hid (HBr.out.trans (hb.mono HBr.out.size)); clear hb))
        go_wp2_with fail
        go_roundw
        case rel => exact ⟨j + 1, by omega, by go_num, HBr⟩
        case measure => simp [intOf]; omega
      · obtain rfl : j = 3 := by omega
        have HBw := Lib.hid (HB3.out.trans (HB.out.mono HB3.out.size))
        have HA := Lib.hid (HAw.out _ HBw.out)
        go_wp2_with fail
        refine HA.out.mono ?_
        rintro e w4 ⟨rfl, hb⟩
        have HB4 := Lib.hid (HBw.out.trans (hb.mono HBw.out.size))
        clear hb
        go_wp2_with fail
        go_ret
        exact ⟨rfl, HB4.out⟩
end Pa
end
section
namespace Cm
end Cm
namespace Hn
end Hn
namespace Sc
end Sc
namespace St
end St
namespace Tx
end Tx
namespace Uf
end Uf
open Go.RowKit
namespace Pa
open Cm Uf Hn
open Sc (Pow below_drewN RdK)
open Tx (bs)
open St (Sb mod_at ownP_some ownL_some ownP_row ownP_line ownP_box le_nL nL)
/-- What stands behind the law's change of a made patch. -/
def Ed (w : World) (B : Nat) (wx : World) : Prop := ∃ (hs : List PH) (A : Option Addr) (n c : Nat), n = hs.length ∧ Blk wx B tPat [.string oB, .string nB, .slice A n c] ∧ RdP wx (.slice A n c) hs ∧ Sb hs 1000 184 ∧ Below w.heap.size w wx
end Pa
end
section
namespace Cm
end Cm
namespace Hn
end Hn
namespace Sc
end Sc
namespace St
end St
namespace Tx
end Tx
namespace Uf
end Uf
open Go.RowKit
namespace Pa
open Cm Uf Hn
open Sc (Pow below_drewN RdK)
open Tx (bs)
open St (Sb Sq mod_at ownP_some ownL_some ownP_row ownP_line ownP_box ownP_pos le_nL nL tS)
/-- A patch that both sides' calls can be made with. -/
structure Gd (p : Pat) : Prop where
  sm : Sm p
  sh : ShOk p
  t : tS p.hunks ≤ 100000000
theorem Gd.of {p : Pat} {N T : Nat} (h : Sq p.hunks N T) (hN : N ≤ 17000) (hT : T ≤ 1100000) : Gd p := ⟨⟨(h.sh hN hT).1.1, by have := h.n; omega⟩, h.sh hN hT, by have := h.t; omega⟩
theorem Gd.ap {p : Pat} (h : Gd p) {v : Value} {s : ByteArray} {w : World} (hr : RdP w v p.hunks) (hs : s.size ≤ 4194304) : Calls Tryz.prog 15 #[tPatV p v, .string s] w (ApPost p s w) :=
  ApplyR_any p v s w hr h.sh (by have := h.sm.n; omega) h.t hs
theorem Gd.rv {p : Pat} (h : Gd p) {v : Value} {w : World} (hr : RdP w v p.hunks) : Calls Tryz.prog 20 #[tPatV p v] w (PtPost (reverseF p).1 (reverseF p).2 w) :=
  ReverseR_any p v w hr h.sh (by have := h.sm.n; omega) h.sm.lines
theorem Gd.few {p : Pat} (h : Gd p) : (reverseF p).1.hunks.length ≤ 1000000 ∧ ∀ g ∈ (reverseF p).1.hunks, g.lines.length ≤ 1000000 := by
  unfold reverseF
  split
  · exact ⟨Nat.zero_le _, fun g hg => by cases hg⟩
  · exact ⟨h.sm.rev.sm.1, fun g hg => (h.sm.rev.sm.2 g hg).1⟩
theorem nL_eight (hs : List PH) (h : ∀ g ∈ hs, g.lines.length ≤ 8) : nL hs ≤ hs.length * 8 := by
  induction hs with
  | nil => exact Nat.zero_le _
  | cons g hs ih =>
    have h1 := ih (fun x hx => h x (List.mem_cons_of_mem _ hx))
    have h2 := h g (List.mem_cons_self ..)
    have h3 : nL (g :: hs) = g.lines.length + nL hs := by unfold nL; simp
    rw [h3, List.length_cons]
    omega
/-- What every call of the law keeps: the patch that came in and the patch that was picked, each in its block. -/
structure Cx (w : World) (B : Nat) (on nn : ByteArray) (hs qs : List PH) (v1 v2 : Value) (V : World) : Prop where
  bel : Below w.heap.size w V
  x : Blk V w.heap.size tPat [.string on, .string nn, v1]
  hx : RdP V v1 hs
  y : Blk V B tPat [.string oB, .string nB, v2]
  hy : RdP V v2 qs
theorem Cx.below {w : World} {B : Nat} {on nn : ByteArray} {hs qs : List PH} {v1 v2 : Value} {V V' : World} (h : Cx w B on nn hs qs v1 v2 V) (hb : Below V.heap.size V V') : Cx w B on nn hs qs v1 v2 V' := ⟨h.bel.trans (hb.mono h.bel.size), h.x.below hb, h.hx.below hb, h.y.below hb, h.hy.below hb⟩
set_option maxRecDepth 100000 in
set_option maxHeartbeats 16000000 in
theorem any_walk (on nn : ByteArray) (hs : List PH) (A : Option Addr) (n c : Nat) (s : ByteArray) (v : Value) (us : List Int) (ctx what atv : Int) (w : World) (hrp : RdP w (.slice A n c) hs) (hts : tS hs ≤ 1100000)
    (hpos : ∀ h ∈ hs, (-9223372036854775808 ≤ h.old ∧ h.old ≤ 9223372036854775807) ∧ (-9223372036854775808 ≤ h.new ∧ h.new ≤ 9223372036854775807))
    (h : RdV w v (intsV us)) (hu : us.length ≤ maxLen) (hub : ∀ z ∈ us, -9223372036854775808 ≤ z ∧ z ≤ 9223372036854775807) (hc1 : -9223372036854775808 ≤ ctx ∧ ctx ≤ 9223372036854775807)
    (hw1 : -9223372036854775808 ≤ what ∧ what ≤ 9223372036854775807) (ha1 : -9223372036854775808 ≤ atv ∧ atv ≤ 9223372036854775807) (hp : Pow w) :
    Calls Tryz.prog 4 #[.agg #[.string on, .string nn, .slice A n c], .string s, v, .int .i64 ctx, .int .i64 what, .int .i64 atv] w (AwPost w) := by
  have hn : hs.length = n := by
    obtain ⟨A', c', e⟩ := hrp.form
    injection e with e1 e2 e3
    exact e2.symm
  have HAw := Lib.hid (fun w' (hb : Below w.heap.size w w') => awake_any w' (hp.stays hb))
  have HPw := Lib.hid (fun w' (hb : Below w.heap.size w w') => hp.stays hb)
  have HPk := Lib.hid (fun w' (hb : Below w.heap.size w w') => pick_any v us ctx w' (h.below hb) hu hub hc1.1 hc1.2)
  have HGd := Lib.hid (fun (hl : ∀ h ∈ hs, h.lines.length ≤ 8) (h5 : n ≤ 4) => (Gd.of (p := ⟨on, nn, hs⟩) (N := 60) (T := 1100000) ⟨by have := nL_eight hs hl; simp only; omega, hts, hpos⟩ (by omega) (by omega)))
  have HMn := Lib.hid (mod_at atv ha1.1 ha1.2)
  have HMw := Lib.hid (fun w => Tx.Mod_any what 4 w (by omega) (by omega) hw1.1 hw1.2)
  have hr0 := Tx.modF_lo what 4 (by omega)
  have hr1 := Tx.modF_hi what 4 (by omega)
  have hm0 := Tx.modF_lo ctx 4 (by omega)
  have hm1 := Tx.modF_hi ctx 4 (by omega)
  obtain ⟨Ar, cr, rfl⟩ := h.form
  clear h hu hub hc1 hw1 ha1 hts hpos hp
  rw [intsV_len] at HPk ⊢
  generalize us.length = nu at *
  generalize Tx.modF ctx 4 = m at *
  generalize Tx.modF what 4 = r at *
  unfold PkPost at HPk
  have HRp := Lib.hid hrp
  have HN := Lib.hid hn
  clear hrp hn
  obtain ⟨W0, hW0⟩ : ∃ W0, W0 = w.alloc (.cells #[.string on, .string nn, .slice A n c] tPat) := ⟨_, rfl⟩
  have HB0 : Hid (Below w.heap.size w W0) := Lib.hid (by rw [hW0]; exact (Below.refl w.heap.size w).alloc (Nat.le_refl _) _)
  have HX0 : Hid (Blk W0 w.heap.size tPat [.string on, .string nn, .slice A n c]) := Lib.hid (by rw [hW0]; exact heap_new w _)
  have HR0 := Lib.hid (HRp.out.below HB0.out)
  have HA0 := Lib.hid (HAw.out W0 HB0.out)
  obtain ⟨x0, x1, x2, xf, xlt⟩ := blk3 HX0.out
  go_enter Tryz.func4, Tryz.ntmps4
  go_upto_region 1 with fail
  rw [← hW0]
  clear hW0
  by_cases g1 : (4 : Int) < (n : Int) ∨ (60 : Int) < (s.size : Int) ∨ (300 : Int) < (on.size : Int) ∨ (300 : Int) < (nn.size : Int)
  · clear HPk HGd HMn HMw HRp HR0 HX0 HPw HAw hr0 hr1 hm0 hm1
    by_cases c1 : (4 : Int) < (n : Int)
    · skip
      go_wp2_with fail
      refine HA0.out.mono ?_
      rintro e w1 ⟨rfl, hb⟩
      have HF := Lib.hid (HB0.out.trans (hb.mono HB0.out.size))
      clear hb
      go_wp2_with fail
      go_ret
      exact ⟨rfl, HF.out⟩
    · by_cases c2 : (60 : Int) < (s.size : Int)
      · skip
        go_wp2_with fail
        refine HA0.out.mono ?_
        rintro e w1 ⟨rfl, hb⟩
        have HF := Lib.hid (HB0.out.trans (hb.mono HB0.out.size))
        clear hb
        go_wp2_with fail
        go_ret
        exact ⟨rfl, HF.out⟩
      · by_cases c3 : (300 : Int) < (on.size : Int)
        · skip
          go_wp2_with fail
          refine HA0.out.mono ?_
          rintro e w1 ⟨rfl, hb⟩
          have HF := Lib.hid (HB0.out.trans (hb.mono HB0.out.size))
          clear hb
          go_wp2_with fail
          go_ret
          exact ⟨rfl, HF.out⟩
        · have c4 : (300 : Int) < (nn.size : Int) := by omega
          go_wp2_with fail
          refine HA0.out.mono ?_
          rintro e w1 ⟨rfl, hb⟩
          have HF := Lib.hid (HB0.out.trans (hb.mono HB0.out.size))
          clear hb
          go_wp2_with fail
          go_ret
          exact ⟨rfl, HF.out⟩
  · have h5 : n ≤ 4 := by omega
    have hs6 : s.size ≤ 60 := by omega
    have c1 : ¬ (4 : Int) < (n : Int) := by omega
    have c2 : ¬ (60 : Int) < (s.size : Int) := by omega
    have c3 : ¬ (300 : Int) < (on.size : Int) := by omega
    have c4 : ¬ (300 : Int) < (nn.size : Int) := by omega
    clear g1
    go_wp2_with fail
    go_loopw [13] (fun i wr => ∃ j : Nat, j ≤ n ∧ i = .int .i64 j ∧ Hid (∀ h ∈ hs.take j, h.lines.length ≤ 8) ∧ W0 = wr) (fun i _ => n - (intOf i).toNat)
    case atStart => exact ⟨0, Nat.zero_le _, rfl, Lib.hid (fun h hh => by cases hh), rfl⟩
    case round =>
      obtain ⟨j, hj, rfl, HL, rfl⟩ := hrel
      by_cases hlt : j < n
      · have hx : j < hs.length := by rw [HN.out]; exact hlt
        obtain ⟨b, off, Al, cl, rfl, d0, d1, d2, -⟩ := RdP_at HR0.out j hx
        have HTk := Lib.hid (show hs.take (j + 1) = hs.take j ++ [hs[j]] from List.take_succ_eq_append_getElem hx)
        have i1 : (0 : Int) ≤ (j : Int) := by omega
        have i2 : (j : Int) < (n : Int) := by omega
        generalize hs[j] = hh at *
        clear d0 d1 HPk HGd HMn HMw HRp HPw HAw hr0 hr1 hm0 hm1
        by_cases h10 : (8 : Int) < (hh.lines.length : Int)
        · clear HL HTk
          go_wp2_with fail
          refine HA0.out.mono ?_
          rintro e w1 ⟨rfl, hb⟩
          have HF := Lib.hid (HB0.out.trans (hb.mono HB0.out.size))
          clear hb
          go_wp2_with fail
          go_ret
          exact ⟨rfl, HF.out⟩
        · have HL2 : Hid (∀ h ∈ hs.take (j + 1), h.lines.length ≤ 8) := Lib.hid (fun h hm => by
            rw [HTk.out, List.mem_append] at hm
            rcases hm with hm | hm
            · exact HL.out h hm
            · rw [List.mem_singleton.1 hm]; omega)
          clear HTk HL
          go_wp2_with fail
          go_roundw
          case rel => exact ⟨j + 1, by omega, by go_num, HL2, trivial⟩
          case measure => simp [intOf]; omega
      · have hjn : j = n := by omega
        subst hjn
        have ht : hs.take j = hs := by rw [← HN.out, List.take_length]
        rw [ht] at HL
        have HG := Lib.hid (HGd.out HL.out h5)
        have HP0 := Lib.hid (HPk.out W0 HB0.out)
        clear HGd HL ht HA0 HPk
        go_wp2_with fail
        refine HP0.out.mono ?_
        rintro e w1 ⟨a, b, A1, c1, hax, hbx, rfl, ho, hb⟩
        have hsb := St.mk_sb (ctx := m) hm0 hax hbx (on := oB) (nn := nB) (by decide) (by decide)
        generalize patH (Sh.lnB a) (Sh.lnB b) m (scrD false a b) = P at *
        have HSb := Lib.hid hsb
        have hA := (Below.refl w1.heap.size w1).alloc (Nat.le_refl _) (.cells #[.string oB, .string nB, .slice A1 P.length c1] tPat)
        have HO := Lib.hid (ho.below hA)
        have HX : Hid (Blk (w1.alloc (.cells #[.string oB, .string nB, .slice A1 P.length c1] tPat)) w1.heap.size tPat [.string oB, .string nB, .slice A1 P.length c1]) := Lib.hid (heap_new w1 _)
        have HB1 := Lib.hid (hb.alloc hb.size (.cells #[.string oB, .string nB, .slice A1 P.length c1] tPat))
        have hlen : P.length ≤ 1000 := by have := hsb.1.n; omega
        obtain ⟨W, hW⟩ : ∃ W, W = w1.alloc (.cells #[.string oB, .string nB, .slice A1 P.length c1] tPat) := ⟨_, rfl⟩
        rw [← hW] at HO HX HB1
        have hwB : W0.heap.size ≤ w1.heap.size := hb.size
        clear ho hb hsb hA hbx
        generalize hBx : w1.heap.size = B at *
        go_upto_region 9 with fail
        rw [← hW]
        clear hW hBx
        obtain ⟨x0, x1, x2, xf, xlt⟩ := blk3 HX.out
        go_upto_if 83 with fail
        obtain ⟨dd, hdd⟩ : ∃ dd, dd = decide (0 < P.length) := ⟨_, rfl⟩
        rw [← hdd]
        go_cut [17, 18] from 84 to 133 (fun _ _ wx => Hid (Ed W0 B wx))
        case first =>
          by_cases hP0 : P.length = 0
          · have HE : Hid (Ed W0 B W) := Lib.hid ⟨P, _, _, _, rfl, HX.out, HO.out.rd, HSb.out.1.mono (Nat.le_refl _) (by decide), HB1.out⟩
            obtain rfl : dd = false := by rw [hdd]; simp [hP0]
            clear HX HO HSb HMn HB1 hdd
            go_wp2_with fail
            go_meet
            case rel => exact HE
          · obtain rfl : dd = true := by rw [hdd]; simp; omega
            clear hdd
            have hPp : 0 < P.length := by omega
            obtain ⟨G, c4', e4, hG1, hG2⟩ := ownP_some HO.out hPp
            injection e4 with e5 e6 e7
            subst e5
            subst e7
            clear e6
            obtain ⟨k, hk, hmk⟩ := HMn.out P.length hPp (by omega)
            have HMk := Lib.hid hmk
            obtain ⟨-, Al, cl, r0, r1, r2, rl, rf⟩ := ownP_row HO.out k hk
            have hne := HSb.out.2.1 P[k] (List.getElem_mem hk)
            have hlp : 0 < P[k].lines.length := Nat.pos_of_ne_zero (fun e => hne (List.eq_nil_of_length_eq_zero e))
            have hll : P[k].lines.length ≤ 1000 := by have := le_nL (List.getElem_mem hk); have := HSb.out.1.n; omega
            obtain ⟨g, cl', e8, hg1, hg2⟩ := ownL_some rl hlp
            injection e8 with e9 e10 e11
            subst e9
            subst e11
            clear e10
            obtain ⟨i, hi, hmi⟩ := HMn.out P[k].lines.length hlp (by omega)
            have HMi := Lib.hid hmi
            have HRl := Lib.hid rl
            have HSt := Lib.hid (HSb.out.1.t P[k] (List.getElem_mem hk))
            have HS1 := Lib.hid HSb.out.1
            have HPo := Lib.hid (HSb.out.2.2 P[k] (List.getElem_mem hk))
            obtain ⟨hh, hhk⟩ : ∃ hh, P[k] = hh := ⟨_, rfl⟩
            have HHk := Lib.hid hhk
            rw [hhk] at HPo
            rw [hhk] at r0 r1 r2 HRl hlp hll HMi hi HSt
            clear hne rl hmk hmi HMn hP0 HSb hhk
            have hBG : B ≠ G := by
              intro e
              have h1 := HX.out
              obtain ⟨zs, q1, -, -⟩ := HO.out
              rcases q1.2 with ⟨e2, _⟩ | ⟨g', cap, cur, e2, _, hh2, _⟩
              · cases e2
              · injection e2 with e3
                injection e3 with e3
                injection e3 with e3
                unfold Blk at h1
                rw [e, e3, hh2] at h1
                injection h1 with h1
                injection h1 with _ h1
                exact absurd h1 (by decide)
            go_upto_region 10 with fail
            go_cut [17] from 84 to 91 (fun u wx => u = .pointer (some ⟨G, k * 3, none⟩) ∧ Hid (Below W.heap.size W wx))
            case first =>
              clear HO HB1 HRl HSt HS1
              have i1 : (0 : Int) ≤ (k : Int) := by omega
              have i2 : (k : Int) < (P.length : Int) := by omega
              go_quiet ((go_at_call 18; exact Calls.quiet_of_same (HMk.out _)))
              go_wp2_with fail
              go_meet
              case rel => exact ⟨rfl, Lib.hid (below_drewN (Below.refl _ _) _)⟩
            case rest =>
              obtain ⟨rfl, HBc⟩ := hcut
              obtain ⟨wa, rfl⟩ : ∃ wa, wa = wc := ⟨wc, rfl⟩
              have s0 := (HBc.out.cell (Tx.cell_lt r0)).trans r0
              have s1 := (HBc.out.cell (Tx.cell_lt r1)).trans r1
              have s2 := (HBc.out.cell (Tx.cell_lt r2)).trans r2
              have HXc := Lib.hid (HX.out.below HBc.out)
              have HOc := Lib.hid (HO.out.below HBc.out)
              have HRc := Lib.hid (HRl.out.below HBc.out)
              have HBx := Lib.hid (HB1.out.trans (HBc.out.mono HB1.out.size))
              clear r0 r1 r2 rf HX HO HRl HB1 HBc x0 x1 x2 xf xlt
              obtain ⟨x0, x1, x2, xf, xlt⟩ := blk3 HXc.out
              go_upto_region 11 with fail
              go_cut [18] from 92 to 103 (fun u wx => u = .pointer (some ⟨g, i * 2, none⟩) ∧ Hid (Below wa.heap.size wa wx))
              case first =>
                clear HOc HBx HRc HSt HS1 HXc
                have i1 : (0 : Int) ≤ (i : Int) := by omega
                have i2 : (i : Int) < (hh.lines.length : Int) := by omega
                go_quiet ((go_at_call 18; exact Calls.quiet_of_same (HMi.out _)))
                go_wp2_with fail
                go_meet
                case rel => exact ⟨rfl, Lib.hid (below_drewN (Below.refl _ _) _)⟩
              case rest =>
                obtain ⟨rfl, HBd⟩ := hcut
                obtain ⟨wb, rfl⟩ : ∃ wb, wb = wc := ⟨wc, rfl⟩
                have HXd := Lib.hid (HXc.out.below HBd.out)
                have HOd := Lib.hid (HOc.out.below HBd.out)
                have HRd := Lib.hid (HRc.out.below HBd.out)
                have HBy := Lib.hid (HBx.out.trans (HBd.out.mono HBx.out.size))
                have e0 := (HBd.out.cell (Tx.cell_lt s0)).trans s0
                have e1 := (HBd.out.cell (Tx.cell_lt s1)).trans s1
                have ef : ∀ j, wb.frozen? ⟨G, j, none⟩ = false := fun j => by
                  obtain ⟨zs, q1, q2, -⟩ := (HOc.out.below HBd.out)
                  rw [← q2] at q1
                  exact World.ownsRow.frozenAt q1 j
                clear s0 s1 s2 HXc HOc HRc HBx HMi HBd x0 x1 x2 xf xlt
                obtain ⟨x0, x1, x2, xf, xlt⟩ := blk3 HXd.out
                obtain ⟨b7, o7, e7, t0, t1⟩ := RdL_at HRd.out.rd i hi
                injection e7 with e7
                injection e7 with e8 e9
                subst e8
                subst e9
                rw [Nat.zero_add] at t0 t1
                have tf : ∀ j, wb.frozen? ⟨g, j, none⟩ = false := fun j => World.ownsRow.frozenAt (show wb.ownsRow W0.heap.size tLn 2 (.slice (some ⟨g, 0, none⟩) hh.lines.length cl) hh.lines.length (Sc.flatK lineC hh.lines) from HRd.out) j
                have HTz : Hid ((hh.lines[i]'hi).text.size ≤ 180) := Lib.hid (HSt.out _ (List.getElem_mem hi))
                obtain ⟨ln, hln⟩ : ∃ ln, hh.lines[i]'hi = ln := ⟨_, rfl⟩
                rw [hln] at t0 t1 HTz
                clear hln
                have HEb : Hid (Ed W0 B wb) := Lib.hid ⟨P, _, _, _, rfl, HXd.out, HOd.out.rd, HS1.out.mono (Nat.le_refl _) (by decide), HBy.out⟩
                have HPs := Lib.hid (⟨HPo.out.1.1, HPo.out.1.2, HPo.out.2.1, HPo.out.2.2⟩ : 0 ≤ hh.old ∧ hh.old ≤ 4096 ∧ 0 ≤ hh.new ∧ hh.new ≤ 4096)
                have hPs := HPs.out
                have hBg : B ≠ g := by
                  intro e
                  have h1 := HXd.out
                  rcases HRd.out.2 with ⟨e2, _⟩ | ⟨g', cap, cur, e2, _, hh2, _⟩
                  · cases e2
                  · injection e2 with e3
                    injection e3 with e3
                    injection e3 with e3
                    unfold Blk at h1
                    rw [e, e3, hh2] at h1
                    injection h1 with h1
                    injection h1 with _ h1
                    exact absurd h1 (by decide)
                rcases (show r = 0 ∨ r = 1 ∨ r = 2 ∨ r = 3 by omega) with hr | hr | hr | hr
                · subst hr
                  have HE : Hid (Ed W0 B (wb.setCell ⟨g, i * 2 + 1, none⟩ (.string ⟨#[122, 122, 10]⟩))) := Lib.hid (by
                    obtain ⟨hs', q1, q2, q3⟩ := ownP_line (g := g) (k := i) (e := 1) (u := .string ⟨#[122, 122, 10]⟩) HOd.out HRd.out (by decide) (fun x => ⟨x.kind, ⟨#[122, 122, 10]⟩⟩) (fun x => rfl) HS1.out (fun x _ => by show (3 : Nat) ≤ _; decide)
                    exact ⟨hs', _, _, _, q2.symm, HXd.out.set_ne hBg _ _, q1.rd, q3.mono (Nat.le_refl _) (by decide), HBy.out.setCell (p := ⟨g, i * 2 + 1, none⟩) (by show W0.heap.size ≤ g; exact hg1) _⟩)
                  clear HXd HOd HRd HBy HEb HSt HS1 HTz e0 e1 ef x0 x1 x2 xf hPs HPs HPo HHk
                  go_wp2_with fail
                  refine (HMw.out _).mono ?_
                  rintro e w5 ⟨rfl, rfl⟩
                  go_wp2_with fail
                  go_meet
                  case rel => exact HE
                · subst hr
                  have k8 : IntKind.i64.wrap (hh.old + 1) = hh.old + 1 := IntWalk.i64_in _ (by omega)
                  have k9 : IntKind.i64.wrap (hh.new + 1) = hh.new + 1 := IntWalk.i64_in _ (by omega)
                  have HEn : Hid (∀ V, Below wb.heap.size wb V → Ed W0 B ((V.setCell ⟨G, k * 3, none⟩ (.int .i64 (hh.old + 1))).setCell ⟨G, k * 3 + 1, none⟩ (.int .i64 (hh.new + 1)))) := Lib.hid (fun V hV => by
                    have o1 := ownP_pos (e := 0) (HOd.out.below hV) hk (by decide) (hh.old + 1) ⟨hh.old + 1, P[k].new, P[k].lines⟩ rfl
                    have hk2 : k < (P.set k ⟨hh.old + 1, P[k].new, P[k].lines⟩).length := by rw [List.length_set]; exact hk
                    have o2 := ownP_pos (e := 1) o1 hk2 (by decide) (hh.new + 1) ⟨hh.old + 1, hh.new + 1, P[k].lines⟩ (by simp)
                    have s1 := HS1.out.set (x := ⟨hh.old + 1, P[k].new, P[k].lines⟩) hk (Nat.le_refl _) (fun l hl => hl) (by rw [HHk.out]; simp only; omega)
                    have s2 := s1.set (x := ⟨hh.old + 1, hh.new + 1, P[k].lines⟩) hk2 (by simp) (fun l hl => by simpa using hl) (by simp only; omega)
                    refine ⟨_, _, _, _, by simp, ((HXd.out.below hV).set_ne hBG _ _).set_ne hBG _ _, o2.rd, s2.mono (Nat.le_refl _) (by decide), ?_⟩
                    exact ((HBy.out.trans (hV.mono HBy.out.size)).setCell (p := ⟨G, k * 3, none⟩) (by show W0.heap.size ≤ G; exact hG1) _).setCell (p := ⟨G, k * 3 + 1, none⟩) (by show W0.heap.size ≤ G; exact hG1) _)
                  have HEa := Lib.hid (HEn.out wb (Below.refl _ _))
                  have HEd := Lib.hid (HEn.out wb.drew (Below.refl _ wb).drew)
                  clear HXd HOd HRd HBy HEb HSt HS1 HTz t0 t1 tf x0 x1 x2 xf hPs HPs HPo HHk HEn
                  go_wp2_with fail
                  refine (HMw.out _).mono ?_
                  rintro e w5 ⟨rfl, rfl⟩
                  go_upto_region 16 with fail
                  go_region
                  all_goals
                    go_wp2_with fail
                    go_meet
                    case rel => first | exact HEa | exact HEd
                · subst hr
                  have HE : Hid (Ed W0 B (wb.setCell ⟨g, i * 2, none⟩ (.int .u8 43))) := Lib.hid (by
                    obtain ⟨hs', q1, q2, q3⟩ := ownP_line (g := g) (k := i) (e := 0) (u := .int .u8 43) HOd.out HRd.out (by decide) (fun x => ⟨43, x.text⟩) (fun x => rfl) HS1.out (fun x hx => Nat.le_succ_of_le hx)
                    exact ⟨hs', _, _, _, q2.symm, HXd.out.set_ne hBg _ _, q1.rd, q3.mono (Nat.le_refl _) (by decide), HBy.out.setCell (p := ⟨g, i * 2, none⟩) (by show W0.heap.size ≤ g; exact hg1) _⟩)
                  clear HXd HOd HRd HBy HEb HSt HS1 HTz e0 e1 ef x0 x1 x2 xf hPs HPs HPo HHk
                  go_wp2_with fail
                  refine (HMw.out _).mono ?_
                  rintro e w5 ⟨rfl, rfl⟩
                  go_wp2_with fail
                  go_meet
                  case rel => exact HE
                · subst hr
                  clear HXd HOd HRd HBy HSt HS1 HTz e0 e1 ef x0 x1 x2 xf hPs HPs HPo HHk
                  go_wp2_with fail
                  refine (HMw.out _).mono ?_
                  rintro e w5 ⟨rfl, rfl⟩
                  go_wp2_with fail
                  go_meet
                  case rel => exact HEb
        case rest =>
          obtain ⟨qs, A2, n2, c2', hn2, hY, hRq, hSb, hb⟩ := hcut
          have HQ := Lib.hid (Gd.of (p := ⟨oB, nB, qs⟩) (N := 1000) (T := 1000 * 184) hSb.sq (by decide) (by decide))
          have HXc : Hid (Cx w B on nn hs qs (.slice A j c) (.slice A2 n2 c2') wc) := Lib.hid ⟨HB0.out.trans (hb.mono HB0.out.size), HX0.out.below hb, HR0.out.below hb, hY, hRq⟩
          have HAp := Lib.hid (fun V (hV : Cx w B on nn hs qs (.slice A j c) (.slice A2 n2 c2') V) => Ap HG.out.sm (s := s) hV.hx (by omega) (HPw.out V hV.bel))
          have HAr := Lib.hid (fun V (hV : Cx w B on nn hs qs (.slice A j c) (.slice A2 n2 c2') V) => HG.out.ap (s := s) hV.hx (by omega))
          have HRp := Lib.hid (fun V (hV : Cx w B on nn hs qs (.slice A j c) (.slice A2 n2 c2') V) => Rv HG.out.sm hV.hx (HPw.out V hV.bel))
          have HRr := Lib.hid (fun V (hV : Cx w B on nn hs qs (.slice A j c) (.slice A2 n2 c2') V) => HG.out.rv hV.hx)
          have HBp := Lib.hid (fun V (hV : Cx w B on nn hs qs (.slice A j c) (.slice A2 n2 c2') V) => Ap HQ.out.sm (s := a) hV.hy (by omega) (HPw.out V hV.bel))
          have HBr := Lib.hid (fun V (hV : Cx w B on nn hs qs (.slice A j c) (.slice A2 n2 c2') V) => HQ.out.ap (s := a) hV.hy (by omega))
          have HSp := Lib.hid (fun V (hV : Cx w B on nn hs qs (.slice A j c) (.slice A2 n2 c2') V) => Rv HQ.out.sm hV.hy (HPw.out V hV.bel))
          have HSr := Lib.hid (fun V (hV : Cx w B on nn hs qs (.slice A j c) (.slice A2 n2 c2') V) => HQ.out.rv hV.hy)
          have HF1 := Lib.hid HG.out.few
          have HF2 := Lib.hid HQ.out.few
          unfold ApPost at HAr HBr
          unfold PtPost at HRp HRr HSp HSr
          generalize (applyF ⟨on, nn, hs⟩ s).1 = ya at *
          generalize (applyF ⟨on, nn, hs⟩ s).2 = za at *
          generalize (applyF ⟨oB, nB, qs⟩ a).1 = yb at *
          generalize (applyF ⟨oB, nB, qs⟩ a).2 = zb at *
          generalize (reverseF ⟨on, nn, hs⟩).2 = zc at *
          generalize (reverseF ⟨oB, nB, qs⟩).2 = zd at *
          generalize (reverseF ⟨on, nn, hs⟩).1 = pc at *
          generalize (reverseF ⟨oB, nB, qs⟩).1 = pd at *
          obtain ⟨con, cnn, cs⟩ := pc
          obtain ⟨don, dnn, ds⟩ := pd
          simp only at HRp HRr HSp HSr HF1 HF2
          have HG1 := Lib.hid (fun (V : World) (v u : Value) (hv : RdP V v cs) (hu : RdP V u cs) => Patch_same ⟨con, cnn, cs⟩ v u V hv hu HF1.out.1 HF1.out.2)
          have HG2 := Lib.hid (fun (V : World) (v u : Value) (hv : RdP V v ds) (hu : RdP V u ds) => Patch_same ⟨don, dnn, ds⟩ v u V hv hu HF2.out.1 HF2.out.2)
          unfold YesPost at HG1 HG2
          generalize hcl : cs.length = cL at *
          generalize hdl : ds.length = dL at *
          have HcL := Lib.hid hcl
          have HdL := Lib.hid hdl
          clear hn2 hY hRq hSb hb hcl hdl HF1 HF2 HQ HG HX0 HR0 HB0 HMn HMw x0 x1 x2 xf xlt
          obtain ⟨x0, x1, x2, -, -⟩ := blk3 HXc.out.x
          obtain ⟨y0, y1, y2, -, -⟩ := blk3 HXc.out.y
          have HC := Lib.hid (HAp.out _ HXc.out)
          clear HAp
          go_wp2_with fail
          refine HC.out.mono ?_
          rintro e w2 ⟨rfl, hb⟩
          clear x0 x1 x2 y0 y1 y2
          have HXc := Lib.hid (HXc.out.below hb)
          clear hb HC
          obtain ⟨x0, x1, x2, -, -⟩ := blk3 HXc.out.x
          obtain ⟨y0, y1, y2, -, -⟩ := blk3 HXc.out.y
          have HC := Lib.hid (HAr.out _ HXc.out)
          clear HAr
          go_wp2_with fail
          refine HC.out.mono ?_
          rintro e w3 ⟨rfl, hb⟩
          clear x0 x1 x2 y0 y1 y2
          have HXc := Lib.hid (HXc.out.below hb)
          clear hb HC
          obtain ⟨x0, x1, x2, -, -⟩ := blk3 HXc.out.x
          obtain ⟨y0, y1, y2, -, -⟩ := blk3 HXc.out.y
          have HC := Lib.hid (HRp.out _ HXc.out)
          clear HRp
          go_wp2_with fail
          refine HC.out.mono ?_
          rintro e w4 ⟨v9, rfl, ho, hb⟩
          obtain ⟨AUa, cUa, rfl⟩ := ho.form
          rw [HcL.out] at ho ⊢
          clear x0 x1 x2 y0 y1 y2
          have HXc := Lib.hid (HXc.out.below hb)
          have hA := (Below.refl w4.heap.size w4).alloc (Nat.le_refl _) (.cells #[.string con, .string cnn, .slice AUa cL cUa] tPat)
          have HXc := Lib.hid (HXc.out.below hA)
          have HUa := Lib.hid (BxP.new (p := ⟨con, cnn, cs⟩) ho.rd)
          go_upto_region 22 with fail
          obtain ⟨WUa, hW⟩ : ∃ W, W = w4.alloc (.cells #[.string con, .string cnn, .slice AUa cL cUa] tPat) := ⟨_, rfl⟩
          have hz : w4.heap.size = w4.heap.size := rfl
          rw [← hW] at HXc HUa ⊢
          clear hW hA hb ho HC hz
          generalize w4.heap.size = bUa at *
          obtain ⟨x0, x1, x2, -, -⟩ := blk3 HXc.out.x
          obtain ⟨y0, y1, y2, -, -⟩ := blk3 HXc.out.y
          have HC := Lib.hid (HRr.out _ HXc.out)
          clear HRr
          go_wp2_with fail
          refine HC.out.mono ?_
          rintro e w5 ⟨v9, rfl, ho, hb⟩
          obtain ⟨AUb, cUb, rfl⟩ := ho.form
          rw [HcL.out] at ho ⊢
          clear x0 x1 x2 y0 y1 y2
          have HXc := Lib.hid (HXc.out.below hb)
          have HUa := Lib.hid (HUa.out.below hb)
          have hA := (Below.refl w5.heap.size w5).alloc (Nat.le_refl _) (.cells #[.string con, .string cnn, .slice AUb cL cUb] tPat)
          have HXc := Lib.hid (HXc.out.below hA)
          have HUa := Lib.hid (HUa.out.below hA)
          have HUb := Lib.hid (BxP.new (p := ⟨con, cnn, cs⟩) ho.rd)
          go_upto_region 23 with fail
          obtain ⟨WUb, hW⟩ : ∃ W, W = w5.alloc (.cells #[.string con, .string cnn, .slice AUb cL cUb] tPat) := ⟨_, rfl⟩
          have hz : w5.heap.size = w5.heap.size := rfl
          rw [← hW] at HXc HUb ⊢
          rw [← hW] at HUa
          clear hW hA hb ho HC hz
          generalize w5.heap.size = bUb at *
          obtain ⟨x0, x1, x2, -, -⟩ := blk3 HXc.out.x
          obtain ⟨y0, y1, y2, -, -⟩ := blk3 HXc.out.y
          have HC := Lib.hid (HBp.out _ HXc.out)
          clear HBp
          go_wp2_with fail
          refine HC.out.mono ?_
          rintro e w6 ⟨rfl, hb⟩
          clear x0 x1 x2 y0 y1 y2
          have HXc := Lib.hid (HXc.out.below hb)
          have HUa := Lib.hid (HUa.out.below hb)
          have HUb := Lib.hid (HUb.out.below hb)
          clear hb HC
          obtain ⟨x0, x1, x2, -, -⟩ := blk3 HXc.out.x
          obtain ⟨y0, y1, y2, -, -⟩ := blk3 HXc.out.y
          have HC := Lib.hid (HBr.out _ HXc.out)
          clear HBr
          go_wp2_with fail
          refine HC.out.mono ?_
          rintro e w7 ⟨rfl, hb⟩
          clear x0 x1 x2 y0 y1 y2
          have HXc := Lib.hid (HXc.out.below hb)
          have HUa := Lib.hid (HUa.out.below hb)
          have HUb := Lib.hid (HUb.out.below hb)
          clear hb HC
          obtain ⟨x0, x1, x2, -, -⟩ := blk3 HXc.out.x
          obtain ⟨y0, y1, y2, -, -⟩ := blk3 HXc.out.y
          have HC := Lib.hid (HSp.out _ HXc.out)
          clear HSp
          go_wp2_with fail
          refine HC.out.mono ?_
          rintro e w8 ⟨v9, rfl, ho, hb⟩
          obtain ⟨AVa, cVa, rfl⟩ := ho.form
          rw [HdL.out] at ho ⊢
          clear x0 x1 x2 y0 y1 y2
          have HXc := Lib.hid (HXc.out.below hb)
          have HUa := Lib.hid (HUa.out.below hb)
          have HUb := Lib.hid (HUb.out.below hb)
          have hA := (Below.refl w8.heap.size w8).alloc (Nat.le_refl _) (.cells #[.string don, .string dnn, .slice AVa dL cVa] tPat)
          have HXc := Lib.hid (HXc.out.below hA)
          have HUa := Lib.hid (HUa.out.below hA)
          have HUb := Lib.hid (HUb.out.below hA)
          have HVa := Lib.hid (BxP.new (p := ⟨don, dnn, ds⟩) ho.rd)
          go_upto_region 26 with fail
          obtain ⟨WVa, hW⟩ : ∃ W, W = w8.alloc (.cells #[.string don, .string dnn, .slice AVa dL cVa] tPat) := ⟨_, rfl⟩
          have hz : w8.heap.size = w8.heap.size := rfl
          rw [← hW] at HXc HVa ⊢
          rw [← hW] at HUa
          rw [← hW] at HUb
          clear hW hA hb ho HC hz
          generalize w8.heap.size = bVa at *
          obtain ⟨x0, x1, x2, -, -⟩ := blk3 HXc.out.x
          obtain ⟨y0, y1, y2, -, -⟩ := blk3 HXc.out.y
          have HC := Lib.hid (HSr.out _ HXc.out)
          clear HSr
          go_wp2_with fail
          refine HC.out.mono ?_
          rintro e w9 ⟨v9, rfl, ho, hb⟩
          obtain ⟨AVb, cVb, rfl⟩ := ho.form
          rw [HdL.out] at ho ⊢
          clear x0 x1 x2 y0 y1 y2
          have HXc := Lib.hid (HXc.out.below hb)
          have HUa := Lib.hid (HUa.out.below hb)
          have HUb := Lib.hid (HUb.out.below hb)
          have HVa := Lib.hid (HVa.out.below hb)
          have hA := (Below.refl w9.heap.size w9).alloc (Nat.le_refl _) (.cells #[.string don, .string dnn, .slice AVb dL cVb] tPat)
          have HXc := Lib.hid (HXc.out.below hA)
          have HUa := Lib.hid (HUa.out.below hA)
          have HUb := Lib.hid (HUb.out.below hA)
          have HVa := Lib.hid (HVa.out.below hA)
          have HVb := Lib.hid (BxP.new (p := ⟨don, dnn, ds⟩) ho.rd)
          go_upto_region 27 with fail
          obtain ⟨WVb, hW⟩ : ∃ W, W = w9.alloc (.cells #[.string don, .string dnn, .slice AVb dL cVb] tPat) := ⟨_, rfl⟩
          have hz : w9.heap.size = w9.heap.size := rfl
          rw [← hW] at HXc HVb ⊢
          rw [← hW] at HUa
          rw [← hW] at HUb
          rw [← hW] at HVa
          clear hW hA hb ho HC hz
          generalize w9.heap.size = bVb at *
          obtain ⟨u0, u1, u2⟩ := HUa.out.cells
          obtain ⟨t0, t1, t2⟩ := HUb.out.cells
          have HC := Lib.hid (HG1.out _ _ _ HUa.out.2 HUb.out.2)
          simp only [tPatV] at HC
          clear HG1
          go_wp2_with fail
          refine HC.out.mono ?_
          rintro e w10 ⟨rfl, hb⟩
          have HXc := Lib.hid (HXc.out.below hb)
          have HVa := Lib.hid (HVa.out.below hb)
          have HVb := Lib.hid (HVb.out.below hb)
          clear hb HC u0 u1 u2 t0 t1 t2
          obtain ⟨u0, u1, u2⟩ := HVa.out.cells
          obtain ⟨t0, t1, t2⟩ := HVb.out.cells
          have HC := Lib.hid (HG2.out _ _ _ HVa.out.2 HVb.out.2)
          simp only [tPatV] at HC
          clear HG2
          go_wp2_with fail
          refine HC.out.mono ?_
          rintro e w11 ⟨rfl, hb⟩
          have HXc := Lib.hid (HXc.out.below hb)
          have HA9 := Lib.hid (HAw.out _ HXc.out.bel)
          clear hb HC u0 u1 u2 t0 t1 t2
          go_wp2_with fail
          refine HA9.out.mono ?_
          rintro e w12 ⟨rfl, hb⟩
          have HF := Lib.hid (HXc.out.bel.trans (hb.mono HXc.out.bel.size))
          clear hb
          go_wp2_with fail
          go_ret
          exact ⟨rfl, HF.out⟩
end Pa
end
end
end Go.Proofs.YtjecfmbecgpbmaaGreatDoor

/-
  A made patch in its box, Make with the names of the laws. Conditions: short blobs. The program's reader, whole. Conditions: texts of at most 500000 bytes and 16388 line feeds; the table of powers. A made patch as a text: its size and its line feeds; made of the laws of layer 13. Conditions: short blobs; the table of powers. Sizes of what the reference's reader reads. No conditions. A patch of the call's own that is written at one place stays a patch; sizes. No conditions. A made patch: its lines, positions and texts. Conditions: short blobs. The verifier's spoilt of layer 12: a made patch that is changed at one place. Conditions: none beyond the arguments' bounds. The walk of the law UnifiedChecks of layer 12. Conditions: the table of powers; the texts of the raw patch together have at most 2^20 bytes.
-/
import Derived.Test.YtlnghfmedkfkmaaGreatDoorGUniCheck
import Derived.Test.YtlnghfmedkfkmaaGreatDoorGUniFmt
import Derived.Test.YtlnghfmedkfkmaaGreatDoorShoNea
import Derived.Test.YtlnghfmedkfkmaaGreatDoorGStrRd
import Derived.Deep.AppendLies
import Derived.Test.YtlnghfmedkfkmaaGreatDoorTextProg
import Derived.MapKept
import Derived.ChangeMaps4
import Derived.Test.YtlnghfmedkfkmaaGreatDoorUniRMk
import Derived.Deep.CutRange
import Derived.Test.YtlnghfmedkfkmaaGreatDoorStrM
import Derived.Test.YtlnghfmedkfkmaaGreatDoorScrSpoil
import Derived.Test.YtlnghfmedkfkmaaGreatDoorGUniCount
namespace Go.Proofs.YtlnghfmedkfkmaaGreatDoor
section
section
namespace Cm
end Cm
namespace Hn
end Hn
namespace Sc
end Sc
namespace Tx
end Tx
open Go.RowKit
namespace Uf
open Cm Hn
open Sc (Pow RdK)
open Tx (bs)
theorem rdI_V {w : World} {v : Value} {l : List Int} (h : RdV w v (intsV l)) (hb : ∀ z ∈ l, -9223372036854775808 ≤ z ∧ z ≤ 9223372036854775807) : Tx.RdI w v l.length := by
  obtain ⟨A, c, rfl, _, hc⟩ := h
  refine ⟨A, c, by rw [intsV_len], fun hp => ?_⟩
  obtain ⟨b, off, rfl, hcell⟩ := hc (by rw [intsV_len]; exact hp)
  refine ⟨b, off, rfl, fun j hj => ⟨l[j], ?_, hb _ (List.getElem_mem hj)⟩⟩
  rw [hcell j (by rw [intsV_len]; exact hj)]
  simp [intsV]
def oB : ByteArray := ⟨#[111]⟩
def nB : ByteArray := ⟨#[110]⟩
def AwPost (w : World) (e : Ending) (w' : World) : Prop := e = .returned (.bool true) ∧ Below w.heap.size w w'
/-- A made patch in its box. -/
def Bx (W : World) (B : Nat) (hs : List PH) (v : Value) : Prop := Blk W B tPat [.string oB, .string nB, v] ∧ RdP W v hs
end Uf
end
section
namespace Cm
end Cm
namespace Hn
end Hn
namespace Sc
end Sc
namespace Tx
end Tx
namespace Uf
end Uf
open Go.RowKit
namespace St
open Uf Cm Hn
open Go.MapKept
open Sc (Pow)
open Tx (RdS mks)
theorem n5 {k n : UInt8} (h : ¬ k = n) : (k.toNat : Int) ≠ (n.toNat : Int) := fun e => h (UInt8.toNat_inj.1 (by omega))
end St
end
section
namespace Cm
end Cm
namespace Hn
end Hn
namespace Sc
end Sc
namespace Uf
end Uf
open Go.RowKit
namespace St
open Uf Cm Hn
open Sc (Pow)
/-- A made patch is short. -/
theorem mk_small {ctx : Int} (hc : 0 ≤ ctx) {s t : ByteArray} (hs : s.size ≤ 36) (ht : t.size ≤ 180) (down : Bool) {on nn : ByteArray} (h1 : nameB on = true) (h2 : nameB nn = true) :
    szL (partsF ⟨on, nn, patH (Sh.lnB s) (Sh.lnB t) ctx (scrD down s t)⟩) ≤ 100000 ∧ (wrAll ⟨on, nn, patH (Sh.lnB s) (Sh.lnB t) ctx (scrD down s t)⟩).length ≤ 1000 := by
  have hL := scrD_lf (s := s) (t := t) (by omega) (by omega) down
  have hP := ph_group hc hL
  have a := Sh.lnB_len s
  have b := Sh.lnB_len t
  obtain ⟨s1, s2⟩ := ph_sub hP
  rw [List.drop_zero] at s1 s2
  have l1 : (allB 43 (patH (Sh.lnB s) (Sh.lnB t) ctx (scrD down s t))).length ≤ 36 := by
    have := s1.length_le
    rw [List.length_map] at this
    exact Nat.le_trans this (by omega)
  have l2 : (allB 45 (patH (Sh.lnB s) (Sh.lnB t) ctx (scrD down s t))).length ≤ 180 := by
    have := s2.length_le
    rw [List.length_map] at this
    exact Nat.le_trans this (by omega)
  obtain ⟨f1, f2⟩ := ph_few hP
  have hn : (patH (Sh.lnB s) (Sh.lnB t) ctx (scrD down s t)).length ≤ 220 := by
    unfold patH
    rw [List.length_map]
    have hk := hL.num
    omega
  have hB : ∀ h ∈ patH (Sh.lnB s) (Sh.lnB t) ctx (scrD down s t), ∀ ln ∈ h.lines, ln.text.size ≤ 180 := by
    intro h hh
    unfold patH at hh
    obtain ⟨k, hk, rfl⟩ := List.mem_map.1 hh
    obtain ⟨m, hm, rfl⟩ := List.mem_iff_getElem.1 hk
    obtain ⟨p, k, oF, nF, oT, nT, e, _, _, hlf⟩ := ph_at hP m hm
    rw [e, mkPH_nat]
    intro ln hln
    rcases (hlf.texts ln hln).1 with h3 | h3
    · exact Nat.le_trans (Sh.lnB_size s _ h3) (by omega)
    · exact Nat.le_trans (Sh.lnB_size t _ h3) ht
  generalize patH (Sh.lnB s) (Sh.lnB t) ctx (scrD down s t) = hks at *
  have z1 := szL_hks (B := 180) hB
  constructor
  · unfold partsF
    rw [szL_cons]
    have n1 := name_sz h1
    have n2 := name_sz h2
    have q1 := qB_size on
    have q2 := qB_size nn
    have e : (hdPt on nn).size = 4 + (qB on).size + 5 + (qB nn).size + 1 := by
      unfold hdPt
      simp only [ByteArray.size_append]
      rfl
    simp only
    rw [e]
    have : ((allB 43 hks).length + (allB 45 hks).length) * (180 + 30) ≤ 216 * 210 := Nat.mul_le_mul (by omega) (Nat.le_refl _)
    omega
  · unfold wrAll wrHd
    have := wr_hks hks
    simp only [List.length_append, List.length_cons, List.length_nil]
    omega
end St
end
end
section
namespace Sc
end Sc
namespace Uf
end Uf
namespace St
open Sc Uf
def nL (hs : List PH) : Nat := (hs.map fun h => h.lines.length).sum
def tL (ls : List Ln) : Nat := (ls.map fun l => l.text.size).sum
def tS (hs : List PH) : Nat := (hs.map fun h => tL h.lines).sum
theorem tL_app (a b : List Ln) : tL (a ++ b) = tL a + tL b := by unfold tL; rw [List.map_append, List.sum_append]
theorem tL_one (l : Ln) : tL [l] = l.text.size := by unfold tL; simp
theorem nL_snoc (hs : List PH) (h : PH) : nL (hs ++ [h]) = nL hs + h.lines.length := by unfold nL; simp
theorem szL_lnsT : ∀ (ls : List Ln), szL (lnsPt ls) ≤ tL ls + 30 * ls.length
  | [] => Nat.le_refl _
  | l :: ls => by
    have ih := szL_lnsT ls
    have e : lnsPt (l :: ls) = lnPt l ++ lnsPt ls := by unfold lnsPt; rw [List.flatMap_cons]
    have h1 := szL_ln (ln := l) (B := l.text.size) (Nat.le_refl _)
    have h2 : tL (l :: ls) = l.text.size + tL ls := by rw [show l :: ls = [l] ++ ls from rfl, tL_app, tL_one]
    rw [e, szL_app, h2, List.length_cons]
    omega
theorem szL_hksT : ∀ (hs : List PH), szL (hs.flatMap hkPt) ≤ tS hs + 96 * hs.length + 30 * nL hs
  | [] => Nat.le_refl _
  | h :: hs => by
    have ih := szL_hksT hs
    have h1 := szL_lnsT h.lines
    have h2 : tS (h :: hs) = tL h.lines + tS hs := by unfold tS; simp
    have h3 : nL (h :: hs) = h.lines.length + nL hs := by unfold nL; simp
    have h4 : (hkB h).size ≤ 96 := by
      have := hdr_len h.old h.new h.lines
      unfold hkB
      rw [mk_size]
      exact this
    rw [List.flatMap_cons, szL_app, h2, h3, List.length_cons]
    have e : szL (hkPt h) = (hkB h).size + szL (lnsPt h.lines) := by unfold hkPt; rw [szL_cons]
    omega
theorem allB_le (k : Int) : ∀ hs : List PH, (allB k hs).length ≤ nL hs
  | [] => Nat.le_refl _
  | h :: hs => by
    have ih := allB_le k hs
    have h3 : nL (h :: hs) = h.lines.length + nL hs := by unfold nL; simp
    rw [allB_cons, List.length_append, h3]
    have : (notB k h.lines).length ≤ h.lines.length := by
      unfold notB notK
      rw [List.length_map, List.length_map]
      exact List.length_filter_le _ _
    omega
theorem wr_hksT : ∀ hs : List PH, (hs.flatMap wrHk).length ≤ hs.length + 2 * nL hs
  | [] => Nat.le_refl _
  | h :: hs => by
    have ih := wr_hksT hs
    have h3 : nL (h :: hs) = h.lines.length + nL hs := by unfold nL; simp
    have h4 := wr_lns h.lines
    have ew : (wrHk h).length = (h.lines.flatMap wrLn).length + 1 := by unfold wrHk; rw [List.length_cons]
    rw [List.flatMap_cons, List.length_append, h3, List.length_cons, ew]
    omega
theorem le_sum : ∀ {l : List Nat} {x : Nat}, x ∈ l → x ≤ l.sum
  | a :: l, x, h => by
    rw [List.sum_cons]
    rcases List.mem_cons.1 h with rfl | h
    · omega
    · have := le_sum h
      omega
theorem le_nL {hs : List PH} {h : PH} (hh : h ∈ hs) : h.lines.length ≤ nL hs := le_sum (List.mem_map_of_mem (f := fun h : PH => h.lines.length) hh)
theorem le_tS {hs : List PH} {h : PH} (hh : h ∈ hs) {l : Ln} (hl : l ∈ h.lines) : l.text.size ≤ tS hs := by
  have h1 : l.text.size ≤ tL h.lines := le_sum (List.mem_map_of_mem (f := fun l : Ln => l.text.size) hl)
  have h2 : tL h.lines ≤ tS hs := le_sum (List.mem_map_of_mem (f := fun h : PH => tL h.lines) hh)
  omega
end St
end
section
namespace Cm
end Cm
namespace Hn
end Hn
namespace Sc
end Sc
namespace Uf
end Uf
open Go.RowKit
namespace St
open Uf Cm Sc Hn
/-- Hunks that are small together, at any positions. -/
structure Sq (hs : List PH) (N T : Nat) : Prop where
  n : hs.length + nL hs ≤ N
  t : tS hs ≤ T
  p : ∀ h ∈ hs, (-9223372036854775808 ≤ h.old ∧ h.old ≤ 9223372036854775807) ∧ (-9223372036854775808 ≤ h.new ∧ h.new ≤ 9223372036854775807)
theorem Sq.sh {p : Pat} {N T : Nat} (h : Sq p.hunks N T) (hN : N ≤ 17000) (hT : T ≤ 1100000) : ShOk p := by
  have h1 := h.n
  have h2 := h.t
  refine ⟨⟨⟨by omega, fun x hx => ?_⟩, Nat.le_trans (allB_le 43 _) (by omega), Nat.le_trans (allB_le 45 _) (by omega)⟩, fun n1 n2 _ => ⟨?_, ?_⟩⟩
  · obtain ⟨a, b⟩ := h.p x hx
    exact ⟨Nat.le_trans (le_nL hx) (by omega), a, b, fun l hl => Nat.le_trans (le_tS hx hl) (by omega)⟩
  · unfold partsF
    rw [szL_cons]
    have n1 := name_sz n1
    have n2 := name_sz n2
    have q1 := qB_size p.on
    have q2 := qB_size p.nn
    have e : (hdPt p.on p.nn).size = 4 + (qB p.on).size + 5 + (qB p.nn).size + 1 := by
      unfold hdPt
      simp only [ByteArray.size_append]
      rfl
    rw [e]
    have := szL_hksT p.hunks
    omega
  · unfold wrAll wrHd
    have := wr_hksT p.hunks
    simp only [List.length_append, List.length_cons, List.length_nil]
    omega
theorem tL_max {B : Nat} : ∀ ls : List Ln, (∀ l ∈ ls, l.text.size ≤ B) → tL ls ≤ ls.length * B
  | [], _ => Nat.zero_le _
  | l :: ls, h => by
    have h1 := tL_max ls (fun x hx => h x (List.mem_cons_of_mem _ hx))
    have h2 := h l List.mem_cons_self
    unfold tL at h1 ⊢
    simp only [List.map_cons, List.sum_cons, List.length_cons, Nat.succ_mul] at h1 ⊢
    omega
theorem tS_max {B : Nat} : ∀ hs : List PH, (∀ h ∈ hs, ∀ l ∈ h.lines, l.text.size ≤ B) → tS hs ≤ nL hs * B
  | [], _ => Nat.zero_le _
  | h :: hs, hh => by
    have h1 := tS_max hs (fun x hx => hh x (List.mem_cons_of_mem _ hx))
    have h2 := tL_max h.lines (hh h List.mem_cons_self)
    unfold tS nL at h1 ⊢
    simp only [List.map_cons, List.sum_cons, Nat.add_mul] at h1 ⊢
    omega
/-- Hunks whose texts are short. -/
structure Sb (hs : List PH) (N B : Nat) : Prop where
  n : hs.length + nL hs ≤ N
  t : ∀ h ∈ hs, ∀ l ∈ h.lines, l.text.size ≤ B
  p : ∀ h ∈ hs, (-5000 ≤ h.old ∧ h.old ≤ 5000) ∧ (-5000 ≤ h.new ∧ h.new ≤ 5000)
theorem Sb.sq {hs : List PH} {N B : Nat} (h : Sb hs N B) : Sq hs N (N * B) :=
  ⟨h.n, Nat.le_trans (tS_max hs h.t) (Nat.mul_le_mul (by have := h.n; omega) (Nat.le_refl _)), fun x hx => ⟨⟨by have := (h.p x hx).1; omega, by have := (h.p x hx).1; omega⟩, ⟨by have := (h.p x hx).2; omega, by have := (h.p x hx).2; omega⟩⟩⟩
theorem nL_same {hs gs : List PH} (h : hs.length = gs.length) (he : ∀ j (a : j < hs.length) (b : j < gs.length), hs[j].lines.length = gs[j].lines.length) : nL hs = nL gs := by
  unfold nL
  congr 1
  refine List.ext_getElem (by simp [h]) (fun j a b => ?_)
  simp only [List.getElem_map]
  exact he j (by simpa using a) (by simpa using b)
theorem nL_app (a b : List PH) : nL (a ++ b) = nL a + nL b := by unfold nL; simp
theorem list_choose {α : Type} {P : Nat → α → Prop} : ∀ (n : Nat), (∀ j, j < n → ∃ a, P j a) → ∃ l : List α, l.length = n ∧ ∀ j (h : j < l.length), P j l[j]
  | 0, _ => ⟨[], rfl, fun j h => absurd h (Nat.not_lt_zero _)⟩
  | n + 1, h => by
    obtain ⟨l, h1, h2⟩ := list_choose n (fun j hj => h j (by omega))
    obtain ⟨a, ha⟩ := h n (by omega)
    refine ⟨l ++ [a], by simp [h1], fun j hj => ?_⟩
    by_cases hl : j < l.length
    · rw [List.getElem_append_left hl]; exact h2 j hl
    · have e : j = l.length := by rw [List.length_append] at hj; simp at hj; omega
      subst e
      rw [List.getElem_append_right (Nat.le_refl _)]
      simp only [Nat.sub_self, List.getElem_cons_zero]
      rw [h1]; exact ha
/-- One cell of a line is written. -/
theorem ownL_put {base g e k : Nat} {w : World} {u v : Value} {l : List Ln} (h : OwnL base w v l) (he : e < 2) (y : Ln → Ln) (hy : ∀ x, lineC (y x) = (lineC x).set e u) :
    ∃ l', OwnL base (w.setCell ⟨g, k * 2 + e, none⟩ u) v l' ∧ l'.length = l.length ∧ ∀ x ∈ l', x ∈ l ∨ ∃ z ∈ l, x = y z := by
  have h0 : w.ownsRow base tLn 2 v l.length (flatK lineC l) := h
  rcases h0.2 with ⟨rfl, e0⟩ | ⟨g', cap, cur, rfl, hb, hh, hnc⟩
  · have : l = [] := List.eq_nil_of_length_eq_zero e0
    subst this
    exact ⟨[], OwnL.nil _ _, rfl, fun x hx => by cases hx⟩
  · by_cases hg : g' = g
    · subst hg
      have h3 := (h0.stored (k * 2 + e) u).1
      by_cases hk : k < l.length
      · rw [Sc.flat_set lineC_len l k hk e he u (y l[k]) (hy _)] at h3
        refine ⟨l.set k (y l[k]), by unfold OwnL; rw [List.length_set]; exact h3, List.length_set .., fun x hx => ?_⟩
        rcases List.mem_or_eq_of_mem_set hx with h1 | h1
        · exact .inl h1
        · exact .inr ⟨_, List.getElem_mem hk, h1⟩
      · rw [List.set_eq_of_length_le (by rw [flatK_len lineC_len]; omega)] at h3
        exact ⟨l, h3, rfl, fun x hx => .inl hx⟩
    · refine ⟨l, ?_, rfl, fun x hx => .inl hx⟩
      exact ownsRow_setCell_other h0 (a := ⟨g, k * 2 + e, none⟩) (by simp [Value.ownBlock]; exact hg) u
theorem ownP_line {base g e k n c : Nat} {w : World} {u v : Value} {hs : List PH} {l : List Ln} (h : OwnP base w v hs) (hl : OwnL base w (.slice (some ⟨g, 0, none⟩) n c) l) (he : e < 2) (y : Ln → Ln) (hy : ∀ x, lineC (y x) = (lineC x).set e u) {N B : Nat} (hsb : Sb hs N B) (hB : ∀ x : Ln, x.text.size ≤ B → (y x).text.size ≤ B + 1) :
    ∃ hs', OwnP base (w.setCell ⟨g, k * 2 + e, none⟩ u) v hs' ∧ hs'.length = hs.length ∧ Sb hs' N (B + 1) := by
  obtain ⟨zs, h1, h2, h3⟩ := h
  have hrow : (w.setCell ⟨g, k * 2 + e, none⟩ u).ownsRow base tPh 3 v zs.length (flatK hunkC zs) := by
    refine ownsRow_setCell_other h1 (a := ⟨g, k * 2 + e, none⟩) ?_ u
    rcases ownK_ne h1 hl (by decide) with h4 | h4
    · rw [h4]; exact fun e => by cases e
    · exact h4
  obtain ⟨hs', e1, e2⟩ := list_choose (P := fun j (x : PH) => ∀ (a : j < zs.length) (b : j < hs.length), x.old = hs[j].old ∧ x.new = hs[j].new ∧ x.lines.length = hs[j].lines.length ∧ OwnL base (w.setCell ⟨g, k * 2 + e, none⟩ u) zs[j].u x.lines ∧ ∀ ln ∈ x.lines, ln.text.size ≤ B + 1) hs.length (fun j hj => by
    obtain ⟨l', q1, q2, q3⟩ := ownL_put (g := g) (k := k) (h3 j (by omega) hj).2.2 he y hy
    exact ⟨⟨hs[j].old, hs[j].new, l'⟩, fun a b => ⟨rfl, rfl, q2, q1, fun ln hln => by
      rcases q3 ln hln with h5 | ⟨z, h5, rfl⟩
      · exact Nat.le_succ_of_le (hsb.t _ (List.getElem_mem hj) ln h5)
      · exact hB z (hsb.t _ (List.getElem_mem hj) z h5)⟩⟩)
  refine ⟨hs', ⟨zs, hrow, by omega, fun j a b => ?_⟩, e1, ⟨?_, ?_, ?_⟩⟩
  · obtain ⟨r1, r2, r3, r4, r5⟩ := e2 j b a (by omega)
    exact ⟨by rw [(h3 j a (by omega)).1, r1], by rw [(h3 j a (by omega)).2.1, r2], r4⟩
  · rw [e1, nL_same e1 (fun j a b => (e2 j a (by omega) b).2.2.1)]; exact hsb.n
  · intro x hx
    obtain ⟨j, hj, rfl⟩ := List.mem_iff_getElem.1 hx
    exact (e2 j hj (by omega) (by omega)).2.2.2.2
  · intro x hx
    obtain ⟨j, hj, rfl⟩ := List.mem_iff_getElem.1 hx
    have r := e2 j hj (by omega) (by omega)
    rw [r.1, r.2.1]
    exact hsb.p _ (List.getElem_mem (by omega))
/-- Where the rows of a patch lie. -/
theorem ownP_row {base G n c : Nat} {w : World} {hs : List PH} (h : OwnP base w (.slice (some ⟨G, 0, none⟩) n c) hs) (k : Nat) (hk : k < hs.length) : base ≤ G ∧ ∃ (Al : Option Addr) (cl : Nat),
    w.cell? ⟨G, k * 3, none⟩ = some (.int .i64 hs[k].old) ∧ w.cell? ⟨G, k * 3 + 1, none⟩ = some (.int .i64 hs[k].new) ∧ w.cell? ⟨G, k * 3 + 2, none⟩ = some (.slice Al hs[k].lines.length cl) ∧ OwnL base w (.slice Al hs[k].lines.length cl) hs[k].lines ∧ ∀ j, w.frozen? ⟨G, j, none⟩ = false := by
  obtain ⟨zs, h1, h2, h3⟩ := h
  have hb : base ≤ G := (h1.lt G rfl).1
  have hn : n = zs.length := by
    obtain ⟨A, c', e⟩ := (show RdK 3 hunkC w (.slice (some ⟨G, 0, none⟩) n c) zs from RdK.of_own hunkC_len h1).form
    injection e
  subst hn
  obtain ⟨g1, g2, g3⟩ := h3 k (by omega) hk
  obtain ⟨Al, cl, eu⟩ := g3.form
  have cc : ∀ i, i < 3 → w.cell? ⟨G, k * 3 + i, none⟩ = (hunkC zs[k])[i]? := fun i hi => by
    rw [h1.cellAt (k * 3 + i) (by omega), flatK_get hunkC_len zs k (by omega) i hi]
  have c0 := cc 0 (by decide)
  have c1 := cc 1 (by decide)
  have c2 := cc 2 (by decide)
  simp only [hunkC, List.getElem?_cons_zero, List.getElem?_cons_succ, Nat.add_zero] at c0 c1 c2
  rw [g1] at c0
  rw [g2] at c1
  rw [eu] at c2 g3
  exact ⟨hb, Al, cl, c0, c1, c2, g3, fun j => h1.frozenAt j⟩
theorem nL_set {hs : List PH} {k : Nat} {x : PH} (hk : k < hs.length) (h : x.lines.length ≤ hs[k].lines.length) : nL (hs.set k x) ≤ nL hs := by
  have e : hs = hs.take k ++ hs[k] :: hs.drop (k + 1) := by rw [← List.drop_eq_getElem_cons hk, List.take_append_drop]
  have e2 : hs.set k x = hs.take k ++ x :: hs.drop (k + 1) := List.set_eq_take_append_cons_drop.trans (if_pos hk)
  rw [e2]
  conv => rhs; rw [e]
  rw [nL_app, nL_app]
  unfold nL
  simp only [List.map_cons, List.sum_cons]
  omega
theorem Sb.set {hs : List PH} {N B : Nat} (h : Sb hs N B) {k : Nat} {x : PH} (hk : k < hs.length) (h1 : x.lines.length ≤ hs[k].lines.length) (h2 : ∀ l ∈ x.lines, l ∈ hs[k].lines) (h3 : (-5000 ≤ x.old ∧ x.old ≤ 5000) ∧ (-5000 ≤ x.new ∧ x.new ≤ 5000)) : Sb (hs.set k x) N B := by
  refine ⟨?_, fun y hy => ?_, fun y hy => ?_⟩
  · have := nL_set hk h1
    have := h.n
    rw [List.length_set]
    omega
  · rcases List.mem_or_eq_of_mem_set hy with h4 | h4
    · exact h.t y h4
    · rw [h4]; exact fun l hl => h.t _ (List.getElem_mem hk) l (h2 l hl)
  · rcases List.mem_or_eq_of_mem_set hy with h4 | h4
    · exact h.p y h4
    · rw [h4]; exact h3
/-- A position of a hunk is written. -/
theorem ownP_pos {base G n c k e : Nat} {w : World} {hs : List PH} (h : OwnP base w (.slice (some ⟨G, 0, none⟩) n c) hs) (hk : k < hs.length) (he : e < 2) (z : Int) (x : PH) (hx : x = if e = 0 then ⟨z, hs[k].new, hs[k].lines⟩ else ⟨hs[k].old, z, hs[k].lines⟩) :
    OwnP base (w.setCell ⟨G, k * 3 + e, none⟩ (.int .i64 z)) (.slice (some ⟨G, 0, none⟩) n c) (hs.set k x) := by
  obtain ⟨zs, h1, h2, h3⟩ := h
  have hn : n = zs.length := by
    obtain ⟨A, c', e⟩ := (show RdK 3 hunkC w (.slice (some ⟨G, 0, none⟩) n c) zs from RdK.of_own hunkC_len h1).form
    injection e
  subst hn
  have hkz : k < zs.length := by omega
  have hst := (h1.stored (k * 3 + e) (.int .i64 z)).1
  rw [Sc.flat_set hunkC_len zs k hkz e (by omega) (.int .i64 z) (if e = 0 then ⟨z, zs[k].new, zs[k].u⟩ else ⟨zs[k].old, z, zs[k].u⟩) (by
    have he2 : e = 0 ∨ e = 1 := by omega
    rcases he2 with rfl | rfl <;> rfl)] at hst
  refine ⟨zs.set k (if e = 0 then ⟨z, zs[k].new, zs[k].u⟩ else ⟨zs[k].old, z, zs[k].u⟩), by rw [List.length_set]; exact hst, by rw [List.length_set, List.length_set]; exact h2, fun j a b => ?_⟩
  rw [List.length_set] at a b
  obtain ⟨g1, g2, g3⟩ := h3 j a b
  have g4 : OwnL base (w.setCell ⟨G, k * 3 + e, none⟩ (.int .i64 z)) zs[j].u hs[j].lines := by
    refine ownsRow_setCell_other (show w.ownsRow base tLn 2 zs[j].u hs[j].lines.length (flatK lineC hs[j].lines) from g3) (a := ⟨G, k * 3 + e, none⟩) ?_ _
    rcases ownK_ne (show w.ownsRow base tLn 2 zs[j].u hs[j].lines.length (flatK lineC hs[j].lines) from g3) h1 (by decide) with h4 | h4
    · rw [h4]; exact fun e => by cases e
    · exact h4
  have he2 : e = 0 ∨ e = 1 := by omega
  by_cases hjk : j = k
  · subst hjk
    rw [List.getElem_set_self, List.getElem_set_self, hx]
    rcases he2 with rfl | rfl
    · exact ⟨rfl, g2, g4⟩
    · exact ⟨g1, rfl, g4⟩
  · rw [List.getElem_set_ne (fun e => hjk e.symm), List.getElem_set_ne (fun e => hjk e.symm)]
    exact ⟨g1, g2, g4⟩
/-- The lines of a hunk are cut: in a world whose other cells of the call's own are as they were. -/
theorem ownP_cut {base G n c k : Nat} {w w2 : World} {hs : List PH} {u : Value} {ls : List Ln} (h : OwnP base w (.slice (some ⟨G, 0, none⟩) n c) hs) (hk : k < hs.length) (hc : ∀ b o, base ≤ b → ¬ (b = G ∧ o = k * 3 + 2) → w2.cell? ⟨b, o, none⟩ = w.cell? ⟨b, o, none⟩) (hu : w2.cell? ⟨G, k * 3 + 2, none⟩ = some u) (hl : RdL w2 u ls) :
    RdP w2 (.slice (some ⟨G, 0, none⟩) n c) (hs.set k ⟨hs[k].old, hs[k].new, ls⟩) := by
  obtain ⟨zs, h1, h2, h3⟩ := h
  have hb : base ≤ G := (h1.lt G rfl).1
  obtain ⟨A, cc, e, hcap, hcell⟩ := (show RdK 3 hunkC w (.slice (some ⟨G, 0, none⟩) n c) zs from RdK.of_own hunkC_len h1)
  injection e with e1 e2 e3
  subst e1
  subst e2
  subst e3
  have hkz : k < zs.length := by omega
  obtain ⟨b0, o0, e4, hcl⟩ := hcell (by omega)
  injection e4 with e5
  injection e5 with e6 e7
  subst e6
  subst e7
  refine ⟨zs.set k ⟨zs[k].old, zs[k].new, u⟩, ⟨_, _, by rw [List.length_set], by rw [List.length_set]; exact hcap, fun _ => ⟨G, 0, rfl, fun j hj i hi => ?_⟩⟩, by rw [List.length_set, List.length_set]; exact h2, fun j a b => ?_⟩
  · rw [List.length_set] at hj
    by_cases hjk : j = k
    · subst hjk
      simp only [List.getElem_set_self] at hi ⊢
      have hi3 : i < 3 := hi
      have hi4 : i = 0 ∨ i = 1 ∨ i = 2 := by omega
      have q0 := hcl j hkz 0 (by rw [hunkC_len]; decide)
      have q1 := hcl j hkz 1 (by rw [hunkC_len]; decide)
      rcases hi4 with rfl | rfl | rfl
      · rw [hc G _ hb (by omega), q0]; rfl
      · rw [hc G _ hb (by omega), q1]; rfl
      · rw [show 0 + j * 3 + 2 = j * 3 + 2 by omega, hu]; rfl
    · simp only [List.getElem_set_ne (fun e => hjk e.symm)] at hi ⊢
      have hi3 : i < 3 := hi
      rw [hc G _ hb (by omega)]
      exact hcl j hj i hi
  · rw [List.length_set] at a b
    obtain ⟨g1, g2, g3⟩ := h3 j a b
    by_cases hjk : j = k
    · subst hjk
      rw [List.getElem_set_self, List.getElem_set_self]
      exact ⟨g1, g2, hl⟩
    · rw [List.getElem_set_ne (fun e => hjk e.symm), List.getElem_set_ne (fun e => hjk e.symm)]
      refine ⟨g1, g2, ?_⟩
      obtain ⟨A', c', e', hcap', hcell'⟩ := (show RdL w zs[j].u hs[j].lines from RdK.of_own lineC_len g3)
      refine ⟨A', c', e', hcap', fun hp => ?_⟩
      obtain ⟨bb, oo, ee, hcc⟩ := hcell' hp
      refine ⟨bb, oo, ee, fun j' hj' i hi => ?_⟩
      have g0 : w.ownsRow base tLn 2 zs[j].u hs[j].lines.length (flatK lineC hs[j].lines) := g3
      have hbb : zs[j].u.ownBlock = some bb := by rw [e', ee]; rfl
      have hne := ownK_ne g0 h1 (by decide)
      rw [hbb] at hne
      have hne2 : bb ≠ G := by
        rcases hne with h5 | h5
        · cases h5
        · exact fun e => h5 (by rw [e]; rfl)
      rw [hc bb _ (g0.lt bb hbb).1 (fun h => hne2 h.1)]
      exact hcc j' hj' i hi
theorem Sb.app {hs : List PH} {N B : Nat} (h : Sb hs N B) {k : Nat} (hk : k < hs.length) : Sb (hs ++ [hs[k]]) (2 * N + 1) B := by
  refine ⟨?_, fun y hy => ?_, fun y hy => ?_⟩
  · have h1 := h.n
    have h2 : hs[k].lines.length ≤ nL hs := le_nL (List.getElem_mem hk)
    rw [List.length_append, nL_snoc]
    simp
    omega
  · rcases List.mem_append.1 hy with h4 | h4
    · exact h.t y h4
    · rw [List.mem_singleton.1 h4]; exact h.t _ (List.getElem_mem hk)
  · rcases List.mem_append.1 hy with h4 | h4
    · exact h.p y h4
    · rw [List.mem_singleton.1 h4]; exact h.p _ (List.getElem_mem hk)
theorem Sb.mono {hs : List PH} {N B N' B' : Nat} (h : Sb hs N B) (h1 : N ≤ N') (h2 : B ≤ B') : Sb hs N' B' := ⟨Nat.le_trans h.n h1, fun x hx l hl => Nat.le_trans (h.t x hx l hl) h2, h.p⟩
end St
end
section
namespace Cm
end Cm
namespace Hn
end Hn
namespace Sc
end Sc
namespace Uf
end Uf
open Go.RowKit
namespace St
open Uf Cm Sc Hn
theorem hks_ne : ∀ (hs : List PH) (o n : Sd), hksB o n hs = true → ∀ h ∈ hs, h.lines ≠ []
  | [], _, _, _, h, hh => by cases hh
  | g :: r, o, n, hk, h, hh => by
    obtain ⟨s1, s2⟩ := hks_step (o := o) (n := n) (h := g) (r := r)
    cases h1 : skipB o n g with
    | false => rw [s1 h1] at hk; cases hk
    | true =>
      obtain ⟨s3, s4⟩ := s2 h1
      cases h2 : lnsSt (g.old, o.2) (g.new, n.2) g.lines with
      | none => rw [s3 h2] at hk; cases hk
      | some q =>
        obtain ⟨o', n'⟩ := q
        obtain ⟨s5, s6⟩ := s4 o' n' h2
        cases h3 : chgB g.lines with
        | false => rw [s5 h3] at hk; cases hk
        | true =>
          rw [s6 h3] at hk
          rcases List.mem_cons.1 hh with rfl | hh
          · intro e; rw [e] at h3; exact absurd h3 (by decide)
          · exact hks_ne r o' n' hk h hh
theorem wr_ge : ∀ hs : List PH, hs.length + nL hs ≤ (hs.flatMap wrHk).length
  | [] => Nat.le_refl _
  | h :: hs => by
    have ih := wr_ge hs
    have hl : ∀ ls : List Ln, ls.length ≤ (ls.flatMap wrLn).length := by
      intro ls
      induction ls with
      | nil => exact Nat.le_refl _
      | cons l r ih =>
        rw [List.flatMap_cons, List.length_append, List.length_cons]
        have : 1 ≤ (wrLn l).length := by unfold wrLn; simp
        omega
    rw [List.flatMap_cons, List.length_append]
    have h2 : (wrHk h).length = 1 + (h.lines.flatMap wrLn).length := by unfold wrHk; rw [List.length_cons]; omega
    have h3 := hl h.lines
    unfold nL at ih ⊢
    simp only [List.map_cons, List.sum_cons, List.length_cons]
    omega
theorem mk_sb {ctx : Int} (hc : 0 ≤ ctx) {s t : ByteArray} (hs : s.size ≤ 36) (ht : t.size ≤ 180) {on nn : ByteArray} (h1 : nameB on = true) (h2 : nameB nn = true) :
    Sb (patH (Sh.lnB s) (Sh.lnB t) ctx (scrD false s t)) 1000 180 ∧ (∀ h ∈ patH (Sh.lnB s) (Sh.lnB t) ctx (scrD false s t), h.lines ≠ []) ∧ ∀ h ∈ patH (Sh.lnB s) (Sh.lnB t) ctx (scrD false s t), (0 ≤ h.old ∧ h.old ≤ 4096) ∧ (0 ≤ h.new ∧ h.new ≤ 4096) := by
  have hok := mk_ok (ctx := ctx) hc (show s.size ≤ 1000 by omega) (show t.size ≤ 1000 by omega) false h1 h2
  have hsm := mk_small (ctx := ctx) hc hs ht false h1 h2
  have hL := scrD_lf (s := s) (t := t) (by omega) (by omega) false
  have hP := ph_group hc hL
  have hB : ∀ h ∈ patH (Sh.lnB s) (Sh.lnB t) ctx (scrD false s t), ∀ ln ∈ h.lines, ln.text.size ≤ 180 := by
    intro h hh
    unfold patH at hh
    obtain ⟨k, hk, rfl⟩ := List.mem_map.1 hh
    obtain ⟨m, hm, rfl⟩ := List.mem_iff_getElem.1 hk
    obtain ⟨p, k, oF, nF, oT, nT, e, _, _, hlf⟩ := ph_at hP m hm
    rw [e, mkPH_nat]
    intro ln hln
    rcases (hlf.texts ln hln).1 with h3 | h3
    · exact Nat.le_trans (Sh.lnB_size s _ h3) (by omega)
    · exact Nat.le_trans (Sh.lnB_size t _ h3) ht
  have hpk := okPat_of hok.chk
  have hch : hksB (0, false) (0, false) (patH (Sh.lnB s) (Sh.lnB t) ctx (scrD false s t)) = true := by
    have := hok.chk
    unfold chkC at this
    split at this
    · split at this
      · rename_i hx; exact hx
      · exact absurd this (by decide)
    · exact absurd this (by decide)
  refine ⟨⟨?_, hB, fun h hh => ?_⟩, hks_ne _ _ _ hch, fun h hh => ⟨(hpk.hk h hh).1, (hpk.hk h hh).2.1⟩⟩
  · have h3 := hsm.2
    unfold wrAll at h3
    rw [List.length_append] at h3
    have h4 := wr_ge (patH (Sh.lnB s) (Sh.lnB t) ctx (scrD false s t))
    simp only at h3
    omega
  · have h3 := (hpk.hk h hh)
    have h4 := h3.1
    have h5 := h3.2.1
    omega
/-- A slice of lines without its first one. -/
theorem slice_ln {g n c : Nat} {l : List Ln} {w : World} (h : RdL w (.slice (some ⟨g, 0, none⟩) n c) l) (hl : 1 ≤ l.length) : RdL w (.slice (if c = 1 then some ⟨g, 0, none⟩ else some ⟨g, 2, none⟩) (n - 1) (c - 1)) (l.drop 1) := by
  obtain ⟨A2, c2, e, hcap, hc0⟩ := h
  injection e with e1 e2 e3
  subst e1
  subst e2
  subst e3
  refine ⟨_, _, by rw [List.length_drop], ⟨by rw [List.length_drop]; omega, fun e => ?_⟩, fun hp => ?_⟩
  · split at e <;> cases e
  · rw [List.length_drop] at hp
    obtain ⟨bl, off, e4, hc1⟩ := hc0 (by omega)
    injection e4 with e4
    injection e4 with e5 e6
    subst e5
    subst e6
    refine ⟨g, 2, by rw [if_neg (by omega)], fun j hj i hi => ?_⟩
    rw [List.length_drop] at hj
    have e5 : (l.drop 1)[j]'(by rw [List.length_drop]; exact hj) = l[1 + j]'(by omega) := by rw [List.getElem_drop]
    have hi2 : i < 2 := by rw [lineC_len] at hi; exact hi
    have := hc1 (1 + j) (by omega) i (by rw [lineC_len]; exact hi2)
    rw [show 2 + j * 2 + i = 0 + (1 + j) * 2 + i by omega, this]
    simp only [e5]
theorem own_type {w : World} {base B n k o : Nat} {e t : TypeId} {v u : Value} {xs l : List Value} (h : w.ownsRow base e k v n xs) (hB : Blk w B t l) (hne : e ≠ t) : (w.setCell ⟨B, o, none⟩ u).ownsRow base e k v n xs := by
  refine ownsRow_setCell_other h (a := ⟨B, o, none⟩) ?_ u
  rcases h.2 with ⟨rfl, _⟩ | ⟨g, cap, cur, rfl, _, hh, _⟩
  · simp [Value.ownBlock]
  · simp only [Value.ownBlock, ne_eq, Option.some.injEq]
    intro e2
    subst e2
    unfold Blk at hB
    rw [hB] at hh
    injection hh with hh
    injection hh with _ h2
    exact hne h2.symm
theorem ownP_box {base B o : Nat} {w : World} {v u : Value} {l : List Value} {hs : List PH} (h : OwnP base w v hs) (hB : Blk w B tPat l) : OwnP base (w.setCell ⟨B, o, none⟩ u) v hs := by
  obtain ⟨zs, h1, h2, h3⟩ := h
  exact ⟨zs, own_type h1 hB (by decide), h2, fun j a b => ⟨(h3 j a b).1, (h3 j a b).2.1, own_type (show w.ownsRow base tLn 2 zs[j].u hs[j].lines.length (flatK lineC hs[j].lines) from (h3 j a b).2.2) hB (by decide)⟩⟩
theorem cut3 {base G n c k R g m cl : Nat} {W : World} {hs : List PH} {old x y z : Value} {hh : PH} (h : OwnP base W (.slice (some ⟨G, 0, none⟩) n c) hs) (hk : k < hs.length) (hke : hs[k] = hh) (hR : R < base) (hu : W.cell? ⟨G, k * 3 + 2, none⟩ = some old) (hG : base ≤ G) (hg : base ≤ g) (hgG : g ≠ G)
    (hl : OwnL base W (.slice (some ⟨g, 0, none⟩) m cl) hh.lines) (hlp : 1 ≤ hh.lines.length) :
    RdP ((((W.setCell ⟨G, k * 3 + 2, none⟩ (.slice (if cl = 1 then some ⟨g, 0, none⟩ else some ⟨g, 2, none⟩) (m - 1) (cl - 1))).setCell ⟨R, 0, none⟩ x).setCell ⟨R, 1, none⟩ y).setCell ⟨R, 2, none⟩ z) (.slice (some ⟨G, 0, none⟩) n c) (hs.set k ⟨hh.old, hh.new, hh.lines.drop 1⟩) := by
  have hRG : R ≠ G := by omega
  generalize hA : (if cl = 1 then (some ⟨g, 0, none⟩ : Option Addr) else some ⟨g, 2, none⟩) = A'
  have hoth : ∀ b o, base ≤ b → ¬ (b = G ∧ o = k * 3 + 2) → ((((W.setCell ⟨G, k * 3 + 2, none⟩ (.slice A' (m - 1) (cl - 1))).setCell ⟨R, 0, none⟩ x).setCell ⟨R, 1, none⟩ y).setCell ⟨R, 2, none⟩ z).cell? ⟨b, o, none⟩ = W.cell? ⟨b, o, none⟩ := by
    intro b o hb hne
    have hbR : R ≠ b := by omega
    rw [World.cell?_setCell_other _ _ _ _ (fun e => hbR (congrArg Addr.block e)), World.cell?_setCell_other _ _ _ _ (fun e => hbR (congrArg Addr.block e)), World.cell?_setCell_other _ _ _ _ (fun e => hbR (congrArg Addr.block e)), World.cell?_setCell_other _ _ _ _ (fun e => hne ⟨(congrArg Addr.block e).symm, (congrArg Addr.off e).symm⟩)]
  have hset : ((((W.setCell ⟨G, k * 3 + 2, none⟩ (.slice A' (m - 1) (cl - 1))).setCell ⟨R, 0, none⟩ x).setCell ⟨R, 1, none⟩ y).setCell ⟨R, 2, none⟩ z).cell? ⟨G, k * 3 + 2, none⟩ = some (.slice A' (m - 1) (cl - 1)) := by
    rw [World.cell?_setCell_other _ _ _ _ (fun e => hRG (congrArg Addr.block e)), World.cell?_setCell_other _ _ _ _ (fun e => hRG (congrArg Addr.block e)), World.cell?_setCell_other _ _ _ _ (fun e => hRG (congrArg Addr.block e))]
    exact World.cell?_setCell_same _ _ _ hu
  generalize ((((W.setCell ⟨G, k * 3 + 2, none⟩ (.slice A' (m - 1) (cl - 1))).setCell ⟨R, 0, none⟩ x).setCell ⟨R, 1, none⟩ y).setCell ⟨R, 2, none⟩ z) = V at hoth hset ⊢
  have hrdf : RdL V (.slice (some ⟨g, 0, none⟩) m cl) hh.lines := by
    obtain ⟨Ax, cx, ex, hcx, hlx⟩ := hl.rd
    refine ⟨Ax, cx, ex, hcx, fun hp => ?_⟩
    obtain ⟨bx, ox, e1, h1⟩ := hlx hp
    refine ⟨bx, ox, e1, fun j hj i2 hi2 => ?_⟩
    injection ex with ex1 ex2 ex3
    rw [e1] at ex1
    injection ex1 with ex1
    injection ex1 with ex4 ex5
    rw [hoth bx _ (by rw [← ex4]; exact hg) (fun e => hgG (ex4.trans e.1))]
    exact h1 j hj i2 hi2
  have hcut := slice_ln hrdf hlp
  rw [hA] at hcut
  have hfin := ownP_cut h hk hoth hset hcut
  rw [hke] at hfin
  exact hfin
end St
end
section
namespace Cm
end Cm
namespace Hn
end Hn
namespace Sc
end Sc
namespace Uf
end Uf
open Go.RowKit
namespace St
open Uf Cm Hn
open Sc (Pow below_drewN)
def asB : ByteArray := ⟨#[97, 32, 98]⟩
def SoPost (w : World) (e : Ending) (w' : World) : Prop := ∃ (on nn : ByteArray) (hs : List PH) (A : Option Addr) (c : Nat), e = .returned (.agg #[.string on, .string nn, .slice A hs.length c]) ∧ RdP w' (.slice A hs.length c) hs ∧ Sq hs 2001 400000 ∧ Below w.heap.size w w'
theorem SoPost.of {w w' : World} {on nn : ByteArray} {hs : List PH} {A : Option Addr} {n c : Nat} (h : RdP w' (.slice A n c) hs) (hn : n = hs.length) {N B : Nat} (hq : Sb hs N B) (h1 : N ≤ 2001) (h2 : B ≤ 181) (hb : Below w.heap.size w w') : SoPost w (.returned (.agg #[.string on, .string nn, .slice A n c])) w' := by
  subst hn
  have h3 := hq.sq
  exact ⟨on, nn, hs, A, c, rfl, h, ⟨Nat.le_trans h3.n h1, Nat.le_trans h3.t (Nat.le_trans (Nat.mul_le_mul h1 h2) (by decide)), h3.p⟩, hb⟩
theorem put3 {w W : World} {R : Nat} (h : Below R w W) (u v x : Value) : Below R w (((W.setCell ⟨R, 0, none⟩ u).setCell ⟨R, 1, none⟩ v).setCell ⟨R, 2, none⟩ x) :=
  ((h.setCell (p := ⟨R, 0, none⟩) (Nat.le_refl _) _).setCell (p := ⟨R, 1, none⟩) (Nat.le_refl _) _).setCell (p := ⟨R, 2, none⟩) (Nat.le_refl _) _
theorem own3 {base R : Nat} {W : World} {v x y z : Value} {hs : List PH} (h : OwnP base W v hs) (hR : R < base) : OwnP base (((W.setCell ⟨R, 0, none⟩ x).setCell ⟨R, 1, none⟩ y).setCell ⟨R, 2, none⟩ z) v hs :=
  ((h.box hR).box hR).box hR
theorem ownP_some {base : Nat} {w : World} {v : Value} {hs : List PH} (h : OwnP base w v hs) (hl : 0 < hs.length) : ∃ G c, v = .slice (some ⟨G, 0, none⟩) hs.length c ∧ base ≤ G ∧ G < w.heap.size := by
  obtain ⟨zs, h1, h2, -⟩ := h
  obtain ⟨G, c, e, e2, e3⟩ := World.ownsRow.form h1 (by omega)
  rw [h2] at e
  exact ⟨G, c, e, e2, e3⟩
theorem ownL_some {base : Nat} {w : World} {v : Value} {ls : List Ln} (h : OwnL base w v ls) (hl : 0 < ls.length) : ∃ G c, v = .slice (some ⟨G, 0, none⟩) ls.length c ∧ base ≤ G ∧ G < w.heap.size :=
  World.ownsRow.form (show w.ownsRow base tLn 2 v ls.length (Sc.flatK lineC ls) from h) hl
theorem mod_at (a : Int) (h0 : -9223372036854775808 ≤ a) (h1 : a ≤ 9223372036854775807) (n : Nat) (hn : 0 < n) (hn2 : n ≤ 100000) : ∃ k : Nat, k < n ∧ ∀ w, Calls Tryz.prog 14 #[.int .i64 a, .int .i64 (n : Int)] w fun e w' => e = .returned (.int .i64 (k : Int)) ∧ w' = w := by
  have hlo := Tx.modF_lo a (n : Int) (by omega)
  have hhi := Tx.modF_hi a (n : Int) (by omega)
  obtain ⟨k, hk⟩ := Int.eq_ofNat_of_zero_le hlo
  refine ⟨k, by omega, fun w => ?_⟩
  have := Tx.Mod_any a (n : Int) w (by omega) (by omega) h0 h1
  rw [hk] at this
  exact this.mono fun e w' ⟨a, b⟩ => ⟨a, b.symm⟩
set_option maxRecDepth 100000 in
set_option maxHeartbeats 16000000 in
theorem spoilt_any (v : Value) (us : List Int) (what atv byv : Int) (w : World) (h : RdV w v (intsV us)) (hu : us.length ≤ maxLen) (hub : ∀ z ∈ us, -9223372036854775808 ≤ z ∧ z ≤ 9223372036854775807)
    (hw1 : -9223372036854775808 ≤ what ∧ what ≤ 9223372036854775807) (ha1 : -9223372036854775808 ≤ atv ∧ atv ≤ 9223372036854775807) (hb1 : -9223372036854775808 ≤ byv ∧ byv ≤ 9223372036854775807) :
    Calls Tryz.prog 18 #[v, .int .i64 what, .int .i64 atv, .int .i64 byv] w (SoPost w) := by
  generalize hO : (.cells #[.string ⟨#[]⟩, .string ⟨#[]⟩, .slice none 0 0] tPat : Obj) = O
  have HO := Lib.hid (((Below.refl w.heap.size w).alloc (Nat.le_refl _) O))
  have HO0 : Hid (∀ W, Below (w.alloc O).heap.size (w.alloc O) W → W.heap[w.heap.size]? = some O) := Lib.hid (fun W hb => (hb.block _ (Array.getElem?_eq_some_iff.1 (heap_new w O)).1).trans (heap_new w O))
  have HB0 := Lib.hid (Tx.Blob_any v us.length 0 9 5 (w.alloc O) (rdI_V (h.below HO.out) hub) hu (by omega) (by omega) (by omega) (by omega) (by omega) (by omega))
  have HNr := Lib.hid (fun wq (hb : Below (w.alloc O).heap.size (w.alloc O) wq) (a : ByteArray) (ha : a.size ≤ 36) => Sh.Near_any a v us 100 wq ((h.below HO.out).below hb) hu (by omega) ⟨by omega, by omega⟩)
  obtain ⟨A, c, rfl⟩ := h.form
  have HMd := Lib.hid (fun w => Tx.Mod_any byv 3 w (by omega) (by omega) hb1.1 hb1.2)
  have HM5 := Lib.hid (fun w => Tx.Mod_any byv 5 w (by omega) (by omega) hb1.1 hb1.2)
  have HM9 := Lib.hid (fun w => Tx.Mod_any what 9 w (by omega) (by omega) hw1.1 hw1.2)
  have HMn := Lib.hid (mod_at atv ha1.1 ha1.2)
  have hm0 := Tx.modF_lo byv 3 (by omega)
  have hm1 := Tx.modF_hi byv 3 (by omega)
  have hd0 := Tx.modF_lo byv 5 (by omega)
  have hd1 := Tx.modF_hi byv 5 (by omega)
  have hn0 := Tx.modF_lo what 9 (by omega)
  have hn1 := Tx.modF_hi what 9 (by omega)
  subst hO
  clear h hu hub hw1 ha1 hb1
  rw [intsV_len] at HB0 HNr ⊢
  generalize us.length = nu at *
  generalize Tx.modF byv 3 = m at *
  generalize Tx.modF byv 5 = d5 at *
  generalize Tx.modF what 9 = m9 at *
  unfold Tx.SomeStr at HB0 HNr
  rw [show (9 : Int).toNat = 9 from rfl] at HB0
  go_enter Tryz.func18, Tryz.ntmps18
  go_wp2_with fail
  refine (HB0.out).mono ?_
  rintro e w1 ⟨a, ha, rfl, hb⟩
  have HW1 := Lib.hid hb
  clear hb
  go_wp2_with fail
  refine (HNr.out _ HW1.out a (by omega)).mono ?_
  rintro e w2 ⟨b, hb', rfl, hb⟩
  have HW2 := Lib.hid (HW1.out.trans (hb.mono HW1.out.size))
  clear HW1 hb
  have hax : a.size ≤ 36 := by omega
  have hbx : b.size ≤ 180 := by omega
  obtain ⟨e1, e2⟩ := mk_on (s := a) (t := b) (ctx := m) (down := false) (on := asB) (nn := nB) (by decide) (by decide) ⟨by omega, by omega⟩
  have HR := Lib.hid (fun W => MakeR_any asB nB a b m false (by omega) (by omega) W)
  have HSb := Lib.hid (mk_sb (ctx := m) (by omega) hax hbx (on := asB) (nn := nB) (by decide) (by decide))
  unfold PtPost at HR
  rw [e1, e2] at HR
  generalize patH (Sh.lnB a) (Sh.lnB b) m (scrD false a b) = P at *
  clear e1 e2 ha hb' hax hbx HB0 HNr
  go_wp2_with fail
  refine (HMd.out _).mono ?_
  rintro e w3 ⟨rfl, rfl⟩
  go_wp2_with fail
  refine (HR.out _).mono ?_
  rintro e w4 ⟨v4, rfl, ho, hb⟩
  obtain ⟨A4, c4, rfl⟩ := ho.form
  have hb1 := HW2.out.trans (hb.mono HW2.out.size)
  have HK0 : Hid (∀ V, Below w4.heap.size w4 V → Blk V w.heap.size tPat [.string ⟨#[]⟩, .string ⟨#[]⟩, .slice none 0 0]) := Lib.hid (fun V hV => HO0.out V (hb1.trans (hV.mono hb1.size)))
  have HBw := Lib.hid (HO.out.trans (hb1.mono HO.out.size))
  have hw2 : w.heap.size < w2.heap.size := Nat.lt_of_lt_of_le (Array.getElem?_eq_some_iff.1 (heap_new w _)).1 HW2.out.size
  have hlen : P.length ≤ 1000 := by have := HSb.out.1.n; omega
  have hw24 : w2.heap.size ≤ w4.heap.size := hb.size
  obtain ⟨W, hW⟩ : ∃ W, W = w4.alloc (.cells #[.string asB, .string nB, .slice A4 P.length c4] tPat) := ⟨_, rfl⟩
  have HA := Lib.hid ((Below.refl w4.heap.size w4).alloc (Nat.le_refl _) (.cells #[.string asB, .string nB, .slice A4 P.length c4] tPat))
  have HX : Hid (Blk W w4.heap.size tPat [.string asB, .string nB, .slice A4 P.length c4]) := Lib.hid (by rw [hW]; exact heap_new w4 _)
  rw [← hW] at HA
  have HO4 := Lib.hid ho
  have HKW := Lib.hid (fun V (hV : Below W.heap.size W V) => HK0.out V (HA.out.trans (hV.mono HA.out.size)))
  have HBW := Lib.hid (HBw.out.trans (HA.out.mono HBw.out.size))
  clear ho hb hb1 HW2 HO HO0 HR HMd HBw HK0
  go_upto_region 3 with fail
  rw [← hW]
  clear hW
  go_wp2_with fail
  refine (HM5.out _).mono ?_
  rintro e w5 ⟨rfl, rfl⟩
  obtain ⟨x0, x1, x2, xf, xlt⟩ := blk3 HX.out
  by_cases hP0 : P.length = 0
  · obtain ⟨z0, z1, z2, zf, zlt⟩ := blk3 (HKW.out W (Below.refl _ _))
    have HFin := Lib.hid (SoPost.of (on := asB) (nn := nB) (own3 (x := .string asB) (y := .string nB) (z := .slice A4 P.length c4) (HO4.out.below HA.out) hw2).rd rfl HSb.out.1 (by decide) (by decide) (put3 HBW.out (.string asB) (.string nB) (.slice A4 P.length c4)))
    have hpz : ((P.length : Int) == 0) = true := by rw [hP0]; rfl
    clear hP0 HMn HM5 HM9 HSb HX HKW HO4 HA HBW
    go_wp2_with fail
    exact bodyPost_ret (v := .agg #[.string asB, .string nB, .slice A4 P.length c4]) (by simp [results, Tryz.f18, go_sem, z0, z1, z2]) rfl HFin.out
  have hPp : 0 < P.length := by omega
  have hpz : ((P.length : Int) == 0) = false := by simp only [beq_eq_false_iff_ne, ne_eq]; omega
  obtain ⟨G, c4', e4, hG1, hG2⟩ := ownP_some HO4.out hPp
  injection e4 with e5 e6 e7
  subst e5
  subst e7
  clear e6
  obtain ⟨k, hk, hmk⟩ := HMn.out P.length hPp (by omega)
  have HMk := Lib.hid hmk
  obtain ⟨-, Al, cl, r0, r1, r2, rl, rf⟩ := ownP_row HO4.out k hk
  have hne := HSb.out.2.1 P[k] (List.getElem_mem hk)
  have hlp : 0 < P[k].lines.length := Nat.pos_of_ne_zero (fun e => hne (List.eq_nil_of_length_eq_zero e))
  have hll : P[k].lines.length ≤ 1000 := by have := le_nL (List.getElem_mem hk); have := HSb.out.1.n; omega
  obtain ⟨g, cl', e8, hg1, hg2⟩ := ownL_some rl hlp
  injection e8 with e9 e10 e11
  subst e9
  subst e11
  clear e10
  obtain ⟨i, hi, hmi⟩ := HMn.out P[k].lines.length hlp (by omega)
  have HMi := Lib.hid hmi
  have hgG : g ≠ G := by
    rcases Uf.ownK_ne (show w4.ownsRow w2.heap.size tLn 2 (.slice (some ⟨g, 0, none⟩) P[k].lines.length cl) P[k].lines.length (Sc.flatK lineC P[k].lines) from rl) HO4.out.choose_spec.1 (by decide) with h4 | h4
    · cases h4
    · exact fun e => h4 (by rw [e]; rfl)
  have HRl := Lib.hid (rl.below HA.out)
  have HOw := Lib.hid (HO4.out.below HA.out)
  have q0 := (HA.out.cell (Tx.cell_lt r0)).trans r0
  have q1 := (HA.out.cell (Tx.cell_lt r1)).trans r1
  have q2 := (HA.out.cell (Tx.cell_lt r2)).trans r2
  have qf : ∀ j, W.frozen? ⟨G, j, none⟩ = false := fun j => (HA.out.frozen (p := ⟨G, j, none⟩) hG2).trans (rf j)
  have HSp := Lib.hid (HSb.out.2.2 P[k] (List.getElem_mem hk))
  have HSt := Lib.hid (HSb.out.1.t P[k] (List.getElem_mem hk))
  have HS1 := Lib.hid HSb.out.1
  have HPk : Hid (P[k] = P[k]) := Lib.hid rfl
  obtain ⟨hh, hhk⟩ : ∃ hh, P[k] = hh := ⟨_, rfl⟩
  rw [hhk] at q0 q1 q2 HRl hlp hll HMi hi HSp HSt
  have HHk := Lib.hid hhk
  have hW4 : w4.heap.size < W.heap.size := xlt
  clear hne rl hmk hmi HMn HPk hP0 HSb HO4 r0 r1 r2 rf HA
  go_upto_region 6 with fail
  go_cut [13] from 35 to 42 (fun u wx => u = .pointer (some ⟨G, k * 3, none⟩) ∧ Hid (Below W.heap.size W wx))
  case first =>
    clear HKW HOw HBW HRl HSp HSt HS1 HM9 HM5
    have i1 : (0 : Int) ≤ (k : Int) := by omega
    have i2 : (k : Int) < (P.length : Int) := by omega
    go_quiet ((go_at_call 14; exact Calls.quiet_of_same (HMk.out _)))
    go_wp2_with fail
    go_meet
    case rel => exact ⟨rfl, Lib.hid (below_drewN (Below.refl _ _) _)⟩
  case rest =>
    obtain ⟨rfl, HBc⟩ := hcut
    obtain ⟨wa, rfl⟩ : ∃ wa, wa = wc := ⟨wc, rfl⟩
    have s0 := (HBc.out.cell (Tx.cell_lt q0)).trans q0
    have s1 := (HBc.out.cell (Tx.cell_lt q1)).trans q1
    have s2 := (HBc.out.cell (Tx.cell_lt q2)).trans q2
    have hGW : G < W.heap.size := by omega
    have hgW : g < W.heap.size := by omega
    have sf : ∀ j, wa.frozen? ⟨G, j, none⟩ = false := fun j => (HBc.out.frozen (p := ⟨G, j, none⟩) hGW).trans (qf j)
    have HXc := Lib.hid (HX.out.below HBc.out)
    have HOc := Lib.hid (HOw.out.below HBc.out)
    have HRc := Lib.hid (HRl.out.below HBc.out)
    have HKc := Lib.hid (fun V (hV : Below wa.heap.size wa V) => HKW.out V (HBc.out.trans (hV.mono HBc.out.size)))
    have HBx := Lib.hid (HBW.out.trans (HBc.out.mono HBW.out.size))
    have hWa : w4.heap.size < wa.heap.size := Nat.lt_of_lt_of_le hW4 HBc.out.size
    clear q0 q1 q2 qf HX HOw HRl HKW HBW HMk HBc hGW hgW x0 x1 x2 xf xlt hW4
    obtain ⟨x0, x1, x2, xf, xlt⟩ := blk3 HXc.out
    go_upto_region 7 with fail
    go_cut [14] from 43 to 54 (fun u wx => u = .pointer (some ⟨g, i * 2, none⟩) ∧ Hid (Below wa.heap.size wa wx))
    case first =>
      clear HKc HOc HBx HRc HSp HSt HS1 HM9 HM5 HXc
      have i1 : (0 : Int) ≤ (i : Int) := by omega
      have i2 : (i : Int) < (hh.lines.length : Int) := by omega
      go_quiet ((go_at_call 14; exact Calls.quiet_of_same (HMi.out _)))
      go_wp2_with fail
      go_meet
      case rel => exact ⟨rfl, Lib.hid (below_drewN (Below.refl _ _) _)⟩
    case rest =>
      obtain ⟨rfl, HBd⟩ := hcut
      obtain ⟨wb, rfl⟩ : ∃ wb, wb = wc := ⟨wc, rfl⟩
      have hGa : G < wa.heap.size := by omega
      have u0 := (HBd.out.cell (Tx.cell_lt s0)).trans s0
      have u1 := (HBd.out.cell (Tx.cell_lt s1)).trans s1
      have u2 := (HBd.out.cell (Tx.cell_lt s2)).trans s2
      have uf : ∀ j, wb.frozen? ⟨G, j, none⟩ = false := fun j => (HBd.out.frozen (p := ⟨G, j, none⟩) hGa).trans (sf j)
      have HXd := Lib.hid (HXc.out.below HBd.out)
      have HOd := Lib.hid (HOc.out.below HBd.out)
      have HRd := Lib.hid (HRc.out.below HBd.out)
      have HKd := Lib.hid (fun V (hV : Below wb.heap.size wb V) => HKc.out V (HBd.out.trans (hV.mono HBd.out.size)))
      have HBy := Lib.hid (HBx.out.trans (HBd.out.mono HBx.out.size))
      have hWb : w4.heap.size < wb.heap.size := Nat.lt_of_lt_of_le hWa HBd.out.size
      clear s0 s1 s2 sf HXc HOc HRc HKc HBx HMi HBd x0 x1 x2 xf xlt hWa hGa
      obtain ⟨x0, x1, x2, xf, xlt⟩ := blk3 HXd.out
      obtain ⟨b7, o7, e7, t0, t1⟩ := RdL_at HRd.out.rd i hi
      injection e7 with e7
      injection e7 with e8 e9
      subst e8
      subst e9
      rw [Nat.zero_add] at t0 t1
      have tf : ∀ j, wb.frozen? ⟨g, j, none⟩ = false := fun j => World.ownsRow.frozenAt (show wb.ownsRow w2.heap.size tLn 2 (.slice (some ⟨g, 0, none⟩) hh.lines.length cl) hh.lines.length (Sc.flatK lineC hh.lines) from HRd.out) j
      have HTz : Hid ((hh.lines[i]'hi).text.size ≤ 180) := Lib.hid (HSt.out _ (List.getElem_mem hi))
      obtain ⟨ln, hln⟩ : ∃ ln, hh.lines[i]'hi = ln := ⟨_, rfl⟩
      rw [hln] at t0 t1 HTz
      clear hln
      have hPG : G ≠ w4.heap.size := by omega
      have hPg : g ≠ w4.heap.size := by omega
      have hRG : w.heap.size ≠ G := by omega
      have hRg : w.heap.size ≠ g := by omega
      have hRP : w.heap.size ≠ w4.heap.size := by omega
      have HZd := Lib.hid (HKd.out wb (Below.refl _ _))
      have HLk : Hid (∃ (h : k < P.length), P[k] = hh) := Lib.hid ⟨hk, hhk⟩
      clear hhk
      go_wp2_with fail
      refine (HM9.out _).mono ?_
      rintro e w6 ⟨rfl, rfl⟩
      clear HM9
      go_upto_region 9 with fail
      have hm9 : m9 = 0 ∨ m9 = 1 ∨ m9 = 2 ∨ m9 = 3 ∨ m9 = 4 ∨ m9 = 5 ∨ m9 = 6 ∨ m9 = 7 ∨ m9 = 8 := by omega
      clear hn0 hn1
      rcases hm9 with rfl | rfl | rfl | rfl | rfl | rfl | rfl | rfl | rfl
      · skip
        obtain ⟨hkk, hke⟩ := HLk.out
        obtain ⟨⟨ho1, ho2⟩, ⟨ho3, ho4⟩⟩ := HSp.out
        have HXf : Hid (Blk (wb.setCell ⟨G, k * 3, none⟩ (.int .i64 (hh.old + (d5 - 2)))) w4.heap.size tPat [.string asB, .string nB, .slice (some ⟨G, 0, none⟩) P.length c4]) := Lib.hid (HXd.out.set_ne (Ne.symm hPG) _ _)
        have HZf : Hid (Blk (wb.setCell ⟨G, k * 3, none⟩ (.int .i64 (hh.old + (d5 - 2)))) w.heap.size tPat [.string ⟨#[]⟩, .string ⟨#[]⟩, .slice none 0 0]) := Lib.hid (HZd.out.set_ne hRG _ _)
        have HBf : Hid (Below w.heap.size w (wb.setCell ⟨G, k * 3, none⟩ (.int .i64 (hh.old + (d5 - 2))))) := Lib.hid (HBy.out.setCell (p := ⟨G, k * 3, none⟩) (by show w.heap.size ≤ G; omega) _)
        have HOf : Hid (∃ hs', P.length = List.length hs' ∧ OwnP w2.heap.size (wb.setCell ⟨G, k * 3, none⟩ (.int .i64 (hh.old + (d5 - 2)))) (.slice (some ⟨G, 0, none⟩) P.length c4) hs' ∧ Sb hs' 1000 180) := Lib.hid ⟨P.set k ⟨(hh.old + (d5 - 2)), hh.new, hh.lines⟩, by rw [List.length_set], ownP_pos HOd.out hkk (e := 0) (by decide) (hh.old + (d5 - 2)) ⟨(hh.old + (d5 - 2)), hh.new, hh.lines⟩ (by rw [hke]; rfl), HS1.out.set hkk (by rw [hke]; exact Nat.le_refl _) (by rw [hke]; exact fun l hl => hl) ⟨by simp only; omega, by simp only; omega⟩⟩
        clear HXd HZd HBy HOd HRd HKd HS1 HLk HSp HSt hke hkk
        obtain ⟨Wf, hWf⟩ : ∃ Wf, Wf = wb.setCell ⟨G, k * 3, none⟩ (.int .i64 (hh.old + (d5 - 2))) := ⟨_, rfl⟩
        rw [← hWf] at HXf HZf HOf HBf
        obtain ⟨p0, p1, p2, pf, plt⟩ := blk3 HXf.out
        obtain ⟨z0, z1, z2, zf, zlt⟩ := blk3 HZf.out
        obtain ⟨hs', hlen', HO', HS'⟩ := HOf.out
        have HFin := Lib.hid (SoPost.of (on := asB) (nn := nB) (own3 (x := .string asB) (y := .string nB) (z := .slice (some ⟨G, 0, none⟩) P.length c4) HO' hw2).rd hlen' HS' (by decide) (by decide) (put3 HBf.out (.string asB) (.string nB) (.slice (some ⟨G, 0, none⟩) P.length c4)))
        clear HXf HZf HOf HBf HO' HS' hlen' 
        go_upto_region 25 with fail
        rw [← hWf]
        clear hWf
        go_wp2_with fail
        exact bodyPost_ret (v := .agg #[.string asB, .string nB, .slice (some ⟨G, 0, none⟩) P.length c4]) (by simp [results, Tryz.f18, go_sem, z0, z1, z2]) rfl HFin.out
      · skip
        obtain ⟨hkk, hke⟩ := HLk.out
        obtain ⟨⟨ho1, ho2⟩, ⟨ho3, ho4⟩⟩ := HSp.out
        have HXf : Hid (Blk (wb.setCell ⟨G, k * 3 + 1, none⟩ (.int .i64 (hh.new + (d5 - 2)))) w4.heap.size tPat [.string asB, .string nB, .slice (some ⟨G, 0, none⟩) P.length c4]) := Lib.hid (HXd.out.set_ne (Ne.symm hPG) _ _)
        have HZf : Hid (Blk (wb.setCell ⟨G, k * 3 + 1, none⟩ (.int .i64 (hh.new + (d5 - 2)))) w.heap.size tPat [.string ⟨#[]⟩, .string ⟨#[]⟩, .slice none 0 0]) := Lib.hid (HZd.out.set_ne hRG _ _)
        have HBf : Hid (Below w.heap.size w (wb.setCell ⟨G, k * 3 + 1, none⟩ (.int .i64 (hh.new + (d5 - 2))))) := Lib.hid (HBy.out.setCell (p := ⟨G, k * 3 + 1, none⟩) (by show w.heap.size ≤ G; omega) _)
        have HOf : Hid (∃ hs', P.length = List.length hs' ∧ OwnP w2.heap.size (wb.setCell ⟨G, k * 3 + 1, none⟩ (.int .i64 (hh.new + (d5 - 2)))) (.slice (some ⟨G, 0, none⟩) P.length c4) hs' ∧ Sb hs' 1000 180) := Lib.hid ⟨P.set k ⟨hh.old, (hh.new + (d5 - 2)), hh.lines⟩, by rw [List.length_set], ownP_pos HOd.out hkk (e := 1) (by decide) (hh.new + (d5 - 2)) ⟨hh.old, (hh.new + (d5 - 2)), hh.lines⟩ (by rw [hke]; rfl), HS1.out.set hkk (by rw [hke]; exact Nat.le_refl _) (by rw [hke]; exact fun l hl => hl) ⟨by simp only; omega, by simp only; omega⟩⟩
        clear HXd HZd HBy HOd HRd HKd HS1 HLk HSp HSt hke hkk
        obtain ⟨Wf, hWf⟩ : ∃ Wf, Wf = wb.setCell ⟨G, k * 3 + 1, none⟩ (.int .i64 (hh.new + (d5 - 2))) := ⟨_, rfl⟩
        rw [← hWf] at HXf HZf HOf HBf
        obtain ⟨p0, p1, p2, pf, plt⟩ := blk3 HXf.out
        obtain ⟨z0, z1, z2, zf, zlt⟩ := blk3 HZf.out
        obtain ⟨hs', hlen', HO', HS'⟩ := HOf.out
        have HFin := Lib.hid (SoPost.of (on := asB) (nn := nB) (own3 (x := .string asB) (y := .string nB) (z := .slice (some ⟨G, 0, none⟩) P.length c4) HO' hw2).rd hlen' HS' (by decide) (by decide) (put3 HBf.out (.string asB) (.string nB) (.slice (some ⟨G, 0, none⟩) P.length c4)))
        clear HXf HZf HOf HBf HO' HS' hlen' 
        go_upto_region 25 with fail
        rw [← hWf]
        clear hWf
        go_wp2_with fail
        exact bodyPost_ret (v := .agg #[.string asB, .string nB, .slice (some ⟨G, 0, none⟩) P.length c4]) (by simp [results, Tryz.f18, go_sem, z0, z1, z2]) rfl HFin.out
      · skip
        have HAl := Lib.hid ((Below.refl wb.heap.size wb).alloc (Nat.le_refl _) (.cells #[.int .u8 32, .int .u8 45, .int .u8 43, .int .u8 64, .int .u8 0] 5))
        obtain ⟨q, rfl⟩ : ∃ q : Nat, d5 = (q : Int) := ⟨d5.toNat, by omega⟩
        have hq5 : q < 5 := by omega
        obtain ⟨kd, hkd⟩ : ∃ kd : Int, (wb.alloc (.cells #[.int .u8 32, .int .u8 45, .int .u8 43, .int .u8 64, .int .u8 0] 5)).cell? ⟨wb.heap.size, q, none⟩ = some (.int .u8 kd) := by
          have hb5 : Blk (wb.alloc (.cells #[.int .u8 32, .int .u8 45, .int .u8 43, .int .u8 64, .int .u8 0] 5)) wb.heap.size 5 [.int .u8 32, .int .u8 45, .int .u8 43, .int .u8 64, .int .u8 0] := heap_new wb _
          have hq6 : q = 0 ∨ q = 1 ∨ q = 2 ∨ q = 3 ∨ q = 4 := by omega
          rcases hq6 with rfl | rfl | rfl | rfl | rfl
          · exact ⟨_, hb5.cell (k := 0) (show 0 < 5 by decide)⟩
          · exact ⟨_, hb5.cell (k := 1) (show 1 < 5 by decide)⟩
          · exact ⟨_, hb5.cell (k := 2) (show 2 < 5 by decide)⟩
          · exact ⟨_, hb5.cell (k := 3) (show 3 < 5 by decide)⟩
          · exact ⟨_, hb5.cell (k := 4) (show 4 < 5 by decide)⟩
        have HXq := Lib.hid (HXd.out.below HAl.out)
        have HZq := Lib.hid (HZd.out.below HAl.out)
        have HByq := Lib.hid (HBy.out.trans (HAl.out.mono HBy.out.size))
        have HOq := Lib.hid (HOd.out.below HAl.out)
        have HRq := Lib.hid (HRd.out.below HAl.out)
        have j0 := (HAl.out.cell (Tx.cell_lt t0)).trans t0
        have jf : (wb.alloc (.cells #[.int .u8 32, .int .u8 45, .int .u8 43, .int .u8 64, .int .u8 0] 5)).frozen? ⟨g, i * 2, none⟩ = false := (HAl.out.frozen (p := ⟨g, i * 2, none⟩) (Tx.cell_lt t0)).trans (tf _)
        have i1 : (0 : Int) ≤ (q : Int) := by omega
        have i2 : (q : Int) < 5 := by omega
        clear HAl
        have HXf : Hid (Blk ((wb.alloc (.cells #[.int .u8 32, .int .u8 45, .int .u8 43, .int .u8 64, .int .u8 0] 5)).setCell ⟨g, i * 2, none⟩ (.int .u8 kd)) w4.heap.size tPat [.string asB, .string nB, .slice (some ⟨G, 0, none⟩) P.length c4]) := Lib.hid (HXq.out.set_ne (Ne.symm hPg) _ _)
        have HZf : Hid (Blk ((wb.alloc (.cells #[.int .u8 32, .int .u8 45, .int .u8 43, .int .u8 64, .int .u8 0] 5)).setCell ⟨g, i * 2, none⟩ (.int .u8 kd)) w.heap.size tPat [.string ⟨#[]⟩, .string ⟨#[]⟩, .slice none 0 0]) := Lib.hid (HZq.out.set_ne hRg _ _)
        have HBf : Hid (Below w.heap.size w ((wb.alloc (.cells #[.int .u8 32, .int .u8 45, .int .u8 43, .int .u8 64, .int .u8 0] 5)).setCell ⟨g, i * 2, none⟩ (.int .u8 kd))) := Lib.hid (HByq.out.setCell (p := ⟨g, i * 2, none⟩) (by show w.heap.size ≤ g; omega) _)
        have HOf : Hid (∃ hs', P.length = List.length hs' ∧ OwnP w2.heap.size ((wb.alloc (.cells #[.int .u8 32, .int .u8 45, .int .u8 43, .int .u8 64, .int .u8 0] 5)).setCell ⟨g, i * 2, none⟩ (.int .u8 kd)) (.slice (some ⟨G, 0, none⟩) P.length c4) hs' ∧ Sb hs' 1000 181) := Lib.hid (by
          obtain ⟨hs', q1, q2, q3⟩ := ownP_line (g := g) (k := i) (e := 0) (u := .int .u8 kd) HOq.out HRq.out (by decide) (fun x => ⟨kd, x.text⟩) (fun x => rfl) HS1.out (fun x hx => Nat.le_succ_of_le hx)
          exact ⟨hs', q2.symm, q1, q3⟩)
        clear HXq HZq HByq HOq HRq
        clear HXd HZd HBy HOd HRd HKd HS1 HLk HSp HSt
        obtain ⟨Wf, hWf⟩ : ∃ Wf, Wf = (wb.alloc (.cells #[.int .u8 32, .int .u8 45, .int .u8 43, .int .u8 64, .int .u8 0] 5)).setCell ⟨g, i * 2, none⟩ (.int .u8 kd) := ⟨_, rfl⟩
        rw [← hWf] at HXf HZf HOf HBf
        obtain ⟨p0, p1, p2, pf, plt⟩ := blk3 HXf.out
        obtain ⟨z0, z1, z2, zf, zlt⟩ := blk3 HZf.out
        obtain ⟨hs', hlen', HO', HS'⟩ := HOf.out
        have HFin := Lib.hid (SoPost.of (on := asB) (nn := nB) (own3 (x := .string asB) (y := .string nB) (z := .slice (some ⟨G, 0, none⟩) P.length c4) HO' hw2).rd hlen' HS' (by decide) (by decide) (put3 HBf.out (.string asB) (.string nB) (.slice (some ⟨G, 0, none⟩) P.length c4)))
        clear HXf HZf HOf HBf HO' HS' hlen'
        go_wp2_with fail
        refine (HM5.out _).mono ?_
        rintro e w7 ⟨rfl, rfl⟩
        go_upto_region 25 with fail
        rw [← hWf]
        clear hWf
        go_wp2_with fail
        exact bodyPost_ret (v := .agg #[.string asB, .string nB, .slice (some ⟨G, 0, none⟩) P.length c4]) (by simp [results, Tryz.f18, go_sem, z0, z1, z2]) rfl HFin.out
      · skip
        have HXq := HXd
        have HZq := HZd
        have HByq := HBy
        have HOq := HOd
        have HRq := HRd
        have HBr := Lib.hid (fun W => Tx.BareR_any ln.text W (by have := HTz.out; omega))
        have HBz : Hid ((Tx.bareB ln.text).size ≤ 181) := Lib.hid (by
          have h1 := HTz.out
          unfold Tx.bareB
          split
          · rw [ByteArray.size_extract]; omega
          · omega)
        have HXf : Hid (Blk (wb.setCell ⟨g, i * 2 + 1, none⟩ (.string (Tx.bareB ln.text))) w4.heap.size tPat [.string asB, .string nB, .slice (some ⟨G, 0, none⟩) P.length c4]) := Lib.hid (HXq.out.set_ne (Ne.symm hPg) _ _)
        have HZf : Hid (Blk (wb.setCell ⟨g, i * 2 + 1, none⟩ (.string (Tx.bareB ln.text))) w.heap.size tPat [.string ⟨#[]⟩, .string ⟨#[]⟩, .slice none 0 0]) := Lib.hid (HZq.out.set_ne hRg _ _)
        have HBf : Hid (Below w.heap.size w (wb.setCell ⟨g, i * 2 + 1, none⟩ (.string (Tx.bareB ln.text)))) := Lib.hid (HByq.out.setCell (p := ⟨g, i * 2 + 1, none⟩) (by show w.heap.size ≤ g; omega) _)
        have HOf : Hid (∃ hs', P.length = List.length hs' ∧ OwnP w2.heap.size (wb.setCell ⟨g, i * 2 + 1, none⟩ (.string (Tx.bareB ln.text))) (.slice (some ⟨G, 0, none⟩) P.length c4) hs' ∧ Sb hs' 1000 181) := Lib.hid (by
          obtain ⟨hs', q1, q2, q3⟩ := ownP_line (g := g) (k := i) (e := 1) (u := .string (Tx.bareB ln.text)) HOq.out HRq.out (by decide) (fun x => ⟨x.kind, Tx.bareB ln.text⟩) (fun x => rfl) HS1.out (fun x _ => HBz.out)
          exact ⟨hs', q2.symm, q1, q3⟩)
        clear HXq HZq HByq HOq HRq
        clear HXd HZd HBy HOd HRd HKd HS1 HLk HSp HSt
        obtain ⟨Wf, hWf⟩ : ∃ Wf, Wf = wb.setCell ⟨g, i * 2 + 1, none⟩ (.string (Tx.bareB ln.text)) := ⟨_, rfl⟩
        rw [← hWf] at HXf HZf HOf HBf
        obtain ⟨p0, p1, p2, pf, plt⟩ := blk3 HXf.out
        obtain ⟨z0, z1, z2, zf, zlt⟩ := blk3 HZf.out
        obtain ⟨hs', hlen', HO', HS'⟩ := HOf.out
        have HFin := Lib.hid (SoPost.of (on := asB) (nn := nB) (own3 (x := .string asB) (y := .string nB) (z := .slice (some ⟨G, 0, none⟩) P.length c4) HO' hw2).rd hlen' HS' (by decide) (by decide) (put3 HBf.out (.string asB) (.string nB) (.slice (some ⟨G, 0, none⟩) P.length c4)))
        clear HXf HZf HOf HBf HO' HS' hlen'
        go_wp2_with fail
        refine (HBr.out _).mono ?_
        rintro e w7 ⟨rfl, rfl⟩
        go_upto_region 25 with fail
        rw [← hWf]
        clear hWf
        go_wp2_with fail
        exact bodyPost_ret (v := .agg #[.string asB, .string nB, .slice (some ⟨G, 0, none⟩) P.length c4]) (by simp [results, Tryz.f18, go_sem, z0, z1, z2]) rfl HFin.out
      · skip
        have HXq := HXd
        have HZq := HZd
        have HByq := HBy
        have HOq := HOd
        have HRq := HRd
        have hTz := HTz.out
        have HBz : Hid ((ln.text ++ ⟨#[121]⟩ : ByteArray).size ≤ 181) := Lib.hid (by
          rw [ByteArray.size_append]
          have e : (⟨#[121]⟩ : ByteArray).size = 1 := rfl
          omega)
        have HXf : Hid (Blk (wb.setCell ⟨g, i * 2 + 1, none⟩ (.string (ln.text ++ ⟨#[121]⟩))) w4.heap.size tPat [.string asB, .string nB, .slice (some ⟨G, 0, none⟩) P.length c4]) := Lib.hid (HXq.out.set_ne (Ne.symm hPg) _ _)
        have HZf : Hid (Blk (wb.setCell ⟨g, i * 2 + 1, none⟩ (.string (ln.text ++ ⟨#[121]⟩))) w.heap.size tPat [.string ⟨#[]⟩, .string ⟨#[]⟩, .slice none 0 0]) := Lib.hid (HZq.out.set_ne hRg _ _)
        have HBf : Hid (Below w.heap.size w (wb.setCell ⟨g, i * 2 + 1, none⟩ (.string (ln.text ++ ⟨#[121]⟩)))) := Lib.hid (HByq.out.setCell (p := ⟨g, i * 2 + 1, none⟩) (by show w.heap.size ≤ g; omega) _)
        have HOf : Hid (∃ hs', P.length = List.length hs' ∧ OwnP w2.heap.size (wb.setCell ⟨g, i * 2 + 1, none⟩ (.string (ln.text ++ ⟨#[121]⟩))) (.slice (some ⟨G, 0, none⟩) P.length c4) hs' ∧ Sb hs' 1000 181) := Lib.hid (by
          obtain ⟨hs', q1, q2, q3⟩ := ownP_line (g := g) (k := i) (e := 1) (u := .string (ln.text ++ ⟨#[121]⟩)) HOq.out HRq.out (by decide) (fun x => ⟨x.kind, ln.text ++ ⟨#[121]⟩⟩) (fun x => rfl) HS1.out (fun x _ => HBz.out)
          exact ⟨hs', q2.symm, q1, q3⟩)
        clear HXq HZq HByq HOq HRq
        clear HXd HZd HBy HOd HRd HKd HS1 HLk HSp HSt
        obtain ⟨Wf, hWf⟩ : ∃ Wf, Wf = wb.setCell ⟨g, i * 2 + 1, none⟩ (.string (ln.text ++ ⟨#[121]⟩)) := ⟨_, rfl⟩
        rw [← hWf] at HXf HZf HOf HBf
        obtain ⟨p0, p1, p2, pf, plt⟩ := blk3 HXf.out
        obtain ⟨z0, z1, z2, zf, zlt⟩ := blk3 HZf.out
        obtain ⟨hs', hlen', HO', HS'⟩ := HOf.out
        have HFin := Lib.hid (SoPost.of (on := asB) (nn := nB) (own3 (x := .string asB) (y := .string nB) (z := .slice (some ⟨G, 0, none⟩) P.length c4) HO' hw2).rd hlen' HS' (by decide) (by decide) (put3 HBf.out (.string asB) (.string nB) (.slice (some ⟨G, 0, none⟩) P.length c4)))
        clear HXf HZf HOf HBf HO' HS' hlen'
        go_upto_region 25 with fail
        rw [← hWf]
        clear hWf
        go_wp2_with fail
        exact bodyPost_ret (v := .agg #[.string asB, .string nB, .slice (some ⟨G, 0, none⟩) P.length c4]) (by simp [results, Tryz.f18, go_sem, z0, z1, z2]) rfl HFin.out
      · skip
        obtain ⟨hkk, hke⟩ := HLk.out
        have HFin : Hid (SoPost w (.returned (.agg #[.string asB, .string nB, .slice (some ⟨G, 0, none⟩) P.length c4])) ((((wb.setCell ⟨G, k * 3 + 2, none⟩ (.slice (if cl = 1 then some ⟨g, 0, none⟩ else some ⟨g, 2, none⟩) (hh.lines.length - 1) (cl - 1))).setCell ⟨w.heap.size, 0, none⟩ (.string asB)).setCell ⟨w.heap.size, 1, none⟩ (.string nB)).setCell ⟨w.heap.size, 2, none⟩ (.slice (some ⟨G, 0, none⟩) P.length c4))) := Lib.hid (by
          have hfin := cut3 (x := .string asB) (y := .string nB) (z := .slice (some ⟨G, 0, none⟩) P.length c4) HOd.out hkk hke hw2 u2 hG1 hg1 hgG HRd.out hlp
          exact SoPost.of hfin (by rw [List.length_set]) (HS1.out.set (x := ⟨hh.old, hh.new, hh.lines.drop 1⟩) hkk (by rw [hke, List.length_drop]; omega) (by rw [hke]; exact fun l hl => List.mem_of_mem_drop hl) ⟨by have := HSp.out.1; simp only; omega, by have := HSp.out.2; simp only; omega⟩) (by decide) (by decide) (put3 (HBy.out.setCell (p := ⟨G, k * 3 + 2, none⟩) (by show w.heap.size ≤ G; omega) _) _ _ _))
        have HXf : Hid (Blk (wb.setCell ⟨G, k * 3 + 2, none⟩ (.slice (if cl = 1 then some ⟨g, 0, none⟩ else some ⟨g, 2, none⟩) (hh.lines.length - 1) (cl - 1))) w4.heap.size tPat [.string asB, .string nB, .slice (some ⟨G, 0, none⟩) P.length c4]) := Lib.hid (HXd.out.set_ne (Ne.symm hPG) _ _)
        have HZf : Hid (Blk (wb.setCell ⟨G, k * 3 + 2, none⟩ (.slice (if cl = 1 then some ⟨g, 0, none⟩ else some ⟨g, 2, none⟩) (hh.lines.length - 1) (cl - 1))) w.heap.size tPat [.string ⟨#[]⟩, .string ⟨#[]⟩, .slice none 0 0]) := Lib.hid (HZd.out.set_ne hRG _ _)
        obtain ⟨p0, p1, p2, pf, plt⟩ := blk3 HXf.out
        obtain ⟨z0, z1, z2, zf, zlt⟩ := blk3 HZf.out
        obtain ⟨Wf, hWf⟩ : ∃ Wf, Wf = wb.setCell ⟨G, k * 3 + 2, none⟩ (.slice (if cl = 1 then some ⟨g, 0, none⟩ else some ⟨g, 2, none⟩) (hh.lines.length - 1) (cl - 1)) := ⟨_, rfl⟩
        rw [← hWf] at p0 p1 p2 pf plt z0 z1 z2 zf zlt HFin
        clear HXf HZf hke hkk
        clear HXd HZd HBy HOd HRd HKd HS1 HLk HSp HSt
        go_upto_region 25 with fail
        rw [← hWf]
        clear hWf
        generalize (if cl = 1 then (some ⟨g, 0, none⟩ : Option Addr) else some ⟨g, 2, none⟩) = A' at *
        go_wp2_with fail
        exact bodyPost_ret (v := .agg #[.string asB, .string nB, .slice (some ⟨G, 0, none⟩) P.length c4]) (by simp [results, Tryz.f18, go_sem, z0, z1, z2]) rfl HFin.out
      · skip
        have HXf : Hid (Blk (wb.setCell ⟨w4.heap.size, 0, none⟩ (.string ⟨#[]⟩)) w4.heap.size tPat [.string ⟨#[]⟩, .string nB, .slice (some ⟨G, 0, none⟩) P.length c4]) := Lib.hid (HXd.out.set 0 (.string ⟨#[]⟩))
        have HZf : Hid (Blk (wb.setCell ⟨w4.heap.size, 0, none⟩ (.string ⟨#[]⟩)) w.heap.size tPat [.string ⟨#[]⟩, .string ⟨#[]⟩, .slice none 0 0]) := Lib.hid (HZd.out.set_ne hRP _ _)
        have HBf : Hid (Below w.heap.size w (wb.setCell ⟨w4.heap.size, 0, none⟩ (.string ⟨#[]⟩))) := Lib.hid (HBy.out.setCell (p := ⟨w4.heap.size, 0, none⟩) (by show w.heap.size ≤ w4.heap.size; omega) _)
        have HOf : Hid (∃ hs', P.length = List.length hs' ∧ OwnP w2.heap.size (wb.setCell ⟨w4.heap.size, 0, none⟩ (.string ⟨#[]⟩)) (.slice (some ⟨G, 0, none⟩) P.length c4) hs' ∧ Sb hs' 1000 180) := Lib.hid ⟨P, rfl, ownP_box HOd.out HXd.out, HS1.out⟩
        clear HXd HZd HBy HOd HRd HKd HS1 HLk HSp HSt
        obtain ⟨Wf, hWf⟩ : ∃ Wf, Wf = wb.setCell ⟨w4.heap.size, 0, none⟩ (.string ⟨#[]⟩) := ⟨_, rfl⟩
        rw [← hWf] at HXf HZf HOf HBf
        obtain ⟨p0, p1, p2, pf, plt⟩ := blk3 HXf.out
        obtain ⟨z0, z1, z2, zf, zlt⟩ := blk3 HZf.out
        obtain ⟨hs', hlen', HO', HS'⟩ := HOf.out
        have HFin := Lib.hid (SoPost.of (on := ⟨#[]⟩) (nn := nB) (own3 (x := .string ⟨#[]⟩) (y := .string nB) (z := .slice (some ⟨G, 0, none⟩) P.length c4) HO' hw2).rd hlen' HS' (by decide) (by decide) (put3 HBf.out (.string ⟨#[]⟩) (.string nB) (.slice (some ⟨G, 0, none⟩) P.length c4)))
        clear HXf HZf HOf HBf HO' HS' hlen'
        go_upto_region 25 with fail
        rw [← hWf]
        clear hWf
        go_wp2_with fail
        exact bodyPost_ret (v := .agg #[.string ⟨#[]⟩, .string nB, .slice (some ⟨G, 0, none⟩) P.length c4]) (by simp [results, Tryz.f18, go_sem, z0, z1, z2]) rfl HFin.out
      · skip
        have hlj : P.length + 1 ≤ 1000000 := by omega
        have hbs : w2.heap.size ≤ wb.heap.size := by omega
        have HAl := Lib.hid (fun o : Obj => (Below.refl wb.heap.size wb).alloc (Nat.le_refl _) o)
        have HOe := Lib.hid (fun V (hV : Below wb.heap.size wb V) => HOd.out.below hV)
        have HRe := Lib.hid (fun V (hV : Below wb.heap.size wb V) => HRd.out.below hV)
        have HXe := Lib.hid (fun V (hV : Below wb.heap.size wb V) => HXd.out.below hV)
        have HZe := Lib.hid (fun V (hV : Below wb.heap.size wb V) => HZd.out.below hV)
        have HBe := Lib.hid (fun V (hV : Below wb.heap.size wb V) => HBy.out.trans (hV.mono HBy.out.size))
        obtain ⟨hkk, hke⟩ := HLk.out
        have HSe : Hid (Sb (P ++ [hh]) 2001 180) := Lib.hid (by have := HS1.out.app hkk; rw [hke] at this; exact this.mono (by omega) (Nat.le_refl _))
        clear HXd HZd HBy HOd HRd HKd HS1 HLk HSp HSt hkk hke
        go_upto_region 24 with fail
        go_region_law ((refine step_app_ph (by rfl) (.tmp 123) (.tmp 127) (by rfl) w2.heap.size P hh (.slice (some ⟨g, 0, none⟩) hh.lines.length cl) _ (by rfl) (HOe.out _ (by first | exact ((Below.refl _ wb).drew.alloc (Nat.le_refl _) _) | exact ((Below.refl _ wb).alloc (Nat.le_refl _) _).drew)) (HRe.out _ (by first | exact ((Below.refl _ wb).drew.alloc (Nat.le_refl _) _) | exact ((Below.refl _ wb).alloc (Nat.le_refl _) _).drew)) ⟨wb.heap.size, 0, none⟩ (by rfl) (World.news_of_block (cs := #[.int .i64 hh.old, .int .i64 hh.new, .slice (some ⟨g, 0, none⟩) hh.lines.length cl]) (t := tPh) (fr := (0, 0)) (heap_new wb _)) hlj (by simp; omega) ?_; intro G7 cap7 w7 ho7 hb7 hk7; have hx7 := hk7 w4.heap.size tPat _ (by decide) (HXe.out _ (by first | exact ((Below.refl _ wb).drew.alloc (Nat.le_refl _) _) | exact ((Below.refl _ wb).alloc (Nat.le_refl _) _).drew)); have hz7 := hk7 w.heap.size tPat _ (by decide) (HZe.out _ (by first | exact ((Below.refl _ wb).drew.alloc (Nat.le_refl _) _) | exact ((Below.refl _ wb).alloc (Nat.le_refl _) _).drew)); have HB7 : Hid (Below w.heap.size w w7) := Lib.hid ((HBe.out _ (by first | exact ((Below.refl _ wb).drew.alloc (Nat.le_refl _) _) | exact ((Below.refl _ wb).alloc (Nat.le_refl _) _).drew)).trans (hb7.mono (by omega))); obtain ⟨y0, y1, y2, yf, ylt⟩ := blk3 hx7; have HX7 := Lib.hid hx7; have HZ7 := Lib.hid hz7; have HO7 := Lib.hid ho7; clear ho7 hb7 hk7 hx7 hz7))
        all_goals
          have HXf : Hid (Blk (w7.setCell ⟨w4.heap.size, 2, none⟩ (.slice (some ⟨G7, 0, none⟩) (P.length + 1) cap7)) w4.heap.size tPat [.string asB, .string nB, .slice (some ⟨G7, 0, none⟩) (P.length + 1) cap7]) := Lib.hid (HX7.out.set 2 _)
          have HZf : Hid (Blk (w7.setCell ⟨w4.heap.size, 2, none⟩ (.slice (some ⟨G7, 0, none⟩) (P.length + 1) cap7)) w.heap.size tPat [.string ⟨#[]⟩, .string ⟨#[]⟩, .slice none 0 0]) := Lib.hid (HZ7.out.set_ne hRP _ _)
          have HBf : Hid (Below w.heap.size w (w7.setCell ⟨w4.heap.size, 2, none⟩ (.slice (some ⟨G7, 0, none⟩) (P.length + 1) cap7))) := Lib.hid (HB7.out.setCell (p := ⟨w4.heap.size, 2, none⟩) (by show w.heap.size ≤ w4.heap.size; omega) _)
          have HOf : Hid (∃ hs', P.length + 1 = List.length hs' ∧ OwnP w2.heap.size (w7.setCell ⟨w4.heap.size, 2, none⟩ (.slice (some ⟨G7, 0, none⟩) (P.length + 1) cap7)) (.slice (some ⟨G7, 0, none⟩) (P.length + 1) cap7) hs' ∧ Sb hs' 2001 180) := Lib.hid ⟨P ++ [hh], by simp, ownP_box HO7.out HX7.out, HSe.out⟩
          clear HX7 HZ7 HB7 HO7 HSe HOe HRe HXe HZe HBe HAl y0 y1 y2 yf ylt x0 x1 x2 xf xlt u0 u1 u2 uf t0 t1 tf
          obtain ⟨Wf, hWf⟩ : ∃ Wf, Wf = w7.setCell ⟨w4.heap.size, 2, none⟩ (.slice (some ⟨G7, 0, none⟩) (P.length + 1) cap7) := ⟨_, rfl⟩
          rw [← hWf] at HXf HZf HOf HBf
          obtain ⟨p0, p1, p2, pf, plt⟩ := blk3 HXf.out
          obtain ⟨z0, z1, z2, zf, zlt⟩ := blk3 HZf.out
          obtain ⟨hs', hlen', HO', HS'⟩ := HOf.out
          have HFin := Lib.hid (SoPost.of (on := asB) (nn := nB) (own3 (x := .string asB) (y := .string nB) (z := .slice (some ⟨G7, 0, none⟩) (P.length + 1) cap7) HO' hw2).rd hlen' HS' (by decide) (by decide) (put3 HBf.out (.string asB) (.string nB) (.slice (some ⟨G7, 0, none⟩) (P.length + 1) cap7)))
          clear HXf HZf HOf HBf HO' HS' hlen'
          go_upto_region 25 with fail
          rw [← hWf]
          clear hWf
          go_wp2_with fail
          exact bodyPost_ret (v := .agg #[.string asB, .string nB, .slice (some ⟨G7, 0, none⟩) (P.length + 1) cap7]) (by simp [results, Tryz.f18, go_sem, z0, z1, z2]) rfl HFin.out
      · skip
        have HXf := HXd
        have HZf := HZd
        have HBf := HBy
        have HOf : Hid (∃ hs', P.length = List.length hs' ∧ OwnP w2.heap.size wb (.slice (some ⟨G, 0, none⟩) P.length c4) hs' ∧ Sb hs' 1000 180) := Lib.hid ⟨P, rfl, HOd.out, HS1.out⟩
        clear HXd HZd HBy HOd HRd HKd HS1 HLk HSp HSt
        obtain ⟨Wf, hWf⟩ : ∃ Wf, Wf = wb := ⟨_, rfl⟩
        rw [← hWf] at HXf HZf HOf HBf
        obtain ⟨p0, p1, p2, pf, plt⟩ := blk3 HXf.out
        obtain ⟨z0, z1, z2, zf, zlt⟩ := blk3 HZf.out
        obtain ⟨hs', hlen', HO', HS'⟩ := HOf.out
        have HFin := Lib.hid (SoPost.of (on := asB) (nn := nB) (own3 (x := .string asB) (y := .string nB) (z := .slice (some ⟨G, 0, none⟩) P.length c4) HO' hw2).rd hlen' HS' (by decide) (by decide) (put3 HBf.out (.string asB) (.string nB) (.slice (some ⟨G, 0, none⟩) P.length c4)))
        clear HXf HZf HOf HBf HO' HS' hlen'
        go_upto_region 25 with fail
        rw [← hWf]
        clear hWf
        go_wp2_with fail
        exact bodyPost_ret (v := .agg #[.string asB, .string nB, .slice (some ⟨G, 0, none⟩) P.length c4]) (by simp [results, Tryz.f18, go_sem, z0, z1, z2]) rfl HFin.out
end St
end
section
namespace Cm
end Cm
namespace Hn
end Hn
namespace Sc
end Sc
namespace Uf
end Uf
open Go.RowKit
namespace St
open Uf Cm Hn
open Sc (Pow below_drewN)
/-- All that the law asks of one patch. -/
theorem six_any (p : Pat) (w : World) {N T : Nat} (hq : Sq p.hunks N T) (hN : N ≤ 17000) (hT : T ≤ 1100000) (hp : Pow w) : ∃ (C : Int) (s : ByteArray) (x y : Int),
    (∀ v w', Below w.heap.size w w' → RdP w' v p.hunks → Calls Tryz.prog 19 #[tPatV p v] w' fun e w'' => e = .returned (.tuple #[.string s, .int .i64 C]) ∧ Below w'.heap.size w' w'') ∧
    (∀ v w', RdP w' v p.hunks → Calls Tryz.prog 20 #[tPatV p v] w' fun e w'' => e = .returned (.tuple #[.string s, .int .i64 C]) ∧ Below w'.heap.size w' w'') ∧
    (∀ v w', Below w.heap.size w w' → RdP w' v p.hunks → Calls Tryz.prog 23 #[tPatV p v] w' fun e w'' => e = .returned (.int .i64 C) ∧ Below w'.heap.size w' w'') ∧
    (∀ v w', RdP w' v p.hunks → Calls Tryz.prog 24 #[tPatV p v] w' fun e w'' => e = .returned (.int .i64 C) ∧ Below w'.heap.size w' w'') ∧
    (∀ v w', RdP w' v p.hunks → Calls Tryz.prog 21 #[tPatV p v] w' fun e w'' => e = .returned (.tuple #[.int .i64 x, .int .i64 y]) ∧ Below w'.heap.size w' w'') ∧
    (∀ v w', RdP w' v p.hunks → Calls Tryz.prog 22 #[tPatV p v] w' fun e w'' => e = .returned (.tuple #[.int .i64 x, .int .i64 y]) ∧ Below w'.heap.size w' w'') := by
  have hsh : ShOk p := hq.sh hN hT
  have hsm : PatSm p.hunks := hsh.1.1
  have hf : p.hunks.length ≤ 1000000 := hsm.1
  have hl : ∀ h ∈ p.hunks, h.lines.length ≤ 1000000 := fun h hh => (hsm.2 h hh).1
  exact ⟨chkC p, fmtB p, _, _, fun v w' hb hr => Format_any p v w' hr hsm (hp.stays hb), fun v w' hr => FormatR_any p v w' hr hsh, fun v w' hb hr => Check_any p v w' hr hsm (hp.stays hb), fun v w' hr => CheckR_any p v w' hr hsh, fun v w' hr => Count_any p v w' hr hf hl, fun v w' hr => CountR_any p v w' hr hf hl⟩
theorem nL_ten : ∀ hs : List PH, (∀ h ∈ hs, h.lines.length ≤ 10) → nL hs ≤ hs.length * 10
  | [], _ => Nat.zero_le _
  | h :: hs, hh => by
    have h1 := nL_ten hs (fun x hx => hh x (List.mem_cons_of_mem _ hx))
    have h2 := hh h List.mem_cons_self
    unfold nL at h1 ⊢
    simp only [List.map_cons, List.sum_cons, List.length_cons, Nat.succ_mul]
    omega
theorem sel6 {V w6 : World} {H Q : Nat} {u0 u1 u2 u3 u4 u5 : Value} (B : Below V.heap.size V w6) (h : V.cell? ⟨H, 0, none⟩ = some u0 ∧ V.cell? ⟨H, 1, none⟩ = some u1 ∧ V.cell? ⟨H, 2, none⟩ = some u2 ∧ V.cell? ⟨Q, 0, none⟩ = some u3 ∧ V.cell? ⟨Q, 1, none⟩ = some u4 ∧ V.cell? ⟨Q, 2, none⟩ = some u5) :
    w6.cell? ⟨H, 0, none⟩ = some u0 ∧ w6.cell? ⟨H, 1, none⟩ = some u1 ∧ w6.cell? ⟨H, 2, none⟩ = some u2 ∧ w6.cell? ⟨Q, 0, none⟩ = some u3 ∧ w6.cell? ⟨Q, 1, none⟩ = some u4 ∧ w6.cell? ⟨Q, 2, none⟩ = some u5 := by
  obtain ⟨h0, h1, h2, h3, h4, h5⟩ := h
  have e : ∀ (b i : Nat) (y : Value), V.cell? ⟨b, i, none⟩ = some y → w6.cell? ⟨b, i, none⟩ = some y := fun b i y hy => (B.cell (p := ⟨b, i, none⟩) (Tx.cell_lt hy)).trans hy
  exact ⟨e _ _ _ h0, e _ _ _ h1, e _ _ _ h2, e _ _ _ h3, e _ _ _ h4, e _ _ _ h5⟩
set_option maxRecDepth 100000 in
set_option maxHeartbeats 16000000 in
theorem checks_walk (on nn : ByteArray) (hs : List PH) (A : Option Addr) (n c : Nat) (v : Value) (us : List Int) (what atv byv : Int) (w : World) (hrp : RdP w (.slice A n c) hs) (hts : tS hs ≤ 1100000) (hpos : ∀ h ∈ hs, (-9223372036854775808 ≤ h.old ∧ h.old ≤ 9223372036854775807) ∧ (-9223372036854775808 ≤ h.new ∧ h.new ≤ 9223372036854775807)) (hnl : n ≤ 9223372036854775807) (honz : on.size ≤ 9223372036854775807) (hnnz : nn.size ≤ 9223372036854775807)
    (h : RdV w v (intsV us)) (hu : us.length ≤ maxLen) (hub : ∀ z ∈ us, -9223372036854775808 ≤ z ∧ z ≤ 9223372036854775807)
    (hw1 : -9223372036854775808 ≤ what ∧ what ≤ 9223372036854775807) (ha1 : -9223372036854775808 ≤ atv ∧ atv ≤ 9223372036854775807) (hb1 : -9223372036854775808 ≤ byv ∧ byv ≤ 9223372036854775807) (hp : Pow w) :
    Calls Tryz.prog 4 #[.agg #[.string on, .string nn, .slice A n c], v, .int .i64 what, .int .i64 atv, .int .i64 byv] w (AwPost w) := by
  have hn : hs.length = n := by
    obtain ⟨A', c', e⟩ := hrp.form
    injection e with e1 e2 e3
    exact e2.symm
  have HAw := Lib.hid (fun w' (hb : Below w.heap.size w w') => Uf.awake_any w' (hp.stays hb))
  have HSo := Lib.hid (fun w' (hb : Below w.heap.size w w') => spoilt_any v us what atv byv w' (h.below hb) hu hub hw1 ha1 hb1)
  unfold SoPost at HSo
  have HSx := Lib.hid (fun (hl : ∀ h ∈ hs, h.lines.length ≤ 10) (h5 : n ≤ 5) => six_any ⟨on, nn, hs⟩ w (N := 60) (T := 1100000) ⟨by have := nL_ten hs hl; simp only; omega, hts, hpos⟩ (by omega) (by omega) hp)
  have HSq := Lib.hid (fun (q : Pat) (hq : Sq q.hunks 2001 400000) => six_any q w hq (by omega) (by omega) hp)
  obtain ⟨Ar, cr, rfl⟩ := h.form
  clear h hu hub hw1 ha1 hb1 hts hpos hp
  rw [intsV_len] at HSo ⊢
  have HRp := Lib.hid hrp
  have HN := Lib.hid hn
  clear hrp hn
  obtain ⟨W0, hW0⟩ : ∃ W0, W0 = w.alloc (.cells #[.string on, .string nn, .slice A n c] tPat) := ⟨_, rfl⟩
  have HB0 : Hid (Below w.heap.size w W0) := Lib.hid (by rw [hW0]; exact (Below.refl w.heap.size w).alloc (Nat.le_refl _) _)
  have HX0 : Hid (Blk W0 w.heap.size tPat [.string on, .string nn, .slice A n c]) := Lib.hid (by rw [hW0]; exact heap_new w _)
  have HR0 := Lib.hid (HRp.out.below HB0.out)
  have HA0 := Lib.hid (HAw.out W0 HB0.out)
  obtain ⟨x0, x1, x2, xf, xlt⟩ := blk3 HX0.out
  go_enter Tryz.func4, Tryz.ntmps4
  go_upto_region 1 with fail
  rw [← hW0]
  clear hW0
  by_cases g1 : (5 : Int) < (n : Int) ∨ (300 : Int) < (on.size : Int) ∨ (300 : Int) < (nn.size : Int)
  · clear HSo HSx HSq HRp HR0 HX0
    by_cases c1 : (5 : Int) < (n : Int)
    · go_wp2_with fail
      refine HA0.out.mono ?_
      rintro e w1 ⟨rfl, hb⟩
      have HF := Lib.hid (HB0.out.trans (hb.mono HB0.out.size))
      clear hb
      go_wp2_with fail
      go_ret
      exact ⟨rfl, HF.out⟩
    · by_cases c2 : (300 : Int) < (on.size : Int)
      · go_wp2_with fail
        refine HA0.out.mono ?_
        rintro e w1 ⟨rfl, hb⟩
        have HF := Lib.hid (HB0.out.trans (hb.mono HB0.out.size))
        clear hb
        go_wp2_with fail
        go_ret
        exact ⟨rfl, HF.out⟩
      · have c3 : (300 : Int) < (nn.size : Int) := by omega
        go_wp2_with fail
        refine HA0.out.mono ?_
        rintro e w1 ⟨rfl, hb⟩
        have HF := Lib.hid (HB0.out.trans (hb.mono HB0.out.size))
        clear hb
        go_wp2_with fail
        go_ret
        exact ⟨rfl, HF.out⟩
  · have h5 : n ≤ 5 := by omega
    have c1 : ¬ (5 : Int) < (n : Int) := by omega
    have c2 : ¬ (300 : Int) < (on.size : Int) := by omega
    have c3 : ¬ (300 : Int) < (nn.size : Int) := by omega
    clear g1
    go_wp2_with fail
    go_loopw [11] (fun i wr => ∃ j : Nat, j ≤ n ∧ i = .int .i64 j ∧ Hid (∀ h ∈ hs.take j, h.lines.length ≤ 10) ∧ W0 = wr) (fun i _ => n - (intOf i).toNat)
    case atStart => exact ⟨0, Nat.zero_le _, rfl, Lib.hid (fun h hh => by cases hh), rfl⟩
    case round =>
      obtain ⟨j, hj, rfl, HL, rfl⟩ := hrel
      by_cases hlt : j < n
      · have hx : j < hs.length := by rw [HN.out]; exact hlt
        obtain ⟨b, off, Al, cl, rfl, d0, d1, d2, -⟩ := RdP_at HR0.out j hx
        have HTk := Lib.hid (show hs.take (j + 1) = hs.take j ++ [hs[j]] from List.take_succ_eq_append_getElem hx)
        have i1 : (0 : Int) ≤ (j : Int) := by omega
        have i2 : (j : Int) < (n : Int) := by omega
        generalize hs[j] = hh at *
        clear d0 d1
        by_cases h10 : (10 : Int) < (hh.lines.length : Int)
        · clear HSo HSx HSq HL HTk
          go_wp2_with fail
          refine HA0.out.mono ?_
          rintro e w1 ⟨rfl, hb⟩
          have HF := Lib.hid (HB0.out.trans (hb.mono HB0.out.size))
          clear hb
          go_wp2_with fail
          go_ret
          exact ⟨rfl, HF.out⟩
        · have HL2 : Hid (∀ h ∈ hs.take (j + 1), h.lines.length ≤ 10) := Lib.hid (fun h hm => by
            rw [HTk.out, List.mem_append] at hm
            rcases hm with hm | hm
            · exact HL.out h hm
            · rw [List.mem_singleton.1 hm]; omega)
          clear HTk HL
          go_wp2_with fail
          go_roundw
          case rel => exact ⟨j + 1, by omega, by go_num, HL2, trivial⟩
          case measure => simp [intOf]; omega
      · have hjn : j = n := by omega
        subst hjn
        have ht : hs.take j = hs := by rw [← HN.out, List.take_length]
        rw [ht] at HL
        obtain ⟨C1, s1, y1, z1, a1, a2, a3, a4, -, -⟩ := HSx.out HL.out h5
        have HP1 := Lib.hid a1
        have HP2 := Lib.hid a2
        have HP3 := Lib.hid a3
        have HP4 := Lib.hid a4
        have HS0 := Lib.hid (HSo.out W0 HB0.out)
        clear HSx HL ht HA0 HSo a1 a2 a3 a4
        go_wp2_with fail
        refine HS0.out.mono ?_
        rintro e w1 ⟨qon, qnn, qhs, Aq, cq, rfl, hrq, hsq, hb⟩
        obtain ⟨C2, s2, y2, z2, b1, b2, b3, b4, b5, b6⟩ := HSq.out ⟨qon, qnn, qhs⟩ hsq
        have HQ1 := Lib.hid b1
        have HQ2 := Lib.hid b2
        have HQ3 := Lib.hid b3
        have HQ4 := Lib.hid b4
        have HQ5 := Lib.hid b5
        have HQ6 := Lib.hid b6
        generalize hQl : qhs.length = Ql at *
        have HQl := Lib.hid hQl
        have HW1 := Lib.hid ((hb).trans (((Below.refl w1.heap.size w1).alloc (Nat.le_refl _) (.cells #[.string qon, .string qnn, .slice Aq Ql cq] tPat)).mono hb.size))
        have HY1 : Hid (Blk (w1.alloc (.cells #[.string qon, .string qnn, .slice Aq Ql cq] tPat)) w1.heap.size tPat [.string qon, .string qnn, .slice Aq Ql cq]) := Lib.hid (heap_new w1 _)
        have HRq1 := Lib.hid (hrq.below ((Below.refl _ w1).alloc (Nat.le_refl _) (.cells #[.string qon, .string qnn, .slice Aq Ql cq] tPat)))
        have HX1 := Lib.hid (HX0.out.below HW1.out)
        have HRp1 := Lib.hid (HR0.out.below HW1.out)
        have HB1 := Lib.hid (HB0.out.trans (HW1.out.mono HB0.out.size))
        clear b1 b2 b3 b4 b5 b6 hsq hrq hb hQl HS0 HSq HW1 HX0 HR0 HB0 x0 x1 x2 xf xlt
        obtain ⟨x0, x1, x2, xf, xlt⟩ := blk3 HX1.out
        have HC := Lib.hid (HP1.out (.slice A j c) _ HB1.out HRp1.out)
        go_wp2_with fail
        refine HC.out.mono ?_
        rintro e w2 ⟨rfl, hb⟩
        have HB2 := Lib.hid (HB1.out.trans (hb.mono HB1.out.size))
        have HX2 := Lib.hid (HX1.out.below hb)
        have HY2 := Lib.hid (HY1.out.below hb)
        have HRp2 := Lib.hid (HRp1.out.below hb)
        have HRq2 := Lib.hid (HRq1.out.below hb)
        clear hb HC HB1 HX1 HY1 HRp1 HRq1 x0 x1 x2 xf xlt
        obtain ⟨x0, x1, x2, xf, xlt⟩ := blk3 HX2.out
        obtain ⟨v0, v1, v2, vf, vlt⟩ := blk3 HY2.out
        have HC := Lib.hid (HP2.out (.slice A j c) _ HRp2.out)
        go_wp2_with fail
        refine HC.out.mono ?_
        rintro e w3 ⟨rfl, hb⟩
        have HB3 := Lib.hid (HB2.out.trans (hb.mono HB2.out.size))
        have HX3 := Lib.hid (HX2.out.below hb)
        have HY3 := Lib.hid (HY2.out.below hb)
        have HRp3 := Lib.hid (HRp2.out.below hb)
        have HRq3 := Lib.hid (HRq2.out.below hb)
        clear hb HC HB2 HX2 HY2 HRp2 HRq2 x0 x1 x2 xf xlt v0 v1 v2 vf vlt
        obtain ⟨x0, x1, x2, xf, xlt⟩ := blk3 HX3.out
        obtain ⟨v0, v1, v2, vf, vlt⟩ := blk3 HY3.out
        have HC := Lib.hid (HQ1.out (.slice Aq Ql cq) _ HB3.out HRq3.out)
        go_wp2_with fail
        refine HC.out.mono ?_
        rintro e w4 ⟨rfl, hb⟩
        have HB4 := Lib.hid (HB3.out.trans (hb.mono HB3.out.size))
        have HX4 := Lib.hid (HX3.out.below hb)
        have HY4 := Lib.hid (HY3.out.below hb)
        have HRp4 := Lib.hid (HRp3.out.below hb)
        have HRq4 := Lib.hid (HRq3.out.below hb)
        clear hb HC HB3 HX3 HY3 HRp3 HRq3 x0 x1 x2 xf xlt v0 v1 v2 vf vlt
        obtain ⟨x0, x1, x2, xf, xlt⟩ := blk3 HX4.out
        obtain ⟨v0, v1, v2, vf, vlt⟩ := blk3 HY4.out
        have HC := Lib.hid (HQ2.out (.slice Aq Ql cq) _ HRq4.out)
        go_wp2_with fail
        refine HC.out.mono ?_
        rintro e w5 ⟨rfl, hb⟩
        have HB5 := Lib.hid (HB4.out.trans (hb.mono HB4.out.size))
        have HX5 := Lib.hid (HX4.out.below hb)
        have HY5 := Lib.hid (HY4.out.below hb)
        have HRp5 := Lib.hid (HRp4.out.below hb)
        have HRq5 := Lib.hid (HRq4.out.below hb)
        clear hb HC HB4 HX4 HY4 HRp4 HRq4 x0 x1 x2 xf xlt v0 v1 v2 vf vlt
        obtain ⟨x0, x1, x2, xf, xlt⟩ := blk3 HX5.out
        obtain ⟨v0, v1, v2, vf, vlt⟩ := blk3 HY5.out
        have HC := Lib.hid (HQ5.out (.slice Aq Ql cq) _ HRq5.out)
        go_wp2_with fail
        refine HC.out.mono ?_
        rintro e w6 ⟨rfl, hb⟩
        have HB6 := Lib.hid (HB5.out.trans (hb.mono HB5.out.size))
        have HX6 := Lib.hid (HX5.out.below hb)
        have HY6 := Lib.hid (HY5.out.below hb)
        have HRp6 := Lib.hid (HRp5.out.below hb)
        have HRq6 := Lib.hid (HRq5.out.below hb)
        clear hb HC HB5 HX5 HY5 HRp5 HRq5 x0 x1 x2 xf xlt v0 v1 v2 vf vlt
        obtain ⟨x0, x1, x2, xf, xlt⟩ := blk3 HX6.out
        obtain ⟨v0, v1, v2, vf, vlt⟩ := blk3 HY6.out
        have HC := Lib.hid (HQ6.out (.slice Aq Ql cq) _ HRq6.out)
        go_wp2_with fail
        refine HC.out.mono ?_
        rintro e w7 ⟨rfl, hb⟩
        have HB7 := Lib.hid (HB6.out.trans (hb.mono HB6.out.size))
        have HX7 := Lib.hid (HX6.out.below hb)
        have HY7 := Lib.hid (HY6.out.below hb)
        have HRp7 := Lib.hid (HRp6.out.below hb)
        have HRq7 := Lib.hid (HRq6.out.below hb)
        clear hb HC HB6 HX6 HY6 HRp6 HRq6 x0 x1 x2 xf xlt v0 v1 v2 vf vlt
        obtain ⟨x0, x1, x2, xf, xlt⟩ := blk3 HX7.out
        obtain ⟨v0, v1, v2, vf, vlt⟩ := blk3 HY7.out
        have HCa := Lib.hid (fun (V : World) (hb : Below w7.heap.size w7 V) => HP3.out (.slice A j c) V (HB7.out.trans (hb.mono HB7.out.size)) (HRp7.out.below hb))
        have HDa := Lib.hid (fun (V : World) (hb : Below w7.heap.size w7 V) => HP4.out (.slice A j c) V (HRp7.out.below hb))
        have HCb := Lib.hid (fun (V : World) (hb : Below w7.heap.size w7 V) => HQ3.out (.slice Aq Ql cq) V (HB7.out.trans (hb.mono HB7.out.size)) (HRq7.out.below hb))
        have HDb := Lib.hid (fun (V : World) (hb : Below w7.heap.size w7 V) => HQ4.out (.slice Aq Ql cq) V (HRq7.out.below hb))
        have HEa := Lib.hid (fun (V : World) (hb : Below w7.heap.size w7 V) => HAw.out V (HB7.out.trans (hb.mono HB7.out.size)))
        have HBn : Hid (Below w7.heap.size w7 w7.drew) := Lib.hid ((Below.refl _ _).drew)
        have HS1 : Hid ((fun V => V.cell? ⟨w.heap.size, 0, none⟩ = some (.string on) ∧ V.cell? ⟨w.heap.size, 1, none⟩ = some (.string nn) ∧ V.cell? ⟨w.heap.size, 2, none⟩ = some (.slice A j c) ∧ V.cell? ⟨w1.heap.size, 0, none⟩ = some (.string qon) ∧ V.cell? ⟨w1.heap.size, 1, none⟩ = some (.string qnn) ∧ V.cell? ⟨w1.heap.size, 2, none⟩ = some (.slice Aq Ql cq)) w7.drew) := Lib.hid ⟨x0, x1, x2, v0, v1, v2⟩
        have HB7 := HB7
        clear HP1 HP2 HP3 HP4 HQ1 HQ2 HQ3 HQ4 HQ5 HQ6 HAw HX7 HY7 HRp7 HRq7
        go_upto_region 15 with fail
        go_region_held3 (fun V => V.cell? ⟨w.heap.size, 0, none⟩ = some (.string on) ∧ V.cell? ⟨w.heap.size, 1, none⟩ = some (.string nn) ∧ V.cell? ⟨w.heap.size, 2, none⟩ = some (.slice A j c) ∧ V.cell? ⟨w1.heap.size, 0, none⟩ = some (.string qon) ∧ V.cell? ⟨w1.heap.size, 1, none⟩ = some (.string qnn) ∧ V.cell? ⟨w1.heap.size, 2, none⟩ = some (.slice Aq Ql cq)) (first | exact HS1.out) (first | (go_at_call 23; go_fit (HCa.out _ HBn.out); rintro e w20 ⟨rfl, B6⟩; have HS1 := Lib.hid (sel6 B6 HS1.out); have HBn := Lib.hid (HBn.out.trans (B6.mono HBn.out.size)); clear B6) | (go_at_call 23; go_fit (HCb.out _ HBn.out); rintro e w20 ⟨rfl, B6⟩; have HS1 := Lib.hid (sel6 B6 HS1.out); have HBn := Lib.hid (HBn.out.trans (B6.mono HBn.out.size)); clear B6) | (go_at_call 24; go_fit (HDa.out _ HBn.out); rintro e w20 ⟨rfl, B6⟩; have HS1 := Lib.hid (sel6 B6 HS1.out); have HBn := Lib.hid (HBn.out.trans (B6.mono HBn.out.size)); clear B6) | (go_at_call 24; go_fit (HDb.out _ HBn.out); rintro e w20 ⟨rfl, B6⟩; have HS1 := Lib.hid (sel6 B6 HS1.out); have HBn := Lib.hid (HBn.out.trans (B6.mono HBn.out.size)); clear B6) | (go_at_call 11; go_fit (HEa.out _ HBn.out); rintro e w20 ⟨rfl, B6⟩; have HS1 := Lib.hid (sel6 B6 HS1.out); have HBn := Lib.hid (HBn.out.trans (B6.mono HBn.out.size)); clear B6))
        all_goals
          have HFin := Lib.hid (HB7.out.trans (HBn.out.mono HB7.out.size))
          go_wp2_with fail
          go_ret
          exact ⟨rfl, HFin.out⟩
end St
end
end Go.Proofs.YtlnghfmedkfkmaaGreatDoor

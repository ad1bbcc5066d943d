/-
  Reading of written patches, as plain mathematics: the program's reader, line by line, and that a valid patch comes back from its written form. No conditions. The reader of layer 13: its patch in memory, and what each step makes of it. No conditions. The program's reader, whole. Conditions: texts of at most 500000 bytes and 16388 line feeds; the table of powers. A made patch as a text: its size and its line feeds; made of the laws of layer 13. Conditions: short blobs; the table of powers. Sizes of what the reference's reader reads. No conditions. A made patch: its lines, positions and texts. Conditions: short blobs. How long what hunks make of a text is, and what a loop over the hunks holds. Plain mathematics; no conditions. The program's read and Fits of layer 14. Conditions: a patch of at most a million hunks and lines, with short texts; blobs of at most 2^22 bytes; the table of powers. The program's Apply of layer 14. Conditions: a patch of at most a million hunks and half a million lines, texts of at most 2^22 bytes; blobs of at most 2^22 bytes; the table of powers. What the laws of layer 14 share: patches that are small, the program's calls on them, the sanity check, pick. Condition: the table of powers. The walk of the law PatchMakes of layer 14. Condition: the table of powers. The walk of the law PatchTwice of layer 14. Condition: the table of powers.
-/
import Derived.Test.YtjecfmbecgpbmaaGreatDoorGGUniFmt
import Derived.Test.YtjecfmbecgpbmaaGreatDoorGTextMath
import Derived.Lib.ItoaNum
import Derived.Test.YtjecfmbecgpbmaaGreatDoorScanRange
import Derived.Test.YtjecfmbecgpbmaaGreatDoorShelfS
import Derived.Test.YtjecfmbecgpbmaaGreatDoorShelf
import Derived.Test.YtjecfmbecgpbmaaGreatDoorTextJoin
import Derived.Test.YtjecfmbecgpbmaaGreatDoorTextCollect
import Derived.Test.YtjecfmbecgpbmaaGreatDoorGTextBase
import Derived.Test.YtjecfmbecgpbmaaGreatDoorUniMake
import Derived.Test.YtjecfmbecgpbmaaGreatDoorGScanUnqB
import Derived.Deep.AppendLies
import Derived.MapKept
import Derived.ChangeMaps4
import Derived.Test.YtjecfmbecgpbmaaGreatDoorUniRMk
import Derived.Test.YtjecfmbecgpbmaaGreatDoorUniMakes
import Derived.Test.YtjecfmbecgpbmaaGreatDoorScrSpoil
import Derived.Test.YtjecfmbecgpbmaaGreatDoorGPatB
import Derived.Test.YtjecfmbecgpbmaaGreatDoorGUniCheck
namespace Go.Proofs.YtjecfmbecgpbmaaGreatDoor
section
section
namespace Sc
end Sc
namespace Tx
end Tx
namespace Uf
end Uf
namespace St
open Sc Uf
open Tx (endedF bareF linesF bs_len mk_bs bs_mk bs_append)
abbrev bs := Tx.bs
/-- The lines of a text, without their line feeds. -/
def lnsS (s : List UInt8) : Option (List (List UInt8)) := if s = [] then some [] else if endedF s = true then some ((linesF s).map bareF) else none
theorem ended_lf (l : List UInt8) : endedF (l ++ [10]) = true := by unfold endedF; simp
theorem bare_lf (l : List UInt8) : bareF (l ++ [10]) = l := by unfold bareF; rw [if_pos (ended_lf l), List.dropLast_concat]
def lf (l : List UInt8) : List UInt8 := l ++ [10]
theorem lines_of : ∀ (ls : List (List UInt8)), (∀ l ∈ ls, (10 : UInt8) ∉ l) → linesF (ls.flatMap lf) = ls.map lf
  | [], _ => rfl
  | l :: ls, h => by
    rw [List.flatMap_cons, List.map_cons]
    have e : lf l ++ ls.flatMap lf = l ++ 10 :: ls.flatMap lf := by unfold lf; simp
    rw [e, Tx.linesF_cons _ _ (h l List.mem_cons_self), lines_of ls (fun x hx => h x (List.mem_cons_of_mem _ hx))]
    rfl
theorem flat_ended : ∀ (ls : List (List UInt8)), ls ≠ [] → endedF (ls.flatMap lf) = true
  | [], h => absurd rfl h
  | [l], _ => by simp only [List.flatMap_cons, List.flatMap_nil, List.append_nil]; exact ended_lf l
  | l :: m :: ls, _ => by
    have h := flat_ended (m :: ls) (by simp)
    rw [List.flatMap_cons]
    unfold endedF at h ⊢
    rw [List.getLast?_append]
    cases hg : (List.flatMap lf (m :: ls)).getLast? with
    | none => rw [hg] at h; exact absurd h (by decide)
    | some b => rw [hg] at h; exact h
theorem lnsS_of (ls : List (List UInt8)) (h : ∀ l ∈ ls, (10 : UInt8) ∉ l) : lnsS (ls.flatMap lf) = some ls := by
  unfold lnsS
  cases ls with
  | nil => rfl
  | cons l r =>
    rw [if_neg (by rw [List.flatMap_cons]; unfold lf; simp), if_pos (flat_ended _ (by simp)), lines_of _ h, List.map_map]
    congr 1
    exact (List.map_congr_left (fun x _ => bare_lf x)).trans (List.map_id' _)
/-! ### the written form, line by line -/
def mk0 : List UInt8 := [92, 32, 78, 111, 32, 110, 101, 119, 108, 105, 110, 101, 32, 97, 116, 32, 101, 110, 100, 32, 111, 102, 32, 102, 105, 108, 101]
def wlLn (l : Ln) : List (List UInt8) := (l.kind.toNat.toUInt8 :: bareF (bs l.text)) :: (if endedF (bs l.text) = true then [] else [mk0])
def hd0 (h : PH) : List UInt8 := [64, 64, 32, 45] ++ fmtR h.old (notK 43 h.lines).length ++ [32, 43] ++ fmtR h.new (notK 45 h.lines).length ++ [32, 64, 64]
def wlHk (h : PH) : List (List UInt8) := hd0 h :: h.lines.flatMap wlLn
def wlN (p : Pat) : List (List UInt8) := [[45, 45, 45, 32] ++ quoteF (bs p.on), [43, 43, 43, 32] ++ quoteF (bs p.nn)]
def wl (p : Pat) : List (List UInt8) := wlN p ++ p.hunks.flatMap wlHk
theorem joinL_app (a b : List ByteArray) : joinL (a ++ b) = joinL a ++ joinL b := by unfold joinL; simp
theorem wlLn_flat (l : Ln) : (wlLn l).flatMap lf = joinL (lnPt l) := by
  unfold wlLn lnPt joinL
  by_cases h : endedF (bs l.text) = true
  · have e : bareF (bs l.text) ++ [10] = bs l.text := by
      unfold bareF; rw [if_pos h]; exact (Tx.endedF_split _ h).symm
    rw [if_pos h, if_pos h]
    simp only [List.flatMap_cons, List.flatMap_nil, List.append_nil, lf, List.cons_append, e]
    rfl
  · have e : bareF (bs l.text) = bs l.text := by unfold bareF; rw [if_neg h]
    rw [if_neg h, if_neg h]
    simp only [List.flatMap_cons, List.flatMap_nil, List.append_nil, lf, List.cons_append, e]
    show l.kind.toNat.toUInt8 :: (bs l.text ++ [10] ++ (mk0 ++ [10])) = l.kind.toNat.toUInt8 :: (bs l.text ++ bs unB)
    rw [List.append_assoc]
    rfl
theorem wlLs_flat : ∀ ls : List Ln, (ls.flatMap wlLn).flatMap lf = joinL (lnsPt ls)
  | [] => rfl
  | l :: ls => by
    have e : lnsPt (l :: ls) = lnPt l ++ lnsPt ls := by unfold lnsPt; rw [List.flatMap_cons]
    rw [List.flatMap_cons, List.flatMap_append, wlLs_flat ls, wlLn_flat, e, joinL_app]
theorem wlHk_flat (h : PH) : (wlHk h).flatMap lf = joinL (hkPt h) := by
  have e : joinL (hkPt h) = bs (hkB h) ++ joinL (lnsPt h.lines) := by unfold hkPt joinL; rw [List.flatMap_cons]
  have e2 : lf (hd0 h) = bs (hkB h) := by
    unfold hkB lf hd0
    show _ = Tx.bs _
    rw [Tx.bs_mk]
    unfold hdrF
    simp
  rw [e, wlHk, List.flatMap_cons, wlLs_flat, e2]
theorem wlHs_flat : ∀ hs : List PH, (hs.flatMap wlHk).flatMap lf = joinL (hs.flatMap hkPt)
  | [] => rfl
  | h :: hs => by rw [List.flatMap_cons, List.flatMap_cons, List.flatMap_append, wlHs_flat hs, wlHk_flat, joinL_app]
theorem wl_flat (p : Pat) : (wl p).flatMap lf = joinL (partsF p) := by
  have e : joinL (partsF p) = bs (hdPt p.on p.nn) ++ joinL (p.hunks.flatMap hkPt) := by unfold partsF joinL; rw [List.flatMap_cons]
  rw [e, wl, List.flatMap_append, wlHs_flat]
  congr 1
  unfold wlN lf hdPt
  show _ = Tx.bs _
  rw [bs_append, bs_append, bs_append, bs_append]
  unfold qB
  rw [Tx.bs_mk, Tx.bs_mk, Tx.bs_mk, Tx.bs_mk, Tx.bs_mk]
  simp
/-! ### a range is read back from the middle of a text -/
/-! ### the program's reader -/
def bareB (t : ByteArray) : ByteArray := ⟨(bareF (bs t)).toArray⟩
def p0 : Pat := ⟨⟨#[]⟩, ⟨#[]⟩, []⟩
def okLn (l : Ln) : Prop := (l.kind = 32 ∨ l.kind = 45 ∨ l.kind = 43) ∧ Tx.isLine (bs l.text) = true
theorem okLn_of {l : Ln} (h : lnB l = true) : okLn l := by
  unfold lnB at h
  simp only [Bool.and_eq_true, Bool.or_eq_true, beq_iff_eq] at h
  exact ⟨by omega, h.2⟩
/-- What a valid hunk keeps. -/
def okHk (h : PH) : Prop := (0 ≤ h.old ∧ h.old ≤ 4096) ∧ (0 ≤ h.new ∧ h.new ≤ 4096) ∧ (notK 43 h.lines).length ≤ 4096 ∧ (notK 45 h.lines).length ≤ 4096 ∧ ∀ l ∈ h.lines, okLn l
/-- What a valid patch keeps. -/
structure okPat (p : Pat) : Prop where
  on : p.on.size ≠ 0
  nn : p.nn.size ≠ 0
  hk : ∀ h ∈ p.hunks, okHk h
theorem goodH_hk : ∀ {hs : List PH} {i j : Int}, 0 ≤ i → 0 ≤ j → goodH i j hs = true → ∀ h ∈ hs, okHk h
  | [], _, _, _, _, _, h, hh => by cases hh
  | a :: hs, i, j, hi, hj, e, h, hh => by
    rw [goodH] at e
    simp only [Bool.and_eq_true] at e
    obtain ⟨e1, -, e3, e4, e5⟩ := e
    unfold posB at e3
    simp only [Bool.not_eq_true', Bool.or_eq_false_iff, decide_eq_false_iff_not] at e3
    unfold roomB at e4
    simp only [Bool.and_eq_true, decide_eq_true_eq] at e4
    have l1 : ∀ k, (notB k a.lines).length = (notK k a.lines).length := fun k => by unfold notB; rw [List.length_map]
    rw [l1, l1] at e4 e5
    rcases List.mem_cons.1 hh with rfl | hh
    · exact ⟨by omega, by omega, by omega, by omega, fun l hl => okLn_of (List.all_eq_true.1 e1 l hl)⟩
    · exact goodH_hk (by omega) (by omega) e5 h hh
theorem okPat_of {p : Pat} (h : chkC p = 0) : okPat p := by
  unfold chkC at h
  split at h
  · rename_i hn
    split at h
    · rename_i hh
      have h1 := hn.1
      have h2 := hn.2
      unfold nameB at h1 h2
      rw [decide_eq_true_iff] at h1 h2
      rw [hks_ref, Bool.and_eq_true] at hh
      exact ⟨by omega, by omega, goodH_hk (Int.le_refl _) (Int.le_refl _) hh.1⟩
    · cases h
  · cases h
end St
end
section
namespace Cm
end Cm
namespace Hn
end Hn
namespace Sc
end Sc
namespace Uf
end Uf
open Go.RowKit
namespace St
open Uf Cm Hn
open Sc (flatK ownK_below app_k flatK_snoc)
abbrev tRdr : TypeId := 136
/-- Hunks that the reader owns; no two of them share their lines. -/
def HksI (base : Nat) (w : World) (v : Value) (hs : List PH) : Prop :=
  ∃ zs : List HV, w.ownsRow base tPh 3 v zs.length (flatK hunkC zs) ∧ zs.length = hs.length ∧ (∀ j (a : j < zs.length) (b : j < hs.length), zs[j].old = hs[j].old ∧ zs[j].new = hs[j].new ∧ OwnL base w zs[j].u hs[j].lines) ∧
    ∀ i j (_ : i < j) (b : j < zs.length), (zs[i]'(by omega)).u.ownBlock = none ∨ (zs[i]'(by omega)).u.ownBlock ≠ zs[j].u.ownBlock
/-- The reader: its patch lies in the first block beyond w0. -/
structure RdI (w0 wr : World) (p : Pat) : Prop where
  bel : Below w0.heap.size w0 wr
  box : ∃ v, Blk wr w0.heap.size tRdr [.string p.on, .string p.nn, v] ∧ HksI (w0.heap.size + 1) wr v p.hunks
end St
end
section
namespace Cm
end Cm
namespace Hn
end Hn
namespace Sc
end Sc
namespace Tx
end Tx
namespace Uf
end Uf
open Go.RowKit
namespace St
open Uf Cm Hn
open Go.MapKept
open Sc (Pow)
open Tx (RdS mks)
theorem n5 {k n : UInt8} (h : ¬ k = n) : (k.toNat : Int) ≠ (n.toNat : Int) := fun e => h (UInt8.toNat_inj.1 (by omega))
end St
end
section
section
namespace Cm
end Cm
namespace Hn
end Hn
namespace Sc
end Sc
namespace Uf
end Uf
open Go.RowKit
namespace St
open Uf Cm Hn
open Sc (Pow)
/-- A made patch is short. -/
theorem mk_small {ctx : Int} (hc : 0 ≤ ctx) {s t : ByteArray} (hs : s.size ≤ 36) (ht : t.size ≤ 180) (down : Bool) {on nn : ByteArray} (h1 : nameB on = true) (h2 : nameB nn = true) :
    szL (partsF ⟨on, nn, patH (Sh.lnB s) (Sh.lnB t) ctx (scrD down s t)⟩) ≤ 100000 ∧ (wrAll ⟨on, nn, patH (Sh.lnB s) (Sh.lnB t) ctx (scrD down s t)⟩).length ≤ 1000 := by
  have hL := scrD_lf (s := s) (t := t) (by omega) (by omega) down
  have hP := ph_group hc hL
  have a := Sh.lnB_len s
  have b := Sh.lnB_len t
  obtain ⟨s1, s2⟩ := ph_sub hP
  rw [List.drop_zero] at s1 s2
  have l1 : (allB 43 (patH (Sh.lnB s) (Sh.lnB t) ctx (scrD down s t))).length ≤ 36 := by
    have := s1.length_le
    rw [List.length_map] at this
    exact Nat.le_trans this (by omega)
  have l2 : (allB 45 (patH (Sh.lnB s) (Sh.lnB t) ctx (scrD down s t))).length ≤ 180 := by
    have := s2.length_le
    rw [List.length_map] at this
    exact Nat.le_trans this (by omega)
  obtain ⟨f1, f2⟩ := ph_few hP
  have hn : (patH (Sh.lnB s) (Sh.lnB t) ctx (scrD down s t)).length ≤ 220 := by
    unfold patH
    rw [List.length_map]
    have hk := hL.num
    omega
  have hB : ∀ h ∈ patH (Sh.lnB s) (Sh.lnB t) ctx (scrD down s t), ∀ ln ∈ h.lines, ln.text.size ≤ 180 := by
    intro h hh
    unfold patH at hh
    obtain ⟨k, hk, rfl⟩ := List.mem_map.1 hh
    obtain ⟨m, hm, rfl⟩ := List.mem_iff_getElem.1 hk
    obtain ⟨p, k, oF, nF, oT, nT, e, _, _, hlf⟩ := ph_at hP m hm
    rw [e, mkPH_nat]
    intro ln hln
    rcases (hlf.texts ln hln).1 with h3 | h3
    · exact Nat.le_trans (Sh.lnB_size s _ h3) (by omega)
    · exact Nat.le_trans (Sh.lnB_size t _ h3) ht
  generalize patH (Sh.lnB s) (Sh.lnB t) ctx (scrD down s t) = hks at *
  have z1 := szL_hks (B := 180) hB
  constructor
  · unfold partsF
    rw [szL_cons]
    have n1 := name_sz h1
    have n2 := name_sz h2
    have q1 := qB_size on
    have q2 := qB_size nn
    have e : (hdPt on nn).size = 4 + (qB on).size + 5 + (qB nn).size + 1 := by
      unfold hdPt
      simp only [ByteArray.size_append]
      rfl
    simp only
    rw [e]
    have : ((allB 43 hks).length + (allB 45 hks).length) * (180 + 30) ≤ 216 * 210 := Nat.mul_le_mul (by omega) (Nat.le_refl _)
    omega
  · unfold wrAll wrHd
    have := wr_hks hks
    simp only [List.length_append, List.length_cons, List.length_nil]
    omega
end St
end
section
namespace Sc
end Sc
namespace Uf
end Uf
namespace St
open Sc Uf
def nL (hs : List PH) : Nat := (hs.map fun h => h.lines.length).sum
def tL (ls : List Ln) : Nat := (ls.map fun l => l.text.size).sum
def tS (hs : List PH) : Nat := (hs.map fun h => tL h.lines).sum
theorem le_sum : ∀ {l : List Nat} {x : Nat}, x ∈ l → x ≤ l.sum
  | a :: l, x, h => by
    rw [List.sum_cons]
    rcases List.mem_cons.1 h with rfl | h
    · omega
    · have := le_sum h
      omega
theorem le_nL {hs : List PH} {h : PH} (hh : h ∈ hs) : h.lines.length ≤ nL hs := le_sum (List.mem_map_of_mem (f := fun h : PH => h.lines.length) hh)
end St
end
section
namespace Cm
end Cm
namespace Hn
end Hn
namespace Sc
end Sc
namespace Uf
end Uf
open Go.RowKit
namespace St
open Uf Cm Sc Hn
theorem wr_ge : ∀ hs : List PH, hs.length + nL hs ≤ (hs.flatMap wrHk).length
  | [] => Nat.le_refl _
  | h :: hs => by
    have ih := wr_ge hs
    have hl : ∀ ls : List Ln, ls.length ≤ (ls.flatMap wrLn).length := by
      intro ls
      induction ls with
      | nil => exact Nat.le_refl _
      | cons l r ih =>
        rw [List.flatMap_cons, List.length_append, List.length_cons]
        have : 1 ≤ (wrLn l).length := by unfold wrLn; simp
        omega
    rw [List.flatMap_cons, List.length_append]
    have h2 : (wrHk h).length = 1 + (h.lines.flatMap wrLn).length := by unfold wrHk; rw [List.length_cons]; omega
    have h3 := hl h.lines
    unfold nL at ih ⊢
    simp only [List.map_cons, List.sum_cons, List.length_cons]
    omega
end St
end
end
end
section
section
namespace Hn
end Hn
namespace Sc
end Sc
namespace Sl
end Sl
namespace St
end St
namespace Uf
end Uf
namespace Pa
open Uf Sc Hn Sl
open St (nL tL tS)
def totS (l : List ByteArray) : Nat := (l.map (·.size)).sum
theorem totS_app (a b : List ByteArray) : totS (a ++ b) = totS a + totS b := by unfold totS; rw [List.map_append, List.sum_append]
theorem totS_cons (a : ByteArray) (l : List ByteArray) : totS (a :: l) = a.size + totS l := by unfold totS; simp
theorem totS_total : ∀ l : List ByteArray, Tx.total l = totS l
  | [] => rfl
  | a :: l => by
    have ih := totS_total l
    unfold Tx.total at ih ⊢
    rw [totS_cons, ← ih]
    simp only [Tx.bss, List.map_cons, List.flatten_cons, List.length_append]
    rw [show (Tx.bs a).length = a.size from rfl]
theorem totS_drop (l : List ByteArray) (i k : Nat) (h : i ≤ k) : totS (l.drop k) ≤ totS (l.drop i) := by
  have e : l.drop k = (l.drop i).drop (k - i) := by rw [List.drop_drop, show i + (k - i) = k from by omega]
  rw [e]
  conv => rhs; rw [← List.take_append_drop (k - i) (l.drop i)]
  rw [totS_app]; omega
theorem notK_len (k : Int) (ls : List Ln) : (notK k ls).length ≤ ls.length := by
  unfold notK
  rw [List.length_map]
  exact List.length_filter_le _ _
theorem notK_tot (k : Int) : ∀ ls : List Ln, totS (notK k ls) ≤ tL ls
  | [] => Nat.le_refl _
  | l :: ls => by
    have ih := notK_tot k ls
    have e : tL (l :: ls) = l.text.size + tL ls := by unfold tL; simp
    rw [e]
    unfold notK at ih ⊢
    by_cases h : l.kind = k
    · rw [List.filter_cons_of_neg (by simpa using h)]; omega
    · rw [List.filter_cons_of_pos (by simpa using h), List.map_cons, totS_cons]; omega
theorem cut_le (xs : List ByteArray) (i o : Nat) : (cut xs i o).length ≤ min o xs.length - i := by
  unfold cut
  rw [List.length_take, List.length_drop]
  omega
theorem app_len {xs : List ByteArray} : ∀ {hs : List PH} {i j : Nat}, geo i j hs → (appT xs i hs).length ≤ (xs.length - i) + nL hs
  | [], i, _, _ => by unfold appT; rw [List.length_drop]; omega
  | h :: hs, i, j, ⟨o, n, e1, e2, h1, h2, h3, h4⟩ => by
    have ih := app_len (xs := xs) h4
    have c := cut_le xs i o
    have c2 := notK_len 45 h.lines
    have e : nL (h :: hs) = h.lines.length + nL hs := by unfold nL; simp
    rw [appT, e1, Int.toNat_natCast, List.length_append, List.length_append, e]
    unfold newT
    omega
theorem app_tot {xs : List ByteArray} : ∀ {hs : List PH} {i j : Nat}, geo i j hs → totS (appT xs i hs) ≤ totS (xs.drop i) + tS hs
  | [], i, _, _ => by unfold appT; omega
  | h :: hs, i, j, ⟨o, n, e1, e2, h1, h2, h3, h4⟩ => by
    have ih := app_tot (xs := xs) h4
    have c2 := notK_tot 45 h.lines
    have e : tS (h :: hs) = tL h.lines + tS hs := by unfold tS; simp
    have c3 := totS_drop xs o (o + (oldT h).length) (by omega)
    have c4 := congrArg totS (cut_drop xs h1)
    rw [totS_app] at c4
    rw [appT, e1, Int.toNat_natCast, totS_app, totS_app, e]
    unfold newT
    omega
theorem totS_lnB (s : ByteArray) : totS (Sh.lnB s) = s.size := by
  rw [← totS_total]
  unfold Tx.total
  have h := lnB_flat s
  unfold Tx.bss
  rw [h]
  rfl
/-- What the result may be: its lines are few, and short together. -/
theorem app_small {p : Pat} {s : ByteArray} (hc : chkC p = 0) : (appT (Sh.lnB s) 0 p.hunks).length ≤ (Sh.lnB s).length + nL p.hunks ∧ totS (appT (Sh.lnB s) 0 p.hunks) ≤ s.size + tS p.hunks := by
  have h1 := app_len (xs := Sh.lnB s) (chkC_geo hc)
  have h2 := app_tot (xs := Sh.lnB s) (chkC_geo hc)
  rw [List.drop_zero, totS_lnB] at h2
  exact ⟨by omega, h2⟩
/-- Where a loop over the hunks stands behind j of them, all of which the text has. -/
def At (xs : List ByteArray) (hs : List PH) (j : Nat) (acc : List ByteArray) (i : Nat) : Prop :=
  fitN xs hs = j + fitN xs (hs.drop j) ∧ acc ++ appT xs i (hs.drop j) = appT xs 0 hs ∧ (∃ n, geo i n (hs.drop j)) ∧ i ≤ xs.length
theorem At.zero {xs : List ByteArray} {hs : List PH} {n : Nat} (h : geo 0 n hs) : At xs hs 0 [] 0 := ⟨by simp, by simp, ⟨n, h⟩, Nat.zero_le _⟩
theorem At.len {xs : List ByteArray} {hs : List PH} {j : Nat} {acc : List ByteArray} {i : Nat} (h : At xs hs j acc i) : acc.length ≤ (appT xs 0 hs).length := by
  have := congrArg List.length h.2.1
  rw [List.length_append] at this
  omega
theorem At.place {xs : List ByteArray} {hs : List PH} {j : Nat} {acc : List ByteArray} {i : Nat} (h : At xs hs j acc i) (hj : j < hs.length) : ∃ o : Nat, hs[j].old = o ∧ i ≤ o := by
  obtain ⟨_, _, ⟨n, h3⟩, _⟩ := h
  rw [List.drop_eq_getElem_cons hj] at h3
  obtain ⟨o, n', e1, _, e3, _⟩ := h3
  exact ⟨o, e1, e3⟩
theorem At.no {xs : List ByteArray} {hs : List PH} {j : Nat} {acc : List ByteArray} {i : Nat} (h : At xs hs j acc i) (hj : j < hs.length) (hf : ¬ fitH xs hs[j]) : fitN xs hs = j := by
  obtain ⟨h1, _⟩ := h
  rw [List.drop_eq_getElem_cons hj, fitN, if_neg hf] at h1
  omega
theorem At.step {xs : List ByteArray} {hs : List PH} {j : Nat} {acc : List ByteArray} {i : Nat} (h : At xs hs j acc i) (hj : j < hs.length) (hf : fitH xs hs[j]) : At xs hs (j + 1) (acc ++ cut xs i hs[j].old.toNat ++ newT hs[j]) (hs[j].old.toNat + (oldT hs[j]).length) := by
  obtain ⟨h1, h2, ⟨n, h3⟩, h4⟩ := h
  rw [List.drop_eq_getElem_cons hj] at h1 h2 h3
  rw [fitN, if_pos hf] at h1
  obtain ⟨o, n', e1, e2, e3, e4, e5, e6⟩ := h3
  refine ⟨by omega, ?_, ⟨n' + (newT hs[j]).length, by rw [e1, Int.toNat_natCast]; exact e6⟩, hf.1⟩
  rw [← h2, appT]
  simp only [List.append_assoc]
theorem At.stop {xs : List ByteArray} {hs : List PH} {acc : List ByteArray} {i : Nat} (h : At xs hs hs.length acc i) : fitN xs hs = hs.length ∧ acc ++ xs.drop i = appT xs 0 hs := by
  obtain ⟨h1, h2, _, _⟩ := h
  rw [List.drop_length] at h1 h2
  exact ⟨h1, h2⟩
/-- The answer of Apply, when all hunks fit. -/
theorem app_joined {p : Pat} {s : ByteArray} (h1 : chkC p = 0) (h2 : Tx.checkF (Tx.bs s) = 0) (h3 : fitN (Sh.lnB s) p.hunks = p.hunks.length) :
    applyF p s = if Tx.isListF (Tx.bss (appT (Sh.lnB s) 0 p.hunks)) = false then (⟨#[]⟩, 140) else Tx.joinF (appT (Sh.lnB s) 0 p.hunks) := by
  unfold applyF Tx.joinF
  rw [fits_ok h1 h2, if_neg (fun q => q rfl), if_neg (by rw [h3]; exact Nat.lt_irrefl _)]
  have e : (allJ (appT (Sh.lnB s) 0 p.hunks)).size = Tx.total (appT (Sh.lnB s) 0 p.hunks) := by
    unfold allJ Tx.total
    exact Tx.size_mk _
  rw [e]
  split
  · rfl
  · rfl
theorem app_miss {p : Pat} {s : ByteArray} (h1 : chkC p = 0) (h2 : Tx.checkF (Tx.bs s) = 0) (h3 : fitN (Sh.lnB s) p.hunks < p.hunks.length) : applyF p s = (⟨#[]⟩, 140) := by
  unfold applyF
  rw [fits_ok h1 h2, if_neg (fun q => q rfl), if_pos h3]
theorem app_err {p : Pat} {s : ByteArray} (h : (fitsF p s).2 ≠ 0) : applyF p s = (⟨#[]⟩, (fitsF p s).2) := by
  unfold applyF
  rw [if_pos h]
theorem fits_bad {p : Pat} {s : ByteArray} (h : chkC p ≠ 0) : fitsF p s = (0, chkC p) := by unfold fitsF; rw [if_pos h]
theorem fits_big {p : Pat} {s : ByteArray} (h1 : chkC p = 0) (h : Tx.checkF (Tx.bs s) ≠ 0) : fitsF p s = (0, Tx.checkF (Tx.bs s)) := by unfold fitsF; rw [if_neg (fun q => q h1), if_pos h]
theorem fit_dec {xs : List ByteArray} {h : PH} {o : Nat} (ho : h.old = o) : decide (o + (oldT h).length ≤ xs.length ∧ cut xs o (o + (oldT h).length) = oldT h) = decide (fitH xs h) := by
  rw [decide_eq_decide]
  unfold fitH
  rw [ho, Int.toNat_natCast]
theorem fits_fst {p : Pat} {s : ByteArray} (h : (fitsF p s).2 ≠ 0) : (fitsF p s).1 = 0 := by
  by_cases h1 : chkC p = 0
  · by_cases h2 : Tx.checkF (Tx.bs s) = 0
    · rw [fits_ok h1 h2] at h; exact absurd rfl h
    · rw [fits_big h1 h2]
  · rw [fits_bad h1]
end Pa
end
section
namespace Cm
end Cm
namespace Hn
end Hn
namespace Sc
end Sc
namespace Tx
end Tx
namespace Uf
end Uf
open Go.RowKit
namespace Pa
open Cm Uf Hn
open Sc (RdK ownK_base ownK_below Pow)
open Tx (bs RdS strsV StrsPost)
/-- What read leaves: the lines, or an error. -/
def RePost (p : Pat) (s : ByteArray) (w : World) (e : Ending) (w' : World) : Prop := ∃ v, e = .returned (.tuple #[v, .int .i64 (fitsF p s).2]) ∧ ((fitsF p s).2 = 0 → RdS w' v (Sh.lnB s)) ∧ Below w.heap.size w w'
set_option maxRecDepth 100000 in
set_option maxHeartbeats 2000000 in
theorem read_any (p : Pat) (v : Value) (s : ByteArray) (w : World) (hr : RdP w v p.hunks) (hsm : PatSm p.hunks) (hs : s.size ≤ 4194304) (hp : Pow w) : Calls Tryz.prog 33 #[tPatV p v, .string s] w (RePost p s w) := by
  have HB0 := Lib.hid ((Below.refl w.heap.size w).alloc (Nat.le_refl _) (.cells #[.string p.on, .string p.nn, v] tPat))
  have hrd := hr.below HB0.out
  obtain ⟨A, c, rfl⟩ := hr.form
  have HCk := Lib.hid (Check_any p _ _ hrd hsm (hp.stays HB0.out))
  have HSp := Lib.hid (fun w => Tx.Split_any s w hs)
  unfold CkPost at HCk
  unfold Tx.SplitPost at HSp
  have HK : Hid (Blk (w.alloc (.cells #[.string p.on, .string p.nn, .slice A p.hunks.length c] tPat)) w.heap.size tPat [.string p.on, .string p.nn, .slice A p.hunks.length c]) := Lib.hid (heap_new w _)
  obtain ⟨k0, k1, k2, -, -⟩ := blk3 HK.out
  obtain ⟨W, hW⟩ : ∃ W, W = w.alloc (.cells #[.string p.on, .string p.nn, .slice A p.hunks.length c] tPat) := ⟨_, rfl⟩
  rw [← hW] at HB0 HCk HK k0 k1 k2
  clear hr hrd hsm hp
  by_cases hc : chkC p = 0
  · have HFin : Hid (∀ v' w', RdS w' v' (Tx.mks (if Tx.checkF (bs s) = 0 then Tx.linesF (bs s) else [])) → Below w.heap.size w w' → RePost p s w (.returned (.tuple #[v', .int .i64 (Tx.checkF (bs s))])) w') := Lib.hid (fun v' w' h1 h2 => by
      by_cases h0 : Tx.checkF (bs s) = 0
      · rw [if_pos h0] at h1
        refine ⟨v', by rw [fits_ok hc h0, h0], fun _ => h1, h2⟩
      · refine ⟨v', by rw [fits_big hc h0], fun h => ?_, h2⟩
        rw [fits_big hc h0] at h
        exact absurd h h0)
    rw [hc] at HCk
    clear hc
    generalize Tx.checkF (bs s) = z at *
    go_enter Tryz.func33, Tryz.ntmps33
    go_upto_region 1 with fail
    rw [← hW]
    clear hW
    go_wp2_with (first
      | (go_at_call 43; refine HCk.out.mono ?_; rintro e w1 ⟨rfl, hb⟩; have HB1 := Lib.hid (HB0.out.trans (hb.mono HB0.out.size)); clear hb)
      | (go_at_call 59; refine (HSp.out _).mono ?_; rintro e w2 ⟨v2, rfl, hr2, hb2⟩; have HB2 := Lib.hid (HB1.out.trans (hb2.mono HB1.out.size)); have HR2 := Lib.hid hr2; clear hb2 hr2))
    go_ret2
    exact HFin.out _ _ HR2.out HB2.out
  · have HFin : Hid (∀ w', Below w.heap.size w w' → RePost p s w (.returned (.tuple #[.slice none 0 0, .int .i64 (chkC p)])) w') := Lib.hid (fun w' h2 => ⟨_, by rw [fits_bad hc], fun h => by rw [fits_bad hc] at h; exact absurd h hc, h2⟩)
    have e1 : (chkC p != 0) = true := by rw [bne_iff_ne]; exact hc
    clear hc HSp
    generalize chkC p = z at *
    go_enter Tryz.func33, Tryz.ntmps33
    go_upto_region 1 with fail
    rw [← hW]
    clear hW
    go_wp2_with (go_at_call 43; refine HCk.out.mono ?_; rintro e w1 ⟨rfl, hb⟩; have HB1 := Lib.hid (HB0.out.trans (hb.mono HB0.out.size)); clear hb)
    go_ret2
    exact HFin.out _ HB1.out
/-- What Fits leaves. -/
def FiPost (p : Pat) (s : ByteArray) (w : World) (e : Ending) (w' : World) : Prop := e = .returned (.tuple #[.int .i64 (fitsF p s).1, .int .i64 (fitsF p s).2]) ∧ Below w.heap.size w w'
set_option maxRecDepth 100000 in
set_option maxHeartbeats 4000000 in
theorem Fits_any (p : Pat) (v : Value) (s : ByteArray) (w : World) (hr : RdP w v p.hunks) (hsm : PatSm p.hunks) (hs : s.size ≤ 4194304) (hp : Pow w) : Calls Tryz.prog 16 #[tPatV p v, .string s] w (FiPost p s w) := by
  have HB0 := Lib.hid ((Below.refl w.heap.size w).alloc (Nat.le_refl _) (.cells #[.string p.on, .string p.nn, v] tPat))
  have hrd := hr.below HB0.out
  obtain ⟨A, c, rfl⟩ := hr.form
  have HRe := Lib.hid (read_any p _ s _ hrd hsm hs (hp.stays HB0.out))
  unfold RePost at HRe
  have HR := Lib.hid (fun w' (hb : Below w.heap.size w w') => hr.below hb)
  have HK : Hid (Blk (w.alloc (.cells #[.string p.on, .string p.nn, .slice A p.hunks.length c] tPat)) w.heap.size tPat [.string p.on, .string p.nn, .slice A p.hunks.length c]) := Lib.hid (heap_new w _)
  obtain ⟨k0, k1, k2, -, -⟩ := blk3 HK.out
  obtain ⟨W, hW⟩ : ∃ W, W = w.alloc (.cells #[.string p.on, .string p.nn, .slice A p.hunks.length c] tPat) := ⟨_, rfl⟩
  rw [← hW] at HB0 HRe HK k0 k1 k2
  clear hr hrd hp hs
  by_cases h0 : (fitsF p s).2 = 0
  · obtain ⟨hc, hk⟩ := fits_err h0
    have hfz := fits_ok (p := p) (s := s) hc hk
    have hll : (Sh.lnB s).length ≤ 4096 := by rw [lnB_num]; exact (check_zero.1 hk).2
    have HPos := Lib.hid (fun h (hh : h ∈ p.hunks) => ((St.okPat_of hc).hk h hh).1)
    have HFin : Hid (∀ (n : Nat) w', fitN (Sh.lnB s) p.hunks = n → Below w.heap.size w w' → FiPost p s w (.returned (.tuple #[.int .i64 (n : Int), .int .i64 0])) w') := Lib.hid (fun n w' h1 h2 => ⟨by rw [hfz, h1], h2⟩)
    have HA0 : Hid (∃ acc i0, At (Sh.lnB s) p.hunks 0 acc i0) := Lib.hid ⟨[], 0, At.zero (chkC_geo hc)⟩
    have HSm := Lib.hid hsm.2
    have hfew := hsm.1
    rw [h0] at HRe
    clear h0 hc hk hfz hsm
    generalize Sh.lnB s = xs at *
    generalize hg : p.hunks = hs at *
    obtain ⟨N, hN⟩ : ∃ N, N = hs.length := ⟨_, rfl⟩
    have HN := Lib.hid hN.symm
    rw [← hN] at hfew HR HK k2 hW HRe ⊢
    clear hN hg
    go_enter Tryz.func16, Tryz.ntmps16
    go_upto_region 1 with fail
    rw [← hW]
    clear hW
    go_wp2_with fail
    refine HRe.out.mono ?_
    rintro e w1 ⟨lv, rfl, hlv, hb⟩
    have HB1 := Lib.hid (HB0.out.trans (hb.mono HB0.out.size))
    have HK1 := Lib.hid (HK.out.below hb)
    have hrl := hlv (by simp)
    have HL1 := Lib.hid (fun w' (hb : Below w1.heap.size w1 w') => hrl.below hb)
    obtain ⟨Al, cl, rfl, -, -⟩ := hrl
    obtain ⟨k0, k1, k2, -, -⟩ := blk3 HK1.out
    clear hb hlv HRe HK HB0
    generalize hX : xs.length = X at *
    have HX := Lib.hid hX
    clear hX
    go_wp2_with fail
    go_loopw [22] (fun i wr => ∃ j : Nat, j ≤ N ∧ i = .int .i64 j ∧ Hid (∃ acc i0, At xs hs j acc i0) ∧ Hid (Below w1.heap.size w1 wr)) (fun i _ => N - (intOf i).toNat)
    case atStart => exact ⟨0, Nat.zero_le _, rfl, HA0, Lib.hid (Below.refl _ _)⟩
    case round =>
      obtain ⟨j, hj, rfl, HAt, HB⟩ := hrel
      have HBw := Lib.hid (HB1.out.trans (HB.out.mono HB1.out.size))
      obtain ⟨k0, k1, k2, -, -⟩ := blk3 (HK1.out.below HB.out)
      by_cases hlt : j < N
      · have hx : j < hs.length := by rw [HN.out]; exact hlt
        obtain ⟨bl, off, Ah, ch, rfl, c0, c1, c2, hrh⟩ := RdP_at (HR.out wr HBw.out) j hx
        obtain ⟨acc, i0, hAt⟩ := HAt.out
        obtain ⟨o, ho, hio⟩ := hAt.place hx
        have hpos := HPos.out _ (List.getElem_mem hx)
        have HNo := Lib.hid (fun hf => hAt.no hx hf)
        have HSt : Hid (fitH xs hs[j] → ∃ acc i0, At xs hs (j + 1) acc i0) := Lib.hid (fun hf => ⟨_, _, hAt.step hx hf⟩)
        have hls := (HSm.out _ (List.getElem_mem hx)).1
        have hol : (oldT hs[j]).length ≤ 1000000 := Nat.le_trans (notK_len 43 _) hls
        have HfD : Hid (decide (o + (oldT hs[j]).length ≤ xs.length ∧ cut xs o (o + (oldT hs[j]).length) = oldT hs[j]) = decide (fitH xs hs[j])) := Lib.hid (fit_dec ho)
        have HOl : Hid (Tx.mks (notB 43 hs[j].lines) = oldT hs[j]) := Lib.hid (by unfold notB oldT; exact Tx.mks_bs _)
        have ho2 : o ≤ 4096 := by rw [ho] at hpos; omega
        clear hAt HAt hio hpos
        rw [ho] at c0
        clear ho
        generalize hs[j] = h at *
        obtain ⟨ho', hn, ls⟩ := h
        simp only at c0 c1 c2 hrh hls
        generalize hM : ls.length = M at *
        have i1 : (0 : Int) ≤ (j : Int) := by omega
        have i2 : (j : Int) < (N : Int) := by omega
        have HHx := Lib.hid ((Below.refl wr.heap.size wr).alloc (Nat.le_refl _) (.cells #[.int .i64 (o : Int), .int .i64 hn, .slice Ah M ch] tPh))
        have HHb : Hid (Blk (wr.alloc (.cells #[.int .i64 (o : Int), .int .i64 hn, .slice Ah M ch] tPh)) wr.heap.size tPh [.int .i64 (o : Int), .int .i64 hn, .slice Ah M ch]) := Lib.hid (heap_new wr _)
        obtain ⟨W1, hW1⟩ : ∃ W1, W1 = wr.alloc (.cells #[.int .i64 (o : Int), .int .i64 hn, .slice Ah M ch] tPh) := ⟨_, rfl⟩
        rw [← hW1] at HHx HHb
        have HB2 := Lib.hid (HB.out.trans (HHx.out.mono HB.out.size))
        have HRh := Lib.hid (fun V (hV : Below W1.heap.size W1 V) => (hrh.below HHx.out).below hV)
        have HLx := Lib.hid (fun V (hV : Below W1.heap.size W1 V) => HL1.out V (HB2.out.trans (hV.mono HB2.out.size)))
        have HWi : Hid (∀ V, Below W1.heap.size W1 V → Calls Tryz.prog 34 #[.int .u8 43, .agg #[.int .i64 (o : Int), .int .i64 hn, .slice Ah M ch]] V (StrsPost V (notB 43 ls))) := Lib.hid (fun V hV => without_any (o : Int) hn _ ls 43 V (HRh.out V hV) (by omega))
        have HHa : Hid (∀ V u, Below W1.heap.size W1 V → RdS V u (oldT ⟨ho', hn, ls⟩) → Calls Tryz.prog 35 #[.slice Al X cl, .int .i64 (o : Int), u] V fun e w' => e = .returned (.bool (decide (fitH xs ⟨ho', hn, ls⟩))) ∧ Below V.heap.size V w') := Lib.hid (fun V u hV hu => by
          have := hasAt_any (.slice Al X cl) u xs (oldT ⟨ho', hn, ls⟩) o V (HLx.out V hV) hu (by have := HX.out; omega) hol (by omega)
          rw [HfD.out] at this
          exact this)
        have HS1 : Hid (∀ V, Below W1.heap.size W1 V → V.cell? ⟨wr.heap.size, 0, none⟩ = some (.int .i64 (o : Int)) ∧ V.cell? ⟨wr.heap.size, 1, none⟩ = some (.int .i64 hn) ∧ V.cell? ⟨wr.heap.size, 2, none⟩ = some (.slice Ah M ch)) := Lib.hid (fun V hV => by
          obtain ⟨a, b, c, -, -⟩ := blk3 (HHb.out.below hV)
          exact ⟨a, b, c⟩)
        have HBr : Hid (Below W1.heap.size W1 W1.drew) := Lib.hid (Below.refl _ W1).drew
        clear HfD hrh HHx HHb HR HSm HPos
        generalize oldT ⟨ho', hn, ls⟩ = ol at *
        cases hf : decide (fitH xs ⟨ho', hn, ls⟩) with
        | true =>
          have HS2 := Lib.hid (HSt.out (of_decide_eq_true hf))
          rw [hf] at HHa
          clear hf HSt HNo
          go_upto_region 7 with fail
          rw [← hW1]
          clear hW1 c0 c1 c2 k0 k1 k2
          go_region_held3 (fun V => V.cell? ⟨wr.heap.size, 0, none⟩ = some (.int .i64 (o : Int)) ∧ V.cell? ⟨wr.heap.size, 1, none⟩ = some (.int .i64 hn) ∧ V.cell? ⟨wr.heap.size, 2, none⟩ = some (.slice Ah M ch))
            (exact HS1.out _ HBr.out)
            (first
              | (go_at_call 34; refine (HWi.out _ HBr.out).mono ?_; rintro e w' ⟨u, rfl, hu, hb⟩; have HU := Lib.hid (Tx.RdS.of_own hu); rw [HOl.out] at HU; obtain ⟨Au, cu, rfl, -, -⟩ := id HU.out; have HBr := Lib.hid (HBr.out.trans (hb.mono HBr.out.size)); clear hb hu)
              | (go_at_call 35; refine (HHa.out _ _ HBr.out HU.out).mono ?_; rintro e w' ⟨rfl, hb⟩; have HBr := Lib.hid (HBr.out.trans (hb.mono HBr.out.size)); clear hb))
          all_goals
            go_wp2_with fail
            go_roundw
            case rel => exact ⟨j + 1, by omega, by go_num, HS2, Lib.hid (HB2.out.trans (HBr.out.mono HB2.out.size))⟩
            case measure => simp [intOf]; omega
        | false =>
          have HS2 := Lib.hid (HNo.out (of_decide_eq_false hf))
          rw [hf] at HHa
          clear hf HSt HNo
          go_upto_region 7 with fail
          rw [← hW1]
          clear hW1 c0 c1 c2 k0 k1 k2
          go_region_held3 (fun V => V.cell? ⟨wr.heap.size, 0, none⟩ = some (.int .i64 (o : Int)) ∧ V.cell? ⟨wr.heap.size, 1, none⟩ = some (.int .i64 hn) ∧ V.cell? ⟨wr.heap.size, 2, none⟩ = some (.slice Ah M ch))
            (exact HS1.out _ HBr.out)
            (first
              | (go_at_call 34; refine (HWi.out _ HBr.out).mono ?_; rintro e w' ⟨u, rfl, hu, hb⟩; have HU := Lib.hid (Tx.RdS.of_own hu); rw [HOl.out] at HU; obtain ⟨Au, cu, rfl, -, -⟩ := id HU.out; have HBr := Lib.hid (HBr.out.trans (hb.mono HBr.out.size)); clear hb hu)
              | (go_at_call 35; refine (HHa.out _ _ HBr.out HU.out).mono ?_; rintro e w' ⟨rfl, hb⟩; have HBr := Lib.hid (HBr.out.trans (hb.mono HBr.out.size)); clear hb))
          all_goals
            go_wp2_with fail
            go_ret2
            exact HFin.out _ _ HS2.out (HB1.out.trans ((HB2.out.trans (HBr.out.mono HB2.out.size)).mono HB1.out.size))
      · obtain rfl : j = N := by omega
        have HS2 : Hid (fitN xs hs = j) := Lib.hid (by
          obtain ⟨acc, i0, hAt⟩ := HAt.out
          rw [← HN.out] at hAt ⊢
          exact hAt.stop.1)
        go_wp2_with fail
        go_ret2
        exact HFin.out _ _ HS2.out HBw.out
  · have h1 : (fitsF p s).1 = 0 := fits_fst h0
    have HFin : Hid (∀ w', Below w.heap.size w w' → FiPost p s w (.returned (.tuple #[.int .i64 0, .int .i64 (fitsF p s).2])) w') := Lib.hid (fun w' h2 => ⟨by rw [h1], h2⟩)
    have e1 : ((fitsF p s).2 != 0) = true := by rw [bne_iff_ne]; exact h0
    clear h0 h1 hsm
    generalize (fitsF p s).2 = z at *
    go_enter Tryz.func16, Tryz.ntmps16
    go_upto_region 1 with fail
    rw [← hW]
    clear hW
    go_wp2_with fail
    refine HRe.out.mono ?_
    rintro e w1 ⟨lv, rfl, -, hb⟩
    have HB1 := Lib.hid (HB0.out.trans (hb.mono HB0.out.size))
    clear hb
    go_wp2_with fail
    go_ret2
    exact HFin.out _ HB1.out
end Pa
end
section
namespace Cm
end Cm
namespace Hn
end Hn
namespace Sc
end Sc
namespace St
end St
namespace Tx
end Tx
namespace Uf
end Uf
open Go.RowKit
namespace Pa
open Cm Uf Hn
open Sc (RdK ownK_base ownK_below Pow)
open Tx (bs bss RdS strsV StrsPost)
open St (nL)
/-- What Apply leaves. -/
def ApPost (p : Pat) (s : ByteArray) (w : World) (e : Ending) (w' : World) : Prop := e = .returned (.tuple #[.string (applyF p s).1, .int .i64 (applyF p s).2]) ∧ Below w.heap.size w w'
/-- What the result's lines are like. -/
theorem res_ok {p : Pat} {s : ByteArray} (hc : chkC p = 0) (hk : Tx.checkF (bs s) = 0) (hsm : PatSm p.hunks) (hn : nL p.hunks ≤ 500000) : (appT (Sh.lnB s) 0 p.hunks).length ≤ 1000000 ∧ ∀ t ∈ appT (Sh.lnB s) 0 p.hunks, t.size ≤ 4194304 := by
  obtain ⟨k1, k2⟩ := check_zero.1 hk
  rw [← lnB_num] at k2
  refine ⟨by have := (app_small (p := p) (s := s) hc).1; omega, fun t ht => ?_⟩
  rcases appT_mem ht with h | ⟨h, hh, ht⟩
  · have := Sh.lnB_size s t h
    have h2 := Tx.bs_len s
    omega
  · unfold newT notK at ht
    obtain ⟨l, hl, rfl⟩ := List.mem_map.1 ht
    exact (hsm.2 h hh).2.2.2 l (List.mem_filter.1 hl).1
set_option maxRecDepth 100000 in
set_option maxHeartbeats 8000000 in
theorem Apply_any (p : Pat) (v : Value) (s : ByteArray) (w : World) (hr : RdP w v p.hunks) (hsm : PatSm p.hunks) (hn : nL p.hunks ≤ 500000) (hs : s.size ≤ 4194304) (hp : Pow w) : Calls Tryz.prog 14 #[tPatV p v, .string s] w (ApPost p s w) := by
  have HB0 := Lib.hid ((Below.refl w.heap.size w).alloc (Nat.le_refl _) (.cells #[.string p.on, .string p.nn, v] tPat))
  have hrd := hr.below HB0.out
  obtain ⟨A, c, rfl⟩ := hr.form
  have HRe := Lib.hid (read_any p _ s _ hrd hsm hs (hp.stays HB0.out))
  unfold RePost at HRe
  have HR := Lib.hid (fun w' (hb : Below w.heap.size w w') => hr.below hb)
  have HK : Hid (Blk (w.alloc (.cells #[.string p.on, .string p.nn, .slice A p.hunks.length c] tPat)) w.heap.size tPat [.string p.on, .string p.nn, .slice A p.hunks.length c]) := Lib.hid (heap_new w _)
  obtain ⟨k0, k1, k2, -, -⟩ := blk3 HK.out
  obtain ⟨W, hW⟩ : ∃ W, W = w.alloc (.cells #[.string p.on, .string p.nn, .slice A p.hunks.length c] tPat) := ⟨_, rfl⟩
  rw [← hW] at HB0 HRe HK k0 k1 k2
  clear hr hrd hp hs
  by_cases h0 : (fitsF p s).2 = 0
  · obtain ⟨hc, hk⟩ := fits_err h0
    have hll : (Sh.lnB s).length ≤ 4096 := by rw [lnB_num]; exact (check_zero.1 hk).2
    have HPos := Lib.hid (fun h (hh : h ∈ p.hunks) => ((St.okPat_of hc).hk h hh).1)
    obtain ⟨hrl, hrs⟩ := res_ok hc hk hsm hn
    have HMiss : Hid (∀ w', fitN (Sh.lnB s) p.hunks < p.hunks.length → Below w.heap.size w w' → ApPost p s w (.returned (.tuple #[.string ⟨#[]⟩, .int .i64 140])) w') := Lib.hid (fun w' h1 h2 => ⟨by rw [app_miss hc hk h1], h2⟩)
    have HNoL : Hid (∀ w', fitN (Sh.lnB s) p.hunks = p.hunks.length → Tx.isListF (bss (appT (Sh.lnB s) 0 p.hunks)) = false → Below w.heap.size w w' → ApPost p s w (.returned (.tuple #[.string ⟨#[]⟩, .int .i64 140])) w') := Lib.hid (fun w' h1 h3 h2 => ⟨by rw [app_joined hc hk h1, if_pos h3], h2⟩)
    have HOk : Hid (∀ w', fitN (Sh.lnB s) p.hunks = p.hunks.length → Tx.isListF (bss (appT (Sh.lnB s) 0 p.hunks)) = true → Below w.heap.size w w' → ApPost p s w (.returned (.tuple #[.string (Tx.joinF (appT (Sh.lnB s) 0 p.hunks)).1, .int .i64 (Tx.joinF (appT (Sh.lnB s) 0 p.hunks)).2])) w') := Lib.hid (fun w' h1 h3 h2 => ⟨by rw [app_joined hc hk h1, if_neg (by rw [h3]; decide)], h2⟩)
    have HA0 : Hid (At (Sh.lnB s) p.hunks 0 [] 0) := Lib.hid (At.zero (chkC_geo hc))
    have HJn : Hid (∀ v w', RdS w' v (appT (Sh.lnB s) 0 p.hunks) → Calls Tryz.prog 36 #[v] w' (Tx.JgPost w' (appT (Sh.lnB s) 0 p.hunks))) := Lib.hid (fun v w' h => Tx.JoinG_any v _ w' h (by omega) hrs)
    unfold Tx.JgPost at HJn
    have HSm := Lib.hid hsm.2
    have hfew := hsm.1
    rw [h0] at HRe
    clear h0 hc hk hsm hn hrs
    generalize hg : p.hunks = hs at *
    clear hg
    generalize Sh.lnB s = xs at *
    obtain ⟨R, hR⟩ : ∃ R, R = appT xs 0 hs := ⟨_, rfl⟩
    have HRd := Lib.hid hR
    rw [← hR] at HNoL HOk HJn hrl
    clear hR
    obtain ⟨N, hN⟩ : ∃ N, N = hs.length := ⟨_, rfl⟩
    have HN := Lib.hid hN.symm
    rw [← hN] at hfew HR HK k2 HMiss HNoL HOk hW HRe ⊢
    clear hN
    go_enter Tryz.func14, Tryz.ntmps14
    go_upto_region 1 with fail
    rw [← hW]
    clear hW
    go_wp2_with fail
    refine HRe.out.mono ?_
    rintro e w1 ⟨lv, rfl, hlv, hb⟩
    have HB1 := Lib.hid (HB0.out.trans (hb.mono HB0.out.size))
    have HK1 := Lib.hid (HK.out.below hb)
    have hlr := hlv (by simp)
    have HL1 := Lib.hid (fun w' (hb : Below w1.heap.size w1 w') => hlr.below hb)
    obtain ⟨Al, cl, rfl, -, -⟩ := hlr
    obtain ⟨k0, k1, k2, -, -⟩ := blk3 HK1.out
    clear hb hlv HRe HK HB0
    generalize hX : xs.length = X at *
    have HX := Lib.hid hX
    clear hX
    go_wp2_with fail
    go_loopw [8, 9, 26] (fun u nx i wr => ∃ (j : Nat) (acc : List ByteArray) (i0 : Nat), j ≤ N ∧ i = .int .i64 j ∧ nx = .int .i64 i0 ∧ Hid (At xs hs j acc i0) ∧ Hid (wr.ownsRow w1.heap.size 9 1 u (bss acc).length (strsV (bss acc))) ∧ Hid (Below w1.heap.size w1 wr)) (fun _ _ i _ => N - (intOf i).toNat)
    case atStart => exact ⟨0, [], 0, Nat.zero_le _, rfl, rfl, HA0, Lib.hid (World.ownsRow_nil _ _ _ _), Lib.hid (Below.refl _ _)⟩
    case round =>
      obtain ⟨j, acc, i0, hj, rfl, rfl, HAt, HO, HB⟩ := hrel
      have HBw := Lib.hid (HB1.out.trans (HB.out.mono HB1.out.size))
      obtain ⟨k0, k1, k2, -, -⟩ := blk3 (HK1.out.below HB.out)
      have hi0 : i0 ≤ X := by have := HAt.out.2.2.2; rw [HX.out] at this; exact this
      have hacc : acc.length ≤ 1000000 := by have := HAt.out.len; rw [← HRd.out] at this; omega
      by_cases hlt : j < N
      · have hx : j < hs.length := by rw [HN.out]; exact hlt
        obtain ⟨bl, off, Ah, ch, rfl, c0, c1, c2, hrh⟩ := RdP_at (HR.out w (Below.refl _ _)) j hx
        replace c0 := (HBw.out.cell (Tx.cell_lt c0)).trans c0
        replace c1 := (HBw.out.cell (Tx.cell_lt c1)).trans c1
        replace c2 := (HBw.out.cell (Tx.cell_lt c2)).trans c2
        have hAt := HAt.out
        obtain ⟨o, ho, hio⟩ := hAt.place hx
        have hpos := HPos.out _ (List.getElem_mem hx)
        have HNo : Hid (¬ fitH xs hs[j] → fitN xs hs < N) := Lib.hid (fun hf => by rw [hAt.no hx hf]; exact hlt)
        have HSt : Hid (fitH xs hs[j] → o + (oldT hs[j]).length ≤ xs.length ∧ At xs hs (j + 1) (acc ++ cut xs i0 o ++ newT hs[j]) (o + (oldT hs[j]).length)) := Lib.hid (fun hf => by
          have h1 := hAt.step hx hf
          have h2 := hf.1
          rw [ho, Int.toNat_natCast] at h1 h2
          exact ⟨h2, h1⟩)
        have hls := (HSm.out _ (List.getElem_mem hx)).1
        have hol : (oldT hs[j]).length ≤ 1000000 := Nat.le_trans (notK_len 43 _) hls
        have HfD : Hid (decide (o + (oldT hs[j]).length ≤ xs.length ∧ cut xs o (o + (oldT hs[j]).length) = oldT hs[j]) = decide (fitH xs hs[j])) := Lib.hid (fit_dec ho)
        have HOl : Hid (Tx.mks (notB 43 hs[j].lines) = oldT hs[j]) := Lib.hid (by unfold notB oldT; exact Tx.mks_bs _)
        have HNl : Hid (Tx.mks (notB 45 hs[j].lines) = newT hs[j]) := Lib.hid (by unfold notB newT; exact Tx.mks_bs _)
        have ho2 : o ≤ 4096 := by rw [ho] at hpos; omega
        clear hAt hpos
        rw [ho] at c0
        clear ho
        generalize hs[j] = h at *
        obtain ⟨ho', hn, ls⟩ := h
        simp only at c0 c1 c2 hrh hls HOl HNl
        generalize hM : ls.length = M at *
        have i1 : (0 : Int) ≤ (j : Int) := by omega
        have i2 : (j : Int) < (N : Int) := by omega
        have HHx := Lib.hid ((Below.refl wr.heap.size wr).alloc (Nat.le_refl _) (.cells #[.int .i64 (o : Int), .int .i64 hn, .slice Ah M ch] tPh))
        have HHb : Hid (Blk (wr.alloc (.cells #[.int .i64 (o : Int), .int .i64 hn, .slice Ah M ch] tPh)) wr.heap.size tPh [.int .i64 (o : Int), .int .i64 hn, .slice Ah M ch]) := Lib.hid (heap_new wr _)
        obtain ⟨W1, hW1⟩ : ∃ W1, W1 = wr.alloc (.cells #[.int .i64 (o : Int), .int .i64 hn, .slice Ah M ch] tPh) := ⟨_, rfl⟩
        rw [← hW1] at HHx HHb
        have HB2 := Lib.hid (HB.out.trans (HHx.out.mono HB.out.size))
        have HO1 := Lib.hid (ownK_below HO.out HHx.out)
        have HLx := Lib.hid (fun V (hV : Below w1.heap.size w1 V) => HL1.out V hV)
        have HWi : Hid (∀ k V, Below w1.heap.size w1 V → Calls Tryz.prog 34 #[.int .u8 k, .agg #[.int .i64 (o : Int), .int .i64 hn, .slice Ah M ch]] V (StrsPost V (notB k ls))) := Lib.hid (fun k V hV => without_any (o : Int) hn _ ls k V (hrh.below (HB1.out.trans (hV.mono HB1.out.size))) (by omega))
        have HHa : Hid (∀ V u, Below w1.heap.size w1 V → RdS V u (oldT ⟨ho', hn, ls⟩) → Calls Tryz.prog 35 #[.slice Al X cl, .int .i64 (o : Int), u] V fun e w' => e = .returned (.bool (decide (fitH xs ⟨ho', hn, ls⟩))) ∧ Below V.heap.size V w') := Lib.hid (fun V u hV hu => by
          have := hasAt_any (.slice Al X cl) u xs (oldT ⟨ho', hn, ls⟩) o V (HLx.out V hV) hu (by have := HX.out; omega) hol (by omega)
          rw [HfD.out] at this
          exact this)
        obtain ⟨x0, x1, x2, -, -⟩ := blk3 HHb.out
        clear HfD HHx HR HSm HPos HO
        generalize oldT ⟨ho', hn, ls⟩ = ol at *
        generalize newT ⟨ho', hn, ls⟩ = nl at *
        generalize hGb : wr.heap.size = G at *
        go_upto_region 9 with fail
        rw [← hW1]
        clear hW1 c0 c1 c2 k0 k1 k2 hrh
        go_wp2_with fail
        refine (HWi.out 43 W1 HB2.out).mono ?_
        rintro e w2 ⟨u, rfl, hu, hb⟩
        have HU := Lib.hid (Tx.RdS.of_own hu)
        rw [HOl.out] at HU
        obtain ⟨Au, cu, rfl, -, -⟩ := id HU.out
        have HV2 := Lib.hid (HB2.out.trans (hb.mono HB2.out.size))
        have HH2 := Lib.hid (HHb.out.below hb)
        have HO2 := Lib.hid (ownK_below HO1.out hb)
        obtain ⟨x0, x1, x2, -, -⟩ := blk3 HH2.out
        have HA2 := Lib.hid (HHa.out w2 _ HV2.out HU.out)
        clear hu hb HOl HHa HHb HO1
        cases hf : decide (fitH xs ⟨ho', hn, ls⟩) with
        | false =>
          have HS2 := Lib.hid (HNo.out (of_decide_eq_false hf))
          rw [hf] at HA2
          clear hf HSt HNo
          go_wp2_with fail
          refine HA2.out.mono ?_
          rintro e w3 ⟨rfl, hb⟩
          have HV3 := Lib.hid (HV2.out.trans (hb.mono HV2.out.size))
          clear hb
          go_wp2_with fail
          go_ret2
          exact HMiss.out _ HS2.out (HB1.out.trans (HV3.out.mono HB1.out.size))
        | true =>
          obtain ⟨hfit, hst⟩ := HSt.out (of_decide_eq_true hf)
          rw [HX.out] at hfit
          have HS2 := Lib.hid hst
          have hl2 : (acc ++ cut xs i0 o ++ nl).length ≤ 1000000 := by have := hst.len; rw [← HRd.out] at this; omega
          have hl3 := hl2
          rw [List.length_append] at hl2
          rw [List.length_append, List.length_append] at hl3
          rw [hf] at HA2
          clear hf HSt HNo hst
          obtain ⟨A2, hs2, hr2⟩ := slice_rds w1 (HLx.out w1 (Below.refl _ _)) i0 o hio (by have := HX.out; omega)
          have HR2 := Lib.hid hr2
          clear hr2
          have HE1 : Hid (bss acc ++ bss (cut xs i0 o) = bss (acc ++ cut xs i0 o)) := Lib.hid (by simp [bss])
          have HE2 : Hid (bss (acc ++ cut xs i0 o) ++ bss nl = bss (acc ++ cut xs i0 o ++ nl)) := Lib.hid (by simp [bss])
          have hq0 : (0 : Int) ≤ (i0 : Int) := by omega
          have hq1 : (i0 : Int) ≤ (o : Int) := by omega
          generalize hol3 : ol.length = OL at *
          go_wp2_with fail
          refine HA2.out.mono ?_
          rintro e w3 ⟨rfl, hb⟩
          have HV3 := Lib.hid (HV2.out.trans (hb.mono HV2.out.size))
          have HH3 := Lib.hid (HH2.out.below hb)
          obtain ⟨x0, x1, x2, -, -⟩ := blk3 HH3.out
          have HO3 := Lib.hid (ownK_below HO2.out hb)
          have HRc := Lib.hid (HR2.out w3 (HLx.out w3 HV3.out))
          clear hb HA2 HH2 HO2 HV2
          go_wp2_with (at_builtin; refine app_rdsG rfl (.tmp 38) (.tmp 43) rfl w1.heap.size (bss acc) (cut xs i0 o) _ _ rfl HO3.out rfl HRc.out (by simp only [bss, List.length_map]; omega) HV3.out.size ?_; intro v4 w4 ho4 hb4 hk4; rw [HE1.out] at ho4; have HO4 := Lib.hid ho4; have HV4 := Lib.hid (HV3.out.trans hb4); have HH4 := Lib.hid (hk4 _ _ _ (by decide) HH3.out); obtain ⟨x0, x1, x2, -, -⟩ := blk3 HH4.out; clear ho4 hb4 hk4 HO3 HV3 HH3 HRc)
          refine (HWi.out 45 w4 HV4.out).mono ?_
          rintro e w5 ⟨u5, rfl, hu, hb⟩
          have HU5 := Lib.hid (Tx.RdS.of_own hu)
          rw [HNl.out] at HU5
          obtain ⟨A5, c5, rfl, -, -⟩ := id HU5.out
          have HV5 := Lib.hid (HV4.out.trans (hb.mono HV4.out.size))
          have HH5 := Lib.hid (HH4.out.below hb)
          have HO5 := Lib.hid (ownK_below HO4.out hb)
          obtain ⟨x0, x1, x2, -, -⟩ := blk3 HH5.out
          clear hu hb HO4 HV4 HH4 HWi
          go_wp2_with (at_builtin; refine app_rdsG rfl (.tmp 45) (.tmp 47) rfl w1.heap.size (bss (acc ++ cut xs i0 o)) nl _ _ rfl HO5.out rfl HU5.out (by simp only [bss, List.length_map]; omega) HV5.out.size ?_; intro v6 w6 ho6 hb6 hk6; rw [HE2.out] at ho6; have HO6 := Lib.hid ho6; have HV6 := Lib.hid (HV5.out.trans hb6); have HH6 := Lib.hid (hk6 _ _ _ (by decide) HH5.out); obtain ⟨x0, x1, x2, -, -⟩ := blk3 HH6.out; clear ho6 hb6 hk6 HO5 HV5 HH5 HU5)
          go_roundw
          case rel => exact ⟨j + 1, _, _, by omega, by go_num, by go_num, HS2, HO6, HV6⟩
          case measure => simp [intOf]; omega
      · obtain rfl : j = N := by omega
        have hst := HAt.out
        rw [← HN.out] at hst
        obtain ⟨hfull, hres⟩ := hst.stop
        rw [← HRd.out] at hres
        rw [HN.out] at hfull
        have HFl := Lib.hid hfull
        obtain ⟨A2, hs2, hr2⟩ := slice_rest w1 (HL1.out w1 (Below.refl _ _)) i0 (by rw [HX.out]; exact hi0)
        have HRc := Lib.hid (hr2 wr (HL1.out wr HB.out))
        have hl2 : acc.length + (xs.drop i0).length ≤ 1000000 := by rw [← List.length_append, hres]; omega
        have HE1 : Hid (bss acc ++ bss (xs.drop i0) = bss R) := Lib.hid (by rw [← hres]; simp [bss])
        have HMr : Hid (Tx.mks (bss R) = R) := Lib.hid (Tx.mks_bs R)
        have hq0 : (0 : Int) ≤ (i0 : Int) := by omega
        have hq1 : (i0 : Int) ≤ (X : Int) := by omega
        clear hst hfull hres hr2
        go_wp2_with (at_builtin; refine app_rdsG rfl (.tmp 56) (.tmp 59) rfl w1.heap.size (bss acc) (xs.drop i0) _ _ rfl HO.out rfl HRc.out (by simp only [bss, List.length_map]; omega) HB.out.size ?_; intro v4 w4 ho4 hb4 _; rw [HE1.out] at ho4; have HO4 := Lib.hid (Tx.RdS.of_own ho4); rw [HMr.out] at HO4; obtain ⟨A5, c5, rfl, -, -⟩ := id HO4.out; have HV4 := Lib.hid (HB.out.trans hb4); clear ho4 hb4)
        have HJ := Lib.hid (HJn.out _ w4 HO4.out)
        have hrr : R.length ≤ 1000000 := hrl
        cases hli : Tx.isListF (bss R) with
        | false =>
          have ej : Tx.joinF R = (⟨#[]⟩, 2) := by unfold Tx.joinF; rw [if_pos hli]
          rw [ej] at HJ
          have HF2 := Lib.hid (fun w' hb => HNoL.out w' HFl.out hli hb)
          clear hli ej HJn HNoL HOk
          refine HJ.out.mono ?_
          rintro e w5 ⟨rfl, hb⟩
          have HV5 := Lib.hid (HV4.out.trans (hb.mono HV4.out.size))
          clear hb HJ
          go_wp2_with fail
          go_ret2
          exact HF2.out _ (HB1.out.trans (HV5.out.mono HB1.out.size))
        | true =>
          have hz : (Tx.joinF R).2 ≠ 2 := by
            unfold Tx.joinF
            rw [if_neg (by rw [hli]; decide)]
            split
            · show (1 : Int) ≠ 2
              decide
            · show (0 : Int) ≠ 2
              decide
          have HF2 := Lib.hid (fun w' hb => HOk.out w' HFl.out hli hb)
          clear hli HJn HNoL HOk
          generalize (Tx.joinF R).2 = z at *
          generalize (Tx.joinF R).1 = y at *
          have ez : (z == 2) = false := by rw [beq_eq_false_iff_ne]; exact hz
          refine HJ.out.mono ?_
          rintro e w5 ⟨rfl, hb⟩
          have HV5 := Lib.hid (HV4.out.trans (hb.mono HV4.out.size))
          clear hb HJ
          go_wp2_with fail
          go_ret2
          exact HF2.out _ (HB1.out.trans (HV5.out.mono HB1.out.size))
  · have h1 := app_err h0
    have HFin : Hid (∀ w', Below w.heap.size w w' → ApPost p s w (.returned (.tuple #[.string ⟨#[]⟩, .int .i64 (fitsF p s).2])) w') := Lib.hid (fun w' h2 => ⟨by rw [h1], h2⟩)
    have e1 : ((fitsF p s).2 != 0) = true := by rw [bne_iff_ne]; exact h0
    clear h0 h1 hsm hn
    generalize (fitsF p s).2 = z at *
    go_enter Tryz.func14, Tryz.ntmps14
    go_upto_region 1 with fail
    rw [← hW]
    clear hW
    go_wp2_with fail
    refine HRe.out.mono ?_
    rintro e w1 ⟨lv, rfl, -, hb⟩
    have HB1 := Lib.hid (HB0.out.trans (hb.mono HB0.out.size))
    clear hb
    go_wp2_with fail
    go_ret2
    exact HFin.out _ HB1.out
end Pa
end
section
namespace Cm
end Cm
namespace Hn
end Hn
namespace Sc
end Sc
namespace St
end St
namespace Tx
end Tx
namespace Uf
end Uf
open Go.RowKit
namespace Pa
open Cm Uf Hn
open Sc (Pow)
open Tx (bs)
open St (nL)
/-- A patch that is small enough for the program's calls. -/
structure Sm (p : Pat) : Prop where
  sm : PatSm p.hunks
  n : p.hunks.length + nL p.hunks ≤ 100000
theorem Sm.lines {p : Pat} (h : Sm p) : ∀ g ∈ p.hunks, g.lines.length ≤ 100000 := fun g hg => by
  have h1 := h.n
  have h2 := St.le_nL hg
  omega
theorem nL_rev : ∀ hs : List PH, nL (hs.map revH) = nL hs
  | [] => rfl
  | h :: hs => by
    have ih := nL_rev hs
    unfold nL at ih ⊢
    simp only [List.map_cons, List.sum_cons] at ih ⊢
    rw [ih]
    unfold revH
    simp
theorem Sm.rev {p : Pat} (h : Sm p) : Sm (revP p) := by
  refine ⟨⟨?_, fun g hg => ?_⟩, ?_⟩
  · show (p.hunks.map revH).length ≤ _
    rw [List.length_map]
    exact h.sm.1
  · obtain ⟨k, hk, rfl⟩ := List.mem_map.1 (show g ∈ p.hunks.map revH from hg)
    obtain ⟨h1, h2, h3, h4⟩ := h.sm.2 k hk
    refine ⟨by show (k.lines.map revL).length ≤ _; rw [List.length_map]; exact h1, h3, h2, fun l hl => ?_⟩
    obtain ⟨z, hz, rfl⟩ := List.mem_map.1 (show l ∈ k.lines.map revL from hl)
    exact h4 z hz
  · show (p.hunks.map revH).length + nL (p.hunks.map revH) ≤ _
    rw [List.length_map, nL_rev]
    exact h.n
theorem wr_sm {p : Pat} (hs : PatSm p.hunks) (h : (wrAll p).length ≤ 100000) : Sm p := by
  refine ⟨hs, ?_⟩
  have h4 := St.wr_ge p.hunks
  unfold wrAll at h
  rw [List.length_append] at h
  omega
theorem mk_sm {ctx : Int} (hc : 0 ≤ ctx) {s t : ByteArray} (hs : s.size ≤ 36) (ht : t.size ≤ 180) (down : Bool) {on nn : ByteArray} (h1 : nameB on = true) (h2 : nameB nn = true) : Sm ⟨on, nn, patH (Sh.lnB s) (Sh.lnB t) ctx (scrD down s t)⟩ :=
  wr_sm (mk_ok hc (by omega) (by omega) down h1 h2).big.1 (Nat.le_trans (St.mk_small hc hs ht down h1 h2).2 (by decide))
theorem Ap {p : Pat} (h : Sm p) {v : Value} {s : ByteArray} {w : World} (hr : RdP w v p.hunks) (hs : s.size ≤ 4194304) (hp : Pow w) : Calls Tryz.prog 14 #[tPatV p v, .string s] w fun e w' => e = .returned (.tuple #[.string (applyF p s).1, .int .i64 (applyF p s).2]) ∧ Below w.heap.size w w' :=
  Apply_any p v s w hr h.sm (by have := h.n; omega) hs hp
theorem Rv {p : Pat} (h : Sm p) {v : Value} {w : World} (hr : RdP w v p.hunks) (hp : Pow w) : Calls Tryz.prog 19 #[tPatV p v] w (PtPost (reverseF p).1 (reverseF p).2 w) :=
  Reverse_any p v w hr h.sm (by have := h.n; omega) h.lines hp
/-- The second text of the sanity check. -/
def exU : ByteArray := ⟨#[97, 10, 98, 10]⟩
def l4B : ByteArray := ⟨#[98, 10]⟩
theorem ex_lu : Sh.lnB exU = [l1B, l4B] := by rfl
theorem ex_pat : exP = ⟨xB, xB, patH (Sh.lnB exS) (Sh.lnB exT) 1 (scrD false exS exT)⟩ := by
  rw [← ex_mk]
  exact (mk_on (by decide) (by decide) ⟨by decide, by decide⟩).2
theorem ex_sm14 : Sm exP := by
  rw [ex_pat]
  exact mk_sm (by decide) (by decide) (by decide) false (by decide) (by decide)
theorem ex_app : applyF exP exS = (exT, 0) := by
  rw [ex_pat]
  exact (makes_small (by decide) (by decide) (by decide) false (by decide) (by decide)).1
theorem ex_no : applyF exP exU = (⟨#[]⟩, 140) := by
  refine app_miss ex_chk (check_le (by decide)) ?_
  have h : fitN (Sh.lnB exU) exP.hunks = 0 := by
    rw [ex_lu]
    show fitN [l1B, l4B] [⟨0, 0, [⟨32, l1B⟩, ⟨45, l2B⟩, ⟨43, l3B⟩]⟩] = 0
    rw [fitN, if_neg]
    rintro ⟨_, h⟩
    exact absurd (congrArg (List.map bs) h) (by decide)
  rw [h]
  decide
set_option maxRecDepth 100000 in
set_option maxHeartbeats 4000000 in
theorem awake_any (w : World) (hw : Pow w) : Calls Tryz.prog 11 #[] w fun e w' => e = .returned (.bool true) ∧ Below w.heap.size w w' := by
  have HM := Lib.hid (MakeR_any xB xB exS exT 1 false (by decide) (by decide) w)
  rw [ex_mk, ex_mc] at HM
  go_enter Tryz.func11, Tryz.ntmps11
  go_wp2_with fail
  refine HM.out.mono ?_
  rintro e w1 ⟨v, he, ho, hb1⟩
  obtain ⟨A, c, rfl⟩ := ho.form
  obtain rfl : e = .returned (.tuple #[.agg #[.string xB, .string xB, .slice A exP.hunks.length c], .int .i64 0]) := he
  have HX1 := Lib.hid (BxP.new (p := exP) ho.rd)
  have hb2 := (Below.refl w1.heap.size w1).alloc (Nat.le_refl _) (.cells #[.string exP.on, .string exP.nn, .slice A exP.hunks.length c] tPat)
  have HB1 := Lib.hid (hb1.trans (hb2.mono hb1.size))
  clear ho hb1 HM hb2
  go_upto_region 2 with fail
  obtain ⟨W, hW⟩ : ∃ W, W = w1.alloc (.cells #[.string exP.on, .string exP.nn, .slice A exP.hunks.length c] tPat) := ⟨_, rfl⟩
  rw [← hW] at HX1 HB1
  rw [show w1.alloc (.cells #[.string xB, .string xB, .slice A exP.hunks.length c] tPat) = W from hW.symm]
  clear hW
  obtain ⟨x0, x1, x2⟩ := HX1.out.cells
  have HA1 := Lib.hid (Ap ex_sm14 (s := exS) HX1.out.2 (by decide) (hw.stays HB1.out))
  rw [ex_app] at HA1
  go_wp2_with fail
  refine HA1.out.mono ?_
  rintro e w2 ⟨rfl, hb⟩
  have HX2 := Lib.hid (HX1.out.below hb)
  have HB2 := Lib.hid (HB1.out.trans (hb.mono HB1.out.size))
  obtain ⟨x0, x1, x2⟩ := HX2.out.cells
  have HA2 := Lib.hid (Ap ex_sm14 (s := exU) HX2.out.2 (by decide) (hw.stays HB2.out))
  rw [ex_no] at HA2
  clear hb HX1 HB1 HA1
  go_wp2_with fail
  refine HA2.out.mono ?_
  rintro e w3 ⟨rfl, hb⟩
  have HB3 := Lib.hid (HB2.out.trans (hb.mono HB2.out.size))
  have t0 : exT.toList = [97, 10, 99, 10] := by rw [ByteArray.toList_eq]; rfl
  have t1 : (exT.toList == [97, 10, 99, 10]) = true := by rw [t0]; rfl
  clear hb HX2 HB2 HA2 x0 x1 x2
  go_wp2_with fail
  go_ret
  exact ⟨rfl, HB3.out⟩
/-- What pick leaves: the patch of two short blobs, and the blobs. -/
def PkPost (w : World) (m : Int) (e : Ending) (w' : World) : Prop := ∃ (a b : ByteArray) (A : Option Addr) (c : Nat), a.size ≤ 36 ∧ b.size ≤ 180 ∧
  e = .returned (.tuple #[.agg #[.string oB, .string nB, .slice A (patH (Sh.lnB a) (Sh.lnB b) m (scrD false a b)).length c], .string a, .string b]) ∧ OwnP w.heap.size w' (.slice A (patH (Sh.lnB a) (Sh.lnB b) m (scrD false a b)).length c) (patH (Sh.lnB a) (Sh.lnB b) m (scrD false a b)) ∧ Below w.heap.size w w'
set_option maxRecDepth 100000 in
set_option maxHeartbeats 4000000 in
theorem pick_any (v : Value) (us : List Int) (ctx : Int) (w : World) (h : RdV w v (intsV us)) (hu : us.length ≤ maxLen) (hub : ∀ z ∈ us, -9223372036854775808 ≤ z ∧ z ≤ 9223372036854775807) (hc0 : -9223372036854775808 ≤ ctx) (hc1 : ctx ≤ 9223372036854775807) :
    Calls Tryz.prog 12 #[v, .int .i64 ctx] w (PkPost w (Tx.modF ctx 4)) := by
  generalize hO : (.cells #[.string ⟨#[]⟩, .string ⟨#[]⟩, .slice none 0 0] tPat : Obj) = O
  have HO := Lib.hid (((Below.refl w.heap.size w).alloc (Nat.le_refl _) O))
  have HO0 : Hid (∀ W, Below (w.alloc O).heap.size (w.alloc O) W → W.heap[w.heap.size]? = some O) := Lib.hid (fun W hb => (hb.block _ (Array.getElem?_eq_some_iff.1 (heap_new w O)).1).trans (heap_new w O))
  have HB0 := Lib.hid (Tx.Blob_any v us.length 0 9 5 (w.alloc O) (rdI_V (h.below HO.out) hub) hu (by omega) (by omega) (by omega) (by omega) (by omega) (by omega))
  have HNr := Lib.hid (fun wq (hb : Below (w.alloc O).heap.size (w.alloc O) wq) (a : ByteArray) (ha : a.size ≤ 36) => Sh.Near_any a v us 100 wq ((h.below HO.out).below hb) hu (by omega) ⟨by omega, by omega⟩)
  obtain ⟨A, c, rfl⟩ := h.form
  have HMd := Lib.hid (fun w => Tx.Mod_any ctx 4 w (by omega) (by omega) hc0 hc1)
  have hm0 := Tx.modF_lo ctx 4 (by omega)
  have hm1 := Tx.modF_hi ctx 4 (by omega)
  subst hO
  clear h hu hub hc0 hc1
  rw [intsV_len] at HB0 HNr ⊢
  generalize us.length = nu at *
  generalize Tx.modF ctx 4 = m at *
  unfold Tx.SomeStr at HB0 HNr
  rw [show (9 : Int).toNat = 9 from rfl] at HB0
  go_enter Tryz.func12, Tryz.ntmps12
  go_wp2_with fail
  refine (HB0.out).mono ?_
  rintro e w1 ⟨a, ha, rfl, hb⟩
  have HW1 := Lib.hid hb
  clear hb
  go_wp2_with fail
  refine (HNr.out _ HW1.out a (by omega)).mono ?_
  rintro e w2 ⟨b, hb', rfl, hb⟩
  have HW2 := Lib.hid (HW1.out.trans (hb.mono HW1.out.size))
  clear HW1 hb
  have hax : a.size ≤ 36 := by omega
  have hbx : b.size ≤ 180 := by omega
  obtain ⟨e1, e2⟩ := mk_on (s := a) (t := b) (ctx := m) (down := false) (on := oB) (nn := nB) (by decide) (by decide) ⟨by omega, by omega⟩
  have HR := Lib.hid (fun W => MakeR_any oB nB a b m false (by omega) (by omega) W)
  unfold PtPost at HR
  rw [e1, e2] at HR
  have HPost : Hid (∀ (A : Option Addr) (c : Nat) (w' : World), OwnP w.heap.size w' (.slice A (patH (Sh.lnB a) (Sh.lnB b) m (scrD false a b)).length c) (patH (Sh.lnB a) (Sh.lnB b) m (scrD false a b)) → Below w.heap.size w w' → PkPost w m (.returned (.tuple #[.agg #[.string oB, .string nB, .slice A (patH (Sh.lnB a) (Sh.lnB b) m (scrD false a b)).length c], .string a, .string b])) w') := Lib.hid (fun A c w' h1 h2 => ⟨a, b, A, c, hax, hbx, rfl, h1, h2⟩)
  generalize patH (Sh.lnB a) (Sh.lnB b) m (scrD false a b) = P at *
  clear e1 e2 ha hb' hax hbx HB0 HNr
  go_wp2_with fail
  refine (HMd.out _).mono ?_
  rintro e w3 ⟨rfl, rfl⟩
  go_wp2_with fail
  refine (HR.out _).mono ?_
  rintro e w4 ⟨v4, rfl, ho, hb⟩
  obtain ⟨A4, c4, rfl⟩ := ho.form
  have hb1 := HW2.out.trans (hb.mono HW2.out.size)
  have hA := (Below.refl w4.heap.size w4).alloc (Nat.le_refl _) (.cells #[.string oB, .string nB, .slice A4 P.length c4] tPat)
  have HX : Hid (BxP (w4.alloc (.cells #[.string oB, .string nB, .slice A4 P.length c4] tPat)) w4.heap.size ⟨oB, nB, P⟩ (.slice A4 P.length c4)) := Lib.hid (BxP.new (p := ⟨oB, nB, P⟩) ho.rd)
  have HOw := Lib.hid (ho.below hA)
  have hb5 := hb1.trans (hA.mono hb1.size)
  have HBw := Lib.hid (HO.out.trans (hb5.mono HO.out.size))
  obtain ⟨W, hW⟩ : ∃ W, W = w4.alloc (.cells #[.string oB, .string nB, .slice A4 P.length c4] tPat) := ⟨_, rfl⟩
  rw [← hW] at HX HOw HBw hb5
  have HZ := HO0.out W hb5
  have hw2 : w.heap.size < w2.heap.size := Nat.lt_of_lt_of_le (Array.getElem?_eq_some_iff.1 (heap_new w _)).1 HW2.out.size
  clear ho hb hb1 HR hA HW2 HO HO0 hb5
  go_upto_region 4 with fail
  rw [← hW]
  clear hW
  obtain ⟨x0, x1, x2⟩ := HX.out.cells
  obtain ⟨z0, z1, z2, zf, zlt⟩ := blk3 (show Blk W w.heap.size tPat [.string ⟨#[]⟩, .string ⟨#[]⟩, .slice none 0 0] from HZ)
  have HBy := Lib.hid (((HBw.out.setCell (p := ⟨w.heap.size, 0, none⟩) (Nat.le_refl _) (.string oB)).setCell (p := ⟨w.heap.size, 1, none⟩) (Nat.le_refl _) (.string nB)).setCell (p := ⟨w.heap.size, 2, none⟩) (Nat.le_refl _) (.slice A4 P.length c4))
  have HOz := Lib.hid ((((HOw.out.box (o := 0) (u := .string oB) hw2).box (o := 1) (u := .string nB) hw2).box (o := 2) (u := .slice A4 P.length c4) hw2).base (base' := w.heap.size) (by omega))
  clear HX HOw HBw HZ
  go_wp2_with fail
  exact bodyPost_ret (v := .tuple #[.agg #[.string oB, .string nB, .slice A4 P.length c4], .string a, .string b]) (by simp [results, Tryz.f12, go_sem, z0, z1, z2]) rfl (HPost.out _ _ _ HOz.out HBy.out)
end Pa
end
section
namespace Cm
end Cm
namespace Hn
end Hn
namespace Sc
end Sc
namespace Tx
end Tx
namespace Uf
end Uf
open Go.RowKit
namespace Pa
open Cm Uf Hn
open Sc (Pow)
open Tx (bs)
set_option maxRecDepth 100000 in
set_option maxHeartbeats 8000000 in
theorem makes_walk (v : Value) (us : List Int) (ctx : Int) (down : Bool) (w : World) (h : RdV w v (intsV us)) (hu : us.length ≤ maxLen) (hub : ∀ z ∈ us, -9223372036854775808 ≤ z ∧ z ≤ 9223372036854775807) (hc0 : -9223372036854775808 ≤ ctx) (hc1 : ctx ≤ 9223372036854775807) (hp : Pow w) :
    Calls Tryz.prog 6 #[v, .int .i64 ctx, .bool down] w (AwPost w) := by
  have HAw := Lib.hid (fun w' (hb : Below w.heap.size w w') => awake_any w' (hp.stays hb))
  have HPw := Lib.hid (fun w' (hb : Below w.heap.size w w') => hp.stays hb)
  have HB0 := Lib.hid (Tx.Blob_any v us.length 0 9 5 w (rdI_V h hub) hu (by omega) (by omega) (by omega) (by omega) (by omega) (by omega))
  have HB2 := Lib.hid (fun wq (hb : Below w.heap.size w wq) => Tx.Blob_any v us.length 200 9 5 wq (rdI_V (h.below hb) hub) hu (by omega) (by omega) (by omega) (by omega) (by omega) (by omega))
  have HNr := Lib.hid (fun wq (hb : Below w.heap.size w wq) (a : ByteArray) (ha : a.size ≤ 36) => Sh.Near_any a v us 100 wq (h.below hb) hu (by omega) ⟨by omega, by omega⟩)
  have HAt := Lib.hid (fun wq (hb : Below w.heap.size w wq) => Tx.At_any v us.length 7 wq (rdI_V (h.below hb) hub) hu (by omega) (by omega))
  obtain ⟨A, c, rfl⟩ := h.form
  have HMd := Lib.hid (fun w => Tx.Mod_any ctx 5 w (by omega) (by omega) hc0 hc1)
  have hm0 := Tx.modF_lo ctx 5 (by omega)
  have hm1 := Tx.modF_hi ctx 5 (by omega)
  clear h hu hub hc0 hc1 hp
  rw [intsV_len] at HB0 HB2 HNr HAt ⊢
  generalize us.length = nu at *
  generalize Tx.modF ctx 5 = m at *
  unfold Tx.SomeStr at HB0 HB2 HNr
  unfold Tx.SomeInt at HAt
  rw [show (9 : Int).toNat = 9 from rfl] at HB0 HB2
  have HRest : Hid (∀ (a b : ByteArray), a.size ≤ 36 → b.size ≤ 180 →
    (∀ W, Calls Tryz.prog 25 #[.string oB, .string nB, .string a, .string b, .int .i64 m, .bool down] W fun e w' => ∃ A c P, e = .returned (.tuple #[.agg #[.string oB, .string nB, .slice A P c], .int .i64 0]) ∧ ∃ hs : List PH, P = hs.length ∧ Sm ⟨oB, nB, hs⟩ ∧ RdP w' (.slice A P c) hs ∧ Below W.heap.size W w' ∧ applyF ⟨oB, nB, hs⟩ a = (b, 0) ∧ reverseF ⟨oB, nB, hs⟩ = (revP ⟨oB, nB, hs⟩, 0) ∧ applyF (revP ⟨oB, nB, hs⟩) b = (a, 0))) := Lib.hid (fun a b ha hb W => by
    have hk := mk_sm (ctx := m) hm0 ha hb down (on := oB) (nn := nB) (by decide) (by decide)
    obtain ⟨q1, q2, q3⟩ := makes_small (ctx := m) hm0 (show a.size ≤ 1000 by omega) (show b.size ≤ 1000 by omega) down (on := oB) (nn := nB) (by decide) (by decide)
    refine (Make_on a b m down (by omega) (by omega) ⟨by omega, by omega⟩ W).mono ?_
    rintro e w' ⟨A, c, rfl, ho, hb⟩
    exact ⟨A, c, _, rfl, _, rfl, hk, ho.rd, hb, q1, q2, q3⟩)
  go_enter Tryz.func6, Tryz.ntmps6
  go_wp2_with fail
  refine (HB0.out).mono ?_
  rintro e w1 ⟨a, ha, rfl, hb⟩
  have HW1 := Lib.hid hb
  clear hb HB0
  have hax : a.size ≤ 36 := by omega
  go_wp2_with fail
  refine (HNr.out _ HW1.out a hax).mono ?_
  rintro e w2 ⟨b0, hb0, rfl, hb⟩
  have HW2 := Lib.hid (HW1.out.trans (hb.mono HW1.out.size))
  clear HW1 hb HNr
  have hb0x : b0.size ≤ 180 := by omega
  clear ha hb0
  go_wp2_with fail
  refine (HAt.out _ HW2.out).mono ?_
  rintro e w2' ⟨n7, n7a, n7b, rfl, rfl⟩
  clear HAt
  have HRz := Lib.hid (fun (b : ByteArray) (hb : b.size ≤ 180) => HRest.out a b hax hb)
  clear HRest
  cases hn : (n7.tmod 4 == 0) with
  | true =>
    go_wp2_with fail
    refine (HB2.out _ HW2.out).mono ?_
    rintro e w3 ⟨b, hb', rfl, hb⟩
    have HW3 := Lib.hid (HW2.out.trans (hb.mono HW2.out.size))
    have hb9 : b.size ≤ 180 := by omega
    have HRy := Lib.hid (HRz.out b hb9)
    clear hb hb' HB2 HRz HW2 hb0x
    go_wp2_with fail
    refine (HMd.out _).mono ?_
    rintro e w4 ⟨rfl, rfl⟩
    go_wp2_with fail
    refine (HRy.out _).mono ?_
    rintro e w5 ⟨A1, c1, P, rfl, hs, rfl, hsm, hr, hb, q1, q2, q3⟩
    have HX1 := Lib.hid (BxP.new (p := ⟨oB, nB, hs⟩) hr)
    have HB5 := Lib.hid (HW3.out.trans (hb.mono HW3.out.size))
    have HB6 := Lib.hid (HB5.out.alloc HB5.out.size (.cells #[.string oB, .string nB, .slice A1 hs.length c1] tPat))
    have HSm := Lib.hid hsm
    have HQ2 := Lib.hid q2
    have HQ3 := Lib.hid q3
    have HQ1 := Lib.hid q1
    clear hb hr HRy HW3 hsm q1 q2 q3 HMd HB5
    go_upto_region 6 with fail
    obtain ⟨W, hW⟩ : ∃ W, W = w5.alloc (.cells #[.string oB, .string nB, .slice A1 hs.length c1] tPat) := ⟨_, rfl⟩
    rw [← hW] at HX1 HB6 ⊢
    clear hW
    obtain ⟨x0, x1, x2⟩ := HX1.out.cells
    have HA1 : Hid (Calls Tryz.prog 14 #[.agg #[.string oB, .string nB, .slice A1 hs.length c1], .string a] W _) := Lib.hid (Ap HSm.out HX1.out.2 (by omega) (HPw.out _ HB6.out))
    rw [HQ1.out] at HA1
    go_wp2_with fail
    refine HA1.out.mono ?_
    rintro e w6 ⟨rfl, hb⟩
    have HX2 := Lib.hid (HX1.out.below hb)
    have HB7 := Lib.hid (HB6.out.trans (hb.mono HB6.out.size))
    obtain ⟨x0, x1, x2⟩ := HX2.out.cells
    have HV : Hid (Calls Tryz.prog 19 #[.agg #[.string oB, .string nB, .slice A1 hs.length c1]] w6 _) := Lib.hid (Rv HSm.out HX2.out.2 (HPw.out _ HB7.out))
    unfold PtPost at HV
    rw [HQ2.out] at HV
    clear hb HX1 HB6 HA1
    go_wp2_with fail
    refine HV.out.mono ?_
    rintro e w7 ⟨v7, rfl, ho, hb⟩
    obtain ⟨A7, c7, rfl⟩ := ho.form
    have HY1 := Lib.hid (BxP.new (p := revP ⟨oB, nB, hs⟩) ho.rd)
    have HB8 := Lib.hid (HB7.out.trans (hb.mono HB7.out.size))
    have HB9 := Lib.hid (HB8.out.alloc HB8.out.size (.cells #[.string nB, .string oB, .slice A7 (revP ⟨oB, nB, hs⟩).hunks.length c7] tPat))
    clear hb ho HV HB7 HX2 x0 x1 x2
    go_upto_region 8 with fail
    obtain ⟨W, hW⟩ : ∃ W, W = w7.alloc (.cells #[.string nB, .string oB, .slice A7 (revP ⟨oB, nB, hs⟩).hunks.length c7] tPat) := ⟨_, rfl⟩
    rw [show w7.alloc (.cells #[.string (revP ⟨oB, nB, hs⟩).on, .string (revP ⟨oB, nB, hs⟩).nn, .slice A7 (revP ⟨oB, nB, hs⟩).hunks.length c7] tPat) = W from hW.symm] at HY1 ⊢
    rw [← hW] at HB9
    clear hW
    obtain ⟨y0, y1, y2⟩ := HY1.out.cells
    have HA2 : Hid (Calls Tryz.prog 14 #[.agg #[.string (revP ⟨oB, nB, hs⟩).on, .string (revP ⟨oB, nB, hs⟩).nn, .slice A7 (revP ⟨oB, nB, hs⟩).hunks.length c7], .string _] W _) := Lib.hid (Ap HSm.out.rev HY1.out.2 (s := b) (by omega) (HPw.out _ HB9.out))
    rw [HQ3.out] at HA2
    go_wp2_with fail
    refine HA2.out.mono ?_
    rintro e w8 ⟨rfl, hb⟩
    have HB10 := Lib.hid (HB9.out.trans (hb.mono HB9.out.size))
    have HA3 := Lib.hid (HAw.out _ HB10.out)
    clear hb HA2 HY1 HB9 HB8 y0 y1 y2
    go_wp2_with fail
    refine HA3.out.mono ?_
    rintro e w9 ⟨rfl, hb⟩
    have HB11 := Lib.hid (HB10.out.trans (hb.mono HB10.out.size))
    clear hb HA3 HB10
    go_wp2_with fail
    go_ret
    exact ⟨rfl, HB11.out⟩
  | false =>
    have HW3 := HW2
    have HRy := Lib.hid (HRz.out b0 hb0x)
    clear HB2 HRz HW2
    go_wp2_with fail
    refine (HMd.out _).mono ?_
    rintro e w4 ⟨rfl, rfl⟩
    go_wp2_with fail
    refine (HRy.out _).mono ?_
    rintro e w5 ⟨A1, c1, P, rfl, hs, rfl, hsm, hr, hb, q1, q2, q3⟩
    have HX1 := Lib.hid (BxP.new (p := ⟨oB, nB, hs⟩) hr)
    have HB5 := Lib.hid (HW3.out.trans (hb.mono HW3.out.size))
    have HB6 := Lib.hid (HB5.out.alloc HB5.out.size (.cells #[.string oB, .string nB, .slice A1 hs.length c1] tPat))
    have HSm := Lib.hid hsm
    have HQ2 := Lib.hid q2
    have HQ3 := Lib.hid q3
    have HQ1 := Lib.hid q1
    clear hb hr HRy HW3 hsm q1 q2 q3 HMd HB5
    go_upto_region 6 with fail
    obtain ⟨W, hW⟩ : ∃ W, W = w5.alloc (.cells #[.string oB, .string nB, .slice A1 hs.length c1] tPat) := ⟨_, rfl⟩
    rw [← hW] at HX1 HB6 ⊢
    clear hW
    obtain ⟨x0, x1, x2⟩ := HX1.out.cells
    have HA1 : Hid (Calls Tryz.prog 14 #[.agg #[.string oB, .string nB, .slice A1 hs.length c1], .string a] W _) := Lib.hid (Ap HSm.out HX1.out.2 (by omega) (HPw.out _ HB6.out))
    rw [HQ1.out] at HA1
    go_wp2_with fail
    refine HA1.out.mono ?_
    rintro e w6 ⟨rfl, hb⟩
    have HX2 := Lib.hid (HX1.out.below hb)
    have HB7 := Lib.hid (HB6.out.trans (hb.mono HB6.out.size))
    obtain ⟨x0, x1, x2⟩ := HX2.out.cells
    have HV : Hid (Calls Tryz.prog 19 #[.agg #[.string oB, .string nB, .slice A1 hs.length c1]] w6 _) := Lib.hid (Rv HSm.out HX2.out.2 (HPw.out _ HB7.out))
    unfold PtPost at HV
    rw [HQ2.out] at HV
    clear hb HX1 HB6 HA1
    go_wp2_with fail
    refine HV.out.mono ?_
    rintro e w7 ⟨v7, rfl, ho, hb⟩
    obtain ⟨A7, c7, rfl⟩ := ho.form
    have HY1 := Lib.hid (BxP.new (p := revP ⟨oB, nB, hs⟩) ho.rd)
    have HB8 := Lib.hid (HB7.out.trans (hb.mono HB7.out.size))
    have HB9 := Lib.hid (HB8.out.alloc HB8.out.size (.cells #[.string nB, .string oB, .slice A7 (revP ⟨oB, nB, hs⟩).hunks.length c7] tPat))
    clear hb ho HV HB7 HX2 x0 x1 x2
    go_upto_region 8 with fail
    obtain ⟨W, hW⟩ : ∃ W, W = w7.alloc (.cells #[.string nB, .string oB, .slice A7 (revP ⟨oB, nB, hs⟩).hunks.length c7] tPat) := ⟨_, rfl⟩
    rw [show w7.alloc (.cells #[.string (revP ⟨oB, nB, hs⟩).on, .string (revP ⟨oB, nB, hs⟩).nn, .slice A7 (revP ⟨oB, nB, hs⟩).hunks.length c7] tPat) = W from hW.symm] at HY1 ⊢
    rw [← hW] at HB9
    clear hW
    obtain ⟨y0, y1, y2⟩ := HY1.out.cells
    have HA2 : Hid (Calls Tryz.prog 14 #[.agg #[.string (revP ⟨oB, nB, hs⟩).on, .string (revP ⟨oB, nB, hs⟩).nn, .slice A7 (revP ⟨oB, nB, hs⟩).hunks.length c7], .string _] W _) := Lib.hid (Ap HSm.out.rev HY1.out.2 (s := b0) (by omega) (HPw.out _ HB9.out))
    rw [HQ3.out] at HA2
    go_wp2_with fail
    refine HA2.out.mono ?_
    rintro e w8 ⟨rfl, hb⟩
    have HB10 := Lib.hid (HB9.out.trans (hb.mono HB9.out.size))
    have HA3 := Lib.hid (HAw.out _ HB10.out)
    clear hb HA2 HY1 HB9 HB8 y0 y1 y2
    go_wp2_with fail
    refine HA3.out.mono ?_
    rintro e w9 ⟨rfl, hb⟩
    have HB11 := Lib.hid (HB10.out.trans (hb.mono HB10.out.size))
    clear hb HA3 HB10
    go_wp2_with fail
    go_ret
    exact ⟨rfl, HB11.out⟩
end Pa
end
section
namespace Cm
end Cm
namespace Hn
end Hn
namespace Sc
end Sc
namespace Tx
end Tx
namespace Uf
end Uf
open Go.RowKit
namespace Pa
open Cm Uf Hn
open Sc (Pow)
open Tx (bs)
set_option maxRecDepth 100000 in
set_option maxHeartbeats 8000000 in
theorem twice_walk (v : Value) (us : List Int) (ctx : Int) (w : World) (h : RdV w v (intsV us)) (hu : us.length ≤ maxLen) (hub : ∀ z ∈ us, -9223372036854775808 ≤ z ∧ z ≤ 9223372036854775807) (hc0 : -9223372036854775808 ≤ ctx) (hc1 : ctx ≤ 9223372036854775807) (hp : Pow w) :
    Calls Tryz.prog 8 #[v, .int .i64 ctx] w (AwPost w) := by
  have HAw := Lib.hid (fun w' (hb : Below w.heap.size w w') => awake_any w' (hp.stays hb))
  have HPw := Lib.hid (fun w' (hb : Below w.heap.size w w') => hp.stays hb)
  have HPk := Lib.hid (pick_any v us ctx w h hu hub hc0 hc1)
  have HNr := Lib.hid (fun wq (hb : Below w.heap.size w wq) (a : ByteArray) (ha : a.size ≤ 36) => Sh.Near_any a v us 300 wq (h.below hb) hu (by omega) ⟨by omega, by omega⟩)
  obtain ⟨A, c, rfl⟩ := h.form
  have hm0 := Tx.modF_lo ctx 4 (by omega)
  have hm1 := Tx.modF_hi ctx 4 (by omega)
  clear h hu hub hc0 hc1 hp
  rw [intsV_len] at HPk HNr ⊢
  generalize us.length = nu at *
  generalize Tx.modF ctx 4 = m at *
  unfold Tx.SomeStr at HNr
  unfold PkPost at HPk
  go_enter Tryz.func8, Tryz.ntmps8
  go_wp2_with fail
  refine HPk.out.mono ?_
  rintro e w1 ⟨a, b, A1, c1, hax, hbx, rfl, ho, hb⟩
  have hsm := mk_sm (ctx := m) hm0 hax hbx false (on := oB) (nn := nB) (by decide) (by decide)
  have hck := (mk_ok (ctx := m) hm0 (show a.size ≤ 1000 by omega) (show b.size ≤ 1000 by omega) false (on := oB) (nn := nB) (by decide) (by decide)).chk
  generalize patH (Sh.lnB a) (Sh.lnB b) m (scrD false a b) = P at *
  obtain ⟨q1, q2⟩ := reverse_two hck
  have HSm := Lib.hid hsm
  have HQ1 := Lib.hid q1
  have HQ2 := Lib.hid q2
  have HCk := Lib.hid hck
  have HX1 := Lib.hid (BxP.new (p := ⟨oB, nB, P⟩) ho.rd)
  have HB1 := Lib.hid (hb.alloc hb.size (.cells #[.string oB, .string nB, .slice A1 P.length c1] tPat))
  clear ho hb hsm hck q1 q2 HPk hm0 hm1
  go_upto_region 2 with fail
  obtain ⟨W, hW⟩ : ∃ W, W = w1.alloc (.cells #[.string oB, .string nB, .slice A1 P.length c1] tPat) := ⟨_, rfl⟩
  rw [← hW] at HX1 HB1 ⊢
  clear hW
  obtain ⟨x0, x1, x2⟩ := HX1.out.cells
  have HV : Hid (Calls Tryz.prog 19 #[.agg #[.string oB, .string nB, .slice A1 P.length c1]] W _) := Lib.hid (Rv HSm.out HX1.out.2 (HPw.out _ HB1.out))
  unfold PtPost at HV
  rw [HQ1.out] at HV
  go_wp2_with fail
  refine HV.out.mono ?_
  rintro e w2 ⟨v2, rfl, ho, hb⟩
  obtain ⟨A2, c2, rfl⟩ := ho.form
  have HX2 := Lib.hid (HX1.out.below hb)
  have HY1 := Lib.hid (BxP.new (p := revP ⟨oB, nB, P⟩) ho.rd)
  have HB2 := Lib.hid (HB1.out.trans (hb.mono HB1.out.size))
  have HB3 := Lib.hid (HB2.out.alloc HB2.out.size (.cells #[.string nB, .string oB, .slice A2 (revP ⟨oB, nB, P⟩).hunks.length c2] tPat))
  have hA := (Below.refl w2.heap.size w2).alloc (Nat.le_refl _) (.cells #[.string nB, .string oB, .slice A2 (revP ⟨oB, nB, P⟩).hunks.length c2] tPat)
  have HX3 := Lib.hid (HX2.out.below hA)
  clear hb ho HV HX1 HB1 hA x0 x1 x2
  go_upto_region 3 with fail
  obtain ⟨W2, hW⟩ : ∃ W, W = w2.alloc (.cells #[.string nB, .string oB, .slice A2 (revP ⟨oB, nB, P⟩).hunks.length c2] tPat) := ⟨_, rfl⟩
  rw [show w2.alloc (.cells #[.string (revP ⟨oB, nB, P⟩).on, .string (revP ⟨oB, nB, P⟩).nn, .slice A2 (revP ⟨oB, nB, P⟩).hunks.length c2] tPat) = W2 from hW.symm] at HY1 ⊢
  rw [← hW] at HB3 HX3
  clear hW
  obtain ⟨y0, y1, y2⟩ := HY1.out.cells
  have HV : Hid (Calls Tryz.prog 19 #[.agg #[.string (revP ⟨oB, nB, P⟩).on, .string (revP ⟨oB, nB, P⟩).nn, .slice A2 (revP ⟨oB, nB, P⟩).hunks.length c2]] W2 _) := Lib.hid (Rv HSm.out.rev HY1.out.2 (HPw.out _ HB3.out))
  unfold PtPost at HV
  rw [HQ2.out] at HV
  go_wp2_with fail
  refine HV.out.mono ?_
  rintro e w3 ⟨v3, rfl, ho, hb⟩
  obtain ⟨A3, c3, rfl⟩ := ho.form
  have HX4 := Lib.hid (HX3.out.below hb)
  have HZ1 := Lib.hid (BxP.new (p := ⟨oB, nB, P⟩) ho.rd)
  have HB4 := Lib.hid (HB3.out.trans (hb.mono HB3.out.size))
  have HB5 := Lib.hid (HB4.out.alloc HB4.out.size (.cells #[.string oB, .string nB, .slice A3 P.length c3] tPat))
  have hA := (Below.refl w3.heap.size w3).alloc (Nat.le_refl _) (.cells #[.string oB, .string nB, .slice A3 P.length c3] tPat)
  have HX5 := Lib.hid (HX4.out.below hA)
  clear hb ho HV HX2 HX3 HX4 HY1 HB2 HB3 HB4 hA y0 y1 y2
  go_upto_region 4 with fail
  obtain ⟨W3, hW⟩ : ∃ W, W = w3.alloc (.cells #[.string oB, .string nB, .slice A3 P.length c3] tPat) := ⟨_, rfl⟩
  rw [← hW] at HZ1 HB5 HX5 ⊢
  clear hW
  go_wp2_with fail
  refine (HNr.out _ HB5.out a hax).mono ?_
  rintro e w4 ⟨d, hd, rfl, hb⟩
  have HX6 := Lib.hid (HX5.out.below hb)
  have HZ2 := Lib.hid (HZ1.out.below hb)
  have HB6 := Lib.hid (HB5.out.trans (hb.mono HB5.out.size))
  have hdx : d.size ≤ 180 := by omega
  obtain ⟨x0, x1, x2⟩ := HX6.out.cells
  have HF : Hid (Calls Tryz.prog 16 #[.agg #[.string oB, .string nB, .slice A1 P.length c1], .string d] w4 _) := Lib.hid (Fits_any ⟨oB, nB, P⟩ _ d w4 HX6.out.2 HSm.out.sm (by omega) (HPw.out _ HB6.out))
  unfold FiPost at HF
  clear hb hd HX5 HZ1 HB5 HNr
  go_wp2_with fail
  refine HF.out.mono ?_
  rintro e w5 ⟨rfl, hb⟩
  have HX7 := Lib.hid (HX6.out.below hb)
  have HZ3 := Lib.hid (HZ2.out.below hb)
  have HB7 := Lib.hid (HB6.out.trans (hb.mono HB6.out.size))
  obtain ⟨x0, x1, x2⟩ := HX7.out.cells
  have HA1 : Hid (Calls Tryz.prog 14 #[.agg #[.string oB, .string nB, .slice A1 P.length c1], .string d] w5 _) := Lib.hid (Ap HSm.out HX7.out.2 (by omega) (HPw.out _ HB7.out))
  clear hb HX6 HZ2 HB6 HF
  go_wp2_with fail
  refine HA1.out.mono ?_
  rintro e w6 ⟨rfl, hb⟩
  have HX8 := Lib.hid (HX7.out.below hb)
  have HZ4 := Lib.hid (HZ3.out.below hb)
  have HB8 := Lib.hid (HB7.out.trans (hb.mono HB7.out.size))
  obtain ⟨x0, x1, x2⟩ := HX8.out.cells
  obtain ⟨z0, z1, z2⟩ := HZ4.out.cells
  have HS : Hid (Calls Tryz.prog 21 #[.agg #[.string oB, .string nB, .slice A1 P.length c1], .agg #[.string oB, .string nB, .slice A3 P.length c3]] w6 (YesPost w6)) := Lib.hid (Patch_same ⟨oB, nB, P⟩ _ _ w6 HX8.out.2 HZ4.out.2 HSm.out.sm.1 (fun g hg => (HSm.out.sm.2 g hg).1))
  unfold YesPost at HS
  have hck0 : Tx.checkF (bs d) = 0 := check_le (by omega)
  have hok := fits_ok (p := ⟨oB, nB, P⟩) (s := d) HCk.out hck0
  obtain ⟨g1, g2⟩ := fits_all (p := ⟨oB, nB, P⟩) (s := d) HCk.out hck0
  have e2 : (fitsF ⟨oB, nB, P⟩ d).2 = 0 := by rw [hok]
  have HE2 := Lib.hid e2
  have HG1 := Lib.hid g1
  have HG2 := Lib.hid g2
  clear hb HX7 HZ3 HB7 HA1 hck0 hok g1 g2
  rw [e2]
  clear e2
  simp only at HG1 HG2
  generalize (fitsF ⟨oB, nB, P⟩ d).1 = n at *
  generalize (applyF ⟨oB, nB, P⟩ d).2 = z at *
  generalize (applyF ⟨oB, nB, P⟩ d).1 = y at *
  generalize P.length = NP at *
  by_cases hn : n = (NP : Int)
  · have f1 : (n == (NP : Int)) = true := by rw [beq_iff_eq]; exact hn
    subst hn
    cases hz : (z != 0) with
    | true =>
      clear HG1 HG2
      go_wp2_with fail
      refine HS.out.mono ?_
      rintro e w7 ⟨rfl, hb⟩
      have HB9 := Lib.hid (HB8.out.trans (hb.mono HB8.out.size))
      obtain ⟨x0, x1, x2⟩ := (HX8.out.below hb).cells
      obtain ⟨z0, z1, z2⟩ := (HZ4.out.below hb).cells
      have HA3 := Lib.hid (HAw.out _ HB9.out)
      clear hb HS HB8
      go_wp2_with fail
      refine HA3.out.mono ?_
      rintro e w8 ⟨rfl, hb⟩
      have HB10 := Lib.hid (HB9.out.trans (hb.mono HB9.out.size))
      clear hb
      go_wp2_with fail
      go_ret
      exact ⟨rfl, HB10.out⟩
    | false =>
      clear HG1 HG2
      go_wp2_with fail
      refine HS.out.mono ?_
      rintro e w7 ⟨rfl, hb⟩
      have HB9 := Lib.hid (HB8.out.trans (hb.mono HB8.out.size))
      obtain ⟨x0, x1, x2⟩ := (HX8.out.below hb).cells
      obtain ⟨z0, z1, z2⟩ := (HZ4.out.below hb).cells
      have HA3 := Lib.hid (HAw.out _ HB9.out)
      clear hb HS HB8
      go_wp2_with fail
      refine HA3.out.mono ?_
      rintro e w8 ⟨rfl, hb⟩
      have HB10 := Lib.hid (HB9.out.trans (hb.mono HB9.out.size))
      clear hb
      go_wp2_with fail
      go_ret
      exact ⟨rfl, HB10.out⟩
  · have hz : z = 140 := HG1.out.resolve_left hn
    have f1 : (n == (NP : Int)) = false := by rw [beq_eq_false_iff_ne]; exact hn
    subst hz
    clear HG1 HG2 hn
    go_wp2_with fail
    refine HS.out.mono ?_
    rintro e w7 ⟨rfl, hb⟩
    have HB9 := Lib.hid (HB8.out.trans (hb.mono HB8.out.size))
    obtain ⟨x0, x1, x2⟩ := (HX8.out.below hb).cells
    obtain ⟨z0, z1, z2⟩ := (HZ4.out.below hb).cells
    have HA3 := Lib.hid (HAw.out _ HB9.out)
    clear hb HS HB8
    go_wp2_with fail
    refine HA3.out.mono ?_
    rintro e w8 ⟨rfl, hb⟩
    have HB10 := Lib.hid (HB9.out.trans (hb.mono HB9.out.size))
    clear hb
    go_wp2_with fail
    go_ret
    exact ⟨rfl, HB10.out⟩
end Pa
end
end
end Go.Proofs.YtjecfmbecgpbmaaGreatDoor

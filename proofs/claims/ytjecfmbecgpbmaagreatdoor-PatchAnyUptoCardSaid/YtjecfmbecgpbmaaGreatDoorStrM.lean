/-
  Reading of written patches, as plain mathematics: the program's reader, line by line, and that a valid patch comes back from its written form. No conditions.
-/
import Derived.Test.YtjecfmbecgpbmaaGreatDoorGUniFmt
import Derived.Test.YtjecfmbecgpbmaaGreatDoorGTextMath
import Derived.Lib.ItoaNum
import Derived.Test.YtjecfmbecgpbmaaGreatDoorScanRange
namespace Go.Proofs.YtjecfmbecgpbmaaGreatDoor
namespace Sc
end Sc
namespace Tx
end Tx
namespace Uf
end Uf
namespace St
open Sc Uf
open Tx (endedF bareF linesF bs_len mk_bs bs_mk bs_append)
abbrev bs := Tx.bs
/-- The lines of a text, without their line feeds. -/
def lnsS (s : List UInt8) : Option (List (List UInt8)) := if s = [] then some [] else if endedF s = true then some ((linesF s).map bareF) else none
theorem ended_lf (l : List UInt8) : endedF (l ++ [10]) = true := by unfold endedF; simp
theorem bare_lf (l : List UInt8) : bareF (l ++ [10]) = l := by unfold bareF; rw [if_pos (ended_lf l), List.dropLast_concat]
def lf (l : List UInt8) : List UInt8 := l ++ [10]
theorem lines_of : ∀ (ls : List (List UInt8)), (∀ l ∈ ls, (10 : UInt8) ∉ l) → linesF (ls.flatMap lf) = ls.map lf
  | [], _ => rfl
  | l :: ls, h => by
    rw [List.flatMap_cons, List.map_cons]
    have e : lf l ++ ls.flatMap lf = l ++ 10 :: ls.flatMap lf := by unfold lf; simp
    rw [e, Tx.linesF_cons _ _ (h l List.mem_cons_self), lines_of ls (fun x hx => h x (List.mem_cons_of_mem _ hx))]
    rfl
theorem flat_ended : ∀ (ls : List (List UInt8)), ls ≠ [] → endedF (ls.flatMap lf) = true
  | [], h => absurd rfl h
  | [l], _ => by simp only [List.flatMap_cons, List.flatMap_nil, List.append_nil]; exact ended_lf l
  | l :: m :: ls, _ => by
    have h := flat_ended (m :: ls) (by simp)
    rw [List.flatMap_cons]
    unfold endedF at h ⊢
    rw [List.getLast?_append]
    cases hg : (List.flatMap lf (m :: ls)).getLast? with
    | none => rw [hg] at h; exact absurd h (by decide)
    | some b => rw [hg] at h; exact h
theorem lnsS_of (ls : List (List UInt8)) (h : ∀ l ∈ ls, (10 : UInt8) ∉ l) : lnsS (ls.flatMap lf) = some ls := by
  unfold lnsS
  cases ls with
  | nil => rfl
  | cons l r =>
    rw [if_neg (by rw [List.flatMap_cons]; unfold lf; simp), if_pos (flat_ended _ (by simp)), lines_of _ h, List.map_map]
    congr 1
    exact (List.map_congr_left (fun x _ => bare_lf x)).trans (List.map_id' _)
/-! ### the written form, line by line -/
def mk0 : List UInt8 := [92, 32, 78, 111, 32, 110, 101, 119, 108, 105, 110, 101, 32, 97, 116, 32, 101, 110, 100, 32, 111, 102, 32, 102, 105, 108, 101]
def wlLn (l : Ln) : List (List UInt8) := (l.kind.toNat.toUInt8 :: bareF (bs l.text)) :: (if endedF (bs l.text) = true then [] else [mk0])
def hd0 (h : PH) : List UInt8 := [64, 64, 32, 45] ++ fmtR h.old (notK 43 h.lines).length ++ [32, 43] ++ fmtR h.new (notK 45 h.lines).length ++ [32, 64, 64]
def wlHk (h : PH) : List (List UInt8) := hd0 h :: h.lines.flatMap wlLn
def wlN (p : Pat) : List (List UInt8) := [[45, 45, 45, 32] ++ quoteF (bs p.on), [43, 43, 43, 32] ++ quoteF (bs p.nn)]
def wl (p : Pat) : List (List UInt8) := wlN p ++ p.hunks.flatMap wlHk
theorem joinL_app (a b : List ByteArray) : joinL (a ++ b) = joinL a ++ joinL b := by unfold joinL; simp
/-! ### a range is read back from the middle of a text -/
/-! ### the program's reader -/
def bareB (t : ByteArray) : ByteArray := ⟨(bareF (bs t)).toArray⟩
def p0 : Pat := ⟨⟨#[]⟩, ⟨#[]⟩, []⟩
def okLn (l : Ln) : Prop := (l.kind = 32 ∨ l.kind = 45 ∨ l.kind = 43) ∧ Tx.isLine (bs l.text) = true
theorem okLn_of {l : Ln} (h : lnB l = true) : okLn l := by
  unfold lnB at h
  simp only [Bool.and_eq_true, Bool.or_eq_true, beq_iff_eq] at h
  exact ⟨by omega, h.2⟩
/-- What a valid hunk keeps. -/
def okHk (h : PH) : Prop := (0 ≤ h.old ∧ h.old ≤ 4096) ∧ (0 ≤ h.new ∧ h.new ≤ 4096) ∧ (notK 43 h.lines).length ≤ 4096 ∧ (notK 45 h.lines).length ≤ 4096 ∧ ∀ l ∈ h.lines, okLn l
/-- What a valid patch keeps. -/
structure okPat (p : Pat) : Prop where
  on : p.on.size ≠ 0
  nn : p.nn.size ≠ 0
  hk : ∀ h ∈ p.hunks, okHk h
theorem goodH_hk : ∀ {hs : List PH} {i j : Int}, 0 ≤ i → 0 ≤ j → goodH i j hs = true → ∀ h ∈ hs, okHk h
  | [], _, _, _, _, _, h, hh => by cases hh
  | a :: hs, i, j, hi, hj, e, h, hh => by
    rw [goodH] at e
    simp only [Bool.and_eq_true] at e
    obtain ⟨e1, -, e3, e4, e5⟩ := e
    unfold posB at e3
    simp only [Bool.not_eq_true', Bool.or_eq_false_iff, decide_eq_false_iff_not] at e3
    unfold roomB at e4
    simp only [Bool.and_eq_true, decide_eq_true_eq] at e4
    have l1 : ∀ k, (notB k a.lines).length = (notK k a.lines).length := fun k => by unfold notB; rw [List.length_map]
    rw [l1, l1] at e4 e5
    rcases List.mem_cons.1 hh with rfl | hh
    · exact ⟨by omega, by omega, by omega, by omega, fun l hl => okLn_of (List.all_eq_true.1 e1 l hl)⟩
    · exact goodH_hk (by omega) (by omega) e5 h hh
theorem okPat_of {p : Pat} (h : chkC p = 0) : okPat p := by
  unfold chkC at h
  split at h
  · rename_i hn
    split at h
    · rename_i hh
      have h1 := hn.1
      have h2 := hn.2
      unfold nameB at h1 h2
      rw [decide_eq_true_iff] at h1 h2
      rw [hks_ref, Bool.and_eq_true] at hh
      exact ⟨by omega, by omega, goodH_hk (Int.le_refl _) (Int.le_refl _) hh.1⟩
    · cases h
  · cases h
end St
end Go.Proofs.YtjecfmbecgpbmaaGreatDoor

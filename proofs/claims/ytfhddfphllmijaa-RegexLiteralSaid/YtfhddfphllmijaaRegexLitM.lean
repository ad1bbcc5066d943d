/-
  The pattern of a literal, as plain mathematics: it is valid, and its nodes are the sets of its bytes. Condition: at most 60 bytes.
-/
import Derived.Test.YtfhddfphllmijaaRegexAdv
import Derived.Test.YtfhddfphllmijaaRegexLit
import Derived.Test.YtfhddfphllmijaaRegexGen
namespace Go.Proofs.Ytfhddfphllmijaa
open Go.RowKit
namespace Px
open Cm Rx
def setB (b : UInt8) : Nd := setN (putM noSet b.toNat)
def idx (s n : Nat) : List Int := (List.range n).map (fun k => ((s + k : Nat) : Int))
theorem idx_cons (s n : Nat) : idx s (n + 1) = (s : Int) :: idx (s + 1) n := by
  unfold idx
  rw [List.range_succ_eq_map, List.map_cons, List.map_map]
  congr 1
  apply List.map_congr_left
  intro k _
  show ((s + (k + 1) : Nat) : Int) = ((s + 1 + k : Nat) : Int)
  congr 1
  omega
theorem lit_cons (b : UInt8) (r : List UInt8) : litF (b :: r) = litB b ++ litF r := rfl
theorem lit_long (r : List UInt8) : r.length ≤ (litF r).length := by
  induction r with
  | nil => exact Nat.zero_le _
  | cons b r ih =>
    rw [lit_cons, List.length_append, List.length_cons]
    have : 1 ≤ (litB b).length := by unfold litB; split <;> simp
    omega
section
variable {L : List UInt8} {p : Option (Nat → List Nd → Res)} {inner : Bool}
theorem spec_not {b : UInt8} (h : specB b = false) : b ≠ 40 ∧ b ≠ 41 ∧ b ≠ 91 ∧ b ≠ 123 ∧ b ≠ 42 ∧ b ≠ 43 ∧ b ≠ 63 ∧ b ≠ 124 ∧ b ≠ 46 ∧ b ≠ 94 ∧ b ≠ 36 ∧ b ≠ 92 := by
  unfold specB at h
  simp only [Bool.or_eq_false_iff, beq_eq_false_iff_ne] at h
  obtain ⟨⟨⟨⟨⟨⟨⟨⟨⟨⟨⟨h0, h1⟩, h2⟩, h3⟩, h4⟩, h5⟩, h6⟩, h7⟩, h8⟩, h9⟩, h10⟩, h11⟩ := h
  exact ⟨h0, h1, h2, h3, h4, h5, h6, h7, h8, h9, h10, h11⟩
/-- What stands at a literal's place. -/
theorem lit_head {pre r : List UInt8} {b : UInt8} (h : L = pre ++ litF (b :: r)) : (specB b = true ∧ L[pre.length]? = some 92 ∧ L[pre.length + 1]? = some b ∧ L = (pre ++ [92, b]) ++ litF r) ∨ (specB b = false ∧ L[pre.length]? = some b ∧ L = (pre ++ [b]) ++ litF r) := by
  rw [lit_cons] at h
  cases hs : specB b with
  | true =>
    left
    rw [show litB b = [92, b] from by unfold litB; rw [if_pos hs]] at h
    refine ⟨rfl, ?_, ?_, by rw [h, List.append_assoc]⟩
    · rw [h, List.getElem?_append_right (Nat.le_refl _), Nat.sub_self]; rfl
    · rw [h, List.getElem?_append_right (by omega), show pre.length + 1 - pre.length = 1 from by omega]; rfl
  | false =>
    right
    rw [show litB b = [b] from by unfold litB; rw [if_neg (by rw [hs]; simp)]] at h
    refine ⟨rfl, ?_, by rw [h, List.append_assoc]⟩
    rw [h, List.getElem?_append_right (Nat.le_refl _), Nat.sub_self]; rfl
theorem lit_quant {pre r : List UInt8} (h : L = pre ++ litF r) : quantF L pre.length = none := by
  unfold quantF
  cases r with
  | nil =>
    rw [show L[pre.length]? = none from by rw [h]; simp [litF]]
  | cons b r =>
    rcases lit_head h with ⟨_, h1, _⟩ | ⟨hs, h1, _⟩
    · rw [h1]; rfl
    · rw [h1]
      obtain ⟨h40, h41, h91, h123, h42, h43, h63, _⟩ := spec_not hs
      simp only
      rw [if_neg h42, if_neg h43, if_neg h63, if_neg h123]
theorem lit_pieces (r : List UInt8) : ∀ (pre : List UInt8) (f : Nat) (ns : List Nd) (kids : List Int), L = pre ++ litF r → r.length < f → piecesF L p inner f pre.length ns kids = .ok (kids ++ idx ns.length r.length, L.length, ns ++ r.map setB) := by
  induction r with
  | nil =>
    intro pre f ns kids h hf
    obtain ⟨f', rfl⟩ : ∃ f', f = f' + 1 := ⟨f - 1, by simp at hf; omega⟩
    have hL : L = pre := by rw [h]; simp [litF]
    unfold piecesF
    rw [show moreF L inner pre.length = false from by unfold moreF; rw [hL, List.getElem?_eq_none (Nat.le_refl _)]]
    simp only [Bool.false_eq_true, if_false]
    rw [hL]
    simp [idx]
  | cons b r ih =>
    intro pre f ns kids h hf
    obtain ⟨f', rfl⟩ : ∃ f', f = f' + 1 := ⟨f - 1, by omega⟩
    have hfin : ∀ (q : List UInt8), L = q ++ litF r → piecesF L p inner f' q.length (ns ++ [setB b]) (kids ++ [(ns.length : Int)]) = .ok (kids ++ idx ns.length (b :: r).length, L.length, ns ++ (b :: r).map setB) := fun q hq => by
      rw [ih q f' _ _ hq (by simp at hf; omega), List.length_append, List.length_singleton, List.length_cons, idx_cons, List.append_assoc, List.append_assoc]
      rfl
    unfold piecesF
    rcases lit_head h with ⟨hs, h1, h2, h3⟩ | ⟨hs, h1, h3⟩
    · rw [show moreF L inner pre.length = true from by unfold moreF; rw [h1]; rfl, if_pos rfl]
      have hat : atomF L p pre.length ns = .ok ((ns.length : Int), pre.length + 2, ns ++ [setB b]) := by
        unfold atomF
        rw [h1]
        simp only [show ((92 : UInt8) = 40) = False from by decide, show ((92 : UInt8) = 91) = False from by decide, show ((92 : UInt8) = 46) = False from by decide, show ((92 : UInt8) = 94) = False from by decide, show ((92 : UInt8) = 36) = False from by decide, show noAtom 92 = false from rfl, if_false, if_true, Bool.false_eq_true, h2]
        rfl
      have hq := lit_quant h3
      rw [show (pre ++ [92, b]).length = pre.length + 2 from by simp] at hq
      have hp : pieceF L p pre.length ns = .ok ((ns.length : Int), pre.length + 2, ns ++ [setB b]) := by
        unfold pieceF
        rw [hat]
        simp only
        rw [hq]
      rw [hp]
      have := hfin (pre ++ [92, b]) h3
      rwa [show (pre ++ [92, b]).length = pre.length + 2 from by simp] at this
    · obtain ⟨h40, h41, h91, h123, h42, h43, h63, h124, h46, h94, h36, h92⟩ := spec_not hs
      rw [show moreF L inner pre.length = true from by unfold moreF; rw [h1]; simp [h124, h41], if_pos rfl]
      have hat : atomF L p pre.length ns = .ok ((ns.length : Int), pre.length + 1, ns ++ [setB b]) := by
        unfold atomF
        rw [h1]
        simp only
        rw [if_neg h40, if_neg h91, if_neg h46, if_neg h94, if_neg h36, show noAtom b = false from by unfold noAtom; simp [h41, h124, h42, h43, h63, h123], if_neg (by simp), if_neg h92]
        rfl
      have hq := lit_quant h3
      rw [show (pre ++ [b]).length = pre.length + 1 from by simp] at hq
      have hp : pieceF L p pre.length ns = .ok ((ns.length : Int), pre.length + 1, ns ++ [setB b]) := by
        unfold pieceF
        rw [hat]
        simp only
        rw [hq]
      rw [hp]
      have := hfin (pre ++ [b]) h3
      rwa [show (pre ++ [b]).length = pre.length + 1 from by simp] at this
end
/-- The nodes of a literal. -/
def nodesL (l : List UInt8) : List Nd :=
  match l with
  | [] => [plainN 0]
  | [b] => [setB b]
  | l => l.map setB ++ [manyN 4 (upTo l.length)]
theorem idx_upTo (n : Nat) : idx 0 n = upTo n := by
  unfold idx upTo
  apply List.map_congr_left
  intro k _
  rw [Nat.zero_add]
theorem parse_lit (l : List UInt8) (hl : l.length ≤ 100) : parseF (litF l) = .ok (nodesL l) := by
  have h2 := lit_len l
  have h3 := lit_long l
  unfold parseF
  rw [if_neg (by omega)]
  have hpc := lit_pieces (L := litF l) (p := some (groupF (litF l) 49)) (inner := false) l [] ((litF l).length + 1) [] [] rfl (by omega)
  have hend : (litF l)[(litF l).length]? = none := List.getElem?_eq_none (Nat.le_refl _)
  have hal : ∀ (ns : List Nd) (kids : List Int), altsF (litF l) (some (groupF (litF l) 49)) false ((litF l).length + 1) (litF l).length ns kids = .ok (kids, (litF l).length, ns) := fun ns kids => by
    unfold altsF
    rw [if_neg (by rw [hend]; simp)]
  unfold patF altF
  rw [show ([] : List UInt8).length = 0 from rfl] at hpc
  rw [hpc]
  rcases l with _ | ⟨b, _ | ⟨b2, r⟩⟩
  · simp only [List.length_nil, idx, List.range_zero, List.map_nil, List.append_nil]
    rw [hal]
    simp only
    rw [if_neg (Nat.lt_irrefl _)]
    rfl
  · have e : ([] ++ idx ([] : List Nd).length [b].length : List Int) = [0] := rfl
    rw [e]
    simp only
    rw [hal]
    simp only
    rw [if_neg (Nat.lt_irrefl _)]
    rfl
  · have e : ([] ++ idx ([] : List Nd).length (b :: b2 :: r).length : List Int) = 0 :: 1 :: idx 2 r.length := by
      rw [List.nil_append, List.length_nil, List.length_cons, List.length_cons, idx_cons, idx_cons]
      rfl
    have e2 : (0 :: 1 :: idx 2 r.length : List Int) = upTo (b :: b2 :: r).length := by
      rw [← e, List.nil_append, List.length_nil, idx_upTo]
    rw [e]
    simp only
    rw [hal]
    simp only
    rw [if_neg (Nat.lt_irrefl _), e2]
    rfl
end Px
end Go.Proofs.Ytfhddfphllmijaa

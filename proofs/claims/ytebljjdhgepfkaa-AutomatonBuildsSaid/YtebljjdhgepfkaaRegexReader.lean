/-
  The reference's reader of patterns: what its blocks hold; fail, is, node. Conditions: short patterns, at most a million nodes.
-/
import Derived.Test.YtebljjdhgepfkaaRegexNode
import Derived.Deep.AppendLies
import Derived.Deep.RegionLaw
namespace Go.Proofs.Ytebljjdhgepfkaa
open Go.RowKit
namespace Rx
open Cm
abbrev tRd : TypeId := 64
theorem tRd_ne : tNode ≠ tRd := by decide
/-- The reader's block, and its nodes. -/
def Rdr (w : World) (base rb : Nat) (s : ByteArray) (at_ depth e : Int) (ns : List Nd) (ks : List Value) : Prop :=
  ∃ v, base ≤ rb ∧ w.heap[rb]? = some (.cells #[.string s, .int .i64 at_, .int .i64 depth, v, .int .i64 e] tRd (0, 0)) ∧ OwnN w base v ns ks
abbrev KeptR (w w' : World) : Prop := KeptX tRd tNode w w'
theorem rdr_cells {w : World} {rb : Nat} {s : ByteArray} {a d e : Int} {v : Value} (h : w.heap[rb]? = some (.cells #[.string s, .int .i64 a, .int .i64 d, v, .int .i64 e] tRd (0, 0))) :
    w.cell? ⟨rb, 0, none⟩ = some (.string s) ∧ w.cell? ⟨rb, 1, none⟩ = some (.int .i64 a) ∧ w.cell? ⟨rb, 2, none⟩ = some (.int .i64 d) ∧ w.cell? ⟨rb, 3, none⟩ = some v ∧ w.cell? ⟨rb, 4, none⟩ = some (.int .i64 e) ∧ ∀ j, w.frozen? ⟨rb, j, none⟩ = false := by
  refine ⟨?_, ?_, ?_, ?_, ?_, fun j => ?_⟩
  · simp [World.cell?, h]
  · simp [World.cell?, h]
  · simp [World.cell?, h]
  · simp [World.cell?, h]
  · simp [World.cell?, h]
  · simp [World.frozen?, h]
theorem set_block {w : World} {b o : Nat} {cs : Array Value} {t : TypeId} {u : Value} (h : w.heap[b]? = some (.cells cs t (0, 0))) : (w.setCell ⟨b, o, none⟩ u).heap[b]? = some (.cells (cs.setIfInBounds o u) t (0, 0)) :=
  heap_setCell_same w b o cs t u h
/-- Nodes stay while a cell of the reader's block is written. -/
theorem OwnN.setCell {w : World} {base b o : Nat} {v u : Value} {ns : List Nd} {ks : List Value} {cs : Array Value} {t : TypeId} (h : OwnN w base v ns ks) (hb : w.heap[b]? = some (.cells cs t (0, 0))) (h1 : tNode ≠ t) (h2 : tInt ≠ t) : OwnN (w.setCell ⟨b, o, none⟩ u) base v ns ks := by
  have hk : ∀ (e : TypeId) (size n : Nat) (x : Value) (xs : List Value), e ≠ t → w.ownsRow base e size x n xs → (w.setCell ⟨b, o, none⟩ u).ownsRow base e size x n xs := fun e size n x xs hne hx => by
    refine ownsRow_setCell_other hx ?_ u
    intro hkv
    rcases hx.2 with ⟨rfl, _⟩ | ⟨g, cap, cur, rfl, _, hh, _⟩
    · simp [Value.ownBlock] at hkv
    · have : g = b := by simpa [Value.ownBlock] using hkv
      subst this
      rw [hb] at hh
      injection hh with hh
      injection hh with _ ht
      exact hne ht.symm
  exact ⟨h.1, hk _ _ _ _ _ h1 h.2.1, fun j a c => hk _ _ _ _ _ h2 (h.2.2 j a c)⟩
theorem OwnN.drewN {w : World} {base : Nat} {v : Value} {ns : List Nd} {ks : List Value} (h : OwnN w base v ns ks) (m : Nat) : OwnN (w.drewN m) base v ns ks := by
  induction m generalizing w with
  | zero => exact h
  | succ m ih => exact ih (w := w.drew) h
theorem Rdr.drewN {w : World} {base rb : Nat} {s : ByteArray} {a d e : Int} {ns : List Nd} {ks : List Value} (h : Rdr w base rb s a d e ns ks) (m : Nat) : Rdr (w.drewN m) base rb s a d e ns ks := by
  induction m generalizing w with
  | zero => exact h
  | succ m ih => exact ih (w := w.drew) h
theorem Rdr.size {w : World} {base rb : Nat} {s : ByteArray} {a d e : Int} {ns : List Nd} {ks : List Value} (h : Rdr w base rb s a d e ns ks) : base ≤ w.heap.size := by
  obtain ⟨v, hb, hh, _⟩ := h
  have := lt_some hh; omega
theorem Rdr.setAt {w : World} {base rb : Nat} {s : ByteArray} {a d e : Int} {ns : List Nd} {ks : List Value} (h : Rdr w base rb s a d e ns ks) (z : Int) : Rdr (w.setCell ⟨rb, 1, none⟩ (.int .i64 z)) base rb s z d e ns ks ∧ Below base w (w.setCell ⟨rb, 1, none⟩ (.int .i64 z)) ∧ KeptR w (w.setCell ⟨rb, 1, none⟩ (.int .i64 z)) := by
  obtain ⟨v, hb, hh, hn⟩ := h
  exact ⟨⟨v, hb, set_block hh, hn.setCell hh (by decide) (by decide)⟩, (Below.refl _ _).setCell (p := ⟨rb, 1, none⟩) hb _, KeptX.store hh⟩
theorem Rdr.setDepth {w : World} {base rb : Nat} {s : ByteArray} {a d e : Int} {ns : List Nd} {ks : List Value} (h : Rdr w base rb s a d e ns ks) (z : Int) : Rdr (w.setCell ⟨rb, 2, none⟩ (.int .i64 z)) base rb s a z e ns ks ∧ Below base w (w.setCell ⟨rb, 2, none⟩ (.int .i64 z)) ∧ KeptR w (w.setCell ⟨rb, 2, none⟩ (.int .i64 z)) := by
  obtain ⟨v, hb, hh, hn⟩ := h
  exact ⟨⟨v, hb, set_block hh, hn.setCell hh (by decide) (by decide)⟩, (Below.refl _ _).setCell (p := ⟨rb, 2, none⟩) hb _, KeptX.store hh⟩
theorem Rdr.setErr {w : World} {base rb : Nat} {s : ByteArray} {a d e : Int} {ns : List Nd} {ks : List Value} (h : Rdr w base rb s a d e ns ks) (z : Int) : Rdr (w.setCell ⟨rb, 4, none⟩ (.int .i64 z)) base rb s a d z ns ks ∧ Below base w (w.setCell ⟨rb, 4, none⟩ (.int .i64 z)) ∧ KeptR w (w.setCell ⟨rb, 4, none⟩ (.int .i64 z)) := by
  obtain ⟨v, hb, hh, hn⟩ := h
  exact ⟨⟨v, hb, set_block hh, hn.setCell hh (by decide) (by decide)⟩, (Below.refl _ _).setCell (p := ⟨rb, 4, none⟩) hb _, KeptX.store hh⟩
section
variable {w : World} {base rb : Nat} {s : ByteArray} {a d e : Int} {ns : List Nd} {ks : List Value}
/-- The first error counts. -/
theorem fail_first (h : Rdr w base rb s a d 0 ns ks) (c : Int) : Calls Try.prog 28 #[.pointer (some ⟨rb, 0, none⟩), .int .i64 c] w fun en w' => en = .returned (.int .i64 0) ∧ Rdr w' base rb s a d c ns ks ∧ Below base w w' ∧ KeptR w w' := by
  have HS := Lib.hid (h.setErr c)
  obtain ⟨v, hb, hh, hn⟩ := h
  obtain ⟨c0, c1, c2, c3, c4, hf⟩ := rdr_cells hh
  have f4 := hf 4
  clear hh hn hf
  go_enter Try.func28, Try.ntmps28
  go_wp2_with fail
  go_ret
  exact ⟨rfl, HS.out⟩
theorem fail_later (h : Rdr w base rb s a d e ns ks) (he : e ≠ 0) (c : Int) : Calls Try.prog 28 #[.pointer (some ⟨rb, 0, none⟩), .int .i64 c] w fun en w' => en = .returned (.int .i64 0) ∧ w = w' := by
  obtain ⟨v, hb, hh, hn⟩ := h
  obtain ⟨c0, c1, c2, c3, c4, hf⟩ := rdr_cells hh
  have e1 : (e == 0) = false := by rw [beq_eq_false_iff_ne]; exact he
  clear hh hn hf he
  go_enter Try.func28, Try.ntmps28
  go_wp2_with fail
  go_ret
  exact ⟨rfl, rfl⟩
/-- Is the next byte this one? -/
def isF (l : List UInt8) (at_ : Nat) (c : Nat) : Bool := match l[at_]? with | some b => b.toNat == c | none => false
set_option maxRecDepth 100000 in
theorem is_any {at_ : Nat} (h : Rdr w base rb s at_ d e ns ks) (c : Nat) : Calls Try.prog 44 #[.pointer (some ⟨rb, 0, none⟩), .int .u8 (c : Int)] w fun en w' => en = .returned (.bool (isF (Tx.bs s) at_ c)) ∧ ∃ m, w' = w.drewN m := by
  obtain ⟨v, hb, hh, hn⟩ := h
  obtain ⟨c0, c1, c2, c3, c4, hf⟩ := rdr_cells hh
  clear hh hn hf
  by_cases hlt : at_ < s.size
  · have HF : Hid (isF (Tx.bs s) at_ c = (((s[at_].toNat : Nat) : Int) == (c : Int))) := Lib.hid (by
      unfold isF
      rw [Tx.bs_get? s at_ hlt]
      simp only
      rw [Bool.eq_iff_iff, beq_iff_eq, beq_iff_eq]; omega)
    have i1 : (0 : Int) ≤ (at_ : Int) := by omega
    have i2 : (at_ : Int) < (s.size : Int) := by omega
    go_enter Try.func44, Try.ntmps44
    go_wp2_with fail
    go_quiet (fail)
    go_wp2_with fail
    go_ret
    exact ⟨by rw [HF.out]; rfl, _, rfl⟩
  · have HF : Hid (isF (Tx.bs s) at_ c = false) := Lib.hid (by
      unfold isF
      rw [List.getElem?_eq_none (by rw [Tx.bs_len]; omega)])
    have hd : decide (at_ < s.size) = false := by simp only [decide_eq_false_iff_not]; omega
    go_enter Try.func44, Try.ntmps44
    go_wp2_with fail
    go_quiet (fail)
    go_wp2_with fail
    go_ret
    exact ⟨by rw [HF.out]; rfl, _, rfl⟩
end
end Rx
end Go.Proofs.Ytebljjdhgepfkaa

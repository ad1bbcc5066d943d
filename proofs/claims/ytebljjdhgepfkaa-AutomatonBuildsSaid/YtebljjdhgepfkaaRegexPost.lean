/-
  What a step of the reference's parser leaves. No conditions.
-/
import Derived.Test.YtebljjdhgepfkaaRegexBounds
import Derived.Test.YtebljjdhgepfkaaRegexAdv
namespace Go.Proofs.Ytebljjdhgepfkaa
open Go.RowKit
namespace Rx
open Cm
/-- A value's block is none of the first n. -/
def Late (n : Nat) (kv : Value) : Prop := ∀ g, kv.ownBlock = some g → n ≤ g
theorem Late.mono {n n' : Nat} {kv : Value} (h : Late n kv) (hn : n' ≤ n) : Late n' kv := fun g hg => Nat.le_trans hn (h g hg)
/-- The reader's block after an error. -/
def RdE (w : World) (base rb : Nat) (s : ByteArray) (a d c : Int) : Prop := ∃ v, base ≤ rb ∧ w.heap[rb]? = some (.cells #[.string s, .int .i64 a, .int .i64 d, v, .int .i64 c] tRd (0, 0))
theorem Rdr.err {w : World} {base rb : Nat} {s : ByteArray} {a d e : Int} {ns : List Nd} {ks : List Value} (h : Rdr w base rb s a d e ns ks) : RdE w base rb s a d e := by
  obtain ⟨v, h1, h2, _⟩ := h; exact ⟨v, h1, h2⟩
section
variable {w : World} {base rb : Nat} {s : ByteArray} {a d c : Int}
theorem RdE.drewN (h : RdE w base rb s a d c) (m : Nat) : RdE (w.drewN m) base rb s a d c := by
  induction m generalizing w with
  | zero => exact h
  | succ m ih => exact ih (w := w.drew) h
theorem RdE.setAt (h : RdE w base rb s a d c) (z : Int) : RdE (w.setCell ⟨rb, 1, none⟩ (.int .i64 z)) base rb s z d c ∧ Below base w (w.setCell ⟨rb, 1, none⟩ (.int .i64 z)) ∧ KeptR w (w.setCell ⟨rb, 1, none⟩ (.int .i64 z)) := by
  obtain ⟨v, hb, hh⟩ := h
  exact ⟨⟨v, hb, set_block hh⟩, (Below.refl _ _).setCell (p := ⟨rb, 1, none⟩) hb _, KeptX.store hh⟩
theorem RdE.setDepth (h : RdE w base rb s a d c) (z : Int) : RdE (w.setCell ⟨rb, 2, none⟩ (.int .i64 z)) base rb s a z c ∧ Below base w (w.setCell ⟨rb, 2, none⟩ (.int .i64 z)) ∧ KeptR w (w.setCell ⟨rb, 2, none⟩ (.int .i64 z)) := by
  obtain ⟨v, hb, hh⟩ := h
  exact ⟨⟨v, hb, set_block hh⟩, (Below.refl _ _).setCell (p := ⟨rb, 2, none⟩) hb _, KeptX.store hh⟩
end
def RPost (w : World) (base rb : Nat) (s : ByteArray) (D : Int) (_ns : List Nd) (ks : List Value) (r : Res) (en : Ending) (w' : World) : Prop :=
  match r with
  | .ok (k, a, ns2) => en = .returned (.int .i64 k) ∧ (∃ ks2, Rdr w' base rb s (a : Int) D 0 ns2 (ks ++ ks2) ∧ ∀ kv ∈ ks2, Late w.heap.size kv) ∧ Below base w w' ∧ KeptR w w'
  | .error c => (∃ z, en = .returned (.int .i64 z)) ∧ c ≠ 0 ∧ (∃ (a d : Int), RdE w' base rb s a d c) ∧ Below base w w' ∧ KeptR w w'
section
variable {w w1 w2 : World} {base rb : Nat} {s : ByteArray} {D : Int} {ns ns2 : List Nd} {ks : List Value}
/-- A step before, in the same call. -/
theorem RPost.before {r : Res} {en : Ending} {ks1 : List Value} {ns1 : List Nd} (hb : Below base w w1) (hk : KeptR w w1) (h1 : ∀ kv ∈ ks1, Late w.heap.size kv) (h : RPost w1 base rb s D ns1 (ks ++ ks1) r en w2) : RPost w base rb s D ns ks r en w2 := by
  cases r with
  | error c =>
    obtain ⟨a, b, c, d, e⟩ := h
    exact ⟨a, b, c, hb.trans d, hk.trans e⟩
  | ok x =>
    obtain ⟨k, a, ns3⟩ := x
    obtain ⟨h2, ⟨ks2, h3, h4⟩, h5, h6⟩ := h
    refine ⟨h2, ⟨ks1 ++ ks2, by rw [← List.append_assoc]; exact h3, fun kv hkv => ?_⟩, hb.trans h5, hk.trans h6⟩
    rcases List.mem_append.1 hkv with hkv | hkv
    · exact h1 kv hkv
    · exact (h4 kv hkv).mono hb.size
theorem RPost.before' {r : Res} {en : Ending} {ns1 : List Nd} (hb : Below base w w1) (hk : KeptR w w1) (h : RPost w1 base rb s D ns1 ks r en w2) : RPost w base rb s D ns ks r en w2 :=
  RPost.before (ns1 := ns1) (ks1 := []) hb hk (fun kv h => by cases h) (by rw [List.append_nil]; exact h)
theorem RPost.int {r : Res} {en : Ending} (h : RPost w base rb s D ns ks r en w2) : ∃ z, en = .returned (.int .i64 z) := by
  cases r with
  | error c => exact h.1
  | ok x => obtain ⟨k, a, ns3⟩ := x; exact ⟨k, h.1⟩
/-- One node, and the place moved before it. -/
theorem RPost_one {a : Nat} {n : Nd} {k : Value} {d : Int} (h0 : d = D) (hset : Below base w w1 ∧ KeptR w w1) (hk : Late w.heap.size k)
    (h : Rdr w2 base rb s (a : Int) d 0 (ns ++ [n]) (ks ++ [k]) ∧ Below base w1 w2 ∧ KeptR w1 w2) : RPost w base rb s D ns ks (.ok (ns.length, a, ns ++ [n])) (.returned (.int .i64 (ns.length : Int))) w2 := by
  subst h0
  exact ⟨rfl, ⟨[k], h.1, fun kv hkv => by rw [List.mem_singleton] at hkv; subst hkv; exact hk⟩, hset.1.trans h.2.1, hset.2.trans h.2.2⟩
theorem RPost_fail {a d e c : Int} {ks' : List Value} (hc : c ≠ 0) (hset : Below base w w1 ∧ KeptR w w1) (h : Rdr w2 base rb s a d c ns2 ks' ∧ Below base w1 w2 ∧ KeptR w1 w2) : RPost w base rb s D ns ks (.error c) (.returned (.int .i64 e)) w2 :=
  ⟨⟨_, rfl⟩, hc, ⟨_, _, h.1.err⟩, hset.1.trans h.2.1, hset.2.trans h.2.2⟩
/-- New blocks alone: the reader stays. -/
theorem Rdr_below {a d e : Int} {ns' : List Nd} {ks' : List Value} (h : Rdr w1 base rb s a d e ns' ks' ∧ Below base w w1 ∧ KeptR w w1) (hb : Below w1.heap.size w1 w2) : Rdr w2 base rb s a d e ns' ks' ∧ Below base w w2 ∧ KeptR w w2 := by
  obtain ⟨⟨v, b, hh, hn⟩, h2, h3⟩ := h
  have hs : ∀ k, k < w1.heap.size → w2.heap[k]? = w1.heap[k]? := hb.block
  have hl := lt_some hh
  refine ⟨⟨v, b, (hs rb hl).trans hh, hn.1, own_same hn.2.1 hs, fun j c1 c2 => own_same (hn.2.2 j c1 c2) hs⟩, h2.trans (hb.mono (by omega)), fun k cur t a1 a2 a3 => ?_⟩
  have h4 := h3 k cur t a1 a2 a3
  exact (hs k (lt_some (h4.trans a3))).trans h4
theorem late_nil (n : Nat) : Late n (.slice none 0 0) := fun g h => by cases h
end
/-- A class does what the document says. -/
def ClassOk (s : ByteArray) : Prop := ∀ (w : World) (base rb at_ : Nat) (D : Int) (ns : List Nd) (ks : List Value), Rdr w base rb s (at_ : Int) D 0 ns ks → at_ ≤ s.size → ns.length ≤ 1000000 →
  Calls Try.prog 88 #[.pointer (some ⟨rb, 0, none⟩)] w (RPost w base rb s D ns ks (match classF (Tx.bs s) at_ with | none => .error 40 | some (m, a) => .ok (ns.length, a, ns ++ [setN m])))
end Rx
end Go.Proofs.Ytebljjdhgepfkaa

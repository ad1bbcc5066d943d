/-
  The program's parser of patterns: what its blocks hold; take, next, add. Conditions: short patterns, at most a million nodes.
-/
import Derived.Test.YtgadomcbaenodaaRegexReaderB
import Derived.WalkLawsBesides
namespace Go.Proofs.Ytgadomcbaenodaa
open Go.RowKit
namespace Rx
open Cm
abbrev tPs : TypeId := 57
/-- A panic with one of the document's errors. -/
abbrev pan (c : Int) : Ending := .panicked [{ v := .iface 24 (.int .i64 c), recovered := false }]
/-- The parser's block, and its nodes. -/
def Prs (w : World) (base rb : Nat) (s : ByteArray) (at_ depth : Int) (ns : List Nd) (ks : List Value) : Prop :=
  ∃ v, base ≤ rb ∧ w.heap[rb]? = some (.cells #[.string s, .int .i64 at_, .int .i64 depth, v] tPs (0, 0)) ∧ OwnN w base v ns ks
abbrev KeptP (w w' : World) : Prop := KeptX tPs tNode w w'
theorem prs_cells {w : World} {rb : Nat} {s : ByteArray} {a d : Int} {v : Value} (h : w.heap[rb]? = some (.cells #[.string s, .int .i64 a, .int .i64 d, v] tPs (0, 0))) :
    w.cell? ⟨rb, 0, none⟩ = some (.string s) ∧ w.cell? ⟨rb, 1, none⟩ = some (.int .i64 a) ∧ w.cell? ⟨rb, 2, none⟩ = some (.int .i64 d) ∧ w.cell? ⟨rb, 3, none⟩ = some v ∧ ∀ j, w.frozen? ⟨rb, j, none⟩ = false := by
  refine ⟨?_, ?_, ?_, ?_, fun j => ?_⟩
  · simp [World.cell?, h]
  · simp [World.cell?, h]
  · simp [World.cell?, h]
  · simp [World.cell?, h]
  · simp [World.frozen?, h]
theorem blw_drewN {a b : World} {B : Nat} (m : Nat) (h : Below B (a.drewN m) b) : Below B a b := (below_drewN (Below.refl _ _) m).trans h
section
variable {w : World} {base rb : Nat} {s : ByteArray} {a d : Int} {ns : List Nd} {ks : List Value}
theorem Prs.drewN (h : Prs w base rb s a d ns ks) (m : Nat) : Prs (w.drewN m) base rb s a d ns ks := by
  induction m generalizing w with
  | zero => exact h
  | succ m ih => exact ih (w := w.drew) h
theorem Prs.size (h : Prs w base rb s a d ns ks) : base ≤ w.heap.size := by
  obtain ⟨v, hb, hh, _⟩ := h
  have := lt_some hh; omega
theorem Prs.setAt (h : Prs w base rb s a d ns ks) (z : Int) : Prs (w.setCell ⟨rb, 1, none⟩ (.int .i64 z)) base rb s z d ns ks ∧ Below base w (w.setCell ⟨rb, 1, none⟩ (.int .i64 z)) ∧ KeptP w (w.setCell ⟨rb, 1, none⟩ (.int .i64 z)) := by
  obtain ⟨v, hb, hh, hn⟩ := h
  exact ⟨⟨v, hb, set_block hh, hn.setCell hh (by decide) (by decide)⟩, (Below.refl _ _).setCell (p := ⟨rb, 1, none⟩) hb _, KeptX.store hh⟩
theorem Prs.setDepth (h : Prs w base rb s a d ns ks) (z : Int) : Prs (w.setCell ⟨rb, 2, none⟩ (.int .i64 z)) base rb s a z ns ks ∧ Below base w (w.setCell ⟨rb, 2, none⟩ (.int .i64 z)) ∧ KeptP w (w.setCell ⟨rb, 2, none⟩ (.int .i64 z)) := by
  obtain ⟨v, hb, hh, hn⟩ := h
  exact ⟨⟨v, hb, set_block hh, hn.setCell hh (by decide) (by decide)⟩, (Below.refl _ _).setCell (p := ⟨rb, 2, none⟩) hb _, KeptX.store hh⟩
/-- New blocks alone: the parser stays. -/
theorem Prs.below {w1 w2 : World} {ns' : List Nd} {ks' : List Value} (h : Prs w1 base rb s a d ns' ks' ∧ Below base w w1 ∧ KeptP w w1) (hb : Below w1.heap.size w1 w2) : Prs w2 base rb s a d ns' ks' ∧ Below base w w2 ∧ KeptP w w2 := by
  obtain ⟨⟨v, b, hh, hn⟩, h2, h3⟩ := h
  have hs : ∀ k, k < w1.heap.size → w2.heap[k]? = w1.heap[k]? := hb.block
  have hl := lt_some hh
  refine ⟨⟨v, b, (hs rb hl).trans hh, hn.1, own_same hn.2.1 hs, fun j c1 c2 => own_same (hn.2.2 j c1 c2) hs⟩, h2.trans (hb.mono (by omega)), fun k cur t a1 a2 a3 => ?_⟩
  have h4 := h3 k cur t a1 a2 a3
  exact (hs k (lt_some (h4.trans a3))).trans h4
/-- What 'take' leaves. -/
def TakeP (w : World) (base rb : Nat) (s : ByteArray) (at_ : Nat) (D : Int) (ns : List Nd) (ks : List Value) (c : UInt8) (e : Ending) (w' : World) : Prop :=
  if (Tx.bs s)[at_]? = some c then e = .returned (.bool true) ∧ Prs w' base rb s ((at_ + 1 : Nat) : Int) D ns ks ∧ Below base w w' ∧ KeptP w w'
  else e = .returned (.bool false) ∧ ∃ m, w' = w.drewN m
set_option maxRecDepth 100000 in
theorem take_any {at_ : Nat} {D : Int} (h : Prs w base rb s at_ D ns ks) (ha : at_ ≤ s.size) (hs : s.size ≤ 1000000) (c : UInt8) (n : Nat) (hc : c.toNat = n) : Calls Try.prog 31 #[.pointer (some ⟨rb, 0, none⟩), .int .u8 (n : Int)] w (TakeP w base rb s at_ D ns ks c) := by
  have HSet : Hid (∀ (q : Nat), Prs ((w.drewN q).setCell ⟨rb, 1, none⟩ (.int .i64 ((at_ : Int) + 1))) base rb s ((at_ + 1 : Nat) : Int) D ns ks ∧ Below base w ((w.drewN q).setCell ⟨rb, 1, none⟩ (.int .i64 ((at_ : Int) + 1))) ∧ KeptP w ((w.drewN q).setCell ⟨rb, 1, none⟩ (.int .i64 ((at_ : Int) + 1)))) := Lib.hid (fun q => by
    obtain ⟨r1, r2, r3⟩ := (h.drewN q).setAt ((at_ : Int) + 1)
    exact ⟨r1, blw_drewN q r2, (KeptX.drewN _ _).trans r3⟩)
  obtain ⟨v, hb, hh, hn⟩ := h
  obtain ⟨c0, c1, c2, c3, hf⟩ := prs_cells hh
  have f1 := hf 1
  clear hh hn hf
  by_cases hlt : at_ < s.size
  · have i1 : (0 : Int) ≤ (at_ : Int) := by omega
    have i2 : (at_ : Int) < (s.size : Int) := by omega
    have e0 : ((at_ : Int) == (s.size : Int)) = false := by rw [beq_eq_false_iff_ne]; omega
    by_cases hx : s[at_] = c
    · have HP : Hid ((Tx.bs s)[at_]? = some c) := Lib.hid (by rw [Tx.bs_get? s at_ hlt, hx])
      have x1 : s[at_].toNat = n := by rw [hx, hc]
      clear hx
      go_enter Try.func31, Try.ntmps31
      go_wp2_with fail
      go_quiet (fail)
      go_wp2_with fail
      go_ret
      unfold TakeP
      rw [if_pos HP.out]
      exact ⟨rfl, HSet.out _⟩
    · have HP : Hid (¬ (Tx.bs s)[at_]? = some c) := Lib.hid (by rw [Tx.bs_get? s at_ hlt]; intro e; exact hx (Option.some.inj e))
      have x1 : ((s[at_].toNat : Int) == (n : Int)) = false := by rw [beq_eq_false_iff_ne]; intro e; apply hx; apply UInt8.toNat_inj.1; omega
      have x2 : ((s[at_].toNat : Int) != (n : Int)) = true := by rw [bne, x1]; rfl
      clear hx
      go_enter Try.func31, Try.ntmps31
      go_wp2_with fail
      go_quiet (fail)
      go_wp2_with fail
      go_ret
      unfold TakeP
      rw [if_neg HP.out]
      exact ⟨rfl, _, rfl⟩
  · have HP : Hid (¬ (Tx.bs s)[at_]? = some c) := Lib.hid (by rw [List.getElem?_eq_none (by rw [Tx.bs_len]; omega)]; simp)
    have e0 : ((at_ : Int) == (s.size : Int)) = true := by rw [beq_iff_eq]; omega
    have e1 : at_ = s.size := by omega
    subst e1
    go_enter Try.func31, Try.ntmps31
    go_wp2_with fail
    go_quiet (fail)
    go_wp2_with fail
    go_ret
    unfold TakeP
    rw [if_neg HP.out]
    exact ⟨rfl, _, rfl⟩
/-- What 'next' leaves. -/
def NextP (w : World) (base rb : Nat) (s : ByteArray) (at_ : Nat) (D : Int) (ns : List Nd) (ks : List Value) (e : Ending) (w' : World) : Prop :=
  match (Tx.bs s)[at_]? with
  | some c => e = .returned (.int .u8 (c.toNat : Int)) ∧ Prs w' base rb s ((at_ + 1 : Nat) : Int) D ns ks ∧ Below base w w' ∧ KeptP w w'
  | none => e = pan 40 ∧ Below base w w'
set_option maxRecDepth 100000 in
theorem next_any {at_ : Nat} {D : Int} (h : Prs w base rb s at_ D ns ks) (ha : at_ ≤ s.size) (hs : s.size ≤ 1000000) : Calls Try.prog 84 #[.pointer (some ⟨rb, 0, none⟩)] w (NextP w base rb s at_ D ns ks) := by
  have HSet : Hid (∀ (q : Nat), Prs ((w.drewN q).setCell ⟨rb, 1, none⟩ (.int .i64 ((at_ : Int) + 1))) base rb s ((at_ + 1 : Nat) : Int) D ns ks ∧ Below base w ((w.drewN q).setCell ⟨rb, 1, none⟩ (.int .i64 ((at_ : Int) + 1))) ∧ KeptP w ((w.drewN q).setCell ⟨rb, 1, none⟩ (.int .i64 ((at_ : Int) + 1)))) := Lib.hid (fun q => by
    obtain ⟨r1, r2, r3⟩ := (h.drewN q).setAt ((at_ : Int) + 1)
    exact ⟨r1, blw_drewN q r2, (KeptX.drewN _ _).trans r3⟩)
  have HSet2 : Hid (∀ (q m : Nat), Prs (((w.drewN q).setCell ⟨rb, 1, none⟩ (.int .i64 ((at_ : Int) + 1))).drewN m) base rb s ((at_ + 1 : Nat) : Int) D ns ks ∧ Below base w (((w.drewN q).setCell ⟨rb, 1, none⟩ (.int .i64 ((at_ : Int) + 1))).drewN m) ∧ KeptP w (((w.drewN q).setCell ⟨rb, 1, none⟩ (.int .i64 ((at_ : Int) + 1))).drewN m)) := Lib.hid (fun q m =>
    ⟨(HSet.out q).1.drewN m, below_drewN (HSet.out q).2.1 m, (HSet.out q).2.2.trans (KeptX.drewN _ _)⟩)
  have HB := Lib.hid (fun q => below_drewN (Below.refl base w) q)
  obtain ⟨v, hb, hh, hn⟩ := h
  obtain ⟨c0, c1, c2, c3, hf⟩ := prs_cells hh
  have f1 := hf 1
  clear hh hn hf
  by_cases hlt : at_ < s.size
  · have i1 : (0 : Int) ≤ (at_ : Int) := by omega
    have i2 : (at_ : Int) < (s.size : Int) := by omega
    have e0 : ((at_ : Int) == (s.size : Int)) = false := by rw [beq_eq_false_iff_ne]; omega
    have e1 : (at_ : Int) + 1 - 1 = (at_ : Int) := by omega
    have HP : Hid ((Tx.bs s)[at_]? = some s[at_]) := Lib.hid (Tx.bs_get? s at_ hlt)
    go_enter Try.func84, Try.ntmps84
    go_wp2_with fail
    go_quiet (fail)
    go_wp2_with fail
    go_quiet (fail)
    go_wp2_with fail
    go_ret
    unfold NextP
    rw [HP.out]
    first
    | exact ⟨rfl, HSet.out _⟩
    | exact ⟨rfl, HSet2.out _ _⟩
  · have HP : Hid ((Tx.bs s)[at_]? = none) := Lib.hid (by rw [List.getElem?_eq_none (by rw [Tx.bs_len]; omega)])
    have e0 : ((at_ : Int) == (s.size : Int)) = true := by rw [beq_iff_eq]; omega
    have e1 : at_ = s.size := by omega
    subst e1
    go_enter Try.func84, Try.ntmps84
    go_wp2_with fail
    go_quiet (fail)
    go_wp2_with fail
    refine ⟨rfl, ?_⟩
    unfold NextP
    rw [HP.out]
    exact ⟨rfl, HB.out _⟩
end
/-- What 'add' leaves. -/
theorem add_step {w W w1 : World} {base rb : Nat} {s : ByteArray} {a d : Int} {v v1 : Value} {ns : List Nd} {ks : List Value} (hb : base ≤ rb) (hh : w.heap[rb]? = some (.cells #[.string s, .int .i64 a, .int .i64 d, v] tPs (0, 0))) (hn : OwnN w base v ns ks)
    (hs : ∀ k, k < w.heap.size → W.heap[k]? = w.heap[k]?) (hB : Below base w W) (n : Nd) (k : Value) (hk : w.ownsRow base tInt 1 k n.kids.length (intsV n.kids))
    (hv1 : w1.ownsRow base tNode 8 v1 (ns.length + 1) (flatC ns ks ++ ndC n k)) (hg : W.grownBy w1 v.ownBlock) :
    Prs (w1.setCell ⟨rb, 3, none⟩ v1) base rb s a d (ns ++ [n]) (ks ++ [k]) ∧ Below base w (w1.setCell ⟨rb, 3, none⟩ v1) ∧ KeptP w (w1.setCell ⟨rb, 3, none⟩ v1) ∧ w1.frozen? ⟨rb, 3, none⟩ = false ∧ w1.cell? ⟨rb, 3, none⟩ = some v := by
  have hsz : w.heap.size ≤ W.heap.size := hB.size
  have hrl := lt_some hh
  have hvW := own_same hn.2.1 hs
  have hrv : some rb ≠ v.ownBlock := by
    intro hkv
    rcases hn.2.1.2 with ⟨rfl, _⟩ | ⟨g, cap, cur, rfl, _, hh', _⟩
    · simp [Value.ownBlock] at hkv
    · have : rb = g := by simpa [Value.ownBlock] using hkv
      subst this
      rw [hh] at hh'
      injection hh' with hh'
      injection hh' with _ ht
      exact absurd ht (by decide)
  have hh1 : w1.heap[rb]? = some (.cells #[.string s, .int .i64 a, .int .i64 d, v] tPs (0, 0)) := (hg.block rb (by omega) hrv).trans ((hs rb hrl).trans hh)
  have hK1 : KeptP w w1 := fun k cur e' h1 h2 h3 => by
    have h4 : W.heap[k]? = w.heap[k]? := hs k (lt_some h3)
    rw [(KeptX.grown (s := tPs) hvW hg) k cur e' h1 h2 (h4.trans h3), h4]
  have hsn : flatC (ns ++ [n]) (ks ++ [k]) = flatC ns ks ++ ndC n k := flatC_snoc ns ks n k hn.1
  have hO : OwnN w1 base v1 (ns ++ [n]) (ks ++ [k]) := by
    refine ⟨by simp [hn.1], by rw [List.length_append, List.length_singleton, hsn]; exact hv1, fun j c1 c2 => ?_⟩
    by_cases hj : j < ks.length
    · have e1 : (ks ++ [k])[j] = ks[j] := List.getElem_append_left hj
      have e2 : (ns ++ [n])[j] = ns[j]'(by rw [← hn.1]; exact hj) := List.getElem_append_left (by rw [← hn.1]; exact hj)
      rw [e1, e2]
      exact KeptX.own (hn.2.2 j hj (by rw [← hn.1]; exact hj)) hK1 (by decide) (by decide)
    · have hj2 : j = ks.length := by rw [List.length_append, List.length_singleton] at c1; omega
      subst hj2
      have e1 : (ks ++ [k])[ks.length] = k := by simp
      have e2 : (ns ++ [n])[ks.length] = n := by simp [hn.1]
      rw [e1, e2]
      exact KeptX.own hk hK1 (by decide) (by decide)
  have hB1 : Below base w w1 := hB.grown hg (by omega) (fun k hk => (hn.2.1.lt k hk).1)
  refine ⟨⟨v1, hb, set_block hh1, hO.setCell hh1 (by decide) (by decide)⟩, hB1.setCell (p := ⟨rb, 3, none⟩) hb _, hK1.trans (KeptX.store hh1), (prs_cells hh1).2.2.2.2 3, (prs_cells hh1).2.2.2.1⟩
set_option maxRecDepth 100000 in
set_option maxHeartbeats 1000000 in
theorem add_any {w : World} {base rb : Nat} {s : ByteArray} {a d : Int} {ns : List Nd} {ks : List Value} (h : Prs w base rb s a d ns ks) (n : Nd) (k : Value) (hk : w.ownsRow base tInt 1 k n.kids.length (intsV n.kids)) (hl : ns.length ≤ 1000000) :
    Calls Try.prog 51 #[.pointer (some ⟨rb, 0, none⟩), ndV n k] w fun en w' => en = .returned (.int .i64 (ns.length : Int)) ∧ Prs w' base rb s a d (ns ++ [n]) (ks ++ [k]) ∧ Below base w w' ∧ KeptP w w' := by
  obtain ⟨v, hb, hh, hn⟩ := h
  have hrl := lt_some hh
  obtain ⟨c0, c1, c2, c3, hf⟩ := prs_cells hh
  obtain ⟨i0, hi, hz0, hz1, hz2⟩ := info_parts info_node
  have HI := Lib.hid (And.intro hi (And.intro hz0 (And.intro hz1 hz2)))
  clear hi hz0 hz1 hz2 hf c0 c1 c2
  have HStep : Hid (∀ (wb : World) (C : Array Value) (v1 : Value) (w1 : World), (∀ k, k < w.heap.size → wb.heap[k]? = w.heap[k]?) → Below base w wb → w1.ownsRow base tNode 8 v1 (ns.length + 1) (flatC ns ks ++ ndC n k) → ((wb.drew).alloc (.cells C tNode)).grownBy w1 v.ownBlock →
      (Prs (w1.setCell ⟨rb, 3, none⟩ v1) base rb s a d (ns ++ [n]) (ks ++ [k]) ∧ Below base w (w1.setCell ⟨rb, 3, none⟩ v1) ∧ KeptP w (w1.setCell ⟨rb, 3, none⟩ v1)) ∧ w1.frozen? ⟨rb, 3, none⟩ = false ∧ w1.cell? ⟨rb, 3, none⟩ = some v) := Lib.hid (fun wb C v1 w1 h1 h2 h3 h4 => by
    have hsz := h2.size
    have hbw : base ≤ w.heap.size := by omega
    obtain ⟨r1, r2, r3, r4, r5⟩ := add_step hb hh hn (W := (wb.drew).alloc (.cells C tNode)) (fun j hj => (Below.heap_alloc wb.drew _ j (by show j < wb.heap.size; omega)).trans (h1 j hj)) (h2.drew.alloc (by show base ≤ wb.heap.size; omega) _) n k hk h3 h4
    exact ⟨⟨r1, r2, r3⟩, r4, r5⟩)
  have HOwn : Hid (∀ (wb : World) (C : Array Value), (∀ k, k < w.heap.size → wb.heap[k]? = w.heap[k]?) → w.heap.size ≤ wb.heap.size → ((wb.drew).alloc (.cells C tNode)).ownsRow base tNode 8 v ns.length (flatC ns ks)) := Lib.hid (fun wb C h1 h2 =>
    own_same hn.2.1 (fun j hj => (Below.heap_alloc wb.drew _ j (by show j < wb.heap.size; omega)).trans (h1 j hj)))
  have hfl := flatC_len ns ks hn.1
  have hbw : base ≤ w.heap.size := by omega
  have HForm : Hid (∃ A c, v = .slice A ns.length c) := Lib.hid (by
    rcases hn.2.1.2 with ⟨rfl, h0⟩ | ⟨g, cap, cur, rfl, _⟩
    · exact ⟨none, 0, by rw [h0]⟩
    · exact ⟨_, cap, rfl⟩)
  have HOne : Hid (k.oneCell' = true) := Lib.hid (by obtain ⟨A, c, e⟩ := own_form hk; rw [e]; rfl)
  clear hh hn hk
  obtain ⟨A, c, rfl⟩ := HForm.out
  unfold ndV
  unfold ndC at HStep
  generalize (word n.set 0 : Nat) = x0 at HStep ⊢
  generalize (word n.set 1 : Nat) = x1 at HStep ⊢
  generalize (word n.set 2 : Nat) = x2 at HStep ⊢
  generalize (word n.set 3 : Nat) = x3 at HStep ⊢
  generalize flatC ns ks = xs at HStep HOwn hfl
  go_enter Try.func51, Try.ntmps51
  go_wp2_with fail
  have hwb1 : ∀ C, (w.alloc (Obj.cells C tNode)).heap[w.heap.size]? = some (Obj.cells C tNode) := fun C => heap_new w _
  have hwb2 : ∀ (C : Array Value) (j : Nat), j < w.heap.size → (w.alloc (Obj.cells C tNode)).heap[j]? = w.heap[j]? := fun C j hj => Below.heap_alloc w _ j hj
  have hwb3 : ∀ C, Below base w (w.alloc (Obj.cells C tNode)) := fun C => (Below.refl _ _).alloc hbw _
  have hwb4 : ∀ C, (w.alloc (Obj.cells C tNode)).heap.size = w.heap.size + 1 := fun C => by simp
  have k1 := hwb1 #[.int .i64 n.kind, .int .u64 x0, .int .u64 x1, .int .u64 x2, .int .u64 x3, .int .i64 n.mn, .int .i64 n.mx, k]
  have K2 := Lib.hid (hwb2 #[.int .i64 n.kind, .int .u64 x0, .int .u64 x1, .int .u64 x2, .int .u64 x3, .int .i64 n.mn, .int .i64 n.mx, k])
  have K3 := Lib.hid (hwb3 #[.int .i64 n.kind, .int .u64 x0, .int .u64 x1, .int .u64 x2, .int .u64 x3, .int .i64 n.mn, .int .i64 n.mx, k])
  have k4 := hwb4 #[.int .i64 n.kind, .int .u64 x0, .int .u64 x1, .int .u64 x2, .int .u64 x3, .int .i64 n.mn, .int .i64 n.mx, k]
  clear hwb1 hwb2 hwb3 hwb4
  generalize w.alloc (Obj.cells #[Value.int .i64 n.kind, .int .u64 x0, .int .u64 x1, .int .u64 x2, .int .u64 x3, .int .i64 n.mn, .int .i64 n.mx, k] tNode) = wb at k1 K2 K3 k4 ⊢
  generalize hH : w.heap.size = H at k1 K2 hrl hbw k4 HOwn HStep ⊢
  have b3 : wb.cell? ⟨rb, 3, none⟩ = some (.slice A ns.length c) := by rw [World.cell?_of_block (w := w) (K2.out rb hrl)]; exact c3
  have d0 : wb.cell? ⟨H, 0, none⟩ = some (.int .i64 n.kind) := by simp [World.cell?, k1]
  have d1 : wb.cell? ⟨H, 1, none⟩ = some (.int .u64 x0) := by simp [World.cell?, k1]
  have d2 : wb.cell? ⟨H, 2, none⟩ = some (.int .u64 x1) := by simp [World.cell?, k1]
  have d3 : wb.cell? ⟨H, 3, none⟩ = some (.int .u64 x2) := by simp [World.cell?, k1]
  have d4 : wb.cell? ⟨H, 4, none⟩ = some (.int .u64 x3) := by simp [World.cell?, k1]
  have d5 : wb.cell? ⟨H, 5, none⟩ = some (.int .i64 n.mn) := by simp [World.cell?, k1]
  have d6 : wb.cell? ⟨H, 6, none⟩ = some (.int .i64 n.mx) := by simp [World.cell?, k1]
  have d7 : wb.cell? ⟨H, 7, none⟩ = some k := by simp [World.cell?, k1]
  have r1 : rb < wb.heap.size := by omega
  have r2 : H < wb.heap.size := by omega
  have HNews : Hid (∀ (C : Array Value) (j : Nat) (u : Value), C.toList[j]? = some u → ((wb.drew).alloc (.cells C tNode)).cell? ((⟨H + 1, 0, none⟩ : Addr).add j) = some u) := Lib.hid (fun C j u h => by
    have h2 := World.news_of_block (heap_new wb.drew (.cells C tNode)) j u h
    rw [show (wb.drew).heap.size = H + 1 from k4] at h2
    exact h2)
  have HOnes : Hid (∀ u ∈ [Value.int .i64 n.kind, .int .u64 x0, .int .u64 x1, .int .u64 x2, .int .u64 x3, .int .i64 n.mn, .int .i64 n.mx, k], u.oneCell' = true) := Lib.hid (fun u hu => by
    simp only [List.mem_cons, List.not_mem_nil, or_false] at hu
    rcases hu with rfl | rfl | rfl | rfl | rfl | rfl | rfl | rfl
    all_goals first | rfl | exact HOne.out)
  clear k1 c3 HForm
  go_region_law ((refine step_append_lies _ (by rfl) (.tmp 9) (.tmp 11) tNodes (by rfl) base tNode i0 zeroN 8 80 Try.underlying23 HI.out.1 HI.out.2.1 HI.out.2.2.1 HI.out.2.2.2 (by decide) (by decide) (.slice A ns.length c) ns.length xs (by rfl) (HOwn.out wb _ K2.out (by omega)) ⟨H + 1, 0, none⟩ 1 1 [.int .i64 n.kind, .int .u64 x0, .int .u64 x1, .int .u64 x2, .int .u64 x3, .int .i64 n.mn, .int .i64 n.mx, k] (by rfl) (by rfl) (HNews.out _) HOnes.out (by decide) (by unfold maxLen; omega) (by omega) (by simp; omega) _ rfl ?_; intro g cap w1 hown1 hgrow hat hlt; obtain ⟨q1, q2, q3⟩ := HStep.out wb _ _ _ K2.out K3.out hown1 hgrow; have Q := Lib.hid q1; clear q1 hown1 hgrow hat hlt))
  all_goals
    go_wp2_with fail
    go_ret
    exact ⟨rfl, Q.out⟩
end Rx
end Go.Proofs.Ytgadomcbaenodaa

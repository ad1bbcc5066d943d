/-
  Automata: which states are reached without reading; rows of bools. No program but the types. No conditions. The reference's Close. Conditions: valid states, at least one, at most 8000; as many bools. The reference's Has: is a byte in a set? No conditions. The reference's Ends. Conditions: a valid automaton; a text of at most a million bytes.
-/
import Derived.Test.YtgadomcbaenodaaAutoB
import Derived.Deep.Cut
import Derived.Deep.CutRange
import Derived.BigQuiet
import Derived.Deep.QuietTactic
import Derived.Deep.RegionHeld3
namespace Go.Proofs.Ytgadomcbaenodaa
section
open Go.RowKit
namespace Au
open Cm Rx
/-- Is a state passed without reading? -/
def passS (s : St) (st en : Bool) : Bool := s.kind == 1 || (s.kind == 2 && st || s.kind == 3 && en)
inductive Reach (ss : List St) (st en : Bool) (inn : Nat → Prop) : Nat → Prop
  | base {i : Nat} (h : inn i) : Reach ss st en inn i
  | next {i : Nat} (hi : i < ss.length) (h : Reach ss st en inn i) (hp : passS ss[i] st en = true) : Reach ss st en inn ss[i].next.toNat
  | other {i : Nat} (hi : i < ss.length) (h : Reach ss st en inn i) (hp : ss[i].kind = 1) : Reach ss st en inn ss[i].other.toNat
/-- Is nothing left to be reached from the first q states? -/
def ClosedTo (ss : List St) (st en : Bool) (l : List Bool) (q : Nat) : Prop :=
  ∀ i (hi : i < ss.length), i < q → l.getD i false = true → (passS ss[i] st en = true → l.getD ss[i].next.toNat false = true) ∧ (ss[i].kind = 1 → l.getD ss[i].other.toNat false = true)
theorem ClosedTo.all {ss : List St} {st en : Bool} {l : List Bool} {inn : Nat → Prop} (h : ClosedTo ss st en l ss.length) (h0 : ∀ i, inn i → l.getD i false = true) {i : Nat} (hr : Reach ss st en inn i) : l.getD i false = true := by
  induction hr with
  | base h => exact h0 _ h
  | next hi _ hp ih => exact (h _ hi hi ih).1 hp
  | other hi _ hp ih => exact (h _ hi hi ih).2 hp
open Classical in
/-- The states that are reached, as bools. -/
noncomputable def closeF (ss : List St) (st en : Bool) (inn : Nat → Prop) (n : Nat) : List Bool := (List.range n).map fun i => decide (Reach ss st en inn i)
theorem close_len (ss : List St) (st en : Bool) (inn : Nat → Prop) (n : Nat) : (closeF ss st en inn n).length = n := by unfold closeF; rw [List.length_map, List.length_range]
theorem close_get {ss : List St} {st en : Bool} {inn : Nat → Prop} {n i : Nat} (h : i < n) : (closeF ss st en inn n).getD i false = true ↔ Reach ss st en inn i := by
  unfold closeF
  rw [List.getD_eq_getElem?_getD, List.getElem?_map, List.getElem?_range h]
  simp
theorem getB_set (l : List Bool) (j i : Nat) (hj : j < l.length) : (l.set j true).getD i false = if i = j then true else l.getD i false := by
  rw [List.getD_eq_getElem?_getD, List.getD_eq_getElem?_getD, List.getElem?_set]
  by_cases h : j = i
  · subst h; rw [if_pos rfl, if_pos rfl, if_pos hj]; rfl
  · rw [if_neg h, if_neg (fun e => h e.symm)]
theorem ext_getB {l m : List Bool} (h1 : l.length = m.length) (h2 : ∀ i, i < l.length → (l.getD i false = true ↔ m.getD i false = true)) : l = m := by
  refine List.ext_getElem h1 (fun i hi hi2 => ?_)
  have := h2 i hi
  rw [List.getD_eq_getElem?_getD, List.getD_eq_getElem?_getD, List.getElem?_eq_getElem hi, List.getElem?_eq_getElem hi2] at this
  simp only [Option.getD_some] at this
  exact Bool.eq_iff_iff.2 this
theorem close_eq {ss : List St} {st en : Bool} {l l0 : List Bool} {n : Nat} (hn : n = ss.length) (hl : l.length = n) (hc : ClosedTo ss st en l n) (h0 : ∀ i, l0.getD i false = true → l.getD i false = true) (hr : ∀ i, l.getD i false = true → Reach ss st en (fun i => l0.getD i false = true) i) :
    l = closeF ss st en (fun i => l0.getD i false = true) n := by
  refine ext_getB (by rw [close_len, hl]) (fun i hi => ?_)
  rw [close_get (by omega)]
  exact ⟨hr i, fun h => (show ClosedTo ss st en l ss.length from hn ▸ hc).all h0 h⟩
/-- How many are false. -/
def fls (l : List Bool) : Nat := l.countP fun b => !b
theorem fls_set : ∀ (l : List Bool) (j : Nat), j < l.length → l.getD j false = false → fls (l.set j true) + 1 = fls l
  | [], j, h, _ => absurd h (Nat.not_lt_zero _)
  | b :: l, 0, _, h => by
    have : b = false := h
    subst this
    unfold fls
    simp
  | b :: l, j + 1, h, h2 => by
    have ih := fls_set l j (by simpa using h) h2
    unfold fls at ih ⊢
    rw [List.set_cons_succ, List.countP_cons, List.countP_cons]
    omega
/-- A block whose first cells are such values. -/
def Blk (w : World) (g : Nat) (t : TypeId) (xs : List Value) : Prop := ∃ cur, w.heap[g]? = some (.cells cur t (0, 0)) ∧ ∀ i (h : i < xs.length), cur[i]? = some xs[i]
theorem Blk.cell {w : World} {g : Nat} {t : TypeId} {xs : List Value} (h : Blk w g t xs) {i : Nat} (hi : i < xs.length) : w.cell? ⟨g, i, none⟩ = some xs[i] := by
  obtain ⟨cur, h1, h2⟩ := h
  simp only [World.cell?, h1]
  exact h2 i hi
theorem Blk.frozen {w : World} {g : Nat} {t : TypeId} {xs : List Value} (h : Blk w g t xs) (i : Nat) : w.frozen? ⟨g, i, none⟩ = false := by
  obtain ⟨cur, h1, h2⟩ := h
  simp [World.frozen?, h1]
theorem Blk.lt {w : World} {g : Nat} {t : TypeId} {xs : List Value} (h : Blk w g t xs) : g < w.heap.size := by
  obtain ⟨cur, h1, _⟩ := h
  exact lt_some h1
theorem Blk.of_block {w w' : World} {g : Nat} {t : TypeId} {xs : List Value} (h : Blk w g t xs) (hb : w'.heap[g]? = w.heap[g]?) : Blk w' g t xs := by
  obtain ⟨cur, h1, h2⟩ := h
  exact ⟨cur, hb.trans h1, h2⟩
theorem Blk.set {w : World} {g : Nat} {t : TypeId} {xs : List Value} (h : Blk w g t xs) (j : Nat) (u : Value) : Blk (w.setCell ⟨g, j, none⟩ u) g t (xs.set j u) := by
  obtain ⟨cur, h1, h2⟩ := h
  refine ⟨_, set_block h1, fun i hi => ?_⟩
  rw [List.length_set] at hi
  have h3 := h2 i hi
  rw [Array.getElem?_setIfInBounds, List.getElem_set]
  have hi2 : i < cur.size := (Array.getElem?_eq_some_iff.1 h3).1
  by_cases e : j = i
  · subst e; rw [if_pos rfl, if_pos hi2, if_pos rfl]
  · rw [if_neg e, if_neg e]; exact h3
theorem Blk.of_own {w : World} {base n g c : Nat} {t : TypeId} {xs : List Value} (h : w.ownsRow base t 1 (.slice (some ⟨g, 0, none⟩) n c) n xs) (hx : xs.length = n) : Blk w g t xs ∧ base ≤ g := by
  rcases h.2 with ⟨e1, _⟩ | ⟨g', cap, cur, e1, hb, hh, _⟩
  · cases e1
  · injection e1 with e2 _ _
    injection e2 with e2
    injection e2 with e2
    subst e2
    refine ⟨⟨cur, hh, fun i hi => ?_⟩, hb⟩
    have h2 := h.cellAt i (by omega)
    simp only [World.cell?, hh] at h2
    rw [List.getElem?_eq_getElem hi] at h2
    exact h2
def boolsV (l : List Bool) : List Value := l.map fun b => .bool b
theorem boolsV_len (l : List Bool) : (boolsV l).length = l.length := List.length_map _
theorem boolsV_set (l : List Bool) (j : Nat) (b : Bool) : (boolsV l).set j (.bool b) = boolsV (l.set j b) := by unfold boolsV; rw [List.map_set]
/-- What holds within a pass over the states: l0 as the pass began, l now, the first q states are done, m says whether one was added. -/
structure Inv (ss : List St) (st en : Bool) (inn : Nat → Prop) (l0 : List Bool) (q : Nat) (l : List Bool) (m : Bool) : Prop where
  len : l.length = l0.length
  up : ∀ i, l0.getD i false = true → l.getD i false = true
  sound : ∀ i, l.getD i false = true → Reach ss st en inn i
  prog : m = true → fls l < fls l0
  same : m = false → l = l0 ∧ ClosedTo ss st en l q
theorem Inv.start {ss : List St} {st en : Bool} {inn : Nat → Prop} {l0 : List Bool} (h : ∀ i, l0.getD i false = true → Reach ss st en inn i) : Inv ss st en inn l0 0 l0 false :=
  ⟨rfl, fun _ h => h, h, fun h => (by cases h), fun _ => ⟨rfl, fun _ _ h => absurd h (Nat.not_lt_zero _)⟩⟩
theorem Inv.set {ss : List St} {st en : Bool} {inn : Nat → Prop} {l0 l : List Bool} {q j : Nat} {m : Bool} (h : Inv ss st en inn l0 q l m) (hj : j < l.length) (hf : l.getD j false = false) (hr : Reach ss st en inn j) : Inv ss st en inn l0 q (l.set j true) true := by
  refine ⟨by rw [List.length_set]; exact h.len, fun i hi => ?_, fun i hi => ?_, fun _ => ?_, fun h => (by cases h)⟩
  · rw [getB_set _ _ _ hj]
    split
    · rfl
    · exact h.up i hi
  · rw [getB_set _ _ _ hj] at hi
    by_cases e : i = j
    · rw [e]; exact hr
    · rw [if_neg e] at hi; exact h.sound i hi
  · have h1 := fls_set l j hj hf
    cases m with
    | true => have := h.prog rfl; omega
    | false => have := (h.same rfl).1; rw [this] at h1 ⊢; omega
theorem Inv.step {ss : List St} {st en : Bool} {inn : Nat → Prop} {l0 l : List Bool} {q : Nat} {m : Bool} (h : Inv ss st en inn l0 q l m)
    (hc : m = false → ∀ hq : q < ss.length, l.getD q false = true → (passS ss[q] st en = true → l.getD ss[q].next.toNat false = true) ∧ (ss[q].kind = 1 → l.getD ss[q].other.toNat false = true)) : Inv ss st en inn l0 (q + 1) l m :=
  ⟨h.len, h.up, h.sound, h.prog, fun hm => ⟨(h.same hm).1, fun i hi hq hl => by
    by_cases e : i = q
    · subst e; exact hc hm hi hl
    · exact (h.same hm).2 i hi (by omega) hl⟩⟩
/-- The bools that a block holds. -/
def bitsOf (w : World) (g n : Nat) : List Bool := (List.range n).map fun i => match w.cell? ⟨g, i, none⟩ with | some (.bool b) => b | _ => false
theorem bitsOf_blk {w : World} {g n : Nat} {t : TypeId} {l : List Bool} (h : Blk w g t (boolsV l)) (hn : l.length = n) : bitsOf w g n = l := by
  subst hn
  unfold bitsOf
  refine List.ext_getElem (by rw [List.length_map, List.length_range]) (fun i h1 h2 => ?_)
  have h3 := h.cell (i := i) (by rw [boolsV_len]; exact h2)
  rw [List.getElem_map, List.getElem_range, h3]
  simp [boolsV]
theorem Blk.bit {w : World} {g : Nat} {t : TypeId} {l : List Bool} (h : Blk w g t (boolsV l)) {i : Nat} (hi : i < l.length) : w.cell? ⟨g, i, none⟩ = some (.bool (l.getD i false)) := by
  have h3 := h.cell (i := i) (by rw [boolsV_len]; exact hi)
  rw [h3]
  simp [boolsV, hi]
theorem Blk.setBit {w : World} {g : Nat} {t : TypeId} {l : List Bool} (h : Blk w g t (boolsV l)) (j : Nat) (b : Bool) : Blk (w.setCell ⟨g, j, none⟩ (.bool b)) g t (boolsV (l.set j b)) := by
  have h2 := h.set j (.bool b)
  rwa [boolsV_set] at h2
end Au
end
section
open Go.RowKit
namespace Au
open Cm Rx
abbrev tBool : TypeId := 4
theorem info_boolC : (Try.prog.info? tBool).map (fun i => (i.zero, i.size, i.bytes)) = some (some (.bool false), 1, 1) := by kernel_rfl
/-- The copy of a state that a round looks at. -/
def Cop (w : World) (H : Nat) (x : St) : Prop := w.cell? ⟨H, 0, none⟩ = some (.int .i64 x.kind) ∧ w.cell? ⟨H, 5, none⟩ = some (.int .i64 x.next) ∧ w.cell? ⟨H, 6, none⟩ = some (.int .i64 x.other)
theorem Cop.other {w : World} {H g j : Nat} {x : St} (h : Cop w H x) (hn : H ≠ g) (u : Value) : Cop (w.setCell ⟨g, j, none⟩ u) H x :=
  ⟨(World.cell?_of_block (Below.heap_setCell _ _ _ _ hn)).trans h.1, (World.cell?_of_block (Below.heap_setCell _ _ _ _ hn)).trans h.2.1, (World.cell?_of_block (Below.heap_setCell _ _ _ _ hn)).trans h.2.2⟩
theorem any_newC (w : World) (C : Array Value) (t : TypeId) : ∀ (i : Nat) (u : Value), C[i]? = some u → (w.alloc (.cells C t)).cell? ⟨w.heap.size, i, none⟩ = some u := fun i u h => by rw [World.cell?_alloc_mark]; exact h
theorem ok_kind {n : Nat} {s : St} (h : okS n s = true) : s.kind = 0 ∨ s.kind = 1 ∨ s.kind = 2 ∨ s.kind = 3 ∨ s.kind = 4 := by
  unfold okS at h
  split at h
  · omega
  · split at h
    · omega
    · have := of_decide_eq_true h; omega
/-- What a state's kind asks of the states after it. -/
theorem ok_next {n : Nat} {s : St} (h : okS n s = true) (h2 : s.kind = 0 ∨ s.kind = 2 ∨ s.kind = 3 ∨ s.kind = 1) : 0 ≤ s.next ∧ s.next < (n : Int) := by
  unfold okS at h
  have hb : hasB n s.next = true := by
    split at h
    · exact h
    · rw [if_pos (by omega)] at h; exact (Bool.and_eq_true_iff.1 h).1
  exact of_decide_eq_true hb
theorem ok_other {n : Nat} {s : St} (h : okS n s = true) (h2 : s.kind = 1) : 0 ≤ s.other ∧ s.other < (n : Int) := by
  unfold okS at h
  rw [if_neg (by omega), if_pos h2] at h
  exact of_decide_eq_true (Bool.and_eq_true_iff.1 h).2
/-- A slice of bools of the call's own is returned. -/
def BoolsOut (w : World) (n : Nat) (R : List Bool) (ex : Ending) (w' : World) : Prop := ∃ g c2, ex = .returned (.slice (some ⟨g, 0, none⟩) n c2) ∧ Blk w' g tBool (boolsV R) ∧ w.heap.size ≤ g ∧ Below w.heap.size w w'
def boolM : Value → Nat | .bool true => 1 | _ => 0
end Au
end
section
open Go.RowKit
namespace Au
open Cm Rx
theorem bits_and_nat (a b : Nat) (ha : a < 18446744073709551616) (hb : b < 18446744073709551616) : bits .and .u64 (a : Int) (b : Int) = ((a &&& b : Nat) : Int) := by
  have hx : a &&& b < 2 ^ 64 := Nat.lt_of_le_of_lt Nat.and_le_left (by omega)
  have h1 : (BitVec.ofInt 64 (a : Int)).toNat = a := by
    rw [BitVec.ofInt_natCast, BitVec.toNat_ofNat]; exact Nat.mod_eq_of_lt (by omega)
  have h2 : (BitVec.ofInt 64 (b : Int)).toNat = b := by
    rw [BitVec.ofInt_natCast, BitVec.toNat_ofNat]; exact Nat.mod_eq_of_lt (by omega)
  show IntKind.u64.wrap ((BitVec.ofInt 64 (a : Int) &&& BitVec.ofInt 64 (b : Int)).toNat : Int) = _
  rw [BitVec.toNat_and, h1, h2, IntKind.wrap_u64]
  omega
/-- The test of one bit, as the walk spells it. -/
theorem has_bit (m : Nat → Bool) (j n : Nat) (h : n / 64 = j) : ((((word m j) / 2 ^ (n % 64)) &&& 1 : Nat) == 1) = m n := by
  have h1 := testBit_word m j (n % 64)
  rw [show decide (n % 64 < 64) = true from decide_eq_true (Nat.mod_lt _ (by omega)), Bool.true_and, show 64 * j + n % 64 = n by omega] at h1
  rw [← h1, Nat.testBit, Nat.shiftRight_eq_div_pow, Nat.and_comm]
  rcases Nat.mod_two_eq_zero_or_one (word m j / 2 ^ (n % 64)) with e | e
  · rw [Nat.and_comm, Nat.and_one_is_mod, e]; rfl
  · rw [Nat.and_comm, Nat.and_one_is_mod, e]; rfl
theorem has_walk {a k : Nat} {b : Bool} (ha : a < 18446744073709551616) (h : ((a / 2 ^ k &&& 1 : Nat) == 1) = b) : (bits .and .u64 ((a : Int) / 2 ^ k) 1 == 1) = b := by
  rw [show (a : Int) / 2 ^ k = ((a / 2 ^ k : Nat) : Int) from by simp, show (1 : Int) = ((1 : Nat) : Int) from rfl, bits_and_nat _ _ (Nat.lt_of_le_of_lt (Nat.div_le_self _ _) ha) (by omega), ← h]
  rw [Bool.eq_iff_iff, beq_iff_eq, beq_iff_eq]
  omega
set_option maxRecDepth 100000 in
set_option maxHeartbeats 1000000 in
theorem Has_any (m : Nat → Bool) (x : UInt8) (w : World) :
    Calls Try.prog 47 #[setV m, .int .u8 (x.toNat : Int)] w fun e w' => e = .returned (.bool (m x.toNat)) ∧ Below w.heap.size w w' := by
  unfold setV
  have hx := x.toNat_lt
  have hbit := has_bit m (x.toNat / 64) x.toNat rfl
  generalize x.toNat = n at hx hbit
  have hx2 : (n : Int) < 256 := by omega
  have h0 : (0 : Int) ≤ (n : Int) := by omega
  have hwl := fun j => word_lt m j
  have hc : n / 64 = 0 ∨ n / 64 = 1 ∨ n / 64 = 2 ∨ n / 64 = 3 := by omega
  rcases hc with h | h | h | h
  · rw [h] at hbit
    have HBit := Lib.hid hbit
    have HWl := Lib.hid (hwl 0)
    have e1 : (n : Int) / 64 = 0 := by omega
    clear h hx hbit hwl
    generalize word m 0 = a at HBit HWl
    generalize word m 1 = b
    generalize word m 2 = c
    generalize word m 3 = d
    go_enter Try.func47, Try.ntmps47
    go_wp2_with fail
    go_ret
    exact ⟨ret_bool (has_walk HWl.out HBit.out), (Below.refl _ _).alloc (Nat.le_refl _) _⟩
  · rw [h] at hbit
    have HBit := Lib.hid hbit
    have HWl := Lib.hid (hwl 1)
    have e1 : (n : Int) / 64 = 1 := by omega
    clear h hx hbit hwl
    generalize word m 0 = a
    generalize word m 1 = b at HBit HWl
    generalize word m 2 = c
    generalize word m 3 = d
    go_enter Try.func47, Try.ntmps47
    go_wp2_with fail
    go_ret
    exact ⟨ret_bool (has_walk HWl.out HBit.out), (Below.refl _ _).alloc (Nat.le_refl _) _⟩
  · rw [h] at hbit
    have HBit := Lib.hid hbit
    have HWl := Lib.hid (hwl 2)
    have e1 : (n : Int) / 64 = 2 := by omega
    clear h hx hbit hwl
    generalize word m 0 = a
    generalize word m 1 = b
    generalize word m 2 = c at HBit HWl
    generalize word m 3 = d
    go_enter Try.func47, Try.ntmps47
    go_wp2_with fail
    go_ret
    exact ⟨ret_bool (has_walk HWl.out HBit.out), (Below.refl _ _).alloc (Nat.le_refl _) _⟩
  · rw [h] at hbit
    have HBit := Lib.hid hbit
    have HWl := Lib.hid (hwl 3)
    have e1 : (n : Int) / 64 = 3 := by omega
    clear h hx hbit hwl
    generalize word m 0 = a
    generalize word m 1 = b
    generalize word m 2 = c
    generalize word m 3 = d at HBit HWl
    go_enter Try.func47, Try.ntmps47
    go_wp2_with fail
    go_ret
    exact ⟨ret_bool (has_walk HWl.out HBit.out), (Below.refl _ _).alloc (Nat.le_refl _) _⟩
end Au
end
section
open Go.RowKit
namespace Au
open Cm Rx
/-- The states before closing, d bytes behind the offset i. -/
def inAt (ss : List St) (start : Nat) (bs : List UInt8) (i : Nat) : Nat → Nat → Prop
  | 0, k => k = start ∧ k < ss.length
  | d + 1, k => k < ss.length ∧ ∃ x, ∃ hx : x < ss.length, Reach ss (decide (i + d = 0)) (decide (i + d = bs.length)) (inAt ss start bs i d) x ∧ ss[x].kind = 0 ∧ (∃ b, bs[i + d]? = some b ∧ ss[x].set b.toNat = true) ∧ ss[x].next.toNat = k
def clAt (ss : List St) (start : Nat) (bs : List UInt8) (i d : Nat) : Nat → Prop := Reach ss (decide (i + d = 0)) (decide (i + d = bs.length)) (inAt ss start bs i d)
/-- Is the text from i on, d bytes, accepted? -/
def accAt (ss : List St) (start : Nat) (bs : List UInt8) (i d : Nat) : Prop := ∃ x, ∃ hx : x < ss.length, clAt ss start bs i d x ∧ ss[x].kind = 4
/-- What Ends hands back. -/
def IsEnds (ss : List St) (start : Nat) (bs : List UInt8) (i : Nat) (l : List Bool) : Prop := l.length = bs.length + 1 ∧ ∀ q, q ≤ bs.length → (l.getD q false = true ↔ ∃ d, q = i + d ∧ accAt ss start bs i d)
def EndsPost (w : World) (ss : List St) (start : Nat) (bs : List UInt8) (i : Nat) (e : Ending) (w' : World) : Prop := ∃ l, IsEnds ss start bs i l ∧ BoolsOut w (bs.length + 1) l e w'
theorem blk_made (W : World) (n : Nat) : Blk (W.alloc (.cells (madeCells #[.bool false] n) tBool)) W.heap.size tBool (boolsV (List.replicate n false)) := by
  refine ⟨_, heap_new W _, fun i hi => ?_⟩
  have h2 := toList_madeCells_one (.bool false) n
  have h3 : (madeCells #[.bool false] n).toList[i]? = some (.bool false) := by
    rw [h2, List.getElem?_replicate, if_pos (by simpa [boolsV] using hi)]
  rw [Array.getElem?_toList] at h3
  rw [h3]
  simp [boolsV]
theorem rd_blk {w : World} {g n c : Nat} {t : TypeId} {l : List Bool} (h : Blk w g t (boolsV l)) (hl : l.length = n) (hc : n ≤ c) : RdV w (.slice (some ⟨g, 0, none⟩) n c) (boolsV l) := by
  refine ⟨some ⟨g, 0, none⟩, c, by rw [boolsV_len, hl], ⟨by rw [boolsV_len]; omega, fun e => by cases e⟩, fun _ => ⟨g, 0, rfl, fun k hk => ?_⟩⟩
  rw [Nat.zero_add]
  exact h.cell hk
theorem getB_rep (n i : Nat) : (List.replicate n false).getD i false = false := by
  rw [List.getD_eq_getElem?_getD, List.getElem?_replicate]
  split <;> rfl
theorem StAt.other {w : World} {H o g j : Nat} {x : St} (h : StAt w H o x) (hn : H ≠ g) (u : Value) : StAt (w.setCell ⟨g, j, none⟩ u) H o x := by
  obtain ⟨h0, h1, h2, h3, h4, h5, h6⟩ := h
  have e : ∀ (i : Nat) (y : Value), w.cell? ⟨H, i, none⟩ = some y → (w.setCell ⟨g, j, none⟩ u).cell? ⟨H, i, none⟩ = some y := fun i y hy => (World.cell?_of_block (Below.heap_setCell _ _ _ _ hn)).trans hy
  exact ⟨e _ _ h0, e _ _ h1, e _ _ h2, e _ _ h3, e _ _ h4, e _ _ h5, e _ _ h6⟩
/-- The copy of a state that a round looks at. -/
def Cop2 (w : World) (H : Nat) (k : Int) (x0 x1 x2 x3 : Nat) (nx : Int) : Prop := w.cell? ⟨H, 0, none⟩ = some (.int .i64 k) ∧ w.cell? ⟨H, 1, none⟩ = some (.int .u64 x0) ∧ w.cell? ⟨H, 2, none⟩ = some (.int .u64 x1) ∧ w.cell? ⟨H, 3, none⟩ = some (.int .u64 x2) ∧ w.cell? ⟨H, 4, none⟩ = some (.int .u64 x3) ∧ w.cell? ⟨H, 5, none⟩ = some (.int .i64 nx)
theorem Cop2.block {w w' : World} {H x0 x1 x2 x3 : Nat} {k nx : Int} (h : Cop2 w H k x0 x1 x2 x3 nx) (hb : w'.heap[H]? = w.heap[H]?) : Cop2 w' H k x0 x1 x2 x3 nx := by
  obtain ⟨h0, h1, h2, h3, h4, h5⟩ := h
  have e : ∀ (i : Nat) (y : Value), w.cell? ⟨H, i, none⟩ = some y → w'.cell? ⟨H, i, none⟩ = some y := fun i y hy => (World.cell?_of_block hb).trans hy
  exact ⟨e _ _ h0, e _ _ h1, e _ _ h2, e _ _ h3, e _ _ h4, e _ _ h5⟩
/-- What holds within a round of Ends. -/
structure InW (w1 w : World) (gn go gc H : Nat) (ln lo lc : List Bool) (k : Int) (x0 x1 x2 x3 : Nat) (nx : Int) : Prop where
  n : Blk w gn tBool (boolsV ln)
  o : Blk w go tBool (boolsV lo)
  c : Blk w gc tBool (boolsV lc)
  b : Below w1.heap.size w1 w
  p : Cop2 w H k x0 x1 x2 x3 nx
theorem InW.below {w1 w w' : World} {gn go gc H : Nat} {ln lo lc : List Bool} {k nx : Int} {x0 x1 x2 x3 : Nat} (h : InW w1 w gn go gc H ln lo lc k x0 x1 x2 x3 nx) (hb : Below w.heap.size w w') : InW w1 w' gn go gc H ln lo lc k x0 x1 x2 x3 nx :=
  ⟨h.n.of_block (hb.block _ h.n.lt), h.o.of_block (hb.block _ h.o.lt), h.c.of_block (hb.block _ h.c.lt), h.b.trans (hb.mono h.b.size), h.p.block (hb.block _ (Tx.cell_lt h.p.1))⟩
theorem InW.drewN {w1 w : World} {gn go gc H : Nat} {ln lo lc : List Bool} {k nx : Int} {x0 x1 x2 x3 : Nat} (h : InW w1 w gn go gc H ln lo lc k x0 x1 x2 x3 nx) (m : Nat) : InW w1 (w.drewN m) gn go gc H ln lo lc k x0 x1 x2 x3 nx := by
  exact h.below (below_drewN (Below.refl _ _) m)
theorem InW.setO {w1 w : World} {gn go gc H j : Nat} {ln lo lc : List Bool} {k nx : Int} {x0 x1 x2 x3 : Nat} (h : InW w1 w gn go gc H ln lo lc k x0 x1 x2 x3 nx) (h1 : gn ≠ go) (h2 : gc ≠ go) (h3 : H ≠ go) (hb : w1.heap.size ≤ go) (b : Bool) : InW w1 (w.setCell ⟨go, j, none⟩ (.bool b)) gn go gc H ln (lo.set j b) lc k x0 x1 x2 x3 nx :=
  ⟨h.n.of_block (Below.heap_setCell _ _ _ _ h1), h.o.setBit j b, h.c.of_block (Below.heap_setCell _ _ _ _ h2), h.b.setCell (p := ⟨go, j, none⟩) hb _, h.p.block (Below.heap_setCell _ _ _ _ h3)⟩
theorem InW.setN {w1 w : World} {gn go gc H j : Nat} {ln lo lc : List Bool} {k nx : Int} {x0 x1 x2 x3 : Nat} (h : InW w1 w gn go gc H ln lo lc k x0 x1 x2 x3 nx) (h1 : go ≠ gn) (h2 : gc ≠ gn) (h3 : H ≠ gn) (hb : w1.heap.size ≤ gn) (b : Bool) : InW w1 (w.setCell ⟨gn, j, none⟩ (.bool b)) gn go gc H (ln.set j b) lo lc k x0 x1 x2 x3 nx :=
  ⟨h.n.setBit j b, h.o.of_block (Below.heap_setCell _ _ _ _ h1), h.c.of_block (Below.heap_setCell _ _ _ _ h2), h.b.setCell (p := ⟨gn, j, none⟩) hb _, h.p.block (Below.heap_setCell _ _ _ _ h3)⟩
theorem sel_below {W w6 : World} {gc k H x0 x1 x2 x3 : Nat} {x : St} (B : Below W.drew.heap.size W.drew w6)
    (h : W.cell? ⟨gc, k, none⟩ = some (.bool true) ∧ W.cell? ⟨H, 0, none⟩ = some (.int .i64 x.kind) ∧ W.cell? ⟨H, 1, none⟩ = some (.int .u64 x0) ∧ W.cell? ⟨H, 2, none⟩ = some (.int .u64 x1) ∧ W.cell? ⟨H, 3, none⟩ = some (.int .u64 x2) ∧ W.cell? ⟨H, 4, none⟩ = some (.int .u64 x3)) :
    w6.cell? ⟨gc, k, none⟩ = some (.bool true) ∧ w6.cell? ⟨H, 0, none⟩ = some (.int .i64 x.kind) ∧ w6.cell? ⟨H, 1, none⟩ = some (.int .u64 x0) ∧ w6.cell? ⟨H, 2, none⟩ = some (.int .u64 x1) ∧ w6.cell? ⟨H, 3, none⟩ = some (.int .u64 x2) ∧ w6.cell? ⟨H, 4, none⟩ = some (.int .u64 x3) := by
  obtain ⟨h0, h1, h2, h3, h4, h5⟩ := h
  have e : ∀ (b i : Nat) (y : Value), W.cell? ⟨b, i, none⟩ = some y → w6.cell? ⟨b, i, none⟩ = some y := fun b i y hy => (B.cell (p := ⟨b, i, none⟩) (Tx.cell_lt hy)).trans hy
  exact ⟨e _ _ _ h0, e _ _ _ h1, e _ _ _ h2, e _ _ _ h3, e _ _ _ h4, e _ _ _ h5⟩
abbrev tAuE : TypeId := 32
end Au
end
end Go.Proofs.Ytgadomcbaenodaa

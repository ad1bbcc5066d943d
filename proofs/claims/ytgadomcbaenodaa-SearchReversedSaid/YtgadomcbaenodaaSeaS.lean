/-
  Layer 6: the steps of an automaton by the states to which they lead, as lists of the last one and of the one before. No program. No conditions. Layer 6: the walker as data and in the world; the program's reads, passes and visit. Condition: a valid automaton. Walks of layer 6: the program's reads, passes and visit. Condition: a valid automaton. Layer 6: what visit and reach keep of the walker's data. No program. No conditions. Walk of layer 6: the program's reach. Condition: a valid automaton. Layer 6: what a step backward does to the walker's data, and the walker's cells in a world that only grew. No program. No conditions. Layer 6: what the iterator and the body of a loop over it leave alone, by the types of blocks; the walker behind a body. No program. No conditions.
-/
import Derived.Test.YtgadomcbaenodaaSeaMath
import Derived.Deep.RegionLaw
import Derived.StillTailTactics
import Derived.BigQuiet
import Derived.Deep.QuietTactic
import Derived.Deep.OwnRows
import Derived.Maps.AppendAt
import Derived.RangeFuncWrites
namespace Go.Proofs.Ytgadomcbaenodaa
section
namespace Se
open Cm Rx Au
/-- The greatest number below k that has a property, or -1. -/
def prevS (p : Nat → Bool) : Nat → Int
  | 0 => -1
  | k + 1 => if p k = true then (k : Int) else prevS p k
theorem prevS_lt (p : Nat → Bool) : ∀ k, prevS p k < (k : Int)
  | 0 => by show (-1 : Int) < 0; omega
  | k + 1 => by
    have := prevS_lt p k
    unfold prevS
    by_cases h : p k = true
    · rw [if_pos h]; omega
    · rw [if_neg h]; omega
theorem prevS_ge (p : Nat → Bool) : ∀ k, -1 ≤ prevS p k
  | 0 => Int.le_refl _
  | k + 1 => by
    have := prevS_ge p k
    unfold prevS
    by_cases h : p k = true
    · rw [if_pos h]; omega
    · rw [if_neg h]; omega
theorem prevS_hit {p : Nat → Bool} {t : Nat} : ∀ {k}, prevS p k = (t : Int) → p t = true ∧ t < k
  | 0, h => by have h : (-1 : Int) = (t : Int) := h; omega
  | k + 1, h => by
    unfold prevS at h
    by_cases hp : p k = true
    · rw [if_pos hp] at h
      obtain rfl : k = t := by omega
      exact ⟨hp, by omega⟩
    · rw [if_neg hp] at h
      have := prevS_hit h
      exact ⟨this.1, by omega⟩
theorem prevS_out {p : Nat → Bool} {t : Nat} : ∀ {k}, t < k → prevS p k < (t : Int) → p t = false
  | 0, h, _ => by omega
  | k + 1, h, h2 => by
    unfold prevS at h2
    by_cases hp : p k = true
    · rw [if_pos hp] at h2; omega
    · rw [if_neg hp] at h2
      by_cases e : t = k
      · subst e; simpa using hp
      · exact prevS_out (by omega) h2
/-- For each state the last of the first m steps to it. -/
def lastF (X : Nat → Nat → Bool) (n m : Nat) : List Int := (List.range n).map fun q => prevS (X q) m
/-- For each of the first m steps the one to the same state before it. -/
def befF (X : Nat → Nat → Bool) (T : Nat → Nat) (n m : Nat) : List Int := (List.range (2 * n)).map fun t => if t < m ∧ X (T t) t = true then prevS (X (T t)) t else 0
theorem lastF_len (X : Nat → Nat → Bool) (n m : Nat) : (lastF X n m).length = n := by simp [lastF]
theorem befF_len (X : Nat → Nat → Bool) (T : Nat → Nat) (n m : Nat) : (befF X T n m).length = 2 * n := by simp [befF]
theorem lastF_get {X : Nat → Nat → Bool} {n m q : Nat} (h : q < n) : (lastF X n m)[q]'(by rw [lastF_len]; exact h) = prevS (X q) m := by simp [lastF]
theorem befF_get {X : Nat → Nat → Bool} {T : Nat → Nat} {n m t : Nat} (h : t < 2 * n) (hm : t < m) (hx : X (T t) t = true) : (befF X T n m)[t]'(by rw [befF_len]; exact h) = prevS (X (T t)) t := by
  simp [befF, hm, hx]
theorem lastF_zero (X : Nat → Nat → Bool) (n : Nat) : lastF X n 0 = List.replicate n (-1) := by
  refine List.ext_getElem (by simp [lastF]) fun i h1 h2 => ?_
  simp [lastF, prevS]
theorem befF_zero (X : Nat → Nat → Bool) (T : Nat → Nat) (n : Nat) : befF X T n 0 = List.replicate (2 * n) 0 := by
  refine List.ext_getElem (by simp [befF]) fun i h1 h2 => ?_
  simp [befF]
theorem lastF_no {X : Nat → Nat → Bool} {n m : Nat} (h : ∀ q, X q m = false) : lastF X n (m + 1) = lastF X n m := by
  refine List.ext_getElem (by simp [lastF]) fun i h1 h2 => ?_
  simp [lastF, prevS, h i]
theorem befF_no {X : Nat → Nat → Bool} {T : Nat → Nat} {n m : Nat} (h : ∀ q, X q m = false) : befF X T n (m + 1) = befF X T n m := by
  refine List.ext_getElem (by simp [befF]) fun i h1 h2 => ?_
  simp only [befF, List.getElem_map, List.getElem_range]
  by_cases e : i = m
  · subst e; simp [h]
  · by_cases hi : i < m
    · simp [hi, show i < m + 1 by omega]
    · simp [hi, show ¬ i < m + 1 by omega]
theorem lastF_yes {X : Nat → Nat → Bool} {n m r : Nat} (h : X r m = true) (hu : ∀ q, X q m = true → q = r) : (lastF X n m).set r (m : Int) = lastF X n (m + 1) := by
  refine List.ext_getElem (by simp [lastF]) fun i h1 h2 => ?_
  rw [List.getElem_set]
  simp only [lastF, List.getElem_map, List.getElem_range]
  by_cases e : r = i
  · subst e; rw [if_pos rfl]; simp [prevS, h]
  · rw [if_neg e]
    have : X i m = false := by
      cases hx : X i m with
      | false => rfl
      | true => exact absurd (hu i hx).symm e
    simp [prevS, this]
theorem befF_yes {X : Nat → Nat → Bool} {T : Nat → Nat} {n m r : Nat} (hT : T m = r) (h : X r m = true) : (befF X T n m).set m (prevS (X r) m) = befF X T n (m + 1) := by
  refine List.ext_getElem (by simp [befF]) fun i h1 h2 => ?_
  rw [List.getElem_set]
  simp only [befF, List.getElem_map, List.getElem_range]
  by_cases e : m = i
  · subst e; rw [if_pos rfl, hT]; simp [h]
  · rw [if_neg e]
    by_cases hi : i < m
    · simp [hi, show i < m + 1 by omega]
    · simp [hi, show ¬ i < m + 1 by omega]
/-- Where a step leads: step 2 q is the first one of the state q, step 2 q + 1 the second. -/
def tgtF (ss : List St) (t : Nat) : Nat := match ss[t / 2]? with | some s => if t % 2 = 0 then s.next.toNat else s.other.toNat | none => 0
def freeX (ss : List St) (r t : Nat) : Bool := match ss[t / 2]? with | some s => if t % 2 = 0 then (s.kind == 1 || s.kind == 2 || s.kind == 3) && s.next.toNat == r else s.kind == 1 && s.other.toNat == r | none => false
def readX (ss : List St) (r t : Nat) : Bool := match ss[t / 2]? with | some s => if t % 2 = 0 then s.kind == 0 && s.next.toNat == r else false | none => false
/-- Is a state that reads nothing passed at an offset? -/
def passX (s : St) (n i : Nat) : Bool := if s.kind = 2 then decide (i = 0) else if s.kind = 3 then decide (i = n) else true
theorem freeX_tgt {ss : List St} {r t : Nat} (h : freeX ss r t = true) : r = tgtF ss t := by
  unfold freeX at h
  unfold tgtF
  cases e : ss[t / 2]? with
  | none => rw [e] at h; cases h
  | some s =>
    rw [e] at h
    by_cases hm : t % 2 = 0
    · simp [hm] at h ⊢; exact h.2.symm
    · simp [hm] at h ⊢; exact h.2.symm
theorem readX_tgt {ss : List St} {r t : Nat} (h : readX ss r t = true) : r = tgtF ss t := by
  unfold readX at h
  unfold tgtF
  cases e : ss[t / 2]? with
  | none => rw [e] at h; cases h
  | some s =>
    rw [e] at h
    by_cases hm : t % 2 = 0
    · simp [hm] at h ⊢; exact h.2.symm
    · simp [hm] at h
theorem free_iff {ss : List St} {n i q r : Nat} : Free ss n i q r ↔ ∃ t, t / 2 = q ∧ freeX ss r t = true ∧ ∃ h : q < ss.length, passX ss[q] n i = true := by
  constructor
  · rintro ⟨hq, ⟨hp, hr⟩ | ⟨hk, hr⟩⟩
    · refine ⟨2 * q, by omega, ?_, hq, ?_⟩
      · unfold freeX
        rw [show 2 * q / 2 = q by omega, List.getElem?_eq_getElem hq]
        simp only [show 2 * q % 2 = 0 by omega, if_true, hr, beq_self_eq_true, Bool.and_true]
        unfold passS at hp
        simp only [Bool.or_eq_true, Bool.and_eq_true] at hp ⊢
        rcases hp with h | ⟨h, _⟩ | ⟨h, _⟩
        · exact .inl (.inl h)
        · exact .inl (.inr h)
        · exact .inr h
      · unfold passS at hp
        unfold passX
        simp only [Bool.or_eq_true, Bool.and_eq_true, beq_iff_eq] at hp
        rcases hp with h | ⟨h, h2⟩ | ⟨h, h2⟩
        · simp [h]
        · simpa [h] using h2
        · simpa [h] using h2
    · refine ⟨2 * q + 1, by omega, ?_, hq, by unfold passX; simp [hk]⟩
      unfold freeX
      rw [show (2 * q + 1) / 2 = q by omega, List.getElem?_eq_getElem hq]
      simp [show (2 * q + 1) % 2 = 1 by omega, hr, hk]
  · rintro ⟨t, rfl, hf, hq, hp⟩
    unfold freeX at hf
    rw [List.getElem?_eq_getElem hq] at hf
    refine ⟨hq, ?_⟩
    by_cases hm : t % 2 = 0
    · simp only [hm, if_true, Bool.and_eq_true, Bool.or_eq_true, beq_iff_eq] at hf
      refine .inl ⟨?_, hf.2⟩
      unfold passX at hp
      unfold passS
      rcases hf.1 with (h | h) | h
      · simp [h]
      · simpa [h] using hp
      · simpa [h] using hp
    · simp only [hm, if_false, Bool.and_eq_true, beq_iff_eq] at hf
      exact .inr ⟨hf.1, hf.2⟩
theorem readX_iff {ss : List St} {r t : Nat} : readX ss r t = true ↔ t % 2 = 0 ∧ ∃ h : t / 2 < ss.length, ss[t / 2].kind = 0 ∧ ss[t / 2].next.toNat = r := by
  unfold readX
  constructor
  · intro h
    cases e : ss[t / 2]? with
    | none => rw [e] at h; cases h
    | some s =>
      rw [e] at h
      obtain ⟨h1, h2⟩ := List.getElem?_eq_some_iff.1 e
      by_cases hm : t % 2 = 0
      · simp [hm] at h
        exact ⟨hm, h1, by rw [h2]; exact h.1, by rw [h2]; exact h.2⟩
      · simp [hm] at h
  · rintro ⟨hm, h1, hk, hr⟩
    rw [List.getElem?_eq_getElem h1]
    simp [hm, hk, hr]
end Se
end
section
open Go.RowKit
namespace Se
open Cm Rx Au
abbrev tPl : TypeId := 113
abbrev tPls : TypeId := 98
abbrev tWk : TypeId := 100
/-- The cells of a list of places. -/
def flatP (L : List (Nat × Nat)) : List Value := L.flatMap fun p => [.int .i64 (p.1 : Int), .int .i64 (p.2 : Int)]
theorem flatP_len (L : List (Nat × Nat)) : (flatP L).length = L.length * 2 := by
  induction L with
  | nil => rfl
  | cons a l ih => simp [flatP] at ih ⊢; omega
theorem flatP_snoc (L : List (Nat × Nat)) (q e : Nat) : flatP (L ++ [(q, e)]) = flatP L ++ [.int .i64 (q : Int), .int .i64 (e : Int)] := by
  simp [flatP]
theorem flatP_get : ∀ (L : List (Nat × Nat)) (j : Nat) (h : j < L.length), (flatP L)[j * 2]? = some (.int .i64 (L[j].1 : Int)) ∧ (flatP L)[j * 2 + 1]? = some (.int .i64 (L[j].2 : Int))
  | a :: l, 0, _ => ⟨rfl, rfl⟩
  | a :: l, j + 1, h => by
    have ih := flatP_get l j (by simpa using h)
    have e : flatP (a :: l) = .int .i64 (a.1 : Int) :: .int .i64 (a.2 : Int) :: flatP l := rfl
    rw [e, show (j + 1) * 2 = j * 2 + 1 + 1 by omega]
    simp only [List.getElem?_cons_succ, List.getElem_cons_succ]
    exact ih
/-- What stays of a walker. -/
structure Parts where
  B : Nat
  gs : Nat
  bA : Nat
  oA : Nat
  c : Nat
  s : ByteArray
  R1 : Nat
  R2 : Nat
  F1 : Nat
  F2 : Nat
  vacc : Value
  ba : Nat
  accs : List Int
/-- What changes. -/
structure Dyn where
  at_ : Int
  L : List (Nat × Nat)
  M : List (Nat × Nat)
  seen : List Int
  fin : Int
/-- The facts on the world behind newWalker. -/
structure WkS (ss : List St) (w1 : World) (P : Parts) : Prop where
  pos : 0 < ss.length
  ok : ∀ k (h : k < ss.length), okS ss.length ss[k] = true
  st : ∀ j (h : j < ss.length), StAt w1 P.bA (P.oA + j * 7) ss[j]
  r1 : w1.heap[P.R1]? = some (.cells (intsV (lastF (readX ss) ss.length (2 * ss.length))).toArray tInt (0, 0))
  r2 : w1.heap[P.R2]? = some (.cells (intsV (befF (readX ss) (tgtF ss) ss.length (2 * ss.length))).toArray tInt (0, 0))
  f1 : w1.heap[P.F1]? = some (.cells (intsV (lastF (freeX ss) ss.length (2 * ss.length))).toArray tInt (0, 0))
  f2 : w1.heap[P.F2]? = some (.cells (intsV (befF (freeX ss) (tgtF ss) ss.length (2 * ss.length))).toArray tInt (0, 0))
  acc : ∃ ca, P.vacc = .slice (if P.accs = [] then none else some ⟨P.ba, 0, none⟩) P.accs.length ca
  accc : ∀ j (h : j < P.accs.length), w1.cell? ⟨P.ba, j, none⟩ = some (.int .i64 P.accs[j])
  accm : ∀ x, x ∈ P.accs ↔ ∃ k : Nat, x = (k : Int) ∧ ∃ h : k < ss.length, ss[k].kind = 4
  accl : P.accs.length ≤ ss.length
  ne : P.B ≠ P.gs
  na : P.bA ≠ P.B ∧ P.bA ≠ P.gs
  n1 : P.R1 ≠ P.B ∧ P.R1 ≠ P.gs
  n2 : P.R2 ≠ P.B ∧ P.R2 ≠ P.gs
  n3 : P.F1 ≠ P.B ∧ P.F1 ≠ P.gs
  n4 : P.F2 ≠ P.B ∧ P.F2 ≠ P.gs
  n5 : P.ba ≠ P.B ∧ P.ba ≠ P.gs
/-- The cells of the walker. -/
def cellsK (n : Nat) (st : Nat) (P : Parts) (D : Dyn) (vL vM : Value) : Array Value :=
  #[.slice (some ⟨P.bA, P.oA, none⟩) n P.c, .int .i64 (st : Int), .string P.s, .slice (some ⟨P.R1, 0, none⟩) n n, .slice (some ⟨P.R2, 0, none⟩) (2 * n) (2 * n), .slice (some ⟨P.F1, 0, none⟩) n n, .slice (some ⟨P.F2, 0, none⟩) (2 * n) (2 * n), P.vacc, .int .i64 D.at_, vL, vM, .slice (some ⟨P.gs, 0, none⟩) n n, .int .i64 D.fin]
/-- A walker in the world w: w0 is the world before it was made, w1 the one behind newWalker. -/
structure Wk (n st : Nat) (w0 w1 w : World) (P : Parts) (D : Dyn) (vL vM : Value) : Prop where
  blk : w.heap[P.B]? = some (.cells (cellsK n st P D vL vM) tWk (0, 0))
  seen : w.heap[P.gs]? = some (.cells (intsV D.seen).toArray tInt (0, 0))
  sl : D.seen.length = n
  lv : w.ownsRow w1.heap.size tPl 2 vL D.L.length (flatP D.L)
  fm : w.ownsRow w1.heap.size tPl 2 vM D.M.length (flatP D.M)
  ne : ∀ k, vL.ownBlock = some k → vM.ownBlock ≠ some k
  chg : ∀ k, k < w1.heap.size → k ≠ P.B → k ≠ P.gs → w.heap[k]? = w1.heap[k]?
  size : w1.heap.size ≤ w.heap.size
  bel : Below w0.heap.size w0 w
  lo : w0.heap.size ≤ P.B ∧ w0.heap.size ≤ P.gs ∧ P.B < w1.heap.size ∧ P.gs < w1.heap.size ∧ w0.heap.size ≤ w1.heap.size
variable {n st : Nat} {w0 w1 w : World} {P : Parts} {D : Dyn} {vL vM : Value}
theorem Wk.block (h : Wk n st w0 w1 w P D vL vM) {k : Nat} {o : Obj} (h1 : k ≠ P.B) (h2 : k ≠ P.gs) (hc : w1.heap[k]? = some o) : w.heap[k]? = some o :=
  (h.chg k (lt_some hc) h1 h2).trans hc
theorem Wk.cell (h : Wk n st w0 w1 w P D vL vM) {k i : Nat} {v : Value} (h1 : k ≠ P.B) (h2 : k ≠ P.gs) (hc : w1.cell? ⟨k, i, none⟩ = some v) : w.cell? ⟨k, i, none⟩ = some v :=
  (World.cell?_of_block (w := w1) (a := ⟨k, i, none⟩) (h.chg k (Tx.cell_lt hc) h1 h2)).trans hc
theorem Wk.own (h : Wk n st w0 w1 w P D vL vM) (i : Nat) {v : Value} (hv : (cellsK n st P D vL vM)[i]? = some v) : w.cell? ⟨P.B, i, none⟩ = some v := by
  simp only [World.cell?, h.blk]; exact hv
theorem Wk.free (h : Wk n st w0 w1 w P D vL vM) (i : Nat) : w.frozen? ⟨P.B, i, none⟩ = false := by
  simp [World.frozen?, h.blk]
theorem Wk.sfree (h : Wk n st w0 w1 w P D vL vM) (i : Nat) : w.frozen? ⟨P.gs, i, none⟩ = false := by
  simp [World.frozen?, h.seen]
theorem Wk.drewN (h : Wk n st w0 w1 w P D vL vM) (m : Nat) : Wk n st w0 w1 (w.drewN m) P D vL vM := by
  have hb := below_drewN (Below.refl w.heap.size w) m
  have hk : ∀ k, k < w.heap.size → (w.drewN m).heap[k]? = w.heap[k]? := fun k hk => hb.block k hk
  exact ⟨(hk _ (lt_some h.blk)).trans h.blk, (hk _ (lt_some h.seen)).trans h.seen, h.sl, own_same h.lv hk, own_same h.fm hk, h.ne, fun k h1 h2 h3 => (hk k (by have := h.size; omega)).trans (h.chg k h1 h2 h3), Nat.le_trans h.size hb.size, below_drewN h.bel m, h.lo⟩
theorem own_hi {base m k : Nat} {v : Value} {xs : List Value} (h : w.ownsRow base tPl 2 v m xs) (hk : k < base) : v.ownBlock ≠ some k := fun e => by
  have := (h.lt k e).1
  omega
theorem own_setP {base m g j : Nat} {v u : Value} {xs : List Value} (h : w.ownsRow base tPl 2 v m xs) (hk : g < base) : (w.setCell ⟨g, j, none⟩ u).ownsRow base tPl 2 v m xs :=
  ownsRow_setCell_below h (a := ⟨g, j, none⟩) hk u
/-- A cell of the walker is written. -/
theorem Wk.setB (h : Wk n st w0 w1 w P D vL vM) (i : Nat) (u : Value) (D' : Dyn) (hL : D'.L = D.L) (hM : D'.M = D.M) (hs : D'.seen = D.seen) (hgs : P.B ≠ P.gs) (hc : (cellsK n st P D vL vM).setIfInBounds i u = cellsK n st P D' vL vM) : Wk n st w0 w1 (w.setCell ⟨P.B, i, none⟩ u) P D' vL vM := by
  have ho : ∀ k, k ≠ P.B → (w.setCell ⟨P.B, i, none⟩ u).heap[k]? = w.heap[k]? := fun k e => Below.heap_setCell _ _ _ k e
  refine ⟨by rw [← hc]; exact set_block h.blk, by rw [hs]; exact (ho _ (Ne.symm hgs)).trans h.seen, by rw [hs]; exact h.sl, by rw [hL]; exact own_setP h.lv h.lo.2.2.1, by rw [hM]; exact own_setP h.fm h.lo.2.2.1, h.ne, fun k h1 h2 h3 => (ho k h2).trans (h.chg k h1 h2 h3), ?_, h.bel.setCell (p := ⟨P.B, i, none⟩) h.lo.1 u, h.lo⟩
  simp [World.setCell]; exact h.size
/-- A cell of seen is written. -/
theorem Wk.setS (h : Wk n st w0 w1 w P D vL vM) (i : Nat) (x : Int) (hgs : P.B ≠ P.gs) : Wk n st w0 w1 (w.setCell ⟨P.gs, i, none⟩ (.int .i64 x)) P { D with seen := D.seen.set i x } vL vM := by
  have ho : ∀ k, k ≠ P.gs → (w.setCell ⟨P.gs, i, none⟩ (.int .i64 x)).heap[k]? = w.heap[k]? := fun k e => Below.heap_setCell _ _ _ k e
  refine ⟨(ho _ hgs).trans h.blk, ?_, by rw [List.length_set]; exact h.sl, own_setP h.lv h.lo.2.2.2.1, own_setP h.fm h.lo.2.2.2.1, h.ne, fun k h1 h2 h3 => (ho k h3).trans (h.chg k h1 h2 h3), ?_, h.bel.setCell (p := ⟨P.gs, i, none⟩) h.lo.2.1 _, h.lo⟩
  · have := set_block (o := i) (u := .int .i64 x) h.seen
    rw [this]
    congr 2
    simp [intsV, List.map_set]
  · simp [World.setCell]; exact h.size
end Se
end
section
open Go.RowKit
namespace Se
open Cm Rx Au
set_option maxRecDepth 100000 in
set_option maxHeartbeats 1000000 in
theorem reads_any (b o : Nat) (x : St) (y : UInt8) (w : World) (h : StAt w b o x) :
    Calls Try.prog 60 #[.pointer (some ⟨b, o, none⟩), .int .u8 (y.toNat : Int)] w fun e w' => e = .returned (.bool (x.set y.toNat)) ∧ w' = w := by
  obtain ⟨-, p0, p1, p2, p3, -, -⟩ := h
  generalize x.set = m at p0 p1 p2 p3 ⊢
  have hx := y.toNat_lt
  have hbit := has_bit m (y.toNat / 64) y.toNat rfl
  generalize y.toNat = n at hx hbit
  have hx2 : (n : Int) < 256 := by omega
  have h0 : (0 : Int) ≤ (n : Int) := by omega
  have hwl := fun j => word_lt m j
  have hc : n / 64 = 0 ∨ n / 64 = 1 ∨ n / 64 = 2 ∨ n / 64 = 3 := by omega
  rcases hc with h | h | h | h
  · rw [h] at hbit
    have HBit := Lib.hid hbit
    have HWl := Lib.hid (hwl 0)
    have e1 : (n : Int) / 64 = 0 := by omega
    clear h hx hbit hwl
    generalize word m 0 = a0 at p0 HBit HWl
    generalize word m 1 = a1 at p1
    generalize word m 2 = a2 at p2
    generalize word m 3 = a3 at p3
    go_enter Try.func60, Try.ntmps60
    go_wp2_with fail
    go_ret
    exact ⟨ret_bool (has_walk HWl.out HBit.out), rfl⟩
  · rw [h] at hbit
    have HBit := Lib.hid hbit
    have HWl := Lib.hid (hwl 1)
    have e1 : (n : Int) / 64 = 1 := by omega
    clear h hx hbit hwl
    generalize word m 0 = a0 at p0
    generalize word m 1 = a1 at p1 HBit HWl
    generalize word m 2 = a2 at p2
    generalize word m 3 = a3 at p3
    go_enter Try.func60, Try.ntmps60
    go_wp2_with fail
    go_ret
    exact ⟨ret_bool (has_walk HWl.out HBit.out), rfl⟩
  · rw [h] at hbit
    have HBit := Lib.hid hbit
    have HWl := Lib.hid (hwl 2)
    have e1 : (n : Int) / 64 = 2 := by omega
    clear h hx hbit hwl
    generalize word m 0 = a0 at p0
    generalize word m 1 = a1 at p1
    generalize word m 2 = a2 at p2 HBit HWl
    generalize word m 3 = a3 at p3
    go_enter Try.func60, Try.ntmps60
    go_wp2_with fail
    go_ret
    exact ⟨ret_bool (has_walk HWl.out HBit.out), rfl⟩
  · rw [h] at hbit
    have HBit := Lib.hid hbit
    have HWl := Lib.hid (hwl 3)
    have e1 : (n : Int) / 64 = 3 := by omega
    clear h hx hbit hwl
    generalize word m 0 = a0 at p0
    generalize word m 1 = a1 at p1
    generalize word m 2 = a2 at p2
    generalize word m 3 = a3 at p3 HBit HWl
    go_enter Try.func60, Try.ntmps60
    go_wp2_with fail
    go_ret
    exact ⟨ret_bool (has_walk HWl.out HBit.out), rfl⟩
set_option maxRecDepth 100000 in
set_option maxHeartbeats 1000000 in
theorem passes_any {st : Nat} {w0 w1 w : World} {P : Parts} {D : Dyn} {vL vM : Value} (ss : List St) (hS : WkS ss w1 P) (h : Wk ss.length st w0 w1 w P D vL vM) (q i : Nat) (hq : q < ss.length) (hi : D.at_ = (i : Int)) :
    Calls Try.prog 67 #[.pointer (some ⟨P.B, 0, none⟩), .int .i64 (q : Int)] w fun e w' => e = .returned (.bool (passX ss[q] P.s.size i)) ∧ ∃ m, w' = w.drewN m := by
  have c0 : w.cell? ⟨P.B, 0, none⟩ = some (.slice (some ⟨P.bA, P.oA, none⟩) ss.length P.c) := h.own 0 rfl
  have c2 : w.cell? ⟨P.B, 2, none⟩ = some (.string P.s) := h.own 2 rfl
  have c8 : w.cell? ⟨P.B, 8, none⟩ = some (.int .i64 D.at_) := h.own 8 rfl
  have hk := h.cell hS.na.1 hS.na.2 (hS.st q hq).1
  rw [hi] at c8
  have HPx : Hid (passX ss[q] P.s.size i = if ss[q].kind = 2 then decide (i = 0) else if ss[q].kind = 3 then decide (i = P.s.size) else true) := Lib.hid rfl
  generalize passX ss[q] P.s.size i = R at HPx ⊢
  generalize ss[q].kind = k at hk HPx
  have i0 : (0 : Int) ≤ (q : Int) := by omega
  have i1 : (q : Int) < (ss.length : Int) := by omega
  clear h hS hi
  generalize ss.length = nn at *
  by_cases k2 : k = 2
  · subst k2
    have HR : Hid (R = decide (i = 0)) := Lib.hid (by rw [HPx.out, if_pos rfl])
    clear HPx
    go_enter Try.func67, Try.ntmps67
    go_wp2_with fail
    go_ret
    exact ⟨ret_bool (by rw [HR.out]; first | rfl | (rw [Bool.eq_iff_iff]; simp; done) | (rw [Bool.eq_iff_iff]; simp; omega)), 0, rfl⟩
  by_cases k3 : k = 3
  · subst k3
    have HR : Hid (R = decide (i = P.s.size)) := Lib.hid (by rw [HPx.out, if_neg (by omega), if_pos rfl])
    clear HPx k2
    go_enter Try.func67, Try.ntmps67
    go_upto_region 5 with fail
    go_quiet (fail)
    go_wp2_with fail
    go_ret
    exact ⟨ret_bool (by rw [HR.out]; first | rfl | (rw [Bool.eq_iff_iff]; simp; done) | (rw [Bool.eq_iff_iff]; simp; omega)), _, rfl⟩
  · have HR : Hid (R = true) := Lib.hid (by rw [HPx.out, if_neg k2, if_neg k3])
    have e2 : (k == 2) = false := by rw [beq_eq_false_iff_ne]; exact k2
    have e3 : (k == 3) = false := by rw [beq_eq_false_iff_ne]; exact k3
    clear HPx k2 k3
    go_enter Try.func67, Try.ntmps67
    go_wp2_with fail
    go_ret
    exact ⟨ret_bool HR.out.symm, 0, rfl⟩
section
variable {ops : Array Oper} {rest : List Oper} {o : Oper} {a : Act} {Q : Exit → Act → World → Prop} {w : World}
theorem info_pl : (Try.prog.info? tPl).map (fun i => (i.zero, i.size, i.bytes)) = some (some (.agg #[.int .i64 0, .int .i64 0]), 2, 16) := by kernel_rfl
theorem app_pl (hg : o.guard = none)
    (s x : Operand) (ho : o.op = .call { callee := .builtin .append, args := #[s, x], argTypes := #[tPls, tPls] })
    (base : Nat) (L : List (Nat × Nat)) (q e : Nat) (v : Value) (C : Array Value) (hs : a.eval s = v) (hown : w.ownsRow base tPl 2 v L.length (flatP L))
    (hx : a.eval x = .slice (some ⟨w.heap.size, 0, none⟩) 1 1) (hC : C.toList = [.int .i64 (q : Int), .int .i64 (e : Int)])
    (hsz : L.length + 1 ≤ 1000000) (hbase : base ≤ w.heap.size)
    (h : ∀ v' w', w'.ownsRow base tPl 2 v' (L ++ [(q, e)]).length (flatP (L ++ [(q, e)])) → (w.alloc (.cells C tPl)).grownBy w' v.ownBlock → (v'.ownBlock = v.ownBlock ∨ v'.ownBlock = some (w.heap.size + 1)) → wpList Try.prog ops Q rest (a.put o.dst v') w') :
    wpList Try.prog ops Q (o :: rest) a (w.alloc (.cells C tPl)) := by
  obtain ⟨i0, hi0, hz0, hz1, hz2⟩ := info_parts info_pl
  have hsize : (w.alloc (.cells C tPl)).heap.size = w.heap.size + 1 := by simp
  refine wpList_append_own_at _ hg s x _ ho base tPl i0 _ 2 16 Try.underlying98 hi0 hz0 hz1 hz2 rfl (by omega) v L.length (flatP L) hs (hown.alloc _) ⟨w.heap.size, 0, none⟩ 1 1 [.int .i64 (q : Int), .int .i64 (e : Int)] hx
    rfl (fun j y hy => ?_) ?_ (by unfold maxLen; omega) ?_ (by omega) ?_
  · have he : (Addr.mk w.heap.size 0 none).add j = ⟨w.heap.size, j, none⟩ := by
      unfold Addr.add; split
      · rename_i h0; rw [h0]
      · simp
    rw [he, World.cell?_alloc_mark, ← hy, ← hC]; simp
  · intro y hy
    simp only [List.mem_cons, List.not_mem_nil, or_false] at hy
    rcases hy with rfl | rfl
    all_goals rfl
  · omega
  · intro v' w' h1 h2 _ h4
    rw [hsize] at h4
    exact h v' w' (by rw [flatP_snoc, List.length_append, List.length_singleton]; exact h1) h2 h4
end
/-- What visit and reach leave as it was: all but the walker, seen and the live list's block. -/
structure Keep (w w' : World) (P : Parts) (vL vL' : Value) : Prop where
  size : w.heap.size ≤ w'.heap.size
  same : ∀ k, k < w.heap.size → k ≠ P.B → k ≠ P.gs → vL.ownBlock ≠ some k → w'.heap[k]? = w.heap[k]?
  blk : ∀ k, vL'.ownBlock = some k → vL.ownBlock = some k ∨ w.heap.size ≤ k
theorem Keep.trans {w w' w'' : World} {P : Parts} {v v' v'' : Value} (h : Keep w w' P v v') (h' : Keep w' w'' P v' v'') : Keep w w'' P v v'' := by
  refine ⟨Nat.le_trans h.size h'.size, fun k h1 h2 h3 h4 => ?_, fun k hk => ?_⟩
  · refine (h'.same k (Nat.lt_of_lt_of_le h1 h.size) h2 h3 (fun e => ?_)).trans (h.same k h1 h2 h3 h4)
    rcases h.blk k e with e | e
    · exact h4 e
    · omega
  · rcases h'.blk k hk with e | e
    · exact h.blk k e
    · exact .inr (Nat.le_trans h.size e)
theorem Keep.below {w w' : World} (P : Parts) (v : Value) (hb : Below w.heap.size w w') : Keep w w' P v v :=
  ⟨hb.size, fun k h1 _ _ _ => hb.block k h1, fun _ hk => .inl hk⟩
theorem Keep.setCell {w w' : World} {P : Parts} {v v' : Value} (h : Keep w w' P v v') {g : Nat} (hg : g = P.B ∨ g = P.gs) (i : Nat) (u : Value) : Keep w (w'.setCell ⟨g, i, none⟩ u) P v v' := by
  refine ⟨by simp [World.setCell]; exact h.size, fun k h1 h2 h3 h4 => ?_, h.blk⟩
  have hne : k ≠ g := by rcases hg with e | e <;> subst e <;> assumption
  exact (Below.heap_setCell _ _ _ k hne).trans (h.same k h1 h2 h3 h4)
theorem Keep.push {w w3 w4 : World} {P : Parts} {v v3 v4 : Value} (h : Keep w w3 P v v3) {C : Array Value} (h2 : (w3.alloc (.cells C tPl)).grownBy w4 v3.ownBlock) (h3 : v4.ownBlock = v3.ownBlock ∨ v4.ownBlock = some (w3.heap.size + 1)) : Keep w w4 P v v4 := by
  have hz : (w3.alloc (.cells C tPl)).heap.size = w3.heap.size + 1 := by simp
  have hs := h.size
  refine ⟨by have := h2.size; omega, fun k k1 k2 k3 k4 => ?_, fun k hk => ?_⟩
  · refine (h2.block k (by omega) (fun e => ?_)).trans ((Below.heap_alloc w3 _ k (by omega)).trans (h.same k k1 k2 k3 k4))
    rcases h.blk k e.symm with e | e
    · exact k4 e
    · omega
  · rcases h3 with e | e
    · exact h.blk k (by rw [← e]; exact hk)
    · rw [e] at hk; injection hk with hk; exact .inr (by omega)
/-- What visit leaves. -/
def visitD (st : Nat) (D : Dyn) (q e : Nat) : Dyn := if D.seen[q]? = some D.at_ then D else { D with L := D.L ++ [(q, e)], seen := D.seen.set q D.at_, fin := if q = st then (e : Int) else D.fin }
variable {n st : Nat} {w0 w1 w : World} {P : Parts} {D : Dyn} {vL vM : Value}
/-- A place more in the walker's list. -/
theorem Wk.push (h : Wk n st w0 w1 w P D vL vM) (hgs : P.B ≠ P.gs) (q e : Nat) (C : Array Value) {v' : Value} {w' : World} (h1 : w'.ownsRow w1.heap.size tPl 2 v' (D.L ++ [(q, e)]).length (flatP (D.L ++ [(q, e)]))) (h2 : (w.alloc (.cells C tPl)).grownBy w' vL.ownBlock) (h3 : v'.ownBlock = vL.ownBlock ∨ v'.ownBlock = some (w.heap.size + 1)) :
    Wk n st w0 w1 (w'.setCell ⟨P.B, 9, none⟩ v') P { D with L := D.L ++ [(q, e)] } v' vM := by
  have hz : (w.alloc (.cells C tPl)).heap.size = w.heap.size + 1 := by simp
  have hlo := h.lo
  have hsz := h.size
  have hk : ∀ k, k < w.heap.size → vL.ownBlock ≠ some k → w'.heap[k]? = w.heap[k]? := fun k hk hne => (h2.block k (by omega) (fun e => hne e.symm)).trans (Below.heap_alloc w _ k hk)
  have hL : ∀ k, k < w1.heap.size → vL.ownBlock ≠ some k := fun k hk => own_hi h.lv hk
  have hB : w'.heap[P.B]? = some (.cells (cellsK n st P D vL vM) tWk (0, 0)) := (hk _ (by omega) (hL _ (by omega))).trans h.blk
  have ho : ∀ k, k ≠ P.B → (w'.setCell ⟨P.B, 9, none⟩ v').heap[k]? = w'.heap[k]? := fun k e => Below.heap_setCell _ _ _ k e
  have hsz' : w1.heap.size ≤ w'.heap.size := by have := h2.size; omega
  refine ⟨?_, ?_, h.sl, own_setP h1 (by omega), own_setP ?_ (by omega), ?_, ?_, ?_, ?_, h.lo⟩
  · have := set_block (o := 9) (u := v') hB
    rw [this]; rfl
  · exact (ho _ (Ne.symm hgs)).trans ((hk _ (by omega) (hL _ (by omega))).trans h.seen)
  · rcases h.fm with ⟨e1, hh⟩
    refine ⟨e1, ?_⟩
    rcases hh with hn | ⟨g, cap, cur, hv, hb, hg, hr⟩
    · exact .inl hn
    · refine .inr ⟨g, cap, cur, hv, hb, (hk g (lt_some hg) (fun e => ?_)).trans hg, hr⟩
      exact h.ne g e (by rw [hv]; rfl)
  · intro k hk1 hk2
    rcases h3 with h3 | h3
    · rw [h3] at hk1; exact h.ne k hk1 hk2
    · rw [h3] at hk1
      injection hk1 with hk1
      have := (h.fm.lt k hk2).2
      omega
  · intro k k1 k2 k3
    exact (ho k k2).trans ((hk k (by omega) (hL k k1)).trans (h.chg k k1 k2 k3))
  · simp [World.setCell]; exact hsz'
  · refine Below.setCell ?_ (p := ⟨P.B, 9, none⟩) hlo.1 v'
    exact (h.bel.alloc (by have := h.bel.size; omega) _).grown h2 (by have := h.bel.size; omega) (fun k hk => by have := (h.lv.lt k hk).1; omega)
theorem own_formP {base m : Nat} {v : Value} {xs : List Value} (h : w.ownsRow base tPl 2 v m xs) : ∃ A c, v = .slice A m c := by
  rcases h.2 with ⟨e1, e2⟩ | ⟨g, cap, cur, e1, _⟩
  · exact ⟨none, 0, by rw [e1, e2]⟩
  · exact ⟨_, _, e1⟩
theorem Wk.blk4 (h : Wk n st w0 w1 w P D vL vM) {C : Array Value} {w' : World} (h2 : (w.alloc (.cells C tPl)).grownBy w' vL.ownBlock) : w'.heap[P.B]? = some (.cells (cellsK n st P D vL vM) tWk (0, 0)) := by
  have hz : (w.alloc (.cells C tPl)).heap.size = w.heap.size + 1 := by simp
  have hlo := h.lo
  have hsz := h.size
  exact (h2.block _ (by omega) (fun e => own_hi h.lv (by omega : P.B < w1.heap.size) e.symm)).trans ((Below.heap_alloc w _ _ (by omega)).trans h.blk)
set_option maxRecDepth 100000 in
set_option maxHeartbeats 2000000 in
theorem visit_any (h : Wk n st w0 w1 w P D vL vM) (hgs : P.B ≠ P.gs) (q e : Nat) (hq : q < n) (hL : D.L.length ≤ 10000) (_hst : st < n) (_hn : n ≤ 8000) :
    Calls Try.prog 66 #[.pointer (some ⟨P.B, 0, none⟩), .int .i64 (q : Int), .int .i64 (e : Int)] w fun x w' => x = .returned (.tuple #[]) ∧ ∃ vL', Wk n st w0 w1 w' P (visitD st D q e) vL' vM ∧ Keep w w' P vL vL' := by
  have HK := Lib.hid h
  have hqs : q < D.seen.length := by rw [h.sl]; exact hq
  have c11 : w.cell? ⟨P.B, 11, none⟩ = some (.slice (some ⟨P.gs, 0, none⟩) n n) := h.own 11 rfl
  have c8 : w.cell? ⟨P.B, 8, none⟩ = some (.int .i64 D.at_) := h.own 8 rfl
  have cs : w.cell? ⟨P.gs, q, none⟩ = some (.int .i64 D.seen[q]) := by
    simp only [World.cell?, h.seen]
    simp [intsV, hqs]
  have HSq : Hid (D.seen[q]? = some D.seen[q]) := Lib.hid (List.getElem?_eq_getElem hqs)
  have i0 : (0 : Int) ≤ (q : Int) := by omega
  have i1 : (q : Int) < (n : Int) := by omega
  generalize D.seen[q] = sq at cs HSq
  obtain ⟨at_, hat⟩ : ∃ x, x = D.at_ := ⟨_, rfl⟩
  have HAt := Lib.hid hat
  rw [← hat] at c8
  clear hat
  by_cases hse : sq = at_
  · have e1 : (sq == at_) = true := by rw [hse]; exact beq_self_eq_true _
    have HV : Hid (visitD st D q e = D) := Lib.hid (by unfold visitD; rw [if_pos (by rw [HSq.out, hse, HAt.out])])
    clear h hse
    go_enter Try.func66, Try.ntmps66
    go_upto_region 0 with fail
    go_quiet (fail)
    go_wp2_with fail
    refine bodyPost_ret (results_none rfl _ _ _) rfl ?_
    exact ⟨rfl, vL, by rw [HV.out]; exact HK.out.drewN nq, Keep.below P vL (below_drewN (Below.refl _ _) nq)⟩
  · have e1 : (sq == at_) = false := by rw [beq_eq_false_iff_ne]; exact hse
    have HV : Hid (visitD st D q e = { D with L := D.L ++ [(q, e)], seen := D.seen.set q at_, fin := if q = st then (e : Int) else D.fin }) := Lib.hid (by
      unfold visitD
      rw [if_neg (by rw [HSq.out, ← HAt.out]; intro h; injection h with h; exact hse h), HAt.out])
    clear h hse
    go_enter Try.func66, Try.ntmps66
    go_upto_region 0 with fail
    go_quiet (fail)
    have HK2 := Lib.hid (HK.out.drewN nq)
    have HP2 := Lib.hid (Keep.below P vL (below_drewN (Below.refl w.heap.size w) nq))
    generalize w.drewN nq = w2 at HK2 HP2 ⊢
    clear HK c11 c8 cs
    have c11 : w2.cell? ⟨P.B, 11, none⟩ = some (.slice (some ⟨P.gs, 0, none⟩) n n) := HK2.out.own 11 rfl
    have c8 : w2.cell? ⟨P.B, 8, none⟩ = some (.int .i64 at_) := by rw [HAt.out]; exact HK2.out.own 8 rfl
    go_upto_region 1 with fail
    have HK3 := Lib.hid ((HK2.out.drewN 1).setS q at_ hgs)
    have HP3 : Hid (Keep w (w2.drew.setCell ⟨P.gs, q, none⟩ (.int .i64 at_)) P vL vL) := Lib.hid ((HP2.out.trans (Keep.below P vL (Below.refl w2.heap.size w2).drew)).setCell (.inr rfl) q _)
    clear HP2
    have f0 := HK2.out.sfree q
    have cs : w2.drew.cell? ⟨P.gs, q, none⟩ = some (.int .i64 sq) := by
      rw [World.cell?_drew]
      simp only [World.cell?, HK2.out.seen]
      obtain ⟨h1, h2⟩ := List.getElem?_eq_some_iff.1 HSq.out
      simp [intsV, h1, h2]
    go_still_tail 10, (by kernel_rfl)
    repeat still_step
    change wpList _ _ _ _ _ w2.drew
    go_upto_region 2 with fail
    change Code.wp _ _ _ _ (w2.drew.setCell ⟨P.gs, q, none⟩ (.int .i64 at_))
    change Hid (Wk n st w0 w1 (w2.drew.setCell ⟨P.gs, q, none⟩ (.int .i64 at_)) P _ vL vM) at HK3
    generalize w2.drew.setCell ⟨P.gs, q, none⟩ (.int .i64 at_) = w3 at HK3 HP3 ⊢
    clear HK2 c11 c8 cs f0
    have c9 : w3.cell? ⟨P.B, 9, none⟩ = some vL := HK3.out.own 9 rfl
    have hb3 : w1.heap.size ≤ w3.heap.size := HK3.out.size
    have HO3 : Hid (w3.ownsRow w1.heap.size tPl 2 vL D.L.length (flatP D.L)) := Lib.hid HK3.out.lv
    by_cases hqst : q = st
    · have e2 : ((q : Int) == (st : Int)) = true := by rw [hqst]; exact beq_self_eq_true _
      have hw2 : (if q = st then (e : Int) else D.fin) = (e : Int) := if_pos hqst
      rw [hw2] at HV
      have HQ := Lib.hid hqst
      clear hqst hw2
      go_wp2_with (at_builtin; refine app_pl rfl (.tmp 32) (.tmp 36) rfl w1.heap.size D.L q e vL _ rfl HO3.out rfl rfl (by omega) hb3 ?_; intro v4 w4 ho4 hg4 hat4; obtain ⟨A4, c4, hv4⟩ := own_formP ho4; subst hv4; have HK5 := Lib.hid (HK3.out.push hgs q e _ ho4 hg4 hat4); have HP5 := Lib.hid ((HP3.out.push hg4 hat4).setCell (.inl rfl) 9 (.slice A4 (D.L.length + 1) c4)); have HB4 := Lib.hid (HK3.out.blk4 hg4); have d9 : w4.cell? ⟨P.B, 9, none⟩ = some vL := (by simp only [World.cell?, HB4.out]; rfl); have f9 : w4.frozen? ⟨P.B, 9, none⟩ = false := (by simp [World.frozen?, HB4.out]); have d1 : w4.cell? ⟨P.B, 1, none⟩ = some (.int .i64 (st : Int)) := (by simp only [World.cell?, HB4.out]; rfl); have d12 : w4.cell? ⟨P.B, 12, none⟩ = some (.int .i64 D.fin) := (by simp only [World.cell?, HB4.out]; rfl); have f12 : w4.frozen? ⟨P.B, 12, none⟩ = false := (by simp [World.frozen?, HB4.out]); rw [List.length_append, List.length_singleton] at HK5 HP5; clear ho4 hg4 hat4)
      go_end0
      exact ⟨rfl, _, by rw [HV.out]; exact HK5.out.setB 12 _ { D with L := D.L ++ [(q, e)], seen := D.seen.set q at_, fin := (e : Int) } rfl rfl rfl hgs rfl, HP5.out.setCell (.inl rfl) 12 _⟩
    · have e2 : ((q : Int) == (st : Int)) = false := by rw [beq_eq_false_iff_ne]; omega
      rw [if_neg hqst] at HV
      clear hqst
      go_wp2_with (at_builtin; refine app_pl rfl (.tmp 32) (.tmp 36) rfl w1.heap.size D.L q e vL _ rfl HO3.out rfl rfl (by omega) hb3 ?_; intro v4 w4 ho4 hg4 hat4; obtain ⟨A4, c4, hv4⟩ := own_formP ho4; subst hv4; have HK5 := Lib.hid (HK3.out.push hgs q e _ ho4 hg4 hat4); have HP5 := Lib.hid ((HP3.out.push hg4 hat4).setCell (.inl rfl) 9 (.slice A4 (D.L.length + 1) c4)); have HB4 := Lib.hid (HK3.out.blk4 hg4); have d9 : w4.cell? ⟨P.B, 9, none⟩ = some vL := (by simp only [World.cell?, HB4.out]; rfl); have f9 : w4.frozen? ⟨P.B, 9, none⟩ = false := (by simp [World.frozen?, HB4.out]); have d1 : w4.cell? ⟨P.B, 1, none⟩ = some (.int .i64 (st : Int)) := (by simp only [World.cell?, HB4.out]; rfl); have d12 : w4.cell? ⟨P.B, 12, none⟩ = some (.int .i64 D.fin) := (by simp only [World.cell?, HB4.out]; rfl); have f12 : w4.frozen? ⟨P.B, 12, none⟩ = false := (by simp [World.frozen?, HB4.out]); rw [List.length_append, List.length_singleton] at HK5 HP5; clear ho4 hg4 hat4)
      go_end0
      exact ⟨rfl, _, by rw [HV.out]; exact HK5.out, HP5.out⟩
end Se
end
section
namespace Se
open Cm Rx Au
theorem len_of_nodup : ∀ (n : Nat) (l : List Nat), l.Nodup → (∀ x ∈ l, x < n) → l.length ≤ n
  | 0, l, _, h => by
    cases l with
    | nil => exact Nat.le_refl _
    | cons a t => exact absurd (h a (List.mem_cons_self ..)) (Nat.not_lt_zero _)
  | n + 1, l, hn, h => by
    by_cases hm : n ∈ l
    · have h1 := len_of_nodup n (l.erase n) (hn.erase n) (fun x hx => by
        have h2 := (hn.mem_erase_iff).1 hx
        have := h x h2.2
        have := h2.1
        omega)
      rw [List.length_erase_of_mem hm] at h1
      omega
    · have h1 := len_of_nodup n l hn (fun x hx => by
        have := h x hx
        by_cases e : x = n
        · subst e; exact absurd hx hm
        · omega)
      omega
/-- The walker's data at an offset while the places are found. -/
structure DG (ss : List St) (st : Nat) (bs : List UInt8) (i E : Nat) (D : Dyn) : Prop where
  grow : Grow ss bs i E D.L
  seen : ∀ q, q < ss.length → (D.seen[q]? = some D.at_ ↔ ∃ e, (q, e) ∈ D.L)
  at_ : D.at_ = (i : Int)
  sl : D.seen.length = ss.length
  old : ∀ x ∈ D.seen, x = -1 ∨ (i : Int) ≤ x
  fin : (∃ e, (st, e) ∈ D.L ∧ D.fin = (e : Int)) ∨ ((∀ e, (st, e) ∉ D.L) ∧ D.fin = -1)
theorem DG.less {ss : List St} {st : Nat} {bs : List UInt8} {i E E' : Nat} {D : Dyn} (h : DG ss st bs i E D) (he : E' ≤ E) : DG ss st bs i E' D :=
  ⟨h.grow.less he, h.seen, h.at_, h.sl, h.old, h.fin⟩
theorem DG.len {ss : List St} {st : Nat} {bs : List UInt8} {i E : Nat} {D : Dyn} (h : DG ss st bs i E D) : D.L.length ≤ ss.length := by
  have := len_of_nodup ss.length (D.L.map Prod.fst) h.grow.nodup (fun x hx => by
    obtain ⟨⟨q, e⟩, h1, rfl⟩ := List.mem_map.1 hx
    exact (h.grow.sound q e h1).lt)
  rwa [List.length_map] at this
/-- The list has grown, by places of this end. -/
def Ext (E : Nat) (D D' : Dyn) : Prop := (∃ X : List (Nat × Nat), D'.L = D.L ++ X ∧ ∀ p ∈ X, p.2 = E) ∧ D'.M = D.M
theorem Ext.refl (E : Nat) (D : Dyn) : Ext E D D := ⟨⟨[], by simp, fun p h => (by cases h)⟩, rfl⟩
theorem Ext.trans {E : Nat} {D D' D'' : Dyn} (h : Ext E D D') (h' : Ext E D' D'') : Ext E D D'' := by
  obtain ⟨⟨X, h1, h2⟩, h3⟩ := h
  obtain ⟨⟨Y, h4, h5⟩, h6⟩ := h'
  refine ⟨⟨X ++ Y, by rw [h4, h1, List.append_assoc], fun p hp => ?_⟩, h6.trans h3⟩
  rcases List.mem_append.1 hp with h | h
  · exact h2 p h
  · exact h5 p h
theorem Ext.has {E : Nat} {D D' : Dyn} (h : Ext E D D') {q e : Nat} (hq : Se.Has D.L q e) : Se.Has D'.L q e := by
  obtain ⟨⟨X, h1, _⟩, _⟩ := h
  rw [h1]; exact hq.mono
theorem Ext.done {E : Nat} {D D' : Dyn} (h : Ext E D D') {ss : List St} {n i k : Nat} (hd : DoneTo ss n i D.L k) (hk : k ≤ D.L.length) : DoneTo ss n i D'.L k := by
  obtain ⟨⟨X, h1, _⟩, _⟩ := h
  rw [h1]; exact hd.grow hk
theorem Ext.at {E : Nat} {D D' : Dyn} (h : Ext E D D') {k : Nat} (hk : k < D.L.length) : ∃ hk' : k < D'.L.length, D'.L[k] = D.L[k] := by
  obtain ⟨⟨X, h1, _⟩, _⟩ := h
  have hk' : k < D'.L.length := by rw [h1, List.length_append]; omega
  refine ⟨hk', ?_⟩
  simp only [h1]
  exact List.getElem_append_left hk
theorem Ext.len {E : Nat} {D D' : Dyn} (h : Ext E D D') : D.L.length ≤ D'.L.length := by
  obtain ⟨⟨X, h1, _⟩, _⟩ := h
  rw [h1, List.length_append]; omega
theorem Ext.snd {E : Nat} {D D' : Dyn} (h : Ext E D D') {k : Nat} (hk : k < D'.L.length) (hk2 : D.L.length ≤ k) : D'.L[k].2 = E := by
  obtain ⟨⟨X, h1, h2⟩, _⟩ := h
  have hx : k - D.L.length < X.length := by rw [h1, List.length_append] at hk; omega
  have : D'.L[k] = X[k - D.L.length] := by
    simp only [h1]
    exact List.getElem_append_right hk2
  rw [this]
  exact h2 _ (List.getElem_mem hx)
/-- What visit does to the data. -/
theorem DG.visit {ss : List St} {st : Nat} {bs : List UInt8} {i E : Nat} {D : Dyn} (h : DG ss st bs i E D) {q : Nat} (hr : Run ss bs i q E) : DG ss st bs i E (visitD st D q E) ∧ Ext E D (visitD st D q E) ∧ Se.Has (visitD st D q E).L q E := by
  have hq := hr.lt
  unfold visitD
  by_cases hs : D.seen[q]? = some D.at_
  · rw [if_pos hs]
    obtain ⟨e, he⟩ := (h.seen q hq).1 hs
    exact ⟨h, Ext.refl _ _, h.grow.here he⟩
  · rw [if_neg hs]
    have hnew : ∀ e, (q, e) ∉ D.L := fun e he => hs ((h.seen q hq).2 ⟨e, he⟩)
    refine ⟨⟨h.grow.add hnew hr, fun r hr2 => ?_, h.at_, by rw [List.length_set]; exact h.sl, fun x hx => ?_, ?_⟩, ⟨⟨[(q, E)], rfl, fun p hp => by rw [List.mem_singleton] at hp; subst hp; rfl⟩, rfl⟩, ⟨E, Nat.le_refl _, List.mem_append_right _ (List.mem_singleton.2 rfl)⟩⟩
    · show (D.seen.set q D.at_)[r]? = some D.at_ ↔ ∃ e, (r, e) ∈ D.L ++ [(q, E)]
      rw [List.getElem?_set]
      by_cases e : q = r
      · subst e
        rw [if_pos rfl, if_pos (by rw [h.sl]; exact hq)]
        exact ⟨fun _ => ⟨E, List.mem_append_right _ (List.mem_singleton.2 rfl)⟩, fun _ => rfl⟩
      · rw [if_neg e, h.seen r hr2]
        constructor
        · rintro ⟨e2, h2⟩; exact ⟨e2, List.mem_append_left _ h2⟩
        · rintro ⟨e2, h2⟩
          rcases List.mem_append.1 h2 with h3 | h3
          · exact ⟨e2, h3⟩
          · rw [List.mem_singleton] at h3; injection h3 with h3 _; exact absurd h3.symm e
    · rcases List.mem_or_eq_of_mem_set hx with h5 | h5
      · exact h.old x h5
      · exact .inr (by rw [h5, h.at_]; exact Int.le_refl _)
    · show (∃ e, (st, e) ∈ D.L ++ [(q, E)] ∧ (if q = st then (E : Int) else D.fin) = (e : Int)) ∨ ((∀ e, (st, e) ∉ D.L ++ [(q, E)]) ∧ (if q = st then (E : Int) else D.fin) = -1)
      by_cases e : q = st
      · subst e
        exact .inl ⟨E, List.mem_append_right _ (List.mem_singleton.2 rfl), if_pos rfl⟩
      · rw [if_neg e]
        rcases h.fin with ⟨e2, h2, h3⟩ | ⟨h2, h3⟩
        · exact .inl ⟨e2, List.mem_append_left _ h2, h3⟩
        · refine .inr ⟨fun e2 h4 => ?_, h3⟩
          rcases List.mem_append.1 h4 with h5 | h5
          · exact h2 e2 h5
          · rw [List.mem_singleton] at h5; injection h5 with h5 _; exact e h5.symm
/-- All steps to r above t that are passed have been taken. -/
def StepsTo (ss : List St) (m i : Nat) (r : Nat) (t : Int) (L : List (Nat × Nat)) (E : Nat) : Prop := ∀ t' : Nat, t < (t' : Int) → freeX ss r t' = true → (∃ h : t' / 2 < ss.length, passX ss[t' / 2] m i = true) → Se.Has L (t' / 2) E
theorem freeX_lt {ss : List St} {r t : Nat} (h : freeX ss r t = true) : t / 2 < ss.length := by
  unfold freeX at h
  cases e : ss[t / 2]? with
  | none => rw [e] at h; cases h
  | some s => exact (List.getElem?_eq_some_iff.1 e).1
theorem StepsTo.start (ss : List St) (m i r : Nat) (L : List (Nat × Nat)) (E : Nat) : StepsTo ss m i r (prevS (freeX ss r) (2 * ss.length)) L E := fun t' ht hf _ => by
  have h1 := freeX_lt hf
  have := prevS_out (p := freeX ss r) (k := 2 * ss.length) (t := t') (by omega) ht
  rw [hf] at this; cases this
theorem StepsTo.next {ss : List St} {m i r t : Nat} {L : List (Nat × Nat)} {E : Nat} (h : StepsTo ss m i r (t : Int) L E) (hh : (∃ h : t / 2 < ss.length, passX ss[t / 2] m i = true) → Se.Has L (t / 2) E) : StepsTo ss m i r (prevS (freeX ss r) t) L E := fun t' ht hf hp => by
  by_cases e : t' = t
  · subst e; exact hh hp
  · by_cases hlt : t < t'
    · exact h t' (by omega) hf hp
    · have := prevS_out (p := freeX ss r) (k := t) (t := t') (by omega) ht
      rw [hf] at this; cases this
theorem StepsTo.has {ss : List St} {m i r : Nat} {t : Int} {D D' : Dyn} {E : Nat} (h : StepsTo ss m i r t D.L E) (hx : Ext E D D') : StepsTo ss m i r t D'.L E := fun t' h1 h2 h3 => hx.has (h t' h1 h2 h3)
theorem StepsTo.done {ss : List St} {m i k E : Nat} {L : List (Nat × Nat)} (hk : k < L.length) (he : L[k].2 = E) (hd : DoneTo ss m i L k) (h : StepsTo ss m i L[k].1 (-1) L E) : DoneTo ss m i L (k + 1) := fun j hj hjk q hf => by
  by_cases e : j = k
  · subst e
    obtain ⟨t, rfl, h1, h2⟩ := free_iff.1 hf
    rw [he]
    exact h t (by omega) h1 h2
  · exact hd j hj (by omega) q hf
/-- Where a free step to r is passed, a run goes on. -/
theorem run_step {ss : List St} {bs : List UInt8} {i r t e : Nat} (hf : freeX ss r t = true) (hp : ∃ h : t / 2 < ss.length, passX ss[t / 2] bs.length i = true) (hr : Run ss bs i r e) : Run ss bs i (t / 2) e :=
  hr.free (free_iff.2 ⟨t, rfl, hf, hp⟩)
end Se
end
section
open Go.RowKit
namespace Se
open Cm Rx Au
theorem bs_len (s : ByteArray) : (Tx.bs s).length = s.size := by simp [Tx.bs]
theorem cell_ints {w : World} {g : Nat} {l : List Int} (h : w.heap[g]? = some (.cells (intsV l).toArray tInt (0, 0))) {j : Nat} (hj : j < l.length) : w.cell? ⟨g, j, none⟩ = some (.int .i64 l[j]) := by
  simp only [World.cell?, h]
  simp [intsV, hj]
variable {n st : Nat} {w0 w1 w : World} {P : Parts} {D : Dyn} {vL vM : Value}
theorem Wk.place (h : Wk n st w0 w1 w P D vL vM) {k : Nat} (hk : k < D.L.length) : ∃ g c, vL = .slice (some ⟨g, 0, none⟩) D.L.length c ∧ w.cell? ⟨g, k * 2, none⟩ = some (.int .i64 (D.L[k].1 : Int)) ∧ w.cell? ⟨g, k * 2 + 1, none⟩ = some (.int .i64 (D.L[k].2 : Int)) := by
  rcases h.lv.2 with ⟨_, e⟩ | ⟨g, cap, cur, e, _, hg, _⟩
  · omega
  · have hl := h.lv
    rw [e] at hl
    obtain ⟨h1, h2⟩ := flatP_get D.L k hk
    exact ⟨g, cap, e, (hl.cellAt (k * 2) (by omega)).trans h1, (hl.cellAt (k * 2 + 1) (by omega)).trans h2⟩
/-- What reach leaves. -/
def ReachPost (ss : List St) (st i E q : Nat) (w0 w1 : World) (P : Parts) (D : Dyn) (vM : Value) (w : World) (vL : Value) (x : Ending) (w' : World) : Prop :=
  x = .returned (.tuple #[]) ∧ ∃ D' vL', Wk ss.length st w0 w1 w' P D' vL' vM ∧ DG ss st (Tx.bs P.s) i E D' ∧ DoneTo ss P.s.size i D'.L D'.L.length ∧ Ext E D D' ∧ Se.Has D'.L q E ∧ Keep w w' P vL vL'
set_option maxRecDepth 100000 in
set_option maxHeartbeats 1000000 in
theorem reach_any (ss : List St) (hS : WkS ss w1 P) (h : Wk ss.length st w0 w1 w P D vL vM) (i E q : Nat) (hd : DG ss st (Tx.bs P.s) i E D) (hdo : DoneTo ss P.s.size i D.L D.L.length) (hr : Run ss (Tx.bs P.s) i q E) (hst : st < ss.length) (h8 : ss.length ≤ 8000) :
    Calls Try.prog 61 #[.pointer (some ⟨P.B, 0, none⟩), .int .i64 (q : Int), .int .i64 (E : Int)] w (ReachPost ss st i E q w0 w1 P D vM w vL) := by
  have hlen := hd.len
  have HS := Lib.hid hS
  have HV0 := Lib.hid (visit_any h hS.ne q E hr.lt (by omega) hst h8)
  obtain ⟨hv1, hv2, hv3⟩ := hd.visit hr
  have HD1 := Lib.hid hv1
  have HX1 := Lib.hid hv2
  have HH1 := Lib.hid hv3
  have HDo1 := Lib.hid (hv2.done hdo (Nat.le_refl _))
  have HLe1 := hv2.len
  have HBs := Lib.hid (bs_len P.s)
  have HFinal : Hid (∀ w' D' vL', Wk ss.length st w0 w1 w' P D' vL' vM → DG ss st (Tx.bs P.s) i E D' → DoneTo ss P.s.size i D'.L D'.L.length → Ext E D D' → Se.Has D'.L q E → Keep w w' P vL vL' → ReachPost ss st i E q w0 w1 P D vM w vL (.returned (.tuple #[])) w') := Lib.hid (fun w' D' vL' a b c d e f => ⟨rfl, D', vL', a, b, c, d, e, f⟩)
  generalize visitD st D q E = D1 at HV0 HD1 HX1 HH1 HDo1 HLe1
  obtain ⟨A, c, hvl⟩ := own_formP h.lv
  subst hvl
  obtain ⟨vL0, hvl0⟩ : ∃ v, v = Value.slice A D.L.length c := ⟨_, rfl⟩
  have c9 : w.cell? ⟨P.B, 9, none⟩ = some (.slice A D.L.length c) := h.own 9 rfl
  have HVL := Lib.hid hvl0.symm
  rw [HVL.out] at HV0 HFinal
  clear hvl0
  obtain ⟨l0, hl0⟩ : ∃ l0, l0 = D.L.length := ⟨_, rfl⟩
  have HL0 := Lib.hid hl0.symm
  rw [← hl0] at HLe1 HDo1 c9 hlen
  clear hl0 hv1 hv2 hv3 hd hdo h hS
  rw [HVL.out]
  generalize ReachPost ss st i E q w0 w1 P D vM w vL0 = Post at HFinal ⊢
  go_enter Try.func61, Try.ntmps61
  go_wp2_with (go_at_call 66; refine HV0.out.mono ?_; rintro x w2 ⟨rfl, vL2, hk2, hp2⟩; have HK2 := Lib.hid hk2; have HP2 := Lib.hid hp2; clear hk2 hp2)
  clear HV0 c9
  go_loopw [6] (fun a wr => ∃ k : Nat, a = .int .i64 (k : Int) ∧ l0 ≤ k ∧ ∃ D2 vL2, k ≤ D2.L.length ∧ Hid (Wk ss.length st w0 w1 wr P D2 vL2 vM) ∧ Hid (DG ss st (Tx.bs P.s) i E D2) ∧ Hid (DoneTo ss P.s.size i D2.L k) ∧ Hid (Ext E D D2) ∧ Hid (Se.Has D2.L q E) ∧ Hid (Keep w wr P vL0 vL2)) (fun a _ => ss.length + 1 - (intOf a).toNat)
  case atStart => exact ⟨l0, by go_num, Nat.le_refl _, D1, _, HLe1, HK2, HD1, HDo1, HX1, HH1, HP2⟩
  case round =>
    clear HK2 HD1 HX1 HH1 HDo1 HLe1 HP2
    obtain ⟨k, rfl, hlk, D2, vL3, hk2, HK, HD, HDo, HX, HH, HP⟩ := hrel
    have hl2 := HD.out.len
    obtain ⟨A2, c2, hvl⟩ := own_formP HK.out.lv
    subst hvl
    have c9 : wr.cell? ⟨P.B, 9, none⟩ = some (.slice A2 D2.L.length c2) := HK.out.own 9 rfl
    obtain ⟨l2, hl2e⟩ : ∃ l2, l2 = D2.L.length := ⟨_, rfl⟩
    have HL2 := Lib.hid hl2e.symm
    by_cases hlt : k < D2.L.length
    · obtain ⟨g, c3, hvl, p0, -⟩ := HK.out.place hlt
      injection hvl with hA _ hc
      subst hA hc
      have HSnd := Lib.hid (HX.out.snd hlt (by rw [HL0.out]; exact hlk))
      have HSound := Lib.hid (HD.out.grow.sound _ _ (show (D2.L[k].1, D2.L[k].2) ∈ D2.L from List.getElem_mem hlt))
      have hrn := HSound.out.lt
      rw [HSnd.out] at HSound
      have HKth : Hid (∃ h : k < D2.L.length, D2.L[k].1 = D2.L[k].1) := Lib.hid ⟨hlt, rfl⟩
      have HDone : Hid (∀ D3, Ext E D2 D3 → StepsTo ss P.s.size i D2.L[k].1 (-1) D3.L E → DoneTo ss P.s.size i D3.L k → DoneTo ss P.s.size i D3.L (k + 1) ∧ k + 1 ≤ D3.L.length) := Lib.hid (fun D3 hx hs hdo => by
        obtain ⟨hk', e⟩ := hx.at hlt
        have h1 : D3.L[k].2 = E := by rw [e]; exact HSnd.out
        refine ⟨StepsTo.done hk' h1 hdo ?_, hk'⟩
        rw [e]; exact hs)
      generalize D2.L[k].1 = r at p0 HSound hrn HDone
      have HStart := Lib.hid (StepsTo.start ss P.s.size i r D2.L E)
      have HT0 : Hid (∀ t : Nat, prevS (freeX ss r) (2 * ss.length) = (t : Int) → freeX ss r t = true) := Lib.hid (fun t ht => (prevS_hit ht).1)
      have ht1 := prevS_ge (freeX ss r) (2 * ss.length)
      have c5 : wr.cell? ⟨P.B, 5, none⟩ = some (.slice (some ⟨P.F1, 0, none⟩) ss.length ss.length) := HK.out.own 5 rfl
      have cf : wr.cell? ⟨P.F1, r, none⟩ = some (.int .i64 (prevS (freeX ss r) (2 * ss.length))) := by
        have h := HK.out.cell HS.out.n3.1 HS.out.n3.2 (cell_ints HS.out.f1 (j := r) (by rw [lastF_len]; exact hrn))
        rw [lastF_get hrn] at h
        exact h
      have i0 : (0 : Int) ≤ (k : Int) := by omega
      have i1 : (k : Int) < (l2 : Int) := by omega
      have i2 : (0 : Int) ≤ (r : Int) := by omega
      have i3 : (r : Int) < (ss.length : Int) := by omega
      have hd2 : decide (k < l2) = true := by simp only [decide_eq_true_eq]; omega
      rw [← hl2e] at c9
      generalize prevS (freeX ss r) (2 * ss.length) = t0 at cf HStart HT0 ht1
      obtain ⟨nn, hnn⟩ : ∃ nn, nn = ss.length := ⟨_, rfl⟩
      have HNN := Lib.hid hnn.symm
      rw [← hnn] at c5 i3 hrn hl2 h8
      clear HKth HSnd hlt hnn hl2e
      go_wp2_with fail
      clear c9 p0 c5 cf
      go_loopw [8] (fun b wr => ∃ t : Int, b = .int .i64 t ∧ -1 ≤ t ∧ Hid (∀ t' : Nat, t = (t' : Int) → freeX ss r t' = true) ∧ ∃ D3 vL3, Hid (Wk ss.length st w0 w1 wr P D3 vL3 vM) ∧ Hid (DG ss st (Tx.bs P.s) i E D3) ∧ Hid (DoneTo ss P.s.size i D3.L k) ∧ Hid (Ext E D2 D3) ∧ Hid (StepsTo ss P.s.size i r t D3.L E) ∧ Hid (Keep w wr P vL0 vL3)) (fun b _ => (intOf b + 1).toNat)
      case atStart => exact ⟨t0, rfl, ht1, HT0, D2, _, HK, HD, HDo, Lib.hid (Ext.refl _ _), HStart, HP⟩
      case round =>
        clear HT0 HStart ht1
        have HKold := HK
        clear HK HDo HD HP
        obtain ⟨t, rfl, ht1, HTf, D3, vL4, HK, HD, HDo, HX3, HSt, HP⟩ := hrel
        have hdl := HD.out.len
        by_cases ht : 0 ≤ t
        · obtain ⟨t', rfl⟩ := Int.eq_ofNat_of_zero_le ht
          have HF := Lib.hid (HTf.out t' rfl)
          have hu := freeX_lt HF.out
          have HTg : Hid (tgtF ss t' = r) := Lib.hid (freeX_tgt HF.out).symm
          have HPa := Lib.hid (passes_any ss HS.out HK.out (t' / 2) i hu HD.out.at_)
          have HVi := Lib.hid (fun m => visit_any (HK.out.drewN m) HS.out.ne (t' / 2) E hu (by have := HNN.out; omega) hst (by rw [HNN.out]; exact h8))
          have HD6 : Hid (∀ W D' vL', Wk ss.length st w0 w1 W P D' vL' vM → W.cell? ⟨P.B, 6, none⟩ = some (.slice (some ⟨P.F2, 0, none⟩) (2 * ss.length) (2 * ss.length)) ∧ W.cell? ⟨P.F2, t', none⟩ = some (.int .i64 (prevS (freeX ss r) t'))) := Lib.hid (fun W D' vL' hW => by
            refine ⟨hW.own 6 rfl, ?_⟩
            have h := hW.cell HS.out.n4.1 HS.out.n4.2 (cell_ints HS.out.f2 (j := t') (by rw [befF_len]; omega))
            rw [befF_get (by omega) (by omega) (by rw [HTg.out]; exact HF.out), HTg.out] at h
            exact h)
          obtain ⟨c6, cb⟩ := HD6.out _ _ _ HK.out
          have i4 : (0 : Int) ≤ (t' : Int) := by omega
          have i5 : (t' : Int) < ((2 * ss.length : Nat) : Int) := by omega
          have HYes : Hid (passX ss[t' / 2] P.s.size i = true → DG ss st (Tx.bs P.s) i E (visitD st D3 (t' / 2) E) ∧ Ext E D3 (visitD st D3 (t' / 2) E) ∧ StepsTo ss P.s.size i r (prevS (freeX ss r) t') (visitD st D3 (t' / 2) E).L E) := Lib.hid (fun hp => by
            obtain ⟨a, b, c⟩ := HD.out.visit (run_step HF.out ⟨hu, by rw [HBs.out]; exact hp⟩ HSound.out)
            exact ⟨a, b, (HSt.out.has b).next (fun _ => c)⟩)
          have HNo : Hid (passX ss[t' / 2] P.s.size i = false → StepsTo ss P.s.size i r (prevS (freeX ss r) t') D3.L E) := Lib.hid (fun hp => HSt.out.next (fun hh => by obtain ⟨_, h⟩ := hh; rw [hp] at h; cases h))
          have HT1 : Hid (∀ t'' : Nat, prevS (freeX ss r) t' = (t'' : Int) → freeX ss r t'' = true) := Lib.hid (fun t'' h => (prevS_hit h).1)
          have hb1 := prevS_ge (freeX ss r) t'
          have hb2 := prevS_lt (freeX ss r) t'
          generalize prevS (freeX ss r) t' = t1 at cb HD6 HYes HNo HT1 hb1 hb2
          generalize 2 * ss.length = m2 at c6 HD6 i5
          generalize passX ss[t' / 2] P.s.size i = R at HPa HYes HNo
          have e5 : (t' : Int) / 2 = ((t' / 2 : Nat) : Int) := by omega
          have e7 : wrap64 ((t' / 2 : Nat) : Int) = ((t' / 2 : Nat) : Int) := by first | exact IntWalk.i64_in _ (by have := HNN.out; omega) | (unfold wrap64; have := HNN.out; omega)
          generalize t' / 2 = u at e5 e7 HPa HVi HYes HNo
          clear HF HTg hu HTf HSt ht
          cases R with
          | true =>
            obtain ⟨y1, y2, y3⟩ := HYes.out rfl
            have HD4 := Lib.hid y1
            have HX4 := Lib.hid y2
            have HS4 := Lib.hid y3
            clear y1 y2 y3 HYes HNo
            generalize visitD st D3 u E = D4 at HVi HD4 HX4 HS4
            have HDo4 := Lib.hid (HX4.out.done HDo.out (by have := HX3.out.len; omega))
            go_wp2_with (first | (go_at_call 67; refine HPa.out.mono ?_; rintro x w5 ⟨rfl, m5, rfl⟩) | (go_at_call 66; refine (HVi.out _).mono ?_; rintro x w6 ⟨rfl, vL6, hk6, hp6⟩; have HK6 := Lib.hid hk6; have HP6 := Lib.hid ((HP.out.trans (Keep.below P vL4 (below_drewN (Below.refl _ _) m5))).trans hp6); obtain ⟨d6, db⟩ := HD6.out _ _ _ hk6; clear hk6 hp6))
            go_roundw
            case rel => exact ⟨t1, rfl, hb1, HT1, D4, _, HK6, HD4, HDo4, Lib.hid (HX3.out.trans HX4.out), HS4, HP6⟩
            case measure => simp [intOf]; omega
          | false =>
            have HS4 := Lib.hid (HNo.out rfl)
            clear HYes HNo HVi
            go_wp2_with (go_at_call 67; refine HPa.out.mono ?_; rintro x w5 ⟨rfl, m5, rfl⟩)
            go_roundw
            case rel => exact ⟨t1, rfl, hb1, HT1, D3, _, Lib.hid (HK.out.drewN _), HD, HDo, HX3, HS4, Lib.hid (HP.out.trans (Keep.below P vL4 (below_drewN (Below.refl _ _) _)))⟩
            case measure => simp [intOf]; omega
        · obtain rfl : t = -1 := by omega
          obtain ⟨z1, z2⟩ := HDone.out D3 HX3.out HSt.out HDo.out
          have HZ1 := Lib.hid z1
          clear z1
          go_wp2_with fail
          go_roundw
          case rel => exact ⟨k + 1, by go_num, by omega, D3, _, z2, HK, HD, HZ1, Lib.hid (HX.out.trans HX3.out), Lib.hid (HX3.out.has HH.out), HP⟩
          case measure => simp [intOf]; omega
    · have hkl : k = D2.L.length := by omega
      have HE := Lib.hid (HFinal.out wr D2 _ HK.out HD.out (by rw [← hkl]; exact HDo.out) HX.out HH.out HP.out)
      rw [← hl2e] at c9
      have hd2 : decide (k < l2) = false := by simp only [decide_eq_false_iff_not]; omega
      go_wp2_with fail
      go_end0
      exact HE.out
end Se
end
section
open Go.RowKit
namespace Se
open Cm Rx Au
/-- The walker's data behind an offset. -/
structure DP (ss : List St) (bs : List UInt8) (j : Nat) (D : Dyn) : Prop where
  pl : Places ss bs j D.L
  at_ : D.at_ = (j : Int)
  sl : D.seen.length = ss.length
  old : ∀ x ∈ D.seen, x = -1 ∨ (j : Int) ≤ x
/-- How far the start reaches, or -1. -/
def FinOk (ss : List St) (st : Nat) (bs : List UInt8) (j : Nat) (x : Int) : Prop := (∃ e, Best ss bs j st e ∧ x = (e : Int)) ∨ ((∀ e, ¬ Run ss bs j st e) ∧ x = -1)
def swapD (D : Dyn) (i : Nat) : Dyn := { at_ := (i : Int), L := [], M := D.L, seen := D.seen, fin := -1 }
theorem DP.start {ss : List St} {st : Nat} {bs : List UInt8} {i : Nat} {D : Dyn} (h : DP ss bs (i + 1) D) (E : Nat) : DG ss st bs i E (swapD D i) := by
  refine ⟨Grow.nil _ _ _ _, fun q hq => ⟨fun hs => ?_, fun hx => by obtain ⟨e, he⟩ := hx; cases he⟩, rfl, h.sl, fun x hx => ?_, .inr ⟨fun e he => (by cases he), rfl⟩⟩
  · have h1 : (i : Int) ∈ D.seen := List.mem_of_getElem? hs
    rcases h.old _ h1 with e | e
    · omega
    · omega
  · rcases h.old x hx with e | e
    · exact .inl e
    · exact .inr (by omega)
/-- The reading steps to the first m of the places behind have been taken. -/
def SeedsTo (ss : List St) (bs : List UInt8) (i : Nat) (M : List (Nat × Nat)) (m : Nat) (L : List (Nat × Nat)) : Prop :=
  ∀ j (h : j < M.length), j < m → ∀ t, readX ss M[j].1 t = true → (∃ h1 : t / 2 < ss.length, ∃ h2 : i < bs.length, ss[t / 2].set bs[i].toNat = true) → Se.Has L (t / 2) M[j].2
/-- All reading steps to r above t have been taken. -/
def ReadsTo (ss : List St) (bs : List UInt8) (i r : Nat) (t : Int) (L : List (Nat × Nat)) (E : Nat) : Prop :=
  ∀ t' : Nat, t < (t' : Int) → readX ss r t' = true → (∃ h1 : t' / 2 < ss.length, ∃ h2 : i < bs.length, ss[t' / 2].set bs[i].toNat = true) → Se.Has L (t' / 2) E
theorem readX_lt {ss : List St} {r t : Nat} (h : readX ss r t = true) : t / 2 < ss.length := by
  obtain ⟨_, h1, _⟩ := readX_iff.1 h
  exact h1
theorem ReadsTo.start (ss : List St) (bs : List UInt8) (i r : Nat) (L : List (Nat × Nat)) (E : Nat) : ReadsTo ss bs i r (prevS (readX ss r) (2 * ss.length)) L E := fun t' ht hf _ => by
  have h1 := readX_lt hf
  have := prevS_out (p := readX ss r) (k := 2 * ss.length) (t := t') (by omega) ht
  rw [hf] at this; cases this
theorem ReadsTo.next {ss : List St} {bs : List UInt8} {i r t : Nat} {L : List (Nat × Nat)} {E : Nat} (h : ReadsTo ss bs i r (t : Int) L E) (hh : (∃ h1 : t / 2 < ss.length, ∃ h2 : i < bs.length, ss[t / 2].set bs[i].toNat = true) → Se.Has L (t / 2) E) : ReadsTo ss bs i r (prevS (readX ss r) t) L E := fun t' ht hf hp => by
  by_cases e : t' = t
  · subst e; exact hh hp
  · by_cases hlt : t < t'
    · exact h t' (by omega) hf hp
    · have := prevS_out (p := readX ss r) (k := t) (t := t') (by omega) ht
      rw [hf] at this; cases this
theorem ReadsTo.has {ss : List St} {bs : List UInt8} {i r : Nat} {t : Int} {L L' : List (Nat × Nat)} {E : Nat} (h : ReadsTo ss bs i r t L E) (hx : ∀ q e, Se.Has L q e → Se.Has L' q e) : ReadsTo ss bs i r t L' E := fun t' h1 h2 h3 => hx _ _ (h t' h1 h2 h3)
theorem SeedsTo.has {ss : List St} {bs : List UInt8} {i m : Nat} {M L L' : List (Nat × Nat)} (h : SeedsTo ss bs i M m L) (hx : ∀ q e, Se.Has L q e → Se.Has L' q e) : SeedsTo ss bs i M m L' := fun j h1 h2 t h3 h4 => hx _ _ (h j h1 h2 t h3 h4)
theorem SeedsTo.step {ss : List St} {bs : List UInt8} {i m : Nat} {M L : List (Nat × Nat)} (h : SeedsTo ss bs i M m L) (hm : m < M.length) (hr : ReadsTo ss bs i M[m].1 (-1) L M[m].2) : SeedsTo ss bs i M (m + 1) L := fun j h1 h2 t h3 h4 => by
  by_cases e : j = m
  · subst e; exact hr t (by omega) h3 h4
  · exact h j h1 (by omega) t h3 h4
/-- A run of a reading step to a place behind. -/
theorem run_read {ss : List St} {bs : List UInt8} {i t r E : Nat} (hp : Run ss bs (i + 1) r E) (hx : readX ss r t = true) (hs : ∃ h1 : t / 2 < ss.length, ∃ h2 : i < bs.length, ss[t / 2].set bs[i].toNat = true) : Run ss bs i (t / 2) E := by
  obtain ⟨_, h1, hk, hn⟩ := readX_iff.1 hx
  obtain ⟨_, h2, hb⟩ := hs
  exact .read h1 hk h2 hb (by rw [hn]; exact hp)
/-- When all seeds are taken, the list is the list of places. -/
theorem DG.finish {ss : List St} {st : Nat} {bs : List UInt8} {i E : Nat} {D D0 : Dyn} {accs : List Int} (h0 : DP ss bs (i + 1) D0) (h : DG ss st bs i E D) (hd : DoneTo ss bs.length i D.L D.L.length) (hs : SeedsTo ss bs i D0.L D0.L.length D.L)
    (ha : ∀ x, x ∈ accs ↔ ∃ k : Nat, x = (k : Int) ∧ ∃ h : k < ss.length, ss[k].kind = 4) (hacc : ∀ k : Nat, (k : Int) ∈ accs → Se.Has D.L k i) : DP ss bs i D ∧ FinOk ss st bs i D.fin := by
  have hp := h.grow.places hd (fun q e hseed => by
    rcases hseed with ⟨hq, hk, rfl, _⟩ | ⟨hq, hi, hk, hb, hbest⟩
    · exact hacc q ((ha _).2 ⟨q, rfl, hq, hk⟩)
    · have hm := (h0.pl.mem _ _).2 hbest
      obtain ⟨j, hj, ej⟩ := List.mem_iff_getElem.1 hm
      have := hs j hj hj (2 * q) (by
        rw [readX_iff]
        refine ⟨by omega, ?_⟩
        have e : 2 * q / 2 = q := by omega
        refine ⟨by omega, ?_, ?_⟩
        · simp only [e]; exact hk
        · simp only [e]; rw [ej]) (by
        have e : 2 * q / 2 = q := by omega
        refine ⟨by omega, hi, ?_⟩
        simp only [e]; exact hb)
      rw [show 2 * q / 2 = q by omega, ej] at this
      exact this)
  refine ⟨⟨hp, h.at_, h.sl, h.old⟩, ?_⟩
  rcases h.fin with ⟨e, he, hf⟩ | ⟨hno, hf⟩
  · exact .inl ⟨e, (hp.mem _ _).1 he, hf⟩
  · refine .inr ⟨fun e hr => ?_, hf⟩
    obtain ⟨e', _, hb⟩ := Best.ex hr
    exact hno e' ((hp.mem _ _).2 hb)
variable {n st : Nat} {w0 w1 w : World} {P : Parts} {D : Dyn} {vL vM : Value}
theorem Wk.below {w' : World} (h : Wk n st w0 w1 w P D vL vM) (hb : Below w.heap.size w w') : Wk n st w0 w1 w' P D vL vM := by
  have hk : ∀ k, k < w.heap.size → w'.heap[k]? = w.heap[k]? := fun k hk => hb.block k hk
  exact ⟨(hk _ (lt_some h.blk)).trans h.blk, (hk _ (lt_some h.seen)).trans h.seen, h.sl, own_same h.lv hk, own_same h.fm hk, h.ne, fun k h1 h2 h3 => (hk k (by have := h.size; omega)).trans (h.chg k h1 h2 h3), Nat.le_trans h.size hb.size, h.bel.trans (hb.mono h.bel.size), h.lo⟩
theorem Wk.placeM (h : Wk n st w0 w1 w P D vL vM) {M : List (Nat × Nat)} (hM : D.M = M) {k : Nat} (hk : k < M.length) : ∃ g c, vM = .slice (some ⟨g, 0, none⟩) M.length c ∧ w.cell? ⟨g, k * 2, none⟩ = some (.int .i64 (M[k].1 : Int)) ∧ w.cell? ⟨g, k * 2 + 1, none⟩ = some (.int .i64 (M[k].2 : Int)) := by
  subst hM
  rcases h.fm.2 with ⟨_, e⟩ | ⟨g, cap, cur, e, _, hg, _⟩
  · omega
  · have hl := h.fm
    rw [e] at hl
    obtain ⟨h1, h2⟩ := flatP_get D.M k hk
    exact ⟨g, cap, e, (hl.cellAt (k * 2) (by omega)).trans h1, (hl.cellAt (k * 2 + 1) (by omega)).trans h2⟩
/-- The two lists change places. -/
theorem Wk.swap {A : Option Addr} {c m : Nat} (h : Wk n st w0 w1 w P D vL (.slice A m c)) (hgs : P.B ≠ P.gs) : Wk n st w0 w1 ((w.setCell ⟨P.B, 9, none⟩ (.slice A 0 c)).setCell ⟨P.B, 10, none⟩ vL) P { D with L := [], M := D.L } (.slice A 0 c) vL := by
  have ho : ∀ k, k ≠ P.B → ((w.setCell ⟨P.B, 9, none⟩ (.slice A 0 c)).setCell ⟨P.B, 10, none⟩ vL).heap[k]? = w.heap[k]? := fun k e => (Below.heap_setCell _ _ _ k e).trans (Below.heap_setCell _ _ _ k e)
  have hlo := h.lo
  refine ⟨?_, (ho _ (Ne.symm hgs)).trans h.seen, h.sl, ?_, own_setP (own_setP h.lv hlo.2.2.1) hlo.2.2.1, fun k h1 h2 => h.ne k h2 (by cases A <;> exact h1), fun k h1 h2 h3 => (ho k h2).trans (h.chg k h1 h2 h3), ?_, (h.bel.setCell (p := ⟨P.B, 9, none⟩) hlo.1 _).setCell (p := ⟨P.B, 10, none⟩) hlo.1 _, hlo⟩
  · have h1 := set_block (o := 9) (u := .slice A 0 c) h.blk
    have h2 := set_block (o := 10) (u := vL) h1
    rw [h2]; rfl
  · refine own_setP (own_setP ?_ hlo.2.2.1) hlo.2.2.1
    refine ⟨rfl, ?_⟩
    rcases h.fm.2 with ⟨e, _⟩ | ⟨g, cap, cur, e, hb, hg, _, hm, hs, _⟩
    · injection e with e1 e2 e3
      subst e1 e3
      exact .inl ⟨rfl, rfl⟩
    · injection e with e1 e2 e3
      subst e1 e3
      exact .inr ⟨g, c, cur, rfl, hb, hg, Nat.zero_le _, hm, hs, by simp [flatP]⟩
  · simp [World.setCell]; exact h.size
end Se
end
section
open Go.RowKit
namespace Se
open Cm Rx Au
abbrev tSp : TypeId := 36
abbrev tSps : TypeId := 60
/-- The types of the blocks that a walker changes. -/
def walkT (t : TypeId) : Bool := t == tInt || t == tPl || t == tWk
/-- The types of the blocks that the body of a loop changes. -/
def callT (t : TypeId) : Bool := t == tSp || t == tSps || t == 4 || t == 24
structure K1 (w w' : World) : Prop where
  size : w.heap.size ≤ w'.heap.size
  same : ∀ (k : Nat) (o : Obj), w.heap[k]? = some o → (∀ cs t z, o = Obj.cells cs t z → walkT t = false) → w'.heap[k]? = some o
structure K2 (w w' : World) : Prop where
  size : w.heap.size ≤ w'.heap.size
  same : ∀ (k : Nat) (cs : Array Value) (t : TypeId) (z : Nat × Nat), w.heap[k]? = some (Obj.cells cs t z) → callT t = false → w'.heap[k]? = some (Obj.cells cs t z)
theorem K1.refl (w : World) : K1 w w := ⟨Nat.le_refl _, fun _ _ h _ => h⟩
theorem K2.refl (w : World) : K2 w w := ⟨Nat.le_refl _, fun _ _ _ _ h _ => h⟩
theorem K1.trans {a b c : World} (h : K1 a b) (k : K1 b c) : K1 a c := ⟨Nat.le_trans h.size k.size, fun i o h1 h2 => k.same i o (h.same i o h1 h2) h2⟩
theorem K2.trans {a b c : World} (h : K2 a b) (k : K2 b c) : K2 a c := ⟨Nat.le_trans h.size k.size, fun i cs t z h1 h2 => k.same i cs t z (h.same i cs t z h1 h2) h2⟩
theorem K1.below {w w' : World} (h : Below w.heap.size w w') : K1 w w' := ⟨h.size, fun k _ h1 _ => (h.block k (lt_some h1)).trans h1⟩
theorem K2.below {w w' : World} (h : Below w.heap.size w w') : K2 w w' := ⟨h.size, fun k _ _ _ h1 _ => (h.block k (lt_some h1)).trans h1⟩
theorem K1.drewN {a b : World} (h : K1 a b) (m : Nat) : K1 a (b.drewN m) := h.trans (.below (below_drewN (Below.refl _ _) m))
theorem K2.drewN {a b : World} (h : K2 a b) (m : Nat) : K2 a (b.drewN m) := h.trans (.below (below_drewN (Below.refl _ _) m))
/-- A block of such a type, or none of the old ones, has turned. -/
theorem K1.of {w w' : World} (hs : w.heap.size ≤ w'.heap.size) (h : ∀ k : Nat, k < w.heap.size → (∀ cs t z, w.heap[k]? = some (Obj.cells cs t z) → walkT t = false) → w'.heap[k]? = w.heap[k]?) : K1 w w' :=
  ⟨hs, fun k o h1 h2 => (h k (lt_some h1) (fun cs t z h3 => h2 cs t z (by rw [h1] at h3; exact Option.some.inj h3))).trans h1⟩
theorem K2.of {w w' : World} (hs : w.heap.size ≤ w'.heap.size) (h : ∀ (k : Nat) cs t z, w.heap[k]? = some (Obj.cells cs t z) → callT t = false → w'.heap[k]? = w.heap[k]?) : K2 w w' :=
  ⟨hs, fun k cs t z h1 h2 => (h k cs t z h1 h2).trans h1⟩
theorem K1.setCell {w : World} {g i : Nat} {u : Value} (h : ∀ cs t z, w.heap[g]? = some (Obj.cells cs t z) → walkT t = true) (hc : ∃ cs t z, w.heap[g]? = some (Obj.cells cs t z)) : K1 w (w.setCell ⟨g, i, none⟩ u) :=
  K1.of (by simp [World.setCell]) fun k hk h2 => Below.heap_setCell _ _ _ k (fun e => by
    have e : k = g := e
    subst e
    obtain ⟨cs, t, z, h3⟩ := hc
    have h4 := h cs t z h3
    rw [h2 cs t z h3] at h4
    cases h4)
theorem K2.setCell {w : World} {g i : Nat} {u : Value} {cs : Array Value} {t : TypeId} {z : Nat × Nat} (hc : w.heap[g]? = some (.cells cs t z)) (h : callT t = true) : K2 w (w.setCell ⟨g, i, none⟩ u) :=
  K2.of (by simp [World.setCell]) fun k cs' t' z' h1 h2 => Below.heap_setCell _ _ _ k (fun e => by
    have e : k = g := e
    subst e
    rw [hc] at h1
    injection h1 with h1
    injection h1 with _ h1 _
    subst h1
    rw [h] at h2
    cases h2)
theorem K2.putObj {w : World} {l : Nat} {o o' : Obj} (hl : w.heap[l]? = some o) (ho : o.isCells = false) : K2 w (w.putObj l o') :=
  K2.of (by simp [World.putObj]) fun k cs t z h1 _ => World.putObj_heap_other (fun e => by
    subst e
    rw [hl] at h1
    injection h1 with h1
    subst h1
    cases ho)
theorem K1.alloc (w : World) (o : Obj) : K1 w (w.alloc o) := .below ((Below.refl _ _).alloc (Nat.le_refl _) _)
theorem K2.alloc (w : World) (o : Obj) : K2 w (w.alloc o) := .below ((Below.refl _ _).alloc (Nat.le_refl _) _)
variable {n st : Nat} {w0 w1 w w' : World} {P : Parts} {D : Dyn} {vL vM : Value}
theorem own_cells {w : World} {base t s n : Nat} {v : Value} {xs : List Value} (h : w.ownsRow base t s v n xs) {k : Nat} (hk : v.ownBlock = some k) : ∃ cur, w.heap[k]? = some (.cells cur t (0, 0)) := by
  rcases h.2 with ⟨e, _⟩ | ⟨g, cap, cur, e, _, hg, _⟩
  · subst e; cases hk
  · subst e
    injection hk with hk
    subst hk
    exact ⟨cur, hg⟩
/-- visit and reach leave alone what a walker does not change. -/
theorem K1.keep {vL' : Value} (h : Wk n st w0 w1 w P D vL vM) (hk : Keep w w' P vL vL') : K1 w w' :=
  K1.of hk.size fun k h1 h2 => hk.same k h1
    (fun e => by subst e; have h3 := h2 _ _ _ h.blk; cases h3)
    (fun e => by subst e; have h3 := h2 _ _ _ h.seen; cases h3)
    (fun e => by obtain ⟨cur, hc⟩ := own_cells h.lv e; have h3 := h2 _ _ _ hc; cases h3)
theorem K1.setB (h : Wk n st w0 w1 w P D vL vM) (i : Nat) (u : Value) : K1 w (w.setCell ⟨P.B, i, none⟩ u) :=
  K1.setCell (fun cs t z h1 => by rw [h.blk] at h1; injection h1 with h1; injection h1 with _ h1 _; subst h1; rfl) ⟨_, _, _, h.blk⟩
theorem K1.setB2 (h : Wk n st w0 w1 w P D vL vM) (i j : Nat) (u u' : Value) : K1 w ((w.setCell ⟨P.B, i, none⟩ u).setCell ⟨P.B, j, none⟩ u') :=
  (K1.setB h i u).trans (K1.setCell (fun cs t z h1 => by rw [set_block (o := i) (u := u) h.blk] at h1; injection h1 with h1; injection h1 with _ h1 _; subst h1; rfl) ⟨_, _, _, set_block (o := i) (u := u) h.blk⟩)
/-- The first n blocks of a world. -/
def cutW (w : World) (n : Nat) : World := { w with heap := w.heap.extract 0 n }
theorem cutW_size {w : World} {n : Nat} (h : n ≤ w.heap.size) : (cutW w n).heap.size = n := by
  show (w.heap.extract 0 n).size = n
  simp; omega
theorem cutW_at {w : World} {n k : Nat} (hk : k < n) : (cutW w n).heap[k]? = w.heap[k]? := by
  show (w.heap.extract 0 n)[k]? = _
  simp [Array.getElem?_extract]
  omega
theorem cutW_below {w : World} {n : Nat} (h : n ≤ w.heap.size) : Below n (cutW w n) w := ⟨rfl, rfl, rfl, by rw [cutW_size h]; exact h, fun _ hk => (cutW_at hk).symm⟩
theorem own_one {w W : World} {base t s n : Nat} {v : Value} {xs : List Value} (h : w.ownsRow base t s v n xs) (hk : ∀ (k : Nat) cur, w.heap[k]? = some (Obj.cells cur t (0, 0)) → W.heap[k]? = some (Obj.cells cur t (0, 0))) : W.ownsRow base t s v n xs := by
  refine ⟨h.1, ?_⟩
  rcases h.2 with e | ⟨g, cap, cur, e, hb, hg, r⟩
  · exact .inl e
  · exact .inr ⟨g, cap, cur, e, hb, hk g cur hg, r⟩
/-- Of what types the blocks are that a walker reads. -/
structure WkT (w1 : World) (P : Parts) : Prop where
  aT : ∃ cs t z, w1.heap[P.bA]? = some (Obj.cells cs t z) ∧ callT t = false
  accT : P.accs = [] ∨ ∃ cs z, w1.heap[P.ba]? = some (Obj.cells cs tInt z)
theorem cell_same {w W : World} {b i : Nat} {v : Value} (h : W.heap[b]? = w.heap[b]?) (hc : w.cell? ⟨b, i, none⟩ = some v) : W.cell? ⟨b, i, none⟩ = some v := (World.cell?_of_block (w := w) (a := ⟨b, i, none⟩) h).trans hc
/-- A body has run: the walker goes on from the world behind it. -/
theorem Wk.turn {ss : List St} (hS : WkS ss w1 P) (hT : WkT w1 P) (h : Wk n st w0 w1 w P D vL vM) (hk : K2 w w') :
    WkS ss (cutW w' w1.heap.size) P ∧ WkT (cutW w' w1.heap.size) P ∧ Wk n st (cutW w' w0.heap.size) (cutW w' w1.heap.size) w' P D vL vM := by
  have hlo := h.lo
  have hz := h.size
  have hz2 := hk.size
  have e1 : (cutW w' w1.heap.size).heap.size = w1.heap.size := cutW_size (by omega)
  have e0 : (cutW w' w0.heap.size).heap.size = w0.heap.size := cutW_size (by omega)
  have hcut : ∀ (k : Nat) cs t z, w1.heap[k]? = some (Obj.cells cs t z) → k ≠ P.B → k ≠ P.gs → callT t = false → (cutW w' w1.heap.size).heap[k]? = some (.cells cs t z) := fun k cs t z h1 h2 h3 h4 => by
    rw [cutW_at (lt_some h1)]
    exact hk.same k cs t z (h.block h2 h3 h1) h4
  refine ⟨?_, ?_, ?_⟩
  · obtain ⟨cs, t, z, ha, hat⟩ := hT.aT
    have hA := hcut _ _ _ _ ha hS.na.1 hS.na.2 hat
    have hAe : (cutW w' w1.heap.size).heap[P.bA]? = w1.heap[P.bA]? := hA.trans ha.symm
    refine ⟨hS.pos, hS.ok, fun j hj => ?_, hcut _ _ _ _ hS.r1 hS.n1.1 hS.n1.2 rfl, hcut _ _ _ _ hS.r2 hS.n2.1 hS.n2.2 rfl, hcut _ _ _ _ hS.f1 hS.n3.1 hS.n3.2 rfl, hcut _ _ _ _ hS.f2 hS.n4.1 hS.n4.2 rfl, hS.acc, fun j hj => ?_, hS.accm, hS.accl, hS.ne, hS.na, hS.n1, hS.n2, hS.n3, hS.n4, hS.n5⟩
    · obtain ⟨s0, s1, s2, s3, s4, s5, s6⟩ := hS.st j hj
      exact ⟨cell_same hAe s0, cell_same hAe s1, cell_same hAe s2, cell_same hAe s3, cell_same hAe s4, cell_same hAe s5, cell_same hAe s6⟩
    · rcases hT.accT with e | ⟨cs, z, hb⟩
      · rw [e] at hj; cases hj
      · exact cell_same ((hcut _ _ _ _ hb hS.n5.1 hS.n5.2 rfl).trans hb.symm) (hS.accc j hj)
  · obtain ⟨cs, t, z, ha, hat⟩ := hT.aT
    refine ⟨⟨cs, t, z, hcut _ _ _ _ ha hS.na.1 hS.na.2 hat, hat⟩, ?_⟩
    rcases hT.accT with e | ⟨cs, z, hb⟩
    · exact .inl e
    · exact .inr ⟨cs, z, hcut _ _ _ _ hb hS.n5.1 hS.n5.2 rfl⟩
  · refine ⟨hk.same _ _ _ _ h.blk rfl, hk.same _ _ _ _ h.seen rfl, h.sl, ?_, ?_, h.ne, fun k h1 _ _ => (cutW_at (by rw [e1] at h1; exact h1)).symm, by rw [e1]; omega, ?_, ?_⟩
    · rw [e1]; exact own_one h.lv (fun k cur hc => hk.same _ _ _ _ hc rfl)
    · rw [e1]; exact own_one h.fm (fun k cur hc => hk.same _ _ _ _ hc rfl)
    · rw [e0]; exact cutW_below (by omega)
    · rw [e0, e1]; exact hlo
/-- What stays of the walker's data: its parts at the beginning of the text behind newWalker. -/
theorem Wk.types (hT : WkT w1 P) (h : Wk n st w0 w1 w P D vL vM) (hna : P.bA ≠ P.B ∧ P.bA ≠ P.gs) : ∃ cs t z, w.heap[P.bA]? = some (Obj.cells cs t z) ∧ callT t = false := by
  obtain ⟨cs, t, z, ha, hat⟩ := hT.aT
  exact ⟨cs, t, z, h.block hna.1 hna.2 ha, hat⟩
end Se
end
end Go.Proofs.Ytgadomcbaenodaa

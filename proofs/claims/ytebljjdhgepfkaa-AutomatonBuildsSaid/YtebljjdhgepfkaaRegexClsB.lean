/-
  The reference's class: plain mathematics of its items. No conditions.
-/
import Derived.Test.YtebljjdhgepfkaaRegexClsA
import Derived.Test.YtebljjdhgepfkaaRegexPsY
import Derived.Deep.Cut
import Derived.Deep.CutRange
import Derived.Deep.CutBlock
import Derived.IntWalk
namespace Go.Proofs.Ytebljjdhgepfkaa
open Go.RowKit
namespace Rx
open Cm
def ClsP (ns : List Nd) (neg : Bool) (t : Option ((Nat → Bool) × Nat)) : Res :=
  match t with
  | none => .error 40
  | some (m, a) => .ok (ns.length, a + 1, ns ++ [setN (if neg then (fun x => !m x) else m)])
/-- The relation between two items. -/
def ItR (total : Option ((Nat → Bool) × Nat)) (w : World) (base rb H : Nat) (s : ByteArray) (D : Int) (ns : List Nd) (ks : List Value) (fb : Bool) (wr : World) : Prop :=
  ∃ (f a : Nat) (m : Nat → Bool), total = itemsF (Tx.bs s) f fb a m ∧ s.size < a + f ∧ a ≤ s.size ∧ CR w wr base rb H s (a : Int) D ns ks m
def measR (s : ByteArray) (rb : Nat) (w : World) : Nat := match w.cell? ⟨rb, 1, none⟩ with | some (.int _ z) => s.size + 1 - z.toNat | _ => 0
theorem measR_ok {w wr : World} {base rb H : Nat} {s : ByteArray} {a : Nat} {D : Int} {ns : List Nd} {ks : List Value} {m : Nat → Bool} (h : CR w wr base rb H s (a : Int) D ns ks m) : measR s rb wr = s.size + 1 - a := by
  obtain ⟨v, ⟨_, c1, _⟩, _⟩ := h.rdr
  unfold measR
  rw [c1]
  rfl
theorem is_T {l : List UInt8} {a : Nat} {c : UInt8} (h : l[a]? = some c) : isF l a c.toNat = true := by
  unfold isF; rw [h]; simp
theorem is_F {l : List UInt8} {a : Nat} {c : UInt8} (h : ¬ l[a]? = some c) : isF l a c.toNat = false := by
  unfold isF
  cases hg : l[a]? with
  | none => rfl
  | some b => simp only [beq_eq_false_iff_ne]; intro hb; exact h (by rw [hg]; congr 1; exact UInt8.toNat_inj.1 hb)
theorem size_drewN' (w : World) (m : Nat) : (w.drewN m).heap.size = w.heap.size := by
  induction m generalizing w with
  | zero => rfl
  | succ m ih => exact ih (w := w.drew)
/-- What follows an item. -/
def nxt (l : List UInt8) (f : Nat) (m : Nat → Bool) (x : Option ((Nat → Bool) × Nat)) : Option ((Nat → Bool) × Nat) := match x with | none => none | some (p, a2) => itemsF l f false a2 (fun x => m x || p x)
theorem items_nxt {l : List UInt8} {f a : Nat} {fb : Bool} {m : Nat → Bool} (h : (!fb && l[a]? == some 93) = false) : itemsF l (f + 1) fb a m = nxt l f m (Px.itemF l a) := by
  rw [Px.items_step, if_neg (by rw [h]; decide)]
  unfold nxt
  generalize Px.itemF l a = q
  rcases q with _ | ⟨_, _⟩ <;> rfl
/-- Does the name of a class begin here? -/
def ncB (l : List UInt8) (a : Nat) : Bool := decide (l[a]? = some 91 ∧ l[a + 1]? = some 58)
/-- Does a range stand here? -/
def rgB (l : List UInt8) (a : Nat) : Bool := decide (l[a + 1]? = some 45 ∧ a + 2 < l.length ∧ l[a + 2]? ≠ some 93)
theorem quiet_more {P : Program} {f : Nat} {args : Array Value} {w : World} {k x : Nat} {v : Value} (h : Calls P f args (w.drewN (k + x)) fun e w' => e = .returned v ∧ ∃ m, w' = (w.drewN (k + x)).drewN m) : Calls P f args (w.drewN (k + x)) fun e w' => e = .returned v ∧ ∃ n, w' = w.drewN (k + n) :=
  h.mono fun e w' ⟨h1, m, h2⟩ => ⟨h1, x + m, by rw [h2, World.drewN_drewN, Nat.add_assoc]⟩
/-- The item that is the name of a class, its name's end being E. -/
def namedI (l : List UInt8) (a E : Nat) : Option ((Nat → Bool) × Nat) :=
  match clsF ((l.drop (a + 2)).take (E - (a + 2))) with
  | none => none
  | some p => if l.length ≤ E + 1 then none else some (fun x => decide (x < 256) && p x, E + 2)
theorem item_named {l : List UInt8} {a : Nat} (h1 : l[a]? = some 91) (h2 : l[a + 1]? = some 58) : Px.itemF l a = namedI l a (nameEnd l l.length (a + 2)) := by
  unfold Px.itemF namedI
  rw [h1]
  simp only
  rw [if_pos ⟨trivial, h2⟩]
  generalize clsF ((l.drop (a + 2)).take (nameEnd l l.length (a + 2) - (a + 2))) = q
  cases q <;> rfl
theorem name_stop {l : List UInt8} {E fu k : Nat} (h : E = nameEnd l fu k) (hs : l.length ≤ k + 1 ∨ (l[k]? = some 58 ∧ l[k + 1]? = some 93)) : E = k := by
  rw [h]
  cases fu with
  | zero => rfl
  | succ f =>
    unfold nameEnd
    rw [if_neg (fun hh => by
      rcases hs with h1 | h1
      · omega
      · exact hh.2 h1)]
theorem name_more (s : ByteArray) {a k fu E : Nat} {nv : ByteArray} (h1 : Tx.bs nv = ((Tx.bs s).drop (a + 2)).take (k - (a + 2))) (h2 : E = nameEnd (Tx.bs s) fu k) (h3 : s.size ≤ k + fu) (ha : a + 2 ≤ k) (hk : k + 1 < s.size)
    (hn : ¬ ((Tx.bs s)[k]? = some 58 ∧ (Tx.bs s)[k + 1]? = some 93)) : ∃ fu', Tx.bs (nv ++ s.extract k (k + 1)) = ((Tx.bs s).drop (a + 2)).take (k + 1 - (a + 2)) ∧ E = nameEnd (Tx.bs s) fu' (k + 1) ∧ s.size ≤ k + 1 + fu' := by
  obtain ⟨f, rfl⟩ : ∃ f, fu = f + 1 := ⟨fu - 1, by omega⟩
  refine ⟨f, ?_, ?_, by omega⟩
  · rw [Tx.bs_append, h1, Tx.bs_extract]
    have e1 : ((Tx.bs s).drop k).take (k + 1 - k) = [s[k]] := by
      rw [Tx.bs_drop s k (by omega), show k + 1 - k = 1 by omega]; rfl
    rw [e1, show k + 1 - (a + 2) = (k - (a + 2)) + 1 by omega, List.take_succ_eq_append_getElem (by rw [List.length_drop, Tx.bs_len]; omega)]
    congr 1
    rw [List.getElem_drop]
    have e2 : (Tx.bs s)[a + 2 + (k - (a + 2))]? = some s[k] := by rw [show a + 2 + (k - (a + 2)) = k by omega]; exact Tx.bs_get? s k (by omega)
    rw [List.getElem?_eq_getElem (by rw [Tx.bs_len]; omega)] at e2
    rw [Option.some.inj e2]
  · rw [h2]
    conv => lhs; unfold nameEnd
    rw [if_pos ⟨by rw [Tx.bs_len]; exact hk, hn⟩]
def clsM (m p : Nat → Bool) (j : Nat) : Nat → Bool := fun x => m x || (decide (x < j) && p x)
theorem clsM_T {m p : Nat → Bool} {j : Nat} (h : p j = true) : clsM m p (j + 1) = putM (clsM m p j) j := by
  funext x
  unfold clsM putM
  by_cases hx : x = j
  · subst hx; simp [h]
  · rw [show (x == j) = false from beq_eq_false_iff_ne.2 hx, Bool.false_or, show decide (x < j + 1) = decide (x < j) from by rw [Bool.eq_iff_iff]; simp only [decide_eq_true_eq]; omega]
theorem clsM_F {m p : Nat → Bool} {j : Nat} (h : p j = false) : clsM m p (j + 1) = clsM m p j := by
  funext x
  unfold clsM
  by_cases hx : x = j
  · subst hx; simp [h]
  · rw [show decide (x < j + 1) = decide (x < j) from by rw [Bool.eq_iff_iff]; simp only [decide_eq_true_eq]; omega]
/-- An item from lo to h that ends at e. -/
def rangeI (lo h : UInt8) (e : Nat) : Option ((Nat → Bool) × Nat) := if h.toNat < lo.toNat then none else some (fun x => decide (lo.toNat ≤ x) && decide (x ≤ h.toNat), e + 1)
theorem nc_no {l : List UInt8} {a : Nat} {c : UInt8} (h : l[a]? = some c) (hn : ncB l a = false) : ¬ (c = 91 ∧ l[a + 1]? = some 58) := fun hh => by
  have := of_decide_eq_false hn
  exact this ⟨by rw [h, hh.1], hh.2⟩
theorem item_range {l : List UInt8} {a : Nat} {c h : UInt8} (hc : l[a]? = some c) (hn : ncB l a = false) (hr : l[a + 1]? = some 45 ∧ a + 2 < l.length ∧ l[a + 2]? ≠ some 93) (hh : l[a + 2]? = some h) : Px.itemF l a = rangeI c h (a + 2) := by
  unfold Px.itemF rangeI
  rw [hc]
  simp only
  rw [if_neg (nc_no hc hn), if_pos hr, hh]
  simp only [Option.getD_some, UInt8.lt_iff_toNat_lt]
theorem item_one {l : List UInt8} {a : Nat} {c : UInt8} (hc : l[a]? = some c) (hn : ncB l a = false) (hr : ¬ (l[a + 1]? = some 45 ∧ a + 2 < l.length ∧ l[a + 2]? ≠ some 93)) : Px.itemF l a = rangeI c c a := by
  unfold Px.itemF rangeI
  rw [hc]
  simp only
  rw [if_neg (nc_no hc hn), if_neg hr, if_neg (Nat.lt_irrefl _)]
  congr 2
  funext x
  rw [Bool.eq_iff_iff]
  simp only [beq_iff_eq, Bool.and_eq_true, decide_eq_true_eq]
  omega
end Rx
end Go.Proofs.Ytebljjdhgepfkaa

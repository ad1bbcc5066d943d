/-
  Slices of changes and of spans: how they read, slices that the call owns, append of one element. No conditions. The program's and the reference's tests on numbers of lines; their Check. Condition: the fields are numbers that an int holds, the list is not longer than a slice may be.
-/
import Derived.Test.YtlnghfmedkfkmaaDoorGTextBase
import Derived.Test.YtlnghfmedkfkmaaDoorGComBase
import Derived.WalkLawsBesides
import Derived.Deep.RegionHeld3
import Derived.Deep.RegionLaw
import Derived.Deep.Cut
import Derived.Deep.CutRange
import Derived.Deep.QuietTactic
import Derived.BigQuiet
import Derived.BigRegion
import Derived.Deep.Onto
import Derived.IntWalk
namespace Go.Proofs.YtlnghfmedkfkmaaDoor
section
namespace Cm
end Cm
open Go.RowKit
namespace Sc
open Cm
def chC (c : Ch) : List Value := [.int .i64 c.old, .int .i64 c.oldLen, .int .i64 c.new, .int .i64 c.newLen]
def spC (s : Sp) : List Value := [.int .i64 s.frm, .int .i64 s.to]
section
variable {α : Type} {k : Nat} {enc : α → List Value}
/-- A slice of elements of k cells that reads as a list. -/
def RdK (k : Nat) (enc : α → List Value) (w : World) (v : Value) (xs : List α) : Prop :=
  ∃ A c, v = .slice A xs.length c ∧ (xs.length ≤ c ∧ (A = none → c = 0)) ∧ (0 < xs.length → ∃ b off, A = some ⟨b, off, none⟩ ∧ ∀ j (h : j < xs.length) i (hi : i < (enc xs[j]).length), w.cell? ⟨b, off + j * k + i, none⟩ = some (enc xs[j])[i])
def flatK (enc : α → List Value) (xs : List α) : List Value := xs.flatMap enc
theorem flatK_snoc (xs : List α) (s : α) : flatK enc (xs ++ [s]) = flatK enc xs ++ enc s := by simp [flatK]
theorem flatK_get (he : ∀ x, (enc x).length = k) : ∀ (xs : List α) (j : Nat) (hj : j < xs.length) (i : Nat), i < k → (flatK enc xs)[j * k + i]? = (enc xs[j])[i]?
  | [], j, h, _, _ => absurd h (Nat.not_lt_zero _)
  | s :: ss, 0, _, i, hi => by
    show (enc s ++ flatK enc ss)[0 * k + i]? = _
    rw [List.getElem?_append_left (by rw [he]; omega)]
    simp
  | s :: ss, j + 1, h, i, hi => by
    show (enc s ++ flatK enc ss)[(j + 1) * k + i]? = _
    rw [List.getElem?_append_right (by rw [he, Nat.succ_mul]; omega), he, show (j + 1) * k + i - k = j * k + i by rw [Nat.succ_mul]; omega, flatK_get he ss j (by simpa using h) i hi]
    rfl
theorem RdK.below {w w' : World} {v : Value} {xs : List α} (h : RdK k enc w v xs) (hb : Below w.heap.size w w') : RdK k enc w' v xs := by
  obtain ⟨A, c, rfl, hcap, hc⟩ := h
  refine ⟨A, c, rfl, hcap, fun hp => ?_⟩
  obtain ⟨b, off, rfl, hcell⟩ := hc hp
  exact ⟨b, off, rfl, fun j hj i hi => (hb.cell (p := ⟨b, off + j * k + i, none⟩) (Tx.cell_lt (hcell j hj i hi))).trans (hcell j hj i hi)⟩
theorem RdK.form {w : World} {v : Value} {xs : List α} (h : RdK k enc w v xs) : ∃ A c, v = .slice A xs.length c := by
  obtain ⟨A, c, rfl, _⟩ := h; exact ⟨A, c, rfl⟩
theorem RdK.at {w : World} {A : Option Addr} {n c : Nat} {xs : List α} (h : RdK k enc w (.slice A n c) xs) (j : Nat) (hj : j < xs.length) : ∃ b off, A = some ⟨b, off, none⟩ ∧ ∀ i (hi : i < (enc xs[j]).length), w.cell? ⟨b, off + j * k + i, none⟩ = some (enc xs[j])[i] := by
  obtain ⟨A', c', e, _, hc⟩ := h
  injection e with e1 e2 _
  subst e1
  obtain ⟨b, off, e3, hcell⟩ := hc (by omega)
  exact ⟨b, off, e3, fun i hi => hcell j hj i hi⟩
theorem RdK.of_own {w : World} {base : Nat} {e : TypeId} {v : Value} {xs : List α} (he : ∀ x, (enc x).length = k) (h : w.ownsRow base e k v xs.length (flatK enc xs)) : RdK k enc w v xs := by
  rcases h.2 with ⟨rfl, h0⟩ | ⟨g, cap, cur, rfl, _, _, hcap, _⟩
  · exact ⟨none, 0, by rw [h0], ⟨by omega, fun _ => rfl⟩, fun hp => by omega⟩
  · refine ⟨some ⟨g, 0, none⟩, cap, rfl, ⟨by omega, fun e => by cases e⟩, fun _ => ⟨g, 0, rfl, fun j hj i hi => ?_⟩⟩
    have hik : i < k := by rw [he] at hi; exact hi
    have hjk : j * k + i < k * xs.length := by
      have := Nat.mul_le_mul_right k (Nat.succ_le_of_lt hj)
      rw [Nat.succ_mul, Nat.mul_comm xs.length] at this
      omega
    rw [Nat.zero_add, h.cellAt (j * k + i) (by rw [Nat.mul_comm k] at hjk; exact hjk), flatK_get he xs j hj i hik, List.getElem?_eq_getElem hi]
theorem ownK_below {w w' : World} {base n : Nat} {e : TypeId} {v : Value} {xs : List Value} (h : w.ownsRow base e k v n xs) (hb : Below w.heap.size w w') : w'.ownsRow base e k v n xs :=
  h.kept (row := none) ⟨hb.os, hb.tape, hb.output, hb.size, fun k hk _ => hb.block k hk⟩ (by cases v.ownBlock <;> simp)
theorem ownK_base {w : World} {base base' n : Nat} {e : TypeId} {v : Value} {xs : List Value} (h : w.ownsRow base e k v n xs) (hb : base' ≤ base) : w.ownsRow base' e k v n xs := by
  refine ⟨h.1, ?_⟩
  rcases h.2 with hn | ⟨g, cap, cur, hv, hbg, rest⟩
  · exact .inl hn
  · exact .inr ⟨g, cap, cur, hv, Nat.le_trans hb hbg, rest⟩
end
abbrev RdS := RdK 2 spC
section
variable {ops : Array Oper} {rest : List Oper} {o : Oper} {a : Act} {Q : Exit → Act → World → Prop} {w : World}
/-- append of one new element onto a row that the call owns. -/
theorem app_k {t e : TypeId} {z : Value} {k bytes : Nat} (hk : 0 < k) (hg : Region.wanted o (yielded ops a.tmps) = true) (ht : Tryd.prog.underlying t = some (.slice e)) (hinfo : (Tryd.prog.info? e).map (fun i => (i.zero, i.size, i.bytes)) = some (some z, k, bytes)) (hz : z.cells.size = k) (hby : bytes ≤ 64)
    (s x : Operand) (ho : o.op = .call { callee := .builtin .append, args := #[s, x], argTypes := #[t, t] })
    (base n : Nat) (xs us : List Value) (hus : us.length = k) (hone : ∀ u ∈ us, u.oneCell' = true) (v : Value) (C : Array Value) (hs : a.eval s = v) (hown : w.ownsRow base e k v n xs)
    (hx : a.eval x = .slice (some ⟨w.heap.size, 0, none⟩) 1 1) (hC : C.toList = us)
    (hsz : n + 1 ≤ 1000000) (hbase : base ≤ w.heap.size)
    (h : ∀ v' w', w'.ownsRow base e k v' (n + 1) (xs ++ us) → Below base w w' → (w.alloc (.cells C e)).grownBy w' v.ownBlock → wpList Tryd.prog ops Q rest (a.put o.dst v') w') :
    wpList Tryd.prog ops Q (o :: rest) a (w.alloc (.cells C e)) := by
  obtain ⟨i0, hi0, hz0, hz1, hz2⟩ := info_parts hinfo
  have hsize : (w.alloc (.cells C e)).heap.size = w.heap.size + 1 := by simp
  refine wpList_wanted hg fun K hK => ?_
  refine wp_append_own _ s x _ ho base e i0 _ k bytes ht hi0 hz0 hz1 hz2 hz hk v n xs hs (hown.alloc _) ⟨w.heap.size, 0, none⟩ 1 1 us hx
    (by rw [hus, Nat.one_mul]) (fun j y hy => ?_) hone (by unfold maxLen; omega) ?_ (by omega) ?_
  · have he : (Addr.mk w.heap.size 0 none).add j = ⟨w.heap.size, j, none⟩ := by
      unfold Addr.add; split
      · rename_i h0; rw [h0]
      · simp
    rw [he, World.cell?_alloc_mark, ← hy, ← hC]; simp
  · have := Nat.mul_le_mul_left (n + 1) hby
    omega
  · intro v' w' h1 h2 _
    exact hK _ _ (h v' w' h1 (((Below.refl base w).alloc hbase _).trans ((Below.refl base _).grown h2 (by omega) (fun k hk => (hown.lt k hk).1))) h2)
end
end Sc
end
section
namespace Cm
end Cm
open Go.RowKit
namespace Sc
open Cm
def CkPost (l : List Ch) (m n : Int) (w : World) (e : Ending) (w' : World) : Prop := e = .returned (.int .i64 (chkF l m n)) ∧ Below w.heap.size w w'
end Sc
end
end Go.Proofs.YtlnghfmedkfkmaaDoor

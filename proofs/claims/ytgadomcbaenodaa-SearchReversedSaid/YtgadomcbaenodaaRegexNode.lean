/-
  Nodes of layer 4 in memory: a slice of nodes that the call owns, with the rows of their kids; a frame by the types of a row's elements. No conditions.
-/
import Derived.Test.YtgadomcbaenodaaRegexBits
import Derived.Test.YtgadomcbaenodaaComInts
namespace Go.Proofs.Ytgadomcbaenodaa
open Go.RowKit
namespace Rx
open Cm
abbrev tNode : TypeId := 49
abbrev tInt : TypeId := 3
theorem info_int : (Try.prog.info? tInt).map (fun i => (i.zero, i.size, i.bytes)) = some (some (.int .i64 0), 1, 8) := by kernel_rfl
abbrev zeroN : Value := .agg #[.int .i64 0, .int .u64 0, .int .u64 0, .int .u64 0, .int .u64 0, .int .i64 0, .int .i64 0, .slice none 0 0]
theorem info_node : (Try.prog.info? tNode).map (fun i => (i.zero, i.size, i.bytes)) = some (some zeroN, 8, 80) := by kernel_rfl
/-- A node, as a datum. -/
structure Nd where
  kind : Int
  set : Nat → Bool
  mn : Int
  mx : Int
  kids : List Int
/-- A node as cells, with the value of its kids. -/
def ndC (n : Nd) (k : Value) : List Value := [.int .i64 n.kind, .int .u64 (word n.set 0 : Nat), .int .u64 (word n.set 1 : Nat), .int .u64 (word n.set 2 : Nat), .int .u64 (word n.set 3 : Nat), .int .i64 n.mn, .int .i64 n.mx, k]
/-- .. as a value. -/
def ndV (n : Nd) (k : Value) : Value := .agg #[.int .i64 n.kind, .int .u64 (word n.set 0 : Nat), .int .u64 (word n.set 1 : Nat), .int .u64 (word n.set 2 : Nat), .int .u64 (word n.set 3 : Nat), .int .i64 n.mn, .int .i64 n.mx, k]
def flatC : List Nd → List Value → List Value
  | n :: ns, k :: ks => ndC n k ++ flatC ns ks
  | _, _ => []
theorem flatC_len : ∀ (ns : List Nd) (ks : List Value), ks.length = ns.length → (flatC ns ks).length = 8 * ns.length
  | [], [], _ => rfl
  | n :: ns, k :: ks, h => by
    rw [flatC, List.length_append, flatC_len ns ks (by simpa using h), List.length_cons]
    show 8 + _ = _
    omega
theorem flatC_snoc : ∀ (ns : List Nd) (ks : List Value) (n : Nd) (k : Value), ks.length = ns.length → flatC (ns ++ [n]) (ks ++ [k]) = flatC ns ks ++ ndC n k
  | [], [], n, k, _ => by simp [flatC]
  | a :: ns, b :: ks, n, k, h => by
    show ndC a b ++ flatC (ns ++ [n]) (ks ++ [k]) = _
    rw [flatC_snoc ns ks n k (by simpa using h), flatC, List.append_assoc]
/-- Nodes that the call owns, and the rows of their kids. -/
def OwnN (w : World) (base : Nat) (v : Value) (ns : List Nd) (ks : List Value) : Prop :=
  ks.length = ns.length ∧ w.ownsRow base tNode 8 v ns.length (flatC ns ks) ∧ ∀ j (h1 : j < ks.length) (h2 : j < ns.length), w.ownsRow base tInt 1 ks[j] ns[j].kids.length (intsV ns[j].kids)
/-- Rows of other elements than two types are as they were. -/
def KeptX (s t : TypeId) (w w' : World) : Prop := ∀ (k : Nat) (cur : Array Value) (e : TypeId), e ≠ s → e ≠ t → w.heap[k]? = some (Obj.cells cur e (0, 0)) → w'.heap[k]? = w.heap[k]?
section
variable {s t : TypeId} {w w' w'' : World}
theorem KeptX.refl (w : World) : KeptX s t w w := fun _ _ _ _ _ _ => rfl
theorem KeptX.trans (h : KeptX s t w w') (h' : KeptX s t w' w'') : KeptX s t w w'' := fun k cur e h1 h2 h3 => by
  have h4 := h k cur e h1 h2 h3
  exact (h' k cur e h1 h2 (h4.trans h3)).trans h4
theorem KeptX.own {base n size : Nat} {e : TypeId} {v : Value} {xs : List Value} (h : w.ownsRow base e size v n xs) (hk : KeptX s t w w') (h1 : e ≠ s) (h2 : e ≠ t) : w'.ownsRow base e size v n xs := by
  refine ⟨h.1, ?_⟩
  rcases h.2 with hn | ⟨g, cap, cur, hv, hbg, hh, r⟩
  · exact .inl hn
  · exact .inr ⟨g, cap, cur, hv, hbg, (hk g cur e h1 h2 hh).trans hh, r⟩
theorem lt_some {k : Nat} {o : Obj} (h : w.heap[k]? = some o) : k < w.heap.size := by
  rcases Nat.lt_or_ge k w.heap.size with h1 | h1
  · exact h1
  · rw [Array.getElem?_eq_none h1] at h; cases h
theorem KeptX.alloc (w : World) (o : Obj) : KeptX s t w (w.alloc o) := fun k _ _ _ _ h => Below.heap_alloc w o k (lt_some h)
theorem KeptX.drewN (w : World) (m : Nat) : KeptX s t w (w.drewN m) := by
  induction m generalizing w with
  | zero => exact KeptX.refl w
  | succ m ih => exact ih (w := w.drew)
/-- A store into a block of the first type. -/
theorem KeptX.store {b o : Nat} {cur : Array Value} {u : Value} {fr : Nat × Nat} (hb : w.heap[b]? = some (.cells cur s fr)) : KeptX s t w (w.setCell ⟨b, o, none⟩ u) := fun k cur' e h1 _ h3 => by
  refine Below.heap_setCell _ _ _ _ ?_
  rintro rfl
  rw [hb] at h3
  injection h3 with h3
  injection h3 with _ ht
  exact h1 ht.symm
/-- What an append to a row of the second type leaves. -/
theorem KeptX.grown {base n size : Nat} {v : Value} {xs : List Value} (hv : w.ownsRow base t size v n xs) (hg : w.grownBy w' v.ownBlock) : KeptX s t w w' := fun k cur e _ h2 h3 => by
  refine hg.block k (lt_some h3) ?_
  intro hkv
  rcases hv.2 with ⟨rfl, _⟩ | ⟨g, cap, cur', rfl, _, hh, _⟩
  · simp [Value.ownBlock] at hkv
  · have : k = g := by simpa [Value.ownBlock] using hkv
    subst this
    rw [h3] at hh
    injection hh with hh
    injection hh with _ ht
    exact h2 ht
end
end Rx
end Go.Proofs.Ytgadomcbaenodaa

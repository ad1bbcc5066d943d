/-
  The program's table of layer 3: what its blocks hold; newTable, visit. Conditions: strings that the machine can hold, at most a million names.
-/
import Derived.Test.YtlnjhacchnfbkaaInternRefB
import Derived.Maps.OwnSet
import Derived.Carry
namespace Go.Proofs.Ytlnjhacchnfbkaa
open Go.RowKit Go.Maps
namespace Nt
open Cm
abbrev tTab : TypeId := 108
abbrev tMap : TypeId := 106
abbrev tStr : TypeId := 9
abbrev tInt : TypeId := 3
theorem lawS : Keyed Try.prog tStr := string_keyed Try.underlying9
theorem zeroI (w : World) : (zeroValue tInt).run Try.prog w = .ok (.int .i64 0) w := by kernel_rfl
/-- How a string reads as a key. -/
abbrev kl (s : ByteArray) : Lit := .string s.data.toList
theorem kl_ne {s t : ByteArray} (h : s ≠ t) : kl s ≠ kl t := by
  intro e
  apply h
  have e2 : s.data.toList = t.data.toList := by simpa [kl] using e
  cases s; cases t
  simp only at e2
  congr
  exact Array.toList_inj.1 e2
/-- The map of the names: each at its number. -/
def Agrees (D : DataW Unit) (names : List ByteArray) : Prop :=
  ∀ s : ByteArray, (Maps.has D (kl s) = true ↔ s ∈ names) ∧ (s ∈ names → D.atKey (kl s) (.lit (.int .i64 0)) = .lit (.int .i64 (posN names s)))
theorem agrees_nil : Agrees (.map []) [] := fun s => ⟨⟨fun h => (by cases h), fun h => (by cases h)⟩, fun h => (by cases h)⟩
theorem posN_snoc {l : List ByteArray} {s : ByteArray} (h : s ∉ l) : posN (l ++ [s]) s = l.length := by
  refine posN_eq ?_ fun j hj => ?_
  · simp
  · rw [List.getElem?_append_left hj]
    intro e
    exact h (List.mem_iff_getElem?.2 ⟨j, e⟩)
theorem agrees_put {D : DataW Unit} {names : List ByteArray} {s : ByteArray} (h : Agrees D names) (hD : IsMap D) (hs : s ∉ names) : Agrees (D.put (kl s) (.lit (.int .i64 (names.length : Int)))) (names ++ [s]) := by
  intro t
  by_cases ht : t = s
  · subst ht
    refine ⟨?_, fun _ => ?_⟩
    · rw [has_put_same hD (by trivial)]; simp
    · rw [atKey_put_same hD (by trivial), posN_snoc hs]
  · have hne := kl_ne ht
    refine ⟨?_, fun hm => ?_⟩
    · rw [has_put_other hne, (h t).1]; simp [ht]
    · have hm2 : t ∈ names := by
        rcases List.mem_append.1 hm with h1 | h1
        · exact h1
        · rw [List.mem_singleton] at h1; exact absurd h1 ht
      rw [atKey_put_other hne, (h t).2 hm2, posN_append hm2]
/-- The table's blocks, all of the call's own. -/
def Tab (w : World) (base tb : Nat) (names : List ByteArray) : Prop :=
  ∃ mb v D, base ≤ tb ∧ base ≤ mb ∧ w.heap[tb]? = some (.cells #[.map (some mb), v] tTab (0, 0)) ∧ w.ownsMap Try.prog tStr (plainElem Try.prog tInt) mb names.length D ∧ Agrees D names ∧ w.ownsRow base tStr 1 v names.length (stringsV names)
/-- Rows of other elements than strings and tables are as they were. -/
def KeptO (w w' : World) : Prop := ∀ (k : Nat) (cur : Array Value) (e : TypeId), e ≠ tTab → e ≠ tStr → w.heap[k]? = some (Obj.cells cur e (0, 0)) → w'.heap[k]? = w.heap[k]?
theorem KeptO.refl (w : World) : KeptO w w := fun _ _ _ _ _ _ => rfl
theorem KeptO.trans {w w' w'' : World} (h : KeptO w w') (h' : KeptO w' w'') : KeptO w w'' := fun k cur e h1 h2 h3 => by
  have h4 := h k cur e h1 h2 h3
  exact (h' k cur e h1 h2 (h4.trans h3)).trans h4
theorem KeptO.own {w w' : World} {base n : Nat} {e : TypeId} {v : Value} {xs : List Value} (h : w.ownsRow base e 1 v n xs) (hk : KeptO w w') (h1 : e ≠ tTab) (h2 : e ≠ tStr) : w'.ownsRow base e 1 v n xs := by
  refine ⟨h.1, ?_⟩
  rcases h.2 with hn | ⟨g, cap, cur, hv, hbg, hh, r⟩
  · exact .inl hn
  · exact .inr ⟨g, cap, cur, hv, hbg, (hk g cur e h1 h2 hh).trans hh, r⟩
theorem Tab.drewN {w : World} {base tb : Nat} {names : List ByteArray} (h : Tab w base tb names) (m : Nat) : Tab (w.drewN m) base tb names := by
  induction m generalizing w with
  | zero => exact h
  | succ m ih => exact ih (w := w.drew) h
theorem keptO_drewN (w : World) (m : Nat) : KeptO w (w.drewN m) := by
  induction m generalizing w with
  | zero => exact KeptO.refl w
  | succ m ih => exact ih w.drew
theorem tab_cells {w : World} {tb mb : Nat} {v : Value} (h : w.heap[tb]? = some (.cells #[.map (some mb), v] tTab (0, 0))) :
    w.cell? ⟨tb, 0, none⟩ = some (.map (some mb)) ∧ w.cell? ⟨tb, 1, none⟩ = some v ∧ w.frozen? ⟨tb, 1, none⟩ = false := by
  refine ⟨?_, ?_, ?_⟩
  · simp [World.cell?, h]
  · simp [World.cell?, h]
  · simp [World.frozen?, h]
theorem tab_store {w : World} {tb mb : Nat} {v u : Value} (h : w.heap[tb]? = some (.cells #[.map (some mb), v] tTab (0, 0))) : (w.setCell ⟨tb, 1, none⟩ u).heap[tb]? = some (.cells #[.map (some mb), u] tTab (0, 0)) := by
  have hlt := lt_of_block h
  have h' : w.heap[tb] = .cells #[.map (some mb), v] tTab (0, 0) := by simpa [Array.getElem?_eq_getElem hlt] using h
  show (w.heap.modify tb _)[tb]? = _
  rw [Array.getElem?_eq_getElem (by simpa using hlt), Array.getElem_modify_self, h']
  rfl
/-- Below a base, and a block of the call's own written. -/
theorem below_store {base : Nat} {w w' : World} {b o : Nat} {u : Value} (h : Below base w w') (hb : base ≤ b) : Below base w (w'.setCell ⟨b, o, none⟩ u) := h.setCell hb u
/-- What a visit of a new string leaves. -/
theorem tab_step {w w1 w2 : World} {base tb mb : Nat} {names : List ByteArray} {s : ByteArray} {v v2 : Value} {D : DataW Unit} {C : Array Value} (hbt : base ≤ tb) (hbm : base ≤ mb) (hbw : base ≤ w.heap.size)
    (hT : w.heap[tb]? = some (.cells #[.map (some mb), v] tTab (0, 0))) (hA : Agrees D names) (hD : IsMap D) (hs : s ∉ names)
    (hv : w.ownsRow base tStr 1 v names.length (stringsV names))
    (hm1 : w1.ownsMap Try.prog tStr (plainElem Try.prog tInt) mb (names.length + 1) (D.put (kl s) (.lit (.int .i64 (names.length : Int))))) (hg1 : w.grownBy w1 (some mb))
    (hmw : ∃ es clock, w.heap[mb]? = some (.map es clock))
    (hv2 : w2.ownsRow base tStr 1 v2 (names.length + 1) (stringsV names ++ [.string s])) (hg2 : (w1.alloc (.cells C tStr)).grownBy w2 v.ownBlock) :
    Tab (w2.setCell ⟨tb, 1, none⟩ v2) base tb (names ++ [s]) ∧ Below base w (w2.setCell ⟨tb, 1, none⟩ v2) ∧ KeptO w (w2.setCell ⟨tb, 1, none⟩ v2) := by
  obtain ⟨es, clock, hmw⟩ := hmw
  have htm : tb ≠ mb := by rintro rfl; rw [hT] at hmw; cases hmw
  have hne : ∀ k, (∃ cur e, e ≠ tStr ∧ w.heap[k]? = some (.cells cur e (0, 0))) → some k ≠ v.ownBlock := by
    rintro k ⟨cur, e, he, hk⟩ hkv
    rcases hv.2 with ⟨rfl, _⟩ | ⟨g, cap, cur', rfl, _, hh, _⟩
    · simp [Value.ownBlock] at hkv
    · have : k = g := by simpa [Value.ownBlock] using hkv
      subst this
      rw [hk] at hh
      injection hh with hh
      injection hh with _ ht
      exact he ht
  have hnm : some mb ≠ v.ownBlock := by
    intro hkv
    rcases hv.2 with ⟨rfl, _⟩ | ⟨g, cap, cur', rfl, _, hh, _⟩
    · simp [Value.ownBlock] at hkv
    · have : mb = g := by simpa [Value.ownBlock] using hkv
      subst this
      rw [hmw] at hh; cases hh
  -- from w to w2: a block that is neither the map nor the row
  have hall : ∀ k, k < w.heap.size → k ≠ mb → some k ≠ v.ownBlock → w2.heap[k]? = w.heap[k]? := by
    intro k hk hkm hkv
    have e1 := hg1.block k hk (by simpa using hkm)
    have hs1 := hg1.size
    have e2 : (w1.alloc (.cells C tStr)).heap[k]? = w1.heap[k]? := by
      show (w1.heap.push _)[k]? = _
      rw [Array.getElem?_push_lt (by omega), Array.getElem?_eq_getElem (by omega)]
    have e3 := hg2.block k (by simp; omega) hkv
    rw [e3, e2, e1]
  have htl := lt_of_block hT
  have hT2 : w2.heap[tb]? = some (.cells #[.map (some mb), v] tTab (0, 0)) := (hall tb htl htm (hne tb ⟨_, _, by decide, hT⟩)).trans hT
  have hm2 := (hm1.alloc (.cells C tStr)).kept hg2 hnm
  have hlen : (names ++ [s]).length = names.length + 1 := by simp
  have hstr : stringsV (names ++ [s]) = stringsV names ++ [.string s] := by simp [stringsV]
  have hv3 : v2.ownBlock ≠ some tb := by
    intro hkv
    obtain ⟨g, c, cur, rfl, _, hh⟩ := own_some hv2 (by omega)
    have : g = tb := by simpa [Value.ownBlock] using hkv
    subst this
    rw [hT2] at hh
    injection hh with hh
    injection hh with _ ht
    exact absurd ht (by decide)
  refine ⟨⟨mb, v2, _, hbt, hbm, tab_store hT2, ?_, agrees_put hA hD hs, ?_⟩, ?_, ?_⟩
  · rw [hlen]; exact hm2.setCell (a := ⟨tb, 1, none⟩) (fun e => htm e.symm) _
  · rw [hlen, hstr]; exact ownsRow_setCell_other hv2 hv3 _
  · have b1 : Below base w w1 := (Below.refl _ _).grown hg1 hbw (fun k hk => by cases hk; exact hbm)
    have b2 : Below base w (w1.alloc (.cells C tStr)) := b1.alloc (by have := hg1.size; omega) _
    have b3 : Below base w w2 := b2.grown hg2 (by have := hg1.size; simp; omega) (fun k hk => (hv.lt k hk).1)
    exact below_store b3 hbt
  · intro k cur e he1 he2 hk
    have hkl := lt_of_block hk
    have hkt : k ≠ tb := by
      rintro rfl
      rw [hT] at hk
      injection hk with hk
      injection hk with _ ht
      exact he1 ht.symm
    have hkm : k ≠ mb := by rintro rfl; rw [hmw] at hk; cases hk
    have e1 := hall k hkl hkm (hne k ⟨_, _, he2, hk⟩)
    rw [← e1]
    exact Below.heap_setCell _ _ _ _ (by simpa using hkt)
set_option maxRecDepth 100000 in
/-- A new table. -/
theorem newTable_any (w : World) : Calls Try.prog 55 #[] w fun e w' => ∃ tb, e = .returned (.pointer (some ⟨tb, 0, none⟩)) ∧ Tab w' w.heap.size tb [] ∧ Below w.heap.size w w' := by
  have hmm := @run_makeMap Try.prog
  go_enter Try.func55, Try.ntmps55
  go_wp2_with fail
  go_ret
  refine ⟨_, rfl, ⟨w.heap.size, .slice none 0 0, .map [], ?_, Nat.le_refl _, ?_, (World.ownsMap_made _ _ _ _).alloc _, agrees_nil, World.ownsRow_nil _ _ _ _⟩, ((Below.refl _ _).alloc (Nat.le_refl _) _).alloc ?_ _⟩
  · simp
  · have := heap_new (w.alloc (Obj.map #[] 0)) (Obj.cells #[Value.map (some w.heap.size), Value.slice none 0 0] tTab)
    rwa [show (w.alloc (Obj.map #[] 0)).heap.size = w.heap.size + 1 from by simp] at this
  · simp
end Nt
end Go.Proofs.Ytlnjhacchnfbkaa

/-
  The program's table of layer 3: what its blocks hold; newTable, visit. Conditions: strings that the machine can hold, at most a million names. Walks of the program's visit and visitAll of layer 3. Conditions: strings that the machine can hold, at most a million names.
-/
import Derived.Test.YtlnghfmedkfkmaaGreatDoorGComBase
import Derived.Maps.OwnSet
import Derived.Carry
namespace Go.Proofs.YtlnghfmedkfkmaaGreatDoor
section
namespace Cm
end Cm
open Go.RowKit Go.Maps
namespace Nt
open Cm
abbrev tTab : TypeId := 202
abbrev tMap : TypeId := 115
abbrev tStr : TypeId := 9
abbrev tInt : TypeId := 3
theorem lawS : Keyed Tryz.prog tStr := string_keyed Tryz.underlying9
theorem zeroI (w : World) : (zeroValue tInt).run Tryz.prog w = .ok (.int .i64 0) w := by kernel_rfl
/-- How a string reads as a key. -/
abbrev kl (s : ByteArray) : Lit := .string s.data.toList
theorem kl_ne {s t : ByteArray} (h : s ≠ t) : kl s ≠ kl t := by
  intro e
  apply h
  have e2 : s.data.toList = t.data.toList := by simpa [kl] using e
  cases s; cases t
  simp only at e2
  congr
  exact Array.toList_inj.1 e2
/-- The map of the names: each at its number. -/
def Agrees (D : DataW Unit) (names : List ByteArray) : Prop :=
  ∀ s : ByteArray, (Maps.has D (kl s) = true ↔ s ∈ names) ∧ (s ∈ names → D.atKey (kl s) (.lit (.int .i64 0)) = .lit (.int .i64 (posN names s)))
theorem agrees_nil : Agrees (.map []) [] := fun s => ⟨⟨fun h => (by cases h), fun h => (by cases h)⟩, fun h => (by cases h)⟩
theorem posN_snoc {l : List ByteArray} {s : ByteArray} (h : s ∉ l) : posN (l ++ [s]) s = l.length := by
  refine posN_eq ?_ fun j hj => ?_
  · simp
  · rw [List.getElem?_append_left hj]
    intro e
    exact h (List.mem_iff_getElem?.2 ⟨j, e⟩)
theorem agrees_put {D : DataW Unit} {names : List ByteArray} {s : ByteArray} (h : Agrees D names) (hD : IsMap D) (hs : s ∉ names) : Agrees (D.put (kl s) (.lit (.int .i64 (names.length : Int)))) (names ++ [s]) := by
  intro t
  by_cases ht : t = s
  · subst ht
    refine ⟨?_, fun _ => ?_⟩
    · rw [has_put_same hD (by trivial)]; simp
    · rw [atKey_put_same hD (by trivial), posN_snoc hs]
  · have hne := kl_ne ht
    refine ⟨?_, fun hm => ?_⟩
    · rw [has_put_other hne, (h t).1]; simp [ht]
    · have hm2 : t ∈ names := by
        rcases List.mem_append.1 hm with h1 | h1
        · exact h1
        · rw [List.mem_singleton] at h1; exact absurd h1 ht
      rw [atKey_put_other hne, (h t).2 hm2, posN_append hm2]
/-- The table's blocks, all of the call's own. -/
def Tab (w : World) (base tb : Nat) (names : List ByteArray) : Prop :=
  ∃ mb v D, base ≤ tb ∧ base ≤ mb ∧ w.heap[tb]? = some (.cells #[.map (some mb), v] tTab (0, 0)) ∧ w.ownsMap Tryz.prog tStr (plainElem Tryz.prog tInt) mb names.length D ∧ Agrees D names ∧ w.ownsRow base tStr 1 v names.length (stringsV names)
/-- Rows of other elements than strings and tables are as they were. -/
def KeptO (w w' : World) : Prop := ∀ (k : Nat) (cur : Array Value) (e : TypeId), e ≠ tTab → e ≠ tStr → w.heap[k]? = some (Obj.cells cur e (0, 0)) → w'.heap[k]? = w.heap[k]?
theorem KeptO.refl (w : World) : KeptO w w := fun _ _ _ _ _ _ => rfl
theorem KeptO.trans {w w' w'' : World} (h : KeptO w w') (h' : KeptO w' w'') : KeptO w w'' := fun k cur e h1 h2 h3 => by
  have h4 := h k cur e h1 h2 h3
  exact (h' k cur e h1 h2 (h4.trans h3)).trans h4
theorem KeptO.own {w w' : World} {base n : Nat} {e : TypeId} {v : Value} {xs : List Value} (h : w.ownsRow base e 1 v n xs) (hk : KeptO w w') (h1 : e ≠ tTab) (h2 : e ≠ tStr) : w'.ownsRow base e 1 v n xs := by
  refine ⟨h.1, ?_⟩
  rcases h.2 with hn | ⟨g, cap, cur, hv, hbg, hh, r⟩
  · exact .inl hn
  · exact .inr ⟨g, cap, cur, hv, hbg, (hk g cur e h1 h2 hh).trans hh, r⟩
theorem tab_cells {w : World} {tb mb : Nat} {v : Value} (h : w.heap[tb]? = some (.cells #[.map (some mb), v] tTab (0, 0))) :
    w.cell? ⟨tb, 0, none⟩ = some (.map (some mb)) ∧ w.cell? ⟨tb, 1, none⟩ = some v ∧ w.frozen? ⟨tb, 1, none⟩ = false := by
  refine ⟨?_, ?_, ?_⟩
  · simp [World.cell?, h]
  · simp [World.cell?, h]
  · simp [World.frozen?, h]
theorem tab_store {w : World} {tb mb : Nat} {v u : Value} (h : w.heap[tb]? = some (.cells #[.map (some mb), v] tTab (0, 0))) : (w.setCell ⟨tb, 1, none⟩ u).heap[tb]? = some (.cells #[.map (some mb), u] tTab (0, 0)) := by
  have hlt := lt_of_block h
  have h' : w.heap[tb] = .cells #[.map (some mb), v] tTab (0, 0) := by simpa [Array.getElem?_eq_getElem hlt] using h
  show (w.heap.modify tb _)[tb]? = _
  rw [Array.getElem?_eq_getElem (by simpa using hlt), Array.getElem_modify_self, h']
  rfl
/-- Below a base, and a block of the call's own written. -/
theorem below_store {base : Nat} {w w' : World} {b o : Nat} {u : Value} (h : Below base w w') (hb : base ≤ b) : Below base w (w'.setCell ⟨b, o, none⟩ u) := h.setCell hb u
/-- What a visit of a new string leaves. -/
theorem tab_step {w w1 w2 : World} {base tb mb : Nat} {names : List ByteArray} {s : ByteArray} {v v2 : Value} {D : DataW Unit} {C : Array Value} (hbt : base ≤ tb) (hbm : base ≤ mb) (hbw : base ≤ w.heap.size)
    (hT : w.heap[tb]? = some (.cells #[.map (some mb), v] tTab (0, 0))) (hA : Agrees D names) (hD : IsMap D) (hs : s ∉ names)
    (hv : w.ownsRow base tStr 1 v names.length (stringsV names))
    (hm1 : w1.ownsMap Tryz.prog tStr (plainElem Tryz.prog tInt) mb (names.length + 1) (D.put (kl s) (.lit (.int .i64 (names.length : Int))))) (hg1 : w.grownBy w1 (some mb))
    (hmw : ∃ es clock, w.heap[mb]? = some (.map es clock))
    (hv2 : w2.ownsRow base tStr 1 v2 (names.length + 1) (stringsV names ++ [.string s])) (hg2 : (w1.alloc (.cells C tStr)).grownBy w2 v.ownBlock) :
    Tab (w2.setCell ⟨tb, 1, none⟩ v2) base tb (names ++ [s]) ∧ Below base w (w2.setCell ⟨tb, 1, none⟩ v2) ∧ KeptO w (w2.setCell ⟨tb, 1, none⟩ v2) := by
  obtain ⟨es, clock, hmw⟩ := hmw
  have htm : tb ≠ mb := by rintro rfl; rw [hT] at hmw; cases hmw
  have hne : ∀ k, (∃ cur e, e ≠ tStr ∧ w.heap[k]? = some (.cells cur e (0, 0))) → some k ≠ v.ownBlock := by
    rintro k ⟨cur, e, he, hk⟩ hkv
    rcases hv.2 with ⟨rfl, _⟩ | ⟨g, cap, cur', rfl, _, hh, _⟩
    · simp [Value.ownBlock] at hkv
    · have : k = g := by simpa [Value.ownBlock] using hkv
      subst this
      rw [hk] at hh
      injection hh with hh
      injection hh with _ ht
      exact he ht
  have hnm : some mb ≠ v.ownBlock := by
    intro hkv
    rcases hv.2 with ⟨rfl, _⟩ | ⟨g, cap, cur', rfl, _, hh, _⟩
    · simp [Value.ownBlock] at hkv
    · have : mb = g := by simpa [Value.ownBlock] using hkv
      subst this
      rw [hmw] at hh; cases hh
  -- from w to w2: a block that is neither the map nor the row
  have hall : ∀ k, k < w.heap.size → k ≠ mb → some k ≠ v.ownBlock → w2.heap[k]? = w.heap[k]? := by
    intro k hk hkm hkv
    have e1 := hg1.block k hk (by simpa using hkm)
    have hs1 := hg1.size
    have e2 : (w1.alloc (.cells C tStr)).heap[k]? = w1.heap[k]? := by
      show (w1.heap.push _)[k]? = _
      rw [Array.getElem?_push_lt (by omega), Array.getElem?_eq_getElem (by omega)]
    have e3 := hg2.block k (by simp; omega) hkv
    rw [e3, e2, e1]
  have htl := lt_of_block hT
  have hT2 : w2.heap[tb]? = some (.cells #[.map (some mb), v] tTab (0, 0)) := (hall tb htl htm (hne tb ⟨_, _, by decide, hT⟩)).trans hT
  have hm2 := (hm1.alloc (.cells C tStr)).kept hg2 hnm
  have hlen : (names ++ [s]).length = names.length + 1 := by simp
  have hstr : stringsV (names ++ [s]) = stringsV names ++ [.string s] := by simp [stringsV]
  have hv3 : v2.ownBlock ≠ some tb := by
    intro hkv
    obtain ⟨g, c, cur, rfl, _, hh⟩ := own_some hv2 (by omega)
    have : g = tb := by simpa [Value.ownBlock] using hkv
    subst this
    rw [hT2] at hh
    injection hh with hh
    injection hh with _ ht
    exact absurd ht (by decide)
  refine ⟨⟨mb, v2, _, hbt, hbm, tab_store hT2, ?_, agrees_put hA hD hs, ?_⟩, ?_, ?_⟩
  · rw [hlen]; exact hm2.setCell (a := ⟨tb, 1, none⟩) (fun e => htm e.symm) _
  · rw [hlen, hstr]; exact ownsRow_setCell_other hv2 hv3 _
  · have b1 : Below base w w1 := (Below.refl _ _).grown hg1 hbw (fun k hk => by cases hk; exact hbm)
    have b2 : Below base w (w1.alloc (.cells C tStr)) := b1.alloc (by have := hg1.size; omega) _
    have b3 : Below base w w2 := b2.grown hg2 (by have := hg1.size; simp; omega) (fun k hk => (hv.lt k hk).1)
    exact below_store b3 hbt
  · intro k cur e he1 he2 hk
    have hkl := lt_of_block hk
    have hkt : k ≠ tb := by
      rintro rfl
      rw [hT] at hk
      injection hk with hk
      injection hk with _ ht
      exact he1 ht.symm
    have hkm : k ≠ mb := by rintro rfl; rw [hmw] at hk; cases hk
    have e1 := hall k hkl hkm (hne k ⟨_, _, he2, hk⟩)
    rw [← e1]
    exact Below.heap_setCell _ _ _ _ (by simpa using hkt)
set_option maxRecDepth 100000 in
/-- A new table. -/
theorem newTable_any (w : World) : Calls Tryz.prog 136 #[] w fun e w' => ∃ tb, e = .returned (.pointer (some ⟨tb, 0, none⟩)) ∧ Tab w' w.heap.size tb [] ∧ Below w.heap.size w w' := by
  have hmm := @run_makeMap Tryz.prog
  go_enter Tryz.func136, Tryz.ntmps136
  go_wp2_with fail
  go_ret
  refine ⟨_, rfl, ⟨w.heap.size, .slice none 0 0, .map [], ?_, Nat.le_refl _, ?_, (World.ownsMap_made _ _ _ _).alloc _, agrees_nil, World.ownsRow_nil _ _ _ _⟩, ((Below.refl _ _).alloc (Nat.le_refl _) _).alloc ?_ _⟩
  · simp
  · have := heap_new (w.alloc (Obj.map #[] 0)) (Obj.cells #[Value.map (some w.heap.size), Value.slice none 0 0] tTab)
    rwa [show (w.alloc (Obj.map #[] 0)).heap.size = w.heap.size + 1 from by simp] at this
  · simp
end Nt
end
section
namespace Cm
end Cm
open Go.RowKit Go.Maps
namespace Nt
open Cm
/-- What a visit leaves. -/
def Visited (w : World) (base tb : Nat) (names : List ByteArray) (s : ByteArray) (e : Ending) (w' : World) : Prop :=
  e = .returned (.int .i64 (posN (add names s) s)) ∧ Tab w' base tb (add names s) ∧ Below base w w' ∧ KeptO w w'
set_option maxRecDepth 100000 in
set_option maxHeartbeats 1000000 in
theorem visit_any (tb base : Nat) (names : List ByteArray) (s : ByteArray) (w : World) (hT : Tab w base tb names) (hs : s.size ≤ maxLen) (hn : names.length ≤ 1001000) :
    Calls Tryz.prog 160 #[.pointer (some ⟨tb, 0, none⟩), .string s] w (Visited w base tb names s) := by
  obtain ⟨mb, v, D, hbt, hbm, hh, hown, hag, hv⟩ := hT
  have htl := lt_of_block hh
  obtain ⟨c0, c1, f1⟩ := tab_cells hh
  have hkey := WideMaps.keyOf_string_mk (P := Tryz.prog) (k := tStr) Tryz.underlying9 hs
  have HKey := Lib.hid hkey
  have HV := Lib.hid hv
  have HH := Lib.hid hh
  have HO := Lib.hid hown
  clear hkey hv hh hown hs
  by_cases hmem : s ∈ names
  · have HAdd : Hid (add names s = names) := Lib.hid (by unfold add; rw [if_pos hmem])
    have HHas : Hid (Maps.has D (.string s.data.toList) = true) := Lib.hid ((hag s).1.2 hmem)
    have HAt := Lib.hid ((hag s).2 hmem)
    have HEnd : Hid (∀ w' e, e = .returned (.int .i64 (posN names s : Int)) → w' = w → Visited w base tb names s e w') := Lib.hid (fun w' e h1 h2 => by
      subst h2
      refine ⟨by rw [h1, HAdd.out], ?_, Below.refl _ _, KeptO.refl _⟩
      rw [HAdd.out]
      exact ⟨mb, v, D, hbt, hbm, HH.out, HO.out, hag, HV.out⟩)
    generalize hz : (posN names s : Int) = z at HAt HEnd
    clear hmem hag HAdd hbt hbm hz
    obtain ⟨B, d, rfl⟩ := own_form HV.out
    go_enter Tryz.func160, Tryz.ntmps160
    go_wp2_with (at_lookup; refine wpList_lookup_own_ok_int _ rfl (.tmp 11) (.tmp 12) tMap rfl tStr tInt .i64 lawS Tryz.underlying115 Tryz.underlying3 (zeroI _) mb names.length D rfl HO.out _ _ rfl HKey.out ?_; intro c hat _; rw [HHas.out]; obtain rfl : z = c := by have := HAt.out.symm.trans hat; simpa using this)
    go_ret
    exact HEnd.out _ _ rfl rfl
  · have HAdd : Hid (add names s = names ++ [s]) := Lib.hid (by unfold add; rw [if_neg hmem])
    have HHas : Hid (Maps.has D (.string s.data.toList) = false) := Lib.hid (by
      rw [Bool.eq_false_iff]; intro h; exact hmem ((hag s).1.1 h))
    have HEnd : Hid (∀ (w1 w2 : World) (v2 : Value) (C : Array Value) (e : Ending), w1.ownsMap Tryz.prog tStr (plainElem Tryz.prog tInt) mb (names.length + 1) (D.put (kl s) (.lit (.int .i64 (names.length : Int)))) → w.grownBy w1 (some mb) →
        w2.ownsRow base tStr 1 v2 (names.length + 1) (stringsV names ++ [.string s]) → (w1.alloc (.cells C tStr)).grownBy w2 v.ownBlock →
        e = .returned (.int .i64 (names.length : Int)) → Visited w base tb names s e (w2.setCell ⟨tb, 1, none⟩ v2)) := Lib.hid (fun w1 w2 v2 C e hm1 hg1 hv2 hg2 he => by
      obtain ⟨es, clock, hb, _⟩ := HO.out
      obtain ⟨r1, r2, r3⟩ := tab_step hbt hbm (by omega) HH.out hag HO.out.isMap hmem HV.out hm1 hg1 ⟨es, clock, hb⟩ hv2 hg2
      exact ⟨by rw [he, HAdd.out, posN_snoc hmem], by rw [HAdd.out]; exact r1, r2, r3⟩)
    have HFrame : Hid (∀ w1 : World, w.grownBy w1 (some mb) → w1.cell? ⟨tb, 1, none⟩ = some v ∧ w1.ownsRow base tStr 1 v names.length (stringsV names) ∧ w1.heap[tb]? = some (.cells #[.map (some mb), v] tTab (0, 0)) ∧ base ≤ w1.heap.size) := Lib.hid (fun w1 hg => by
      obtain ⟨es, clock, hb, _⟩ := HO.out
      have htm : some tb ≠ some mb := by
        intro e; injection e with e; subst e
        have := HH.out; rw [this] at hb; cases hb
      have h1 := (hg.block tb htl htm).trans HH.out
      refine ⟨(tab_cells h1).2.1, HV.out.kept hg ?_, h1, by have := hg.size; omega⟩
      rcases HV.out.2 with ⟨e, _⟩ | ⟨g, cap, cur, e, _, hg2, _⟩
      · left; rw [e]; rfl
      · right; rw [e]
        intro e2
        have : g = mb := by simpa [Value.ownBlock] using e2
        subst this
        rw [hb] at hg2; cases hg2)
    have HFrame2 : Hid (∀ (w1 w2 : World) (C : Array Value), w1.ownsRow base tStr 1 v names.length (stringsV names) → w1.heap[tb]? = some (.cells #[.map (some mb), v] tTab (0, 0)) → (w1.alloc (.cells C tStr)).grownBy w2 v.ownBlock → w2.frozen? ⟨tb, 1, none⟩ = false ∧ w2.cell? ⟨tb, 1, none⟩ = some v) := Lib.hid (fun w1 w2 C h1 h2 h3 => by
      have hl := lt_of_block h2
      have e2 : (w1.alloc (.cells C tStr)).heap[tb]? = some (.cells #[.map (some mb), v] tTab (0, 0)) := by
        rw [Below.heap_alloc _ _ _ hl]; exact h2
      have e3 := (h3.block tb (by simp; omega) (by
        rcases h1.2 with ⟨e, _⟩ | ⟨g, cap, cur, e, _, hg2, _⟩
        · rw [e]; simp [Value.ownBlock]
        · rw [e]; intro e4
          have : tb = g := by simpa [Value.ownBlock] using e4
          subst this
          rw [h2] at hg2
          injection hg2 with hg2
          injection hg2 with _ ht
          exact absurd ht (by decide))).trans e2
      exact ⟨(tab_cells e3).2.2, (tab_cells e3).2.1⟩)
    clear hmem hag HAdd hbt hbm
    obtain ⟨B, d, rfl⟩ := own_form HV.out
    have hwf : (Lit.int .i64 (names.length : Int)).wf = true := WalkArith.wf_i64 (by omega)
    have HWf := Lib.hid hwf
    clear hwf
    generalize hl : names.length = n at *
    go_enter Tryz.func160, Tryz.ntmps160
    go_wp2_with (first
      | (at_lookup; refine wpList_lookup_own_ok_int _ rfl (.tmp 11) (.tmp 12) tMap rfl tStr tInt .i64 lawS Tryz.underlying115 Tryz.underlying3 (zeroI _) mb n D rfl HO.out _ _ rfl HKey.out ?_; intro c _ _; rw [HHas.out])
      | (at_mapUpdate; refine wpList_mapUpdate_own _ rfl _ _ _ tMap rfl tStr tInt lawS Tryz.underlying115 _ mb n D rfl HO.out (by unfold maxLen; omega) _ _ _ rfl rfl HKey.out _ [] (plainElem_int Tryz.underlying3 HWf.out) ?_; intro w1 hm1 hg1; obtain ⟨c1', hv1, hh1, hbs1⟩ := HFrame.out w1 hg1; have HV1 := Lib.hid hv1; have HM1 := Lib.hid hm1; have HG1 := Lib.hid hg1; have HH1 := Lib.hid hh1; clear hv1 hm1 hg1 hh1)
      | (at_builtin; refine app_one rfl Tryz.underlying51 info_str rfl (by omega) (.tmp 33) (.tmp 35) rfl base n (stringsV names) (.string s) rfl _ _ rfl HV1.out rfl rfl (by omega) hbs1 ?_; intro v3 w3 ho3 hb3 hg3; obtain ⟨f3, c3⟩ := HFrame2.out _ _ _ HV1.out HH1.out hg3; have HO3 := Lib.hid ho3; have HG3 := Lib.hid hg3; obtain ⟨g3, cap3, cur3, rfl, _⟩ := own_some ho3 (by omega); clear ho3 hg3))
    go_ret
    exact HEnd.out _ _ _ _ _ HM1.out HG1.out HO3.out HG3.out rfl
end Nt
end
end Go.Proofs.YtlnghfmedkfkmaaGreatDoor

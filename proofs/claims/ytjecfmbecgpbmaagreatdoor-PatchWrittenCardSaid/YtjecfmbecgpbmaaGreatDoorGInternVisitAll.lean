/- Facts; each states its conditions. -/
import Derived.Test.YtjecfmbecgpbmaaGreatDoorGComBase
import Derived.Maps.OwnSet
import Derived.Carry
import Derived.Deep.OwnRows
namespace Go.Proofs.YtjecfmbecgpbmaaGreatDoor
section
section
namespace Cm
end Cm
open Go.RowKit Go.Maps
namespace Nt
open Cm
abbrev tTab : TypeId := 207
abbrev tMap : TypeId := 121
abbrev tStr : TypeId := 9
abbrev tInt : TypeId := 3
theorem lawS : Keyed Tryz.prog tStr := string_keyed Tryz.underlying9
theorem zeroI (w : World) : (zeroValue tInt).run Tryz.prog w = .ok (.int .i64 0) w := by kernel_rfl
abbrev kl (s : ByteArray) : Lit := .string s.data.toList
theorem kl_ne {s t : ByteArray} (h : s ≠ t) : kl s ≠ kl t := by
 intro e
 apply h
 have e2 : s.data.toList = t.data.toList := by simpa [kl] using e
 cases s; cases t
 simp only at e2
 congr
 exact Array.toList_inj.1 e2
def Agrees (D : DataW Unit) (names : List ByteArray) : Prop :=
 ∀ s : ByteArray, (Maps.has D (kl s) = true ↔ s ∈ names) ∧ (s ∈ names → D.atKey (kl s) (.lit (.int .i64 0)) = .lit (.int .i64 (posN names s)))
theorem agrees_nil : Agrees (.map []) [] := fun s => ⟨⟨fun h => (by cases h), fun h => (by cases h)⟩, fun h => (by cases h)⟩
theorem posN_snoc {l : List ByteArray} {s : ByteArray} (h : s ∉ l) : posN (l ++ [s]) s = l.length := by
 refine posN_eq ?_ fun j hj => ?_
 · simp
 · rw [List.getElem?_append_left hj]
   intro e
   exact h (List.mem_iff_getElem?.2 ⟨j, e⟩)
theorem agrees_put {D : DataW Unit} {names : List ByteArray} {s : ByteArray} (h : Agrees D names) (hD : IsMap D) (hs : s ∉ names) : Agrees (D.put (kl s) (.lit (.int .i64 (names.length : Int)))) (names ++ [s]) := by
 intro t
 by_cases ht : t = s
 · subst ht
   refine ⟨?_, fun _ => ?_⟩
   · rw [has_put_same hD (by trivial)]; simp
   · rw [atKey_put_same hD (by trivial), posN_snoc hs]
 · have hne := kl_ne ht
   refine ⟨?_, fun hm => ?_⟩
   · rw [has_put_other hne, (h t).1]; simp [ht]
   · have hm2 : t ∈ names := by
      rcases List.mem_append.1 hm with h1 | h1
      · exact h1
      · rw [List.mem_singleton] at h1; exact absurd h1 ht
     rw [atKey_put_other hne, (h t).2 hm2, posN_append hm2]
def Tab (w : World) (base tb : Nat) (names : List ByteArray) : Prop :=
 ∃ mb v D, base ≤ tb ∧ base ≤ mb ∧ w.heap[tb]? = some (.cells #[.map (some mb), v] tTab (0, 0)) ∧ w.ownsMap Tryz.prog tStr (plainElem Tryz.prog tInt) mb names.length D ∧ Agrees D names ∧ w.ownsRow base tStr 1 v names.length (stringsV names)
def KeptO (w w' : World) : Prop := ∀ (k : Nat) (cur : Array Value) (e : TypeId), e ≠ tTab → e ≠ tStr → w.heap[k]? = some (Obj.cells cur e (0, 0)) → w'.heap[k]? = w.heap[k]?
theorem KeptO.refl (w : World) : KeptO w w := fun _ _ _ _ _ _ => rfl
theorem KeptO.trans {w w' w'' : World} (h : KeptO w w') (h' : KeptO w' w'') : KeptO w w'' := fun k cur e h1 h2 h3 => by
 have h4 := h k cur e h1 h2 h3
 exact (h' k cur e h1 h2 (h4.trans h3)).trans h4
theorem KeptO.own {w w' : World} {base n : Nat} {e : TypeId} {v : Value} {xs : List Value} (h : w.ownsRow base e 1 v n xs) (hk : KeptO w w') (h1 : e ≠ tTab) (h2 : e ≠ tStr) : w'.ownsRow base e 1 v n xs := by
 refine ⟨h.1, ?_⟩
 rcases h.2 with hn | ⟨g, cap, cur, hv, hbg, hh, r⟩
 · exact .inl hn
 · exact .inr ⟨g, cap, cur, hv, hbg, (hk g cur e h1 h2 hh).trans hh, r⟩
theorem tab_cells {w : World} {tb mb : Nat} {v : Value} (h : w.heap[tb]? = some (.cells #[.map (some mb), v] tTab (0, 0))) :
 w.cell? ⟨tb, 0, none⟩ = some (.map (some mb)) ∧ w.cell? ⟨tb, 1, none⟩ = some v ∧ w.frozen? ⟨tb, 1, none⟩ = false := by
 refine ⟨?_, ?_, ?_⟩
 · simp [World.cell?, h]
 · simp [World.cell?, h]
 · simp [World.frozen?, h]
theorem tab_store {w : World} {tb mb : Nat} {v u : Value} (h : w.heap[tb]? = some (.cells #[.map (some mb), v] tTab (0, 0))) : (w.setCell ⟨tb, 1, none⟩ u).heap[tb]? = some (.cells #[.map (some mb), u] tTab (0, 0)) := by
 have hlt := lt_of_block h
 have h' : w.heap[tb] = .cells #[.map (some mb), v] tTab (0, 0) := by simpa [Array.getElem?_eq_getElem hlt] using h
 show (w.heap.modify tb _)[tb]? = _
 rw [Array.getElem?_eq_getElem (by simpa using hlt), Array.getElem_modify_self, h']
 rfl
theorem below_store {base : Nat} {w w' : World} {b o : Nat} {u : Value} (h : Below base w w') (hb : base ≤ b) : Below base w (w'.setCell ⟨b, o, none⟩ u) := h.setCell hb u
theorem tab_step {w w1 w2 : World} {base tb mb : Nat} {names : List ByteArray} {s : ByteArray} {v v2 : Value} {D : DataW Unit} {C : Array Value} (hbt : base ≤ tb) (hbm : base ≤ mb) (hbw : base ≤ w.heap.size)
 (hT : w.heap[tb]? = some (.cells #[.map (some mb), v] tTab (0, 0))) (hA : Agrees D names) (hD : IsMap D) (hs : s ∉ names)
 (hv : w.ownsRow base tStr 1 v names.length (stringsV names))
 (hm1 : w1.ownsMap Tryz.prog tStr (plainElem Tryz.prog tInt) mb (names.length + 1) (D.put (kl s) (.lit (.int .i64 (names.length : Int))))) (hg1 : w.grownBy w1 (some mb))
 (hmw : ∃ es clock, w.heap[mb]? = some (.map es clock))
 (hv2 : w2.ownsRow base tStr 1 v2 (names.length + 1) (stringsV names ++ [.string s])) (hg2 : (w1.alloc (.cells C tStr)).grownBy w2 v.ownBlock) :
 Tab (w2.setCell ⟨tb, 1, none⟩ v2) base tb (names ++ [s]) ∧ Below base w (w2.setCell ⟨tb, 1, none⟩ v2) ∧ KeptO w (w2.setCell ⟨tb, 1, none⟩ v2) := by
 obtain ⟨es, clock, hmw⟩ := hmw
 have htm : tb ≠ mb := by rintro rfl; rw [hT] at hmw; cases hmw
 have hne : ∀ k, (∃ cur e, e ≠ tStr ∧ w.heap[k]? = some (.cells cur e (0, 0))) → some k ≠ v.ownBlock := by
  rintro k ⟨cur, e, he, hk⟩ hkv
  rcases hv.2 with ⟨rfl, _⟩ | ⟨g, cap, cur', rfl, _, hh, _⟩
  · simp [Value.ownBlock] at hkv
  · have : k = g := by simpa [Value.ownBlock] using hkv
    subst this
    rw [hk] at hh
    injection hh with hh
    injection hh with _ ht
    exact he ht
 have hnm : some mb ≠ v.ownBlock := by
  intro hkv
  rcases hv.2 with ⟨rfl, _⟩ | ⟨g, cap, cur', rfl, _, hh, _⟩
  · simp [Value.ownBlock] at hkv
  · have : mb = g := by simpa [Value.ownBlock] using hkv
    subst this
    rw [hmw] at hh; cases hh
 -- from w to w2: a block that is neither the map nor the row
 have hall : ∀ k, k < w.heap.size → k ≠ mb → some k ≠ v.ownBlock → w2.heap[k]? = w.heap[k]? := by
  intro k hk hkm hkv
  have e1 := hg1.block k hk (by simpa using hkm)
  have hs1 := hg1.size
  have e2 : (w1.alloc (.cells C tStr)).heap[k]? = w1.heap[k]? := by
   show (w1.heap.push _)[k]? = _
   rw [Array.getElem?_push_lt (by omega), Array.getElem?_eq_getElem (by omega)]
  have e3 := hg2.block k (by simp; omega) hkv
  rw [e3, e2, e1]
 have htl := lt_of_block hT
 have hT2 : w2.heap[tb]? = some (.cells #[.map (some mb), v] tTab (0, 0)) := (hall tb htl htm (hne tb ⟨_, _, by decide, hT⟩)).trans hT
 have hm2 := (hm1.alloc (.cells C tStr)).kept hg2 hnm
 have hlen : (names ++ [s]).length = names.length + 1 := by simp
 have hstr : stringsV (names ++ [s]) = stringsV names ++ [.string s] := by simp [stringsV]
 have hv3 : v2.ownBlock ≠ some tb := by
  intro hkv
  obtain ⟨g, c, cur, rfl, _, hh⟩ := own_some hv2 (by omega)
  have : g = tb := by simpa [Value.ownBlock] using hkv
  subst this
  rw [hT2] at hh
  injection hh with hh
  injection hh with _ ht
  exact absurd ht (by decide)
 refine ⟨⟨mb, v2, _, hbt, hbm, tab_store hT2, ?_, agrees_put hA hD hs, ?_⟩, ?_, ?_⟩
 · rw [hlen]; exact hm2.setCell (a := ⟨tb, 1, none⟩) (fun e => htm e.symm) _
 · rw [hlen, hstr]; exact ownsRow_setCell_other hv2 hv3 _
 · have b1 : Below base w w1 := (Below.refl _ _).grown hg1 hbw (fun k hk => by cases hk; exact hbm)
   have b2 : Below base w (w1.alloc (.cells C tStr)) := b1.alloc (by have := hg1.size; omega) _
   have b3 : Below base w w2 := b2.grown hg2 (by have := hg1.size; simp; omega) (fun k hk => (hv.lt k hk).1)
   exact below_store b3 hbt
 · intro k cur e he1 he2 hk
   have hkl := lt_of_block hk
   have hkt : k ≠ tb := by
    rintro rfl
    rw [hT] at hk
    injection hk with hk
    injection hk with _ ht
    exact he1 ht.symm
   have hkm : k ≠ mb := by rintro rfl; rw [hmw] at hk; cases hk
   have e1 := hall k hkl hkm (hne k ⟨_, _, he2, hk⟩)
   rw [← e1]
   exact Below.heap_setCell _ _ _ _ (by simpa using hkt)
set_option maxRecDepth 100000 in
theorem newTable_any (w : World) : Calls Tryz.prog 145 #[] w fun e w' => ∃ tb, e = .returned (.pointer (some ⟨tb, 0, none⟩)) ∧ Tab w' w.heap.size tb [] ∧ Below w.heap.size w w' := by
 have hmm := @run_makeMap Tryz.prog
 go_enter Tryz.func145, Tryz.ntmps145
 go_wp2_with fail
 go_ret
 refine ⟨_, rfl, ⟨w.heap.size, .slice none 0 0, .map [], ?_, Nat.le_refl _, ?_, (World.ownsMap_made _ _ _ _).alloc _, agrees_nil, World.ownsRow_nil _ _ _ _⟩, ((Below.refl _ _).alloc (Nat.le_refl _) _).alloc ?_ _⟩
 · simp
 · have := heap_new (w.alloc (Obj.map #[] 0)) (Obj.cells #[Value.map (some w.heap.size), Value.slice none 0 0] tTab)
   rwa [show (w.alloc (Obj.map #[] 0)).heap.size = w.heap.size + 1 from by simp] at this
 · simp
end Nt
end
section
open Go.RowKit Go.Maps
namespace Nt
open Cm
def Visited (w : World) (base tb : Nat) (names : List ByteArray) (s : ByteArray) (e : Ending) (w' : World) : Prop :=
 e = .returned (.int .i64 (posN (add names s) s)) ∧ Tab w' base tb (add names s) ∧ Below base w w' ∧ KeptO w w'
set_option maxRecDepth 100000 in
set_option maxHeartbeats 1000000 in
theorem visit_any (tb base : Nat) (names : List ByteArray) (s : ByteArray) (w : World) (hT : Tab w base tb names) (hs : s.size ≤ maxLen) (hn : names.length ≤ 1001000) :
 Calls Tryz.prog 165 #[.pointer (some ⟨tb, 0, none⟩), .string s] w (Visited w base tb names s) := by
 obtain ⟨mb, v, D, hbt, hbm, hh, hown, hag, hv⟩ := hT
 have htl := lt_of_block hh
 obtain ⟨c0, c1, f1⟩ := tab_cells hh
 have hkey := WideMaps.keyOf_string_mk (P := Tryz.prog) (k := tStr) Tryz.underlying9 hs
 have HKey := Lib.hid hkey
 have HV := Lib.hid hv
 have HH := Lib.hid hh
 have HO := Lib.hid hown
 clear hkey hv hh hown hs
 by_cases hmem : s ∈ names
 · have HAdd : Hid (add names s = names) := Lib.hid (by unfold add; rw [if_pos hmem])
   have HHas : Hid (Maps.has D (.string s.data.toList) = true) := Lib.hid ((hag s).1.2 hmem)
   have HAt := Lib.hid ((hag s).2 hmem)
   have HEnd : Hid (∀ w' e, e = .returned (.int .i64 (posN names s : Int)) → w' = w → Visited w base tb names s e w') := Lib.hid (fun w' e h1 h2 => by
    subst h2
    refine ⟨by rw [h1, HAdd.out], ?_, Below.refl _ _, KeptO.refl _⟩
    rw [HAdd.out]
    exact ⟨mb, v, D, hbt, hbm, HH.out, HO.out, hag, HV.out⟩)
   generalize hz : (posN names s : Int) = z at HAt HEnd
   clear hmem hag HAdd hbt hbm hz
   obtain ⟨B, d, rfl⟩ := own_form HV.out
   go_enter Tryz.func165, Tryz.ntmps165
   go_wp2_with (at_lookup; refine wpList_lookup_own_ok_int _ rfl (.tmp 11) (.tmp 12) tMap rfl tStr tInt .i64 lawS Tryz.underlying121 Tryz.underlying3 (zeroI _) mb names.length D rfl HO.out _ _ rfl HKey.out ?_; intro c hat _; rw [HHas.out]; obtain rfl : z = c := by have := HAt.out.symm.trans hat; simpa using this)
   go_ret
   exact HEnd.out _ _ rfl rfl
 · have HAdd : Hid (add names s = names ++ [s]) := Lib.hid (by unfold add; rw [if_neg hmem])
   have HHas : Hid (Maps.has D (.string s.data.toList) = false) := Lib.hid (by
    rw [Bool.eq_false_iff]; intro h; exact hmem ((hag s).1.1 h))
   have HEnd : Hid (∀ (w1 w2 : World) (v2 : Value) (C : Array Value) (e : Ending), w1.ownsMap Tryz.prog tStr (plainElem Tryz.prog tInt) mb (names.length + 1) (D.put (kl s) (.lit (.int .i64 (names.length : Int)))) → w.grownBy w1 (some mb) →
    w2.ownsRow base tStr 1 v2 (names.length + 1) (stringsV names ++ [.string s]) → (w1.alloc (.cells C tStr)).grownBy w2 v.ownBlock →
    e = .returned (.int .i64 (names.length : Int)) → Visited w base tb names s e (w2.setCell ⟨tb, 1, none⟩ v2)) := Lib.hid (fun w1 w2 v2 C e hm1 hg1 hv2 hg2 he => by
    obtain ⟨es, clock, hb, _⟩ := HO.out
    obtain ⟨r1, r2, r3⟩ := tab_step hbt hbm (by omega) HH.out hag HO.out.isMap hmem HV.out hm1 hg1 ⟨es, clock, hb⟩ hv2 hg2
    exact ⟨by rw [he, HAdd.out, posN_snoc hmem], by rw [HAdd.out]; exact r1, r2, r3⟩)
   have HFrame : Hid (∀ w1 : World, w.grownBy w1 (some mb) → w1.cell? ⟨tb, 1, none⟩ = some v ∧ w1.ownsRow base tStr 1 v names.length (stringsV names) ∧ w1.heap[tb]? = some (.cells #[.map (some mb), v] tTab (0, 0)) ∧ base ≤ w1.heap.size) := Lib.hid (fun w1 hg => by
    obtain ⟨es, clock, hb, _⟩ := HO.out
    have htm : some tb ≠ some mb := by
     intro e; injection e with e; subst e
     have := HH.out; rw [this] at hb; cases hb
    have h1 := (hg.block tb htl htm).trans HH.out
    refine ⟨(tab_cells h1).2.1, HV.out.kept hg ?_, h1, by have := hg.size; omega⟩
    rcases HV.out.2 with ⟨e, _⟩ | ⟨g, cap, cur, e, _, hg2, _⟩
    · left; rw [e]; rfl
    · right; rw [e]
      intro e2
      have : g = mb := by simpa [Value.ownBlock] using e2
      subst this
      rw [hb] at hg2; cases hg2)
   have HFrame2 : Hid (∀ (w1 w2 : World) (C : Array Value), w1.ownsRow base tStr 1 v names.length (stringsV names) → w1.heap[tb]? = some (.cells #[.map (some mb), v] tTab (0, 0)) → (w1.alloc (.cells C tStr)).grownBy w2 v.ownBlock → w2.frozen? ⟨tb, 1, none⟩ = false ∧ w2.cell? ⟨tb, 1, none⟩ = some v) := Lib.hid (fun w1 w2 C h1 h2 h3 => by
    have hl := lt_of_block h2
    have e2 : (w1.alloc (.cells C tStr)).heap[tb]? = some (.cells #[.map (some mb), v] tTab (0, 0)) := by
     rw [Below.heap_alloc _ _ _ hl]; exact h2
    have e3 := (h3.block tb (by simp; omega) (by
     rcases h1.2 with ⟨e, _⟩ | ⟨g, cap, cur, e, _, hg2, _⟩
     · rw [e]; simp [Value.ownBlock]
     · rw [e]; intro e4
       have : tb = g := by simpa [Value.ownBlock] using e4
       subst this
       rw [h2] at hg2
       injection hg2 with hg2
       injection hg2 with _ ht
       exact absurd ht (by decide))).trans e2
    exact ⟨(tab_cells e3).2.2, (tab_cells e3).2.1⟩)
   clear hmem hag HAdd hbt hbm
   obtain ⟨B, d, rfl⟩ := own_form HV.out
   have hwf : (Lit.int .i64 (names.length : Int)).wf = true := WalkArith.wf_i64 (by omega)
   have HWf := Lib.hid hwf
   clear hwf
   generalize hl : names.length = n at *
   go_enter Tryz.func165, Tryz.ntmps165
   go_wp2_with (first
    | (at_lookup; refine wpList_lookup_own_ok_int _ rfl (.tmp 11) (.tmp 12) tMap rfl tStr tInt .i64 lawS Tryz.underlying121 Tryz.underlying3 (zeroI _) mb n D rfl HO.out _ _ rfl HKey.out ?_; intro c _ _; rw [HHas.out])
    | (at_mapUpdate; refine wpList_mapUpdate_own _ rfl _ _ _ tMap rfl tStr tInt lawS Tryz.underlying121 _ mb n D rfl HO.out (by unfold maxLen; omega) _ _ _ rfl rfl HKey.out _ [] (plainElem_int Tryz.underlying3 HWf.out) ?_; intro w1 hm1 hg1; obtain ⟨c1', hv1, hh1, hbs1⟩ := HFrame.out w1 hg1; have HV1 := Lib.hid hv1; have HM1 := Lib.hid hm1; have HG1 := Lib.hid hg1; have HH1 := Lib.hid hh1; clear hv1 hm1 hg1 hh1)
    | (at_builtin; refine app_one rfl Tryz.underlying30 info_str rfl (by omega) (.tmp 33) (.tmp 35) rfl base n (stringsV names) (.string s) rfl _ _ rfl HV1.out rfl rfl (by omega) hbs1 ?_; intro v3 w3 ho3 hb3 hg3; obtain ⟨f3, c3⟩ := HFrame2.out _ _ _ HV1.out HH1.out hg3; have HO3 := Lib.hid ho3; have HG3 := Lib.hid hg3; obtain ⟨g3, cap3, cur3, rfl, _⟩ := own_some ho3 (by omega); clear ho3 hg3))
   go_ret
   exact HEnd.out _ _ _ _ _ HM1.out HG1.out HO3.out HG3.out rfl
end Nt
end
end
section
section
open Go.RowKit Go.Maps
namespace Nt
open Cm
theorem posN_final {names l r : List ByteArray} {s : ByteArray} : posN (namesA names (l ++ s :: r)) s = posN (add (namesA names l) s) s := by
 have e : l ++ s :: r = (l ++ [s]) ++ r := by simp
 rw [e, namesA_append, namesA_snoc]
 obtain ⟨t, ht⟩ := namesA_prefix r (add (namesA names l) s)
 rw [ht]
 exact posN_append ((mem_add _ _ _).2 (.inr rfl)) t
theorem set_fill {β : Type} (xs : List β) (z u : β) (m k : Nat) (hk : xs.length = k) : (xs ++ List.replicate (m + 1) z).set k u = xs ++ [u] ++ List.replicate m z := by
 subst hk
 rw [List.replicate_succ, List.set_append]
 simp
theorem Tab.setRow {w : World} {base tb g k : Nat} {names : List ByteArray} {cur : Array Value} {e : TypeId} (h : Tab w base tb names) (hg : w.heap[g]? = some (.cells cur e (0, 0))) (h1 : e ≠ tTab) (h2 : e ≠ tStr) (u : Value) : Tab (w.setCell ⟨g, k, none⟩ u) base tb names := by
 obtain ⟨mb, v, D, hbt, hbm, hh, hown, hag, hv⟩ := h
 have n1 : tb ≠ g := by
  rintro rfl
  rw [hh] at hg; injection hg with hg; injection hg with _ ht; exact h1 ht.symm
 have n2 : mb ≠ g := by
  rintro rfl
  obtain ⟨es, clock, hb, _⟩ := hown
  rw [hg] at hb; cases hb
 have n3 : v.ownBlock ≠ some g := by
  intro hkv
  rcases hv.2 with ⟨rfl, _⟩ | ⟨g', cap, cur', rfl, _, hh', _⟩
  · simp [Value.ownBlock] at hkv
  · have : g' = g := by simpa [Value.ownBlock] using hkv
    subst this
    rw [hg] at hh'; injection hh' with hh'; injection hh' with _ ht; exact h2 ht
 refine ⟨mb, v, D, hbt, hbm, ?_, hown.setCell (a := ⟨g, k, none⟩) n2 u, hag, ownsRow_setCell_other hv n3 u⟩
 rw [Below.heap_setCell _ _ _ _ n1]; exact hh
theorem Tab.alloc {w : World} {base tb : Nat} {names : List ByteArray} (h : Tab w base tb names) (o : Obj) : Tab (w.alloc o) base tb names := by
 obtain ⟨mb, v, D, hbt, hbm, hh, hown, hag, hv⟩ := h
 exact ⟨mb, v, D, hbt, hbm, by rw [Below.heap_alloc _ _ _ (lt_of_block hh)]; exact hh, hown.alloc o, hag, hv.alloc o⟩
theorem Tab.size {w : World} {base tb : Nat} {names : List ByteArray} (h : Tab w base tb names) : base ≤ w.heap.size := by
 obtain ⟨mb, v, D, hbt, hbm, hh, _⟩ := h
 have := lt_of_block hh; omega
theorem keptO_alloc (w : World) (o : Obj) : KeptO w (w.alloc o) := fun k _ _ _ _ h => Below.heap_alloc w o k (lt_of_block h)
theorem KeptO.trans' {w w' w'' : World} (h : KeptO w w') (h' : ∀ k, k < w.heap.size → w''.heap[k]? = w'.heap[k]?) : KeptO w w'' := fun k cur e h1 h2 h3 =>
 (h' k (lt_of_block h3)).trans (h k cur e h1 h2 h3)
def VisitedAll (w : World) (base tb : Nat) (names l : List ByteArray) (e : Ending) (w' : World) : Prop :=
 ∃ v, e = .returned v ∧ w'.ownsRow base tInt 1 v l.length (intsV (l.map fun s => (posN (namesA names l) s : Int))) ∧ (∃ g c, v = .slice (some ⟨g, 0, none⟩) l.length c) ∧ Tab w' base tb (namesA names l) ∧ Below base w w' ∧ KeptO w w'
set_option maxRecDepth 100000 in
set_option maxHeartbeats 2000000 in
theorem visitAll_any (tb base : Nat) (names l : List ByteArray) (u : Value) (w0 w : World) (hw0 : w0.heap.size = base) (hbl : Below base w0 w) (hr : RdV w0 u (stringsV l)) (hT : Tab w base tb names) (hs : ∀ s ∈ l, s.size ≤ maxLen) (hn : names.length ≤ 1000000) (hl : l.length ≤ 1000) :
 Calls Tryz.prog 146 #[.pointer (some ⟨tb, 0, none⟩), u] w (VisitedAll w base tb names l) := by
 obtain ⟨A, c, rfl, _, hA⟩ := hr
 have HA : Hid (∀ j (h : j < l.length), ∃ b off, A = some ⟨b, off, none⟩ ∧ w0.cell? ⟨b, off + j, none⟩ = some (.string l[j])) := Lib.hid (fun j h => by
  obtain ⟨b, off, e, hc⟩ := hA (by rw [stringsV_len]; omega)
  exact ⟨b, off, e, by rw [hc j (by rw [stringsV_len]; exact h)]; simp [stringsV]⟩)
 rw [stringsV_len]
 have HSz := Lib.hid hs
 have HNl : Hid (∀ j, (namesA names (l.take j)).length ≤ 1001000) := Lib.hid (fun j => by
  have h1 := namesA_len (l.take j) names
  have h2 : (l.take j).length ≤ l.length := List.length_take_le' ..
  omega)
 have HBl := Lib.hid hbl
 have hbase := hT.size
 have HT0 := Lib.hid hT
 have HEnd : Hid (∀ v e w', e = .returned v → w'.ownsRow base tInt 1 v l.length (intsV (l.map fun s => (posN (namesA names l) s : Int))) → (∃ g c, v = .slice (some ⟨g, 0, none⟩) l.length c) → Tab w' base tb (namesA names l) → Below base w w' → KeptO w w' → VisitedAll w base tb names l e w') := Lib.hid (fun v e w' h1 h2 h3 h4 h5 h6 => ⟨v, h1, h2, h3, h4, h5, h6⟩)
 clear hA hs hbl hT
 have hmk := run_make_row' (P := Tryz.prog) 22 tInt (.int .i64 0) 8 Tryz.underlying22 info_int rfl .i64 .i64 l.length (by omega) (by omega)
 have HF : Hid (∀ j (h : j < l.length), (posN (namesA names l) l[j] : Int) = posN (add (namesA names (l.take j)) l[j]) l[j]) := Lib.hid (fun j h => by
  have e : l = l.take j ++ l[j] :: l.drop (j + 1) := by rw [← List.drop_eq_getElem_cons h, List.take_append_drop]
  have h2 := posN_final (names := names) (l := l.take j) (r := l.drop (j + 1)) (s := l[j])
  rw [← e] at h2
  rw [h2])
 generalize hF : (fun s => (posN (namesA names l) s : Int)) = F at HEnd
 have HF2 : Hid (∀ j (h : j < l.length), F l[j] = posN (add (namesA names (l.take j)) l[j]) l[j]) := Lib.hid (fun j h => by rw [← hF]; exact HF.out j h)
 clear hF HF
 have HStart : Hid ((w.alloc (.cells (madeCells #[.int .i64 0] l.length) tInt)).ownsRow base tInt 1 (.slice (some ⟨w.heap.size, 0, none⟩) l.length l.length) l.length (intsV (((l.take 0).map F) ++ List.replicate (l.length - 0) 0))) := Lib.hid (by
  have h := World.ownsRow_lit (base := base) (e := tInt) (size := 1) w (madeCells #[.int .i64 0] l.length) l.length hbase (by unfold maxLen; omega) (by rw [size_madeCells]; omega)
  rw [toList_madeCells_one] at h
  simpa [intsV] using h)
 generalize hm : l.length = m at hl hmk HEnd HStart ⊢
 have HM := Lib.hid hm
 clear hm
 go_enter Tryz.func146, Tryz.ntmps146
 go_wp2_with fail
 go_loopw [13] (fun i wr => ∃ j : Nat, j ≤ m ∧ i = .int .i64 j ∧ Hid (Tab wr base tb (namesA names (l.take j))) ∧ Hid (wr.ownsRow base tInt 1 (.slice (some ⟨w.heap.size, 0, none⟩) m m) m (intsV (((l.take j).map F) ++ List.replicate (m - j) 0))) ∧ Below base w wr ∧ Hid (KeptO w wr)) (fun i _ => m - (intOf i).toNat)
 case atStart => exact ⟨0, Nat.zero_le _, rfl, Lib.hid (HT0.out.alloc _), HStart, (Below.refl _ _).alloc hbase _, Lib.hid (keptO_alloc _ _)⟩
 case round =>
  obtain ⟨j, hj, rfl, HT, HO, hnx, HK⟩ := hrel
  by_cases hlt : j < m
  · have hx : j < l.length := by rw [HM.out]; exact hlt
    obtain ⟨b, off, rfl, hc0⟩ := HA.out j hx
    have hc : wr.cell? ⟨b, off + j, none⟩ = some (.string l[j]) := ((HBl.out.trans hnx).cell (p := ⟨b, off + j, none⟩) (by have := Tx.cell_lt hc0; simp only at this ⊢; omega)).trans hc0
    have HV := Lib.hid (visit_any tb base (namesA names (l.take j)) l[j] wr HT.out (HSz.out _ (List.getElem_mem hx)) (HNl.out j))
    have HFj := Lib.hid (HF2.out j hx)
    have HTk : Hid (namesA names (l.take (j + 1)) = add (namesA names (l.take j)) l[j]) := Lib.hid (by rw [List.take_succ_eq_append_getElem hx, namesA_snoc])
    have HRow : Hid (intsV (((l.take (j + 1)).map F) ++ List.replicate (m - (j + 1)) 0) = (intsV (((l.take j).map F) ++ List.replicate (m - j) 0)).set j (.int .i64 (F l[j]))) := Lib.hid (by
     have e : m - j = (m - (j + 1)) + 1 := by omega
     have h := set_fill ((l.take j).map F) 0 (F l[j]) (m - (j + 1)) j (by rw [List.length_map, List.length_take]; omega)
     rw [e, show intsV ((l.take j).map F ++ List.replicate (m - (j + 1) + 1) 0) = ((l.take j).map F ++ List.replicate (m - (j + 1) + 1) 0).map (fun z => Value.int .i64 z) from rfl, ← List.map_set, h, List.take_succ_eq_append_getElem hx, List.map_append]
     rfl)
    clear hc0
    generalize l[j] = x at hc HV HFj HTk HRow
    generalize F x = z at HFj HRow
    generalize namesA names (l.take j) = cn at HV HFj HTk HT
    generalize intsV (((l.take j).map F) ++ List.replicate (m - j) 0) = row at HO HRow
    have HStep : Hid (∀ w1, Tab w1 base tb (add cn x) → Below base wr w1 → KeptO wr w1 → w1.frozen? ⟨w.heap.size, j, none⟩ = false ∧ (∃ y, w1.cell? ⟨w.heap.size, j, none⟩ = some y) ∧ Hid (w1.ownsRow base tInt 1 (.slice (some ⟨w.heap.size, 0, none⟩) m m) m row)) := Lib.hid (fun w1 _ _ h3 => by
     have h4 := KeptO.own HO.out h3 (by decide) (by decide)
     refine ⟨h4.frozenAt j, ?_, Lib.hid h4⟩
     have h5 := h4.cellAt j (by omega)
     have h6 := own_len h4
     exact ⟨row[j]'(by omega), by rw [h5, List.getElem?_eq_getElem (by omega)]⟩)
    have i1 : (0 : Int) ≤ (j : Int) := by omega
    have i2 : (j : Int) < (m : Int) := by omega
    go_wp2_with (go_at_call 165; refine HV.out.mono ?_; rintro e w1 ⟨rfl, ht1, hb1, hk1⟩; obtain ⟨f1, ⟨y1, c1⟩, HO1⟩ := HStep.out w1 ht1 hb1 hk1; have HT1 := Lib.hid ht1; have HB1 := Lib.hid hb1; have HK1 := Lib.hid hk1; clear ht1 hb1 hk1; rw [← HFj.out])
    go_roundw
    case rel =>
     have hst := HO1.out.stored j (.int .i64 z)
     obtain ⟨g, cap, cur, e0, hbg, hgg⟩ := own_some HO1.out (by omega)
     have hg : g = w.heap.size := by injection e0 with e1 _; injection e1 with e1; injection e1 with e1; exact e1.symm
     subst hg
     refine ⟨j + 1, by omega, by go_num, ?_, ?_, ?_, ?_⟩
     · rw [HTk.out]; exact Lib.hid (HT1.out.setRow hgg (by decide) (by decide) _)
     · rw [HRow.out]; exact Lib.hid hst.1
     · exact (hnx.trans HB1.out).setCell (p := ⟨w.heap.size, j, none⟩) hbase _
     · refine Lib.hid ((HK.out.trans HK1.out).trans' ?_)
       intro k hk
       exact Below.heap_setCell _ _ _ _ (by simp only; omega)
    case measure => simp [intOf]; omega
  · have HE : Hid (l.take j = l) := Lib.hid (List.take_of_length_le (by rw [HM.out]; omega))
    have hd : decide (j < m) = false := by simp only [decide_eq_false_iff_not]; omega
    have hjm : j = m := by omega
    have HJ : Hid ((m - j) = 0) := Lib.hid (by omega)
    clear hjm
    go_wp2_with fail
    go_ret
    refine HEnd.out _ _ _ rfl ?_ ⟨_, _, rfl⟩ ?_ hnx HK.out
    · have := HO.out
      rw [HE.out, HJ.out, List.replicate_zero, List.append_nil] at this
      exact this
    · rw [← HE.out]; rw [HE.out]; have := HT.out; rw [HE.out] at this; exact this
end Nt
end
section
open Go.RowKit Go.Maps
namespace Nt
open Cm
abbrev tInts : TypeId := 22
def HalfLL (w : World) (base g n : Nat) (lss : List (List Int)) : Prop :=
 ∃ us : List Value, us.length = lss.length ∧ w.ownsRow base tInts 1 (.slice (some ⟨g, 0, none⟩) n n) n (us ++ List.replicate (n - lss.length) (.slice none 0 0)) ∧
   ∀ j (h1 : j < us.length) (h2 : j < lss.length), w.ownsRow base tInt 1 us[j] lss[j].length (intsV lss[j])
theorem HalfLL.kept {w w' : World} {base g n : Nat} {lss : List (List Int)} (h : HalfLL w base g n lss) (hk : KeptO w w') : HalfLL w' base g n lss := by
 obtain ⟨us, h1, h2, h3⟩ := h
 exact ⟨us, h1, KeptO.own h2 hk (by decide) (by decide), fun j a b => KeptO.own (h3 j a b) hk (by decide) (by decide)⟩
theorem own_notBlock {w : World} {base g n : Nat} {e e' : TypeId} {v : Value} {xs : List Value} {cu : Array Value} (h : w.ownsRow base e 1 v n xs) (hg : w.heap[g]? = some (.cells cu e' (0, 0))) (hne : e ≠ e') : v.ownBlock ≠ some g := by
 intro hkv
 rcases h.2 with ⟨rfl, _⟩ | ⟨g', cap, cur', rfl, _, hh', _⟩
 · simp [Value.ownBlock] at hkv
 · have : g' = g := by simpa [Value.ownBlock] using hkv
   subst this
   rw [hg] at hh'; injection hh' with hh'; injection hh' with _ ht; exact hne ht.symm
theorem HalfLL.block {w : World} {base g n : Nat} {lss : List (List Int)} (h : HalfLL w base g n lss) (hn : 0 < n) : ∃ cur, base ≤ g ∧ w.heap[g]? = some (.cells cur tInts (0, 0)) := by
 obtain ⟨us, _, h2, _⟩ := h
 obtain ⟨g', c, cur, e, hb, hh⟩ := own_some h2 hn
 have : g' = g := by injection e with e1 _; injection e1 with e1; injection e1 with e1; exact e1.symm
 subst this
 exact ⟨cur, hb, hh⟩
theorem HalfLL.set {w : World} {base g n k : Nat} {lss : List (List Int)} {u : Value} {l : List Int} (h : HalfLL w base g n lss) (hk : lss.length = k) (hl : k < n) (hu : w.ownsRow base tInt 1 u l.length (intsV l)) : HalfLL (w.setCell ⟨g, k, none⟩ u) base g n (lss ++ [l]) := by
 obtain ⟨cur, hbg, hg⟩ := h.block (by omega)
 obtain ⟨us, h1, h2, h3⟩ := h
 refine ⟨us ++ [u], by simp [h1], ?_, fun j a b => ?_⟩
 · have hst := (h2.stored k u).1
   have e : n - lss.length = (n - (lss ++ [l]).length) + 1 := by rw [List.length_append, List.length_singleton]; omega
   rw [e, set_fill us _ u _ k (by omega)] at hst
   exact hst
 · by_cases hj : j < us.length
   · have e1 : (us ++ [u])[j] = us[j] := List.getElem_append_left hj
     have e2 : (lss ++ [l])[j] = lss[j]'(by omega) := List.getElem_append_left (by omega)
     rw [e1, e2]
     have hr := h3 j hj (by omega)
     exact ownsRow_setCell_other hr (own_notBlock hr hg (by decide)) u
   · have hj2 : j = us.length := by rw [List.length_append, List.length_singleton] at a; omega
     subst hj2
     have e1 : (us ++ [u])[us.length] = u := by simp
     have e2 : (lss ++ [l])[us.length] = l := by simp [h1]
     rw [e1, e2]
     exact ownsRow_setCell_other hu (own_notBlock hu hg (by decide)) u
theorem HalfLL.done {w : World} {base g n : Nat} {lss : List (List Int)} (h : HalfLL w base g n lss) (hl : lss.length = n) : OwnLL w base (.slice (some ⟨g, 0, none⟩) n n) lss := by
 obtain ⟨us, h1, h2, h3⟩ := h
 rw [hl, Nat.sub_self, List.replicate_zero, List.append_nil] at h2
 exact ⟨us, h1, by rw [h1, hl]; exact h2, h3⟩
theorem HalfLL.start {w : World} {base n : Nat} (hb : base ≤ w.heap.size) (hn : n ≤ maxLen) : HalfLL (w.alloc (.cells (madeCells #[.slice none 0 0] n) tInts)) base w.heap.size n [] := by
 refine ⟨[], rfl, ?_, fun j a b => absurd b (Nat.not_lt_zero _)⟩
 have h := World.ownsRow_lit (base := base) (e := tInts) (size := 1) w (madeCells #[.slice none 0 0] n) n hb hn (by rw [size_madeCells]; omega)
 rw [toList_madeCells_one] at h
 simpa using h
theorem placeI_final {fs : List (List ByteArray)} {j : Nat} (h : j < fs.length) : (fs[j].map fun s => (posN (namesA (namesA [] (fs.take j).flatten) fs[j]) s : Int)) = fs[j].map (placeI (namesF fs)) := by
 refine List.map_congr_left fun s hs => ?_
 have hf : namesF fs = namesA (namesA (namesA [] (fs.take j).flatten) fs[j]) (fs.drop (j + 1)).flatten := by
  unfold namesF
  have e : fs = fs.take j ++ fs[j] :: fs.drop (j + 1) := by rw [← List.drop_eq_getElem_cons h, List.take_append_drop]
  have e2 : fs.flatten = (fs.take j).flatten ++ (fs[j] ++ (fs.drop (j + 1)).flatten) := by
   have h2 := congrArg List.flatten e
   rw [List.flatten_append, List.flatten_cons] at h2
   exact h2
  rw [← namesA_append, ← namesA_append, e2]
 have hm : s ∈ namesA (namesA [] (fs.take j).flatten) fs[j] := (mem_namesA _ _ _).2 (.inr hs)
 obtain ⟨t, ht⟩ := namesA_prefix (fs.drop (j + 1)).flatten (namesA (namesA [] (fs.take j).flatten) fs[j])
 rw [hf, ht, placeI_prefix hm]
 unfold placeI
 rw [if_pos hm]
set_option maxRecDepth 100000 in
set_option maxHeartbeats 2000000 in
theorem Ids_any (u : Value) (fs : List (List ByteArray)) (w : World) (hr : RdLL w u (fs.map stringsV)) (hl : fs.length ≤ 1000) (hll : ∀ f ∈ fs, f.length ≤ 1000) (hsz : ∀ f ∈ fs, ∀ s ∈ f, s.size ≤ maxLen) :
 Calls Tryz.prog 110 #[u] w (NewLL w (idsF fs)) := by
 have HNT := Lib.hid (newTable_any w)
 obtain ⟨us, ⟨A, c, rfl, _, hA⟩, hul, hue⟩ := hr
 rw [List.length_map] at hul
 have HA : Hid (∀ j (h : j < fs.length), ∃ b off x, A = some ⟨b, off, none⟩ ∧ w.cell? ⟨b, off + j, none⟩ = some x ∧ RdV w x (stringsV fs[j])) := Lib.hid (fun j h => by
  obtain ⟨b, off, e, hc⟩ := hA (by omega)
  have h2 := hue j (by omega) (by rw [List.length_map]; exact h)
  rw [List.getElem_map] at h2
  exact ⟨b, off, _, e, hc j (by omega), h2⟩)
 have HLL := Lib.hid hll
 have HSz := Lib.hid hsz
 have hnames : ∀ j, (namesA [] (fs.take j).flatten).length ≤ 1000000 := fun j => by
  have h1 := namesA_len (fs.take j).flatten ([] : List ByteArray)
  have h2 := flat_bound (fs.take j) 1000 (fun f hf => hll f (List.mem_of_mem_take hf))
  have h3 : (fs.take j).length ≤ fs.length := List.length_take_le' ..
  simp only [List.length_nil] at h1; omega
 have HNl := Lib.hid hnames
 have HEnd : Hid (∀ v e w', e = .returned v → OwnLL w' w.heap.size v (fs.map fun f => f.map (placeI (namesF fs))) → Below w.heap.size w w' → NewLL w (idsF fs) e w') := Lib.hid (fun v e w' h1 h2 h3 => ⟨v, h1, h2, h3⟩)
 have HF : Hid (∀ j (h : j < fs.length), (fs[j].map fun s => (posN (namesA (namesA [] (fs.take j).flatten) fs[j]) s : Int)) = fs[j].map (placeI (namesF fs))) := Lib.hid (fun j h => placeI_final h)
 generalize placeI (namesF fs) = F at HEnd HF
 rw [hul]
 clear hA hue hll hsz hnames hul
 have hmk := run_make_row' (P := Tryz.prog) 105 tInts (.slice none 0 0) 24 Tryz.underlying105 info_ints rfl .i64 .i64 fs.length (by omega) (by omega)
 generalize hm : fs.length = m at hl hmk ⊢
 have HM := Lib.hid hm
 clear hm
 go_enter Tryz.func110, Tryz.ntmps110
 go_wp2_with (go_at_call 145; refine HNT.out.mono ?_; rintro e w1 ⟨tb, rfl, ht, hb1⟩; have HT1 := Lib.hid ht; have HB1 := Lib.hid hb1; clear ht hb1)
 have hbase := HT1.out.size
 go_loopw [13] (fun i wr => ∃ j : Nat, j ≤ m ∧ i = .int .i64 j ∧ Hid (Tab wr w.heap.size tb (namesA [] (fs.take j).flatten)) ∧ Hid (HalfLL wr w.heap.size w1.heap.size m ((fs.take j).map fun f => f.map F)) ∧ Below w.heap.size w wr) (fun i _ => m - (intOf i).toNat)
 case atStart => exact ⟨0, Nat.zero_le _, rfl, Lib.hid (HT1.out.alloc _), Lib.hid (HalfLL.start hbase (by unfold maxLen; omega)), HB1.out.alloc hbase _⟩
 case round =>
  obtain ⟨j, hj, rfl, HT, HO, hnx⟩ := hrel
  by_cases hlt : j < m
  · have hx : j < fs.length := by rw [HM.out]; exact hlt
    obtain ⟨b, off, x, rfl, hc0, hrx⟩ := HA.out j hx
    have hc : wr.cell? ⟨b, off + j, none⟩ = some x := (hnx.cell (p := ⟨b, off + j, none⟩) (Tx.cell_lt hc0)).trans hc0
    have HV := Lib.hid (visitAll_any tb w.heap.size (namesA [] (fs.take j).flatten) fs[j] x w wr rfl hnx hrx HT.out (HSz.out _ (List.getElem_mem hx)) (HNl.out j) (HLL.out _ (List.getElem_mem hx)))
    have HFj := Lib.hid (HF.out j hx)
    have HTk : Hid (namesA [] (fs.take (j + 1)).flatten = namesA (namesA [] (fs.take j).flatten) fs[j]) := Lib.hid (by rw [flat_succ fs j hx, namesA_append])
    have HRow : Hid ((fs.take (j + 1)).map (fun f => f.map F) = (fs.take j).map (fun f => f.map F) ++ [fs[j].map F]) := Lib.hid (by rw [List.take_succ_eq_append_getElem hx, List.map_append]; rfl)
    have HLt : Hid (((fs.take j).map (fun f => f.map F)).length = j) := Lib.hid (by rw [List.length_map, List.length_take]; omega)
    obtain ⟨Ax, cx, hxe⟩ := hrx.form
    rw [stringsV_len] at hxe
    clear hc0 hrx
    generalize fs[j] = f at HV HFj HTk HRow hxe
    generalize hfl : f.length = fl at hxe
    have HFl := Lib.hid hfl
    clear hfl
    subst hxe
    generalize (fs.take j).map (fun f => f.map F) = done at HO HRow HLt
    generalize namesA [] (fs.take j).flatten = cn at HV HFj HTk HT
    have HStep : Hid (∀ w2, KeptO wr w2 → w2.frozen? ⟨w1.heap.size, j, none⟩ = false ∧ (∃ y, w2.cell? ⟨w1.heap.size, j, none⟩ = some y) ∧ HalfLL w2 w.heap.size w1.heap.size m done) := Lib.hid (fun w2 h3 => by
     have h4 := HO.out.kept h3
     obtain ⟨us', h5, h6, h7⟩ := h4
     refine ⟨h6.frozenAt j, ?_, ⟨us', h5, h6, h7⟩⟩
     have h8 := h6.cellAt j (by omega)
     have h9 := own_len h6
     exact ⟨_, by rw [h8, List.getElem?_eq_getElem (by omega)]⟩)
    have i1 : (0 : Int) ≤ (j : Int) := by omega
    have i2 : (j : Int) < (m : Int) := by omega
    go_wp2_with (go_at_call 146; refine HV.out.mono ?_; rintro e w2 ⟨v2, rfl, ho2, ⟨g2, c2, rfl⟩, ht2, hb2, hk2⟩; obtain ⟨f2, ⟨y2, c2'⟩, hh2⟩ := HStep.out w2 hk2; have HO2 := Lib.hid ho2; have HT2 := Lib.hid ht2; have HB2 := Lib.hid hb2; have HH2 := Lib.hid hh2; clear ho2 ht2 hb2 hk2 hh2)
    go_roundw
    case rel =>
     obtain ⟨cur, hbg, hgg⟩ := HH2.out.block (by omega)
     have hu := HO2.out
     rw [HFj.out] at hu
     have hset := HH2.out.set HLt.out hlt (l := f.map F) (u := .slice (some ⟨g2, 0, none⟩) f.length c2) (by rw [List.length_map]; exact hu)
     refine ⟨j + 1, by omega, by go_num, ?_, ?_, ?_⟩
     · rw [HTk.out]; exact Lib.hid (HT2.out.setRow hgg (by decide) (by decide) _)
     · rw [HRow.out]; exact Lib.hid hset
     · exact (hnx.trans HB2.out).setCell (p := ⟨w1.heap.size, j, none⟩) hbase _
    case measure => simp [intOf]; omega
  · have HE : Hid (fs.take j = fs) := Lib.hid (List.take_of_length_le (by rw [HM.out]; omega))
    have hd : decide (j < m) = false := by simp only [decide_eq_false_iff_not]; omega
    go_wp2_with fail
    go_ret
    refine HEnd.out _ _ _ rfl ?_ hnx
    have h := HO.out
    rw [HE.out] at h
    exact h.done (by rw [List.length_map, HM.out])
end Nt
end
end
end Go.Proofs.YtjecfmbecgpbmaaGreatDoor

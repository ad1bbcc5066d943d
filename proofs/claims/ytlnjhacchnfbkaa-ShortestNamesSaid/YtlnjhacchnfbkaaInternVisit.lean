/-
  Walks of the program's visit and visitAll of layer 3. Conditions: strings that the machine can hold, at most a million names.
-/
import Derived.Test.YtlnjhacchnfbkaaInternTab
namespace Go.Proofs.Ytlnjhacchnfbkaa
open Go.RowKit Go.Maps
namespace Nt
open Cm
/-- What a visit leaves. -/
def Visited (w : World) (base tb : Nat) (names : List ByteArray) (s : ByteArray) (e : Ending) (w' : World) : Prop :=
  e = .returned (.int .i64 (posN (add names s) s)) ∧ Tab w' base tb (add names s) ∧ Below base w w' ∧ KeptO w w'
set_option maxRecDepth 100000 in
set_option maxHeartbeats 1000000 in
theorem visit_any (tb base : Nat) (names : List ByteArray) (s : ByteArray) (w : World) (hT : Tab w base tb names) (hs : s.size ≤ maxLen) (hn : names.length ≤ 1001000) :
    Calls Try.prog 69 #[.pointer (some ⟨tb, 0, none⟩), .string s] w (Visited w base tb names s) := by
  obtain ⟨mb, v, D, hbt, hbm, hh, hown, hag, hv⟩ := hT
  have htl := lt_of_block hh
  obtain ⟨c0, c1, f1⟩ := tab_cells hh
  have hkey := WideMaps.keyOf_string_mk (P := Try.prog) (k := tStr) Try.underlying9 hs
  have HKey := Lib.hid hkey
  have HV := Lib.hid hv
  have HH := Lib.hid hh
  have HO := Lib.hid hown
  clear hkey hv hh hown hs
  by_cases hmem : s ∈ names
  · have HAdd : Hid (add names s = names) := Lib.hid (by unfold add; rw [if_pos hmem])
    have HHas : Hid (Maps.has D (.string s.data.toList) = true) := Lib.hid ((hag s).1.2 hmem)
    have HAt := Lib.hid ((hag s).2 hmem)
    have HEnd : Hid (∀ w' e, e = .returned (.int .i64 (posN names s : Int)) → w' = w → Visited w base tb names s e w') := Lib.hid (fun w' e h1 h2 => by
      subst h2
      refine ⟨by rw [h1, HAdd.out], ?_, Below.refl _ _, KeptO.refl _⟩
      rw [HAdd.out]
      exact ⟨mb, v, D, hbt, hbm, HH.out, HO.out, hag, HV.out⟩)
    generalize hz : (posN names s : Int) = z at HAt HEnd
    clear hmem hag HAdd hbt hbm hz
    obtain ⟨B, d, rfl⟩ := own_form HV.out
    go_enter Try.func69, Try.ntmps69
    go_wp2_with (at_lookup; refine wpList_lookup_own_ok_int _ rfl (.tmp 11) (.tmp 12) tMap rfl tStr tInt .i64 lawS Try.underlying106 Try.underlying3 (zeroI _) mb names.length D rfl HO.out _ _ rfl HKey.out ?_; intro c hat _; rw [HHas.out]; obtain rfl : z = c := by have := HAt.out.symm.trans hat; simpa using this)
    go_ret
    exact HEnd.out _ _ rfl rfl
  · have HAdd : Hid (add names s = names ++ [s]) := Lib.hid (by unfold add; rw [if_neg hmem])
    have HHas : Hid (Maps.has D (.string s.data.toList) = false) := Lib.hid (by
      rw [Bool.eq_false_iff]; intro h; exact hmem ((hag s).1.1 h))
    have HEnd : Hid (∀ (w1 w2 : World) (v2 : Value) (C : Array Value) (e : Ending), w1.ownsMap Try.prog tStr (plainElem Try.prog tInt) mb (names.length + 1) (D.put (kl s) (.lit (.int .i64 (names.length : Int)))) → w.grownBy w1 (some mb) →
        w2.ownsRow base tStr 1 v2 (names.length + 1) (stringsV names ++ [.string s]) → (w1.alloc (.cells C tStr)).grownBy w2 v.ownBlock →
        e = .returned (.int .i64 (names.length : Int)) → Visited w base tb names s e (w2.setCell ⟨tb, 1, none⟩ v2)) := Lib.hid (fun w1 w2 v2 C e hm1 hg1 hv2 hg2 he => by
      obtain ⟨es, clock, hb, _⟩ := HO.out
      obtain ⟨r1, r2, r3⟩ := tab_step hbt hbm (by omega) HH.out hag HO.out.isMap hmem HV.out hm1 hg1 ⟨es, clock, hb⟩ hv2 hg2
      exact ⟨by rw [he, HAdd.out, posN_snoc hmem], by rw [HAdd.out]; exact r1, r2, r3⟩)
    have HFrame : Hid (∀ w1 : World, w.grownBy w1 (some mb) → w1.cell? ⟨tb, 1, none⟩ = some v ∧ w1.ownsRow base tStr 1 v names.length (stringsV names) ∧ w1.heap[tb]? = some (.cells #[.map (some mb), v] tTab (0, 0)) ∧ base ≤ w1.heap.size) := Lib.hid (fun w1 hg => by
      obtain ⟨es, clock, hb, _⟩ := HO.out
      have htm : some tb ≠ some mb := by
        intro e; injection e with e; subst e
        have := HH.out; rw [this] at hb; cases hb
      have h1 := (hg.block tb htl htm).trans HH.out
      refine ⟨(tab_cells h1).2.1, HV.out.kept hg ?_, h1, by have := hg.size; omega⟩
      rcases HV.out.2 with ⟨e, _⟩ | ⟨g, cap, cur, e, _, hg2, _⟩
      · left; rw [e]; rfl
      · right; rw [e]
        intro e2
        have : g = mb := by simpa [Value.ownBlock] using e2
        subst this
        rw [hb] at hg2; cases hg2)
    have HFrame2 : Hid (∀ (w1 w2 : World) (C : Array Value), w1.ownsRow base tStr 1 v names.length (stringsV names) → w1.heap[tb]? = some (.cells #[.map (some mb), v] tTab (0, 0)) → (w1.alloc (.cells C tStr)).grownBy w2 v.ownBlock → w2.frozen? ⟨tb, 1, none⟩ = false ∧ w2.cell? ⟨tb, 1, none⟩ = some v) := Lib.hid (fun w1 w2 C h1 h2 h3 => by
      have hl := lt_of_block h2
      have e2 : (w1.alloc (.cells C tStr)).heap[tb]? = some (.cells #[.map (some mb), v] tTab (0, 0)) := by
        rw [Below.heap_alloc _ _ _ hl]; exact h2
      have e3 := (h3.block tb (by simp; omega) (by
        rcases h1.2 with ⟨e, _⟩ | ⟨g, cap, cur, e, _, hg2, _⟩
        · rw [e]; simp [Value.ownBlock]
        · rw [e]; intro e4
          have : tb = g := by simpa [Value.ownBlock] using e4
          subst this
          rw [h2] at hg2
          injection hg2 with hg2
          injection hg2 with _ ht
          exact absurd ht (by decide))).trans e2
      exact ⟨(tab_cells e3).2.2, (tab_cells e3).2.1⟩)
    clear hmem hag HAdd hbt hbm
    obtain ⟨B, d, rfl⟩ := own_form HV.out
    have hwf : (Lit.int .i64 (names.length : Int)).wf = true := WalkArith.wf_i64 (by omega)
    have HWf := Lib.hid hwf
    clear hwf
    generalize hl : names.length = n at *
    go_enter Try.func69, Try.ntmps69
    go_wp2_with (first
      | (at_lookup; refine wpList_lookup_own_ok_int _ rfl (.tmp 11) (.tmp 12) tMap rfl tStr tInt .i64 lawS Try.underlying106 Try.underlying3 (zeroI _) mb n D rfl HO.out _ _ rfl HKey.out ?_; intro c _ _; rw [HHas.out])
      | (at_mapUpdate; refine wpList_mapUpdate_own _ rfl _ _ _ tMap rfl tStr tInt lawS Try.underlying106 _ mb n D rfl HO.out (by unfold maxLen; omega) _ _ _ rfl rfl HKey.out _ [] (plainElem_int Try.underlying3 HWf.out) ?_; intro w1 hm1 hg1; obtain ⟨c1', hv1, hh1, hbs1⟩ := HFrame.out w1 hg1; have HV1 := Lib.hid hv1; have HM1 := Lib.hid hm1; have HG1 := Lib.hid hg1; have HH1 := Lib.hid hh1; clear hv1 hm1 hg1 hh1)
      | (at_builtin; refine app_one rfl Try.underlying52 info_str rfl (by omega) (.tmp 33) (.tmp 35) rfl base n (stringsV names) (.string s) rfl _ _ rfl HV1.out rfl rfl (by omega) hbs1 ?_; intro v3 w3 ho3 hb3 hg3; obtain ⟨f3, c3⟩ := HFrame2.out _ _ _ HV1.out HH1.out hg3; have HO3 := Lib.hid ho3; have HG3 := Lib.hid hg3; obtain ⟨g3, cap3, cur3, rfl, _⟩ := own_some ho3 (by omega); clear ho3 hg3))
    go_ret
    exact HEnd.out _ _ _ _ _ HM1.out HG1.out HO3.out HG3.out rfl
end Nt
end Go.Proofs.Ytlnjhacchnfbkaa

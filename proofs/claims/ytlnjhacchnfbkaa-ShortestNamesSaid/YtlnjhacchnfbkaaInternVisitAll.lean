/-
  Walks of the program's visitAll, Ids and Names of layer 3. Conditions: strings that the machine can hold, short lists.
-/
import Derived.Test.YtlnjhacchnfbkaaInternVisit
import Derived.Deep.OwnRows
namespace Go.Proofs.Ytlnjhacchnfbkaa
open Go.RowKit Go.Maps
namespace Nt
open Cm
theorem posN_final {names l r : List ByteArray} {s : ByteArray} : posN (namesA names (l ++ s :: r)) s = posN (add (namesA names l) s) s := by
  have e : l ++ s :: r = (l ++ [s]) ++ r := by simp
  rw [e, namesA_append, namesA_snoc]
  obtain ⟨t, ht⟩ := namesA_prefix r (add (namesA names l) s)
  rw [ht]
  exact posN_append ((mem_add _ _ _).2 (.inr rfl)) t
theorem set_fill {β : Type} (xs : List β) (z u : β) (m k : Nat) (hk : xs.length = k) : (xs ++ List.replicate (m + 1) z).set k u = xs ++ [u] ++ List.replicate m z := by
  subst hk
  rw [List.replicate_succ, List.set_append]
  simp
/-- A row of numbers of the call's own is written: the table stays. -/
theorem Tab.setRow {w : World} {base tb g k : Nat} {names : List ByteArray} {cur : Array Value} {e : TypeId} (h : Tab w base tb names) (hg : w.heap[g]? = some (.cells cur e (0, 0))) (h1 : e ≠ tTab) (h2 : e ≠ tStr) (u : Value) : Tab (w.setCell ⟨g, k, none⟩ u) base tb names := by
  obtain ⟨mb, v, D, hbt, hbm, hh, hown, hag, hv⟩ := h
  have n1 : tb ≠ g := by
    rintro rfl
    rw [hh] at hg; injection hg with hg; injection hg with _ ht; exact h1 ht.symm
  have n2 : mb ≠ g := by
    rintro rfl
    obtain ⟨es, clock, hb, _⟩ := hown
    rw [hg] at hb; cases hb
  have n3 : v.ownBlock ≠ some g := by
    intro hkv
    rcases hv.2 with ⟨rfl, _⟩ | ⟨g', cap, cur', rfl, _, hh', _⟩
    · simp [Value.ownBlock] at hkv
    · have : g' = g := by simpa [Value.ownBlock] using hkv
      subst this
      rw [hg] at hh'; injection hh' with hh'; injection hh' with _ ht; exact h2 ht
  refine ⟨mb, v, D, hbt, hbm, ?_, hown.setCell (a := ⟨g, k, none⟩) n2 u, hag, ownsRow_setCell_other hv n3 u⟩
  rw [Below.heap_setCell _ _ _ _ n1]; exact hh
theorem Tab.alloc {w : World} {base tb : Nat} {names : List ByteArray} (h : Tab w base tb names) (o : Obj) : Tab (w.alloc o) base tb names := by
  obtain ⟨mb, v, D, hbt, hbm, hh, hown, hag, hv⟩ := h
  exact ⟨mb, v, D, hbt, hbm, by rw [Below.heap_alloc _ _ _ (lt_of_block hh)]; exact hh, hown.alloc o, hag, hv.alloc o⟩
theorem Tab.size {w : World} {base tb : Nat} {names : List ByteArray} (h : Tab w base tb names) : base ≤ w.heap.size := by
  obtain ⟨mb, v, D, hbt, hbm, hh, _⟩ := h
  have := lt_of_block hh; omega
theorem keptO_alloc (w : World) (o : Obj) : KeptO w (w.alloc o) := fun k _ _ _ _ h => Below.heap_alloc w o k (lt_of_block h)
theorem KeptO.trans' {w w' w'' : World} (h : KeptO w w') (h' : ∀ k, k < w.heap.size → w''.heap[k]? = w'.heap[k]?) : KeptO w w'' := fun k cur e h1 h2 h3 =>
  (h' k (lt_of_block h3)).trans (h k cur e h1 h2 h3)
/-- What a visit of a list leaves: its numbers, in a new row. -/
def VisitedAll (w : World) (base tb : Nat) (names l : List ByteArray) (e : Ending) (w' : World) : Prop :=
  ∃ v, e = .returned v ∧ w'.ownsRow base tInt 1 v l.length (intsV (l.map fun s => (posN (namesA names l) s : Int))) ∧ (∃ g c, v = .slice (some ⟨g, 0, none⟩) l.length c) ∧ Tab w' base tb (namesA names l) ∧ Below base w w' ∧ KeptO w w'
set_option maxRecDepth 100000 in
set_option maxHeartbeats 2000000 in
theorem visitAll_any (tb base : Nat) (names l : List ByteArray) (u : Value) (w0 w : World) (hw0 : w0.heap.size = base) (hbl : Below base w0 w) (hr : RdV w0 u (stringsV l)) (hT : Tab w base tb names) (hs : ∀ s ∈ l, s.size ≤ maxLen) (hn : names.length ≤ 1000000) (hl : l.length ≤ 1000) :
    Calls Try.prog 56 #[.pointer (some ⟨tb, 0, none⟩), u] w (VisitedAll w base tb names l) := by
  obtain ⟨A, c, rfl, _, hA⟩ := hr
  have HA : Hid (∀ j (h : j < l.length), ∃ b off, A = some ⟨b, off, none⟩ ∧ w0.cell? ⟨b, off + j, none⟩ = some (.string l[j])) := Lib.hid (fun j h => by
    obtain ⟨b, off, e, hc⟩ := hA (by rw [stringsV_len]; omega)
    exact ⟨b, off, e, by rw [hc j (by rw [stringsV_len]; exact h)]; simp [stringsV]⟩)
  rw [stringsV_len]
  have HSz := Lib.hid hs
  have HNl : Hid (∀ j, (namesA names (l.take j)).length ≤ 1001000) := Lib.hid (fun j => by
    have h1 := namesA_len (l.take j) names
    have h2 : (l.take j).length ≤ l.length := List.length_take_le' ..
    omega)
  have HBl := Lib.hid hbl
  have hbase := hT.size
  have HT0 := Lib.hid hT
  have HEnd : Hid (∀ v e w', e = .returned v → w'.ownsRow base tInt 1 v l.length (intsV (l.map fun s => (posN (namesA names l) s : Int))) → (∃ g c, v = .slice (some ⟨g, 0, none⟩) l.length c) → Tab w' base tb (namesA names l) → Below base w w' → KeptO w w' → VisitedAll w base tb names l e w') := Lib.hid (fun v e w' h1 h2 h3 h4 h5 h6 => ⟨v, h1, h2, h3, h4, h5, h6⟩)
  clear hA hs hbl hT
  have hmk := run_make_row' (P := Try.prog) 22 tInt (.int .i64 0) 8 Try.underlying22 info_int rfl .i64 .i64 l.length (by omega) (by omega)
  have HF : Hid (∀ j (h : j < l.length), (posN (namesA names l) l[j] : Int) = posN (add (namesA names (l.take j)) l[j]) l[j]) := Lib.hid (fun j h => by
    have e : l = l.take j ++ l[j] :: l.drop (j + 1) := by rw [← List.drop_eq_getElem_cons h, List.take_append_drop]
    have h2 := posN_final (names := names) (l := l.take j) (r := l.drop (j + 1)) (s := l[j])
    rw [← e] at h2
    rw [h2])
  generalize hF : (fun s => (posN (namesA names l) s : Int)) = F at HEnd
  have HF2 : Hid (∀ j (h : j < l.length), F l[j] = posN (add (namesA names (l.take j)) l[j]) l[j]) := Lib.hid (fun j h => by rw [← hF]; exact HF.out j h)
  clear hF HF
  have HStart : Hid ((w.alloc (.cells (madeCells #[.int .i64 0] l.length) tInt)).ownsRow base tInt 1 (.slice (some ⟨w.heap.size, 0, none⟩) l.length l.length) l.length (intsV (((l.take 0).map F) ++ List.replicate (l.length - 0) 0))) := Lib.hid (by
    have h := World.ownsRow_lit (base := base) (e := tInt) (size := 1) w (madeCells #[.int .i64 0] l.length) l.length hbase (by unfold maxLen; omega) (by rw [size_madeCells]; omega)
    rw [toList_madeCells_one] at h
    simpa [intsV] using h)
  generalize hm : l.length = m at hl hmk HEnd HStart ⊢
  have HM := Lib.hid hm
  clear hm
  go_enter Try.func56, Try.ntmps56
  go_wp2_with fail
  go_loopw [13] (fun i wr => ∃ j : Nat, j ≤ m ∧ i = .int .i64 j ∧ Hid (Tab wr base tb (namesA names (l.take j))) ∧ Hid (wr.ownsRow base tInt 1 (.slice (some ⟨w.heap.size, 0, none⟩) m m) m (intsV (((l.take j).map F) ++ List.replicate (m - j) 0))) ∧ Below base w wr ∧ Hid (KeptO w wr)) (fun i _ => m - (intOf i).toNat)
  case atStart => exact ⟨0, Nat.zero_le _, rfl, Lib.hid (HT0.out.alloc _), HStart, (Below.refl _ _).alloc hbase _, Lib.hid (keptO_alloc _ _)⟩
  case round =>
    obtain ⟨j, hj, rfl, HT, HO, hnx, HK⟩ := hrel
    by_cases hlt : j < m
    · have hx : j < l.length := by rw [HM.out]; exact hlt
      obtain ⟨b, off, rfl, hc0⟩ := HA.out j hx
      have hc : wr.cell? ⟨b, off + j, none⟩ = some (.string l[j]) := ((HBl.out.trans hnx).cell (p := ⟨b, off + j, none⟩) (by have := Tx.cell_lt hc0; simp only at this ⊢; omega)).trans hc0
      have HV := Lib.hid (visit_any tb base (namesA names (l.take j)) l[j] wr HT.out (HSz.out _ (List.getElem_mem hx)) (HNl.out j))
      have HFj := Lib.hid (HF2.out j hx)
      have HTk : Hid (namesA names (l.take (j + 1)) = add (namesA names (l.take j)) l[j]) := Lib.hid (by rw [List.take_succ_eq_append_getElem hx, namesA_snoc])
      have HRow : Hid (intsV (((l.take (j + 1)).map F) ++ List.replicate (m - (j + 1)) 0) = (intsV (((l.take j).map F) ++ List.replicate (m - j) 0)).set j (.int .i64 (F l[j]))) := Lib.hid (by
        have e : m - j = (m - (j + 1)) + 1 := by omega
        have h := set_fill ((l.take j).map F) 0 (F l[j]) (m - (j + 1)) j (by rw [List.length_map, List.length_take]; omega)
        rw [e, show intsV ((l.take j).map F ++ List.replicate (m - (j + 1) + 1) 0) = ((l.take j).map F ++ List.replicate (m - (j + 1) + 1) 0).map (fun z => Value.int .i64 z) from rfl, ← List.map_set, h, List.take_succ_eq_append_getElem hx, List.map_append]
        rfl)
      clear hc0
      generalize l[j] = x at hc HV HFj HTk HRow
      generalize F x = z at HFj HRow
      generalize namesA names (l.take j) = cn at HV HFj HTk HT
      generalize intsV (((l.take j).map F) ++ List.replicate (m - j) 0) = row at HO HRow
      have HStep : Hid (∀ w1, Tab w1 base tb (add cn x) → Below base wr w1 → KeptO wr w1 → w1.frozen? ⟨w.heap.size, j, none⟩ = false ∧ (∃ y, w1.cell? ⟨w.heap.size, j, none⟩ = some y) ∧ Hid (w1.ownsRow base tInt 1 (.slice (some ⟨w.heap.size, 0, none⟩) m m) m row)) := Lib.hid (fun w1 _ _ h3 => by
        have h4 := KeptO.own HO.out h3 (by decide) (by decide)
        refine ⟨h4.frozenAt j, ?_, Lib.hid h4⟩
        have h5 := h4.cellAt j (by omega)
        have h6 := own_len h4
        exact ⟨row[j]'(by omega), by rw [h5, List.getElem?_eq_getElem (by omega)]⟩)
      have i1 : (0 : Int) ≤ (j : Int) := by omega
      have i2 : (j : Int) < (m : Int) := by omega
      go_wp2_with (go_at_call 69; refine HV.out.mono ?_; rintro e w1 ⟨rfl, ht1, hb1, hk1⟩; obtain ⟨f1, ⟨y1, c1⟩, HO1⟩ := HStep.out w1 ht1 hb1 hk1; have HT1 := Lib.hid ht1; have HB1 := Lib.hid hb1; have HK1 := Lib.hid hk1; clear ht1 hb1 hk1; rw [← HFj.out])
      go_roundw
      case rel =>
        have hst := HO1.out.stored j (.int .i64 z)
        obtain ⟨g, cap, cur, e0, hbg, hgg⟩ := own_some HO1.out (by omega)
        have hg : g = w.heap.size := by injection e0 with e1 _; injection e1 with e1; injection e1 with e1; exact e1.symm
        subst hg
        refine ⟨j + 1, by omega, by go_num, ?_, ?_, ?_, ?_⟩
        · rw [HTk.out]; exact Lib.hid (HT1.out.setRow hgg (by decide) (by decide) _)
        · rw [HRow.out]; exact Lib.hid hst.1
        · exact (hnx.trans HB1.out).setCell (p := ⟨w.heap.size, j, none⟩) hbase _
        · refine Lib.hid ((HK.out.trans HK1.out).trans' ?_)
          intro k hk
          exact Below.heap_setCell _ _ _ _ (by simp only; omega)
      case measure => simp [intOf]; omega
    · have HE : Hid (l.take j = l) := Lib.hid (List.take_of_length_le (by rw [HM.out]; omega))
      have hd : decide (j < m) = false := by simp only [decide_eq_false_iff_not]; omega
      have hjm : j = m := by omega
      have HJ : Hid ((m - j) = 0) := Lib.hid (by omega)
      clear hjm
      go_wp2_with fail
      go_ret
      refine HEnd.out _ _ _ rfl ?_ ⟨_, _, rfl⟩ ?_ hnx HK.out
      · have := HO.out
        rw [HE.out, HJ.out, List.replicate_zero, List.append_nil] at this
        exact this
      · rw [← HE.out]; rw [HE.out]; have := HT.out; rw [HE.out] at this; exact this
end Nt
end Go.Proofs.Ytlnjhacchnfbkaa

/-
  Walks of the program's visitAll, Ids and Names of layer 3. Conditions: strings that the machine can hold, short lists. Walks of the program's Ids and Names of layer 3. Conditions: strings that the machine can hold, short lists.
-/
import Derived.Test.YtlnghfmedkfkmaaGreatDoorGInternTab
import Derived.Deep.OwnRows
namespace Go.Proofs.YtlnghfmedkfkmaaGreatDoor
section
namespace Cm
end Cm
open Go.RowKit Go.Maps
namespace Nt
open Cm
theorem posN_final {names l r : List ByteArray} {s : ByteArray} : posN (namesA names (l ++ s :: r)) s = posN (add (namesA names l) s) s := by
  have e : l ++ s :: r = (l ++ [s]) ++ r := by simp
  rw [e, namesA_append, namesA_snoc]
  obtain ⟨t, ht⟩ := namesA_prefix r (add (namesA names l) s)
  rw [ht]
  exact posN_append ((mem_add _ _ _).2 (.inr rfl)) t
theorem set_fill {β : Type} (xs : List β) (z u : β) (m k : Nat) (hk : xs.length = k) : (xs ++ List.replicate (m + 1) z).set k u = xs ++ [u] ++ List.replicate m z := by
  subst hk
  rw [List.replicate_succ, List.set_append]
  simp
/-- A row of numbers of the call's own is written: the table stays. -/
theorem Tab.setRow {w : World} {base tb g k : Nat} {names : List ByteArray} {cur : Array Value} {e : TypeId} (h : Tab w base tb names) (hg : w.heap[g]? = some (.cells cur e (0, 0))) (h1 : e ≠ tTab) (h2 : e ≠ tStr) (u : Value) : Tab (w.setCell ⟨g, k, none⟩ u) base tb names := by
  obtain ⟨mb, v, D, hbt, hbm, hh, hown, hag, hv⟩ := h
  have n1 : tb ≠ g := by
    rintro rfl
    rw [hh] at hg; injection hg with hg; injection hg with _ ht; exact h1 ht.symm
  have n2 : mb ≠ g := by
    rintro rfl
    obtain ⟨es, clock, hb, _⟩ := hown
    rw [hg] at hb; cases hb
  have n3 : v.ownBlock ≠ some g := by
    intro hkv
    rcases hv.2 with ⟨rfl, _⟩ | ⟨g', cap, cur', rfl, _, hh', _⟩
    · simp [Value.ownBlock] at hkv
    · have : g' = g := by simpa [Value.ownBlock] using hkv
      subst this
      rw [hg] at hh'; injection hh' with hh'; injection hh' with _ ht; exact h2 ht
  refine ⟨mb, v, D, hbt, hbm, ?_, hown.setCell (a := ⟨g, k, none⟩) n2 u, hag, ownsRow_setCell_other hv n3 u⟩
  rw [Below.heap_setCell _ _ _ _ n1]; exact hh
theorem Tab.alloc {w : World} {base tb : Nat} {names : List ByteArray} (h : Tab w base tb names) (o : Obj) : Tab (w.alloc o) base tb names := by
  obtain ⟨mb, v, D, hbt, hbm, hh, hown, hag, hv⟩ := h
  exact ⟨mb, v, D, hbt, hbm, by rw [Below.heap_alloc _ _ _ (lt_of_block hh)]; exact hh, hown.alloc o, hag, hv.alloc o⟩
theorem Tab.size {w : World} {base tb : Nat} {names : List ByteArray} (h : Tab w base tb names) : base ≤ w.heap.size := by
  obtain ⟨mb, v, D, hbt, hbm, hh, _⟩ := h
  have := lt_of_block hh; omega
theorem keptO_alloc (w : World) (o : Obj) : KeptO w (w.alloc o) := fun k _ _ _ _ h => Below.heap_alloc w o k (lt_of_block h)
theorem KeptO.trans' {w w' w'' : World} (h : KeptO w w') (h' : ∀ k, k < w.heap.size → w''.heap[k]? = w'.heap[k]?) : KeptO w w'' := fun k cur e h1 h2 h3 =>
  (h' k (lt_of_block h3)).trans (h k cur e h1 h2 h3)
/-- What a visit of a list leaves: its numbers, in a new row. -/
def VisitedAll (w : World) (base tb : Nat) (names l : List ByteArray) (e : Ending) (w' : World) : Prop :=
  ∃ v, e = .returned v ∧ w'.ownsRow base tInt 1 v l.length (intsV (l.map fun s => (posN (namesA names l) s : Int))) ∧ (∃ g c, v = .slice (some ⟨g, 0, none⟩) l.length c) ∧ Tab w' base tb (namesA names l) ∧ Below base w w' ∧ KeptO w w'
set_option maxRecDepth 100000 in
set_option maxHeartbeats 2000000 in
theorem visitAll_any (tb base : Nat) (names l : List ByteArray) (u : Value) (w0 w : World) (hw0 : w0.heap.size = base) (hbl : Below base w0 w) (hr : RdV w0 u (stringsV l)) (hT : Tab w base tb names) (hs : ∀ s ∈ l, s.size ≤ maxLen) (hn : names.length ≤ 1000000) (hl : l.length ≤ 1000) :
    Calls Tryz.prog 137 #[.pointer (some ⟨tb, 0, none⟩), u] w (VisitedAll w base tb names l) := by
  obtain ⟨A, c, rfl, _, hA⟩ := hr
  have HA : Hid (∀ j (h : j < l.length), ∃ b off, A = some ⟨b, off, none⟩ ∧ w0.cell? ⟨b, off + j, none⟩ = some (.string l[j])) := Lib.hid (fun j h => by
    obtain ⟨b, off, e, hc⟩ := hA (by rw [stringsV_len]; omega)
    exact ⟨b, off, e, by rw [hc j (by rw [stringsV_len]; exact h)]; simp [stringsV]⟩)
  rw [stringsV_len]
  have HSz := Lib.hid hs
  have HNl : Hid (∀ j, (namesA names (l.take j)).length ≤ 1001000) := Lib.hid (fun j => by
    have h1 := namesA_len (l.take j) names
    have h2 : (l.take j).length ≤ l.length := List.length_take_le' ..
    omega)
  have HBl := Lib.hid hbl
  have hbase := hT.size
  have HT0 := Lib.hid hT
  have HEnd : Hid (∀ v e w', e = .returned v → w'.ownsRow base tInt 1 v l.length (intsV (l.map fun s => (posN (namesA names l) s : Int))) → (∃ g c, v = .slice (some ⟨g, 0, none⟩) l.length c) → Tab w' base tb (namesA names l) → Below base w w' → KeptO w w' → VisitedAll w base tb names l e w') := Lib.hid (fun v e w' h1 h2 h3 h4 h5 h6 => ⟨v, h1, h2, h3, h4, h5, h6⟩)
  clear hA hs hbl hT
  have hmk := run_make_row' (P := Tryz.prog) 22 tInt (.int .i64 0) 8 Tryz.underlying22 info_int rfl .i64 .i64 l.length (by omega) (by omega)
  have HF : Hid (∀ j (h : j < l.length), (posN (namesA names l) l[j] : Int) = posN (add (namesA names (l.take j)) l[j]) l[j]) := Lib.hid (fun j h => by
    have e : l = l.take j ++ l[j] :: l.drop (j + 1) := by rw [← List.drop_eq_getElem_cons h, List.take_append_drop]
    have h2 := posN_final (names := names) (l := l.take j) (r := l.drop (j + 1)) (s := l[j])
    rw [← e] at h2
    rw [h2])
  generalize hF : (fun s => (posN (namesA names l) s : Int)) = F at HEnd
  have HF2 : Hid (∀ j (h : j < l.length), F l[j] = posN (add (namesA names (l.take j)) l[j]) l[j]) := Lib.hid (fun j h => by rw [← hF]; exact HF.out j h)
  clear hF HF
  have HStart : Hid ((w.alloc (.cells (madeCells #[.int .i64 0] l.length) tInt)).ownsRow base tInt 1 (.slice (some ⟨w.heap.size, 0, none⟩) l.length l.length) l.length (intsV (((l.take 0).map F) ++ List.replicate (l.length - 0) 0))) := Lib.hid (by
    have h := World.ownsRow_lit (base := base) (e := tInt) (size := 1) w (madeCells #[.int .i64 0] l.length) l.length hbase (by unfold maxLen; omega) (by rw [size_madeCells]; omega)
    rw [toList_madeCells_one] at h
    simpa [intsV] using h)
  generalize hm : l.length = m at hl hmk HEnd HStart ⊢
  have HM := Lib.hid hm
  clear hm
  go_enter Tryz.func137, Tryz.ntmps137
  go_wp2_with fail
  go_loopw [13] (fun i wr => ∃ j : Nat, j ≤ m ∧ i = .int .i64 j ∧ Hid (Tab wr base tb (namesA names (l.take j))) ∧ Hid (wr.ownsRow base tInt 1 (.slice (some ⟨w.heap.size, 0, none⟩) m m) m (intsV (((l.take j).map F) ++ List.replicate (m - j) 0))) ∧ Below base w wr ∧ Hid (KeptO w wr)) (fun i _ => m - (intOf i).toNat)
  case atStart => exact ⟨0, Nat.zero_le _, rfl, Lib.hid (HT0.out.alloc _), HStart, (Below.refl _ _).alloc hbase _, Lib.hid (keptO_alloc _ _)⟩
  case round =>
    obtain ⟨j, hj, rfl, HT, HO, hnx, HK⟩ := hrel
    by_cases hlt : j < m
    · have hx : j < l.length := by rw [HM.out]; exact hlt
      obtain ⟨b, off, rfl, hc0⟩ := HA.out j hx
      have hc : wr.cell? ⟨b, off + j, none⟩ = some (.string l[j]) := ((HBl.out.trans hnx).cell (p := ⟨b, off + j, none⟩) (by have := Tx.cell_lt hc0; simp only at this ⊢; omega)).trans hc0
      have HV := Lib.hid (visit_any tb base (namesA names (l.take j)) l[j] wr HT.out (HSz.out _ (List.getElem_mem hx)) (HNl.out j))
      have HFj := Lib.hid (HF2.out j hx)
      have HTk : Hid (namesA names (l.take (j + 1)) = add (namesA names (l.take j)) l[j]) := Lib.hid (by rw [List.take_succ_eq_append_getElem hx, namesA_snoc])
      have HRow : Hid (intsV (((l.take (j + 1)).map F) ++ List.replicate (m - (j + 1)) 0) = (intsV (((l.take j).map F) ++ List.replicate (m - j) 0)).set j (.int .i64 (F l[j]))) := Lib.hid (by
        have e : m - j = (m - (j + 1)) + 1 := by omega
        have h := set_fill ((l.take j).map F) 0 (F l[j]) (m - (j + 1)) j (by rw [List.length_map, List.length_take]; omega)
        rw [e, show intsV ((l.take j).map F ++ List.replicate (m - (j + 1) + 1) 0) = ((l.take j).map F ++ List.replicate (m - (j + 1) + 1) 0).map (fun z => Value.int .i64 z) from rfl, ← List.map_set, h, List.take_succ_eq_append_getElem hx, List.map_append]
        rfl)
      clear hc0
      generalize l[j] = x at hc HV HFj HTk HRow
      generalize F x = z at HFj HRow
      generalize namesA names (l.take j) = cn at HV HFj HTk HT
      generalize intsV (((l.take j).map F) ++ List.replicate (m - j) 0) = row at HO HRow
      have HStep : Hid (∀ w1, Tab w1 base tb (add cn x) → Below base wr w1 → KeptO wr w1 → w1.frozen? ⟨w.heap.size, j, none⟩ = false ∧ (∃ y, w1.cell? ⟨w.heap.size, j, none⟩ = some y) ∧ Hid (w1.ownsRow base tInt 1 (.slice (some ⟨w.heap.size, 0, none⟩) m m) m row)) := Lib.hid (fun w1 _ _ h3 => by
        have h4 := KeptO.own HO.out h3 (by decide) (by decide)
        refine ⟨h4.frozenAt j, ?_, Lib.hid h4⟩
        have h5 := h4.cellAt j (by omega)
        have h6 := own_len h4
        exact ⟨row[j]'(by omega), by rw [h5, List.getElem?_eq_getElem (by omega)]⟩)
      have i1 : (0 : Int) ≤ (j : Int) := by omega
      have i2 : (j : Int) < (m : Int) := by omega
      go_wp2_with (go_at_call 160; refine HV.out.mono ?_; rintro e w1 ⟨rfl, ht1, hb1, hk1⟩; obtain ⟨f1, ⟨y1, c1⟩, HO1⟩ := HStep.out w1 ht1 hb1 hk1; have HT1 := Lib.hid ht1; have HB1 := Lib.hid hb1; have HK1 := Lib.hid hk1; clear ht1 hb1 hk1; rw [← HFj.out])
      go_roundw
      case rel =>
        have hst := HO1.out.stored j (.int .i64 z)
        obtain ⟨g, cap, cur, e0, hbg, hgg⟩ := own_some HO1.out (by omega)
        have hg : g = w.heap.size := by injection e0 with e1 _; injection e1 with e1; injection e1 with e1; exact e1.symm
        subst hg
        refine ⟨j + 1, by omega, by go_num, ?_, ?_, ?_, ?_⟩
        · rw [HTk.out]; exact Lib.hid (HT1.out.setRow hgg (by decide) (by decide) _)
        · rw [HRow.out]; exact Lib.hid hst.1
        · exact (hnx.trans HB1.out).setCell (p := ⟨w.heap.size, j, none⟩) hbase _
        · refine Lib.hid ((HK.out.trans HK1.out).trans' ?_)
          intro k hk
          exact Below.heap_setCell _ _ _ _ (by simp only; omega)
      case measure => simp [intOf]; omega
    · have HE : Hid (l.take j = l) := Lib.hid (List.take_of_length_le (by rw [HM.out]; omega))
      have hd : decide (j < m) = false := by simp only [decide_eq_false_iff_not]; omega
      have hjm : j = m := by omega
      have HJ : Hid ((m - j) = 0) := Lib.hid (by omega)
      clear hjm
      go_wp2_with fail
      go_ret
      refine HEnd.out _ _ _ rfl ?_ ⟨_, _, rfl⟩ ?_ hnx HK.out
      · have := HO.out
        rw [HE.out, HJ.out, List.replicate_zero, List.append_nil] at this
        exact this
      · rw [← HE.out]; rw [HE.out]; have := HT.out; rw [HE.out] at this; exact this
end Nt
end
section
namespace Cm
end Cm
open Go.RowKit Go.Maps
namespace Nt
open Cm
abbrev tInts : TypeId := 22
/-- The first lists are laid, the others are nil. -/
def HalfLL (w : World) (base g n : Nat) (lss : List (List Int)) : Prop :=
  ∃ us : List Value, us.length = lss.length ∧ w.ownsRow base tInts 1 (.slice (some ⟨g, 0, none⟩) n n) n (us ++ List.replicate (n - lss.length) (.slice none 0 0)) ∧
    ∀ j (h1 : j < us.length) (h2 : j < lss.length), w.ownsRow base tInt 1 us[j] lss[j].length (intsV lss[j])
theorem HalfLL.kept {w w' : World} {base g n : Nat} {lss : List (List Int)} (h : HalfLL w base g n lss) (hk : KeptO w w') : HalfLL w' base g n lss := by
  obtain ⟨us, h1, h2, h3⟩ := h
  exact ⟨us, h1, KeptO.own h2 hk (by decide) (by decide), fun j a b => KeptO.own (h3 j a b) hk (by decide) (by decide)⟩
theorem own_notBlock {w : World} {base g n : Nat} {e e' : TypeId} {v : Value} {xs : List Value} {cu : Array Value} (h : w.ownsRow base e 1 v n xs) (hg : w.heap[g]? = some (.cells cu e' (0, 0))) (hne : e ≠ e') : v.ownBlock ≠ some g := by
  intro hkv
  rcases h.2 with ⟨rfl, _⟩ | ⟨g', cap, cur', rfl, _, hh', _⟩
  · simp [Value.ownBlock] at hkv
  · have : g' = g := by simpa [Value.ownBlock] using hkv
    subst this
    rw [hg] at hh'; injection hh' with hh'; injection hh' with _ ht; exact hne ht.symm
theorem HalfLL.block {w : World} {base g n : Nat} {lss : List (List Int)} (h : HalfLL w base g n lss) (hn : 0 < n) : ∃ cur, base ≤ g ∧ w.heap[g]? = some (.cells cur tInts (0, 0)) := by
  obtain ⟨us, _, h2, _⟩ := h
  obtain ⟨g', c, cur, e, hb, hh⟩ := own_some h2 hn
  have : g' = g := by injection e with e1 _; injection e1 with e1; injection e1 with e1; exact e1.symm
  subst this
  exact ⟨cur, hb, hh⟩
theorem HalfLL.set {w : World} {base g n k : Nat} {lss : List (List Int)} {u : Value} {l : List Int} (h : HalfLL w base g n lss) (hk : lss.length = k) (hl : k < n) (hu : w.ownsRow base tInt 1 u l.length (intsV l)) : HalfLL (w.setCell ⟨g, k, none⟩ u) base g n (lss ++ [l]) := by
  obtain ⟨cur, hbg, hg⟩ := h.block (by omega)
  obtain ⟨us, h1, h2, h3⟩ := h
  refine ⟨us ++ [u], by simp [h1], ?_, fun j a b => ?_⟩
  · have hst := (h2.stored k u).1
    have e : n - lss.length = (n - (lss ++ [l]).length) + 1 := by rw [List.length_append, List.length_singleton]; omega
    rw [e, set_fill us _ u _ k (by omega)] at hst
    exact hst
  · by_cases hj : j < us.length
    · have e1 : (us ++ [u])[j] = us[j] := List.getElem_append_left hj
      have e2 : (lss ++ [l])[j] = lss[j]'(by omega) := List.getElem_append_left (by omega)
      rw [e1, e2]
      have hr := h3 j hj (by omega)
      exact ownsRow_setCell_other hr (own_notBlock hr hg (by decide)) u
    · have hj2 : j = us.length := by rw [List.length_append, List.length_singleton] at a; omega
      subst hj2
      have e1 : (us ++ [u])[us.length] = u := by simp
      have e2 : (lss ++ [l])[us.length] = l := by simp [h1]
      rw [e1, e2]
      exact ownsRow_setCell_other hu (own_notBlock hu hg (by decide)) u
theorem HalfLL.done {w : World} {base g n : Nat} {lss : List (List Int)} (h : HalfLL w base g n lss) (hl : lss.length = n) : OwnLL w base (.slice (some ⟨g, 0, none⟩) n n) lss := by
  obtain ⟨us, h1, h2, h3⟩ := h
  rw [hl, Nat.sub_self, List.replicate_zero, List.append_nil] at h2
  exact ⟨us, h1, by rw [h1, hl]; exact h2, h3⟩
theorem HalfLL.start {w : World} {base n : Nat} (hb : base ≤ w.heap.size) (hn : n ≤ maxLen) : HalfLL (w.alloc (.cells (madeCells #[.slice none 0 0] n) tInts)) base w.heap.size n [] := by
  refine ⟨[], rfl, ?_, fun j a b => absurd b (Nat.not_lt_zero _)⟩
  have h := World.ownsRow_lit (base := base) (e := tInts) (size := 1) w (madeCells #[.slice none 0 0] n) n hb hn (by rw [size_madeCells]; omega)
  rw [toList_madeCells_one] at h
  simpa using h
theorem placeI_final {fs : List (List ByteArray)} {j : Nat} (h : j < fs.length) : (fs[j].map fun s => (posN (namesA (namesA [] (fs.take j).flatten) fs[j]) s : Int)) = fs[j].map (placeI (namesF fs)) := by
  refine List.map_congr_left fun s hs => ?_
  have hf : namesF fs = namesA (namesA (namesA [] (fs.take j).flatten) fs[j]) (fs.drop (j + 1)).flatten := by
    unfold namesF
    have e : fs = fs.take j ++ fs[j] :: fs.drop (j + 1) := by rw [← List.drop_eq_getElem_cons h, List.take_append_drop]
    have e2 : fs.flatten = (fs.take j).flatten ++ (fs[j] ++ (fs.drop (j + 1)).flatten) := by
      have h2 := congrArg List.flatten e
      rw [List.flatten_append, List.flatten_cons] at h2
      exact h2
    rw [← namesA_append, ← namesA_append, e2]
  have hm : s ∈ namesA (namesA [] (fs.take j).flatten) fs[j] := (mem_namesA _ _ _).2 (.inr hs)
  obtain ⟨t, ht⟩ := namesA_prefix (fs.drop (j + 1)).flatten (namesA (namesA [] (fs.take j).flatten) fs[j])
  rw [hf, ht, placeI_prefix hm]
  unfold placeI
  rw [if_pos hm]
set_option maxRecDepth 100000 in
set_option maxHeartbeats 2000000 in
theorem Ids_any (u : Value) (fs : List (List ByteArray)) (w : World) (hr : RdLL w u (fs.map stringsV)) (hl : fs.length ≤ 1000) (hll : ∀ f ∈ fs, f.length ≤ 1000) (hsz : ∀ f ∈ fs, ∀ s ∈ f, s.size ≤ maxLen) :
    Calls Tryz.prog 100 #[u] w (NewLL w (idsF fs)) := by
  have HNT := Lib.hid (newTable_any w)
  obtain ⟨us, ⟨A, c, rfl, _, hA⟩, hul, hue⟩ := hr
  rw [List.length_map] at hul
  have HA : Hid (∀ j (h : j < fs.length), ∃ b off x, A = some ⟨b, off, none⟩ ∧ w.cell? ⟨b, off + j, none⟩ = some x ∧ RdV w x (stringsV fs[j])) := Lib.hid (fun j h => by
    obtain ⟨b, off, e, hc⟩ := hA (by omega)
    have h2 := hue j (by omega) (by rw [List.length_map]; exact h)
    rw [List.getElem_map] at h2
    exact ⟨b, off, _, e, hc j (by omega), h2⟩)
  have HLL := Lib.hid hll
  have HSz := Lib.hid hsz
  have hnames : ∀ j, (namesA [] (fs.take j).flatten).length ≤ 1000000 := fun j => by
    have h1 := namesA_len (fs.take j).flatten ([] : List ByteArray)
    have h2 := flat_bound (fs.take j) 1000 (fun f hf => hll f (List.mem_of_mem_take hf))
    have h3 : (fs.take j).length ≤ fs.length := List.length_take_le' ..
    simp only [List.length_nil] at h1; omega
  have HNl := Lib.hid hnames
  have HEnd : Hid (∀ v e w', e = .returned v → OwnLL w' w.heap.size v (fs.map fun f => f.map (placeI (namesF fs))) → Below w.heap.size w w' → NewLL w (idsF fs) e w') := Lib.hid (fun v e w' h1 h2 h3 => ⟨v, h1, h2, h3⟩)
  have HF : Hid (∀ j (h : j < fs.length), (fs[j].map fun s => (posN (namesA (namesA [] (fs.take j).flatten) fs[j]) s : Int)) = fs[j].map (placeI (namesF fs))) := Lib.hid (fun j h => placeI_final h)
  generalize placeI (namesF fs) = F at HEnd HF
  rw [hul]
  clear hA hue hll hsz hnames hul
  have hmk := run_make_row' (P := Tryz.prog) 83 tInts (.slice none 0 0) 24 Tryz.underlying83 info_ints rfl .i64 .i64 fs.length (by omega) (by omega)
  generalize hm : fs.length = m at hl hmk ⊢
  have HM := Lib.hid hm
  clear hm
  go_enter Tryz.func100, Tryz.ntmps100
  go_wp2_with (go_at_call 136; refine HNT.out.mono ?_; rintro e w1 ⟨tb, rfl, ht, hb1⟩; have HT1 := Lib.hid ht; have HB1 := Lib.hid hb1; clear ht hb1)
  have hbase := HT1.out.size
  go_loopw [13] (fun i wr => ∃ j : Nat, j ≤ m ∧ i = .int .i64 j ∧ Hid (Tab wr w.heap.size tb (namesA [] (fs.take j).flatten)) ∧ Hid (HalfLL wr w.heap.size w1.heap.size m ((fs.take j).map fun f => f.map F)) ∧ Below w.heap.size w wr) (fun i _ => m - (intOf i).toNat)
  case atStart => exact ⟨0, Nat.zero_le _, rfl, Lib.hid (HT1.out.alloc _), Lib.hid (HalfLL.start hbase (by unfold maxLen; omega)), HB1.out.alloc hbase _⟩
  case round =>
    obtain ⟨j, hj, rfl, HT, HO, hnx⟩ := hrel
    by_cases hlt : j < m
    · have hx : j < fs.length := by rw [HM.out]; exact hlt
      obtain ⟨b, off, x, rfl, hc0, hrx⟩ := HA.out j hx
      have hc : wr.cell? ⟨b, off + j, none⟩ = some x := (hnx.cell (p := ⟨b, off + j, none⟩) (Tx.cell_lt hc0)).trans hc0
      have HV := Lib.hid (visitAll_any tb w.heap.size (namesA [] (fs.take j).flatten) fs[j] x w wr rfl hnx hrx HT.out (HSz.out _ (List.getElem_mem hx)) (HNl.out j) (HLL.out _ (List.getElem_mem hx)))
      have HFj := Lib.hid (HF.out j hx)
      have HTk : Hid (namesA [] (fs.take (j + 1)).flatten = namesA (namesA [] (fs.take j).flatten) fs[j]) := Lib.hid (by rw [flat_succ fs j hx, namesA_append])
      have HRow : Hid ((fs.take (j + 1)).map (fun f => f.map F) = (fs.take j).map (fun f => f.map F) ++ [fs[j].map F]) := Lib.hid (by rw [List.take_succ_eq_append_getElem hx, List.map_append]; rfl)
      have HLt : Hid (((fs.take j).map (fun f => f.map F)).length = j) := Lib.hid (by rw [List.length_map, List.length_take]; omega)
      obtain ⟨Ax, cx, hxe⟩ := hrx.form
      rw [stringsV_len] at hxe
      clear hc0 hrx
      generalize fs[j] = f at HV HFj HTk HRow hxe
      generalize hfl : f.length = fl at hxe
      have HFl := Lib.hid hfl
      clear hfl
      subst hxe
      generalize (fs.take j).map (fun f => f.map F) = done at HO HRow HLt
      generalize namesA [] (fs.take j).flatten = cn at HV HFj HTk HT
      have HStep : Hid (∀ w2, KeptO wr w2 → w2.frozen? ⟨w1.heap.size, j, none⟩ = false ∧ (∃ y, w2.cell? ⟨w1.heap.size, j, none⟩ = some y) ∧ HalfLL w2 w.heap.size w1.heap.size m done) := Lib.hid (fun w2 h3 => by
        have h4 := HO.out.kept h3
        obtain ⟨us', h5, h6, h7⟩ := h4
        refine ⟨h6.frozenAt j, ?_, ⟨us', h5, h6, h7⟩⟩
        have h8 := h6.cellAt j (by omega)
        have h9 := own_len h6
        exact ⟨_, by rw [h8, List.getElem?_eq_getElem (by omega)]⟩)
      have i1 : (0 : Int) ≤ (j : Int) := by omega
      have i2 : (j : Int) < (m : Int) := by omega
      go_wp2_with (go_at_call 137; refine HV.out.mono ?_; rintro e w2 ⟨v2, rfl, ho2, ⟨g2, c2, rfl⟩, ht2, hb2, hk2⟩; obtain ⟨f2, ⟨y2, c2'⟩, hh2⟩ := HStep.out w2 hk2; have HO2 := Lib.hid ho2; have HT2 := Lib.hid ht2; have HB2 := Lib.hid hb2; have HH2 := Lib.hid hh2; clear ho2 ht2 hb2 hk2 hh2)
      go_roundw
      case rel =>
        obtain ⟨cur, hbg, hgg⟩ := HH2.out.block (by omega)
        have hu := HO2.out
        rw [HFj.out] at hu
        have hset := HH2.out.set HLt.out hlt (l := f.map F) (u := .slice (some ⟨g2, 0, none⟩) f.length c2) (by rw [List.length_map]; exact hu)
        refine ⟨j + 1, by omega, by go_num, ?_, ?_, ?_⟩
        · rw [HTk.out]; exact Lib.hid (HT2.out.setRow hgg (by decide) (by decide) _)
        · rw [HRow.out]; exact Lib.hid hset
        · exact (hnx.trans HB2.out).setCell (p := ⟨w1.heap.size, j, none⟩) hbase _
      case measure => simp [intOf]; omega
    · have HE : Hid (fs.take j = fs) := Lib.hid (List.take_of_length_le (by rw [HM.out]; omega))
      have hd : decide (j < m) = false := by simp only [decide_eq_false_iff_not]; omega
      go_wp2_with fail
      go_ret
      refine HEnd.out _ _ _ rfl ?_ hnx
      have h := HO.out
      rw [HE.out] at h
      exact h.done (by rw [List.length_map, HM.out])
end Nt
end
end Go.Proofs.YtlnghfmedkfkmaaGreatDoor

/-
  Walks of the program's Ids and Names of layer 3. Conditions: strings that the machine can hold, short lists.
-/
import Derived.Test.YtlnjhacchnfbkaaInternVisitAll
namespace Go.Proofs.Ytlnjhacchnfbkaa
open Go.RowKit Go.Maps
namespace Nt
open Cm
abbrev tInts : TypeId := 22
/-- The first lists are laid, the others are nil. -/
def HalfLL (w : World) (base g n : Nat) (lss : List (List Int)) : Prop :=
  ∃ us : List Value, us.length = lss.length ∧ w.ownsRow base tInts 1 (.slice (some ⟨g, 0, none⟩) n n) n (us ++ List.replicate (n - lss.length) (.slice none 0 0)) ∧
    ∀ j (h1 : j < us.length) (h2 : j < lss.length), w.ownsRow base tInt 1 us[j] lss[j].length (intsV lss[j])
theorem HalfLL.kept {w w' : World} {base g n : Nat} {lss : List (List Int)} (h : HalfLL w base g n lss) (hk : KeptO w w') : HalfLL w' base g n lss := by
  obtain ⟨us, h1, h2, h3⟩ := h
  exact ⟨us, h1, KeptO.own h2 hk (by decide) (by decide), fun j a b => KeptO.own (h3 j a b) hk (by decide) (by decide)⟩
theorem own_notBlock {w : World} {base g n : Nat} {e e' : TypeId} {v : Value} {xs : List Value} {cu : Array Value} (h : w.ownsRow base e 1 v n xs) (hg : w.heap[g]? = some (.cells cu e' (0, 0))) (hne : e ≠ e') : v.ownBlock ≠ some g := by
  intro hkv
  rcases h.2 with ⟨rfl, _⟩ | ⟨g', cap, cur', rfl, _, hh', _⟩
  · simp [Value.ownBlock] at hkv
  · have : g' = g := by simpa [Value.ownBlock] using hkv
    subst this
    rw [hg] at hh'; injection hh' with hh'; injection hh' with _ ht; exact hne ht.symm
theorem HalfLL.block {w : World} {base g n : Nat} {lss : List (List Int)} (h : HalfLL w base g n lss) (hn : 0 < n) : ∃ cur, base ≤ g ∧ w.heap[g]? = some (.cells cur tInts (0, 0)) := by
  obtain ⟨us, _, h2, _⟩ := h
  obtain ⟨g', c, cur, e, hb, hh⟩ := own_some h2 hn
  have : g' = g := by injection e with e1 _; injection e1 with e1; injection e1 with e1; exact e1.symm
  subst this
  exact ⟨cur, hb, hh⟩
theorem HalfLL.set {w : World} {base g n k : Nat} {lss : List (List Int)} {u : Value} {l : List Int} (h : HalfLL w base g n lss) (hk : lss.length = k) (hl : k < n) (hu : w.ownsRow base tInt 1 u l.length (intsV l)) : HalfLL (w.setCell ⟨g, k, none⟩ u) base g n (lss ++ [l]) := by
  obtain ⟨cur, hbg, hg⟩ := h.block (by omega)
  obtain ⟨us, h1, h2, h3⟩ := h
  refine ⟨us ++ [u], by simp [h1], ?_, fun j a b => ?_⟩
  · have hst := (h2.stored k u).1
    have e : n - lss.length = (n - (lss ++ [l]).length) + 1 := by rw [List.length_append, List.length_singleton]; omega
    rw [e, set_fill us _ u _ k (by omega)] at hst
    exact hst
  · by_cases hj : j < us.length
    · have e1 : (us ++ [u])[j] = us[j] := List.getElem_append_left hj
      have e2 : (lss ++ [l])[j] = lss[j]'(by omega) := List.getElem_append_left (by omega)
      rw [e1, e2]
      have hr := h3 j hj (by omega)
      exact ownsRow_setCell_other hr (own_notBlock hr hg (by decide)) u
    · have hj2 : j = us.length := by rw [List.length_append, List.length_singleton] at a; omega
      subst hj2
      have e1 : (us ++ [u])[us.length] = u := by simp
      have e2 : (lss ++ [l])[us.length] = l := by simp [h1]
      rw [e1, e2]
      exact ownsRow_setCell_other hu (own_notBlock hu hg (by decide)) u
theorem HalfLL.done {w : World} {base g n : Nat} {lss : List (List Int)} (h : HalfLL w base g n lss) (hl : lss.length = n) : OwnLL w base (.slice (some ⟨g, 0, none⟩) n n) lss := by
  obtain ⟨us, h1, h2, h3⟩ := h
  rw [hl, Nat.sub_self, List.replicate_zero, List.append_nil] at h2
  exact ⟨us, h1, by rw [h1, hl]; exact h2, h3⟩
theorem HalfLL.start {w : World} {base n : Nat} (hb : base ≤ w.heap.size) (hn : n ≤ maxLen) : HalfLL (w.alloc (.cells (madeCells #[.slice none 0 0] n) tInts)) base w.heap.size n [] := by
  refine ⟨[], rfl, ?_, fun j a b => absurd b (Nat.not_lt_zero _)⟩
  have h := World.ownsRow_lit (base := base) (e := tInts) (size := 1) w (madeCells #[.slice none 0 0] n) n hb hn (by rw [size_madeCells]; omega)
  rw [toList_madeCells_one] at h
  simpa using h
theorem placeI_final {fs : List (List ByteArray)} {j : Nat} (h : j < fs.length) : (fs[j].map fun s => (posN (namesA (namesA [] (fs.take j).flatten) fs[j]) s : Int)) = fs[j].map (placeI (namesF fs)) := by
  refine List.map_congr_left fun s hs => ?_
  have hf : namesF fs = namesA (namesA (namesA [] (fs.take j).flatten) fs[j]) (fs.drop (j + 1)).flatten := by
    unfold namesF
    have e : fs = fs.take j ++ fs[j] :: fs.drop (j + 1) := by rw [← List.drop_eq_getElem_cons h, List.take_append_drop]
    have e2 : fs.flatten = (fs.take j).flatten ++ (fs[j] ++ (fs.drop (j + 1)).flatten) := by
      have h2 := congrArg List.flatten e
      rw [List.flatten_append, List.flatten_cons] at h2
      exact h2
    rw [← namesA_append, ← namesA_append, e2]
  have hm : s ∈ namesA (namesA [] (fs.take j).flatten) fs[j] := (mem_namesA _ _ _).2 (.inr hs)
  obtain ⟨t, ht⟩ := namesA_prefix (fs.drop (j + 1)).flatten (namesA (namesA [] (fs.take j).flatten) fs[j])
  rw [hf, ht, placeI_prefix hm]
  unfold placeI
  rw [if_pos hm]
set_option maxRecDepth 100000 in
set_option maxHeartbeats 2000000 in
theorem Ids_any (u : Value) (fs : List (List ByteArray)) (w : World) (hr : RdLL w u (fs.map stringsV)) (hl : fs.length ≤ 1000) (hll : ∀ f ∈ fs, f.length ≤ 1000) (hsz : ∀ f ∈ fs, ∀ s ∈ f, s.size ≤ maxLen) :
    Calls Try.prog 39 #[u] w (NewLL w (idsF fs)) := by
  have HNT := Lib.hid (newTable_any w)
  obtain ⟨us, ⟨A, c, rfl, _, hA⟩, hul, hue⟩ := hr
  rw [List.length_map] at hul
  have HA : Hid (∀ j (h : j < fs.length), ∃ b off x, A = some ⟨b, off, none⟩ ∧ w.cell? ⟨b, off + j, none⟩ = some x ∧ RdV w x (stringsV fs[j])) := Lib.hid (fun j h => by
    obtain ⟨b, off, e, hc⟩ := hA (by omega)
    have h2 := hue j (by omega) (by rw [List.length_map]; exact h)
    rw [List.getElem_map] at h2
    exact ⟨b, off, _, e, hc j (by omega), h2⟩)
  have HLL := Lib.hid hll
  have HSz := Lib.hid hsz
  have hnames : ∀ j, (namesA [] (fs.take j).flatten).length ≤ 1000000 := fun j => by
    have h1 := namesA_len (fs.take j).flatten ([] : List ByteArray)
    have h2 := flat_bound (fs.take j) 1000 (fun f hf => hll f (List.mem_of_mem_take hf))
    have h3 : (fs.take j).length ≤ fs.length := List.length_take_le' ..
    simp only [List.length_nil] at h1; omega
  have HNl := Lib.hid hnames
  have HEnd : Hid (∀ v e w', e = .returned v → OwnLL w' w.heap.size v (fs.map fun f => f.map (placeI (namesF fs))) → Below w.heap.size w w' → NewLL w (idsF fs) e w') := Lib.hid (fun v e w' h1 h2 h3 => ⟨v, h1, h2, h3⟩)
  have HF : Hid (∀ j (h : j < fs.length), (fs[j].map fun s => (posN (namesA (namesA [] (fs.take j).flatten) fs[j]) s : Int)) = fs[j].map (placeI (namesF fs))) := Lib.hid (fun j h => placeI_final h)
  generalize placeI (namesF fs) = F at HEnd HF
  rw [hul]
  clear hA hue hll hsz hnames hul
  have hmk := run_make_row' (P := Try.prog) 50 tInts (.slice none 0 0) 24 Try.underlying50 info_ints rfl .i64 .i64 fs.length (by omega) (by omega)
  generalize hm : fs.length = m at hl hmk ⊢
  have HM := Lib.hid hm
  clear hm
  go_enter Try.func39, Try.ntmps39
  go_wp2_with (go_at_call 55; refine HNT.out.mono ?_; rintro e w1 ⟨tb, rfl, ht, hb1⟩; have HT1 := Lib.hid ht; have HB1 := Lib.hid hb1; clear ht hb1)
  have hbase := HT1.out.size
  go_loopw [13] (fun i wr => ∃ j : Nat, j ≤ m ∧ i = .int .i64 j ∧ Hid (Tab wr w.heap.size tb (namesA [] (fs.take j).flatten)) ∧ Hid (HalfLL wr w.heap.size w1.heap.size m ((fs.take j).map fun f => f.map F)) ∧ Below w.heap.size w wr) (fun i _ => m - (intOf i).toNat)
  case atStart => exact ⟨0, Nat.zero_le _, rfl, Lib.hid (HT1.out.alloc _), Lib.hid (HalfLL.start hbase (by unfold maxLen; omega)), HB1.out.alloc hbase _⟩
  case round =>
    obtain ⟨j, hj, rfl, HT, HO, hnx⟩ := hrel
    by_cases hlt : j < m
    · have hx : j < fs.length := by rw [HM.out]; exact hlt
      obtain ⟨b, off, x, rfl, hc0, hrx⟩ := HA.out j hx
      have hc : wr.cell? ⟨b, off + j, none⟩ = some x := (hnx.cell (p := ⟨b, off + j, none⟩) (Tx.cell_lt hc0)).trans hc0
      have HV := Lib.hid (visitAll_any tb w.heap.size (namesA [] (fs.take j).flatten) fs[j] x w wr rfl hnx hrx HT.out (HSz.out _ (List.getElem_mem hx)) (HNl.out j) (HLL.out _ (List.getElem_mem hx)))
      have HFj := Lib.hid (HF.out j hx)
      have HTk : Hid (namesA [] (fs.take (j + 1)).flatten = namesA (namesA [] (fs.take j).flatten) fs[j]) := Lib.hid (by rw [flat_succ fs j hx, namesA_append])
      have HRow : Hid ((fs.take (j + 1)).map (fun f => f.map F) = (fs.take j).map (fun f => f.map F) ++ [fs[j].map F]) := Lib.hid (by rw [List.take_succ_eq_append_getElem hx, List.map_append]; rfl)
      have HLt : Hid (((fs.take j).map (fun f => f.map F)).length = j) := Lib.hid (by rw [List.length_map, List.length_take]; omega)
      obtain ⟨Ax, cx, hxe⟩ := hrx.form
      rw [stringsV_len] at hxe
      clear hc0 hrx
      generalize fs[j] = f at HV HFj HTk HRow hxe
      generalize hfl : f.length = fl at hxe
      have HFl := Lib.hid hfl
      clear hfl
      subst hxe
      generalize (fs.take j).map (fun f => f.map F) = done at HO HRow HLt
      generalize namesA [] (fs.take j).flatten = cn at HV HFj HTk HT
      have HStep : Hid (∀ w2, KeptO wr w2 → w2.frozen? ⟨w1.heap.size, j, none⟩ = false ∧ (∃ y, w2.cell? ⟨w1.heap.size, j, none⟩ = some y) ∧ HalfLL w2 w.heap.size w1.heap.size m done) := Lib.hid (fun w2 h3 => by
        have h4 := HO.out.kept h3
        obtain ⟨us', h5, h6, h7⟩ := h4
        refine ⟨h6.frozenAt j, ?_, ⟨us', h5, h6, h7⟩⟩
        have h8 := h6.cellAt j (by omega)
        have h9 := own_len h6
        exact ⟨_, by rw [h8, List.getElem?_eq_getElem (by omega)]⟩)
      have i1 : (0 : Int) ≤ (j : Int) := by omega
      have i2 : (j : Int) < (m : Int) := by omega
      go_wp2_with (go_at_call 56; refine HV.out.mono ?_; rintro e w2 ⟨v2, rfl, ho2, ⟨g2, c2, rfl⟩, ht2, hb2, hk2⟩; obtain ⟨f2, ⟨y2, c2'⟩, hh2⟩ := HStep.out w2 hk2; have HO2 := Lib.hid ho2; have HT2 := Lib.hid ht2; have HB2 := Lib.hid hb2; have HH2 := Lib.hid hh2; clear ho2 ht2 hb2 hk2 hh2)
      go_roundw
      case rel =>
        obtain ⟨cur, hbg, hgg⟩ := HH2.out.block (by omega)
        have hu := HO2.out
        rw [HFj.out] at hu
        have hset := HH2.out.set HLt.out hlt (l := f.map F) (u := .slice (some ⟨g2, 0, none⟩) f.length c2) (by rw [List.length_map]; exact hu)
        refine ⟨j + 1, by omega, by go_num, ?_, ?_, ?_⟩
        · rw [HTk.out]; exact Lib.hid (HT2.out.setRow hgg (by decide) (by decide) _)
        · rw [HRow.out]; exact Lib.hid hset
        · exact (hnx.trans HB2.out).setCell (p := ⟨w1.heap.size, j, none⟩) hbase _
      case measure => simp [intOf]; omega
    · have HE : Hid (fs.take j = fs) := Lib.hid (List.take_of_length_le (by rw [HM.out]; omega))
      have hd : decide (j < m) = false := by simp only [decide_eq_false_iff_not]; omega
      go_wp2_with fail
      go_ret
      refine HEnd.out _ _ _ rfl ?_ hnx
      have h := HO.out
      rw [HE.out] at h
      exact h.done (by rw [List.length_map, HM.out])
end Nt
end Go.Proofs.Ytlnjhacchnfbkaa

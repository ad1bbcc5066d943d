/-
  Walks of the program's Names and Spell of layer 3. Conditions: strings that the machine can hold, short lists.
-/
import Derived.Test.YthfadfennkkkjaaInternVisitAll
namespace Go.Proofs.Ythfadfennkkkjaa
open Go.RowKit Go.Maps
namespace Nt
open Cm
set_option maxRecDepth 100000 in
set_option maxHeartbeats 2000000 in
theorem Names_any (u : Value) (fs : List (List ByteArray)) (w : World) (hr : RdLL w u (fs.map stringsV)) (hl : fs.length ≤ 1000) (hll : ∀ f ∈ fs, f.length ≤ 1000) (hsz : ∀ f ∈ fs, ∀ s ∈ f, s.size ≤ maxLen) :
    Calls Try.prog 16 #[u] w (NewStrs w (namesF fs)) := by
  have HNT := Lib.hid (newTable_any w)
  obtain ⟨A, c, rfl, HF⟩ := files_at hr
  have HLL := Lib.hid hll
  have HSz := Lib.hid hsz
  have hbound : ∀ j, (fs.take j).flatten.length ≤ 1000000 := fun j => by
    have h2 := flat_bound (fs.take j) 1000 (fun f hf => hll f (List.mem_of_mem_take hf))
    have h3 : (fs.take j).length ≤ fs.length := List.length_take_le' ..
    omega
  have HBd := Lib.hid hbound
  clear hll hr hbound hsz
  generalize hm : fs.length = m at hl
  have HM := Lib.hid hm
  clear hm
  go_enter Try.func16, Try.ntmps16
  go_wp2_with (go_at_call 21; refine HNT.out.mono ?_; rintro e w1 ⟨tb, rfl, ht, hb1⟩; have HT1 := Lib.hid ht; have HB1 := Lib.hid hb1; clear ht hb1)
  have hbase := HT1.out.size
  go_loopw [11] (fun i wr => ∃ j : Nat, j ≤ m ∧ i = .int .i64 j ∧ Hid (Tab wr w.heap.size tb (namesA [] (fs.take j).flatten)) ∧ Below w.heap.size w wr) (fun i _ => m - (intOf i).toNat)
  case atStart => exact ⟨0, Nat.zero_le _, rfl, HT1, HB1.out⟩
  case round =>
    obtain ⟨j, hj, rfl, HT, hnx⟩ := hrel
    by_cases hlt : j < m
    · have hx : j < fs.length := by rw [HM.out]; exact hlt
      obtain ⟨b, off, A', c', rfl, hc0, hin⟩ := HF.out j hx
      have hc : wr.cell? ⟨b, off + j, none⟩ = some (.slice A' fs[j].length c') := (hnx.cell (p := ⟨b, off + j, none⟩) (Tx.cell_lt hc0)).trans hc0
      have hml := HLL.out _ (List.getElem_mem hx)
      have HSf := Lib.hid (HSz.out _ (List.getElem_mem hx))
      have HS := Lib.hid (flat_succ fs j hx)
      have HBd0 := HBd.out j
      clear hc0
      generalize fs[j] = f at hc hin hml HS HSf
      have HIn := Lib.hid hin
      clear hin
      have i1 : (0 : Int) ≤ (j : Int) := by omega
      have i2 : (j : Int) < (m : Int) := by omega
      generalize (fs.take j).flatten = done at HT HS HBd0
      generalize hfl : f.length = fl at hc hml
      have HFl := Lib.hid hfl
      clear hfl
      go_wp2_with fail
      go_loopw [17] (fun q wr => ∃ k : Nat, k ≤ fl ∧ q = .int .i64 k ∧ Hid (Tab wr w.heap.size tb (namesA [] (done ++ f.take k))) ∧ Below w.heap.size w wr) (fun q _ => fl - (intOf q).toNat)
      case atStart => exact ⟨0, Nat.zero_le _, rfl, by rw [List.take_zero, List.append_nil]; exact HT, hnx⟩
      case round =>
        obtain ⟨k, hk, rfl, HT1, hnx1⟩ := hrel
        by_cases hlt1 : k < fl
        · have hx1 : k < f.length := by rw [HFl.out]; exact hlt1
          obtain ⟨b', off', rfl, hci0⟩ := HIn.out k hx1
          have hci : wr.cell? ⟨b', off' + k, none⟩ = some (.string f[k]) := (hnx1.cell (p := ⟨b', off' + k, none⟩) (Tx.cell_lt hci0)).trans hci0
          have HTk : Hid (namesA [] (done ++ f.take (k + 1)) = add (namesA [] (done ++ f.take k)) f[k]) := Lib.hid (by
            rw [List.take_succ_eq_append_getElem hx1, ← List.append_assoc, namesA_snoc])
          have hbd1 : (namesA [] (done ++ f.take k)).length ≤ 1001000 := by
            have h1 := namesA_len (done ++ f.take k) ([] : List ByteArray)
            rw [List.length_append] at h1
            have h2 : (f.take k).length ≤ k := List.length_take_le ..
            simp only [List.length_nil] at h1; omega
          have HV := Lib.hid (visit_any tb w.heap.size (namesA [] (done ++ f.take k)) f[k] wr HT1.out (HSf.out _ (List.getElem_mem hx1)) hbd1)
          clear hci0
          generalize f[k] = x at hci HV HTk
          generalize namesA [] (done ++ f.take k) = cn at HV HTk hbd1 HT1
          have j1 : (0 : Int) ≤ (k : Int) := by omega
          have j2 : (k : Int) < (fl : Int) := by omega
          go_wp2_with (go_at_call 24; refine HV.out.mono ?_; rintro e w2 ⟨rfl, ht2, hb2, _⟩; have HT2 := Lib.hid ht2; have HB2 := Lib.hid hb2; clear ht2 hb2)
          go_roundw
          case rel => exact ⟨k + 1, by omega, by go_num, by rw [HTk.out]; exact HT2, hnx1.trans HB2.out⟩
          case measure => simp [intOf]; omega
        · have HE : Hid (namesA [] (done ++ f.take k) = namesA [] (fs.take (j + 1)).flatten) := Lib.hid (by rw [HS.out, List.take_of_length_le (by rw [HFl.out]; omega)])
          have hd : decide (k < fl) = false := by simp only [decide_eq_false_iff_not]; omega
          go_wp2_with fail
          go_roundw
          case rel => exact ⟨j + 1, by omega, by go_num, by rw [← HE.out]; exact HT1, hnx1⟩
          case measure => simp [intOf]; omega
    · have HE : Hid (namesA [] (fs.take j).flatten = namesF fs) := Lib.hid (by unfold namesF; rw [List.take_of_length_le (by rw [HM.out]; omega)])
      have hd : decide (j < m) = false := by simp only [decide_eq_false_iff_not]; omega
      obtain ⟨mb, v, D, _, _, hh, _, _, hv⟩ := HT.out
      obtain ⟨k0, k1, _⟩ := tab_cells hh
      have HV := Lib.hid hv
      clear hh hv
      obtain ⟨B, d, rfl⟩ := own_form HV.out
      go_wp2_with fail
      go_ret
      exact ⟨_, rfl, by rw [← HE.out]; exact HV.out, hnx⟩
theorem getElem_tail_len {β : Type} (xs : List β) (z : β) (m k : Nat) (hk : xs.length = k) (h : k ≤ m) : (xs ++ List.replicate (m - k) z).length = m := by simp; omega
set_option maxRecDepth 100000 in
set_option maxHeartbeats 2000000 in
theorem Spell_any (vn vi : Value) (names : List ByteArray) (ids : List Int) (w : World) (hn : RdV w vn (stringsV names)) (hi : RdV w vi (intsV ids)) (hnl : names.length ≤ 4611686018427387904) (hil : ids.length ≤ 1000000)
    (hb : ∀ z ∈ ids, -9223372036854775808 ≤ z ∧ z ≤ 9223372036854775807) :
    Calls Try.prog 18 #[vn, vi] w (SpellPost w (spellF names ids)) := by
  obtain ⟨A, c, rfl, _, hA⟩ := hn
  obtain ⟨B, d, rfl, _, hB⟩ := hi
  rw [stringsV_len, intsV_len]
  have HA : Hid (∀ j (h : j < names.length), ∃ b off, A = some ⟨b, off, none⟩ ∧ w.cell? ⟨b, off + j, none⟩ = some (.string names[j])) := Lib.hid (fun j h => by
    obtain ⟨b, off, e, hc⟩ := hA (by rw [stringsV_len]; omega)
    exact ⟨b, off, e, by rw [hc j (by rw [stringsV_len]; exact h)]; simp [stringsV]⟩)
  have HB : Hid (∀ j (h : j < ids.length), ∃ b off, B = some ⟨b, off, none⟩ ∧ w.cell? ⟨b, off + j, none⟩ = some (.int .i64 ids[j])) := Lib.hid (fun j h => by
    obtain ⟨b, off, e, hc⟩ := hB (by rw [intsV_len]; omega)
    exact ⟨b, off, e, by rw [hc j (by rw [intsV_len]; exact h)]; simp [intsV]⟩)
  have HBd := Lib.hid hb
  clear hA hB hb
  have hmk := run_make_row' (P := Try.prog) 26 tStr (.string ⟨#[]⟩) 16 Try.underlying26 info_str rfl .i64 .i64 ids.length (by omega) (by omega)
  have HStart : Hid ((w.alloc (.cells (madeCells #[.string ⟨#[]⟩] ids.length) tStr)).ownsRow w.heap.size tStr 1 (.slice (some ⟨w.heap.size, 0, none⟩) ids.length ids.length) ids.length (stringsV ([] ++ List.replicate (ids.length - 0) ⟨#[]⟩))) := Lib.hid (by
    have h := World.ownsRow_lit (base := w.heap.size) (e := tStr) (size := 1) w (madeCells #[.string ⟨#[]⟩] ids.length) ids.length (Nat.le_refl _) (by unfold maxLen; omega) (by rw [size_madeCells]; omega)
    rw [toList_madeCells_one] at h
    simpa [stringsV] using h)
  generalize hm : ids.length = m at hil hmk HStart ⊢
  have HM := Lib.hid hm
  clear hm
  go_enter Try.func18, Try.ntmps18
  go_wp2_with fail
  go_loopw [14] (fun i wr => ∃ (j : Nat) (acc : List ByteArray), j ≤ m ∧ i = .int .i64 j ∧ acc.length = j ∧ Hid (spellF names (ids.take j) = some acc) ∧ Hid (wr.ownsRow w.heap.size tStr 1 (.slice (some ⟨w.heap.size, 0, none⟩) m m) m (stringsV (acc ++ List.replicate (m - j) ⟨#[]⟩))) ∧ Below w.heap.size w wr) (fun i _ => m - (intOf i).toNat)
  case atStart => exact ⟨0, [], Nat.zero_le _, rfl, rfl, Lib.hid rfl, HStart, (Below.refl _ _).alloc (Nat.le_refl _) _⟩
  case round =>
    obtain ⟨j, acc, hj, rfl, hal, HS, HO, hnx⟩ := hrel
    have hsz := hnx.size
    by_cases hlt : j < m
    · have hx : j < ids.length := by rw [HM.out]; exact hlt
      obtain ⟨b, off, rfl, hc0⟩ := HB.out j hx
      have hc : wr.cell? ⟨b, off + j, none⟩ = some (.int .i64 ids[j]) := (hnx.cell (p := ⟨b, off + j, none⟩) (Tx.cell_lt hc0)).trans hc0
      have hbd := HBd.out _ (List.getElem_mem hx)
      have HT : Hid (ids.take (j + 1) = ids.take j ++ [ids[j]]) := Lib.hid (List.take_succ_eq_append_getElem hx)
      have HAll : Hid (ids = ids.take j ++ ids[j] :: ids.drop (j + 1)) := Lib.hid (by rw [← List.drop_eq_getElem_cons hx, List.take_append_drop])
      clear hc0
      generalize ids[j] = z at hc hbd HT HAll
      have i1 : (0 : Int) ≤ (j : Int) := by omega
      have i2 : (j : Int) < (m : Int) := by omega
      by_cases hz0 : z < 0
      · have HR : Hid (spellF names ids = none) := Lib.hid (by rw [HAll.out]; exact spellF_bad _ _ _ _ _ HS.out (by omega))
        clear HAll
        go_wp2_with fail
        go_ret2
        rw [HR.out]
        exact ⟨rfl, hnx⟩
      · by_cases hz1 : (names.length : Int) ≤ z
        · have HR : Hid (spellF names ids = none) := Lib.hid (by rw [HAll.out]; exact spellF_bad _ _ _ _ _ HS.out (by omega))
          clear HAll
          go_wp2_with fail
          go_ret2
          rw [HR.out]
          exact ⟨rfl, hnx⟩
        · have hzn : z.toNat < names.length := by omega
          obtain ⟨b', off', rfl, hn0⟩ := HA.out z.toNat hzn
          have hcn : wr.cell? ⟨b', off' + z.toNat, none⟩ = some (.string names[z.toNat]) := (hnx.cell (p := ⟨b', off' + z.toNat, none⟩) (Tx.cell_lt hn0)).trans hn0
          have HR : Hid (spellF names (ids.take (j + 1)) = some (acc ++ [names[z.toNat]])) := Lib.hid (by rw [HT.out]; exact spellF_snoc _ _ _ _ HS.out (by omega) (by omega))
          have HRow : Hid (stringsV ((acc ++ [names[z.toNat]]) ++ List.replicate (m - (j + 1)) ⟨#[]⟩) = (stringsV (acc ++ List.replicate (m - j) ⟨#[]⟩)).set j (.string names[z.toNat])) := Lib.hid (by
            have e : m - j = (m - (j + 1)) + 1 := by omega
            have h := set_fill acc (⟨#[]⟩ : ByteArray) names[z.toNat] (m - (j + 1)) j hal
            rw [e, show stringsV (acc ++ List.replicate (m - (j + 1) + 1) ⟨#[]⟩) = (acc ++ List.replicate (m - (j + 1) + 1) (⟨#[]⟩ : ByteArray)).map Value.string from rfl, ← List.map_set, h]
            rfl)
          have z1 : 0 ≤ z := by omega
          have z2 : z < (names.length : Int) := by omega
          clear HAll hn0 HT
          generalize names[z.toNat] = x at hcn HR HRow
          have f1 := HO.out.frozenAt j
          obtain ⟨y1, c1⟩ : ∃ y, wr.cell? ⟨w.heap.size, j, none⟩ = some y := by
            have h5 := HO.out.cellAt j (by omega)
            have h6 := own_len HO.out
            exact ⟨_, by rw [h5, List.getElem?_eq_getElem (by omega)]⟩
          have HAl := Lib.hid hal
          have HN := Lib.hid hnx
          clear hal
          go_wp2_with fail
          go_roundw
          case rel => exact ⟨j + 1, acc ++ [x], by omega, by go_num, by rw [List.length_append, HAl.out]; rfl, HR, by rw [HRow.out]; exact Lib.hid (HO.out.stored j _).1, hnx.setCell (p := ⟨w.heap.size, j, none⟩) (Nat.le_refl _) _⟩
          case measure => simp [intOf]; omega
    · have HR : Hid (spellF names ids = some acc) := Lib.hid (by rw [← HS.out, List.take_of_length_le (by rw [HM.out]; omega)])
      have HJ : Hid (m - j = 0) := Lib.hid (by omega)
      have HJM : Hid (j = m) := Lib.hid (by omega)
      have HAl := Lib.hid hal
      clear hal
      have hd : decide (j < m) = false := by simp only [decide_eq_false_iff_not]; omega
      go_wp2_with fail
      go_ret2
      rw [HR.out]
      refine ⟨_, rfl, ?_, hnx⟩
      have h := HO.out
      rw [HJ.out, List.replicate_zero, List.append_nil] at h
      rw [HAl.out, HJM.out]
      exact h
end Nt
end Go.Proofs.Ythfadfennkkkjaa

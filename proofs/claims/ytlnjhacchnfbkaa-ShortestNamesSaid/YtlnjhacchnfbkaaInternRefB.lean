/-
  Walks of the reference of layer 3: Ids, Spell. Conditions: short lists.
-/
import Derived.Test.YtlnjhacchnfbkaaInternRef
import Derived.Test.YtlnjhacchnfbkaaComLL
namespace Go.Proofs.Ytlnjhacchnfbkaa
open Go.RowKit
namespace Nt
open Cm
/-- A new list of lists of numbers. -/
def NewLL (w : World) (lss : List (List Int)) (e : Ending) (w' : World) : Prop := ∃ v, e = .returned v ∧ OwnLL w' w.heap.size v lss ∧ Below w.heap.size w w'
set_option maxRecDepth 100000 in
set_option maxHeartbeats 4000000 in
theorem IdsR_any (v : Value) (fs : List (List ByteArray)) (w : World) (hr : RdLL w v (fs.map stringsV)) (hl : fs.length ≤ 1000) (hll : ∀ f ∈ fs, f.length ≤ 1000) :
    Calls Try.prog 29 #[v] w (NewLL w (idsF fs)) := by
  have HNm := Lib.hid (NamesR_any v fs w hr hl hll)
  obtain ⟨A, c, rfl, HF⟩ := files_at hr
  have HLL := Lib.hid hll
  have hnl : (namesF fs).length ≤ 1000000 := by
    have h1 := namesA_len fs.flatten ([] : List ByteArray)
    have h2 := flat_bound fs 1000 hll
    unfold namesF
    simp only [List.length_nil] at h1; omega
  have HId : Hid (idsF fs = fs.map fun f => f.map (placeI (namesF fs))) := Lib.hid rfl
  have HEnd : Hid (∀ v e w', e = .returned v → OwnLL w' w.heap.size v (fs.map fun f => f.map (placeI (namesF fs))) → Below w.heap.size w w' → NewLL w (idsF fs) e w') := Lib.hid (fun v e w' h1 h2 h3 => ⟨v, h1, by rw [HId.out]; exact h2, h3⟩)
  clear hll hr HId
  generalize namesF fs = names at HNm hnl HEnd
  generalize hn : fs.length = n at hl HNm
  have HN := Lib.hid hn
  clear hn
  go_enter Try.func29, Try.ntmps29
  go_wp2_with (go_at_call 44; refine HNm.out.mono ?_; rintro e w1 ⟨vn, rfl, ho, hb1⟩)
  have HNa := Lib.hid (RdV.of_own ho)
  have hsz0 := hb1.size
  clear ho HNm
  go_loopw [4, 5] (fun v i wr => ∃ j : Nat, j ≤ n ∧ i = .int .i64 j ∧ Hid (OwnLL wr w1.heap.size v ((fs.take j).map fun f => f.map (placeI names))) ∧ Below w1.heap.size w1 wr) (fun _ i _ => n - (intOf i).toNat)
  case atStart => exact ⟨0, Nat.zero_le _, rfl, Lib.hid (OwnLL.nil _ _), Below.refl _ _⟩
  case round =>
    obtain ⟨wo, rfl⟩ : ∃ wo, wo = wr := ⟨wr, rfl⟩
    obtain ⟨j, hj, rfl, HO, hnx⟩ := hrel
    obtain ⟨B, d, rfl⟩ := HO.out.form
    have hsz := hnx.size
    by_cases hlt : j < n
    · have hx : j < fs.length := by rw [HN.out]; exact hlt
      obtain ⟨b, off, A', c', rfl, hc0, hin⟩ := HF.out j hx
      have hml := HLL.out _ (List.getElem_mem hx)
      have HS : Hid ((fs.take (j + 1)).map (fun f => f.map (placeI names)) = (fs.take j).map (fun f => f.map (placeI names)) ++ [fs[j].map (placeI names)]) := Lib.hid (by
        rw [List.take_succ_eq_append_getElem hx, List.map_append]; rfl)
      have HLt : Hid (((fs.take j).map (fun f => f.map (placeI names))).length = j) := Lib.hid (by rw [List.length_map, List.length_take]; omega)
      generalize (fs.take j).map (fun f => f.map (placeI names)) = acc at HO HS HLt
      generalize fs[j] = f at hc0 hin hml HS
      have HIn := Lib.hid hin
      clear hin
      have i1 : (0 : Int) ≤ (j : Int) := by omega
      have i2 : (j : Int) < (n : Int) := by omega
      generalize hm : f.length = m at hc0 hml
      have HM := Lib.hid hm
      clear hm
      have HC := Lib.hid hc0
      have hbl := Tx.cell_lt hc0
      clear hc0
      have HE0 := Lib.hid (own_empty wo 3)
      have HB2 := Lib.hid ((Below.refl wo.heap.size wo).alloc (Nat.le_refl _) (.cells #[] 3))
      go_wp2_with fail
      go_loopw [6, 7] (fun u q wr => ∃ k : Nat, k ≤ m ∧ q = .int .i64 k ∧ Hid (wr.ownsRow wo.heap.size 3 1 u k (intsV ((f.take k).map (placeI names)))) ∧ Below wo.heap.size wo wr) (fun _ q _ => m - (intOf q).toNat)
      case atStart => exact ⟨0, Nat.zero_le _, rfl, HE0, HB2.out⟩
      case round =>
        obtain ⟨k, hk, rfl, HO1, hnx1⟩ := hrel
        obtain ⟨B1, d1, rfl⟩ := own_form HO1.out
        have hsz1 := hnx1.size
        have b1 : Below w1.heap.size w1 wr := hnx.trans (hnx1.mono hsz)
        have b0 : Below w.heap.size w wr := hb1.trans (b1.mono hsz0)
        have hc : wr.cell? ⟨b, off + j, none⟩ = some (.slice A' m c') := (b0.cell (p := ⟨b, off + j, none⟩) hbl).trans HC.out
        by_cases hlt1 : k < m
        · have hx1 : k < f.length := by rw [HM.out]; exact hlt1
          obtain ⟨b', off', rfl, hci0⟩ := HIn.out k hx1
          have hci : wr.cell? ⟨b', off' + k, none⟩ = some (.string f[k]) := (b0.cell (p := ⟨b', off' + k, none⟩) (Tx.cell_lt hci0)).trans hci0
          have HT : Hid (intsV ((f.take (k + 1)).map (placeI names)) = intsV ((f.take k).map (placeI names)) ++ [.int .i64 (placeI names f[k])]) := Lib.hid (by
            rw [List.take_succ_eq_append_getElem hx1, List.map_append]; simp [intsV])
          have HP := Lib.hid (place_any vn names f[k] wr (HNa.out.below b1) (by omega))
          clear hci0
          generalize f[k] = x at hci HT HP
          generalize intsV ((f.take k).map (placeI names)) = done at HO1 HT
          generalize placeI names x = z at HP HT
          have j1 : (0 : Int) ≤ (k : Int) := by omega
          have j2 : (k : Int) < (m : Int) := by omega
          go_wp2_with (first
            | (go_at_call 45; refine HP.out.mono ?_; rintro e w2 ⟨rfl, rfl⟩)
            | (at_builtin; refine app_one rfl Try.underlying22 info_int rfl (by omega) (.tmp 26) (.tmp 36) rfl wo.heap.size k done (.int .i64 z) rfl _ _ rfl HO1.out rfl rfl (by omega) hsz1 ?_; intro v3 w3 ho3 hb3 _; have HO3 := Lib.hid ho3; clear ho3))
          go_roundw
          case rel => exact ⟨k + 1, by omega, by go_num, by rw [HT.out]; exact HO3, hnx1.trans hb3⟩
          case measure => simp [intOf]; omega
        · have HE : Hid ((f.take k).map (placeI names) = f.map (placeI names)) := Lib.hid (by rw [List.take_of_length_le (by rw [HM.out]; omega)])
          have hkm : k = m := by omega
          have HFl : Hid ((f.map (placeI names)).length = k) := Lib.hid (by rw [List.length_map, HM.out, hkm])
          have hd : decide (k < m) = false := by simp only [decide_eq_false_iff_not]; omega
          obtain ⟨us, husl, hus, happ⟩ := (HO.out.below hnx1).out
          have HUs := Lib.hid hus
          have HU : Hid (wr.ownsRow w1.heap.size 3 1 (.slice B1 k d1) (f.map (placeI names)).length (intsV (f.map (placeI names)))) := Lib.hid (by
            rw [HFl.out, ← HE.out]; exact own_base HO1.out (by omega))
          have HApp := Lib.hid happ
          have hacc : acc.length ≤ 1000 := by rw [HLt.out]; omega
          clear hkm husl hus happ
          go_wp2_with (at_builtin; refine app_one rfl Try.underlying50 info_ints rfl (by omega) (.tmp 38) (.tmp 40) rfl w1.heap.size acc.length us (.slice B1 k d1) rfl _ _ rfl HUs.out rfl rfl (by omega) (by omega) ?_; intro v3 w3 ho3 hb3 hg3; have HO3 := Lib.hid (HApp.out _ _ _ _ _ HU.out ho3 hg3); clear ho3 hg3)
          go_roundw
          case rel => exact ⟨j + 1, by omega, by go_num, by rw [HS.out]; exact HO3, b1.trans hb3⟩
          case measure => simp [intOf]; omega
    · have HE : Hid ((fs.take j).map (fun f => f.map (placeI names)) = fs.map fun f => f.map (placeI names)) := Lib.hid (by rw [List.take_of_length_le (by rw [HN.out]; omega)])
      have hd : decide (j < n) = false := by simp only [decide_eq_false_iff_not]; omega
      go_wp2_with fail
      go_ret
      exact HEnd.out _ _ _ rfl (by rw [← HE.out]; exact HO.out.base hsz0) (hb1.trans (hnx.mono hsz0))
/-- Spelling: the strings, or none where a number is no index. -/
def spellF (names : List ByteArray) : List Int → Option (List ByteArray)
  | [] => some []
  | z :: r => if h : 0 ≤ z ∧ z < names.length then (spellF names r).map (names[z.toNat]'(by omega) :: ·) else none
/-- What Spell leaves. -/
def SpellPost (w : World) (r : Option (List ByteArray)) (e : Ending) (w' : World) : Prop :=
  match r with
  | none => e = .returned (.tuple #[.slice none 0 0, .int .i64 3]) ∧ Below w.heap.size w w'
  | some l => ∃ v, e = .returned (.tuple #[v, .int .i64 0]) ∧ w'.ownsRow w.heap.size 9 1 v l.length (stringsV l) ∧ Below w.heap.size w w'
theorem spellF_append (names : List ByteArray) (a b : List Int) : spellF names (a ++ b) = (spellF names a).bind fun x => (spellF names b).map (x ++ ·) := by
  induction a with
  | nil => simp [spellF]
  | cons z r ih =>
    rw [List.cons_append, spellF, spellF]
    split
    · rw [ih]; cases spellF names r <;> simp [Function.comp_def]
    · rfl
theorem spellF_snoc (names : List ByteArray) (a : List Int) (x : List ByteArray) (z : Int) (ha : spellF names a = some x) (h0 : 0 ≤ z) (h1 : z < names.length) : spellF names (a ++ [z]) = some (x ++ [names[z.toNat]'(by omega)]) := by
  rw [spellF_append, ha]
  simp [spellF, h0, h1]
theorem spellF_bad (names : List ByteArray) (a b : List Int) (x : List ByteArray) (z : Int) (ha : spellF names a = some x) (h : ¬ (0 ≤ z ∧ z < names.length)) : spellF names (a ++ z :: b) = none := by
  rw [spellF_append, ha]
  simp only [Option.bind_some, spellF, dif_neg h, Option.map_none]
end Nt
end Go.Proofs.Ytlnjhacchnfbkaa

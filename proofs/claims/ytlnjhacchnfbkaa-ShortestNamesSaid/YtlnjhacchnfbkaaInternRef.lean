/-
  Walks of the reference of layer 3: place, Names, Ids, Spell. Conditions: short lists.
-/
import Derived.Test.YtlnjhacchnfbkaaComGen
import Derived.Test.YtlnjhacchnfbkaaInternMath
namespace Go.Proofs.Ytlnjhacchnfbkaa
open Go.RowKit
namespace Nt
open Cm
theorem eqT {x y : ByteArray} (h : x = y) : (x.toList == y.toList) = true := by rw [h]; exact beq_self_eq_true _
theorem eqF {x y : ByteArray} (h : x ≠ y) : (x.toList == y.toList) = false := by
  rw [beq_eq_false_iff_ne]
  intro e
  apply h
  rw [ByteArray.toList_eq, ByteArray.toList_eq] at e
  cases x; cases y
  simp only at e
  congr
  exact Array.toList_inj.1 e
set_option maxRecDepth 100000 in
set_option maxHeartbeats 1000000 in
theorem place_any (v : Value) (l : List ByteArray) (s : ByteArray) (w : World) (hr : RdV w v (stringsV l)) (hl : l.length ≤ 1099511627776) :
    Calls Try.prog 45 #[v, .string s] w fun e w' => e = .returned (.int .i64 (placeI l s)) ∧ w = w' := by
  obtain ⟨A, c, rfl, _, hA⟩ := hr
  rw [stringsV_len]
  have HA : Hid (0 < l.length → ∃ b off, A = some ⟨b, off, none⟩ ∧ ∀ j (h : j < l.length), w.cell? ⟨b, off + j, none⟩ = some (.string l[j])) := Lib.hid (fun hp => by
    obtain ⟨b, off, e, hc⟩ := hA (by rw [stringsV_len]; exact hp)
    exact ⟨b, off, e, fun j h => by rw [hc j (by rw [stringsV_len]; exact h)]; simp [stringsV]⟩)
  clear hA
  generalize hn : l.length = n at hl
  have HN := Lib.hid hn
  clear hn
  go_enter Try.func45, Try.ntmps45
  go_wp2_with fail
  go_loop [5] (fun i => ∃ j : Nat, j ≤ n ∧ i = .int .i64 j ∧ Hid (∀ k, k < j → l[k]? ≠ some s)) (fun i => n - (intOf i).toNat)
  case atStart => exact ⟨0, Nat.zero_le _, rfl, Lib.hid (fun k hk => absurd hk (by omega))⟩
  case round =>
    obtain ⟨j, hj, rfl, HB⟩ := hrel
    by_cases hlt : j < n
    · have hx : j < l.length := by rw [HN.out]; exact hlt
      obtain ⟨b, off, rfl, hcell⟩ := HA.out (by rw [HN.out]; omega)
      have hc : w.cell? ⟨b, off + j, none⟩ = some (.string l[j]) := hcell j hx
      have hg : l[j]? = some l[j] := List.getElem?_eq_getElem hx
      have i1 : (0 : Int) ≤ (j : Int) := by omega
      have i2 : (j : Int) < (n : Int) := by omega
      by_cases he : l[j] = s
      · have HP : Hid (placeI l s = (j : Int)) := Lib.hid (placeI_at (by rw [hg, he]) HB.out)
        have e1 := eqT he
        generalize l[j] = x at hc e1
        clear hcell hg he
        go_wp2_with fail
        go_ret
        exact ⟨by rw [HP.out]; rfl, rfl⟩
      · have HB2 : Hid (∀ k, k < j + 1 → l[k]? ≠ some s) := Lib.hid (fun k hk => by
          by_cases hkj : k < j
          · exact HB.out k hkj
          · have : k = j := by omega
            subst this
            rw [hg]; intro e; exact he (Option.some.inj e))
        have e1 := eqF he
        generalize l[j] = x at hc e1
        clear hcell hg he
        go_wp2_with fail
        go_round
        case rel => exact ⟨j + 1, by omega, by go_num, HB2⟩
        case measure => simp [intOf]; omega
    · have HP : Hid (placeI l s = -1) := Lib.hid (placeI_none (fun k hk => HB.out k (by rw [HN.out] at hk; omega)))
      have hd : decide (j < n) = false := by simp only [decide_eq_false_iff_not]; omega
      go_wp2_with fail
      go_ret
      exact ⟨by rw [HP.out]; rfl, rfl⟩
theorem info_str : (Try.prog.info? 9).map (fun i => (i.zero, i.size, i.bytes)) = some (some (.string ⟨#[]⟩), 1, 16) := by kernel_rfl
/-- What is known of files that read: the cells of each file's slice, and of its strings. -/
theorem files_at {w : World} {v : Value} {fs : List (List ByteArray)} (h : RdLL w v (fs.map stringsV)) :
    ∃ A c, v = .slice A fs.length c ∧ Hid (∀ j (hj : j < fs.length), ∃ b off A' c', A = some ⟨b, off, none⟩ ∧ w.cell? ⟨b, off + j, none⟩ = some (.slice A' fs[j].length c') ∧
      (∀ k (hk : k < fs[j].length), ∃ b' off', A' = some ⟨b', off', none⟩ ∧ w.cell? ⟨b', off' + k, none⟩ = some (.string (fs[j][k])))) := by
  obtain ⟨us, ⟨A, c, rfl, _, hA⟩, hl, he⟩ := h
  rw [List.length_map] at hl
  refine ⟨A, c, by rw [hl], Lib.hid (fun j hj => ?_)⟩
  obtain ⟨b, off, rfl, hcell⟩ := hA (by omega)
  have h2 := he j (by omega) (by rw [List.length_map]; exact hj)
  rw [List.getElem_map] at h2
  have hc := hcell j (by omega)
  obtain ⟨A', c', e, _, hA'⟩ := h2
  rw [stringsV_len] at e
  refine ⟨b, off, A', c', rfl, by rw [hc, e], fun k hk => ?_⟩
  obtain ⟨b', off', rfl, hcell'⟩ := hA' (by rw [stringsV_len]; omega)
  refine ⟨b', off', rfl, ?_⟩
  rw [hcell' k (by rw [stringsV_len]; exact hk)]
  simp [stringsV]
theorem flat_succ {β : Type} (fs : List (List β)) (j : Nat) (h : j < fs.length) : (fs.take (j + 1)).flatten = (fs.take j).flatten ++ fs[j] := by
  rw [List.take_succ_eq_append_getElem h, List.flatten_append]; simp
theorem flat_bound {β : Type} (fs : List (List β)) (B : Nat) (h : ∀ f ∈ fs, f.length ≤ B) : fs.flatten.length ≤ B * fs.length := by
  induction fs with
  | nil => exact Nat.zero_le _
  | cons f r ih =>
    have h1 := ih (fun g hg => h g (List.mem_cons_of_mem _ hg))
    have h2 := h f (List.mem_cons_self ..)
    rw [List.flatten_cons, List.length_append, List.length_cons, Nat.mul_add]; omega
/-- A new list of strings. -/
def NewStrs (w : World) (l : List ByteArray) (e : Ending) (w' : World) : Prop := ∃ v, e = .returned v ∧ w'.ownsRow w.heap.size 9 1 v l.length (stringsV l) ∧ Below w.heap.size w w'
set_option maxRecDepth 100000 in
set_option maxHeartbeats 2000000 in
theorem NamesR_any (v : Value) (fs : List (List ByteArray)) (w : World) (hr : RdLL w v (fs.map stringsV)) (hl : fs.length ≤ 1000) (hll : ∀ f ∈ fs, f.length ≤ 1000) :
    Calls Try.prog 44 #[v] w (NewStrs w (namesF fs)) := by
  obtain ⟨A, c, rfl, HF⟩ := files_at hr
  have HLL := Lib.hid hll
  have hbound : ∀ j, (fs.take j).flatten.length ≤ 1000000 := fun j => by
    have h2 := flat_bound (fs.take j) 1000 (fun f hf => hll f (List.mem_of_mem_take hf))
    have h3 : (fs.take j).length ≤ fs.length := List.length_take_le' ..
    omega
  have HBd := Lib.hid hbound
  clear hll hr hbound
  generalize hn : fs.length = n at hl
  have HN := Lib.hid hn
  clear hn
  go_enter Try.func44, Try.ntmps44
  go_wp2_with fail
  go_loopw [3, 4] (fun v i wr => ∃ j : Nat, j ≤ n ∧ i = .int .i64 j ∧ Hid (wr.ownsRow w.heap.size 9 1 v (namesA [] (fs.take j).flatten).length (stringsV (namesA [] (fs.take j).flatten))) ∧ Below w.heap.size w wr) (fun _ i _ => n - (intOf i).toNat)
  case atStart => exact ⟨0, Nat.zero_le _, rfl, Lib.hid (World.ownsRow_nil _ _ _ _), Below.refl _ _⟩
  case round =>
    obtain ⟨j, hj, rfl, HO, hnx⟩ := hrel
    obtain ⟨B, d, rfl⟩ := own_form HO.out
    by_cases hlt : j < n
    · have hx : j < fs.length := by rw [HN.out]; exact hlt
      obtain ⟨b, off, A', c', rfl, hc0, hin⟩ := HF.out j hx
      have hml := HLL.out _ (List.getElem_mem hx)
      have HS := Lib.hid (flat_succ fs j hx)
      have HBd0 := HBd.out j
      generalize fs[j] = f at hc0 hin hml HS
      have HIn := Lib.hid hin
      clear hin
      have i1 : (0 : Int) ≤ (j : Int) := by omega
      have i2 : (j : Int) < (n : Int) := by omega
      generalize (fs.take j).flatten = done at HO HS HBd0
      generalize hm : f.length = m at hc0 hml
      have HM := Lib.hid hm
      clear hm
      have HC := Lib.hid hc0
      have hbl := Tx.cell_lt hc0
      clear hc0
      go_wp2_with fail
      go_loopw [3, 5] (fun v q wr => ∃ k : Nat, k ≤ m ∧ q = .int .i64 k ∧ Hid (wr.ownsRow w.heap.size 9 1 v (namesA [] (done ++ f.take k)).length (stringsV (namesA [] (done ++ f.take k)))) ∧ Below w.heap.size w wr) (fun _ q _ => m - (intOf q).toNat)
      case atStart => exact ⟨0, Nat.zero_le _, rfl, by rw [List.take_zero, List.append_nil]; exact HO, hnx⟩
      case round =>
        obtain ⟨k, hk, rfl, HO1, hnx1⟩ := hrel
        obtain ⟨B1, d1, rfl⟩ := own_form HO1.out
        have hc : wr.cell? ⟨b, off + j, none⟩ = some (.slice A' m c') := (hnx1.cell (p := ⟨b, off + j, none⟩) hbl).trans HC.out
        have hsz1 := hnx1.size
        by_cases hlt1 : k < m
        · have hx1 : k < f.length := by rw [HM.out]; exact hlt1
          obtain ⟨b', off', rfl, hci0⟩ := HIn.out k hx1
          have hci : wr.cell? ⟨b', off' + k, none⟩ = some (.string f[k]) := (hnx1.cell (p := ⟨b', off' + k, none⟩) (Tx.cell_lt hci0)).trans hci0
          have HT : Hid (namesA [] (done ++ f.take (k + 1)) = add (namesA [] (done ++ f.take k)) f[k]) := Lib.hid (by
            rw [List.take_succ_eq_append_getElem hx1, ← List.append_assoc, namesA_snoc])
          have hbd1 : (namesA [] (done ++ f.take k)).length ≤ 1001000 := by
            have h1 := namesA_len (done ++ f.take k) ([] : List ByteArray)
            rw [List.length_append] at h1
            have h2 : (f.take k).length ≤ k := List.length_take_le ..
            simp only [List.length_nil] at h1; omega
          clear hci0
          generalize f[k] = x at hci HT
          generalize namesA [] (done ++ f.take k) = acc at HO1 HT hbd1
          have j1 : (0 : Int) ≤ (k : Int) := by omega
          have j2 : (k : Int) < (m : Int) := by omega
          have HP := Lib.hid (place_any (.slice B1 acc.length d1) acc x wr (RdV.of_own HO1.out) (by omega))
          by_cases hmem : x ∈ acc
          · have HT2 : Hid (namesA [] (done ++ f.take (k + 1)) = acc) := Lib.hid (by rw [HT.out]; unfold add; rw [if_pos hmem])
            have hz : ¬ placeI acc x < 0 := fun h => (placeI_neg acc x).1 h hmem
            generalize placeI acc x = z at HP hz
            clear hmem HT
            go_wp2_with (go_at_call 45; refine HP.out.mono ?_; rintro e w1 ⟨rfl, rfl⟩)
            go_roundw
            case rel => exact ⟨k + 1, by omega, by go_num, by rw [HT2.out]; exact HO1, hnx1⟩
            case measure => simp [intOf]; omega
          · have HT2 : Hid (namesA [] (done ++ f.take (k + 1)) = acc ++ [x]) := Lib.hid (by rw [HT.out]; unfold add; rw [if_neg hmem])
            have HZ : Hid (placeI acc x = -1) := Lib.hid (by unfold placeI; rw [if_neg hmem])
            rw [HZ.out] at HP
            clear hmem HT HZ
            go_wp2_with (first
              | (go_at_call 45; refine HP.out.mono ?_; rintro e w1 ⟨rfl, rfl⟩)
              | (at_builtin; refine app_one rfl Try.underlying52 info_str rfl (by omega) (.tmp 31) (.tmp 39) rfl w.heap.size acc.length (stringsV acc) (.string x) rfl _ _ rfl HO1.out rfl rfl (by omega) hsz1 ?_; intro v3 w3 ho3 hb3 _; have HO3 := Lib.hid ho3; clear ho3))
            go_roundw
            case rel => exact ⟨k + 1, by omega, by go_num, by rw [HT2.out, List.length_append, show stringsV (acc ++ [x]) = stringsV acc ++ [Value.string x] from by simp [stringsV]]; exact HO3, hnx1.trans hb3⟩
            case measure => simp [intOf]; omega
        · have HE : Hid (namesA [] (done ++ f.take k) = namesA [] (fs.take (j + 1)).flatten) := Lib.hid (by rw [HS.out, List.take_of_length_le (by rw [HM.out]; omega)])
          have hd : decide (k < m) = false := by simp only [decide_eq_false_iff_not]; omega
          go_wp2_with fail
          go_roundw
          case rel => exact ⟨j + 1, by omega, by go_num, by rw [← HE.out]; exact HO1, hnx1⟩
          case measure => simp [intOf]; omega
    · have HE : Hid (namesA [] (fs.take j).flatten = namesF fs) := Lib.hid (by unfold namesF; rw [List.take_of_length_le (by rw [HN.out]; omega)])
      have hd : decide (j < n) = false := by simp only [decide_eq_false_iff_not]; omega
      go_wp2_with fail
      go_ret
      exact ⟨_, rfl, by rw [← HE.out]; exact HO.out, hnx⟩
end Nt
end Go.Proofs.Ytlnjhacchnfbkaa

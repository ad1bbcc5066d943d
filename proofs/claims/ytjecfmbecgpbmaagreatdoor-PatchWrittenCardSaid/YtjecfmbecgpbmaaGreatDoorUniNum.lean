/- Facts; each states its conditions. -/
import Derived.Test.YtjecfmbecgpbmaaGreatDoorGInternVisitAll
import Derived.Maps.OwnOps
namespace Go.Proofs.YtjecfmbecgpbmaaGreatDoor
namespace Cm
end Cm
namespace Nt
end Nt
open Go.RowKit Go.Maps
namespace Uf
open Cm Nt
def MapN (w : World) (base mb : Nat) (names : List ByteArray) : Prop :=
 ∃ D : DataW Unit, base ≤ mb ∧ w.ownsMap Tryz.prog tStr (plainElem Tryz.prog tInt) mb names.length D ∧ Agrees D names ∧ Maps.size D = names.length
theorem MapN.alloc {w : World} {base mb : Nat} {names : List ByteArray} (h : MapN w base mb names) (o : Obj) : MapN (w.alloc o) base mb names := by
 obtain ⟨D, h1, h2, h3⟩ := h
 exact ⟨D, h1, h2.alloc o, h3⟩
theorem MapN.lt {w : World} {base mb : Nat} {names : List ByteArray} (h : MapN w base mb names) : mb < w.heap.size ∧ base ≤ w.heap.size ∧ ∃ es clock, w.heap[mb]? = some (.map es clock) := by
 obtain ⟨D, h1, ⟨es, clock, hb, _⟩, h3⟩ := h
 have := lt_of_block hb
 exact ⟨this, by omega, es, clock, hb⟩
theorem MapN.setRow {w : World} {base mb g k : Nat} {names : List ByteArray} (h : MapN w base mb names) (hg : mb ≠ g) (u : Value) : MapN (w.setCell ⟨g, k, none⟩ u) base mb names := by
 obtain ⟨D, h1, h2, h3⟩ := h
 exact ⟨D, h1, h2.setCell (a := ⟨g, k, none⟩) hg u, h3⟩
theorem mapN_new (w : World) : MapN (w.alloc (.map #[] 0)) w.heap.size w.heap.size [] :=
 ⟨.map [], Nat.le_refl _, World.ownsMap_made _ _ _ _, agrees_nil, rfl⟩
theorem grown_trans {a b c : World} {r : Option Nat} (h : a.grownBy b r) (k : b.grownBy c r) : a.grownBy c r :=
 ⟨k.os.trans h.os, k.tape.trans h.tape, k.output.trans h.output, Nat.le_trans h.size k.size, fun x hx hr => (k.block x (Nat.lt_of_lt_of_le hx h.size) hr).trans (h.block x hx hr)⟩
theorem grown_refl (a : World) (r : Option Nat) : a.grownBy a r := ⟨rfl, rfl, rfl, Nat.le_refl _, fun _ _ _ => rfl⟩
theorem grown_below {a b : World} {mb base : Nat} (h : a.grownBy b (some mb)) (hb : base ≤ mb) (hs : base ≤ a.heap.size) : Below base a b :=
 ⟨h.os, h.tape, h.output, h.size, fun k hk => h.block k (by omega) (by intro e; injection e with e; omega)⟩
theorem of_below {a b : World} {r : Option Nat} (h : Below a.heap.size a b) : a.grownBy b r := ⟨h.os, h.tape, h.output, h.size, fun k hk _ => h.block k hk⟩
theorem rdV_grown {w w' : World} {mb : Nat} {v : Value} {us : List Value} (h : RdV w v us) (hm : ∃ es clock, w.heap[mb]? = some (.map es clock)) (hg : w.grownBy w' (some mb)) : RdV w' v us := by
 obtain ⟨A, c, rfl, hcap, hc⟩ := h
 obtain ⟨es, clock, hm⟩ := hm
 refine ⟨A, c, rfl, hcap, fun hp => ?_⟩
 obtain ⟨b, off, rfl, hcell⟩ := hc hp
 refine ⟨b, off, rfl, fun j hj => ?_⟩
 have h1 := hcell j hj
 have hlt := Tx.cell_lt h1
 have hne : some b ≠ some mb := by
  intro e
  injection e with e
  subst e
  unfold World.cell? at h1
  rw [hm] at h1
  cases h1
 rw [World.cell?_of_block (a := ⟨b, off + j, none⟩) (hg.block b hlt hne)]
 exact h1
theorem own_grown {w w' : World} {mb base n : Nat} {e : TypeId} {v : Value} {xs : List Value} (h : w.ownsRow base e 1 v n xs) (hm : ∃ es clock, w.heap[mb]? = some (.map es clock)) (hg : w.grownBy w' (some mb)) : w'.ownsRow base e 1 v n xs := by
 obtain ⟨es, clock, hm⟩ := hm
 refine h.kept hg ?_
 rcases h.2 with ⟨rfl, _⟩ | ⟨g, cap, cur, rfl, _, hh, _⟩
 · exact .inl rfl
 · right
   intro e2
   have : g = mb := by simpa [Value.ownBlock] using e2
   subst this
   rw [hm] at hh
   cases hh
def NumPost (w : World) (base mb : Nat) (names l : List ByteArray) (e : Ending) (w' : World) : Prop :=
 ∃ v, e = .returned v ∧ w'.ownsRow w.heap.size tInt 1 v l.length (intsV (l.map fun s => (posN (namesA names l) s : Int))) ∧ MapN w' base mb (namesA names l) ∧ w.grownBy w' (some mb)
set_option maxRecDepth 100000 in
set_option maxHeartbeats 2000000 in
theorem numbers_any (mb base : Nat) (names l : List ByteArray) (u : Value) (w : World) (hr : RdV w u (stringsV l)) (hT : MapN w base mb names) (hs : ∀ s ∈ l, s.size ≤ maxLen) (hn : names.length ≤ 1000000) (hl : l.length ≤ 1000) :
 Calls Tryz.prog 74 #[.map (some mb), u] w (NumPost w base mb names l) := by
 obtain ⟨hmlt, hbase, es0, ck0, hm0⟩ := hT.lt
 have HRd := Lib.hid (fun (w' : World) (hg : w.grownBy w' (some mb)) => rdV_grown hr ⟨es0, ck0, hm0⟩ hg)
 obtain ⟨A, c, rfl⟩ := hr.form
 rw [stringsV_len] at HRd ⊢
 have HA : Hid (∀ w', w.grownBy w' (some mb) → ∀ j (h : j < l.length), ∃ b off, A = some ⟨b, off, none⟩ ∧ w'.cell? ⟨b, off + j, none⟩ = some (.string l[j])) := Lib.hid (fun w' hg j h => by
  obtain ⟨_, b, off, e, hc⟩ := (HRd.out w' hg).at (by rw [stringsV_len]; omega)
  exact ⟨b, off, e, by rw [hc j (by rw [stringsV_len]; exact h)]; simp [stringsV]⟩)
 have HSz := Lib.hid hs
 have HNl : Hid (∀ j, (namesA names (l.take j)).length ≤ 1001000) := Lib.hid (fun j => by
  have h1 := namesA_len (l.take j) names
  have h2 : (l.take j).length ≤ l.length := List.length_take_le' ..
  omega)
 have HT0 := Lib.hid hT
 have HEnd : Hid (∀ v e w', e = .returned v → w'.ownsRow w.heap.size tInt 1 v l.length (intsV (l.map fun s => (posN (namesA names l) s : Int))) → MapN w' base mb (namesA names l) → w.grownBy w' (some mb) → NumPost w base mb names l e w') := Lib.hid (fun v e w' h1 h2 h3 h4 => ⟨v, h1, h2, h3, h4⟩)
 clear hs hT hr hm0 HRd
 have hmk := run_make_row' (P := Tryz.prog) 22 tInt (.int .i64 0) 8 Tryz.underlying22 info_int rfl .i64 .i64 l.length (by omega) (by omega)
 have HF : Hid (∀ j (h : j < l.length), (posN (namesA names l) l[j] : Int) = posN (add (namesA names (l.take j)) l[j]) l[j]) := Lib.hid (fun j h => by
  have e : l = l.take j ++ l[j] :: l.drop (j + 1) := by rw [← List.drop_eq_getElem_cons h, List.take_append_drop]
  have h2 := posN_final (names := names) (l := l.take j) (r := l.drop (j + 1)) (s := l[j])
  rw [← e] at h2
  rw [h2])
 generalize hF : (fun s => (posN (namesA names l) s : Int)) = F at HEnd
 have HF2 : Hid (∀ j (h : j < l.length), F l[j] = posN (add (namesA names (l.take j)) l[j]) l[j]) := Lib.hid (fun j h => by rw [← hF]; exact HF.out j h)
 clear hF HF
 have HStart : Hid ((w.alloc (.cells (madeCells #[.int .i64 0] l.length) tInt)).ownsRow w.heap.size tInt 1 (.slice (some ⟨w.heap.size, 0, none⟩) l.length l.length) l.length (intsV (((l.take 0).map F) ++ List.replicate (l.length - 0) 0))) := Lib.hid (by
  have h := World.ownsRow_lit (base := w.heap.size) (e := tInt) (size := 1) w (madeCells #[.int .i64 0] l.length) l.length (Nat.le_refl _) (by unfold maxLen; omega) (by rw [size_madeCells]; omega)
  rw [toList_madeCells_one] at h
  simpa [intsV] using h)
 generalize hm : l.length = m at hl hmk HEnd HStart ⊢
 have HM := Lib.hid hm
 clear hm
 go_enter Tryz.func74, Tryz.ntmps74
 go_wp2_with fail
 go_loopw [15] (fun i wr => ∃ j : Nat, j ≤ m ∧ i = .int .i64 j ∧ Hid (MapN wr base mb (namesA names (l.take j))) ∧ Hid (wr.ownsRow w.heap.size tInt 1 (.slice (some ⟨w.heap.size, 0, none⟩) m m) m (intsV (((l.take j).map F) ++ List.replicate (m - j) 0))) ∧ Hid (w.grownBy wr (some mb))) (fun i _ => m - (intOf i).toNat)
 case atStart => exact ⟨0, Nat.zero_le _, rfl, Lib.hid (HT0.out.alloc _), HStart, Lib.hid (of_below ((Below.refl _ _).alloc (Nat.le_refl _) _))⟩
 case round =>
  obtain ⟨j, hj, rfl, HT, HO, HG⟩ := hrel
  by_cases hlt : j < m
  · have hx : j < l.length := by rw [HM.out]; exact hlt
    obtain ⟨b, off, rfl, hc⟩ := HA.out wr HG.out j hx
    have hkey := WideMaps.keyOf_string_mk (P := Tryz.prog) (k := tStr) Tryz.underlying9 (HSz.out _ (List.getElem_mem hx))
    have HKey := Lib.hid hkey
    have HFj := Lib.hid (HF2.out j hx)
    have hnl := HNl.out j
    have HTk : Hid (namesA names (l.take (j + 1)) = add (namesA names (l.take j)) l[j]) := Lib.hid (by rw [List.take_succ_eq_append_getElem hx, namesA_snoc])
    have HRow : Hid (intsV (((l.take (j + 1)).map F) ++ List.replicate (m - (j + 1)) 0) = (intsV (((l.take j).map F) ++ List.replicate (m - j) 0)).set j (.int .i64 (F l[j]))) := Lib.hid (by
     have e : m - j = (m - (j + 1)) + 1 := by omega
     have h := set_fill ((l.take j).map F) 0 (F l[j]) (m - (j + 1)) j (by rw [List.length_map, List.length_take]; omega)
     rw [e, show intsV ((l.take j).map F ++ List.replicate (m - (j + 1) + 1) 0) = ((l.take j).map F ++ List.replicate (m - (j + 1) + 1) 0).map (fun z => Value.int .i64 z) from rfl, ← List.map_set, h, List.take_succ_eq_append_getElem hx, List.map_append]
     rfl)
    clear hkey
    generalize l[j] = x at hc HKey HFj HTk HRow
    generalize hz : F x = z at HFj HRow
    generalize namesA names (l.take j) = cn at HFj HTk HT hnl
    generalize intsV (((l.take j).map F) ++ List.replicate (m - j) 0) = row at HO HRow
    obtain ⟨hgd, hcell⟩ : wr.frozen? ⟨w.heap.size, j, none⟩ = false ∧ ∃ y, wr.cell? ⟨w.heap.size, j, none⟩ = some y := by
     have h4 := HO.out
     have h6 := own_len h4
     have h5 := h4.cellAt j (by omega)
     exact ⟨h4.frozenAt j, row[j]'(by omega), by rw [h5, List.getElem?_eq_getElem (by omega)]⟩
    obtain ⟨y, hcell⟩ := hcell
    have HMlt := Lib.hid HT.out.lt
    obtain ⟨D, hbm, hown, hag, hsize⟩ := HT.out
    have HOwn := Lib.hid hown
    have HNext : Hid (∀ w1 : World, MapN w1 base mb (add cn x) → wr.grownBy w1 (some mb) → ∃ j' : Nat, j' ≤ m ∧ (Value.int .i64 ((j : Int) + 1) = .int .i64 j') ∧ Hid (MapN (w1.setCell ⟨w.heap.size, j, none⟩ (.int .i64 z)) base mb (namesA names (l.take j'))) ∧ Hid ((w1.setCell ⟨w.heap.size, j, none⟩ (.int .i64 z)).ownsRow w.heap.size tInt 1 (.slice (some ⟨w.heap.size, 0, none⟩) m m) m (intsV (((l.take j').map F) ++ List.replicate (m - j') 0))) ∧ Hid (w.grownBy (w1.setCell ⟨w.heap.size, j, none⟩ (.int .i64 z)) (some mb))) := Lib.hid (fun w1 hM1 hg1 => by
     have hO1 := own_grown HO.out HMlt.out.2.2 hg1
     refine ⟨j + 1, by omega, by go_num, ?_, ?_, ?_⟩
     · rw [HTk.out]; exact Lib.hid (hM1.setRow (by omega) _)
     · rw [HRow.out]; exact Lib.hid (hO1.stored j (.int .i64 z)).1
     · have h7 := grown_trans HG.out hg1
       exact Lib.hid ⟨h7.os, h7.tape, h7.output, by rw [World.size_setCell]; exact h7.size, fun k hk hr => (Below.heap_setCell _ _ _ _ (show k ≠ w.heap.size by omega)).trans (h7.block k hk hr)⟩)
    have i1 : (0 : Int) ≤ (j : Int) := by omega
    have i2 : (j : Int) < (m : Int) := by omega
    have hHas := (hag x).1
    have hAt0 := (hag x).2
    by_cases hmem : x ∈ cn
    · have HHas : Hid (Maps.has D (.string x.data.toList) = true) := Lib.hid (hHas.2 hmem)
      have hadd : add cn x = cn := by unfold add; rw [if_pos hmem]
      rw [hadd] at HFj HNext
      have HAt := Lib.hid (hAt0 hmem)
      rw [← HFj.out] at HAt
      have HNx := Lib.hid (HNext.out wr HT.out (grown_refl _ _))
      clear HNext hmem hag hHas hAt0 hadd
      go_wp2_with (first
       | (at_lookup; refine wpList_lookup_own_ok_int _ rfl (.tmp 21) (.tmp 22) tMap rfl tStr tInt .i64 lawS Tryz.underlying121 Tryz.underlying3 (zeroI _) mb cn.length D rfl HOwn.out _ _ rfl HKey.out ?_; intro c hat _; rw [HHas.out]; obtain rfl : z = c := by have := HAt.out.symm.trans hat; simpa using this)
       | (at_lookup; refine wpList_lookup_own_int _ rfl (.tmp 34) (.tmp 35) tMap rfl tStr tInt .i64 lawS Tryz.underlying121 Tryz.underlying3 (zeroI _) mb cn.length D rfl HOwn.out _ _ rfl HKey.out ?_; intro c hat _; obtain rfl : z = c := by have := HAt.out.symm.trans hat; simpa using this))
      go_roundw
      case rel => exact HNx.out
      case measure => simp [intOf]; omega
    · have HHas : Hid (Maps.has D (.string x.data.toList) = false) := Lib.hid (by
       rw [Bool.eq_false_iff]; intro h; exact hmem (hHas.1 h))
      have hadd : add cn x = cn ++ [x] := by unfold add; rw [if_neg hmem]
      rw [hadd] at HFj HNext
      rw [posN_snoc hmem] at HFj
      have HSize := Lib.hid hsize
      have HPut : Hid (∀ w1 : World, w1.ownsMap Tryz.prog tStr (plainElem Tryz.prog tInt) mb (cn.length + 1) (D.put (kl x) (.lit (.int .i64 z))) → wr.grownBy w1 (some mb) → MapN w1 base mb (cn ++ [x]) ∧ w1.frozen? ⟨w.heap.size, j, none⟩ = false ∧ w1.cell? ⟨w.heap.size, j, none⟩ = some y) := Lib.hid (fun w1 hm1 hg1 => by
       have hO1 := own_grown HO.out HMlt.out.2.2 hg1
       refine ⟨⟨_, hbm, by simpa using hm1, ?_, ?_⟩, hO1.frozenAt j, ?_⟩
       · rw [HFj.out]; exact agrees_put hag HOwn.out.isMap hmem
       · rw [size_put (HOwn.out.tidy lawS)]
         have h9 : Maps.has D (kl x) = false := HHas.out
         rw [h9, List.length_append, HSize.out]
         rfl
       · have h5 := hO1.cellAt j (by omega)
         have h6 := HO.out.cellAt j (by omega)
         rw [h5, ← h6]; exact hcell)
      have HAt : Hid ((D.put (kl x) (.lit (.int .i64 z))).atKey (.string x.data.toList) (.lit (.int .i64 0)) = .lit (.int .i64 z)) := Lib.hid (by
       rw [show (Lit.string x.data.toList) = kl x from rfl, atKey_put_same HOwn.out.isMap (by trivial)])
      have hwf : (Lit.int .i64 z).wf = true := by rw [HFj.out]; exact WalkArith.wf_i64 (by omega)
      have HWf := Lib.hid hwf
      have HZ : Hid ((Maps.size D : Int) = z) := Lib.hid (by rw [HSize.out, HFj.out])
      have HLen : Hid (cn.length < maxLen) := Lib.hid (by unfold maxLen; omega)
      clear hmem hag hHas hAt0 hadd hwf hsize HSize HFj hnl
      go_wp2_with (first
       | (at_lookup; refine wpList_lookup_own_ok_int _ rfl (.tmp 21) (.tmp 22) tMap rfl tStr tInt .i64 lawS Tryz.underlying121 Tryz.underlying3 (zeroI _) mb cn.length D rfl HOwn.out _ _ rfl HKey.out ?_; intro c _ _; rw [HHas.out])
       | (at_len; refine wpList_len_own _ rfl _ tMap rfl tStr tInt Tryz.underlying121 _ mb cn.length D rfl HOwn.out ?_; rw [HZ.out])
       | (at_mapUpdate; refine wpList_mapUpdate_own _ rfl _ _ _ tMap rfl tStr tInt lawS Tryz.underlying121 _ mb cn.length D rfl HOwn.out HLen.out _ _ _ rfl rfl HKey.out _ [] (plainElem_int Tryz.underlying3 HWf.out) ?_; intro w1 hm1 hg1; obtain ⟨hM1, f1, c1⟩ := HPut.out w1 hm1 hg1; have HM1 := Lib.hid hM1; have HOw1 := Lib.hid hm1; have HG1 := Lib.hid hg1; clear hm1 hg1 hM1)
       | (at_lookup; refine wpList_lookup_own_int _ rfl (.tmp 34) (.tmp 35) tMap rfl tStr tInt .i64 lawS Tryz.underlying121 Tryz.underlying3 (zeroI _) mb (cn.length + 1) _ rfl HOw1.out _ _ rfl HKey.out ?_; intro c hat _; obtain rfl : z = c := by have := HAt.out.symm.trans hat; simpa using this))
      go_roundw
      case rel => exact HNext.out _ HM1.out HG1.out
      case measure => simp [intOf]; omega
  · have HE : Hid (l.take j = l) := Lib.hid (List.take_of_length_le (by rw [HM.out]; omega))
    have hd : decide (j < m) = false := by simp only [decide_eq_false_iff_not]; omega
    have hjm : j = m := by omega
    have HJ : Hid ((m - j) = 0) := Lib.hid (by omega)
    clear hjm
    go_wp2_with fail
    go_ret
    refine HEnd.out _ _ _ rfl ?_ ?_ HG.out
    · have := HO.out
      rw [HE.out, HJ.out, List.replicate_zero, List.append_nil] at this
      exact this
    · have := HT.out; rw [HE.out] at this; exact this
end Uf
end Go.Proofs.YtjecfmbecgpbmaaGreatDoor

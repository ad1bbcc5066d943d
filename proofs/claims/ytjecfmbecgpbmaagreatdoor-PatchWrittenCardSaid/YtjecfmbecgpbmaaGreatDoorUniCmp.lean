/- Facts; each states its conditions. -/
import Derived.Test.YtjecfmbecgpbmaaGreatDoorGTextBase
import Derived.Test.YtjecfmbecgpbmaaGreatDoorShoNea
import Derived.Test.YtjecfmbecgpbmaaGreatDoorSliGen
import Derived.Test.YtjecfmbecgpbmaaGreatDoorUniNum
import Derived.Test.YtjecfmbecgpbmaaGreatDoorGHnkBase
import Derived.Test.YtjecfmbecgpbmaaGreatDoorGSliClone
namespace Go.Proofs.YtjecfmbecgpbmaaGreatDoor
section
namespace Hn
end Hn
namespace Sc
end Sc
namespace Sh
end Sh
namespace Sl
end Sl
namespace Uf
open Sc Hn Sl Sh
theorem cut_eq {α : Type} {xs ys : List α} {i j n : Nat} (hi : i + n ≤ xs.length) (hj : j + n ≤ ys.length) (h : ∀ t, t < n → xs[i + t]? = ys[j + t]?) : cut xs i (i + n) = cut ys j (j + n) := by
 apply List.ext_getElem?
 intro k
 by_cases hk : k < n
 · rw [cut_get xs (by omega), cut_get ys (by omega), h k hk]
 · rw [List.getElem?_eq_none (by rw [cut_len xs hi]; omega), List.getElem?_eq_none (by rw [cut_len ys hj]; omega)]
theorem run_cut {s t : ByteArray} {i j n : Nat} (hi : i + n ≤ (lnB s).length) (hj : j + n ≤ (lnB t).length) (h : RunE (idA s t) (idB s t) i j n) : cut (lnB s) i (i + n) = cut (lnB t) j (j + n) := by
 refine cut_eq hi hj fun k hk => ?_
 have h1 := h k (by omega) (by omega)
 unfold gI at h1
 rw [show ((i : Int) + (k : Int)).toNat = i + k from by omega, show ((j : Int) + (k : Int)).toNat = j + k from by omega] at h1
 have li : i + k < (lnB s).length := by omega
 have lj : j + k < (lnB t).length := by omega
 unfold idA idB at h1
 rw [List.getD_eq_getElem?_getD, List.getD_eq_getElem?_getD, List.getElem?_map, List.getElem?_map, List.getElem?_eq_getElem li, List.getElem?_eq_getElem lj] at h1
 simp only [Option.map_some, Option.getD_some] at h1
 have m1 : (lnB s)[i + k] ∈ Nt.namesF [lnB s, lnB t] := Nt.mem_namesF (f := lnB s) (by simp) (List.getElem_mem li)
 have m2 : (lnB t)[j + k] ∈ Nt.namesF [lnB s, lnB t] := Nt.mem_namesF (f := lnB t) (by simp) (List.getElem_mem lj)
 rw [List.getElem?_eq_getElem li, List.getElem?_eq_getElem lj, (Nt.placeI_inj m1 m2).1 h1]
theorem lf_fit {s t : ByteArray} : ∀ (l : List Ch) (f : Bool) (i j : Nat), (f = true → i = 0) → i ≤ (lnB s).length → j ≤ (lnB t).length → FitL (idA s t) (idB s t) f i j l → Lf (lnB s) (lnB t) i j l (lnB s).length (lnB t).length
 | [], f, i, j, hf, hi, hj, h => by
   obtain ⟨h1, h2⟩ := fit_nil.1 h
   have la : (idA s t).length = (lnB s).length := by unfold idA; rw [List.length_map]
   have lb : (idB s t).length = (lnB t).length := by unfold idB; rw [List.length_map]
   rw [la] at h1 h2
   rw [lb] at h1
   refine ⟨hi, hj, Nat.le_refl _, Nat.le_refl _, by omega, ?_⟩
   have h3 := run_cut (s := s) (t := t) (i := i) (j := j) (n := (lnB s).length - i) (by omega) (by omega) (by rw [show (((lnB s).length - i : Nat) : Int) = ((lnB s).length : Int) - i from by omega]; exact h2)
   rw [show i + ((lnB s).length - i) = (lnB s).length from by omega, show j + ((lnB s).length - i) = (lnB t).length from by omega] at h3
   exact h3
 | c :: l, f, i, j, hf, hi, hj, h => by
   obtain ⟨h1, h2, h3⟩ := fit_cons.1 h
   have la : (idA s t).length = (lnB s).length := by unfold idA; rw [List.length_map]
   have lb : (idB s t).length = (lnB t).length := by unfold idB; rw [List.length_map]
   rw [la, lb] at h1
   obtain ⟨⟨⟨a0, a1, a2⟩, ⟨b0, b1, b2⟩, e⟩, g, q⟩ := h1
   obtain ⟨o, ol, nw, nl⟩ := c
   simp only at a0 a1 a2 b0 b1 b2 e g q h2 h3
   obtain ⟨o, rfl⟩ : ∃ n : Nat, o = n := ⟨o.toNat, by omega⟩
   obtain ⟨ol, rfl⟩ : ∃ n : Nat, ol = n := ⟨ol.toNat, by omega⟩
   obtain ⟨nw, rfl⟩ : ∃ n : Nat, nw = n := ⟨nw.toNat, by omega⟩
   obtain ⟨nl, rfl⟩ : ∃ n : Nat, nl = n := ⟨nl.toNat, by omega⟩
   have hio : i ≤ o := by
    cases f with
    | true => have := hf rfl; omega
    | false => have := q rfl; omega
   have h4 := run_cut (s := s) (t := t) (i := i) (j := j) (n := o - i) (by omega) (by omega) (by rw [show ((o - i : Nat) : Int) = (o : Int) - i from by omega]; exact h2)
   rw [show i + (o - i) = o from by omega, show j + (o - i) = nw from by omega] at h4
   refine ⟨o, ol, nw, nl, rfl, hio, by omega, by omega, by omega, h4, ?_⟩
   exact lf_fit l false (o + ol) (nw + nl) (fun h => by cases h) (by omega) (by omega) (by rw [Int.natCast_add, Int.natCast_add]; exact h3)
theorem lf_top {s t : ByteArray} {l : List Ch} (h : FitL (idA s t) (idB s t) true 0 0 l) : Lf (lnB s) (lnB t) 0 0 l (lnB s).length (lnB t).length := lf_fit l true 0 0 (fun _ => rfl) (Nat.zero_le _) (Nat.zero_le _) h
theorem lnB_flat (s : ByteArray) : ((lnB s).map Tx.bs).flatten = Tx.bs s := by
 unfold lnB
 rw [Tx.mks_map, Tx.linesF_flatten]
def scrD (down : Bool) (s t : ByteArray) : List Ch := if down = true then downF (idA s t) (idB s t) ((idA s t).length : Int) (blbF s t) else blbF s t
theorem scrD_fit {s t : ByteArray} (hs : s.size ≤ 4096) (ht : t.size ≤ 4096) (down : Bool) : FitL (idA s t) (idB s t) true 0 0 (scrD down s t) := by
 have l1 := idA_len s t
 have l2 := idB_len s t
 have hf := pick_fit1 (idA s t) (idB s t) (by omega) (by omega)
 unfold scrD
 split
 · exact fit_downF _ _ _ _ hf
 · exact hf
theorem scrD_lf {s t : ByteArray} (hs : s.size ≤ 4096) (ht : t.size ≤ 4096) (down : Bool) : Lf (lnB s) (lnB t) 0 0 (scrD down s t) (lnB s).length (lnB t).length := lf_top (scrD_fit hs ht down)
end Uf
end
section
namespace Cm
end Cm
open Go.RowKit
namespace Uf
open Cm Sc Hn Sl
open Sh (lnB lnB_len lnB_size idA idB idA_len idB_len blbF Blobs_any Spl_any SpPost2 ScPost)
def nameB (s : ByteArray) : Bool := decide (0 < s.size ∧ s.size ≤ 200)
theorem empty_of (s : ByteArray) (h : s.size = 0) : s.toList = [] := by
 rw [ByteArray.toList_eq]
 exact List.eq_nil_of_length_eq_zero h
theorem not_empty_of (s : ByteArray) (h : 0 < s.size) : ¬ s.toList = [] := by
 rw [ByteArray.toList_eq]
 intro e
 have : s.data.toList.length = 0 := by rw [e]; rfl
 have h2 : s.data.toList.length = s.size := rfl
 omega
set_option maxRecDepth 100000 in
theorem isName_any (s : ByteArray) (w : World) : Calls Tryz.prog 45 #[.string s] w fun e w' => e = .returned (.bool (nameB s)) ∧ w' = w := by
 by_cases h0 : s.size = 0
 · have e0 := empty_of s h0
   have e1 : (!s.toList.isEmpty) = false := by rw [e0]; rfl
   have en : nameB s = false := by unfold nameB; rw [decide_eq_false_iff_not]; omega
   rw [en]
   clear h0
   go_enter Tryz.func45, Tryz.ntmps45
   go_wp2_with fail
   go_ret
   exact ⟨rfl, rfl⟩
 · have e0 := not_empty_of s (by omega)
   have e1 : (!s.toList.isEmpty) = true := by simpa using e0
   by_cases h2 : (s.size : Int) ≤ 200
   · have en : nameB s = true := by unfold nameB; rw [decide_eq_true_iff]; omega
     rw [en]
     go_enter Tryz.func45, Tryz.ntmps45
     go_wp2_with fail
     go_ret
     exact ⟨rfl, rfl⟩
   · have en : nameB s = false := by unfold nameB; rw [decide_eq_false_iff_not]; omega
     have hd : decide ((s.size : Int) ≤ 200) = false := decide_eq_false h2
     rw [en]
     go_enter Tryz.func45, Tryz.ntmps45
     go_wp2_with fail
     go_ret
     exact ⟨rfl, rfl⟩
set_option maxRecDepth 100000 in
theorem NameR_any (s : ByteArray) (w : World) : Calls Tryz.prog 53 #[.string s] w fun e w' => e = .returned (.bool (nameB s)) ∧ w' = w := by
 by_cases h1 : (1 : Int) ≤ (s.size : Int)
 · by_cases h2 : (s.size : Int) ≤ 200
   · have en : nameB s = true := by unfold nameB; rw [decide_eq_true_iff]; omega
     rw [en]
     go_enter Tryz.func53, Tryz.ntmps53
     go_wp2_with fail
     go_ret
     exact ⟨rfl, rfl⟩
   · have en : nameB s = false := by unfold nameB; rw [decide_eq_false_iff_not]; omega
     have hd : decide ((s.size : Int) ≤ 200) = false := decide_eq_false h2
     rw [en]
     go_enter Tryz.func53, Tryz.ntmps53
     go_wp2_with fail
     go_ret
     exact ⟨rfl, rfl⟩
 · have en : nameB s = false := by unfold nameB; rw [decide_eq_false_iff_not]; omega
   have hd : decide ((1 : Int) ≤ (s.size : Int)) = false := decide_eq_false h1
   rw [en]
   go_enter Tryz.func53, Tryz.ntmps53
   go_wp2_with fail
   go_ret
   exact ⟨rfl, rfl⟩
theorem num_ids (s t : ByteArray) : (lnB s).map (fun z => (Nt.posN (Nt.namesA [] (lnB s)) z : Int)) = idA s t ∧ (lnB t).map (fun z => (Nt.posN (Nt.namesA (Nt.namesA [] (lnB s)) (lnB t)) z : Int)) = idB s t := by
 have hn : Nt.namesF [lnB s, lnB t] = Nt.namesA (Nt.namesA [] (lnB s)) (lnB t) := by
  unfold Nt.namesF
  rw [← Nt.namesA_append]
  simp
 constructor
 · unfold idA
   refine List.map_congr_left fun z hz => ?_
   rw [hn]
   obtain ⟨u, hu⟩ := Nt.namesA_prefix (lnB t) (Nt.namesA [] (lnB s))
   have hm : z ∈ Nt.namesA [] (lnB s) := (Nt.mem_namesA _ _ _).2 (.inr hz)
   rw [hu, Nt.placeI_prefix hm]
   unfold Nt.placeI
   rw [if_pos hm]
 · unfold idB
   refine List.map_congr_left fun z hz => ?_
   rw [hn]
   have hm : z ∈ Nt.namesA (Nt.namesA [] (lnB s)) (lnB t) := (Nt.mem_namesA _ _ _).2 (.inr hz)
   unfold Nt.placeI
   rw [if_pos hm]
theorem cell_off {W : World} {G b o : Nat} {t : TypeId} {ls : List Value} {u : Value} (hb : Blk W G t ls) (h : W.cell? ⟨b, o, none⟩ = some u) (hne : ∀ z ∈ ls, u ≠ z) : b ≠ G := by
 rintro rfl
 unfold Blk at hb
 simp only [World.cell?, hb] at h
 have h2 : ls[o]? = some u := by simpa using h
 exact hne u (List.mem_iff_getElem?.2 ⟨o, h2⟩) rfl
theorem rdV_off {W W' : World} {G : Nat} {t : TypeId} {ls us : List Value} {v : Value} (h : RdV W v us) (hb : Blk W G t ls) (hne : ∀ u ∈ us, ∀ z ∈ ls, u ≠ z) (hk : ∀ k, k ≠ G → W'.heap[k]? = W.heap[k]?) : RdV W' v us := by
 obtain ⟨A, c, rfl, hcap, hc⟩ := h
 refine ⟨A, c, rfl, hcap, fun hp => ?_⟩
 obtain ⟨b, off, rfl, hcell⟩ := hc hp
 refine ⟨b, off, rfl, fun j hj => ?_⟩
 have h1 := hcell j hj
 have h2 := cell_off hb h1 (hne _ (List.getElem_mem hj))
 rw [World.cell?_of_block (a := ⟨b, off + j, none⟩) (hk b h2)]
 exact h1
theorem rdK_off {α : Type} {k : Nat} {enc : α → List Value} {W W' : World} {G : Nat} {t : TypeId} {ls : List Value} {xs : List α} {v : Value} (h : RdK k enc W v xs) (hb : Blk W G t ls) (hne : ∀ x ∈ xs, ∀ u ∈ enc x, ∀ z ∈ ls, u ≠ z) (hk : ∀ k, k ≠ G → W'.heap[k]? = W.heap[k]?) : RdK k enc W' v xs := by
 obtain ⟨A, c, rfl, hcap, hc⟩ := h
 refine ⟨A, c, rfl, hcap, fun hp => ?_⟩
 obtain ⟨b, off, rfl, hcell⟩ := hc hp
 refine ⟨b, off, rfl, fun j hj i hi => ?_⟩
 have h1 := hcell j hj i hi
 have h2 := cell_off hb h1 (hne _ (List.getElem_mem hj) _ (List.getElem_mem hi))
 rw [World.cell?_of_block (a := ⟨b, off + j * k + i, none⟩) (hk b h2)]
 exact h1
theorem set3_off (W : World) (G : Nat) (a b c : Value) : ∀ k, k ≠ G → (((W.setCell ⟨G, 0, none⟩ a).setCell ⟨G, 1, none⟩ b).setCell ⟨G, 2, none⟩ c).heap[k]? = W.heap[k]? := fun _ h =>
 ((Below.heap_setCell _ _ _ _ h).trans (Below.heap_setCell _ _ _ _ h)).trans (Below.heap_setCell _ _ _ _ h)
theorem strs_ne (xs : List ByteArray) : ∀ u ∈ stringsV xs, ∀ z ∈ [Value.slice none 0 0, .slice none 0 0, .slice none 0 0], u ≠ z := by
 intro u hu z hz
 obtain ⟨s, _, rfl⟩ := List.mem_map.1 hu
 simp only [List.mem_cons, List.not_mem_nil, or_false, or_self] at hz
 subst hz
 intro h; cases h
theorem chs_ne (xs : List Ch) : ∀ x ∈ xs, ∀ u ∈ chC x, ∀ z ∈ [Value.slice none 0 0, .slice none 0 0, .slice none 0 0], u ≠ z := by
 intro x _ u hu z hz
 simp only [List.mem_cons, List.not_mem_nil, or_false, or_self] at hz
 subst hz
 unfold chC at hu
 simp only [List.mem_cons, List.not_mem_nil, or_false] at hu
 rcases hu with rfl | rfl | rfl | rfl
 all_goals (intro h; cases h)
def CpPost (s t : ByteArray) (down : Bool) (w : World) (e : Ending) (w' : World) : Prop :=
 ∃ vx vy vl, e = .returned (.tuple #[.agg #[vx, vy, vl], .int .i64 0]) ∧ RdV w' vx (stringsV (lnB s)) ∧ RdV w' vy (stringsV (lnB t)) ∧ RdC w' vl (scrD down s t) ∧ Below w.heap.size w w'
set_option maxRecDepth 100000 in
set_option maxHeartbeats 4000000 in
theorem compare_any (s t : ByteArray) (down : Bool) (hs : s.size ≤ 1000) (ht : t.size ≤ 1000) (w : World) : Calls Tryz.prog 46 #[.string s, .string t, .bool down] w (CpPost s t down w) := by
 have HBl := Lib.hid (fun w => Blobs_any s t hs ht w)
 have HS1 := Lib.hid (fun w => Spl_any s hs w)
 have HS2 := Lib.hid (fun w => Spl_any t ht w)
 have l1 := lnB_len s
 have l2 := lnB_len t
 have i1 := idA_len s t
 have i2 := idB_len s t
 have HF := Lib.hid (pick_fit1 (idA s t) (idB s t) (by omega) (by omega))
 have HDn := Lib.hid (fun (v va vb : Value) (w : World) (h : RdC w v (blbF s t)) (ha : RdV w va (intsV (idA s t))) (hb : RdV w vb (intsV (idB s t))) => Down_any v (blbF s t) va vb (idA s t) (idB s t) w h ha hb (by omega) (by omega) HF.out)
 have hz1 := lnB_size s
 have hz2 := lnB_size t
 have HN1 := Lib.hid (fun (mb base : Nat) (u : Value) (w : World) (hr : RdV w u (stringsV (lnB s))) (hT : MapN w base mb []) => numbers_any mb base [] (lnB s) u w hr hT (fun z hz => by have := hz1 z hz; unfold maxLen; omega) (by simp) (by omega))
 have HN2 := Lib.hid (fun (mb base : Nat) (u : Value) (w : World) (hr : RdV w u (stringsV (lnB t))) (hT : MapN w base mb (Nt.namesA [] (lnB s))) => numbers_any mb base (Nt.namesA [] (lnB s)) (lnB t) u w hr hT (fun z hz => by have := hz2 z hz; unfold maxLen; omega) (by have := Nt.namesA_len (lnB s) []; simp only [List.length_nil] at this; omega) (by omega))
 have hid := num_ids s t
 unfold NumPost at HN1 HN2
 rw [hid.1] at HN1
 rw [hid.2] at HN2
 have hD : scrD down s t = if down = true then downF (idA s t) (idB s t) ((idA s t).length : Int) (blbF s t) else blbF s t := rfl
 unfold CpPost
 rw [hD]
 clear hid hD HF hz1 hz2 i1 i2
 unfold DnPost at HDn
 generalize idA s t = ia at *
 generalize idB s t = ib at *
 generalize Nt.namesA (Nt.namesA [] (lnB s)) (lnB t) = n2 at *
 generalize Nt.namesA [] (lnB s) = n1 at *
 generalize downF ia ib (ia.length : Int) (blbF s t) = ld at *
 generalize blbF s t = l at *
 unfold SpPost2 at HS1 HS2
 generalize lnB s = xs at *
 generalize lnB t = ys at *
 have hmm := @run_makeMap Tryz.prog
 have HB0 := Lib.hid ((Below.refl w.heap.size w).alloc (Nat.le_refl _) (.cells #[.slice none 0 0, .slice none 0 0, .slice none 0 0] tDf))
 have HZ0 : Hid (Blk (w.alloc (.cells #[.slice none 0 0, .slice none 0 0, .slice none 0 0] tDf)) w.heap.size tDf [.slice none 0 0, .slice none 0 0, .slice none 0 0]) := Lib.hid (heap_new w _)
 have HEnd : Hid (∀ W : World, Blk W w.heap.size tDf [.slice none 0 0, .slice none 0 0, .slice none 0 0] → W.cell? ⟨w.heap.size, 0, none⟩ = some (.slice none 0 0) ∧ W.cell? ⟨w.heap.size, 1, none⟩ = some (.slice none 0 0) ∧ W.cell? ⟨w.heap.size, 2, none⟩ = some (.slice none 0 0) ∧ (∀ k, W.frozen? ⟨w.heap.size, k, none⟩ = false) ∧ w.heap.size < W.heap.size) := Lib.hid (fun W h => ⟨h.cell (k := 0) (show 0 < 3 by decide), h.cell (k := 1) (show 1 < 3 by decide), h.cell (k := 2) (show 2 < 3 by decide), h.free, h.lt⟩)
 have HFin : Hid (∀ (W : World) (vx vy vl : Value) (ll : List Ch), Below w.heap.size w W → RdV W vx (stringsV xs) → RdV W vy (stringsV ys) → RdC W vl ll → Blk W w.heap.size tDf [.slice none 0 0, .slice none 0 0, .slice none 0 0] →
  Hid (RdV (((W.setCell ⟨w.heap.size, 0, none⟩ vx).setCell ⟨w.heap.size, 1, none⟩ vy).setCell ⟨w.heap.size, 2, none⟩ vl) vx (stringsV xs) ∧ RdV (((W.setCell ⟨w.heap.size, 0, none⟩ vx).setCell ⟨w.heap.size, 1, none⟩ vy).setCell ⟨w.heap.size, 2, none⟩ vl) vy (stringsV ys) ∧ RdC (((W.setCell ⟨w.heap.size, 0, none⟩ vx).setCell ⟨w.heap.size, 1, none⟩ vy).setCell ⟨w.heap.size, 2, none⟩ vl) vl ll ∧ Below w.heap.size w (((W.setCell ⟨w.heap.size, 0, none⟩ vx).setCell ⟨w.heap.size, 1, none⟩ vy).setCell ⟨w.heap.size, 2, none⟩ vl))) := Lib.hid (fun W vx vy vl ll hb h1 h2 h3 h4 => by
  have hk := set3_off W w.heap.size vx vy vl
  exact Lib.hid ⟨rdV_off h1 h4 (strs_ne _) hk, rdV_off h2 h4 (strs_ne _) hk, rdK_off h3 h4 (chs_ne _) hk, ((hb.setCell (p := ⟨w.heap.size, 0, none⟩) (Nat.le_refl _) _).setCell (p := ⟨w.heap.size, 1, none⟩) (Nat.le_refl _) _).setCell (p := ⟨w.heap.size, 2, none⟩) (Nat.le_refl _) _⟩)
 go_enter Tryz.func46, Tryz.ntmps46
 go_wp2_with fail
 refine (HBl.out _).mono ?_
 rintro e w1 ⟨vl, rfl, ho, hb⟩
 have HL1 := Lib.hid ho.rd
 have HB1 := Lib.hid (HB0.out.trans (hb.mono HB0.out.size))
 have HZ1 := Lib.hid (HZ0.out.below hb)
 obtain ⟨Al, cl, rfl⟩ := ho.rd.form
 clear ho hb HB0 HZ0 HBl
 go_wp2_with fail
 refine (HS1.out _).mono ?_
 rintro e w2 ⟨vx, rfl, hr, hb⟩
 have HX2 := Lib.hid hr
 have HL2 := Lib.hid (HL1.out.below hb)
 have HB2 := Lib.hid (HB1.out.trans (hb.mono HB1.out.size))
 have HZ2 := Lib.hid (HZ1.out.below hb)
 obtain ⟨Ax, cx, rfl⟩ := hr.form
 clear hr hb HB1 HZ1 HS1 HL1
 go_wp2_with fail
 refine (HS2.out _).mono ?_
 rintro e w3 ⟨vy, rfl, hr, hb⟩
 have HY3 := Lib.hid hr
 have HX3 := Lib.hid (HX2.out.below hb)
 have HL3 := Lib.hid (HL2.out.below hb)
 have HB3 := Lib.hid (HB2.out.trans (hb.mono HB2.out.size))
 have HZ3 := Lib.hid (HZ2.out.below hb)
 obtain ⟨Ay, cy, rfl⟩ := hr.form
 clear hr hb HB2 HZ2 HS2 HL2 HX2
 rw [stringsV_len] at HX3 HY3 ⊢
 rw [stringsV_len]
 cases down with
 | false =>
   obtain ⟨z0, z1, z2, fz, hlt⟩ := HEnd.out _ HZ3.out
   have HE := Lib.hid (HFin.out _ _ _ _ _ HB3.out HX3.out HY3.out HL3.out HZ3.out)
   go_wp2_with fail
   exact bodyPost_ret (v := .tuple #[.agg #[.slice Ax xs.length cx, .slice Ay ys.length cy, .slice Al l.length cl], .int .i64 0]) (by simp [results, Tryz.f46, go_sem, z0, z1, z2]) rfl ⟨_, _, _, rfl, HE.out.out.1, HE.out.out.2.1, HE.out.out.2.2.1, HE.out.out.2.2.2⟩
 | true =>
   have HM4 := Lib.hid (mapN_new w3)
   have HA4 := Lib.hid ((Below.refl w3.heap.size w3).alloc (Nat.le_refl _) (.map #[] 0))
   have HX4 := Lib.hid (HX3.out.below HA4.out)
   go_wp2_with fail
   refine (HN1.out _ _ _ _ HX4.out HM4.out).mono ?_
   rintro e w5 ⟨va, rfl, hown, hmap, hg⟩
   have HA5 := Lib.hid (HA4.out.trans (grown_below hg (Nat.le_refl _) HM4.out.lt.2.1))
   have HY5 := Lib.hid (HY3.out.below HA5.out)
   have HOa5 := Lib.hid hown
   have HM5 := Lib.hid hmap
   obtain ⟨Aa, ca, rfl⟩ := own_form hown
   clear hown hmap hg HM4 HX4 HA4 HN1
   go_wp2_with fail
   refine (HN2.out _ _ _ _ HY5.out HM5.out).mono ?_
   rintro e w6 ⟨vb, rfl, hown, hmap, hg⟩
   have HA6 := Lib.hid (HA5.out.trans (grown_below hg (by have := HM5.out; obtain ⟨_, hh, _⟩ := this; exact hh) HM5.out.lt.2.1))
   have HOa6 := Lib.hid (own_grown HOa5.out HM5.out.lt.2.2 hg)
   have HOb6 := Lib.hid hown
   have hla := own_len HOa5.out
   have hlb := own_len hown
   obtain ⟨Ab, cb, rfl⟩ := own_form hown
   clear hown hmap hg HM5 HY5 HA5 HN2 HOa5
   have HRa := Lib.hid (RdV.of_own (us := intsV ia) (hla ▸ HOa6.out))
   have HRb := Lib.hid (RdV.of_own (us := intsV ib) (hlb ▸ HOb6.out))
   have HL6 := Lib.hid (HL3.out.below HA6.out)
   rw [hla] at HRa
   rw [hlb] at HRb
   go_wp2_with fail
   refine (HDn.out _ _ _ _ HL6.out HRa.out HRb.out).mono ?_
   rintro e w7 ⟨vl, rfl, ho, hb⟩
   have HA7 := Lib.hid (HA6.out.trans (hb.mono HA6.out.size))
   have HL7 := Lib.hid ho.rd
   have HX7 := Lib.hid (HX3.out.below HA7.out)
   have HY7 := Lib.hid (HY3.out.below HA7.out)
   have HZ7 := Lib.hid (HZ3.out.below HA7.out)
   have HB7 := Lib.hid (HB3.out.trans (HA7.out.mono HB3.out.size))
   obtain ⟨Ad, cd, rfl⟩ := ho.rd.form
   clear ho hb HA6 HA7 HL6 HRa HRb HOa6 HOb6 hla hlb HX3 HY3 HL3 HB3 HZ3
   obtain ⟨z0, z1, z2, fz, hlt⟩ := HEnd.out _ HZ7.out
   have HE := Lib.hid (HFin.out _ _ _ _ _ HB7.out HX7.out HY7.out HL7.out HZ7.out)
   go_wp2_with fail
   exact bodyPost_ret (v := .tuple #[.agg #[.slice Ax xs.length cx, .slice Ay ys.length cy, .slice Ad ld.length cd], .int .i64 0]) (by simp [results, Tryz.f46, go_sem, z0, z1, z2]) rfl ⟨_, _, _, rfl, HE.out.out.1, HE.out.out.2.1, HE.out.out.2.2.1, HE.out.out.2.2.2⟩
end Uf
end
end Go.Proofs.YtjecfmbecgpbmaaGreatDoor

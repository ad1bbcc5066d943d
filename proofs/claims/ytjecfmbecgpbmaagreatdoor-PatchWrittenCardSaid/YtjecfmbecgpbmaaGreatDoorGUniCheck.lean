/- Facts; each states its conditions. -/
import Derived.Test.YtjecfmbecgpbmaaGreatDoorGUniIter
import Derived.Test.YtjecfmbecgpbmaaGreatDoorUniCmp
import Derived.Test.YtjecfmbecgpbmaaGreatDoorGTextAppend
import Derived.Test.YtjecfmbecgpbmaaGreatDoorGHnkBase
import Derived.Test.YtjecfmbecgpbmaaGreatDoorUniMake
namespace Go.Proofs.YtjecfmbecgpbmaaGreatDoor
section
namespace Cm
end Cm
namespace Hn
end Hn
namespace Sc
end Sc
namespace Tx
end Tx
open Go.RowKit
namespace Uf
open Cm Hn
open Sc (fmtR Pow RdK)
open Tx (bs)
def chkC (p : Pat) : Int := if nameB p.on = true ∧ nameB p.nn = true then (if hksB (0, false) (0, false) p.hunks = true then (if szL (partsF p) ≤ 16777216 then 0 else 1) else 121) else 120
theorem lnsSt_ok : ∀ {ls : List Ln} {o n : Sd} {r : Sd × Sd}, lnsSt o n ls = some r → ∀ l ∈ ls, lnB l = true
 | [], _, _, _, _, l, hl => by cases hl
 | a :: ls, o, n, r, h, l, hl => by
   rw [lnsSt] at h
   split at h
   · rename_i ha
     split at h
     · rcases List.mem_cons.1 hl with rfl | hl
       · exact ha
       · exact lnsSt_ok h l hl
     · cases h
   · cases h
theorem hksB_ok : ∀ {hs : List PH} {o n : Sd}, hksB o n hs = true → ∀ h ∈ hs, ∀ l ∈ h.lines, lnB l = true
 | [], _, _, _, h, hh => by cases hh
 | a :: hs, o, n, e, h, hh => by
   rw [hksB] at e
   split at e
   · split at e
     · rename_i o' n' hst
       rw [Bool.and_eq_true] at e
       rcases List.mem_cons.1 hh with rfl | hh
       · exact lnsSt_ok hst
       · exact hksB_ok e.2 h hh
     · cases e
   · cases e
theorem lnB_kind {l : Ln} (h : lnB l = true) : kindOk l.kind := by
 unfold lnB at h
 simp only [Bool.and_eq_true, Bool.or_eq_true, beq_iff_eq] at h
 unfold kindOk
 omega
theorem name_small {s : ByteArray} (h : nameB s = true) : s.size ≤ 200 := by
 unfold nameB at h
 rw [decide_eq_true_iff] at h
 omega
theorem pat_ok {p : Pat} (hs : PatSm p.hunks) (h1 : nameB p.on = true) (h2 : nameB p.nn = true) (h3 : hksB (0, false) (0, false) p.hunks = true) : PatOk p := by
 have a1 := name_small h1
 have a2 := name_small h2
 refine ⟨by omega, by omega, hs.1, fun h hh => ⟨(hs.2 h hh).1, (hs.2 h hh).2.1, (hs.2 h hh).2.2.1, fun l hl => ⟨lnB_kind (hksB_ok h3 h hh l hl), ?_⟩⟩⟩
 have := (hs.2 h hh).2.2.2 l hl
 omega
def CkPost (c : Int) (w : World) (e : Ending) (w' : World) : Prop := e = .returned (.int .i64 c) ∧ Below w.heap.size w w'
set_option maxRecDepth 100000 in
set_option maxHeartbeats 2000000 in
theorem Check_any (p : Pat) (v : Value) (w : World) (hr : RdP w v p.hunks) (hs : PatSm p.hunks) (hw : Pow w) : Calls Tryz.prog 43 #[tPatV p v] w (CkPost (chkC p) w) := by
 have HN := Lib.hid (fun s w => isName_any s w)
 have HB0 := Lib.hid ((Below.refl w.heap.size w).alloc (Nat.le_refl _) (.cells #[.string p.on, .string p.nn, v] tPat))
 have HR := Lib.hid (fun w' (hb : Below w.heap.size w w') => hr.below hb)
 have HAr := Lib.hid (fun w' (hb : Below w.heap.size w w') => areHunks_any v p.hunks w' (hr.below hb) hs)
 have HAB := Lib.hid (fun w' e w'' (h : AhPost p.hunks w' e w'') => h)
 unfold AhPost at HAB
 have HFt : Hid (nameB p.on = true → nameB p.nn = true → hksB (0, false) (0, false) p.hunks = true → ∀ w' (hb : Below w.heap.size w w'), Calls Tryz.prog 70 #[.agg #[.string p.on, .string p.nn, v]] w' (FtPost p w')) := Lib.hid (fun h1 h2 h3 w' hb => fits_any p v w' (hr.below hb) (pat_ok hs h1 h2 h3) (hw.stays hb))
 have HBox : Hid (∀ w', Below (w.heap.size + 1) (w.alloc (.cells #[.string p.on, .string p.nn, v] tPat)) w' → Below w.heap.size w w' ∧ w'.cell? ⟨w.heap.size, 0, none⟩ = some (.string p.on) ∧ w'.cell? ⟨w.heap.size, 1, none⟩ = some (.string p.nn) ∧ w'.cell? ⟨w.heap.size, 2, none⟩ = some v) := Lib.hid (fun w' hb => by
  have h := heap_new w (.cells #[.string p.on, .string p.nn, v] tPat)
  have hk : Blk w' w.heap.size tPat [.string p.on, .string p.nn, v] := (hb.block _ (Nat.lt_succ_self _)).trans h
  exact ⟨HB0.out.trans (hb.mono (Nat.le_succ _)), hk.cell (k := 0) (show 0 < 3 by decide), hk.cell (k := 1) (show 1 < 3 by decide), hk.cell (k := 2) (show 2 < 3 by decide)⟩)
 cases h1 : nameB p.on with
 | false =>
   have HC : Hid (chkC p = 120) := Lib.hid (by unfold chkC; rw [if_neg (by rw [h1]; simp)])
   rw [HC.out]
   clear HC
   go_enter Tryz.func43, Tryz.ntmps43
   go_wp2_with (go_at_call 45; refine (HN.out _ _).mono ?_; rintro e w1 ⟨rfl, rfl⟩; rw [h1])
   go_ret
   exact ⟨rfl, HB0.out⟩
 | true =>
   cases h2 : nameB p.nn with
   | false =>
     have HC : Hid (chkC p = 120) := Lib.hid (by unfold chkC; rw [if_neg (by rw [h2]; simp)])
     rw [HC.out]
     clear HC
     go_enter Tryz.func43, Tryz.ntmps43
     go_wp2_with fail
     refine (HN.out _ _).mono ?_
     rintro e w1 ⟨rfl, rfl⟩
     rw [h1]
     go_wp2_with fail
     refine (HN.out _ _).mono ?_
     rintro e w1 ⟨rfl, rfl⟩
     rw [h2]
     go_wp2_with fail
     go_ret
     exact ⟨rfl, HB0.out⟩
   | true =>
     cases h3 : hksB (0, false) (0, false) p.hunks with
     | false =>
       have HC : Hid (chkC p = 121) := Lib.hid (by unfold chkC; rw [if_pos ⟨h1, h2⟩, if_neg (by rw [h3]; simp)])
       rw [HC.out]
       have HA1 := Lib.hid (HAr.out _ HB0.out)
       clear HC HAr HFt HBox
       go_enter Tryz.func43, Tryz.ntmps43
       go_wp2_with fail
       refine (HN.out _ _).mono ?_
       rintro e w1 ⟨rfl, rfl⟩
       rw [h1]
       go_wp2_with fail
       refine (HN.out _ _).mono ?_
       rintro e w1 ⟨rfl, rfl⟩
       rw [h2]
       go_wp2_with fail
       refine HA1.out.mono ?_
       rintro e w1 ⟨rfl, hb1⟩
       rw [h3]
       have HBz := Lib.hid (HB0.out.trans (hb1.mono HB0.out.size))
       clear hb1
       go_wp2_with fail
       go_ret
       exact ⟨rfl, HBz.out⟩
     | true =>
       have HF := Lib.hid (HFt.out h1 h2 h3)
       have HA1 := Lib.hid (HAr.out _ HB0.out)
       have hz : chkC p = if szL (partsF p) ≤ 16777216 then 0 else 1 := by unfold chkC; rw [if_pos ⟨h1, h2⟩, if_pos h3]
       by_cases h4 : szL (partsF p) ≤ 16777216
       · have HD : Hid (decide (szL (partsF p) ≤ 16777216) = true) := Lib.hid (decide_eq_true h4)
         have HC : Hid (chkC p = 0) := Lib.hid (by rw [hz, if_pos h4])
         rw [HC.out]
         clear HC hz HFt HAr h4
         go_enter Tryz.func43, Tryz.ntmps43
         go_wp2_with fail
         refine (HN.out _ _).mono ?_
         rintro e w1 ⟨rfl, rfl⟩
         rw [h1]
         go_wp2_with fail
         refine (HN.out _ _).mono ?_
         rintro e w1 ⟨rfl, rfl⟩
         rw [h2]
         go_wp2_with fail
         refine HA1.out.mono ?_
         rintro e w1 ⟨rfl, hb1⟩
         rw [h3]
         have HBz := Lib.hid (HB0.out.trans (hb1.mono HB0.out.size))
         obtain ⟨-, k0, k1, k2⟩ := HBox.out w1 (hb1.mono (by simp))
         clear hb1 HBox
         go_wp2_with fail
         refine (HF.out _ HBz.out).mono ?_
         rintro e w2 ⟨rfl, hb2⟩
         rw [HD.out]
         have HBy := Lib.hid (HBz.out.trans (hb2.mono HBz.out.size))
         clear hb2
         go_wp2_with fail
         go_ret
         exact ⟨rfl, HBy.out⟩
       · have HD : Hid (decide (szL (partsF p) ≤ 16777216) = false) := Lib.hid (decide_eq_false h4)
         have HC : Hid (chkC p = 1) := Lib.hid (by rw [hz, if_neg h4])
         rw [HC.out]
         clear HC hz HFt HAr h4
         go_enter Tryz.func43, Tryz.ntmps43
         go_wp2_with fail
         refine (HN.out _ _).mono ?_
         rintro e w1 ⟨rfl, rfl⟩
         rw [h1]
         go_wp2_with fail
         refine (HN.out _ _).mono ?_
         rintro e w1 ⟨rfl, rfl⟩
         rw [h2]
         go_wp2_with fail
         refine HA1.out.mono ?_
         rintro e w1 ⟨rfl, hb1⟩
         rw [h3]
         have HBz := Lib.hid (HB0.out.trans (hb1.mono HB0.out.size))
         obtain ⟨-, k0, k1, k2⟩ := HBox.out w1 (hb1.mono (by simp))
         clear hb1 HBox
         go_wp2_with fail
         refine (HF.out _ HBz.out).mono ?_
         rintro e w2 ⟨rfl, hb2⟩
         rw [HD.out]
         have HBy := Lib.hid (HBz.out.trans (hb2.mono HBz.out.size))
         clear hb2
         go_wp2_with fail
         go_ret
         exact ⟨rfl, HBy.out⟩
end Uf
end
section
open Go.RowKit
namespace Uf
open Cm Hn
open Sc (RdK ownK_base)
open Tx (bs strsV StrsPost)
def allB (k : Int) (hs : List PH) : List (List UInt8) := hs.flatMap fun h => notB k h.lines
theorem allB_snoc (k : Int) (hs : List PH) (h : PH) : allB k (hs ++ [h]) = allB k hs ++ notB k h.lines := by unfold allB; simp
def endAll (l : List (List UInt8)) : Bool := l.dropLast.all Tx.endedF
theorem allB_pre (k : Int) (hs : List PH) (j : Nat) : (allB k (hs.take j)).length ≤ (allB k hs).length := by
 have h : allB k hs = allB k (hs.take j) ++ allB k (hs.drop j) := by
  unfold allB
  rw [← List.flatMap_append, List.take_append_drop]
 rw [h, List.length_append]; omega
theorem endAll_bad {l : List (List UInt8)} {i : Nat} (h : i + 1 < l.length) (he : Tx.endedF (l[i]'(by omega)) = false) : endAll l = false := by
 unfold endAll
 rw [List.all_eq_false]
 refine ⟨l[i]'(by omega), ?_, by rw [he]; decide⟩
 rw [List.mem_iff_getElem]
 exact ⟨i, by rw [List.length_dropLast]; omega, List.getElem_dropLast _⟩
theorem endAll_ok {l : List (List UInt8)} (h : ∀ i (_ : i + 1 < l.length), Tx.endedF (l[i]'(by omega)) = true) : endAll l = true := by
 unfold endAll
 rw [List.all_eq_true]
 intro x hx
 obtain ⟨i, hi, rfl⟩ := List.mem_iff_getElem.1 hx
 rw [List.length_dropLast] at hi
 rw [List.getElem_dropLast]
 exact h i (by omega)
set_option maxRecDepth 100000 in
set_option maxHeartbeats 4000000 in
theorem side_any (p : Pat) (v : Value) (k : Int) (w : World) (hr : RdP w v p.hunks) (hs : PatSm p.hunks) (hz : (allB k p.hunks).length ≤ 8388608) : Calls Tryz.prog 105 #[tPatV p v, .int .u8 k] w fun e w' => e = .returned (.bool (endAll (allB k p.hunks))) ∧ Below w.heap.size w w' := by
 obtain ⟨on, nn, hs0⟩ := p
 obtain ⟨hf, hh⟩ := hs
 simp only at hr hf hh hz ⊢
 have HR := Lib.hid (fun w' (hb : Below w.heap.size w w') => hr.below hb)
 obtain ⟨A, c, rfl⟩ := hr.form
 have HLn := Lib.hid (fun j (h : j < hs0.length) => (hh _ (List.getElem_mem h)).1)
 have HTx := Lib.hid (fun j (h : j < hs0.length) => (hh _ (List.getElem_mem h)).2.2.2)
 have HSn := Lib.hid (fun j (h : j < hs0.length) => (show allB k (hs0.take (j + 1)) = allB k (hs0.take j) ++ notB k hs0[j].lines by rw [List.take_succ_eq_append_getElem h, allB_snoc]))
 have HLe := Lib.hid (fun j => Nat.le_trans (allB_pre k hs0 j) hz)
 have HEn := Lib.hid (fun (s : ByteArray) (w : World) (h : s.size ≤ 9223372036854775807) => Tx.EndedR_any s w h)
 have HSz : Hid (∀ x ∈ allB k hs0, x.length ≤ 4194304) := Lib.hid (by
  intro x hx
  unfold allB at hx
  rw [List.mem_flatMap] at hx
  obtain ⟨h, h1, h2⟩ := hx
  unfold notB notK at h2
  rw [List.mem_map] at h2
  obtain ⟨t, h3, rfl⟩ := h2
  rw [List.mem_map] at h3
  obtain ⟨l, h4, rfl⟩ := h3
  rw [Tx.bs_len]
  exact (hh h h1).2.2.2 l (List.mem_filter.1 h4).1)
 clear hr hh
 obtain ⟨N, hN⟩ : ∃ N, N = hs0.length := ⟨_, rfl⟩
 have HN := Lib.hid hN.symm
 rw [← hN] at hf HR ⊢
 clear hN
 have HB0 := Lib.hid ((Below.refl w.heap.size w).alloc (Nat.le_refl _) (.cells #[.string on, .string nn, .slice A N c] tPat))
 have HK0 : Hid (Blk (w.alloc (.cells #[.string on, .string nn, .slice A N c] tPat)) w.heap.size tPat [.string on, .string nn, .slice A N c]) := Lib.hid (heap_new w _)
 go_enter Tryz.func105, Tryz.ntmps105
 go_wp2_with fail
 obtain ⟨W, hW⟩ : ∃ W, W = w.alloc (.cells #[.string on, .string nn, .slice A N c] tPat) := ⟨_, rfl⟩
 have hWz : W.heap.size = w.heap.size + 1 := by rw [hW]; simp
 rw [← hW] at HB0 HK0 ⊢
 clear hW
 go_loopw [5, 6] (fun u i wr => ∃ j : Nat, j ≤ N ∧ i = .int .i64 j ∧ Hid (wr.ownsRow W.heap.size 9 1 u (allB k (hs0.take j)).length (strsV (allB k (hs0.take j)))) ∧ Below W.heap.size W wr) (fun _ i _ => N - (intOf i).toNat)
 case atStart => exact ⟨0, Nat.zero_le _, rfl, Lib.hid (World.ownsRow_nil _ _ _ _), Below.refl _ _⟩
 case round =>
  obtain ⟨j, hj, rfl, HO, hnx⟩ := hrel
  have hsz := hnx.size
  have HB := Lib.hid (HB0.out.trans (hnx.mono HB0.out.size))
  obtain ⟨k0, k1, k2, -, -⟩ := blk3 (HK0.out.below hnx)
  have hle := HLe.out j
  by_cases hlt : j < N
  · have hx : j < hs0.length := by rw [HN.out]; exact hlt
    obtain ⟨bl, off, Al, cl, eA, c0, c1, c2, hrl⟩ := RdP_at (HR.out wr HB.out) j hx
    obtain rfl := eA
    have HS := Lib.hid (HSn.out j hx)
    have hl2 := HLe.out (j + 1)
    rw [HS.out, List.length_append] at hl2
    have HLp := Lib.hid (fun (o n : Int) (u : Value) (W' : World) (h : RdL W' u hs0[j].lines) => LinesP_any o n u hs0[j].lines k W' h (HLn.out j hx))
    generalize hs0[j] = h at *
    obtain ⟨ho, hn, ls⟩ := h
    simp only at c0 c1 c2 hrl HLp hl2 HS
    generalize allB k (hs0.take j) = acc at *
    have HRl := Lib.hid hrl
    clear hrl
    have i1 : (0 : Int) ≤ (j : Int) := by omega
    have i2 : (j : Int) < (N : Int) := by omega
    go_wp2_with fail
    refine (HLp.out _ _ _ _ HRl.out).mono ?_
    rintro e w2 ⟨v2, rfl, ho2, hb2⟩
    have HO2 := Lib.hid (own_below HO.out hb2)
    have HRv := Lib.hid (Tx.RdS.of_own ho2)
    have HMp : Hid (Tx.bss (Tx.mks (notB k ls)) = notB k ls) := Lib.hid (Tx.mks_map _)
    have HMl : Hid ((Tx.mks (notB k ls)).length = (notB k ls).length) := Lib.hid (Tx.mks_len _)
    have hb3 := hb2.mono hnx.size
    have HB2 := Lib.hid (hnx.trans (hb2.mono hnx.size))
    clear ho2 hb2 hb3
    go_wp2_with (at_builtin; refine Tx.app_rds rfl (.tmp 15) (.tmp 22) rfl W.heap.size acc _ _ v2 rfl HO2.out rfl HRv.out (by rw [HMl.out]; omega) HB2.out.size ?_; intro v3 w3 ho3 hb3; rw [HMp.out] at ho3; have HO3 := Lib.hid ho3; have HB3 := Lib.hid (HB2.out.trans hb3); clear ho3 hb3)
    go_roundw
    case rel => exact ⟨j + 1, by omega, by go_num, by rw [HS.out]; exact HO3, HB3.out⟩
    case measure => simp [intOf]; omega
  · obtain rfl : j = N := by omega
    have htk : hs0.take j = hs0 := by rw [← HN.out, List.take_length]
    rw [htk] at HO hle
    clear htk
    have HRa := Lib.hid (Tx.RdS.of_own HO.out)
    obtain ⟨Aa, ca, ea⟩ := Tx.own_len HO.out
    subst ea
    obtain ⟨al, hal⟩ : ∃ al, al = allB k hs0 := ⟨_, rfl⟩
    have HFin : Hid (∀ b, endAll al = b → Ending.returned (.bool b) = Ending.returned (.bool (endAll (allB k hs0))) ∧ Below w.heap.size w wr) := Lib.hid (fun b h => ⟨by rw [← h, hal], HB.out⟩)
    have HSz2 := Lib.hid (fun i (h : i < al.length) => HSz.out al[i] (by rw [← hal]; exact List.getElem_mem h))
    rw [← hal] at hle HRa ⊢
    clear HR HSn HLe HO HK0 HSz hz
    clear hal
    obtain ⟨M, hM⟩ : ∃ M, M = al.length := ⟨_, rfl⟩
    have HM := Lib.hid hM.symm
    rw [← hM] at hle HRa ⊢
    clear hM
    go_wp2_with fail
    go_loopw [7] (fun i wq => ∃ j2 : Nat, i = .int .i64 j2 ∧ j2 ≤ M ∧ Hid (∀ i (h : i < al.length), i < j2 → Tx.endedF al[i] = true) ∧ wq = wr) (fun i _ => M - (intOf i).toNat)
    case atStart => exact ⟨0, rfl, Nat.zero_le _, Lib.hid (fun i _ h => absurd h (by omega)), rfl⟩
    case round =>
     obtain ⟨j2, rfl, hj2, HE, rfl⟩ := hrel
     by_cases hlt : j2 + 1 < M
     · have hx : j2 < al.length := by have := HM.out; omega
       have hx2 : j2 < (Tx.mks al).length := by rw [Tx.mks_len]; exact hx
       obtain ⟨A9, c9, e9, _, hc9⟩ := HRa.out
       injection e9 with e1 e2 e3
       obtain ⟨b9, o9, e4, hcell⟩ := hc9 (by omega)
       have g0 := hcell j2 hx2
       have hg : bs ((Tx.mks al)[j2]'hx2) = al[j2] := by
        simp [Tx.mks, Tx.bs_mk]
       have hsz2 : ((Tx.mks al)[j2]'hx2).size ≤ 4194304 := by rw [← Tx.bs_len, hg]; exact HSz2.out j2 hx
       have HCl := Lib.hid (HEn.out ((Tx.mks al)[j2]'hx2) wr (by omega))
       rw [hg] at HCl
       rw [e4] at e1
       subst e1
       clear e2 e3
       generalize (Tx.mks al)[j2]'hx2 = t at *
       have i1 : (0 : Int) ≤ (j2 : Int) := by omega
       have i2 : (j2 : Int) < (M : Int) := by omega
       cases hen : Tx.endedF al[j2] with
       | false =>
         rw [hen] at HCl
         have HF := Lib.hid (endAll_bad (l := al) (i := j2) (by have := HM.out; omega) hen)
         clear hcell hc9 hg hen
         go_wp2_with fail
         refine HCl.out.mono ?_
         rintro e w5 ⟨rfl, rfl⟩
         go_wp2_with fail
         go_ret
         exact HFin.out _ HF.out
       | true =>
         rw [hen] at HCl
         have HE2 : Hid (∀ i (h : i < al.length), i < j2 + 1 → Tx.endedF al[i] = true) := Lib.hid (fun i h hi => by
          rcases Nat.lt_or_ge i j2 with h1 | h1
          · exact HE.out i h h1
          · have : i = j2 := by omega
            subst this
            exact hen)
         clear hcell hc9 hg hen
         go_wp2_with fail
         refine HCl.out.mono ?_
         rintro e w5 ⟨rfl, rfl⟩
         go_wp2_with fail
         go_roundw
         case rel => exact ⟨j2 + 1, by go_num, by omega, HE2, trivial⟩
         case measure => simp [intOf]; omega
     · have HF := Lib.hid (endAll_ok (l := al) (fun i h => HE.out i (by omega) (by have := HM.out; omega)))
       go_wp2_with fail
       go_ret
       exact HFin.out _ HF.out
end Uf
end
section
open Go.RowKit
namespace Uf
open Cm Hn
open Tx (bs)
def sideB : Bool → List (List UInt8) → Bool
 | _, [] => true
 | c, t :: ts => !c && sideB (!Tx.endedF t) ts
def cEnd : Bool → List (List UInt8) → Bool
 | c, [] => c
 | _, t :: ts => cEnd (!Tx.endedF t) ts
theorem endAll_cons (t : List UInt8) (ts : List (List UInt8)) : endAll (t :: ts) = ((ts.isEmpty || Tx.endedF t) && endAll ts) := by
 cases ts with
 | nil => rfl
 | cons a r => simp [endAll]
theorem sideB_end : ∀ (l : List (List UInt8)) (c : Bool), sideB c l = ((!c || l.isEmpty) && endAll l)
 | [], c => by cases c <;> rfl
 | t :: ts, c => by
   rw [sideB, sideB_end ts, endAll_cons]
   cases c <;> cases Tx.endedF t <;> cases ts <;> simp
theorem sideB_app : ∀ (a b : List (List UInt8)) (c : Bool), sideB c (a ++ b) = (sideB c a && sideB (cEnd c a) b)
 | [], b, c => by rw [List.nil_append, sideB, cEnd, Bool.true_and]
 | t :: ts, b, c => by rw [List.cons_append, sideB, sideB, cEnd, sideB_app ts b, Bool.and_assoc]
def runT : Sd → List (List UInt8) → Option Sd
 | s, [] => some s
 | s, t :: ts => if s.2 = true ∨ s.1 = 4096 then none else runT (s.1 + 1, !Tx.endedF t) ts
theorem runT_is : ∀ (ts : List (List UInt8)) (e : Int) (c : Bool), e ≤ 4096 → runT (e, c) ts = if sideB c ts = true ∧ e + ts.length ≤ 4096 then some (e + ts.length, cEnd c ts) else none
 | [], e, c, h => by
   rw [runT, if_pos ⟨rfl, by simp; omega⟩]
   simp [cEnd]
 | t :: ts, e, c, h => by
   rw [runT]
   simp only
   by_cases h1 : c = true ∨ e = 4096
   · rw [if_pos h1, if_neg]
     rintro ⟨h2, h3⟩
     rcases h1 with h1 | h1
     · subst h1
       rw [sideB] at h2
       simp at h2
     · rw [List.length_cons] at h3
       omega
   · have hc : c = false := by
      cases c with
      | false => rfl
      | true => exact absurd (.inl rfl) h1
     have he : e ≠ 4096 := fun e => h1 (.inr e)
     subst hc
     rw [if_neg h1, runT_is ts (e + 1) _ (by omega), sideB, cEnd, List.length_cons]
     have e1 : e + 1 + (ts.length : Int) = e + ((ts.length + 1 : Nat) : Int) := by omega
     rw [e1]
     simp
theorem notB_cons (k : Int) (l : Ln) (ls : List Ln) : notB k (l :: ls) = (if l.kind = k then [] else [bs l.text]) ++ notB k ls := by
 unfold notB notK
 by_cases h : l.kind = k
 · rw [if_pos h, List.filter_cons_of_neg (by simpa using h)]; rfl
 · rw [if_neg h, List.filter_cons_of_pos (by simpa using h)]; rfl
def both : Option Sd → Option Sd → Option (Sd × Sd)
 | some a, some b => some (a, b)
 | _, _ => none
theorem sAdd_run (s : Sd) (t : ByteArray) (ts : List (List UInt8)) : runT s (bs t :: ts) = (sAdd s t).bind fun s' => runT s' ts := by
 rw [runT]
 unfold sAdd
 split <;> rfl
theorem lnsSt_run : ∀ (ls : List Ln) (o n : Sd), lnsSt o n ls = if ls.all lnB = true then both (runT o (notB 43 ls)) (runT n (notB 45 ls)) else none
 | [], o, n => rfl
 | l :: ls, o, n => by
   rw [lnsSt, List.all_cons]
   cases hl : lnB l with
   | false => simp
   | true =>
     rw [if_pos rfl, Bool.true_and]
     have hk : l.kind = 32 ∨ l.kind = 45 ∨ l.kind = 43 := by
      unfold lnB at hl
      simp only [Bool.and_eq_true, Bool.or_eq_true, beq_iff_eq] at hl
      omega
     rcases hk with hk | hk | hk
     · have e1 : notB 43 (l :: ls) = bs l.text :: notB 43 ls := by rw [notB_cons, if_neg (by rw [hk]; decide)]; rfl
       have e2 : notB 45 (l :: ls) = bs l.text :: notB 45 ls := by rw [notB_cons, if_neg (by rw [hk]; decide)]; rfl
       have e3 : sOld o l = sAdd o l.text := by unfold sOld; rw [if_neg (by rw [hk]; decide)]
       have e4 : sNew n l = sAdd n l.text := by unfold sNew; rw [if_neg (by rw [hk]; decide)]
       rw [e1, e2, e3, e4, sAdd_run, sAdd_run]
       cases sAdd o l.text with
       | none => cases ls.all lnB <;> rfl
       | some a =>
         cases sAdd n l.text with
         | none => cases ls.all lnB <;> simp [both]
         | some b => exact lnsSt_run ls a b
     · have e1 : notB 43 (l :: ls) = bs l.text :: notB 43 ls := by rw [notB_cons, if_neg (by rw [hk]; decide)]; rfl
       have e2 : notB 45 (l :: ls) = notB 45 ls := by rw [notB_cons, if_pos hk]; rfl
       have e3 : sOld o l = sAdd o l.text := by unfold sOld; rw [if_neg (by rw [hk]; decide)]
       have e4 : sNew n l = some n := by unfold sNew; rw [if_pos hk]
       rw [e1, e2, e3, e4, sAdd_run]
       cases sAdd o l.text with
       | none => cases ls.all lnB <;> rfl
       | some a => exact lnsSt_run ls a n
     · have e1 : notB 43 (l :: ls) = notB 43 ls := by rw [notB_cons, if_pos hk]; rfl
       have e2 : notB 45 (l :: ls) = bs l.text :: notB 45 ls := by rw [notB_cons, if_neg (by rw [hk]; decide)]; rfl
       have e3 : sOld o l = some o := by unfold sOld; rw [if_pos hk]
       have e4 : sNew n l = sAdd n l.text := by unfold sNew; rw [if_neg (by rw [hk]; decide)]
       rw [e1, e2, e3, e4, sAdd_run]
       cases sAdd n l.text with
       | none => cases ls.all lnB <;> simp [both]
       | some a => exact lnsSt_run ls o a
def posB (i j : Int) (h : PH) : Bool := !(decide (h.old < i) || decide (h.new < j) || decide (4096 < h.old) || decide (4096 < h.new) || (h.old - i != h.new - j))
def roomB (h : PH) : Bool := decide (h.old + (notB 43 h.lines).length ≤ 4096) && decide (h.new + (notB 45 h.lines).length ≤ 4096)
def goodH : Int → Int → List PH → Bool
 | _, _, [] => true
 | i, j, h :: hs => h.lines.all lnB && (chgB h.lines && (posB i j h && (roomB h && goodH (h.old + (notB 43 h.lines).length) (h.new + (notB 45 h.lines).length) hs)))
theorem posB_skip (i j : Int) (c d : Bool) (h : PH) : skipB (i, c) (j, d) h = posB i j h := by
 rw [Bool.eq_iff_iff, skip_iff]
 unfold posB
 simp only [Bool.not_eq_true', Bool.or_eq_false_iff, decide_eq_false_iff_not, bne_eq_false_iff_eq]
 constructor
 · rintro ⟨h1, h2, h3⟩; exact ⟨⟨⟨⟨fun h => h1 (.inl h), fun h => h2 (.inl h)⟩, fun h => h1 (.inr h)⟩, fun h => h2 (.inr h)⟩, h3⟩
 · rintro ⟨⟨⟨⟨a, b⟩, c⟩, d⟩, e⟩; exact ⟨fun h => h.elim a c, fun h => h.elim b d, e⟩
theorem hks_good : ∀ (hs : List PH) (i j : Int) (c d : Bool), hksB (i, c) (j, d) hs = (goodH i j hs && (sideB c (allB 43 hs) && sideB d (allB 45 hs)))
 | [], _, _, _, _ => rfl
 | h :: hs, i, j, c, d => by
   have ea : ∀ k, allB k (h :: hs) = notB k h.lines ++ allB k hs := fun k => by unfold allB; rw [List.flatMap_cons]
   rw [hksB, goodH, posB_skip, ea, ea, sideB_app, sideB_app, lnsSt_run]
   cases hp : posB i j h with
   | false => simp
   | true =>
     have hp2 : h.old ≤ 4096 ∧ h.new ≤ 4096 := by
      unfold posB at hp
      simp only [Bool.not_eq_true', Bool.or_eq_false_iff, decide_eq_false_iff_not] at hp
      omega
     rw [if_pos rfl]
     simp only
     rw [runT_is _ _ _ hp2.1, runT_is _ _ _ hp2.2]
     unfold roomB
     cases h.lines.all lnB with
     | false => simp
     | true =>
       by_cases r1 : h.old + ((notB 43 h.lines).length : Int) ≤ 4096
       · by_cases r2 : h.new + ((notB 45 h.lines).length : Int) ≤ 4096
         · cases s1 : sideB c (notB 43 h.lines) with
           | false => simp [both]
           | true =>
             cases s2 : sideB d (notB 45 h.lines) with
             | false => simp [both]
             | true =>
               rw [if_pos rfl, if_pos ⟨rfl, r1⟩, if_pos ⟨rfl, r2⟩, decide_eq_true r1, decide_eq_true r2]
               simp only [both]
               rw [hks_good hs]
               simp [Bool.and_assoc]
         · cases sideB c (notB 43 h.lines) <;> simp [both, r1, r2]
       · simp [both, r1]
theorem hks_ref (hs : List PH) : hksB (0, false) (0, false) hs = (goodH 0 0 hs && (endAll (allB 43 hs) && endAll (allB 45 hs))) := by
 rw [hks_good, sideB_end, sideB_end]
 simp
end Uf
end
section
open Go.RowKit
namespace Uf
open Cm Hn
open Sc (RdK ownK_base)
open Tx (bs strsV StrsPost)
def PatBg (hs : List PH) : Prop := PatSm hs ∧ (allB 43 hs).length ≤ 8388608 ∧ (allB 45 hs).length ≤ 8388608
theorem notB_all {k : Int} {hs : List PH} {j : Nat} (h : j < hs.length) : (notB k hs[j].lines).length ≤ (allB k hs).length := by
 have e : hs = hs.take j ++ hs[j] :: hs.drop (j + 1) := by rw [← List.drop_eq_getElem_cons h, List.take_append_drop]
 have e2 : allB k hs = allB k (hs.take j) ++ (notB k hs[j].lines ++ allB k (hs.drop (j + 1))) := by
  have h2 := congrArg (allB k) e
  unfold allB at h2 ⊢
  rw [List.flatMap_append, List.flatMap_cons] at h2
  exact h2
 rw [e2, List.length_append, List.length_append]
 omega
theorem all_bad {ls : List Ln} {m : Nat} (h : m < ls.length) (hb : lnB ls[m] = false) : ls.all lnB = false := by
 rw [List.all_eq_false]
 exact ⟨ls[m], List.getElem_mem h, by rw [hb]; decide⟩
set_option maxRecDepth 100000 in
set_option maxHeartbeats 8000000 in
theorem good_any (p : Pat) (v : Value) (w : World) (hr : RdP w v p.hunks) (hs : PatBg p.hunks) : Calls Tryz.prog 66 #[tPatV p v] w (AhPost p.hunks w) := by
 have HS1 := Lib.hid (fun w' (hb : Below w.heap.size w w') => side_any p v 43 w' (hr.below hb) hs.1 hs.2.1)
 have HS2 := Lib.hid (fun w' (hb : Below w.heap.size w w') => side_any p v 45 w' (hr.below hb) hs.1 hs.2.2)
 have HBg := Lib.hid hs
 obtain ⟨on, nn, hs0⟩ := p
 obtain ⟨⟨hf, hh⟩, hz1, hz2⟩ := hs
 simp only at hr hf hh hz1 hz2 HS1 HS2 HBg ⊢
 have HR := Lib.hid (fun w' (hb : Below w.heap.size w w') => hr.below hb)
 obtain ⟨A, c, rfl⟩ := hr.form
 have HSm := Lib.hid hh
 have HLa := Lib.hid (fun j (h : j < hs0.length) => Nat.le_trans (notB_all (k := 43) h) hz1)
 have HLb := Lib.hid (fun j (h : j < hs0.length) => Nat.le_trans (notB_all (k := 45) h) hz2)
 have HFalse : Hid (∀ w', goodH 0 0 hs0 = false → Below w.heap.size w w' → AhPost hs0 w (.returned (.bool false)) w') := Lib.hid (fun w' h1 h2 => ⟨by rw [hks_ref, h1, Bool.false_and], h2⟩)
 have HTrue : Hid (∀ w' b, goodH 0 0 hs0 = true → (endAll (allB 43 hs0) && endAll (allB 45 hs0)) = b → Below w.heap.size w w' → AhPost hs0 w (.returned (.bool b)) w') := Lib.hid (fun w' b h1 h3 h2 => ⟨by rw [hks_ref, h1, h3, Bool.true_and], h2⟩)
 have HSt : Hid (∀ j (h : j < hs0.length) a b, goodH 0 0 hs0 = goodH a b (hs0.drop j) → goodH 0 0 hs0 = (hs0[j].lines.all lnB && (chgB hs0[j].lines && (posB a b hs0[j] && (roomB hs0[j] && goodH (hs0[j].old + (notB 43 hs0[j].lines).length) (hs0[j].new + (notB 45 hs0[j].lines).length) (hs0.drop (j + 1))))))) := Lib.hid (fun j h a b he => by
  rw [he, List.drop_eq_getElem_cons h]
  rfl)
 clear hr hh hz1 hz2
 obtain ⟨N, hN⟩ : ∃ N, N = hs0.length := ⟨_, rfl⟩
 have HN := Lib.hid hN.symm
 rw [← hN] at hf HR HS1 HS2 ⊢
 clear hN
 have HB0 := Lib.hid ((Below.refl w.heap.size w).alloc (Nat.le_refl _) (.cells #[.string on, .string nn, .slice A N c] tPat))
 have HK0 : Hid (Blk (w.alloc (.cells #[.string on, .string nn, .slice A N c] tPat)) w.heap.size tPat [.string on, .string nn, .slice A N c]) := Lib.hid (heap_new w _)
 go_enter Tryz.func66, Tryz.ntmps66
 go_wp2_with fail
 obtain ⟨W, hW⟩ : ∃ W, W = w.alloc (.cells #[.string on, .string nn, .slice A N c] tPat) := ⟨_, rfl⟩
 have hWz : W.heap.size = w.heap.size + 1 := by rw [hW]; simp
 rw [← hW] at HB0 HK0 ⊢
 clear hW
 go_loopw [3, 4, 5] (fun iv jv i wr => ∃ (j : Nat) (a b : Int), j ≤ N ∧ i = .int .i64 j ∧ iv = .int .i64 a ∧ jv = .int .i64 b ∧ (0 ≤ a ∧ a ≤ 4096) ∧ (0 ≤ b ∧ b ≤ 4096) ∧ Hid (goodH 0 0 hs0 = goodH a b (hs0.drop j)) ∧ Below W.heap.size W wr) (fun _ _ i _ => N - (intOf i).toNat)
 case atStart => exact ⟨0, 0, 0, Nat.zero_le _, rfl, rfl, rfl, by decide, by decide, Lib.hid rfl, Below.refl _ _⟩
 case round =>
  obtain ⟨j, a, b, hj, rfl, rfl, rfl, hab, hbb, HE, hnx⟩ := hrel
  have hsz := hnx.size
  have HB := Lib.hid (HB0.out.trans (hnx.mono HB0.out.size))
  obtain ⟨k0, k1, k2, -, -⟩ := blk3 (HK0.out.below hnx)
  by_cases hlt : j < N
  · have hx : j < hs0.length := by rw [HN.out]; exact hlt
    obtain ⟨bl, off, Al, cl, eA, c0, c1, c2, hrl⟩ := RdP_at (HR.out w (Below.refl _ _)) j hx
    obtain rfl := eA
    replace c0 := (HB.out.cell (Tx.cell_lt c0)).trans c0
    replace c1 := (HB.out.cell (Tx.cell_lt c1)).trans c1
    replace c2 := (HB.out.cell (Tx.cell_lt c2)).trans c2
    have hst := HSt.out j hx a b HE.out
    obtain ⟨hls, hbo, hbn, htx⟩ := HSm.out _ (List.getElem_mem hx)
    have hla := HLa.out j hx
    have hlb := HLb.out j hx
    generalize hs0[j] = h at *
    obtain ⟨ho, hn, ls⟩ := h
    simp only at c0 c1 c2 hrl hst hls hbo hbn htx hla hlb
    obtain ⟨M, hM⟩ : ∃ M, M = ls.length := ⟨_, rfl⟩
    have HM := Lib.hid hM.symm
    rw [← hM] at c2 hrl hls
    clear hM HE
    have HRl := Lib.hid (fun w' (hb : Below w.heap.size w w') => hrl.below hb)
    have HT := Lib.hid htx
    have HStq := Lib.hid hst
    have HBx := Lib.hid (HB.out.alloc HB.out.size (.cells #[.int .i64 ho, .int .i64 hn, .slice Al M cl] tPh))
    have hnx2 := hnx.alloc hnx.size (.cells #[.int .i64 ho, .int .i64 hn, .slice Al M cl] tPh)
    have HHb : Hid (Blk (wr.alloc (.cells #[.int .i64 ho, .int .i64 hn, .slice Al M cl] tPh)) wr.heap.size tPh [.int .i64 ho, .int .i64 hn, .slice Al M cl]) := Lib.hid (heap_new wr _)
    clear hrl htx hst
    have i1 : (0 : Int) ≤ (j : Int) := by omega
    have i2 : (j : Int) < (N : Int) := by omega
    go_wp2_with fail
    obtain ⟨W1, hW1⟩ : ∃ W1, W1 = wr.alloc (.cells #[.int .i64 ho, .int .i64 hn, .slice Al M cl] tPh) := ⟨_, rfl⟩
    rw [← hW1] at HBx HHb hnx2 ⊢
    clear hW1 c0 c1 c2 HB k0 k1 k2
    obtain ⟨G, hG⟩ : ∃ G, G = wr.heap.size := ⟨_, rfl⟩
    rw [← hG] at HHb ⊢
    clear hG
    obtain ⟨g0, g1, g2, -, -⟩ := blk3 HHb.out
    go_loopw [7, 8] (fun sv i wq => ∃ (m : Nat), m ≤ M ∧ i = .int .i64 m ∧ sv = .bool (chgB (ls.take m)) ∧ Hid ((ls.take m).all lnB = true) ∧ wq = W1) (fun _ i _ => M - (intOf i).toNat)
    case atStart => exact ⟨0, Nat.zero_le _, rfl, rfl, Lib.hid rfl, rfl⟩
    case round =>
     obtain ⟨m, hm, rfl, rfl, HAll, rfl⟩ := hrel
     by_cases hlt2 : m < M
     · have hx2 : m < ls.length := by rw [HM.out]; exact hlt2
       obtain ⟨b2, off2, eA, c0, c1⟩ := RdL_at (HRl.out _ HBx.out) m hx2
       obtain rfl := eA
       have htx := HT.out _ (List.getElem_mem hx2)
       have HCh := Lib.hid (show chgB (ls.take (m + 1)) = (chgB (ls.take m) || (ls[m].kind != 32)) by rw [List.take_succ_eq_append_getElem hx2, chgB_snoc])
       have HAl2 := Lib.hid (show (ls.take (m + 1)).all lnB = ((ls.take m).all lnB && lnB ls[m]) by rw [List.take_succ_eq_append_getElem hx2, List.all_append]; simp)
       have HBad := Lib.hid (fun (h : lnB ls[m] = false) => (show goodH 0 0 hs0 = false by rw [HStq.out, all_bad hx2 h, Bool.false_and]))
       generalize ls[m] = l at *
       obtain ⟨k, t⟩ := l
       simp only at c0 c1 htx HCh
       have HLi := Lib.hid (fun w => LineR_any t w htx)
       have i3 : (0 : Int) ≤ (m : Int) := by omega
       have i4 : (m : Int) < (M : Int) := by omega
       by_cases hk : k = 32
       · subst hk
         have HL0 : Hid (Tx.isLine (bs t) = lnB ⟨32, t⟩) := Lib.hid rfl
         cases hil : Tx.isLine (bs t) with
         | false =>
           rw [hil] at HLi
           have HFl := Lib.hid (HBad.out (by rw [← HL0.out, hil]))
           clear hil HL0
           go_wp2_with fail
           refine (HLi.out _).mono ?_
           rintro e w5 ⟨rfl, rfl⟩
           go_wp2_with fail
           go_ret
           exact HFalse.out _ HFl.out HBx.out
         | true =>
           rw [hil] at HLi
           have HA3 : Hid ((ls.take (m + 1)).all lnB = true) := Lib.hid (by rw [HAl2.out, HAll.out, ← HL0.out, hil]; rfl)
           clear hil HL0 HAl2 HBad
           cases hsv : chgB (ls.take m) with
           | false =>
             rw [hsv] at HCh
             clear hsv
             go_wp2_with fail
             refine (HLi.out _).mono ?_
             rintro e w5 ⟨rfl, rfl⟩
             go_wp2_with fail
             go_roundw
             case rel => exact ⟨m + 1, by omega, by go_num, by rw [HCh.out]; rfl, HA3, trivial⟩
             case measure => simp [intOf]; omega
           | true =>
             rw [hsv] at HCh
             clear hsv
             go_wp2_with fail
             refine (HLi.out _).mono ?_
             rintro e w5 ⟨rfl, rfl⟩
             go_wp2_with fail
             go_roundw
             case rel => exact ⟨m + 1, by omega, by go_num, by rw [HCh.out]; rfl, HA3, trivial⟩
             case measure => simp [intOf]; omega
       by_cases hk2 : k = 45
       · subst hk2
         have HL0 : Hid (Tx.isLine (bs t) = lnB ⟨45, t⟩) := Lib.hid rfl
         cases hil : Tx.isLine (bs t) with
         | false =>
           rw [hil] at HLi
           have HFl := Lib.hid (HBad.out (by rw [← HL0.out, hil]))
           clear hil HL0
           go_wp2_with fail
           refine (HLi.out _).mono ?_
           rintro e w5 ⟨rfl, rfl⟩
           go_wp2_with fail
           go_ret
           exact HFalse.out _ HFl.out HBx.out
         | true =>
           rw [hil] at HLi
           have HA3 : Hid ((ls.take (m + 1)).all lnB = true) := Lib.hid (by rw [HAl2.out, HAll.out, ← HL0.out, hil]; rfl)
           clear hil HL0 HAl2 HBad
           cases hsv : chgB (ls.take m) with
           | false =>
             rw [hsv] at HCh
             clear hsv
             go_wp2_with fail
             refine (HLi.out _).mono ?_
             rintro e w5 ⟨rfl, rfl⟩
             go_wp2_with fail
             go_roundw
             case rel => exact ⟨m + 1, by omega, by go_num, by rw [HCh.out]; rfl, HA3, trivial⟩
             case measure => simp [intOf]; omega
           | true =>
             rw [hsv] at HCh
             clear hsv
             go_wp2_with fail
             refine (HLi.out _).mono ?_
             rintro e w5 ⟨rfl, rfl⟩
             go_wp2_with fail
             go_roundw
             case rel => exact ⟨m + 1, by omega, by go_num, by rw [HCh.out]; rfl, HA3, trivial⟩
             case measure => simp [intOf]; omega
       by_cases hk3 : k = 43
       · subst hk3
         have HL0 : Hid (Tx.isLine (bs t) = lnB ⟨43, t⟩) := Lib.hid rfl
         cases hil : Tx.isLine (bs t) with
         | false =>
           rw [hil] at HLi
           have HFl := Lib.hid (HBad.out (by rw [← HL0.out, hil]))
           clear hil HL0
           go_wp2_with fail
           refine (HLi.out _).mono ?_
           rintro e w5 ⟨rfl, rfl⟩
           go_wp2_with fail
           go_ret
           exact HFalse.out _ HFl.out HBx.out
         | true =>
           rw [hil] at HLi
           have HA3 : Hid ((ls.take (m + 1)).all lnB = true) := Lib.hid (by rw [HAl2.out, HAll.out, ← HL0.out, hil]; rfl)
           clear hil HL0 HAl2 HBad
           cases hsv : chgB (ls.take m) with
           | false =>
             rw [hsv] at HCh
             clear hsv
             go_wp2_with fail
             refine (HLi.out _).mono ?_
             rintro e w5 ⟨rfl, rfl⟩
             go_wp2_with fail
             go_roundw
             case rel => exact ⟨m + 1, by omega, by go_num, by rw [HCh.out]; rfl, HA3, trivial⟩
             case measure => simp [intOf]; omega
           | true =>
             rw [hsv] at HCh
             clear hsv
             go_wp2_with fail
             refine (HLi.out _).mono ?_
             rintro e w5 ⟨rfl, rfl⟩
             go_wp2_with fail
             go_roundw
             case rel => exact ⟨m + 1, by omega, by go_num, by rw [HCh.out]; rfl, HA3, trivial⟩
             case measure => simp [intOf]; omega
       have d1 : (k == 32) = false := by rw [beq_eq_false_iff_ne]; exact hk
       have d2 : (k == 45) = false := by rw [beq_eq_false_iff_ne]; exact hk2
       have d3 : (k == 43) = false := by rw [beq_eq_false_iff_ne]; exact hk3
       have HFl := Lib.hid (HBad.out (by unfold lnB; simp only; rw [d1, d2, d3]; rfl))
       have n1 : (k != 32) = true := by rw [bne_iff_ne]; exact hk
       have n2 : (k != 45) = true := by rw [bne_iff_ne]; exact hk2
       have n3 : (k != 43) = true := by rw [bne_iff_ne]; exact hk3
       clear hk hk2 hk3
       go_wp2_with fail
       go_ret
       exact HFalse.out _ HFl.out HBx.out
     · obtain rfl : m = M := by omega
       have htk : ls.take m = ls := by rw [← HM.out, List.take_length]
       rw [htk] at HAll ⊢
       have HG : Hid (goodH 0 0 hs0 = (chgB ls && (posB a b ⟨ho, hn, ls⟩ && (roomB ⟨ho, hn, ls⟩ && goodH (ho + (notB 43 ls).length) (hn + (notB 45 ls).length) (hs0.drop (j + 1)))))) := Lib.hid (by rw [HStq.out, HAll.out, Bool.true_and])
       clear htk
       cases hch : chgB ls with
       | false =>
         have HFl : Hid (goodH 0 0 hs0 = false) := Lib.hid (by rw [HG.out, hch, Bool.false_and])
         clear HG HStq HT HSm HSt HLa HLb
         go_wp2_with fail
         go_ret
         exact HFalse.out _ HFl.out HBx.out
       | true =>
         have HG2 := HG.out
         rw [hch, Bool.true_and] at HG2
         have HG3 := Lib.hid HG2
         clear HG2 HG hch
         by_cases h1 : ho < a
         · have HFl : Hid (goodH 0 0 hs0 = false) := Lib.hid (by rw [HG3.out, show posB a b ⟨ho, hn, ls⟩ = false by unfold posB; simp only; rw [decide_eq_true h1]; simp, Bool.false_and])
           clear HG3 HStq HT HSm HSt HLa HLb
           go_wp2_with fail
           go_ret
           exact HFalse.out _ HFl.out HBx.out
         have qh1 : decide (ho < a) = false := decide_eq_false h1
         by_cases h2 : hn < b
         · have HFl : Hid (goodH 0 0 hs0 = false) := Lib.hid (by rw [HG3.out, show posB a b ⟨ho, hn, ls⟩ = false by unfold posB; simp only; rw [decide_eq_true h2]; simp, Bool.false_and])
           clear HG3 HStq HT HSm HSt HLa HLb
           go_wp2_with fail
           go_ret
           exact HFalse.out _ HFl.out HBx.out
         have qh2 : decide (hn < b) = false := decide_eq_false h2
         by_cases h3 : 4096 < ho
         · have HFl : Hid (goodH 0 0 hs0 = false) := Lib.hid (by rw [HG3.out, show posB a b ⟨ho, hn, ls⟩ = false by unfold posB; simp only; rw [decide_eq_true h3]; simp, Bool.false_and])
           clear HG3 HStq HT HSm HSt HLa HLb
           go_wp2_with fail
           go_ret
           exact HFalse.out _ HFl.out HBx.out
         have qh3 : decide (4096 < ho) = false := decide_eq_false h3
         by_cases h4 : 4096 < hn
         · have HFl : Hid (goodH 0 0 hs0 = false) := Lib.hid (by rw [HG3.out, show posB a b ⟨ho, hn, ls⟩ = false by unfold posB; simp only; rw [decide_eq_true h4]; simp, Bool.false_and])
           clear HG3 HStq HT HSm HSt HLa HLb
           go_wp2_with fail
           go_ret
           exact HFalse.out _ HFl.out HBx.out
         have qh4 : decide (4096 < hn) = false := decide_eq_false h4
         by_cases h5 : ho - a = hn - b
         · have HP : Hid (posB a b ⟨ho, hn, ls⟩ = true) := Lib.hid (by unfold posB; simp only; rw [qh1, qh2, qh3, qh4, h5]; simp)
           have HG4 : Hid (goodH 0 0 hs0 = (roomB ⟨ho, hn, ls⟩ && goodH (ho + (notB 43 ls).length) (hn + (notB 45 ls).length) (hs0.drop (j + 1)))) := Lib.hid (by rw [HG3.out, HP.out, Bool.true_and])
           have HLp := Lib.hid (fun (k : Int) (w' : World) (hb : Below w.heap.size w w') => LinesP_any ho hn _ ls k w' (HRl.out w' hb) (by rw [HM.out]; exact hls))
           have HLn : Hid (∀ (k : Int) (w' : World), Below w.heap.size w w' → Calls Tryz.prog 37 #[.agg #[.int .i64 ho, .int .i64 hn, .slice Al m cl], .int .u8 k] w' fun e w'' => ∃ A c, e = .returned (.slice A (notB k ls).length c) ∧ Below w'.heap.size w' w'') := Lib.hid (fun k w' hb => (HLp.out k w' hb).mono fun e w'' ⟨v, h1, h2, h3⟩ => by
            obtain ⟨A, c, rfl⟩ := Tx.own_len h2
            exact ⟨A, c, h1, h3⟩)
           have HRm : Hid (roomB ⟨ho, hn, ls⟩ = (decide (ho + ((notB 43 ls).length : Int) ≤ 4096) && decide (hn + ((notB 45 ls).length : Int) ≤ 4096))) := Lib.hid rfl
           clear HG3 HStq HT HSm HSt HLa HLb HP HLp
           have HB1 : Hid (Below w.heap.size w wr.drew) := Lib.hid HBx.out.drew
           have HBr : Hid (Below wr.heap.size wr wr.drew) := Lib.hid (Below.refl _ wr).drew
           have HKp : Hid (∀ V : World, Below wr.heap.size wr V → V.cell? ⟨G, 0, none⟩ = some (.int .i64 ho) ∧ V.cell? ⟨G, 1, none⟩ = some (.int .i64 hn) ∧ V.cell? ⟨G, 2, none⟩ = some (.slice Al m cl)) := Lib.hid (fun V hV => by
            obtain ⟨x0, x1, x2, -, -⟩ := blk3 (HHb.out.below hV)
            exact ⟨x0, x1, x2⟩)
           obtain ⟨na, hna⟩ : ∃ na, na = (notB 43 ls).length := ⟨_, rfl⟩
           obtain ⟨nb, hnb⟩ : ∃ nb, nb = (notB 45 ls).length := ⟨_, rfl⟩
           rw [← hna] at hla HRm HG4
           rw [← hnb] at hlb HRm HG4
           have HL1 : Hid (∀ (w' : World), Below w.heap.size w w' → Calls Tryz.prog 37 #[.agg #[.int .i64 ho, .int .i64 hn, .slice Al m cl], .int .u8 43] w' fun e w'' => ∃ A c, e = .returned (.slice A na c) ∧ Below w'.heap.size w' w'') := Lib.hid (by rw [hna]; exact HLn.out 43)
           have HL2 : Hid (∀ (w' : World), Below w.heap.size w w' → Calls Tryz.prog 37 #[.agg #[.int .i64 ho, .int .i64 hn, .slice Al m cl], .int .u8 45] w' fun e w'' => ∃ A c, e = .returned (.slice A nb c) ∧ Below w'.heap.size w' w'') := Lib.hid (by rw [hnb]; exact HLn.out 45)
           clear hna hnb HLn
           go_upto_region 16 with fail
           have wr1 : IntKind.i64.wrap (ho + (na : Int)) = ho + (na : Int) := by rw [IntKind.wrap_i64]; omega
           have wr2 : IntKind.i64.wrap (hn + (nb : Int)) = hn + (nb : Int) := by rw [IntKind.wrap_i64]; omega
           refine wp_region_held_drew (S := (fun V => V.cell? ⟨G, 0, none⟩ = some (.int .i64 ho) ∧ V.cell? ⟨G, 1, none⟩ = some (.int .i64 hn) ∧ V.cell? ⟨G, 2, none⟩ = some (.slice Al m cl))) (by kernel_rfl) (HKp.out _ HBr.out) (fun hHeld => ?_)
           refine wpAnyH_take (i := 0) (v := .pointer (some ⟨G, 0, none⟩)) rfl (by kernel_rfl) (by kernel_rfl) (by kernel_rfl) (fun _ _ _ h => h) (Or.inl ⟨by kernel_rfl, ?_⟩) (by assumption) ?_
           · intro V hV
             obtain ⟨h0, h1, h2⟩ := hV
             go_simp
           change wpAnyH _ _ _ _ _ _ _ (Act.put _ (some 95) _) _
           simp only [Act.put, List.setIfInBounds_toArray, List.set_cons_zero, List.set_cons_succ]
           refine wpAnyH_take (i := 1) (v := .int .i64 ho) rfl (by kernel_rfl) (by kernel_rfl) (by kernel_rfl) (fun _ _ _ h => h) (Or.inl ⟨by kernel_rfl, ?_⟩) (by assumption) ?_
           · intro V hV
             obtain ⟨h0, h1, h2⟩ := hV
             go_simp
           change wpAnyH _ _ _ _ _ _ _ (Act.put _ (some 96) _) _
           simp only [Act.put, List.setIfInBounds_toArray, List.set_cons_zero, List.set_cons_succ]
           refine wpAnyH_take (i := 2) (v := .agg #[.int .i64 ho, .int .i64 hn, .slice Al m cl]) rfl (by kernel_rfl) (by kernel_rfl) (by kernel_rfl) (fun _ _ _ h => h) (Or.inl ⟨by kernel_rfl, ?_⟩) (by assumption) ?_
           · intro V hV
             obtain ⟨h0, h1, h2⟩ := hV
             go_simp
           change wpAnyH _ _ _ _ _ _ _ (Act.put _ (some 97) _) _
           simp only [Act.put, List.setIfInBounds_toArray, List.set_cons_zero, List.set_cons_succ]
           refine wpAnyH_take (i := 6) (v := .pointer (some ⟨G, 1, none⟩)) rfl (by kernel_rfl) (by kernel_rfl) (by kernel_rfl) (fun _ _ _ h => h) (Or.inl ⟨by kernel_rfl, ?_⟩) (by assumption) ?_
           · intro V hV
             obtain ⟨h0, h1, h2⟩ := hV
             go_simp
           change wpAnyH _ _ _ _ _ _ _ (Act.put _ (some 101) _) _
           simp only [Act.put, List.setIfInBounds_toArray, List.set_cons_zero, List.set_cons_succ]
           refine wpAnyH_take (i := 7) (v := .int .i64 hn) rfl (by kernel_rfl) (by kernel_rfl) (by kernel_rfl) (fun _ _ _ h => h) (Or.inl ⟨by kernel_rfl, ?_⟩) (by assumption) ?_
           · intro V hV
             obtain ⟨h0, h1, h2⟩ := hV
             go_simp
           change wpAnyH _ _ _ _ _ _ _ (Act.put _ (some 102) _) _
           simp only [Act.put, List.setIfInBounds_toArray, List.set_cons_zero, List.set_cons_succ]
           refine wpAnyH_take (i := 8) (v := .agg #[.int .i64 ho, .int .i64 hn, .slice Al m cl]) rfl (by kernel_rfl) (by kernel_rfl) (by kernel_rfl) (fun _ _ _ h => h) (Or.inl ⟨by kernel_rfl, ?_⟩) (by assumption) ?_
           · intro V hV
             obtain ⟨h0, h1, h2⟩ := hV
             go_simp
           change wpAnyH _ _ _ _ _ _ _ (Act.put _ (some 103) _) _
           simp only [Act.put, List.setIfInBounds_toArray, List.set_cons_zero, List.set_cons_succ]
           refine wpAnyH_ready (rs := [3]) (by kernel_rfl) (by simp) ?_
           refine AllReadyH.cons rfl (fun K hK => ?_) AllReadyH.nil
           go_simp
           go_at_call 37
           refine (HL1.out _ HB1.out).mono ?_
           rintro e w6 ⟨A5, c5, rfl, hb⟩
           have HBr := Lib.hid (HBr.out.trans (hb.mono HBr.out.size))
           have HB1 := Lib.hid (HB1.out.trans (hb.mono HB1.out.size))
           clear hb
           go_wp2_with fail
           refine hK.out _ _ (HKp.out _ HBr.out) (fun hHeld => ?_)
           clear hK K
           refine wpAnyH_take (i := 4) (v := .int .i64 (na : Int)) rfl (by kernel_rfl) (by kernel_rfl) (by kernel_rfl) (fun _ _ _ h => h) (Or.inl ⟨by kernel_rfl, ?_⟩) (by assumption) ?_
           · intro V hV
             obtain ⟨h0, h1, h2⟩ := hV
             go_simp
           change wpAnyH _ _ _ _ _ _ _ (Act.put _ (some 99) _) _
           simp only [Act.put, List.setIfInBounds_toArray, List.set_cons_zero, List.set_cons_succ]
           refine wpAnyH_take (i := 5) (v := .int .i64 (ho + (na : Int))) rfl (by kernel_rfl) (by kernel_rfl) (by kernel_rfl) (fun _ _ _ h => h) (Or.inl ⟨by kernel_rfl, ?_⟩) (by assumption) ?_
           · intro V hV
             obtain ⟨h0, h1, h2⟩ := hV
             first | (go_simp; done) | (go_simp; exact wr1)
           change wpAnyH _ _ _ _ _ _ _ (Act.put _ (some 100) _) _
           simp only [Act.put, List.setIfInBounds_toArray, List.set_cons_zero, List.set_cons_succ]
           refine wpAnyH_ready (rs := [9]) (by kernel_rfl) (by simp) ?_
           refine AllReadyH.cons rfl (fun K hK => ?_) AllReadyH.nil
           go_simp
           go_at_call 37
           refine (HL2.out _ HB1.out).mono ?_
           rintro e w7 ⟨A6, c6, rfl, hb⟩
           have HBr := Lib.hid (HBr.out.trans (hb.mono HBr.out.size))
           have HB1 := Lib.hid (HB1.out.trans (hb.mono HB1.out.size))
           clear hb
           go_wp2_with fail
           refine hK.out _ _ (HKp.out _ HBr.out) (fun hHeld => ?_)
           clear hK K
           refine wpAnyH_take (i := 10) (v := .int .i64 (nb : Int)) rfl (by kernel_rfl) (by kernel_rfl) (by kernel_rfl) (fun _ _ _ h => h) (Or.inl ⟨by kernel_rfl, ?_⟩) (by assumption) ?_
           · intro V hV
             obtain ⟨h0, h1, h2⟩ := hV
             go_simp
           change wpAnyH _ _ _ _ _ _ _ (Act.put _ (some 105) _) _
           simp only [Act.put, List.setIfInBounds_toArray, List.set_cons_zero, List.set_cons_succ]
           refine wpAnyH_take (i := 11) (v := .int .i64 (hn + (nb : Int))) rfl (by kernel_rfl) (by kernel_rfl) (by kernel_rfl) (fun _ _ _ h => h) (Or.inl ⟨by kernel_rfl, ?_⟩) (by assumption) ?_
           · intro V hV
             obtain ⟨h0, h1, h2⟩ := hV
             first | (go_simp; done) | (go_simp; exact wr2)
           change wpAnyH _ _ _ _ _ _ _ (Act.put _ (some 106) _) _
           simp only [Act.put, List.setIfInBounds_toArray, List.set_cons_zero, List.set_cons_succ]
           refine wpAnyH_take (i := 12) (v := .int .i64 (ho + (na : Int))) rfl (by kernel_rfl) (by kernel_rfl) (by kernel_rfl) (fun _ _ _ h => h) (Or.inl ⟨by kernel_rfl, ?_⟩) (by assumption) ?_
           · intro V hV
             obtain ⟨h0, h1, h2⟩ := hV
             go_simp
           change wpAnyH _ _ _ _ _ _ _ (Act.put _ (some 3) _) _
           simp only [Act.put, List.setIfInBounds_toArray, List.set_cons_zero, List.set_cons_succ]
           refine wpAnyH_take (i := 13) (v := .int .i64 (hn + (nb : Int))) rfl (by kernel_rfl) (by kernel_rfl) (by kernel_rfl) (fun _ _ _ h => h) (Or.inl ⟨by kernel_rfl, ?_⟩) (by assumption) ?_
           · intro V hV
             obtain ⟨h0, h1, h2⟩ := hV
             go_simp
           change wpAnyH _ _ _ _ _ _ _ (Act.put _ (some 4) _) _
           simp only [Act.put, List.setIfInBounds_toArray, List.set_cons_zero, List.set_cons_succ]
           refine wpAnyH_done (by kernel_rfl) ?_ _
           by_cases r1 : 4096 < ho + (na : Int)
           · have HFl : Hid (goodH 0 0 hs0 = false) := Lib.hid (by rw [HG4.out, HRm.out, decide_eq_false (by omega), Bool.false_and, Bool.false_and])
             go_wp2_with fail
             go_ret
             exact HFalse.out _ HFl.out HB1.out
           by_cases r2 : 4096 < hn + (nb : Int)
           · have HFl : Hid (goodH 0 0 hs0 = false) := Lib.hid (by rw [HG4.out, HRm.out, decide_eq_false (show ¬ (hn + (nb : Int) ≤ 4096) by omega), Bool.and_false, Bool.false_and])
             go_wp2_with fail
             go_ret
             exact HFalse.out _ HFl.out HB1.out
           have HG5 : Hid (goodH 0 0 hs0 = goodH (ho + (na : Int)) (hn + (nb : Int)) (hs0.drop (j + 1))) := Lib.hid (by rw [HG4.out, HRm.out, decide_eq_true (show ho + (na : Int) ≤ 4096 by omega), decide_eq_true (show hn + (nb : Int) ≤ 4096 by omega), Bool.true_and, Bool.true_and])
           have hnx3 := hnx2.trans (HBr.out.mono hnx2.size)
           have b1 : 0 ≤ ho + (na : Int) ∧ ho + (na : Int) ≤ 4096 := ⟨by omega, by omega⟩
           have b2 : 0 ≤ hn + (nb : Int) ∧ hn + (nb : Int) ≤ 4096 := ⟨by omega, by omega⟩
           go_wp2_with fail
           go_roundw
           case rel => exact ⟨j + 1, _, _, by omega, by go_num, rfl, rfl, b1, b2, HG5, hnx3⟩
           case measure => simp [intOf]; omega
         · have HFl : Hid (goodH 0 0 hs0 = false) := Lib.hid (by rw [HG3.out, show posB a b ⟨ho, hn, ls⟩ = false by unfold posB; simp only; simp [h5], Bool.false_and])
           clear HG3 HStq HT HSm HSt HLa HLb
           go_wp2_with fail
           go_ret
           exact HFalse.out _ HFl.out HBx.out
  · obtain rfl : j = N := by omega
    have hdr : hs0.drop j = [] := List.drop_eq_nil_of_le (by rw [HN.out]; exact Nat.le_refl _)
    have HFin : Hid (goodH 0 0 hs0 = true) := Lib.hid (by rw [HE.out, hdr]; rfl)
    clear hdr
    have HC1 := Lib.hid (HS1.out wr HB.out)
    cases h1 : endAll (allB 43 hs0) with
    | false =>
      rw [h1] at HC1
      have HT2 := Lib.hid (fun w' => HTrue.out w' false HFin.out (by rw [h1]; rfl))
      go_wp2_with fail
      refine HC1.out.mono ?_
      rintro e w5 ⟨rfl, hb⟩
      have HBz := Lib.hid (HB.out.trans (hb.mono HB.out.size))
      clear hb
      go_wp2_with fail
      go_ret
      exact HT2.out _ HBz.out
    | true =>
      rw [h1] at HC1
      go_wp2_with fail
      refine HC1.out.mono ?_
      rintro e w5 ⟨rfl, hb⟩
      have HBz := Lib.hid (HB.out.trans (hb.mono HB.out.size))
      have HC2 := Lib.hid (HS2.out w5 HBz.out)
      have HT2 := Lib.hid (fun w' => HTrue.out w' _ HFin.out (by rw [h1]))
      obtain ⟨k0, k1, k2, -, -⟩ := blk3 ((HK0.out.below hnx).below hb)
      clear hb
      generalize endAll (allB 45 hs0) = bb at *
      go_wp2_with fail
      refine HC2.out.mono ?_
      rintro e w6 ⟨rfl, hb⟩
      have HBy := Lib.hid (HBz.out.trans (hb.mono HBz.out.size))
      clear hb
      go_wp2_with fail
      go_ret
      exact HT2.out _ HBy.out
end Uf
end
section
namespace Sl
end Sl
open Go.RowKit
namespace Uf
open Sc Hn Sl
theorem cut_lt {α : Type} (l : List α) (a b : Nat) : (cut l a b).length ≤ l.length := by
 unfold cut
 rw [List.length_take, List.length_drop]
 omega
theorem Lf.num {x y : List ByteArray} : ∀ {cs : List Ch} {i j T U : Nat}, Lf x y i j cs T U → cs.length ≤ (T - i) + (U - j)
 | [], _, _, _, _, _ => Nat.zero_le _
 | c :: cs, i, j, T, U, ⟨o, ol, nw, nl, e, g1, g2, g3, g4, g5, g6⟩ => by
   have h := g6.num
   have h2 := g6.le
   rw [List.length_cons]
   omega
theorem ph_few {x y : List ByteArray} {l : List Ch} : ∀ {hs : List Hk} {p i j : Nat}, Ph x y l p i j hs → hs.length + p ≤ l.length ∧ ∀ h ∈ hs.map (mkPH x y l), h.lines.length ≤ x.length + y.length
 | [], p, i, j, h => ⟨by have h' : p = l.length := h; simp; omega, fun h hh => by cases hh⟩
 | h :: hs, p, i, j, ⟨k, oF, nF, oT, nT, e, h1, h2, h3, h4, h5, h6, h7⟩ => by
   obtain ⟨g1, g2⟩ := ph_few h7
   refine ⟨by rw [List.length_cons]; omega, fun q hq => ?_⟩
   rcases List.mem_cons.1 (show q ∈ mkPH x y l h :: hs.map (mkPH x y l) from hq) with rfl | hq
   · rw [e, mkPH_nat]
     simp only
     have h8 := lens (lnsF x y oF (cut l p k) oT)
     rw [h6.old, h6.new] at h8
     have a := cut_lt x oF oT
     have b := cut_lt y nF nT
     omega
   · exact g2 q hq
theorem mk_on {s t : ByteArray} {ctx : Int} {down : Bool} {on nn : ByteArray} (h1 : nameB on = true) (h2 : nameB nn = true) (h3 : 0 ≤ ctx ∧ ctx ≤ 1048576) : mkC on nn ctx = 0 ∧ mkP on nn s t ctx down = ⟨on, nn, patH (Sh.lnB s) (Sh.lnB t) ctx (scrD down s t)⟩ := by
 have e : mkC on nn ctx = 0 := by
  unfold mkC
  rw [if_pos ⟨h1, h2⟩, if_neg (by omega)]
 exact ⟨e, by unfold mkP; rw [if_pos e]⟩
end Uf
end
end Go.Proofs.YtjecfmbecgpbmaaGreatDoor

/-
  The program's Check. Conditions: at most a million hunks and lines, texts of at most 2^22 bytes.
-/
import Derived.Test.YtjamacdefcgbaaaGreatDoorGUniIter
import Derived.Test.YtjamacdefcgbaaaGreatDoorUniCmp
namespace Go.Proofs.YtjamacdefcgbaaaGreatDoor
open Go.RowKit
namespace Uf
open Cm Hn
open Sc (fmtR Pow RdK)
open Tx (bs)
def chkC (p : Pat) : Int := if nameB p.on = true ∧ nameB p.nn = true then (if hksB (0, false) (0, false) p.hunks = true then (if szL (partsF p) ≤ 16777216 then 0 else 1) else 121) else 120
theorem lnsSt_ok : ∀ {ls : List Ln} {o n : Sd} {r : Sd × Sd}, lnsSt o n ls = some r → ∀ l ∈ ls, lnB l = true
  | [], _, _, _, _, l, hl => by cases hl
  | a :: ls, o, n, r, h, l, hl => by
    rw [lnsSt] at h
    split at h
    · rename_i ha
      split at h
      · rcases List.mem_cons.1 hl with rfl | hl
        · exact ha
        · exact lnsSt_ok h l hl
      · cases h
    · cases h
theorem hksB_ok : ∀ {hs : List PH} {o n : Sd}, hksB o n hs = true → ∀ h ∈ hs, ∀ l ∈ h.lines, lnB l = true
  | [], _, _, _, h, hh => by cases hh
  | a :: hs, o, n, e, h, hh => by
    rw [hksB] at e
    split at e
    · split at e
      · rename_i o' n' hst
        rw [Bool.and_eq_true] at e
        rcases List.mem_cons.1 hh with rfl | hh
        · exact lnsSt_ok hst
        · exact hksB_ok e.2 h hh
      · cases e
    · cases e
theorem lnB_kind {l : Ln} (h : lnB l = true) : kindOk l.kind := by
  unfold lnB at h
  simp only [Bool.and_eq_true, Bool.or_eq_true, beq_iff_eq] at h
  unfold kindOk
  omega
theorem name_small {s : ByteArray} (h : nameB s = true) : s.size ≤ 200 := by
  unfold nameB at h
  rw [decide_eq_true_iff] at h
  omega
theorem pat_ok {p : Pat} (hs : PatSm p.hunks) (h1 : nameB p.on = true) (h2 : nameB p.nn = true) (h3 : hksB (0, false) (0, false) p.hunks = true) : PatOk p := by
  have a1 := name_small h1
  have a2 := name_small h2
  refine ⟨by omega, by omega, hs.1, fun h hh => ⟨(hs.2 h hh).1, (hs.2 h hh).2.1, (hs.2 h hh).2.2.1, fun l hl => ⟨lnB_kind (hksB_ok h3 h hh l hl), ?_⟩⟩⟩
  have := (hs.2 h hh).2.2.2 l hl
  omega
def CkPost (c : Int) (w : World) (e : Ending) (w' : World) : Prop := e = .returned (.int .i64 c) ∧ Below w.heap.size w w'
set_option maxRecDepth 100000 in
set_option maxHeartbeats 2000000 in
theorem Check_any (p : Pat) (v : Value) (w : World) (hr : RdP w v p.hunks) (hs : PatSm p.hunks) (hw : Pow w) : Calls Tryz.prog 20 #[tPatV p v] w (CkPost (chkC p) w) := by
  have HN := Lib.hid (fun s w => isName_any s w)
  have HB0 := Lib.hid ((Below.refl w.heap.size w).alloc (Nat.le_refl _) (.cells #[.string p.on, .string p.nn, v] tPat))
  have HR := Lib.hid (fun w' (hb : Below w.heap.size w w') => hr.below hb)
  have HAr := Lib.hid (fun w' (hb : Below w.heap.size w w') => areHunks_any v p.hunks w' (hr.below hb) hs)
  have HAB := Lib.hid (fun w' e w'' (h : AhPost p.hunks w' e w'') => h)
  unfold AhPost at HAB
  have HFt : Hid (nameB p.on = true → nameB p.nn = true → hksB (0, false) (0, false) p.hunks = true → ∀ w' (hb : Below w.heap.size w w'), Calls Tryz.prog 45 #[.agg #[.string p.on, .string p.nn, v]] w' (FtPost p w')) := Lib.hid (fun h1 h2 h3 w' hb => fits_any p v w' (hr.below hb) (pat_ok hs h1 h2 h3) (hw.stays hb))
  have HBox : Hid (∀ w', Below (w.heap.size + 1) (w.alloc (.cells #[.string p.on, .string p.nn, v] tPat)) w' → Below w.heap.size w w' ∧ w'.cell? ⟨w.heap.size, 0, none⟩ = some (.string p.on) ∧ w'.cell? ⟨w.heap.size, 1, none⟩ = some (.string p.nn) ∧ w'.cell? ⟨w.heap.size, 2, none⟩ = some v) := Lib.hid (fun w' hb => by
    have h := heap_new w (.cells #[.string p.on, .string p.nn, v] tPat)
    have hk : Blk w' w.heap.size tPat [.string p.on, .string p.nn, v] := (hb.block _ (Nat.lt_succ_self _)).trans h
    exact ⟨HB0.out.trans (hb.mono (Nat.le_succ _)), hk.cell (k := 0) (show 0 < 3 by decide), hk.cell (k := 1) (show 1 < 3 by decide), hk.cell (k := 2) (show 2 < 3 by decide)⟩)
  cases h1 : nameB p.on with
  | false =>
    have HC : Hid (chkC p = 120) := Lib.hid (by unfold chkC; rw [if_neg (by rw [h1]; simp)])
    rw [HC.out]
    clear HC
    go_enter Tryz.func20, Tryz.ntmps20
    go_wp2_with (go_at_call 28; refine (HN.out _ _).mono ?_; rintro e w1 ⟨rfl, rfl⟩; rw [h1])
    go_ret
    exact ⟨rfl, HB0.out⟩
  | true =>
    cases h2 : nameB p.nn with
    | false =>
      have HC : Hid (chkC p = 120) := Lib.hid (by unfold chkC; rw [if_neg (by rw [h2]; simp)])
      rw [HC.out]
      clear HC
      go_enter Tryz.func20, Tryz.ntmps20
      go_wp2_with fail
      refine (HN.out _ _).mono ?_
      rintro e w1 ⟨rfl, rfl⟩
      rw [h1]
      go_wp2_with fail
      refine (HN.out _ _).mono ?_
      rintro e w1 ⟨rfl, rfl⟩
      rw [h2]
      go_wp2_with fail
      go_ret
      exact ⟨rfl, HB0.out⟩
    | true =>
      cases h3 : hksB (0, false) (0, false) p.hunks with
      | false =>
        have HC : Hid (chkC p = 121) := Lib.hid (by unfold chkC; rw [if_pos ⟨h1, h2⟩, if_neg (by rw [h3]; simp)])
        rw [HC.out]
        have HA1 := Lib.hid (HAr.out _ HB0.out)
        clear HC HAr HFt HBox
        go_enter Tryz.func20, Tryz.ntmps20
        go_wp2_with fail
        refine (HN.out _ _).mono ?_
        rintro e w1 ⟨rfl, rfl⟩
        rw [h1]
        go_wp2_with fail
        refine (HN.out _ _).mono ?_
        rintro e w1 ⟨rfl, rfl⟩
        rw [h2]
        go_wp2_with fail
        refine HA1.out.mono ?_
        rintro e w1 ⟨rfl, hb1⟩
        rw [h3]
        have HBz := Lib.hid (HB0.out.trans (hb1.mono HB0.out.size))
        clear hb1
        go_wp2_with fail
        go_ret
        exact ⟨rfl, HBz.out⟩
      | true =>
        have HF := Lib.hid (HFt.out h1 h2 h3)
        have HA1 := Lib.hid (HAr.out _ HB0.out)
        have hz : chkC p = if szL (partsF p) ≤ 16777216 then 0 else 1 := by unfold chkC; rw [if_pos ⟨h1, h2⟩, if_pos h3]
        by_cases h4 : szL (partsF p) ≤ 16777216
        · have HD : Hid (decide (szL (partsF p) ≤ 16777216) = true) := Lib.hid (decide_eq_true h4)
          have HC : Hid (chkC p = 0) := Lib.hid (by rw [hz, if_pos h4])
          rw [HC.out]
          clear HC hz HFt HAr h4
          go_enter Tryz.func20, Tryz.ntmps20
          go_wp2_with fail
          refine (HN.out _ _).mono ?_
          rintro e w1 ⟨rfl, rfl⟩
          rw [h1]
          go_wp2_with fail
          refine (HN.out _ _).mono ?_
          rintro e w1 ⟨rfl, rfl⟩
          rw [h2]
          go_wp2_with fail
          refine HA1.out.mono ?_
          rintro e w1 ⟨rfl, hb1⟩
          rw [h3]
          have HBz := Lib.hid (HB0.out.trans (hb1.mono HB0.out.size))
          obtain ⟨-, k0, k1, k2⟩ := HBox.out w1 (hb1.mono (by simp))
          clear hb1 HBox
          go_wp2_with fail
          refine (HF.out _ HBz.out).mono ?_
          rintro e w2 ⟨rfl, hb2⟩
          rw [HD.out]
          have HBy := Lib.hid (HBz.out.trans (hb2.mono HBz.out.size))
          clear hb2
          go_wp2_with fail
          go_ret
          exact ⟨rfl, HBy.out⟩
        · have HD : Hid (decide (szL (partsF p) ≤ 16777216) = false) := Lib.hid (decide_eq_false h4)
          have HC : Hid (chkC p = 1) := Lib.hid (by rw [hz, if_neg h4])
          rw [HC.out]
          clear HC hz HFt HAr h4
          go_enter Tryz.func20, Tryz.ntmps20
          go_wp2_with fail
          refine (HN.out _ _).mono ?_
          rintro e w1 ⟨rfl, rfl⟩
          rw [h1]
          go_wp2_with fail
          refine (HN.out _ _).mono ?_
          rintro e w1 ⟨rfl, rfl⟩
          rw [h2]
          go_wp2_with fail
          refine HA1.out.mono ?_
          rintro e w1 ⟨rfl, hb1⟩
          rw [h3]
          have HBz := Lib.hid (HB0.out.trans (hb1.mono HB0.out.size))
          obtain ⟨-, k0, k1, k2⟩ := HBox.out w1 (hb1.mono (by simp))
          clear hb1 HBox
          go_wp2_with fail
          refine (HF.out _ HBz.out).mono ?_
          rintro e w2 ⟨rfl, hb2⟩
          rw [HD.out]
          have HBy := Lib.hid (HBz.out.trans (hb2.mono HBz.out.size))
          clear hb2
          go_wp2_with fail
          go_ret
          exact ⟨rfl, HBy.out⟩
end Uf
end Go.Proofs.YtjamacdefcgbaaaGreatDoor

/-
  The program's Check. Conditions: at most a million hunks and lines, texts of at most 2^22 bytes. The reference's side of layer 12. Conditions: at most a million hunks and lines, 2^23 lines in all. The program's and the reference's conditions of a valid patch are the same. No conditions. The reference's good of layer 12. Conditions: those of side. Numbers of lines of a made patch, and how long it is. Conditions: short blobs.
-/
import Derived.Test.YtjecfmbecgpbmaaGreatDoorGUniIter
import Derived.Test.YtjecfmbecgpbmaaGreatDoorUniCmp
import Derived.Test.YtjecfmbecgpbmaaGreatDoorGTextAppend
import Derived.Test.YtjecfmbecgpbmaaGreatDoorGHnkBase
import Derived.Test.YtjecfmbecgpbmaaGreatDoorUniMake
namespace Go.Proofs.YtjecfmbecgpbmaaGreatDoor
section
namespace Cm
end Cm
namespace Hn
end Hn
namespace Sc
end Sc
namespace Tx
end Tx
open Go.RowKit
namespace Uf
open Cm Hn
open Sc (fmtR Pow RdK)
open Tx (bs)
def chkC (p : Pat) : Int := if nameB p.on = true ∧ nameB p.nn = true then (if hksB (0, false) (0, false) p.hunks = true then (if szL (partsF p) ≤ 16777216 then 0 else 1) else 121) else 120
theorem lnsSt_ok : ∀ {ls : List Ln} {o n : Sd} {r : Sd × Sd}, lnsSt o n ls = some r → ∀ l ∈ ls, lnB l = true
  | [], _, _, _, _, l, hl => by cases hl
  | a :: ls, o, n, r, h, l, hl => by
    rw [lnsSt] at h
    split at h
    · rename_i ha
      split at h
      · rcases List.mem_cons.1 hl with rfl | hl
        · exact ha
        · exact lnsSt_ok h l hl
      · cases h
    · cases h
theorem hksB_ok : ∀ {hs : List PH} {o n : Sd}, hksB o n hs = true → ∀ h ∈ hs, ∀ l ∈ h.lines, lnB l = true
  | [], _, _, _, h, hh => by cases hh
  | a :: hs, o, n, e, h, hh => by
    rw [hksB] at e
    split at e
    · split at e
      · rename_i o' n' hst
        rw [Bool.and_eq_true] at e
        rcases List.mem_cons.1 hh with rfl | hh
        · exact lnsSt_ok hst
        · exact hksB_ok e.2 h hh
      · cases e
    · cases e
theorem lnB_kind {l : Ln} (h : lnB l = true) : kindOk l.kind := by
  unfold lnB at h
  simp only [Bool.and_eq_true, Bool.or_eq_true, beq_iff_eq] at h
  unfold kindOk
  omega
theorem name_small {s : ByteArray} (h : nameB s = true) : s.size ≤ 200 := by
  unfold nameB at h
  rw [decide_eq_true_iff] at h
  omega
theorem pat_ok {p : Pat} (hs : PatSm p.hunks) (h1 : nameB p.on = true) (h2 : nameB p.nn = true) (h3 : hksB (0, false) (0, false) p.hunks = true) : PatOk p := by
  have a1 := name_small h1
  have a2 := name_small h2
  refine ⟨by omega, by omega, hs.1, fun h hh => ⟨(hs.2 h hh).1, (hs.2 h hh).2.1, (hs.2 h hh).2.2.1, fun l hl => ⟨lnB_kind (hksB_ok h3 h hh l hl), ?_⟩⟩⟩
  have := (hs.2 h hh).2.2.2 l hl
  omega
def CkPost (c : Int) (w : World) (e : Ending) (w' : World) : Prop := e = .returned (.int .i64 c) ∧ Below w.heap.size w w'
set_option maxRecDepth 100000 in
set_option maxHeartbeats 2000000 in
theorem Check_any (p : Pat) (v : Value) (w : World) (hr : RdP w v p.hunks) (hs : PatSm p.hunks) (hw : Pow w) : Calls Tryz.prog 43 #[tPatV p v] w (CkPost (chkC p) w) := by
  have HN := Lib.hid (fun s w => isName_any s w)
  have HB0 := Lib.hid ((Below.refl w.heap.size w).alloc (Nat.le_refl _) (.cells #[.string p.on, .string p.nn, v] tPat))
  have HR := Lib.hid (fun w' (hb : Below w.heap.size w w') => hr.below hb)
  have HAr := Lib.hid (fun w' (hb : Below w.heap.size w w') => areHunks_any v p.hunks w' (hr.below hb) hs)
  have HAB := Lib.hid (fun w' e w'' (h : AhPost p.hunks w' e w'') => h)
  unfold AhPost at HAB
  have HFt : Hid (nameB p.on = true → nameB p.nn = true → hksB (0, false) (0, false) p.hunks = true → ∀ w' (hb : Below w.heap.size w w'), Calls Tryz.prog 70 #[.agg #[.string p.on, .string p.nn, v]] w' (FtPost p w')) := Lib.hid (fun h1 h2 h3 w' hb => fits_any p v w' (hr.below hb) (pat_ok hs h1 h2 h3) (hw.stays hb))
  have HBox : Hid (∀ w', Below (w.heap.size + 1) (w.alloc (.cells #[.string p.on, .string p.nn, v] tPat)) w' → Below w.heap.size w w' ∧ w'.cell? ⟨w.heap.size, 0, none⟩ = some (.string p.on) ∧ w'.cell? ⟨w.heap.size, 1, none⟩ = some (.string p.nn) ∧ w'.cell? ⟨w.heap.size, 2, none⟩ = some v) := Lib.hid (fun w' hb => by
    have h := heap_new w (.cells #[.string p.on, .string p.nn, v] tPat)
    have hk : Blk w' w.heap.size tPat [.string p.on, .string p.nn, v] := (hb.block _ (Nat.lt_succ_self _)).trans h
    exact ⟨HB0.out.trans (hb.mono (Nat.le_succ _)), hk.cell (k := 0) (show 0 < 3 by decide), hk.cell (k := 1) (show 1 < 3 by decide), hk.cell (k := 2) (show 2 < 3 by decide)⟩)
  cases h1 : nameB p.on with
  | false =>
    have HC : Hid (chkC p = 120) := Lib.hid (by unfold chkC; rw [if_neg (by rw [h1]; simp)])
    rw [HC.out]
    clear HC
    go_enter Tryz.func43, Tryz.ntmps43
    go_wp2_with (go_at_call 45; refine (HN.out _ _).mono ?_; rintro e w1 ⟨rfl, rfl⟩; rw [h1])
    go_ret
    exact ⟨rfl, HB0.out⟩
  | true =>
    cases h2 : nameB p.nn with
    | false =>
      have HC : Hid (chkC p = 120) := Lib.hid (by unfold chkC; rw [if_neg (by rw [h2]; simp)])
      rw [HC.out]
      clear HC
      go_enter Tryz.func43, Tryz.ntmps43
      go_wp2_with fail
      refine (HN.out _ _).mono ?_
      rintro e w1 ⟨rfl, rfl⟩
      rw [h1]
      go_wp2_with fail
      refine (HN.out _ _).mono ?_
      rintro e w1 ⟨rfl, rfl⟩
      rw [h2]
      go_wp2_with fail
      go_ret
      exact ⟨rfl, HB0.out⟩
    | true =>
      cases h3 : hksB (0, false) (0, false) p.hunks with
      | false =>
        have HC : Hid (chkC p = 121) := Lib.hid (by unfold chkC; rw [if_pos ⟨h1, h2⟩, if_neg (by rw [h3]; simp)])
        rw [HC.out]
        have HA1 := Lib.hid (HAr.out _ HB0.out)
        clear HC HAr HFt HBox
        go_enter Tryz.func43, Tryz.ntmps43
        go_wp2_with fail
        refine (HN.out _ _).mono ?_
        rintro e w1 ⟨rfl, rfl⟩
        rw [h1]
        go_wp2_with fail
        refine (HN.out _ _).mono ?_
        rintro e w1 ⟨rfl, rfl⟩
        rw [h2]
        go_wp2_with fail
        refine HA1.out.mono ?_
        rintro e w1 ⟨rfl, hb1⟩
        rw [h3]
        have HBz := Lib.hid (HB0.out.trans (hb1.mono HB0.out.size))
        clear hb1
        go_wp2_with fail
        go_ret
        exact ⟨rfl, HBz.out⟩
      | true =>
        have HF := Lib.hid (HFt.out h1 h2 h3)
        have HA1 := Lib.hid (HAr.out _ HB0.out)
        have hz : chkC p = if szL (partsF p) ≤ 16777216 then 0 else 1 := by unfold chkC; rw [if_pos ⟨h1, h2⟩, if_pos h3]
        by_cases h4 : szL (partsF p) ≤ 16777216
        · have HD : Hid (decide (szL (partsF p) ≤ 16777216) = true) := Lib.hid (decide_eq_true h4)
          have HC : Hid (chkC p = 0) := Lib.hid (by rw [hz, if_pos h4])
          rw [HC.out]
          clear HC hz HFt HAr h4
          go_enter Tryz.func43, Tryz.ntmps43
          go_wp2_with fail
          refine (HN.out _ _).mono ?_
          rintro e w1 ⟨rfl, rfl⟩
          rw [h1]
          go_wp2_with fail
          refine (HN.out _ _).mono ?_
          rintro e w1 ⟨rfl, rfl⟩
          rw [h2]
          go_wp2_with fail
          refine HA1.out.mono ?_
          rintro e w1 ⟨rfl, hb1⟩
          rw [h3]
          have HBz := Lib.hid (HB0.out.trans (hb1.mono HB0.out.size))
          obtain ⟨-, k0, k1, k2⟩ := HBox.out w1 (hb1.mono (by simp))
          clear hb1 HBox
          go_wp2_with fail
          refine (HF.out _ HBz.out).mono ?_
          rintro e w2 ⟨rfl, hb2⟩
          rw [HD.out]
          have HBy := Lib.hid (HBz.out.trans (hb2.mono HBz.out.size))
          clear hb2
          go_wp2_with fail
          go_ret
          exact ⟨rfl, HBy.out⟩
        · have HD : Hid (decide (szL (partsF p) ≤ 16777216) = false) := Lib.hid (decide_eq_false h4)
          have HC : Hid (chkC p = 1) := Lib.hid (by rw [hz, if_neg h4])
          rw [HC.out]
          clear HC hz HFt HAr h4
          go_enter Tryz.func43, Tryz.ntmps43
          go_wp2_with fail
          refine (HN.out _ _).mono ?_
          rintro e w1 ⟨rfl, rfl⟩
          rw [h1]
          go_wp2_with fail
          refine (HN.out _ _).mono ?_
          rintro e w1 ⟨rfl, rfl⟩
          rw [h2]
          go_wp2_with fail
          refine HA1.out.mono ?_
          rintro e w1 ⟨rfl, hb1⟩
          rw [h3]
          have HBz := Lib.hid (HB0.out.trans (hb1.mono HB0.out.size))
          obtain ⟨-, k0, k1, k2⟩ := HBox.out w1 (hb1.mono (by simp))
          clear hb1 HBox
          go_wp2_with fail
          refine (HF.out _ HBz.out).mono ?_
          rintro e w2 ⟨rfl, hb2⟩
          rw [HD.out]
          have HBy := Lib.hid (HBz.out.trans (hb2.mono HBz.out.size))
          clear hb2
          go_wp2_with fail
          go_ret
          exact ⟨rfl, HBy.out⟩
end Uf
end
section
namespace Cm
end Cm
namespace Hn
end Hn
namespace Sc
end Sc
namespace Tx
end Tx
open Go.RowKit
namespace Uf
open Cm Hn
open Sc (RdK ownK_base)
open Tx (bs strsV StrsPost)
def allB (k : Int) (hs : List PH) : List (List UInt8) := hs.flatMap fun h => notB k h.lines
def endAll (l : List (List UInt8)) : Bool := l.dropLast.all Tx.endedF
end Uf
end
section
namespace Cm
end Cm
namespace Hn
end Hn
namespace Tx
end Tx
open Go.RowKit
namespace Uf
open Cm Hn
open Tx (bs)
def sideB : Bool → List (List UInt8) → Bool
  | _, [] => true
  | c, t :: ts => !c && sideB (!Tx.endedF t) ts
def cEnd : Bool → List (List UInt8) → Bool
  | c, [] => c
  | _, t :: ts => cEnd (!Tx.endedF t) ts
theorem endAll_cons (t : List UInt8) (ts : List (List UInt8)) : endAll (t :: ts) = ((ts.isEmpty || Tx.endedF t) && endAll ts) := by
  cases ts with
  | nil => rfl
  | cons a r => simp [endAll]
theorem sideB_end : ∀ (l : List (List UInt8)) (c : Bool), sideB c l = ((!c || l.isEmpty) && endAll l)
  | [], c => by cases c <;> rfl
  | t :: ts, c => by
    rw [sideB, sideB_end ts, endAll_cons]
    cases c <;> cases Tx.endedF t <;> cases ts <;> simp
theorem sideB_app : ∀ (a b : List (List UInt8)) (c : Bool), sideB c (a ++ b) = (sideB c a && sideB (cEnd c a) b)
  | [], b, c => by rw [List.nil_append, sideB, cEnd, Bool.true_and]
  | t :: ts, b, c => by rw [List.cons_append, sideB, sideB, cEnd, sideB_app ts b, Bool.and_assoc]
def runT : Sd → List (List UInt8) → Option Sd
  | s, [] => some s
  | s, t :: ts => if s.2 = true ∨ s.1 = 4096 then none else runT (s.1 + 1, !Tx.endedF t) ts
theorem runT_is : ∀ (ts : List (List UInt8)) (e : Int) (c : Bool), e ≤ 4096 → runT (e, c) ts = if sideB c ts = true ∧ e + ts.length ≤ 4096 then some (e + ts.length, cEnd c ts) else none
  | [], e, c, h => by
    rw [runT, if_pos ⟨rfl, by simp; omega⟩]
    simp [cEnd]
  | t :: ts, e, c, h => by
    rw [runT]
    simp only
    by_cases h1 : c = true ∨ e = 4096
    · rw [if_pos h1, if_neg]
      rintro ⟨h2, h3⟩
      rcases h1 with h1 | h1
      · subst h1
        rw [sideB] at h2
        simp at h2
      · rw [List.length_cons] at h3
        omega
    · have hc : c = false := by
        cases c with
        | false => rfl
        | true => exact absurd (.inl rfl) h1
      have he : e ≠ 4096 := fun e => h1 (.inr e)
      subst hc
      rw [if_neg h1, runT_is ts (e + 1) _ (by omega), sideB, cEnd, List.length_cons]
      have e1 : e + 1 + (ts.length : Int) = e + ((ts.length + 1 : Nat) : Int) := by omega
      rw [e1]
      simp
theorem notB_cons (k : Int) (l : Ln) (ls : List Ln) : notB k (l :: ls) = (if l.kind = k then [] else [bs l.text]) ++ notB k ls := by
  unfold notB notK
  by_cases h : l.kind = k
  · rw [if_pos h, List.filter_cons_of_neg (by simpa using h)]; rfl
  · rw [if_neg h, List.filter_cons_of_pos (by simpa using h)]; rfl
def both : Option Sd → Option Sd → Option (Sd × Sd)
  | some a, some b => some (a, b)
  | _, _ => none
theorem sAdd_run (s : Sd) (t : ByteArray) (ts : List (List UInt8)) : runT s (bs t :: ts) = (sAdd s t).bind fun s' => runT s' ts := by
  rw [runT]
  unfold sAdd
  split <;> rfl
theorem lnsSt_run : ∀ (ls : List Ln) (o n : Sd), lnsSt o n ls = if ls.all lnB = true then both (runT o (notB 43 ls)) (runT n (notB 45 ls)) else none
  | [], o, n => rfl
  | l :: ls, o, n => by
    rw [lnsSt, List.all_cons]
    cases hl : lnB l with
    | false => simp
    | true =>
      rw [if_pos rfl, Bool.true_and]
      have hk : l.kind = 32 ∨ l.kind = 45 ∨ l.kind = 43 := by
        unfold lnB at hl
        simp only [Bool.and_eq_true, Bool.or_eq_true, beq_iff_eq] at hl
        omega
      rcases hk with hk | hk | hk
      · have e1 : notB 43 (l :: ls) = bs l.text :: notB 43 ls := by rw [notB_cons, if_neg (by rw [hk]; decide)]; rfl
        have e2 : notB 45 (l :: ls) = bs l.text :: notB 45 ls := by rw [notB_cons, if_neg (by rw [hk]; decide)]; rfl
        have e3 : sOld o l = sAdd o l.text := by unfold sOld; rw [if_neg (by rw [hk]; decide)]
        have e4 : sNew n l = sAdd n l.text := by unfold sNew; rw [if_neg (by rw [hk]; decide)]
        rw [e1, e2, e3, e4, sAdd_run, sAdd_run]
        cases sAdd o l.text with
        | none => cases ls.all lnB <;> rfl
        | some a =>
          cases sAdd n l.text with
          | none => cases ls.all lnB <;> simp [both]
          | some b => exact lnsSt_run ls a b
      · have e1 : notB 43 (l :: ls) = bs l.text :: notB 43 ls := by rw [notB_cons, if_neg (by rw [hk]; decide)]; rfl
        have e2 : notB 45 (l :: ls) = notB 45 ls := by rw [notB_cons, if_pos hk]; rfl
        have e3 : sOld o l = sAdd o l.text := by unfold sOld; rw [if_neg (by rw [hk]; decide)]
        have e4 : sNew n l = some n := by unfold sNew; rw [if_pos hk]
        rw [e1, e2, e3, e4, sAdd_run]
        cases sAdd o l.text with
        | none => cases ls.all lnB <;> rfl
        | some a => exact lnsSt_run ls a n
      · have e1 : notB 43 (l :: ls) = notB 43 ls := by rw [notB_cons, if_pos hk]; rfl
        have e2 : notB 45 (l :: ls) = bs l.text :: notB 45 ls := by rw [notB_cons, if_neg (by rw [hk]; decide)]; rfl
        have e3 : sOld o l = some o := by unfold sOld; rw [if_pos hk]
        have e4 : sNew n l = sAdd n l.text := by unfold sNew; rw [if_neg (by rw [hk]; decide)]
        rw [e1, e2, e3, e4, sAdd_run]
        cases sAdd n l.text with
        | none => cases ls.all lnB <;> simp [both]
        | some a => exact lnsSt_run ls o a
/-- Where a hunk lies. -/
def posB (i j : Int) (h : PH) : Bool := !(decide (h.old < i) || decide (h.new < j) || decide (4096 < h.old) || decide (4096 < h.new) || (h.old - i != h.new - j))
def roomB (h : PH) : Bool := decide (h.old + (notB 43 h.lines).length ≤ 4096) && decide (h.new + (notB 45 h.lines).length ≤ 4096)
def goodH : Int → Int → List PH → Bool
  | _, _, [] => true
  | i, j, h :: hs => h.lines.all lnB && (chgB h.lines && (posB i j h && (roomB h && goodH (h.old + (notB 43 h.lines).length) (h.new + (notB 45 h.lines).length) hs)))
theorem posB_skip (i j : Int) (c d : Bool) (h : PH) : skipB (i, c) (j, d) h = posB i j h := by
  rw [Bool.eq_iff_iff, skip_iff]
  unfold posB
  simp only [Bool.not_eq_true', Bool.or_eq_false_iff, decide_eq_false_iff_not, bne_eq_false_iff_eq]
  constructor
  · rintro ⟨h1, h2, h3⟩; exact ⟨⟨⟨⟨fun h => h1 (.inl h), fun h => h2 (.inl h)⟩, fun h => h1 (.inr h)⟩, fun h => h2 (.inr h)⟩, h3⟩
  · rintro ⟨⟨⟨⟨a, b⟩, c⟩, d⟩, e⟩; exact ⟨fun h => h.elim a c, fun h => h.elim b d, e⟩
theorem hks_good : ∀ (hs : List PH) (i j : Int) (c d : Bool), hksB (i, c) (j, d) hs = (goodH i j hs && (sideB c (allB 43 hs) && sideB d (allB 45 hs)))
  | [], _, _, _, _ => rfl
  | h :: hs, i, j, c, d => by
    have ea : ∀ k, allB k (h :: hs) = notB k h.lines ++ allB k hs := fun k => by unfold allB; rw [List.flatMap_cons]
    rw [hksB, goodH, posB_skip, ea, ea, sideB_app, sideB_app, lnsSt_run]
    cases hp : posB i j h with
    | false => simp
    | true =>
      have hp2 : h.old ≤ 4096 ∧ h.new ≤ 4096 := by
        unfold posB at hp
        simp only [Bool.not_eq_true', Bool.or_eq_false_iff, decide_eq_false_iff_not] at hp
        omega
      rw [if_pos rfl]
      simp only
      rw [runT_is _ _ _ hp2.1, runT_is _ _ _ hp2.2]
      unfold roomB
      cases h.lines.all lnB with
      | false => simp
      | true =>
        by_cases r1 : h.old + ((notB 43 h.lines).length : Int) ≤ 4096
        · by_cases r2 : h.new + ((notB 45 h.lines).length : Int) ≤ 4096
          · cases s1 : sideB c (notB 43 h.lines) with
            | false => simp [both]
            | true =>
              cases s2 : sideB d (notB 45 h.lines) with
              | false => simp [both]
              | true =>
                rw [if_pos rfl, if_pos ⟨rfl, r1⟩, if_pos ⟨rfl, r2⟩, decide_eq_true r1, decide_eq_true r2]
                simp only [both]
                rw [hks_good hs]
                simp [Bool.and_assoc]
          · cases sideB c (notB 43 h.lines) <;> simp [both, r1, r2]
        · simp [both, r1]
theorem hks_ref (hs : List PH) : hksB (0, false) (0, false) hs = (goodH 0 0 hs && (endAll (allB 43 hs) && endAll (allB 45 hs))) := by
  rw [hks_good, sideB_end, sideB_end]
  simp
end Uf
end
section
namespace Cm
end Cm
namespace Hn
end Hn
namespace Sc
end Sc
namespace Tx
end Tx
open Go.RowKit
namespace Uf
open Cm Hn
open Sc (RdK ownK_base)
open Tx (bs strsV StrsPost)
def PatBg (hs : List PH) : Prop := PatSm hs ∧ (allB 43 hs).length ≤ 8388608 ∧ (allB 45 hs).length ≤ 8388608
end Uf
end
section
namespace Hn
end Hn
namespace Sc
end Sc
namespace Sl
end Sl
open Go.RowKit
namespace Uf
open Sc Hn Sl
theorem cut_lt {α : Type} (l : List α) (a b : Nat) : (cut l a b).length ≤ l.length := by
  unfold cut
  rw [List.length_take, List.length_drop]
  omega
theorem Lf.num {x y : List ByteArray} : ∀ {cs : List Ch} {i j T U : Nat}, Lf x y i j cs T U → cs.length ≤ (T - i) + (U - j)
  | [], _, _, _, _, _ => Nat.zero_le _
  | c :: cs, i, j, T, U, ⟨o, ol, nw, nl, e, g1, g2, g3, g4, g5, g6⟩ => by
    have h := g6.num
    have h2 := g6.le
    rw [List.length_cons]
    omega
theorem ph_few {x y : List ByteArray} {l : List Ch} : ∀ {hs : List Hk} {p i j : Nat}, Ph x y l p i j hs → hs.length + p ≤ l.length ∧ ∀ h ∈ hs.map (mkPH x y l), h.lines.length ≤ x.length + y.length
  | [], p, i, j, h => ⟨by have h' : p = l.length := h; simp; omega, fun h hh => by cases hh⟩
  | h :: hs, p, i, j, ⟨k, oF, nF, oT, nT, e, h1, h2, h3, h4, h5, h6, h7⟩ => by
    obtain ⟨g1, g2⟩ := ph_few h7
    refine ⟨by rw [List.length_cons]; omega, fun q hq => ?_⟩
    rcases List.mem_cons.1 (show q ∈ mkPH x y l h :: hs.map (mkPH x y l) from hq) with rfl | hq
    · rw [e, mkPH_nat]
      simp only
      have h8 := lens (lnsF x y oF (cut l p k) oT)
      rw [h6.old, h6.new] at h8
      have a := cut_lt x oF oT
      have b := cut_lt y nF nT
      omega
    · exact g2 q hq
theorem mk_on {s t : ByteArray} {ctx : Int} {down : Bool} {on nn : ByteArray} (h1 : nameB on = true) (h2 : nameB nn = true) (h3 : 0 ≤ ctx ∧ ctx ≤ 1048576) : mkC on nn ctx = 0 ∧ mkP on nn s t ctx down = ⟨on, nn, patH (Sh.lnB s) (Sh.lnB t) ctx (scrD down s t)⟩ := by
  have e : mkC on nn ctx = 0 := by
    unfold mkC
    rw [if_pos ⟨h1, h2⟩, if_neg (by omega)]
  exact ⟨e, by unfold mkP; rw [if_pos e]⟩
end Uf
end
end Go.Proofs.YtjecfmbecgpbmaaGreatDoor

/-
  A made patch as a text: its size and its line feeds; made of the laws of layer 13. Conditions: short blobs; the table of powers. The reference's reader of layer 13, as plain mathematics: it reads what the program reads. No conditions. The reference's Lines, Starts, named and header of layer 13. Conditions: sizes. The reference's named and header of layer 13. Conditions: sizes. Sizes of what the reference's reader reads. No conditions. The reference's reader of layer 13. Conditions: sizes. The reference's reader of layer 13, behind good names. Conditions: sizes. The walk of the law StrictRoundTrip of layer 13. Condition: the table of powers. The walk of the law StrictLossless of layer 13. Condition: the table of powers. The reference's Parse of layer 13. Conditions: texts of at most 500000 bytes and 16388 line feeds. The walks of the laws StrictParses and StrictAny of layer 13. Condition: the table of powers.
-/
import Derived.Test.YtlnghfmedkfkmaaGreatDoorGStrMap
import Derived.Test.YtlnghfmedkfkmaaGreatDoorUniRMk
import Derived.Test.YtlnghfmedkfkmaaGreatDoorUniMakes
import Derived.Test.YtlnghfmedkfkmaaGreatDoorGStrM
import Derived.Deep.AppendLies
import Derived.Test.YtlnghfmedkfkmaaGreatDoorGStrRd
import Derived.Test.YtlnghfmedkfkmaaGreatDoorGScanUnqR
import Derived.Test.YtlnghfmedkfkmaaGreatDoorGUniFmt
import Derived.Deep.CutRange
import Derived.Test.YtlnghfmedkfkmaaGreatDoorGUniCheck
namespace Go.Proofs.YtlnghfmedkfkmaaGreatDoor
section
namespace Cm
end Cm
namespace Hn
end Hn
namespace Sc
end Sc
namespace Uf
end Uf
open Go.RowKit
namespace St
open Uf Cm Hn
open Sc (Pow)
theorem wl_ln (l : Ln) : (wlLn l).length = (wrLn l).length := by unfold wlLn wrLn; simp only [List.length_cons]; split <;> rfl
theorem wl_lns : ∀ ls : List Ln, (ls.flatMap wlLn).length = (ls.flatMap wrLn).length
  | [] => rfl
  | l :: ls => by rw [List.flatMap_cons, List.flatMap_cons, List.length_append, List.length_append, wl_ln, wl_lns ls]
theorem wl_hks : ∀ hs : List PH, (hs.flatMap wlHk).length = (hs.flatMap wrHk).length
  | [] => rfl
  | h :: hs => by
    have e : (wlHk h).length = (wrHk h).length := by unfold wlHk wrHk; rw [List.length_cons, List.length_cons, wl_lns]
    rw [List.flatMap_cons, List.flatMap_cons, List.length_append, List.length_append, e, wl_hks hs]
theorem wl_len (p : Pat) : (wl p).length = (wrAll p).length := by unfold wl wrAll; rw [List.length_append, List.length_append, wl_hks]; rfl
theorem count_lf : ∀ (ls : List (List UInt8)), (∀ l ∈ ls, (10 : UInt8) ∉ l) → (ls.flatMap lf).count 10 = ls.length
  | [], _ => rfl
  | l :: ls, h => by
    have h1 : l.count 10 = 0 := List.count_eq_zero.2 (h l List.mem_cons_self)
    rw [List.flatMap_cons, List.count_append, count_lf ls (fun x hx => h x (List.mem_cons_of_mem _ hx)), List.length_cons]
    unfold lf
    rw [List.count_append, h1]
    simp
    omega
theorem count_form {p : Pat} (h : chkC p = 0) : (joinL (partsF p)).count 10 = (wrAll p).length := by
  rw [← wl_flat, count_lf _ (wl_no10 (okPat_of h)), wl_len]
/-- A made patch is short. -/
theorem mk_small {ctx : Int} (hc : 0 ≤ ctx) {s t : ByteArray} (hs : s.size ≤ 36) (ht : t.size ≤ 180) (down : Bool) {on nn : ByteArray} (h1 : nameB on = true) (h2 : nameB nn = true) :
    szL (partsF ⟨on, nn, patH (Sh.lnB s) (Sh.lnB t) ctx (scrD down s t)⟩) ≤ 100000 ∧ (wrAll ⟨on, nn, patH (Sh.lnB s) (Sh.lnB t) ctx (scrD down s t)⟩).length ≤ 1000 := by
  have hL := scrD_lf (s := s) (t := t) (by omega) (by omega) down
  have hP := ph_group hc hL
  have a := Sh.lnB_len s
  have b := Sh.lnB_len t
  obtain ⟨s1, s2⟩ := ph_sub hP
  rw [List.drop_zero] at s1 s2
  have l1 : (allB 43 (patH (Sh.lnB s) (Sh.lnB t) ctx (scrD down s t))).length ≤ 36 := by
    have := s1.length_le
    rw [List.length_map] at this
    exact Nat.le_trans this (by omega)
  have l2 : (allB 45 (patH (Sh.lnB s) (Sh.lnB t) ctx (scrD down s t))).length ≤ 180 := by
    have := s2.length_le
    rw [List.length_map] at this
    exact Nat.le_trans this (by omega)
  obtain ⟨f1, f2⟩ := ph_few hP
  have hn : (patH (Sh.lnB s) (Sh.lnB t) ctx (scrD down s t)).length ≤ 220 := by
    unfold patH
    rw [List.length_map]
    have hk := hL.num
    omega
  have hB : ∀ h ∈ patH (Sh.lnB s) (Sh.lnB t) ctx (scrD down s t), ∀ ln ∈ h.lines, ln.text.size ≤ 180 := by
    intro h hh
    unfold patH at hh
    obtain ⟨k, hk, rfl⟩ := List.mem_map.1 hh
    obtain ⟨m, hm, rfl⟩ := List.mem_iff_getElem.1 hk
    obtain ⟨p, k, oF, nF, oT, nT, e, _, _, hlf⟩ := ph_at hP m hm
    rw [e, mkPH_nat]
    intro ln hln
    rcases (hlf.texts ln hln).1 with h3 | h3
    · exact Nat.le_trans (Sh.lnB_size s _ h3) (by omega)
    · exact Nat.le_trans (Sh.lnB_size t _ h3) ht
  generalize patH (Sh.lnB s) (Sh.lnB t) ctx (scrD down s t) = hks at *
  have z1 := szL_hks (B := 180) hB
  constructor
  · unfold partsF
    rw [szL_cons]
    have n1 := name_sz h1
    have n2 := name_sz h2
    have q1 := qB_size on
    have q2 := qB_size nn
    have e : (hdPt on nn).size = 4 + (qB on).size + 5 + (qB nn).size + 1 := by
      unfold hdPt
      simp only [ByteArray.size_append]
      rfl
    simp only
    rw [e]
    have : ((allB 43 hks).length + (allB 45 hks).length) * (180 + 30) ≤ 216 * 210 := Nat.mul_le_mul (by omega) (Nat.le_refl _)
    omega
  · unfold wrAll wrHd
    have := wr_hks hks
    simp only [List.length_append, List.length_cons, List.length_nil]
    omega
/-- What a made patch keeps, beside its text. -/
structure Md (p : Pat) (t : ByteArray) : Prop where
  ok : MkOk p
  form : bs t = joinL (partsF p)
  size : t.size ≤ 100000
  cnt : (bs t).count 10 ≤ 1000
def oxB : ByteArray := ⟨#[111, 32, 120]⟩
def MdPost (w : World) (e : Ending) (w' : World) : Prop := ∃ p v t, e = .returned (.tuple #[tPatV p v, .string t]) ∧ RdP w' v p.hunks ∧ Md p t ∧ Below w.heap.size w w'
set_option maxRecDepth 100000 in
set_option maxHeartbeats 8000000 in
theorem made_any (v : Value) (us : List Int) (ctx : Int) (w : World) (h : RdV w v (intsV us)) (hu : us.length ≤ maxLen) (hub : ∀ z ∈ us, -9223372036854775808 ≤ z ∧ z ≤ 9223372036854775807) (hc0 : -9223372036854775808 ≤ ctx) (hc1 : ctx ≤ 9223372036854775807) :
    Calls Tryz.prog 29 #[v, .int .i64 ctx] w (MdPost w) := by
  generalize hO : (.cells #[.string ⟨#[]⟩, .string ⟨#[]⟩, .slice none 0 0] tPat : Obj) = O
  have HO := Lib.hid (((Below.refl w.heap.size w).alloc (Nat.le_refl _) O))
  have HO0 : Hid (∀ W, Below (w.alloc O).heap.size (w.alloc O) W → W.heap[w.heap.size]? = some O) := Lib.hid (fun W hb => (hb.block _ (Array.getElem?_eq_some_iff.1 (heap_new w O)).1).trans (heap_new w O))
  have HB0 := Lib.hid (Tx.Blob_any v us.length 0 9 5 (w.alloc O) (rdI_V (h.below HO.out) hub) hu (by omega) (by omega) (by omega) (by omega) (by omega) (by omega))
  have HNr := Lib.hid (fun wq (hb : Below (w.alloc O).heap.size (w.alloc O) wq) (a : ByteArray) (ha : a.size ≤ 36) => Sh.Near_any a v us 100 wq ((h.below HO.out).below hb) hu (by omega) ⟨by omega, by omega⟩)
  obtain ⟨A, c, rfl⟩ := h.form
  have HMd := Lib.hid (fun w => Tx.Mod_any ctx 3 w (by omega) (by omega) hc0 hc1)
  have hm0 := Tx.modF_lo ctx 3 (by omega)
  have hm1 := Tx.modF_hi ctx 3 (by omega)
  subst hO
  clear h hu hub hc0 hc1
  rw [intsV_len] at HB0 HNr ⊢
  generalize us.length = nu at *
  generalize Tx.modF ctx 3 = m at *
  unfold Tx.SomeStr at HB0 HNr
  rw [show (9 : Int).toNat = 9 from rfl] at HB0
  go_enter Tryz.func29, Tryz.ntmps29
  go_wp2_with fail
  refine (HB0.out).mono ?_
  rintro e w1 ⟨a, ha, rfl, hb⟩
  have HW1 := Lib.hid hb
  clear hb
  go_wp2_with fail
  refine (HNr.out _ HW1.out a (by omega)).mono ?_
  rintro e w2 ⟨b, hb', rfl, hb⟩
  have HW2 := Lib.hid (HW1.out.trans (hb.mono HW1.out.size))
  clear HW1 hb
  have hax : a.size ≤ 36 := by omega
  have hbx : b.size ≤ 180 := by omega
  obtain ⟨e1, e2⟩ := mk_on (s := a) (t := b) (ctx := m) (down := false) (on := oxB) (nn := nB) (by decide) (by decide) ⟨by omega, by omega⟩
  have HR := Lib.hid (fun W => MakeR_any oxB nB a b m false (by omega) (by omega) W)
  have HOk := Lib.hid (mk_ok (ctx := m) (by omega) (show a.size ≤ 1000 by omega) (show b.size ≤ 1000 by omega) false (on := oxB) (nn := nB) (by decide) (by decide))
  have HSm := Lib.hid (mk_small (ctx := m) (by omega) hax hbx false (on := oxB) (nn := nB) (by decide) (by decide))
  unfold PtPost at HR
  rw [e1, e2] at HR
  generalize patH (Sh.lnB a) (Sh.lnB b) m (scrD false a b) = P at *
  clear e1 e2 ha hb' hax hbx HB0 HNr
  go_wp2_with fail
  refine (HMd.out _).mono ?_
  rintro e w3 ⟨rfl, rfl⟩
  go_wp2_with fail
  refine (HR.out _).mono ?_
  rintro e w4 ⟨v4, rfl, ho, hb⟩
  obtain ⟨A4, c4, rfl⟩ := ho.form
  have hb1 := HW2.out.trans (hb.mono HW2.out.size)
  have HWr := Lib.hid (fun W hr => WriteR_any ⟨oxB, nB, P⟩ (.slice A4 P.length c4) W hr (chk_good HOk.out.big.1 HOk.out.chk).1 HOk.out.sz HOk.out.cnt)
  unfold WrPost at HWr
  have hmd : ∀ t : ByteArray, bs t = joinL (partsF ⟨oxB, nB, P⟩) → Md ⟨oxB, nB, P⟩ t := fun t e => ⟨HOk.out, e, by
    have := HSm.out.1
    have h2 := joinL_len (partsF ⟨oxB, nB, P⟩)
    rw [← e] at h2
    have h3 : (bs t).length = t.size := Tx.bs_len t
    omega, by rw [e, count_form HOk.out.chk]; exact HSm.out.2⟩
  have HMdd := Lib.hid hmd
  have HK0 : Hid (∀ V, Below w4.heap.size w4 V → V.heap[w.heap.size]? = some (.cells #[.string ⟨#[]⟩, .string ⟨#[]⟩, .slice none 0 0] tPat)) := Lib.hid (fun V hV => HO0.out V (hb1.trans (hV.mono hb1.size)))
  have HBw := Lib.hid (HO.out.trans (hb1.mono HO.out.size))
  have hwlt : w.heap.size < w4.heap.size := Nat.lt_of_lt_of_le (Array.getElem?_eq_some_iff.1 (heap_new w _)).1 hb1.size
  obtain ⟨W, hW⟩ : ∃ W, W = w4.alloc (.cells #[.string oxB, .string nB, .slice A4 P.length c4] tPat) := ⟨_, rfl⟩
  have HA := Lib.hid ((Below.refl w4.heap.size w4).alloc (Nat.le_refl _) (.cells #[.string oxB, .string nB, .slice A4 P.length c4] tPat))
  have HX : Hid (BxP W w4.heap.size ⟨oxB, nB, P⟩ (.slice A4 P.length c4)) := Lib.hid (by rw [hW]; exact BxP.new (p := ⟨oxB, nB, P⟩) ho.rd)
  rw [← hW] at HA
  have HOw := Lib.hid ho
  have hw2 : w.heap.size < w2.heap.size := Nat.lt_of_lt_of_le (Array.getElem?_eq_some_iff.1 (heap_new w _)).1 HW2.out.size
  clear hmd ho hb hb1 HSm HOk HW2 HO HO0 HR HMd
  go_upto_region 3 with fail
  rw [← hW]
  clear hW
  have HXS : Hid (∀ V : World, Below W.heap.size W V → V.cell? ⟨w4.heap.size, 0, none⟩ = some (.string oxB) ∧ V.cell? ⟨w4.heap.size, 1, none⟩ = some (.string nB) ∧ V.cell? ⟨w4.heap.size, 2, none⟩ = some (.slice A4 P.length c4)) := Lib.hid (fun V hV => (HX.out.below hV).cells)
  have HBr : Hid (Below W.heap.size W W.drew) := Lib.hid (Below.refl _ W).drew
  refine wp_region_held_drew (S := (fun V => V.cell? ⟨w4.heap.size, 0, none⟩ = some (.string oxB) ∧ V.cell? ⟨w4.heap.size, 1, none⟩ = some (.string nB) ∧ V.cell? ⟨w4.heap.size, 2, none⟩ = some (.slice A4 P.length c4))) (by kernel_rfl) (HXS.out _ HBr.out) (fun hHeld => ?_)
  refine wpAnyH_take (i := 0) (v := .agg #[.string oxB, .string nB, .slice A4 P.length c4]) rfl (by kernel_rfl) (by kernel_rfl) (by kernel_rfl) (fun _ _ _ h => h) (Or.inl ⟨by kernel_rfl, ?_⟩) (by assumption) ?_
  · intro V hV
    obtain ⟨h0, h1, h2⟩ := hV
    go_simp
  change wpAnyH _ _ _ _ _ _ _ (Act.put _ (some 21) _) _
  simp only [Act.put, List.setIfInBounds_toArray, List.set_cons_zero, List.set_cons_succ]
  refine wpAnyH_take (i := 1) (v := .agg #[.string oxB, .string nB, .slice A4 P.length c4]) rfl (by kernel_rfl) (by kernel_rfl) (by kernel_rfl) (fun _ _ _ h => h) (Or.inl ⟨by kernel_rfl, ?_⟩) (by assumption) ?_
  · intro V hV
    obtain ⟨h0, h1, h2⟩ := hV
    go_simp
  change wpAnyH _ _ _ _ _ _ _ (Act.put _ (some 22) _) _
  simp only [Act.put, List.setIfInBounds_toArray, List.set_cons_zero, List.set_cons_succ]
  refine wpAnyH_ready (rs := [2]) (by kernel_rfl) (by simp) ?_
  refine AllReadyH.cons rfl (fun K hK => ?_) AllReadyH.nil
  go_simp
  go_at_call 53
  refine (HWr.out _ (HX.out.below HBr.out).2).mono ?_
  rintro e w5 ⟨⟨t, rfl, ht⟩, hb5⟩
  have HB5 := Lib.hid (HBr.out.trans (hb5.mono HBr.out.size))
  have HT := Lib.hid (HMdd.out t ht)
  obtain ⟨z0, z1, z2, zf, zlt⟩ := blk3 (show Blk w5 w.heap.size tPat [.string ⟨#[]⟩, .string ⟨#[]⟩, .slice none 0 0] from HK0.out w5 (HA.out.trans (HB5.out.mono HA.out.size)))
  have HBz := Lib.hid (HBw.out.trans (((HA.out.trans (HB5.out.mono HA.out.size)).mono HBw.out.size)))
  have HBy := Lib.hid (((HBz.out.setCell (p := ⟨w.heap.size, 0, none⟩) (Nat.le_refl _) (.string oxB)).setCell (p := ⟨w.heap.size, 1, none⟩) (Nat.le_refl _) (.string nB)).setCell (p := ⟨w.heap.size, 2, none⟩) (Nat.le_refl _) (.slice A4 P.length c4))
  clear hb5 ht HBr
  go_wp2_with fail
  refine hK.out _ _ (HXS.out _ HB5.out) (fun hHeld => ?_)
  clear hK K
  have hne : w4.heap.size ≠ w.heap.size := Nat.ne_of_gt hwlt
  have hbk := (((HX.out.below HB5.out).1.set_ne hne 0 (.string oxB)).set_ne hne 1 (.string nB)).set_ne hne 2 (.slice A4 P.length c4)
  have HSz := Lib.hid (show _ ∧ _ ∧ _ from ⟨hbk.cell (k := 0) (show 0 < 3 by decide), hbk.cell (k := 1) (show 1 < 3 by decide), hbk.cell (k := 2) (show 2 < 3 by decide)⟩)
  have HRz : Hid (RdP (((w5.setCell ⟨w.heap.size, 0, none⟩ (.string oxB)).setCell ⟨w.heap.size, 1, none⟩ (.string nB)).setCell ⟨w.heap.size, 2, none⟩ (.slice A4 P.length c4)) (.slice A4 P.length c4) P) := Lib.hid (((((HOw.out.below HA.out).below HB5.out).box hw2).box hw2).box hw2).rd
  clear hbk
  refine wpAnyH_ready (rs := [3]) (by kernel_rfl) (by simp) ?_
  refine AllReadyH.cons rfl (fun K hK => ?_) AllReadyH.nil
  go_simp
  refine hK.out _ _ HSz.out (fun hHeld => ?_)
  clear hK K
  refine wpAnyH_ready (rs := [4]) (by kernel_rfl) (by simp) ?_
  refine AllReadyH.cons rfl (fun K hK => ?_) AllReadyH.nil
  go_simp
  refine hK.out _ _ HSz.out (fun hHeld => ?_)
  clear hK K
  refine wpAnyH_done (by kernel_rfl) ?_ _
  go_wp2_with fail
  exact bodyPost_ret (v := .tuple #[.agg #[.string oxB, .string nB, .slice A4 P.length c4], .string t]) (by simp [results, Tryz.f29, go_sem, z0, z1, z2]) rfl ⟨⟨oxB, nB, P⟩, _, t, rfl, HRz.out, HT.out, HBy.out⟩
end St
end
section
namespace Sc
end Sc
namespace Tx
end Tx
namespace Uf
end Uf
namespace St
open Sc Uf
open Tx (endedF bareF linesF bs_len mk_bs bs_append)
def startsF (l pre : List UInt8) : Bool := decide (pre.length ≤ l.length) && (l.take pre.length == pre)
def namedF (pre l : List UInt8) : Option (List UInt8) :=
  if startsF l pre = true then (match unqF l 4 with | some (t, e) => if e = l.length then some t else none | none => none) else none
def headerF (l : List UInt8) : Option (Int × Nat × Int × Nat) :=
  if startsF l [64, 64, 32, 45] = true then
    (match rngF l 4 with
    | none => none
    | some (a, m, e) => if startsF (l.drop e) [32, 43] = true then
        (match rngF l ((e : Int) + 2) with
        | none => none
        | some (b, n, e2) => if l.drop e2 = [32, 64, 64] then some (a, m, b, n) else none) else none)
  else none
def decK (k : UInt8) (c : Int) (not : UInt8) : Int := if k ≠ not then c - 1 else c
def mkLn (k : UInt8) (t : List UInt8) : Ln := ⟨k.toNat, ⟨t.toArray⟩⟩
/-- The lines of a hunk: m old ones and n new ones are still to come. -/
def lnsR : List (List UInt8) → Int → Int → List Ln → Option (List Ln × List (List UInt8))
  | [], m, n, acc => if 0 < m ∨ 0 < n then none else some (acc, [])
  | [l], m, n, acc => if 0 < m ∨ 0 < n then (match l with | [] => none | k :: t => lnsR [] (decK k m 43) (decK k n 45) (acc ++ [mkLn k (t ++ [10])])) else some (acc, [l])
  | l :: x :: r, m, n, acc => if 0 < m ∨ 0 < n then (match l with | [] => none | k :: t => if x = mk0 then lnsR r (decK k m 43) (decK k n 45) (acc ++ [mkLn k t]) else lnsR (x :: r) (decK k m 43) (decK k n 45) (acc ++ [mkLn k (t ++ [10])])) else some (acc, l :: x :: r)
def hksR : Nat → List (List UInt8) → List PH → Option (List PH)
  | _, [], hs => some hs
  | 0, _ :: _, _ => none
  | f + 1, l :: r, hs => match headerF l with
    | none => none
    | some (a, m, b, n) => match lnsR r m n [] with
      | none => none
      | some (ln, r') => hksR f r' (hs ++ [⟨a, b, ln⟩])
def readR : List (List UInt8) → Option Pat
  | l0 :: l1 :: r => match namedF [45, 45, 45, 32] l0 with
    | none => none
    | some o => match namedF [43, 43, 43, 32] l1 with
      | none => none
      | some n => (hksR r.length r []).map fun hs => ⟨⟨o.toArray⟩, ⟨n.toArray⟩, hs⟩
  | _ => none
/-- One line of a hunk at the head of the rest. -/
theorem lnsR_stop (ls : List (List UInt8)) (m n : Int) (acc : List Ln) (h : ¬ (0 < m ∨ 0 < n)) : lnsR ls m n acc = some (acc, ls) := by
  match ls with
  | [] => rw [lnsR.eq_def]; simp only [if_neg h]
  | [l] => rw [lnsR.eq_def]; simp only [if_neg h]
  | l :: x :: r => rw [lnsR.eq_def]; simp only [if_neg h]
theorem lnsR_nil (m n : Int) (acc : List Ln) (h : 0 < m ∨ 0 < n) : lnsR [] m n acc = none := by rw [lnsR.eq_def]; simp only [if_pos h]
theorem lnsR_empty (r : List (List UInt8)) (m n : Int) (acc : List Ln) (h : 0 < m ∨ 0 < n) : lnsR ([] :: r) m n acc = none := by
  match r with
  | [] => rw [lnsR.eq_def]; simp only [if_pos h]
  | x :: r => rw [lnsR.eq_def]; simp only [if_pos h]
theorem lnsR_mark (k : UInt8) (t : List UInt8) (r : List (List UInt8)) (m n : Int) (acc : List Ln) (h : 0 < m ∨ 0 < n) : lnsR ((k :: t) :: mk0 :: r) m n acc = lnsR r (decK k m 43) (decK k n 45) (acc ++ [mkLn k t]) := by
  rw [lnsR.eq_def]; simp only [if_pos h, ↓reduceIte]
theorem lnsR_line (k : UInt8) (t : List UInt8) (r : List (List UInt8)) (m n : Int) (acc : List Ln) (h : 0 < m ∨ 0 < n) (hx : r.head? ≠ some mk0) : lnsR ((k :: t) :: r) m n acc = lnsR r (decK k m 43) (decK k n 45) (acc ++ [mkLn k (t ++ [10])]) := by
  match r with
  | [] => rw [lnsR.eq_def]; simp only [if_pos h]
  | x :: r =>
    have hn : ¬ x = mk0 := fun e => hx (by rw [e]; rfl)
    rw [lnsR.eq_def]; simp only [if_pos h, if_neg hn]
/-! ### it reads every valid patch back -/
theorem starts_app (pre l : List UInt8) : startsF (pre ++ l) pre = true := by
  unfold startsF
  rw [List.take_left]
  simp
theorem named_one (pre t : List UInt8) (hp : pre.length = 4) : namedF pre (pre ++ quoteF t) = some t := by
  unfold namedF
  rw [if_pos (starts_app _ _), unq_4 pre t hp]
  simp only
  rw [if_pos (by rw [List.length_append, hp])]
theorem header_one {h : PH} (hh : okHk h) : headerF (hd0 h) = some (h.old, (notK 43 h.lines).length, h.new, (notK 45 h.lines).length) := by
  obtain ⟨e1, e2⟩ := head_one hh
  have hl1 : ([64, 64, 32, 45] : List UInt8).length = 4 := rfl
  unfold headerF
  have s1 : startsF (hd0 h) [64, 64, 32, 45] = true := by
    unfold hd0
    simp only [List.append_assoc]
    exact starts_app _ _
  rw [if_pos s1, e1]
  simp only
  generalize ha : (notK 43 h.lines).length = a at *
  generalize hb : (notK 45 h.lines).length = b at *
  have d1 : (hd0 h).drop (4 + (fmtR h.old (a : Int)).length) = [32, 43] ++ (fmtR h.new (b : Int) ++ [32, 64, 64]) := by
    unfold hd0
    rw [ha, hb]
    have : ([64, 64, 32, 45] ++ fmtR h.old (a : Int) ++ [32, 43] ++ fmtR h.new (b : Int) ++ [32, 64, 64] : List UInt8) = ([64, 64, 32, 45] ++ fmtR h.old (a : Int)) ++ ([32, 43] ++ (fmtR h.new (b : Int) ++ [32, 64, 64])) := by simp
    rw [this]
    exact List.drop_left' (by rw [List.length_append]; rfl)
  have d2 : (hd0 h).drop (4 + (fmtR h.old (a : Int)).length + 2 + (fmtR h.new (b : Int)).length) = [32, 64, 64] := by
    unfold hd0
    rw [ha, hb]
    exact List.drop_left' (by simp only [List.length_append, List.length_cons, List.length_nil])
  rw [d1, if_pos (starts_app _ _), e2]
  simp only
  rw [d2, if_pos rfl]
theorem notK_cons (k : Int) (l : Ln) (ls : List Ln) : (notK k (l :: ls)).length = (if l.kind ≠ k then 1 else 0) + (notK k ls).length := by
  unfold notK
  by_cases h : l.kind = k
  · simp [h]
  · simp [h]
    omega
theorem okLn_kind {l : Ln} (h : okLn l) : ∃ b : UInt8, (b.toNat : Int) = l.kind ∧ l.kind.toNat.toUInt8 = b ∧ (b = 32 ∨ b = 45 ∨ b = 43) := by
  rcases h.1 with e | e | e
  · exact ⟨32, by rw [e]; rfl, by rw [e]; rfl, .inl rfl⟩
  · exact ⟨45, by rw [e]; rfl, by rw [e]; rfl, .inr (.inl rfl)⟩
  · exact ⟨43, by rw [e]; rfl, by rw [e]; rfl, .inr (.inr rfl)⟩
theorem dec_one {b : UInt8} {k : Int} (hb : (b.toNat : Int) = k) (not : UInt8) (c : Nat) : decK b ((((if k ≠ (not.toNat : Int) then 1 else 0) + c : Nat) : Int)) not = (c : Int) := by
  unfold decK
  by_cases h : b = not
  · rw [if_neg (by simpa using h), if_neg (by rw [← hb, h]; simp)]
    omega
  · have : k ≠ (not.toNat : Int) := by rw [← hb]; exact n5' h
    rw [if_pos (by simpa using h), if_pos this]
    omega
where
  n5' {k n : UInt8} (h : ¬ k = n) : (k.toNat : Int) ≠ (n.toNat : Int) := fun e => h (UInt8.toNat_inj.1 (by omega))
theorem some_left {l : Ln} (ls : List Ln) : 0 < (((notK 43 (l :: ls)).length : Nat) : Int) ∨ 0 < (((notK 45 (l :: ls)).length : Nat) : Int) := by
  rw [notK_cons, notK_cons]
  by_cases h : l.kind = 43
  · right
    have : l.kind ≠ 45 := by rw [h]; decide
    rw [if_pos this]
    omega
  · left
    rw [if_pos h]
    omega
theorem wl_head {ls : List Ln} {r : List (List UInt8)} (hr : r.head? ≠ some mk0) (hl : ∀ l ∈ ls, okLn l) : (ls.flatMap wlLn ++ r).head? ≠ some mk0 := by
  cases ls with
  | nil => exact hr
  | cons l ls =>
    obtain ⟨b, h1, h2, h3⟩ := okLn_kind (hl l List.mem_cons_self)
    have ew : wlLn l = (l.kind.toNat.toUInt8 :: bareF (bs l.text)) :: (if endedF (bs l.text) = true then [] else [mk0]) := rfl
    rw [List.flatMap_cons, ew, List.cons_append, List.cons_append, List.head?_cons, h2]
    intro e
    injection e with e
    unfold mk0 at e
    injection e with e
    rcases h3 with rfl | rfl | rfl <;> exact absurd e (by decide)
theorem lns_read : ∀ (ls : List Ln) (acc : List Ln) (r : List (List UInt8)), (∀ l ∈ ls, okLn l) → r.head? ≠ some mk0 → lnsR (ls.flatMap wlLn ++ r) (notK 43 ls).length (notK 45 ls).length acc = some (acc ++ ls, r)
  | [], acc, r, _, _ => by
    rw [List.append_nil]
    exact lnsR_stop _ _ _ _ (by show ¬ (0 < ((0 : Nat) : Int) ∨ 0 < ((0 : Nat) : Int)); omega)
  | l :: ls, acc, r, hl, hr => by
    obtain ⟨b, h1, h2, h3⟩ := okLn_kind (hl l List.mem_cons_self)
    have hpos := some_left (l := l) ls
    have hd := wl_head hr (fun x hx => hl x (List.mem_cons_of_mem _ hx))
    have ih := lns_read ls (acc ++ [l]) r (fun x hx => hl x (List.mem_cons_of_mem _ hx)) hr
    have d1 := dec_one h1 43 (notK 43 ls).length
    have d2 := dec_one h1 45 (notK 45 ls).length
    rw [notK_cons, notK_cons] at hpos ⊢
    rw [show ((43 : UInt8).toNat : Int) = 43 from rfl] at d1
    rw [show ((45 : UInt8).toNat : Int) = 45 from rfl] at d2
    have ew : wlLn l = (l.kind.toNat.toUInt8 :: bareF (bs l.text)) :: (if endedF (bs l.text) = true then [] else [mk0]) := rfl
    rw [List.flatMap_cons, ew, h2]
    have hln : ∀ t : List UInt8, t = bs l.text → mkLn b t = l := by
      intro t e
      unfold mkLn
      rw [h1, e]
    by_cases he : endedF (bs l.text) = true
    · have e : bareF (bs l.text) ++ [10] = bs l.text := by
        unfold bareF; rw [if_pos he]; exact (Tx.endedF_split _ he).symm
      rw [if_pos he, List.cons_append, List.nil_append, List.cons_append, lnsR_line _ _ _ _ _ _ hpos hd, d1, d2, hln _ e, ih]
      simp
    · have e : bareF (bs l.text) = bs l.text := by unfold bareF; rw [if_neg he]
      rw [if_neg he, List.cons_append, List.cons_append, List.append_assoc, List.singleton_append, lnsR_mark _ _ _ _ _ _ hpos, d1, d2, hln _ e, ih]
      simp
theorem hks_head (hs : List PH) : (hs.flatMap wlHk).head? ≠ some mk0 := by
  cases hs with
  | nil => simp
  | cons h hs =>
    rw [List.flatMap_cons]
    unfold wlHk hd0
    intro e
    simp [mk0] at e
theorem hks_read : ∀ (hs gs : List PH) (f : Nat), (∀ h ∈ hs, okHk h) → hs.length ≤ f → hksR f (hs.flatMap wlHk) gs = some (gs ++ hs)
  | [], gs, f, _, _ => by rw [List.flatMap_nil, List.append_nil]; cases f <;> rfl
  | h :: hs, gs, 0, _, hf => by simp at hf
  | h :: hs, gs, f + 1, hh, hf => by
    have ho := hh h List.mem_cons_self
    have ew : wlHk h = hd0 h :: h.lines.flatMap wlLn := rfl
    rw [List.flatMap_cons, ew, List.cons_append, hksR, header_one ho]
    simp only
    rw [lns_read h.lines [] _ ho.2.2.2.2 (hks_head hs)]
    simp only
    rw [hks_read hs _ f (fun x hx => hh x (List.mem_cons_of_mem _ hx)) (by simpa using hf)]
    simp
theorem wl_cnt (hs : List PH) : hs.length ≤ (hs.flatMap wlHk).length := by
  induction hs with
  | nil => exact Nat.le_refl _
  | cons h hs ih =>
    rw [List.flatMap_cons, List.length_append]
    unfold wlHk
    simp only [List.length_cons]
    have : (List.flatMap (fun h => hd0 h :: h.lines.flatMap wlLn) hs).length = (hs.flatMap wlHk).length := rfl
    omega
theorem readR_all {p : Pat} (h : okPat p) : readR (wl p) = some p := by
  have ew : wl p = ([45, 45, 45, 32] ++ quoteF (bs p.on)) :: ([43, 43, 43, 32] ++ quoteF (bs p.nn)) :: p.hunks.flatMap wlHk := rfl
  rw [ew, readR, named_one _ _ rfl]
  simp only
  rw [named_one _ _ rfl]
  simp only
  rw [hks_read _ _ _ h.hk (wl_cnt _)]
  simp only [Option.map_some, List.nil_append]
/-- What the reference's Parse answers. -/
def prsR (s : List UInt8) : Option Pat := match (lnsS s).bind readR with
  | none => none
  | some p => if chkC p = 0 ∧ joinL (partsF p) = s then some p else none
theorem prsR_same (s : List UInt8) : prsR s = prsF s := by
  cases h : prsR s with
  | some p =>
    have : chkC p = 0 ∧ joinL (partsF p) = s := by
      unfold prsR at h
      split at h
      · cases h
      · split at h
        · rename_i hc
          injection h with h
          rw [← h]
          exact hc
        · cases h
    exact ((prsF_iff s p).2 this).symm
  | none =>
    cases h2 : prsF s with
    | none => rfl
    | some p =>
      obtain ⟨h3, h4⟩ := (prsF_iff s p).1 h2
      exfalso
      have ho := okPat_of h3
      have hl : lnsS s = some (wl p) := by rw [← h4, ← wl_flat]; exact lnsS_of _ (wl_no10 ho)
      unfold prsR at h
      rw [hl] at h
      simp only [Option.bind_some] at h
      rw [readR_all ho] at h
      simp only at h
      rw [if_pos ⟨h3, h4⟩] at h
      cases h
end St
end
section
namespace Cm
end Cm
namespace Tx
end Tx
namespace Uf
end Uf
open Go.RowKit
namespace St
open Uf Cm
open Tx (endedF bareF linesF isLine isListF RdS mks strsV strV)
theorem ended_app (a b : List UInt8) (h : b ≠ []) : endedF (a ++ b) = endedF b := by
  unfold endedF
  rw [List.getLast?_append]
  cases hb : b.getLast? with
  | none => exact absurd (List.getLast?_eq_none_iff.1 hb) h
  | some x => rfl
theorem flat_ne {r : List (List UInt8)} (h : r ≠ []) (hl : isListF r = true) : r.flatten ≠ [] := by
  cases r with
  | nil => exact absurd rfl h
  | cons x r =>
    rw [Tx.isListF_cons] at hl
    simp only [Bool.and_eq_true] at hl
    have h1 := hl.1.1
    intro e
    rw [List.flatten_cons] at e
    have e2 := (List.append_eq_nil_iff.1 e).1
    subst e2
    exact absurd h1 (by decide)
theorem lines_end : ∀ (ls : List (List UInt8)), isListF ls = true → ls ≠ [] → (endedF ls.flatten = true ↔ ∀ l ∈ ls, endedF l = true)
  | [], _, h => absurd rfl h
  | [x], _, _ => by simp
  | x :: y :: r, h, _ => by
    rw [Tx.isListF_cons] at h
    simp only [Bool.and_eq_true, List.isEmpty_cons, Bool.false_or] at h
    have ih := lines_end (y :: r) h.2 (by simp)
    rw [List.flatten_cons, ended_app _ _ (flat_ne (by simp) h.2), ih]
    constructor
    · intro hh l hl
      rcases List.mem_cons.1 hl with rfl | hl
      · exact h.1.2
      · exact hh l hl
    · intro hh l hl
      exact hh l (List.mem_cons_of_mem _ hl)
theorem lnsS_all (s : List UInt8) (h : ∀ l ∈ linesF s, endedF l = true) : lnsS s = some ((linesF s).map bareF) := by
  unfold lnsS
  by_cases hs : s = []
  · rw [if_pos hs, hs]; rfl
  · rw [if_neg hs]
    have hne : linesF s ≠ [] := fun e => hs (by rw [← Tx.linesF_flatten s, e]; rfl)
    have := (lines_end _ (Tx.linesF_isList s) hne).2 h
    rw [Tx.linesF_flatten] at this
    rw [if_pos this]
theorem lnsS_not (s : List UInt8) (k : Nat) (hk : k < (linesF s).length) (h : endedF (linesF s)[k] = false) : lnsS s = none := by
  have hne : linesF s ≠ [] := fun e => by rw [e] at hk; exact absurd hk (Nat.not_lt_zero _)
  have hs : s ≠ [] := fun e => by rw [e] at hk; exact absurd hk (Nat.not_lt_zero _)
  unfold lnsS
  rw [if_neg hs, if_neg]
  intro he
  rw [← Tx.linesF_flatten s] at he
  have := (lines_end _ (Tx.linesF_isList s) hne).1 he _ (List.getElem_mem hk)
  rw [h] at this
  cases this
/-- The lines, the first of them bare. -/
def mixL (ls : List (List UInt8)) (j : Nat) : List (List UInt8) := (ls.take j).map bareF ++ ls.drop j
theorem mixL_get (ls : List (List UInt8)) (j : Nat) (h : j < ls.length) : (mixL ls j)[j]? = some ls[j] := by
  unfold mixL
  rw [List.getElem?_append_right (by rw [List.length_map, List.length_take]; omega), List.length_map, List.length_take, Nat.min_eq_left (by omega), Nat.sub_self, List.getElem?_drop, Nat.add_zero, List.getElem?_eq_getElem h]
theorem mixL_set (ls : List (List UInt8)) (j : Nat) (h : j < ls.length) : (mixL ls j).set j (bareF ls[j]) = mixL ls (j + 1) := by
  unfold mixL
  have e : ((ls.take j).map bareF).length = j := by rw [List.length_map, List.length_take]; omega
  rw [List.set_append_right _ _ (by omega), e, Nat.sub_self, List.drop_eq_getElem_cons h, List.set_cons_zero, List.take_succ_eq_append_getElem h, List.map_append, List.append_assoc]
  rfl
theorem mixL_all (ls : List (List UInt8)) : mixL ls ls.length = ls.map bareF := by
  unfold mixL; rw [List.take_length, List.drop_length, List.append_nil]
theorem strsV_set (l : List (List UInt8)) (k : Nat) (x : List UInt8) : (strsV l).set k (.string ⟨x.toArray⟩) = strsV (l.set k x) := by
  unfold strsV; rw [List.map_set]
set_option maxHeartbeats 2000000 in
theorem LinesR_13 (s : ByteArray) (w : World) (hs : s.size ≤ 4194304) : Calls Tryz.prog 35 #[.string s] w (LsPost (bs s) w) := by
  have HL := Lib.hid (fun w => Tx.LinesR_any s w hs)
  unfold Tx.StrsPost at HL
  have HFs : Hid ((∀ l ∈ linesF (bs s), endedF l = true) → ∀ v w', RdS w' v (mks ((linesF (bs s)).map bareF)) → Below w.heap.size w w' → LsPost (bs s) w (.returned (.tuple #[v, .bool true])) w') := Lib.hid (fun h v w' h1 h2 => by
    have e := lnsS_all (bs s) h
    exact ⟨v, by rw [e]; rfl, by rw [e]; exact h1, h2⟩)
  have HFn : Hid (∀ k (hk : k < (linesF (bs s)).length), endedF (linesF (bs s))[k] = false → ∀ w', Below w.heap.size w w' → LsPost (bs s) w (.returned (.tuple #[.slice none 0 0, .bool false])) w') := Lib.hid (fun k hk h w' hb => by
    have e := lnsS_not (bs s) k hk h
    exact ⟨_, by rw [e]; rfl, by rw [e]; exact Tx.RdS.nil _, hb⟩)
  have HZ : Hid (∀ l ∈ linesF (bs s), l.length ≤ 4194304) := Lib.hid (fun l hl => by
    have := Tx.mem_len hl
    have h2 : (bs s).length = s.size := Tx.bs_len s
    omega)
  have hN : (linesF (bs s)).length ≤ 4194304 := by
    have := Tx.linesF_le (bs s)
    have h2 : (bs s).length = s.size := Tx.bs_len s
    omega
  generalize linesF (bs s) = ls at *
  obtain ⟨N, hNl⟩ : ∃ N, ls.length = N := ⟨_, rfl⟩
  rw [hNl] at HL hN
  have HNl := Lib.hid hNl
  clear hNl
  go_enter Tryz.func35, Tryz.ntmps35
  go_wp2_with fail
  refine (HL.out _).mono ?_
  rintro e w1 ⟨v, rfl, ho, hb⟩
  obtain ⟨A, c, rfl⟩ := Tx.own_len ho
  have HO := Lib.hid ho
  have HB := Lib.hid hb
  clear ho hb HL
  go_wp2_with fail
  go_loopw [5] (fun i wr => ∃ j : Nat, j ≤ N ∧ i = .int .i64 j ∧ Hid (∀ l ∈ ls.take j, endedF l = true) ∧ Hid (wr.ownsRow w.heap.size 9 1 (.slice A N c) N (strsV (mixL ls j))) ∧ Hid (Below w.heap.size w wr)) (fun i _ => N - (intOf i).toNat)
  case atStart => exact ⟨0, Nat.zero_le _, rfl, Lib.hid (fun l hl => by cases hl), HO, HB⟩
  case round =>
    clear HO HB
    obtain ⟨j, hj, rfl, HE, HO, HB⟩ := hrel
    by_cases hlt : j < N
    · have hx : j < ls.length := by rw [HNl.out]; exact hlt
      obtain ⟨g, c', e, hg1, hg2⟩ := World.ownsRow.form HO.out (by omega)
      injection e with e1 e2 e3
      subst e1
      subst e3
      clear e2
      have hcell : wr.cell? ⟨g, j, none⟩ = some (.string ⟨ls[j].toArray⟩) := by
        rw [HO.out.cellAt j (by omega)]
        unfold strsV
        rw [List.getElem?_map, mixL_get ls j hx]
        rfl
      have hfz := HO.out.frozenAt j
      have hst := (HO.out.stored j (.string ⟨(bareF ls[j]).toArray⟩)).1
      rw [strsV_set, mixL_set ls j hx] at hst
      have HO2 := Lib.hid hst
      have HB2 := Lib.hid (HB.out.setCell (p := ⟨g, j, none⟩) hg1 (.string ⟨(bareF ls[j]).toArray⟩))
      have HFj : Hid (endedF ls[j] = false → ∀ w', Below w.heap.size w w' → LsPost (bs s) w (.returned (.tuple #[.slice none 0 0, .bool false])) w') := Lib.hid (fun h => HFn.out j hx h)
      have HE2 : Hid (endedF ls[j] = true → ∀ l ∈ ls.take (j + 1), endedF l = true) := Lib.hid (fun h l hl => by
        rw [List.take_succ_eq_append_getElem hx, List.mem_append] at hl
        rcases hl with hl | hl
        · exact HE.out l hl
        · rw [List.mem_singleton.1 hl]; exact h)
      have hz := HZ.out ls[j] (List.getElem_mem hx)
      have HEd := Lib.hid (fun w => Tx.EndedR_any ⟨ls[j].toArray⟩ w (by rw [Tx.size_mk]; omega))
      have HBr := Lib.hid (fun w => Tx.BareR_any ⟨ls[j].toArray⟩ w (by rw [Tx.size_mk]; omega))
      have hbe : Tx.bareB ⟨ls[j].toArray⟩ = ⟨(bareF ls[j]).toArray⟩ := by
        have := Tx.bareB_bs ⟨ls[j].toArray⟩
        rw [Tx.bs_mk] at this
        rw [← this, Tx.mk_bs]
      rw [hbe] at HBr
      rw [Tx.bs_mk] at HEd
      clear hst hbe HFn HFs HZ
      generalize ls[j] = l at *
      by_cases he : endedF l = true
      · have HE3 := Lib.hid (HE2.out he)
        rw [he] at HEd
        clear HE2 HFj he hz
        go_wp2_with fail
        refine (HEd.out _).mono ?_
        rintro e w2 ⟨rfl, rfl⟩
        go_wp2_with fail
        refine (HBr.out _).mono ?_
        rintro e w2 ⟨rfl, rfl⟩
        go_wp2_with fail
        go_roundw
        case rel => exact ⟨j + 1, by omega, by go_num, HE3, HO2, HB2⟩
        case measure => simp [intOf]; omega
      · have he : endedF l = false := by simpa using he
        have HG := Lib.hid (HFj.out he)
        rw [he] at HEd
        clear HE2 HFj he hz HBr HO2 HB2
        go_wp2_with fail
        refine (HEd.out _).mono ?_
        rintro e w2 ⟨rfl, rfl⟩
        go_wp2_with fail
        go_ret2
        exact HG.out _ HB.out
    · have hjN : j = N := by omega
      subst hjN
      have ht : ls.take j = ls := by rw [← HNl.out, List.take_length]
      have hm : mixL ls j = ls.map bareF := by rw [← HNl.out, mixL_all]
      rw [ht] at HE
      rw [hm] at HO
      have HR : Hid (RdS wr (.slice A j c) (mks (ls.map bareF))) := Lib.hid (by
        refine Tx.RdS.of_own (base := w.heap.size) ?_
        rw [List.length_map, HNl.out]
        exact HO.out)
      have HG := Lib.hid (HFs.out HE.out)
      clear ht hm HFn HFs HZ HE HO
      go_wp2_with fail
      go_ret2
      exact HG.out _ _ HR.out HB.out
theorem starts_eq (s p : ByteArray) (h : p.size ≤ s.size) : startsF (bs s) (bs p) = ((s.extract 0 p.size).toList == p.toList) := by
  have h1 : (bs p).length = p.size := Tx.bs_len p
  have h2 : (bs s).length = s.size := Tx.bs_len s
  unfold startsF
  rw [h1, h2, decide_eq_true h, Bool.true_and, Sc.toList_bs, Sc.toList_bs]
  have e : Sc.bs (s.extract 0 p.size) = (bs s).take p.size := by
    have := Sc.bs_extract s 0 p.size
    rw [List.drop_zero, Nat.sub_zero] at this
    exact this
  rw [e]
theorem starts_no (s p : ByteArray) (h : ¬ p.size ≤ s.size) : startsF (bs s) (bs p) = false := by
  have h1 : (bs p).length = p.size := Tx.bs_len p
  have h2 : (bs s).length = s.size := Tx.bs_len s
  unfold startsF
  rw [h1, h2, decide_eq_false h, Bool.false_and]
set_option maxHeartbeats 1000000 in
theorem Starts_any (s p : ByteArray) (w : World) : Calls Tryz.prog 131 #[.string s, .string p] w fun e w' => e = .returned (.bool (startsF (bs s) (bs p))) ∧ w = w' := by
  by_cases h : p.size ≤ s.size
  · rw [starts_eq s p h]
    go_enter Tryz.func131, Tryz.ntmps131
    go_wp2_with fail
    go_ret
    exact ⟨rfl, rfl⟩
  · rw [starts_no s p h]
    have h2 : s.size < p.size := by omega
    clear h
    go_enter Tryz.func131, Tryz.ntmps131
    go_wp2_with fail
    go_ret
    exact ⟨rfl, rfl⟩
end St
end
section
namespace Cm
end Cm
namespace Sc
end Sc
namespace Tx
end Tx
namespace Uf
end Uf
open Go.RowKit
namespace St
open Uf Cm Sc
open Tx (RdS mks)
theorem mks_get (ls : List (List UInt8)) (k : Nat) (h : k < (mks ls).length) (h2 : k < ls.length) : (mks ls)[k] = ⟨ls[k].toArray⟩ := List.getElem_map (l := ls) (i := k) (fun l : List UInt8 => (⟨l.toArray⟩ : ByteArray))
/-- The named string of a line that may not be there. -/
def nmF (pre : List UInt8) (ls : List (List UInt8)) (k : Nat) : Option (List UInt8) := match ls[k]? with
  | none => none
  | some l => namedF pre l
theorem named_un {pre l : List UInt8} (h : startsF l pre = true) : (unqF l 4 = none → namedF pre l = none) ∧ ∀ t e, unqF l 4 = some (t, e) → namedF pre l = if e = l.length then some t else none := by
  unfold namedF
  rw [if_pos h]
  exact ⟨fun h => by rw [h], fun t e h => by rw [h]⟩
def NmPost (r : Option (List UInt8)) (w : World) (e : Ending) (w' : World) : Prop :=
  ∃ s b, e = .returned (.tuple #[.string s, .bool b]) ∧ b = r.isSome ∧ (∀ t, r = some t → s = ⟨t.toArray⟩) ∧ Below w.heap.size w w'
theorem NmPost.no {r : Option (List UInt8)} (h : r = none) {s : ByteArray} {w w' : World} (hb : Below w.heap.size w w') : NmPost r w (.returned (.tuple #[.string s, .bool false])) w' :=
  ⟨s, false, rfl, by rw [h]; rfl, (fun t ht => by rw [h] at ht; cases ht), hb⟩
theorem NmPost.yes {r : Option (List UInt8)} {t : List UInt8} (h : r = some t) {w w' : World} (hb : Below w.heap.size w w') : NmPost r w (.returned (.tuple #[.string ⟨t.toArray⟩, .bool true])) w' :=
  ⟨_, true, rfl, by rw [h]; rfl, (fun u hu => by rw [h] at hu; cases hu; rfl), hb⟩
set_option maxHeartbeats 2000000 in
theorem named_any (A : Option Addr) (c N k : Nat) (ls : List (List UInt8)) (pre : ByteArray) (w : World) (hr : RdS w (.slice A N c) (mks ls)) (hN : ls.length = N) (hp : pre.size = 4) (hz : ∀ l ∈ ls, l.length ≤ 1000000) (hk : k ≤ 1000000) (hNb : N ≤ 4194304) :
    Calls Tryz.prog 96 #[.slice A N c, .int .i64 (k : Int), .string pre] w (NmPost (nmF (bs pre) ls k) w) := by
  have HN := Lib.hid hN
  have HP := Lib.hid hp
  by_cases hlt : k < N
  · have hx : k < ls.length := by omega
    have hkm : k < (mks ls).length := by rw [Tx.mks_len]; exact hx
    obtain ⟨A', c', e, hcap, hcell⟩ := hr
    injection e with e1 e2 e3
    subst e1
    subst e3
    obtain ⟨b, off, e4, hc⟩ := hcell (by omega)
    have hck := hc k hkm
    subst e4
    have hel : (mks ls)[k] = ⟨ls[k].toArray⟩ := mks_get ls k hkm hx
    rw [hel] at hck
    have hnm : nmF (bs pre) ls k = namedF (bs pre) ls[k] := by unfold nmF; rw [List.getElem?_eq_getElem hx]
    have hlz := hz ls[k] (List.getElem_mem hx)
    rw [hnm]
    clear hnm hel hc hcell hcap e2 hz hN hkm
    generalize ls[k] = l at *
    have hsz : (⟨l.toArray⟩ : ByteArray).size = l.length := Tx.size_mk l
    have hbl : bs (⟨l.toArray⟩ : ByteArray) = l := Tx.bs_mk l
    have HS := Lib.hid (fun w => Starts_any ⟨l.toArray⟩ pre w)
    have HU := Lib.hid (fun w => UnquoteR_any ⟨l.toArray⟩ (pre.size : Int) w (by omega))
    rw [hbl] at HS
    have hub : Sc.bs (⟨l.toArray⟩ : ByteArray) = l := hbl
    rw [hub] at HU
    have hu4 : unqF l (pre.size : Int) = unqF l 4 := by rw [hp]; rfl
    rw [hu4] at HU
    have HKc : Hid (∀ V : World, Below w.heap.size w V → V.cell? ⟨b, off + k, none⟩ = some (.string ⟨l.toArray⟩)) := Lib.hid (fun V hV => (hV.cell (Tx.cell_lt hck)).trans hck)
    have i1 : (0 : Int) ≤ (k : Int) := by omega
    have i2 : (k : Int) < (N : Int) := by omega
    have dk : decide (N ≤ k) = false := decide_eq_false (by omega)
    clear hsz hbl hub hu4 hp hx
    cases hst : startsF l (bs pre) with
    | false =>
      have HF : Hid (namedF (bs pre) l = none) := Lib.hid (by unfold namedF; rw [if_neg (by rw [hst]; decide)])
      have HE := Lib.hid (fun s w' (hb : Below w.heap.size w w') => NmPost.no HF.out (s := s) hb)
      rw [hst] at HS
      clear hst HU
      go_enter Tryz.func96, Tryz.ntmps96
      go_wp2_with fail
      refine (HS.out _).mono ?_
      rintro e w2 ⟨rfl, rfl⟩
      go_wp2_with fail
      go_ret2
      exact HE.out _ _ (Below.refl _ _)
    | true =>
      have HF := Lib.hid (named_un hst)
      rw [hst] at HS
      clear hst
      cases hu : unqF l 4 with
      | none =>
        have HE : Hid (∀ s w', Below w.heap.size w w' → NmPost (namedF (bs pre) l) w (.returned (.tuple #[.string s, .bool false])) w') := Lib.hid (fun s w' hb => NmPost.no (HF.out.1 hu) hb)
        rw [hu] at HU
        unfold unqV at HU
        clear hu HF
        go_enter Tryz.func96, Tryz.ntmps96
        go_wp2_with fail
        refine (HS.out _).mono ?_
        rintro e w2 ⟨rfl, rfl⟩
        go_wp2_with fail
        refine (HU.out _).mono ?_
        rintro e w2 ⟨rfl, hb⟩
        have hck := HKc.out _ hb
        have HB := Lib.hid hb
        clear hb
        go_upto_region 4 with fail
        go_quiet (fail)
        go_wp2_with fail
        go_ret2
        exact HE.out _ _ (HB.out.trans (Sc.below_drewN (Below.refl _ _) _))
      | some te =>
        obtain ⟨t, e⟩ := te
        rw [hu] at HU
        unfold unqV at HU
        by_cases hel : e = l.length
        · have HE : Hid (∀ w', Below w.heap.size w w' → NmPost (namedF (bs pre) l) w (.returned (.tuple #[.string ⟨t.toArray⟩, .bool true])) w') := Lib.hid (fun w' hb => NmPost.yes (by rw [HF.out.2 _ _ hu, if_pos hel]) hb)
          have hq : ((e : Int) == (l.length : Int)) = true := by rw [hel]; exact beq_self_eq_true _
          clear hu HF hel
          go_enter Tryz.func96, Tryz.ntmps96
          go_wp2_with fail
          refine (HS.out _).mono ?_
          rintro e w2 ⟨rfl, rfl⟩
          go_wp2_with fail
          refine (HU.out _).mono ?_
          rintro e w2 ⟨rfl, hb⟩
          have hck := HKc.out _ hb
          have HB := Lib.hid hb
          clear hb
          go_upto_region 4 with fail
          go_quiet (fail)
          go_wp2_with fail
          go_ret2
          exact HE.out _ (HB.out.trans (Sc.below_drewN (Below.refl _ _) _))
        · have HE : Hid (∀ s w', Below w.heap.size w w' → NmPost (namedF (bs pre) l) w (.returned (.tuple #[.string s, .bool false])) w') := Lib.hid (fun s w' hb => NmPost.no (by rw [HF.out.2 _ _ hu, if_neg hel]) hb)
          have hq : ((e : Int) == (l.length : Int)) = false := by simp only [beq_eq_false_iff_ne, ne_eq]; omega
          clear hu HF hel
          go_enter Tryz.func96, Tryz.ntmps96
          go_wp2_with fail
          refine (HS.out _).mono ?_
          rintro e w2 ⟨rfl, rfl⟩
          go_wp2_with fail
          refine (HU.out _).mono ?_
          rintro e w2 ⟨rfl, hb⟩
          have hck := HKc.out _ hb
          have HB := Lib.hid hb
          clear hb
          go_upto_region 4 with fail
          go_quiet (fail)
          go_wp2_with fail
          go_ret2
          exact HE.out _ _ (HB.out.trans (Sc.below_drewN (Below.refl _ _) _))
  · have hnm : nmF (bs pre) ls k = none := by unfold nmF; rw [List.getElem?_eq_none (by omega)]
    have HE := Lib.hid (fun s w' (hb : Below w.heap.size w w') => NmPost.no hnm (s := s) hb)
    have h2 : N ≤ k := by omega
    clear hnm hlt hr hN hp hz
    go_enter Tryz.func96, Tryz.ntmps96
    go_wp2_with fail
    go_ret2
    exact HE.out _ _ (Below.refl _ _)
/-- What header answers. -/
def HdPost (r : Option (Int × Nat × Int × Nat)) (w : World) (e : Ending) (w' : World) : Prop :=
  ∃ (a m b n : Int) (ok : Bool), e = .returned (.tuple #[.int .i64 a, .int .i64 m, .int .i64 b, .int .i64 n, .bool ok]) ∧ ok = r.isSome ∧ (∀ a' m' b' n', r = some (a', m', b', n') → a = a' ∧ m = (m' : Int) ∧ b = b' ∧ n = (n' : Int)) ∧ Below w.heap.size w w'
theorem HdPost.no {r : Option (Int × Nat × Int × Nat)} (h : r = none) {a m b n : Int} {w w' : World} (hb : Below w.heap.size w w') : HdPost r w (.returned (.tuple #[.int .i64 a, .int .i64 m, .int .i64 b, .int .i64 n, .bool false])) w' :=
  ⟨a, m, b, n, false, rfl, by rw [h]; rfl, (fun _ _ _ _ hh => by rw [h] at hh; cases hh), hb⟩
theorem HdPost.yes {r : Option (Int × Nat × Int × Nat)} {a b : Int} {m n : Nat} (h : r = some (a, m, b, n)) {w w' : World} (hb : Below w.heap.size w w') : HdPost r w (.returned (.tuple #[.int .i64 a, .int .i64 (m : Int), .int .i64 b, .int .i64 (n : Int), .bool true])) w' :=
  ⟨a, m, b, n, true, rfl, by rw [h]; rfl, (fun _ _ _ _ hh => by rw [h] at hh; cases hh; exact ⟨rfl, rfl, rfl, rfl⟩), hb⟩
theorem starts_len {l pre : List UInt8} (h : startsF l pre = true) : pre.length ≤ l.length := by
  unfold startsF at h
  simp only [Bool.and_eq_true, decide_eq_true_eq] at h
  exact h.1
def hp1 : ByteArray := ⟨#[64, 64, 32, 45]⟩
def hp2 : ByteArray := ⟨#[32, 43]⟩
theorem hdr_no {l : List UInt8} (h : startsF l [64, 64, 32, 45] = false) : headerF l = none := by unfold headerF; rw [if_neg (by rw [h]; decide)]
theorem hdr_rng {l : List UInt8} (h : rngF l 4 = none) : headerF l = none := by
  unfold headerF
  split
  · rw [h]
  · rfl
theorem hdr_two {l : List UInt8} {a : Int} {m e : Nat} (h1 : rngF l 4 = some (a, m, e)) (h2 : startsF (l.drop e) [32, 43] = false) : headerF l = none := by
  unfold headerF
  split
  · rw [h1]; simp only; rw [if_neg (by rw [h2]; decide)]
  · rfl
theorem hdr_rng2 {l : List UInt8} {a : Int} {m e : Nat} (h1 : rngF l 4 = some (a, m, e)) (h3 : rngF l ((e : Int) + 2) = none) : headerF l = none := by
  unfold headerF
  split
  · rw [h1]; simp only
    split
    · rw [h3]
    · rfl
  · rfl
theorem hdr_end {l : List UInt8} {a b : Int} {m n e e2 : Nat} (h0 : startsF l [64, 64, 32, 45] = true) (h1 : rngF l 4 = some (a, m, e)) (h2 : startsF (l.drop e) [32, 43] = true) (h3 : rngF l ((e : Int) + 2) = some (b, n, e2)) :
    headerF l = if l.drop e2 = [32, 64, 64] then some (a, m, b, n) else none := by
  unfold headerF
  rw [if_pos h0, h1]
  simp only
  rw [if_pos h2, h3]
set_option maxHeartbeats 4000000 in
theorem header_13 (s : ByteArray) (w : World) (hs : s.size ≤ 1000000) : Calls Tryz.prog 97 #[.string s] w (HdPost (headerF (bs s)) w) := by
  have hbl : (bs s).length = s.size := Tx.bs_len s
  have HS := Lib.hid (fun w => Starts_any s hp1 w)
  have HR := Lib.hid (fun k w => RangeR_any s k w (by omega))
  have e1 : bs hp1 = [64, 64, 32, 45] := rfl
  rw [e1] at HS
  unfold hp1 at HS
  cases hst : startsF (bs s) [64, 64, 32, 45] with
  | false =>
    have HE := Lib.hid (fun w' (hb : Below w.heap.size w w') => HdPost.no (a := 0) (m := 0) (b := 0) (n := 0) (hdr_no hst) hb)
    rw [hst] at HS
    clear hst HR hbl
    go_enter Tryz.func97, Tryz.ntmps97
    go_wp2_with fail
    refine (HS.out _).mono ?_
    rintro e w2 ⟨rfl, rfl⟩
    go_wp2_with fail
    refine bodyPost_ret (v := .tuple #[.int .i64 0, .int .i64 0, .int .i64 0, .int .i64 0, .bool false]) (by simp [results, Tryz.f97, go_sem]) rfl (HE.out _ (Below.refl _ _))
  | true =>
    have h4 := starts_len hst
    rw [hst] at HS
    have HR4 := Lib.hid (HR.out 4)
    cases hr : rngF (bs s) 4 with
    | none =>
      have HE := Lib.hid (fun w' (hb : Below w.heap.size w w') => HdPost.no (a := 0) (m := 0) (b := 0) (n := 0) (hdr_rng hr) hb)
      rw [show rngF (Sc.bs s) 4 = none from hr] at HR4
      unfold rngV at HR4
      clear hst hr HR hbl h4
      go_enter Tryz.func97, Tryz.ntmps97
      go_wp2_with fail
      refine (HS.out _).mono ?_
      rintro e w2 ⟨rfl, rfl⟩
      go_wp2_with fail
      refine (HR4.out _).mono ?_
      rintro e w2 ⟨rfl, hb⟩
      have HB := Lib.hid hb
      clear hb
      go_wp2_with fail
      refine bodyPost_ret (v := .tuple #[.int .i64 0, .int .i64 0, .int .i64 0, .int .i64 0, .bool false]) (by simp [results, Tryz.f97, go_sem]) rfl (HE.out _ HB.out)
    | some r =>
      obtain ⟨a, m, e⟩ := r
      have hle : e ≤ (bs s).length := rng_le (k := 4) h4 hr
      rw [show rngF (Sc.bs s) 4 = some (a, m, e) from hr] at HR4
      unfold rngV at HR4
      have HS2 := Lib.hid (fun w => Starts_any (s.extract e s.size) hp2 w)
      have e2 : bs hp2 = [32, 43] := rfl
      have e3 : bs (s.extract e s.size) = (bs s).drop e := by
        have := Sc.bs_extract s e s.size
        rw [List.take_of_length_le (by rw [List.length_drop]; show (bs s).length - e ≤ _; omega)] at this
        exact this
      rw [e2, e3] at HS2
      unfold hp2 at HS2
      have hes : e ≤ s.size := by omega
      cases hs2 : startsF ((bs s).drop e) [32, 43] with
      | false =>
        have HE := Lib.hid (fun w' (hb : Below w.heap.size w w') => HdPost.no (a := 0) (m := 0) (b := 0) (n := 0) (hdr_two hr hs2) hb)
        rw [hs2] at HS2
        clear hst hr HR hbl h4 e2 e3 hs2 hle
        go_enter Tryz.func97, Tryz.ntmps97
        go_wp2_with fail
        refine (HS.out _).mono ?_
        rintro e w2 ⟨rfl, rfl⟩
        go_wp2_with fail
        refine (HR4.out _).mono ?_
        rintro e w2 ⟨rfl, hb⟩
        have HB := Lib.hid hb
        clear hb
        go_wp2_with fail
        refine (HS2.out _).mono ?_
        rintro e w3 ⟨rfl, rfl⟩
        go_wp2_with fail
        refine bodyPost_ret (v := .tuple #[.int .i64 0, .int .i64 0, .int .i64 0, .int .i64 0, .bool false]) (by simp [results, Tryz.f97, go_sem]) rfl (HE.out _ HB.out)
      | true =>
        have h5 := starts_len hs2
        rw [List.length_drop] at h5
        have h6 : e + 2 ≤ (bs s).length := by
          have : ([32, 43] : List UInt8).length = 2 := rfl
          omega
        rw [hs2] at HS2
        have HR5 := Lib.hid (HR.out ((e : Int) + 2))
        have q1 : IntKind.i64.wrap ((e : Int) + 2) = (e : Int) + 2 := by simp [IntKind.wrap, IntKind.bits, IntKind.signed]; omega
        have hes2 : e + 2 ≤ 1000000 := by omega
        cases hr2 : rngF (bs s) ((e : Int) + 2) with
        | none =>
          have HE := Lib.hid (fun (a m : Int) w' (hb : Below w.heap.size w w') => HdPost.no (a := a) (m := m) (b := 0) (n := 0) (hdr_rng2 hr hr2) hb)
          rw [show rngF (Sc.bs s) ((e : Int) + 2) = none from hr2] at HR5
          unfold rngV at HR5
          clear hst hr HR hbl h4 e2 e3 hs2 hle h5 h6 hr2 q1
          go_enter Tryz.func97, Tryz.ntmps97
          go_wp2_with fail
          refine (HS.out _).mono ?_
          rintro e w2 ⟨rfl, rfl⟩
          go_wp2_with fail
          refine (HR4.out _).mono ?_
          rintro e w2 ⟨rfl, hb⟩
          have HB := Lib.hid hb
          clear hb
          go_wp2_with fail
          refine (HS2.out _).mono ?_
          rintro e w3 ⟨rfl, rfl⟩
          go_wp2_with fail
          refine (HR5.out _).mono ?_
          rintro e w3 ⟨rfl, hb⟩
          have HB2 := Lib.hid (HB.out.trans (hb.mono HB.out.size))
          clear hb
          go_upto_region 7 with fail
          go_quiet (fail)
          go_wp2_with fail
          refine bodyPost_ret (v := .tuple #[.int .i64 a, .int .i64 (m : Int), .int .i64 0, .int .i64 0, .bool false]) (by simp [results, Tryz.f97, go_sem]) rfl (HE.out _ _ _ (below_drewN HB2.out _))
        | some r2 =>
          obtain ⟨b, n, e2'⟩ := r2
          have h7 : e2' ≤ (bs s).length := by
            have h8 := hr2
            rw [show ((e : Int) + 2) = ((e + 2 : Nat) : Int) from rfl] at h8
            exact rng_le (k := e + 2) h6 h8
          have hes3 : e2' ≤ s.size := by omega
          have hend := hdr_end hst hr hs2 hr2
          have e4 : (s.extract e2' s.size).toList = (bs s).drop e2' := by
            rw [Sc.toList_bs]
            have := Sc.bs_extract s e2' s.size
            rw [List.take_of_length_le (by rw [List.length_drop]; show (bs s).length - e2' ≤ _; omega)] at this
            exact this
          rw [show rngF (Sc.bs s) ((e : Int) + 2) = some (b, n, e2') from hr2] at HR5
          unfold rngV at HR5
          by_cases hq : (bs s).drop e2' = [32, 64, 64]
          · rw [if_pos hq] at hend
            have HE := Lib.hid (fun w' (hb : Below w.heap.size w w') => HdPost.yes hend hb)
            have hq2 : ((s.extract e2' s.size).toList == [32, 64, 64]) = true := by rw [e4, hq]; rfl
            clear hst hr HR hbl h4 e2 e3 hs2 hle h5 h6 hr2 q1 hend e4 hq h7
            go_enter Tryz.func97, Tryz.ntmps97
            go_wp2_with fail
            refine (HS.out _).mono ?_
            rintro e w2 ⟨rfl, rfl⟩
            go_wp2_with fail
            refine (HR4.out _).mono ?_
            rintro e w2 ⟨rfl, hb⟩
            have HB := Lib.hid hb
            clear hb
            go_wp2_with fail
            refine (HS2.out _).mono ?_
            rintro e w3 ⟨rfl, rfl⟩
            go_wp2_with fail
            refine (HR5.out _).mono ?_
            rintro e w3 ⟨rfl, hb⟩
            have HB2 := Lib.hid (HB.out.trans (hb.mono HB.out.size))
            clear hb
            go_upto_region 7 with fail
            go_quiet (fail)
            go_wp2_with fail
            refine bodyPost_ret (v := .tuple #[.int .i64 a, .int .i64 (m : Int), .int .i64 b, .int .i64 (n : Int), .bool true]) (by simp [results, Tryz.f97, go_sem]) rfl (HE.out _ (below_drewN HB2.out _))
          · rw [if_neg hq] at hend
            have HE := Lib.hid (fun (a m b n : Int) w' (hb : Below w.heap.size w w') => HdPost.no (a := a) (m := m) (b := b) (n := n) hend hb)
            have hq2 : ((s.extract e2' s.size).toList == [32, 64, 64]) = false := by rw [e4]; exact beq_eq_false_iff_ne.2 hq
            clear hst hr HR hbl h4 e2 e3 hs2 hle h5 h6 hr2 q1 hend e4 hq h7
            go_enter Tryz.func97, Tryz.ntmps97
            go_wp2_with fail
            refine (HS.out _).mono ?_
            rintro e w2 ⟨rfl, rfl⟩
            go_wp2_with fail
            refine (HR4.out _).mono ?_
            rintro e w2 ⟨rfl, hb⟩
            have HB := Lib.hid hb
            clear hb
            go_wp2_with fail
            refine (HS2.out _).mono ?_
            rintro e w3 ⟨rfl, rfl⟩
            go_wp2_with fail
            refine (HR5.out _).mono ?_
            rintro e w3 ⟨rfl, hb⟩
            have HB2 := Lib.hid (HB.out.trans (hb.mono HB.out.size))
            clear hb
            go_upto_region 7 with fail
            go_quiet (fail)
            go_wp2_with fail
            refine bodyPost_ret (v := .tuple #[.int .i64 a, .int .i64 (m : Int), .int .i64 b, .int .i64 (n : Int), .bool false]) (by simp [results, Tryz.f97, go_sem]) rfl (HE.out _ _ _ _ _ (below_drewN HB2.out _))
end St
end
section
namespace Sc
end Sc
namespace Uf
end Uf
namespace St
open Sc Uf
def nL (hs : List PH) : Nat := (hs.map fun h => h.lines.length).sum
def tL (ls : List Ln) : Nat := (ls.map fun l => l.text.size).sum
def tS (hs : List PH) : Nat := (hs.map fun h => tL h.lines).sum
def wS (ls : List (List UInt8)) : Nat := (ls.map fun l => l.length + 1).sum
theorem tL_app (a b : List Ln) : tL (a ++ b) = tL a + tL b := by unfold tL; rw [List.map_append, List.sum_append]
theorem tL_one (l : Ln) : tL [l] = l.text.size := by unfold tL; simp
theorem nL_snoc (hs : List PH) (h : PH) : nL (hs ++ [h]) = nL hs + h.lines.length := by unfold nL; simp
theorem tS_snoc (hs : List PH) (h : PH) : tS (hs ++ [h]) = tS hs + tL h.lines := by unfold tS; simp
theorem wS_cons (l : List UInt8) (r : List (List UInt8)) : wS (l :: r) = l.length + 1 + wS r := by unfold wS; simp
theorem mkLn_sz (k : UInt8) (t : List UInt8) : (mkLn k t).text.size = t.length := mk_size t
theorem lnsR_sz : ∀ (f : Nat) (ls : List (List UInt8)), ls.length ≤ f → ∀ (m n : Int) (acc ln : List Ln) (r : List (List UInt8)), lnsR ls m n acc = some (ln, r) → ∃ new, ln = acc ++ new ∧ new.length + r.length ≤ ls.length ∧ tL new + wS r ≤ wS ls := by
  intro f
  induction f with
  | zero =>
    intro ls hf m n acc ln r h
    have : ls = [] := List.eq_nil_of_length_eq_zero (by omega)
    subst this
    by_cases hp : 0 < m ∨ 0 < n
    · rw [lnsR_nil _ _ _ hp] at h; cases h
    · rw [lnsR_stop _ _ _ _ hp] at h
      cases h
      exact ⟨[], by rw [List.append_nil], Nat.le_refl _, Nat.le_refl _⟩
  | succ f ih =>
    intro ls hf m n acc ln r h
    by_cases hp : 0 < m ∨ 0 < n
    · match ls, hf with
      | [], _ => rw [lnsR_nil _ _ _ hp] at h; cases h
      | [] :: q, _ => rw [lnsR_empty _ _ _ _ hp] at h; cases h
      | (k :: t) :: q, hf =>
        have hq : q.length ≤ f := by simpa using hf
        by_cases hx : q.head? = some mk0
        · cases q with
          | nil => cases hx
          | cons x q =>
            rw [List.head?_cons] at hx
            injection hx with hx
            subst hx
            rw [lnsR_mark _ _ _ _ _ _ hp] at h
            obtain ⟨new, e1, e2, e3⟩ := ih q (by simp at hq; omega) _ _ _ _ _ h
            refine ⟨mkLn k t :: new, by rw [e1]; simp, by simp; omega, ?_⟩
            have : tL (mkLn k t :: new) = t.length + tL new := by rw [show mkLn k t :: new = [mkLn k t] ++ new from rfl, tL_app, tL_one, mkLn_sz]
            rw [this, wS_cons, wS_cons, List.length_cons]
            omega
        · rw [lnsR_line _ _ _ _ _ _ hp hx] at h
          obtain ⟨new, e1, e2, e3⟩ := ih q hq _ _ _ _ _ h
          refine ⟨mkLn k (t ++ [10]) :: new, by rw [e1]; simp, by simp; omega, ?_⟩
          have : tL (mkLn k (t ++ [10]) :: new) = t.length + 1 + tL new := by rw [show mkLn k (t ++ [10]) :: new = [mkLn k (t ++ [10])] ++ new from rfl, tL_app, tL_one, mkLn_sz, List.length_append, List.length_singleton]
          rw [this, wS_cons, List.length_cons]
          omega
    · rw [lnsR_stop _ _ _ _ hp] at h
      cases h
      exact ⟨[], by rw [List.append_nil], by simp, by show 0 + wS _ ≤ _; omega⟩
theorem headerF_sm {l : List UInt8} {a b : Int} {m n : Nat} (h : headerF l = some (a, m, b, n)) : (-1 ≤ a ∧ a ≤ 2147483647) ∧ (-1 ≤ b ∧ b ≤ 2147483647) := by
  unfold headerF at h
  split at h
  · cases e : rngF l 4 with
    | none => rw [e] at h; cases h
    | some q =>
      obtain ⟨a', m', e1⟩ := q
      rw [e] at h
      simp only at h
      split at h
      · cases e2 : rngF l ((e1 : Int) + 2) with
        | none => rw [e2] at h; cases h
        | some q2 =>
          obtain ⟨b', n', e3⟩ := q2
          rw [e2] at h
          simp only at h
          split at h
          · cases h
            exact ⟨rng_small (k := 4) e, rng_small (k := e1 + 2) e2⟩
          · cases h
      · cases h
  · cases h
/-- Hunks that are small together. -/
structure Szd (hs : List PH) (N T : Nat) : Prop where
  n : hs.length + nL hs ≤ N
  t : tS hs ≤ T
  p : ∀ h ∈ hs, (-1 ≤ h.old ∧ h.old ≤ 2147483647) ∧ (-1 ≤ h.new ∧ h.new ≤ 2147483647)
theorem Szd.snoc {hs : List PH} {N T : Nat} {a b : Int} {ln : List Ln} (h : Szd hs N T) (ha : -1 ≤ a ∧ a ≤ 2147483647) (hb : -1 ≤ b ∧ b ≤ 2147483647) : Szd (hs ++ [⟨a, b, ln⟩]) (N + 1 + ln.length) (T + tL ln) := ⟨by
    rw [List.length_append, nL_snoc]
    have := h.n
    simp
    omega, by rw [tS_snoc]; have := h.t; simp; omega, fun x hx => by
    rcases List.mem_append.1 hx with hx | hx
    · exact h.p x hx
    · rw [List.mem_singleton] at hx
      rw [hx]
      exact ⟨ha, hb⟩⟩
theorem Szd.mono {hs : List PH} {N T N' T' : Nat} (h : Szd hs N T) (h1 : N ≤ N') (h2 : T ≤ T') : Szd hs N' T' := ⟨Nat.le_trans h.n h1, Nat.le_trans h.t h2, h.p⟩
theorem hksR_sz : ∀ (f : Nat) (ls : List (List UInt8)) (hs gs : List PH) (N T : Nat), hksR f ls hs = some gs → Szd hs N T → Szd gs (N + ls.length) (T + wS ls)
  | 0, [], hs, gs, N, T, h, hs0 => by cases h; exact hs0
  | f + 1, [], hs, gs, N, T, h, hs0 => by cases h; exact hs0
  | 0, _ :: _, hs, gs, N, T, h, _ => by cases h
  | f + 1, l :: r, hs, gs, N, T, h, hs0 => by
    rw [hksR] at h
    cases e : headerF l with
    | none => rw [e] at h; cases h
    | some q =>
      obtain ⟨a, m, b, n⟩ := q
      rw [e] at h
      simp only at h
      obtain ⟨s1, s2⟩ := headerF_sm e
      cases e2 : lnsR r m n [] with
      | none => rw [e2] at h; cases h
      | some q2 =>
        obtain ⟨ln, r'⟩ := q2
        rw [e2] at h
        simp only at h
        obtain ⟨new, z1, z2, z3⟩ := lnsR_sz r.length r (Nat.le_refl _) _ _ _ _ _ e2
        rw [List.nil_append] at z1
        subst z1
        have := hksR_sz f r' _ gs _ _ h (hs0.snoc (ln := ln) s1 s2)
        rw [List.length_cons, wS_cons]
        exact this.mono (by omega) (by omega)
theorem szd0 : Szd [] 0 0 := ⟨Nat.le_refl _, Nat.le_refl _, fun h hh => by cases hh⟩
theorem readR_sz {ls : List (List UInt8)} {p : Pat} (h : readR ls = some p) : Szd p.hunks ls.length (wS ls) := by
  match ls, h with
  | [], h => cases h
  | [l], h => cases h
  | l0 :: l1 :: r, h =>
    rw [readR] at h
    cases e : namedF [45, 45, 45, 32] l0 with
    | none => rw [e] at h; cases h
    | some o =>
      rw [e] at h
      simp only at h
      cases e2 : namedF [43, 43, 43, 32] l1 with
      | none => rw [e2] at h; cases h
      | some n =>
        rw [e2] at h
        simp only at h
        cases e3 : hksR r.length r [] with
        | none => rw [e3] at h; cases h
        | some hs =>
          rw [e3] at h
          cases h
          have := hksR_sz _ _ _ _ 0 0 e3 szd0
          rw [wS_cons, wS_cons, List.length_cons, List.length_cons]
          exact this.mono (by omega) (by omega)
theorem szL_lnsT : ∀ (ls : List Ln), szL (lnsPt ls) ≤ tL ls + 30 * ls.length
  | [] => Nat.le_refl _
  | l :: ls => by
    have ih := szL_lnsT ls
    have e : lnsPt (l :: ls) = lnPt l ++ lnsPt ls := by unfold lnsPt; rw [List.flatMap_cons]
    have h1 := szL_ln (ln := l) (B := l.text.size) (Nat.le_refl _)
    have h2 : tL (l :: ls) = l.text.size + tL ls := by rw [show l :: ls = [l] ++ ls from rfl, tL_app, tL_one]
    rw [e, szL_app, h2, List.length_cons]
    omega
theorem szL_hksT : ∀ (hs : List PH), szL (hs.flatMap hkPt) ≤ tS hs + 96 * hs.length + 30 * nL hs
  | [] => Nat.le_refl _
  | h :: hs => by
    have ih := szL_hksT hs
    have h1 := szL_lnsT h.lines
    have h2 : tS (h :: hs) = tL h.lines + tS hs := by unfold tS; simp
    have h3 : nL (h :: hs) = h.lines.length + nL hs := by unfold nL; simp
    have h4 : (hkB h).size ≤ 96 := by
      have := hdr_len h.old h.new h.lines
      unfold hkB
      rw [mk_size]
      exact this
    rw [List.flatMap_cons, szL_app, h2, h3, List.length_cons]
    have e : szL (hkPt h) = (hkB h).size + szL (lnsPt h.lines) := by unfold hkPt; rw [szL_cons]
    omega
theorem allB_le (k : Int) : ∀ hs : List PH, (allB k hs).length ≤ nL hs
  | [] => Nat.le_refl _
  | h :: hs => by
    have ih := allB_le k hs
    have h3 : nL (h :: hs) = h.lines.length + nL hs := by unfold nL; simp
    rw [allB_cons, List.length_append, h3]
    have : (notB k h.lines).length ≤ h.lines.length := by
      unfold notB notK
      rw [List.length_map, List.length_map]
      exact List.length_filter_le _ _
    omega
theorem wr_hksT : ∀ hs : List PH, (hs.flatMap wrHk).length ≤ hs.length + 2 * nL hs
  | [] => Nat.le_refl _
  | h :: hs => by
    have ih := wr_hksT hs
    have h3 : nL (h :: hs) = h.lines.length + nL hs := by unfold nL; simp
    have h4 := wr_lns h.lines
    have ew : (wrHk h).length = (h.lines.flatMap wrLn).length + 1 := by unfold wrHk; rw [List.length_cons]
    rw [List.flatMap_cons, List.length_append, h3, List.length_cons, ew]
    omega
theorem le_sum : ∀ {l : List Nat} {x : Nat}, x ∈ l → x ≤ l.sum
  | a :: l, x, h => by
    rw [List.sum_cons]
    rcases List.mem_cons.1 h with rfl | h
    · omega
    · have := le_sum h
      omega
theorem le_nL {hs : List PH} {h : PH} (hh : h ∈ hs) : h.lines.length ≤ nL hs := le_sum (List.mem_map_of_mem (f := fun h : PH => h.lines.length) hh)
theorem le_tS {hs : List PH} {h : PH} (hh : h ∈ hs) {l : Ln} (hl : l ∈ h.lines) : l.text.size ≤ tS hs := by
  have h1 : l.text.size ≤ tL h.lines := le_sum (List.mem_map_of_mem (f := fun l : Ln => l.text.size) hl)
  have h2 : tL h.lines ≤ tS hs := le_sum (List.mem_map_of_mem (f := fun h : PH => tL h.lines) hh)
  omega
theorem Szd.sh {p : Pat} {N T : Nat} (h : Szd p.hunks N T) (hN : N ≤ 17000) (hT : T ≤ 600000) : ShOk p := by
  have h1 := h.n
  have h2 := h.t
  refine ⟨⟨⟨by omega, fun x hx => ?_⟩, Nat.le_trans (allB_le 43 _) (by omega), Nat.le_trans (allB_le 45 _) (by omega)⟩, fun n1 n2 _ => ⟨?_, ?_⟩⟩
  · obtain ⟨a, b⟩ := h.p x hx
    exact ⟨Nat.le_trans (le_nL hx) (by omega), ⟨by omega, by omega⟩, ⟨by omega, by omega⟩, fun l hl => Nat.le_trans (le_tS hx hl) (by omega)⟩
  · unfold partsF
    rw [szL_cons]
    have n1 := name_sz n1
    have n2 := name_sz n2
    have q1 := qB_size p.on
    have q2 := qB_size p.nn
    have e : (hdPt p.on p.nn).size = 4 + (qB p.on).size + 5 + (qB p.nn).size + 1 := by
      unfold hdPt
      simp only [ByteArray.size_append]
      rfl
    rw [e]
    have := szL_hksT p.hunks
    omega
  · unfold wrAll wrHd
    have := wr_hksT p.hunks
    simp only [List.length_append, List.length_cons, List.length_nil]
    omega
end St
end
section
namespace Cm
end Cm
namespace Hn
end Hn
namespace Sc
end Sc
namespace Tx
end Tx
namespace Uf
end Uf
open Go.RowKit
namespace St
open Uf Cm Sc Hn
open Tx (RdS mks)
theorem chkR_c {l : List UInt8} {k first c e : Nat} {r : Int × Nat × Nat} (h : chkR l k first c e = some r) : r.2.1 = c := by
  unfold chkR at h
  generalize (if 0 < c then (first : Int) - 1 else (first : Int)) = a at h
  by_cases hc : Sc.fmtR a c = (l.drop k).take (e - k)
  · rw [if_pos hc] at h
    injection h with h
    rw [← h]
  · rw [if_neg hc] at h
    cases h
theorem rng_cnt {l : List UInt8} {k : Nat} {r : Int × Nat × Nat} (hk : k ≤ l.length) (h : rngF l k = some r) : r.2.1 ≤ 2147483647 := by
  unfold rngF at h
  rw [if_neg (by omega)] at h
  unfold rngAt at h
  cases e1 : numAt l k with
  | none => rw [show ((k : Int).toNat) = k from rfl, e1] at h; cases h
  | some q =>
    obtain ⟨first, e⟩ := q
    rw [show ((k : Int).toNat) = k from rfl, e1] at h
    simp only at h
    have b1 := numAt_le l k hk first e e1
    split at h
    · cases e2 : numAt l (e + 1) with
      | none => rw [e2] at h; cases h
      | some q2 =>
        obtain ⟨c, e3⟩ := q2
        rw [e2] at h
        simp only at h
        have b2 : e + 1 ≤ l.length := by
          rename_i h44
          have := (List.getElem?_eq_some_iff.1 h44).1
          omega
        have b3 := (numAt_le l (e + 1) b2 c e3 e2).1
        rw [chkR_c h]
        exact b3
    · rw [chkR_c h]
      decide
theorem hdr_cnt {l : List UInt8} {a b : Int} {m n : Nat} (h : headerF l = some (a, m, b, n)) : m ≤ 2147483647 ∧ n ≤ 2147483647 := by
  unfold headerF at h
  split at h
  · rename_i h0
    have h4 : 4 ≤ l.length := starts_len h0
    cases e : rngF l 4 with
    | none => rw [e] at h; cases h
    | some q =>
      obtain ⟨a', m', e1⟩ := q
      have hle : e1 ≤ l.length := rng_le (k := 4) h4 e
      rw [e] at h
      simp only at h
      split at h
      · rename_i h2
        have h5 := starts_len h2
        rw [List.length_drop] at h5
        have h6 : e1 + 2 ≤ l.length := by
          have : ([32, 43] : List UInt8).length = 2 := rfl
          omega
        cases e2 : rngF l ((e1 : Int) + 2) with
        | none => rw [e2] at h; cases h
        | some q2 =>
          obtain ⟨b', n', e3⟩ := q2
          rw [e2] at h
          simp only at h
          split at h
          · cases h
            exact ⟨rng_cnt (k := 4) h4 e, rng_cnt (k := e1 + 2) h6 e2⟩
          · cases h
      · cases h
  · cases h
def nm1 : ByteArray := ⟨#[45, 45, 45, 32]⟩
def nm2 : ByteArray := ⟨#[43, 43, 43, 32]⟩
theorem readR_c (a b : List UInt8) (r : List (List UInt8)) : readR (a :: b :: r) = (namedF (bs nm1) a).bind fun o => (namedF (bs nm2) b).bind fun n => (hksR r.length r []).map fun hs => ⟨⟨o.toArray⟩, ⟨n.toArray⟩, hs⟩ := by
  rw [show bs nm1 = [45, 45, 45, 32] from rfl, show bs nm2 = [43, 43, 43, 32] from rfl]
  unfold readR
  cases h1 : namedF [45, 45, 45, 32] a with
  | none => simp [h1]
  | some o =>
    cases h2 : namedF [43, 43, 43, 32] b with
    | none => simp [h1, h2]
    | some n => simp [h1, h2]
theorem readR_no1 {ls : List (List UInt8)} (h : nmF (bs nm1) ls 0 = none) : readR ls = none := by
  cases ls with
  | nil => rfl
  | cons a r =>
    cases r with
    | nil => rfl
    | cons b r =>
      unfold nmF at h
      simp only [List.getElem?_cons_zero] at h
      rw [readR_c, h]
      rfl
theorem readR_no2 {ls : List (List UInt8)} (h : nmF (bs nm2) ls 1 = none) : readR ls = none := by
  cases ls with
  | nil => rfl
  | cons a r =>
    cases r with
    | nil => rfl
    | cons b r =>
      unfold nmF at h
      simp only [List.getElem?_cons_succ, List.getElem?_cons_zero] at h
      rw [readR_c, h]
      cases namedF (bs nm1) a <;> rfl
theorem readR_two {ls : List (List UInt8)} {o n : List UInt8} (h1 : nmF (bs nm1) ls 0 = some o) (h2 : nmF (bs nm2) ls 1 = some n) :
    2 ≤ ls.length ∧ readR ls = (hksR (ls.length - 2) (ls.drop 2) []).map fun hs => ⟨⟨o.toArray⟩, ⟨n.toArray⟩, hs⟩ := by
  cases ls with
  | nil => unfold nmF at h1; cases h1
  | cons a r =>
    cases r with
    | nil => unfold nmF at h2; cases h2
    | cons b r =>
      unfold nmF at h1 h2
      simp only [List.getElem?_cons_succ, List.getElem?_cons_zero] at h1 h2
      refine ⟨by simp, ?_⟩
      rw [readR_c, h1, h2]
      rfl
/-- What read answers. -/
def RrPost (r : Option Pat) (w : World) (e : Ending) (w' : World) : Prop :=
  ∃ (s1 s2 : ByteArray) (A : Option Addr) (n c : Nat) (b : Bool), e = .returned (.tuple #[.agg #[.string s1, .string s2, .slice A n c], .bool b]) ∧ b = r.isSome ∧ (∀ p, r = some p → s1 = p.on ∧ s2 = p.nn ∧ OwnP w.heap.size w' (.slice A n c) p.hunks) ∧ Below w.heap.size w w'
theorem RrPost.no {r : Option Pat} (h : r = none) {s1 s2 : ByteArray} {A : Option Addr} {n c : Nat} {w w' : World} (hb : Below w.heap.size w w') : RrPost r w (.returned (.tuple #[.agg #[.string s1, .string s2, .slice A n c], .bool false])) w' :=
  ⟨s1, s2, A, n, c, false, rfl, by rw [h]; rfl, (fun p hp => by rw [h] at hp; cases hp), hb⟩
theorem RrPost.yes {r : Option Pat} {on nn : ByteArray} {hs : List PH} (h : r = some ⟨on, nn, hs⟩) {A : Option Addr} {n c : Nat} {w w' : World} (hr : OwnP w.heap.size w' (.slice A n c) hs) (hb : Below w.heap.size w w') : RrPost r w (.returned (.tuple #[.agg #[.string on, .string nn, .slice A n c], .bool true])) w' :=
  ⟨_, _, A, n, c, true, rfl, by rw [h]; rfl, (fun p hp => by rw [h] at hp; cases hp; exact ⟨rfl, rfl, hr⟩), hb⟩
theorem mkI_below {V wr w' : World} {on nn : ByteArray} {v : Value} {hs : List PH} (h : MkI V on nn wr v hs) (hb : Below wr.heap.size wr w') : MkI V on nn w' v hs :=
  ⟨h.bel.trans (hb.mono h.bel.size), h.blk.below hb, h.own.below hb⟩
/-- Storing an aggregate of three cells into a result's block. -/
theorem put3 {w W : World} {R : Nat} (h : Below R w W) (u v x : Value) : Below R w (((W.setCell ⟨R, 0, none⟩ u).setCell ⟨R, 1, none⟩ v).setCell ⟨R, 2, none⟩ x) :=
  ((h.setCell (p := ⟨R, 0, none⟩) (Nat.le_refl _) _).setCell (p := ⟨R, 1, none⟩) (Nat.le_refl _) _).setCell (p := ⟨R, 2, none⟩) (Nat.le_refl _) _
set_option maxRecDepth 100000 in
set_option maxHeartbeats 8000000 in
theorem read_no (A : Option Addr) (c N : Nat) (ls : List (List UInt8)) (w : World) (hr : RdS w (.slice A N c) (mks ls)) (hN : ls.length = N) (hz : ∀ l ∈ ls, l.length ≤ 1000000) (hNb : N ≤ 500000) (h : nmF (bs nm1) ls 0 = none ∨ nmF (bs nm2) ls 1 = none) :
    Calls Tryz.prog 58 #[.slice A N c] w (RrPost (readR ls) w) := by
  have hno : readR ls = none := h.elim readR_no1 readR_no2
  have hand : ((nmF (bs nm1) ls 0).isSome && (nmF (bs nm2) ls 1).isSome) = false := by
    rcases h with h | h
    · rw [h]; rfl
    · rw [h]; exact Bool.and_false _
  have HE := Lib.hid (fun s1 s2 A n c w' (hb : Below w.heap.size w w') => RrPost.no hno (s1 := s1) (s2 := s2) (A := A) (n := n) (c := c) hb)
  have HN1 := Lib.hid (fun w hr => named_any A c N 0 ls nm1 w hr hN rfl hz (by omega) (by omega))
  have HN2 := Lib.hid (fun w hr => named_any A c N 1 ls nm2 w hr hN rfl hz (by omega) (by omega))
  unfold NmPost nm1 at HN1
  unfold NmPost nm2 at HN2
  have HA := Lib.hid hand
  unfold nm1 nm2 at HA
  have HR := Lib.hid hr
  have HB0 := Lib.hid ((Below.refl w.heap.size w).alloc (Nat.le_refl _) (.cells #[.string ⟨#[]⟩, .string ⟨#[]⟩, .slice none 0 0] tPat))
  have HZ0 : Hid (Blk (w.alloc (.cells #[.string ⟨#[]⟩, .string ⟨#[]⟩, .slice none 0 0] tPat)) w.heap.size tPat [.string ⟨#[]⟩, .string ⟨#[]⟩, .slice none 0 0]) := Lib.hid (heap_new w _)
  clear hno hand h hr hN hz
  go_enter Tryz.func58, Tryz.ntmps58
  go_wp2_with fail
  refine (HN1.out _ (HR.out.below ((Below.refl _ _).alloc (Nat.le_refl _) _))).mono ?_
  rintro e w1 ⟨s1, b1, rfl, hb1, -, hb⟩
  have HB1 := Lib.hid (HB0.out.trans (hb.mono HB0.out.size))
  have HZ1 := Lib.hid (HZ0.out.below hb)
  have HR1 := Lib.hid (HR.out.below HB1.out)
  have HC1 := Lib.hid hb1
  clear hb hb1 HB0 HZ0 HN1 HR
  go_wp2_with fail
  refine (HN2.out _ HR1.out).mono ?_
  rintro e w2 ⟨s2, b2, rfl, hb2, -, hb⟩
  have HB2 := Lib.hid (HB1.out.trans (hb.mono HB1.out.size))
  have HZ2 := Lib.hid (HZ1.out.below hb)
  have hbb : (b1 && b2) = false := by rw [HC1.out, hb2]; exact HA.out
  clear hb hb2 HB1 HZ1 HN2 HR1 HC1 HA
  have HB3 := Lib.hid (HB2.out.alloc HB2.out.size (.cells #[.string s1, .string s2, .slice none 0 0] tPat))
  obtain ⟨z0, z1, z2, fz, hlt⟩ := blk3 (HZ2.out.alloc (.cells #[.string s1, .string s2, .slice none 0 0] tPat))
  obtain ⟨p0, p1, p2, fp, hltp⟩ := blk3 (show Blk (w2.alloc (.cells #[.string s1, .string s2, .slice none 0 0] tPat)) w2.heap.size tPat [.string s1, .string s2, .slice none 0 0] from heap_new w2 _)
  have HB4 := Lib.hid (put3 HB3.out (.string s1) (.string s2) (.slice none 0 0))
  cases b1 with
  | false =>
    clear hbb
    go_wp2_with fail
    exact bodyPost_ret (v := .tuple #[.agg #[.string s1, .string s2, .slice none 0 0], .bool false]) (by simp [results, Tryz.f58, go_sem, z0, z1, z2]) rfl (HE.out _ _ _ _ _ _ HB4.out)
  | true =>
    obtain rfl : b2 = false := by simpa using hbb
    clear hbb
    go_wp2_with fail
    exact bodyPost_ret (v := .tuple #[.agg #[.string s1, .string s2, .slice none 0 0], .bool false]) (by simp [results, Tryz.f58, go_sem, z0, z1, z2]) rfl (HE.out _ _ _ _ _ _ HB4.out)
end St
end
section
namespace Cm
end Cm
namespace Hn
end Hn
namespace Sc
end Sc
namespace Tx
end Tx
namespace Uf
end Uf
open Go.RowKit
namespace St
open Uf Cm Sc Hn
open Tx (RdS mks)
theorem dec_le {k : UInt8} {c : Int} {x : UInt8} : c - 1 ≤ decK k c x ∧ decK k c x ≤ c := by
  unfold decK
  split <;> omega
theorem blk2 {W : World} {G : Nat} {t : TypeId} {a b : Value} (h : Blk W G t [a, b]) : W.cell? ⟨G, 0, none⟩ = some a ∧ W.cell? ⟨G, 1, none⟩ = some b ∧ (∀ k, W.frozen? ⟨G, k, none⟩ = false) ∧ G < W.heap.size :=
  ⟨h.cell (k := 0) (show 0 < 2 by decide), h.cell (k := 1) (show 1 < 2 by decide), h.free, h.lt⟩
theorem n_of {b : UInt8} {n : UInt8} (h : b ≠ n) : ((b.toNat : Int) != (n.toNat : Int)) = true := by
  simp only [bne_iff_ne, ne_eq]
  intro e
  exact h (UInt8.toNat_inj.1 (by omega))
set_option maxRecDepth 100000 in
set_option maxHeartbeats 16000000 in
theorem read_yes (A : Option Addr) (c N : Nat) (ls : List (List UInt8)) (w : World) (hr : RdS w (.slice A N c) (mks ls)) (hN : ls.length = N) (hz : ∀ l ∈ ls, l.length ≤ 1000000) (hNb : N ≤ 500000) (o n : List UInt8) (h1 : nmF (bs nm1) ls 0 = some o) (h2 : nmF (bs nm2) ls 1 = some n) :
    Calls Tryz.prog 58 #[.slice A N c] w (RrPost (readR ls) w) := by
  obtain ⟨hN2, hrd⟩ := readR_two h1 h2
  have HN1 : Hid (∀ w', RdS w' (.slice A N c) (mks ls) → Calls Tryz.prog 96 #[.slice A N c, .int .i64 ((0 : Nat) : Int), .string ⟨#[45, 45, 45, 32]⟩] w' fun e w'' => e = .returned (.tuple #[.string ⟨o.toArray⟩, .bool true]) ∧ Below w'.heap.size w' w'') := Lib.hid (fun w' hr => (named_any A c N 0 ls nm1 w' hr hN rfl hz (by omega) (by omega)).mono fun e w'' ⟨s, b, q1, q2, q3, q4⟩ => by
    rw [h1] at q2 q3
    rw [q3 _ rfl, q2] at q1
    exact ⟨q1, q4⟩)
  have HN2 : Hid (∀ w', RdS w' (.slice A N c) (mks ls) → Calls Tryz.prog 96 #[.slice A N c, .int .i64 ((1 : Nat) : Int), .string ⟨#[43, 43, 43, 32]⟩] w' fun e w'' => e = .returned (.tuple #[.string ⟨n.toArray⟩, .bool true]) ∧ Below w'.heap.size w' w'') := Lib.hid (fun w' hr => (named_any A c N 1 ls nm2 w' hr hN rfl hz (by omega) (by omega)).mono fun e w'' ⟨s, b, q1, q2, q3, q4⟩ => by
    rw [h2] at q2 q3
    rw [q3 _ rfl, q2] at q1
    exact ⟨q1, q4⟩)
  have HR := Lib.hid hr
  have HRf := hr
  obtain ⟨A', c', e, hcap, hcell⟩ := HRf
  injection e with e1 e2 e3
  subst e1
  subst e3
  clear e2
  obtain ⟨b, off, e4, hc⟩ := hcell (by rw [Tx.mks_len]; omega)
  subst e4
  have HCx : Hid (∀ V : World, Below w.heap.size w V → ∀ j (h : j < ls.length), V.cell? ⟨b, off + j, none⟩ = some (.string ⟨ls[j].toArray⟩)) := Lib.hid (fun V hV j h => by
    have hck := hc j (by rw [Tx.mks_len]; exact h)
    have hel : (mks ls)[j]'(by rw [Tx.mks_len]; exact h) = ⟨ls[j].toArray⟩ := mks_get ls j _ h
    rw [hel] at hck
    exact (hV.cell (Tx.cell_lt hck)).trans hck)
  have HE : Hid (hksR (N - 2) (ls.drop 2) [] = none → ∀ s1 s2 A n c w', Below w.heap.size w w' → RrPost (readR ls) w (.returned (.tuple #[.agg #[.string s1, .string s2, .slice A n c], .bool false])) w') := Lib.hid (fun h s1 s2 A n c w' hb => RrPost.no (by rw [hrd, hN, h]; rfl) hb)
  have HY : Hid (∀ hs, hksR (N - 2) (ls.drop 2) [] = some hs → ∀ A n' c w', OwnP w.heap.size w' (.slice A n' c) hs → Below w.heap.size w w' → RrPost (readR ls) w (.returned (.tuple #[.agg #[.string ⟨o.toArray⟩, .string ⟨n.toArray⟩, .slice A n' c], .bool true])) w') := Lib.hid (fun hs h A n' c w' hr hb => RrPost.yes (by rw [hrd, hN, h]; rfl) hr hb)
  have HZ := Lib.hid hz
  have hN2' : 2 ≤ N := by omega
  have HNl := Lib.hid hN
  clear hN2 hrd h1 h2 hr hcap hcell hc hz hN
  generalize hRi : hksR (N - 2) (ls.drop 2) [] = R at HE HY
  have HRi := Lib.hid hRi
  clear hRi
  generalize readR ls = RR at *
  generalize (⟨o.toArray⟩ : ByteArray) = on at *
  generalize (⟨n.toArray⟩ : ByteArray) = nn at *
  have HB0 := Lib.hid ((Below.refl w.heap.size w).alloc (Nat.le_refl _) (.cells #[.string ⟨#[]⟩, .string ⟨#[]⟩, .slice none 0 0] tPat))
  have HZ0 : Hid (Blk (w.alloc (.cells #[.string ⟨#[]⟩, .string ⟨#[]⟩, .slice none 0 0] tPat)) w.heap.size tPat [.string ⟨#[]⟩, .string ⟨#[]⟩, .slice none 0 0]) := Lib.hid (heap_new w _)
  go_enter Tryz.func58, Tryz.ntmps58
  go_wp2_with fail
  refine (HN1.out _ (HR.out.below ((Below.refl _ _).alloc (Nat.le_refl _) _))).mono ?_
  rintro e w1 ⟨rfl, hb⟩
  have HB1 := Lib.hid (HB0.out.trans (hb.mono HB0.out.size))
  have HZ1 := Lib.hid (HZ0.out.below hb)
  have HR1 := Lib.hid (HR.out.below HB1.out)
  clear hb HB0 HZ0 HN1 HR
  go_wp2_with fail
  refine (HN2.out _ HR1.out).mono ?_
  rintro e w2 ⟨rfl, hb⟩
  have HB2 := Lib.hid (HB1.out.trans (hb.mono HB1.out.size))
  have HZ2 := Lib.hid (HZ1.out.below hb)
  clear hb HB1 HZ1 HN2 HR1
  have HI0 : Hid (MkI w2 on nn (w2.alloc (.cells #[.string on, .string nn, .slice none 0 0] tPat)) (.slice none 0 0) []) := Lib.hid ⟨(Below.refl _ _).alloc (Nat.le_refl _) _, heap_new w2 _, OwnP.nil _ _⟩
  have HCw := Lib.hid (fun V (hV : Below w2.heap.size w2 V) => HCx.out V (HB2.out.trans (hV.mono HB2.out.size)))
  -- what a return leaves: the result's block is written
  have HEn : Hid (R = none → ∀ wr s1 s2 A n c, Below w2.heap.size w2 wr → (∀ y0 y1 y2 : Value, True) → RrPost RR w (.returned (.tuple #[.agg #[.string s1, .string s2, .slice A n c], .bool false])) (((wr.setCell ⟨w.heap.size, 0, none⟩ (.string s1)).setCell ⟨w.heap.size, 1, none⟩ (.string s2)).setCell ⟨w.heap.size, 2, none⟩ (.slice A n c))) := Lib.hid (fun h wr s1 s2 A n c hb _ => HE.out h _ _ _ _ _ _ (put3 (HB2.out.trans (hb.mono HB2.out.size)) _ _ _))
  clear HE HCx
  go_wp2_with fail
  go_loopw [9] (fun i wr => ∃ (j f : Nat) (v : Value) (hs : List PH), j ≤ N ∧ N ≤ j + f ∧ hs.length ≤ j ∧ i = .int .i64 j ∧ Hid (hksR f (ls.drop j) hs = R) ∧ Hid (MkI w2 on nn wr v hs)) (fun i _ => N - (intOf i).toNat)
  case atStart => exact ⟨2, N - 2, _, [], hN2', by omega, Nat.zero_le _, rfl, HRi, HI0⟩
  case round =>
    obtain ⟨j, f, v, hs, hj, hjf, hsl, rfl, HK, HI⟩ := hrel
    clear HI0 HRi
    by_cases hlt : j < N
    · have hx : j < ls.length := by rw [HNl.out]; exact hlt
      have hck := HCw.out wr HI.out.bel j hx
      obtain ⟨f', rfl⟩ : ∃ f', f = f' + 1 := ⟨f - 1, by omega⟩
      have HK2 : Hid ((match headerF ls[j] with | none => none | some (a, m, b, n) => match lnsR (ls.drop (j + 1)) m n [] with | none => none | some (ln, r') => hksR f' r' (hs ++ [⟨a, b, ln⟩])) = R) := Lib.hid (by
        have := HK.out
        rw [List.drop_eq_getElem_cons hx] at this
        exact this)
      have hlz := HZ.out ls[j] (List.getElem_mem hx)
      have HH := Lib.hid (fun w => header_13 ⟨ls[j].toArray⟩ w (by rw [Tx.size_mk]; exact hlz))
      have hbl : bs (⟨ls[j].toArray⟩ : ByteArray) = ls[j] := Tx.bs_mk _
      rw [hbl] at HH
      unfold HdPost at HH
      clear hbl HK hlz
      generalize ls[j] = l at *
      obtain ⟨Av, cv, rfl⟩ := HI.out.own.form
      cases hd : headerF l with
      | none =>
        have hRn : R = none := by have := HK2.out; rw [hd] at this; exact this.symm
        have HE2 := Lib.hid (HEn.out hRn)
        rw [hd] at HH
        clear hd hRn HK2 HEn HY
        go_wp2_with fail
        refine (HH.out _).mono ?_
        rintro e w3 ⟨a, m, bb, n, ok, rfl, hok, -, hb3⟩
        obtain rfl : ok = false := hok
        have HI3 := Lib.hid (mkI_below HI.out hb3)
        obtain ⟨p0, p1, p2, fp, hltp⟩ := blk3 HI3.out.blk
        obtain ⟨z0, z1, z2, fz, hltz⟩ := blk3 (HZ2.out.below HI3.out.bel)
        have HF := Lib.hid (HE2.out w3 on nn Av hs.length cv HI3.out.bel (fun _ _ _ => trivial))
        clear hb3 HI HI3
        go_wp2_with fail
        exact bodyPost_ret (v := .tuple #[.agg #[.string on, .string nn, .slice Av hs.length cv], .bool false]) (by simp [results, Tryz.f58, go_sem, z0, z1, z2]) rfl HF.out
      | some q =>
        obtain ⟨a, m, bb, nq⟩ := q
        obtain ⟨hm2, hn2⟩ := hdr_cnt hd
        have HK3 : Hid ((match lnsR (ls.drop (j + 1)) m nq [] with | none => none | some (ln, r') => hksR f' r' (hs ++ [⟨a, bb, ln⟩])) = R) := Lib.hid (by
          have := HK2.out
          rw [hd] at this
          exact this)
        rw [hd] at HH
        have HH2 : Hid (∀ w, Calls Tryz.prog 97 #[.string ⟨l.toArray⟩] w fun e w' => e = .returned (.tuple #[.int .i64 a, .int .i64 (m : Int), .int .i64 bb, .int .i64 (nq : Int), .bool true]) ∧ Below w.heap.size w w') := Lib.hid (fun w => (HH.out w).mono fun e w' ⟨a', m', b', n', ok, q1, q2, q3, q4⟩ => by
          obtain ⟨rfl, rfl, rfl, rfl⟩ := q3 _ _ _ _ rfl
          obtain rfl : ok = true := q2
          exact ⟨q1, q4⟩)
        clear hd HK2 HH
        go_wp2_with fail
        refine (HH2.out _).mono ?_
        rintro e w3 ⟨rfl, hb3⟩
        have HI3 := Lib.hid (mkI_below HI.out hb3)
        clear hb3 HI HH2 hck
        have HK0 : Hid (HkI w3 a bb (w3.alloc (.cells #[.int .i64 a, .int .i64 bb, .slice none 0 0] tPh)) (.slice none 0 0) []) := Lib.hid ⟨(Below.refl w3.heap.size w3).alloc (Nat.le_refl _) _, heap_new w3 _, OwnL.nil _ _⟩
        have HC3 := Lib.hid (fun V (hV : Below w3.heap.size w3 V) => HCw.out V (HI3.out.bel.trans (hV.mono HI3.out.bel.size)))
        generalize hQ : lnsR (ls.drop (j + 1)) (m : Int) (nq : Int) [] = Q at HK3
        have HQ1 := Lib.hid hQ
        clear hQ
        go_wp2_with fail
        go_loopw [9, 11, 13] (fun i mv nv wr => ∃ (k : Nat) (mm nx : Int) (v1 : Value) (acc : List Ln), j + 1 ≤ k ∧ k ≤ N ∧ acc.length ≤ k ∧ -(k : Int) ≤ mm ∧ mm ≤ 2147483647 ∧ -(k : Int) ≤ nx ∧ nx ≤ 2147483647 ∧ i = .int .i64 k ∧ mv = .int .i64 mm ∧ nv = .int .i64 nx ∧ Hid (lnsR (ls.drop k) mm nx acc = Q) ∧ Hid (HkI w3 a bb wr v1 acc)) (fun i _ _ _ => N - (intOf i).toNat)
        case atStart => exact ⟨j + 1, m, nq, _, [], Nat.le_refl _, by omega, Nat.zero_le _, by omega, by omega, by omega, by omega, by go_num, rfl, rfl, HQ1, HK0⟩
        case round =>
          obtain ⟨k, mm, nx, v1, acc, hk1, hk2, hal, hm3, hm4, hn3, hn4, rfl, rfl, rfl, HQ, HK⟩ := hrel
          clear HK0 HQ1
          obtain ⟨A1, c1, rfl⟩ := HK.out.own.form
          have HIr := Lib.hid (mkI_below HI3.out HK.out.bel)
          have HBw := Lib.hid (HIr.out.bel)
          go_upto_region 13 with fail
          go_cut [65] from 60 to 65 (fun g wx => g = .bool (decide (0 < mm ∨ 0 < nx)) ∧ wr = wx)
          case first =>
            clear HEn HY HK3 HQ HK HIr HBw HI3 HC3
            by_cases g1 : 0 < mm
            · have HD : Hid (decide (0 < mm ∨ 0 < nx) = true) := Lib.hid (decide_eq_true (.inl g1))
              go_wp2_with fail
              go_meet
              case rel => exact ⟨by rw [HD.out], rfl⟩
            · by_cases g2 : 0 < nx
              · have HD : Hid (decide (0 < mm ∨ 0 < nx) = true) := Lib.hid (decide_eq_true (.inr g2))
                go_wp2_with fail
                go_meet
                case rel => exact ⟨by rw [HD.out], rfl⟩
              · have HD : Hid (decide (0 < mm ∨ 0 < nx) = false) := Lib.hid (decide_eq_false (by omega))
                go_wp2_with fail
                go_meet
                case rel => exact ⟨by rw [HD.out], rfl⟩
          case rest =>
            obtain ⟨rfl, rfl⟩ := hcut
            by_cases hg : 0 < mm ∨ 0 < nx
            · rw [decide_eq_true hg]
              have HRn : Hid (Q = none → R = none) := Lib.hid (fun h => by have := HK3.out; rw [h] at this; exact this.symm)
              by_cases hkN : k < N
              · have hx2 : k < ls.length := by rw [HNl.out]; exact hkN
                have hck := HC3.out wr HK.out.bel k hx2
                have hlz := HZ.out ls[k] (List.getElem_mem hx2)
                have hdr : ls.drop k = ls[k] :: ls.drop (k + 1) := List.drop_eq_getElem_cons hx2
                rw [hdr] at HQ
                clear hdr
                generalize ls[k] = l2 at *
                cases l2 with
                | nil =>
                  have hQn : Q = none := by rw [← HQ.out]; exact lnsR_empty _ _ _ _ hg
                  have hnil : (⟨([] : List UInt8).toArray⟩ : ByteArray).toList.isEmpty = true := by rw [Sc.toList_bs]; rfl
                  have hQn2 := Lib.hid (HRn.out hQn)
                  clear hQn
                  have HE2 := Lib.hid (HEn.out hQn2.out)
                  obtain ⟨p0, p1, p2, fp, hltp⟩ := blk3 HIr.out.blk
                  obtain ⟨z0, z1, z2, fz, hltz⟩ := blk3 (HZ2.out.below HBw.out)
                  have HF := Lib.hid (HE2.out wr on nn Av hs.length cv HBw.out (fun _ _ _ => trivial))
                  clear HE2 HEn HY HK3 HQ HK HIr HI3 HC3 HBw
                  go_wp2_with fail
                  exact bodyPost_ret (v := .tuple #[.agg #[.string on, .string nn, .slice Av hs.length cv], .bool false]) (by simp [results, Tryz.f58, go_sem, z0, z1, z2]) rfl HF.out
                | cons kk t =>
                  have hmk0 := lnsR_mark kk t
                  have hln0 := lnsR_line kk t
                  generalize hS : (⟨(kk :: t).toArray⟩ : ByteArray) = S at *
                  have hbS : bs S = kk :: t := by rw [← hS]
                  have hSz : S.size ≤ 1000000 := by rw [← hS, mk_size]; exact hlz
                  have hne : S.toList.isEmpty = false := by rw [Sc.toList_bs]; show (bs S).isEmpty = false; rw [hbS]; rfl
                  have h1 := size_of hbS
                  have h1' : 0 < S.size := h1
                  have hg0 := get_of hbS
                  have HT : Hid (S.extract 1 S.size ++ ⟨#[10]⟩ = ⟨(t ++ [10]).toArray⟩ ∧ t.length + 1 = S.size) := Lib.hid ⟨lf_add S kk t hbS, by rw [← Tx.bs_len S, show Tx.bs S = kk :: t from hbS]; simp⟩
                  have HQl : Hid ((ls.drop (k + 1)).head? ≠ some mk0 → lnsR (ls.drop (k + 1)) (decK kk mm 43) (decK kk nx 45) (acc ++ [mkLn kk (t ++ [10])]) = Q) := Lib.hid (fun h => by
                    rw [← hln0 (ls.drop (k + 1)) mm nx acc hg h]
                    exact HQ.out)
                  have HQm : Hid (∀ h2 : k + 1 < ls.length, ls[k + 1] = mk0 → lnsR (ls.drop (k + 2)) (decK kk mm 43) (decK kk nx 45) (acc ++ [mkLn kk t]) = Q) := Lib.hid (fun h2 h => by
                    rw [← hmk0 (ls.drop (k + 2)) mm nx acc hg]
                    have := HQ.out
                    rw [List.drop_eq_getElem_cons h2, h] at this
                    exact this)
                  clear hmk0 hln0 hS hlz
                  have i1 : (0 : Int) ≤ (k : Int) := by omega
                  have i2 : (k : Int) < (N : Int) := by omega
                  have q1 : ¬ (9223372036854775807 < S.size - 1 + 1) := by omega
                  have q2 : S.size - 1 + 1 ≤ 9223372036854775807 := by omega
                  have i3 : (1 : Int) ≤ (S.size : Int) := by omega
                  have dk : decide (N ≤ k) = false := decide_eq_false (by omega)
                  go_upto_region 16 with fail
                  have hck2 : (wr.alloc (.cells #[.int .u8 0, .string ⟨#[]⟩] tLn)).cell? ⟨b, off + k, none⟩ = some (.string S) := (((Below.refl wr.heap.size wr).alloc (Nat.le_refl _) _).cell (Tx.cell_lt hck)).trans hck
                  go_region
                  clear hck2
                  have HW0 : Hid (Blk (wr.alloc (.cells #[.int .u8 (kk.toNat : Int), .string (S.extract 1 S.size ++ ⟨#[10]⟩)] tLn)).drew wr.heap.size tLn [.int .u8 (kk.toNat : Int), .string (S.extract 1 S.size ++ ⟨#[10]⟩)] ∧ Below wr.heap.size wr (wr.alloc (.cells #[.int .u8 (kk.toNat : Int), .string (S.extract 1 S.size ++ ⟨#[10]⟩)] tLn)).drew) := Lib.hid ⟨heap_new wr _, ((Below.refl wr.heap.size wr).alloc (Nat.le_refl _) _).drew⟩
                  have HKb := Lib.hid HK.out.bel
                  go_upto_region 17 with fail
                  obtain ⟨W, hW⟩ : ∃ W, W = (wr.alloc (.cells #[.int .u8 (kk.toNat : Int), .string (S.extract 1 S.size ++ ⟨#[10]⟩)] tLn)).drew := ⟨_, rfl⟩
                  rw [← hW] at HW0 ⊢
                  clear hW
                  have HTs : Hid ((S.extract 1 S.size ++ ⟨#[10]⟩ : ByteArray).size = S.size) := Lib.hid (by rw [HT.out.1, Tx.size_mk, List.length_append]; have := HT.out.2; simp; omega)
                  have HTe : Hid ((S.extract 1 S.size ++ ⟨#[10]⟩ : ByteArray).extract 0 (S.size - 1) = ⟨t.toArray⟩) := Lib.hid (by
                    rw [HT.out.1, ← Tx.mk_bs (ByteArray.extract _ _ _), Tx.bs_extract, Tx.bs_mk, List.drop_zero, Nat.sub_zero, show S.size - 1 = t.length by have := HT.out.2; omega, List.take_left])
                  have HTx := Lib.hid HT.out.1
                  rw [← HTx.out] at HT
                  generalize (S.extract 1 S.size ++ ⟨#[10]⟩ : ByteArray) = tx at *
                  obtain ⟨x0, x1, xf, xlt⟩ := blk2 HW0.out.1
                  go_upto_if 92 with fail
                  go_cut [11] from 93 to 94 (fun a' wx => a' = .int .i64 (decK kk mm 43) ∧ W = wx)
                  case first =>
                    clear HEn HY HK3 HQ HK HIr HBw HI3 HC3 HQl HQm HT HTs HTe HTx hck
                    by_cases c1 : kk = 43
                    · have E : Hid (decK kk mm 43 = mm) := Lib.hid (by rw [c1]; rfl)
                      have n1 : ((kk.toNat : Int) != 43) = false := by rw [c1]; rfl
                      clear c1
                      go_wp2_with fail
                      go_meet
                      case rel => exact ⟨by rw [E.out], rfl⟩
                    · have E : Hid (decK kk mm 43 = mm - 1) := Lib.hid (by unfold decK; rw [if_pos c1])
                      have n1 : ((kk.toNat : Int) != 43) = true := n_of c1
                      clear c1
                      go_wp2_with fail
                      go_meet
                      case rel => exact ⟨by rw [E.out], rfl⟩
                  case rest =>
                    obtain ⟨rfl, rfl⟩ := hcut
                    go_upto_if 97 with fail
                    go_cut [13] from 98 to 99 (fun b' wx => b' = .int .i64 (decK kk nx 45) ∧ W = wx)
                    case first =>
                      clear HEn HY HK3 HQ HK HIr HBw HI3 HC3 HQl HQm HT HTs HTe HTx hck
                      by_cases c1 : kk = 45
                      · have E : Hid (decK kk nx 45 = nx) := Lib.hid (by rw [c1]; rfl)
                        have n1 : ((kk.toNat : Int) != 45) = false := by rw [c1]; rfl
                        clear c1
                        go_wp2_with fail
                        go_meet
                        case rel => exact ⟨by rw [E.out], rfl⟩
                      · have E : Hid (decK kk nx 45 = nx - 1) := Lib.hid (by unfold decK; rw [if_pos c1])
                        have n1 : ((kk.toNat : Int) != 45) = true := n_of c1
                        clear c1
                        go_wp2_with fail
                        go_meet
                        case rel => exact ⟨by rw [E.out], rfl⟩
                    case rest =>
                      obtain ⟨rfl, rfl⟩ := hcut
                      have b1 := @dec_le kk mm 43
                      have b2 := @dec_le kk nx 45
                      generalize decK kk mm 43 = dm at *
                      generalize decK kk nx 45 = dn at *
                      have HWa := Lib.hid HW0.out.1
                      have HWb := Lib.hid HW0.out.2
                      have HCW := Lib.hid (fun j h => HC3.out W ((HKb.out).trans (HWb.out.mono HKb.out.size)) j h)
                      clear HW0 HC3
                      go_upto_region 22 with fail
                      go_cut [112] from 102 to 112 (fun g wx => g = .bool (decide (ls[k + 1]? = some mk0)) ∧ W = wx)
                      case first =>
                        clear HEn HY HK3 HQ HK HIr HBw HI3 HQl HQm HT HTs HTe HTx hck
                        by_cases hk2 : k + 1 < N
                        · have hx3 : k + 1 < ls.length := by rw [HNl.out]; exact hk2
                          have hcn := HCW.out (k + 1) hx3
                          have i4 : (0 : Int) ≤ (k : Int) + 1 := by omega
                          have i5 : (k : Int) + 1 < (N : Int) := by omega
                          have HG : Hid (((⟨ls[k + 1].toArray⟩ : ByteArray).toList == [92, 32, 78, 111, 32, 110, 101, 119, 108, 105, 110, 101, 32, 97, 116, 32, 101, 110, 100, 32, 111, 102, 32, 102, 105, 108, 101]) = decide (ls[k + 1]? = some mk0)) := Lib.hid (by
                            rw [Sc.toList_bs, List.getElem?_eq_getElem hx3]
                            show (ls[k + 1] == mk0) = _
                            by_cases hh : ls[k + 1] = mk0
                            · rw [hh, decide_eq_true rfl]; rfl
                            · rw [decide_eq_false (fun e => hh (Option.some.inj e))]
                              exact beq_eq_false_iff_ne.2 hh)
                          clear HCW
                          generalize (⟨ls[k + 1].toArray⟩ : ByteArray) = M at *
                          go_wp2_with fail
                          go_meet
                          case rel => exact ⟨by rw [← HG.out], rfl⟩
                        · have HG : Hid (decide (ls[k + 1]? = some mk0) = false) := Lib.hid (decide_eq_false (by rw [List.getElem?_eq_none (by rw [HNl.out]; omega)]; exact fun e => by cases e))
                          have i5 : ¬ (k : Int) + 1 < (N : Int) := by omega
                          clear HCW
                          go_wp2_with fail
                          go_meet
                          case rel => exact ⟨by rw [HG.out], rfl⟩
                      case rest =>
                        obtain ⟨rfl, rfl⟩ := hcut
                        go_upto_if 112 with fail
                        go_cut [9] from 112 to 122 (fun i' wx => ∃ (k' : Nat) (ty : ByteArray), k + 1 ≤ k' ∧ k' ≤ N ∧ i' = .int .i64 k' ∧ Hid (lnsR (ls.drop k') dm dn (acc ++ [⟨kk.toNat, ty⟩]) = Q) ∧ Hid (Blk wx wr.heap.size tLn [.int .u8 (kk.toNat : Int), .string ty]) ∧ Hid (Below wr.heap.size wr wx))
                        case first =>
                          clear HEn HY HK3 HQ HK HIr HBw HI3 HCW
                          by_cases hmk : ls[k + 1]? = some mk0
                          · obtain ⟨hx3, hme⟩ := List.getElem?_eq_some_iff.1 hmk
                            have HQ2 := Lib.hid (HQm.out hx3 hme)
                            have hk2 : k + 2 ≤ N := by rw [HNl.out] at hx3; omega
                            have hts := HTs.out
                            have q3 : (1 : Int) ≤ (tx.size : Int) := by omega
                            have q4 : tx.size ≤ 1000000 := by omega
                            rw [decide_eq_true hmk]
                            clear hmk hx3 hme HQl HQm
                            have HN3 : Hid ((k : Int) + 1 + 1 = ((k + 2 : Nat) : Int)) := Lib.hid (by omega)
                            have HWn : Hid (Blk (W.setCell ⟨wr.heap.size, 1, none⟩ (.string (tx.extract 0 (S.size - 1)))) wr.heap.size tLn [.int .u8 (kk.toNat : Int), .string ⟨t.toArray⟩] ∧ Below wr.heap.size wr (W.setCell ⟨wr.heap.size, 1, none⟩ (.string (tx.extract 0 (S.size - 1))))) := Lib.hid ⟨by rw [HTe.out]; exact HWa.out.set 1 (.string ⟨t.toArray⟩), HWb.out.setCell (p := ⟨wr.heap.size, 1, none⟩) (Nat.le_refl _) _⟩
                            go_wp2_with fail
                            go_meet
                            case rel => exact ⟨k + 2, ⟨t.toArray⟩, by omega, hk2, by rw [HN3.out], HQ2, Lib.hid HWn.out.1, Lib.hid HWn.out.2⟩
                          · have HQ2 := Lib.hid (HQl.out (by rw [List.head?_drop]; exact hmk))
                            rw [decide_eq_false hmk]
                            clear hmk HQl HQm
                            go_wp2_with fail
                            go_meet
                            case rel => exact ⟨k + 1, tx, by omega, by omega, by go_num, by rw [HTx.out]; exact HQ2, HWa, HWb⟩
                        case rest =>
                          obtain ⟨k', ty, hk3, hk4, rfl, HQ3, HWx, HBx⟩ := hcut
                          obtain ⟨x0, x1, xf, xlt⟩ := blk2 HWx.out
                          obtain ⟨g0, g1, g2, gf, glt⟩ := blk3 (HK.out.blk.below HBx.out)
                          have HOx := Lib.hid (HK.out.own.below HBx.out)
                          have hbs : w3.heap.size + 1 ≤ wr.heap.size := HK.out.blk.lt
                          have hbase : w3.heap.size + 1 ≤ wc.heap.size := Nat.le_trans hbs HBx.out.size
                          have HNx : Hid (∀ v7 w7, OwnL (w3.heap.size + 1) w7 v7 (acc ++ [⟨kk.toNat, ty⟩]) → Below (w3.heap.size + 1) wc w7 → HkI w3 a bb (w7.setCell ⟨w3.heap.size, 2, none⟩ v7) v7 (acc ++ [⟨kk.toNat, ty⟩]) ∧ Blk w7 w3.heap.size tPh [.int .i64 a, .int .i64 bb, .slice A1 acc.length c1]) := Lib.hid (fun v7 w7 ho hb => by
                            have hb2 : Below (w3.heap.size + 1) wr w7 := (HBx.out.mono hbs).trans hb
                            exact ⟨HK.out.put hb2 ho, (hb2.block _ (Nat.lt_succ_self _)).trans HK.out.blk⟩)
                          have hal2 : acc.length + 1 ≤ 1000000 := by omega
                          have hal3 : acc.length + 1 ≤ k' := by omega
                          have b3 : -(k' : Int) ≤ dm := by omega
                          have b4 : -(k' : Int) ≤ dn := by omega
                          have b5 : dm ≤ 2147483647 := by omega
                          have b6 : dn ≤ 2147483647 := by omega
                          clear HEn HY HK3 HQ HK HIr HBw HI3 HCW HQl HQm HT HTs HTe HTx HWa HWb b1 b2
                          go_wp2_with (at_builtin; refine app_ln rfl (.tmp 124) (.tmp 126) rfl (w3.heap.size + 1) acc ⟨kk.toNat, ty⟩ (.slice A1 acc.length c1) _ rfl HOx.out rfl rfl rfl hal2 hbase ?_; intro v7 w7 ho7 hb7 _; obtain ⟨A7, cv7, rfl⟩ := ho7.form; obtain ⟨hm7, hk7⟩ := HNx.out _ _ ho7 hb7; rw [List.length_append, List.length_singleton] at hm7; have HM7 := Lib.hid hm7; obtain ⟨y0, y1, y2, yf, ylt⟩ := blk3 hk7; clear ho7 hb7 hm7 hk7)
                          go_roundw
                          case rel => exact ⟨k', dm, dn, _, _, by omega, hk4, by rw [List.length_append, List.length_singleton]; exact hal3, b3, b5, b4, b6, rfl, rfl, rfl, HQ3, HM7⟩
                          case measure => simp [intOf]; omega
              · have hQn : Q = none := by
                  rw [← HQ.out, List.drop_of_length_le (by rw [HNl.out]; omega)]
                  exact lnsR_nil _ _ _ hg
                have hQn2 := Lib.hid (HRn.out hQn)
                clear hQn
                have HE2 := Lib.hid (HEn.out hQn2.out)
                obtain ⟨p0, p1, p2, fp, hltp⟩ := blk3 HIr.out.blk
                obtain ⟨z0, z1, z2, fz, hltz⟩ := blk3 (HZ2.out.below HBw.out)
                have HF := Lib.hid (HE2.out wr on nn Av hs.length cv HBw.out (fun _ _ _ => trivial))
                clear HE2 HEn HY HK3 HQ HK HIr HI3 HC3 HBw
                go_wp2_with fail
                exact bodyPost_ret (v := .tuple #[.agg #[.string on, .string nn, .slice Av hs.length cv], .bool false]) (by simp [results, Tryz.f58, go_sem, z0, z1, z2]) rfl HF.out
            · rw [decide_eq_false hg]
              have hQs : Q = some (acc, ls.drop k) := by rw [← HQ.out]; exact lnsR_stop _ _ _ _ hg
              have HK4 : Hid (hksR f' (ls.drop k) (hs ++ [⟨a, bb, acc⟩]) = R) := Lib.hid (by have := HK3.out; rw [hQs] at this; exact this)
              have hbo : w2.heap.size + 1 ≤ w3.heap.size := HI3.out.blk.lt
              have HOp := Lib.hid HIr.out.own
              have HOl := Lib.hid (HK.out.own.base (show w2.heap.size + 1 ≤ w3.heap.size + 1 by omega))
              have hWn : w2.heap.size + 1 ≤ wr.heap.size := Nat.le_trans hbo HK.out.bel.size
              have HNx : Hid (∀ v7 w7, OwnP (w2.heap.size + 1) w7 v7 (hs ++ [⟨a, bb, acc⟩]) → Below (w2.heap.size + 1) wr w7 → MkI w2 on nn (w7.setCell ⟨w2.heap.size, 2, none⟩ v7) v7 (hs ++ [⟨a, bb, acc⟩]) ∧ Blk w7 w2.heap.size tPat [.string on, .string nn, .slice Av hs.length cv]) := Lib.hid (fun v7 w7 ho hb => ⟨HIr.out.next hb ho, (hb.block _ (Nat.lt_succ_self _)).trans HIr.out.blk⟩)
              obtain ⟨g0, g1, g2, gf, glt⟩ := blk3 HK.out.blk
              obtain ⟨k0, k1, k2, kf, klt⟩ := blk3 HIr.out.blk
              have hlj : hs.length + 1 ≤ 1000000 := by omega
              have hsl2 : hs.length + 1 ≤ k := by omega
              have hkj : N ≤ k + f' := by omega
              clear hQs HEn HY HK3 HQ HK HIr HI3 HC3 HBw hg
              go_wp2_with (at_builtin; refine app_ph rfl (.tmp 130) (.tmp 132) rfl (w2.heap.size + 1) hs ⟨a, bb, acc⟩ (.slice A1 acc.length c1) (.slice Av hs.length cv) _ rfl HOp.out HOl.out rfl rfl rfl hlj hWn ?_; intro v7 w7 ho7 hb7 _; obtain ⟨A7, cv7, rfl⟩ := ho7.form; obtain ⟨hm7, hk7⟩ := HNx.out _ _ ho7 hb7; rw [List.length_append, List.length_singleton] at hm7; have HM7 := Lib.hid hm7; obtain ⟨x0, x1, x2, xf, xlt⟩ := blk3 hk7; clear ho7 hb7 hm7 hk7)
              go_roundw
              case rel => exact ⟨k, f', _, _, hk2, hkj, by rw [List.length_append, List.length_singleton]; exact hsl2, rfl, HK4, HM7⟩
              case measure => simp [intOf]; omega
    · have hjN : j = N := by omega
      subst hjN
      have hRs : R = some hs := by
        rw [← HK.out, List.drop_of_length_le (by rw [HNl.out]; exact Nat.le_refl _)]
        cases f <;> rfl
      have HY2 := Lib.hid (HY.out hs hRs)
      obtain ⟨Av, cv, rfl⟩ := HI.out.own.form
      obtain ⟨p0, p1, p2, pf, plt⟩ := blk3 HI.out.blk
      obtain ⟨z0, z1, z2, fz, hlt2⟩ := blk3 (HZ2.out.below HI.out.bel)
      have hww : w.heap.size < w2.heap.size := HZ2.out.lt
      have HFin : Hid (OwnP w.heap.size (((wr.setCell ⟨w.heap.size, 0, none⟩ (.string on)).setCell ⟨w.heap.size, 1, none⟩ (.string nn)).setCell ⟨w.heap.size, 2, none⟩ (.slice Av hs.length cv)) (.slice Av hs.length cv) hs ∧ Below w.heap.size w (((wr.setCell ⟨w.heap.size, 0, none⟩ (.string on)).setCell ⟨w.heap.size, 1, none⟩ (.string nn)).setCell ⟨w.heap.size, 2, none⟩ (.slice Av hs.length cv))) := Lib.hid (by
        have hb : Below w.heap.size w wr := HB2.out.trans (HI.out.bel.mono (by omega))
        exact ⟨(((HI.out.own.box (o := 0) (u := .string on) (show w.heap.size < w2.heap.size + 1 by omega)).box (o := 1) (u := .string nn) (show w.heap.size < w2.heap.size + 1 by omega)).box (o := 2) (u := .slice Av hs.length cv) (show w.heap.size < w2.heap.size + 1 by omega)).base (by omega), put3 hb _ _ _⟩)
      clear hRs HK HI HY HEn
      go_wp2_with fail
      exact bodyPost_ret (v := .tuple #[.agg #[.string on, .string nn, .slice Av hs.length cv], .bool true]) (by simp [results, Tryz.f58, go_sem, z0, z1, z2]) rfl (HY2.out _ _ _ _ HFin.out.1 HFin.out.2)
theorem readR_any (A : Option Addr) (c : Nat) (ls : List (List UInt8)) (w : World) (hr : RdS w (.slice A (mks ls).length c) (mks ls)) (hz : ∀ l ∈ ls, l.length ≤ 1000000) (hNb : ls.length ≤ 500000) :
    Calls Tryz.prog 58 #[.slice A (mks ls).length c] w (RrPost (readR ls) w) := by
  rw [Tx.mks_len] at hr ⊢
  cases h1 : nmF (bs nm1) ls 0 with
  | none => exact read_no A c _ ls w hr rfl hz hNb (.inl h1)
  | some o =>
    cases h2 : nmF (bs nm2) ls 1 with
    | none => exact read_no A c _ ls w hr rfl hz hNb (.inr h2)
    | some n => exact read_yes A c _ ls w hr rfl hz hNb o n h1 h2
end St
end
section
namespace Cm
end Cm
namespace Hn
end Hn
namespace Sc
end Sc
namespace Uf
end Uf
open Go.RowKit
namespace St
open Uf Cm Hn
open Sc (Pow)
theorem Md.fmt {p : Pat} {t : ByteArray} (h : Md p t) : fmtB p = t := by
  unfold fmtB
  rw [if_pos h.ok.chk, ← h.form]
theorem Md.prs {p : Pat} {t : ByteArray} (h : Md p t) : prsF (bs t) = some p := (prsF_iff _ _).2 ⟨h.ok.chk, h.form.symm⟩
theorem Md.lfs {p : Pat} {t : ByteArray} (h : Md p t) : Lib.countByte t.data.toList 10 ≤ 16388 := by
  rw [count_eq]
  exact Nat.le_trans h.cnt (by decide)
set_option maxRecDepth 100000 in
set_option maxHeartbeats 8000000 in
theorem roundtrip_walk (v : Value) (us : List Int) (ctx : Int) (w : World) (h : RdV w v (intsV us)) (hu : us.length ≤ maxLen) (hub : ∀ z ∈ us, -9223372036854775808 ≤ z ∧ z ≤ 9223372036854775807) (hc0 : -9223372036854775808 ≤ ctx) (hc1 : ctx ≤ 9223372036854775807) (hp : Pow w) :
    Calls Tryz.prog 10 #[v, .int .i64 ctx] w (AwPost w) := by
  have HAw := Lib.hid (fun w' (hb : Below w.heap.size w w') => awake_any w' (hp.stays hb))
  have HMa := Lib.hid (made_any v us ctx w h hu hub hc0 hc1)
  have HFm := Lib.hid (fun p v w' hr hsm (hb : Below w.heap.size w w') => Format_any p v w' hr hsm (hp.stays hb))
  have HPs := Lib.hid (fun s w' h1 h2 (hb : Below w.heap.size w w') => Parse_any s w' h1 h2 (hp.stays hb))
  unfold MdPost at HMa
  unfold FmPost at HFm
  obtain ⟨A, c, rfl⟩ := h.form
  clear h hu hub hc0 hc1 hp
  rw [intsV_len] at HMa ⊢
  go_enter Tryz.func10, Tryz.ntmps10
  go_wp2_with fail
  refine HMa.out.mono ?_
  rintro e w1 ⟨p, v1, t, rfl, hr, hmd, hb⟩
  obtain ⟨A1, c1, rfl⟩ := hr.form
  have HM := Lib.hid hmd
  have HB1 := Lib.hid (hb.alloc hb.size (.cells #[.string p.on, .string p.nn, .slice A1 p.hunks.length c1] tPat))
  have HX1 := Lib.hid (BxP.new hr)
  have hrA := hr.below ((Below.refl _ w1).alloc (Nat.le_refl _) (.cells #[.string p.on, .string p.nn, .slice A1 p.hunks.length c1] tPat))
  have HF1 := Lib.hid (HFm.out p _ _ hrA hmd.ok.big.1 HB1.out)
  rw [hmd.fmt, hmd.ok.chk] at HF1
  clear HMa HFm hr hb hrA
  go_wp2_with fail
  refine HF1.out.mono ?_
  rintro e w2 ⟨rfl, hb⟩
  have HB2 := Lib.hid (HB1.out.trans (hb.mono HB1.out.size))
  have HX2 := Lib.hid (HX1.out.below hb)
  have HP2 := Lib.hid (HPs.out t w2 (Nat.le_trans hmd.size (by decide)) hmd.lfs HB2.out)
  have HPy : Hid (∀ e w', PsPost (bs t) w2 e w' → (∃ v, e = .returned (.tuple #[tPatV p v, .int .i64 0]) ∧ RdP w' v p.hunks) ∧ Below w2.heap.size w2 w') := Lib.hid (fun e w' h => ⟨h.2.2 _ HM.out.prs, h.1⟩)
  have HSa := Lib.hid (fun v u w h1 h2 => Patch_same p v u w h1 h2 HM.out.ok.big.1.1 (fun h hh => (HM.out.ok.big.1.2 h hh).1))
  unfold YesPost at HSa
  clear HB1 HX1 HF1 hb hmd HPs HM
  go_wp2_with fail
  refine HP2.out.mono ?_
  intro e w3 h3
  obtain ⟨⟨v3, rfl, hr⟩, hb⟩ := HPy.out _ _ h3
  obtain ⟨A3, c3, rfl⟩ := hr.form
  have hb' := hb.trans ((Below.refl w3.heap.size w3).alloc (Nat.le_refl _) (.cells #[.string p.on, .string p.nn, .slice A3 p.hunks.length c3] tPat) |>.mono hb.size)
  have HB3 := Lib.hid (HB2.out.trans (hb'.mono HB2.out.size))
  have HX3 := Lib.hid (HX2.out.below hb')
  have HY3 := Lib.hid (BxP.new hr)
  clear h3 hr hb hb' HP2 HPy HB2 HX2
  go_upto_region 4 with fail
  obtain ⟨W, hW⟩ : ∃ W, W = w3.alloc (.cells #[.string p.on, .string p.nn, .slice A3 p.hunks.length c3] tPat) := ⟨_, rfl⟩
  rw [← hW] at HB3 HX3 HY3 ⊢
  clear hW
  obtain ⟨x0, x1, x2⟩ := HX3.out.cells
  obtain ⟨y0, y1, y2⟩ := HY3.out.cells
  have HS := Lib.hid (HSa.out _ _ W HX3.out.2 HY3.out.2)
  clear HSa
  go_wp2_with fail
  refine HS.out.mono ?_
  rintro e w4 ⟨rfl, hb⟩
  have HB4 := Lib.hid (HB3.out.trans (hb.mono HB3.out.size))
  have HA4 := Lib.hid (HAw.out _ HB4.out)
  clear hb HS HB3 HX3 HY3 x0 x1 x2 y0 y1 y2
  go_wp2_with fail
  refine HA4.out.mono ?_
  rintro e w5 ⟨rfl, hb⟩
  have HB5 := Lib.hid (HB4.out.trans (hb.mono HB4.out.size))
  clear hb
  go_wp2_with fail
  go_ret
  exact ⟨rfl, HB5.out⟩
end St
end
section
namespace Cm
end Cm
namespace Hn
end Hn
namespace Sc
end Sc
namespace Uf
end Uf
open Go.RowKit
namespace St
open Uf Cm Hn
open Sc (Pow)
def Shrt (t : ByteArray) : Prop := t.size ≤ 500000 ∧ Lib.countByte t.data.toList 10 ≤ 16388
theorem shrt_of {t : ByteArray} (h : t.size ≤ 16388) : Shrt t := ⟨by omega, by
  rw [count_eq]
  have h1 : t.data.toList.count 10 ≤ t.data.toList.length := List.count_le_length
  have h2 : t.data.toList.length = t.size := Array.length_toList
  omega⟩
theorem Md.shrt {p : Pat} {t : ByteArray} (h : Md p t) : Shrt t := ⟨Nat.le_trans h.size (by decide), h.lfs⟩
theorem shrt_sp {p : Pat} {s t : ByteArray} (h : Md p s) (h1 : t.size ≤ s.size + 1) (h2 : (bs t).count 10 ≤ (bs s).count 10 + 1) : Shrt t := ⟨by have := h.size; omega, by
  rw [count_eq]
  show (bs t).count 10 ≤ 16388
  have := h.cnt
  omega⟩
def hdB : ByteArray := ⟨#[45, 45, 45, 32, 97, 10, 43, 43, 43, 32, 98, 10, 64, 64, 32, 45, 49, 32, 43, 49, 44, 50, 32, 64, 64, 10]⟩
theorem prs_sm {t : ByteArray} {p : Pat} (h : prsF (bs t) = some p) (hs : Shrt t) : PatSm p.hunks ∧ chkC p = 0 ∧ fmtB p = t := by
  obtain ⟨h1, h2⟩ := (prsF_iff _ _).1 h
  have hr : readF (bs t) = some p := by
    unfold prsF at h
    cases he : readF (bs t) with
    | none => rw [he] at h; cases h
    | some q =>
      rw [he] at h
      simp only at h
      split at h
      · exact h
      · cases h
  have hl : (bs t).length = t.size := Tx.bs_len t
  refine ⟨read_sm hr (by have := hs.1; omega), h1, ?_⟩
  unfold fmtB
  rw [if_pos h1, h2]
set_option maxRecDepth 100000 in
set_option maxHeartbeats 8000000 in
theorem lossless_walk (v : Value) (us : List Int) (ctx what atv cb : Int) (s : ByteArray) (w : World) (h : RdV w v (intsV us)) (hu : us.length ≤ maxLen) (hub : ∀ z ∈ us, -9223372036854775808 ≤ z ∧ z ≤ 9223372036854775807) (hc : -9223372036854775808 ≤ ctx ∧ ctx ≤ 9223372036854775807)
    (hw1 : -9223372036854775808 ≤ what ∧ what ≤ 9223372036854775807) (ha1 : -9223372036854775808 ≤ atv ∧ atv ≤ 9223372036854775807) (hb1 : -9223372036854775808 ≤ cb ∧ cb ≤ 9223372036854775807) (hp : Pow w) :
    Calls Tryz.prog 9 #[v, .int .i64 ctx, .int .i64 what, .int .i64 atv, .int .i64 cb, .string s] w (AwPost w) := by
  have HAw := Lib.hid (fun w' (hb : Below w.heap.size w w') => awake_any w' (hp.stays hb))
  have HMa := Lib.hid (made_any v us ctx w h hu hub hc.1 hc.2)
  have HSp := Lib.hid (fun t w' (ht : t.size ≤ 1000000) => Spoiled_any t what atv cb w' ht hw1 ha1 hb1)
  have HFm := Lib.hid (fun p v w' hr hsm (hb : Below w.heap.size w w') => Format_any p v w' hr hsm (hp.stays hb))
  have HCk := Lib.hid (fun p v w' hr hsm (hb : Below w.heap.size w w') => Check_any p v w' hr hsm (hp.stays hb))
  have HPs := Lib.hid (fun s w' h1 h2 (hb : Below w.heap.size w w') => Parse_any s w' h1 h2 (hp.stays hb))
  unfold MdPost at HMa
  unfold FmPost at HFm
  unfold Uf.CkPost at HCk
  unfold SpPost at HSp
  obtain ⟨A, c, rfl⟩ := h.form
  clear h hu hub hp
  rw [intsV_len] at HMa ⊢
  by_cases hs : (120 : Int) < (s.size : Int)
  · have HA0 := Lib.hid (HAw.out w (Below.refl _ _))
    go_enter Tryz.func9, Tryz.ntmps9
    go_wp2_with fail
    refine (HA0.out).mono ?_
    rintro e w1 ⟨rfl, hb⟩
    have HF := Lib.hid hb
    clear hb
    go_wp2_with fail
    go_ret
    exact ⟨rfl, HF.out⟩
  have HSx : Hid (Shrt (hdB ++ s)) := Lib.hid (shrt_of (by
    rw [ByteArray.size_append]
    have : hdB.size = 26 := rfl
    omega))
  unfold hdB at HSx
  go_enter Tryz.func9, Tryz.ntmps9
  go_wp2_with fail
  refine HMa.out.mono ?_
  rintro e w1 ⟨p, v1, t, rfl, hr, hmd, hb⟩
  obtain ⟨A1, c1, rfl⟩ := hr.form
  have HM := Lib.hid hmd
  have HB1 := Lib.hid (hb.alloc hb.size (.cells #[.string p.on, .string p.nn, .slice A1 p.hunks.length c1] tPat))
  have htz : t.size ≤ 1000000 := Nat.le_trans hmd.size (by decide)
  have HS1 := Lib.hid (fun w' => HSp.out t w' htz)
  clear HMa hr hb hmd htz HSp
  go_wp2_with fail
  refine (HS1.out _).mono ?_
  rintro e w2 ⟨t2, rfl, h1, h2, hb⟩
  have HB2 := Lib.hid (HB1.out.trans (hb.mono HB1.out.size))
  have HT2 := Lib.hid (shrt_sp HM.out h1 h2)
  clear HB1 HS1 h1 h2 hb HM
  go_wp2_with fail
  go_loopw [14, 15] (fun u i wr => ∃ (t : ByteArray) (j : Nat), j ≤ 2 ∧ u = .string t ∧ i = .int .i64 j ∧ Hid (Shrt t) ∧ Hid (Below w.heap.size w wr)) (fun _ i _ => 2 - (intOf i).toNat)
  case atStart => exact ⟨t2, 0, by omega, rfl, rfl, HT2, HB2⟩
  case round =>
    obtain ⟨t, j, hj, rfl, rfl, HT, HB⟩ := hrel
    clear HT2 HB2
    by_cases hlt : j < 2
    · have HP := Lib.hid (HPs.out t wr HT.out.1 HT.out.2 HB.out)
      cases hq : prsF (bs t) with
      | none =>
        have HPn : Hid (∀ e w', PsPost (bs t) wr e w' → e = .returned (.tuple #[zPat, .int .i64 4]) ∧ Below wr.heap.size wr w') := Lib.hid (fun e w' h => ⟨h.2.1 hq, h.1⟩)
        clear hq HFm HCk HPs
        go_wp2_with fail
        refine HP.out.mono ?_
        intro e w3 h3
        obtain ⟨rfl, hb⟩ := HPn.out _ _ h3
        have HB3 := Lib.hid ((HB.out.trans (hb.mono HB.out.size)).alloc (HB.out.trans (hb.mono HB.out.size)).size (.cells #[.string ⟨#[]⟩, .string ⟨#[]⟩, .slice none 0 0] tPat))
        clear h3 hb HP HPn HB
        go_wp2_with fail
        go_roundw
        case rel => exact ⟨_, j + 1, by omega, rfl, by go_num, HSx, HB3⟩
        case measure => simp [intOf]; omega
      | some q =>
        obtain ⟨q1, q2, q3⟩ := prs_sm hq HT.out
        have HPy : Hid (∀ e w', PsPost (bs t) wr e w' → (∃ v, e = .returned (.tuple #[tPatV q v, .int .i64 0]) ∧ RdP w' v q.hunks) ∧ Below wr.heap.size wr w') := Lib.hid (fun e w' h => ⟨h.2.2 _ hq, h.1⟩)
        have HF1 := Lib.hid (fun v w' hr hb => HFm.out q v w' hr q1 hb)
        have HC1 := Lib.hid (fun v w' hr hb => HCk.out q v w' hr q1 hb)
        rw [q2, q3] at HF1
        rw [q2] at HC1
        clear hq HFm HCk HPs q1 q2 q3
        go_wp2_with fail
        refine HP.out.mono ?_
        intro e w3 h3
        obtain ⟨⟨v3, rfl, hr⟩, hb⟩ := HPy.out _ _ h3
        obtain ⟨A3, c3, rfl⟩ := hr.form
        have HB3 := Lib.hid ((HB.out.trans (hb.mono HB.out.size)).alloc (HB.out.trans (hb.mono HB.out.size)).size (.cells #[.string q.on, .string q.nn, .slice A3 q.hunks.length c3] tPat))
        have HX3 := Lib.hid (BxP.new hr)
        have HF2 := Lib.hid (HF1.out _ _ HX3.out.2 HB3.out)
        clear h3 hr hb HP HPy HB HF1
        go_wp2_with fail
        refine HF2.out.mono ?_
        rintro e w4 ⟨rfl, hb⟩
        have HB4 := Lib.hid (HB3.out.trans (hb.mono HB3.out.size))
        have HX4 := Lib.hid (HX3.out.below hb)
        obtain ⟨x0, x1, x2⟩ := HX4.out.cells
        have HC2 := Lib.hid (HC1.out _ _ HX4.out.2 HB4.out)
        clear hb HF2 HB3 HX3 HC1
        go_wp2_with fail
        refine HC2.out.mono ?_
        rintro e w5 ⟨rfl, hb⟩
        have HB5 := Lib.hid (HB4.out.trans (hb.mono HB4.out.size))
        clear hb HC2 HB4 HX4 x0 x1 x2
        go_wp2_with fail
        go_roundw
        case rel => exact ⟨_, j + 1, by omega, rfl, by go_num, HSx, HB5⟩
        case measure => simp [intOf]; omega
    · have HA := Lib.hid (HAw.out _ HB.out)
      have hj2 : j = 2 := by omega
      subst hj2
      clear HFm HCk HPs HT
      go_wp2_with fail
      refine HA.out.mono ?_
      rintro e w3 ⟨rfl, hb⟩
      have HB3 := Lib.hid (HB.out.trans (hb.mono HB.out.size))
      clear hb HB
      go_wp2_with fail
      go_ret
      exact ⟨rfl, HB3.out⟩
end St
end
section
namespace Cm
end Cm
namespace Hn
end Hn
namespace Sc
end Sc
namespace Tx
end Tx
namespace Uf
end Uf
open Go.RowKit
namespace St
open Uf Cm Sc Hn
open Tx (RdS mks endedF linesF bareF)
theorem wS_le {s : List UInt8} {ls : List (List UInt8)} (h : lnsS s = some ls) : wS ls ≤ s.length ∧ ls.length ≤ s.count 10 := by
  unfold lnsS at h
  split at h
  · cases h
    exact ⟨Nat.zero_le _, Nat.zero_le _⟩
  · rename_i hs
    split at h
    · rename_i he
      cases h
      have hne : linesF s ≠ [] := fun e => hs (by rw [← Tx.linesF_flatten s, e]; rfl)
      have hall := (lines_end _ (Tx.linesF_isList s) hne).1 (by rw [Tx.linesF_flatten]; exact he)
      refine ⟨?_, ?_⟩
      · have gen : ∀ ls : List (List UInt8), (∀ l ∈ ls, endedF l = true) → wS (ls.map bareF) = ls.flatten.length := by
          intro ls
          induction ls with
          | nil => intro _; rfl
          | cons x r ih =>
            intro hh
            have hx := hh x List.mem_cons_self
            rw [List.map_cons, wS_cons, ih (fun l hl => hh l (List.mem_cons_of_mem _ hl)), List.flatten_cons, List.length_append]
            have e := congrArg List.length (Tx.endedF_split x hx)
            unfold bareF
            rw [if_pos hx, List.length_dropLast]
            simp at e
            omega
        rw [gen _ hall, Tx.linesF_flatten]
        exact Nat.le_refl _
      · rw [List.length_map, Tx.linesF_len, he, Bool.or_true, if_pos rfl]
        exact Nat.le_refl _
    · cases h
def ptF (s : List UInt8) : Pat := (prsF s).getD p0
def cdF (s : List UInt8) : Int := if (prsF s).isSome then 0 else 4
/-- What both parsers answer. -/
def TwPost (s : List UInt8) (w : World) (e : Ending) (w' : World) : Prop := ∃ A c, e = .returned (.tuple #[tPatV (ptF s) (.slice A (ptF s).hunks.length c), .int .i64 (cdF s)]) ∧ RdP w' (.slice A (ptF s).hunks.length c) (ptF s).hunks ∧ Below w.heap.size w w'
theorem TwPost.no {s : List UInt8} {w w' : World} (h : prsF s = none) (hb : Below w.heap.size w w') : TwPost s w (.returned (.tuple #[zPat, .int .i64 4])) w' :=
  ⟨none, 0, by unfold ptF cdF; rw [h]; rfl, by unfold ptF; rw [h]; exact RdP.nil _, hb⟩
theorem TwPost.yes {s : List UInt8} {w w' : World} {p : Pat} {v : Value} (h : prsF s = some p) (hr : RdP w' v p.hunks) (hb : Below w.heap.size w w') : TwPost s w (.returned (.tuple #[tPatV p v, .int .i64 0])) w' := by
  have e1 : ptF s = p := by unfold ptF; rw [h]; rfl
  have e2 : cdF s = 0 := by unfold cdF; rw [h]; rfl
  obtain ⟨A, c, rfl⟩ := hr.form
  unfold TwPost
  rw [e1, e2]
  exact ⟨A, c, rfl, hr, hb⟩
theorem PsPost.tw {s : List UInt8} {w w' : World} {e : Ending} (h : PsPost s w e w') : TwPost s w e w' := by
  cases hp : prsF s with
  | none => rw [h.2.1 hp]; exact TwPost.no hp h.1
  | some p => obtain ⟨v, e1, hr⟩ := h.2.2 p hp; rw [e1]; exact TwPost.yes hp hr h.1
theorem prsR_0 {s : List UInt8} (h : lnsS s = none) : prsF s = none := by rw [← prsR_same]; unfold prsR; rw [h]; rfl
theorem prsR_1 {s : List UInt8} {ls : List (List UInt8)} (h : lnsS s = some ls) (h2 : readR ls = none) : prsF s = none := by
  rw [← prsR_same]; unfold prsR; rw [h]; show (match readR ls with | none => none | some p => _) = none; rw [h2]
theorem prsR_2 {s : List UInt8} {ls : List (List UInt8)} {p : Pat} (h : lnsS s = some ls) (h2 : readR ls = some p) : prsF s = if chkC p = 0 ∧ joinL (partsF p) = s then some p else none := by
  rw [← prsR_same]; unfold prsR; rw [h]; show (match readR ls with | none => none | some p => _) = _; rw [h2]
set_option maxRecDepth 100000 in
set_option maxHeartbeats 8000000 in
theorem ParseR_13 (s : ByteArray) (w : World) (h16 : s.size ≤ 500000) (hcn : (bs s).count 10 ≤ 16388) : Calls Tryz.prog 32 #[.string s] w (TwPost (bs s) w) := by
  have HL := Lib.hid (fun w => LinesR_13 s w (by omega))
  unfold LsPost at HL
  have HB0 := Lib.hid ((Below.refl w.heap.size w).alloc (Nat.le_refl _) (.cells #[.string ⟨#[]⟩, .string ⟨#[]⟩, .slice none 0 0] tPat))
  have HZ0 : Hid (Blk (w.alloc (.cells #[.string ⟨#[]⟩, .string ⟨#[]⟩, .slice none 0 0] tPat)) w.heap.size tPat [.string ⟨#[]⟩, .string ⟨#[]⟩, .slice none 0 0]) := Lib.hid (heap_new w _)
  have HE : Hid (prsF (bs s) = none → ∀ W, Below w.heap.size w W → TwPost (bs s) w (.returned (.tuple #[.agg #[.string ⟨#[]⟩, .string ⟨#[]⟩, .slice none 0 0], .int .i64 4])) (((W.setCell ⟨w.heap.size, 0, none⟩ (.string ⟨#[]⟩)).setCell ⟨w.heap.size, 1, none⟩ (.string ⟨#[]⟩)).setCell ⟨w.heap.size, 2, none⟩ (.slice none 0 0))) := Lib.hid (fun h W hb => TwPost.no h (put3 hb _ _ _))
  have h17 : ¬ (16777216 : Int) < (s.size : Int) := by omega
  have hsl : (bs s).length = s.size := Tx.bs_len s
  cases hl : lnsS (bs s) with
  | none =>
    have HE2 := Lib.hid (HE.out (prsR_0 hl))
    rw [hl] at HL
    clear hl HE hsl
    go_enter Tryz.func32, Tryz.ntmps32
    go_wp2_with fail
    refine (HL.out _).mono ?_
    rintro e w1 ⟨v, rfl, -, hb⟩
    have HB1 := Lib.hid (HB0.out.trans (hb.mono HB0.out.size))
    obtain ⟨z0, z1, z2, fz, hltz⟩ := blk3 (HZ0.out.below hb)
    clear hb HB0 HZ0 HL
    go_wp2_with fail
    exact bodyPost_ret (v := .tuple #[.agg #[.string ⟨#[]⟩, .string ⟨#[]⟩, .slice none 0 0], .int .i64 4]) (by simp [results, Tryz.f32, go_sem, z0, z1, z2]) rfl (HE2.out _ HB1.out)
  | some ls =>
    obtain ⟨y1, y2⟩ := wS_le hl
    obtain ⟨y3, y4⟩ := lnsS_le hl
    have HRd := Lib.hid (fun A c w hr => readR_any A c ls w hr (fun l h => by have := y4 l h; omega) (by omega))
    unfold RrPost at HRd
    rw [hl] at HL
    cases hr : readR ls with
    | none =>
      have HE2 := Lib.hid (HE.out (prsR_1 hl hr))
      rw [hr] at HRd
      clear hl HE hr y1 y2 y3 y4 hsl
      go_enter Tryz.func32, Tryz.ntmps32
      go_wp2_with fail
      refine (HL.out _).mono ?_
      rintro e w1 ⟨v, rfl, hrs, hb⟩
      have HB1 := Lib.hid (HB0.out.trans (hb.mono HB0.out.size))
      have HZ1 := Lib.hid (HZ0.out.below hb)
      obtain ⟨A, c, rfl, hcap, hcell⟩ := hrs
      have HS1 : Hid (RdS w1 (.slice A (mks ls).length c) (mks ls)) := Lib.hid ⟨A, c, rfl, hcap, hcell⟩
      clear hb HB0 HZ0 HL hcap hcell
      rw [show ((some ls).getD []) = ls from rfl]
      go_wp2_with fail
      refine (HRd.out _ _ _ HS1.out).mono ?_
      rintro e w2 ⟨s1, s2, A2, n2, c2, b, rfl, hb2, -, hb⟩
      obtain rfl : b = false := hb2
      have HB2 := Lib.hid ((HB1.out.trans (hb.mono HB1.out.size)).alloc (HB1.out.trans (hb.mono HB1.out.size)).size (.cells #[.string s1, .string s2, .slice A2 n2 c2] tPat))
      obtain ⟨z0, z1, z2, fz, hltz⟩ := blk3 ((HZ1.out.below hb).alloc (.cells #[.string s1, .string s2, .slice A2 n2 c2] tPat))
      clear hb HB1 HZ1 HRd HS1
      go_wp2_with fail
      exact bodyPost_ret (v := .tuple #[.agg #[.string ⟨#[]⟩, .string ⟨#[]⟩, .slice none 0 0], .int .i64 4]) (by simp [results, Tryz.f32, go_sem, z0, z1, z2]) rfl (HE2.out _ HB2.out)
    | some p =>
      have hsz := readR_sz hr
      have hsh : ShOk p := hsz.sh (by omega) (by omega)
      have HCk := Lib.hid (fun v w' hr => CheckR_any p v w' hr hsh)
      have HWr := Lib.hid (fun v w' hr hc => WriteR_ok p v w' hr hsh hc)
      unfold Uf.CkPost at HCk
      unfold WrPost at HWr
      have hpr := prsR_2 hl hr
      rw [hr] at HRd
      have HRd2 : Hid (∀ A c w', RdS w' (.slice A (mks ls).length c) (mks ls) → Calls Tryz.prog 58 #[.slice A (mks ls).length c] w' fun e w'' => ∃ A2 c2, e = .returned (.tuple #[.agg #[.string p.on, .string p.nn, .slice A2 p.hunks.length c2], .bool true]) ∧ OwnP w'.heap.size w'' (.slice A2 p.hunks.length c2) p.hunks ∧ Below w'.heap.size w' w'') := Lib.hid (fun A c w' h => (HRd.out A c w' h).mono fun e w'' ⟨s1, s2, A2, n2, c2, b, q1, q2, q3, q4⟩ => by
        obtain ⟨e1, e2, e3⟩ := q3 p rfl
        obtain ⟨A3, c3, e4⟩ := e3.form
        injection e4 with e5 e6 e7
        subst e5
        subst e6
        subst e7
        obtain rfl : b = true := q2
        rw [e1, e2] at q1
        exact ⟨_, _, q1, e3, q4⟩)
      clear hr HRd y1 y2 y3 y4 hsl hsh hsz
      by_cases hc : chkC p = 0
      · have HWr2 := Lib.hid (fun v w' hr => HWr.out v w' hr hc)
        rw [hc] at HCk
        by_cases hf : joinL (partsF p) = bs s
        · have HY : Hid (∀ A c W, RdP W (.slice A p.hunks.length c) p.hunks → Below w.heap.size w W → TwPost (bs s) w (.returned (.tuple #[.agg #[.string p.on, .string p.nn, .slice A p.hunks.length c], .int .i64 0])) W) := Lib.hid (fun A c W h1 h2 => TwPost.yes (by rw [hpr, if_pos ⟨hc, hf⟩]) h1 h2)
          have HF := Lib.hid hf
          clear hl HE hpr HWr hc hf
          go_enter Tryz.func32, Tryz.ntmps32
          go_wp2_with fail
          refine (HL.out _).mono ?_
          rintro e w1 ⟨v, rfl, hrs, hb⟩
          have HB1 := Lib.hid (HB0.out.trans (hb.mono HB0.out.size))
          have HZ1 := Lib.hid (HZ0.out.below hb)
          obtain ⟨A, c, rfl, hcap, hcell⟩ := hrs
          have HS1 : Hid (RdS w1 (.slice A (mks ls).length c) (mks ls)) := Lib.hid ⟨A, c, rfl, hcap, hcell⟩
          clear hb HB0 HZ0 HL hcap hcell
          rw [show ((some ls).getD []) = ls from rfl]
          go_wp2_with fail
          refine (HRd2.out _ _ _ HS1.out).mono ?_
          rintro e w2 ⟨A2, c2, rfl, hrp, hb⟩
          have HB2 := Lib.hid ((HB1.out.trans (hb.mono HB1.out.size)).alloc (HB1.out.trans (hb.mono HB1.out.size)).size (.cells #[.string p.on, .string p.nn, .slice A2 p.hunks.length c2] tPat))
          have HZ2 := Lib.hid ((HZ1.out.below hb).alloc (.cells #[.string p.on, .string p.nn, .slice A2 p.hunks.length c2] tPat))
          have HX2 := Lib.hid (BxP.new hrp.rd)
          have HO2 := Lib.hid (hrp.below ((Below.refl _ w2).alloc (Nat.le_refl _) (.cells #[.string p.on, .string p.nn, .slice A2 p.hunks.length c2] tPat)))
          have HC2 := Lib.hid (HCk.out _ _ HX2.out.2)
          clear hb hrp HB1 HRd2 HS1 HCk
          go_wp2_with fail
          refine HC2.out.mono ?_
          rintro e w3 ⟨rfl, hb⟩
          have HB3 := Lib.hid (HB2.out.trans (hb.mono HB2.out.size))
          have HZ3 := Lib.hid (HZ2.out.below hb)
          have HX3 := Lib.hid (HX2.out.below hb)
          have HO3 := Lib.hid (HO2.out.below hb)
          obtain ⟨p0, p1, p2⟩ := HX3.out.cells
          have HW3 := Lib.hid (HWr2.out _ _ HX3.out.2)
          clear hb HB2 HZ2 HX2 HC2 HWr2
          go_wp2_with fail
          refine HW3.out.mono ?_
          rintro e w4 ⟨⟨s4, rfl, hs4⟩, hb⟩
          have HB4 := Lib.hid (HB3.out.trans (hb.mono HB3.out.size))
          obtain ⟨z0, z1, z2, fz, hltz⟩ := blk3 (HZ3.out.below hb)
          have HX4 := Lib.hid (HX3.out.below hb)
          have hlt1 : w.heap.size < w1.heap.size := HZ1.out.lt
          have HO4 := Lib.hid (HO3.out.below hb)
          obtain ⟨p0, p1, p2⟩ := HX4.out.cells
          have hq : (s4.toList == s.toList) = true := by
            rw [Sc.toList_bs, Sc.toList_bs, show Sc.bs s4 = bs s from hs4.trans HF.out]; exact beq_self_eq_true _
          have HRz : Hid (RdP (((w4.setCell ⟨w.heap.size, 0, none⟩ (.string p.on)).setCell ⟨w.heap.size, 1, none⟩ (.string p.nn)).setCell ⟨w.heap.size, 2, none⟩ (.slice A2 p.hunks.length c2)) (.slice A2 p.hunks.length c2) p.hunks) := Lib.hid (((HO4.out.box (o := 0) (u := .string p.on) hlt1).box (o := 1) (u := .string p.nn) hlt1).box (o := 2) (u := .slice A2 p.hunks.length c2) hlt1).rd
          have HB5 := Lib.hid (put3 HB4.out (.string p.on) (.string p.nn) (.slice A2 p.hunks.length c2))
          clear hb hs4 HB3 HZ3 HX3 HW3 HX4 HB4 HO2 HO3 HO4 HZ1 hlt1
          go_wp2_with fail
          exact bodyPost_ret (v := .tuple #[.agg #[.string p.on, .string p.nn, .slice A2 p.hunks.length c2], .int .i64 0]) (by simp [results, Tryz.f32, go_sem, z0, z1, z2]) rfl (HY.out _ _ _ HRz.out HB5.out)
        · have HE2 := Lib.hid (HE.out (by rw [hpr, if_neg (fun h => hf h.2)]))
          have HF := Lib.hid hf
          clear hl HE hpr HWr hc hf
          go_enter Tryz.func32, Tryz.ntmps32
          go_wp2_with fail
          refine (HL.out _).mono ?_
          rintro e w1 ⟨v, rfl, hrs, hb⟩
          have HB1 := Lib.hid (HB0.out.trans (hb.mono HB0.out.size))
          have HZ1 := Lib.hid (HZ0.out.below hb)
          obtain ⟨A, c, rfl, hcap, hcell⟩ := hrs
          have HS1 : Hid (RdS w1 (.slice A (mks ls).length c) (mks ls)) := Lib.hid ⟨A, c, rfl, hcap, hcell⟩
          clear hb HB0 HZ0 HL hcap hcell
          rw [show ((some ls).getD []) = ls from rfl]
          go_wp2_with fail
          refine (HRd2.out _ _ _ HS1.out).mono ?_
          rintro e w2 ⟨A2, c2, rfl, hrp, hb⟩
          have HB2 := Lib.hid ((HB1.out.trans (hb.mono HB1.out.size)).alloc (HB1.out.trans (hb.mono HB1.out.size)).size (.cells #[.string p.on, .string p.nn, .slice A2 p.hunks.length c2] tPat))
          have HZ2 := Lib.hid ((HZ1.out.below hb).alloc (.cells #[.string p.on, .string p.nn, .slice A2 p.hunks.length c2] tPat))
          have HX2 := Lib.hid (BxP.new hrp.rd)
          have HO2 := Lib.hid (hrp.below ((Below.refl _ w2).alloc (Nat.le_refl _) (.cells #[.string p.on, .string p.nn, .slice A2 p.hunks.length c2] tPat)))
          have HC2 := Lib.hid (HCk.out _ _ HX2.out.2)
          clear hb hrp HB1 HRd2 HS1 HCk
          go_wp2_with fail
          refine HC2.out.mono ?_
          rintro e w3 ⟨rfl, hb⟩
          have HB3 := Lib.hid (HB2.out.trans (hb.mono HB2.out.size))
          have HZ3 := Lib.hid (HZ2.out.below hb)
          have HX3 := Lib.hid (HX2.out.below hb)
          have HO3 := Lib.hid (HO2.out.below hb)
          obtain ⟨p0, p1, p2⟩ := HX3.out.cells
          have HW3 := Lib.hid (HWr2.out _ _ HX3.out.2)
          clear hb HB2 HZ2 HX2 HC2 HWr2
          go_wp2_with fail
          refine HW3.out.mono ?_
          rintro e w4 ⟨⟨s4, rfl, hs4⟩, hb⟩
          have HB4 := Lib.hid (HB3.out.trans (hb.mono HB3.out.size))
          obtain ⟨z0, z1, z2, fz, hltz⟩ := blk3 (HZ3.out.below hb)
          have hq : (s4.toList == s.toList) = false := by
            rw [Sc.toList_bs, Sc.toList_bs]; exact beq_eq_false_iff_ne.2 (fun e => HF.out (hs4.symm.trans e))
          clear hb hs4 HB3 HZ3 HX3 HW3 HO2 HO3 HZ1
          go_wp2_with fail
          exact bodyPost_ret (v := .tuple #[.agg #[.string ⟨#[]⟩, .string ⟨#[]⟩, .slice none 0 0], .int .i64 4]) (by simp [results, Tryz.f32, go_sem, z0, z1, z2]) rfl (HE2.out _ HB4.out)
      · have HE2 := Lib.hid (HE.out (by rw [hpr, if_neg (fun h => hc h.1)]))
        have hcb : (chkC p == 0) = false := beq_eq_false_iff_ne.2 hc
        have hcb2 : (chkC p != 0) = true := by rw [bne, hcb]; rfl
        generalize chkC p = cc at *
        clear hl HE hpr HWr hc
        go_enter Tryz.func32, Tryz.ntmps32
        go_wp2_with fail
        refine (HL.out _).mono ?_
        rintro e w1 ⟨v, rfl, hrs, hb⟩
        have HB1 := Lib.hid (HB0.out.trans (hb.mono HB0.out.size))
        have HZ1 := Lib.hid (HZ0.out.below hb)
        obtain ⟨A, c, rfl, hcap, hcell⟩ := hrs
        have HS1 : Hid (RdS w1 (.slice A (mks ls).length c) (mks ls)) := Lib.hid ⟨A, c, rfl, hcap, hcell⟩
        clear hb HB0 HZ0 HL hcap hcell
        rw [show ((some ls).getD []) = ls from rfl]
        go_wp2_with fail
        refine (HRd2.out _ _ _ HS1.out).mono ?_
        rintro e w2 ⟨A2, c2, rfl, hrp, hb⟩
        have HB2 := Lib.hid ((HB1.out.trans (hb.mono HB1.out.size)).alloc (HB1.out.trans (hb.mono HB1.out.size)).size (.cells #[.string p.on, .string p.nn, .slice A2 p.hunks.length c2] tPat))
        have HZ2 := Lib.hid ((HZ1.out.below hb).alloc (.cells #[.string p.on, .string p.nn, .slice A2 p.hunks.length c2] tPat))
        have HX2 := Lib.hid (BxP.new hrp.rd)
        have HC2 := Lib.hid (HCk.out _ _ HX2.out.2)
        clear hb hrp HB1 HZ1 HRd2 HS1 HCk
        go_wp2_with fail
        refine HC2.out.mono ?_
        rintro e w3 ⟨rfl, hb⟩
        have HB3 := Lib.hid (HB2.out.trans (hb.mono HB2.out.size))
        obtain ⟨z0, z1, z2, fz, hltz⟩ := blk3 (HZ2.out.below hb)
        clear hb HB2 HZ2 HX2 HC2
        go_wp2_with fail
        exact bodyPost_ret (v := .tuple #[.agg #[.string ⟨#[]⟩, .string ⟨#[]⟩, .slice none 0 0], .int .i64 4]) (by simp [results, Tryz.f32, go_sem, z0, z1, z2]) rfl (HE2.out _ HB3.out)
end St
end
section
namespace Cm
end Cm
namespace Hn
end Hn
namespace Sc
end Sc
namespace Tx
end Tx
namespace Uf
end Uf
open Go.RowKit
namespace St
open Uf Cm Hn
open Sc (Pow toList_bs)
open Tx (RdS mks)
theorem pt_few {t : ByteArray} (ht : Shrt t) : (ptF (bs t)).hunks.length ≤ 1000000 ∧ ∀ h ∈ (ptF (bs t)).hunks, h.lines.length ≤ 1000000 := by
  unfold ptF
  cases hq : prsF (bs t) with
  | none => exact ⟨Nat.zero_le _, fun h hh => by cases hh⟩
  | some p =>
    obtain ⟨h1, -, -⟩ := prs_sm hq ht
    exact ⟨h1.1, fun h hh => (h1.2 h hh).1⟩
/-- Both parsers and the comparison, at one text. -/
theorem tw_any (t : ByteArray) (w : World) (ht : Shrt t) (hp : Pow w) : ∃ (P : Pat) (C : Int),
    (∀ w', Below w.heap.size w w' → Calls Tryz.prog 31 #[.string t] w' fun e w'' => ∃ A c, e = .returned (.tuple #[.agg #[.string P.on, .string P.nn, .slice A P.hunks.length c], .int .i64 C]) ∧ RdP w'' (.slice A P.hunks.length c) P.hunks ∧ Below w'.heap.size w' w'') ∧
    (∀ w', Calls Tryz.prog 32 #[.string t] w' fun e w'' => ∃ A c, e = .returned (.tuple #[.agg #[.string P.on, .string P.nn, .slice A P.hunks.length c], .int .i64 C]) ∧ RdP w'' (.slice A P.hunks.length c) P.hunks ∧ Below w'.heap.size w' w'') ∧
    (∀ w' v u, RdP w' v P.hunks → RdP w' u P.hunks → Calls Tryz.prog 17 #[.agg #[.string P.on, .string P.nn, v], .agg #[.string P.on, .string P.nn, u]] w' fun e w'' => e = .returned (.bool true) ∧ Below w'.heap.size w' w'') := by
  refine ⟨ptF (bs t), cdF (bs t), fun w' hb => (Parse_any t w' ht.1 ht.2 (hp.stays hb)).mono fun e w'' h => PsPost.tw h, fun w' => ParseR_13 t w' ht.1 (by have := ht.2; rw [count_eq] at this; exact this), fun w' v u h1 h2 => Patch_same (ptF (bs t)) v u w' h1 h2 (pt_few ht).1 (pt_few ht).2⟩
set_option maxRecDepth 100000 in
set_option maxHeartbeats 8000000 in
theorem parses_walk (v : Value) (us : List Int) (ctx what atv cb : Int) (w : World) (h : RdV w v (intsV us)) (hu : us.length ≤ maxLen) (hub : ∀ z ∈ us, -9223372036854775808 ≤ z ∧ z ≤ 9223372036854775807) (hc : -9223372036854775808 ≤ ctx ∧ ctx ≤ 9223372036854775807)
    (hw1 : -9223372036854775808 ≤ what ∧ what ≤ 9223372036854775807) (ha1 : -9223372036854775808 ≤ atv ∧ atv ≤ 9223372036854775807) (hb1 : -9223372036854775808 ≤ cb ∧ cb ≤ 9223372036854775807) (hp : Pow w) :
    Calls Tryz.prog 7 #[v, .int .i64 ctx, .int .i64 what, .int .i64 atv, .int .i64 cb] w (AwPost w) := by
  have HAw := Lib.hid (fun w' (hb : Below w.heap.size w w') => awake_any w' (hp.stays hb))
  have HMa := Lib.hid (made_any v us ctx w h hu hub hc.1 hc.2)
  have HSp := Lib.hid (fun t w' (ht : t.size ≤ 1000000) => Spoiled_any t what atv cb w' ht hw1 ha1 hb1)
  have HTw := Lib.hid (fun t ht => tw_any t w ht hp)
  unfold MdPost at HMa
  unfold SpPost at HSp
  obtain ⟨A, c, rfl⟩ := h.form
  clear h hu hub hp
  rw [intsV_len] at HMa ⊢
  go_enter Tryz.func7, Tryz.ntmps7
  go_wp2_with fail
  refine HMa.out.mono ?_
  rintro e w1 ⟨p, v1, t, rfl, hr, hmd, hb⟩
  obtain ⟨A1, c1, rfl⟩ := hr.form
  have HB1 := Lib.hid (hb.alloc hb.size (.cells #[.string p.on, .string p.nn, .slice A1 p.hunks.length c1] tPat))
  have htz : t.size ≤ 1000000 := Nat.le_trans hmd.size (by decide)
  have HS1 := Lib.hid (fun w' => HSp.out t w' htz)
  have HM := Lib.hid hmd
  clear HMa hr hb hmd htz HSp
  go_wp2_with fail
  refine (HS1.out _).mono ?_
  rintro e w2 ⟨t2, rfl, h1, h2, hb⟩
  have HB2 := Lib.hid (HB1.out.trans (hb.mono HB1.out.size))
  obtain ⟨P, C, a1, a2, a3⟩ := HTw.out t HM.out.shrt
  obtain ⟨Q, D, d1, d2, d3⟩ := HTw.out t2 (shrt_sp HM.out h1 h2)
  have HP1 := Lib.hid (a1 w2 HB2.out)
  have HP2 := Lib.hid a2
  have HP3 := Lib.hid a3
  have HQ1 := Lib.hid d1
  have HQ2 := Lib.hid d2
  have HQ3 := Lib.hid d3
  clear HB1 HS1 h1 h2 hb HM HTw a1 a2 a3 d1 d2 d3
  generalize hPl : P.hunks.length = Pl at *
  generalize hQl : Q.hunks.length = Ql at *
  have HPl := Lib.hid hPl
  have HQl := Lib.hid hQl
  clear hPl hQl
  go_wp2_with fail
  refine HP1.out.mono ?_
  rintro e w3 ⟨A3, c3, rfl, hr3, hb⟩
  have HB3 := Lib.hid ((HB2.out.trans (hb.mono HB2.out.size)).alloc (HB2.out.trans (hb.mono HB2.out.size)).size (.cells #[.string P.on, .string P.nn, .slice A3 Pl c3] tPat))
  have HX3 := Lib.hid (BxP.new (p := P) hr3)
  clear hr3 hb HB2 HP1
  go_wp2_with fail
  refine (HP2.out _).mono ?_
  rintro e w4 ⟨A4, c4, rfl, hr4, hb⟩
  have HB4 := Lib.hid ((HB3.out.trans (hb.mono HB3.out.size)).alloc (HB3.out.trans (hb.mono HB3.out.size)).size (.cells #[.string P.on, .string P.nn, .slice A4 Pl c4] tPat))
  have HX4 := Lib.hid ((HX3.out.below hb).below ((Below.refl _ w4).alloc (Nat.le_refl _) (.cells #[.string P.on, .string P.nn, .slice A4 Pl c4] tPat)))
  have HY4 := Lib.hid (BxP.new (p := P) hr4)
  have HR5 := Lib.hid (HQ1.out _ HB4.out)
  clear hr4 hb HB3 HX3 HP2 HQ1
  go_wp2_with fail
  refine HR5.out.mono ?_
  rintro e w5 ⟨A5, c5, rfl, hr5, hb⟩
  have HB5 := Lib.hid ((HB4.out.trans (hb.mono HB4.out.size)).alloc (HB4.out.trans (hb.mono HB4.out.size)).size (.cells #[.string Q.on, .string Q.nn, .slice A5 Ql c5] tPat))
  have HX5 := Lib.hid ((HX4.out.below hb).below ((Below.refl _ w5).alloc (Nat.le_refl _) (.cells #[.string Q.on, .string Q.nn, .slice A5 Ql c5] tPat)))
  have HY5 := Lib.hid ((HY4.out.below hb).below ((Below.refl _ w5).alloc (Nat.le_refl _) (.cells #[.string Q.on, .string Q.nn, .slice A5 Ql c5] tPat)))
  have HZ5 := Lib.hid (BxP.new (p := Q) hr5)
  clear hr5 hb HB4 HX4 HY4 HR5
  go_wp2_with fail
  refine (HQ2.out _).mono ?_
  rintro e w6 ⟨A6, c6, rfl, hr6, hb⟩
  have HB6 := Lib.hid ((HB5.out.trans (hb.mono HB5.out.size)).alloc (HB5.out.trans (hb.mono HB5.out.size)).size (.cells #[.string Q.on, .string Q.nn, .slice A6 Ql c6] tPat))
  have HX6 := Lib.hid ((HX5.out.below hb).below ((Below.refl _ w6).alloc (Nat.le_refl _) (.cells #[.string Q.on, .string Q.nn, .slice A6 Ql c6] tPat)))
  have HY6 := Lib.hid ((HY5.out.below hb).below ((Below.refl _ w6).alloc (Nat.le_refl _) (.cells #[.string Q.on, .string Q.nn, .slice A6 Ql c6] tPat)))
  have HZ6 := Lib.hid ((HZ5.out.below hb).below ((Below.refl _ w6).alloc (Nat.le_refl _) (.cells #[.string Q.on, .string Q.nn, .slice A6 Ql c6] tPat)))
  have HV6 := Lib.hid (BxP.new (p := Q) hr6)
  obtain ⟨x0, x1, x2⟩ := HX6.out.cells
  obtain ⟨y0, y1, y2⟩ := HY6.out.cells
  have HC7 := Lib.hid (HP3.out _ _ _ HX6.out.2 HY6.out.2)
  clear hr6 hb HB5 HX5 HY5 HZ5 HQ2 HP3 HX6 HY6
  go_wp2_with fail
  refine HC7.out.mono ?_
  rintro e w7 ⟨rfl, hb⟩
  have HB7 := Lib.hid (HB6.out.trans (hb.mono HB6.out.size))
  have HZ7 := Lib.hid (HZ6.out.below hb)
  have HV7 := Lib.hid (HV6.out.below hb)
  clear x0 x1 x2 y0 y1 y2 hb HC7 HB6 HZ6 HV6
  obtain ⟨x0, x1, x2⟩ := HZ7.out.cells
  obtain ⟨y0, y1, y2⟩ := HV7.out.cells
  have HC8 := Lib.hid (HQ3.out _ _ _ HZ7.out.2 HV7.out.2)
  clear HZ7 HV7 HQ3
  go_wp2_with fail
  refine HC8.out.mono ?_
  rintro e w8 ⟨rfl, hb⟩
  have HB8 := Lib.hid (HB7.out.trans (hb.mono HB7.out.size))
  have HA := Lib.hid (HAw.out _ HB8.out)
  clear hb HC8 HB7 x0 x1 x2 y0 y1 y2 HAw
  go_wp2_with fail
  refine HA.out.mono ?_
  rintro e w9 ⟨rfl, hb⟩
  have HB9 := Lib.hid (HB8.out.trans (hb.mono HB8.out.size))
  clear hb HB8 HA
  go_wp2_with fail
  go_ret
  exact ⟨rfl, HB9.out⟩
def hdA : ByteArray := ⟨#[45, 45, 45, 32, 97, 10, 43, 43, 43, 32, 98, 10, 64, 64, 32, 45, 49, 32, 43, 49, 32, 64, 64, 10]⟩
set_option maxRecDepth 100000 in
set_option maxHeartbeats 8000000 in
theorem any_walk (s : ByteArray) (w : World) (hp : Pow w) :
    Calls Tryz.prog 8 #[.string s] w (AwPost w) := by
  have HAw := Lib.hid (fun w' (hb : Below w.heap.size w w') => awake_any w' (hp.stays hb))
  by_cases hs : (120 : Int) < (s.size : Int)
  · have HA0 := Lib.hid (HAw.out w (Below.refl _ _))
    clear hp HAw
    go_enter Tryz.func8, Tryz.ntmps8
    go_wp2_with fail
    refine (HA0.out).mono ?_
    rintro e w1 ⟨rfl, hb⟩
    have HF := Lib.hid hb
    clear hb
    go_wp2_with fail
    go_ret
    exact ⟨rfl, HF.out⟩
  have hts : Shrt s := shrt_of (by omega)
  have htt : Shrt (hdA ++ s) := shrt_of (by
    rw [ByteArray.size_append]
    have : hdA.size = 24 := rfl
    omega)
  obtain ⟨P, C, a1, a2, a3⟩ := tw_any s w hts hp
  obtain ⟨Q, D, d1, d2, d3⟩ := tw_any (hdA ++ s) w htt hp
  have HP1 := Lib.hid (a1 w (Below.refl _ _))
  have HP2 := Lib.hid a2
  have HP3 := Lib.hid a3
  have HQ1 := Lib.hid d1
  have HQ2 := Lib.hid d2
  have HQ3 := Lib.hid d3
  have HL1 := Lib.hid (fun w' => Lines_any s w' (by omega))
  have HL2 := Lib.hid (fun w' => LinesR_13 s w' (by omega))
  unfold LsPost at HL1 HL2
  have HLs := Lib.hid (fun a b xs w' hl ha hb => Tx.Strings_same a b xs w' hl ha hb)
  have hll : (mks ((lnsS (bs s)).getD [])).length ≤ 4611686018427387904 := by
    rw [Tx.mks_len]
    cases hl : lnsS (bs s) with
    | none => exact Nat.zero_le _
    | some ls =>
      have h1 := (lnsS_le hl).1
      have h2 : (bs s).length = s.size := Tx.bs_len s
      show ls.length ≤ _
      omega
  have HLl := Lib.hid hll
  generalize (lnsS (bs s)).isSome = ok at *
  generalize mks ((lnsS (bs s)).getD []) = xs at *
  have hz : 24 + s.size ≤ 9223372036854775807 := by omega
  unfold hdA at HQ1 HQ2
  generalize hPl : P.hunks.length = Pl at *
  generalize hQl : Q.hunks.length = Ql at *
  generalize hXl : xs.length = Xl at *
  have HPl := Lib.hid hPl
  have HQl := Lib.hid hQl
  have HXl := Lib.hid hXl
  clear hPl hQl hXl hp hts htt a1 a2 a3 d1 d2 d3 hll
  go_enter Tryz.func8, Tryz.ntmps8
  go_wp2_with fail
  refine HP1.out.mono ?_
  rintro e w3 ⟨A3, c3, rfl, hr3, hb⟩
  have HB3 := Lib.hid (hb.alloc hb.size (.cells #[.string P.on, .string P.nn, .slice A3 Pl c3] tPat))
  have HX3 := Lib.hid (BxP.new (p := P) hr3)
  clear hr3 hb HP1
  go_wp2_with fail
  refine (HP2.out _).mono ?_
  rintro e w4 ⟨A4, c4, rfl, hr4, hb⟩
  have HB4 := Lib.hid ((HB3.out.trans (hb.mono HB3.out.size)).alloc (HB3.out.trans (hb.mono HB3.out.size)).size (.cells #[.string P.on, .string P.nn, .slice A4 Pl c4] tPat))
  have HX4 := Lib.hid ((HX3.out.below hb).below ((Below.refl _ w4).alloc (Nat.le_refl _) (.cells #[.string P.on, .string P.nn, .slice A4 Pl c4] tPat)))
  have HY4 := Lib.hid (BxP.new (p := P) hr4)
  have HR5 := Lib.hid (HQ1.out _ HB4.out)
  clear hr4 hb HB3 HX3 HP2 HQ1
  go_wp2_with fail
  refine HR5.out.mono ?_
  rintro e w5 ⟨A5, c5, rfl, hr5, hb⟩
  have HB5 := Lib.hid ((HB4.out.trans (hb.mono HB4.out.size)).alloc (HB4.out.trans (hb.mono HB4.out.size)).size (.cells #[.string Q.on, .string Q.nn, .slice A5 Ql c5] tPat))
  have HX5 := Lib.hid ((HX4.out.below hb).below ((Below.refl _ w5).alloc (Nat.le_refl _) (.cells #[.string Q.on, .string Q.nn, .slice A5 Ql c5] tPat)))
  have HY5 := Lib.hid ((HY4.out.below hb).below ((Below.refl _ w5).alloc (Nat.le_refl _) (.cells #[.string Q.on, .string Q.nn, .slice A5 Ql c5] tPat)))
  have HZ5 := Lib.hid (BxP.new (p := Q) hr5)
  clear hr5 hb HB4 HX4 HY4 HR5
  go_wp2_with fail
  refine (HQ2.out _).mono ?_
  rintro e w6 ⟨A6, c6, rfl, hr6, hb⟩
  have HB6 := Lib.hid ((HB5.out.trans (hb.mono HB5.out.size)).alloc (HB5.out.trans (hb.mono HB5.out.size)).size (.cells #[.string Q.on, .string Q.nn, .slice A6 Ql c6] tPat))
  have HX6 := Lib.hid ((HX5.out.below hb).below ((Below.refl _ w6).alloc (Nat.le_refl _) (.cells #[.string Q.on, .string Q.nn, .slice A6 Ql c6] tPat)))
  have HY6 := Lib.hid ((HY5.out.below hb).below ((Below.refl _ w6).alloc (Nat.le_refl _) (.cells #[.string Q.on, .string Q.nn, .slice A6 Ql c6] tPat)))
  have HZ6 := Lib.hid ((HZ5.out.below hb).below ((Below.refl _ w6).alloc (Nat.le_refl _) (.cells #[.string Q.on, .string Q.nn, .slice A6 Ql c6] tPat)))
  have HV6 := Lib.hid (BxP.new (p := Q) hr6)
  clear hr6 hb HB5 HX5 HY5 HZ5 HQ2
  go_wp2_with fail
  refine (HL1.out _).mono ?_
  rintro e wa ⟨va, rfl, hra, hb⟩
  have HBa := Lib.hid (HB6.out.trans (hb.mono HB6.out.size))
  have HXa := Lib.hid (HX6.out.below hb)
  have HYa := Lib.hid (HY6.out.below hb)
  have HZa := Lib.hid (HZ6.out.below hb)
  have HVa := Lib.hid (HV6.out.below hb)
  have HRa := Lib.hid hra
  obtain ⟨Aa, ca, rfl, -, -⟩ := hra
  clear hb HB6 HX6 HY6 HZ6 HV6 HL1
  go_wp2_with fail
  refine (HL2.out _).mono ?_
  rintro e wb ⟨vb, rfl, hrb, hb⟩
  have HBb := Lib.hid (HBa.out.trans (hb.mono HBa.out.size))
  have HXb := Lib.hid (HXa.out.below hb)
  have HYb := Lib.hid (HYa.out.below hb)
  have HZb := Lib.hid (HZa.out.below hb)
  have HVb := Lib.hid (HVa.out.below hb)
  have HRa2 := Lib.hid (HRa.out.below hb)
  have HRb := Lib.hid hrb
  obtain ⟨Ab, cb, rfl, -, -⟩ := hrb
  obtain ⟨x0, x1, x2⟩ := HXb.out.cells
  obtain ⟨y0, y1, y2⟩ := HYb.out.cells
  have HC7 := Lib.hid (HP3.out _ _ _ HXb.out.2 HYb.out.2)
  clear hb HBa HXa HYa HZa HVa HRa HP3 HXb HYb HL2
  rw [HXl.out] at HRa2 HRb ⊢
  go_wp2_with fail
  refine HC7.out.mono ?_
  rintro e w7 ⟨rfl, hb⟩
  have HB7 := Lib.hid (HBb.out.trans (hb.mono HBb.out.size))
  have HZ7 := Lib.hid (HZb.out.below hb)
  have HV7 := Lib.hid (HVb.out.below hb)
  have HRa7 := Lib.hid (HRa2.out.below hb)
  have HRb7 := Lib.hid (HRb.out.below hb)
  clear x0 x1 x2 y0 y1 y2 hb HC7 HBb HZb HVb HRa2 HRb
  obtain ⟨x0, x1, x2⟩ := HZ7.out.cells
  obtain ⟨y0, y1, y2⟩ := HV7.out.cells
  have HC8 := Lib.hid (HQ3.out _ _ _ HZ7.out.2 HV7.out.2)
  clear HZ7 HV7 HQ3
  go_wp2_with fail
  refine HC8.out.mono ?_
  rintro e w8 ⟨rfl, hb⟩
  have HB8 := Lib.hid (HB7.out.trans (hb.mono HB7.out.size))
  have HS8 := Lib.hid (HLs.out _ _ xs _ (by rw [HXl.out]; exact HLl.out) (HRa7.out.below hb) (HRb7.out.below hb))
  clear hb HC8 HB7 x0 x1 x2 y0 y1 y2 HLs HRa7 HRb7
  go_wp2_with fail
  refine HS8.out.mono ?_
  rintro e w9 ⟨rfl, hb⟩
  have HB9 := Lib.hid (HB8.out.trans (hb.mono HB8.out.size))
  have HA := Lib.hid (HAw.out _ HB9.out)
  clear hb HS8 HB8 HAw
  cases ok
  all_goals
    go_wp2_with fail
    refine HA.out.mono ?_
    rintro e wz ⟨rfl, hb⟩
    have HBz := Lib.hid (HB9.out.trans (hb.mono HB9.out.size))
    clear hb HB9 HA
    go_wp2_with fail
    go_ret
    exact ⟨rfl, HBz.out⟩
end St
end
end Go.Proofs.YtlnghfmedkfkmaaGreatDoor

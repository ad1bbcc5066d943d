/-
  The walk of the law UnifiedMakes of layer 12. Condition: the table of powers. The walk of the law UnifiedMinimal of layer 12. Condition: the table of powers. The walk of the law UnifiedContents of layer 12. Condition: the table of powers.
-/
import Derived.Test.YtlnghfmedkfkmaaGreatDoorUniRMk
import Derived.Test.YtlnghfmedkfkmaaGreatDoorGUniCheck
import Derived.Test.YtlnghfmedkfkmaaGreatDoorUniBx
import Derived.Test.YtlnghfmedkfkmaaGreatDoorGUniFmt
import Derived.Test.YtlnghfmedkfkmaaGreatDoorGComBase
namespace Go.Proofs.YtlnghfmedkfkmaaGreatDoor
section
open Go.RowKit
namespace Uf
open Cm Hn
open Sc (Pow RdK)
open Tx (bs)
/-- A patch in its box. -/
def BxP (W : World) (B : Nat) (p : Pat) (v : Value) : Prop := Blk W B tPat [.string p.on, .string p.nn, v] ∧ RdP W v p.hunks
theorem BxP.below {W W' : World} {B : Nat} {p : Pat} {v : Value} (h : BxP W B p v) (hb : Below W.heap.size W W') : BxP W' B p v := ⟨h.1.below hb, h.2.below hb⟩
theorem BxP.new {W : World} {p : Pat} {v : Value} (h : RdP W v p.hunks) : BxP (W.alloc (.cells #[.string p.on, .string p.nn, v] tPat)) W.heap.size p v := ⟨heap_new W _, h.below ((Below.refl _ W).alloc (Nat.le_refl _) _)⟩
theorem BxP.cells {W : World} {B : Nat} {p : Pat} {v : Value} (h : BxP W B p v) : W.cell? ⟨B, 0, none⟩ = some (.string p.on) ∧ W.cell? ⟨B, 1, none⟩ = some (.string p.nn) ∧ W.cell? ⟨B, 2, none⟩ = some v := ⟨h.1.cell (k := 0) (show 0 < 3 by decide), h.1.cell (k := 1) (show 1 < 3 by decide), h.1.cell (k := 2) (show 2 < 3 by decide)⟩
theorem mkP_few {on nn s t : ByteArray} {ctx : Int} {down : Bool} (hs : s.size ≤ 1000) (ht : t.size ≤ 1000) : (mkP on nn s t ctx down).hunks.length ≤ 1000000 ∧ ∀ h ∈ (mkP on nn s t ctx down).hunks, h.lines.length ≤ 1000000 := by
  unfold mkP
  split
  · rename_i hc
    unfold mkC at hc
    have h0 : 0 ≤ ctx := by
      split at hc
      · split at hc
        · cases hc
        · omega
      · cases hc
    obtain ⟨h1, h2⟩ := pat_few h0 hs ht down
    exact ⟨h1, fun h hh => Nat.le_trans (h2 h hh) (by decide)⟩
  · exact ⟨by decide, fun h hh => by cases hh⟩
set_option maxRecDepth 100000 in
set_option maxHeartbeats 8000000 in
theorem makes_walk (v : Value) (us : List Int) (old nam : ByteArray) (ctx : Int) (small down : Bool) (w : World) (h : RdV w v (intsV us)) (hu : us.length ≤ maxLen) (hub : ∀ z ∈ us, -9223372036854775808 ≤ z ∧ z ≤ 9223372036854775807) (hc0 : -9223372036854775808 ≤ ctx) (hc1 : ctx ≤ 9223372036854775807) (hp : Pow w) :
    Calls Tryz.prog 3 #[v, .string old, .string nam, .int .i64 ctx, .bool small, .bool down] w (AwPost w) := by
  have HAw := Lib.hid (fun w' (hb : Below w.heap.size w w') => awake_any w' (hp.stays hb))
  have HB0 := Lib.hid (Tx.Blob_any v us.length 0 9 5 w (rdI_V h hub) hu (by omega) (by omega) (by omega) (by omega) (by omega) (by omega))
  have HNr := Lib.hid (fun wq (hb : Below w.heap.size w wq) (a : ByteArray) (ha : a.size ≤ 36) => Sh.Near_any a v us 100 wq (h.below hb) hu (by omega) ⟨by omega, by omega⟩)
  obtain ⟨A, c, rfl⟩ := h.form
  have HMd := Lib.hid (fun w => Tx.Mod_any ctx 4 w (by omega) (by omega) hc0 hc1)
  clear h hu hub hc0 hc1 hp
  rw [intsV_len] at HB0 HNr ⊢
  generalize us.length = nu at *
  unfold Tx.SomeStr at HB0 HNr
  rw [show (9 : Int).toNat = 9 from rfl] at HB0
  have HA0 := Lib.hid (HAw.out w (Below.refl _ _))
  by_cases h1 : (300 : Int) < (old.size : Int)
  · go_enter Tryz.func3, Tryz.ntmps3
    go_wp2_with fail
    refine (HA0.out).mono ?_
    rintro e w1 ⟨rfl, hb⟩
    have HF := Lib.hid hb
    clear hb
    go_wp2_with fail
    go_ret
    exact ⟨rfl, HF.out⟩
  by_cases h2 : (300 : Int) < (nam.size : Int)
  · have d1 : decide ((300 : Int) < (old.size : Int)) = false := decide_eq_false h1
    go_enter Tryz.func3, Tryz.ntmps3
    go_wp2_with fail
    refine (HA0.out).mono ?_
    rintro e w1 ⟨rfl, hb⟩
    have HF := Lib.hid hb
    clear hb
    go_wp2_with fail
    go_ret
    exact ⟨rfl, HF.out⟩
  have d1 : decide ((300 : Int) < (old.size : Int)) = false := decide_eq_false h1
  have d2 : decide ((300 : Int) < (nam.size : Int)) = false := decide_eq_false h2
  clear h1 h2 HA0
  go_enter Tryz.func3, Tryz.ntmps3
  go_wp2_with fail
  refine (HB0.out).mono ?_
  rintro e w1 ⟨a, ha, rfl, hb⟩
  have HW1 := Lib.hid hb
  clear hb
  go_wp2_with fail
  refine (HNr.out _ HW1.out a (by omega)).mono ?_
  rintro e w2 ⟨b, hb', rfl, hb⟩
  have HW2 := Lib.hid (HW1.out.trans (hb.mono HW1.out.size))
  clear HW1 hb
  have hax : a.size ≤ 1000 := by omega
  have hbx : b.size ≤ 1000 := by omega
  have HP := Lib.hid (fun on nn m W => Make_any on nn a b m down hax hbx W)
  have HR := Lib.hid (fun on nn m W => MakeR_any on nn a b m down hax hbx W)
  have HFw := Lib.hid (fun on nn m => mkP_few (on := on) (nn := nn) (s := a) (t := b) (ctx := m) (down := down) hax hbx)
  unfold PtPost at HP HR
  clear ha hb' hax hbx HB0 HNr
  go_upto_if 37 with fail
  go_cut [3] from 38 to 39 (fun u wx => ∃ m, u = .int .i64 m ∧ wx = w2)
  case first =>
    cases small with
    | true =>
      go_wp2_with fail
      refine (HMd.out _).mono ?_
      rintro e w3 ⟨rfl, rfl⟩
      go_wp2_with fail
      go_meet
      case rel => exact ⟨_, rfl, rfl⟩
    | false =>
      go_wp2_with fail
      go_meet
      case rel => exact ⟨_, rfl, rfl⟩
  case rest =>
  obtain ⟨m, rfl, rfl⟩ := hcut
  clear HMd
  have HFa := Lib.hid (HFw.out old nam m)
  have HFb := Lib.hid (HFw.out oB nB m)
  have HPa := Lib.hid (fun W => HP.out old nam m W)
  have HRa := Lib.hid (fun W => HR.out old nam m W)
  have HPb := Lib.hid (fun W => HP.out oB nB m W)
  have HRb := Lib.hid (fun W => HR.out oB nB m W)
  generalize mkP old nam a b m down = P at *
  generalize mkC old nam m = C at *
  generalize mkP oB nB a b m down = Q at *
  generalize mkC oB nB m = D at *
  clear HP HR HFw
  go_wp2_with fail
  refine (HPa.out _).mono ?_
  rintro e w3 ⟨v1, rfl, ho, hb⟩
  obtain ⟨A1, c1, rfl⟩ := ho.form
  have HW3 := Lib.hid ((HW2.out.trans (hb.mono HW2.out.size)).alloc (HW2.out.trans (hb.mono HW2.out.size)).size (.cells #[.string P.on, .string P.nn, .slice A1 P.hunks.length c1] tPat))
  have HX1 := Lib.hid (BxP.new ho.rd)
  clear HW2 hb ho
  go_wp2_with fail
  refine (HRa.out _).mono ?_
  rintro e w4 ⟨v2, rfl, ho, hb⟩
  obtain ⟨A2, c2, rfl⟩ := ho.form
  have hb2 := hb.trans ((Below.refl w4.heap.size w4).alloc (Nat.le_refl _) (.cells #[.string P.on, .string P.nn, .slice A2 P.hunks.length c2] tPat) |>.mono hb.size)
  have HW4 := Lib.hid (HW3.out.trans (hb2.mono HW3.out.size))
  have HX1 := Lib.hid (HX1.out.below hb2)
  have HX2 := Lib.hid (BxP.new ho.rd)
  clear HW3 hb hb2 ho
  go_wp2_with fail
  refine (HPb.out _).mono ?_
  rintro e w5 ⟨v3, rfl, ho, hb⟩
  obtain ⟨A3, c3, rfl⟩ := ho.form
  have hb2 := hb.trans ((Below.refl w5.heap.size w5).alloc (Nat.le_refl _) (.cells #[.string Q.on, .string Q.nn, .slice A3 Q.hunks.length c3] tPat) |>.mono hb.size)
  have HW5 := Lib.hid (HW4.out.trans (hb2.mono HW4.out.size))
  have HX1 := Lib.hid (HX1.out.below hb2)
  have HX2 := Lib.hid (HX2.out.below hb2)
  have HX3 := Lib.hid (BxP.new ho.rd)
  clear HW4 hb hb2 ho
  go_wp2_with fail
  refine (HRb.out _).mono ?_
  rintro e w6 ⟨v4, rfl, ho, hb⟩
  obtain ⟨A4, c4, rfl⟩ := ho.form
  have hb2 := hb.trans ((Below.refl w6.heap.size w6).alloc (Nat.le_refl _) (.cells #[.string Q.on, .string Q.nn, .slice A4 Q.hunks.length c4] tPat) |>.mono hb.size)
  have HW6 := Lib.hid (HW5.out.trans (hb2.mono HW5.out.size))
  have HX1 := Lib.hid (HX1.out.below hb2)
  have HX2 := Lib.hid (HX2.out.below hb2)
  have HX3 := Lib.hid (HX3.out.below hb2)
  have HX4 := Lib.hid (BxP.new ho.rd)
  clear HW5 hb hb2 ho HPa HRa HPb HRb
  go_upto_region 11 with fail
  obtain ⟨W, hW⟩ : ∃ W, W = w6.alloc (.cells #[.string Q.on, .string Q.nn, .slice A4 Q.hunks.length c4] tPat) := ⟨_, rfl⟩
  rw [← hW] at HX1 HX2 HX3 HX4 HW6 ⊢
  clear hW
  obtain ⟨p0, p1, p2⟩ := HX1.out.cells
  obtain ⟨q0, q1, q2⟩ := HX2.out.cells
  have HS1 := Lib.hid (Patch_same P _ _ W HX1.out.2 HX2.out.2 HFa.out.1 HFa.out.2)
  unfold YesPost at HS1
  go_wp2_with fail
  refine HS1.out.mono ?_
  rintro e w7 ⟨rfl, hb⟩
  have HX3 := Lib.hid (HX3.out.below hb)
  have HX4 := Lib.hid (HX4.out.below hb)
  have HW7 := Lib.hid (HW6.out.trans (hb.mono HW6.out.size))
  obtain ⟨r0, r1, r2⟩ := HX3.out.cells
  obtain ⟨s0, s1, s2⟩ := HX4.out.cells
  have HS2 := Lib.hid (Patch_same Q _ _ w7 HX3.out.2 HX4.out.2 HFb.out.1 HFb.out.2)
  unfold YesPost at HS2
  clear hb p0 p1 p2 q0 q1 q2 HW6 HS1
  go_wp2_with fail
  refine HS2.out.mono ?_
  rintro e w8 ⟨rfl, hb⟩
  have HA := Lib.hid (HAw.out w8 (HW7.out.trans (hb.mono HW7.out.size)))
  have HW8 := Lib.hid (HW7.out.trans (hb.mono HW7.out.size))
  clear hb HS2 HW7
  go_wp2_with fail
  refine HA.out.mono ?_
  rintro e w9 ⟨rfl, hb⟩
  have HW9 := Lib.hid (HW8.out.trans (hb.mono HW8.out.size))
  clear hb
  go_wp2_with fail
  go_ret
  exact ⟨rfl, HW9.out⟩
end Uf
end
section
open Go.RowKit
namespace Uf
open Cm Hn
open Sc (Pow RdK Ch RdC RdC_at)
open Tx (bs)
theorem Lf.sizes {x y : List ByteArray} (hx : x.length ≤ 1000) (hy : y.length ≤ 1000) : ∀ {cs : List Ch} {i j T U : Nat}, Lf x y i j cs T U → ∀ c ∈ cs, (0 ≤ c.oldLen ∧ c.oldLen ≤ 1000) ∧ (0 ≤ c.newLen ∧ c.newLen ≤ 1000)
  | [], _, _, _, _, _, c, hc => by cases hc
  | d :: cs, i, j, T, U, ⟨o, ol, nw, nl, e, g1, g2, g3, g4, g5, g6⟩, c, hc => by
    have hl := g6.le
    rcases List.mem_cons.1 hc with rfl | hc
    · subst e
      simp only
      omega
    · exact Lf.sizes hx hy g6 c hc
theorem sum_bd : ∀ {l : List Ch}, (∀ c ∈ l, (0 ≤ c.oldLen ∧ c.oldLen ≤ 1000) ∧ (0 ≤ c.newLen ∧ c.newLen ≤ 1000)) → (0 ≤ sumO l ∧ sumO l ≤ 1000 * l.length) ∧ (0 ≤ sumN l ∧ sumN l ≤ 1000 * l.length)
  | [], _ => by unfold sumO sumN; simp
  | c :: l, h => by
    have h1 := sum_bd (fun d hd => h d (List.mem_cons_of_mem _ hd))
    have h2 := h c List.mem_cons_self
    unfold sumO sumN at h1 ⊢
    simp only [List.map_cons, List.sum_cons, List.length_cons]
    omega
theorem sum_snoc (l : List Ch) (c : Ch) : sumO (l ++ [c]) = sumO l + c.oldLen ∧ sumN (l ++ [c]) = sumN l + c.newLen := by unfold sumO sumN; simp
theorem pat_nil {ctx : Int} (hc : 0 ≤ ctx) {s t : ByteArray} (hs : s.size ≤ 1000) (ht : t.size ≤ 1000) (down : Bool) : patH (Sh.lnB s) (Sh.lnB t) ctx (scrD down s t) = [] ↔ s = t := by
  have hL := scrD_lf (s := s) (t := t) (by omega) (by omega) down
  have hP := ph_group hc hL
  constructor
  · intro h
    have hg : group ctx (Sh.lnB s).length (scrD down s t) = [] := by
      unfold patH at h
      exact List.map_eq_nil_iff.1 h
    rw [hg] at hP
    have h0 : 0 = (scrD down s t).length := hP
    have h1 : Sh.blbF s t = [] := List.eq_nil_of_length_eq_zero (by rw [← scrD_len down]; exact h0.symm)
    exact (blb_nil (by omega) (by omega)).1 h1
  · intro h
    subst h
    exact pat_self ctx s down
set_option maxRecDepth 100000 in
set_option maxHeartbeats 8000000 in
theorem minimal_walk (v : Value) (us : List Int) (ctx : Int) (down : Bool) (w : World) (h : RdV w v (intsV us)) (hu : us.length ≤ maxLen) (hub : ∀ z ∈ us, -9223372036854775808 ≤ z ∧ z ≤ 9223372036854775807) (hc0 : -9223372036854775808 ≤ ctx) (hc1 : ctx ≤ 9223372036854775807) (hp : Pow w) :
    Calls Tryz.prog 5 #[v, .int .i64 ctx, .bool down] w (AwPost w) := by
  have HAw := Lib.hid (fun w' (hb : Below w.heap.size w w') => awake_any w' (hp.stays hb))
  have HB0 := Lib.hid (Tx.Blob_any v us.length 0 9 5 w (rdI_V h hub) hu (by omega) (by omega) (by omega) (by omega) (by omega) (by omega))
  have HNr := Lib.hid (fun wq (hb : Below w.heap.size w wq) (a : ByteArray) (ha : a.size ≤ 36) => Sh.Near_any a v us 100 wq (h.below hb) hu (by omega) ⟨by omega, by omega⟩)
  obtain ⟨A, c, rfl⟩ := h.form
  have HMd := Lib.hid (fun w => Tx.Mod_any ctx 5 w (by omega) (by omega) hc0 hc1)
  have hm0 := Tx.modF_lo ctx 5 (by omega)
  have hm1 := Tx.modF_hi ctx 5 (by omega)
  clear h hu hub hc0 hc1 hp
  rw [intsV_len] at HB0 HNr ⊢
  generalize us.length = nu at *
  generalize Tx.modF ctx 5 = m at *
  unfold Tx.SomeStr at HB0 HNr
  rw [show (9 : Int).toNat = 9 from rfl] at HB0
  go_enter Tryz.func5, Tryz.ntmps5
  go_wp2_with fail
  refine (HB0.out).mono ?_
  rintro e w1 ⟨a, ha, rfl, hb⟩
  have HW1 := Lib.hid hb
  clear hb
  go_wp2_with fail
  refine (HNr.out _ HW1.out a (by omega)).mono ?_
  rintro e w2 ⟨b, hb', rfl, hb⟩
  have HW2 := Lib.hid (HW1.out.trans (hb.mono HW1.out.size))
  clear HW1 hb
  have hax : a.size ≤ 1000 := by omega
  have hbx : b.size ≤ 1000 := by omega
  have HM1 := Lib.hid (fun W => Make_on a b m down hax hbx ⟨by omega, by omega⟩ W)
  have HOk := Lib.hid (mk_ok (ctx := m) (by omega) hax hbx down (on := oB) (nn := nB) (by decide) (by decide))
  have HFw := Lib.hid (pat_few (ctx := m) (by omega) hax hbx down)
  have HCn := Lib.hid (pat_cnt (ctx := m) (by omega) hax hbx down)
  have HBl := Lib.hid (fun w => Sh.BlobsR_any a b hax hbx w)
  have hsz : ∀ c ∈ Sh.blbF a b, (0 ≤ c.oldLen ∧ c.oldLen ≤ 1000) ∧ (0 ≤ c.newLen ∧ c.newLen ≤ 1000) := by
    have hL := scrD_lf (s := a) (t := b) (by omega) (by omega) false
    have e0 : scrD false a b = Sh.blbF a b := by unfold scrD; rw [if_neg (by decide)]
    rw [e0] at hL
    have l1 := Sh.lnB_len a
    have l2 := Sh.lnB_len b
    exact hL.sizes (by omega) (by omega)
  have hfew : (Sh.blbF a b).length ≤ 2000 := by
    have hL := scrD_lf (s := a) (t := b) (by omega) (by omega) false
    have e0 : scrD false a b = Sh.blbF a b := by unfold scrD; rw [if_neg (by decide)]
    rw [e0] at hL
    have l1 := Sh.lnB_len a
    have l2 := Sh.lnB_len b
    have := hL.num
    omega
  have HSz := Lib.hid hsz
  have HNil := Lib.hid (pat_nil (ctx := m) (by omega) hax hbx down)
  unfold Sh.ScPost at HBl
  generalize patH (Sh.lnB a) (Sh.lnB b) m (scrD down a b) = P at *
  generalize Sh.blbF a b = l at *
  clear hsz ha hb' hax hbx HB0 HNr
  go_wp2_with fail
  refine (HMd.out _).mono ?_
  rintro e w3 ⟨rfl, rfl⟩
  go_wp2_with fail
  refine (HM1.out _).mono ?_
  rintro e w3 ⟨A1, c1, rfl, ho, hb⟩
  have HW3 := Lib.hid ((HW2.out.trans (hb.mono HW2.out.size)).alloc (HW2.out.trans (hb.mono HW2.out.size)).size (.cells #[.string oB, .string nB, .slice A1 P.length c1] tPat))
  have HX1 := Lib.hid (Bx.new ho.rd)
  clear HW2 hb ho HMd HM1
  go_upto_region 4 with fail
  obtain ⟨W, hW⟩ : ∃ W, W = w3.alloc (.cells #[.string oB, .string nB, .slice A1 P.length c1] tPat) := ⟨_, rfl⟩
  rw [← hW] at HX1 HW3 ⊢
  clear hW
  obtain ⟨p0, p1, p2⟩ := HX1.out.cells
  have HK1 : Hid (Calls Tryz.prog 21 #[.agg #[.string oB, .string nB, .slice A1 P.length c1]] W (CtPost P W)) := Lib.hid (Count_any ⟨oB, nB, P⟩ _ W HX1.out.2 HFw.out.1 (fun h hh => Nat.le_trans (HFw.out.2 h hh) (by decide)))
  unfold CtPost at HK1
  rw [HCn.out.1, HCn.out.2] at HK1
  go_wp2_with fail
  refine HK1.out.mono ?_
  rintro e w4 ⟨rfl, hb⟩
  have HX1 := Lib.hid (HX1.out.below hb)
  have HW4 := Lib.hid (HW3.out.trans (hb.mono HW3.out.size))
  clear hb p0 p1 p2 HK1 HW3 HCn
  go_wp2_with fail
  refine (HBl.out _).mono ?_
  rintro e w5 ⟨v5, rfl, ho, hb⟩
  have HX1 := Lib.hid (HX1.out.below hb)
  have HW5 := Lib.hid (HW4.out.trans (hb.mono HW4.out.size))
  have HL5 := Lib.hid ho.rd
  obtain ⟨A5, c5, rfl⟩ := ho.rd.form
  clear hb HW4 ho HBl
  obtain ⟨L, hL⟩ : ∃ L, L = l.length := ⟨_, rfl⟩
  have HL := Lib.hid hL.symm
  rw [← hL] at HL5 hfew ⊢
  clear hL
  have HTk := Lib.hid (fun j (hj : j < l.length) => List.take_succ_eq_append_getElem hj)
  have HSb := Lib.hid (fun j => sum_bd (l := l.take j) (fun c hc => HSz.out c (List.mem_of_mem_take hc)))
  have HLj := Lib.hid (fun j => List.length_take_le j l)
  go_wp2_with fail
  go_loopw [13, 14, 17] (fun r q i wr => ∃ j : Nat, j ≤ L ∧ i = .int .i64 j ∧ r = .int .i64 (sumO (l.take j)) ∧ q = .int .i64 (sumN (l.take j)) ∧ Hid (Below w5.heap.size w5 wr)) (fun _ _ i _ => L - (intOf i).toNat)
  case atStart => exact ⟨0, Nat.zero_le _, rfl, rfl, rfl, Lib.hid (Below.refl _ _)⟩
  case round =>
    obtain ⟨j, hj, rfl, rfl, rfl, HB⟩ := hrel
    obtain ⟨⟨s0, s1⟩, s2, s3⟩ := HSb.out j
    have hlj := HLj.out j
    by_cases hlt : j < L
    · have hx : j < l.length := by rw [HL.out]; exact hlt
      obtain ⟨b1, o1, eA, x0, x1, x2, x3⟩ := RdC_at (HL5.out.below HB.out) j hx
      obtain rfl := eA
      have hz := HSz.out _ (List.getElem_mem hx)
      have hsn := sum_snoc (l.take j) l[j]
      rw [← HTk.out j hx] at hsn
      generalize l[j] = d at *
      obtain ⟨o, ol, nw, nl⟩ := d
      simp only at x0 x1 x2 x3 hz hsn
      have HSn := Lib.hid hsn
      clear hsn
      generalize sumO (l.take j) = so at *
      generalize sumN (l.take j) = sn at *
      have i1 : (0 : Int) ≤ (j : Int) := by omega
      have i2 : (j : Int) < (L : Int) := by omega
      have q1 : (l.take j).length ≤ 2000 := by omega
      go_upto_region 10 with fail
      go_region
      have HB2 := Lib.hid HB.out.drew
      go_wp2_with fail
      go_roundw
      case rel => exact ⟨j + 1, by omega, by go_num, by rw [HSn.out.1], by rw [HSn.out.2], HB2⟩
      case measure => simp [intOf]; omega
    · obtain rfl : j = L := by omega
      have ht : l.take j = l := by rw [← HL.out, List.take_length]
      rw [ht] at s0 s1 s2 s3 ⊢
      have HX1 := Lib.hid (HX1.out.below HB.out)
      have HWr := Lib.hid (HW5.out.trans (HB.out.mono HW5.out.size))
      obtain ⟨p0, p1, p2⟩ := HX1.out.cells
      have HCk := Lib.hid (CheckR_any ⟨oB, nB, P⟩ _ wr HX1.out.2 HOk.out.sh)
      unfold CkPost at HCk
      rw [HOk.out.chk] at HCk
      have HE : Hid ((((P.length : Nat) : Int) == 0) = (a.toList == b.toList)) := Lib.hid (by
        rw [Bool.eq_iff_iff, beq_iff_eq, beq_iff_eq]
        constructor
        · intro h
          have hP : P = [] := List.eq_nil_of_length_eq_zero (by omega)
          rw [HNil.out.1 hP]
        · intro h
          have hab : a = b := by rw [ByteArray.toList_eq, ByteArray.toList_eq] at h; exact ByteArray.ext (Array.toList_inj.1 h)
          rw [HNil.out.2 hab]; rfl)
      generalize sumO l = so at *
      generalize sumN l = sn at *
      clear ht HTk HSb HLj HSz HL HL5 HB HW5 HNil
      cases hq : (a.toList == b.toList) with
      | true =>
        have hP := HE.out
        rw [hq] at hP
        have hP2 := hP
        clear HE
        go_wp2_with fail
        refine (HCk.out).mono ?_
        rintro e w6 ⟨rfl, hb⟩
        obtain ⟨p0, p1, p2⟩ := (HX1.out.below hb).cells
        have HA := Lib.hid (HAw.out w6 (HWr.out.trans (hb.mono HWr.out.size)))
        have HW6 := Lib.hid (HWr.out.trans (hb.mono HWr.out.size))
        clear hb HCk HWr
        go_wp2_with fail
        refine HA.out.mono ?_
        rintro e w7 ⟨rfl, hb⟩
        have HW7 := Lib.hid (HW6.out.trans (hb.mono HW6.out.size))
        clear hb
        go_wp2_with fail
        go_ret
        exact ⟨rfl, HW7.out⟩
      | false =>
        have hP := HE.out
        rw [hq] at hP
        clear HE
        go_wp2_with fail
        refine (HCk.out).mono ?_
        rintro e w6 ⟨rfl, hb⟩
        obtain ⟨p0, p1, p2⟩ := (HX1.out.below hb).cells
        have HA := Lib.hid (HAw.out w6 (HWr.out.trans (hb.mono HWr.out.size)))
        have HW6 := Lib.hid (HWr.out.trans (hb.mono HWr.out.size))
        clear hb HCk HWr
        go_wp2_with fail
        refine HA.out.mono ?_
        rintro e w7 ⟨rfl, hb⟩
        have HW7 := Lib.hid (HW6.out.trans (hb.mono HW6.out.size))
        clear hb
        go_wp2_with fail
        go_ret
        exact ⟨rfl, HW7.out⟩
end Uf
end
section
open Go.RowKit
namespace Uf
open Cm Hn
open Sc (Pow RdK Ch RdC RdC_at)
open Tx (bs strsV StrsPost)
theorem rd_strs {w : World} {base : Nat} {v : Value} {l : List (List UInt8)} {xs : List ByteArray} (h : w.ownsRow base 9 1 v l.length (strsV l)) (e : l = xs.map bs) : RdV w v (stringsV xs) := by
  have h1 := Sh.rdS_V (Tx.RdS.of_own h)
  rw [e, Tx.mks_bs] at h1
  exact h1
/-- What the lines of a made hunk are. -/
theorem hunk_at {ctx : Int} (hc : 0 ≤ ctx) {s t : ByteArray} (hs : s.size ≤ 1000) (ht : t.size ≤ 1000) (down : Bool) (j : Nat) (hj : j < (patH (Sh.lnB s) (Sh.lnB t) ctx (scrD down s t)).length) :
    ∃ oF nF n1 n2 : Nat, ∃ LN, (patH (Sh.lnB s) (Sh.lnB t) ctx (scrD down s t))[j] = ⟨oF, nF, LN⟩ ∧ oF + n1 ≤ (Sh.lnB s).length ∧ nF + n2 ≤ (Sh.lnB t).length ∧ notK 43 LN = cut (Sh.lnB s) oF (oF + n1) ∧ notK 45 LN = cut (Sh.lnB t) nF (nF + n2) ∧ (notB 43 LN).length = n1 ∧ (notB 45 LN).length = n2 ∧ LN.length ≤ 2000 := by
  have hL := scrD_lf (s := s) (t := t) (by omega) (by omega) down
  have hP := ph_group hc hL
  have hfew := (pat_few hc hs ht down).2 _ (List.getElem_mem hj)
  have hj2 : j < (group ctx (Sh.lnB s).length (scrD down s t)).length := by unfold patH at hj; rwa [List.length_map] at hj
  obtain ⟨p, k, oF, nF, oT, nT, e, _, _, hlf⟩ := ph_at hP j hj2
  have hle := hlf.le
  have e2 : (patH (Sh.lnB s) (Sh.lnB t) ctx (scrD down s t))[j] = ⟨oF, nF, lnsF (Sh.lnB s) (Sh.lnB t) oF (cut (scrD down s t) p k) oT⟩ := by
    simp only [patH, List.getElem_map, e, mkPH_nat]
  rw [e2] at hfew
  have l1 : ∀ q, (notB q (lnsF (Sh.lnB s) (Sh.lnB t) oF (cut (scrD down s t) p k) oT)).length = (notK q (lnsF (Sh.lnB s) (Sh.lnB t) oF (cut (scrD down s t) p k) oT)).length := fun q => by unfold notB; rw [List.length_map]
  refine ⟨oF, nF, oT - oF, nT - nF, _, e2, by omega, by omega, ?_, ?_, ?_, ?_, hfew⟩
  · rw [hlf.old, show oF + (oT - oF) = oT by omega]
  · rw [hlf.new, show nF + (nT - nF) = nT by omega]
  · rw [l1, hlf.old, cut_len _ (by omega)]
  · rw [l1, hlf.new, cut_len _ (by omega)]
set_option maxRecDepth 100000 in
set_option maxHeartbeats 8000000 in
theorem contents_walk (v : Value) (us : List Int) (ctx : Int) (down : Bool) (w : World) (h : RdV w v (intsV us)) (hu : us.length ≤ maxLen) (hub : ∀ z ∈ us, -9223372036854775808 ≤ z ∧ z ≤ 9223372036854775807) (hc0 : -9223372036854775808 ≤ ctx) (hc1 : ctx ≤ 9223372036854775807) (hp : Pow w) :
    Calls Tryz.prog 6 #[v, .int .i64 ctx, .bool down] w (AwPost w) := by
  have HAw := Lib.hid (fun w' (hb : Below w.heap.size w w') => awake_any w' (hp.stays hb))
  have HB0 := Lib.hid (Tx.Blob_any v us.length 0 9 5 w (rdI_V h hub) hu (by omega) (by omega) (by omega) (by omega) (by omega) (by omega))
  have HNr := Lib.hid (fun wq (hb : Below w.heap.size w wq) (a : ByteArray) (ha : a.size ≤ 36) => Sh.Near_any a v us 100 wq (h.below hb) hu (by omega) ⟨by omega, by omega⟩)
  obtain ⟨A, c, rfl⟩ := h.form
  have HMd := Lib.hid (fun w => Tx.Mod_any ctx 5 w (by omega) (by omega) hc0 hc1)
  have hm0 := Tx.modF_lo ctx 5 (by omega)
  have hm1 := Tx.modF_hi ctx 5 (by omega)
  clear h hu hub hc0 hc1 hp
  rw [intsV_len] at HB0 HNr ⊢
  generalize us.length = nu at *
  generalize Tx.modF ctx 5 = m at *
  unfold Tx.SomeStr at HB0 HNr
  rw [show (9 : Int).toNat = 9 from rfl] at HB0
  go_enter Tryz.func6, Tryz.ntmps6
  go_wp2_with fail
  refine (HB0.out).mono ?_
  rintro e w1 ⟨a, ha, rfl, hb⟩
  have HW1 := Lib.hid hb
  clear hb
  go_wp2_with fail
  refine (HNr.out _ HW1.out a (by omega)).mono ?_
  rintro e w2 ⟨b, hb', rfl, hb⟩
  have HW2 := Lib.hid (HW1.out.trans (hb.mono HW1.out.size))
  clear HW1 hb
  have hax : a.size ≤ 1000 := by omega
  have hbx : b.size ≤ 1000 := by omega
  have HM1 := Lib.hid (fun W => Make_on a b m down hax hbx ⟨by omega, by omega⟩ W)
  have HOk := Lib.hid (mk_ok (ctx := m) (by omega) hax hbx down (on := oB) (nn := nB) (by decide) (by decide))
  have HFw := Lib.hid (pat_few (ctx := m) (by omega) hax hbx down)
  have HHk := Lib.hid (fun j hj => hunk_at (ctx := m) (by omega) hax hbx down j hj)
  have HLa := Lib.hid (fun w => Tx.LinesR_any a w (by omega))
  have HLb := Lib.hid (fun w => Tx.LinesR_any b w (by omega))
  unfold StrsPost at HLa HLb
  have HEa : Hid (Tx.linesF (bs a) = (Sh.lnB a).map bs) := Lib.hid (by unfold Sh.lnB; rw [Tx.mks_map])
  have HEb : Hid (Tx.linesF (bs b) = (Sh.lnB b).map bs) := Lib.hid (by unfold Sh.lnB; rw [Tx.mks_map])
  have hla := Sh.lnB_len a
  have hlb := Sh.lnB_len b
  generalize patH (Sh.lnB a) (Sh.lnB b) m (scrD down a b) = P at *
  generalize Sh.lnB a = xs at *
  generalize Sh.lnB b = ys at *
  clear ha hb' HB0 HNr
  go_wp2_with fail
  refine (HMd.out _).mono ?_
  rintro e w3 ⟨rfl, rfl⟩
  go_wp2_with fail
  refine (HM1.out _).mono ?_
  rintro e w3 ⟨A1, c1, rfl, ho, hb⟩
  have HW3 := Lib.hid ((HW2.out.trans (hb.mono HW2.out.size)).alloc (HW2.out.trans (hb.mono HW2.out.size)).size (.cells #[.string oB, .string nB, .slice A1 P.length c1] tPat))
  have HX1 := Lib.hid (Bx.new ho.rd)
  clear HW2 hb ho HMd HM1
  go_upto_region 4 with fail
  obtain ⟨W, hW⟩ : ∃ W, W = w3.alloc (.cells #[.string oB, .string nB, .slice A1 P.length c1] tPat) := ⟨_, rfl⟩
  rw [← hW] at HX1 HW3 ⊢
  clear hW
  obtain ⟨p0, p1, p2⟩ := HX1.out.cells
  have HCk := Lib.hid (CheckR_any ⟨oB, nB, P⟩ _ W HX1.out.2 HOk.out.sh)
  unfold CkPost at HCk
  rw [HOk.out.chk] at HCk
  go_wp2_with fail
  refine (HCk.out).mono ?_
  rintro e w4 ⟨rfl, hb⟩
  have HX4 := Lib.hid (HX1.out.below hb)
  have HW4 := Lib.hid (HW3.out.trans (hb.mono HW3.out.size))
  clear hb p0 p1 p2 HCk HW3 HX1
  go_wp2_with fail
  refine (HLa.out _).mono ?_
  rintro e w5 ⟨v5, rfl, ho, hb⟩
  have HXs5 := Lib.hid (rd_strs ho HEa.out)
  have HX5 := Lib.hid (HX4.out.below hb)
  have HW5 := Lib.hid (HW4.out.trans (hb.mono HW4.out.size))
  clear hb ho HW4 HX4 HLa
  go_wp2_with fail
  refine (HLb.out _).mono ?_
  rintro e w6 ⟨v6, rfl, ho, hb⟩
  have HY6 := Lib.hid (rd_strs ho HEb.out)
  have HXs6 := Lib.hid (HXs5.out.below hb)
  have HX6 := Lib.hid (HX5.out.below hb)
  have HW6 := Lib.hid (HW5.out.trans (hb.mono HW5.out.size))
  clear hb ho HW5 HX5 HLb HXs5 HEa HEb
  obtain ⟨Ax, cx, rfl⟩ := HXs6.out.form
  obtain ⟨Ay, cy, rfl⟩ := HY6.out.form
  rw [stringsV_len] at HXs6 HY6 ⊢
  rw [stringsV_len]
  generalize hXn : xs.length = X at *
  generalize hYn : ys.length = Y at *
  have HXn := Lib.hid hXn
  have HYn := Lib.hid hYn
  clear hXn hYn
  have HSx := Lib.hid (fun a b h1 h2 => slice_strs w6 HXs6.out a b h1 h2)
  have HSy := Lib.hid (fun a b h1 h2 => slice_strs w6 HY6.out a b h1 h2)
  rw [HXn.out] at HSx
  rw [HYn.out] at HSy
  obtain ⟨N, hN⟩ : ∃ N, N = P.length := ⟨_, rfl⟩
  have HN := Lib.hid hN.symm
  have hNf := HFw.out.1
  rw [← hN] at HX6 hNf ⊢
  clear hN
  go_wp2_with fail
  go_loopw [13] (fun i wr => ∃ j : Nat, j ≤ N ∧ i = .int .i64 j ∧ Hid (Below w6.heap.size w6 wr)) (fun i _ => N - (intOf i).toNat)
  case atStart => exact ⟨0, Nat.zero_le _, rfl, Lib.hid (Below.refl _ _)⟩
  case round =>
    obtain ⟨j, hj, rfl, HB⟩ := hrel
    obtain ⟨p0, p1, p2⟩ := (HX6.out.below HB.out).cells
    by_cases hlt : j < N
    · have hx : j < P.length := by rw [HN.out]; exact hlt
      obtain ⟨b1, o1, A2, c2, eA, x0, x1, x2, hr⟩ := RdP_at (HX6.out.below HB.out).2 j hx
      obtain rfl := eA
      obtain ⟨oF, nF, n1, n2, LN, eh, g1, g2, g3, g4, g5, g6, g7⟩ := HHk.out j hx
      rw [eh] at x0 x1 x2 hr
      simp only at x0 x1 x2 hr
      obtain ⟨S1, hs1, hr1⟩ := HSx.out oF (oF + n1) (by omega) g1
      obtain ⟨S2, hs2, hr2⟩ := HSy.out nF (nF + n2) (by omega) g2
      simp only [Int.natCast_add, Nat.add_sub_cancel_left] at hs1 hs2 hr1 hr2
      rw [← g3] at hr1
      rw [← g4] at hr2
      have HR1 := Lib.hid (fun V (hV : Below w6.heap.size w6 V) => hr1 V (HXs6.out.below hV))
      have HR2 := Lib.hid (fun V (hV : Below w6.heap.size w6 V) => hr2 V (HY6.out.below hV))
      have k1 : (notK 43 LN).length ≤ 2000 := Nat.le_trans (notK_le 43 LN) g7
      have k2 : (notK 45 LN).length ≤ 2000 := Nat.le_trans (notK_le 45 LN) g7
      have HLn : Hid (∀ (k : Int) (w' : World), Below wr.heap.size wr w' → Calls Tryz.prog 27 #[.agg #[.int .i64 (oF : Int), .int .i64 (nF : Int), .slice A2 LN.length c2], .int .u8 k] w' fun e w'' => ∃ A c, e = .returned (.slice A (notB k LN).length c) ∧ RdV w'' (.slice A (notB k LN).length c) (stringsV (notK k LN)) ∧ Below w'.heap.size w' w'') := Lib.hid (fun k w' hb => (LinesP_any oF nF _ LN k w' (hr.below hb) (by omega)).mono fun e w'' ⟨v, h1, h2, h3⟩ => by
        obtain ⟨A, c, rfl⟩ := Tx.own_len h2
        exact ⟨A, c, h1, rd_strs h2 rfl, h3⟩)
      obtain ⟨M, hM⟩ : ∃ M, M = LN.length := ⟨_, rfl⟩
      rw [← hM] at x2 HLn
      have G5 := Lib.hid g5
      have G6 := Lib.hid g6
      clear hM eh g3 g4 g5 g6 g7 hr hr1 hr2
      have HA1 := Lib.hid ((Below.refl wr.heap.size wr).alloc (Nat.le_refl _) (.cells #[.int .i64 (oF : Int), .int .i64 (nF : Int), .slice A2 M c2] tPh))
      have HG1 : Hid (Blk (wr.alloc (.cells #[.int .i64 (oF : Int), .int .i64 (nF : Int), .slice A2 M c2] tPh)) wr.heap.size tPh [.int .i64 (oF : Int), .int .i64 (nF : Int), .slice A2 M c2]) := Lib.hid (heap_new wr _)
      have i1 : (0 : Int) ≤ (j : Int) := by omega
      have i2 : (j : Int) < (N : Int) := by omega
      go_upto_region 11 with fail
      obtain ⟨W1, hW1⟩ : ∃ W1, W1 = wr.alloc (.cells #[.int .i64 (oF : Int), .int .i64 (nF : Int), .slice A2 M c2] tPh) := ⟨_, rfl⟩
      rw [← hW1] at HA1 HG1 ⊢
      clear hW1 x0 x1 x2 p0 p1 p2
      have HBr : Hid (Below W1.heap.size W1 W1.drew) := Lib.hid (Below.refl _ W1).drew
      have HWd : Hid (Below wr.heap.size wr W1.drew) := Lib.hid (HA1.out.drew)
      have HKp : Hid (∀ V : World, Below W1.heap.size W1 V → V.cell? ⟨wr.heap.size, 0, none⟩ = some (.int .i64 (oF : Int)) ∧ V.cell? ⟨wr.heap.size, 1, none⟩ = some (.int .i64 (nF : Int)) ∧ V.cell? ⟨wr.heap.size, 2, none⟩ = some (.slice A2 M c2)) := Lib.hid (fun V hV => by
        obtain ⟨x0, x1, x2, -, -⟩ := blk3 (HG1.out.below hV)
        exact ⟨x0, x1, x2⟩)
      go_region_held3 (fun V => V.cell? ⟨wr.heap.size, 0, none⟩ = some (.int .i64 (oF : Int)) ∧ V.cell? ⟨wr.heap.size, 1, none⟩ = some (.int .i64 (nF : Int)) ∧ V.cell? ⟨wr.heap.size, 2, none⟩ = some (.slice A2 M c2))
        (first | exact HKp.out _ HBr.out | exact (HKp.out _ HBr.out).1 | exact (HKp.out _ HBr.out).2.1 | exact (HKp.out _ HBr.out).2.2 | go_keep)
        ((go_at_call 27; refine (HLn.out _ _ HWd.out).mono ?_; rintro e w7 ⟨A7, c7, rfl, hr7, hb7⟩; have HBr := Lib.hid (HBr.out.trans (hb7.mono HBr.out.size)); have HWd := Lib.hid (HWd.out.trans (hb7.mono HWd.out.size)); (first | (rw [G5.out] at hr7 ⊢; have HK7 := Lib.hid (fun V (hV : Below w7.heap.size w7 V) => hr7.below hV)) | (rw [G6.out] at hr7 ⊢; have HK8 := Lib.hid hr7; have HK7 := Lib.hid (HK7.out _ hb7))); clear hr7 hb7))
      have HW7 := Lib.hid (HB.out.trans (HWd.out.mono HB.out.size))
      obtain ⟨x0, x1, x2⟩ := HKp.out _ HBr.out
      have HS1 := Lib.hid (Strings_same _ _ _ w7 (show (notK 43 LN).length ≤ 4611686018427387904 by omega) HK7.out (HR1.out _ HW7.out))
      go_wp2_with fail
      refine HS1.out.mono ?_
      rintro e w8 ⟨rfl, q, hq⟩
      have HBq : Hid (Below w7.heap.size w7 w8) := Lib.hid (by rw [hq]; exact Tx.below_drewN (Below.refl _ _) q)
      clear hq x0 x1 x2 HS1
      have HW8 := Lib.hid (HW7.out.trans (HBq.out.mono HW7.out.size))
      obtain ⟨x0, x1, x2⟩ := HKp.out _ (HBr.out.trans (HBq.out.mono HBr.out.size))
      have HS2 := Lib.hid (Strings_same _ _ _ w8 (show (notK 45 LN).length ≤ 4611686018427387904 by omega) (HK8.out.below HBq.out) (HR2.out _ HW8.out))
      go_wp2_with fail
      refine HS2.out.mono ?_
      rintro e w9 ⟨rfl, q, hq⟩
      have HBp : Hid (Below w8.heap.size w8 w9) := Lib.hid (by rw [hq]; exact Tx.below_drewN (Below.refl _ _) q)
      clear hq x0 x1 x2 HS2
      have HW9 := Lib.hid (HW8.out.trans (HBp.out.mono HW8.out.size))
      go_wp2_with fail
      go_roundw
      case rel => exact ⟨j + 1, by omega, by go_num, HW9⟩
      case measure => simp [intOf]; omega
    · obtain rfl : j = N := by omega
      have HWr := Lib.hid (HW6.out.trans (HB.out.mono HW6.out.size))
      have HA := Lib.hid (HAw.out wr HWr.out)
      go_wp2_with fail
      refine HA.out.mono ?_
      rintro e w7 ⟨rfl, hb⟩
      have HW7 := Lib.hid (HWr.out.trans (hb.mono HWr.out.size))
      clear hb
      go_wp2_with fail
      go_ret
      exact ⟨rfl, HW7.out⟩
end Uf
end
end Go.Proofs.YtlnghfmedkfkmaaGreatDoor

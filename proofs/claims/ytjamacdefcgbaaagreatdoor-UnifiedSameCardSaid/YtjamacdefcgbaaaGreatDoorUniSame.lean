/-
  The walk of the law UnifiedSame of layer 12. Condition: the table of powers.
-/
import Derived.Test.YtjamacdefcgbaaaGreatDoorUniSameM
import Derived.Test.YtjamacdefcgbaaaGreatDoorUniAw
import Derived.Test.YtjamacdefcgbaaaGreatDoorShoNea
namespace Go.Proofs.YtjamacdefcgbaaaGreatDoor
open Go.RowKit
namespace Uf
open Cm Hn
open Sc (Pow RdK)
open Tx (bs)
theorem rdI_V {w : World} {v : Value} {l : List Int} (h : RdV w v (intsV l)) (hb : ∀ z ∈ l, -9223372036854775808 ≤ z ∧ z ≤ 9223372036854775807) : Tx.RdI w v l.length := by
  obtain ⟨A, c, rfl, _, hc⟩ := h
  refine ⟨A, c, by rw [intsV_len], fun hp => ?_⟩
  obtain ⟨b, off, rfl, hcell⟩ := hc (by rw [intsV_len]; exact hp)
  refine ⟨b, off, rfl, fun j hj => ⟨l[j], ?_, hb _ (List.getElem_mem hj)⟩⟩
  rw [hcell j (by rw [intsV_len]; exact hj)]
  simp [intsV]
def oB : ByteArray := ⟨#[111]⟩
def nB : ByteArray := ⟨#[110]⟩
def AwPost (w : World) (e : Ending) (w' : World) : Prop := e = .returned (.bool true) ∧ Below w.heap.size w w'
/-- A made patch in its box. -/
def Bx (W : World) (B : Nat) (hs : List PH) (v : Value) : Prop := Blk W B tPat [.string oB, .string nB, v] ∧ RdP W v hs
theorem Bx.below {W W' : World} {B : Nat} {hs : List PH} {v : Value} (h : Bx W B hs v) (hb : Below W.heap.size W W') : Bx W' B hs v := ⟨h.1.below hb, h.2.below hb⟩
theorem Bx.new {W : World} {hs : List PH} {v : Value} (h : RdP W v hs) : Bx (W.alloc (.cells #[.string oB, .string nB, v] tPat)) W.heap.size hs v := ⟨heap_new W _, h.below ((Below.refl _ W).alloc (Nat.le_refl _) _)⟩
theorem Bx.cells {W : World} {B : Nat} {hs : List PH} {v : Value} (h : Bx W B hs v) : W.cell? ⟨B, 0, none⟩ = some (.string oB) ∧ W.cell? ⟨B, 1, none⟩ = some (.string nB) ∧ W.cell? ⟨B, 2, none⟩ = some v := ⟨h.1.cell (k := 0) (show 0 < 3 by decide), h.1.cell (k := 1) (show 1 < 3 by decide), h.1.cell (k := 2) (show 2 < 3 by decide)⟩
/-- Make with the laws' names. -/
theorem Make_on (s t : ByteArray) (ctx : Int) (down : Bool) (hs : s.size ≤ 1000) (ht : t.size ≤ 1000) (hc : 0 ≤ ctx ∧ ctx ≤ 1048576) (w : World) : Calls Tryz.prog 12 #[.string oB, .string nB, .string s, .string t, .int .i64 ctx, .bool down] w fun e w' => ∃ A c, e = .returned (.tuple #[.agg #[.string oB, .string nB, .slice A (patH (Sh.lnB s) (Sh.lnB t) ctx (scrD down s t)).length c], .int .i64 0]) ∧ OwnP w.heap.size w' (.slice A (patH (Sh.lnB s) (Sh.lnB t) ctx (scrD down s t)).length c) (patH (Sh.lnB s) (Sh.lnB t) ctx (scrD down s t)) ∧ Below w.heap.size w w' := by
  obtain ⟨e1, e2⟩ := mk_on (s := s) (t := t) (ctx := ctx) (down := down) (on := oB) (nn := nB) (by decide) (by decide) hc
  have h := Make_any oB nB s t ctx down hs ht w
  rw [e1, e2] at h
  refine h.mono ?_
  rintro e w' ⟨v, rfl, ho, hb⟩
  obtain ⟨A, c, rfl⟩ := ho.form
  exact ⟨A, c, rfl, ho, hb⟩
set_option maxRecDepth 100000 in
set_option maxHeartbeats 8000000 in
theorem same_walk (v : Value) (us : List Int) (ctx : Int) (w : World) (h : RdV w v (intsV us)) (hu : us.length ≤ maxLen) (hub : ∀ z ∈ us, -9223372036854775808 ≤ z ∧ z ≤ 9223372036854775807) (hc0 : -9223372036854775808 ≤ ctx) (hc1 : ctx ≤ 9223372036854775807) (hp : Pow w) :
    Calls Tryz.prog 7 #[v, .int .i64 ctx] w (AwPost w) := by
  have HAw := Lib.hid (fun w' (hb : Below w.heap.size w w') => awake_any w' (hp.stays hb))
  have HB0 := Lib.hid (Tx.Blob_any v us.length 0 9 3 w (rdI_V h hub) hu (by omega) (by omega) (by omega) (by omega) (by omega) (by omega))
  have HNr := Lib.hid (fun wq (hb : Below w.heap.size w wq) (a : ByteArray) (ha : a.size ≤ 36) => Sh.Near_any a v us 100 wq (h.below hb) hu (by omega) ⟨by omega, by omega⟩)
  obtain ⟨A, c, rfl⟩ := h.form
  have HMd := Lib.hid (fun w => Tx.Mod_any ctx 4 w (by omega) (by omega) hc0 hc1)
  have hm0 := Tx.modF_lo ctx 4 (by omega)
  have hm1 := Tx.modF_hi ctx 4 (by omega)
  clear h hu hub hc0 hc1 hp
  rw [intsV_len] at HB0 HNr ⊢
  generalize us.length = nu at *
  generalize Tx.modF ctx 4 = m at *
  unfold Tx.SomeStr at HB0 HNr
  rw [show (9 : Int).toNat = 9 from rfl] at HB0
  go_enter Tryz.func7, Tryz.ntmps7
  go_wp2_with fail
  refine (HB0.out).mono ?_
  rintro e w1 ⟨a, ha, rfl, hb⟩
  have HW1 := Lib.hid hb
  clear hb
  go_wp2_with fail
  refine (HNr.out _ HW1.out a (by omega)).mono ?_
  rintro e w2 ⟨b, hb', rfl, hb⟩
  have HW2 := Lib.hid (HW1.out.trans (hb.mono HW1.out.size))
  clear HW1 hb
  have hax : a.size ≤ 1000 := by omega
  have hbx : b.size ≤ 1000 := by omega
  have HM1 := Lib.hid (fun W => Make_on a b m false hax hbx ⟨by omega, by omega⟩ W)
  have HM2 := Lib.hid (fun W => Make_on a b m true hax hbx ⟨by omega, by omega⟩ W)
  have HM3 := Lib.hid (fun W => Make_on a a 3 true hax hax ⟨by omega, by omega⟩ W)
  have HC1 := Lib.hid (pat_few (ctx := m) (by omega) hax hbx false)
  have HC2 := Lib.hid (pat_few (ctx := m) (by omega) hax hbx true)
  have HE : Hid (cntP 45 (patH (Sh.lnB a) (Sh.lnB b) m (scrD true a b)) = cntP 45 (patH (Sh.lnB a) (Sh.lnB b) m (scrD false a b)) ∧ cntP 43 (patH (Sh.lnB a) (Sh.lnB b) m (scrD true a b)) = cntP 43 (patH (Sh.lnB a) (Sh.lnB b) m (scrD false a b))) := Lib.hid (by
    have h1 := pat_cnt (ctx := m) (by omega) hax hbx false
    have h2 := pat_cnt (ctx := m) (by omega) hax hbx true
    exact ⟨by omega, by omega⟩)
  rw [pat_self] at HM3
  generalize patH (Sh.lnB a) (Sh.lnB b) m (scrD false a b) = h1 at *
  generalize patH (Sh.lnB a) (Sh.lnB b) m (scrD true a b) = h2 at *
  rw [List.length_nil] at HM3
  go_wp2_with fail
  refine (HMd.out _).mono ?_
  rintro e w3 ⟨rfl, rfl⟩
  go_wp2_with fail
  refine (HM1.out _).mono ?_
  rintro e w3 ⟨A1, c1, rfl, ho, hb⟩
  have HW3 := Lib.hid ((HW2.out.trans (hb.mono HW2.out.size)).alloc (HW2.out.trans (hb.mono HW2.out.size)).size (.cells #[.string oB, .string nB, .slice A1 h1.length c1] tPat))
  have HX1 := Lib.hid (Bx.new ho.rd)
  clear HW2 hb ho
  go_wp2_with fail
  refine (HMd.out _).mono ?_
  rintro e w4 ⟨rfl, rfl⟩
  go_wp2_with fail
  refine (HM2.out _).mono ?_
  rintro e w4 ⟨A2, c2, rfl, ho, hb⟩
  have hb2 := hb.trans ((Below.refl w4.heap.size w4).alloc (Nat.le_refl _) (.cells #[.string oB, .string nB, .slice A2 h2.length c2] tPat) |>.mono hb.size)
  have HW4 := Lib.hid (HW3.out.trans (hb2.mono HW3.out.size))
  have HX1 := Lib.hid (HX1.out.below hb2)
  have HX2 := Lib.hid (Bx.new ho.rd)
  clear HW3 hb hb2 ho
  go_wp2_with fail
  refine (HM3.out _).mono ?_
  rintro e w5 ⟨A3, c3, rfl, ho, hb⟩
  have hb2 := hb.trans ((Below.refl w5.heap.size w5).alloc (Nat.le_refl _) (.cells #[.string oB, .string nB, .slice A3 0 c3] tPat) |>.mono hb.size)
  have HW5 := Lib.hid (HW4.out.trans (hb2.mono HW4.out.size))
  have HX1 := Lib.hid (HX1.out.below hb2)
  have HX2 := Lib.hid (HX2.out.below hb2)
  have HX3 := Lib.hid (Bx.new ho.rd)
  clear HW4 hb hb2 ho
  obtain ⟨W, hW⟩ : ∃ W, W = w5.alloc (.cells #[.string oB, .string nB, .slice A3 0 c3] tPat) := ⟨_, rfl⟩
  rw [← hW] at HX1 HX2 HX3 HW5
  have HWq := Lib.hid hW
  obtain ⟨p0, p1, p2⟩ := HX1.out.cells
  obtain ⟨q0, q1, q2⟩ := HX2.out.cells
  rw [hW] at p0 p1 p2 q0 q1 q2
  clear hW
  have HK1 : Hid (Calls Tryz.prog 18 #[.agg #[.string oB, .string nB, .slice A1 h1.length c1]] W (CtPost h1 W)) := Lib.hid (Count_any ⟨oB, nB, h1⟩ _ W HX1.out.2 HC1.out.1 (fun h hh => Nat.le_trans (HC1.out.2 h hh) (by decide)))
  rw [HWq.out] at HK1
  go_wp2_with fail
  refine HK1.out.mono ?_
  rw [← HWq.out]
  rintro e w6 ⟨rfl, hb⟩
  have HX2 := Lib.hid (HX2.out.below hb)
  have HX3 := Lib.hid (HX3.out.below hb)
  have HW6 := Lib.hid (HW5.out.trans (hb.mono HW5.out.size))
  have HK2 : Hid (Calls Tryz.prog 18 #[.agg #[.string oB, .string nB, .slice A2 h2.length c2]] w6 (CtPost h2 w6)) := Lib.hid (Count_any ⟨oB, nB, h2⟩ _ w6 HX2.out.2 HC2.out.1 (fun h hh => Nat.le_trans (HC2.out.2 h hh) (by decide)))
  obtain ⟨q0, q1, q2⟩ := HX2.out.cells
  clear hb p0 p1 p2
  go_wp2_with fail
  refine HK2.out.mono ?_
  rintro e w7 ⟨rfl, hb⟩
  have HX3 := Lib.hid (HX3.out.below hb)
  have HW7 := Lib.hid (HW6.out.trans (hb.mono HW6.out.size))
  obtain ⟨r0, r1, r2⟩ := HX3.out.cells
  clear hb
  obtain ⟨e1, e2⟩ := HE.out
  rw [e1, e2]
  clear e1 e2 HE HK1 HK2
  generalize cntP 45 h1 = na at *
  generalize cntP 43 h1 = nb at *
  have HA := Lib.hid (HAw.out w7 HW7.out)
  go_wp2_with fail
  refine HA.out.mono ?_
  rintro e w8 ⟨rfl, hb⟩
  have HW8 := Lib.hid (HW7.out.trans (hb.mono HW7.out.size))
  clear hb
  go_wp2_with fail
  go_ret
  exact ⟨rfl, HW8.out⟩
end Uf
end Go.Proofs.YtjamacdefcgbaaaGreatDoor

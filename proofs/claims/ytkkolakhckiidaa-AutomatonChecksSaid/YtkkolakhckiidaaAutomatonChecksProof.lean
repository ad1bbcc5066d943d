/-
  Proved: the law AutomatonChecks of layer 5 returns true for every input, and its arguments read as before. No conditions.
-/
import Derived.Test.YtkkolakhckiidaaAutoMade
import Derived.Test.YtkkolakhckiidaaAutoC
import Derived.Test.YtkkolakhckiidaaAutoFrame
import Derived.Test.YtkkolakhckiidaaAutoAwM
import Derived.Deep.Cut
import Derived.Deep.CutBlock
import Derived.Deep.DeepFit
import Derived.Deep.RegionHeld3
namespace Go.Proofs.Ytkkolakhckiidaa
open Go.ChangeShapes Go.WideShapes Go.ChangeAt Go.RowKit
open Go.ChangeMaps (open_string shut_string)
namespace Px.AutomatonChecks
open Cm Rx Au
theorem below_trA {w w1 w2 : World} (h : Below w.heap.size w w1) (hb : Below w1.heap.size w1 w2) : Below w.heap.size w w2 := h.trans (hb.mono h.size)
theorem flatS_set : ∀ (ss : List St) (m : Nat) (s' : St) (i : Nat) (u : Value) (hm : m < ss.length), i < 7 → (stC ss[m]).set i u = stC s' → (flatS ss).set (m * 7 + i) u = flatS (ss.set m s')
  | [], _, _, _, _, h, _, _ => absurd h (Nat.not_lt_zero _)
  | s :: ss, 0, s', i, u, _, hi, e => by
    show (stC s ++ flatS ss).set (0 * 7 + i) u = stC s' ++ flatS ss
    rw [List.set_append, if_pos (by show 0 * 7 + i < 7; omega), Nat.zero_mul, Nat.zero_add]
    exact congrArg (fun l => l ++ flatS ss) e
  | s :: ss, m + 1, s', i, u, h, hi, e => by
    show (stC s ++ flatS ss).set ((m + 1) * 7 + i) u = stC s ++ flatS (ss.set m s')
    rw [List.set_append, if_neg (by show ¬ (m + 1) * 7 + i < 7; omega), show (m + 1) * 7 + i - (stC s).length = m * 7 + i by show (m + 1) * 7 + i - 7 = _; omega, flatS_set ss m s' i u (by simpa using h) hi e]
theorem sel4 {V w6 : World} {H Q : Nat} {u0 u1 u2 u3 : Value} (B : Below V.heap.size V w6) (h : V.cell? ⟨H, 0, none⟩ = some u0 ∧ V.cell? ⟨H, 1, none⟩ = some u1 ∧ V.cell? ⟨Q, 0, none⟩ = some u2 ∧ V.cell? ⟨Q, 1, none⟩ = some u3) :
    w6.cell? ⟨H, 0, none⟩ = some u0 ∧ w6.cell? ⟨H, 1, none⟩ = some u1 ∧ w6.cell? ⟨Q, 0, none⟩ = some u2 ∧ w6.cell? ⟨Q, 1, none⟩ = some u3 := by
  obtain ⟨h0, h1, h2, h3⟩ := h
  have e : ∀ (b i : Nat) (y : Value), V.cell? ⟨b, i, none⟩ = some y → w6.cell? ⟨b, i, none⟩ = some y := fun b i y hy => (B.cell (p := ⟨b, i, none⟩) (Tx.cell_lt hy)).trans hy
  exact ⟨e _ _ _ h0, e _ _ _ h1, e _ _ _ h2, e _ _ _ h3⟩
/-- The law's automata while it goes on. -/
structure CkI (w wx : World) (A : Option Addr) (m c : Nat) (st : Int) (Q g k cS : Nat) (ss : List St) (s0 : Int) : Prop where
  b : Below w.heap.size w wx
  x : wx.heap[w.heap.size]? = some (.cells #[.slice A m c, .int .i64 st] tAuM (0, 0))
  y : wx.heap[Q]? = some (.cells #[.slice (some ⟨g, 0, none⟩) k cS, .int .i64 s0] tAuM (0, 0))
  o : wx.ownsRow (w.heap.size + 1) tSt 7 (.slice (some ⟨g, 0, none⟩) k cS) k (flatS ss)
  l : ss.length = k
  n : g < Q ∧ w.heap.size < g
theorem CkI.below {w wx wy : World} {A : Option Addr} {m c Q g k cS : Nat} {st s0 : Int} {ss : List St} (h : CkI w wx A m c st Q g k cS ss s0) (hb : Below wx.heap.size wx wy) : CkI w wy A m c st Q g k cS ss s0 :=
  ⟨h.b.trans (hb.mono h.b.size), (hb.block _ (lt_some h.x)).trans h.x, (hb.block _ (lt_some h.y)).trans h.y, own_same h.o (fun j hj => hb.block j hj), h.l, h.n⟩
theorem CkI.setStart {w wx : World} {A : Option Addr} {m c Q g k cS : Nat} {st s0 : Int} {ss : List St} (h : CkI w wx A m c st Q g k cS ss s0) (z : Int) : CkI w (wx.setCell ⟨Q, 1, none⟩ (.int .i64 z)) A m c st Q g k cS ss z := by
  obtain ⟨n1, n2⟩ := h.n
  refine ⟨h.b.setCell (p := ⟨Q, 1, none⟩) (by show w.heap.size ≤ Q; omega) _, (Below.heap_setCell _ _ _ _ (by show w.heap.size ≠ Q; omega)).trans h.x, set_block (o := 1) (u := .int .i64 z) h.y, ?_, h.l, h.n⟩
  exact ownsRow_setCell_other (a := ⟨Q, 1, none⟩) h.o (by simp [Value.ownBlock]; omega) _
theorem CkI.setSt {w wx : World} {A : Option Addr} {m c Q g k cS q : Nat} {st s0 : Int} {ss : List St} (h : CkI w wx A m c st Q g k cS ss s0) (i : Nat) (z : Int) (s' : St) (hq : q < ss.length) (hi : i < 7) (hs : (stC ss[q]).set i (.int .i64 z) = stC s') :
    CkI w (wx.setCell ⟨g, q * 7 + i, none⟩ (.int .i64 z)) A m c st Q g k cS (ss.set q s') s0 := by
  obtain ⟨n1, n2⟩ := h.n
  refine ⟨h.b.setCell (p := ⟨g, q * 7 + i, none⟩) (by show w.heap.size ≤ g; omega) _, (Below.heap_setCell _ _ _ _ (by show w.heap.size ≠ g; omega)).trans h.x, (Below.heap_setCell _ _ _ _ (by show Q ≠ g; omega)).trans h.y, ?_, by rw [List.length_set]; exact h.l, h.n⟩
  have h2 := h.o.stored (q * 7 + i) (.int .i64 z)
  rw [flatS_set ss q s' i _ hq hi hs] at h2
  exact h2.1
theorem CkI.at {w wx : World} {A : Option Addr} {m c Q g k cS q : Nat} {st s0 : Int} {ss : List St} (h : CkI w wx A m c st Q g k cS ss s0) (hq : q < ss.length) (i : Nat) (hi : i < 7) : wx.cell? ⟨g, q * 7 + i, none⟩ = (stC ss[q])[i]? := by
  have hl := flatS_len ss
  rw [h.o.cellAt (q * 7 + i) (by rw [← h.l]; omega), flatS_get ss q hq i hi]
set_option maxRecDepth 100000 in
set_option maxHeartbeats 1000000 in
theorem walk_long (va vr : Value) (ss : List St) (st : Int) (n what at_ by_ : Int) (w : World) (hva : RdA w va ss) (hs : (20 : Int) < (ss.length : Int)) (haw : ∀ W : World, Calls Try.prog 17 #[] W fun e w' => e = .returned (.bool true) ∧ Below W.heap.size W w') :
    Calls Try.prog 7 #[.agg #[va, .int .i64 st], vr, .int .i64 n, .int .i64 what, .int .i64 at_, .int .i64 by_] w fun e w' => e = .returned (.bool true) ∧ Below w.heap.size w w' := by
  obtain ⟨A, c, rfl, _⟩ := hva
  have HB1 : Hid (Below w.heap.size w (w.alloc (.cells #[.slice A ss.length c, .int .i64 st] tAuM))) := Lib.hid ((Below.refl _ _).alloc (Nat.le_refl _) _)
  go_enter Try.func7, Try.ntmps7
  go_upto_region 1 with fail
  have c0 := any_new w #[.slice A ss.length c, .int .i64 st] tAuM 0 _ rfl
  generalize w.alloc (.cells #[.slice A ss.length c, .int .i64 st] tAuM) = w1 at HB1 c0 ⊢
  go_wp2_with (go_at_call 17; refine (haw _).mono ?_; rintro e w9 ⟨rfl, B9⟩; have HB9 := Lib.hid (below_trA HB1.out B9); clear B9)
  go_ret
  exact ⟨rfl, HB9.out⟩
set_option maxRecDepth 100000 in
set_option maxHeartbeats 1000000 in
theorem walk_short (va vr : Value) (ss : List St) (st : Int) (lr : List Int) (n what at_ by_ : Int) (w : World) (hva : RdA w va ss) (hs : ss.length ≤ 20) (hr : RdV w vr (intsV lr)) (hrl : lr.length ≤ maxLen) (bn : -9223372036854775808 ≤ n ∧ n ≤ 9223372036854775807) (bw : -9223372036854775808 ≤ what ∧ what ≤ 9223372036854775807) (ba : -9223372036854775808 ≤ at_ ∧ at_ ≤ 9223372036854775807) (bb : -9223372036854775808 ≤ by_ ∧ by_ ≤ 9223372036854775807)
    (haw : ∀ W : World, Calls Try.prog 17 #[] W fun e w' => e = .returned (.bool true) ∧ Below W.heap.size W w') :
    Calls Try.prog 7 #[.agg #[va, .int .i64 st], vr, .int .i64 n, .int .i64 what, .int .i64 at_, .int .i64 by_] w fun e w' => e = .returned (.bool true) ∧ Below w.heap.size w w' := by
  have HMade := Lib.hid (fun (wq : World) (hb : Below w.heap.size w wq) => made_any vr lr n wq (hr.below hb) hrl bn)
  have HMw := Lib.hid (fun wq => Tx.Mod_any what 5 wq (by decide) (by decide) bw.1 bw.2)
  have HMb := Lib.hid (fun (m : Int) (h0 : 0 < m) (h1 : m ≤ 1000) wq => Tx.Mod_any by_ m wq h0 (by omega) bb.1 bb.2)
  have HMa := Lib.hid (fun (m : Int) (h0 : 0 < m) (h1 : m ≤ 1000) wq => Tx.Mod_any at_ m wq h0 (by omega) ba.1 ba.2)
  have HRa := Lib.hid hva
  have HSm := Lib.hid (madeS_len lr n)
  have hmn := madeN_bd n
  generalize madeS lr n = sM at *
  generalize madeT lr n = sT at *
  generalize madeN n = mN at *
  obtain ⟨A, c, rfl, hx0⟩ := hva
  clear hx0 hr hrl bn bw ba bb
  have t20 : decide ((20 : Int) < (ss.length : Int)) = false := by simp only [decide_eq_false_iff_not]; omega
  generalize hml : ss.length = m at *
  have HMl := Lib.hid hml
  clear hml
  have HB1 : Hid (Below w.heap.size w (w.alloc (.cells #[.slice A m c, .int .i64 st] tAuM))) := Lib.hid ((Below.refl _ _).alloc (Nat.le_refl _) _)
  have HS1 : Hid ((w.alloc (.cells #[.slice A m c, .int .i64 st] tAuM)).heap.size = w.heap.size + 1) := Lib.hid (by simp)
  have HX1 : Hid ((w.alloc (.cells #[.slice A m c, .int .i64 st] tAuM)).heap[w.heap.size]? = some (.cells #[.slice A m c, .int .i64 st] tAuM (0, 0))) := Lib.hid (heap_new w _)
  go_enter Try.func7, Try.ntmps7
  go_upto_region 1 with fail
  have c0 := any_new w #[.slice A m c, .int .i64 st] tAuM 0 _ rfl
  generalize w.alloc (.cells #[.slice A m c, .int .i64 st] tAuM) = w1 at HB1 HX1 HS1 c0 ⊢
  go_wp2_with fail
  refine (HMade.out w1 HB1.out).mono ?_
  rintro e w2 ⟨vS, rfl, ho, hb2⟩
  obtain ⟨AS, cS, hvS, _⟩ := RdA.of_own ho
  subst hvS
  have HO2 := Lib.hid ho
  have HB2 := Lib.hid (below_trA HB1.out hb2)
  have HX2 := Lib.hid ((hb2.block _ (lt_some HX1.out)).trans HX1.out)
  clear ho hb2 c0
  go_upto_region 4 with fail
  have hk0 : 0 < sM.length := by rw [HSm.out]; omega
  have HI3 : Hid (∃ g, AS = some ⟨g, 0, none⟩ ∧ CkI w (w2.alloc (.cells #[.slice AS sM.length cS, .int .i64 sT] tAuM)) A m c st w2.heap.size g sM.length cS sM sT) := Lib.hid (by
    have hs1 : w1.heap.size = w.heap.size + 1 := HS1.out
    have ho := HO2.out
    rw [hs1] at ho
    rcases ho.2 with ⟨e, h0⟩ | ⟨g, cap, cur, e, hg, hh, _⟩
    · omega
    · have e2 : AS = some ⟨g, 0, none⟩ := by injection e
      subst e2
      refine ⟨g, rfl, HB2.out.alloc HB2.out.size _, (Below.heap_alloc _ _ _ (lt_some HX2.out)).trans HX2.out, heap_new w2 _, own_same ho (fun j hj => Below.heap_alloc _ _ _ hj), rfl, lt_some hh, by omega⟩)
  generalize w2.alloc (.cells #[.slice AS sM.length cS, .int .i64 sT] tAuM) = w3 at HI3 ⊢
  obtain ⟨g, rfl, hI3⟩ := HI3.out
  have HI := Lib.hid hI3
  clear HI3 hI3 HO2 HB2 HX2 HMade
  generalize w2.heap.size = Q at HI ⊢
  have hkb : sM.length ≤ 7 := by rw [HSm.out]; omega
  obtain ⟨k, hk⟩ : ∃ k, k = sM.length := ⟨_, rfl⟩
  have HK := Lib.hid hk.symm
  rw [← hk] at HI hk0 hkb ⊢
  clear hk
  have hq0 := Tx.modF_lo at_ (k : Int) (by omega)
  have hq1 := Tx.modF_hi at_ (k : Int) (by omega)
  have HMk := Lib.hid (HMa.out (k : Int) (by omega) (by omega))
  generalize Tx.modF at_ (k : Int) = qz at hq0 hq1 HMk
  obtain ⟨q, rfl⟩ : ∃ q : Nat, qz = (q : Int) := ⟨qz.toNat, by omega⟩
  have hq : q < k := by omega
  go_cut [14] from 23 (fun v wx => v = .pointer (some ⟨g, q * 7, none⟩) ∧ Hid (CkI w wx A m c st Q g k cS sM sT))
  case first =>
    have y0 : w3.cell? ⟨Q, 0, none⟩ = some (.slice (some ⟨g, 0, none⟩) k cS) := by simp [World.cell?, HI.out.y]
    have HID := Lib.hid (HI.out.below ((Below.refl w3.heap.size w3).drew))
    go_region_with (first | (go_at_call 19; refine (HMk.out _).mono ?_; rintro e w7 ⟨rfl, rfl⟩))
    all_goals
      go_wp2_with fail
      go_meet
      case rel => exact ⟨by simp, HID⟩
  case rest =>
    obtain ⟨rfl, HI4⟩ := hcut
    clear HI
    have hw0 := Tx.modF_lo what 5 (by decide)
    have hw1 := Tx.modF_hi what 5 (by decide)
    generalize Tx.modF what 5 = r5 at hw0 hw1 HMw
    first
      | (go_upto_block 0 with (go_at_call 19; refine (HMw.out _).mono ?_; rintro e w7 ⟨rfl, rfl⟩))
      | (go_upto_block 1 with (go_at_call 19; refine (HMw.out _).mono ?_; rintro e w7 ⟨rfl, rfl⟩))
      | (go_upto_block 2 with (go_at_call 19; refine (HMw.out _).mono ?_; rintro e w7 ⟨rfl, rfl⟩))
    go_cut [14] from 33 (fun v wx => v = .pointer (some ⟨g, q * 7, none⟩) ∧ ∃ (ss2 : List St) (s2 : Int), Hid (CkI w wx A m c st Q g k cS ss2 s2))
    case first =>
      have hqs : q < sM.length := by rw [HK.out]; exact hq
      have hr5 : r5 = 0 ∨ r5 = 1 ∨ r5 = 2 ∨ r5 = 3 ∨ r5 = 4 := by omega
      clear hw0 hw1
      rcases hr5 with rfl | rfl | rfl | rfl | rfl
      · clear HMw
        have HMq := Lib.hid (HMb.out 9 (by decide) (by decide))
        generalize Tx.modF by_ 9 = zb at HMq
        have c0 : wc.cell? ⟨g, q * 7, none⟩ = some (.int .i64 sM[q].kind) := HI4.out.at hqs 0 (by decide)
        have f0 : wc.frozen? ⟨g, q * 7, none⟩ = false := HI4.out.o.frozenAt _
        have HSet : Hid (∀ z, CkI w (wc.drew.setCell ⟨g, q * 7, none⟩ (.int .i64 z)) A m c st Q g k cS (sM.set q { sM[q] with kind := z }) sT) := Lib.hid (fun z => (HI4.out.below ((Below.refl wc.heap.size wc).drew)).setSt 0 z _ hqs (by decide) rfl)
        generalize sM[q] = sq at c0 HSet
        generalize sq.kind = v0 at c0
        go_upto_region 7 with fail
        go_region_with (first | (go_at_call 19; refine (HMq.out _).mono ?_; rintro e w7 ⟨rfl, rfl⟩))
        all_goals
          go_wp2_with fail
          go_meet
          case rel => exact ⟨rfl, _, _, Lib.hid (HSet.out _)⟩
      · clear HMw
        have HMq := Lib.hid (HMb.out 20 (by decide) (by decide))
        generalize Tx.modF by_ 20 = zb at HMq
        have c0 : wc.cell? ⟨g, q * 7 + 5, none⟩ = some (.int .i64 sM[q].next) := HI4.out.at hqs 5 (by decide)
        have f0 : wc.frozen? ⟨g, q * 7 + 5, none⟩ = false := HI4.out.o.frozenAt _
        have HSet : Hid (∀ z, CkI w (wc.drew.setCell ⟨g, q * 7 + 5, none⟩ (.int .i64 z)) A m c st Q g k cS (sM.set q { sM[q] with next := z }) sT) := Lib.hid (fun z => (HI4.out.below ((Below.refl wc.heap.size wc).drew)).setSt 5 z _ hqs (by decide) rfl)
        generalize sM[q] = sq at c0 HSet
        generalize sq.next = v0 at c0
        go_upto_region 9 with fail
        go_region_with (first | (go_at_call 19; refine (HMq.out _).mono ?_; rintro e w7 ⟨rfl, rfl⟩))
        all_goals
          go_wp2_with fail
          go_meet
          case rel => exact ⟨rfl, _, _, Lib.hid (HSet.out _)⟩
      · clear HMw
        have HMq := Lib.hid (HMb.out 20 (by decide) (by decide))
        generalize Tx.modF by_ 20 = zb at HMq
        have c0 : wc.cell? ⟨g, q * 7 + 6, none⟩ = some (.int .i64 sM[q].other) := HI4.out.at hqs 6 (by decide)
        have f0 : wc.frozen? ⟨g, q * 7 + 6, none⟩ = false := HI4.out.o.frozenAt _
        have HSet : Hid (∀ z, CkI w (wc.drew.setCell ⟨g, q * 7 + 6, none⟩ (.int .i64 z)) A m c st Q g k cS (sM.set q { sM[q] with other := z }) sT) := Lib.hid (fun z => (HI4.out.below ((Below.refl wc.heap.size wc).drew)).setSt 6 z _ hqs (by decide) rfl)
        generalize sM[q] = sq at c0 HSet
        generalize sq.other = v0 at c0
        go_upto_region 11 with fail
        go_region_with (first | (go_at_call 19; refine (HMq.out _).mono ?_; rintro e w7 ⟨rfl, rfl⟩))
        all_goals
          go_wp2_with fail
          go_meet
          case rel => exact ⟨rfl, _, _, Lib.hid (HSet.out _)⟩
      · clear HMw
        have HMq := Lib.hid (HMb.out 20 (by decide) (by decide))
        generalize Tx.modF by_ 20 = zb at HMq
        have c0 : wc.cell? ⟨Q, 1, none⟩ = some (.int .i64 sT) := by simp [World.cell?, HI4.out.y]
        have f0 : wc.frozen? ⟨Q, 1, none⟩ = false := by simp [World.frozen?, HI4.out.y]
        have HSet : Hid (∀ z, CkI w (wc.drew.setCell ⟨Q, 1, none⟩ (.int .i64 z)) A m c st Q g k cS sM z) := Lib.hid (fun z => (HI4.out.below ((Below.refl wc.heap.size wc).drew)).setStart z)
        go_upto_region 13 with fail
        go_region_with (first | (go_at_call 19; refine (HMq.out _).mono ?_; rintro e w7 ⟨rfl, rfl⟩))
        all_goals
          go_wp2_with fail
          go_meet
          case rel => exact ⟨rfl, _, _, Lib.hid (HSet.out _)⟩
      · clear HMw
        go_wp2_with fail
        go_meet
        case rel => exact ⟨rfl, _, _, HI4⟩
    case rest =>
      obtain ⟨rfl, ss2, s2, HI5⟩ := hcut
      clear HI4 hw0 hw1 HMw
      have x0 : wc.cell? ⟨w.heap.size, 0, none⟩ = some (.slice A m c) := by simp [World.cell?, HI5.out.x]
      have x1 : wc.cell? ⟨w.heap.size, 1, none⟩ = some (.int .i64 st) := by simp [World.cell?, HI5.out.x]
      have y0 : wc.cell? ⟨Q, 0, none⟩ = some (.slice (some ⟨g, 0, none⟩) k cS) := by simp [World.cell?, HI5.out.y]
      have y1 : wc.cell? ⟨Q, 1, none⟩ = some (.int .i64 s2) := by simp [World.cell?, HI5.out.y]
      have HS1 := Lib.hid (And.intro x0 (And.intro x1 (And.intro y0 y1)))
      have HRb : Hid (RdA wc (.slice (some ⟨g, 0, none⟩) k cS) ss2) := Lib.hid (RdA.of_own (by rw [HI5.out.l]; exact HI5.out.o))
      have HCa := Lib.hid (fun (V : World) (hb : Below wc.heap.size wc V) => CheckA_any _ ss st V ((HRa.out.below HI5.out.b).below hb) (by rw [HMl.out]; omega))
      have HDa := Lib.hid (fun (V : World) (hb : Below wc.heap.size wc V) => CheckAR_any _ ss st V ((HRa.out.below HI5.out.b).below hb) (by rw [HMl.out]; omega))
      have HCb := Lib.hid (fun (V : World) (hb : Below wc.heap.size wc V) => CheckA_any _ ss2 s2 V (HRb.out.below hb) (by rw [HI5.out.l]; omega))
      have HDb := Lib.hid (fun (V : World) (hb : Below wc.heap.size wc V) => CheckAR_any _ ss2 s2 V (HRb.out.below hb) (by rw [HI5.out.l]; omega))
      generalize checkA ss st = z1 at HCa HDa
      generalize checkA ss2 s2 = z2 at HCb HDb
      have HBn : Hid (Below wc.heap.size wc wc.drew) := Lib.hid ((Below.refl _ _).drew)
      go_upto_region 14 with fail
      go_region_held3 (fun V => V.cell? ⟨w.heap.size, 0, none⟩ = some (.slice A m c) ∧ V.cell? ⟨w.heap.size, 1, none⟩ = some (.int .i64 st) ∧ V.cell? ⟨Q, 0, none⟩ = some (.slice (some ⟨g, 0, none⟩) k cS) ∧ V.cell? ⟨Q, 1, none⟩ = some (.int .i64 s2)) (first | exact HS1.out) (first | (go_at_call 28; go_fit (HCa.out _ HBn.out); rintro e w6 ⟨rfl, B6⟩; have HS1 := Lib.hid (sel4 B6 HS1.out); have HBn := Lib.hid (HBn.out.trans (B6.mono HBn.out.size)); clear B6) | (go_at_call 28; go_fit (HCb.out _ HBn.out); rintro e w6 ⟨rfl, B6⟩; have HS1 := Lib.hid (sel4 B6 HS1.out); have HBn := Lib.hid (HBn.out.trans (B6.mono HBn.out.size)); clear B6) | (go_at_call 23; go_fit (HDa.out _ HBn.out); rintro e w6 ⟨rfl, B6⟩; have HS1 := Lib.hid (sel4 B6 HS1.out); have HBn := Lib.hid (HBn.out.trans (B6.mono HBn.out.size)); clear B6) | (go_at_call 23; go_fit (HDb.out _ HBn.out); rintro e w6 ⟨rfl, B6⟩; have HS1 := Lib.hid (sel4 B6 HS1.out); have HBn := Lib.hid (HBn.out.trans (B6.mono HBn.out.size)); clear B6) | (go_at_call 17; go_fit (haw _); rintro e w6 ⟨rfl, B6⟩; have HS1 := Lib.hid (sel4 B6 HS1.out); have HBn := Lib.hid (HBn.out.trans (B6.mono HBn.out.size)); clear B6))
      all_goals
        have HFin := Lib.hid (HI5.out.b.trans (HBn.out.mono HI5.out.b.size))
        go_wp2_with fail
        go_ret
        exact ⟨rfl, HFin.out⟩
theorem walk (va vr : Value) (ss : List St) (st : Int) (lr : List Int) (n what at_ by_ : Int) (w : World) (hva : RdA w va ss) (hr : RdV w vr (intsV lr)) (hrl : lr.length ≤ maxLen) (bn : -9223372036854775808 ≤ n ∧ n ≤ 9223372036854775807) (bw : -9223372036854775808 ≤ what ∧ what ≤ 9223372036854775807) (ba : -9223372036854775808 ≤ at_ ∧ at_ ≤ 9223372036854775807) (bb : -9223372036854775808 ≤ by_ ∧ by_ ≤ 9223372036854775807)
     :
    Calls Try.prog 7 #[.agg #[va, .int .i64 st], vr, .int .i64 n, .int .i64 what, .int .i64 at_, .int .i64 by_] w fun e w' => e = .returned (.bool true) ∧ Below w.heap.size w w' := by
  by_cases h : ss.length ≤ 20
  · exact walk_short va vr ss st lr n what at_ by_ w hva h hr hrl bn bw ba bb (fun W => awake5_any W)
  · exact walk_long va vr ss st n what at_ by_ w hva (by omega) (fun W => awake5_any W)
set_option maxRecDepth 100000 in
theorem lifted (os : Os) (started : os.Started) (H : Type) (enc : TypeId × Value → H) :
    ReturnsInHanded {} Try.checked os 7 .any (Rows.automatonChecksSpec.pre6 enc Try.prog Try.f7 Rows.automatonChecksRow.domain false) (Rows.automatonChecksSpec.post enc Try.prog Try.f7 false true false false) := by
  refine returnsInHanded_of_change_shaped (C := Try.checked) own started (by kernel_rfl) Try.func7
    (ChangeSpec.witness6 (enc := enc) (C := Try.checked) false ⟨#[], #[.agg #[.slice none 0 0, .int .i64 0], .slice none 0 0, .int .i64 0, .int .i64 0, .int .i64 0, .int .i64 0], []⟩ 8 (by kernel_rfl) (by kernel_rfl) (by kernel_rfl) (by kernel_rfl)) ?_
  intro W base args ds gs before hval0 hW _ _ hsh _
  have hval : ∀ (j : Nat) t v, Try.f7.params[j]? = some t → args[j]? = some v → Value.okWide Try.prog W .any base t v := hval0
  have hW' := hW
  obtain ⟨p, q, hA0, hV, rfl, hfz, hnd⟩ := hW
  have hA : DataW.TrodAll enc Try.prog W 0 (fun _ => true) true Try.f7.params.toList args.toList ds p := hA0
  rw [Try.params7] at hA hval
  obtain ⟨v0, v1, v2, v3, v4, v5, d0, d1, d2, d3, d4, d5, p0, p1, p2, p3, p4, p5, rfl, rfl, rfl, h0, h1, h2, h3, h4, h5⟩ := trodAll_six hA
  obtain ⟨rfl, rfl⟩ := trodVars_none hV
  have k0 := h0
  have lt0 : ∀ x ∈ p0, x.block < W.heap.size := by obtain ⟨m, hm⟩ := k0; exact DataW.trod_lt m _ _ _ hm
  obtain ⟨c0, e0, y0, z0, m0, hv0, _, _, hy0, hz0⟩ := Go.Joins.open_agg2 Try.underlying40 (by kernel_rfl) (show Try.prog.cellsOf 40 = 2 from by kernel_rfl) (hval 0 40 v0 rfl rfl) h0
  subst hv0
  obtain ⟨aT, ez0, _, wz0⟩ := DataW.trod_int Try.underlying3 hz0
  obtain rfl : e0 = .int .i64 aT := by simpa using ez0
  obtain ⟨a, r0, s0, t0⟩ := open_statesV hy0
  obtain ⟨A1, n1, c1, rfl⟩ := okWide_slice Try.underlying30 (hval 1 30 v1 rfl rfl)
  have k1 := h1
  have lt1 : ∀ x ∈ p1, x.block < W.heap.size := by obtain ⟨m, hm⟩ := k1; exact DataW.trod_lt m _ _ _ hm
  obtain ⟨raw, r1, s1, t1⟩ : ∃ l : List Int, RdV W (.slice A1 n1 c1) (intsV l) ∧ l.length ≤ maxLen ∧ ∀ z ∈ l, -9223372036854775808 ≤ z ∧ z ≤ 9223372036854775807 := by obtain ⟨fuel, hf⟩ := h1; exact open_intsV hf
  obtain ⟨n, rfl, rfl, rfl, wn⟩ := open_int Try.underlying3 (hval 2 3 v2 rfl rfl) h2
  have bn := bounds_int wn
  obtain ⟨what, rfl, rfl, rfl, wwhat⟩ := open_int Try.underlying3 (hval 3 3 v3 rfl rfl) h3
  have bwhat := bounds_int wwhat
  obtain ⟨at_, rfl, rfl, rfl, wat_⟩ := open_int Try.underlying3 (hval 4 3 v4 rfl rfl) h4
  have bat_ := bounds_int wat_
  obtain ⟨by_, rfl, rfl, rfl, wby_⟩ := open_int Try.underlying3 (hval 5 3 v5 rfl rfl) h5
  have bby_ := bounds_int wby_
  clear hA0 hval0
  simp only [List.append_nil] at hW'
  refine (walk _ _ a aT raw n what at_ by_ W r0 r1 s1 bn bwhat bat_ bby_).mono fun e W' ⟨he, hbel⟩ => ?_
  subst he
  exact ⟨_, rfl, _, _, _, [], _, [], hW', trodAll_mk1 (shut_bool Try.underlying4 _), trodAll_mk6 (Below.trod laidOut (by kernel_rfl) (of_decide_eq_true (by kernel_rfl)) k0 hbel lt0) (Below.trod laidOut (by kernel_rfl) (of_decide_eq_true (by kernel_rfl)) k1 hbel lt1) (shut_int Try.underlying3 wn) (shut_int Try.underlying3 wwhat) (shut_int Try.underlying3 wat_) (shut_int Try.underlying3 wby_), rfl, hbel.frame _, fun h => by cases h⟩
theorem row_holds : Rows.AutomatonChecksSaid :=
  OpenClaim.holds_of_wide 7 Try.f7 rfl rfl rfl rfl rfl rfl rfl ⟨rfl, rfl, rfl, rfl, rfl⟩ rfl rfl rfl rfl rfl (by kernel_rfl) Try.func7 (by kernel_rfl)
    (of_decide_eq_true (by kernel_rfl)) (by unfold Func.isWrapper; first | (rw [if_pos (by decide +kernel)]; kernel_rfl) | (rw [if_neg (by decide +kernel)]; exact ⟨rfl, rfl⟩))
    (fun os started H enc _ => lifted os started H enc)
end Px.AutomatonChecks
end Go.Proofs.Ytkkolakhckiidaa

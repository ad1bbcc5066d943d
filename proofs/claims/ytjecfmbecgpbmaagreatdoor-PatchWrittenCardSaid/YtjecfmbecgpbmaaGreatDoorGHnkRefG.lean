/- Facts; each states its conditions. -/
import Derived.Test.YtjecfmbecgpbmaaGreatDoorGHnkProg
import Derived.Test.YtjecfmbecgpbmaaGreatDoorGScrBase
import Derived.Laws.OwnMore
import Derived.Deep.AppendLies
namespace Go.Proofs.YtjecfmbecgpbmaaGreatDoor
section
namespace Cm
end Cm
namespace Sc
end Sc
open Go.RowKit
namespace Hn
open Cm Sc
theorem flat_set {α : Type} {k : Nat} {enc : α → List Value} (he : ∀ x, (enc x).length = k) : ∀ (xs : List α) (j : Nat) (hj : j < xs.length) (i : Nat) (_ : i < k) (u : Value) (y : α), enc y = (enc xs[j]).set i u → (flatK enc xs).set (j * k + i) u = flatK enc (xs.set j y)
 | [], j, h, _, _, _, _, _ => absurd h (Nat.not_lt_zero _)
 | s :: ss, 0, _, i, hi, u, y, hy => by
   show (enc s ++ flatK enc ss).set (0 * k + i) u = enc y ++ flatK enc ss
   rw [Nat.zero_mul, Nat.zero_add, List.set_append_left _ _ (by rw [he]; exact hi), hy]
   rfl
 | s :: ss, j + 1, h, i, hi, u, y, hy => by
   show (enc s ++ flatK enc ss).set ((j + 1) * k + i) u = enc s ++ flatK enc (ss.set j y)
   rw [List.set_append_right _ _ (by rw [he, Nat.succ_mul]; omega), he, show (j + 1) * k + i - k = j * k + i by rw [Nat.succ_mul]; omega, flat_set he ss j (by simpa using h) i hi u y hy]
theorem OwnH.block {base : Nat} {w : World} {v : Value} {l : List Hk} (h : OwnH base w v l) (hp : 0 < l.length) : ∃ g c, v = .slice (some ⟨g, 0, none⟩) l.length c ∧ base ≤ g := by
 rcases h.2 with ⟨_, h0⟩ | ⟨g, cap, cur, rfl, hb, _⟩
 · omega
 · exact ⟨g, cap, rfl, hb⟩
theorem OwnH.cells {base g N c : Nat} {w : World} {l : List Hk} (h : OwnH base w (.slice (some ⟨g, 0, none⟩) N c) l) (k : Nat) (hk : k < l.length) :
 (w.cell? ⟨g, k * 6 + 1, none⟩ = some (.int .i64 l[k].lst) ∧ w.cell? ⟨g, k * 6 + 3, none⟩ = some (.int .i64 l[k].oT) ∧ w.cell? ⟨g, k * 6 + 5, none⟩ = some (.int .i64 l[k].nT)) ∧ ∀ j, w.frozen? ⟨g, j, none⟩ = false := by
 have hN : N = l.length := by
  rcases h.2 with ⟨e, _⟩ | ⟨g', cap, cur, e, _⟩
  · cases e
  · injection e
 subst hN
 have e : ∀ i, i < 6 → w.cell? ⟨g, k * 6 + i, none⟩ = (hkC l[k])[i]? := fun i hi => by
  have h2 : w.ownsRow base tHk 6 (.slice (some ⟨g, 0, none⟩) l.length c) l.length (flatK hkC l) := h
  rw [h2.cellAt (k * 6 + i) (by omega), flatK_get hkC_len l k hk i hi]
 exact ⟨⟨e 1 (by omega), e 3 (by omega), e 5 (by omega)⟩, fun j => World.ownsRow.frozenAt (h : w.ownsRow base tHk 6 (.slice (some ⟨g, 0, none⟩) l.length c) l.length (flatK hkC l)) j⟩
theorem OwnH.put {base g N c : Nat} {w : World} {l : List Hk} (h : OwnH base w (.slice (some ⟨g, 0, none⟩) N c) l) (k : Nat) (hk : k < l.length) (i : Nat) (hi : i < 6) (u : Value) (y : Hk) (hy : hkC y = (hkC l[k]).set i u) :
 OwnH base (w.setCell ⟨g, k * 6 + i, none⟩ u) (.slice (some ⟨g, 0, none⟩) N c) (l.set k y) := by
 have hN : N = l.length := by
  rcases h.2 with ⟨e, _⟩ | ⟨g', cap, cur, e, _⟩
  · cases e
  · injection e
 subst hN
 have h2 : w.ownsRow base tHk 6 (.slice (some ⟨g, 0, none⟩) l.length c) l.length (flatK hkC l) := h
 have h3 := (h2.stored (k * 6 + i) u).1
 rw [flat_set hkC_len l k hk i hi u y hy] at h3
 unfold OwnH
 rw [List.length_set]
 exact h3
theorem put3 {base g N c : Nat} {w : World} {dn : List Hk} {h0 : Hk} (h : OwnH base w (.slice (some ⟨g, 0, none⟩) N c) (dn ++ [h0])) (a b d : Int) :
 OwnH base (((w.setCell ⟨g, dn.length * 6 + 1, none⟩ (.int .i64 a)).setCell ⟨g, dn.length * 6 + 3, none⟩ (.int .i64 b)).setCell ⟨g, dn.length * 6 + 5, none⟩ (.int .i64 d)) (.slice (some ⟨g, 0, none⟩) N c) (dn ++ [⟨h0.fst, a, h0.oF, b, h0.nF, d⟩]) := by
 have hl : ∀ x : Hk, dn.length < (dn ++ [x]).length := fun x => by simp
 have hg : ∀ x : Hk, (dn ++ [x])[dn.length]'(hl x) = x := fun x => by simp
 have hs : ∀ x y : Hk, (dn ++ [x]).set dn.length y = dn ++ [y] := fun x y => by simp
 have h1 := h.put dn.length (hl _) 1 (by decide) (.int .i64 a) ⟨h0.fst, a, h0.oF, h0.oT, h0.nF, h0.nT⟩ (by rw [hg]; rfl)
 rw [hs] at h1
 have h2 := OwnH.put h1 dn.length (hl _) 3 (by decide) (.int .i64 b) ⟨h0.fst, a, h0.oF, b, h0.nF, h0.nT⟩ (by rw [hg]; rfl)
 rw [hs] at h2
 have h3 := OwnH.put h2 dn.length (hl _) 5 (by decide) (.int .i64 d) ⟨h0.fst, a, h0.oF, b, h0.nF, d⟩ (by rw [hg]; rfl)
 rw [hs] at h3
 exact h3
def Rst (ctx m : Int) (l : List Ch) (k : Nat) (X : List Hk) : Prop :=
 (k = 0 ∧ X = []) ∨ ∃ (f : Nat) (b e : Ch) (dn : List Hk), 1 ≤ k ∧ k ≤ l.length ∧ l[k - 1]? = some e ∧ X = dn ++ [mkH ctx m f k b e] ∧ dn ++ grp ctx m f k b e (l.drop k) = group ctx m l
def Mst (ctx m : Int) (l : List Ch) (k : Nat) (c : Ch) (dn : List Hk) (h0 : Hk) : Prop := Rst ctx m l (k + 1) (dn ++ [⟨h0.fst, ((k + 1 : Nat) : Int), h0.oF, endO c + aft ctx m c, h0.nF, endN c + aft ctx m c⟩])
theorem Rst.len {ctx m : Int} {l : List Ch} {k : Nat} {X : List Hk} (h : Rst ctx m l k X) : X.length ≤ l.length := by
 rcases h with ⟨_, rfl⟩ | ⟨f, b, e, dn, _, _, _, rfl, h⟩
 · exact Nat.zero_le _
 · have h1 := group_len ctx m l
   have h2 := grp_ne ctx m f k b e (l.drop k)
   rw [← h, List.length_append] at h1
   rw [List.length_append, List.length_singleton]
   omega
theorem Rst.end {ctx m : Int} {l : List Ch} {X : List Hk} (h : Rst ctx m l l.length X) : X = group ctx m l := by
 rcases h with ⟨h0, rfl⟩ | ⟨f, b, e, dn, _, _, _, rfl, h⟩
 · rw [List.eq_nil_of_length_eq_zero h0]; rfl
 · rw [List.drop_eq_nil_of_le (Nat.le_refl _)] at h; exact h
theorem Rst.first {ctx m : Int} {l : List Ch} (hk : 0 < l.length) : Mst ctx m l 0 l[0] [] ⟨0, 0, l[0].old - bfr ctx l[0], 0, l[0].new - bfr ctx l[0], 0⟩ := by
 refine .inr ⟨0, l[0], l[0], [], Nat.le_refl _, hk, List.getElem?_eq_getElem hk, rfl, ?_⟩
 cases l with
 | nil => exact absurd hk (Nat.not_lt_zero _)
 | cons c r => rfl
theorem Rst.new {ctx m : Int} {l : List Ch} {k : Nat} {X : List Hk} {e : Ch} (h : Rst ctx m l (k + 1) X) (hk : k + 1 < l.length) (he : l[k]? = some e) (hg : 2 * ctx < l[k + 1].old - endO e) :
 Mst ctx m l (k + 1) l[k + 1] X ⟨((k + 1 : Nat) : Int), 0, l[k + 1].old - bfr ctx l[k + 1], 0, l[k + 1].new - bfr ctx l[k + 1], 0⟩ := by
 rcases h with ⟨h0, _⟩ | ⟨f, b, e', dn, _, _, he', rfl, h⟩
 · omega
 · rw [Nat.add_sub_cancel, he] at he'
   cases he'
   rw [List.drop_eq_getElem_cons hk, grp, if_pos hg] at h
   exact .inr ⟨k + 1, l[k + 1], l[k + 1], dn ++ [mkH ctx m f (k + 1) b e], by omega, hk, List.getElem?_eq_getElem hk, rfl, by rw [List.append_assoc]; exact h⟩
theorem Rst.more {ctx m : Int} {l : List Ch} {k : Nat} {X : List Hk} {e : Ch} (h : Rst ctx m l (k + 1) X) (hk : k + 1 < l.length) (he : l[k]? = some e) (hg : ¬ 2 * ctx < l[k + 1].old - endO e) :
 ∃ dn h0, X = dn ++ [h0] ∧ Mst ctx m l (k + 1) l[k + 1] dn h0 := by
 rcases h with ⟨h0, _⟩ | ⟨f, b, e', dn, _, _, he', rfl, h⟩
 · omega
 · rw [Nat.add_sub_cancel, he] at he'
   cases he'
   rw [List.drop_eq_getElem_cons hk, grp, if_neg hg] at h
   exact ⟨dn, _, rfl, .inr ⟨f, b, l[k + 1], dn, by omega, hk, List.getElem?_eq_getElem hk, rfl, h⟩⟩
theorem take_k {l : List Ch} {k : Nat} (hk : k < l.length) : l[k]? = some l[k] := List.getElem?_eq_getElem hk
set_option maxRecDepth 100000 in
set_option maxHeartbeats 4000000 in
theorem GroupR_ok (A : Option Addr) (cp N : Nat) (l : List Ch) (m n ctx : Int) (w : World) (HR : Hid (RdC w (.slice A N cp) l)) (HN : Hid (l.length = N)) (hN : N ≤ 100000) (hc : 0 ≤ ctx ∧ ctx ≤ 1048576) (hm : inI m) (hn : inI n) (HOk : Hid (OkL true 0 0 l m n)) :
 Calls Tryz.prog 57 #[.slice A N cp, .int .i64 m, .int .i64 n, .int .i64 ctx] w (GrPost ctx l m n w) := by
 have HG : Hid (gcF ctx l m n = 0) := Lib.hid (by rw [gc_in (by omega)]; exact chkF_ok hm hn HOk.out)
 have HCk := Lib.hid (CheckR_any _ l m n w HR.out (by rw [HN.out]; omega))
 have HChN := Lib.hid (ok_chN hm hn HOk.out)
 unfold CkPost at HCk
 rw [chkF_ok hm hn HOk.out] at HCk
 obtain ⟨m0, m1⟩ := hm
 obtain ⟨x0, x1⟩ := hc
 clear hn HOk
 go_enter Tryz.func57, Tryz.ntmps57
 go_wp2_with (go_at_call 97; refine HCk.out.mono ?_; rintro e w1 ⟨rfl, hb1⟩; have HB1 := Lib.hid hb1; clear hb1 HCk)
 have HR1 := Lib.hid (HR.out.below HB1.out)
 clear HR
 go_loopw [11, 12] (fun v' k' wr => ∃ (k : Nat) (X : List Hk), k ≤ N ∧ k' = .int .i64 (k : Int) ∧ Hid (OwnH w1.heap.size wr v' X) ∧ Hid (Below w1.heap.size w1 wr) ∧ Hid (Rst ctx m l k X)) (fun _ k' _ => N - (intOf k').toNat)
 case atStart => exact ⟨0, [], Nat.zero_le _, by go_num, Lib.hid (OwnH.nil _ _), Lib.hid (Below.refl _ _), Lib.hid (.inl ⟨rfl, rfl⟩)⟩
 case round =>
  obtain ⟨k, X, hk, rfl, HO, HB, HS⟩ := hrel
  by_cases hlt : k < N
  · have hkl : k < l.length := by rw [HN.out]; exact hlt
    have hlX : X.length + 1 ≤ 1000000 := by have := HS.out.len; have := HN.out; omega
    have HRr := Lib.hid (HR1.out.below HB.out)
    obtain ⟨bl, off, rfl, -⟩ := RdC_at HRr.out k hkl
    have HCell : Hid (∀ V : World, Below w1.heap.size w1 V → ∀ k (hk : k < l.length), V.cell? ⟨bl, off + k * 4, none⟩ = some (.int .i64 l[k].old) ∧ V.cell? ⟨bl, off + k * 4 + 1, none⟩ = some (.int .i64 l[k].oldLen) ∧ V.cell? ⟨bl, off + k * 4 + 2, none⟩ = some (.int .i64 l[k].new) ∧ V.cell? ⟨bl, off + k * 4 + 3, none⟩ = some (.int .i64 l[k].newLen)) := Lib.hid (fun V hV k hk => by
     obtain ⟨b2, o2, e2, h0, h1, h2, h3⟩ := RdC_at (HR1.out.below hV) k hk
     cases e2
     exact ⟨h0, h1, h2, h3⟩)
    have i1 : (0 : Int) ≤ (k : Int) := by omega
    have i2 : (k : Int) < (N : Int) := by omega
    obtain ⟨nb, hnb⟩ : ∃ nb : Bool, nb = decide (k = 0 ∨ ∃ (h : 0 < k) (h2 : k - 1 < l.length), 2 * ctx < l[k].old - (l[k - 1].old + l[k - 1].oldLen)) := ⟨_, rfl⟩
    have HNb := Lib.hid hnb
    clear hnb
    go_upto_region 10 with fail
    go_cut [62] from 31 to 63 (fun v wx => v = .bool nb ∧ Hid (Below wr.heap.size wr wx))
    case first =>
     by_cases h0 : k = 0
     · subst h0
       have e : nb = true := by rw [HNb.out]; exact decide_eq_true (.inl rfl)
       subst e
       clear HNb
       go_quiet (fail)
       go_wp2_with fail
       go_meet
       case rel => exact ⟨rfl, Lib.hid (below_drewN (Below.refl _ _) _)⟩
     · obtain ⟨j, rfl⟩ : ∃ j, k = j + 1 := ⟨k - 1, by omega⟩
       have hjl : j < l.length := by omega
       obtain ⟨c0, _, _, _⟩ := HCell.out wr HB.out (j + 1) hkl
       obtain ⟨d0, d1, _, _⟩ := HCell.out wr HB.out j hjl
       obtain ⟨⟨⟨e00, e01⟩, ⟨e10, e11⟩, _, _⟩, _, _⟩ := HChN.out _ (List.getElem_mem hjl)
       obtain ⟨⟨⟨c00, c01⟩, _, _, _⟩, _, _⟩ := HChN.out _ (List.getElem_mem hkl)
       have HNb2 : Hid (nb = decide (2 * ctx < l[j + 1].old - (l[j].old + l[j].oldLen))) := Lib.hid (by
        rw [HNb.out, decide_eq_decide]
        constructor
        · rintro (h | ⟨_, _, h⟩)
          · omega
          · exact h
        · intro h; exact .inr ⟨by omega, by simpa using hjl, h⟩)
       generalize l[j + 1].old = co at *
       generalize l[j].old = eo at *
       generalize l[j].oldLen = eol at *
       have q1 : ((j + 1 : Nat) : Int) - 1 = (j : Int) := by omega
       have q2 : (0 : Int) ≤ (j : Int) := by omega
       have q3 : (j : Int) < (N : Int) := by omega
       have q6 : (0 : Int) ≤ (j : Int) + 1 := by omega
       have q7 : (j : Int) + 1 < (N : Int) := by omega
       have q8 : ((j : Int) + 1).toNat = j + 1 := by omega
       have hw : IntKind.i64.wrap (j : Int) = (j : Int) := IntWalk.i64_in _ (by omega)
       have dq : (((j + 1 : Nat) : Int) == 0) = false := by rw [beq_eq_false_iff_ne]; omega
       have dq2 : ((j : Int) + 1 == 0) = false := by rw [beq_eq_false_iff_ne]; omega
       by_cases hg : 2 * ctx < co - (eo + eol)
       · have e : nb = true := by rw [HNb2.out]; exact decide_eq_true hg
         subst e
         have dg : decide (2 * ctx < co - eo - eol) = true := decide_eq_true (by omega)
         clear HNb HNb2 hg
         go_quiet (fail)
         go_wp2_with fail
         go_meet
         case rel => exact ⟨rfl, Lib.hid (below_drewN (Below.refl _ _) _)⟩
       · have e : nb = false := by rw [HNb2.out]; exact decide_eq_false hg
         subst e
         have dg : decide (2 * ctx < co - eo - eol) = false := decide_eq_false (by omega)
         clear HNb HNb2 hg
         go_quiet (fail)
         go_wp2_with fail
         go_meet
         case rel => exact ⟨rfl, Lib.hid (below_drewN (Below.refl _ _) _)⟩
    case rest =>
     obtain ⟨rfl, HQ⟩ := hcut
     generalize wc = wq at *
     go_upto_if 62 with fail
     go_cut [11, 13] from 63 to 91 (fun v u wx => ∃ (dn : List Hk) (h0 : Hk), Hid (OwnH w1.heap.size wx v (dn ++ [h0])) ∧ Hid (Below w1.heap.size w1 wx) ∧ dn.length + 1 ≤ 1000000 ∧ Hid (Mst ctx m l k l[k] dn h0))
     case first =>
      cases nb with
      | true =>
        have HM : Hid (Mst ctx m l k l[k] X ⟨(k : Int), 0, l[k].old - bfr ctx l[k], 0, l[k].new - bfr ctx l[k], 0⟩) := Lib.hid (by
         rcases of_decide_eq_true HNb.out.symm with h | ⟨h0, h1, h2⟩
         · subst h
           rcases HS.out with ⟨_, rfl⟩ | ⟨_, _, _, _, h, _⟩
           · exact Rst.first hkl
           · omega
         · obtain ⟨j, rfl⟩ : ∃ j, k = j + 1 := ⟨k - 1, by omega⟩
           exact Rst.new HS.out hkl (take_k (by omega)) (by show 2 * ctx < l[j + 1].old - (l[j].old + l[j].oldLen); simpa using h2))
        have HO2 := Lib.hid (HO.out.below HQ.out)
        have HB2 := Lib.hid (HB.out.trans (HQ.out.mono HB.out.size))
        obtain ⟨c0, c1, c2, c3⟩ := HCell.out wq HB2.out k hkl
        have HKp := Lib.hid (fun V (hV : Below w1.heap.size w1 V) => And.intro (HCell.out V hV k hkl).1 (HCell.out V hV k hkl).2.2.1)
        obtain ⟨⟨⟨b00, b01⟩, _, ⟨b20, b21⟩, _⟩, _, _⟩ := HChN.out _ (List.getElem_mem hkl)
        have HX : Hid ((if l[k].old < ctx then l[k].old else ctx) = bfr ctx l[k]) := Lib.hid rfl
        have hxb : 0 ≤ bfr ctx l[k] ∧ bfr ctx l[k] ≤ 4096 := by unfold bfr; split <;> omega
        obtain ⟨xb0, xb1⟩ := hxb
        clear HNb HO HB
        generalize bfr ctx l[k] = x at *
        generalize l[k] = c at *
        generalize c.old = co at *
        generalize c.new = cn at *
        go_upto_region 11 with fail
        go_cut [13] from 63 to 70 (fun v wx => v = .int .i64 x ∧ wx = wq)
        case first =>
         by_cases h1 : co < ctx
         · have HX2 : Hid (co = x) := Lib.hid (by rw [← HX.out, if_pos h1])
           go_wp2_with fail
           go_meet
           case rel => exact ⟨by rw [HX2.out], rfl⟩
         · have HX2 : Hid (ctx = x) := Lib.hid (by rw [← HX.out, if_neg h1])
           go_wp2_with fail
           go_meet
           case rel => exact ⟨by rw [HX2.out], rfl⟩
        case rest =>
         obtain ⟨rfl, rfl⟩ := hcut
         clear HX
         have e1 : IntKind.i64.wrap (co - x) = co - x := IntWalk.i64_in _ (by omega)
         have e2 : IntKind.i64.wrap (cn - x) = cn - x := IntWalk.i64_in _ (by omega)
         go_upto_region 12 with fail
         have HOw : Hid (wc.ownsRow w1.heap.size tHk 6 u11 X.length (flatK hkC X)) := HO2
         have hsz := HB2.out.size
         obtain ⟨i0, hi0, hz0, hz1, hz2⟩ := info_parts info_hk
         clear c1 c3 HO2
         go_region_held3 (fun V => V.cell? ⟨bl, off + k * 4, none⟩ = some (.int .i64 co) ∧ V.cell? ⟨bl, off + k * 4 + 2, none⟩ = some (.int .i64 cn))
          (first | go_keep | exact HKp.out _ HBq.out)
          ((refine step_append_lies _ (by rfl) (.tmp 70) (.tmp 89) tHks (by rfl) w1.heap.size tHk i0 zeroHk 6 48 Tryz.underlying82 hi0 hz0 hz1 hz2 rfl (by omega) u11 X.length (flatK hkC X) (by rfl) ((HOw.out.alloc _).drew) ⟨wc.heap.size, 0, none⟩ 1 1 (hkC ⟨(k : Int), 0, co - x, 0, cn - x, 0⟩) (by rfl) (by rfl) (World.news_of_block (cs := #[.int .i64 (k : Int), .int .i64 0, .int .i64 (co - x), .int .i64 0, .int .i64 (cn - x), .int .i64 0]) (t := tHk) (fr := (0, 0)) (heap_new wc _)) (one_hk _) (by omega) (by unfold maxLen; omega) (by omega) (by simp; omega) (wc.heap.size + 1) (by simp) ?_; intro gg cap w3 ho3 hg3 hat hlt; have HBq := Lib.hid (((HB2.out.alloc hsz (.cells #[.int .i64 (k : Int), .int .i64 0, .int .i64 (co - x), .int .i64 0, .int .i64 (cn - x), .int .i64 0] tHk)).drew).grown hg3 (by simp; omega) (fun k hk => (HOw.out.lt k hk).1)); have HO3 : Hid (OwnH w1.heap.size w3 (.slice (some ⟨gg, 0, none⟩) (X.length + 1) cap) (X ++ [⟨(k : Int), 0, co - x, 0, cn - x, 0⟩])) := Lib.hid (by unfold OwnH; rw [List.length_append, List.length_singleton, flatK_snoc]; exact ho3); clear ho3 hg3 hat hlt))
         go_wp2_with fail
         go_meet
         case rel => exact ⟨X, _, HO3, HBq, hlX, HM⟩
      | false =>
        have HM : Hid (∃ dn h0, X = dn ++ [h0] ∧ Mst ctx m l k l[k] dn h0) := Lib.hid (by
         have h := of_decide_eq_false HNb.out.symm
         have h0 : 0 < k := Nat.pos_of_ne_zero (fun e => h (.inl e))
         obtain ⟨j, rfl⟩ : ∃ j, k = j + 1 := ⟨k - 1, by omega⟩
         exact Rst.more HS.out hkl (take_k (by omega)) (fun hh => h (.inr ⟨h0, by simp; omega, hh⟩)))
        obtain ⟨dn, h0, hX, hM⟩ := HM.out
        have HM2 := Lib.hid hM
        subst hX
        have HO2 := Lib.hid (HO.out.below HQ.out)
        have HB2 := Lib.hid (HB.out.trans (HQ.out.mono HB.out.size))
        have hlX2 : dn.length + 1 ≤ 1000000 := by simp at hlX; omega
        clear hM HM HNb
        go_wp2_with fail
        go_meet
        case rel => exact ⟨dn, h0, HO2, HB2, hlX2, HM2⟩
     case rest =>
      obtain ⟨dn, h0, HO2, HB2, hlX2, HM⟩ := hcut
      obtain ⟨g, cg, e, hgb⟩ := HO2.out.block (by simp)
      rw [List.length_append, List.length_singleton] at e
      subst e
      obtain ⟨c0, c1, c2, c3⟩ := HCell.out wc HB2.out k hkl
      have HKp := Lib.hid (fun V (hV : Below w1.heap.size w1 V) => HCell.out V hV k hkl)
      obtain ⟨⟨⟨b00, b01⟩, ⟨b10, b11⟩, ⟨b20, b21⟩, b30, b31⟩, _, _⟩ := HChN.out _ (List.getElem_mem hkl)
      have HY : Hid ((if m - (l[k].old + l[k].oldLen) < ctx then m - (l[k].old + l[k].oldLen) else ctx) = aft ctx m l[k]) := Lib.hid rfl
      have hyb : -8192 ≤ aft ctx m l[k] ∧ aft ctx m l[k] ≤ 4096 := by unfold aft endO; split <;> omega
      have HPut : Hid (∀ W : World, OwnH w1.heap.size W (.slice (some ⟨g, 0, none⟩) (dn.length + 1) cg) (dn ++ [h0]) → OwnH w1.heap.size (((W.setCell ⟨g, dn.length * 6 + 1, none⟩ (.int .i64 (((k : Nat) : Int) + 1))).setCell ⟨g, dn.length * 6 + 3, none⟩ (.int .i64 (l[k].old + l[k].oldLen + aft ctx m l[k]))).setCell ⟨g, dn.length * 6 + 5, none⟩ (.int .i64 (l[k].new + l[k].newLen + aft ctx m l[k]))) (.slice (some ⟨g, 0, none⟩) (dn.length + 1) cg) (dn ++ [⟨h0.fst, ((k + 1 : Nat) : Int), h0.oF, endO l[k] + aft ctx m l[k], h0.nF, endN l[k] + aft ctx m l[k]⟩])) := Lib.hid (fun W hW => put3 hW _ _ _)
      have HCel : Hid (∀ W : World, OwnH w1.heap.size W (.slice (some ⟨g, 0, none⟩) (dn.length + 1) cg) (dn ++ [h0]) → ∃ x1 x3 x5, (W.cell? ⟨g, dn.length * 6 + 1, none⟩ = some x1 ∧ W.cell? ⟨g, dn.length * 6 + 3, none⟩ = some x3 ∧ W.cell? ⟨g, dn.length * 6 + 5, none⟩ = some x5) ∧ ∀ j, W.frozen? ⟨g, j, none⟩ = false) := Lib.hid (fun W hW => ⟨_, _, _, hW.cells dn.length (by simp)⟩)
      unfold Mst at HM
      obtain ⟨yb0, yb1⟩ := hyb
      generalize aft ctx m l[k] = y at *
      generalize dn ++ [(⟨h0.fst, ((k + 1 : Nat) : Int), h0.oF, endO l[k] + y, h0.nF, endN l[k] + y⟩ : Hk)] = X2 at *
      generalize dn ++ [h0] = X1 at *
      generalize l[k] = c at *
      obtain ⟨o, ol, nw, nl⟩ := c
      simp only at c0 c1 c2 c3 b00 b01 b10 b11 b20 b21 b30 b31 HY HPut
      generalize dn.length = D at *
      have r1 : (D : Int) + 1 - 1 = (D : Int) := by omega
      have r2 : (0 : Int) ≤ (D : Int) := by omega
      have r3 : (D : Int) < (D : Int) + 1 := by omega
      clear HCell HKp HO HS HB
      go_upto_region 14 with fail
      go_quiet (fail)
      go_upto_region 15 with fail
      have HOy := Lib.hid (HO2.out.drewN nq)
      have HBy := Lib.hid (below_drewN HB2.out nq)
      clear HO2 HB2 c0 c1 c2 c3
      generalize wc.drewN nq = wy at *
      go_cut [17] from 116 to 121 (fun v wx => v = .int .i64 y ∧ wx = wy)
      case first =>
       by_cases h1 : m - (o + ol) < ctx
       · have HY2 : Hid (m - (o + ol) = y) := Lib.hid (by rw [← HY.out, if_pos h1])
         go_wp2_with fail
         go_meet
         case rel => exact ⟨by rw [HY2.out], rfl⟩
       · have HY2 : Hid (ctx = y) := Lib.hid (by rw [← HY.out, if_neg h1])
         go_wp2_with fail
         go_meet
         case rel => exact ⟨by rw [HY2.out], rfl⟩
      case rest =>
       obtain ⟨rfl, rfl⟩ := hcut
       clear HY
       obtain ⟨x1, x3, x5, ⟨p1, p3, p5⟩, fz⟩ := HCel.out _ HOy.out
       have e2 : IntKind.i64.wrap (o + ol + y) = o + ol + y := IntWalk.i64_in _ (by omega)
       have e5 : IntKind.i64.wrap (nw + nl + y) = nw + nl + y := IntWalk.i64_in _ (by omega)
       have HFin := Lib.hid (HPut.out _ HOy.out)
       have HFb := Lib.hid (((HBy.out.setCell (p := ⟨g, D * 6 + 1, none⟩) hgb (.int .i64 ((k : Int) + 1))).setCell (p := ⟨g, D * 6 + 3, none⟩) hgb (.int .i64 (o + ol + y))).setCell (p := ⟨g, D * 6 + 5, none⟩) hgb (.int .i64 (nw + nl + y)))
       clear HPut HCel
       go_wp2_with fail
       go_roundw
       case rel => exact ⟨k + 1, X2, by omega, by go_num, HFin, HFb, HM⟩
       case measure => simp [intOf]; omega
  · obtain rfl : k = N := by omega
    have HE : Hid (X = group ctx m l) := Lib.hid (Rst.end (by rw [HN.out]; exact HS.out))
    have dl : decide (k < k) = false := decide_eq_false (Nat.lt_irrefl _)
    clear HS
    go_wp2_with fail
    go_ret2
    exact gr_good HG.out (by rw [← HE.out]; exact HO.out.base HB1.out.size) (HB1.out.trans (HB.out.mono HB1.out.size))
end Hn
end
section
open Go.RowKit
namespace Hn
open Cm Sc
set_option maxRecDepth 100000 in
set_option maxHeartbeats 4000000 in
theorem Group_any (v : Value) (l : List Ch) (m n ctx : Int) (w : World) (h : RdC w v l) (hl : l.length ≤ 100000) (hb : ∀ c ∈ l, ChB c) :
 Calls Tryz.prog 47 #[v, .int .i64 m, .int .i64 n, .int .i64 ctx] w (GrPost ctx l m n w) := by
 obtain ⟨A, cp, rfl⟩ := h.form
 have HR := Lib.hid h
 clear h
 generalize hN : l.length = N at *
 have HN := Lib.hid hN
 clear hN
 by_cases h0 : ctx < 0
 · have HE := Lib.hid (gc_out (l := l) (m := m) (n := n) (.inl h0))
   go_enter Tryz.func47, Tryz.ntmps47
   go_wp2_with fail
   go_ret2
   exact gr_err HE.out (by decide) (Below.refl _ _)
 · by_cases h1 : 1048576 < ctx
   · have HE := Lib.hid (gc_out (l := l) (m := m) (n := n) (.inr h1))
     have d0 : decide (ctx < 0) = false := decide_eq_false h0
     go_enter Tryz.func47, Tryz.ntmps47
     go_wp2_with fail
     go_ret2
     exact gr_err HE.out (by decide) (Below.refl _ _)
   · rcases chk_cases l m n with ⟨_, hm, hn, hok⟩ | hck
     · exact Group_ok A cp N l m n ctx w HR HN hl hb ⟨by omega, by omega⟩ hm hn (Lib.hid hok)
     · have HE : Hid (gcF ctx l m n = 80) := Lib.hid (by rw [gc_in (by omega)]; exact hck)
       have HCk := Lib.hid (Check_any _ l m n w HR.out (by rw [HN.out]; omega) hb)
       unfold CkPost at HCk
       rw [hck] at HCk
       have d0 : decide (ctx < 0) = false := decide_eq_false h0
       have d1 : decide (1048576 < ctx) = false := decide_eq_false h1
       clear hck hb
       go_enter Tryz.func47, Tryz.ntmps47
       go_wp2_with (go_at_call 75; refine HCk.out.mono ?_; rintro e w1 ⟨rfl, hb1⟩; have HB1 := Lib.hid hb1; clear hb1 HCk)
       go_ret2
       exact gr_err HE.out (by decide) HB1.out
set_option maxRecDepth 100000 in
set_option maxHeartbeats 4000000 in
theorem GroupR_any (v : Value) (l : List Ch) (m n ctx : Int) (w : World) (h : RdC w v l) (hl : l.length ≤ 100000) :
 Calls Tryz.prog 57 #[v, .int .i64 m, .int .i64 n, .int .i64 ctx] w (GrPost ctx l m n w) := by
 obtain ⟨A, cp, rfl⟩ := h.form
 have HR := Lib.hid h
 clear h
 generalize hN : l.length = N at *
 have HN := Lib.hid hN
 clear hN
 by_cases h0 : ctx < 0
 · have HE := Lib.hid (gc_out (l := l) (m := m) (n := n) (.inl h0))
   go_enter Tryz.func57, Tryz.ntmps57
   go_wp2_with fail
   go_ret2
   exact gr_err HE.out (by decide) (Below.refl _ _)
 · by_cases h1 : 1048576 < ctx
   · have HE := Lib.hid (gc_out (l := l) (m := m) (n := n) (.inr h1))
     have d0 : decide (ctx < 0) = false := decide_eq_false h0
     go_enter Tryz.func57, Tryz.ntmps57
     go_wp2_with fail
     go_ret2
     exact gr_err HE.out (by decide) (Below.refl _ _)
   · rcases chk_cases l m n with ⟨_, hm, hn, hok⟩ | hck
     · exact GroupR_ok A cp N l m n ctx w HR HN hl ⟨by omega, by omega⟩ hm hn (Lib.hid hok)
     · have HE : Hid (gcF ctx l m n = 80) := Lib.hid (by rw [gc_in (by omega)]; exact hck)
       have HCk := Lib.hid (CheckR_any _ l m n w HR.out (by rw [HN.out]; omega))
       unfold CkPost at HCk
       rw [hck] at HCk
       have d0 : decide (ctx < 0) = false := decide_eq_false h0
       have d1 : decide (1048576 < ctx) = false := decide_eq_false h1
       clear hck
       go_enter Tryz.func57, Tryz.ntmps57
       go_wp2_with (go_at_call 97; refine HCk.out.mono ?_; rintro e w1 ⟨rfl, hb1⟩; have HB1 := Lib.hid hb1; clear hb1 HCk)
       go_ret2
       exact gr_err HE.out (by decide) HB1.out
end Hn
end
end Go.Proofs.YtjecfmbecgpbmaaGreatDoor

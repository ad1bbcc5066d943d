/-
  The program's oldEnd and around: the hunk of some changes. Conditions: fields that are numbers of lines, a context of the document.
-/
import Derived.Test.YtlckdacmeandmaaHnkBase
import Derived.Test.YtlckdacmeandmaaScrCk
import Derived.Deep.RegionWith
namespace Go.Proofs.Ytlckdacmeandmaa
open Go.RowKit
namespace Hn
open Cm Sc
theorem oldEnd_any (o ol nw nl : Int) (w : World) (h : (0 ≤ o ∧ o ≤ 4096) ∧ (0 ≤ ol ∧ ol ≤ 4096)) :
    Calls Try.prog 20 #[.agg #[.int .i64 o, .int .i64 ol, .int .i64 nw, .int .i64 nl]] w fun e w' => e = .returned (.int .i64 (o + ol)) ∧ w' = w.alloc (.cells #[.int .i64 o, .int .i64 ol, .int .i64 nw, .int .i64 nl] tCh) := by
  obtain ⟨⟨a0, a1⟩, b0, b1⟩ := h
  go_enter Try.func20, Try.ntmps20
  go_wp2_with fail
  go_ret
  exact ⟨rfl, rfl⟩
theorem heap_one (V : World) (o : Obj) : (V.alloc o).heap.size = V.heap.size + 1 := by simp
/-- Three new blocks: a hunk of zeros and two changes. -/
structure Tri (w wx : World) (g1 g2 : Nat) (b e : Ch) : Prop where
  lt1 : w.heap.size < g1
  lt2 : w.heap.size < g2
  bel : Below w.heap.size w wx
  hk : Blk wx w.heap.size tHk (hkC ⟨0, 0, 0, 0, 0, 0⟩)
  b1 : Blk wx g1 tCh (chC b)
  b2 : Blk wx g2 tCh (chC e)
theorem tri_of (w : World) (b e : Ch) : Tri w (((w.alloc (.cells (hkC ⟨0, 0, 0, 0, 0, 0⟩).toArray tHk)).alloc (.cells (chC b).toArray tCh)).alloc (.cells (chC e).toArray tCh)).drew (w.heap.size + 1) (w.heap.size + 1 + 1) b e := by
  refine ⟨by omega, by omega, ((((Below.refl _ _).alloc (Nat.le_refl _) _).alloc (by simp) _).alloc (by simp; omega) _).drew, ?_, ?_, ?_⟩
  · have h : Blk (w.alloc (.cells (hkC ⟨0, 0, 0, 0, 0, 0⟩).toArray tHk)) w.heap.size tHk (hkC ⟨0, 0, 0, 0, 0, 0⟩) := heap_new w _
    exact ((h.alloc _).alloc _)
  · have h : Blk ((w.alloc (.cells (hkC ⟨0, 0, 0, 0, 0, 0⟩).toArray tHk)).alloc (.cells (chC b).toArray tCh)) (w.alloc (.cells (hkC ⟨0, 0, 0, 0, 0, 0⟩).toArray tHk)).heap.size tCh (chC b) := heap_new _ _
    have h2 := h.alloc (.cells (chC e).toArray tCh)
    rw [heap_one] at h2
    exact h2
  · have h : Blk (((w.alloc (.cells (hkC ⟨0, 0, 0, 0, 0, 0⟩).toArray tHk)).alloc (.cells (chC b).toArray tCh)).alloc (.cells (chC e).toArray tCh)) ((w.alloc (.cells (hkC ⟨0, 0, 0, 0, 0, 0⟩).toArray tHk)).alloc (.cells (chC b).toArray tCh)).heap.size tCh (chC e) := heap_new _ _
    rw [heap_one, heap_one] at h
    exact h
theorem Blk.set_ne {w : World} {G H : Nat} {t : TypeId} {l : List Value} (h : Blk w G t l) (hne : G ≠ H) (k : Nat) (v : Value) : Blk (w.setCell ⟨H, k, none⟩ v) G t l :=
  (Below.heap_setCell _ _ _ _ hne).trans h
theorem Blk.drew {w : World} {G : Nat} {t : TypeId} {l : List Value} (h : Blk w G t l) : Blk w.drew G t l := h
theorem set6_ne {w : World} {G H : Nat} {t : TypeId} {l : List Value} (h : Blk w G t l) (hne : H < G) (v0 v1 v2 v3 v4 v5 : Value) : Blk ((((((w.setCell ⟨H, 0, none⟩ v0).setCell ⟨H, 1, none⟩ v1).setCell ⟨H, 2, none⟩ v2).setCell ⟨H, 3, none⟩ v3).setCell ⟨H, 4, none⟩ v4).setCell ⟨H, 5, none⟩ v5) G t l :=
  (((((h.set_ne (by omega) _ _).set_ne (by omega) _ _).set_ne (by omega) _ _).set_ne (by omega) _ _).set_ne (by omega) _ _).set_ne (by omega) _ _
theorem set6_eq {w : World} {G : Nat} {t : TypeId} {u0 u1 u2 u3 u4 u5 : Value} (h : Blk w G t [u0, u1, u2, u3, u4, u5]) (v0 v1 v2 v3 v4 v5 : Value) : Blk ((((((w.setCell ⟨G, 0, none⟩ v0).setCell ⟨G, 1, none⟩ v1).setCell ⟨G, 2, none⟩ v2).setCell ⟨G, 3, none⟩ v3).setCell ⟨G, 4, none⟩ v4).setCell ⟨G, 5, none⟩ v5) G t [v0, v1, v2, v3, v4, v5] :=
  (((((h.set 0 v0).set 1 v1).set 2 v2).set 3 v3).set 4 v4).set 5 v5
theorem set6_below {B : Nat} {w W : World} {G : Nat} (h : Below B w W) (hg : B ≤ G) (v0 v1 v2 v3 v4 v5 : Value) : Below B w ((((((W.setCell ⟨G, 0, none⟩ v0).setCell ⟨G, 1, none⟩ v1).setCell ⟨G, 2, none⟩ v2).setCell ⟨G, 3, none⟩ v3).setCell ⟨G, 4, none⟩ v4).setCell ⟨G, 5, none⟩ v5) :=
  (((((h.setCell hg _).setCell hg _).setCell hg _).setCell hg _).setCell hg _).setCell hg _
theorem set6_end {w W : World} {G : Nat} (h : Below w.heap.size w W) (hg : w.heap.size ≤ G) (v0 v1 v2 v3 v4 v5 : Value) (o : Obj) : Below w.heap.size w (((((((W.setCell ⟨G, 0, none⟩ v0).setCell ⟨G, 1, none⟩ v1).setCell ⟨G, 2, none⟩ v2).setCell ⟨G, 3, none⟩ v3).setCell ⟨G, 4, none⟩ v4).setCell ⟨G, 5, none⟩ v5).alloc o).drew :=
  ((set6_below h hg _ _ _ _ _ _).alloc (set6_below h hg _ _ _ _ _ _).size _).drew
theorem Tri.swap {w wx : World} {g1 g2 : Nat} {b e : Ch} (h : Tri w wx g1 g2 b e) : Tri w wx g2 g1 e b := ⟨h.lt2, h.lt1, h.bel, h.hk, h.b2, h.b1⟩
theorem Tri.drew {w wx : World} {g1 g2 : Nat} {b e : Ch} (h : Tri w wx g1 g2 b e) : Tri w wx.drew g1 g2 b e := ⟨h.lt1, h.lt2, h.bel.drew, h.hk, h.b1, h.b2⟩
theorem Tri.alloc {w wx : World} {g1 g2 : Nat} {b e : Ch} (h : Tri w wx g1 g2 b e) (o : Obj) : Tri w (wx.alloc o) g1 g2 b e := ⟨h.lt1, h.lt2, h.bel.alloc h.bel.size _, h.hk.alloc _, h.b1.alloc _, h.b2.alloc _⟩
set_option maxRecDepth 100000 in
set_option maxHeartbeats 4000000 in
theorem around_at (A : Option Addr) (N cp f k : Nat) (m ctx : Int) (bl off : Nat) (b e : Ch) (w : World) (hA : A = some ⟨bl, off, none⟩) (hk0 : 0 < k) (hk : k ≤ N) (hf : f < N) (hN : N ≤ 1000000) (hb : ChN b) (he : ChN e) (hm : 0 ≤ m ∧ m ≤ 4096) (hc : 0 ≤ ctx ∧ ctx ≤ 1048576)
    (c0 : w.cell? ⟨bl, off + f * 4, none⟩ = some (.int .i64 b.old)) (c1 : w.cell? ⟨bl, off + f * 4 + 1, none⟩ = some (.int .i64 b.oldLen)) (c2 : w.cell? ⟨bl, off + f * 4 + 2, none⟩ = some (.int .i64 b.new)) (c3 : w.cell? ⟨bl, off + f * 4 + 3, none⟩ = some (.int .i64 b.newLen))
    (d0 : w.cell? ⟨bl, off + (k - 1) * 4, none⟩ = some (.int .i64 e.old)) (d1 : w.cell? ⟨bl, off + (k - 1) * 4 + 1, none⟩ = some (.int .i64 e.oldLen)) (d2 : w.cell? ⟨bl, off + (k - 1) * 4 + 2, none⟩ = some (.int .i64 e.new)) (d3 : w.cell? ⟨bl, off + (k - 1) * 4 + 3, none⟩ = some (.int .i64 e.newLen)) :
    Calls Try.prog 21 #[.slice A N cp, .int .i64 (f : Int), .int .i64 (k : Int), .int .i64 m, .int .i64 ctx] w fun e' w' => e' = .returned (hkA (mkH ctx m f k b e)) ∧ Below w.heap.size w w' := by
  subst hA
  obtain ⟨bo, bol, bn, bnl⟩ := b
  obtain ⟨eo, eol, en, enl⟩ := e
  unfold mkH bfr aft endO endN
  obtain ⟨⟨b00, b01⟩, ⟨b10, b11⟩, ⟨b20, b21⟩, b30, b31⟩ := hb
  obtain ⟨⟨e00, e01⟩, ⟨e10, e11⟩, ⟨e20, e21⟩, e30, e31⟩ := he
  obtain ⟨m0, m1⟩ := hm
  obtain ⟨x0, x1⟩ := hc
  simp only at *
  obtain ⟨j, rfl⟩ : ∃ j, k = j + 1 := ⟨k - 1, by omega⟩
  rw [Nat.add_sub_cancel] at d0 d1 d2 d3
  clear hk0
  have hlt := Tx.cell_lt c0
  have hw : IntKind.i64.wrap (j : Int) = (j : Int) := IntWalk.i64_in _ (by omega)
  have HCC : Hid (∀ (p : Addr) (u : Value), w.cell? p = some u → ∀ x y z, (((w.alloc x).alloc y).alloc z).cell? p = some u) := Lib.hid (fun p u h x y z => by
    have hb : Below w.heap.size w (((w.alloc x).alloc y).alloc z) := (((Below.refl _ _).alloc (Nat.le_refl _) _).alloc (by simp) _).alloc (by simp; omega) _
    exact (hb.cell (p := p) (by obtain ⟨pb, po, ps⟩ := p; obtain rfl : ps = none := World.cell?_spot h; exact Tx.cell_lt h)).trans h)
  have r0 := HCC.out _ _ d0
  have r1 := HCC.out _ _ d1
  have r2 := HCC.out _ _ d2
  have r3 := HCC.out _ _ d3
  have s0 := HCC.out _ _ c0
  have s1 := HCC.out _ _ c1
  have s2 := HCC.out _ _ c2
  have s3 := HCC.out _ _ c3
  have q1 : (0 : Int) ≤ (f : Int) := by omega
  have q2 : (f : Int) < (N : Int) := by omega
  have q3 : (0 : Int) ≤ (j : Int) := by omega
  have q4 : (j : Int) < (N : Int) := by omega
  have q5 : ((j + 1 : Nat) : Int) - 1 = (j : Int) := by omega
  obtain ⟨x, hx⟩ : ∃ x, (if bo < ctx then bo else ctx) = x := ⟨_, rfl⟩
  obtain ⟨y, hy⟩ : ∃ y, (if m - (eo + eol) < ctx then m - (eo + eol) else ctx) = y := ⟨_, rfl⟩
  have hxb : 0 ≤ x ∧ x ≤ 4096 := by split at hx <;> omega
  have hyb : -8192 ≤ y ∧ y ≤ 4096 := by split at hy <;> omega
  rw [hx, hy]
  obtain ⟨xb0, xb1⟩ := hxb
  obtain ⟨yb0, yb1⟩ := hyb
  have HX := Lib.hid hx
  have HY := Lib.hid hy
  clear hx hy
  go_enter Try.func21, Try.ntmps21
  go_upto_region 1 with fail
  go_cut [11, 12] from 11 to 24 (fun p q wx => ∃ g1 g2, p = .pointer (some ⟨g1, 0, none⟩) ∧ q = .pointer (some ⟨g2, 0, none⟩) ∧ Hid (Tri w wx g1 g2 ⟨bo, bol, bn, bnl⟩ ⟨eo, eol, en, enl⟩))
  case first =>
    go_region
    all_goals
      go_wp2_with fail
      go_meet
      case rel => first | exact ⟨_, _, rfl, rfl, Lib.hid (tri_of w ⟨bo, bol, bn, bnl⟩ ⟨eo, eol, en, enl⟩)⟩ | exact ⟨_, _, rfl, rfl, Lib.hid (tri_of w ⟨eo, eol, en, enl⟩ ⟨bo, bol, bn, bnl⟩).swap⟩
  case rest =>
    obtain ⟨g1, g2, rfl, rfl, HT⟩ := hcut
    clear c0 c1 c2 c3 d0 d1 d2 d3 r0 r1 r2 r3 s0 s1 s2 s3 HCC
    go_upto_region 2 with fail
    go_cut [13] from 13 to 28 (fun p wx => p = .int .i64 x ∧ Hid (Tri w wx g1 g2 ⟨bo, bol, bn, bnl⟩ ⟨eo, eol, en, enl⟩))
    case first =>
      have t0 := HT.out.b1.cell (k := 0) (show 0 < 4 by decide)
      simp only [chC, List.getElem_cons_zero] at t0
      by_cases h1 : bo < ctx
      · have HX2 : Hid (bo = x) := Lib.hid (by rw [← HX.out, if_pos h1])
        go_wp2_with fail
        go_meet
        case rel => exact ⟨by rw [HX2.out], HT⟩
      · have HX2 : Hid (ctx = x) := Lib.hid (by rw [← HX.out, if_neg h1])
        go_wp2_with fail
        go_meet
        case rel => exact ⟨by rw [HX2.out], HT⟩
    case rest =>
    obtain ⟨rfl, HT1⟩ := hcut
    clear HT HX
    generalize wc = W1 at *
    go_upto_region 3 with fail
    go_cut [14] from 14 to 34 (fun q wx => q = .int .i64 y ∧ Hid (Tri w wx g1 g2 ⟨bo, bol, bn, bnl⟩ ⟨eo, eol, en, enl⟩))
    case first =>
      have u0 := HT1.out.b2.cell (k := 0) (show 0 < 4 by decide)
      have u1 := HT1.out.b2.cell (k := 1) (show 1 < 4 by decide)
      have u2 := HT1.out.b2.cell (k := 2) (show 2 < 4 by decide)
      have u3 := HT1.out.b2.cell (k := 3) (show 3 < 4 by decide)
      simp only [chC, List.getElem_cons_zero, List.getElem_cons_succ] at u0 u1 u2 u3
      by_cases h2 : m - (eo + eol) < ctx
      · have HY2 : Hid (m - (eo + eol) = y) := Lib.hid (by rw [← HY.out, if_pos h2])
        go_wp2_with (go_at_call 20; refine (oldEnd_any _ _ _ _ _ ⟨⟨by omega, by omega⟩, by omega, by omega⟩).mono ?_; rintro e w' ⟨rfl, rfl⟩)
        go_meet
        case rel => exact ⟨by rw [HY2.out], Lib.hid (HT1.out.alloc _)⟩
      · have HY2 : Hid (ctx = y) := Lib.hid (by rw [← HY.out, if_neg h2])
        go_wp2_with (go_at_call 20; refine (oldEnd_any _ _ _ _ _ ⟨⟨by omega, by omega⟩, by omega, by omega⟩).mono ?_; rintro e w' ⟨rfl, rfl⟩)
        go_meet
        case rel => exact ⟨by rw [HY2.out], Lib.hid (HT1.out.alloc _)⟩
    case rest =>
      obtain ⟨rfl, HT2⟩ := hcut
      clear HT1 HY
      generalize wc = W at *
      have u0 := HT2.out.b2.cell (k := 0) (show 0 < 4 by decide)
      have u1 := HT2.out.b2.cell (k := 1) (show 1 < 4 by decide)
      have u2 := HT2.out.b2.cell (k := 2) (show 2 < 4 by decide)
      have u3 := HT2.out.b2.cell (k := 3) (show 3 < 4 by decide)
      have t0 := HT2.out.b1.cell (k := 0) (show 0 < 4 by decide)
      have t2 := HT2.out.b1.cell (k := 2) (show 2 < 4 by decide)
      have v0 := HT2.out.hk.cell (k := 0) (show 0 < 6 by decide)
      have v1 := HT2.out.hk.cell (k := 1) (show 1 < 6 by decide)
      have v2 := HT2.out.hk.cell (k := 2) (show 2 < 6 by decide)
      have v3 := HT2.out.hk.cell (k := 3) (show 3 < 6 by decide)
      have v4 := HT2.out.hk.cell (k := 4) (show 4 < 6 by decide)
      have v5 := HT2.out.hk.cell (k := 5) (show 5 < 6 by decide)
      have fz := HT2.out.hk.free
      have n1 := HT2.out.lt1
      have n2 := HT2.out.lt2
      have n5 := HT2.out.hk.lt
      have n6 : g1 ≠ w.heap.size := by omega
      have n7 : g2 ≠ w.heap.size := by omega
      have n8 : w.heap.size ≠ g1 := by omega
      have n9 : w.heap.size ≠ g2 := by omega
      have e1 : IntKind.i64.wrap (bo - x) = bo - x := IntWalk.i64_in _ (by omega)
      have e2 : IntKind.i64.wrap (eo + eol + y) = eo + eol + y := IntWalk.i64_in _ (by omega)
      have e3 : IntKind.i64.wrap (bn - x) = bn - x := IntWalk.i64_in _ (by omega)
      have e4 : IntKind.i64.wrap (en + enl) = en + enl := IntWalk.i64_in _ (by omega)
      have e5 : IntKind.i64.wrap (en + enl + y) = en + enl + y := IntWalk.i64_in _ (by omega)
      simp only [chC, hkC, List.getElem_cons_zero, List.getElem_cons_succ] at t0 t2 u0 u1 u2 u3 v0 v1 v2 v3 v4 v5
      have HK : Hid (∀ V : World, Blk V g1 tCh (chC ⟨bo, bol, bn, bnl⟩) → Blk V g2 tCh (chC ⟨eo, eol, en, enl⟩) → V.cell? ⟨g1, 0, none⟩ = some (.int .i64 bo) ∧ V.cell? ⟨g1, 2, none⟩ = some (.int .i64 bn) ∧ V.cell? ⟨g2, 0, none⟩ = some (.int .i64 eo) ∧ V.cell? ⟨g2, 1, none⟩ = some (.int .i64 eol) ∧ V.cell? ⟨g2, 2, none⟩ = some (.int .i64 en) ∧ V.cell? ⟨g2, 3, none⟩ = some (.int .i64 enl)) := Lib.hid (fun V h1 h2 => ⟨h1.cell (k := 0) (show 0 < 4 by decide), h1.cell (k := 2) (show 2 < 4 by decide), h2.cell (k := 0) (show 0 < 4 by decide), h2.cell (k := 1) (show 1 < 4 by decide), h2.cell (k := 2) (show 2 < 4 by decide), h2.cell (k := 3) (show 3 < 4 by decide)⟩)
      go_wp2_with fail
      go_region_held3 (fun V => V.cell? ⟨g1, 0, none⟩ = some (.int .i64 bo) ∧ V.cell? ⟨g1, 2, none⟩ = some (.int .i64 bn) ∧ V.cell? ⟨g2, 0, none⟩ = some (.int .i64 eo) ∧ V.cell? ⟨g2, 1, none⟩ = some (.int .i64 eol) ∧ V.cell? ⟨g2, 2, none⟩ = some (.int .i64 en) ∧ V.cell? ⟨g2, 3, none⟩ = some (.int .i64 enl))
        (first | go_keep | exact HK.out _ (HT2.out.b1.alloc _) (HT2.out.b2.alloc _) | exact HK.out _ ((set6_ne HT2.out.b1 HT2.out.lt1 _ _ _ _ _ _).alloc _).drew ((set6_ne HT2.out.b2 HT2.out.lt2 _ _ _ _ _ _).alloc _).drew)
        ((go_at_call 20; refine (oldEnd_any _ _ _ _ _ ⟨⟨by omega, by omega⟩, by omega, by omega⟩).mono ?_; rintro e w' ⟨rfl, rfl⟩))
      go_wp2_with fail
      exact bodyPost_ret (v := hkA ⟨(f : Int), (j : Int) + 1, bo - x, eo + eol + y, bn - x, en + enl + y⟩) (by simp [results, Try.f21, go_sem, v0, v1, v2, v3, v4, v5, n5]) rfl ⟨rfl, set6_end HT2.out.bel (Nat.le_refl _) _ _ _ _ _ _ _⟩
end Hn
end Go.Proofs.Ytlckdacmeandmaa

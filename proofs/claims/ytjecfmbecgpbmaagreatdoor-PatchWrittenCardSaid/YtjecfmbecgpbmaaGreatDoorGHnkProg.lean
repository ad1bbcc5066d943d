/- Facts; each states its conditions. -/
import Derived.Test.YtjecfmbecgpbmaaGreatDoorGHnkBase
import Derived.Test.YtjecfmbecgpbmaaGreatDoorGScrBase
import Derived.Deep.RegionWith
namespace Go.Proofs.YtjecfmbecgpbmaaGreatDoor
section
namespace Cm
end Cm
namespace Sc
end Sc
open Go.RowKit
namespace Hn
open Cm Sc
theorem oldEnd_any (o ol nw nl : Int) (w : World) (h : (0 ≤ o ∧ o ≤ 4096) ∧ (0 ≤ ol ∧ ol ≤ 4096)) :
 Calls Tryz.prog 76 #[.agg #[.int .i64 o, .int .i64 ol, .int .i64 nw, .int .i64 nl]] w fun e w' => e = .returned (.int .i64 (o + ol)) ∧ w' = w.alloc (.cells #[.int .i64 o, .int .i64 ol, .int .i64 nw, .int .i64 nl] tCh) := by
 obtain ⟨⟨a0, a1⟩, b0, b1⟩ := h
 go_enter Tryz.func76, Tryz.ntmps76
 go_wp2_with fail
 go_ret
 exact ⟨rfl, rfl⟩
theorem heap_one (V : World) (o : Obj) : (V.alloc o).heap.size = V.heap.size + 1 := by simp
structure Tri (w wx : World) (g1 g2 : Nat) (b e : Ch) : Prop where
 lt1 : w.heap.size < g1
 lt2 : w.heap.size < g2
 bel : Below w.heap.size w wx
 hk : Blk wx w.heap.size tHk (hkC ⟨0, 0, 0, 0, 0, 0⟩)
 b1 : Blk wx g1 tCh (chC b)
 b2 : Blk wx g2 tCh (chC e)
theorem tri_of (w : World) (b e : Ch) : Tri w (((w.alloc (.cells (hkC ⟨0, 0, 0, 0, 0, 0⟩).toArray tHk)).alloc (.cells (chC b).toArray tCh)).alloc (.cells (chC e).toArray tCh)).drew (w.heap.size + 1) (w.heap.size + 1 + 1) b e := by
 refine ⟨by omega, by omega, ((((Below.refl _ _).alloc (Nat.le_refl _) _).alloc (by simp) _).alloc (by simp; omega) _).drew, ?_, ?_, ?_⟩
 · have h : Blk (w.alloc (.cells (hkC ⟨0, 0, 0, 0, 0, 0⟩).toArray tHk)) w.heap.size tHk (hkC ⟨0, 0, 0, 0, 0, 0⟩) := heap_new w _
   exact ((h.alloc _).alloc _)
 · have h : Blk ((w.alloc (.cells (hkC ⟨0, 0, 0, 0, 0, 0⟩).toArray tHk)).alloc (.cells (chC b).toArray tCh)) (w.alloc (.cells (hkC ⟨0, 0, 0, 0, 0, 0⟩).toArray tHk)).heap.size tCh (chC b) := heap_new _ _
   have h2 := h.alloc (.cells (chC e).toArray tCh)
   rw [heap_one] at h2
   exact h2
 · have h : Blk (((w.alloc (.cells (hkC ⟨0, 0, 0, 0, 0, 0⟩).toArray tHk)).alloc (.cells (chC b).toArray tCh)).alloc (.cells (chC e).toArray tCh)) ((w.alloc (.cells (hkC ⟨0, 0, 0, 0, 0, 0⟩).toArray tHk)).alloc (.cells (chC b).toArray tCh)).heap.size tCh (chC e) := heap_new _ _
   rw [heap_one, heap_one] at h
   exact h
theorem Blk.set_ne {w : World} {G H : Nat} {t : TypeId} {l : List Value} (h : Blk w G t l) (hne : G ≠ H) (k : Nat) (v : Value) : Blk (w.setCell ⟨H, k, none⟩ v) G t l :=
 (Below.heap_setCell _ _ _ _ hne).trans h
theorem Blk.drew {w : World} {G : Nat} {t : TypeId} {l : List Value} (h : Blk w G t l) : Blk w.drew G t l := h
theorem set6_below {B : Nat} {w W : World} {G : Nat} (h : Below B w W) (hg : B ≤ G) (v0 v1 v2 v3 v4 v5 : Value) : Below B w ((((((W.setCell ⟨G, 0, none⟩ v0).setCell ⟨G, 1, none⟩ v1).setCell ⟨G, 2, none⟩ v2).setCell ⟨G, 3, none⟩ v3).setCell ⟨G, 4, none⟩ v4).setCell ⟨G, 5, none⟩ v5) :=
 (((((h.setCell hg _).setCell hg _).setCell hg _).setCell hg _).setCell hg _).setCell hg _
theorem set6_end {w W : World} {G : Nat} (h : Below w.heap.size w W) (hg : w.heap.size ≤ G) (v0 v1 v2 v3 v4 v5 : Value) (o : Obj) : Below w.heap.size w (((((((W.setCell ⟨G, 0, none⟩ v0).setCell ⟨G, 1, none⟩ v1).setCell ⟨G, 2, none⟩ v2).setCell ⟨G, 3, none⟩ v3).setCell ⟨G, 4, none⟩ v4).setCell ⟨G, 5, none⟩ v5).alloc o).drew :=
 ((set6_below h hg _ _ _ _ _ _).alloc (set6_below h hg _ _ _ _ _ _).size _).drew
theorem Tri.swap {w wx : World} {g1 g2 : Nat} {b e : Ch} (h : Tri w wx g1 g2 b e) : Tri w wx g2 g1 e b := ⟨h.lt2, h.lt1, h.bel, h.hk, h.b2, h.b1⟩
theorem Tri.alloc {w wx : World} {g1 g2 : Nat} {b e : Ch} (h : Tri w wx g1 g2 b e) (o : Obj) : Tri w (wx.alloc o) g1 g2 b e := ⟨h.lt1, h.lt2, h.bel.alloc h.bel.size _, h.hk.alloc _, h.b1.alloc _, h.b2.alloc _⟩
set_option maxRecDepth 100000 in
set_option maxHeartbeats 4000000 in
theorem around_at (A : Option Addr) (N cp f k : Nat) (m ctx : Int) (bl off : Nat) (b e : Ch) (w : World) (hA : A = some ⟨bl, off, none⟩) (hk0 : 0 < k) (hk : k ≤ N) (hf : f < N) (hN : N ≤ 1000000) (hb : ChN b) (he : ChN e) (hm : 0 ≤ m ∧ m ≤ 4096) (hc : 0 ≤ ctx ∧ ctx ≤ 1048576)
 (c0 : w.cell? ⟨bl, off + f * 4, none⟩ = some (.int .i64 b.old)) (c1 : w.cell? ⟨bl, off + f * 4 + 1, none⟩ = some (.int .i64 b.oldLen)) (c2 : w.cell? ⟨bl, off + f * 4 + 2, none⟩ = some (.int .i64 b.new)) (c3 : w.cell? ⟨bl, off + f * 4 + 3, none⟩ = some (.int .i64 b.newLen))
 (d0 : w.cell? ⟨bl, off + (k - 1) * 4, none⟩ = some (.int .i64 e.old)) (d1 : w.cell? ⟨bl, off + (k - 1) * 4 + 1, none⟩ = some (.int .i64 e.oldLen)) (d2 : w.cell? ⟨bl, off + (k - 1) * 4 + 2, none⟩ = some (.int .i64 e.new)) (d3 : w.cell? ⟨bl, off + (k - 1) * 4 + 3, none⟩ = some (.int .i64 e.newLen)) :
 Calls Tryz.prog 77 #[.slice A N cp, .int .i64 (f : Int), .int .i64 (k : Int), .int .i64 m, .int .i64 ctx] w fun e' w' => e' = .returned (hkA (mkH ctx m f k b e)) ∧ Below w.heap.size w w' := by
 subst hA
 obtain ⟨bo, bol, bn, bnl⟩ := b
 obtain ⟨eo, eol, en, enl⟩ := e
 unfold mkH bfr aft endO endN
 obtain ⟨⟨b00, b01⟩, ⟨b10, b11⟩, ⟨b20, b21⟩, b30, b31⟩ := hb
 obtain ⟨⟨e00, e01⟩, ⟨e10, e11⟩, ⟨e20, e21⟩, e30, e31⟩ := he
 obtain ⟨m0, m1⟩ := hm
 obtain ⟨x0, x1⟩ := hc
 simp only at *
 obtain ⟨j, rfl⟩ : ∃ j, k = j + 1 := ⟨k - 1, by omega⟩
 rw [Nat.add_sub_cancel] at d0 d1 d2 d3
 clear hk0
 have hlt := Tx.cell_lt c0
 have hw : IntKind.i64.wrap (j : Int) = (j : Int) := IntWalk.i64_in _ (by omega)
 have HCC : Hid (∀ (p : Addr) (u : Value), w.cell? p = some u → ∀ x y z, (((w.alloc x).alloc y).alloc z).cell? p = some u) := Lib.hid (fun p u h x y z => by
  have hb : Below w.heap.size w (((w.alloc x).alloc y).alloc z) := (((Below.refl _ _).alloc (Nat.le_refl _) _).alloc (by simp) _).alloc (by simp; omega) _
  exact (hb.cell (p := p) (by obtain ⟨pb, po, ps⟩ := p; obtain rfl : ps = none := World.cell?_spot h; exact Tx.cell_lt h)).trans h)
 have r0 := HCC.out _ _ d0
 have r1 := HCC.out _ _ d1
 have r2 := HCC.out _ _ d2
 have r3 := HCC.out _ _ d3
 have s0 := HCC.out _ _ c0
 have s1 := HCC.out _ _ c1
 have s2 := HCC.out _ _ c2
 have s3 := HCC.out _ _ c3
 have q1 : (0 : Int) ≤ (f : Int) := by omega
 have q2 : (f : Int) < (N : Int) := by omega
 have q3 : (0 : Int) ≤ (j : Int) := by omega
 have q4 : (j : Int) < (N : Int) := by omega
 have q5 : ((j + 1 : Nat) : Int) - 1 = (j : Int) := by omega
 obtain ⟨x, hx⟩ : ∃ x, (if bo < ctx then bo else ctx) = x := ⟨_, rfl⟩
 obtain ⟨y, hy⟩ : ∃ y, (if m - (eo + eol) < ctx then m - (eo + eol) else ctx) = y := ⟨_, rfl⟩
 have hxb : 0 ≤ x ∧ x ≤ 4096 := by split at hx <;> omega
 have hyb : -8192 ≤ y ∧ y ≤ 4096 := by split at hy <;> omega
 rw [hx, hy]
 obtain ⟨xb0, xb1⟩ := hxb
 obtain ⟨yb0, yb1⟩ := hyb
 have HX := Lib.hid hx
 have HY := Lib.hid hy
 clear hx hy
 go_enter Tryz.func77, Tryz.ntmps77
 go_upto_region 1 with fail
 go_cut [11, 12] from 11 to 24 (fun p q wx => ∃ g1 g2, p = .pointer (some ⟨g1, 0, none⟩) ∧ q = .pointer (some ⟨g2, 0, none⟩) ∧ Hid (Tri w wx g1 g2 ⟨bo, bol, bn, bnl⟩ ⟨eo, eol, en, enl⟩))
 case first =>
  go_region
  all_goals
   go_wp2_with fail
   go_meet
   case rel => first | exact ⟨_, _, rfl, rfl, Lib.hid (tri_of w ⟨bo, bol, bn, bnl⟩ ⟨eo, eol, en, enl⟩)⟩ | exact ⟨_, _, rfl, rfl, Lib.hid (tri_of w ⟨eo, eol, en, enl⟩ ⟨bo, bol, bn, bnl⟩).swap⟩
 case rest =>
  obtain ⟨g1, g2, rfl, rfl, HT⟩ := hcut
  clear c0 c1 c2 c3 d0 d1 d2 d3 r0 r1 r2 r3 s0 s1 s2 s3 HCC
  go_upto_region 2 with fail
  go_cut [13] from 13 to 28 (fun p wx => p = .int .i64 x ∧ Hid (Tri w wx g1 g2 ⟨bo, bol, bn, bnl⟩ ⟨eo, eol, en, enl⟩))
  case first =>
   have t0 := HT.out.b1.cell (k := 0) (show 0 < 4 by decide)
   simp only [chC, List.getElem_cons_zero] at t0
   by_cases h1 : bo < ctx
   · have HX2 : Hid (bo = x) := Lib.hid (by rw [← HX.out, if_pos h1])
     go_wp2_with fail
     go_meet
     case rel => exact ⟨by rw [HX2.out], HT⟩
   · have HX2 : Hid (ctx = x) := Lib.hid (by rw [← HX.out, if_neg h1])
     go_wp2_with fail
     go_meet
     case rel => exact ⟨by rw [HX2.out], HT⟩
  case rest =>
  obtain ⟨rfl, HT1⟩ := hcut
  clear HT HX
  generalize wc = W1 at *
  go_upto_region 3 with fail
  go_cut [14] from 14 to 34 (fun q wx => q = .int .i64 y ∧ Hid (Tri w wx g1 g2 ⟨bo, bol, bn, bnl⟩ ⟨eo, eol, en, enl⟩))
  case first =>
   have u0 := HT1.out.b2.cell (k := 0) (show 0 < 4 by decide)
   have u1 := HT1.out.b2.cell (k := 1) (show 1 < 4 by decide)
   have u2 := HT1.out.b2.cell (k := 2) (show 2 < 4 by decide)
   have u3 := HT1.out.b2.cell (k := 3) (show 3 < 4 by decide)
   simp only [chC, List.getElem_cons_zero, List.getElem_cons_succ] at u0 u1 u2 u3
   by_cases h2 : m - (eo + eol) < ctx
   · have HY2 : Hid (m - (eo + eol) = y) := Lib.hid (by rw [← HY.out, if_pos h2])
     go_wp2_with (go_at_call 76; refine (oldEnd_any _ _ _ _ _ ⟨⟨by omega, by omega⟩, by omega, by omega⟩).mono ?_; rintro e w' ⟨rfl, rfl⟩)
     go_meet
     case rel => exact ⟨by rw [HY2.out], Lib.hid (HT1.out.alloc _)⟩
   · have HY2 : Hid (ctx = y) := Lib.hid (by rw [← HY.out, if_neg h2])
     go_wp2_with (go_at_call 76; refine (oldEnd_any _ _ _ _ _ ⟨⟨by omega, by omega⟩, by omega, by omega⟩).mono ?_; rintro e w' ⟨rfl, rfl⟩)
     go_meet
     case rel => exact ⟨by rw [HY2.out], Lib.hid (HT1.out.alloc _)⟩
  case rest =>
   obtain ⟨rfl, HT2⟩ := hcut
   clear HT1 HY
   generalize wc = W at *
   have u0 := HT2.out.b2.cell (k := 0) (show 0 < 4 by decide)
   have u1 := HT2.out.b2.cell (k := 1) (show 1 < 4 by decide)
   have u2 := HT2.out.b2.cell (k := 2) (show 2 < 4 by decide)
   have u3 := HT2.out.b2.cell (k := 3) (show 3 < 4 by decide)
   have t0 := HT2.out.b1.cell (k := 0) (show 0 < 4 by decide)
   have t2 := HT2.out.b1.cell (k := 2) (show 2 < 4 by decide)
   have v0 := HT2.out.hk.cell (k := 0) (show 0 < 6 by decide)
   have v1 := HT2.out.hk.cell (k := 1) (show 1 < 6 by decide)
   have v2 := HT2.out.hk.cell (k := 2) (show 2 < 6 by decide)
   have v3 := HT2.out.hk.cell (k := 3) (show 3 < 6 by decide)
   have v4 := HT2.out.hk.cell (k := 4) (show 4 < 6 by decide)
   have v5 := HT2.out.hk.cell (k := 5) (show 5 < 6 by decide)
   have fz := HT2.out.hk.free
   have n1 := HT2.out.lt1
   have n2 := HT2.out.lt2
   have n5 := HT2.out.hk.lt
   have n6 : g1 ≠ w.heap.size := by omega
   have n7 : g2 ≠ w.heap.size := by omega
   have n8 : w.heap.size ≠ g1 := by omega
   have n9 : w.heap.size ≠ g2 := by omega
   have e1 : IntKind.i64.wrap (bo - x) = bo - x := IntWalk.i64_in _ (by omega)
   have e2 : IntKind.i64.wrap (eo + eol + y) = eo + eol + y := IntWalk.i64_in _ (by omega)
   have e3 : IntKind.i64.wrap (bn - x) = bn - x := IntWalk.i64_in _ (by omega)
   have e4 : IntKind.i64.wrap (en + enl) = en + enl := IntWalk.i64_in _ (by omega)
   have e5 : IntKind.i64.wrap (en + enl + y) = en + enl + y := IntWalk.i64_in _ (by omega)
   simp only [chC, hkC, List.getElem_cons_zero, List.getElem_cons_succ] at t0 t2 u0 u1 u2 u3 v0 v1 v2 v3 v4 v5
   have HK : Hid (∀ V : World, Blk V g1 tCh (chC ⟨bo, bol, bn, bnl⟩) → Blk V g2 tCh (chC ⟨eo, eol, en, enl⟩) → V.cell? ⟨g1, 0, none⟩ = some (.int .i64 bo) ∧ V.cell? ⟨g1, 2, none⟩ = some (.int .i64 bn) ∧ V.cell? ⟨g2, 0, none⟩ = some (.int .i64 eo) ∧ V.cell? ⟨g2, 1, none⟩ = some (.int .i64 eol) ∧ V.cell? ⟨g2, 2, none⟩ = some (.int .i64 en) ∧ V.cell? ⟨g2, 3, none⟩ = some (.int .i64 enl)) := Lib.hid (fun V h1 h2 => ⟨h1.cell (k := 0) (show 0 < 4 by decide), h1.cell (k := 2) (show 2 < 4 by decide), h2.cell (k := 0) (show 0 < 4 by decide), h2.cell (k := 1) (show 1 < 4 by decide), h2.cell (k := 2) (show 2 < 4 by decide), h2.cell (k := 3) (show 3 < 4 by decide)⟩)
   go_wp2_with fail
   go_region_held3 (fun V => V.cell? ⟨g1, 0, none⟩ = some (.int .i64 bo) ∧ V.cell? ⟨g1, 2, none⟩ = some (.int .i64 bn) ∧ V.cell? ⟨g2, 0, none⟩ = some (.int .i64 eo) ∧ V.cell? ⟨g2, 1, none⟩ = some (.int .i64 eol) ∧ V.cell? ⟨g2, 2, none⟩ = some (.int .i64 en) ∧ V.cell? ⟨g2, 3, none⟩ = some (.int .i64 enl))
    (first | go_keep | exact HK.out _ (HT2.out.b1.alloc _) (HT2.out.b2.alloc _) | exact HK.out _ ((set6_ne HT2.out.b1 HT2.out.lt1 _ _ _ _ _ _).alloc _).drew ((set6_ne HT2.out.b2 HT2.out.lt2 _ _ _ _ _ _).alloc _).drew)
    ((go_at_call 76; refine (oldEnd_any _ _ _ _ _ ⟨⟨by omega, by omega⟩, by omega, by omega⟩).mono ?_; rintro e w' ⟨rfl, rfl⟩))
   go_wp2_with fail
   exact bodyPost_ret (v := hkA ⟨(f : Int), (j : Int) + 1, bo - x, eo + eol + y, bn - x, en + enl + y⟩) (by simp [results, Tryz.f77, go_sem, v0, v1, v2, v3, v4, v5, n5]) rfl ⟨rfl, set6_end HT2.out.bel (Nat.le_refl _) _ _ _ _ _ _ _⟩
end Hn
end
section
open Go.RowKit
namespace Hn
open Cm Sc
open Classical in
noncomputable def gcF (ctx : Int) (l : List Ch) (m n : Int) : Int := if ctx < 0 ∨ 1048576 < ctx then 3 else chkF l m n
def GrPost (ctx : Int) (l : List Ch) (m n : Int) (w : World) (e : Ending) (w' : World) : Prop :=
 ∃ v, e = .returned (.tuple #[v, .int .i64 (gcF ctx l m n)]) ∧ (gcF ctx l m n = 0 → OwnH w.heap.size w' v (group ctx m l)) ∧ (gcF ctx l m n ≠ 0 → v = .slice none 0 0) ∧ Below w.heap.size w w'
theorem gr_err {ctx : Int} {l : List Ch} {m n z : Int} {w w' : World} (h : gcF ctx l m n = z) (hz : z ≠ 0) (hb : Below w.heap.size w w') : GrPost ctx l m n w (.returned (.tuple #[.slice none 0 0, .int .i64 z])) w' :=
 ⟨_, by rw [h], fun h0 => absurd (h ▸ h0) hz, fun _ => rfl, hb⟩
theorem gr_good {ctx : Int} {l : List Ch} {m n : Int} {v : Value} {w w' : World} (h : gcF ctx l m n = 0) (ho : OwnH w.heap.size w' v (group ctx m l)) (hb : Below w.heap.size w w') : GrPost ctx l m n w (.returned (.tuple #[v, .int .i64 0])) w' :=
 ⟨_, by rw [h], fun _ => ho, fun h0 => absurd h h0, hb⟩
theorem gc_out {ctx : Int} {l : List Ch} {m n : Int} (h : ctx < 0 ∨ 1048576 < ctx) : gcF ctx l m n = 3 := by unfold gcF; rw [if_pos h]
theorem gc_in {ctx : Int} {l : List Ch} {m n : Int} (h : ¬ (ctx < 0 ∨ 1048576 < ctx)) : gcF ctx l m n = chkF l m n := by unfold gcF; rw [if_neg h]
theorem chk_cases (l : List Ch) (m n : Int) : (chkF l m n = 0 ∧ inI m ∧ inI n ∧ OkL true 0 0 l m n) ∨ chkF l m n = 80 := by
 by_cases h : inI m ∧ inI n ∧ OkL true 0 0 l m n
 · exact .inl ⟨chkF_ok h.1 h.2.1 h.2.2, h⟩
 · exact .inr (chkF_no h)
def Gst (ctx m : Int) (l : List Ch) (q f : Nat) (dn : List Hk) : Prop :=
 (q ≤ l.length ∧ ∃ (b e : Ch), l[f]? = some b ∧ l[q - 1]? = some e ∧ dn ++ grp ctx m f q b e (l.drop q) = group ctx m l) ∨ (q = l.length + 1 ∧ dn = group ctx m l)
theorem Gst.start (ctx m : Int) (l : List Ch) : Gst ctx m l 1 0 [] := by
 cases l with
 | nil => exact .inr ⟨rfl, rfl⟩
 | cons c r => exact .inl ⟨by simp, c, c, rfl, rfl, rfl⟩
theorem get_some {l : List Ch} {k : Nat} {c : Ch} (h : l[k]? = some c) : ∃ hk : k < l.length, l[k] = c := by
 rcases Nat.lt_or_ge k l.length with h1 | h1
 · exact ⟨h1, by rw [List.getElem?_eq_getElem h1] at h; exact Option.some.inj h⟩
 · rw [List.getElem?_eq_none h1] at h; cases h
theorem grp_ne (ctx m : Int) (f q : Nat) (b e : Ch) : ∀ r : List Ch, 1 ≤ (grp ctx m f q b e r).length
 | [] => by rw [grp]; simp
 | c :: r => by
   rw [grp]
   split
   · simp
   · exact grp_ne ctx m f (q + 1) b c r
theorem Gst.len {ctx m : Int} {l : List Ch} {q f : Nat} {dn : List Hk} (h : Gst ctx m l q f dn) : dn.length ≤ l.length := by
 have := group_len ctx m l
 rcases h with ⟨_, b, e, _, _, h⟩ | ⟨_, h⟩
 · rw [← h, List.length_append] at this; omega
 · rw [h]; exact this
theorem Gst.last {ctx m : Int} {l : List Ch} {q f : Nat} {dn : List Hk} {b e : Ch} (hq : q = l.length) (h : dn ++ grp ctx m f q b e (l.drop q) = group ctx m l) : Gst ctx m l (q + 1) q (dn ++ [mkH ctx m f q b e]) := by
 rw [List.drop_eq_nil_of_le (by omega)] at h
 exact .inr ⟨by omega, h⟩
theorem Gst.new {ctx m : Int} {l : List Ch} {q f : Nat} {dn : List Hk} {b e : Ch} (hq : q < l.length) (hg : 2 * ctx < l[q].old - endO e) (h : dn ++ grp ctx m f q b e (l.drop q) = group ctx m l) : Gst ctx m l (q + 1) q (dn ++ [mkH ctx m f q b e]) := by
 rw [List.drop_eq_getElem_cons hq, grp, if_pos hg] at h
 exact .inl ⟨hq, l[q], l[q], List.getElem?_eq_getElem hq, by rw [Nat.add_sub_cancel]; exact List.getElem?_eq_getElem hq, by rw [List.append_assoc]; exact h⟩
theorem Gst.more {ctx m : Int} {l : List Ch} {q f : Nat} {dn : List Hk} {b e : Ch} (hq : q < l.length) (hb : l[f]? = some b) (hg : ¬ 2 * ctx < l[q].old - endO e) (h : dn ++ grp ctx m f q b e (l.drop q) = group ctx m l) : Gst ctx m l (q + 1) f dn := by
 rw [List.drop_eq_getElem_cons hq, grp, if_neg hg] at h
 exact .inl ⟨hq, b, l[q], hb, by rw [Nat.add_sub_cancel]; exact List.getElem?_eq_getElem hq, h⟩
set_option maxRecDepth 100000 in
set_option maxHeartbeats 4000000 in
theorem Group_ok (A : Option Addr) (cp N : Nat) (l : List Ch) (m n ctx : Int) (w : World) (HR : Hid (RdC w (.slice A N cp) l)) (HN : Hid (l.length = N)) (hN : N ≤ 100000) (hb : ∀ c ∈ l, ChB c) (hc : 0 ≤ ctx ∧ ctx ≤ 1048576) (hm : inI m) (hn : inI n) (HOk : Hid (OkL true 0 0 l m n)) :
 Calls Tryz.prog 47 #[.slice A N cp, .int .i64 m, .int .i64 n, .int .i64 ctx] w (GrPost ctx l m n w) := by
 have HG : Hid (gcF ctx l m n = 0) := Lib.hid (by rw [gc_in (by omega)]; exact chkF_ok hm hn HOk.out)
 have HCk := Lib.hid (Check_any _ l m n w HR.out (by rw [HN.out]; omega) hb)
 have HChN := Lib.hid (ok_chN hm hn HOk.out)
 unfold CkPost at HCk
 rw [chkF_ok hm hn HOk.out] at HCk
 obtain ⟨m0, m1⟩ := hm
 obtain ⟨x0, x1⟩ := hc
 clear hb hn HOk
 go_enter Tryz.func47, Tryz.ntmps47
 go_wp2_with (go_at_call 75; refine HCk.out.mono ?_; rintro e w1 ⟨rfl, hb1⟩; have HB1 := Lib.hid hb1; clear hb1 HCk)
 have HR1 := Lib.hid (HR.out.below HB1.out)
 clear HR
 go_loopw [11, 12, 13] (fun v' f' q' wr => ∃ (q f : Nat) (dn : List Hk), q ≤ N + 1 ∧ 1 ≤ q ∧ q' = .int .i64 (q : Int) ∧ f' = .int .i64 (f : Int) ∧ Hid (OwnH w1.heap.size wr v' dn) ∧ Hid (Below w1.heap.size w1 wr) ∧ Hid (Gst ctx m l q f dn)) (fun _ _ q' _ => N + 1 - (intOf q').toNat)
 case atStart => exact ⟨1, 0, [], by omega, Nat.le_refl _, by go_num, by go_num, Lib.hid (OwnH.nil _ _), Lib.hid (Below.refl _ _), Lib.hid (Gst.start _ _ _)⟩
 case round =>
  obtain ⟨q, f, dn, hq, hq1, rfl, rfl, HO, HB, HS⟩ := hrel
  by_cases hle : q ≤ N
  · obtain ⟨b, e, hfb, hqe, hS⟩ : ∃ (b e : Ch), l[f]? = some b ∧ l[q - 1]? = some e ∧ dn ++ grp ctx m f q b e (l.drop q) = group ctx m l := by
     rcases HS.out with h | h
     · exact h.2
     · have := HN.out; omega
    have hln : dn.length + 1 ≤ 1000000 := by have := HS.out.len; have := HN.out; omega
    obtain ⟨j, rfl⟩ : ∃ j, q = j + 1 := ⟨q - 1, by omega⟩
    rw [Nat.add_sub_cancel] at hqe
    obtain ⟨hf, rfl⟩ := get_some hfb
    obtain ⟨hj, rfl⟩ := get_some hqe
    have HRr := Lib.hid (HR1.out.below HB.out)
    obtain ⟨bl, off, rfl, -⟩ := RdC_at HRr.out f hf
    have HCell : Hid (∀ V : World, Below wr.heap.size wr V → ∀ k (hk : k < l.length), V.cell? ⟨bl, off + k * 4, none⟩ = some (.int .i64 l[k].old) ∧ V.cell? ⟨bl, off + k * 4 + 1, none⟩ = some (.int .i64 l[k].oldLen) ∧ V.cell? ⟨bl, off + k * 4 + 2, none⟩ = some (.int .i64 l[k].new) ∧ V.cell? ⟨bl, off + k * 4 + 3, none⟩ = some (.int .i64 l[k].newLen)) := Lib.hid (fun V hV k hk => by
     obtain ⟨b2, o2, e2, h0, h1, h2, h3⟩ := RdC_at (HRr.out.below hV) k hk
     cases e2
     exact ⟨h0, h1, h2, h3⟩)
    have HAr : Hid (∀ V : World, Below wr.heap.size wr V → Calls Tryz.prog 77 #[.slice (some ⟨bl, off, none⟩) N cp, .int .i64 (f : Int), .int .i64 ((j + 1 : Nat) : Int), .int .i64 m, .int .i64 ctx] V fun e' w' => e' = .returned (hkA (mkH ctx m f (j + 1) l[f] l[j])) ∧ Below V.heap.size V w') := Lib.hid (fun V hV => by
     obtain ⟨c0, c1, c2, c3⟩ := HCell.out V hV f hf
     obtain ⟨d0, d1, d2, d3⟩ := HCell.out V hV j hj
     exact around_at _ N cp f (j + 1) m ctx bl off l[f] l[j] V rfl (Nat.succ_pos _) hle (by rw [← HN.out]; exact hf) (by omega) (HChN.out _ (List.getElem_mem hf)).1 (HChN.out _ (List.getElem_mem hj)).1 ⟨m0, m1⟩ ⟨x0, x1⟩ c0 c1 c2 c3 d0 d1 d2 d3)
    have HS2 := Lib.hid hS
    clear hS hqe HS
    by_cases hlt : j + 1 < N
    · have hq2 : j + 1 < l.length := by rw [HN.out]; exact hlt
      have hAr := HAr.out
      have HNw : Hid (2 * ctx < l[j + 1].old - (l[j].old + l[j].oldLen) → Gst ctx m l (j + 1 + 1) (j + 1) (dn ++ [mkH ctx m f (j + 1) l[f] l[j]])) := Lib.hid (fun h => Gst.new hq2 h HS2.out)
      have HMr : Hid (¬ 2 * ctx < l[j + 1].old - (l[j].old + l[j].oldLen) → Gst ctx m l (j + 1 + 1) f dn) := Lib.hid (fun h => Gst.more hq2 hfb h HS2.out)
      have HKp : Hid (∀ V : World, Below wr.heap.size wr V → V.cell? ⟨bl, off + (j + 1) * 4, none⟩ = some (.int .i64 l[j + 1].old) ∧ V.cell? ⟨bl, off + j * 4, none⟩ = some (.int .i64 l[j].old) ∧ V.cell? ⟨bl, off + j * 4 + 1, none⟩ = some (.int .i64 l[j].oldLen) ∧ V.cell? ⟨bl, off + j * 4 + 2, none⟩ = some (.int .i64 l[j].new) ∧ V.cell? ⟨bl, off + j * 4 + 3, none⟩ = some (.int .i64 l[j].newLen)) := Lib.hid (fun V hV => ⟨(HCell.out V hV (j + 1) hq2).1, HCell.out V hV j hj⟩)
      obtain ⟨k0, k1, k2, k3, k4⟩ := HKp.out wr (Below.refl _ _)
      obtain ⟨⟨⟨e00, e01⟩, ⟨e10, e11⟩, _, _⟩, _, _⟩ := HChN.out _ (List.getElem_mem hj)
      obtain ⟨⟨⟨c00, c01⟩, _, _, _⟩, _, _⟩ := HChN.out _ (List.getElem_mem hq2)
      generalize mkH ctx m f (j + 1) l[f] l[j] = hk at *
      have HAr2 := Lib.hid hAr
      clear hAr HAr HCell HS2 hfb
      generalize l[j + 1].old = co at *
      generalize l[j].old = eo at *
      generalize l[j].oldLen = eol at *
      generalize l[j].new = en at *
      generalize l[j].newLen = enl at *
      have HBq : Hid (Below wr.heap.size wr wr.drew) := Lib.hid ((Below.refl wr.heap.size wr).drew)
      have dq : (((j + 1 : Nat) : Int) == (N : Int)) = false := by rw [beq_eq_false_iff_ne]; omega
      have dq2 : ((j : Int) + 1 == (N : Int)) = false := by rw [beq_eq_false_iff_ne]; omega
      have hw : IntKind.i64.wrap (j : Int) = (j : Int) := IntWalk.i64_in _ (by omega)
      have hw2 : IntKind.i64.wrap (co - (eo + eol)) = co - (eo + eol) := IntWalk.i64_in _ (by omega)
      have hw3 : IntKind.i64.wrap (2 * ctx) = 2 * ctx := IntWalk.i64_in _ (by omega)
      have q1 : ((j + 1 : Nat) : Int) - 1 = (j : Int) := by omega
      have q6 : (0 : Int) ≤ (j : Int) + 1 := by omega
      have q7 : (j : Int) + 1 < (N : Int) := by omega
      have q8 : ((j : Int) + 1).toNat = j + 1 := by omega
      have q2 : (0 : Int) ≤ (j : Int) := by omega
      have q3 : (j : Int) < (N : Int) := by omega
      have q4 : (0 : Int) ≤ ((j + 1 : Nat) : Int) := by omega
      have q5 : ((j + 1 : Nat) : Int) < (N : Int) := by omega
      by_cases hg : 2 * ctx < co - (eo + eol)
      · have HNext := Lib.hid (HNw.out hg)
        clear HNw HMr
        go_upto_region 11 with fail
        go_region_held3 (fun V => V.cell? ⟨bl, off + (j + 1) * 4, none⟩ = some (.int .i64 co) ∧ V.cell? ⟨bl, off + j * 4, none⟩ = some (.int .i64 eo) ∧ V.cell? ⟨bl, off + j * 4 + 1, none⟩ = some (.int .i64 eol) ∧ V.cell? ⟨bl, off + j * 4 + 2, none⟩ = some (.int .i64 en) ∧ V.cell? ⟨bl, off + j * 4 + 3, none⟩ = some (.int .i64 enl))
         (first | go_keep | exact HKp.out _ HBq.out)
         ((go_at_call 76; refine (oldEnd_any _ _ _ _ _ ⟨⟨by omega, by omega⟩, by omega, by omega⟩).mono ?_; rintro e' w' ⟨rfl, rfl⟩; have HBq := Lib.hid ((Below.refl wr.heap.size wr).drew.alloc (Nat.le_refl _) (.cells #[.int .i64 eo, .int .i64 eol, .int .i64 en, .int .i64 enl] tCh))))
        go_upto_region 12 with fail
        have HDr := Lib.hid (HBq.out)
        have HOd := Lib.hid (HO.out.below HBq.out)
        have HBe := Lib.hid (HB.out.trans (HBq.out.mono HB.out.size))
        go_upto_region 13 with (first
         | (go_at_call 77; refine (HAr2.out _ HDr.out).mono ?_; rintro e w2 ⟨rfl, hb2⟩; have HB2 := Lib.hid (HBe.out.trans (hb2.mono HBe.out.size)); have HO2 := Lib.hid (HOd.out.below hb2); clear hb2)
         | (at_builtin; refine app_hk rfl (.tmp 54) (.tmp 61) rfl w1.heap.size dn hk _ _ rfl HO2.out rfl rfl rfl hln HB2.out.size ?_; intro v3 w3 ho3 hb3 hg3; have HO3 := Lib.hid ho3; have HB3 := Lib.hid (HB2.out.trans hb3); clear ho3 hb3 hg3))
        go_wp2_with fail
        go_roundw
        case rel => exact ⟨j + 1 + 1, j + 1, _, by omega, by omega, by go_num, by go_num, HO3, HB3, HNext⟩
        case measure => simp [intOf]; omega
      · have HNext := Lib.hid (HMr.out hg)
        have dg : decide (2 * ctx < co - (eo + eol)) = false := decide_eq_false hg
        clear HNw HMr
        go_upto_region 11 with fail
        go_region_held3 (fun V => V.cell? ⟨bl, off + (j + 1) * 4, none⟩ = some (.int .i64 co) ∧ V.cell? ⟨bl, off + j * 4, none⟩ = some (.int .i64 eo) ∧ V.cell? ⟨bl, off + j * 4 + 1, none⟩ = some (.int .i64 eol) ∧ V.cell? ⟨bl, off + j * 4 + 2, none⟩ = some (.int .i64 en) ∧ V.cell? ⟨bl, off + j * 4 + 3, none⟩ = some (.int .i64 enl))
         (first | go_keep | exact HKp.out _ HBq.out)
         ((go_at_call 76; refine (oldEnd_any _ _ _ _ _ ⟨⟨by omega, by omega⟩, by omega, by omega⟩).mono ?_; rintro e' w' ⟨rfl, rfl⟩; have HBq := Lib.hid ((Below.refl wr.heap.size wr).drew.alloc (Nat.le_refl _) (.cells #[.int .i64 eo, .int .i64 eol, .int .i64 en, .int .i64 enl] tCh))))
        go_wp2_with fail
        have HOd := Lib.hid (HO.out.below HBq.out)
        have HBe := Lib.hid (HB.out.trans (HBq.out.mono HB.out.size))
        go_roundw
        case rel => exact ⟨j + 1 + 1, f, _, by omega, by omega, by go_num, by go_num, HOd, HBe, HNext⟩
        case measure => simp [intOf]; omega
    · have hjN : j + 1 = N := by omega
      have HNext := Lib.hid (Gst.last (by rw [HN.out]; exact hjN) HS2.out)
      subst hjN
      have hAr := HAr.out
      generalize mkH ctx m f (j + 1) l[f] l[j] = hk at *
      have HAr2 := Lib.hid hAr
      clear hAr HAr HCell HS2 hlt
      go_upto_region 11 with fail
      go_quiet (fail)
      have HDr := Lib.hid (below_drewN (Below.refl wr.heap.size wr) nq)
      have HOd := Lib.hid (HO.out.drewN nq)
      have HBe := Lib.hid (below_drewN HB.out nq)
      clear HO HB
      generalize wr.drewN nq = V at *
      go_upto_region 13 with (first
       | (go_at_call 77; refine (HAr2.out _ HDr.out).mono ?_; rintro e w2 ⟨rfl, hb2⟩; have HB2 := Lib.hid (HBe.out.trans (hb2.mono HBe.out.size)); have HO2 := Lib.hid (HOd.out.below hb2); clear hb2)
       | (at_builtin; refine app_hk rfl (.tmp 54) (.tmp 61) rfl w1.heap.size dn hk _ _ rfl HO2.out rfl rfl rfl hln HB2.out.size ?_; intro v3 w3 ho3 hb3 hg3; have HO3 := Lib.hid ho3; have HB3 := Lib.hid (HB2.out.trans hb3); clear ho3 hb3 hg3))
      go_wp2_with fail
      go_roundw
      case rel => exact ⟨j + 1 + 1, j + 1, _, by omega, by omega, by go_num, by go_num, HO3, HB3, HNext⟩
      case measure => simp [intOf]; omega
  · obtain rfl : q = N + 1 := by omega
    have HE : Hid (dn = group ctx m l) := Lib.hid (by
     rcases HS.out with h | h
     · have := h.1; rw [HN.out] at this; omega
     · exact h.2)
    have dl : decide (((N + 1 : Nat) : Int) ≤ (N : Int)) = false := decide_eq_false (by omega)
    clear HS
    go_wp2_with fail
    go_ret2
    exact gr_good HG.out (by rw [← HE.out]; exact HO.out.base HB1.out.size) (HB1.out.trans (HB.out.mono HB1.out.size))
end Hn
end
end Go.Proofs.YtjecfmbecgpbmaaGreatDoor

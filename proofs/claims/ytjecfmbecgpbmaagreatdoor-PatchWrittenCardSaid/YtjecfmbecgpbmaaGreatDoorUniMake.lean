/- Facts; each states its conditions. -/
import Derived.Test.YtjecfmbecgpbmaaGreatDoorUniCmp
import Derived.Test.YtjecfmbecgpbmaaGreatDoorGHnkRefG
import Derived.Deep.AppendLies
namespace Go.Proofs.YtjecfmbecgpbmaaGreatDoor
namespace Cm
end Cm
namespace Hn
end Hn
namespace Sc
end Sc
namespace Sh
end Sh
namespace Sl
end Sl
open Go.RowKit
namespace Uf
open Cm Sc Hn Sl
open Sh (lnB lnB_len lnB_size idA idB idA_len idB_len blbF)
def mkC (on nn : ByteArray) (ctx : Int) : Int := if nameB on = true ∧ nameB nn = true then (if ctx < 0 ∨ 1048576 < ctx then 3 else 0) else 120
def zeroP : Pat := ⟨⟨#[]⟩, ⟨#[]⟩, []⟩
def mkP (on nn s t : ByteArray) (ctx : Int) (down : Bool) : Pat := if mkC on nn ctx = 0 then ⟨on, nn, patH (lnB s) (lnB t) ctx (scrD down s t)⟩ else zeroP
def PtPost (p : Pat) (code : Int) (w : World) (e : Ending) (w' : World) : Prop := ∃ v, e = .returned (.tuple #[.agg #[.string p.on, .string p.nn, v], .int .i64 code]) ∧ OwnP w.heap.size w' v p.hunks ∧ Below w.heap.size w w'
theorem pt_zero {on nn s t : ByteArray} {ctx : Int} {down : Bool} {w w' : World} {z : Int} (h : mkC on nn ctx = z) (hz : z ≠ 0) (hb : Below w.heap.size w w') : PtPost (mkP on nn s t ctx down) (mkC on nn ctx) w (.returned (.tuple #[.agg #[.string ⟨#[]⟩, .string ⟨#[]⟩, .slice none 0 0], .int .i64 z])) w' := by
 have e : mkP on nn s t ctx down = zeroP := by unfold mkP; rw [if_neg (by rw [h]; exact hz)]
 rw [e, h]
 exact ⟨_, rfl, OwnP.nil _ _, hb⟩
theorem Lf.chs : ∀ {x y : List ByteArray} {cs : List Ch} {i j T U : Nat}, Lf x y i j cs T U → x.length ≤ 4096 → y.length ≤ 4096 → ∀ c ∈ cs, ChB c
 | _, _, [], _, _, _, _, _, _, _, c, hc => by cases hc
 | x, y, d :: cs, i, j, T, U, ⟨o, ol, nw, nl, e, g1, g2, g3, g4, g5, g6⟩, hx, hy, c, hc => by
   have hl := g6.le
   rcases List.mem_cons.1 hc with rfl | hc
   · subst e
     unfold ChB zB
     simp only
     omega
   · exact g6.chs hx hy c hc
theorem Lf.few : ∀ {x y : List ByteArray} {cs : List Ch} {i j T U : Nat}, Lf x y i j cs T U → cs.length ≤ (T - i) + (U - j)
 | _, _, [], _, _, _, _, _ => Nat.zero_le _
 | x, y, d :: cs, i, j, T, U, ⟨o, ol, nw, nl, e, g1, g2, g3, g4, g5, g6⟩ => by
   have hl := g6.le
   have := g6.few
   rw [List.length_cons]
   omega
theorem own_box {w : World} {base n k g o : Nat} {e : TypeId} {v u : Value} {xs : List Value} (h : w.ownsRow base e k v n xs) (hg : g < base) : (w.setCell ⟨g, o, none⟩ u).ownsRow base e k v n xs := by
 refine h.kept (row := some g) ⟨rfl, rfl, rfl, by rw [World.size_setCell]; exact Nat.le_refl _, fun x hx hr => Below.heap_setCell _ _ _ _ (fun e => hr (by rw [e]))⟩ ?_
 rcases h.2 with ⟨rfl, _⟩ | ⟨g', cap, cur, rfl, hb, _⟩
 · exact .inl rfl
 · right
   intro e2
   have : g' = g := by simpa [Value.ownBlock] using e2
   omega
theorem OwnP.box {base g o : Nat} {w : World} {v u : Value} {hs : List PH} (h : OwnP base w v hs) (hg : g < base) : OwnP base (w.setCell ⟨g, o, none⟩ u) v hs := by
 obtain ⟨zs, h1, h2, h3⟩ := h
 exact ⟨zs, own_box h1 hg, h2, fun j a b => ⟨(h3 j a b).1, (h3 j a b).2.1, own_box (h3 j a b).2.2 hg⟩⟩
theorem step_app_ph {ops : Array Oper} {o : Oper} {a : Act} {K : Act → World → Prop} {Q : Exit → Act → World → Prop} {E : Prop} {w : World} (hgd : o.guard = none) (s x : Operand)
 (ho : o.op = .call { callee := .builtin .append, args := #[s, x], argTypes := #[tPhs, tPhs] })
 (base : Nat) (hs : List PH) (c : PH) (u v : Value) (hsv : a.eval s = v) (hown : OwnP base w v hs) (hu : OwnL base w u c.lines)
 (ad : Addr) (hx : a.eval x = .slice (some ad) 1 1) (hnews : ∀ (j : Nat) (z : Value), [Value.int .i64 c.old, .int .i64 c.new, u][j]? = some z → w.cell? (ad.add j) = some z)
 (hsz : hs.length + 1 ≤ 1000000) (hbase : base ≤ w.heap.size)
 (h : ∀ g cap w', OwnP base w' (.slice (some ⟨g, 0, none⟩) (hs.length + 1) cap) (hs ++ [c]) → Below base w w' → (∀ (G : Nat) (t : TypeId) (l : List Value), t ≠ tPh → Blk w G t l → Blk w' G t l) → K (a.put o.dst (.slice (some ⟨g, 0, none⟩) (hs.length + 1) cap)) w') :
 if Region.wanted o (yielded ops a.tmps) = true then Oper.wp Tryz.prog o a w K Q else E := by
 obtain ⟨i0, hi0, hz0, hz1, hz2⟩ := info_parts info_ph
 obtain ⟨zs, h1, h2, h3⟩ := hown
 obtain ⟨Au, cu, eu⟩ := hu.form
 refine step_append_lies w hgd s x tPhs ho base tPh i0 zeroPh 3 40 Tryz.underlying24 hi0 hz0 hz1 hz2 rfl (by omega) v zs.length (flatK hunkC zs) hsv h1 ad 1 1 (hunkC ⟨c.old, c.new, u⟩) hx rfl hnews (one_hv ⟨c.old, c.new, u⟩ _ _ _ eu) (by omega) (by unfold maxLen; omega) (by omega) hbase w.heap.size rfl ?_
 intro g cap w' g1 g2 g3 g4
 have hb : Below base w w' := (Below.refl _ w).grown g2 hbase (fun k hk => (h1.lt k hk).1)
 rw [h2]
 refine h g cap w' ⟨zs ++ [⟨c.old, c.new, u⟩], by rw [List.length_append, List.length_singleton, flatK_snoc, ← h2]; exact g1, by simp [h2], fun j a b => ?_⟩ hb (fun G t l ht hB => (g2.block G hB.lt (fun e => ?_)).trans hB)
 rotate_left
 · rcases h1.2 with ⟨rfl, _⟩ | ⟨g', cap', cur', rfl, _, hh, _⟩
   · simp [Value.ownBlock] at e
   · have : G = g' := by simpa [Value.ownBlock] using e
     subst this
     unfold Blk at hB
     rw [hB] at hh
     injection hh with hh
     injection hh with _ ht2
     exact ht ht2
 by_cases hj : j < zs.length
 · rw [List.getElem_append_left hj]
   have e : (hs ++ [c])[j] = hs[j]'(by omega) := List.getElem_append_left (by omega)
   rw [e]
   obtain ⟨k1, k2, k3⟩ := h3 j hj (by omega)
   exact ⟨k1, k2, World.ownsRow.kept k3 g2 (ownK_ne k3 h1 (by decide))⟩
 · have hj2 : j = zs.length := by rw [List.length_append, List.length_singleton] at a; omega
   subst hj2
   have e1 : (zs ++ [(⟨c.old, c.new, u⟩ : HV)])[zs.length] = ⟨c.old, c.new, u⟩ := by simp
   have e2 : (hs ++ [c])[zs.length] = c := by simp [h2]
   rw [e1, e2]
   exact ⟨rfl, rfl, World.ownsRow.kept hu g2 (ownK_ne hu h1 (by decide))⟩
set_option maxRecDepth 100000 in
set_option maxHeartbeats 4000000 in
theorem Make_bad (on nn s t : ByteArray) (ctx : Int) (down : Bool) (w : World) (h : ¬ (nameB on = true ∧ nameB nn = true)) : Calls Tryz.prog 25 #[.string on, .string nn, .string s, .string t, .int .i64 ctx, .bool down] w (PtPost (mkP on nn s t ctx down) (mkC on nn ctx) w) := by
 have HC : Hid (mkC on nn ctx = 120) := Lib.hid (by unfold mkC; rw [if_neg h])
 have HI1 := Lib.hid (fun w => isName_any on w)
 have HI2 := Lib.hid (fun w => isName_any nn w)
 have HEnd := Lib.hid (fun w' (hb : Below w.heap.size w w') => pt_zero (s := s) (t := t) (down := down) HC.out (by decide) hb)
 have HB0 := Lib.hid ((Below.refl w.heap.size w).alloc (Nat.le_refl _) (.cells #[.string ⟨#[]⟩, .string ⟨#[]⟩, .slice none 0 0] tPat))
 have HZ := blk3 (show Blk (w.alloc (.cells #[.string ⟨#[]⟩, .string ⟨#[]⟩, .slice none 0 0] tPat)) w.heap.size tPat [.string ⟨#[]⟩, .string ⟨#[]⟩, .slice none 0 0] from heap_new w _)
 obtain ⟨z0, z1, z2, fz, hlt⟩ := HZ
 have HB3 := Lib.hid (((HB0.out.setCell (p := ⟨w.heap.size, 0, none⟩) (Nat.le_refl _) (.string ⟨#[]⟩)).setCell (p := ⟨w.heap.size, 1, none⟩) (Nat.le_refl _) (.string ⟨#[]⟩)).setCell (p := ⟨w.heap.size, 2, none⟩) (Nat.le_refl _) (.slice none 0 0))
 by_cases h1 : nameB on = true
 · have h2 : nameB nn = false := by
    cases hh : nameB nn
    · rfl
    · exact absurd ⟨h1, hh⟩ h
   rw [h1] at HI1
   rw [h2] at HI2
   clear h h1 h2
   go_enter Tryz.func25, Tryz.ntmps25
   go_wp2_with fail
   refine (HI1.out _).mono ?_
   rintro e w1 ⟨rfl, rfl⟩
   go_wp2_with fail
   refine (HI2.out _).mono ?_
   rintro e w1 ⟨rfl, rfl⟩
   go_wp2_with fail
   exact bodyPost_ret (v := .tuple #[.agg #[.string ⟨#[]⟩, .string ⟨#[]⟩, .slice none 0 0], .int .i64 120]) (by simp [results, Tryz.f25, go_sem, z0, z1, z2]) rfl (HEnd.out _ HB0.out)
 · have h1 : nameB on = false := by simpa using h1
   rw [h1] at HI1
   clear h h1
   go_enter Tryz.func25, Tryz.ntmps25
   go_wp2_with fail
   refine (HI1.out _).mono ?_
   rintro e w1 ⟨rfl, rfl⟩
   go_wp2_with fail
   exact bodyPost_ret (v := .tuple #[.agg #[.string ⟨#[]⟩, .string ⟨#[]⟩, .slice none 0 0], .int .i64 120]) (by simp [results, Tryz.f25, go_sem, z0, z1, z2]) rfl (HEnd.out _ HB0.out)
structure MkI (V : World) (on nn : ByteArray) (wr : World) (v : Value) (hs : List PH) : Prop where
 bel : Below V.heap.size V wr
 blk : Blk wr V.heap.size tPat [.string on, .string nn, v]
 own : OwnP (V.heap.size + 1) wr v hs
set_option maxRecDepth 100000 in
set_option maxHeartbeats 8000000 in
theorem Make_good (on nn s t : ByteArray) (ctx : Int) (down : Bool) (hs : s.size ≤ 1000) (ht : t.size ≤ 1000) (w : World) (h : nameB on = true ∧ nameB nn = true) : Calls Tryz.prog 25 #[.string on, .string nn, .string s, .string t, .int .i64 ctx, .bool down] w (PtPost (mkP on nn s t ctx down) (mkC on nn ctx) w) := by
 have HI1 := Lib.hid (fun w => isName_any on w)
 have HI2 := Lib.hid (fun w => isName_any nn w)
 have HCp := Lib.hid (fun w => compare_any s t down hs ht w)
 rw [h.1] at HI1
 rw [h.2] at HI2
 have l1 := lnB_len s
 have l2 := lnB_len t
 have hlf := scrD_lf (s := s) (t := t) (by omega) (by omega) down
 have hfit := scrD_fit (s := s) (t := t) (by omega) (by omega) down
 have hchs := hlf.chs (by omega) (by omega)
 have hfew := hlf.few
 have hgc : gcF ctx (scrD down s t) ((lnB s).length : Int) ((lnB t).length : Int) = if ctx < 0 ∨ 1048576 < ctx then 3 else 0 := by
  have la : (idA s t).length = (lnB s).length := by unfold idA; rw [List.length_map]
  have lb : (idB s t).length = (lnB t).length := by unfold idB; rw [List.length_map]
  have hok := hfit.1
  rw [la, lb] at hok
  unfold gcF
  split
  · rfl
  · exact chkF_ok ⟨by omega, by omega⟩ ⟨by omega, by omega⟩ hok
 have HGr := Lib.hid (fun v w (hr : RdC w v (scrD down s t)) => Group_any v (scrD down s t) ((lnB s).length : Int) ((lnB t).length : Int) ctx w hr (by omega) hchs)
 unfold GrPost at HGr
 rw [hgc] at HGr
 have hmk : mkC on nn ctx = if ctx < 0 ∨ 1048576 < ctx then 3 else 0 := by unfold mkC; rw [if_pos h]
 have HEndBad := Lib.hid (fun w' (hb : Below w.heap.size w w') (hc : ctx < 0 ∨ 1048576 < ctx) => pt_zero (on := on) (nn := nn) (s := s) (t := t) (down := down) (ctx := ctx) (z := 3) (by rw [hmk, if_pos hc]) (by decide) hb)
 have HEndGood : Hid (¬ (ctx < 0 ∨ 1048576 < ctx) → ∀ v w', OwnP w.heap.size w' v (patH (lnB s) (lnB t) ctx (scrD down s t)) → Below w.heap.size w w' → PtPost (mkP on nn s t ctx down) (mkC on nn ctx) w (.returned (.tuple #[.agg #[.string on, .string nn, v], .int .i64 0])) w') := Lib.hid (fun hc v w' h1 h2 => by
  have e : mkC on nn ctx = 0 := by rw [hmk, if_neg hc]
  have e2 : mkP on nn s t ctx down = ⟨on, nn, patH (lnB s) (lnB t) ctx (scrD down s t)⟩ := by unfold mkP; rw [if_pos e]
  rw [e, e2]
  exact ⟨v, rfl, h1, h2⟩)
 have HPh := Lib.hid (fun (hc : 0 ≤ ctx) => ph_group hc hlf)
 have HLin := Lib.hid (fun (vx vy vl : Value) (p q oF nF oT nT : Nat) (w : World) (hx : RdV w vx (stringsV (lnB s))) (hy : RdV w vy (stringsV (lnB t))) (hl : RdC w vl (scrD down s t)) (hpq : p ≤ q) (hq : q ≤ (scrD down s t).length) (hf : Lf (lnB s) (lnB t) oF nF (cut (scrD down s t) p q) oT nT) =>
  lines_any (lnB s) (lnB t) (scrD down s t) vx vy vl p q oF nF oT nT w hx hy hl (by omega) (by omega) (by omega) hpq hq hf)
 have hpat : patH (lnB s) (lnB t) ctx (scrD down s t) = (group ctx (lnB s).length (scrD down s t)).map (mkPH (lnB s) (lnB t) (scrD down s t)) := rfl
 unfold CpPost at HCp
 rw [hpat] at HEndGood
 have hglen := group_len ctx ((lnB s).length : Int) (scrD down s t)
 clear hfit hchs hgc hmk hpat hlf h
 generalize scrD down s t = l at *
 generalize hX : lnB s = xs at *
 generalize hY : lnB t = ys at *
 clear hX hY
 have HB0 := Lib.hid ((Below.refl w.heap.size w).alloc (Nat.le_refl _) (.cells #[.string ⟨#[]⟩, .string ⟨#[]⟩, .slice none 0 0] tPat))
 have HZ0 : Hid (Blk (w.alloc (.cells #[.string ⟨#[]⟩, .string ⟨#[]⟩, .slice none 0 0] tPat)) w.heap.size tPat [.string ⟨#[]⟩, .string ⟨#[]⟩, .slice none 0 0]) := Lib.hid (heap_new w _)
 go_enter Tryz.func25, Tryz.ntmps25
 go_wp2_with fail
 refine (HI1.out _).mono ?_
 rintro e w1 ⟨rfl, rfl⟩
 go_wp2_with fail
 refine (HI2.out _).mono ?_
 rintro e w1 ⟨rfl, rfl⟩
 go_wp2_with fail
 refine (HCp.out _).mono ?_
 rintro e w1 ⟨vx, vy, vl, rfl, hrx, hry, hrl, hb⟩
 have HX1 := Lib.hid hrx
 have HY1 := Lib.hid hry
 have HL1 := Lib.hid hrl
 have HB1 := Lib.hid (HB0.out.trans (hb.mono HB0.out.size))
 have HZ1 := Lib.hid (HZ0.out.below hb)
 obtain ⟨Ax, cx, rfl⟩ := hrx.form
 obtain ⟨Ay, cy, rfl⟩ := hry.form
 obtain ⟨Al, cl, rfl⟩ := hrl.form
 rw [stringsV_len] at HX1 HY1
 rw [stringsV_len, stringsV_len]
 clear hrx hry hrl hb HB0 HZ0 HI1 HI2 HCp
 generalize hXn : xs.length = X at *
 generalize hYn : ys.length = Y at *
 generalize hLn : l.length = L at *
 have HXn := Lib.hid hXn
 have HLn := Lib.hid hLn
 clear hXn hYn hLn
 have HA2 := Lib.hid ((Below.refl w1.heap.size w1).alloc (Nat.le_refl _) (.cells #[.slice Ax X cx, .slice Ay Y cy, .slice Al L cl] tDf))
 have HD2 : Hid (Blk (w1.alloc (.cells #[.slice Ax X cx, .slice Ay Y cy, .slice Al L cl] tDf)) w1.heap.size tDf [.slice Ax X cx, .slice Ay Y cy, .slice Al L cl]) := Lib.hid (heap_new w1 _)
 go_upto_region 4 with fail
 obtain ⟨W2, hW2⟩ : ∃ W2, W2 = w1.alloc (.cells #[.slice Ax X cx, .slice Ay Y cy, .slice Al L cl] tDf) := ⟨_, rfl⟩
 rw [← hW2] at HA2 HD2 ⊢
 clear hW2
 have HX2 := Lib.hid (HX1.out.below HA2.out)
 have HY2 := Lib.hid (HY1.out.below HA2.out)
 have HL2 := Lib.hid (HL1.out.below HA2.out)
 have HB2 := Lib.hid (HB1.out.trans (HA2.out.mono HB1.out.size))
 have HZ2 := Lib.hid (HZ1.out.below HA2.out)
 obtain ⟨d0, d1, d2, -, -⟩ := blk3 HD2.out
 clear HX1 HY1 HL1 HB1 HZ1 HA2
 generalize hD : w1.heap.size = DB at *
 clear hD
 by_cases hc : ctx < 0 ∨ 1048576 < ctx
 · rw [if_pos hc] at HGr
   have HE := Lib.hid (fun w' hb => HEndBad.out w' hb hc)
   clear HEndGood HEndBad HPh HLin hc
   go_wp2_with fail
   refine (HGr.out _ _ HL2.out).mono ?_
   rintro e w3 ⟨vh, rfl, -, hnil, hb⟩
   obtain rfl := hnil (by decide)
   have HB3 := Lib.hid (HB2.out.trans (hb.mono HB2.out.size))
   obtain ⟨z0, z1, z2, fz, hlt⟩ := blk3 (HZ2.out.below hb)
   have HB4 := Lib.hid (((HB3.out.setCell (p := ⟨w.heap.size, 0, none⟩) (Nat.le_refl _) (.string ⟨#[]⟩)).setCell (p := ⟨w.heap.size, 1, none⟩) (Nat.le_refl _) (.string ⟨#[]⟩)).setCell (p := ⟨w.heap.size, 2, none⟩) (Nat.le_refl _) (.slice none 0 0))
   clear hb hnil HB2 HZ2 HGr
   go_wp2_with fail
   exact bodyPost_ret (v := .tuple #[.agg #[.string ⟨#[]⟩, .string ⟨#[]⟩, .slice none 0 0], .int .i64 3]) (by simp [results, Tryz.f25, go_sem, z0, z1, z2]) rfl (HE.out _ HB4.out)
 · rw [if_neg hc] at HGr
   have hc0 : 0 ≤ ctx := by omega
   have HE := Lib.hid (HEndGood.out hc)
   have HP := Lib.hid (HPh.out hc0)
   clear HEndGood HEndBad HPh hc
   go_wp2_with fail
   refine (HGr.out _ _ HL2.out).mono ?_
   rintro e w3 ⟨vh, rfl, hown, -, hb⟩
   have HH3 := Lib.hid (hown trivial).rd
   have HB3 := Lib.hid (HB2.out.trans (hb.mono HB2.out.size))
   have HX3 := Lib.hid (HX2.out.below hb)
   have HY3 := Lib.hid (HY2.out.below hb)
   have HL3 := Lib.hid (HL2.out.below hb)
   have HZ3 := Lib.hid (HZ2.out.below hb)
   have HD3 := Lib.hid (HD2.out.below hb)
   obtain ⟨Ah, ch, rfl⟩ := (hown trivial).rd.form
   clear hb hown HB2 HX2 HY2 HL2 HZ2 HD2 HGr d0 d1 d2
   generalize hgr : group ctx (X : Int) l = gs at *
   generalize hN : gs.length = N at *
   have HN := Lib.hid hN
   clear hgr hN
   have HI0 : Hid (MkI w3 on nn (w3.alloc (.cells #[.string on, .string nn, .slice none 0 0] tPat)) (.slice none 0 0) []) := Lib.hid ⟨(Below.refl _ _).alloc (Nat.le_refl _) _, heap_new w3 _, OwnP.nil _ _⟩
   go_wp2_with fail
   go_loopw [62] (fun i wr => ∃ (j : Nat) (v : Value), j ≤ N ∧ i = .int .i64 j ∧ Hid (MkI w3 on nn wr v ((gs.take j).map (mkPH xs ys l)))) (fun i _ => N - (intOf i).toNat)
   case atStart => exact ⟨0, _, Nat.zero_le _, rfl, HI0⟩
   case round =>
    obtain ⟨j, v, hj, rfl, HI⟩ := hrel
    obtain ⟨p0, p1, p2, pf, plt⟩ := blk3 HI.out.blk
    by_cases hlt : j < N
    · have hx : j < gs.length := by rw [HN.out]; exact hlt
      obtain ⟨p, k, oF, nF, oT, nT, eg, hpk, hkl, hlf⟩ := ph_at HP.out j hx
      have HLf := Lib.hid hlf
      have HTk : Hid ((gs.take (j + 1)).map (mkPH xs ys l) = (gs.take j).map (mkPH xs ys l) ++ [⟨oF, nF, lnsF xs ys oF (cut l p k) oT⟩]) := Lib.hid (by
       rw [List.take_succ_eq_append_getElem hx, List.map_append, List.map_singleton, eg, mkPH_nat])
      have hlj : ((gs.take j).map (mkPH xs ys l)).length + 1 ≤ 1000000 := by rw [List.length_map, List.length_take]; omega
      obtain ⟨bh, off, rfl, c0, c1, c2, c3, c4, c5⟩ := RdH_at (HH3.out.below HI.out.bel) j hx
      rw [eg] at c0 c1 c2 c3 c4 c5
      simp only at c0 c1 c2 c3 c4 c5
      have i1 : (0 : Int) ≤ (j : Int) := by omega
      have i2 : (j : Int) < (N : Int) := by omega
      generalize (gs.take j).map (mkPH xs ys l) = ps at *
      clear hlf eg hx
      go_upto_region 13 with fail
      have HA1 := Lib.hid ((Below.refl wr.heap.size wr).alloc (Nat.le_refl _) (.cells #[.int .i64 (p : Int), .int .i64 (k : Int), .int .i64 (oF : Int), .int .i64 (oT : Int), .int .i64 (nF : Int), .int .i64 (nT : Int)] tHk))
      have HH1 : Hid (Blk (wr.alloc (.cells #[.int .i64 (p : Int), .int .i64 (k : Int), .int .i64 (oF : Int), .int .i64 (oT : Int), .int .i64 (nF : Int), .int .i64 (nT : Int)] tHk)) wr.heap.size tHk [.int .i64 (p : Int), .int .i64 (k : Int), .int .i64 (oF : Int), .int .i64 (oT : Int), .int .i64 (nF : Int), .int .i64 (nT : Int)]) := Lib.hid (heap_new wr _)
      obtain ⟨W1, hW1⟩ : ∃ W1, W1 = wr.alloc (.cells #[.int .i64 (p : Int), .int .i64 (k : Int), .int .i64 (oF : Int), .int .i64 (oT : Int), .int .i64 (nF : Int), .int .i64 (nT : Int)] tHk) := ⟨_, rfl⟩
      rw [← hW1] at HA1 HH1 ⊢
      clear hW1
      have HI1 : Hid (MkI w3 on nn W1 v ps) := Lib.hid ⟨HI.out.bel.trans (HA1.out.mono HI.out.bel.size), HI.out.blk.below HA1.out, HI.out.own.below HA1.out⟩
      have HI0b := HI.out.blk.lt
      clear HA1 HI c0 c1 c2 c3 c4 c5 p0 p1 p2 pf plt
      have hW1s : wr.heap.size < W1.heap.size := HH1.out.lt
      have hHB : w3.heap.size ≠ wr.heap.size := by have := HI0b; omega
      generalize wr.heap.size = HB at *
      have HFx : Hid (∀ V : World, Below W1.heap.size W1 V → V.cell? ⟨w3.heap.size, 2, none⟩ = some v ∧ V.cell? ⟨HB, 0, none⟩ = some (.int .i64 (p : Int)) ∧ V.cell? ⟨HB, 1, none⟩ = some (.int .i64 (k : Int)) ∧ V.cell? ⟨HB, 2, none⟩ = some (.int .i64 (oF : Int)) ∧ V.cell? ⟨HB, 3, none⟩ = some (.int .i64 (oT : Int)) ∧ V.cell? ⟨HB, 4, none⟩ = some (.int .i64 (nF : Int)) ∧ V.cell? ⟨HB, 5, none⟩ = some (.int .i64 (nT : Int)) ∧
       V.cell? ⟨DB, 0, none⟩ = some (.slice Ax X cx) ∧ V.cell? ⟨DB, 1, none⟩ = some (.slice Ay Y cy) ∧ V.cell? ⟨DB, 2, none⟩ = some (.slice Al L cl)) := Lib.hid (fun V hV => by
       have b1 := HI1.out.blk.below hV
       have b2 := HH1.out.below hV
       have b3 := (HD3.out.below HI1.out.bel).below hV
       exact ⟨b1.cell (k := 2) (show 2 < 3 by decide), b2.cell (k := 0) (show 0 < 6 by decide), b2.cell (k := 1) (show 1 < 6 by decide), b2.cell (k := 2) (show 2 < 6 by decide), b2.cell (k := 3) (show 3 < 6 by decide), b2.cell (k := 4) (show 4 < 6 by decide), b2.cell (k := 5) (show 5 < 6 by decide), b3.cell (k := 0) (show 0 < 3 by decide), b3.cell (k := 1) (show 1 < 3 by decide), b3.cell (k := 2) (show 2 < 3 by decide)⟩)
      have HLn2 : Hid (∀ V : World, Below W1.heap.size W1 V → Calls Tryz.prog 48 #[.agg #[.slice Ax X cx, .slice Ay Y cy, .slice Al L cl], .agg #[.int .i64 (p : Int), .int .i64 (k : Int), .int .i64 (oF : Int), .int .i64 (oT : Int), .int .i64 (nF : Int), .int .i64 (nT : Int)]] V (ApPost V.heap.size (lnsF xs ys oF (cut l p k) oT) V)) := Lib.hid (fun V hV =>
       HLin.out _ _ _ p k oF nF oT nT V ((HX3.out.below HI1.out.bel).below hV) ((HY3.out.below HI1.out.bel).below hV) ((HL3.out.below HI1.out.bel).below hV) (by omega) (by have := HLn.out; omega) HLf.out)
      have HNext : Hid (∀ (V w7 : World) (v7 : Value), Below W1.heap.size W1 V → OwnP (w3.heap.size + 1) w7 v7 (ps ++ [⟨oF, nF, lnsF xs ys oF (cut l p k) oT⟩]) → Below (w3.heap.size + 1) V w7 → (w7.cell? ⟨w3.heap.size, 2, none⟩ = some v ∧ w7.frozen? ⟨w3.heap.size, 2, none⟩ = false) ∧ MkI w3 on nn (w7.setCell ⟨w3.heap.size, 2, none⟩ v7) v7 (ps ++ [⟨oF, nF, lnsF xs ys oF (cut l p k) oT⟩])) := Lib.hid (fun V w7 v7 hV ho hb => by
       have hlt1 := HI1.out.blk.lt
       have b7 : Blk w7 w3.heap.size tPat [.string on, .string nn, v] := (hb.block w3.heap.size (by omega)).trans (HI1.out.blk.below hV)
       refine ⟨⟨b7.cell (k := 2) (show 2 < 3 by decide), b7.free 2⟩, ?_, b7.set 2 v7, ho.box (by omega)⟩
       have h1 : Below w3.heap.size w3 V := HI1.out.bel.trans (hV.mono (by omega))
       exact (h1.trans (hb.mono (by omega))).setCell (p := ⟨w3.heap.size, 2, none⟩) (Nat.le_refl _) _)
      have hW1d : w3.heap.size + 1 ≤ W1.drew.heap.size := by have := HI1.out.blk.lt; show w3.heap.size + 1 ≤ W1.heap.size; omega
      have HAfter : Hid (∀ (w5 : World) (A5 : Option Addr) (c5 : Nat), OwnL W1.drew.heap.size w5 (.slice A5 (lnsF xs ys oF (cut l p k) oT).length c5) (lnsF xs ys oF (cut l p k) oT) → Below W1.drew.heap.size W1.drew w5 →
       w5.cell? ⟨w3.heap.size, 2, none⟩ = some v ∧ (w5.alloc (.cells #[.int .i64 (oF : Int), .int .i64 (nF : Int), .slice A5 (lnsF xs ys oF (cut l p k) oT).length c5] tPh)).cell? ⟨w3.heap.size, 2, none⟩ = some v ∧
       OwnL (w3.heap.size + 1) (w5.alloc (.cells #[.int .i64 (oF : Int), .int .i64 (nF : Int), .slice A5 (lnsF xs ys oF (cut l p k) oT).length c5] tPh)) (.slice A5 (lnsF xs ys oF (cut l p k) oT).length c5) (lnsF xs ys oF (cut l p k) oT) ∧
       OwnP (w3.heap.size + 1) (w5.alloc (.cells #[.int .i64 (oF : Int), .int .i64 (nF : Int), .slice A5 (lnsF xs ys oF (cut l p k) oT).length c5] tPh)) v ps ∧
       w3.heap.size + 1 ≤ (w5.alloc (.cells #[.int .i64 (oF : Int), .int .i64 (nF : Int), .slice A5 (lnsF xs ys oF (cut l p k) oT).length c5] tPh)).heap.size ∧
       Below W1.heap.size W1 (w5.alloc (.cells #[.int .i64 (oF : Int), .int .i64 (nF : Int), .slice A5 (lnsF xs ys oF (cut l p k) oT).length c5] tPh))) := Lib.hid (fun w5 A5 c5 ho hb => by
       have hB : Below W1.heap.size W1 w5 := (Below.refl _ W1).drew.trans hb
       have hA := (Below.refl w5.heap.size w5).alloc (Nat.le_refl _) (.cells #[.int .i64 (oF : Int), .int .i64 (nF : Int), .slice A5 (lnsF xs ys oF (cut l p k) oT).length c5] tPh)
       have hB2 := hB.alloc hB.size (.cells #[.int .i64 (oF : Int), .int .i64 (nF : Int), .slice A5 (lnsF xs ys oF (cut l p k) oT).length c5] tPh)
       exact ⟨(HFx.out _ hB).1, (HFx.out _ hB2).1, (ho.base hW1d).below hA, (HI1.out.own.below hB).below hA, Nat.le_trans hW1d hB2.size, hB2⟩)
      generalize lnsF xs ys oF (cut l p k) oT = LN at *
      obtain ⟨a0, a1, a2, a3, a4, a5, a6, a7, a8, a9⟩ := HFx.out W1 (Below.refl _ _)
      have HSx : Hid (∀ V : World, Blk V HB tHk [.int .i64 (p : Int), .int .i64 (k : Int), .int .i64 (oF : Int), .int .i64 (oT : Int), .int .i64 (nF : Int), .int .i64 (nT : Int)] → Blk V DB tDf [.slice Ax X cx, .slice Ay Y cy, .slice Al L cl] → V.cell? ⟨HB, 0, none⟩ = some (.int .i64 (p : Int)) ∧ V.cell? ⟨HB, 1, none⟩ = some (.int .i64 (k : Int)) ∧ V.cell? ⟨HB, 2, none⟩ = some (.int .i64 (oF : Int)) ∧ V.cell? ⟨HB, 3, none⟩ = some (.int .i64 (oT : Int)) ∧ V.cell? ⟨HB, 4, none⟩ = some (.int .i64 (nF : Int)) ∧ V.cell? ⟨HB, 5, none⟩ = some (.int .i64 (nT : Int)) ∧
       V.cell? ⟨DB, 0, none⟩ = some (.slice Ax X cx) ∧ V.cell? ⟨DB, 1, none⟩ = some (.slice Ay Y cy) ∧ V.cell? ⟨DB, 2, none⟩ = some (.slice Al L cl)) := Lib.hid (fun V b2 b3 => ⟨b2.cell (k := 0) (show 0 < 6 by decide), b2.cell (k := 1) (show 1 < 6 by decide), b2.cell (k := 2) (show 2 < 6 by decide), b2.cell (k := 3) (show 3 < 6 by decide), b2.cell (k := 4) (show 4 < 6 by decide), b2.cell (k := 5) (show 5 < 6 by decide), b3.cell (k := 0) (show 0 < 3 by decide), b3.cell (k := 1) (show 1 < 3 by decide), b3.cell (k := 2) (show 2 < 3 by decide)⟩)
      have HD1 := Lib.hid (HD3.out.below HI1.out.bel)
      have hDB := HD3.out.lt
      have hPB := HI1.out.blk.lt
      have ne1 : w3.heap.size ≠ HB := hHB
      have ne2 : HB ≠ w3.heap.size := Ne.symm hHB
      have ne3 : w3.heap.size ≠ DB := by omega
      have ne4 : DB ≠ w3.heap.size := by omega
      have HBe : Hid (Below W1.heap.size W1 W1.drew) := Lib.hid (Below.refl _ W1).drew
      clear HFx
      refine wp_region_held_drew (S := (fun V => V.cell? ⟨HB, 0, none⟩ = some (.int .i64 (p : Int)) ∧ V.cell? ⟨HB, 1, none⟩ = some (.int .i64 (k : Int)) ∧ V.cell? ⟨HB, 2, none⟩ = some (.int .i64 (oF : Int)) ∧ V.cell? ⟨HB, 3, none⟩ = some (.int .i64 (oT : Int)) ∧ V.cell? ⟨HB, 4, none⟩ = some (.int .i64 (nF : Int)) ∧ V.cell? ⟨HB, 5, none⟩ = some (.int .i64 (nT : Int)) ∧ V.cell? ⟨DB, 0, none⟩ = some (.slice Ax X cx) ∧ V.cell? ⟨DB, 1, none⟩ = some (.slice Ay Y cy) ∧ V.cell? ⟨DB, 2, none⟩ = some (.slice Al L cl))) (by kernel_rfl) (HSx.out _ (HH1.out.below HBe.out) (HD1.out.below HBe.out)) (fun hHeld => ?_)
      refine wpAnyH_take (i := 0) (v := .pointer (some ⟨w3.heap.size, 2, none⟩)) rfl (by kernel_rfl) (by kernel_rfl) (by kernel_rfl) (fun _ _ _ h => h) (Or.inl ⟨by kernel_rfl, ?_⟩) (by assumption) ?_
      · intro V hV
        obtain ⟨h0, h1, h2, h3, h4, h5, h6, h7, h8⟩ := hV
        go_simp
      change wpAnyH _ _ _ _ _ _ _ (Act.put _ (some 66) _) _
      simp only [Act.put, List.setIfInBounds_toArray, List.set_cons_zero, List.set_cons_succ]
      refine wpAnyH_take (i := 2) (v := .pointer (some ⟨HB, 2, none⟩)) rfl (by kernel_rfl) (by kernel_rfl) (by kernel_rfl) (fun _ _ _ h => h) (Or.inl ⟨by kernel_rfl, ?_⟩) (by assumption) ?_
      · intro V hV
        obtain ⟨h0, h1, h2, h3, h4, h5, h6, h7, h8⟩ := hV
        go_simp
      change wpAnyH _ _ _ _ _ _ _ (Act.put _ (some 68) _) _
      simp only [Act.put, List.setIfInBounds_toArray, List.set_cons_zero, List.set_cons_succ]
      refine wpAnyH_take (i := 3) (v := .pointer (some ⟨HB, 2, none⟩)) rfl (by kernel_rfl) (by kernel_rfl) (by kernel_rfl) (fun _ _ _ h => h) (Or.inl ⟨by kernel_rfl, ?_⟩) (by assumption) ?_
      · intro V hV
        obtain ⟨h0, h1, h2, h3, h4, h5, h6, h7, h8⟩ := hV
        go_simp
      change wpAnyH _ _ _ _ _ _ _ (Act.put _ (some 69) _) _
      simp only [Act.put, List.setIfInBounds_toArray, List.set_cons_zero, List.set_cons_succ]
      refine wpAnyH_take (i := 4) (v := .int .i64 (oF : Int)) rfl (by kernel_rfl) (by kernel_rfl) (by kernel_rfl) (fun _ _ _ h => h) (Or.inl ⟨by kernel_rfl, ?_⟩) (by assumption) ?_
      · intro V hV
        obtain ⟨h0, h1, h2, h3, h4, h5, h6, h7, h8⟩ := hV
        go_simp
      change wpAnyH _ _ _ _ _ _ _ (Act.put _ (some 70) _) _
      simp only [Act.put, List.setIfInBounds_toArray, List.set_cons_zero, List.set_cons_succ]
      refine wpAnyH_take (i := 5) (v := .pointer (some ⟨HB, 4, none⟩)) rfl (by kernel_rfl) (by kernel_rfl) (by kernel_rfl) (fun _ _ _ h => h) (Or.inl ⟨by kernel_rfl, ?_⟩) (by assumption) ?_
      · intro V hV
        obtain ⟨h0, h1, h2, h3, h4, h5, h6, h7, h8⟩ := hV
        go_simp
      change wpAnyH _ _ _ _ _ _ _ (Act.put _ (some 71) _) _
      simp only [Act.put, List.setIfInBounds_toArray, List.set_cons_zero, List.set_cons_succ]
      refine wpAnyH_take (i := 6) (v := .pointer (some ⟨HB, 4, none⟩)) rfl (by kernel_rfl) (by kernel_rfl) (by kernel_rfl) (fun _ _ _ h => h) (Or.inl ⟨by kernel_rfl, ?_⟩) (by assumption) ?_
      · intro V hV
        obtain ⟨h0, h1, h2, h3, h4, h5, h6, h7, h8⟩ := hV
        go_simp
      change wpAnyH _ _ _ _ _ _ _ (Act.put _ (some 72) _) _
      simp only [Act.put, List.setIfInBounds_toArray, List.set_cons_zero, List.set_cons_succ]
      refine wpAnyH_take (i := 7) (v := .int .i64 (nF : Int)) rfl (by kernel_rfl) (by kernel_rfl) (by kernel_rfl) (fun _ _ _ h => h) (Or.inl ⟨by kernel_rfl, ?_⟩) (by assumption) ?_
      · intro V hV
        obtain ⟨h0, h1, h2, h3, h4, h5, h6, h7, h8⟩ := hV
        go_simp
      change wpAnyH _ _ _ _ _ _ _ (Act.put _ (some 73) _) _
      simp only [Act.put, List.setIfInBounds_toArray, List.set_cons_zero, List.set_cons_succ]
      refine wpAnyH_take (i := 8) (v := .agg #[.slice Ax X cx, .slice Ay Y cy, .slice Al L cl]) rfl (by kernel_rfl) (by kernel_rfl) (by kernel_rfl) (fun _ _ _ h => h) (Or.inl ⟨by kernel_rfl, ?_⟩) (by assumption) ?_
      · intro V hV
        obtain ⟨h0, h1, h2, h3, h4, h5, h6, h7, h8⟩ := hV
        go_simp
      change wpAnyH _ _ _ _ _ _ _ (Act.put _ (some 74) _) _
      simp only [Act.put, List.setIfInBounds_toArray, List.set_cons_zero, List.set_cons_succ]
      refine wpAnyH_take (i := 9) (v := .agg #[.int .i64 (p : Int), .int .i64 (k : Int), .int .i64 (oF : Int), .int .i64 (oT : Int), .int .i64 (nF : Int), .int .i64 (nT : Int)]) rfl (by kernel_rfl) (by kernel_rfl) (by kernel_rfl) (fun _ _ _ h => h) (Or.inl ⟨by kernel_rfl, ?_⟩) (by assumption) ?_
      · intro V hV
        obtain ⟨h0, h1, h2, h3, h4, h5, h6, h7, h8⟩ := hV
        go_simp
      change wpAnyH _ _ _ _ _ _ _ (Act.put _ (some 75) _) _
      simp only [Act.put, List.setIfInBounds_toArray, List.set_cons_zero, List.set_cons_succ]
      refine wpAnyH_ready (rs := [1, 10]) (by kernel_rfl) (by simp) ?_
      refine AllReadyH.cons rfl (fun K hK => ?_) (AllReadyH.cons rfl (fun K hK => ?_) AllReadyH.nil)
      · skip
        go_simp
        refine hK.out _ _ (HSx.out _ (HH1.out.below HBe.out) (HD1.out.below HBe.out)) (fun hHeld => ?_)
        clear hK K
        refine wpAnyH_ready (rs := [10]) (by kernel_rfl) (by simp) ?_
        refine AllReadyH.cons rfl (fun K hK => ?_) AllReadyH.nil
        go_simp
        go_at_call 48
        refine (HLn2.out W1.drew (Below.refl _ W1).drew).mono ?_
        rintro e w5 ⟨v5, rfl, ho5, hb5, -⟩
        obtain ⟨A5, c5, rfl⟩ := ho5.form
        obtain ⟨b0, -, hu5, hp5, hs5, hB5⟩ := HAfter.out w5 A5 c5 ho5 hb5
        have hlt5 : w3.heap.size < w5.heap.size := Nat.lt_of_lt_of_le hPB (Nat.le_trans (Nat.le_refl W1.drew.heap.size) hb5.size)
        have HB5 := Lib.hid ((Below.refl _ W1).drew.trans hb5)
        have HU5 := Lib.hid hu5
        have HP5 := Lib.hid hp5
        have HBA5 := Lib.hid hB5
        clear hu5 hp5 hB5 ho5 hb5
        go_wp2_with fail
        refine hK.out _ _ (HSx.out _ (HH1.out.below HB5.out) (HD1.out.below HB5.out)) (fun hHeld => ?_)
        clear hK K
        refine wpAnyH_take (i := 11) (v := .agg #[.int .i64 (oF : Int), .int .i64 (nF : Int), .slice A5 LN.length c5]) rfl (by kernel_rfl) (by kernel_rfl) (by kernel_rfl) (fun _ _ _ h => h) (Or.inl ⟨by kernel_rfl, ?_⟩) (by assumption) ?_
        · intro V hV
          obtain ⟨h0, h1, h2, h3, h4, h5, h6, h7, h8⟩ := hV
          go_simp
        change wpAnyH _ _ _ _ _ _ _ (Act.put _ (some 77) _) _
        simp only [Act.put, List.setIfInBounds_toArray, List.set_cons_zero, List.set_cons_succ]
        refine wpAnyH_ready (rs := [12]) (by kernel_rfl) (by simp) ?_
        refine AllReadyH.cons rfl (fun K hK => ?_) AllReadyH.nil
        go_simp
        refine hK.out _ _ (HSx.out _ (HH1.out.below HBA5.out) (HD1.out.below HBA5.out)) (fun hHeld => ?_)
        clear hK K
        refine wpAnyH_ready (rs := [13]) (by kernel_rfl) (by simp) ?_
        refine AllReadyH.cons rfl (fun K hK => ?_) AllReadyH.nil
        refine step_app_ph (by rfl) (.tmp 67) (.tmp 78) (by rfl) (w3.heap.size + 1) ps ⟨oF, nF, LN⟩ _ v (by rfl) HP5.out HU5.out ⟨w5.heap.size, 0, none⟩ (by rfl) (World.news_of_block (cs := #[.int .i64 (oF : Int), .int .i64 (nF : Int), .slice A5 LN.length c5]) (t := tPh) (fr := (0, 0)) (heap_new w5 _)) hlj hs5 ?_
        intro g7 cap7 w7 ho7 hb7 hk7
        obtain ⟨⟨e0, e1⟩, hmk7⟩ := HNext.out _ _ _ HBA5.out ho7 hb7
        have HM7 := Lib.hid hmk7
        have HH7 := Lib.hid (hk7 _ _ _ (by decide) (HH1.out.below HBA5.out))
        have HD7 := Lib.hid (hk7 _ _ _ (by decide) (HD1.out.below HBA5.out))
        clear ho7 hb7 hmk7 hk7
        refine hK.out _ _ (HSx.out _ HH7.out HD7.out) (fun hHeld => ?_)
        clear hK K
        simp only [Act.put, List.setIfInBounds_toArray]
        refine wpAnyH_take (i := 14) (v := .pointer (some ⟨w3.heap.size, 2, none⟩)) rfl (by kernel_rfl) (by kernel_rfl) (by kernel_rfl) (fun _ _ _ h => h) (Or.inl ⟨by kernel_rfl, ?_⟩) (by assumption) ?_
        · intro V hV
          obtain ⟨h0, h1, h2, h3, h4, h5, h6, h7, h8⟩ := hV
          go_simp
        change wpAnyH _ _ _ _ _ _ _ (Act.put _ (some 80) _) _
        simp only [Act.put]
        refine wpAnyH_ready (rs := [15]) (by kernel_rfl) (by simp) ?_
        refine AllReadyH.cons rfl (fun K hK => ?_) AllReadyH.nil
        go_simp
        refine hK.out _ _ (HSx.out _ (HH7.out.set_ne ne2 _ _) (HD7.out.set_ne ne4 _ _)) (fun hHeld => ?_)
        clear hK K
        refine wpAnyH_done (by kernel_rfl) ?_ _
        go_wp2_with fail
        go_roundw
        case rel => exact ⟨j + 1, _, by omega, by go_num, by rw [HTk.out]; exact HM7⟩
        case measure => simp [intOf]; omega
      · skip
        go_simp
        go_at_call 48
        refine (HLn2.out W1.drew (Below.refl _ W1).drew).mono ?_
        rintro e w5 ⟨v5, rfl, ho5, hb5, -⟩
        obtain ⟨A5, c5, rfl⟩ := ho5.form
        obtain ⟨b0, -, hu5, hp5, hs5, hB5⟩ := HAfter.out w5 A5 c5 ho5 hb5
        have hlt5 : w3.heap.size < w5.heap.size := Nat.lt_of_lt_of_le hPB (Nat.le_trans (Nat.le_refl W1.drew.heap.size) hb5.size)
        have HB5 := Lib.hid ((Below.refl _ W1).drew.trans hb5)
        have HU5 := Lib.hid hu5
        have HP5 := Lib.hid hp5
        have HBA5 := Lib.hid hB5
        clear hu5 hp5 hB5 ho5 hb5
        go_wp2_with fail
        refine hK.out _ _ (HSx.out _ (HH1.out.below HB5.out) (HD1.out.below HB5.out)) (fun hHeld => ?_)
        clear hK K
        refine wpAnyH_take (i := 11) (v := .agg #[.int .i64 (oF : Int), .int .i64 (nF : Int), .slice A5 LN.length c5]) rfl (by kernel_rfl) (by kernel_rfl) (by kernel_rfl) (fun _ _ _ h => h) (Or.inl ⟨by kernel_rfl, ?_⟩) (by assumption) ?_
        · intro V hV
          obtain ⟨h0, h1, h2, h3, h4, h5, h6, h7, h8⟩ := hV
          go_simp
        change wpAnyH _ _ _ _ _ _ _ (Act.put _ (some 77) _) _
        simp only [Act.put, List.setIfInBounds_toArray, List.set_cons_zero, List.set_cons_succ]
        refine wpAnyH_ready (rs := [1, 12]) (by kernel_rfl) (by simp) ?_
        refine AllReadyH.cons rfl (fun K hK => ?_) (AllReadyH.cons rfl (fun K hK => ?_) AllReadyH.nil)
        · skip
          go_simp
          refine hK.out _ _ (HSx.out _ (HH1.out.below HB5.out) (HD1.out.below HB5.out)) (fun hHeld => ?_)
          clear hK K
          refine wpAnyH_ready (rs := [12]) (by kernel_rfl) (by simp) ?_
          refine AllReadyH.cons rfl (fun K hK => ?_) AllReadyH.nil
          go_simp
          refine hK.out _ _ (HSx.out _ (HH1.out.below HBA5.out) (HD1.out.below HBA5.out)) (fun hHeld => ?_)
          clear hK K
          refine wpAnyH_ready (rs := [13]) (by kernel_rfl) (by simp) ?_
          refine AllReadyH.cons rfl (fun K hK => ?_) AllReadyH.nil
          refine step_app_ph (by rfl) (.tmp 67) (.tmp 78) (by rfl) (w3.heap.size + 1) ps ⟨oF, nF, LN⟩ _ v (by rfl) HP5.out HU5.out ⟨w5.heap.size, 0, none⟩ (by rfl) (World.news_of_block (cs := #[.int .i64 (oF : Int), .int .i64 (nF : Int), .slice A5 LN.length c5]) (t := tPh) (fr := (0, 0)) (heap_new w5 _)) hlj hs5 ?_
          intro g7 cap7 w7 ho7 hb7 hk7
          obtain ⟨⟨e0, e1⟩, hmk7⟩ := HNext.out _ _ _ HBA5.out ho7 hb7
          have HM7 := Lib.hid hmk7
          have HH7 := Lib.hid (hk7 _ _ _ (by decide) (HH1.out.below HBA5.out))
          have HD7 := Lib.hid (hk7 _ _ _ (by decide) (HD1.out.below HBA5.out))
          clear ho7 hb7 hmk7 hk7
          refine hK.out _ _ (HSx.out _ HH7.out HD7.out) (fun hHeld => ?_)
          clear hK K
          simp only [Act.put, List.setIfInBounds_toArray]
          refine wpAnyH_take (i := 14) (v := .pointer (some ⟨w3.heap.size, 2, none⟩)) rfl (by kernel_rfl) (by kernel_rfl) (by kernel_rfl) (fun _ _ _ h => h) (Or.inl ⟨by kernel_rfl, ?_⟩) (by assumption) ?_
          · intro V hV
            obtain ⟨h0, h1, h2, h3, h4, h5, h6, h7, h8⟩ := hV
            go_simp
          change wpAnyH _ _ _ _ _ _ _ (Act.put _ (some 80) _) _
          simp only [Act.put]
          refine wpAnyH_ready (rs := [15]) (by kernel_rfl) (by simp) ?_
          refine AllReadyH.cons rfl (fun K hK => ?_) AllReadyH.nil
          go_simp
          refine hK.out _ _ (HSx.out _ (HH7.out.set_ne ne2 _ _) (HD7.out.set_ne ne4 _ _)) (fun hHeld => ?_)
          clear hK K
          refine wpAnyH_done (by kernel_rfl) ?_ _
          go_wp2_with fail
          go_roundw
          case rel => exact ⟨j + 1, _, by omega, by go_num, by rw [HTk.out]; exact HM7⟩
          case measure => simp [intOf]; omega
        · skip
          go_simp
          refine hK.out _ _ (HSx.out _ (HH1.out.below HBA5.out) (HD1.out.below HBA5.out)) (fun hHeld => ?_)
          clear hK K
          refine wpAnyH_ready (rs := [1]) (by kernel_rfl) (by simp) ?_
          refine AllReadyH.cons rfl (fun K hK => ?_) AllReadyH.nil
          go_simp
          refine hK.out _ _ (HSx.out _ (HH1.out.below HBA5.out) (HD1.out.below HBA5.out)) (fun hHeld => ?_)
          clear hK K
          refine wpAnyH_ready (rs := [13]) (by kernel_rfl) (by simp) ?_
          refine AllReadyH.cons rfl (fun K hK => ?_) AllReadyH.nil
          refine step_app_ph (by rfl) (.tmp 67) (.tmp 78) (by rfl) (w3.heap.size + 1) ps ⟨oF, nF, LN⟩ _ v (by rfl) HP5.out HU5.out ⟨w5.heap.size, 0, none⟩ (by rfl) (World.news_of_block (cs := #[.int .i64 (oF : Int), .int .i64 (nF : Int), .slice A5 LN.length c5]) (t := tPh) (fr := (0, 0)) (heap_new w5 _)) hlj hs5 ?_
          intro g7 cap7 w7 ho7 hb7 hk7
          obtain ⟨⟨e0, e1⟩, hmk7⟩ := HNext.out _ _ _ HBA5.out ho7 hb7
          have HM7 := Lib.hid hmk7
          have HH7 := Lib.hid (hk7 _ _ _ (by decide) (HH1.out.below HBA5.out))
          have HD7 := Lib.hid (hk7 _ _ _ (by decide) (HD1.out.below HBA5.out))
          clear ho7 hb7 hmk7 hk7
          refine hK.out _ _ (HSx.out _ HH7.out HD7.out) (fun hHeld => ?_)
          clear hK K
          simp only [Act.put, List.setIfInBounds_toArray]
          refine wpAnyH_take (i := 14) (v := .pointer (some ⟨w3.heap.size, 2, none⟩)) rfl (by kernel_rfl) (by kernel_rfl) (by kernel_rfl) (fun _ _ _ h => h) (Or.inl ⟨by kernel_rfl, ?_⟩) (by assumption) ?_
          · intro V hV
            obtain ⟨h0, h1, h2, h3, h4, h5, h6, h7, h8⟩ := hV
            go_simp
          change wpAnyH _ _ _ _ _ _ _ (Act.put _ (some 80) _) _
          simp only [Act.put]
          refine wpAnyH_ready (rs := [15]) (by kernel_rfl) (by simp) ?_
          refine AllReadyH.cons rfl (fun K hK => ?_) AllReadyH.nil
          go_simp
          refine hK.out _ _ (HSx.out _ (HH7.out.set_ne ne2 _ _) (HD7.out.set_ne ne4 _ _)) (fun hHeld => ?_)
          clear hK K
          refine wpAnyH_done (by kernel_rfl) ?_ _
          go_wp2_with fail
          go_roundw
          case rel => exact ⟨j + 1, _, by omega, by go_num, by rw [HTk.out]; exact HM7⟩
          case measure => simp [intOf]; omega
    · obtain rfl : j = N := by omega
      have hgs : gs.take j = gs := by rw [← HN.out, List.take_length]
      rw [hgs] at HI
      obtain ⟨z0, z1, z2, fz, hlt2⟩ := blk3 (HZ3.out.below HI.out.bel)
      have hww : w.heap.size < w3.heap.size := HZ3.out.lt
      have HFin : Hid (OwnP w.heap.size (((wr.setCell ⟨w.heap.size, 0, none⟩ (.string on)).setCell ⟨w.heap.size, 1, none⟩ (.string nn)).setCell ⟨w.heap.size, 2, none⟩ v) v (gs.map (mkPH xs ys l)) ∧ Below w.heap.size w (((wr.setCell ⟨w.heap.size, 0, none⟩ (.string on)).setCell ⟨w.heap.size, 1, none⟩ (.string nn)).setCell ⟨w.heap.size, 2, none⟩ v)) := Lib.hid (by
       have hb : Below w.heap.size w wr := HB3.out.trans (HI.out.bel.mono (by omega))
       refine ⟨(((HI.out.own.box (o := 0) (u := .string on) (show w.heap.size < w3.heap.size + 1 by omega)).box (o := 1) (u := .string nn) (show w.heap.size < w3.heap.size + 1 by omega)).box (o := 2) (u := v) (show w.heap.size < w3.heap.size + 1 by omega)).base (by omega), ?_⟩
       exact ((hb.setCell (p := ⟨w.heap.size, 0, none⟩) (Nat.le_refl _) _).setCell (p := ⟨w.heap.size, 1, none⟩) (Nat.le_refl _) _).setCell (p := ⟨w.heap.size, 2, none⟩) (Nat.le_refl _) _)
      obtain ⟨Av, cv, hv⟩ := HI.out.own.form
      rw [List.length_map] at hv
      subst hv
      have hd : decide ((j : Int) < (j : Int)) = false := decide_eq_false (by omega)
      go_wp2_with fail
      exact bodyPost_ret (v := .tuple #[.agg #[.string on, .string nn, .slice Av gs.length cv], .int .i64 0]) (by simp [results, Tryz.f25, go_sem, z0, z1, z2]) rfl (HE.out _ _ HFin.out.1 HFin.out.2)
theorem Make_any (on nn s t : ByteArray) (ctx : Int) (down : Bool) (hs : s.size ≤ 1000) (ht : t.size ≤ 1000) (w : World) : Calls Tryz.prog 25 #[.string on, .string nn, .string s, .string t, .int .i64 ctx, .bool down] w (PtPost (mkP on nn s t ctx down) (mkC on nn ctx) w) := by
 by_cases h : nameB on = true ∧ nameB nn = true
 · exact Make_good on nn s t ctx down hs ht w h
 · exact Make_bad on nn s t ctx down w h
end Uf
end Go.Proofs.YtjecfmbecgpbmaaGreatDoor

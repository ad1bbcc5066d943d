/-
  The program's merge. Conditions: at most 4096 elements and lines, a script of them.
-/
import Derived.Test.YtechabkmepejaaaLosA
namespace Go.Proofs.Ytechabkmepejaaa
open Go.RowKit
namespace Lo
open Cm Sc
theorem KeptM.blk {w w' : World} (h : KeptM w w') {G : Nat} {t : TypeId} {l : List Value} (hb : Sh.Blk w G t l) (ht : t ≠ tMg) : Sh.Blk w' G t l := (h G _ _ _ ht hb).trans hb
set_option maxRecDepth 100000 in
set_option maxHeartbeats 8000000 in
theorem merge_any (l : List Mg) (ys : List Int) (cs : List Ch) (bit : Nat) (vl vy vc : Value) (T : List Mg) (w : World) (hl : RdM w vl l) (hy : RdV w vy (intsV ys)) (hc : RdC w vc cs) (hlm : l.length ≤ 4096) (hym : ys.length ≤ 4096) (hcl : cs.length ≤ 100000)
    (hok : OkL true 0 0 cs (l.length : Int) (ys.length : Int)) (hT : mgF l ys bit 0 cs = T) (hTl : T.length ≤ 10000) (hp : ∀ y ∈ l, y.par < 4294967296) (hbit : bit < 4294967296) :
    Calls Try.prog 21 #[vl, vy, vc, .int .u32 (bit : Int)] w (MpPost w.heap.size T w) := by
  have HX := Lib.hid (fun w' (hb : Below w.heap.size w w') => hl.below hb)
  have HY := Lib.hid (fun w' (hb : Below w.heap.size w w') => hy.below hb)
  have HC := Lib.hid (fun w' (hb : Below w.heap.size w w') => hc.below hb)
  obtain ⟨Al, cl, rfl⟩ := hl.form
  obtain ⟨Ay, cy, rfl⟩ := hy.form
  obtain ⟨Ac, cc, rfl⟩ := hc.form
  rw [intsV_len] at HY hy ⊢
  have HSx := Lib.hid (fun a b h1 h2 => slice_mgs w hl a b h1 h2)
  have HSr := Lib.hid (fun a h1 => slice_mgr w hl a h1)
  have HSy := Lib.hid (fun a b h1 h2 => slice_is w hy a b h1 h2)
  have HAp := Lib.hid (fun (base : Nat) (ls xs : List Mg) (v u : Value) (wq : World) (ho : OwnM base wq v ls) (hr : ∀ w', Below base wq w' → RdM w' u xs) (hb : base ≤ wq.heap.size) (h1 : ls.length + xs.length ≤ 999999) (h2 : ∀ y ∈ xs, y ∈ l) =>
    appendShared_any base ls xs bit v u wq ho hr hb h1 (fun y hy => hp y (h2 y hy)) hbit)
  have HOk := Lib.hid hok
  have HT := Lib.hid hT
  clear hl hy hc hok hT hp hbit
  obtain ⟨X, hX⟩ : ∃ X, X = l.length := ⟨_, rfl⟩
  obtain ⟨Y, hY⟩ : ∃ Y, Y = ys.length := ⟨_, rfl⟩
  obtain ⟨N, hN⟩ : ∃ N, N = cs.length := ⟨_, rfl⟩
  rw [← hX] at hlm HOk HX HSx HSr ⊢
  rw [← hY] at hym HOk HY HSy ⊢
  rw [← hN] at hcl HC ⊢
  have HLx := Lib.hid hX
  have HLy := Lib.hid hY
  have HN := Lib.hid hN
  clear hX hY hN
  go_enter Try.func21, Try.ntmps21
  go_wp2_with fail
  go_loopw [9, 10, 17] (fun v' e' k' wr => ∃ (k e j : Nat) (dn : List Mg), k ≤ N ∧ k' = .int .i64 (k : Int) ∧ e' = .int .i64 (e : Int) ∧ e ≤ X ∧ Hid ((k = 0 → e = 0) ∧ OkL (k == 0) (e : Int) (j : Int) (cs.drop k) (X : Int) (Y : Int)) ∧ Hid (OwnM w.heap.size wr v' dn) ∧ Hid (Below w.heap.size w wr) ∧ Hid (KeptM w wr) ∧ Hid (dn ++ mgF l ys bit (e : Int) (cs.drop k) = T)) (fun _ _ k' _ => N - (intOf k').toNat)
  case atStart => exact ⟨0, 0, 0, [], Nat.zero_le _, rfl, rfl, Nat.zero_le _, Lib.hid ⟨fun _ => rfl, by have := HOk.out; simpa using this⟩, Lib.hid (OwnM.nil _ _), Lib.hid (Below.refl _ _), Lib.hid (KeptM.refl _), HT⟩
  case round =>
    obtain ⟨k, e, j, dn, hk, rfl, rfl, heX, HV, HO, HB, HK, HP⟩ := hrel
    by_cases hlt : k < N
    · have hx : k < cs.length := by rw [← HN.out]; exact hlt
      have hv := HV.out.2
      rw [List.drop_eq_getElem_cons hx] at hv
      obtain ⟨⟨⟨⟨o0, l0, o1⟩, ⟨w0, v0, w1⟩, hne⟩, hdf, hfst⟩, hnxt⟩ := hv
      obtain ⟨bl, off, rfl, c0, c1, c2, c3⟩ := RdC_at (HC.out wr HB.out) k hx
      have HP2 : Hid (dn ++ (shr bit (cutI l (e : Int) cs[k].old) ++ (cutI l cs[k].old (cs[k].old + cs[k].oldLen) ++ (news bit (cutI ys cs[k].new (cs[k].new + cs[k].newLen)) ++ mgF l ys bit (cs[k].old + cs[k].oldLen) (cs.drop (k + 1))))) = T) := Lib.hid (by have := HP.out; rw [List.drop_eq_getElem_cons hx] at this; exact this)
      have heo : (e : Int) ≤ cs[k].old := by
        by_cases hk0 : k = 0
        · have := HV.out.1 hk0; omega
        · have := hfst (by simpa using hk0); omega
      clear HP HV hfst hne hdf
      generalize cs[k] = ch at *
      obtain ⟨o', ol', nw', nl'⟩ := ch
      simp only at *
      obtain ⟨o, rfl⟩ : ∃ o : Nat, o' = (o : Int) := ⟨o'.toNat, by omega⟩
      obtain ⟨ol, rfl⟩ : ∃ ol : Nat, ol' = (ol : Int) := ⟨ol'.toNat, by omega⟩
      obtain ⟨nw, rfl⟩ : ∃ nw : Nat, nw' = (nw : Int) := ⟨nw'.toNat, by omega⟩
      obtain ⟨nl, rfl⟩ : ∃ nl : Nat, nl' = (nl : Int) := ⟨nl'.toNat, by omega⟩
      have h1 : e ≤ o := by omega
      have h2 : o + ol ≤ X := by omega
      have h3 : nw + nl ≤ Y := by omega
      obtain ⟨B1, s1, r1⟩ := HSx.out e o h1 (by omega)
      obtain ⟨B2, s2, r2⟩ := HSx.out o (o + ol) (by omega) (by omega)
      obtain ⟨B3, s3, r3⟩ := HSy.out nw (nw + nl) (by omega) (by omega)
      have g1 : (cutI l (e : Int) (o : Int)).length = o - e := cutN_len l (by rw [← HLx.out]; omega)
      have g2 : (cutI l (o : Int) ((o : Int) + (ol : Int))).length = ol := by rw [← Int.natCast_add, cutN_len l (by rw [← HLx.out]; omega)]; omega
      have g3 : (cutI ys (nw : Int) ((nw : Int) + (nl : Int))).length = nl := by rw [← Int.natCast_add, cutN_len ys (by rw [← HLy.out]; omega)]; omega
      have HM1 : Hid (∀ y ∈ cutI l (e : Int) (o : Int), y ∈ l) := Lib.hid (fun y h => cutI_mem h)
      have i1 : (0 : Int) ≤ (k : Int) := by omega
      have i2 : (k : Int) < (N : Int) := by omega
      rw [Int.natCast_add] at s2 s3
      rw [Nat.add_sub_cancel_left] at s2 s3 r2 r3
      rw [Int.natCast_add] at r2 r3
      have HX1 := Lib.hid (fun w' (hb : Below w.heap.size w w') => r1 w' (HX.out w' hb))
      have HX2 := Lib.hid (fun w' (hb : Below w.heap.size w w') => r2 w' (HX.out w' hb))
      have HY3 := Lib.hid (fun w' (hb : Below w.heap.size w w') => r3 w' (HY.out w' hb))
      have HNv := Lib.hid hnxt
      have hdn : dn.length + (o - e) + ol + nl ≤ 10000 := by
        have h4 := congrArg List.length HP2.out
        simp only [List.length_append, shr_len, news_len] at h4
        omega
      clear r1 r2 r3 hnxt o1 w1
      generalize cutI l (e : Int) (o : Int) = X1 at *
      generalize cutI l (o : Int) ((o : Int) + (ol : Int)) = X2 at *
      generalize cutI ys (nw : Int) ((nw : Int) + (nl : Int)) = Y3 at *
      have hw1 : IntKind.i64.wrap ((o : Int) + (ol : Int)) = (o : Int) + (ol : Int) := IntWalk.i64_in _ (by omega)
      have hw2 : IntKind.i64.wrap ((nw : Int) + (nl : Int)) = (nw : Int) + (nl : Int) := IntWalk.i64_in _ (by omega)
      go_upto_region 6 with fail
      obtain ⟨W1, hW1⟩ : ∃ W1, W1 = wr.alloc (.cells #[.int .i64 (o : Int), .int .i64 (ol : Int), .int .i64 (nw : Int), .int .i64 (nl : Int)] tCh) := ⟨_, rfl⟩
      have HC1 : Hid (Sh.Blk W1 wr.heap.size tCh [.int .i64 (o : Int), .int .i64 (ol : Int), .int .i64 (nw : Int), .int .i64 (nl : Int)]) := Lib.hid (by rw [hW1]; exact heap_new wr _)
      have HO1 : Hid (OwnM w.heap.size W1 u9 dn) := Lib.hid (by rw [hW1]; exact World.ownsRow.alloc HO.out _)
      have HB1 : Hid (Below w.heap.size w W1) := Lib.hid (by rw [hW1]; exact HB.out.alloc HB.out.size _)
      have HK1 : Hid (KeptM w W1) := Lib.hid (by rw [hW1]; exact HK.out.trans (KeptM.of_below ((Below.refl _ wr).alloc (Nat.le_refl _) _)))
      rw [← hW1]
      clear hW1 HO HB HK c0 c1 c2 c3
      generalize wr.heap.size = G at *
      have c0 := HC1.out.cell (k := 0) (show 0 < 4 by decide)
      have c1 := HC1.out.cell (k := 1) (show 1 < 4 by decide)
      simp only [List.getElem_cons_zero, List.getElem_cons_succ] at c0 c1
      go_upto_region 7 with (go_at_call 26; refine (HAp.out w.heap.size dn X1 _ _ W1 HO1.out (fun w' hb => HX1.out w' (HB1.out.trans hb)) HB1.out.size (by omega) HM1.out).mono ?_; rintro e W2 ⟨v2, rfl, ho2, hb2, hk2⟩; have HO2 := Lib.hid ho2; have HB2 := Lib.hid (HB1.out.trans hb2); have HK2 := Lib.hid (HK1.out.trans hk2); have HC2 := Lib.hid (hk2.blk HC1.out (by decide)); clear ho2 hb2 hk2)
      clear HO1 HB1 HK1 HC1 c0 c1
      have c0 := HC2.out.cell (k := 0) (show 0 < 4 by decide)
      have c1 := HC2.out.cell (k := 1) (show 1 < 4 by decide)
      simp only [List.getElem_cons_zero, List.getElem_cons_succ] at c0 c1
      have hg2 : (dn ++ shr bit X1).length = dn.length + (o - e) := by rw [List.length_append, shr_len, g1]
      go_upto_region 9 with (at_builtin; refine app_mgs rfl (.tmp 34) (.tmp 39) rfl w.heap.size (dn ++ shr bit X1) X2 _ _ rfl HO2.out rfl (HX2.out W2 HB2.out) (by omega) HB2.out.size ?_; intro v3 W3 ho3 hb3 hg3; have HO3 := Lib.hid ho3; have HB3 := Lib.hid (HB2.out.trans hb3); have hk3 := KeptM.grown HO2.out (Below.refl _ _) hg3; have HK3 := Lib.hid (HK2.out.trans hk3); have HC3 := Lib.hid (hk3.blk HC2.out (by decide)); clear ho3 hb3 hg3 hk3)
      clear HO2 HB2 HK2 HC2 c0 c1
      have c2 := HC3.out.cell (k := 2) (show 2 < 4 by decide)
      have c3 := HC3.out.cell (k := 3) (show 3 < 4 by decide)
      simp only [List.getElem_cons_zero, List.getElem_cons_succ] at c2 c3
      obtain ⟨D3, hD3⟩ : ∃ D3, D3 = dn ++ shr bit X1 ++ X2 := ⟨_, rfl⟩
      have hl3 : D3.length = dn.length + (o - e) + ol := by rw [hD3, List.length_append, hg2, g2]
      have HP3 : Hid (D3 ++ (news bit Y3 ++ mgF l ys bit ((o : Int) + (ol : Int)) (cs.drop (k + 1))) = T) := Lib.hid (by rw [← HP2.out, hD3]; simp only [List.append_assoc])
      rw [← hD3] at HO3
      clear hD3 HP2 hg2 HAp HSx HSr HM1 HX1 HX2 g1 g2 HX HC
      have hl4 : D3.length + nl ≤ 10000 := by omega
      have HLn : Hid (∀ t, t ≤ nl → (D3 ++ news bit (Y3.take t)).length = D3.length + t) := Lib.hid (fun t ht => by rw [List.length_append, news_len, List.length_take]; omega)
      have HTk : Hid (∀ t (h : t < Y3.length), D3 ++ news bit (Y3.take (t + 1)) = (D3 ++ news bit (Y3.take t)) ++ [⟨Y3[t], bit⟩]) := Lib.hid (fun t h => by rw [List.take_succ_eq_append_getElem h, news_snoc, List.append_assoc])
      have HS3 : Hid (OwnM w.heap.size W3 v3 (D3 ++ news bit (Y3.take 0))) := Lib.hid (by
        have e : D3 ++ news bit (Y3.take 0) = D3 := by simp [news]
        rw [e]; exact HO3.out)
      have HF3 : Hid (D3 ++ news bit (Y3.take nl) ++ mgF l ys bit ((o : Int) + (ol : Int)) (cs.drop (k + 1)) = T) := Lib.hid (by
        rw [← g3, List.take_length, List.append_assoc]; exact HP3.out)
      have HG3 := Lib.hid g3
      clear HO3 HP3 g3 hl3
      generalize D3.length = d3 at *
      go_upto_region 10 with fail
      go_loopw [9, 14, 51] (fun v' _ t' wq => ∃ t : Nat, t ≤ nl ∧ t' = .int .i64 (t : Int) ∧ Hid (OwnM w.heap.size wq v' (D3 ++ news bit (Y3.take t))) ∧ Hid (Below w.heap.size w wq) ∧ Hid (KeptM w wq)) (fun _ _ t' _ => nl - (intOf t').toNat)
      case atStart => exact ⟨0, Nat.zero_le _, rfl, HS3, HB3, HK3⟩
      case round =>
        obtain ⟨t, ht, rfl, HOt, HBt, HKt⟩ := hrel
        clear HS3 HB3 HK3 HC3 c2 c3
        by_cases hlt2 : t < nl
        · have hy : t < Y3.length := by rw [HG3.out]; exact hlt2
          obtain ⟨b3, o3, rfl, cc0⟩ := Sh.int_at (HY3.out _ HBt.out) t hy
          have HTt := Lib.hid (HTk.out t hy)
          have hlt3 := HLn.out t ht
          generalize Y3[t] = yt at *
          generalize D3 ++ news bit (Y3.take t) = Dt at *
          have t0 : (0 : Int) ≤ (t : Int) := by omega
          have t1 : (t : Int) < (nl : Int) := by omega
          go_wp2_with (at_builtin; refine app_mg rfl (.tmp 55) (.tmp 59) rfl w.heap.size Dt ⟨yt, bit⟩ _ _ rfl HOt.out rfl rfl rfl (by omega) HBt.out.size ?_; intro v4 w4 ho4 hb4 hg4; have HO4 := Lib.hid ho4; have HB4 := Lib.hid (HBt.out.trans hb4); have HK4 := Lib.hid (HKt.out.trans (KeptM.grown HOt.out ((Below.refl _ _).alloc (Nat.le_refl _) _) hg4)); clear ho4 hb4 hg4)
          go_roundw
          case rel => exact ⟨t + 1, by omega, by go_num, by rw [HTt.out]; exact HO4, HB4, HK4⟩
          case measure => simp [intOf]; omega
        · obtain rfl : t = nl := by omega
          go_wp2_with fail
          go_roundw
          case rel => exact ⟨k + 1, o + ol, nw + t, _, by omega, by go_num, by rw [Int.natCast_add], by omega, Lib.hid ⟨fun h => absurd h (Nat.succ_ne_zero _), by have := HNv.out; rw [Int.natCast_add, Int.natCast_add]; exact this⟩, HOt, HBt, HKt, by rw [Int.natCast_add]; exact HF3⟩
          case measure => simp [intOf]; omega
    · obtain rfl : k = N := by omega
      obtain ⟨B4, s4, r4⟩ := HSr.out e heX
      have HX4 := Lib.hid (fun w' (hb : Below w.heap.size w w') => r4 w' (HX.out w' hb))
      have HFin : Hid (dn ++ shr bit (l.drop e) = T) := Lib.hid (by
        have h := HP.out
        rw [List.drop_eq_nil_of_le (by rw [← HN.out]; exact Nat.le_refl _)] at h
        unfold mgF at h
        rw [Int.toNat_natCast] at h
        exact h)
      have hdn : dn.length + (X - e) ≤ 10000 := by
        have h4 := congrArg List.length HFin.out
        rw [List.length_append, shr_len, List.length_drop, ← HLx.out] at h4
        omega
      have HM4 : Hid (∀ y ∈ l.drop e, y ∈ l) := Lib.hid (fun y h => List.mem_of_mem_drop h)
      have hl4 : (l.drop e).length = X - e := by rw [List.length_drop, ← HLx.out]
      clear r4 HV HP
      go_wp2_with (go_at_call 26; refine (HAp.out w.heap.size dn (l.drop e) _ _ _ HO.out (fun w' hb => HX4.out w' (HB.out.trans hb)) HB.out.size (by omega) HM4.out).mono ?_; rintro e W5 ⟨v5, rfl, ho5, hb5, hk5⟩; have HO5 := Lib.hid ho5; have HB5 := Lib.hid (HB.out.trans hb5); have HK5 := Lib.hid (HK.out.trans hk5); clear ho5 hb5 hk5)
      go_ret
      exact ⟨_, rfl, by rw [← HFin.out]; exact HO5.out, HB5.out, HK5.out⟩
end Lo
end Go.Proofs.Ytechabkmepejaaa

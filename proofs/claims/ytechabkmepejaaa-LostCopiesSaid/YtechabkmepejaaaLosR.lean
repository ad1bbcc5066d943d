/-
  The reference's lines and join of layer 15. Conditions: at most 1000 elements and lines, fewer than 32 parents.
-/
import Derived.Test.YtechabkmepejaaaLosD
import Derived.Test.YtechabkmepejaaaLosC
import Derived.Test.YtechabkmepejaaaShoRfs
import Derived.Test.YtechabkmepejaaaScrMtR
import Derived.Deep.RegionHeld3
import Derived.Deep.AppendLies
namespace Go.Proofs.Ytechabkmepejaaa
open Go.RowKit
namespace Lo
open Cm Sc
theorem lnM_snoc (l : List Mg) (x : Mg) : lnM (l ++ [x]) = lnM l ++ [x.line] := by
  unfold lnM
  rw [List.map_append]; rfl
set_option maxRecDepth 100000 in
set_option maxHeartbeats 4000000 in
theorem linesR_any (v : Value) (l : List Mg) (w : World) (h : RdM w v l) (hl : l.length ≤ 100000) :
    Calls Try.prog 28 #[v] w (NwPost (lnM l) w) := by
  obtain ⟨A, c, rfl⟩ := h.form
  have HR := Lib.hid h
  clear h
  generalize hN : l.length = N at hl ⊢
  have HN := Lib.hid hN
  clear hN
  go_enter Try.func28, Try.ntmps28
  go_wp2_with fail
  go_loopw [3, 4] (fun v' k' wr => ∃ k : Nat, k ≤ N ∧ k' = .int .i64 (k : Int) ∧ Hid (wr.ownsRow w.heap.size tI 1 v' k (intsV (lnM (l.take k)))) ∧ Hid (Below w.heap.size w wr)) (fun _ k' _ => N - (intOf k').toNat)
  case atStart => exact ⟨0, Nat.zero_le _, rfl, Lib.hid (World.ownsRow_nil _ _ _ _), Lib.hid (Below.refl _ _)⟩
  case round =>
    obtain ⟨k, hk, rfl, HO, HB⟩ := hrel
    by_cases hlt : k < N
    · have hx : k < l.length := by rw [HN.out]; exact hlt
      obtain ⟨b, off, rfl, c0, c1⟩ := RdM_at (HR.out.below HB.out) k hx
      have HT : Hid (intsV (lnM (l.take k)) ++ [.int .i64 l[k].line] = intsV (lnM (l.take (k + 1)))) := Lib.hid (by
        rw [List.take_succ_eq_append_getElem hx, intsV_snoc, lnM_snoc])
      have i1 : (0 : Int) ≤ (k : Int) := by omega
      have i2 : (k : Int) < (N : Int) := by omega
      generalize l[k].line = ln at *
      generalize intsV (lnM (l.take k)) = q at *
      have hbs := HB.out.size
      go_wp2_with (at_builtin; refine app_one rfl Try.underlying22 infoI rfl (by omega) (.tmp 11) (.tmp 17) rfl w.heap.size k q (.int .i64 ln) rfl _ _ rfl HO.out rfl rfl (by omega) hbs ?_; intro v3 w3 ho3 hb3 _; rw [HT.out] at ho3; have HO3 := Lib.hid ho3; have HB3 := Lib.hid (HB.out.trans hb3); clear ho3 hb3)
      go_roundw
      case rel => exact ⟨k + 1, by omega, by go_num, HO3, HB3⟩
      case measure => simp [intOf]; omega
    · obtain rfl : k = N := by omega
      go_wp2_with fail
      go_ret
      have h1 := HO.out
      rw [← HN.out, List.take_length, ← lnM_len] at h1
      exact ⟨_, rfl, h1, HB.out⟩
theorem wk_of (l : List Mg) (ys : List Int) : mtF (l.length : Int) 0 0 (Sh.scrF (lnM l) ys) = Sh.wkF 0 0 (lnM l) ys := by
  unfold Sh.scrF
  rw [lnM_len]
  have h := mt_fr (m := (l.length : Int)) (n := (ys.length : Int)) (Sh.wkF 0 0 (lnM l) ys) 0 0 0 0 (by omega) (by omega) (by omega) (by omega) (wk_ok l ys)
  rw [h]
  rfl
def JnPost (r : List Mg) (w : World) (e : Ending) (w' : World) : Prop := ∃ v, e = .returned (.tuple #[v, .int .i64 0]) ∧ OwnM w.heap.size w' v r ∧ Below w.heap.size w w'
theorem cutI_snoc {α : Type} (l : List α) {i a : Nat} (h : i ≤ a) (ha : a < l.length) : cutI l (i : Int) ((a + 1 : Nat) : Int) = cutI l (i : Int) (a : Int) ++ [l[a]] := by
  rw [← cutI_app l (i := (i : Int)) (j := (a : Int)) (by omega) (by omega) (by omega), Int.natCast_add]
  congr 1
  exact cutI_one l ha
theorem ownM_box {W : World} {base G : Nat} {v x y : Value} {l : List Mg} {c : List Value} (hb : Sh.Blk W G tSp c) (ho : OwnM base W v l) : OwnM base ((W.setCell ⟨G, 0, none⟩ x).setCell ⟨G, 1, none⟩ y) v l := by
  have hne : v.ownBlock ≠ some G := by
    intro e
    rcases ho.2 with ⟨rfl, _⟩ | ⟨g, cap, cur, rfl, _, hh, _⟩
    · simp [Value.ownBlock] at e
    · have : g = G := by simpa [Value.ownBlock] using e
      subst this
      unfold Sh.Blk at hb
      rw [hb] at hh
      injection hh with hh
      injection hh with _ ht
      exact absurd ht (by decide)
  refine World.ownsRow.kept (row := some G) ho ?_ (by
    cases hv : v.ownBlock with
    | none => exact .inl rfl
    | some g => exact .inr (fun e => hne (by rw [hv, e])))
  refine ⟨rfl, rfl, rfl, by simp [World.setCell], fun k hk hk2 => ?_⟩
  have hkG : k ≠ G := fun e => hk2 (by rw [e])
  rw [Below.heap_setCell _ _ _ _ hkG, Below.heap_setCell _ _ _ _ hkG]
/-- The next pair, or the end. -/
structure Nxt (l : List Mg) (ys : List Int) (b : Nat) (ps : List Sp) (T dn : List Mg) (k i j f t : Nat) : Prop where
  a1 : i ≤ f
  a2 : f ≤ l.length
  a3 : j ≤ t
  a4 : t ≤ ys.length
  mid : ∀ (h : k < ps.length), ps[k].frm = (f : Int) ∧ ps[k].to = (t : Int) ∧ t < ys.length ∧ ∃ hf : f < l.length, OkP (l.length : Int) (ys.length : Int) ((f + 1 : Nat) : Int) ((t + 1 : Nat) : Int) (ps.drop (k + 1)) ∧ dn ++ cutI l (i : Int) (f : Int) ++ news b (cutI ys (j : Int) (t : Int)) ++ [⟨l[f].line, l[f].par ||| b⟩] ++ jnF l ys b ((f + 1 : Nat) : Int) ((t + 1 : Nat) : Int) (ps.drop (k + 1)) = T
  fin : k = ps.length → f = l.length ∧ t = ys.length ∧ dn ++ cutI l (i : Int) (f : Int) ++ news b (cutI ys (j : Int) (t : Int)) = T
theorem nxt_of {l : List Mg} {ys : List Int} {b : Nat} {ps : List Sp} {T dn : List Mg} {k i j : Nat} (hk : k ≤ ps.length) (hi : i ≤ l.length) (hj : j ≤ ys.length) (hok : OkP (l.length : Int) (ys.length : Int) (i : Int) (j : Int) (ps.drop k)) (hT : dn ++ jnF l ys b (i : Int) (j : Int) (ps.drop k) = T) : ∃ f t, Nxt l ys b ps T dn k i j f t := by
  by_cases h : k < ps.length
  · rw [List.drop_eq_getElem_cons h] at hok hT
    obtain ⟨⟨g1, g2, g3, g4⟩, hr⟩ := hok
    obtain ⟨f, hf⟩ : ∃ f : Nat, ps[k].frm = f := ⟨ps[k].frm.toNat, by omega⟩
    obtain ⟨t, ht⟩ : ∃ t : Nat, ps[k].to = t := ⟨ps[k].to.toNat, by omega⟩
    unfold jnF at hT
    rw [hf, ht] at hr hT
    have hfl : f < l.length := by omega
    rw [cutI_one l hfl] at hT
    refine ⟨f, t, by omega, by omega, by omega, by omega, fun _ => ⟨hf, ht, by omega, hfl, by rw [Int.natCast_add, Int.natCast_add]; exact hr, ?_⟩, fun e => by omega⟩
    rw [Int.natCast_add, Int.natCast_add]
    simp only [List.append_assoc]
    exact hT
  · rw [List.drop_eq_nil_of_le (by omega)] at hT
    refine ⟨l.length, ys.length, hi, Nat.le_refl _, hj, Nat.le_refl _, fun h2 => absurd h2 h, fun _ => ⟨rfl, rfl, ?_⟩⟩
    rw [cutN_rest, cutN_rest, List.append_assoc, ← hT]
    unfold jnF
    rw [Int.toNat_natCast, Int.toNat_natCast]
set_option maxRecDepth 100000 in
set_option maxHeartbeats 8000000 in
theorem joinR_any (l : List Mg) (ys : List Int) (p : Nat) (vl vy : Value) (w : World) (hl : RdM w vl l) (hy : RdV w vy (intsV ys)) (hlm : l.length ≤ 1000) (hym : ys.length ≤ 1000) (hp : p < 32) (hb : ∀ y ∈ l, y.par < 4294967296) :
    Calls Try.prog 22 #[vl, vy, .int .i64 (p : Int)] w (JnPost (jn l ys (2 ^ p)) w) := by
  have HLn : Hid (Calls Try.prog 28 #[vl] w fun e w' => ∃ A c, e = .returned (.slice A l.length c) ∧ RdV w' (.slice A l.length c) (intsV (lnM l)) ∧ Below w.heap.size w w') := Lib.hid ((linesR_any vl l w hl (by omega)).mono (by
    rintro e w' ⟨v, rfl, ho, hb⟩
    have hr := RdV.of_own ho
    obtain ⟨A, c, rfl⟩ := hr.form
    rw [intsV_len, lnM_len] at hr ⊢
    exact ⟨A, c, rfl, hr, hb⟩))
  have HX := Lib.hid (fun w' (hb : Below w.heap.size w w') => hl.below hb)
  have HY := Lib.hid (fun w' (hb : Below w.heap.size w w') => hy.below hb)
  obtain ⟨Al, cl, rfl⟩ := hl.form
  obtain ⟨Ay, cy, rfl⟩ := hy.form
  rw [intsV_len] at HY ⊢
  have HSc := Lib.hid (fun A c w' h1 h2 => Sh.ScrR_at A Ay c cy l.length ys.length (lnM l) ys w' (Lib.hid h1) (Lib.hid h2) hlm hym (Lib.hid (lnM_len l).symm) (Lib.hid rfl))
  have hsl := Sh.scr_len (lnM l) ys
  have hsk := Sh.scr_ok (lnM l) ys
  rw [lnM_len] at hsl hsk
  have HMt : Hid (∀ v w', RdC w' v (Sh.scrF (lnM l) ys) → Calls Try.prog 29 #[v, .int .i64 (l.length : Int)] w' fun e w2 => ∃ A c, e = .returned (.slice A (Sh.wkF 0 0 (lnM l) ys).length c) ∧ RdS w2 (.slice A (Sh.wkF 0 0 (lnM l) ys).length c) (Sh.wkF 0 0 (lnM l) ys) ∧ Below w'.heap.size w' w2) := Lib.hid (fun v w' h => (Matched_any v (Sh.scrF (lnM l) ys) (l.length : Int) (ys.length : Int) w' h (by omega) ⟨by omega, by omega⟩ ⟨by omega, by omega⟩ hsk).mono (by
    rintro e w2 ⟨v2, rfl, ho, hb⟩
    rw [wk_of] at ho
    obtain ⟨A, c, e⟩ := ho.rd.form
    subst e
    exact ⟨A, c, rfl, ho.rd, hb⟩))
  have hwl := Sh.wkF_len 0 0 (lnM l) ys
  have hlc := Sh.lcs_le (lnM l) ys
  rw [lnM_len] at hlc
  have HOk := Lib.hid (wk_ok l ys)
  have hjl := (jn_rel l ys (2 ^ p)).len
  have HT : Hid (([] : List Mg) ++ jnF l ys (2 ^ p) 0 0 (Sh.wkF 0 0 (lnM l) ys) = jn l ys (2 ^ p)) := Lib.hid rfl
  obtain ⟨T, hT⟩ : ∃ T, T = jn l ys (2 ^ p) := ⟨_, rfl⟩
  rw [← hT] at HT hjl ⊢
  obtain ⟨ps, hps⟩ : ∃ ps, ps = Sh.wkF 0 0 (lnM l) ys := ⟨_, rfl⟩
  rw [← hps] at HT HMt HOk hwl
  have hPl : ps.length ≤ 1000 := by omega
  have hTl : T.length ≤ 2000 := by omega
  clear hT hps hwl hlc hsl hsk hjl hl hy
  have hp2 : 2 ^ p < 4294967296 := Nat.pow_lt_pow_right (a := 2) (by omega) (show p < 32 from hp)
  have hsh : IntKind.u32.wrap ((2 : Int) ^ p) = ((2 ^ p : Nat) : Int) := by
    rw [show (2 : Int) ^ p = ((2 ^ p : Nat) : Int) from by simp]
    exact wrap_u32 _ hp2
  have HPr := Lib.hid hb
  clear hb
  generalize (2 : Nat) ^ p = bt at *
  obtain ⟨X, hX⟩ : ∃ X, X = l.length := ⟨_, rfl⟩
  obtain ⟨Y, hY⟩ : ∃ Y, Y = ys.length := ⟨_, rfl⟩
  obtain ⟨P, hP⟩ : ∃ P, P = ps.length := ⟨_, rfl⟩
  have HNx := Lib.hid (fun k i j dn => nxt_of (l := l) (ys := ys) (b := bt) (ps := ps) (T := T) (dn := dn) (k := k) (i := i) (j := j))
  rw [← hX] at hlm HX HSc HMt HLn HOk HNx ⊢
  rw [← hY] at hym HY HSc HOk HNx ⊢
  rw [← hP] at hPl HNx HMt
  have HLx := Lib.hid hX
  have HLy := Lib.hid hY
  have HPs := Lib.hid hP
  clear hX hY hP
  go_enter Try.func22, Try.ntmps22
  go_upto_region 2 with (first
    | (go_at_call 28; refine HLn.out.mono ?_; rintro e w1 ⟨A1, c1, rfl, hr1, hb1⟩; have HR1 := Lib.hid hr1; have HB1 := Lib.hid hb1; clear hr1 hb1)
    | (go_at_call 27; refine (HSc.out _ _ _ HR1.out (HY.out _ HB1.out)).mono ?_; rintro e w2 ⟨v2, rfl, ho2, hb2⟩; have HR2 := Lib.hid ho2.rd; have HB2 := Lib.hid (HB1.out.trans (hb2.mono HB1.out.size)); clear ho2 hb2))
  go_wp2_with (go_at_call 29; refine (HMt.out _ _ HR2.out).mono ?_; rintro e w3 ⟨A3, c3, rfl, hr3, hb3⟩; have HR3 := Lib.hid hr3; have HB3 := Lib.hid (HB2.out.trans (hb3.mono HB2.out.size)); clear hr3 hb3)
  clear HLn HSc HMt HR1 HB1 HR2 HB2
  have HX3 := Lib.hid (fun w' (hb : Below w3.heap.size w3 w') => HX.out w' (HB3.out.trans (hb.mono HB3.out.size)))
  have HY3 := Lib.hid (fun w' (hb : Below w3.heap.size w3 w') => HY.out w' (HB3.out.trans (hb.mono HB3.out.size)))
  have HP3 := Lib.hid (fun w' (hb : Below w3.heap.size w3 w') => HR3.out.below hb)
  clear HX HY HR3
  go_loopw [11, 12, 13, 14] (fun o' i' j' k' wr => ∃ (k i j : Nat) (dn : List Mg), k ≤ P + 1 ∧ i' = .int .i64 (i : Int) ∧ j' = .int .i64 (j : Int) ∧ k' = .int .i64 (k : Int) ∧ i ≤ X ∧ j ≤ Y ∧ Hid (OwnM w3.heap.size wr o' dn) ∧ Hid (Below w3.heap.size w3 wr) ∧ Hid (k ≤ P → OkP (X : Int) (Y : Int) (i : Int) (j : Int) (ps.drop k) ∧ dn ++ jnF l ys bt (i : Int) (j : Int) (ps.drop k) = T) ∧ Hid (k = P + 1 → dn = T)) (fun _ _ _ k' _ => P + 1 - (intOf k').toNat)
  case atStart => exact ⟨0, 0, 0, [], Nat.zero_le _, rfl, rfl, rfl, Nat.zero_le _, Nat.zero_le _, Lib.hid (OwnM.nil _ _), Lib.hid (Below.refl _ _), Lib.hid (fun _ => ⟨HOk.out, HT.out⟩), Lib.hid (fun h => by omega)⟩
  case round =>
    obtain ⟨k, i, j, dn, hk, rfl, rfl, rfl, hi, hj, HO, HB, HI, HE⟩ := hrel
    have k0 : (0 : Int) ≤ (k : Int) := by omega
    by_cases hlt : k < P + 1
    · obtain ⟨f, t, hnx⟩ := HNx.out k i j dn (by omega) hi hj (HI.out (by omega)).1 (HI.out (by omega)).2
      have d1 : decide ((k : Int) ≤ (P : Int)) = true := decide_eq_true (by omega)
      have hif := hnx.a1
      have hfX := hnx.a2
      have hjt := hnx.a3
      have htY := hnx.a4
      rw [← HLx.out] at hfX
      rw [← HLy.out] at htY
      have HM := Lib.hid hnx.mid
      have HFn := Lib.hid hnx.fin
      clear hnx HI HE
      have d1n : decide (k ≤ P) = true := decide_eq_true (by omega)
      go_upto_region 11 with fail
      obtain ⟨G, hG⟩ : ∃ G, G = wr.heap.size := ⟨_, rfl⟩
      obtain ⟨W1, hW1⟩ : ∃ W1, W1 = wr.alloc (.cells #[.int .i64 (X : Int), .int .i64 (Y : Int)] tSp) := ⟨_, rfl⟩
      have HC1 : Hid (Sh.Blk W1 G tSp [.int .i64 (X : Int), .int .i64 (Y : Int)]) := Lib.hid (by rw [hW1, hG]; exact heap_new wr _)
      have HO1 : Hid (OwnM w3.heap.size W1 u11 dn) := Lib.hid (by rw [hW1]; exact World.ownsRow.alloc HO.out _)
      have HB1 : Hid (Below w3.heap.size w3 W1) := Lib.hid (by rw [hW1]; exact HB.out.alloc HB.out.size _)
      have HGs : Hid (w3.heap.size ≤ G ∧ G < W1.heap.size) := Lib.hid ⟨by rw [hG]; exact HB.out.size, HC1.out.lt⟩
      rw [← hW1, ← hG]
      clear hW1 hG HO HB
      go_upto_if 43 with fail
      go_cut [] from 44 to 48 (fun wx => Sh.Blk wx G tSp [.int .i64 (f : Int), .int .i64 (t : Int)] ∧ OwnM w3.heap.size wx u11 dn ∧ Below w3.heap.size w3 wx)
      case first =>
        by_cases hkP : k < P
        · have hx : k < ps.length := by rw [← HPs.out]; exact hkP
          obtain ⟨b3, o3, rfl, q0, q1⟩ := RdS_at (HP3.out W1 HB1.out) k hx
          obtain ⟨e1, e2, _⟩ := HM.out hx
          rw [e1] at q0
          rw [e2] at q1
          have i2 : (k : Int) < (P : Int) := by omega
          have g0 := HC1.out.cell (k := 0) (show 0 < 2 by decide)
          have g1 := HC1.out.cell (k := 1) (show 1 < 2 by decide)
          simp only [List.getElem_cons_zero, List.getElem_cons_succ] at g0 g1
          have z0 := HC1.out.free 0
          have z1 := HC1.out.free 1
          have HS : Hid (Sh.Blk ((W1.setCell ⟨G, 0, none⟩ (.int .i64 (f : Int))).setCell ⟨G, 1, none⟩ (.int .i64 (t : Int))) G tSp [.int .i64 (f : Int), .int .i64 (t : Int)] ∧ OwnM w3.heap.size ((W1.setCell ⟨G, 0, none⟩ (.int .i64 (f : Int))).setCell ⟨G, 1, none⟩ (.int .i64 (t : Int))) u11 dn ∧ Below w3.heap.size w3 ((W1.setCell ⟨G, 0, none⟩ (.int .i64 (f : Int))).setCell ⟨G, 1, none⟩ (.int .i64 (t : Int)))) := Lib.hid ⟨(HC1.out.set 0 _).set 1 _, ownM_box HC1.out HO1.out, (HB1.out.setCell HGs.out.1 _).setCell HGs.out.1 _⟩
          clear HM HFn e1 e2
          go_wp2_with fail
          go_meet
          case rel => exact HS.out
        · obtain rfl : k = P := by omega
          obtain ⟨e1, e2, _⟩ := HFn.out HPs.out
          rw [← HLx.out] at e1
          rw [← HLy.out] at e2
          subst e1
          subst e2
          have i2 : decide ((k : Int) < (k : Int)) = false := decide_eq_false (by omega)
          clear HM HFn
          go_wp2_with fail
          go_meet
          case rel => exact ⟨HC1.out, HO1.out, HB1.out⟩
      case rest =>
        obtain ⟨hc2, ho2, hb2⟩ := hcut
        have HC2 := Lib.hid hc2
        have HO2 := Lib.hid ho2
        have HB2 := Lib.hid hb2
        clear hc2 ho2 hb2 HC1 HO1 HB1
        have hdn : dn.length ≤ 2000 := by
          by_cases hkP : k < P
          · obtain ⟨_, _, _, _, _, e⟩ := HM.out (by rw [← HPs.out]; exact hkP)
            have := congrArg List.length e
            simp only [List.length_append] at this
            omega
          · obtain ⟨_, _, e⟩ := HFn.out (by rw [← HPs.out]; omega)
            have := congrArg List.length e
            simp only [List.length_append] at this
            omega
        have HSn : Hid (∀ a, i ≤ a → ∀ h : a < l.length, dn ++ cutI l (i : Int) ((a + 1 : Nat) : Int) = (dn ++ cutI l (i : Int) (a : Int)) ++ [l[a]]) := Lib.hid (fun a h1 h2 => by rw [cutI_snoc l h1 h2, List.append_assoc])
        have HLa : Hid (∀ a, a ≤ X → (dn ++ cutI l (i : Int) (a : Int)).length ≤ 3000) := Lib.hid (fun a h1 => by rw [List.length_append, cutN_len l (by rw [← HLx.out]; exact h1)]; omega)
        have HS0 : Hid (OwnM w3.heap.size wc u11 (dn ++ cutI l (i : Int) (i : Int))) := Lib.hid (by rw [cutI_nil, List.append_nil]; exact HO2.out)
        clear HO2
        have g0 := HC2.out.cell (k := 0) (show 0 < 2 by decide)
        simp only [List.getElem_cons_zero] at g0
        go_wp2_with fail
        go_loopw [11, 12] (fun o' a' wq => ∃ a : Nat, a' = .int .i64 (a : Int) ∧ i ≤ a ∧ a ≤ f ∧ Hid (OwnM w3.heap.size wq o' (dn ++ cutI l (i : Int) (a : Int))) ∧ Hid (Below w3.heap.size w3 wq) ∧ Hid (Sh.Blk wq G tSp [.int .i64 (f : Int), .int .i64 (t : Int)])) (fun _ a' _ => f - (intOf a').toNat)
        case atStart => exact ⟨i, rfl, Nat.le_refl _, hif, HS0, HB2, HC2⟩
        case round =>
          clear HS0 HB2 HC2 g0
          obtain ⟨a, rfl, hia, haf, HOa, HBa, HCa⟩ := hrel
          have g0 := HCa.out.cell (k := 0) (show 0 < 2 by decide)
          simp only [List.getElem_cons_zero] at g0
          by_cases hlt2 : a < f
          · have hx : a < l.length := by rw [← HLx.out]; omega
            obtain ⟨b1, o1, rfl, q0, q1⟩ := RdM_at (HX3.out wr HBa.out) a hx
            have HSa := Lib.hid (HSn.out a hia hx)
            have hla := HLa.out a (by omega)
            have e1 : l[a] = ⟨l[a].line, l[a].par⟩ := rfl
            rw [e1] at HSa
            generalize l[a].line = ln at *
            generalize l[a].par = pr at *
            generalize dn ++ cutI l (i : Int) (a : Int) = Da at *
            have a0 : (0 : Int) ≤ (a : Int) := by omega
            have a1 : (a : Int) < (f : Int) := by omega
            have a2 : (a : Int) < (X : Int) := by omega
            clear e1
            go_wp2_with (at_builtin; refine app_mg rfl (.tmp 52) (.tmp 57) rfl w3.heap.size Da ⟨ln, pr⟩ _ _ rfl HOa.out rfl rfl rfl (by omega) HBa.out.size ?_; intro v4 w4 ho4 hb4 hg4; have HO4 := Lib.hid ho4; have HB4 := Lib.hid (HBa.out.trans hb4); have HC4 := Lib.hid ((KeptM.grown HOa.out ((Below.refl _ _).alloc (Nat.le_refl _) _) hg4).blk HCa.out (by decide)); clear ho4 hb4 hg4)
            go_roundw
            case rel => exact ⟨a + 1, by go_num, by omega, by omega, by rw [HSa.out]; exact HO4, HB4, HC4⟩
            case measure => simp [intOf]; omega
          · obtain rfl : a = f := by omega
            have a1 : decide ((a : Int) < (a : Int)) = false := decide_eq_false (by omega)
            have hla := HLa.out a (by omega)
            have HM2 := Lib.hid HM.out
            clear HSn HLa
            generalize hDa : dn ++ cutI l (i : Int) (a : Int) = Da at *
            have HSn : Hid (∀ b, j ≤ b → ∀ h : b < ys.length, Da ++ news bt (cutI ys (j : Int) ((b + 1 : Nat) : Int)) = (Da ++ news bt (cutI ys (j : Int) (b : Int))) ++ [⟨ys[b], bt⟩]) := Lib.hid (fun b h1 h2 => by rw [cutI_snoc ys h1 h2, news_snoc, List.append_assoc])
            have HLb : Hid (∀ b, b ≤ Y → (Da ++ news bt (cutI ys (j : Int) (b : Int))).length ≤ 4000) := Lib.hid (fun b h1 => by rw [List.length_append, news_len, cutN_len ys (by rw [← HLy.out]; exact h1)]; omega)
            have HS0 : Hid (OwnM w3.heap.size wr u11 (Da ++ news bt (cutI ys (j : Int) (j : Int)))) := Lib.hid (by rw [cutI_nil]; simpa [news] using HOa.out)
            clear HOa
            have g1 := HCa.out.cell (k := 1) (show 1 < 2 by decide)
            simp only [List.getElem_cons_zero, List.getElem_cons_succ] at g1
            go_wp2_with fail
            go_loopw [11, 13] (fun o' b' wq => ∃ b : Nat, b' = .int .i64 (b : Int) ∧ j ≤ b ∧ b ≤ t ∧ Hid (OwnM w3.heap.size wq o' (Da ++ news bt (cutI ys (j : Int) (b : Int)))) ∧ Hid (Below w3.heap.size w3 wq) ∧ Hid (Sh.Blk wq G tSp [.int .i64 (a : Int), .int .i64 (t : Int)])) (fun _ b' _ => t - (intOf b').toNat)
            case atStart => exact ⟨j, rfl, Nat.le_refl _, hjt, HS0, HBa, HCa⟩
            case round =>
              clear HS0 HBa HCa g0 g1
              obtain ⟨b, rfl, hjb, hbt, HOb, HBb, HCb⟩ := hrel
              have g1 := HCb.out.cell (k := 1) (show 1 < 2 by decide)
              simp only [List.getElem_cons_zero, List.getElem_cons_succ] at g1
              by_cases hlt3 : b < t
              · have hy : b < ys.length := by rw [← HLy.out]; omega
                obtain ⟨b2, o2, rfl, q0⟩ := Sh.int_at (HY3.out wr HBb.out) b hy
                have HSb := Lib.hid (HSn.out b hjb hy)
                have hlb := HLb.out b (by omega)
                generalize ys[b] = yb at *
                generalize Da ++ news bt (cutI ys (j : Int) (b : Int)) = Db at *
                have b0 : (0 : Int) ≤ (b : Int) := by omega
                have b1 : (b : Int) < (t : Int) := by omega
                have b3 : (b : Int) < (Y : Int) := by omega
                go_wp2_with (at_builtin; refine app_mg rfl (.tmp 65) (.tmp 74) rfl w3.heap.size Db ⟨yb, bt⟩ _ _ rfl HOb.out rfl rfl rfl (by omega) HBb.out.size ?_; intro v5 w5 ho5 hb5 hg5; have HO5 := Lib.hid ho5; have HB5 := Lib.hid (HBb.out.trans hb5); have HC5 := Lib.hid ((KeptM.grown HOb.out ((Below.refl _ _).alloc (Nat.le_refl _) _) hg5).blk HCb.out (by decide)); clear ho5 hb5 hg5)
                go_roundw
                case rel => exact ⟨b + 1, by go_num, by omega, by omega, by rw [HSb.out]; exact HO5, HB5, HC5⟩
                case measure => simp [intOf]; omega
              · obtain rfl : b = t := by omega
                have b1 : decide ((b : Int) < (b : Int)) = false := decide_eq_false (by omega)
                have hlb := HLb.out b (by omega)
                clear HSn HLb
                generalize hDb : Da ++ news bt (cutI ys (j : Int) (b : Int)) = Db at *
                by_cases hkP : k < P
                · obtain ⟨_, _, htl, hfl, hok, hT2⟩ := HM2.out (by rw [← HPs.out]; exact hkP)
                  rw [← HLx.out, ← HLy.out] at hok
                  have HOk2 := Lib.hid hok
                  have htl2 : b < Y := by rw [HLy.out]; exact htl
                  have HT2 := Lib.hid hT2
                  obtain ⟨b2, o2, rfl, q0, q1⟩ := RdM_at (HX3.out wr HBb.out) a hfl
                  have HQ := Lib.hid (fun V hV => RdM_at (HX3.out V hV) a hfl)
                  have hor := or_u32 l[a].par bt (HPr.out _ (List.getElem_mem hfl)) hp2
                  have i2 : (k : Int) < (P : Int) := by omega
                  have a0 : (0 : Int) ≤ (a : Int) := by omega
                  have a2 : (a : Int) < (X : Int) := by rw [HLx.out]; omega
                  clear hok hT2 htl HM HFn HM2
                  generalize l[a].line = ln at *
                  generalize l[a].par = pr at *
                  have HKp : Hid (∀ V, Below w3.heap.size w3 V → V.cell? ⟨b2, o2 + a * 2, none⟩ = some (.int .i64 ln) ∧ V.cell? ⟨b2, o2 + a * 2 + 1, none⟩ = some (.int .u32 (pr : Int))) := Lib.hid (fun V hV => by
                    obtain ⟨b4, o4, e, r0, r1⟩ := HQ.out V hV
                    cases e
                    exact ⟨r0, r1⟩)
                  clear HQ
                  have HOw : Hid (wr.ownsRow w3.heap.size tMg 2 u11 Db.length (flatK mgC Db)) := HOb
                  have hsz := HBb.out.size
                  obtain ⟨i0, hi0, hz0, hz1, hz2⟩ := info_parts info_mg
                  have HV : Hid ((bits .or .u32 (pr : Int) (IntKind.u32.wrap ((2 : Int) ^ min (IntKind.u64.wrap (p : Int)).toNat 32))) = ((pr ||| bt : Nat) : Int)) := Lib.hid (by
                    have e1 : IntKind.u64.wrap (p : Int) = (p : Int) := by rw [IntKind.wrap_u64]; omega
                    rw [e1, Int.toNat_natCast, Nat.min_eq_left (by omega), hsh]
                    exact hor)
                  have HOne : Hid (∀ u ∈ [Value.int .i64 ln, Value.int .u32 (bits .or .u32 (pr : Int) (IntKind.u32.wrap ((2 : Int) ^ min (IntKind.u64.wrap (p : Int)).toNat 32)))], u.oneCell' = true) := Lib.hid (by
                    intro u hu
                    simp only [List.mem_cons, List.not_mem_nil, or_false] at hu
                    rcases hu with rfl | rfl
                    all_goals rfl)
                  go_upto_region 20 with fail
                  clear hDb hDa HOb g1 HCb
                  go_region_held3 (fun V => V.cell? ⟨b2, o2 + a * 2, none⟩ = some (.int .i64 ln) ∧ V.cell? ⟨b2, o2 + a * 2 + 1, none⟩ = some (.int .u32 (pr : Int)))
                    (first | go_keep | exact HKp.out _ HBq.out)
                    ((refine step_append_lies _ (by rfl) (.tmp 82) (.tmp 98) tMgs (by rfl) w3.heap.size tMg i0 zeroMg 2 16 Try.underlying25 hi0 hz0 hz1 hz2 rfl (by omega) u11 Db.length (flatK mgC Db) (by rfl) ((HOw.out.alloc _).drew) ⟨wr.heap.size, 0, none⟩ 1 1 [.int .i64 ln, .int .u32 (bits .or .u32 (pr : Int) (IntKind.u32.wrap ((2 : Int) ^ min (IntKind.u64.wrap (p : Int)).toNat 32)))] (by rfl) (by rfl) (World.news_of_block (cs := #[.int .i64 ln, .int .u32 (bits .or .u32 (pr : Int) (IntKind.u32.wrap ((2 : Int) ^ min (IntKind.u64.wrap (p : Int)).toNat 32)))]) (t := tMg) (fr := (0, 0)) (heap_new wr _)) HOne.out (by omega) (by unfold maxLen; omega) (by omega) (by simp; omega) (wr.heap.size + 1) (by simp) ?_; intro gg cap w5 ho5 hg5 hat hlt5; have HBq := Lib.hid (((HBb.out.alloc hsz (.cells #[.int .i64 ln, .int .u32 (bits .or .u32 (pr : Int) (IntKind.u32.wrap ((2 : Int) ^ min (IntKind.u64.wrap (p : Int)).toNat 32)))] tMg)).drew).grown hg5 (by simp; omega) (fun k hk => (HOw.out.lt k hk).1)); have HO5 : Hid (OwnM w3.heap.size w5 (.slice (some ⟨gg, 0, none⟩) (Db.length + 1) cap) (Db ++ [⟨ln, pr ||| bt⟩])) := Lib.hid (by unfold OwnM; rw [List.length_append, List.length_singleton, flatK_snoc]; rw [HV.out] at ho5; exact ho5); clear ho5 hg5 hat hlt5))
                  go_wp2_with fail
                  go_roundw
                  case rel => exact ⟨k + 1, a + 1, b + 1, _, by omega, by go_num, by go_num, by go_num, by omega, by omega, HO5, HBq, Lib.hid (fun _ => ⟨HOk2.out, HT2.out⟩), Lib.hid (fun h => by omega)⟩
                  case measure => simp [intOf]; omega
                · obtain rfl : k = P := by omega
                  have i2 : decide ((k : Int) < (k : Int)) = false := decide_eq_false (by omega)
                  obtain ⟨_, _, hT2⟩ := HFn.out HPs.out
                  have HT2 : Hid (Db = T) := Lib.hid hT2
                  clear hT2 HM HFn HM2
                  go_wp2_with fail
                  go_roundw
                  case rel => exact ⟨k + 1, a, b, Db, by omega, rfl, rfl, by go_num, by omega, by omega, HOb, HBb, Lib.hid (fun h => by omega), Lib.hid (fun _ => HT2.out)⟩
                  case measure => simp [intOf]
    · have d1 : decide ((k : Int) ≤ (P : Int)) = false := decide_eq_false (by omega)
      have HE2 := Lib.hid (HE.out (by omega))
      go_wp2_with fail
      go_ret2
      exact ⟨_, rfl, by rw [← HE2.out]; exact HO.out.base HB3.out.size, HB3.out.trans (HB.out.mono HB3.out.size)⟩
end Lo
end Go.Proofs.Ytechabkmepejaaa

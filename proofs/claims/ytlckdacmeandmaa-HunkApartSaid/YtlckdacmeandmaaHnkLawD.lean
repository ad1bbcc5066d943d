/-
  The walk of layer 11's law HunkApart. Conditions: what a row asks of its arguments.
-/
import Derived.Test.YtlckdacmeandmaaHnkRd
namespace Go.Proofs.Ytlckdacmeandmaa
open Go.RowKit
namespace Hn
open Cm Sc Au
def SzEq (l : List Ch) (w : World) (e : Ending) (w' : World) : Prop := e = .returned (.tuple #[.int .i64 (szO l), .int .i64 (szN l)]) ∧ w = w'
set_option maxRecDepth 100000 in
set_option maxHeartbeats 4000000 in
theorem SizeR_same (v : Value) (l : List Ch) (w : World) (h : RdC w v l) (hl : l.length ≤ 1000000) :
    Calls Try.prog 16 #[v] w (SzEq l w) := by
  obtain ⟨A, cp, rfl⟩ := h.form
  have HR := Lib.hid h
  have b1 := szO_bd l
  have b2 := szN_bd l
  clear h
  generalize hN : l.length = N at hl b1 b2 ⊢
  have HN := Lib.hid hN
  clear hN
  unfold SzEq
  have HS : Hid (szO l = szO (l.drop 0) ∧ szN l = szN (l.drop 0)) := Lib.hid ⟨rfl, rfl⟩
  generalize szO l = TO at *
  generalize szN l = TN at *
  go_enter Try.func16, Try.ntmps16
  go_wp2_with fail
  go_loopw [4, 5, 6] (fun a' b' k' wr => ∃ (k : Nat) (a b : Int), k ≤ N ∧ k' = .int .i64 (k : Int) ∧ a' = .int .i64 a ∧ b' = .int .i64 b ∧ (0 ≤ a ∧ a ≤ TO) ∧ (0 ≤ b ∧ b ≤ TN) ∧ Hid (TO = a + szO (l.drop k) ∧ TN = b + szN (l.drop k)) ∧ wr = w) (fun _ _ k' _ => N - (intOf k').toNat)
  case atStart => exact ⟨0, 0, 0, Nat.zero_le _, rfl, rfl, rfl, ⟨Int.le_refl _, b1.1⟩, ⟨Int.le_refl _, b2.1⟩, Lib.hid ⟨by rw [HS.out.1]; simp, by rw [HS.out.2]; simp⟩, rfl⟩
  case round =>
    obtain ⟨k, a, b, hk, rfl, rfl, rfl, ⟨ha0, ha1⟩, ⟨hb0, hb1⟩, HO, rfl⟩ := hrel
    by_cases hlt : k < N
    · have hx : k < l.length := by rw [HN.out]; exact hlt
      obtain ⟨g, off, rfl, c0, c1, c2, c3⟩ := RdC_at HR.out k hx
      obtain ⟨e1, e2⟩ := sz_drop hx
      have HO2 : Hid (TO = a + (cntI l[k].oldLen + szO (l.drop (k + 1))) ∧ TN = b + (cntI l[k].newLen + szN (l.drop (k + 1)))) := Lib.hid ⟨by rw [← e1]; exact HO.out.1, by rw [← e2]; exact HO.out.2⟩
      clear HO e1 e2
      generalize l[k] = c at c0 c1 c2 c3 HO2
      obtain ⟨o, ol, nw, nl⟩ := c
      simp only at c0 c1 c2 c3
      have i1 : (0 : Int) ≤ (k : Int) := by omega
      have i2 : (k : Int) < (N : Int) := by omega
      have z1 := cntI_bd ol
      have z2 := cntI_bd nl
      have s1 := (szO_bd (l.drop (k + 1))).1
      have s2 := (szN_bd (l.drop (k + 1))).1
      have g1 : a + cntI ol ≤ TO := by have := HO2.out.1; simp only at this; omega
      have g2 : b + cntI nl ≤ TN := by have := HO2.out.2; simp only at this; omega
      have HO3 : Hid (TO = a + cntI ol + szO (l.drop (k + 1)) ∧ TN = b + cntI nl + szN (l.drop (k + 1))) := Lib.hid ⟨by have := HO2.out.1; simp only at this; omega, by have := HO2.out.2; simp only at this; omega⟩
      clear HO2 s1 s2
      have HQ1 : Hid (inB ol = true ∧ (0 ≤ ol ∧ ol ≤ 4096) ∧ cntI ol = ol ∨ inB ol = false ∧ cntI ol = 0) := Lib.hid (by
        by_cases h : inI ol
        · exact .inl ⟨inB_T h, h, if_pos ⟨h.1, h.2⟩⟩
        · exact .inr ⟨inB_F h, if_neg (fun hh => h ⟨hh.1, hh.2⟩)⟩)
      have HQ2 : Hid (inB nl = true ∧ (0 ≤ nl ∧ nl ≤ 4096) ∧ cntI nl = nl ∨ inB nl = false ∧ cntI nl = 0) := Lib.hid (by
        by_cases h : inI nl
        · exact .inl ⟨inB_T h, h, if_pos ⟨h.1, h.2⟩⟩
        · exact .inr ⟨inB_F h, if_neg (fun hh => h ⟨hh.1, hh.2⟩)⟩)
      generalize cntI ol = co at *
      generalize cntI nl = cn at *
      rcases HQ1.out with ⟨q1, ⟨q2, q3⟩, rfl⟩ | ⟨q1, rfl⟩
      all_goals
        rcases HQ2.out with ⟨p1, ⟨p2, p3⟩, rfl⟩ | ⟨p1, rfl⟩
        all_goals
          clear HQ1 HQ2
          go_wp2_with (go_at_call 23; refine (in_any _ _).mono ?_; rintro e w' ⟨rfl, rfl⟩)
          go_roundw
          case rel => exact ⟨k + 1, _, _, by omega, by go_num, by first | rfl | rw [Int.add_zero], by first | rfl | rw [Int.add_zero], ⟨by omega, by omega⟩, ⟨by omega, by omega⟩, HO3, by first | rfl | trivial⟩
          case measure => simp [intOf]; omega
    · have hd : decide (k < N) = false := decide_eq_false hlt
      have HE : Hid (a = TO ∧ b = TN) := Lib.hid (by
        have e : l.drop k = [] := List.drop_eq_nil_of_le (by rw [HN.out]; omega)
        have h1 := HO.out.1
        have h2 := HO.out.2
        rw [e] at h1 h2
        have z1 : szO [] = 0 := rfl
        have z2 : szN [] = 0 := rfl
        rw [z1] at h1
        rw [z2] at h2
        omega)
      clear HO
      go_wp2_with fail
      go_ret2
      exact ⟨by rw [HE.out.1, HE.out.2]; rfl, rfl⟩
theorem seg_len {l : List Ch} {f t : Nat} (ht : t ≤ l.length) : (seg l f t).length = t - f := by
  unfold seg; rw [List.length_take, List.length_drop]; omega
theorem seg_get {l : List Ch} {f t j : Nat} (hj : j < (seg l f t).length) (h2 : f + j < l.length) : (seg l f t)[j] = l[f + j] := by
  simp [seg]
theorem rd_sub {w : World} {b off N c : Nat} {l : List Ch} (h : RdC w (.slice (some ⟨b, off, none⟩) N c) l) {f t : Nat} (hft : f ≤ t) (ht : t ≤ l.length) : RdC w (.slice (some ⟨b, off + f * 4, none⟩) (t - f) (c - f)) (seg l f t) := by
  have hlc : l.length ≤ c := by
    obtain ⟨A', c', e, ⟨h1, _⟩, _⟩ := h
    injection e with e1 e2 e3
    omega
  refine ⟨_, _, by rw [seg_len ht], ⟨by rw [seg_len ht]; omega, fun e => by cases e⟩, fun _ => ⟨b, off + f * 4, rfl, fun j hj i hi => ?_⟩⟩
  have hjl : f + j < l.length := by rw [seg_len ht] at hj; omega
  obtain ⟨b2, o2, e2, hc⟩ := h.at (f + j) hjl
  cases e2
  have e := seg_get hj hjl
  have hi4 : i < 4 := hi
  have h3 := hc i (by exact hi4)
  have e3 : off + f * 4 + j * 4 + i = off + (f + j) * 4 + i := by rw [Nat.add_mul]; omega
  have e4 : chC (seg l f t)[j] = chC l[f + j] := by rw [e]
  rw [e3, h3, List.getElem_of_eq e4 hi]
  rfl
theorem apart_cons {l : List Ch} {m n : Int} {a : Nat} {p : Option Hk} {G : List Hk} {q : Nat} (h : Apart l m n a p (G.drop q)) (hq : q < G.length) : ∃ t, OneH l m n a p G[q] t ∧ Apart l m n t (some G[q]) (G.drop (q + 1)) := by
  rw [List.drop_eq_getElem_cons hq] at h
  exact h
theorem apart_end {l : List Ch} {m n : Int} {a : Nat} {p : Option Hk} {G : List Hk} (h : Apart l m n a p (G.drop G.length)) : a = l.length := by
  rw [List.drop_eq_nil_of_le (Nat.le_refl _)] at h
  exact h
/-- The hunk before the one at q, if there is one. -/
def prevH (G : List Hk) (q : Nat) : Option Hk := if 0 < q then G[q - 1]? else none
theorem prevH_succ {G : List Hk} {q : Nat} (hq : q < G.length) : prevH G (q + 1) = some G[q] := by
  unfold prevH; rw [if_pos (Nat.succ_pos q), Nat.add_sub_cancel, List.getElem?_eq_getElem hq]
set_option maxRecDepth 100000 in
set_option maxHeartbeats 8000000 in
theorem apart_walk (v : Value) (us : List Int) (k : Int) (w : World) (h : RdV w v (intsV us)) (hu : us.length ≤ maxLen) (hk : -9223372036854775808 ≤ k ∧ k ≤ 9223372036854775807) :
    Calls Try.prog 6 #[v, .int .i64 k] w (AwPost w) := by
  have HAw := Lib.hid (fun w => awake_any w)
  have HSc := Lib.hid (Script_any v us 0 w h hu ⟨by omega, by omega⟩)
  have HMd := Lib.hid (fun w => Tx.Mod_any k 5 w (by decide) (by decide) hk.1 hk.2)
  have z0 := Tx.modF_lo k 5 (by decide)
  have z1 := Tx.modF_hi k 5 (by decide)
  obtain ⟨A, cp, rfl⟩ := h.form
  clear h hu hk
  rw [intsV_len] at HSc ⊢
  generalize us.length = nu at *
  generalize Tx.modF k 5 = z at *
  go_enter Try.func6, Try.ntmps6
  go_wp2_with fail
  refine (HSc.out).mono ?_
  rintro e w1 ⟨vs, ls, a, b, rfl, hg, ho, hb⟩
  have HB1 := Lib.hid hb
  obtain ⟨As, cs, ev⟩ := ho.rd.form
  subst ev
  have HS := Lib.hid ho.rd
  have hN : ls.length ≤ 10 := hg.len
  obtain ⟨am0, am1⟩ := hg.bm
  obtain ⟨bn0, bn1⟩ := hg.bn
  have HG := Lib.hid (fun wq (h1 : RdC wq (.slice As ls.length cs) ls) => Group_good _ ls a b z wq h1 hg ⟨by omega, by omega⟩)
  have HAp := Lib.hid (group_apart (ctx := z) (by omega) hg.im hg.in_ hg.ok)
  have hGl := group_len z a ls
  unfold GdPost at HG
  clear hb ho hg HSc
  generalize group z a ls = G at *
  obtain ⟨N, hNe⟩ : ∃ N, N = ls.length := ⟨_, rfl⟩
  rw [← hNe] at hN hGl HG HS ⊢
  have HN := Lib.hid hNe
  clear hNe
  go_wp2_with fail
  refine (HMd.out _).mono ?_
  rintro e wm ⟨rfl, rfl⟩
  go_wp2_with fail
  refine (HG.out _ HS.out).mono ?_
  rintro e w2 ⟨v2, rfl, hr, hb⟩
  have HB2 := Lib.hid (HB1.out.trans (hb.mono HB1.out.size))
  have HS := Lib.hid (HS.out.below hb)
  obtain ⟨Ah, ch, ev⟩ := hr.form
  subst ev
  have HX := Lib.hid hr
  clear hr hb HB1 HG HMd
  obtain ⟨D, hD⟩ : ∃ D, D = G.length := ⟨_, rfl⟩
  rw [← hD] at hGl HX ⊢
  have HD := Lib.hid hD
  clear hD
  go_wp2_with fail
  go_loopw [10, 11] (fun a' k' wr => ∃ q t : Nat, q ≤ D ∧ t ≤ N ∧ k' = .int .i64 (q : Int) ∧ a' = .int .i64 (t : Int) ∧ Hid (Apart ls a b t (prevH G q) (G.drop q)) ∧ Hid (∀ h, prevH G q = some h → 0 ≤ h.oT ∧ 0 ≤ h.nT) ∧ ∃ p, wr = w2.drewN p) (fun _ k' _ => D - (intOf k').toNat)
  case atStart => exact ⟨0, 0, Nat.zero_le _, Nat.zero_le _, by go_num, by go_num, HAp, Lib.hid (fun h hh => by cases hh), 0, rfl⟩
  case round =>
    clear HAp
    obtain ⟨q, t, hq, ht, rfl, rfl, HA, HPb, p, rfl⟩ := hrel
    have HRel : Hid (∀ p1, ∃ q2, ((w2.drewN p).drewN p1) = w2.drewN q2) := Lib.hid (fun p1 => ⟨_, World.drewN_drewN _ _ _⟩)
    have HBd := Lib.hid (below_drewN HB2.out p)
    have HBr := Lib.hid (below_drewN (Below.refl w2.heap.size w2) p)
    generalize w2.drewN p = wq at *
    by_cases hlt : q < D
    · have hqG : q < G.length := by rw [← HD.out]; exact hlt
      obtain ⟨t2, hone, hnx⟩ := apart_cons HA.out hqG
      have HNx : Hid (Apart ls a b t2 (prevH G (q + 1)) (G.drop (q + 1))) := Lib.hid (by rw [prevH_succ hqG]; exact hnx)
      obtain ⟨hf, hl, g1, g2, o0, o1, o2, n0, n1, n2, hsz, hprev⟩ := hone
      rw [← HN.out] at g2
      have HNb : Hid (∀ h, prevH G (q + 1) = some h → 0 ≤ h.oT ∧ 0 ≤ h.nT) := Lib.hid (fun h hh => by
        rw [prevH_succ hqG] at hh
        cases hh
        exact ⟨by omega, by omega⟩)
      have HSq := Lib.hid (HS.out.below HBr.out)
      have HXq := Lib.hid (HX.out.below HBr.out)
      obtain ⟨bh, oh, rfl, r0, r1, r2, r3, r4, r5⟩ := RdH_at HXq.out q hqG
      have HLp : Hid (∀ j, q = j + 1 → ∃ oTp nTp : Int, (0 ≤ oTp ∧ oTp < G[q].oF ∧ 0 ≤ nTp ∧ G[q].nF - nTp = G[q].oF - oTp) ∧ wq.cell? ⟨bh, oh + j * 6 + 3, none⟩ = some (.int .i64 oTp) ∧ wq.cell? ⟨bh, oh + j * 6 + 5, none⟩ = some (.int .i64 nTp)) := Lib.hid (fun j hj => by
        have hjl : j < G.length := by omega
        have hp : prevH G q = some G[j] := by
          unfold prevH; rw [if_pos (by omega), hj, Nat.add_sub_cancel, List.getElem?_eq_getElem hjl]
        have h1 := hprev _ hp
        have h2 := HPb.out _ hp
        obtain ⟨b2, o2, e2, _, _, _, c3, _, c5⟩ := RdH_at HXq.out j hjl
        cases e2
        exact ⟨_, _, ⟨h2.1, h1.1, h2.2, h1.2⟩, c3, c5⟩)
      obtain ⟨bs, os, rfl, -⟩ : ∃ b off, As = some ⟨b, off, none⟩ ∧ True := by
        obtain ⟨b, off, e, _⟩ := RdC_at HSq.out t (by rw [← HN.out]; omega)
        exact ⟨b, off, e, trivial⟩
      have HSz := Lib.hid (fun V (hV : Below wq.heap.size wq V) => SizeR_same _ (seg ls t t2) V (rd_sub (HSq.out.below hV) (Nat.le_of_lt g1) (by rw [← HN.out]; exact g2)) (by rw [seg_len (by rw [← HN.out]; exact g2)]; omega))
      unfold SzEq at HSz
      have hbO := szO_bd (seg ls t t2)
      have hbN := szN_bd (seg ls t t2)
      rw [seg_len (by rw [← HN.out]; exact g2)] at hbO hbN
      rw [hf] at r0
      rw [hl] at r1
      clear HA hnx hprev hf hl HPb
      generalize szO (seg ls t t2) = sO at *
      generalize szN (seg ls t t2) = sN at *
      generalize G[q].oF = oF at *
      generalize G[q].oT = oT at *
      generalize G[q].nF = nF at *
      generalize G[q].nT = nT at *
      have i1 : (0 : Int) ≤ (q : Int) := by omega
      have i2 : (q : Int) < (D : Int) := by omega
      have dk : decide (q < D) = true := decide_eq_true hlt
      have e1 : decide ((t2 : Int) ≤ (t : Int)) = false := decide_eq_false (by omega)
      have e2 : decide ((N : Int) < (t2 : Int)) = false := decide_eq_false (by omega)
      have e1' : decide (t2 ≤ t) = false := decide_eq_false (by omega)
      have e2' : decide (N < t2) = false := decide_eq_false (by omega)
      have e3 : decide (oF < 0) = false := decide_eq_false (by omega)
      have e4 : decide (a < oT) = false := decide_eq_false (by omega)
      have e5 : decide (nF < 0) = false := decide_eq_false (by omega)
      have e6 : decide (b < nT) = false := decide_eq_false (by omega)
      go_upto_region 12 with fail
      go_cut [154] from 106 to 155 (fun v wx => v = .bool false ∧ ∃ p2, wx = wq.drewN p2)
      case first =>
        by_cases h0 : q = 0
        · subst h0
          go_quiet (fail)
          go_wp2_with fail
          go_meet
          case rel => exact ⟨rfl, nq, rfl⟩
        · obtain ⟨j, rfl⟩ : ∃ j, q = j + 1 := ⟨q - 1, by omega⟩
          obtain ⟨oTp, nTp, ⟨p0, p1, p2, p3⟩, c3, c5⟩ := HLp.out j rfl
          have dq : decide ((0 : Int) < ((j + 1 : Nat) : Int)) = true := decide_eq_true (by omega)
          have dq2 : decide ((0 : Int) < (j : Int) + 1) = true := decide_eq_true (by omega)
          have f1 : decide (oF ≤ oTp) = false := decide_eq_false (by omega)
          have f2 : (nF - nTp != oF - oTp) = false := by rw [bne_eq_false_iff_eq]; exact p3
          have q1 : ((j + 1 : Nat) : Int) - 1 = (j : Int) := by omega
          have q2 : (0 : Int) ≤ (j : Int) := by omega
          have q3 : (j : Int) < (D : Int) := by omega
          have q6 : (0 : Int) ≤ (j : Int) + 1 := by omega
          have q7 : (j : Int) + 1 < (D : Int) := by omega
          have q8 : ((j : Int) + 1).toNat = j + 1 := by omega
          have hw : IntKind.i64.wrap (j : Int) = (j : Int) := IntWalk.i64_in _ (by omega)
          have p4 : nTp ≤ 100 := by omega
          clear HLp hsz p3
          go_quiet (fail)
          go_wp2_with fail
          go_meet
          case rel => exact ⟨rfl, nq, rfl⟩
      case rest =>
        obtain ⟨rfl, p2, rfl⟩ := hcut
        have HB2q := Lib.hid (below_drewN (Below.refl wq.heap.size wq) p2)
        have HRl2 : Hid (∀ p1, ∃ q2, ((wq.drewN p2).drewN p1) = w2.drewN q2) := Lib.hid (fun p1 => by rw [World.drewN_drewN]; exact HRel.out _)
        have HCl : Hid (∀ V, Below wq.heap.size wq V → V.cell? ⟨bh, oh + q * 6, none⟩ = some (.int .i64 (t : Int)) ∧ V.cell? ⟨bh, oh + q * 6 + 1, none⟩ = some (.int .i64 (t2 : Int)) ∧ V.cell? ⟨bh, oh + q * 6 + 2, none⟩ = some (.int .i64 oF) ∧ V.cell? ⟨bh, oh + q * 6 + 3, none⟩ = some (.int .i64 oT) ∧ V.cell? ⟨bh, oh + q * 6 + 4, none⟩ = some (.int .i64 nF) ∧ V.cell? ⟨bh, oh + q * 6 + 5, none⟩ = some (.int .i64 nT)) := Lib.hid (fun V hV =>
          have h : ∀ (o : Nat) (u : Value), wq.cell? ⟨bh, o, none⟩ = some u → V.cell? ⟨bh, o, none⟩ = some u := fun o u hu => (hV.cell (p := ⟨bh, o, none⟩) (Tx.cell_lt hu)).trans hu
          ⟨h _ _ r0, h _ _ r1, h _ _ r2, h _ _ r3, h _ _ r4, h _ _ r5⟩)
        have HSz2 := Lib.hid (fun V (hV : Below (wq.drewN p2).heap.size (wq.drewN p2) V) => HSz.out V (HB2q.out.trans (hV.mono HB2q.out.size)))
        obtain ⟨s0, s1, s2, s3, s4, s5⟩ := HCl.out _ HB2q.out
        have j1 : (t : Int) ≤ (t2 : Int) := by omega
        have j2 : (0 : Int) ≤ (t : Int) := by omega
        have j0 : N ≤ cs := by
          obtain ⟨A', c', e, ⟨h1, _⟩, _⟩ := HSq.out
          injection e with e1 e2 e3
          omega
        have j3 : (t2 : Int) ≤ (cs : Int) := by omega
        have j5 : cs ≠ t := by omega
        have j6 : (t : Int) < (cs : Int) := by omega
        have HCl2 := Lib.hid (fun V (hV : Below wq.heap.size wq V) => HCl.out V hV)
        obtain ⟨hbO0, hbO1⟩ := hbO
        obtain ⟨hbN0, hbN1⟩ := hbN
        clear r0 r1 r2 r3 r4 r5 HSz HCl HLp HRel
        generalize wq.drewN p2 = wp at *
        go_upto_region 14 with fail
        go_quiet ((go_at_call 16; exact Calls.quiet_of_same ((HSz2.out _ (below_drewN (Below.refl _ _) _)).mono fun _ _ h => ⟨h.1, h.2.symm⟩)))
        have HB3q := Lib.hid (below_drewN (Below.refl wp.heap.size wp) nq)
        have HBq3 := Lib.hid (HB2q.out.trans (HB3q.out.mono HB2q.out.size))
        have HRl3 : Hid (∀ p1, ∃ q2, ((wp.drewN nq).drewN p1) = w2.drewN q2) := Lib.hid (fun p1 => by rw [World.drewN_drewN]; exact HRl2.out _)
        obtain ⟨x0, x1, x2, x3, x4, x5⟩ := HCl2.out _ HBq3.out
        have e7 : (oT - oF - sO != nT - nF - sN) = false := by rw [bne_eq_false_iff_eq]; exact hsz
        have hb1 : sO ≤ 100000 := by omega
        have hb2 : sN ≤ 100000 := by omega
        clear s0 s1 s2 s3 s4 s5 HCl2 HSz2 hsz
        generalize wp.drewN nq = wz at *
        go_upto_region 15 with fail
        go_quiet (fail)
        go_wp2_with fail
        go_roundw
        case rel => obtain ⟨q2, e8⟩ := HRl3.out nq; exact ⟨q + 1, t2, by omega, by omega, by go_num, by go_num, HNx, HNb, q2, e8⟩
        case measure => simp [intOf]; omega
    · obtain rfl : q = D := by omega
      have HE : Hid (t = N) := Lib.hid (by
        have h := HA.out
        rw [HD.out] at h
        rw [HN.out]; exact apart_end h)
      obtain rfl := HE.out
      have dk : decide (q < q) = false := decide_eq_false (Nat.lt_irrefl _)
      clear HA HRel
      go_wp2_with fail
      refine (HAw.out _).mono ?_
      rintro e w4 ⟨rfl, hb⟩
      have HB4 := Lib.hid (HBd.out.trans (hb.mono HBd.out.size))
      go_wp2_with fail
      go_ret
      exact ⟨rfl, HB4.out⟩
end Hn
end Go.Proofs.Ytlckdacmeandmaa

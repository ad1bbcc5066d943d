/-
  The reference's Compose. Conditions: as few elements as the laws have.
-/
import Derived.Test.YtfbpdidnlbffhaaScrCmp
import Derived.Test.YtfbpdidnlbffhaaScrMtR
import Derived.Deep.AppendLies
import Derived.Tactics
import Derived.Tactics2
import Derived.WalkSpells
import Derived.StillTactics
import Derived.OwnWalk
import Derived.Laws.Pointers
namespace Go.Proofs.Ytfbpdidnlbffhaa
open Go.RowKit
namespace Sc
open Cm
theorem row_snoc (s t : Sp) (q : List Sp) : rowF s (q ++ [t]) = rowF s q ++ (if s.to = t.frm then [⟨s.frm, t.to⟩] else []) := by
  unfold rowF
  rw [List.filter_append, List.map_append]
  congr 1
  by_cases h : s.to = t.frm
  · rw [if_pos h, List.filter_cons_of_pos (by simpa using h)]; rfl
  · rw [if_neg h, List.filter_cons_of_neg (by simpa using h)]; rfl
theorem row_len (s : Sp) (q : List Sp) : (rowF s q).length ≤ q.length := by
  unfold rowF
  rw [List.length_map]
  exact List.length_filter_le _ _
set_option maxRecDepth 100000 in
set_option maxHeartbeats 8000000 in
theorem ComposeR_ok (vx vy : Value) (x y : List Ch) (m k n : Int) (w : World) (hx : RdC w vx x) (hxl : x.length ≤ 1000000) (hy : RdC w vy y) (hyl : y.length ≤ 1000000)
    (hm : inI m) (hk : inI k) (hn : inI n) (okx : OkL true 0 0 x m k) (oky : OkL true 0 0 y k n) :
    Calls Try.prog 25 #[vx, vy, .int .i64 m, .int .i64 k, .int .i64 n] w (GoodC (cmL x y m k n) w) := by
  have opx := mt_okp x true 0 0 hm.1 (fun _ => rfl) okx
  have opy := mt_okp y true 0 0 hk.1 (fun _ => rfl) oky
  have HCx := Lib.hid (show Calls Try.prog 15 #[vx, .int .i64 m, .int .i64 k] w (fun e w' => e = .returned (.int .i64 0) ∧ Below w.heap.size w w') from (CheckR_any _ x m k w hx (by omega)).mono fun e w' ⟨h1, h2⟩ => ⟨by rw [h1, chkF_ok hm hk okx], h2⟩)
  have HCy := Lib.hid (fun wq (hq : Below w.heap.size w wq) => show Calls Try.prog 15 #[vy, .int .i64 k, .int .i64 n] wq (fun e w' => e = .returned (.int .i64 0) ∧ Below wq.heap.size wq w') from (CheckR_any _ y k n wq (hy.below hq) (by omega)).mono fun e w' ⟨h1, h2⟩ => ⟨by rw [h1, chkF_ok hk hn oky], h2⟩)
  have HMx := Lib.hid (fun wq (hq : Below w.heap.size w wq) => Matched_any vx x m k wq (hx.below hq) hxl hm hk okx)
  have HMy := Lib.hid (fun wq (hq : Below w.heap.size w wq) => Matched_any vy y k n wq (hy.below hq) hyl hk hn oky)
  have hpx := mt_small hm hk okx
  have hpy := mt_small hk hn oky
  have HInx := Lib.hid (okP_asc opx).1
  have HLx := Lib.hid (cmp_pre_len opy)
  unfold cmL
  have HMd := Lib.hid (fun v wq (h : RdS wq v (cmpF (mtF m 0 0 x) (mtF k 0 0 y))) => Made_any v _ m n wq h (by have := HLx.out (mtF m 0 0 x); omega) ⟨hm.1, hm.2⟩ ⟨hn.1, hn.2⟩ (cmp_okP opx opy))
  obtain ⟨Ax, cx, rfl⟩ := hx.form
  obtain ⟨Ay, cy, rfl⟩ := hy.form
  clear hx hy hm hk hn okx oky opx opy
  generalize mtF m 0 0 x = p at *
  generalize mtF k 0 0 y = q at *
  generalize frF m n 0 0 (cmpF p q) = res at *
  generalize x.length = Nx at *
  generalize y.length = Ny at *
  go_enter Try.func25, Try.ntmps25
  go_upto_region 8 with (first
    | (go_at_call 15; refine HCx.out.mono ?_; rintro e w1 ⟨rfl, hb1⟩; have HB1 := Lib.hid hb1; clear hb1 HCx)
    | (go_at_call 15; refine (HCy.out _ HB1.out).mono ?_; rintro e w2 ⟨rfl, hb2⟩; have HB2 := Lib.hid (HB1.out.trans (hb2.mono HB1.out.size)); clear hb2 HCy HB1)
    | (go_at_call 28; refine (HMx.out _ HB2.out).mono ?_; rintro e w3 ⟨vp, rfl, hop, hb3⟩; have HB3 := Lib.hid (HB2.out.trans (hb3.mono HB2.out.size)); have HP3 := Lib.hid hop.rd; obtain ⟨Ap, cp, rfl⟩ := hop.rd.form; clear hb3 hop HMx HB2)
    | (go_at_call 28; refine (HMy.out _ HB3.out).mono ?_; rintro e w4 ⟨vq, rfl, hoq, hb4⟩; have HB4 := Lib.hid (HB3.out.trans (hb4.mono HB3.out.size)); have HP4 := Lib.hid (HP3.out.below hb4); have HQ4 := Lib.hid hoq.rd; obtain ⟨Aq, cq, rfl⟩ := hoq.rd.form; clear hb4 hoq HMy HB3 HP3))
  generalize hNp : p.length = np at *
  have HNp := Lib.hid hNp
  clear hNp
  generalize hNq : q.length = nb at *
  have HNq := Lib.hid hNq
  clear hNq
  go_wp2_with fail
  go_loopw [16, 17] (fun s' a' wr => ∃ (a : Nat) (s : Value), s' = s ∧ a ≤ np ∧ a' = .int .i64 (a : Int) ∧ Hid (OwnS w4.heap.size wr s (cmpF (p.take a) q)) ∧ Hid (Below w4.heap.size w4 wr)) (fun _ a' _ => np - (intOf a').toNat)
  case atStart => exact ⟨0, _, rfl, Nat.zero_le _, rfl, Lib.hid (OwnS.nil _ _), Lib.hid (Below.refl _ _)⟩
  case round =>
    obtain ⟨a, s, hs, ha, rfl, HO, HB⟩ := hrel
    subst hs
    by_cases hlt : a < np
    · have dk : decide (a < np) = true := decide_eq_true hlt
      have hxa : a < p.length := by rw [HNp.out]; exact hlt
      have HTk : Hid (p.take (a + 1) = p.take a ++ [p[a]]) := Lib.hid (take_at hxa)
      have hla : (cmpF (p.take a) q).length ≤ 4096 := by
        have h1 := HLx.out (p.take a)
        rw [List.length_take] at h1
        omega
      have HPa := Lib.hid (fun wq (hq : Below w4.heap.size w4 wq) => RdS_at (HP4.out.below hq) a hxa)
      generalize p[a] = sa at *
      obtain ⟨sf, st⟩ := sa
      go_wp2_with fail
      go_loopw [16, 18] (fun s' b' wr => ∃ (b : Nat) (s : Value), s' = s ∧ b ≤ nb ∧ b' = .int .i64 (b : Int) ∧ Hid (OwnS w4.heap.size wr s (cmpF (p.take a) q ++ rowF ⟨sf, st⟩ (q.take b))) ∧ Hid (Below w4.heap.size w4 wr)) (fun _ b' _ => nb - (intOf b').toNat)
      case atStart => exact ⟨0, _, rfl, Nat.zero_le _, rfl, Lib.hid (by rw [List.take_zero, show rowF ⟨sf, st⟩ [] = [] from rfl, List.append_nil]; exact HO.out), HB⟩
      case round =>
        obtain ⟨b, s, hs, hb, rfl, HO1, HB1⟩ := hrel
        subst hs
        clear HO HB
        by_cases hlt1 : b < nb
        · have db : decide (b < nb) = true := decide_eq_true hlt1
          have hxb : b < q.length := by rw [HNq.out]; exact hlt1
          obtain ⟨gp, offp, rfl, p0, p1⟩ := HPa.out _ HB1.out
          have HQb := Lib.hid (fun wq (hq : Below w4.heap.size w4 wq) => RdS_at (HQ4.out.below hq) b hxb)
          obtain ⟨gq, offq, rfl, q0, q1⟩ := HQb.out _ HB1.out
          have HTb : Hid (rowF ⟨sf, st⟩ (q.take (b + 1)) = rowF ⟨sf, st⟩ (q.take b) ++ (if st = q[b].frm then [⟨sf, q[b].to⟩] else [])) := Lib.hid (by rw [take_at hxb, row_snoc])
          generalize q[b] = sb at *
          obtain ⟨tf, tt⟩ := sb
          simp only at p0 p1 q0 q1 HTb
          have i1 : (0 : Int) ≤ (a : Int) := by omega
          have i2 : (a : Int) < (np : Int) := by omega
          have i3 : (0 : Int) ≤ (b : Int) := by omega
          have i4 : (b : Int) < (nb : Int) := by omega
          by_cases hE : st = tf
          · have e1 : (st == tf) = true := by simpa using hE
            go_wp2_with fail
            go_quiet (fail)
            have HB2 := Lib.hid (below_drewN HB1.out nq)
            have HO2 := Lib.hid (HO1.out.drewN nq)
            have HKp : Hid (∀ V, Below w4.heap.size w4 V → V.cell? ⟨gp, offp + a * 2, none⟩ = some (.int .i64 sf) ∧ V.cell? ⟨gq, offq + b * 2 + 1, none⟩ = some (.int .i64 tt)) := Lib.hid (fun V hV => by
              refine ⟨?_, ?_⟩
              · obtain ⟨b2, off2, e, d0, d1⟩ := HPa.out V hV
                injection e with e
                injection e with e1 e2 _
                subst e1
                subst e2
                exact d0
              · obtain ⟨b2, off2, e, d0, d1⟩ := HQb.out V hV
                injection e with e
                injection e with e1 e2 _
                subst e1
                subst e2
                exact d1)
            generalize World.drewN wr nq = W2 at *
            have HTc := Lib.hid (HTb.out.trans (by rw [if_pos hE]))
            have hlr : (cmpF (p.take a) q ++ rowF ⟨sf, st⟩ (q.take b)).length ≤ 100000 := by
              have h1 := row_len ⟨sf, st⟩ (q.take b)
              rw [List.length_take] at h1
              rw [List.length_append]
              omega
            have HAp : Hid (cmpF (p.take a) q ++ rowF ⟨sf, st⟩ (q.take (b + 1)) = (cmpF (p.take a) q ++ rowF ⟨sf, st⟩ (q.take b)) ++ [⟨sf, tt⟩]) := Lib.hid (by rw [HTc.out, List.append_assoc])
            clear p0 p1 q0 q1 HO1 HB1 HTb HTc
            generalize cmpF (p.take a) q ++ rowF ⟨sf, st⟩ (q.take b) = dn at *
            have HOw : Hid (W2.ownsRow w4.heap.size tSp 2 u16 dn.length (flatK spC dn)) := HO2
            obtain ⟨p0, q1⟩ := HKp.out W2 HB2.out
            have hsz := HB2.out.size
            obtain ⟨i0, hi0, hz0, hz1, hz2⟩ := info_parts info_sp
            clear HO2
            go_wp2_with fail
            go_region_held3 (fun V => V.cell? ⟨gp, offp + a * 2, none⟩ = some (.int .i64 sf) ∧ V.cell? ⟨gq, offq + b * 2 + 1, none⟩ = some (.int .i64 tt))
              (first | go_keep | exact HKp.out _ HBq.out)
              ((refine step_append_lies _ (by rfl) (.tmp 62) (.tmp 74) tSps (by rfl) w4.heap.size tSp i0 _ 2 16 Try.underlying36 hi0 hz0 hz1 hz2 rfl (by omega) u16 dn.length (flatK spC dn) (by rfl) ((HOw.out.alloc _).drew) ⟨W2.heap.size, 0, none⟩ 1 1 (spC ⟨sf, tt⟩) (by rfl) (by rfl) (World.news_of_block (cs := #[.int .i64 sf, .int .i64 tt]) (t := tSp) (fr := (0, 0)) (heap_alloc_new W2 _)) (one_sp _) (by omega) (by unfold maxLen; omega) (by omega) (by simp; omega) (W2.heap.size + 1) (by simp) ?_; intro gg cap w5 ho3 hg3 hat hlt; have HBq := Lib.hid (((HB2.out.alloc hsz (.cells #[.int .i64 sf, .int .i64 tt] tSp)).drew).grown hg3 (by simp; omega) (fun i hi => (HOw.out.lt i hi).1)); have HO3 : Hid (OwnS w4.heap.size w5 (.slice (some ⟨gg, 0, none⟩) (dn.length + 1) cap) (dn ++ [⟨sf, tt⟩])) := Lib.hid (by unfold OwnS; rw [List.length_append, List.length_singleton, flatK_snoc]; exact ho3); clear ho3 hg3 hat hlt))
            go_wp2_with fail
            go_roundw
            case rel => exact ⟨b + 1, _, rfl, by omega, by go_num, Lib.hid (by rw [HAp.out]; exact HO3.out), HBq⟩
            case measure => simp [intOf]; omega
          · have e1 : (st == tf) = false := by simpa using hE
            have HTc := Lib.hid (HTb.out.trans (by rw [if_neg hE, List.append_nil]))
            go_wp2_with fail
            go_quiet (fail)
            go_wp2_with fail
            go_roundw
            case rel => exact ⟨b + 1, _, rfl, by omega, by go_num, Lib.hid (by rw [HTc.out]; exact HO1.out.drewN _), Lib.hid (below_drewN HB1.out _)⟩
            case measure => simp [intOf]; omega
        · have db : decide (b < nb) = false := decide_eq_false hlt1
          obtain rfl : b = nb := by omega
          have HOn : Hid (OwnS w4.heap.size wr u16 (cmpF (p.take (a + 1)) q)) := Lib.hid (by
            rw [HTk.out, cmp_snoc]
            have := HO1.out
            rw [List.take_of_length_le (l := q) (by rw [HNq.out]; exact Nat.le_refl _)] at this
            exact this)
          go_wp2_with fail
          go_roundw
          case rel => exact ⟨a + 1, _, rfl, by omega, by go_num, HOn, HB1⟩
          case measure => simp [intOf]; omega
    · have dk : decide (a < np) = false := decide_eq_false hlt
      obtain rfl : a = np := by omega
      have HR := Lib.hid (HMd.out _ wr (by
        have := HO.out.rd
        rw [List.take_of_length_le (l := p) (by rw [HNp.out]; exact Nat.le_refl _)] at this
        exact this))
      go_wp2_with fail
      refine HR.out.mono ?_
      rintro e w7 ⟨v7, rfl, ho7, hb7⟩
      have HO7 := Lib.hid ho7
      have HB7 := Lib.hid (HB.out.trans (hb7.mono HB.out.size))
      clear ho7 hb7
      go_wp2_with fail
      go_ret2
      have h4 := HB4.out.size
      have h5 := HB.out.size
      exact ⟨v7, rfl, HO7.out.base (by omega), HB4.out.trans (HB7.out.mono h4)⟩
set_option maxRecDepth 100000 in
set_option maxHeartbeats 2000000 in
theorem ComposeR_any (vx vy : Value) (x y : List Ch) (m k n : Int) (w : World) (hx : RdC w vx x) (hxl : x.length ≤ 1000000) (hy : RdC w vy y) (hyl : y.length ≤ 1000000) :
    Calls Try.prog 25 #[vx, vy, .int .i64 m, .int .i64 k, .int .i64 n] w (CmPost x y m k n w) := by
  by_cases h1 : chkF x m k = 0
  · by_cases h2 : chkF y k n = 0
    · obtain ⟨hm, hk, okx⟩ := chkF_zero' h1
      obtain ⟨_, hn, oky⟩ := chkF_zero' h2
      have hE : cmE x y m k n = 0 := by unfold cmE; rw [if_pos h1, h2]
      exact (ComposeR_ok vx vy x y m k n w hx hxl hy hyl hm hk hn okx oky).mono fun e w' ⟨v, a, b, c⟩ => ⟨v, by rw [hE, a], fun _ => b, fun h => absurd hE h, c⟩
    · have hE : cmE x y m k n = 80 := by
        unfold cmE
        rw [if_pos h1]
        exact chkF_no (fun hh => h2 (chkF_ok hh.1 hh.2.1 hh.2.2))
      have h3 : chkF y k n = 80 := chkF_no (fun hh => h2 (chkF_ok hh.1 hh.2.1 hh.2.2))
      obtain ⟨Ax, cx, rfl⟩ := hx.form
      obtain ⟨Ay, cy, rfl⟩ := hy.form
      have HCx := Lib.hid (CheckR_any _ x m k w hx (by omega))
      have HCy := Lib.hid (fun wq (hq : Below w.heap.size w wq) => CheckR_any _ y k n wq (hy.below hq) (by omega))
      unfold CkPost at HCx HCy
      unfold CmPost
      rw [hE]
      rw [h1] at HCx
      rw [h3] at HCy
      clear hx hy h1 h2 h3 hE
      generalize x.length = Nx at *
      generalize y.length = Ny at *
      go_enter Try.func25, Try.ntmps25
      go_wp2_with (first
        | (go_at_call 15; refine HCx.out.mono ?_; rintro e w1 ⟨rfl, hb1⟩; have HB1 := Lib.hid hb1; clear hb1 HCx)
        | (go_at_call 15; refine (HCy.out _ HB1.out).mono ?_; rintro e w2 ⟨rfl, hb2⟩; have HB2 := Lib.hid (HB1.out.trans (hb2.mono HB1.out.size)); clear hb2 HCy HB1))
      go_ret2
      exact ⟨_, rfl, fun h => absurd h (by decide), fun _ => rfl, HB2.out⟩
  · have hE : cmE x y m k n = 80 := by
      unfold cmE
      rw [if_neg h1]
      exact chkF_no (fun hh => h1 (chkF_ok hh.1 hh.2.1 hh.2.2))
    have h3 : chkF x m k = 80 := chkF_no (fun hh => h1 (chkF_ok hh.1 hh.2.1 hh.2.2))
    obtain ⟨Ax, cx, rfl⟩ := hx.form
    obtain ⟨Ay, cy, rfl⟩ := hy.form
    have HCx := Lib.hid (CheckR_any _ x m k w hx (by omega))
    unfold CkPost at HCx
    unfold CmPost
    rw [hE]
    rw [h3] at HCx
    clear hx hy h1 h3 hE
    generalize x.length = Nx at *
    generalize y.length = Ny at *
    go_enter Try.func25, Try.ntmps25
    go_wp2_with (go_at_call 15; refine HCx.out.mono ?_; rintro e w1 ⟨rfl, hb1⟩; have HB1 := Lib.hid hb1; clear hb1 HCx)
    go_ret2
    exact ⟨_, rfl, fun h => absurd h (by decide), fun _ => rfl, HB1.out⟩
/-- Compose, as a reader sees it. -/
noncomputable def cmR (x y : List Ch) (m k n : Int) : List Ch := if cmE x y m k n = 0 then cmL x y m k n else []
def CmRd (x y : List Ch) (m k n : Int) (w : World) (e : Ending) (w' : World) : Prop := ∃ v, e = .returned (.tuple #[v, .int .i64 (cmE x y m k n)]) ∧ RdC w' v (cmR x y m k n) ∧ Below w.heap.size w w'
theorem CmPost.rd {x y : List Ch} {m k n : Int} {w : World} {e : Ending} {w' : World} (h : CmPost x y m k n w e w') : CmRd x y m k n w e w' := by
  obtain ⟨v, h1, h2, h3, h4⟩ := h
  refine ⟨v, h1, ?_, h4⟩
  unfold cmR
  by_cases hE : cmE x y m k n = 0
  · rw [if_pos hE]; exact (h2 hE).rd
  · rw [if_neg hE, h3 hE]; exact (OwnC.nil 0 w').rd
theorem cmR_len (x y : List Ch) (m k n : Int) : (cmR x y m k n).length ≤ 5000 := by
  unfold cmR
  by_cases hE : cmE x y m k n = 0
  · rw [if_pos hE]
    unfold cmE at hE
    by_cases h1 : chkF x m k = 0
    · rw [if_pos h1] at hE
      obtain ⟨hm, hk, okx⟩ := chkF_zero' h1
      obtain ⟨_, hn, oky⟩ := chkF_zero' hE
      have h2 := frF_len m n (cmpF (mtF m 0 0 x) (mtF k 0 0 y)) 0 0
      have h3 := cmp_pre_len (mt_okp y true 0 0 hk.1 (fun _ => rfl) oky) (mtF m 0 0 x)
      have h4 := mt_small hm hk okx
      unfold cmL
      omega
    · rw [if_neg h1] at hE; exact absurd hE h1
  · rw [if_neg hE]; exact Nat.zero_le _
end Sc
end Go.Proofs.Ytfbpdidnlbffhaa

/- Facts; each states its conditions. -/
import Derived.Test.YtjecfmbecgpbmaaGreatDoorSliProg
import Derived.Test.YtjecfmbecgpbmaaGreatDoorScrFitR
import Derived.Laws.AppendOwnNone
import Derived.Lib.SliceRun
import Derived.Deep.LoopGhost
namespace Go.Proofs.YtjecfmbecgpbmaaGreatDoor
section
namespace Cm
end Cm
namespace Sc
end Sc
open Go.RowKit
namespace Sl
open Cm Sc
theorem changed_pure (c : Ch) (va vb : Value) (w : World) (hp : Pure c) (hb : ChN c) :
 Calls Tryz.prog 151 #[.agg #[.int .i64 c.old, .int .i64 c.oldLen, .int .i64 c.new, .int .i64 c.newLen], va, vb] w (ChPost (if c.newLen = 0 then va else vb) (frC c) (frC c + lnC c) true w) := by
 obtain ⟨⟨a0, a1⟩, ⟨b0, b1⟩, ⟨c0, c1⟩, d0, d1⟩ := hb
 by_cases h : c.newLen = 0
 · have e : frC c = c.old ∧ lnC c = c.oldLen := by unfold frC lnC; exact ⟨if_pos h, if_pos h⟩
   rw [e.1, e.2, if_pos h]
   exact changed_rem _ _ _ _ va vb w h ⟨a0, by omega⟩ ⟨b0, by omega⟩
 · have e : frC c = c.new ∧ lnC c = c.newLen := by unfold frC lnC; exact ⟨if_neg h, if_neg h⟩
   rw [e.1, e.2, if_neg h]
   exact changed_add _ _ _ _ va vb w (hp.resolve_left h) h ⟨c0, by omega⟩ ⟨d0, by omega⟩
theorem upR_not {a b : List Int} {c : Ch} (h : ¬ Pure c) (L : Nat) : upR a b c L = 0 := upR_F (.inl (by unfold upB; exact decide_eq_false (fun h2 => h h2.1)))
theorem dnR_not {a b : List Int} {c : Ch} (h : ¬ Pure c) (L : Nat) : dnR a b c L = 0 := dnR_F (.inl (by unfold dnB; exact decide_eq_false (fun h2 => h h2.1)))
def RmPost (a b : List Int) (l : List Ch) (k : Nat) (c : Ch) (w : World) (e : Ending) (w' : World) : Prop :=
 e = .returned (.tuple #[.int .i64 (upR a b c (c.old - prE l k).toNat : Nat), .int .i64 (dnR a b c (lowD a.length (l.drop (k + 1)) c) : Nat)]) ∧ Below w.heap.size w w'
set_option maxRecDepth 100000 in
set_option maxHeartbeats 4000000 in
theorem room_no (v : Value) (l : List Ch) (va vb : Value) (a b : List Int) (k : Nat) (w : World) (h : RdC w v l) (hk : k < l.length) (hp : ¬ Pure l[k]) :
 Calls Tryz.prog 114 #[v, va, vb, .int .i64 (k : Int)] w (RmPost a b l k l[k] w) := by
 unfold RmPost
 rw [upR_not hp, dnR_not hp]
 obtain ⟨A, cp, rfl⟩ := h.form
 obtain ⟨b, off, rfl, c0, c1, c2, c3⟩ := RdC_at h k hk
 clear h
 have hp2 : l[k].oldLen ≠ 0 ∧ l[k].newLen ≠ 0 := ⟨fun e => hp (.inr e), fun e => hp (.inl e)⟩
 clear hp
 generalize l[k] = c at *
 obtain ⟨o, ol, nw, nl⟩ := c
 simp only at c0 c1 c2 c3 hp2
 obtain ⟨n1, n2⟩ := hp2
 have HN := Lib.hid (And.intro n1 n2)
 clear n1 n2
 generalize l.length = N at *
 have q1 : (0 : Int) ≤ (k : Int) := by omega
 have q2 : (k : Int) < (N : Int) := by omega
 go_enter Tryz.func114, Tryz.ntmps114
 go_wp2_with (go_at_call 151; refine (changed_no _ _ _ _ _ _ _ HN.out.1 HN.out.2).mono ?_; rintro e w1 ⟨rfl, hb1⟩; have HB1 := Lib.hid hb1; clear hb1)
 go_ret2
 exact ⟨rfl, (HB1.out.alloc HB1.out.size _)⟩
theorem gI_at {T : List Int} {i : Nat} (h : i < T.length) : gI T (i : Int) = T[i] := by
 unfold gI
 rw [Int.toNat_natCast, List.getD_eq_getElem?_getD, List.getElem?_eq_getElem h, Option.getD_some]
theorem beq_dec (x y : Int) : decide (x = y) = (x == y) := by
 by_cases h : x = y
 · rw [decide_eq_true h, beq_iff_eq.2 h]
 · rw [decide_eq_false h, beq_eq_false_iff_ne.2 h]
theorem upB_at {a b : List Int} {c : Ch} (hp : Pure c) {f e u : Nat} (hf : frC c = f) (he : frC c + lnC c = e) (hu : u + 1 ≤ f) (hfe : f ≤ e) (h1 : e - 1 - u < (txt a b c).length) (h2 : f - 1 - u < (txt a b c).length) :
 upB a b (sh c (-(u : Int))) = ((txt a b c)[e - 1 - u] == (txt a b c)[f - 1 - u]) := by
 unfold upB
 have e0 : Pure (sh c (-(u : Int))) := hp
 have e1 : txt a b (sh c (-(u : Int))) = txt a b c := rfl
 have e2 : frC (sh c (-(u : Int))) = frC c - u := by unfold frC sh; simp only; split <;> omega
 have e3 : lnC (sh c (-(u : Int))) = lnC c := rfl
 rw [e1, e2, e3, show frC c - (u : Int) + lnC c - 1 = ((e - 1 - u : Nat) : Int) from by omega, show frC c - (u : Int) - 1 = ((f - 1 - u : Nat) : Int) from by omega, gI_at h1, gI_at h2, ← beq_dec]
 exact decide_eq_decide.2 ⟨fun h => h.2, fun h => ⟨e0, h⟩⟩
theorem dnB_at {a b : List Int} {c : Ch} (hp : Pure c) {f e d : Nat} (hf : frC c = f) (he : frC c + lnC c = e) (h1 : f + d < (txt a b c).length) (h2 : e + d < (txt a b c).length) :
 dnB a b (sh c (d : Int)) = ((txt a b c)[f + d] == (txt a b c)[e + d]) := by
 unfold dnB
 have e0 : Pure (sh c (d : Int)) := hp
 have e1 : txt a b (sh c (d : Int)) = txt a b c := rfl
 have e2 : frC (sh c (d : Int)) = frC c + d := by unfold frC sh; simp only; split <;> omega
 have e3 : lnC (sh c (d : Int)) = lnC c := rfl
 rw [e1, e2, e3, show frC c + (d : Int) + lnC c = ((e + d : Nat) : Int) from by omega, show frC c + (d : Int) = ((f + d : Nat) : Int) from by omega, gI_at h1, gI_at h2, ← beq_dec]
 exact decide_eq_decide.2 ⟨fun h => h.2, fun h => ⟨e0, h⟩⟩
theorem up_step {a b : List Int} {c : Ch} {u ab U : Nat} (h : u + upR a b (sh c (-(u : Int))) (ab - u) = U) (hB : upB a b (sh c (-(u : Int))) = true) (hu : u < ab) : (u + 1) + upR a b (sh c (-((u + 1 : Nat) : Int))) (ab - (u + 1)) = U := by
 rw [upR_T hB (by omega), sh_sh, show -(u : Int) + -1 = -((u + 1 : Nat) : Int) from by omega, show ab - u - 1 = ab - (u + 1) from by omega] at h
 omega
theorem up_stop {a b : List Int} {c : Ch} {u ab U : Nat} (h : u + upR a b (sh c (-(u : Int))) (ab - u) = U) (hB : upB a b (sh c (-(u : Int))) = false ∨ ab ≤ u) : U = u := by
 rw [upR_F (hB.imp id (fun h => by omega))] at h
 omega
theorem dn_step {a b : List Int} {c : Ch} {u ab U : Nat} (h : u + dnR a b (sh c (u : Int)) (ab - u) = U) (hB : dnB a b (sh c (u : Int)) = true) (hu : u < ab) : (u + 1) + dnR a b (sh c ((u + 1 : Nat) : Int)) (ab - (u + 1)) = U := by
 rw [dnR_T hB (by omega), sh_sh, show (u : Int) + 1 = ((u + 1 : Nat) : Int) from by omega, show ab - u - 1 = ab - (u + 1) from by omega] at h
 omega
theorem dn_stop {a b : List Int} {c : Ch} {u ab U : Nat} (h : u + dnR a b (sh c (u : Int)) (ab - u) = U) (hB : dnB a b (sh c (u : Int)) = false ∨ ab ≤ u) : U = u := by
 rw [dnR_F (hB.imp id (fun h => by omega))] at h
 omega
set_option maxRecDepth 100000 in
set_option maxHeartbeats 4000000 in
theorem room_pure (v : Value) (l : List Ch) (va vb : Value) (a b : List Int) (k : Nat) (w : World) (h : RdC w v l) (hl : l.length ≤ 1000000) (hk : k < l.length) (ha : RdV w va (intsV a)) (hb : RdV w vb (intsV b)) (hla : a.length ≤ 4096) (hlb : b.length ≤ 4096) (hf : FitL a b true 0 0 l) (hp : Pure l[k]) :
 Calls Tryz.prog 114 #[v, va, vb, .int .i64 (k : Int)] w (RmPost a b l k l[k] w) := by
 have hN := ok_chN (show inI (a.length : Int) from ⟨by omega, by omega⟩) (show inI (b.length : Int) from ⟨by omega, by omega⟩) hf.1
 have hat := fit_at hf k hk
 have HFr := Lib.hid (fun wq (hq : Below w.heap.size w wq) => free_any v l a.length k wq (h.below hq) hl hk hN ⟨by omega, by omega⟩)
 have HCh := Lib.hid (changed_pure l[k] va vb w hp (hN _ (List.getElem_mem hk)))
 obtain ⟨A, cp, rfl⟩ := h.form
 obtain ⟨bl, off, rfl, c0, c1, c2, c3⟩ := RdC_at h k hk
 obtain ⟨Aa, ca, rfl⟩ := ha.form
 obtain ⟨Ab, cb, rfl⟩ := hb.form
 rw [intsV_len] at ha hb HCh ⊢
 rw [intsV_len] at HCh ⊢
 have HT : Hid (∃ At ct n, (if l[k].newLen = 0 then Value.slice Aa a.length ca else Value.slice Ab b.length cb) = .slice At n ct ∧ n = (txt a b l[k]).length ∧ n ≤ 4096 ∧ ∀ wq, Below w.heap.size w wq → RdV wq (.slice At n ct) (intsV (txt a b l[k]))) := Lib.hid (by
  unfold txt
  by_cases hz : l[k].newLen = 0
  · simp only [if_pos hz]; exact ⟨_, _, _, rfl, rfl, hla, fun wq hq => ha.below hq⟩
  · simp only [if_neg hz]; exact ⟨_, _, _, rfl, rfl, hlb, fun wq hq => hb.below hq⟩)
 obtain ⟨At, ct, n, hv, hn, hn2, hT⟩ := HT.out
 rw [hv] at HCh
 have HTx := Lib.hid hT
 clear hT HT hv ha hb
 obtain ⟨o0, o1, n0, n1, om, nm, ne, up0, up, upN, up00, upNN, dn, dnM, dnN, dnE, dnL⟩ := hat
 have hfe : 0 ≤ frC l[k] ∧ 0 ≤ lnC l[k] ∧ l[k].old - prE l k ≤ frC l[k] ∧ frC l[k] + lnC l[k] + (topE a.length (l.drop (k + 1)) - l[k].old - l[k].oldLen) ≤ (n : Int) := by
  rw [hn]
  unfold frC lnC txt
  split <;> exact ⟨by omega, by omega, by omega, by omega⟩
 have hab : 0 ≤ l[k].old - prE l k := by omega
 have hbe : 0 ≤ topE a.length (l.drop (k + 1)) - l[k].old - l[k].oldLen := by omega
 obtain ⟨U, hU⟩ : ∃ U, upR a b l[k] (l[k].old - prE l k).toNat = U := ⟨_, rfl⟩
 obtain ⟨D, hD⟩ : ∃ D, dnR a b l[k] (lowD a.length (l.drop (k + 1)) l[k]) = D := ⟨_, rfl⟩
 unfold RmPost
 rw [hU, hD]
 unfold lowD at hD
 rw [show topE (a.length : Int) (l.drop (k + 1)) - (l[k].old + l[k].oldLen) = topE (a.length : Int) (l.drop (k + 1)) - l[k].old - l[k].oldLen from by omega] at hD
 clear up0 up upN up00 upNN dn dnM dnN dnE dnL ne om nm hf h hN n0 n1 o0 o1
 generalize topE (a.length : Int) (l.drop (k + 1)) - l[k].old - l[k].oldLen = be' at *
 generalize l[k].old - prE l k = ab' at *
 obtain ⟨ab, rfl⟩ : ∃ ab : Nat, ab' = (ab : Int) := ⟨ab'.toNat, by omega⟩
 obtain ⟨be, rfl⟩ : ∃ be : Nat, be' = (be : Int) := ⟨be'.toNat, by omega⟩
 rw [Int.toNat_natCast] at hU hD
 have HPu := Lib.hid hp
 have HNt := Lib.hid hn
 clear hp hn
 obtain ⟨f, hf⟩ : ∃ f : Nat, frC l[k] = (f : Int) := ⟨(frC l[k]).toNat, by omega⟩
 obtain ⟨g, hg⟩ : ∃ g : Nat, frC l[k] + lnC l[k] = (g : Int) := ⟨(frC l[k] + lnC l[k]).toNat, by omega⟩
 have HUB : Hid (∀ u : Nat, u + 1 ≤ f → ∀ (h1 : g - 1 - u < (txt a b l[k]).length) (h2 : f - 1 - u < (txt a b l[k]).length), upB a b (sh l[k] (-(u : Int))) = ((txt a b l[k])[g - 1 - u] == (txt a b l[k])[f - 1 - u])) := Lib.hid (fun u hu h1 h2 => upB_at HPu.out hf hg hu (by omega) h1 h2)
 have HDB : Hid (∀ d : Nat, ∀ (h1 : f + d < (txt a b l[k]).length) (h2 : g + d < (txt a b l[k]).length), dnB a b (sh l[k] (d : Int)) = ((txt a b l[k])[f + d] == (txt a b l[k])[g + d])) := Lib.hid (fun d h1 h2 => dnB_at HPu.out hf hg h1 h2)
 have hfg : f ≤ g ∧ ab ≤ f ∧ g + be ≤ n := ⟨by omega, by omega, by omega⟩
 rw [hg, hf] at HCh
 have HU0 : Hid (0 + upR a b (sh l[k] (-((0 : Nat) : Int))) (ab - 0) = U) := Lib.hid (by rw [Nat.zero_add, Nat.sub_zero, show (-((0 : Nat) : Int)) = 0 from rfl, sh_zero]; exact hU)
 have HD0 : Hid (0 + dnR a b (sh l[k] ((0 : Nat) : Int)) (be - 0) = D) := Lib.hid (by rw [Nat.zero_add, Nat.sub_zero, show ((0 : Nat) : Int) = 0 from rfl, sh_zero]; exact hD)
 obtain ⟨hfg1, hfg2, hfg3⟩ := hfg
 clear hU hD hab hbe hfe hf hg HPu
 generalize txt a b l[k] = T at *
 generalize l[k] = c at *
 obtain ⟨o, ol, nw, nl⟩ := c
 simp only at c0 c1 c2 c3
 generalize l.length = N at *
 have q1 : (0 : Int) ≤ (k : Int) := by omega
 have q2 : (k : Int) < (N : Int) := by omega
 go_enter Tryz.func114, Tryz.ntmps114
 go_wp2_with (first
  | (go_at_call 151; refine HCh.out.mono ?_; rintro e w1 ⟨rfl, hb1⟩; have HB1 := Lib.hid hb1; clear hb1 HCh)
  | (go_at_call 152; refine (HFr.out _ (HB1.out.alloc HB1.out.size _)).mono ?_; rintro e w3 ⟨rfl, q, rfl⟩))
 have HB2 := Lib.hid (below_drewN (HB1.out.alloc HB1.out.size (.cells #[.int .i64 (f : Int), .int .i64 (g : Int)] 86)) q)
 have g0 : ((w1.alloc (.cells #[.int .i64 (f : Int), .int .i64 (g : Int)] 86)).drewN q).cell? ⟨w1.heap.size, 0, none⟩ = some (.int .i64 (f : Int)) := by simp
 have g1 : ((w1.alloc (.cells #[.int .i64 (f : Int), .int .i64 (g : Int)] 86)).drewN q).cell? ⟨w1.heap.size, 1, none⟩ = some (.int .i64 (g : Int)) := by simp
 generalize (w1.alloc (.cells #[.int .i64 (f : Int), .int .i64 (g : Int)] 86)).drewN q = w2 at *
 generalize w1.heap.size = G at *
 have HTc := Lib.hid (HTx.out w2 HB2.out)
 clear HB1 HFr HTx c0 c1 c2 c3
 go_loopw [15] (fun u' wr => ∃ u : Nat, u' = .int .i64 (u : Int) ∧ u ≤ ab ∧ Hid (u + upR a b (sh ⟨o, ol, nw, nl⟩ (-(u : Int))) (ab - u) = U) ∧ ∃ q, wr = w2.drewN q) (fun u' _ => ab - (intOf u').toNat)
 case atStart => exact ⟨0, rfl, Nat.zero_le _, HU0, 0, rfl⟩
 case round =>
  obtain ⟨u, rfl, hu, HE, q, rfl⟩ := hrel
  clear HU0
  by_cases hlt : u < ab
  · have p1 : g - 1 - u < T.length := by rw [← HNt.out]; omega
    have p2 : f - 1 - u < T.length := by rw [← HNt.out]; omega
    obtain ⟨bt, ot, rfl, x1⟩ := RdV_at HTc.out (g - 1 - u) p1
    obtain ⟨bt', ot', e, x2⟩ := RdV_at HTc.out (f - 1 - u) p2
    cases e
    have hUB := HUB.out u (by omega) p1 p2
    have HSt := Lib.hid (fun hB => up_step HE.out hB hlt)
    have HSp := Lib.hid (fun hB => up_stop HE.out (.inl hB))
    generalize T[g - 1 - u] = x at x1 hUB
    generalize T[f - 1 - u] = y at x2 hUB
    have dl : decide ((u : Int) < (ab : Int)) = true := decide_eq_true (by omega)
    have dl2 : decide (u < ab) = true := decide_eq_true hlt
    have i1 : (u : Int) < (ab : Int) := by omega
    clear p1 p2 HE
    by_cases hx : x = y
    · have hz : (x == y) = true := beq_iff_eq.2 hx
      have HN1 := Lib.hid (HSt.out (by rw [hUB, hz]))
      clear HSt HSp hUB hx
      go_wp2_with fail
      go_quiet (fail)
      go_wp2_with fail
      go_roundw
      case rel => exact ⟨u + 1, by go_num, by omega, HN1, _, rfl⟩
      case measure => simp [intOf]; omega
    · have hz : (x == y) = false := beq_eq_false_iff_ne.2 hx
      have HUf := Lib.hid (HSp.out (by rw [hUB, hz]))
      clear HSt HSp hUB hx
      go_wp2_with fail
      go_quiet (fail)
      go_wp2_with fail
      go_loopw [16] (fun d' wr => ∃ d : Nat, d' = .int .i64 (d : Int) ∧ d ≤ be ∧ Hid (d + dnR a b (sh ⟨o, ol, nw, nl⟩ (d : Int)) (be - d) = D) ∧ ∃ q, wr = w2.drewN q) (fun d' _ => be - (intOf d').toNat)
      case atStart => exact ⟨0, rfl, Nat.zero_le _, HD0, _, World.drewN_drewN _ _ _⟩
      case round =>
       obtain ⟨d, rfl, hd, HE, q, rfl⟩ := hrel
       clear HD0
       by_cases hlt : d < be
       · have p1 : f + d < T.length := by rw [← HNt.out]; omega
         have p2 : g + d < T.length := by rw [← HNt.out]; omega
         obtain ⟨bt, ot, e, x1⟩ := RdV_at HTc.out (f + d) p1
         cases e
         obtain ⟨bt', ot', e, x2⟩ := RdV_at HTc.out (g + d) p2
         cases e
         have hDB := HDB.out d p1 p2
         have HSt := Lib.hid (fun hB => dn_step HE.out hB hlt)
         have HSp := Lib.hid (fun hB => dn_stop HE.out (.inl hB))
         generalize T[f + d] = x at x1 hDB
         generalize T[g + d] = y at x2 hDB
         have dl : decide ((d : Int) < (be : Int)) = true := decide_eq_true (by omega)
         have dl2 : decide (d < be) = true := decide_eq_true hlt
         have i1 : (d : Int) < (be : Int) := by omega
         clear p1 p2 HE
         by_cases hx : x = y
         · have hz : (x == y) = true := beq_iff_eq.2 hx
           have HN1 := Lib.hid (HSt.out (by rw [hDB, hz]))
           clear HSt HSp hDB hx
           go_wp2_with fail
           go_quiet (fail)
           go_wp2_with fail
           go_roundw
           case rel => exact ⟨d + 1, by go_num, by omega, HN1, _, rfl⟩
           case measure => simp [intOf]; omega
         · have hz : (x == y) = false := beq_eq_false_iff_ne.2 hx
           have HN1 := Lib.hid (HSp.out (by rw [hDB, hz]))
           clear HSt HSp hDB hx
           go_wp2_with fail
           go_quiet (fail)
           go_wp2_with fail
           go_ret2
           exact ⟨by rw [HUf.out, HN1.out]; rfl, below_drewN (below_drewN HB2.out _) _⟩
       · have HN1 := Lib.hid (dn_stop HE.out (.inr (by omega)))
         have dl : decide ((d : Int) < (be : Int)) = false := decide_eq_false (by omega)
         have dl2 : decide (d < be) = false := decide_eq_false hlt
         clear HE
         go_wp2_with fail
         go_quiet (fail)
         go_wp2_with fail
         go_ret2
         exact ⟨by rw [HUf.out, HN1.out]; rfl, below_drewN (below_drewN HB2.out _) _⟩
  · have HUf := Lib.hid (up_stop HE.out (.inr (by omega)))
    have dl : decide ((u : Int) < (ab : Int)) = false := decide_eq_false (by omega)
    have dl2 : decide (u < ab) = false := decide_eq_false hlt
    clear HE
    go_wp2_with fail
    go_quiet (fail)
    go_wp2_with fail
    go_loopw [16] (fun d' wr => ∃ d : Nat, d' = .int .i64 (d : Int) ∧ d ≤ be ∧ Hid (d + dnR a b (sh ⟨o, ol, nw, nl⟩ (d : Int)) (be - d) = D) ∧ ∃ q, wr = w2.drewN q) (fun d' _ => be - (intOf d').toNat)
    case atStart => exact ⟨0, rfl, Nat.zero_le _, HD0, _, World.drewN_drewN _ _ _⟩
    case round =>
     obtain ⟨d, rfl, hd, HE, q, rfl⟩ := hrel
     clear HD0
     by_cases hlt : d < be
     · have p1 : f + d < T.length := by rw [← HNt.out]; omega
       have p2 : g + d < T.length := by rw [← HNt.out]; omega
       obtain ⟨bt, ot, e, x1⟩ := RdV_at HTc.out (f + d) p1
       subst e
       obtain ⟨bt', ot', e, x2⟩ := RdV_at HTc.out (g + d) p2
       cases e
       have hDB := HDB.out d p1 p2
       have HSt := Lib.hid (fun hB => dn_step HE.out hB hlt)
       have HSp := Lib.hid (fun hB => dn_stop HE.out (.inl hB))
       generalize T[f + d] = x at x1 hDB
       generalize T[g + d] = y at x2 hDB
       have dl : decide ((d : Int) < (be : Int)) = true := decide_eq_true (by omega)
       have dl2 : decide (d < be) = true := decide_eq_true hlt
       have i1 : (d : Int) < (be : Int) := by omega
       clear p1 p2 HE
       by_cases hx : x = y
       · have hz : (x == y) = true := beq_iff_eq.2 hx
         have HN1 := Lib.hid (HSt.out (by rw [hDB, hz]))
         clear HSt HSp hDB hx
         go_wp2_with fail
         go_quiet (fail)
         go_wp2_with fail
         go_roundw
         case rel => exact ⟨d + 1, by go_num, by omega, HN1, _, rfl⟩
         case measure => simp [intOf]; omega
       · have hz : (x == y) = false := beq_eq_false_iff_ne.2 hx
         have HN1 := Lib.hid (HSp.out (by rw [hDB, hz]))
         clear HSt HSp hDB hx
         go_wp2_with fail
         go_quiet (fail)
         go_wp2_with fail
         go_ret2
         exact ⟨by rw [HUf.out, HN1.out]; rfl, below_drewN (below_drewN HB2.out _) _⟩
     · have HN1 := Lib.hid (dn_stop HE.out (.inr (by omega)))
       have dl : decide ((d : Int) < (be : Int)) = false := decide_eq_false (by omega)
       have dl2 : decide (d < be) = false := decide_eq_false hlt
       clear HE
       go_wp2_with fail
       go_quiet (fail)
       go_wp2_with fail
       go_ret2
       exact ⟨by rw [HUf.out, HN1.out]; rfl, below_drewN (below_drewN HB2.out _) _⟩
theorem room_any (v : Value) (l : List Ch) (va vb : Value) (a b : List Int) (k : Nat) (w : World) (h : RdC w v l) (hl : l.length ≤ 1000000) (hk : k < l.length) (ha : RdV w va (intsV a)) (hb : RdV w vb (intsV b)) (hla : a.length ≤ 4096) (hlb : b.length ≤ 4096) (hf : FitL a b true 0 0 l) :
 Calls Tryz.prog 114 #[v, va, vb, .int .i64 (k : Int)] w (RmPost a b l k l[k] w) := by
 by_cases hp : Pure l[k]
 · exact room_pure v l va vb a b k w h hl hk ha hb hla hlb hf hp
 · exact room_no v l va vb a b k w h hk hp
end Sl
end
section
section
open Go.RowKit
namespace Sl
open Cm Sc
theorem flat_at {l : List Ch} {j : Nat} {y : Value} (h : (flatK chC l)[j]? = some y) : ∃ (hj : j / 4 < l.length) (hi : j % 4 < (chC l[j / 4]).length), y = (chC l[j / 4])[j % 4] := by
 have hlt : j < (flatK chC l).length := by
  rcases Nat.lt_or_ge j (flatK chC l).length with h1 | h1
  · exact h1
  · rw [List.getElem?_eq_none h1] at h; cases h
 rw [flatK_len chC_len] at hlt
 have hj : j / 4 < l.length := by omega
 have hi : j % 4 < 4 := Nat.mod_lt _ (by decide)
 refine ⟨hj, hi, ?_⟩
 have := flatK_get chC_len l (j / 4) hj (j % 4) hi
 rw [show j / 4 * 4 + j % 4 = j from by omega, h] at this
 rw [List.getElem?_eq_getElem (show j % 4 < (chC l[j / 4]).length from hi)] at this
 exact Option.some.inj this
theorem flat_one (l : List Ch) : ∀ u ∈ flatK chC l, u.oneCell' = true := by
 intro u hu
 unfold flatK at hu
 obtain ⟨c, _, hc⟩ := List.mem_flatMap.1 hu
 exact one_ch c u hc
theorem flatK_app (l xs : List Ch) : flatK chC (l ++ xs) = flatK chC l ++ flatK chC xs := by simp [flatK]
theorem app_all {ops : Array Oper} {rest : List Oper} {o : Oper} {a : Act} {Q : Exit → Act → World → Prop} {w : World} (hg : Region.wanted o (yielded ops a.tmps) = true) (s x : Operand)
 (ho : o.op = .call { callee := .builtin .append, args := #[s, x], argTypes := #[tChs, tChs] })
 (base : Nat) (l xs : List Ch) (v u : Value) (hs : a.eval s = v) (hown : OwnC base w v l)
 (hx : a.eval x = u) (hr : RdC w u xs) (hsz : l.length + xs.length ≤ 1000000) (hbase : base ≤ w.heap.size)
 (h : ∀ v' w', OwnC base w' v' (l ++ xs) → Below base w w' → wpList Tryz.prog ops Q rest (a.put o.dst v') w') :
 wpList Tryz.prog ops Q (o :: rest) a w := by
 obtain ⟨i0, hi0, hz0, hz1, hz2⟩ := info_parts info_ch
 obtain ⟨A, c, rfl, ⟨_, hnone⟩, hc⟩ := hr
 refine wpList_wanted hg fun K hK => ?_
 cases A with
 | none =>
   have h0 : xs = [] := by
    rcases Nat.eq_zero_or_pos xs.length with h1 | h1
    · exact List.eq_nil_of_length_eq_zero h1
    · obtain ⟨b, off, e, _⟩ := hc h1; cases e
   subst h0
   obtain rfl := hnone rfl
   have hrun := run_append_owned_none (P := Tryz.prog) (w := w) base tChs o.type tCh i0 4 Tryz.underlying77 hi0 v l.length (flatK chC l) hown
   unfold Oper.wp
   simp [execOp, ho, resolve, invoke, builtin, hs, hx, hrun, Result.andThen]
   exact hK _ _ (h v w (by rw [show l ++ [] = l from List.append_nil _]; exact hown) (Below.refl _ _))
 | some ad =>
   refine wp_append_own w s x _ ho base tCh i0 _ 4 32 Tryz.underlying77 hi0 hz0 hz1 hz2 rfl (by omega) v l.length (flatK chC l) hs hown ad xs.length c (flatK chC xs) hx (by rw [flatK_len chC_len, Nat.mul_comm]) (fun j y hy => ?_) (flat_one xs) (by unfold maxLen; omega) (by omega) hbase ?_
   · obtain ⟨hj, hi, rfl⟩ := flat_at hy
     obtain ⟨b, off, e, hcell⟩ := hc (by omega)
     cases e
     have he : (Addr.mk b off none).add j = ⟨b, off + j, none⟩ := by
      unfold Addr.add; split
      · rename_i h0; rw [h0]; rfl
      · rfl
     rw [he]
     have := hcell (j / 4) hj (j % 4) hi
     rw [show off + j / 4 * 4 + j % 4 = off + j from by omega] at this
     exact this
   · intro v' w' h1 h2 _
     refine hK _ _ (h v' w' ?_ ((Below.refl base w).grown h2 hbase (fun k hk => (World.ownsRow.lt hown k hk).1)))
     unfold OwnC
     rw [flatK_app, List.length_append]
     exact h1
theorem OwnC.empty (w : World) (base : Nat) (hb : base ≤ w.heap.size) : OwnC base (w.alloc (.cells #[] tCh)) (.slice (some ⟨w.heap.size, 0, none⟩) 0 0) [] :=
 ⟨rfl, .inr ⟨w.heap.size, 0, #[], rfl, hb, heap_new w _, Nat.le_refl _, Nat.zero_le _, rfl, rfl⟩⟩
set_option maxHeartbeats 1000000 in
theorem Clone_any (v : Value) (l : List Ch) (w : World) (h : RdC w v l) (hl : l.length ≤ 100000) :
 Calls Tryz.prog 113 #[v] w (NewC l w) := by
 obtain ⟨A, c, rfl, ⟨hle, hnone⟩, hc⟩ := h
 cases A with
 | none =>
   have h0 : l = [] := by
    rcases Nat.eq_zero_or_pos l.length with h1 | h1
    · exact List.eq_nil_of_length_eq_zero h1
    · obtain ⟨b, off, e, _⟩ := hc h1; cases e
   subst h0
   obtain rfl := hnone rfl
   clear hc hle hnone
   go_enter Tryz.func113, Tryz.ntmps113
   have hrn : ∀ w : World, Sem.run Tryz.prog (binOp .eql tChs (.slice none 0 0) (.slice none 0 0)) w = .ok (.bool true) w := fun w => Lib.run_eql_slice_nil w tChs tCh none 0 0 0 0 Tryz.underlying77
   go_wp2_with fail
   go_ret
   exact ⟨_, rfl, OwnC.nil _ _, Below.refl _ _⟩
 | some ad =>
   have HR : Hid (RdC w (.slice (some ad) l.length c) l) := Lib.hid ⟨_, _, rfl, ⟨hle, fun e => by cases e⟩, hc⟩
   clear hc hle hnone
   generalize hN : l.length = N at *
   have HN := Lib.hid hN
   clear hN
   go_enter Tryz.func113, Tryz.ntmps113
   have hrn : ∀ w : World, Sem.run Tryz.prog (binOp .eql tChs (.slice (some ad) N c) (.slice none 0 0)) w = .ok (.bool false) w := fun w => Lib.run_eql_slice_nil w tChs tCh (some ad) N c 0 0 Tryz.underlying77
   have HR2 := Lib.hid (HR.out.below ((Below.refl w.heap.size w).alloc (Nat.le_refl _) (.cells #[] tCh)))
   go_wp2_with (at_builtin; refine app_all rfl (.tmp 5) (.tmp 6) rfl w.heap.size [] l _ _ rfl (OwnC.empty w _ (Nat.le_refl _)) rfl HR2.out (by rw [HN.out]; simp; omega) (by simp) ?_; intro v3 w3 ho3 hb3; have HO3 := Lib.hid ho3; have HB3 := Lib.hid (((Below.refl w.heap.size w).alloc (Nat.le_refl _) (.cells #[] tCh)).trans hb3); clear ho3 hb3)
   go_ret
   exact ⟨_, rfl, HO3.out, HB3.out⟩
end Sl
end
section
open Go.RowKit
namespace Sl
open Cm Sc
open Classical in
theorem fits_iff {l : List Ch} {a b : List Int} : fitsB l a b = true ↔ inI a.length ∧ inI b.length ∧ FitL a b true 0 0 l := by
 constructor
 · intro h
   have h := of_decide_eq_true h
   obtain ⟨h1, h2, h3⟩ := chkF_zero h.1
   exact ⟨h1, h2, h3, h.2⟩
 · rintro ⟨h1, h2, h3, h4⟩
   exact fitsB_T (chkF_ok h1 h2 h3) h4
theorem fit_chN {l : List Ch} {a b : List Int} (h : FitL a b true 0 0 l) (h1 : a.length ≤ 4096) (h2 : b.length ≤ 4096) : ∀ c ∈ l, ChN c := ok_chN (show inI (a.length : Int) from ⟨by omega, by omega⟩) (show inI (b.length : Int) from ⟨by omega, by omega⟩) h.1
theorem chN_B {c : Ch} (h : ChN c) : ChB c := by
 obtain ⟨⟨a0, a1⟩, ⟨b0, b1⟩, ⟨c0, c1⟩, d0, d1⟩ := h
 exact ⟨⟨by omega, by omega⟩, ⟨by omega, by omega⟩, ⟨by omega, by omega⟩, ⟨by omega, by omega⟩⟩
theorem fit_true {l : List Ch} {a b : List Int} (h : FitL a b true 0 0 l) (h1 : a.length ≤ 4096) (h2 : b.length ≤ 4096) : fitsB l a b = true := fits_iff.2 ⟨⟨by omega, by omega⟩, ⟨by omega, by omega⟩, h⟩
theorem fit_few {l : List Ch} {a b : List Int} (h : FitL a b true 0 0 l) : l.length ≤ a.length + 1 := by
 have key : ∀ (l : List Ch) (f : Bool) (i j : Int), 0 ≤ i → FitL a b f i j l → (f = true → i = 0) → l = [] ∨ ((l.length : Int) + i ≤ a.length + (if f = true then 1 else 0)) := by
  intro l
  induction l with
  | nil => intro f i j _ _ _; exact .inl rfl
  | cons c l ih =>
    intro f i j hi hf h0
    obtain ⟨⟨⟨⟨a0, a1, a2⟩, ⟨b0, b1, b2⟩, ne⟩, h2, h3⟩, h4, h5⟩ := fit_cons.1 hf
    right
    have hp := fit_pos hf
    have hx : (if f = true then (1 : Int) else 0) + c.old - i ≥ 1 := by
     cases f with
     | true => have := h0 rfl; simp; omega
     | false => have := h3 rfl; simp; omega
    rcases ih false _ _ hp.1 h5 (fun h => by cases h) with rfl | h6
    · simp only [List.length_cons, List.length_nil]
      omega
    · simp only [Bool.false_eq_true, if_false] at h6
      simp only [List.length_cons]
      omega
 rcases key l true 0 0 (Int.le_refl _) h (fun _ => rfl) with rfl | h
 · simp
 · simp at h; omega
def midD (a b : List Int) (l : List Ch) (k : Nat) : List Ch := l.take k ++ downF a b a.length (l.drop k)
theorem midD_len (a b : List Int) {l : List Ch} {k : Nat} (h : k ≤ l.length) : (midD a b l k).length = l.length := by
 unfold midD
 rw [List.length_append, downF_len, List.length_take, List.length_drop]
 omega
theorem midD_all (a b : List Int) (l : List Ch) : midD a b l l.length = l := by
 unfold midD
 rw [List.take_length, List.drop_length]
 simp [downF]
theorem midD_zero (a b : List Int) (l : List Ch) : midD a b l 0 = downF a b a.length l := rfl
theorem midD_fit {a b : List Int} {l : List Ch} (h : FitL a b true 0 0 l) (k : Nat) : FitL a b true 0 0 (midD a b l k) := fit_mid k l true 0 0 h
theorem midD_drop (a b : List Int) {l : List Ch} {p : Nat} (h : p < l.length) : (midD a b l (p + 1)).drop (p + 1) = downF a b a.length (l.drop (p + 1)) := by
 unfold midD
 rw [List.drop_append, List.drop_eq_nil_of_le (by rw [List.length_take]; omega), List.nil_append, List.length_take, show p + 1 - min (p + 1) l.length = 0 from by omega]
 rfl
theorem midD_get (a b : List Int) {l : List Ch} {p : Nat} (h : p < l.length) (h' : p < (midD a b l (p + 1)).length) : (midD a b l (p + 1))[p] = l[p] := by
 have e : (midD a b l (p + 1))[p]? = some l[p] := by
  unfold midD
  rw [List.getElem?_append_left (by rw [List.length_take]; omega), List.getElem?_take, if_pos (Nat.lt_succ_self p), List.getElem?_eq_getElem h]
 rw [List.getElem?_eq_getElem h'] at e
 exact Option.some.inj e
theorem midD_step (a b : List Int) {l : List Ch} {p : Nat} (h : p < l.length) : (midD a b l (p + 1)).set p (sh l[p] (dnR a b l[p] (lowD a.length ((midD a b l (p + 1)).drop (p + 1)) l[p]) : Nat)) = midD a b l p := by
 rw [midD_drop a b h]
 unfold midD
 rw [List.set_append_left _ _ (by rw [List.length_take]; omega)]
 have e : l.drop p = l[p] :: l.drop (p + 1) := List.drop_eq_getElem_cons h
 rw [e]
 simp only [downF]
 have e2 : l.take (p + 1) = l.take p ++ [l[p]] := by rw [List.take_succ_eq_append_getElem h]
 rw [e2, List.set_append_right _ _ (by rw [List.length_take]; omega), List.length_take, show p - min p l.length = 0 from by omega]
 simp
end Sl
end
section
open Go.RowKit
namespace Sl
open Cm Sc
theorem put2 {base g N c : Nat} {w : World} {l : List Ch} (h : OwnC base w (.slice (some ⟨g, 0, none⟩) N c) l) (k : Nat) (hk : k < l.length) (d : Int) :
 OwnC base ((w.setCell ⟨g, k * 4, none⟩ (.int .i64 (l[k].old + d))).setCell ⟨g, k * 4 + 2, none⟩ (.int .i64 (l[k].new + d))) (.slice (some ⟨g, 0, none⟩) N c) (l.set k (sh l[k] d)) := by
 have h1 := h.put k hk 0 (by decide) (.int .i64 (l[k].old + d)) ⟨l[k].old + d, l[k].oldLen, l[k].new, l[k].newLen⟩ rfl
 have hk2 : k < (l.set k ⟨l[k].old + d, l[k].oldLen, l[k].new, l[k].newLen⟩).length := by rw [List.length_set]; exact hk
 have h2 := OwnC.put h1 k hk2 2 (by decide) (.int .i64 (l[k].new + d)) (sh l[k] d) (by rw [List.getElem_set_self]; rfl)
 rw [List.set_set] at h2
 exact h2
def DnPost (l : List Ch) (w : World) (e : Ending) (w' : World) : Prop := ∃ v, e = .returned (.tuple #[v, .int .i64 0]) ∧ OwnC w.heap.size w' v l ∧ Below w.heap.size w w'
set_option maxRecDepth 100000 in
set_option maxHeartbeats 4000000 in
theorem Down_any (v : Value) (l : List Ch) (va vb : Value) (a b : List Int) (w : World) (h : RdC w v l) (ha : RdV w va (intsV a)) (hb : RdV w vb (intsV b)) (hla : a.length ≤ 4096) (hlb : b.length ≤ 4096) (hf : FitL a b true 0 0 l) :
 Calls Tryz.prog 73 #[v, va, vb] w (DnPost (downF a b a.length l) w) := by
 have hfew := fit_few hf
 have HFit : Hid (∀ wq, Below w.heap.size w wq → Calls Tryz.prog 112 #[v, va, vb] wq fun e w' => e = .returned (.bool true) ∧ Below wq.heap.size wq w') := Lib.hid (fun wq hq =>
  (Fits_any v l va vb a b wq (h.below hq) (by omega) (fun c hc => chN_B (fit_chN hf hla hlb c hc)) (ha.below hq) (hb.below hq) (by omega) (by omega)).mono fun e w' ⟨h1, h2⟩ => ⟨by rw [h1, fit_true hf hla hlb], h2⟩)
 have HCl := Lib.hid (fun wq (hq : Below w.heap.size w wq) => Clone_any v l wq (h.below hq) (by omega))
 have HRm := Lib.hid (fun (v8 : Value) (k : Nat) (hk : k < l.length) (wq : World) (hq : Below w.heap.size w wq) (hr : RdC wq v8 (midD a b l (k + 1))) =>
  room_any v8 (midD a b l (k + 1)) va vb a b k wq hr (by rw [midD_len a b hk]; omega) (by rw [midD_len a b hk]; exact hk) (ha.below hq) (hb.below hq) hla hlb (midD_fit hf _))
 have HN := Lib.hid (fun k => fit_chN (midD_fit hf k) hla hlb)
 have HNo := Lib.hid (fit_chN hf hla hlb)
 obtain ⟨A, cp, rfl⟩ := h.form
 obtain ⟨Aa, ca, rfl⟩ := ha.form
 obtain ⟨Ab, cb, rfl⟩ := hb.form
 rw [intsV_len] at HFit HRm ⊢
 rw [intsV_len] at HFit HRm ⊢
 clear h ha hb hf
 obtain ⟨N, hNl⟩ : ∃ N, N = l.length := ⟨_, rfl⟩
 rw [← hNl] at HFit HCl hfew ⊢
 have HNl := Lib.hid hNl
 clear hNl
 go_enter Tryz.func73, Tryz.ntmps73
 go_wp2_with (first
  | (go_at_call 112; refine (HFit.out _ (Below.refl _ _)).mono ?_; rintro e w1 ⟨rfl, hb1⟩; have HB1 := Lib.hid hb1; clear hb1 HFit)
  | (go_at_call 113; refine (HCl.out _ HB1.out).mono ?_; rintro e w2 ⟨v8, rfl, ho2, hb2⟩; obtain ⟨A8, c8, hv8⟩ := ho2.rd.form; rw [← HNl.out] at hv8; subst hv8; have HO2 := Lib.hid (ho2.base HB1.out.size); have HB2 := Lib.hid (HB1.out.trans (hb2.mono HB1.out.size)); clear ho2 hb2 HCl))
 go_loopw [9] (fun k' wr => ∃ k : Nat, k ≤ N ∧ k' = .int .i64 ((k : Int) - 1) ∧ Hid (OwnC w.heap.size wr (.slice A8 N c8) (midD a b l k)) ∧ Hid (Below w.heap.size w wr)) (fun k' _ => (intOf k' + 1).toNat)
 case atStart => exact ⟨N, Nat.le_refl _, rfl, Lib.hid (by rw [HNl.out, midD_all]; rw [HNl.out] at HO2; exact HO2.out), HB2⟩
 case round =>
  obtain ⟨k, hk, rfl, HO, HB⟩ := hrel
  clear HO2 HB2
  by_cases h0 : 0 < k
  · obtain ⟨p, rfl⟩ : ∃ p, k = p + 1 := ⟨k - 1, by omega⟩
    have hpl : p < l.length := by rw [← HNl.out]; omega
    have hpX : p < (midD a b l (p + 1)).length := by rw [midD_len a b hpl]; exact hpl
    have hgp := midD_get a b hpl hpX
    have hst := midD_step a b hpl
    have HR1 := Lib.hid (HRm.out (.slice A8 N c8) p hpl wr HB.out HO.out.rd)
    obtain ⟨g, c8', e, hgb⟩ := HO.out.block (by omega)
    rw [midD_len a b hpl, ← HNl.out] at e
    injection e with e1 _ e2
    subst e1
    subst e2
    have hPut := fun (W : World) (hO : OwnC w.heap.size W (.slice (some ⟨g, 0, none⟩) N c8) (midD a b l (p + 1))) (d : Int) => put2 hO p hpX d
    have hCel := fun (W : World) (hO : OwnC w.heap.size W (.slice (some ⟨g, 0, none⟩) N c8) (midD a b l (p + 1))) => hO.cells p hpX
    unfold RmPost at HR1
    rw [hgp] at HR1 hPut
    simp only [hgp] at hPut hCel
    have hNo := HNo.out _ (List.getElem_mem hpl)
    have hmem : sh l[p] (dnR a b l[p] (lowD a.length ((midD a b l (p + 1)).drop (p + 1)) l[p]) : Nat) ∈ midD a b l p := by
     rw [← hst]; exact List.mem_set hpX _
    have hNn := HN.out p _ hmem
    clear hmem hpX hgp
    generalize dnR a b l[p] (lowD a.length ((midD a b l (p + 1)).drop (p + 1)) l[p]) = D at *
    generalize upR a b l[p] (l[p].old - prE (midD a b l (p + 1)) p).toNat = U at *
    have HPut : Hid (∀ W : World, OwnC w.heap.size W (.slice (some ⟨g, 0, none⟩) N c8) (midD a b l (p + 1)) → OwnC w.heap.size ((W.setCell ⟨g, p * 4, none⟩ (.int .i64 (l[p].old + (D : Int)))).setCell ⟨g, p * 4 + 2, none⟩ (.int .i64 (l[p].new + (D : Int)))) (.slice (some ⟨g, 0, none⟩) N c8) (midD a b l p)) := Lib.hid (fun W hO => by
     have := hPut W hO (D : Int)
     rw [hst] at this
     exact this)
    have HCel := Lib.hid hCel
    clear hst hPut hCel
    obtain ⟨⟨o0, o1⟩, _, ⟨n0, n1⟩, _⟩ := hNo
    obtain ⟨⟨r0, r1⟩, _, ⟨r2, r3⟩, _⟩ := hNn
    unfold sh at r0 r1 r2 r3
    simp only at r0 r1 r2 r3
    have ez : (((p + 1 : Nat) : Int) - 1) = (p : Int) := by omega
    rw [ez]
    clear ez
    have i1 : (0 : Int) ≤ (p : Int) := by omega
    have i2 : (p : Int) < (N : Int) := by omega
    generalize l[p] = c at *
    obtain ⟨o, ol, nw, nl⟩ := c
    simp only at o0 o1 n0 n1 r0 r1 r2 r3
    have HO1 := Lib.hid HO.out
    go_wp2_with (first
     | (go_at_call 114; refine HR1.out.mono ?_; rintro e w3 ⟨rfl, hb3⟩; have HO3 := Lib.hid (HO1.out.below hb3); have HB3 := Lib.hid (HB.out.trans (hb3.mono HB.out.size)); clear hb3 HR1)
     | (go_at_call 115; refine (move_any g (p * 4) o nw (D : Int) _ (HCel.out _ HO3.out).1.1 (HCel.out _ HO3.out).1.2.2.1 (HCel.out _ HO3.out).2 ⟨r0, by omega⟩ ⟨r2, by omega⟩).mono ?_; rintro e w4 ⟨rfl, rfl⟩))
    go_roundw
    case rel => exact ⟨p, by omega, rfl, Lib.hid (HPut.out _ HO3.out), Lib.hid ((HB3.out.setCell (p := ⟨g, p * 4, none⟩) hgb _).setCell (p := ⟨g, p * 4 + 2, none⟩) hgb _)⟩
    case measure => simp [intOf]
  · obtain rfl : k = 0 := by omega
    rw [show (((0 : Nat) : Int) - 1) = -1 from rfl]
    go_wp2_with fail
    go_ret2
    exact ⟨_, rfl, HO.out, HB.out⟩
end Sl
end
section
open Go.RowKit
namespace Sl
open Cm Sc
def SdPost (v : Value) (x y : Int) (ok : Bool) (w : World) (e : Ending) (w' : World) : Prop := e = .returned (.tuple #[v, .int .i64 x, .int .i64 y, .bool ok]) ∧ Below w.heap.size w w'
set_option maxHeartbeats 1000000 in
theorem side_rem (o ol nw nl : Int) (va vb : Value) (w : World) (h : nl = 0) :
 Calls Tryz.prog 134 #[.agg #[.int .i64 o, .int .i64 ol, .int .i64 nw, .int .i64 nl], va, vb] w (SdPost va o ol true w) := by
 subst h
 go_enter Tryz.func134, Tryz.ntmps134
 go_wp2_with fail
 go_quiet (fail)
 go_wp2_with fail
 exact bodyPost_ret (v := .tuple #[va, .int .i64 o, .int .i64 ol, .bool true]) (by simp [results, Tryz.f134, go_sem]) rfl ⟨rfl, below_drewN ((Below.refl _ _).alloc (Nat.le_refl _) _) _⟩
set_option maxHeartbeats 1000000 in
theorem side_add (o ol nw nl : Int) (va vb : Value) (w : World) (h : ol = 0) (hne : nl ≠ 0) :
 Calls Tryz.prog 134 #[.agg #[.int .i64 o, .int .i64 ol, .int .i64 nw, .int .i64 nl], va, vb] w (SdPost vb nw nl true w) := by
 subst h
 have d1 : ((nl : Int) == 0) = false := by simpa using hne
 clear hne
 go_enter Tryz.func134, Tryz.ntmps134
 go_wp2_with fail
 go_quiet (fail)
 go_wp2_with fail
 exact bodyPost_ret (v := .tuple #[vb, .int .i64 nw, .int .i64 nl, .bool true]) (by simp [results, Tryz.f134, go_sem]) rfl ⟨rfl, below_drewN ((Below.refl _ _).alloc (Nat.le_refl _) _) _⟩
set_option maxHeartbeats 1000000 in
theorem side_no (o ol nw nl : Int) (va vb : Value) (w : World) (h : ol ≠ 0) (hne : nl ≠ 0) :
 Calls Tryz.prog 134 #[.agg #[.int .i64 o, .int .i64 ol, .int .i64 nw, .int .i64 nl], va, vb] w (SdPost (.slice none 0 0) 0 0 false w) := by
 have d1 : ((nl : Int) == 0) = false := by simpa using hne
 have d2 : ((ol : Int) == 0) = false := by simpa using h
 clear hne h
 go_enter Tryz.func134, Tryz.ntmps134
 go_wp2_with fail
 exact bodyPost_ret (v := .tuple #[.slice none 0 0, .int .i64 0, .int .i64 0, .bool false]) (by simp [results, Tryz.f134, go_sem]) rfl ⟨rfl, (Below.refl _ _).alloc (Nat.le_refl _) _⟩
theorem side_pure (c : Ch) (va vb : Value) (w : World) (hp : Pure c) :
 Calls Tryz.prog 134 #[.agg #[.int .i64 c.old, .int .i64 c.oldLen, .int .i64 c.new, .int .i64 c.newLen], va, vb] w (SdPost (if c.newLen = 0 then va else vb) (frC c) (lnC c) true w) := by
 by_cases h : c.newLen = 0
 · have e : frC c = c.old ∧ lnC c = c.oldLen := by unfold frC lnC; exact ⟨if_pos h, if_pos h⟩
   rw [e.1, e.2, if_pos h]
   exact side_rem _ _ _ _ va vb w h
 · have e : frC c = c.new ∧ lnC c = c.newLen := by unfold frC lnC; exact ⟨if_neg h, if_neg h⟩
   rw [e.1, e.2, if_neg h]
   exact side_add _ _ _ _ va vb w (hp.resolve_left h) h
def canD (a b : List Int) (l : List Ch) (k : Nat) (c : Ch) : Bool := dnB a b c && decide (0 < lowD a.length (l.drop (k + 1)) c)
def BlPost (x : Bool) (w : World) (e : Ending) (w' : World) : Prop := e = .returned (.bool x) ∧ Below w.heap.size w w'
set_option maxRecDepth 100000 in
set_option maxHeartbeats 4000000 in
theorem can_no (v : Value) (l : List Ch) (va vb : Value) (a b : List Int) (k : Nat) (w : World) (h : RdC w v l) (hk : k < l.length) (hp : ¬ Pure l[k]) :
 Calls Tryz.prog 95 #[v, va, vb, .int .i64 (k : Int)] w (BlPost (canD a b l k l[k]) w) := by
 have e1 : canD a b l k l[k] = false := by unfold canD dnB; rw [decide_eq_false (fun h => hp h.1)]; rfl
 rw [e1]
 clear e1
 obtain ⟨A, cp, rfl⟩ := h.form
 obtain ⟨b, off, rfl, c0, c1, c2, c3⟩ := RdC_at h k hk
 clear h
 have hp2 : l[k].oldLen ≠ 0 ∧ l[k].newLen ≠ 0 := ⟨fun e => hp (.inr e), fun e => hp (.inl e)⟩
 clear hp
 generalize l[k] = c at *
 obtain ⟨o, ol, nw, nl⟩ := c
 simp only at c0 c1 c2 c3 hp2
 obtain ⟨n1, n2⟩ := hp2
 have HN := Lib.hid (And.intro n1 n2)
 clear n1 n2
 generalize l.length = N at *
 have q1 : (0 : Int) ≤ (k : Int) := by omega
 have q2 : (k : Int) < (N : Int) := by omega
 go_enter Tryz.func95, Tryz.ntmps95
 go_wp2_with (go_at_call 134; refine (side_no _ _ _ _ _ _ _ HN.out.1 HN.out.2).mono ?_; rintro e w1 ⟨rfl, hb1⟩; have HB1 := Lib.hid hb1; clear hb1)
 go_quiet (fail)
 go_wp2_with fail
 go_ret
 exact ⟨rfl, below_drewN HB1.out _⟩
structure Facts (a b : List Int) (l : List Ch) (k : Nat) (c : Ch) (va vb : Value) (w : World) (At : Option Addr) (ct n f ln ab be : Nat) : Prop where
 tv : (if c.newLen = 0 then va else vb) = .slice At n ct
 tn : n = (txt a b c).length
 tr : ∀ wq, Below w.heap.size w wq → RdV wq (.slice At n ct) (intsV (txt a b c))
 ff : frC c = (f : Int)
 fl : lnC c = (ln : Int)
 lo : lowD a.length (l.drop (k + 1)) c = be
 hi : (c.old - prE l k).toNat = ab
 small : n ≤ 4096
 top : f + ln + be ≤ n
 topE : l.length ≤ k + 1 → f + ln + be = n
 topL : k + 1 < l.length → f + ln < n
 topN : ∀ h : k + 1 < l.length, (l[k + 1].old : Int) - 1 - c.old - c.oldLen = (be : Int)
 up : ab ≤ f
 up0 : k = 0 → f = 0 → ab = 0
 up00 : k = 0 → ab = 0 → f = 0
 upN : 0 < k → c.old - prE l k = (ab : Int)
theorem facts {a b : List Int} {l : List Ch} {k : Nat} (hf : FitL a b true 0 0 l) (hk : k < l.length) (va vb : Value) (w : World) (ha : RdV w va (intsV a)) (hb : RdV w vb (intsV b)) (hla : a.length ≤ 4096) (hlb : b.length ≤ 4096) : ∃ At ct n f ln ab be, Facts a b l k l[k] va vb w At ct n f ln ab be := by
 have hat := fit_at hf k hk
 obtain ⟨Aa, ca, rfl⟩ := ha.form
 obtain ⟨Ab, cb, rfl⟩ := hb.form
 rw [intsV_len] at ha hb ⊢
 rw [intsV_len]
 obtain ⟨o0, o1, n0, n1, om, nm, ne, up0, up, upN, up00, upNN, dn, dnM, dnN, dnE, dnL⟩ := hat
 have hT : ∃ At ct n, (if l[k].newLen = 0 then Value.slice Aa a.length ca else Value.slice Ab b.length cb) = .slice At n ct ∧ n = (txt a b l[k]).length ∧ n ≤ 4096 ∧ ∀ wq, Below w.heap.size w wq → RdV wq (.slice At n ct) (intsV (txt a b l[k])) := by
  unfold txt
  by_cases hz : l[k].newLen = 0
  · simp only [if_pos hz]; exact ⟨_, _, _, rfl, rfl, hla, fun wq hq => ha.below hq⟩
  · simp only [if_neg hz]; exact ⟨_, _, _, rfl, rfl, hlb, fun wq hq => hb.below hq⟩
 obtain ⟨At, ct, n, h1, h2, h3, h4⟩ := hT
 have h5 : 0 ≤ frC l[k] ∧ 0 ≤ lnC l[k] ∧ l[k].old - prE l k ≤ frC l[k] ∧ (frC l[k] = l[k].old ∨ frC l[k] = l[k].new) ∧ (l[k].old = l[k].new → frC l[k] = l[k].old) ∧ frC l[k] + lnC l[k] + (topE a.length (l.drop (k + 1)) - (l[k].old + l[k].oldLen)) ≤ (n : Int) ∧ (l.length ≤ k + 1 → frC l[k] + lnC l[k] + (topE a.length (l.drop (k + 1)) - (l[k].old + l[k].oldLen)) = (n : Int)) ∧ (k + 1 < l.length → frC l[k] + lnC l[k] < (n : Int)) := by
  rw [h2]
  have hE : l.length ≤ k + 1 → topE a.length (l.drop (k + 1)) = a.length := fun h => topE_out h
  unfold frC lnC txt
  split
  · exact ⟨by omega, by omega, by omega, by omega, by omega, by omega, fun h => by have := hE h; omega, fun h => by have := dnL h; omega⟩
  · exact ⟨by omega, by omega, by omega, by omega, by omega, by omega, fun h => by have := dnE h; omega, fun h => by have := dnL h; omega⟩
 obtain ⟨g1, g2, g3, g4, g5, g6, g7, g8⟩ := h5
 refine ⟨At, ct, n, (frC l[k]).toNat, (lnC l[k]).toNat, (l[k].old - prE l k).toNat, lowD a.length (l.drop (k + 1)) l[k], h1, h2, h4, by omega, by omega, rfl, rfl, h3, ?_, fun h => ?_, fun h => ?_, fun h => ?_, by omega, fun h e => ?_, fun h e => ?_, fun h => ?_⟩
 · unfold lowD; omega
 · have := g7 h; unfold lowD; omega
 · have := g8 h; omega
 · have := topE_in (e := a.length) h
   unfold lowD
   omega
 · have := up00 h; have := g5 this; omega
 · subst h
   have := up00 rfl; have := g5 this
   have : prE l 0 = 0 := rfl
   omega
 · omega
set_option maxRecDepth 100000 in
set_option maxHeartbeats 4000000 in
theorem down_pure (v : Value) (l : List Ch) (va vb : Value) (a b : List Int) (k : Nat) (w : World) (h : RdC w v l) (hl : l.length ≤ 1000000) (hk : k < l.length) (ha : RdV w va (intsV a)) (hb : RdV w vb (intsV b)) (hla : a.length ≤ 4096) (hlb : b.length ≤ 4096) (hf : FitL a b true 0 0 l) (hp : Pure l[k]) :
 Calls Tryz.prog 95 #[v, va, vb, .int .i64 (k : Int)] w (BlPost (canD a b l k l[k]) w) := by
 obtain ⟨At, ct, n, f, ln, ab, be, F⟩ := facts hf hk va vb w ha hb hla hlb
 have hN := fit_chN hf hla hlb
 have HSd := Lib.hid (side_pure l[k] va vb w hp)
 rw [F.tv, F.ff, F.fl] at HSd
 have e1 : canD a b l k l[k] = (dnB a b l[k] && decide (0 < be)) := by unfold canD; rw [F.lo]
 rw [e1]
 clear e1
 have hB : ∀ (h1 : f < (txt a b l[k]).length) (h2 : f + ln < (txt a b l[k]).length), dnB a b l[k] = ((txt a b l[k])[f] == (txt a b l[k])[f + ln]) := fun h1 h2 => by
  have := dnB_at (a := a) (b := b) hp (f := f) (e := f + ln) (d := 0) F.ff (by rw [F.ff, F.fl]; omega) h1 h2
  rw [show (((0 : Nat) : Int)) = 0 from rfl, sh_zero] at this
  exact this
 have HB := Lib.hid hB
 have HTr := Lib.hid F.tr
 have HTn := Lib.hid F.tn
 obtain ⟨A, cp, rfl⟩ := h.form
 obtain ⟨bl, off, rfl, c0, c1, c2, c3⟩ := RdC_at h k hk
 have HR := Lib.hid (fun wq (hq : Below w.heap.size w wq) => h.below hq)
 have HL := Lib.hid F.topL
 have HE := Lib.hid F.topE
 have hsm := F.small
 have htp := F.top
 have HNx : Hid (∀ hh : k + 1 < l.length, ∃ x : Int, (0 ≤ x ∧ x ≤ 4096) ∧ x - 1 - l[k].old - l[k].oldLen = (be : Int) ∧ ∀ wq, Below w.heap.size w wq → wq.cell? ⟨bl, off + (k + 1) * 4, none⟩ = some (.int .i64 x)) := Lib.hid (fun hh => ⟨l[k + 1].old, (hN _ (List.getElem_mem hh)).1, F.topN hh, fun wq hq => by
  obtain ⟨b', off', e, d0, _, _, _⟩ := RdC_at (h.below hq) (k + 1) hh
  cases e
  exact d0⟩)
 obtain ⟨⟨o0, o1⟩, ⟨l0, l1⟩, _, _⟩ := hN l[k] (List.getElem_mem hk)
 have HCw : Hid (∀ wq, Below w.heap.size w wq → wq.cell? ⟨bl, off + k * 4, none⟩ = some (.int .i64 l[k].old) ∧ wq.cell? ⟨bl, off + k * 4 + 1, none⟩ = some (.int .i64 l[k].oldLen)) := Lib.hid (fun wq hq => by
  obtain ⟨b', off', e, d0, d1, _, _⟩ := RdC_at (h.below hq) k hk
  cases e
  exact ⟨d0, d1⟩)
 clear F hN hf hp h ha hb hB HR
 generalize txt a b l[k] = T at *
 generalize dnB a b l[k] = B at *
 generalize l[k] = c at *
 obtain ⟨o, ol, nw, nl⟩ := c
 simp only at c0 c1 c2 c3 o0 o1 l0 l1
 generalize l.length = N at *
 have q1 : (0 : Int) ≤ (k : Int) := by omega
 have q2 : (k : Int) < (N : Int) := by omega
 have f1 : f + ln ≤ 4096 := by omega
 by_cases hg : n ≤ f + ln
 · have hkn : ¬ k + 1 < N := fun h => by have := HL.out h; omega
   have hbe : be = 0 := by omega
   subst hbe
   rw [show (B && decide (0 < 0)) = false from by cases B <;> rfl]
   have d1 : decide (n ≤ f + ln) = true := decide_eq_true hg
   have d2 : decide ((n : Int) ≤ (f : Int) + (ln : Int)) = true := decide_eq_true (by omega)
   clear HL HE HB HTr HTn HNx HCw hkn
   go_enter Tryz.func95, Tryz.ntmps95
   go_wp2_with (go_at_call 134; refine HSd.out.mono ?_; rintro e w1 ⟨rfl, hb1⟩; have HB1 := Lib.hid hb1; clear hb1)
   go_quiet (fail)
   go_wp2_with fail
   go_ret
   exact ⟨rfl, below_drewN HB1.out _⟩
 · have d1 : decide (n ≤ f + ln) = false := decide_eq_false hg
   have d2 : decide ((n : Int) ≤ (f : Int) + (ln : Int)) = false := decide_eq_false (by omega)
   have p1 : f < T.length := by rw [← HTn.out]; omega
   have p2 : f + ln < T.length := by rw [← HTn.out]; omega
   go_enter Tryz.func95, Tryz.ntmps95
   go_wp2_with (go_at_call 134; refine HSd.out.mono ?_; rintro e w1 ⟨rfl, hb1⟩; have HB1 := Lib.hid hb1; clear hb1)
   obtain ⟨bt, ot, rfl, x1⟩ := RdV_at (HTr.out w1 HB1.out) f p1
   obtain ⟨bt', ot', e, x2⟩ := RdV_at (HTr.out w1 HB1.out) (f + ln) p2
   cases e
   have hBe := HB.out p1 p2
   generalize T[f] = x at x1 hBe
   generalize T[f + ln] = y at x2 hBe
   have i1 : (f : Int) < (n : Int) := by omega
   have i2 : (f : Int) + (ln : Int) < (n : Int) := by omega
   clear p1 p2 c0 c1 c2 c3
   obtain ⟨c0, c1⟩ := HCw.out w1 HB1.out
   by_cases hx : x = y
   · have hz : (x != y) = false := by rw [bne_eq_false_iff_eq]; exact hx
     have HBt : Hid (B = true) := Lib.hid (by rw [hBe, beq_iff_eq]; exact hx)
     clear hBe hx HB
     by_cases hk1 : k + 1 < N
     · obtain ⟨z, ⟨z0, z1⟩, hzb, hzc⟩ := HNx.out hk1
       have d4 := hzc w1 HB1.out
       have HZ := Lib.hid hzb
       have d3 : (((k : Int) + 1) == (N : Int)) = false := by rw [beq_eq_false_iff_ne]; omega
       have i3 : (k : Int) + 1 < (N : Int) := by omega
       clear hzb hzc HNx HTr HTn HL HE HCw
       go_quiet (fail)
       go_wp2_with fail
       go_quiet (fail)
       go_wp2_with fail
       go_ret
       refine ⟨?_, below_drewN (below_drewN HB1.out _) _⟩
       show Ending.returned (.bool (decide (o + ol + 1 < z))) = _
       have := HZ.out
       rw [HBt.out, Bool.true_and, show decide (o + ol + 1 < z) = decide (0 < be) from decide_eq_decide.2 (by omega)]
     · have hk2 : k + 1 = N := by omega
       have d3 : (((k : Int) + 1) == (N : Int)) = true := by rw [beq_iff_eq]; omega
       have hbe : 0 < be := by have := HE.out (by omega); omega
       have HBe := Lib.hid hbe
       clear hbe hk2 HNx HTr HTn HL HE HCw
       go_quiet (fail)
       go_wp2_with fail
       go_quiet (fail)
       go_wp2_with fail
       go_ret
       exact ⟨by rw [HBt.out, decide_eq_true HBe.out]; rfl, below_drewN (below_drewN HB1.out _) _⟩
   · have hz : (x != y) = true := by rw [bne_iff_ne]; exact hx
     have HBt : Hid (B = false) := Lib.hid (by rw [hBe, beq_eq_false_iff_ne]; exact hx)
     clear hBe hx HB HNx HTr HTn HL HE HCw
     go_quiet (fail)
     go_wp2_with fail
     go_ret
     exact ⟨by rw [HBt.out, Bool.false_and]; rfl, below_drewN HB1.out _⟩
theorem downR_any (v : Value) (l : List Ch) (va vb : Value) (a b : List Int) (k : Nat) (w : World) (h : RdC w v l) (hl : l.length ≤ 1000000) (hk : k < l.length) (ha : RdV w va (intsV a)) (hb : RdV w vb (intsV b)) (hla : a.length ≤ 4096) (hlb : b.length ≤ 4096) (hf : FitL a b true 0 0 l) :
 Calls Tryz.prog 95 #[v, va, vb, .int .i64 (k : Int)] w (BlPost (canD a b l k l[k]) w) := by
 by_cases hp : Pure l[k]
 · exact down_pure v l va vb a b k w h hl hk ha hb hla hlb hf hp
 · exact can_no v l va vb a b k w h hk hp
set_option maxRecDepth 100000 in
set_option maxHeartbeats 4000000 in
theorem moved_any (v : Value) (l : List Ch) (k : Nat) (d : Int) (w : World) (h : RdC w v l) (hl : l.length ≤ 100000) (hk : k < l.length) (ho : 0 ≤ l[k].old + d ∧ l[k].old + d ≤ 8192) (hn : 0 ≤ l[k].new + d ∧ l[k].new + d ≤ 8192) :
 Calls Tryz.prog 96 #[v, .int .i64 (k : Int), .int .i64 d] w (NewC (l.set k (sh l[k] d)) w) := by
 have HR := Lib.hid h
 obtain ⟨A, cp, rfl⟩ := h.form
 clear h
 have HR2 := Lib.hid (HR.out.below ((Below.refl w.heap.size w).alloc (Nat.le_refl _) (.cells #[] tCh)))
 obtain ⟨N, hN⟩ : ∃ N, N = l.length := ⟨_, rfl⟩
 rw [← hN] at HR2 ⊢
 have hkN : k < N := by omega
 have HN := Lib.hid hN
 obtain ⟨l2, hl2⟩ : ∃ l2, l.set k (sh l[k] d) = l2 := ⟨_, rfl⟩
 rw [hl2]
 have HL2 := Lib.hid hl2
 clear hl2
 obtain ⟨r0, r1⟩ := ho
 obtain ⟨r2, r3⟩ := hn
 have q1 : (0 : Int) ≤ (k : Int) := by omega
 have q2 : (k : Int) < (N : Int) := by omega
 clear hN
 go_enter Tryz.func96, Tryz.ntmps96
 go_upto_region 2 with (at_builtin; refine app_all rfl (.tmp 8) (.tmp 9) rfl w.heap.size [] l _ _ rfl (OwnC.empty w _ (Nat.le_refl _)) rfl HR2.out (by simp; omega) (by simp) ?_; intro v3 w3 ho3 hb3; have HO3 := Lib.hid ho3; have HB3 := Lib.hid (((Below.refl w.heap.size w).alloc (Nat.le_refl _) (.cells #[] tCh)).trans hb3); clear ho3 hb3)
 rw [List.nil_append] at HO3
 obtain ⟨g, c8, e, hgb⟩ := HO3.out.block (by omega)
 subst e
 rw [← HN.out] at HO3 ⊢
 obtain ⟨⟨c0, c1, c2, c3⟩, cf⟩ := HO3.out.cells k hk
 have HP := Lib.hid (put2 HO3.out k hk d)
 have f0 := cf (k * 4)
 have f2 := cf (k * 4 + 2)
 clear cf c1 c3 HR2 HR
 rw [HL2.out] at HP
 generalize l[k] = c at *
 obtain ⟨o, ol, nw, nl⟩ := c
 simp only at c0 c2 r0 r1 r2 r3
 go_wp2_with fail
 go_ret
 exact ⟨_, rfl, HP.out, (HB3.out.setCell (p := ⟨g, k * 4, none⟩) hgb _).setCell (p := ⟨g, k * 4 + 2, none⟩) hgb _⟩
end Sl
end
section
open Go.RowKit
namespace Sl
open Cm Sc
theorem fit_set_dn {a b : List Int} : ∀ (k : Nat) (l : List Ch) (f : Bool) (i j : Int) (hk : k < l.length), FitL a b f i j l → dnB a b l[k] = true → 0 < lowD a.length (l.drop (k + 1)) l[k] → FitL a b f i j (l.set k (sh l[k] 1))
 | _, [], _, _, _, hk, _, _, _ => absurd hk (Nat.not_lt_zero _)
 | 0, c :: l, f, i, j, _, h, hd, hL => fit_down h hd (by
   have h2 : 0 < (topE a.length l - (c.old + c.oldLen)).toNat := hL
   show c.old + c.oldLen < topE a.length l
   omega)
 | k + 1, c :: l, f, i, j, hk, h, hd, hL => fit_head h (fit_set_dn k l _ _ _ (by simpa using hk) (fit_tail h) hd hL)
theorem low_sh (e : Int) (r : List Ch) (c : Ch) (d : Nat) : lowD e r (sh c (d : Int)) = lowD e r c - d := by
 unfold lowD sh
 simp only
 omega
structure InvD (a b : List Int) (X : List Ch) (k : Nat) (c : Ch) (D d : Nat) : Prop where
 fit : FitL a b true 0 0 (X.set k (sh c (d : Int)))
 eq : d + dnR a b (sh c (d : Int)) (lowD a.length (X.drop (k + 1)) c - d) = D
theorem InvD.start {a b : List Int} {X : List Ch} {k : Nat} (hk : k < X.length) (h : FitL a b true 0 0 X) : InvD a b X k X[k] (dnR a b X[k] (lowD a.length (X.drop (k + 1)) X[k])) 0 := by
 refine ⟨?_, ?_⟩
 · rw [show ((0 : Nat) : Int) = 0 from rfl, sh_zero, List.set_getElem_self]; exact h
 · rw [show ((0 : Nat) : Int) = 0 from rfl, sh_zero, Nat.zero_add, Nat.sub_zero]
theorem InvD.can {a b : List Int} {X : List Ch} {k : Nat} {c : Ch} (d : Nat) : canD a b (X.set k (sh c (d : Int))) k (sh c (d : Int)) = (dnB a b (sh c (d : Int)) && decide (0 < lowD a.length (X.drop (k + 1)) c - d)) := by
 unfold canD
 rw [List.drop_set_of_lt (Nat.lt_succ_self k), low_sh]
theorem InvD.step {a b : List Int} {X : List Ch} {k : Nat} {c : Ch} {D d : Nat} (hk : k < X.length) (h : InvD a b X k c D d) (hc : canD a b (X.set k (sh c (d : Int))) k (sh c (d : Int)) = true) : InvD a b X k c D (d + 1) ∧ d < D := by
 rw [InvD.can, Bool.and_eq_true] at hc
 have h2 := of_decide_eq_true hc.2
 have hk2 : k < (X.set k (sh c (d : Int))).length := by rw [List.length_set]; exact hk
 have hs := dn_step h.eq hc.1 (by omega)
 refine ⟨⟨?_, hs⟩, by omega⟩
 have e : (X.set k (sh c (d : Int)))[k] = sh c (d : Int) := List.getElem_set_self _
 have h3 := fit_set_dn k (X.set k (sh c (d : Int))) true 0 0 hk2 h.fit (by rw [e]; exact hc.1) (by rw [e, List.drop_set_of_lt (Nat.lt_succ_self k), low_sh]; exact h2)
 rw [e, List.set_set, sh_sh] at h3
 exact h3
theorem InvD.stop {a b : List Int} {X : List Ch} {k : Nat} {c : Ch} {D d : Nat} (h : InvD a b X k c D d) (hc : canD a b (X.set k (sh c (d : Int))) k (sh c (d : Int)) = false) : D = d := by
 rw [InvD.can, Bool.and_eq_false_iff] at hc
 exact dn_stop h.eq (hc.imp id (fun h => by have := of_decide_eq_false h; omega))
end Sl
end
section
open Go.RowKit
namespace Sl
open Cm Sc
set_option maxRecDepth 100000 in
set_option maxHeartbeats 4000000 in
theorem DownR_any (v : Value) (l : List Ch) (va vb : Value) (a b : List Int) (w : World) (h : RdC w v l) (ha : RdV w va (intsV a)) (hb : RdV w vb (intsV b)) (hla : a.length ≤ 4096) (hlb : b.length ≤ 4096) (hf : FitL a b true 0 0 l) :
 Calls Tryz.prog 56 #[v, va, vb] w (DnPost (downF a b a.length l) w) := by
 have hfew := fit_few hf
 have HFit : Hid (∀ wq, Below w.heap.size w wq → Calls Tryz.prog 94 #[v, va, vb] wq fun e w' => e = .returned (.bool true) ∧ Below wq.heap.size wq w') := Lib.hid (fun wq hq =>
  (FitsR_any v l va vb a b wq (h.below hq) (by omega) (ha.below hq) (hb.below hq)).mono fun e w' ⟨h1, h2⟩ => ⟨by rw [h1, fit_true hf hla hlb], h2⟩)
 have HDn := Lib.hid (fun (v8 : Value) (Y : List Ch) (k : Nat) (hk : k < Y.length) (hY : Y.length ≤ 5000) (wq : World) (hq : Below w.heap.size w wq) (hr : RdC wq v8 Y) (hf : FitL a b true 0 0 Y) =>
  downR_any v8 Y va vb a b k wq hr (by omega) hk (ha.below hq) (hb.below hq) hla hlb hf)
 have HCN := Lib.hid (fun (Y : List Ch) (hf : FitL a b true 0 0 Y) => fit_chN hf hla hlb)
 have HMf := Lib.hid (fun k => midD_fit hf k)
 have HR0 : Hid (RdC w v (midD a b l l.length)) := Lib.hid (by rw [midD_all]; exact h)
 obtain ⟨A, cp, rfl⟩ := h.form
 clear h ha hb hf
 obtain ⟨N, hNl⟩ : ∃ N, N = l.length := ⟨_, rfl⟩
 rw [← hNl] at HFit hfew HR0 ⊢
 have HNl := Lib.hid hNl
 have HML : Hid (∀ k, k ≤ N → (midD a b l k).length = N) := Lib.hid (fun k hk => by rw [hNl]; exact midD_len a b (by omega))
 clear hNl
 go_enter Tryz.func56, Tryz.ntmps56
 go_wp2_with (go_at_call 94; refine (HFit.out _ (Below.refl _ _)).mono ?_; rintro e w1 ⟨rfl, hb1⟩; have HB1 := Lib.hid hb1; have HR1 := Lib.hid (HR0.out.below hb1); clear hb1 HFit HR0)
 go_loopw [0, 8] (fun v0 k' wr => ∃ k : Nat, k ≤ N ∧ k' = .int .i64 ((k : Int) - 1) ∧ Hid (RdC wr v0 (midD a b l k)) ∧ Hid (Below w.heap.size w wr)) (fun _ k' _ => (intOf k' + 1).toNat)
 case atStart => exact ⟨N, Nat.le_refl _, rfl, HR1, HB1⟩
 case round =>
  obtain ⟨k, hk, rfl, HR, HB⟩ := hrel
  clear HR1 HB1
  by_cases h0 : 0 < k
  · obtain ⟨p, rfl⟩ : ∃ p, k = p + 1 := ⟨k - 1, by omega⟩
    have hpl : p < l.length := by rw [← HNl.out]; omega
    have hXl := HML.out (p + 1) hk
    have hpX : p < (midD a b l (p + 1)).length := by omega
    have hgp := midD_get a b hpl hpX
    have hst := midD_step a b hpl
    have hI := InvD.start hpX (HMf.out (p + 1))
    rw [hgp] at hI
    have hY0 : (midD a b l (p + 1)).set p (sh l[p] ((0 : Nat) : Int)) = midD a b l (p + 1) := by rw [← hgp, show ((0 : Nat) : Int) = 0 from rfl, sh_zero, List.set_getElem_self]
    have HRs := HR
    rw [← hY0] at HRs
    have HSt := Lib.hid hst
    have HPX := Lib.hid hpX
    have HXl := Lib.hid hXl
    have HI0 := Lib.hid hI
    clear hgp hst hI hY0 hpX hXl HR
    generalize dnR a b l[p] (lowD a.length ((midD a b l (p + 1)).drop (p + 1)) l[p]) = D at *
    generalize midD a b l (p + 1) = X at *
    generalize l[p] = c at *
    clear hpl
    have ez : (((p + 1 : Nat) : Int) - 1) = (p : Int) := by omega
    rw [ez]
    clear ez
    obtain ⟨A0, cq, e⟩ := HRs.out.form
    rw [List.length_set, HXl.out] at e
    subst e
    have i1 : (0 : Int) ≤ (p : Int) := by omega
    go_wp2_with fail
    go_loopg [0] D (fun n v0 wr => ∃ d : Nat, n + d = D ∧ Hid (RdC wr v0 (X.set p (sh c (d : Int)))) ∧ Hid (Below w.heap.size w wr) ∧ Hid (InvD a b X p c D d))
    case atStart => exact ⟨0, rfl, HRs, HB, HI0⟩
    case round =>
     obtain ⟨d, hd, HR, HB2, HI⟩ := hrel
     clear HRs HB HI0
     have hkY : p < (X.set p (sh c (d : Int))).length := by rw [List.length_set]; exact HPX.out
     have hgY : (X.set p (sh c (d : Int)))[p] = sh c (d : Int) := List.getElem_set_self _
     have hYl : (X.set p (sh c (d : Int))).length = N := by rw [List.length_set]; exact HXl.out
     have HC := Lib.hid (HDn.out _ _ p hkY (by omega) wr HB2.out HR.out HI.out.fit)
     rw [hgY] at HC
     have HStep := Lib.hid (fun h => InvD.step HPX.out HI.out h)
     have HStop := Lib.hid (fun h => InvD.stop HI.out h)
     obtain ⟨Ay, cy, e⟩ := HR.out.form
     rw [hYl] at e
     subst e
     unfold BlPost at HC
     generalize hcan : canD a b (X.set p (sh c (d : Int))) p (sh c (d : Int)) = B at *
     have HYl := Lib.hid hYl
     have HD := Lib.hid hd
     clear hYl hd
     cases B with
     | true =>
       obtain ⟨hI2, hlt⟩ := HStep.out rfl
       have hN2 := HCN.out _ hI2.fit (sh c ((d + 1 : Nat) : Int)) (List.mem_set HPX.out _)
       have hbd : (0 ≤ c.old + (d : Int) + 1 ∧ c.old + (d : Int) + 1 ≤ 8192) ∧ 0 ≤ c.new + (d : Int) + 1 ∧ c.new + (d : Int) + 1 ≤ 8192 := by
        obtain ⟨⟨x0, x1⟩, _, ⟨x2, x3⟩, _⟩ := hN2
        unfold sh at x0 x1 x2 x3
        simp only at x0 x1 x2 x3
        omega
       have HMv := Lib.hid (fun (wq : World) (hr : RdC wq (.slice Ay N cy) (X.set p (sh c (d : Int)))) => moved_any _ _ p 1 wq hr (by have := HYl.out; omega) hkY (by rw [hgY]; exact hbd.1) (by rw [hgY]; exact hbd.2))
       rw [hgY, List.set_set, sh_sh, show (d : Int) + 1 = ((d + 1 : Nat) : Int) from by omega] at HMv
       have HI2 := Lib.hid hI2
       have HLt := Lib.hid hlt
       clear hI2 hlt hN2 hbd hkY hgY hcan HStep HStop HI
       go_wp2_with (first
        | (go_at_call 95; refine HC.out.mono ?_; rintro e w3 ⟨rfl, hb3⟩; have HR3 := Lib.hid (HR.out.below hb3); have HB3 := Lib.hid (HB2.out.trans (hb3.mono HB2.out.size)); clear hb3 HC)
        | (go_at_call 96; refine (HMv.out _ HR3.out).mono ?_; rintro e w4 ⟨v4, rfl, ho4, hb4⟩; have HR4 := Lib.hid ho4.rd; have HB4 := Lib.hid (HB3.out.trans (hb4.mono HB3.out.size)); clear ho4 hb4))
       go_roundg (D - (d + 1))
       case rel => exact ⟨d + 1, by have := HLt.out; omega, HR4, HB4, HI2⟩
       case measure => have := HLt.out; have := HD.out; omega
     | false =>
       have hDd := HStop.out rfl
       subst hDd
       have HR2 := HR
       rw [HSt.out] at HR2
       clear hkY hgY hcan HStep HStop HI
       go_wp2_with (go_at_call 95; refine HC.out.mono ?_; rintro e w3 ⟨rfl, hb3⟩; have HR3 := Lib.hid (HR2.out.below hb3); have HB3 := Lib.hid (HB2.out.trans (hb3.mono HB2.out.size)); clear hb3 HC)
       go_roundw
       case rel => exact ⟨p, by omega, rfl, HR3, HB3⟩
       case measure => simp [intOf]
  · obtain rfl : k = 0 := by omega
    rw [show (((0 : Nat) : Int) - 1) = -1 from rfl]
    have HR2 := Lib.hid (fun wq (hq : Below wr.heap.size wr wq) => HR.out.below hq)
    rw [midD_zero] at HR2
    have hsz := HB.out.size
    go_wp2_with (at_builtin; refine app_all rfl (.tmp 29) (.tmp 30) rfl w.heap.size [] (downF a b a.length l) _ _ rfl (OwnC.empty wr _ HB.out.size) rfl (HR2.out _ ((Below.refl _ _).alloc (Nat.le_refl _) _)) (by rw [downF_len, ← HNl.out]; simp; omega) (by simp; omega) ?_; intro v3 w3 ho3 hb3; rw [List.nil_append] at ho3; have HO3 := Lib.hid ho3; have HB3 := Lib.hid ((HB.out.alloc HB.out.size (.cells #[] tCh)).trans hb3); clear ho3 hb3)
    go_ret2
    exact ⟨_, rfl, HO3.out, HB3.out⟩
end Sl
end
end
end Go.Proofs.YtjecfmbecgpbmaaGreatDoor

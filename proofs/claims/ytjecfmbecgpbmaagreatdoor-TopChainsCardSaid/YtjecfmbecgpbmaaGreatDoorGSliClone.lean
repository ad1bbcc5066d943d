/-
  The program's room of package slide: how often a change can be moved up and down. Conditions: a script that fits, lists of at most 4096 lines. append of a slice of changes that reads as a list onto one that the call owns; slices.Clone; scripts that fit, as a list. Conditions: fewer than a million changes. The lists between the first and the last step of Down and Up; scripts that fit. Plain mathematics, no conditions. The program's Down, Up and Room of package slide. Conditions: lists of at most 4096 lines. The reference's side, down, up, moved of layer 10. Conditions: a script that fits, lists of at most 4096 lines.
-/
import Derived.Test.YtjecfmbecgpbmaaGreatDoorSliProg
import Derived.Test.YtjecfmbecgpbmaaGreatDoorScrFitR
import Derived.Laws.AppendOwnNone
import Derived.Lib.SliceRun
namespace Go.Proofs.YtjecfmbecgpbmaaGreatDoor
section
namespace Cm
end Cm
namespace Sc
end Sc
open Go.RowKit
namespace Sl
open Cm Sc
theorem changed_pure (c : Ch) (va vb : Value) (w : World) (hp : Pure c) (hb : ChN c) :
    Calls Tryz.prog 151 #[.agg #[.int .i64 c.old, .int .i64 c.oldLen, .int .i64 c.new, .int .i64 c.newLen], va, vb] w (ChPost (if c.newLen = 0 then va else vb) (frC c) (frC c + lnC c) true w) := by
  obtain ⟨⟨a0, a1⟩, ⟨b0, b1⟩, ⟨c0, c1⟩, d0, d1⟩ := hb
  by_cases h : c.newLen = 0
  · have e : frC c = c.old ∧ lnC c = c.oldLen := by unfold frC lnC; exact ⟨if_pos h, if_pos h⟩
    rw [e.1, e.2, if_pos h]
    exact changed_rem _ _ _ _ va vb w h ⟨a0, by omega⟩ ⟨b0, by omega⟩
  · have e : frC c = c.new ∧ lnC c = c.newLen := by unfold frC lnC; exact ⟨if_neg h, if_neg h⟩
    rw [e.1, e.2, if_neg h]
    exact changed_add _ _ _ _ va vb w (hp.resolve_left h) h ⟨c0, by omega⟩ ⟨d0, by omega⟩
theorem upR_not {a b : List Int} {c : Ch} (h : ¬ Pure c) (L : Nat) : upR a b c L = 0 := upR_F (.inl (by unfold upB; exact decide_eq_false (fun h2 => h h2.1)))
theorem dnR_not {a b : List Int} {c : Ch} (h : ¬ Pure c) (L : Nat) : dnR a b c L = 0 := dnR_F (.inl (by unfold dnB; exact decide_eq_false (fun h2 => h h2.1)))
def RmPost (a b : List Int) (l : List Ch) (k : Nat) (c : Ch) (w : World) (e : Ending) (w' : World) : Prop :=
  e = .returned (.tuple #[.int .i64 (upR a b c (c.old - prE l k).toNat : Nat), .int .i64 (dnR a b c (lowD a.length (l.drop (k + 1)) c) : Nat)]) ∧ Below w.heap.size w w'
set_option maxRecDepth 100000 in
set_option maxHeartbeats 4000000 in
theorem room_no (v : Value) (l : List Ch) (va vb : Value) (a b : List Int) (k : Nat) (w : World) (h : RdC w v l) (hk : k < l.length) (hp : ¬ Pure l[k]) :
    Calls Tryz.prog 114 #[v, va, vb, .int .i64 (k : Int)] w (RmPost a b l k l[k] w) := by
  unfold RmPost
  rw [upR_not hp, dnR_not hp]
  obtain ⟨A, cp, rfl⟩ := h.form
  obtain ⟨b, off, rfl, c0, c1, c2, c3⟩ := RdC_at h k hk
  clear h
  have hp2 : l[k].oldLen ≠ 0 ∧ l[k].newLen ≠ 0 := ⟨fun e => hp (.inr e), fun e => hp (.inl e)⟩
  clear hp
  generalize l[k] = c at *
  obtain ⟨o, ol, nw, nl⟩ := c
  simp only at c0 c1 c2 c3 hp2
  obtain ⟨n1, n2⟩ := hp2
  have HN := Lib.hid (And.intro n1 n2)
  clear n1 n2
  generalize l.length = N at *
  have q1 : (0 : Int) ≤ (k : Int) := by omega
  have q2 : (k : Int) < (N : Int) := by omega
  go_enter Tryz.func114, Tryz.ntmps114
  go_wp2_with (go_at_call 151; refine (changed_no _ _ _ _ _ _ _ HN.out.1 HN.out.2).mono ?_; rintro e w1 ⟨rfl, hb1⟩; have HB1 := Lib.hid hb1; clear hb1)
  go_ret2
  exact ⟨rfl, (HB1.out.alloc HB1.out.size _)⟩
theorem gI_at {T : List Int} {i : Nat} (h : i < T.length) : gI T (i : Int) = T[i] := by
  unfold gI
  rw [Int.toNat_natCast, List.getD_eq_getElem?_getD, List.getElem?_eq_getElem h, Option.getD_some]
theorem beq_dec (x y : Int) : decide (x = y) = (x == y) := by
  by_cases h : x = y
  · rw [decide_eq_true h, beq_iff_eq.2 h]
  · rw [decide_eq_false h, beq_eq_false_iff_ne.2 h]
theorem upB_at {a b : List Int} {c : Ch} (hp : Pure c) {f e u : Nat} (hf : frC c = f) (he : frC c + lnC c = e) (hu : u + 1 ≤ f) (hfe : f ≤ e) (h1 : e - 1 - u < (txt a b c).length) (h2 : f - 1 - u < (txt a b c).length) :
    upB a b (sh c (-(u : Int))) = ((txt a b c)[e - 1 - u] == (txt a b c)[f - 1 - u]) := by
  unfold upB
  have e0 : Pure (sh c (-(u : Int))) := hp
  have e1 : txt a b (sh c (-(u : Int))) = txt a b c := rfl
  have e2 : frC (sh c (-(u : Int))) = frC c - u := by unfold frC sh; simp only; split <;> omega
  have e3 : lnC (sh c (-(u : Int))) = lnC c := rfl
  rw [e1, e2, e3, show frC c - (u : Int) + lnC c - 1 = ((e - 1 - u : Nat) : Int) from by omega, show frC c - (u : Int) - 1 = ((f - 1 - u : Nat) : Int) from by omega, gI_at h1, gI_at h2, ← beq_dec]
  exact decide_eq_decide.2 ⟨fun h => h.2, fun h => ⟨e0, h⟩⟩
theorem dnB_at {a b : List Int} {c : Ch} (hp : Pure c) {f e d : Nat} (hf : frC c = f) (he : frC c + lnC c = e) (h1 : f + d < (txt a b c).length) (h2 : e + d < (txt a b c).length) :
    dnB a b (sh c (d : Int)) = ((txt a b c)[f + d] == (txt a b c)[e + d]) := by
  unfold dnB
  have e0 : Pure (sh c (d : Int)) := hp
  have e1 : txt a b (sh c (d : Int)) = txt a b c := rfl
  have e2 : frC (sh c (d : Int)) = frC c + d := by unfold frC sh; simp only; split <;> omega
  have e3 : lnC (sh c (d : Int)) = lnC c := rfl
  rw [e1, e2, e3, show frC c + (d : Int) + lnC c = ((e + d : Nat) : Int) from by omega, show frC c + (d : Int) = ((f + d : Nat) : Int) from by omega, gI_at h1, gI_at h2, ← beq_dec]
  exact decide_eq_decide.2 ⟨fun h => h.2, fun h => ⟨e0, h⟩⟩
theorem up_step {a b : List Int} {c : Ch} {u ab U : Nat} (h : u + upR a b (sh c (-(u : Int))) (ab - u) = U) (hB : upB a b (sh c (-(u : Int))) = true) (hu : u < ab) : (u + 1) + upR a b (sh c (-((u + 1 : Nat) : Int))) (ab - (u + 1)) = U := by
  rw [upR_T hB (by omega), sh_sh, show -(u : Int) + -1 = -((u + 1 : Nat) : Int) from by omega, show ab - u - 1 = ab - (u + 1) from by omega] at h
  omega
theorem up_stop {a b : List Int} {c : Ch} {u ab U : Nat} (h : u + upR a b (sh c (-(u : Int))) (ab - u) = U) (hB : upB a b (sh c (-(u : Int))) = false ∨ ab ≤ u) : U = u := by
  rw [upR_F (hB.imp id (fun h => by omega))] at h
  omega
theorem dn_step {a b : List Int} {c : Ch} {u ab U : Nat} (h : u + dnR a b (sh c (u : Int)) (ab - u) = U) (hB : dnB a b (sh c (u : Int)) = true) (hu : u < ab) : (u + 1) + dnR a b (sh c ((u + 1 : Nat) : Int)) (ab - (u + 1)) = U := by
  rw [dnR_T hB (by omega), sh_sh, show (u : Int) + 1 = ((u + 1 : Nat) : Int) from by omega, show ab - u - 1 = ab - (u + 1) from by omega] at h
  omega
theorem dn_stop {a b : List Int} {c : Ch} {u ab U : Nat} (h : u + dnR a b (sh c (u : Int)) (ab - u) = U) (hB : dnB a b (sh c (u : Int)) = false ∨ ab ≤ u) : U = u := by
  rw [dnR_F (hB.imp id (fun h => by omega))] at h
  omega
set_option maxRecDepth 100000 in
set_option maxHeartbeats 4000000 in
theorem room_pure (v : Value) (l : List Ch) (va vb : Value) (a b : List Int) (k : Nat) (w : World) (h : RdC w v l) (hl : l.length ≤ 1000000) (hk : k < l.length) (ha : RdV w va (intsV a)) (hb : RdV w vb (intsV b)) (hla : a.length ≤ 4096) (hlb : b.length ≤ 4096) (hf : FitL a b true 0 0 l) (hp : Pure l[k]) :
    Calls Tryz.prog 114 #[v, va, vb, .int .i64 (k : Int)] w (RmPost a b l k l[k] w) := by
  have hN := ok_chN (show inI (a.length : Int) from ⟨by omega, by omega⟩) (show inI (b.length : Int) from ⟨by omega, by omega⟩) hf.1
  have hat := fit_at hf k hk
  have HFr := Lib.hid (fun wq (hq : Below w.heap.size w wq) => free_any v l a.length k wq (h.below hq) hl hk hN ⟨by omega, by omega⟩)
  have HCh := Lib.hid (changed_pure l[k] va vb w hp (hN _ (List.getElem_mem hk)))
  obtain ⟨A, cp, rfl⟩ := h.form
  obtain ⟨bl, off, rfl, c0, c1, c2, c3⟩ := RdC_at h k hk
  obtain ⟨Aa, ca, rfl⟩ := ha.form
  obtain ⟨Ab, cb, rfl⟩ := hb.form
  rw [intsV_len] at ha hb HCh ⊢
  rw [intsV_len] at HCh ⊢
  have HT : Hid (∃ At ct n, (if l[k].newLen = 0 then Value.slice Aa a.length ca else Value.slice Ab b.length cb) = .slice At n ct ∧ n = (txt a b l[k]).length ∧ n ≤ 4096 ∧ ∀ wq, Below w.heap.size w wq → RdV wq (.slice At n ct) (intsV (txt a b l[k]))) := Lib.hid (by
    unfold txt
    by_cases hz : l[k].newLen = 0
    · simp only [if_pos hz]; exact ⟨_, _, _, rfl, rfl, hla, fun wq hq => ha.below hq⟩
    · simp only [if_neg hz]; exact ⟨_, _, _, rfl, rfl, hlb, fun wq hq => hb.below hq⟩)
  obtain ⟨At, ct, n, hv, hn, hn2, hT⟩ := HT.out
  rw [hv] at HCh
  have HTx := Lib.hid hT
  clear hT HT hv ha hb
  obtain ⟨o0, o1, n0, n1, om, nm, ne, up0, up, upN, up00, upNN, dn, dnM, dnN, dnE, dnL⟩ := hat
  have hfe : 0 ≤ frC l[k] ∧ 0 ≤ lnC l[k] ∧ l[k].old - prE l k ≤ frC l[k] ∧ frC l[k] + lnC l[k] + (topE a.length (l.drop (k + 1)) - l[k].old - l[k].oldLen) ≤ (n : Int) := by
    rw [hn]
    unfold frC lnC txt
    split <;> exact ⟨by omega, by omega, by omega, by omega⟩
  have hab : 0 ≤ l[k].old - prE l k := by omega
  have hbe : 0 ≤ topE a.length (l.drop (k + 1)) - l[k].old - l[k].oldLen := by omega
  obtain ⟨U, hU⟩ : ∃ U, upR a b l[k] (l[k].old - prE l k).toNat = U := ⟨_, rfl⟩
  obtain ⟨D, hD⟩ : ∃ D, dnR a b l[k] (lowD a.length (l.drop (k + 1)) l[k]) = D := ⟨_, rfl⟩
  unfold RmPost
  rw [hU, hD]
  unfold lowD at hD
  rw [show topE (a.length : Int) (l.drop (k + 1)) - (l[k].old + l[k].oldLen) = topE (a.length : Int) (l.drop (k + 1)) - l[k].old - l[k].oldLen from by omega] at hD
  clear up0 up upN up00 upNN dn dnM dnN dnE dnL ne om nm hf h hN n0 n1 o0 o1
  generalize topE (a.length : Int) (l.drop (k + 1)) - l[k].old - l[k].oldLen = be' at *
  generalize l[k].old - prE l k = ab' at *
  obtain ⟨ab, rfl⟩ : ∃ ab : Nat, ab' = (ab : Int) := ⟨ab'.toNat, by omega⟩
  obtain ⟨be, rfl⟩ : ∃ be : Nat, be' = (be : Int) := ⟨be'.toNat, by omega⟩
  rw [Int.toNat_natCast] at hU hD
  have HPu := Lib.hid hp
  have HNt := Lib.hid hn
  clear hp hn
  obtain ⟨f, hf⟩ : ∃ f : Nat, frC l[k] = (f : Int) := ⟨(frC l[k]).toNat, by omega⟩
  obtain ⟨g, hg⟩ : ∃ g : Nat, frC l[k] + lnC l[k] = (g : Int) := ⟨(frC l[k] + lnC l[k]).toNat, by omega⟩
  have HUB : Hid (∀ u : Nat, u + 1 ≤ f → ∀ (h1 : g - 1 - u < (txt a b l[k]).length) (h2 : f - 1 - u < (txt a b l[k]).length), upB a b (sh l[k] (-(u : Int))) = ((txt a b l[k])[g - 1 - u] == (txt a b l[k])[f - 1 - u])) := Lib.hid (fun u hu h1 h2 => upB_at HPu.out hf hg hu (by omega) h1 h2)
  have HDB : Hid (∀ d : Nat, ∀ (h1 : f + d < (txt a b l[k]).length) (h2 : g + d < (txt a b l[k]).length), dnB a b (sh l[k] (d : Int)) = ((txt a b l[k])[f + d] == (txt a b l[k])[g + d])) := Lib.hid (fun d h1 h2 => dnB_at HPu.out hf hg h1 h2)
  have hfg : f ≤ g ∧ ab ≤ f ∧ g + be ≤ n := ⟨by omega, by omega, by omega⟩
  rw [hg, hf] at HCh
  have HU0 : Hid (0 + upR a b (sh l[k] (-((0 : Nat) : Int))) (ab - 0) = U) := Lib.hid (by rw [Nat.zero_add, Nat.sub_zero, show (-((0 : Nat) : Int)) = 0 from rfl, sh_zero]; exact hU)
  have HD0 : Hid (0 + dnR a b (sh l[k] ((0 : Nat) : Int)) (be - 0) = D) := Lib.hid (by rw [Nat.zero_add, Nat.sub_zero, show ((0 : Nat) : Int) = 0 from rfl, sh_zero]; exact hD)
  obtain ⟨hfg1, hfg2, hfg3⟩ := hfg
  clear hU hD hab hbe hfe hf hg HPu
  generalize txt a b l[k] = T at *
  generalize l[k] = c at *
  obtain ⟨o, ol, nw, nl⟩ := c
  simp only at c0 c1 c2 c3
  generalize l.length = N at *
  have q1 : (0 : Int) ≤ (k : Int) := by omega
  have q2 : (k : Int) < (N : Int) := by omega
  go_enter Tryz.func114, Tryz.ntmps114
  go_wp2_with (first
    | (go_at_call 151; refine HCh.out.mono ?_; rintro e w1 ⟨rfl, hb1⟩; have HB1 := Lib.hid hb1; clear hb1 HCh)
    | (go_at_call 152; refine (HFr.out _ (HB1.out.alloc HB1.out.size _)).mono ?_; rintro e w3 ⟨rfl, q, rfl⟩))
  have HB2 := Lib.hid (below_drewN (HB1.out.alloc HB1.out.size (.cells #[.int .i64 (f : Int), .int .i64 (g : Int)] 86)) q)
  have g0 : ((w1.alloc (.cells #[.int .i64 (f : Int), .int .i64 (g : Int)] 86)).drewN q).cell? ⟨w1.heap.size, 0, none⟩ = some (.int .i64 (f : Int)) := by simp
  have g1 : ((w1.alloc (.cells #[.int .i64 (f : Int), .int .i64 (g : Int)] 86)).drewN q).cell? ⟨w1.heap.size, 1, none⟩ = some (.int .i64 (g : Int)) := by simp
  generalize (w1.alloc (.cells #[.int .i64 (f : Int), .int .i64 (g : Int)] 86)).drewN q = w2 at *
  generalize w1.heap.size = G at *
  have HTc := Lib.hid (HTx.out w2 HB2.out)
  clear HB1 HFr HTx c0 c1 c2 c3
  go_loopw [15] (fun u' wr => ∃ u : Nat, u' = .int .i64 (u : Int) ∧ u ≤ ab ∧ Hid (u + upR a b (sh ⟨o, ol, nw, nl⟩ (-(u : Int))) (ab - u) = U) ∧ ∃ q, wr = w2.drewN q) (fun u' _ => ab - (intOf u').toNat)
  case atStart => exact ⟨0, rfl, Nat.zero_le _, HU0, 0, rfl⟩
  case round =>
    obtain ⟨u, rfl, hu, HE, q, rfl⟩ := hrel
    clear HU0
    by_cases hlt : u < ab
    · have p1 : g - 1 - u < T.length := by rw [← HNt.out]; omega
      have p2 : f - 1 - u < T.length := by rw [← HNt.out]; omega
      obtain ⟨bt, ot, rfl, x1⟩ := RdV_at HTc.out (g - 1 - u) p1
      obtain ⟨bt', ot', e, x2⟩ := RdV_at HTc.out (f - 1 - u) p2
      cases e
      have hUB := HUB.out u (by omega) p1 p2
      have HSt := Lib.hid (fun hB => up_step HE.out hB hlt)
      have HSp := Lib.hid (fun hB => up_stop HE.out (.inl hB))
      generalize T[g - 1 - u] = x at x1 hUB
      generalize T[f - 1 - u] = y at x2 hUB
      have dl : decide ((u : Int) < (ab : Int)) = true := decide_eq_true (by omega)
      have dl2 : decide (u < ab) = true := decide_eq_true hlt
      have i1 : (u : Int) < (ab : Int) := by omega
      clear p1 p2 HE
      by_cases hx : x = y
      · have hz : (x == y) = true := beq_iff_eq.2 hx
        have HN1 := Lib.hid (HSt.out (by rw [hUB, hz]))
        clear HSt HSp hUB hx
        go_wp2_with fail
        go_quiet (fail)
        go_wp2_with fail
        go_roundw
        case rel => exact ⟨u + 1, by go_num, by omega, HN1, _, rfl⟩
        case measure => simp [intOf]; omega
      · have hz : (x == y) = false := beq_eq_false_iff_ne.2 hx
        have HUf := Lib.hid (HSp.out (by rw [hUB, hz]))
        clear HSt HSp hUB hx
        go_wp2_with fail
        go_quiet (fail)
        go_wp2_with fail
        go_loopw [16] (fun d' wr => ∃ d : Nat, d' = .int .i64 (d : Int) ∧ d ≤ be ∧ Hid (d + dnR a b (sh ⟨o, ol, nw, nl⟩ (d : Int)) (be - d) = D) ∧ ∃ q, wr = w2.drewN q) (fun d' _ => be - (intOf d').toNat)
        case atStart => exact ⟨0, rfl, Nat.zero_le _, HD0, _, World.drewN_drewN _ _ _⟩
        case round =>
          obtain ⟨d, rfl, hd, HE, q, rfl⟩ := hrel
          clear HD0
          by_cases hlt : d < be
          · have p1 : f + d < T.length := by rw [← HNt.out]; omega
            have p2 : g + d < T.length := by rw [← HNt.out]; omega
            obtain ⟨bt, ot, e, x1⟩ := RdV_at HTc.out (f + d) p1
            cases e
            obtain ⟨bt', ot', e, x2⟩ := RdV_at HTc.out (g + d) p2
            cases e
            have hDB := HDB.out d p1 p2
            have HSt := Lib.hid (fun hB => dn_step HE.out hB hlt)
            have HSp := Lib.hid (fun hB => dn_stop HE.out (.inl hB))
            generalize T[f + d] = x at x1 hDB
            generalize T[g + d] = y at x2 hDB
            have dl : decide ((d : Int) < (be : Int)) = true := decide_eq_true (by omega)
            have dl2 : decide (d < be) = true := decide_eq_true hlt
            have i1 : (d : Int) < (be : Int) := by omega
            clear p1 p2 HE
            by_cases hx : x = y
            · have hz : (x == y) = true := beq_iff_eq.2 hx
              have HN1 := Lib.hid (HSt.out (by rw [hDB, hz]))
              clear HSt HSp hDB hx
              go_wp2_with fail
              go_quiet (fail)
              go_wp2_with fail
              go_roundw
              case rel => exact ⟨d + 1, by go_num, by omega, HN1, _, rfl⟩
              case measure => simp [intOf]; omega
            · have hz : (x == y) = false := beq_eq_false_iff_ne.2 hx
              have HN1 := Lib.hid (HSp.out (by rw [hDB, hz]))
              clear HSt HSp hDB hx
              go_wp2_with fail
              go_quiet (fail)
              go_wp2_with fail
              go_ret2
              exact ⟨by rw [HUf.out, HN1.out]; rfl, below_drewN (below_drewN HB2.out _) _⟩
          · have HN1 := Lib.hid (dn_stop HE.out (.inr (by omega)))
            have dl : decide ((d : Int) < (be : Int)) = false := decide_eq_false (by omega)
            have dl2 : decide (d < be) = false := decide_eq_false hlt
            clear HE
            go_wp2_with fail
            go_quiet (fail)
            go_wp2_with fail
            go_ret2
            exact ⟨by rw [HUf.out, HN1.out]; rfl, below_drewN (below_drewN HB2.out _) _⟩
    · have HUf := Lib.hid (up_stop HE.out (.inr (by omega)))
      have dl : decide ((u : Int) < (ab : Int)) = false := decide_eq_false (by omega)
      have dl2 : decide (u < ab) = false := decide_eq_false hlt
      clear HE
      go_wp2_with fail
      go_quiet (fail)
      go_wp2_with fail
      go_loopw [16] (fun d' wr => ∃ d : Nat, d' = .int .i64 (d : Int) ∧ d ≤ be ∧ Hid (d + dnR a b (sh ⟨o, ol, nw, nl⟩ (d : Int)) (be - d) = D) ∧ ∃ q, wr = w2.drewN q) (fun d' _ => be - (intOf d').toNat)
      case atStart => exact ⟨0, rfl, Nat.zero_le _, HD0, _, World.drewN_drewN _ _ _⟩
      case round =>
        obtain ⟨d, rfl, hd, HE, q, rfl⟩ := hrel
        clear HD0
        by_cases hlt : d < be
        · have p1 : f + d < T.length := by rw [← HNt.out]; omega
          have p2 : g + d < T.length := by rw [← HNt.out]; omega
          obtain ⟨bt, ot, e, x1⟩ := RdV_at HTc.out (f + d) p1
          subst e
          obtain ⟨bt', ot', e, x2⟩ := RdV_at HTc.out (g + d) p2
          cases e
          have hDB := HDB.out d p1 p2
          have HSt := Lib.hid (fun hB => dn_step HE.out hB hlt)
          have HSp := Lib.hid (fun hB => dn_stop HE.out (.inl hB))
          generalize T[f + d] = x at x1 hDB
          generalize T[g + d] = y at x2 hDB
          have dl : decide ((d : Int) < (be : Int)) = true := decide_eq_true (by omega)
          have dl2 : decide (d < be) = true := decide_eq_true hlt
          have i1 : (d : Int) < (be : Int) := by omega
          clear p1 p2 HE
          by_cases hx : x = y
          · have hz : (x == y) = true := beq_iff_eq.2 hx
            have HN1 := Lib.hid (HSt.out (by rw [hDB, hz]))
            clear HSt HSp hDB hx
            go_wp2_with fail
            go_quiet (fail)
            go_wp2_with fail
            go_roundw
            case rel => exact ⟨d + 1, by go_num, by omega, HN1, _, rfl⟩
            case measure => simp [intOf]; omega
          · have hz : (x == y) = false := beq_eq_false_iff_ne.2 hx
            have HN1 := Lib.hid (HSp.out (by rw [hDB, hz]))
            clear HSt HSp hDB hx
            go_wp2_with fail
            go_quiet (fail)
            go_wp2_with fail
            go_ret2
            exact ⟨by rw [HUf.out, HN1.out]; rfl, below_drewN (below_drewN HB2.out _) _⟩
        · have HN1 := Lib.hid (dn_stop HE.out (.inr (by omega)))
          have dl : decide ((d : Int) < (be : Int)) = false := decide_eq_false (by omega)
          have dl2 : decide (d < be) = false := decide_eq_false hlt
          clear HE
          go_wp2_with fail
          go_quiet (fail)
          go_wp2_with fail
          go_ret2
          exact ⟨by rw [HUf.out, HN1.out]; rfl, below_drewN (below_drewN HB2.out _) _⟩
theorem room_any (v : Value) (l : List Ch) (va vb : Value) (a b : List Int) (k : Nat) (w : World) (h : RdC w v l) (hl : l.length ≤ 1000000) (hk : k < l.length) (ha : RdV w va (intsV a)) (hb : RdV w vb (intsV b)) (hla : a.length ≤ 4096) (hlb : b.length ≤ 4096) (hf : FitL a b true 0 0 l) :
    Calls Tryz.prog 114 #[v, va, vb, .int .i64 (k : Int)] w (RmPost a b l k l[k] w) := by
  by_cases hp : Pure l[k]
  · exact room_pure v l va vb a b k w h hl hk ha hb hla hlb hf hp
  · exact room_no v l va vb a b k w h hk hp
end Sl
end
section
section
namespace Cm
end Cm
namespace Sc
end Sc
open Go.RowKit
namespace Sl
open Cm Sc
theorem flat_at {l : List Ch} {j : Nat} {y : Value} (h : (flatK chC l)[j]? = some y) : ∃ (hj : j / 4 < l.length) (hi : j % 4 < (chC l[j / 4]).length), y = (chC l[j / 4])[j % 4] := by
  have hlt : j < (flatK chC l).length := by
    rcases Nat.lt_or_ge j (flatK chC l).length with h1 | h1
    · exact h1
    · rw [List.getElem?_eq_none h1] at h; cases h
  rw [flatK_len chC_len] at hlt
  have hj : j / 4 < l.length := by omega
  have hi : j % 4 < 4 := Nat.mod_lt _ (by decide)
  refine ⟨hj, hi, ?_⟩
  have := flatK_get chC_len l (j / 4) hj (j % 4) hi
  rw [show j / 4 * 4 + j % 4 = j from by omega, h] at this
  rw [List.getElem?_eq_getElem (show j % 4 < (chC l[j / 4]).length from hi)] at this
  exact Option.some.inj this
theorem flat_one (l : List Ch) : ∀ u ∈ flatK chC l, u.oneCell' = true := by
  intro u hu
  unfold flatK at hu
  obtain ⟨c, _, hc⟩ := List.mem_flatMap.1 hu
  exact one_ch c u hc
theorem flatK_app (l xs : List Ch) : flatK chC (l ++ xs) = flatK chC l ++ flatK chC xs := by simp [flatK]
theorem app_all {ops : Array Oper} {rest : List Oper} {o : Oper} {a : Act} {Q : Exit → Act → World → Prop} {w : World} (hg : Region.wanted o (yielded ops a.tmps) = true) (s x : Operand)
    (ho : o.op = .call { callee := .builtin .append, args := #[s, x], argTypes := #[tChs, tChs] })
    (base : Nat) (l xs : List Ch) (v u : Value) (hs : a.eval s = v) (hown : OwnC base w v l)
    (hx : a.eval x = u) (hr : RdC w u xs) (hsz : l.length + xs.length ≤ 1000000) (hbase : base ≤ w.heap.size)
    (h : ∀ v' w', OwnC base w' v' (l ++ xs) → Below base w w' → wpList Tryz.prog ops Q rest (a.put o.dst v') w') :
    wpList Tryz.prog ops Q (o :: rest) a w := by
  obtain ⟨i0, hi0, hz0, hz1, hz2⟩ := info_parts info_ch
  obtain ⟨A, c, rfl, ⟨_, hnone⟩, hc⟩ := hr
  refine wpList_wanted hg fun K hK => ?_
  cases A with
  | none =>
    have h0 : xs = [] := by
      rcases Nat.eq_zero_or_pos xs.length with h1 | h1
      · exact List.eq_nil_of_length_eq_zero h1
      · obtain ⟨b, off, e, _⟩ := hc h1; cases e
    subst h0
    obtain rfl := hnone rfl
    have hrun := run_append_owned_none (P := Tryz.prog) (w := w) base tChs o.type tCh i0 4 Tryz.underlying77 hi0 v l.length (flatK chC l) hown
    unfold Oper.wp
    simp [execOp, ho, resolve, invoke, builtin, hs, hx, hrun, Result.andThen]
    exact hK _ _ (h v w (by rw [show l ++ [] = l from List.append_nil _]; exact hown) (Below.refl _ _))
  | some ad =>
    refine wp_append_own w s x _ ho base tCh i0 _ 4 32 Tryz.underlying77 hi0 hz0 hz1 hz2 rfl (by omega) v l.length (flatK chC l) hs hown ad xs.length c (flatK chC xs) hx (by rw [flatK_len chC_len, Nat.mul_comm]) (fun j y hy => ?_) (flat_one xs) (by unfold maxLen; omega) (by omega) hbase ?_
    · obtain ⟨hj, hi, rfl⟩ := flat_at hy
      obtain ⟨b, off, e, hcell⟩ := hc (by omega)
      cases e
      have he : (Addr.mk b off none).add j = ⟨b, off + j, none⟩ := by
        unfold Addr.add; split
        · rename_i h0; rw [h0]; rfl
        · rfl
      rw [he]
      have := hcell (j / 4) hj (j % 4) hi
      rw [show off + j / 4 * 4 + j % 4 = off + j from by omega] at this
      exact this
    · intro v' w' h1 h2 _
      refine hK _ _ (h v' w' ?_ ((Below.refl base w).grown h2 hbase (fun k hk => (World.ownsRow.lt hown k hk).1)))
      unfold OwnC
      rw [flatK_app, List.length_append]
      exact h1
theorem OwnC.empty (w : World) (base : Nat) (hb : base ≤ w.heap.size) : OwnC base (w.alloc (.cells #[] tCh)) (.slice (some ⟨w.heap.size, 0, none⟩) 0 0) [] :=
  ⟨rfl, .inr ⟨w.heap.size, 0, #[], rfl, hb, heap_new w _, Nat.le_refl _, Nat.zero_le _, rfl, rfl⟩⟩
set_option maxHeartbeats 1000000 in
theorem Clone_any (v : Value) (l : List Ch) (w : World) (h : RdC w v l) (hl : l.length ≤ 100000) :
    Calls Tryz.prog 113 #[v] w (NewC l w) := by
  obtain ⟨A, c, rfl, ⟨hle, hnone⟩, hc⟩ := h
  cases A with
  | none =>
    have h0 : l = [] := by
      rcases Nat.eq_zero_or_pos l.length with h1 | h1
      · exact List.eq_nil_of_length_eq_zero h1
      · obtain ⟨b, off, e, _⟩ := hc h1; cases e
    subst h0
    obtain rfl := hnone rfl
    clear hc hle hnone
    go_enter Tryz.func113, Tryz.ntmps113
    have hrn : ∀ w : World, Sem.run Tryz.prog (binOp .eql tChs (.slice none 0 0) (.slice none 0 0)) w = .ok (.bool true) w := fun w => Lib.run_eql_slice_nil w tChs tCh none 0 0 0 0 Tryz.underlying77
    go_wp2_with fail
    go_ret
    exact ⟨_, rfl, OwnC.nil _ _, Below.refl _ _⟩
  | some ad =>
    have HR : Hid (RdC w (.slice (some ad) l.length c) l) := Lib.hid ⟨_, _, rfl, ⟨hle, fun e => by cases e⟩, hc⟩
    clear hc hle hnone
    generalize hN : l.length = N at *
    have HN := Lib.hid hN
    clear hN
    go_enter Tryz.func113, Tryz.ntmps113
    have hrn : ∀ w : World, Sem.run Tryz.prog (binOp .eql tChs (.slice (some ad) N c) (.slice none 0 0)) w = .ok (.bool false) w := fun w => Lib.run_eql_slice_nil w tChs tCh (some ad) N c 0 0 Tryz.underlying77
    have HR2 := Lib.hid (HR.out.below ((Below.refl w.heap.size w).alloc (Nat.le_refl _) (.cells #[] tCh)))
    go_wp2_with (at_builtin; refine app_all rfl (.tmp 5) (.tmp 6) rfl w.heap.size [] l _ _ rfl (OwnC.empty w _ (Nat.le_refl _)) rfl HR2.out (by rw [HN.out]; simp; omega) (by simp) ?_; intro v3 w3 ho3 hb3; have HO3 := Lib.hid ho3; have HB3 := Lib.hid (((Below.refl w.heap.size w).alloc (Nat.le_refl _) (.cells #[] tCh)).trans hb3); clear ho3 hb3)
    go_ret
    exact ⟨_, rfl, HO3.out, HB3.out⟩
end Sl
end
section
namespace Cm
end Cm
namespace Sc
end Sc
open Go.RowKit
namespace Sl
open Cm Sc
open Classical in
theorem fits_iff {l : List Ch} {a b : List Int} : fitsB l a b = true ↔ inI a.length ∧ inI b.length ∧ FitL a b true 0 0 l := by
  constructor
  · intro h
    have h := of_decide_eq_true h
    obtain ⟨h1, h2, h3⟩ := chkF_zero h.1
    exact ⟨h1, h2, h3, h.2⟩
  · rintro ⟨h1, h2, h3, h4⟩
    exact fitsB_T (chkF_ok h1 h2 h3) h4
theorem fit_chN {l : List Ch} {a b : List Int} (h : FitL a b true 0 0 l) (h1 : a.length ≤ 4096) (h2 : b.length ≤ 4096) : ∀ c ∈ l, ChN c := ok_chN (show inI (a.length : Int) from ⟨by omega, by omega⟩) (show inI (b.length : Int) from ⟨by omega, by omega⟩) h.1
theorem chN_B {c : Ch} (h : ChN c) : ChB c := by
  obtain ⟨⟨a0, a1⟩, ⟨b0, b1⟩, ⟨c0, c1⟩, d0, d1⟩ := h
  exact ⟨⟨by omega, by omega⟩, ⟨by omega, by omega⟩, ⟨by omega, by omega⟩, ⟨by omega, by omega⟩⟩
theorem fit_true {l : List Ch} {a b : List Int} (h : FitL a b true 0 0 l) (h1 : a.length ≤ 4096) (h2 : b.length ≤ 4096) : fitsB l a b = true := fits_iff.2 ⟨⟨by omega, by omega⟩, ⟨by omega, by omega⟩, h⟩
theorem fit_few {l : List Ch} {a b : List Int} (h : FitL a b true 0 0 l) : l.length ≤ a.length + 1 := by
  have key : ∀ (l : List Ch) (f : Bool) (i j : Int), 0 ≤ i → FitL a b f i j l → (f = true → i = 0) → l = [] ∨ ((l.length : Int) + i ≤ a.length + (if f = true then 1 else 0)) := by
    intro l
    induction l with
    | nil => intro f i j _ _ _; exact .inl rfl
    | cons c l ih =>
      intro f i j hi hf h0
      obtain ⟨⟨⟨⟨a0, a1, a2⟩, ⟨b0, b1, b2⟩, ne⟩, h2, h3⟩, h4, h5⟩ := fit_cons.1 hf
      right
      have hp := fit_pos hf
      have hx : (if f = true then (1 : Int) else 0) + c.old - i ≥ 1 := by
        cases f with
        | true => have := h0 rfl; simp; omega
        | false => have := h3 rfl; simp; omega
      rcases ih false _ _ hp.1 h5 (fun h => by cases h) with rfl | h6
      · simp only [List.length_cons, List.length_nil]
        omega
      · simp only [Bool.false_eq_true, if_false] at h6
        simp only [List.length_cons]
        omega
  rcases key l true 0 0 (Int.le_refl _) h (fun _ => rfl) with rfl | h
  · simp
  · simp at h; omega
def midD (a b : List Int) (l : List Ch) (k : Nat) : List Ch := l.take k ++ downF a b a.length (l.drop k)
theorem midD_len (a b : List Int) {l : List Ch} {k : Nat} (h : k ≤ l.length) : (midD a b l k).length = l.length := by
  unfold midD
  rw [List.length_append, downF_len, List.length_take, List.length_drop]
  omega
theorem midD_all (a b : List Int) (l : List Ch) : midD a b l l.length = l := by
  unfold midD
  rw [List.take_length, List.drop_length]
  simp [downF]
theorem midD_fit {a b : List Int} {l : List Ch} (h : FitL a b true 0 0 l) (k : Nat) : FitL a b true 0 0 (midD a b l k) := fit_mid k l true 0 0 h
theorem midD_drop (a b : List Int) {l : List Ch} {p : Nat} (h : p < l.length) : (midD a b l (p + 1)).drop (p + 1) = downF a b a.length (l.drop (p + 1)) := by
  unfold midD
  rw [List.drop_append, List.drop_eq_nil_of_le (by rw [List.length_take]; omega), List.nil_append, List.length_take, show p + 1 - min (p + 1) l.length = 0 from by omega]
  rfl
theorem midD_get (a b : List Int) {l : List Ch} {p : Nat} (h : p < l.length) (h' : p < (midD a b l (p + 1)).length) : (midD a b l (p + 1))[p] = l[p] := by
  have e : (midD a b l (p + 1))[p]? = some l[p] := by
    unfold midD
    rw [List.getElem?_append_left (by rw [List.length_take]; omega), List.getElem?_take, if_pos (Nat.lt_succ_self p), List.getElem?_eq_getElem h]
  rw [List.getElem?_eq_getElem h'] at e
  exact Option.some.inj e
theorem midD_step (a b : List Int) {l : List Ch} {p : Nat} (h : p < l.length) : (midD a b l (p + 1)).set p (sh l[p] (dnR a b l[p] (lowD a.length ((midD a b l (p + 1)).drop (p + 1)) l[p]) : Nat)) = midD a b l p := by
  rw [midD_drop a b h]
  unfold midD
  rw [List.set_append_left _ _ (by rw [List.length_take]; omega)]
  have e : l.drop p = l[p] :: l.drop (p + 1) := List.drop_eq_getElem_cons h
  rw [e]
  simp only [downF]
  have e2 : l.take (p + 1) = l.take p ++ [l[p]] := by rw [List.take_succ_eq_append_getElem h]
  rw [e2, List.set_append_right _ _ (by rw [List.length_take]; omega), List.length_take, show p - min p l.length = 0 from by omega]
  simp
end Sl
end
section
namespace Cm
end Cm
namespace Sc
end Sc
open Go.RowKit
namespace Sl
open Cm Sc
theorem put2 {base g N c : Nat} {w : World} {l : List Ch} (h : OwnC base w (.slice (some ⟨g, 0, none⟩) N c) l) (k : Nat) (hk : k < l.length) (d : Int) :
    OwnC base ((w.setCell ⟨g, k * 4, none⟩ (.int .i64 (l[k].old + d))).setCell ⟨g, k * 4 + 2, none⟩ (.int .i64 (l[k].new + d))) (.slice (some ⟨g, 0, none⟩) N c) (l.set k (sh l[k] d)) := by
  have h1 := h.put k hk 0 (by decide) (.int .i64 (l[k].old + d)) ⟨l[k].old + d, l[k].oldLen, l[k].new, l[k].newLen⟩ rfl
  have hk2 : k < (l.set k ⟨l[k].old + d, l[k].oldLen, l[k].new, l[k].newLen⟩).length := by rw [List.length_set]; exact hk
  have h2 := OwnC.put h1 k hk2 2 (by decide) (.int .i64 (l[k].new + d)) (sh l[k] d) (by rw [List.getElem_set_self]; rfl)
  rw [List.set_set] at h2
  exact h2
def DnPost (l : List Ch) (w : World) (e : Ending) (w' : World) : Prop := ∃ v, e = .returned (.tuple #[v, .int .i64 0]) ∧ OwnC w.heap.size w' v l ∧ Below w.heap.size w w'
set_option maxRecDepth 100000 in
set_option maxHeartbeats 4000000 in
theorem Down_any (v : Value) (l : List Ch) (va vb : Value) (a b : List Int) (w : World) (h : RdC w v l) (ha : RdV w va (intsV a)) (hb : RdV w vb (intsV b)) (hla : a.length ≤ 4096) (hlb : b.length ≤ 4096) (hf : FitL a b true 0 0 l) :
    Calls Tryz.prog 73 #[v, va, vb] w (DnPost (downF a b a.length l) w) := by
  have hfew := fit_few hf
  have HFit : Hid (∀ wq, Below w.heap.size w wq → Calls Tryz.prog 112 #[v, va, vb] wq fun e w' => e = .returned (.bool true) ∧ Below wq.heap.size wq w') := Lib.hid (fun wq hq =>
    (Fits_any v l va vb a b wq (h.below hq) (by omega) (fun c hc => chN_B (fit_chN hf hla hlb c hc)) (ha.below hq) (hb.below hq) (by omega) (by omega)).mono fun e w' ⟨h1, h2⟩ => ⟨by rw [h1, fit_true hf hla hlb], h2⟩)
  have HCl := Lib.hid (fun wq (hq : Below w.heap.size w wq) => Clone_any v l wq (h.below hq) (by omega))
  have HRm := Lib.hid (fun (v8 : Value) (k : Nat) (hk : k < l.length) (wq : World) (hq : Below w.heap.size w wq) (hr : RdC wq v8 (midD a b l (k + 1))) =>
    room_any v8 (midD a b l (k + 1)) va vb a b k wq hr (by rw [midD_len a b hk]; omega) (by rw [midD_len a b hk]; exact hk) (ha.below hq) (hb.below hq) hla hlb (midD_fit hf _))
  have HN := Lib.hid (fun k => fit_chN (midD_fit hf k) hla hlb)
  have HNo := Lib.hid (fit_chN hf hla hlb)
  obtain ⟨A, cp, rfl⟩ := h.form
  obtain ⟨Aa, ca, rfl⟩ := ha.form
  obtain ⟨Ab, cb, rfl⟩ := hb.form
  rw [intsV_len] at HFit HRm ⊢
  rw [intsV_len] at HFit HRm ⊢
  clear h ha hb hf
  obtain ⟨N, hNl⟩ : ∃ N, N = l.length := ⟨_, rfl⟩
  rw [← hNl] at HFit HCl hfew ⊢
  have HNl := Lib.hid hNl
  clear hNl
  go_enter Tryz.func73, Tryz.ntmps73
  go_wp2_with (first
    | (go_at_call 112; refine (HFit.out _ (Below.refl _ _)).mono ?_; rintro e w1 ⟨rfl, hb1⟩; have HB1 := Lib.hid hb1; clear hb1 HFit)
    | (go_at_call 113; refine (HCl.out _ HB1.out).mono ?_; rintro e w2 ⟨v8, rfl, ho2, hb2⟩; obtain ⟨A8, c8, hv8⟩ := ho2.rd.form; rw [← HNl.out] at hv8; subst hv8; have HO2 := Lib.hid (ho2.base HB1.out.size); have HB2 := Lib.hid (HB1.out.trans (hb2.mono HB1.out.size)); clear ho2 hb2 HCl))
  go_loopw [9] (fun k' wr => ∃ k : Nat, k ≤ N ∧ k' = .int .i64 ((k : Int) - 1) ∧ Hid (OwnC w.heap.size wr (.slice A8 N c8) (midD a b l k)) ∧ Hid (Below w.heap.size w wr)) (fun k' _ => (intOf k' + 1).toNat)
  case atStart => exact ⟨N, Nat.le_refl _, rfl, Lib.hid (by rw [HNl.out, midD_all]; rw [HNl.out] at HO2; exact HO2.out), HB2⟩
  case round =>
    obtain ⟨k, hk, rfl, HO, HB⟩ := hrel
    clear HO2 HB2
    by_cases h0 : 0 < k
    · obtain ⟨p, rfl⟩ : ∃ p, k = p + 1 := ⟨k - 1, by omega⟩
      have hpl : p < l.length := by rw [← HNl.out]; omega
      have hpX : p < (midD a b l (p + 1)).length := by rw [midD_len a b hpl]; exact hpl
      have hgp := midD_get a b hpl hpX
      have hst := midD_step a b hpl
      have HR1 := Lib.hid (HRm.out (.slice A8 N c8) p hpl wr HB.out HO.out.rd)
      obtain ⟨g, c8', e, hgb⟩ := HO.out.block (by omega)
      rw [midD_len a b hpl, ← HNl.out] at e
      injection e with e1 _ e2
      subst e1
      subst e2
      have hPut := fun (W : World) (hO : OwnC w.heap.size W (.slice (some ⟨g, 0, none⟩) N c8) (midD a b l (p + 1))) (d : Int) => put2 hO p hpX d
      have hCel := fun (W : World) (hO : OwnC w.heap.size W (.slice (some ⟨g, 0, none⟩) N c8) (midD a b l (p + 1))) => hO.cells p hpX
      unfold RmPost at HR1
      rw [hgp] at HR1 hPut
      simp only [hgp] at hPut hCel
      have hNo := HNo.out _ (List.getElem_mem hpl)
      have hmem : sh l[p] (dnR a b l[p] (lowD a.length ((midD a b l (p + 1)).drop (p + 1)) l[p]) : Nat) ∈ midD a b l p := by
        rw [← hst]; exact List.mem_set hpX _
      have hNn := HN.out p _ hmem
      clear hmem hpX hgp
      generalize dnR a b l[p] (lowD a.length ((midD a b l (p + 1)).drop (p + 1)) l[p]) = D at *
      generalize upR a b l[p] (l[p].old - prE (midD a b l (p + 1)) p).toNat = U at *
      have HPut : Hid (∀ W : World, OwnC w.heap.size W (.slice (some ⟨g, 0, none⟩) N c8) (midD a b l (p + 1)) → OwnC w.heap.size ((W.setCell ⟨g, p * 4, none⟩ (.int .i64 (l[p].old + (D : Int)))).setCell ⟨g, p * 4 + 2, none⟩ (.int .i64 (l[p].new + (D : Int)))) (.slice (some ⟨g, 0, none⟩) N c8) (midD a b l p)) := Lib.hid (fun W hO => by
        have := hPut W hO (D : Int)
        rw [hst] at this
        exact this)
      have HCel := Lib.hid hCel
      clear hst hPut hCel
      obtain ⟨⟨o0, o1⟩, _, ⟨n0, n1⟩, _⟩ := hNo
      obtain ⟨⟨r0, r1⟩, _, ⟨r2, r3⟩, _⟩ := hNn
      unfold sh at r0 r1 r2 r3
      simp only at r0 r1 r2 r3
      have ez : (((p + 1 : Nat) : Int) - 1) = (p : Int) := by omega
      rw [ez]
      clear ez
      have i1 : (0 : Int) ≤ (p : Int) := by omega
      have i2 : (p : Int) < (N : Int) := by omega
      generalize l[p] = c at *
      obtain ⟨o, ol, nw, nl⟩ := c
      simp only at o0 o1 n0 n1 r0 r1 r2 r3
      have HO1 := Lib.hid HO.out
      go_wp2_with (first
        | (go_at_call 114; refine HR1.out.mono ?_; rintro e w3 ⟨rfl, hb3⟩; have HO3 := Lib.hid (HO1.out.below hb3); have HB3 := Lib.hid (HB.out.trans (hb3.mono HB.out.size)); clear hb3 HR1)
        | (go_at_call 115; refine (move_any g (p * 4) o nw (D : Int) _ (HCel.out _ HO3.out).1.1 (HCel.out _ HO3.out).1.2.2.1 (HCel.out _ HO3.out).2 ⟨r0, by omega⟩ ⟨r2, by omega⟩).mono ?_; rintro e w4 ⟨rfl, rfl⟩))
      go_roundw
      case rel => exact ⟨p, by omega, rfl, Lib.hid (HPut.out _ HO3.out), Lib.hid ((HB3.out.setCell (p := ⟨g, p * 4, none⟩) hgb _).setCell (p := ⟨g, p * 4 + 2, none⟩) hgb _)⟩
      case measure => simp [intOf]
    · obtain rfl : k = 0 := by omega
      rw [show (((0 : Nat) : Int) - 1) = -1 from rfl]
      go_wp2_with fail
      go_ret2
      exact ⟨_, rfl, HO.out, HB.out⟩
end Sl
end
section
namespace Cm
end Cm
namespace Sc
end Sc
open Go.RowKit
namespace Sl
open Cm Sc
def BlPost (x : Bool) (w : World) (e : Ending) (w' : World) : Prop := e = .returned (.bool x) ∧ Below w.heap.size w w'
end Sl
end
end
end Go.Proofs.YtjecfmbecgpbmaaGreatDoor

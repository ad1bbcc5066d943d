/-
  The program's room of package slide: how often a change can be moved up and down. Conditions: a script that fits, lists of at most 4096 lines.
-/
import Derived.Test.YtlnghfmedkfkmaaGreatDoorSliProg
import Derived.Test.YtlnghfmedkfkmaaGreatDoorScrFitR
namespace Go.Proofs.YtlnghfmedkfkmaaGreatDoor
namespace Cm
end Cm
namespace Sc
end Sc
open Go.RowKit
namespace Sl
open Cm Sc
theorem changed_pure (c : Ch) (va vb : Value) (w : World) (hp : Pure c) (hb : ChN c) :
    Calls Tryz.prog 146 #[.agg #[.int .i64 c.old, .int .i64 c.oldLen, .int .i64 c.new, .int .i64 c.newLen], va, vb] w (ChPost (if c.newLen = 0 then va else vb) (frC c) (frC c + lnC c) true w) := by
  obtain ⟨⟨a0, a1⟩, ⟨b0, b1⟩, ⟨c0, c1⟩, d0, d1⟩ := hb
  by_cases h : c.newLen = 0
  · have e : frC c = c.old ∧ lnC c = c.oldLen := by unfold frC lnC; exact ⟨if_pos h, if_pos h⟩
    rw [e.1, e.2, if_pos h]
    exact changed_rem _ _ _ _ va vb w h ⟨a0, by omega⟩ ⟨b0, by omega⟩
  · have e : frC c = c.new ∧ lnC c = c.newLen := by unfold frC lnC; exact ⟨if_neg h, if_neg h⟩
    rw [e.1, e.2, if_neg h]
    exact changed_add _ _ _ _ va vb w (hp.resolve_left h) h ⟨c0, by omega⟩ ⟨d0, by omega⟩
theorem upR_not {a b : List Int} {c : Ch} (h : ¬ Pure c) (L : Nat) : upR a b c L = 0 := upR_F (.inl (by unfold upB; exact decide_eq_false (fun h2 => h h2.1)))
theorem dnR_not {a b : List Int} {c : Ch} (h : ¬ Pure c) (L : Nat) : dnR a b c L = 0 := dnR_F (.inl (by unfold dnB; exact decide_eq_false (fun h2 => h h2.1)))
def RmPost (a b : List Int) (l : List Ch) (k : Nat) (c : Ch) (w : World) (e : Ending) (w' : World) : Prop :=
  e = .returned (.tuple #[.int .i64 (upR a b c (c.old - prE l k).toNat : Nat), .int .i64 (dnR a b c (lowD a.length (l.drop (k + 1)) c) : Nat)]) ∧ Below w.heap.size w w'
set_option maxRecDepth 100000 in
set_option maxHeartbeats 4000000 in
theorem room_no (v : Value) (l : List Ch) (va vb : Value) (a b : List Int) (k : Nat) (w : World) (h : RdC w v l) (hk : k < l.length) (hp : ¬ Pure l[k]) :
    Calls Tryz.prog 107 #[v, va, vb, .int .i64 (k : Int)] w (RmPost a b l k l[k] w) := by
  unfold RmPost
  rw [upR_not hp, dnR_not hp]
  obtain ⟨A, cp, rfl⟩ := h.form
  obtain ⟨b, off, rfl, c0, c1, c2, c3⟩ := RdC_at h k hk
  clear h
  have hp2 : l[k].oldLen ≠ 0 ∧ l[k].newLen ≠ 0 := ⟨fun e => hp (.inr e), fun e => hp (.inl e)⟩
  clear hp
  generalize l[k] = c at *
  obtain ⟨o, ol, nw, nl⟩ := c
  simp only at c0 c1 c2 c3 hp2
  obtain ⟨n1, n2⟩ := hp2
  have HN := Lib.hid (And.intro n1 n2)
  clear n1 n2
  generalize l.length = N at *
  have q1 : (0 : Int) ≤ (k : Int) := by omega
  have q2 : (k : Int) < (N : Int) := by omega
  go_enter Tryz.func107, Tryz.ntmps107
  go_wp2_with (go_at_call 146; refine (changed_no _ _ _ _ _ _ _ HN.out.1 HN.out.2).mono ?_; rintro e w1 ⟨rfl, hb1⟩; have HB1 := Lib.hid hb1; clear hb1)
  go_ret2
  exact ⟨rfl, (HB1.out.alloc HB1.out.size _)⟩
theorem gI_at {T : List Int} {i : Nat} (h : i < T.length) : gI T (i : Int) = T[i] := by
  unfold gI
  rw [Int.toNat_natCast, List.getD_eq_getElem?_getD, List.getElem?_eq_getElem h, Option.getD_some]
theorem beq_dec (x y : Int) : decide (x = y) = (x == y) := by
  by_cases h : x = y
  · rw [decide_eq_true h, beq_iff_eq.2 h]
  · rw [decide_eq_false h, beq_eq_false_iff_ne.2 h]
theorem upB_at {a b : List Int} {c : Ch} (hp : Pure c) {f e u : Nat} (hf : frC c = f) (he : frC c + lnC c = e) (hu : u + 1 ≤ f) (hfe : f ≤ e) (h1 : e - 1 - u < (txt a b c).length) (h2 : f - 1 - u < (txt a b c).length) :
    upB a b (sh c (-(u : Int))) = ((txt a b c)[e - 1 - u] == (txt a b c)[f - 1 - u]) := by
  unfold upB
  have e0 : Pure (sh c (-(u : Int))) := hp
  have e1 : txt a b (sh c (-(u : Int))) = txt a b c := rfl
  have e2 : frC (sh c (-(u : Int))) = frC c - u := by unfold frC sh; simp only; split <;> omega
  have e3 : lnC (sh c (-(u : Int))) = lnC c := rfl
  rw [e1, e2, e3, show frC c - (u : Int) + lnC c - 1 = ((e - 1 - u : Nat) : Int) from by omega, show frC c - (u : Int) - 1 = ((f - 1 - u : Nat) : Int) from by omega, gI_at h1, gI_at h2, ← beq_dec]
  exact decide_eq_decide.2 ⟨fun h => h.2, fun h => ⟨e0, h⟩⟩
theorem dnB_at {a b : List Int} {c : Ch} (hp : Pure c) {f e d : Nat} (hf : frC c = f) (he : frC c + lnC c = e) (h1 : f + d < (txt a b c).length) (h2 : e + d < (txt a b c).length) :
    dnB a b (sh c (d : Int)) = ((txt a b c)[f + d] == (txt a b c)[e + d]) := by
  unfold dnB
  have e0 : Pure (sh c (d : Int)) := hp
  have e1 : txt a b (sh c (d : Int)) = txt a b c := rfl
  have e2 : frC (sh c (d : Int)) = frC c + d := by unfold frC sh; simp only; split <;> omega
  have e3 : lnC (sh c (d : Int)) = lnC c := rfl
  rw [e1, e2, e3, show frC c + (d : Int) + lnC c = ((e + d : Nat) : Int) from by omega, show frC c + (d : Int) = ((f + d : Nat) : Int) from by omega, gI_at h1, gI_at h2, ← beq_dec]
  exact decide_eq_decide.2 ⟨fun h => h.2, fun h => ⟨e0, h⟩⟩
theorem up_step {a b : List Int} {c : Ch} {u ab U : Nat} (h : u + upR a b (sh c (-(u : Int))) (ab - u) = U) (hB : upB a b (sh c (-(u : Int))) = true) (hu : u < ab) : (u + 1) + upR a b (sh c (-((u + 1 : Nat) : Int))) (ab - (u + 1)) = U := by
  rw [upR_T hB (by omega), sh_sh, show -(u : Int) + -1 = -((u + 1 : Nat) : Int) from by omega, show ab - u - 1 = ab - (u + 1) from by omega] at h
  omega
theorem up_stop {a b : List Int} {c : Ch} {u ab U : Nat} (h : u + upR a b (sh c (-(u : Int))) (ab - u) = U) (hB : upB a b (sh c (-(u : Int))) = false ∨ ab ≤ u) : U = u := by
  rw [upR_F (hB.imp id (fun h => by omega))] at h
  omega
theorem dn_step {a b : List Int} {c : Ch} {u ab U : Nat} (h : u + dnR a b (sh c (u : Int)) (ab - u) = U) (hB : dnB a b (sh c (u : Int)) = true) (hu : u < ab) : (u + 1) + dnR a b (sh c ((u + 1 : Nat) : Int)) (ab - (u + 1)) = U := by
  rw [dnR_T hB (by omega), sh_sh, show (u : Int) + 1 = ((u + 1 : Nat) : Int) from by omega, show ab - u - 1 = ab - (u + 1) from by omega] at h
  omega
theorem dn_stop {a b : List Int} {c : Ch} {u ab U : Nat} (h : u + dnR a b (sh c (u : Int)) (ab - u) = U) (hB : dnB a b (sh c (u : Int)) = false ∨ ab ≤ u) : U = u := by
  rw [dnR_F (hB.imp id (fun h => by omega))] at h
  omega
set_option maxRecDepth 100000 in
set_option maxHeartbeats 4000000 in
theorem room_pure (v : Value) (l : List Ch) (va vb : Value) (a b : List Int) (k : Nat) (w : World) (h : RdC w v l) (hl : l.length ≤ 1000000) (hk : k < l.length) (ha : RdV w va (intsV a)) (hb : RdV w vb (intsV b)) (hla : a.length ≤ 4096) (hlb : b.length ≤ 4096) (hf : FitL a b true 0 0 l) (hp : Pure l[k]) :
    Calls Tryz.prog 107 #[v, va, vb, .int .i64 (k : Int)] w (RmPost a b l k l[k] w) := by
  have hN := ok_chN (show inI (a.length : Int) from ⟨by omega, by omega⟩) (show inI (b.length : Int) from ⟨by omega, by omega⟩) hf.1
  have hat := fit_at hf k hk
  have HFr := Lib.hid (fun wq (hq : Below w.heap.size w wq) => free_any v l a.length k wq (h.below hq) hl hk hN ⟨by omega, by omega⟩)
  have HCh := Lib.hid (changed_pure l[k] va vb w hp (hN _ (List.getElem_mem hk)))
  obtain ⟨A, cp, rfl⟩ := h.form
  obtain ⟨bl, off, rfl, c0, c1, c2, c3⟩ := RdC_at h k hk
  obtain ⟨Aa, ca, rfl⟩ := ha.form
  obtain ⟨Ab, cb, rfl⟩ := hb.form
  rw [intsV_len] at ha hb HCh ⊢
  rw [intsV_len] at HCh ⊢
  have HT : Hid (∃ At ct n, (if l[k].newLen = 0 then Value.slice Aa a.length ca else Value.slice Ab b.length cb) = .slice At n ct ∧ n = (txt a b l[k]).length ∧ n ≤ 4096 ∧ ∀ wq, Below w.heap.size w wq → RdV wq (.slice At n ct) (intsV (txt a b l[k]))) := Lib.hid (by
    unfold txt
    by_cases hz : l[k].newLen = 0
    · simp only [if_pos hz]; exact ⟨_, _, _, rfl, rfl, hla, fun wq hq => ha.below hq⟩
    · simp only [if_neg hz]; exact ⟨_, _, _, rfl, rfl, hlb, fun wq hq => hb.below hq⟩)
  obtain ⟨At, ct, n, hv, hn, hn2, hT⟩ := HT.out
  rw [hv] at HCh
  have HTx := Lib.hid hT
  clear hT HT hv ha hb
  obtain ⟨o0, o1, n0, n1, om, nm, ne, up0, up, upN, up00, upNN, dn, dnM, dnN, dnE, dnL⟩ := hat
  have hfe : 0 ≤ frC l[k] ∧ 0 ≤ lnC l[k] ∧ l[k].old - prE l k ≤ frC l[k] ∧ frC l[k] + lnC l[k] + (topE a.length (l.drop (k + 1)) - l[k].old - l[k].oldLen) ≤ (n : Int) := by
    rw [hn]
    unfold frC lnC txt
    split <;> exact ⟨by omega, by omega, by omega, by omega⟩
  have hab : 0 ≤ l[k].old - prE l k := by omega
  have hbe : 0 ≤ topE a.length (l.drop (k + 1)) - l[k].old - l[k].oldLen := by omega
  obtain ⟨U, hU⟩ : ∃ U, upR a b l[k] (l[k].old - prE l k).toNat = U := ⟨_, rfl⟩
  obtain ⟨D, hD⟩ : ∃ D, dnR a b l[k] (lowD a.length (l.drop (k + 1)) l[k]) = D := ⟨_, rfl⟩
  unfold RmPost
  rw [hU, hD]
  unfold lowD at hD
  rw [show topE (a.length : Int) (l.drop (k + 1)) - (l[k].old + l[k].oldLen) = topE (a.length : Int) (l.drop (k + 1)) - l[k].old - l[k].oldLen from by omega] at hD
  clear up0 up upN up00 upNN dn dnM dnN dnE dnL ne om nm hf h hN n0 n1 o0 o1
  generalize topE (a.length : Int) (l.drop (k + 1)) - l[k].old - l[k].oldLen = be' at *
  generalize l[k].old - prE l k = ab' at *
  obtain ⟨ab, rfl⟩ : ∃ ab : Nat, ab' = (ab : Int) := ⟨ab'.toNat, by omega⟩
  obtain ⟨be, rfl⟩ : ∃ be : Nat, be' = (be : Int) := ⟨be'.toNat, by omega⟩
  rw [Int.toNat_natCast] at hU hD
  have HPu := Lib.hid hp
  have HNt := Lib.hid hn
  clear hp hn
  obtain ⟨f, hf⟩ : ∃ f : Nat, frC l[k] = (f : Int) := ⟨(frC l[k]).toNat, by omega⟩
  obtain ⟨g, hg⟩ : ∃ g : Nat, frC l[k] + lnC l[k] = (g : Int) := ⟨(frC l[k] + lnC l[k]).toNat, by omega⟩
  have HUB : Hid (∀ u : Nat, u + 1 ≤ f → ∀ (h1 : g - 1 - u < (txt a b l[k]).length) (h2 : f - 1 - u < (txt a b l[k]).length), upB a b (sh l[k] (-(u : Int))) = ((txt a b l[k])[g - 1 - u] == (txt a b l[k])[f - 1 - u])) := Lib.hid (fun u hu h1 h2 => upB_at HPu.out hf hg hu (by omega) h1 h2)
  have HDB : Hid (∀ d : Nat, ∀ (h1 : f + d < (txt a b l[k]).length) (h2 : g + d < (txt a b l[k]).length), dnB a b (sh l[k] (d : Int)) = ((txt a b l[k])[f + d] == (txt a b l[k])[g + d])) := Lib.hid (fun d h1 h2 => dnB_at HPu.out hf hg h1 h2)
  have hfg : f ≤ g ∧ ab ≤ f ∧ g + be ≤ n := ⟨by omega, by omega, by omega⟩
  rw [hg, hf] at HCh
  have HU0 : Hid (0 + upR a b (sh l[k] (-((0 : Nat) : Int))) (ab - 0) = U) := Lib.hid (by rw [Nat.zero_add, Nat.sub_zero, show (-((0 : Nat) : Int)) = 0 from rfl, sh_zero]; exact hU)
  have HD0 : Hid (0 + dnR a b (sh l[k] ((0 : Nat) : Int)) (be - 0) = D) := Lib.hid (by rw [Nat.zero_add, Nat.sub_zero, show ((0 : Nat) : Int) = 0 from rfl, sh_zero]; exact hD)
  obtain ⟨hfg1, hfg2, hfg3⟩ := hfg
  clear hU hD hab hbe hfe hf hg HPu
  generalize txt a b l[k] = T at *
  generalize l[k] = c at *
  obtain ⟨o, ol, nw, nl⟩ := c
  simp only at c0 c1 c2 c3
  generalize l.length = N at *
  have q1 : (0 : Int) ≤ (k : Int) := by omega
  have q2 : (k : Int) < (N : Int) := by omega
  go_enter Tryz.func107, Tryz.ntmps107
  go_wp2_with (first
    | (go_at_call 146; refine HCh.out.mono ?_; rintro e w1 ⟨rfl, hb1⟩; have HB1 := Lib.hid hb1; clear hb1 HCh)
    | (go_at_call 147; refine (HFr.out _ (HB1.out.alloc HB1.out.size _)).mono ?_; rintro e w3 ⟨rfl, q, rfl⟩))
  have HB2 := Lib.hid (below_drewN (HB1.out.alloc HB1.out.size (.cells #[.int .i64 (f : Int), .int .i64 (g : Int)] 76)) q)
  have g0 : ((w1.alloc (.cells #[.int .i64 (f : Int), .int .i64 (g : Int)] 76)).drewN q).cell? ⟨w1.heap.size, 0, none⟩ = some (.int .i64 (f : Int)) := by simp
  have g1 : ((w1.alloc (.cells #[.int .i64 (f : Int), .int .i64 (g : Int)] 76)).drewN q).cell? ⟨w1.heap.size, 1, none⟩ = some (.int .i64 (g : Int)) := by simp
  generalize (w1.alloc (.cells #[.int .i64 (f : Int), .int .i64 (g : Int)] 76)).drewN q = w2 at *
  generalize w1.heap.size = G at *
  have HTc := Lib.hid (HTx.out w2 HB2.out)
  clear HB1 HFr HTx c0 c1 c2 c3
  go_loopw [15] (fun u' wr => ∃ u : Nat, u' = .int .i64 (u : Int) ∧ u ≤ ab ∧ Hid (u + upR a b (sh ⟨o, ol, nw, nl⟩ (-(u : Int))) (ab - u) = U) ∧ ∃ q, wr = w2.drewN q) (fun u' _ => ab - (intOf u').toNat)
  case atStart => exact ⟨0, rfl, Nat.zero_le _, HU0, 0, rfl⟩
  case round =>
    obtain ⟨u, rfl, hu, HE, q, rfl⟩ := hrel
    clear HU0
    by_cases hlt : u < ab
    · have p1 : g - 1 - u < T.length := by rw [← HNt.out]; omega
      have p2 : f - 1 - u < T.length := by rw [← HNt.out]; omega
      obtain ⟨bt, ot, rfl, x1⟩ := RdV_at HTc.out (g - 1 - u) p1
      obtain ⟨bt', ot', e, x2⟩ := RdV_at HTc.out (f - 1 - u) p2
      cases e
      have hUB := HUB.out u (by omega) p1 p2
      have HSt := Lib.hid (fun hB => up_step HE.out hB hlt)
      have HSp := Lib.hid (fun hB => up_stop HE.out (.inl hB))
      generalize T[g - 1 - u] = x at x1 hUB
      generalize T[f - 1 - u] = y at x2 hUB
      have dl : decide ((u : Int) < (ab : Int)) = true := decide_eq_true (by omega)
      have dl2 : decide (u < ab) = true := decide_eq_true hlt
      have i1 : (u : Int) < (ab : Int) := by omega
      clear p1 p2 HE
      by_cases hx : x = y
      · have hz : (x == y) = true := beq_iff_eq.2 hx
        have HN1 := Lib.hid (HSt.out (by rw [hUB, hz]))
        clear HSt HSp hUB hx
        go_wp2_with fail
        go_quiet (fail)
        go_wp2_with fail
        go_roundw
        case rel => exact ⟨u + 1, by go_num, by omega, HN1, _, rfl⟩
        case measure => simp [intOf]; omega
      · have hz : (x == y) = false := beq_eq_false_iff_ne.2 hx
        have HUf := Lib.hid (HSp.out (by rw [hUB, hz]))
        clear HSt HSp hUB hx
        go_wp2_with fail
        go_quiet (fail)
        go_wp2_with fail
        go_loopw [16] (fun d' wr => ∃ d : Nat, d' = .int .i64 (d : Int) ∧ d ≤ be ∧ Hid (d + dnR a b (sh ⟨o, ol, nw, nl⟩ (d : Int)) (be - d) = D) ∧ ∃ q, wr = w2.drewN q) (fun d' _ => be - (intOf d').toNat)
        case atStart => exact ⟨0, rfl, Nat.zero_le _, HD0, _, World.drewN_drewN _ _ _⟩
        case round =>
          obtain ⟨d, rfl, hd, HE, q, rfl⟩ := hrel
          clear HD0
          by_cases hlt : d < be
          · have p1 : f + d < T.length := by rw [← HNt.out]; omega
            have p2 : g + d < T.length := by rw [← HNt.out]; omega
            obtain ⟨bt, ot, e, x1⟩ := RdV_at HTc.out (f + d) p1
            cases e
            obtain ⟨bt', ot', e, x2⟩ := RdV_at HTc.out (g + d) p2
            cases e
            have hDB := HDB.out d p1 p2
            have HSt := Lib.hid (fun hB => dn_step HE.out hB hlt)
            have HSp := Lib.hid (fun hB => dn_stop HE.out (.inl hB))
            generalize T[f + d] = x at x1 hDB
            generalize T[g + d] = y at x2 hDB
            have dl : decide ((d : Int) < (be : Int)) = true := decide_eq_true (by omega)
            have dl2 : decide (d < be) = true := decide_eq_true hlt
            have i1 : (d : Int) < (be : Int) := by omega
            clear p1 p2 HE
            by_cases hx : x = y
            · have hz : (x == y) = true := beq_iff_eq.2 hx
              have HN1 := Lib.hid (HSt.out (by rw [hDB, hz]))
              clear HSt HSp hDB hx
              go_wp2_with fail
              go_quiet (fail)
              go_wp2_with fail
              go_roundw
              case rel => exact ⟨d + 1, by go_num, by omega, HN1, _, rfl⟩
              case measure => simp [intOf]; omega
            · have hz : (x == y) = false := beq_eq_false_iff_ne.2 hx
              have HN1 := Lib.hid (HSp.out (by rw [hDB, hz]))
              clear HSt HSp hDB hx
              go_wp2_with fail
              go_quiet (fail)
              go_wp2_with fail
              go_ret2
              exact ⟨by rw [HUf.out, HN1.out]; rfl, below_drewN (below_drewN HB2.out _) _⟩
          · have HN1 := Lib.hid (dn_stop HE.out (.inr (by omega)))
            have dl : decide ((d : Int) < (be : Int)) = false := decide_eq_false (by omega)
            have dl2 : decide (d < be) = false := decide_eq_false hlt
            clear HE
            go_wp2_with fail
            go_quiet (fail)
            go_wp2_with fail
            go_ret2
            exact ⟨by rw [HUf.out, HN1.out]; rfl, below_drewN (below_drewN HB2.out _) _⟩
    · have HUf := Lib.hid (up_stop HE.out (.inr (by omega)))
      have dl : decide ((u : Int) < (ab : Int)) = false := decide_eq_false (by omega)
      have dl2 : decide (u < ab) = false := decide_eq_false hlt
      clear HE
      go_wp2_with fail
      go_quiet (fail)
      go_wp2_with fail
      go_loopw [16] (fun d' wr => ∃ d : Nat, d' = .int .i64 (d : Int) ∧ d ≤ be ∧ Hid (d + dnR a b (sh ⟨o, ol, nw, nl⟩ (d : Int)) (be - d) = D) ∧ ∃ q, wr = w2.drewN q) (fun d' _ => be - (intOf d').toNat)
      case atStart => exact ⟨0, rfl, Nat.zero_le _, HD0, _, World.drewN_drewN _ _ _⟩
      case round =>
        obtain ⟨d, rfl, hd, HE, q, rfl⟩ := hrel
        clear HD0
        by_cases hlt : d < be
        · have p1 : f + d < T.length := by rw [← HNt.out]; omega
          have p2 : g + d < T.length := by rw [← HNt.out]; omega
          obtain ⟨bt, ot, e, x1⟩ := RdV_at HTc.out (f + d) p1
          subst e
          obtain ⟨bt', ot', e, x2⟩ := RdV_at HTc.out (g + d) p2
          cases e
          have hDB := HDB.out d p1 p2
          have HSt := Lib.hid (fun hB => dn_step HE.out hB hlt)
          have HSp := Lib.hid (fun hB => dn_stop HE.out (.inl hB))
          generalize T[f + d] = x at x1 hDB
          generalize T[g + d] = y at x2 hDB
          have dl : decide ((d : Int) < (be : Int)) = true := decide_eq_true (by omega)
          have dl2 : decide (d < be) = true := decide_eq_true hlt
          have i1 : (d : Int) < (be : Int) := by omega
          clear p1 p2 HE
          by_cases hx : x = y
          · have hz : (x == y) = true := beq_iff_eq.2 hx
            have HN1 := Lib.hid (HSt.out (by rw [hDB, hz]))
            clear HSt HSp hDB hx
            go_wp2_with fail
            go_quiet (fail)
            go_wp2_with fail
            go_roundw
            case rel => exact ⟨d + 1, by go_num, by omega, HN1, _, rfl⟩
            case measure => simp [intOf]; omega
          · have hz : (x == y) = false := beq_eq_false_iff_ne.2 hx
            have HN1 := Lib.hid (HSp.out (by rw [hDB, hz]))
            clear HSt HSp hDB hx
            go_wp2_with fail
            go_quiet (fail)
            go_wp2_with fail
            go_ret2
            exact ⟨by rw [HUf.out, HN1.out]; rfl, below_drewN (below_drewN HB2.out _) _⟩
        · have HN1 := Lib.hid (dn_stop HE.out (.inr (by omega)))
          have dl : decide ((d : Int) < (be : Int)) = false := decide_eq_false (by omega)
          have dl2 : decide (d < be) = false := decide_eq_false hlt
          clear HE
          go_wp2_with fail
          go_quiet (fail)
          go_wp2_with fail
          go_ret2
          exact ⟨by rw [HUf.out, HN1.out]; rfl, below_drewN (below_drewN HB2.out _) _⟩
theorem room_any (v : Value) (l : List Ch) (va vb : Value) (a b : List Int) (k : Nat) (w : World) (h : RdC w v l) (hl : l.length ≤ 1000000) (hk : k < l.length) (ha : RdV w va (intsV a)) (hb : RdV w vb (intsV b)) (hla : a.length ≤ 4096) (hlb : b.length ≤ 4096) (hf : FitL a b true 0 0 l) :
    Calls Tryz.prog 107 #[v, va, vb, .int .i64 (k : Int)] w (RmPost a b l k l[k] w) := by
  by_cases hp : Pure l[k]
  · exact room_pure v l va vb a b k w h hl hk ha hb hla hlb hf hp
  · exact room_no v l va vb a b k w h hk hp
end Sl
end Go.Proofs.YtlnghfmedkfkmaaGreatDoor

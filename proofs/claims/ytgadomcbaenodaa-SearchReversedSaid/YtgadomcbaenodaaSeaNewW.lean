/-
  Walk of layer 6: the program's newWalker. Condition: a valid automaton of at most 8000 states.
-/
import Derived.Test.YtgadomcbaenodaaSeaN
import Derived.Test.YtgadomcbaenodaaSeaS
import Derived.Deep.Cut
import Derived.Deep.CutRange
import Derived.BigQuiet
import Derived.Deep.QuietTactic
import Derived.StillTailTactics
namespace Go.Proofs.Ytgadomcbaenodaa
open Go.RowKit
namespace Se
open Cm Rx Au
/-- What newWalker leaves. -/
def NewPost (ss : List St) (st : Nat) (s : ByteArray) (w : World) (e : Ending) (w' : World) : Prop :=
  ∃ P D, e = .returned (.pointer (some ⟨P.B, 0, none⟩)) ∧ P.s = s ∧ WkS ss w' P ∧ WkT w' P ∧ Wk ss.length st w w' w' P D (.slice none 0 0) (.slice none 0 0) ∧ DP ss (Tx.bs s) (s.size + 1) D
theorem step_lt {ss : List St} {i : Nat} (h : i < ss.length) (r : Nat) : freeX ss r (2 * i) = ((ss[i].kind == 1 || ss[i].kind == 2 || ss[i].kind == 3) && ss[i].next.toNat == r) ∧ freeX ss r (2 * i + 1) = (ss[i].kind == 1 && ss[i].other.toNat == r) ∧ readX ss r (2 * i) = (ss[i].kind == 0 && ss[i].next.toNat == r) ∧ readX ss r (2 * i + 1) = false := by
  have e1 : 2 * i / 2 = i := by omega
  have e2 : (2 * i + 1) / 2 = i := by omega
  have e3 : 2 * i % 2 = 0 := by omega
  unfold freeX readX
  rw [e1, e2, List.getElem?_eq_getElem h]
  simp [e3]
/-- No step of a state is listed. -/
theorem lists_no {X : Nat → Nat → Bool} {T : Nat → Nat} {n i : Nat} (h0 : ∀ q, X q (2 * i) = false) (h1 : ∀ q, X q (2 * i + 1) = false) : lastF X n (2 * (i + 1)) = lastF X n (2 * i) ∧ befF X T n (2 * (i + 1)) = befF X T n (2 * i) :=
  ⟨(lastF_no h1).trans (lastF_no h0), (befF_no h1).trans (befF_no h0)⟩
/-- One step is listed. -/
theorem lists_one {X : Nat → Nat → Bool} {T : Nat → Nat} {n m r : Nat} (hr : r < n) (hX : ∀ q, X q m = decide (r = q)) (hT : T m = r) : ((lastF X n m).set r (m : Int)) = lastF X n (m + 1) ∧ (befF X T n m).set m ((lastF X n m).getD r 0) = befF X T n (m + 1) := by
  have h : X r m = true := by rw [hX]; simp
  have hg : (lastF X n m).getD r 0 = prevS (X r) m := by
    rw [List.getD_eq_getElem?_getD, List.getElem?_eq_getElem (by rw [lastF_len]; exact hr), lastF_get hr]; rfl
  refine ⟨lastF_yes h (fun q hq => by rw [hX] at hq; simpa using (of_decide_eq_true hq).symm), ?_⟩
  rw [hg]
  exact befF_yes hT h
theorem add_anyT (gl gb : Nat) (n m : Nat) (L Bf : List Int) (t q : Nat) (T : Int) (hT : T = (t : Int)) (w : World) (hL : w.heap[gl]? = some (.cells (intsV L).toArray tInt (0, 0))) (hB : w.heap[gb]? = some (.cells (intsV Bf).toArray tInt (0, 0))) (hne : gl ≠ gb) (hn : L.length = n) (hm : Bf.length = m) (hq : q < n) (ht : t < m) :
    Calls Try.prog 59 #[.agg #[.slice (some ⟨gl, 0, none⟩) n n, .slice (some ⟨gb, 0, none⟩) m m], .int .i64 T, .int .i64 q] w (AddPost gl gb L Bf t q (L.getD q 0) w) := by
  subst hT
  exact add_any gl gb n m L Bf t q w hL hB hne hn hm hq ht
/-- The whole of a new walker. -/
theorem new_fin {ss : List St} {n st bA oA c base : Nat} {s : ByteArray} {w W0 w' : World} {Y : Lay} {vacc : Value} {accs : List Int} (hT : ∃ cs t z, w.heap[bA]? = some (Obj.cells cs t z) ∧ callT t = false) (hok : ∀ k (h : k < ss.length), okS ss.length ss[k] = true) (hst : ∀ j (h : j < ss.length), StAt w bA (oA + j * 7) ss[j]) (hn : n = ss.length) (hW : Below w.heap.size w W0)
    (hA : NwA n st bA oA c s W0 w' Y vacc (lastF (readX ss) n (2 * n)) (befF (readX ss) (tgtF ss) n (2 * n)) (lastF (freeX ss) n (2 * n)) (befF (freeX ss) (tgtF ss) n (2 * n))) (hB : NwB ss base n w' vacc accs) (hL : LayLt Y base) (_hz : base ≤ w'.heap.size) (h1 : 1 ≤ ss.length) : NewPost ss st s w (.returned (.pointer (some ⟨Y.B, 0, none⟩))) w' := by
  subst hn
  obtain ⟨cs, t, z, hty, htf⟩ := hT
  have hw : Below w.heap.size w w' := hW.trans (hA.bel.mono hW.size)
  have ho := hA.ok
  have hlo := ho.lo
  have hsz := hW.size
  have hbA := lt_some hty
  have hbA2 : bA ≠ Y.B ∧ bA ≠ Y.gs := ⟨by omega, by omega⟩
  obtain ⟨l1, l2, l3, l4, l5, l6⟩ := hL
  obtain ⟨ba, hba, hform, hcell, htyp⟩ : ∃ ba, (ba ≠ Y.B ∧ ba ≠ Y.gs) ∧ (∃ ca, vacc = .slice (if accs = [] then none else some ⟨ba, 0, none⟩) accs.length ca) ∧ (∀ j (h : j < accs.length), w'.cell? ⟨ba, j, none⟩ = some (.int .i64 accs[j])) ∧ (accs = [] ∨ ∃ cs z, w'.heap[ba]? = some (Obj.cells cs tInt z)) := by
    by_cases e : accs = []
    · subst e
      exact ⟨Y.B + Y.gs + 1, ⟨by omega, by omega⟩, ⟨0, by rw [hB.nil rfl, if_pos rfl]; rfl⟩, fun j h => absurd h (Nat.not_lt_zero _), .inl rfl⟩
    · rcases hB.own.2 with ⟨_, h⟩ | ⟨g, cap, cur, e1, hb, hg, r⟩
      · exact absurd (List.eq_nil_of_length_eq_zero h) e
      · have hown := hB.own
        rw [e1] at hown
        refine ⟨g, ⟨by omega, by omega⟩, ⟨cap, by rw [if_neg e]; exact e1⟩, fun j h => ?_, .inr ⟨cur, _, hg⟩⟩
        have := hown.cellAt j (by rw [Nat.mul_one]; exact h)
        rw [this]
        simp [intsV, h]
  refine ⟨⟨Y.B, Y.gs, bA, oA, c, s, Y.R1, Y.R2, Y.F1, Y.F2, vacc, ba, accs⟩, ⟨(s.size : Int) + 1, [], [], List.replicate ss.length (-1), 0⟩, rfl, rfl, ?_, ?_, ?_, ?_⟩
  · refine ⟨h1, hok, fun j hj => (hst j hj).below hw, hA.r1, hA.r2, hA.f1, hA.f2, hform, hcell, fun x => ?_, hB.len, ho.b.1, hbA2, ⟨ho.b.2.1, ho.g.1⟩, ⟨ho.b.2.2.1, ho.g.2.1⟩, ⟨ho.b.2.2.2.1, ho.g.2.2.1⟩, ⟨ho.b.2.2.2.2, ho.g.2.2.2⟩, hba⟩
    rw [hB.mem]
    exact ⟨fun ⟨k, e, _, h, h2⟩ => ⟨k, e, h, h2⟩, fun ⟨k, e, h, h2⟩ => ⟨k, e, h, h, h2⟩⟩
  · exact ⟨⟨cs, t, z, (hw.block _ hbA).trans hty, htf⟩, htyp⟩
  · refine ⟨hA.blk, hA.gs, by simp, ⟨rfl, .inl ⟨rfl, rfl⟩⟩, ⟨rfl, .inl ⟨rfl, rfl⟩⟩, fun k h => (by cases h), fun k _ _ _ => rfl, Nat.le_refl _, hw, ?_⟩
    exact ⟨by show w.heap.size ≤ Y.B; omega, by show w.heap.size ≤ Y.gs; omega, lt_some hA.blk, lt_some hA.gs, hw.size⟩
  · have hp := places_end ss (Tx.bs s)
    have hl : (Tx.bs s).length = s.size := by simp [Tx.bs]
    rw [hl] at hp
    refine ⟨hp, by show (s.size : Int) + 1 = _; omega, by simp, fun x hx => .inl ?_⟩
    have := List.mem_replicate.1 hx
    exact this.2
set_option maxRecDepth 100000 in
set_option maxHeartbeats 4000000 in
theorem newWalker_any (ss : List St) (st : Nat) (bA oA c : Nat) (s : ByteArray) (w : World) (h1 : 1 ≤ ss.length) (h2 : ss.length ≤ 8000) (hs : s.size ≤ 100000) (hok : ∀ k (h : k < ss.length), okS ss.length ss[k] = true) (hst : ∀ j (h : j < ss.length), StAt w bA (oA + j * 7) ss[j]) (hty : ∃ cs t z, w.heap[bA]? = some (Obj.cells cs t z) ∧ callT t = false) :
    Calls Try.prog 44 #[.agg #[.slice (some ⟨bA, oA, none⟩) ss.length c, .int .i64 st], .string s] w (NewPost ss st s w) := by
  have HOk := Lib.hid hok
  have HSt := Lib.hid hst
  have HTy := Lib.hid hty
  clear hok hst hty
  have HN1 := Lib.hid (fun W => newSteps_any ss.length W h1 h2)
  obtain ⟨n, hn⟩ : ∃ n, n = ss.length := ⟨_, rfl⟩
  have HN := Lib.hid hn
  rw [← hn] at h1 h2 HN1 ⊢
  clear hn
  have hsw : IntKind.i64.wrap ((s.size : Int) + 1) = (s.size : Int) + 1 := IntWalk.i64_in _ (by omega)
  have HC : Hid (∀ W : World, (W.alloc (.cells #[.int .i64 (-1)] tInt)).cell? ⟨W.heap.size, 0, none⟩ = some (.int .i64 (-1))) := Lib.hid (fun W => by
    rw [World.cell?_alloc_mark]; rfl)
  have HCd : Hid (∀ W : World, (W.alloc (.cells #[.int .i64 (-1)] tInt)).drew.cell? ⟨W.heap.size, 0, none⟩ = some (.int .i64 (-1))) := Lib.hid (fun W => HC.out W)
  go_enter Try.func44, Try.ntmps44
  go_upto_region 2 with fail
  have c0 : (w.alloc (.cells #[.slice (some ⟨bA, oA, none⟩) n c, .int .i64 st] 32)).cell? ⟨w.heap.size, 0, none⟩ = some (.slice (some ⟨bA, oA, none⟩) n c) := by rw [World.cell?_alloc_mark]; rfl
  have c1 : (w.alloc (.cells #[.slice (some ⟨bA, oA, none⟩) n c, .int .i64 st] 32)).cell? ⟨w.heap.size, 1, none⟩ = some (.int .i64 st) := by rw [World.cell?_alloc_mark]; rfl
  have HW0 : Hid (Below w.heap.size w (w.alloc (.cells #[.slice (some ⟨bA, oA, none⟩) n c, .int .i64 st] 32)) ∧ (w.alloc (.cells #[.slice (some ⟨bA, oA, none⟩) n c, .int .i64 st] 32)).heap[w.heap.size]? = some (.cells #[.slice (some ⟨bA, oA, none⟩) n c, .int .i64 st] 32 (0, 0))) := Lib.hid ⟨(Below.refl _ _).alloc (Nat.le_refl _) _, heap_new w _⟩
  generalize w.alloc (.cells #[.slice (some ⟨bA, oA, none⟩) n c, .int .i64 st] 32) = W0 at c0 c1 HW0 ⊢
  obtain ⟨-, c2, c3⟩ := box_cells HW0.out.2
  go_cut [6] from 12 to 25 (fun v wx => ∃ Y : Lay, v = .pointer (some ⟨Y.B, 0, none⟩) ∧ Hid (NwA n st bA oA c s W0 wx Y (.slice none 0 0) (List.replicate n (-1)) (List.replicate (2 * n) 0) (List.replicate n (-1)) (List.replicate (2 * n) 0)))
  case first =>
    go_region_with (first
      | (have hq := HQ1; clear hq; go_at_call 57; refine (HN1.out _).mono ?_; rintro e w6 hns; have HQ2 : Hid (NsPost n w5 e w6) := Lib.hid (NsPost.of (by first | with_reducible exact Below.refl _ _ | with_reducible exact (Below.refl _ _).alloc (Nat.le_refl _) _) hns); (first | with_reducible have HM := Lib.hid (ns_cell hns (HC.out w5)) | with_reducible have HM := Lib.hid (ns_cell hns HM.out) | skip); have HX2 := Lib.hid (ns_blk HQ2.out HX1.out); obtain ⟨⟨c0, c1⟩, c2, c3⟩ := box_cells HX2.out; obtain ⟨G2, F2, rfl, hx⟩ := hns; clear hx; unfold stepsV)
      | (go_at_call 57; refine (HN1.out _).mono ?_; rintro e w5 hns; have HQ1 : Hid (NsPost n W0 e w5) := Lib.hid (NsPost.of (by first | with_reducible exact (Below.refl _ _).drew | with_reducible exact ((Below.refl _ _).alloc (Nat.le_refl _) _).drew) hns); (first | with_reducible have HM := Lib.hid (ns_cell hns (HCd.out W0)) | skip); have HX1 := Lib.hid (ns_blk HQ1.out HW0.out.2); obtain ⟨⟨c0, c1⟩, c2, c3⟩ := box_cells HX1.out; obtain ⟨G, F, rfl, hx⟩ := hns; clear hx; unfold stepsV)
      | (have hq := HM; clear hq; go_at_call 58; go_fit (Repeat_any _ 1 n (-1) _ HM.out h1 (by omega)); rintro e w7 hrp; have HQ3 : Hid (RepPost n (-1) w6 e w7) := Lib.hid (RepPost.of (Below.refl _ _) hrp); have HX3 := Lib.hid (rp_blk HQ3.out HX2.out); obtain ⟨⟨c0, c1⟩, c2, c3⟩ := box_cells HX3.out; obtain ⟨G3, rfl, hx⟩ := hrp; clear hx)
      | (go_at_call 58; go_fit (Repeat_any _ 1 n (-1) _ (HC.out w6) h1 (by omega)); rintro e w7 hrp; have HQ3 : Hid (RepPost n (-1) w6 e w7) := Lib.hid (RepPost.of ((Below.refl _ _).alloc (Nat.le_refl _) _) hrp); have HX3 := Lib.hid (rp_blk HQ3.out HX2.out); obtain ⟨⟨c0, c1⟩, c2, c3⟩ := box_cells HX3.out; obtain ⟨G3, rfl, hx⟩ := hrp; clear hx))
    all_goals
      go_wp2_with fail
      go_meet
      case rel => exact ⟨⟨w7.heap.size, G3, G, F, G2, F2⟩, rfl, Lib.hid (nw_fin HQ1.out HQ2.out HQ3.out)⟩
  case rest =>
    obtain ⟨Y, rfl, HA⟩ := hcut
    have HBox := Lib.hid ((HA.out.bel.block _ (lt_some HW0.out.2)).trans HW0.out.2)
    obtain ⟨⟨c0, c1⟩, -, -⟩ := box_cells HBox.out
    have HA0 : Hid (NwA n st bA oA c s W0 wc Y (.slice none 0 0) (lastF (readX ss) n (2 * 0)) (befF (readX ss) (tgtF ss) n (2 * 0)) (lastF (freeX ss) n (2 * 0)) (befF (freeX ss) (tgtF ss) n (2 * 0))) := Lib.hid (by
      rw [lastF_zero, befF_zero, lastF_zero, befF_zero]; exact HA.out)
    have HB0 : Hid (NwB ss wc.heap.size 0 wc (.slice none 0 0) []) := Lib.hid ⟨⟨rfl, .inl ⟨rfl, rfl⟩⟩, fun _ => rfl, fun x => ⟨fun h => (by cases h), fun ⟨k, _, h, _⟩ => absurd h (Nat.not_lt_zero _)⟩, Nat.le_refl _⟩
    have HLt := Lib.hid HA.out.lt
    have HWx := Lib.hid HA.out.bel.size
    generalize hbs : wc.heap.size = base at HB0 HLt HWx
    have HBs := Lib.hid hbs
    clear hbs HA
    go_wp2_with fail
    clear c0 c1
    go_loopw [29] (fun a wr => ∃ i : Nat, a = .int .i64 (i : Int) ∧ i ≤ n ∧ ∃ vacc accs, Hid (NwA n st bA oA c s W0 wr Y vacc (lastF (readX ss) n (2 * i)) (befF (readX ss) (tgtF ss) n (2 * i)) (lastF (freeX ss) n (2 * i)) (befF (freeX ss) (tgtF ss) n (2 * i))) ∧ Hid (NwB ss base i wr vacc accs) ∧ Hid (base ≤ wr.heap.size)) (fun a _ => n - (intOf a).toNat)
    case atStart => exact ⟨0, by go_num, Nat.zero_le _, _, _, HA0, HB0, Lib.hid (Nat.le_of_eq HBs.out.symm)⟩
    case round =>
      clear HA0 HB0 HBox
      obtain ⟨i, rfl, hi, vacc, accs, HA, HB, HBz⟩ := hrel
      have HBox := Lib.hid ((HA.out.bel.block _ (lt_some HW0.out.2)).trans HW0.out.2)
      obtain ⟨⟨c0, c1⟩, -, -⟩ := box_cells HBox.out
      by_cases hlt : i < n
      · have hx : i < ss.length := by rw [← HN.out]; exact hlt
        have hsat := (HSt.out i hx).below (HW0.out.1.trans (HA.out.bel.mono HW0.out.1.size))
        have hokx := HOk.out i hx
        rw [← HN.out] at hokx
        obtain ⟨p0, -, -, -, -, p5, p6⟩ := hsat
        have HX := Lib.hid (fun r => step_lt hx r)
        have HTg : Hid (tgtF ss (2 * i) = ss[i].next.toNat ∧ tgtF ss (2 * i + 1) = ss[i].other.toNat) := Lib.hid (by
          unfold tgtF
          rw [show 2 * i / 2 = i by omega, show (2 * i + 1) / 2 = i by omega, List.getElem?_eq_getElem hx]
          simp [show 2 * i % 2 = 0 by omega])
        have HNo4 : Hid (ss[i].kind ≠ 4 → NwB ss base (i + 1) wr vacc accs) := Lib.hid (fun h => HB.out.next (fun _ => h))
        have HPush := Lib.hid (fun (hk : ss[i].kind = 4) (w' : World) (v' : Value) ho => NwB.push (w' := w') (v' := v') HB.out hx hk ho)
        have i0 : (0 : Int) ≤ (i : Int) := by omega
        have i1 : (i : Int) < (n : Int) := by omega
        have hd : decide (i < n) = true := by simpa using hlt
        have e2 : IntKind.i64.wrap (2 * (i : Int)) = 2 * (i : Int) := IntWalk.i64_in _ (by omega)
        have e3 : IntKind.i64.wrap (2 * (i : Int) + 1) = 2 * (i : Int) + 1 := IntWalk.i64_in _ (by omega)
        unfold okS hasB at hokx
        generalize hkd : ss[i].kind = kd at p0 hokx HX HNo4 HPush
        generalize hnx : ss[i].next = nx at p5 hokx HX HTg
        generalize hot : ss[i].other = ot at p6 hokx HX HTg
        clear hkd hnx hot hx
        have hcs : kd = 0 ∨ kd = 1 ∨ kd = 2 ∨ kd = 3 ∨ kd = 4 := by
          by_cases a0 : kd = 0 ∨ kd = 2 ∨ kd = 3
          · omega
          · rw [if_neg a0] at hokx
            by_cases a1 : kd = 1
            · omega
            · rw [if_neg a1] at hokx
              have := of_decide_eq_true hokx
              omega
        obtain ⟨q0, q1, q2, q3, q4, q5, q6⟩ : (wr.cell? ⟨Y.B, 3, none⟩ = some (.slice (some ⟨Y.R1, 0, none⟩) n n) ∧ wr.cell? ⟨Y.B, 4, none⟩ = some (.slice (some ⟨Y.R2, 0, none⟩) (2 * n : Nat) (2 * n : Nat)) ∧ wr.cell? ⟨Y.B, 5, none⟩ = some (.slice (some ⟨Y.F1, 0, none⟩) n n) ∧ wr.cell? ⟨Y.B, 6, none⟩ = some (.slice (some ⟨Y.F2, 0, none⟩) (2 * n : Nat) (2 * n : Nat)) ∧ wr.cell? ⟨Y.B, 7, none⟩ = some vacc ∧ (∀ k, wr.frozen? ⟨Y.B, k, none⟩ = false) ∧ True) := by
          have hb := HA.out.blk
          refine ⟨?_, ?_, ?_, ?_, ?_, fun k => by simp [World.frozen?, hb], trivial⟩ <;> simp only [World.cell?, hb] <;> rfl
        rcases hcs with rfl | rfl | rfl | rfl | rfl
        · obtain ⟨q, rfl, hq⟩ : ∃ q : Nat, nx = (q : Int) ∧ q < n := by
            have h := of_decide_eq_true hokx
            exact ⟨nx.toNat, by omega, by omega⟩
          have hot : True := trivial
          clear hokx p6
          have HL := Lib.hid (lists_one (n := n) (X := readX ss) (T := tgtF ss) (m := 2 * i) (r := q) hq (fun r => by rw [(HX.out r).2.2.1]; by_cases e : q = r <;> simp [e]) (by rw [HTg.out.1]; simp))
          have HL2 : Hid (lastF (readX ss) n (2 * i + 1) = lastF (readX ss) n (2 * (i + 1)) ∧ befF (readX ss) (tgtF ss) n (2 * i + 1) = befF (readX ss) (tgtF ss) n (2 * (i + 1))) := Lib.hid ⟨(lastF_no (fun r => (HX.out r).2.2.2.trans (by simp))).symm, (befF_no (fun r => (HX.out r).2.2.2.trans (by simp))).symm⟩
          have HO := Lib.hid (lists_no (n := n) (X := freeX ss) (T := tgtF ss) (i := i) (fun r => by rw [(HX.out r).1]; simp) (fun r => (HX.out r).2.1.trans (by simp)))
          have HAdd := Lib.hid (add_anyT Y.R1 Y.R2 n (2 * n) (lastF (readX ss) n (2 * i)) (befF (readX ss) (tgtF ss) n (2 * i)) (2 * i) q (2 * (i : Int)) (by omega) (wr.drewN 1) (HA.out.drewN 1).r1 (HA.out.drewN 1).r2 HA.out.ok.r.1 (lastF_len _ _ _) (befF_len _ _ _ _) hq (by omega))
          have HB3 := Lib.hid (HNo4.out (by omega))
          clear HNo4 HPush HX HTg
          go_upto_region 9 with fail
          go_region_with ((go_at_call 59; refine HAdd.out.mono ?_; rintro e w6 ha; obtain rfl := ha.1; have HAd := Lib.hid ha; clear ha))
          all_goals
            have HA3 : Hid (NwA n st bA oA c s W0 w6 Y vacc (lastF (readX ss) n (2 * (i + 1))) (befF (readX ss) (tgtF ss) n (2 * (i + 1))) (lastF (freeX ss) n (2 * (i + 1))) (befF (freeX ss) (tgtF ss) n (2 * (i + 1)))) := Lib.hid (by
              have h := NwA.addR (HA.out.drewN 1) HAd.out
              rw [HL.out.1, HL.out.2, HL2.out.1, HL2.out.2, ← HO.out.1, ← HO.out.2] at h
              exact h)
            have HB4 := HB3
            clear HB3
            have HB3 := Lib.hid ((HB4.out.below (below_drewN (Below.refl _ _) 1)).add HAd.out HLt.out.2.2.1 HLt.out.2.2.2.1)
            have HZ3 := Lib.hid (Nat.le_trans HBz.out (HAd.out.2.2.2.2 0 (Nat.zero_le _) (Nat.zero_le _)).size)
            clear HAd HAdd HL HL2 HO HA HB HB4 HBz
            go_wp2_with fail
            go_roundw
            case rel => exact ⟨i + 1, by go_num, by omega, vacc, accs, HA3, HB3, HZ3⟩
            case measure => simp [intOf]; omega
        · obtain ⟨q, r, rfl, rfl, hq, hr⟩ : ∃ q r : Nat, nx = (q : Int) ∧ ot = (r : Int) ∧ q < n ∧ r < n := by
            simp only [show ¬((1 : Int) = 0 ∨ (1 : Int) = 2 ∨ (1 : Int) = 3) by omega, if_false, if_true, Bool.and_eq_true, decide_eq_true_eq] at hokx
            exact ⟨nx.toNat, ot.toNat, by omega, by omega, by omega, by omega⟩
          clear hokx
          have HL := Lib.hid (lists_one (n := n) (X := freeX ss) (T := tgtF ss) (m := 2 * i) (r := q) hq (fun r => by rw [(HX.out r).1]; by_cases e : q = r <;> simp [e]) (by rw [HTg.out.1]; simp))
          have HL2 := Lib.hid (lists_one (n := n) (X := freeX ss) (T := tgtF ss) (m := 2 * i + 1) (r := r) hr (fun r' => by rw [(HX.out r').2.1]; by_cases e : r = r' <;> simp [e]) (by rw [HTg.out.2]; simp))
          have HO := Lib.hid (lists_no (n := n) (X := readX ss) (T := tgtF ss) (i := i) (fun r => by rw [(HX.out r).2.2.1]; simp) (fun r => (HX.out r).2.2.2))
          have HAdd := Lib.hid (add_anyT Y.F1 Y.F2 n (2 * n) (lastF (freeX ss) n (2 * i)) (befF (freeX ss) (tgtF ss) n (2 * i)) (2 * i) q (2 * (i : Int)) (by omega) (wr.drewN 1) (HA.out.drewN 1).f1 (HA.out.drewN 1).f2 HA.out.ok.r.2.2.2.2.2 (lastF_len _ _ _) (befF_len _ _ _ _) hq (by omega))
          have HB3 := Lib.hid (HNo4.out (by omega))
          have P6 := Lib.hid p6
          clear HNo4 HPush HX HTg p6
          go_upto_region 14 with fail
          go_region_with ((go_at_call 59; refine HAdd.out.mono ?_; rintro e w6 ha; obtain rfl := ha.1; have HAd := Lib.hid ha; clear ha))
          all_goals
            have HA3 : Hid (NwA n st bA oA c s W0 w6 Y vacc (lastF (readX ss) n (2 * i)) (befF (readX ss) (tgtF ss) n (2 * i)) (lastF (freeX ss) n (2 * i + 1)) (befF (freeX ss) (tgtF ss) n (2 * i + 1))) := Lib.hid (by
              have h := NwA.addF (HA.out.drewN 1) HAd.out
              rw [HL.out.1, HL.out.2] at h
              exact h)
            have HB4 := Lib.hid ((HB3.out.below (below_drewN (Below.refl _ _) 1)).add HAd.out HLt.out.2.2.2.2.1 HLt.out.2.2.2.2.2)
            have HZ4 := Lib.hid (Nat.le_trans HBz.out (HAd.out.2.2.2.2 0 (Nat.zero_le _) (Nat.zero_le _)).size)
            have hsat := (HSt.out i (by rw [← HN.out]; exact hlt)).below (HW0.out.1.trans (HA3.out.bel.mono HW0.out.1.size))
            have r6 : w6.cell? ⟨bA, oA + i * 7 + 6, none⟩ = some (.int .i64 (r : Int)) := by
              have e := (World.cell?_of_block (w := wr) (a := ⟨bA, oA + i * 7 + 6, none⟩) (HAd.out.2.2.2.1 bA (Tx.cell_lt P6.out) (by have := HA.out.ok.lo; have := Tx.cell_lt ((HSt.out i (by rw [← HN.out]; exact hlt)).2.2.2.2.2.2); have := HW0.out.1.size; show bA ≠ _; omega) (by have := HA.out.ok.lo; have := Tx.cell_lt ((HSt.out i (by rw [← HN.out]; exact hlt)).2.2.2.2.2.2); have := HW0.out.1.size; show bA ≠ _; omega)))
              exact e.trans P6.out
            have r5 : w6.cell? ⟨Y.B, 5, none⟩ = some (.slice (some ⟨Y.F1, 0, none⟩) n n) := by simp only [World.cell?, HA3.out.blk]; rfl
            have r7 : w6.cell? ⟨Y.B, 6, none⟩ = some (.slice (some ⟨Y.F2, 0, none⟩) (2 * n : Nat) (2 * n : Nat)) := by simp only [World.cell?, HA3.out.blk]; rfl
            have HAdd2 := Lib.hid (add_anyT Y.F1 Y.F2 n (2 * n) (lastF (freeX ss) n (2 * i + 1)) (befF (freeX ss) (tgtF ss) n (2 * i + 1)) (2 * i + 1) r (2 * (i : Int) + 1) (by omega) (w6.drewN 1) (HA3.out.drewN 1).f1 (HA3.out.drewN 1).f2 HA3.out.ok.r.2.2.2.2.2 (lastF_len _ _ _) (befF_len _ _ _ _) hr (by omega))
            clear hsat HAd HAdd HL HA HB HB3 HBz p5 P6 q0 q1 q2 q3 q4 q5
            go_upto_region 15 with fail
            go_region_with ((go_at_call 59; refine HAdd2.out.mono ?_; rintro e w7 ha; obtain rfl := ha.1; have HAd := Lib.hid ha; clear ha))
            all_goals
              have HA5 : Hid (NwA n st bA oA c s W0 w7 Y vacc (lastF (readX ss) n (2 * (i + 1))) (befF (readX ss) (tgtF ss) n (2 * (i + 1))) (lastF (freeX ss) n (2 * (i + 1))) (befF (freeX ss) (tgtF ss) n (2 * (i + 1)))) := Lib.hid (by
                have h := NwA.addF (HA3.out.drewN 1) HAd.out
                rw [HL2.out.1, HL2.out.2, ← HO.out.1, ← HO.out.2] at h
                exact h)
              have HB3 := Lib.hid ((HB4.out.below (below_drewN (Below.refl _ _) 1)).add HAd.out HLt.out.2.2.2.2.1 HLt.out.2.2.2.2.2)
              have HZ3 := Lib.hid (Nat.le_trans HZ4.out (HAd.out.2.2.2.2 0 (Nat.zero_le _) (Nat.zero_le _)).size)
              clear HA3
              have HA3 := HA5
              clear HAd HAdd2 HL2 HO HA5 HB4 HZ4
              go_wp2_with fail
              go_roundw
              case rel => exact ⟨i + 1, by go_num, by omega, vacc, accs, HA3, HB3, HZ3⟩
              case measure => simp [intOf]; omega
        · obtain ⟨q, rfl, hq⟩ : ∃ q : Nat, nx = (q : Int) ∧ q < n := by
            have h := of_decide_eq_true hokx
            exact ⟨nx.toNat, by omega, by omega⟩
          have hot : True := trivial
          clear hokx p6
          have HL := Lib.hid (lists_one (n := n) (X := freeX ss) (T := tgtF ss) (m := 2 * i) (r := q) hq (fun r => by rw [(HX.out r).1]; by_cases e : q = r <;> simp [e]) (by rw [HTg.out.1]; simp))
          have HL2 : Hid (lastF (freeX ss) n (2 * i + 1) = lastF (freeX ss) n (2 * (i + 1)) ∧ befF (freeX ss) (tgtF ss) n (2 * i + 1) = befF (freeX ss) (tgtF ss) n (2 * (i + 1))) := Lib.hid ⟨(lastF_no (fun r => (HX.out r).2.1.trans (by simp))).symm, (befF_no (fun r => (HX.out r).2.1.trans (by simp))).symm⟩
          have HO := Lib.hid (lists_no (n := n) (X := readX ss) (T := tgtF ss) (i := i) (fun r => by rw [(HX.out r).2.2.1]; simp) (fun r => (HX.out r).2.2.2.trans (by simp)))
          have HAdd := Lib.hid (add_anyT Y.F1 Y.F2 n (2 * n) (lastF (freeX ss) n (2 * i)) (befF (freeX ss) (tgtF ss) n (2 * i)) (2 * i) q (2 * (i : Int)) (by omega) (wr.drewN 1) (HA.out.drewN 1).f1 (HA.out.drewN 1).f2 HA.out.ok.r.2.2.2.2.2 (lastF_len _ _ _) (befF_len _ _ _ _) hq (by omega))
          have HB3 := Lib.hid (HNo4.out (by omega))
          clear HNo4 HPush HX HTg
          go_upto_region 12 with fail
          go_region_with ((go_at_call 59; refine HAdd.out.mono ?_; rintro e w6 ha; obtain rfl := ha.1; have HAd := Lib.hid ha; clear ha))
          all_goals
            have HA3 : Hid (NwA n st bA oA c s W0 w6 Y vacc (lastF (readX ss) n (2 * (i + 1))) (befF (readX ss) (tgtF ss) n (2 * (i + 1))) (lastF (freeX ss) n (2 * (i + 1))) (befF (freeX ss) (tgtF ss) n (2 * (i + 1)))) := Lib.hid (by
              have h := NwA.addF (HA.out.drewN 1) HAd.out
              rw [HL.out.1, HL.out.2, HL2.out.1, HL2.out.2, ← HO.out.1, ← HO.out.2] at h
              exact h)
            have HB4 := HB3
            clear HB3
            have HB3 := Lib.hid ((HB4.out.below (below_drewN (Below.refl _ _) 1)).add HAd.out HLt.out.2.2.2.2.1 HLt.out.2.2.2.2.2)
            have HZ3 := Lib.hid (Nat.le_trans HBz.out (HAd.out.2.2.2.2 0 (Nat.zero_le _) (Nat.zero_le _)).size)
            clear HAd HAdd HL HL2 HO HA HB HB4 HBz
            go_wp2_with fail
            go_roundw
            case rel => exact ⟨i + 1, by go_num, by omega, vacc, accs, HA3, HB3, HZ3⟩
            case measure => simp [intOf]; omega
        · obtain ⟨q, rfl, hq⟩ : ∃ q : Nat, nx = (q : Int) ∧ q < n := by
            have h := of_decide_eq_true hokx
            exact ⟨nx.toNat, by omega, by omega⟩
          have hot : True := trivial
          clear hokx p6
          have HL := Lib.hid (lists_one (n := n) (X := freeX ss) (T := tgtF ss) (m := 2 * i) (r := q) hq (fun r => by rw [(HX.out r).1]; by_cases e : q = r <;> simp [e]) (by rw [HTg.out.1]; simp))
          have HL2 : Hid (lastF (freeX ss) n (2 * i + 1) = lastF (freeX ss) n (2 * (i + 1)) ∧ befF (freeX ss) (tgtF ss) n (2 * i + 1) = befF (freeX ss) (tgtF ss) n (2 * (i + 1))) := Lib.hid ⟨(lastF_no (fun r => (HX.out r).2.1.trans (by simp))).symm, (befF_no (fun r => (HX.out r).2.1.trans (by simp))).symm⟩
          have HO := Lib.hid (lists_no (n := n) (X := readX ss) (T := tgtF ss) (i := i) (fun r => by rw [(HX.out r).2.2.1]; simp) (fun r => (HX.out r).2.2.2.trans (by simp)))
          have HAdd := Lib.hid (add_anyT Y.F1 Y.F2 n (2 * n) (lastF (freeX ss) n (2 * i)) (befF (freeX ss) (tgtF ss) n (2 * i)) (2 * i) q (2 * (i : Int)) (by omega) (wr.drewN 1) (HA.out.drewN 1).f1 (HA.out.drewN 1).f2 HA.out.ok.r.2.2.2.2.2 (lastF_len _ _ _) (befF_len _ _ _ _) hq (by omega))
          have HB3 := Lib.hid (HNo4.out (by omega))
          clear HNo4 HPush HX HTg
          go_upto_region 12 with fail
          go_region_with ((go_at_call 59; refine HAdd.out.mono ?_; rintro e w6 ha; obtain rfl := ha.1; have HAd := Lib.hid ha; clear ha))
          all_goals
            have HA3 : Hid (NwA n st bA oA c s W0 w6 Y vacc (lastF (readX ss) n (2 * (i + 1))) (befF (readX ss) (tgtF ss) n (2 * (i + 1))) (lastF (freeX ss) n (2 * (i + 1))) (befF (freeX ss) (tgtF ss) n (2 * (i + 1)))) := Lib.hid (by
              have h := NwA.addF (HA.out.drewN 1) HAd.out
              rw [HL.out.1, HL.out.2, HL2.out.1, HL2.out.2, ← HO.out.1, ← HO.out.2] at h
              exact h)
            have HB4 := HB3
            clear HB3
            have HB3 := Lib.hid ((HB4.out.below (below_drewN (Below.refl _ _) 1)).add HAd.out HLt.out.2.2.2.2.1 HLt.out.2.2.2.2.2)
            have HZ3 := Lib.hid (Nat.le_trans HBz.out (HAd.out.2.2.2.2 0 (Nat.zero_le _) (Nat.zero_le _)).size)
            clear HAd HAdd HL HL2 HO HA HB HB4 HBz
            go_wp2_with fail
            go_roundw
            case rel => exact ⟨i + 1, by go_num, by omega, vacc, accs, HA3, HB3, HZ3⟩
            case measure => simp [intOf]; omega
        · clear hokx p5 p6 HNo4
          have HO := Lib.hid (lists_no (n := n) (X := readX ss) (T := tgtF ss) (i := i) (fun r => by rw [(HX.out r).2.2.1]; simp) (fun r => (HX.out r).2.2.2))
          have HO2 := Lib.hid (lists_no (n := n) (X := freeX ss) (T := tgtF ss) (i := i) (fun r => by rw [(HX.out r).1]; simp) (fun r => by rw [(HX.out r).2.1]; simp))
          obtain ⟨A3, c3, hv3⟩ := own_form HB.out.own
          subst hv3
          have hl := HB.out.len
          have hwl : base ≤ wr.heap.size := HBz.out
          obtain ⟨la, hla⟩ : ∃ la, la = accs.length := ⟨_, rfl⟩
          have HLa := Lib.hid hla
          have HOw := Lib.hid HB.out.own
          rw [← hla] at q4 hl HOw HA
          clear HX HTg q0 q1 q2 q3 hla
          go_upto_region 17 with fail
          go_wp2_with (at_builtin; refine app_one rfl Try.underlying22 info_intH rfl (by omega) (.tmp 98) (.tmp 100) rfl base la (intsV accs) (.int .i64 (i : Int)) rfl _ _ rfl HOw.out rfl rfl (by omega) hwl ?_; intro v4 w4 ho4 hb4 hg4; obtain ⟨A4, c4, hv4⟩ := own_form ho4; subst hv4; have HO4 := Lib.hid ho4; have HG4 := Lib.hid hg4; have hb9 := (hg4.block _ (by have := lt_some HA.out.blk; simp; omega) (fun e => by have h1 := (HOw.out.lt _ e.symm).1; have h2 := HLt.out.1; omega)).trans ((Below.heap_alloc wr _ _ (lt_some HA.out.blk)).trans HA.out.blk); have f7 : w4.frozen? ⟨Y.B, 7, none⟩ = false := (by simp [World.frozen?, hb9]); have c7 : w4.cell? ⟨Y.B, 7, none⟩ = some (.slice A3 la c3) := (by simp only [World.cell?, hb9]; rfl); clear ho4 hb4 hg4 hb9)
          have HA3 : Hid (NwA n st bA oA c s W0 (w4.setCell ⟨Y.B, 7, none⟩ (.slice A4 (la + 1 : Nat) c4)) Y (.slice A4 (la + 1 : Nat) c4) (lastF (readX ss) n (2 * (i + 1))) (befF (readX ss) (tgtF ss) n (2 * (i + 1))) (lastF (freeX ss) n (2 * (i + 1))) (befF (freeX ss) (tgtF ss) n (2 * (i + 1)))) := Lib.hid (by
            have h := NwA.acc (HA.out.below ((Below.refl _ _).alloc (Nat.le_refl _) _)) HLt.out HWx.out HG4.out (fun k hk => (HOw.out.lt k hk).1) (v' := .slice A4 (la + 1 : Nat) c4) 7 rfl
            rw [← HO.out.1, ← HO.out.2, ← HO2.out.1, ← HO2.out.2] at h
            exact h)
          have HB3 : Hid (NwB ss base (i + 1) (w4.setCell ⟨Y.B, 7, none⟩ (.slice A4 (la + 1 : Nat) c4)) (.slice A4 (la + 1 : Nat) c4) (accs ++ [(i : Int)])) := Lib.hid (HPush.out rfl _ _ (by
            have h := ownsRow_setCell_below HO4.out (a := ⟨Y.B, 7, none⟩) HLt.out.1 (.slice A4 (la + 1 : Nat) c4)
            rw [List.length_append, List.length_singleton, ← HLa.out]
            rw [show intsV (accs ++ [(i : Int)]) = intsV accs ++ [.int .i64 (i : Int)] from by simp [intsV]]
            exact h))
          have HZ3 : Hid (base ≤ (w4.setCell ⟨Y.B, 7, none⟩ (.slice A4 (la + 1 : Nat) c4)).heap.size) := Lib.hid (by
            have h : (wr.alloc (.cells #[.int .i64 (i : Int)] tInt)).heap.size ≤ w4.heap.size := HG4.out.size
            have h2 : (wr.alloc (.cells #[.int .i64 (i : Int)] tInt)).heap.size = wr.heap.size + 1 := by simp
            have h3 : (w4.setCell ⟨Y.B, 7, none⟩ (.slice A4 (la + 1 : Nat) c4)).heap.size = w4.heap.size := by simp [World.setCell]
            rw [h3]; omega)
          clear HG4 HO4 HA HB HOw HO HO2 HPush
          go_wp2_with fail
          go_roundw
          case rel => exact ⟨i + 1, by go_num, by omega, _, _, HA3, HB3, HZ3⟩
          case measure => simp [intOf]; omega

      · obtain rfl : i = n := by omega
        have hd : decide (i < i) = false := by simp
        have HF := Lib.hid (new_fin HTy.out HOk.out HSt.out HN.out HW0.out.1 HA.out HB.out HLt.out HBz.out (by rw [← HN.out]; exact h1))
        go_wp2_with fail
        go_ret
        exact HF.out
end Se
end Go.Proofs.Ytgadomcbaenodaa

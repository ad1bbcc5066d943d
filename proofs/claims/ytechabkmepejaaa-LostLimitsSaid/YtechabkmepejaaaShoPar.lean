/-
  The program's partners. Conditions: at most 4096 lines, numbers that an int holds.
-/
import Derived.Test.YtechabkmepejaaaShoTab
import Derived.Test.YtechabkmepejaaaScrMade
import Derived.WalkSpells
namespace Go.Proofs.Ytechabkmepejaaa
open Go.RowKit Go.Maps
namespace Sh
open Cm Sc
/-- A slice of a list of numbers from k on. -/
theorem slice_from {w : World} {A : Option Addr} {n c : Nat} {l : List Int} (h : RdV w (.slice A n c) (intsV l)) (k : Nat) (hk : k ≤ l.length) :
    ∃ A', (∀ W : World, Sem.run Try.prog (Instr.slice 22 (.slice A n c) (some (.int .i64 (k : Int))) none none) W = .ok (.slice A' (n - k) (c - k)) W) ∧ RdV w (.slice A' (n - k) (c - k)) (intsV (l.drop k)) := by
  have hn : n = l.length := by have := h.len; rw [intsV_len] at this; exact this
  have hcap : n ≤ c ∧ (A = none → c = 0) := by
    obtain ⟨A', c', e, hc, _⟩ := h
    injection e with e1 e2 e3
    subst e1 e3
    rw [e2]; exact hc
  refine ⟨if c = k then A else A.map (·.add (k * 1)), fun W => ?_, ?_⟩
  · have h1 := run_slice_l (P := Try.prog) (w := W) 22 A n c (by kernel_rfl) .i64 (k : Int) (by omega) (by omega)
    rw [h1, show (Go.sizeOf (Try.prog.elem 22)).run Try.prog W = .ok 1 W from by kernel_rfl]
    simp only [Result.andThen, sliced, Int.toNat_natCast]
  · refine ⟨_, _, by rw [intsV_len, List.length_drop, ← hn], ⟨by rw [intsV_len, List.length_drop]; omega, fun e => ?_⟩, fun hp => ?_⟩
    · split at e
      · have := hcap.2 e; omega
      · cases A with
        | none => have := hcap.2 rfl; omega
        | some a => simp at e
    · rw [intsV_len, List.length_drop] at hp
      obtain ⟨_, b, off, rfl, hc⟩ := h.at (by rw [intsV_len]; omega)
      refine ⟨b, off + k, ?_, fun j hj => ?_⟩
      · rw [if_neg (by omega)]
        simp only [Option.map_some, Nat.mul_one, Addr.add]
        split
        · rename_i h0; simp [h0]
        · rfl
      · rw [intsV_len, List.length_drop] at hj
        rw [show off + k + j = off + (k + j) from by omega, hc (k + j) (by rw [intsV_len]; omega)]
        simp [intsV]
/-- The parts that the loop reads: the table in its block. -/
def PtS (base W t : Nat) (a b : List Int) (w : World) (p : Value) (w' : World) : Prop := ∃ tb G us, p = .pointer (some ⟨tb, 0, none⟩) ∧ base ≤ tb ∧ Blk w' tb tTb [.int .i64 ((a.drop t).length : Int), .slice (some ⟨G, 0, none⟩) ((b.drop t).length + 1) ((b.drop t).length + 1)] ∧ Cols w' G W 0 (a.drop t) (b.drop t) us ∧ Below base w w'
theorem ptA {base W t : Nat} {a b : List Int} {w w5 : World} {G : Nat} {us : List Value} (hc : Cols w5 G W 0 (a.drop t) (b.drop t) us) (hb : Below base w w5) (hbw : base ≤ w.heap.size) :
    PtS base W t a b w (.pointer (some ⟨w5.heap.size, 0, none⟩)) (w5.alloc (.cells #[.int .i64 ((a.drop t).length : Int), .slice (some ⟨G, 0, none⟩) ((b.drop t).length + 1) ((b.drop t).length + 1)] tTb)) := by
  have hs := hb.size
  have hs5 : base ≤ w5.heap.size := by omega
  exact ⟨_, G, us, rfl, hs5, heap_new w5 _, hc.below ((Below.refl _ _).alloc (Nat.le_refl _) _), hb.alloc hs5 _⟩
theorem ptB {base W t tb : Nat} {a b : List Int} {w w5 : World} {G : Nat} {us : List Value} {x y : Value} (hB : Blk w5 tb tTb [x, y]) (hc : Cols w5 G W 0 (a.drop t) (b.drop t) us) (hb : Below base w w5) (hbt : base ≤ tb) :
    PtS base W t a b w (.pointer (some ⟨tb, 0, none⟩)) ((w5.setCell ⟨tb, 0, none⟩ (.int .i64 ((a.drop t).length : Int))).setCell ⟨tb, 1, none⟩ (.slice (some ⟨G, 0, none⟩) ((b.drop t).length + 1) ((b.drop t).length + 1))) :=
  ⟨_, G, us, rfl, hbt, (hB.set 0 _).set 1 _, (hc.other hB 0 _).other (hB.set 0 _) 1 _, (hb.setCell (p := ⟨tb, 0, none⟩) hbt _).setCell (p := ⟨tb, 1, none⟩) hbt _⟩
def PrPost (a b : List Int) (w : World) (e : Ending) (w' : World) : Prop := ∃ v, e = .returned v ∧ OwnS w.heap.size w' v (wkF 0 0 a b) ∧ Below w.heap.size w w'
set_option maxRecDepth 100000 in
set_option maxHeartbeats 8000000 in
theorem partners_at (A B : Option Addr) (c d n m : Nat) (a b : List Int) (w : World) (HA : Hid (RdV w (.slice A n c) (intsV a))) (HB : Hid (RdV w (.slice B m d) (intsV b))) (hn : n ≤ 4096) (hm : m ≤ 4096) (HN : Hid (n = a.length)) (HM : Hid (m = b.length)) (hBa : Hid (∀ z ∈ a, zB z)) (hBb : Hid (∀ z ∈ b, zB z)) :
    Calls Try.prog 25 #[.slice A n c, .slice B m d] w (PrPost a b w) := by
  obtain ⟨t, ht⟩ : ∃ t, t = eqN a b := ⟨_, rfl⟩
  have HT := Lib.hid ht
  have htn : t ≤ n := by rw [ht, HN.out]; exact (eqN_le a b).1
  have htm : t ≤ m := by rw [ht, HM.out]; exact (eqN_le a b).2
  obtain ⟨A1, hs1, hr1⟩ := slice_from HA.out t (by rw [← HN.out]; exact htn)
  obtain ⟨B1, hs2, hr2⟩ := slice_from HB.out t (by rw [← HM.out]; exact htm)
  have HR1 := Lib.hid hr1
  have HR2 := Lib.hid hr2
  have HTab : Hid (∀ w1 : World, Below w.heap.size w w1 → Calls Try.prog 33 #[.slice A1 (n - t) (c - t), .slice B1 (m - t) (d - t)] w1 (TbPost ((n - t + 63) / 64) (a.drop t) (b.drop t) w1)) := Lib.hid (fun w1 hb => newTable_at A1 B1 (c - t) (d - t) (n - t) (m - t) _ (a.drop t) (b.drop t) w1 (Lib.hid (HR1.out.below hb)) (Lib.hid (HR2.out.below hb)) (by omega) (by omega) (Lib.hid (by rw [List.length_drop, HN.out])) (Lib.hid (by rw [List.length_drop, HM.out])) (Lib.hid (fun z hz => hBa.out z (List.mem_of_mem_drop hz))) (Lib.hid (fun z hz => hBb.out z (List.mem_of_mem_drop hz))) (Lib.hid rfl))
  have HEq := Lib.hid (equalLines_at A B c d n m t a b w HA HB hn hm HN HM HT htn htm)
  clear ht hr1 hr2
  have HD := Lib.hid (fun q => below_drewN (Below.refl w.heap.size w) q)
  go_enter Try.func25, Try.ntmps25
  go_upto_region 2 with (go_at_call 32; refine HEq.out.mono ?_; rintro e w1 ⟨rfl, q, rfl⟩)
  have t0 : (0 : Int) ≤ (t : Int) := by omega
  have t1 : (t : Int) ≤ (n : Int) := by omega
  have t2 : (t : Int) ≤ (m : Int) := by omega
  go_cut [6] from 13 to 20 (fun p wx => PtS w.heap.size ((n - t + 63) / 64) t a b w p wx)
  case first =>
    have hd1 := HD.out q
    generalize World.drewN w q = w1 at *
    have HdA : Hid (Below w.heap.size w w1.drew) := Lib.hid hd1.drew
    have HdB : Hid (Below w.heap.size w (w1.alloc (.cells #[.int .i64 0, .slice none 0 0] tTb)).drew ∧ Blk (w1.alloc (.cells #[.int .i64 0, .slice none 0 0] tTb)).drew w1.heap.size tTb [.int .i64 0, .slice none 0 0] ∧ w.heap.size ≤ w1.heap.size) := Lib.hid ⟨(hd1.alloc hd1.size _).drew, heap_new w1 _, hd1.size⟩
    clear hd1
    obtain ⟨la, hla⟩ : ∃ la, la = (a.drop t).length := ⟨_, rfl⟩
    obtain ⟨lb, hlb⟩ : ∃ lb, lb = (b.drop t).length := ⟨_, rfl⟩
    have HLa := Lib.hid hla
    have HLb := Lib.hid hlb
    clear hla hlb
    unfold TbPost Tb at HTab
    rw [← HLa.out, ← HLb.out] at HTab
    go_region_with (first
      | (go_at_call 33; with_reducible refine (HTab.out _ HdA.out).mono ?_; rintro e w5 ⟨v5, rfl, ⟨G5, us5, rfl, hc5⟩, hb5⟩; have HF5 : Hid (PtS w.heap.size ((n - t + 63) / 64) t a b w (.pointer (some ⟨w5.heap.size, 0, none⟩)) (w5.alloc (.cells #[.int .i64 (la : Int), .slice (some ⟨G5, 0, none⟩) (lb + 1) (lb + 1)] tTb))) := Lib.hid (by rw [HLa.out, HLb.out]; exact ptA hc5 (HdA.out.trans (hb5.mono HdA.out.size)) (Nat.le_refl _)); clear hc5 hb5 HdB)
      | (go_at_call 33; with_reducible refine (HTab.out _ HdB.out.1).mono ?_; rintro e w5 ⟨v5, rfl, ⟨G5, us5, rfl, hc5⟩, hb5⟩; have HT5 := HdB.out.2.1.below hb5; have HF6 : Hid (PtS w.heap.size ((n - t + 63) / 64) t a b w (.pointer (some ⟨w1.heap.size, 0, none⟩)) ((w5.setCell ⟨w1.heap.size, 0, none⟩ (.int .i64 (la : Int))).setCell ⟨w1.heap.size, 1, none⟩ (.slice (some ⟨G5, 0, none⟩) (lb + 1) (lb + 1)))) := Lib.hid (by rw [HLa.out, HLb.out]; exact ptB HT5 hc5 (HdB.out.1.trans (hb5.mono HdB.out.1.size)) HdB.out.2.2); have qc0 := HT5.cell (k := 0) (by decide); have qc1 := HT5.cell (k := 1) (by decide); have qf : ∀ k, w5.frozen? ⟨w1.heap.size, k, none⟩ = false := (fun k => HT5.free k); simp only [List.getElem_cons_zero, List.getElem_cons_succ] at qc0 qc1; clear hc5 hb5 HT5 HdA))
    all_goals
      go_wp2_with fail
      go_meet
      case rel => first | exact HF5.out | exact HF6.out
  case rest =>
    obtain ⟨tb, G, us, rfl, hbt, hBk, hC, hbw⟩ := hcut
    have HTb := Lib.hid hBk
    have HC := Lib.hid hC
    have HBw := Lib.hid hbw
    have HEqN := Lib.hid (fun k hk => eqN_at a b k hk)
    clear hs1 hs2 HTab HEq HD hBk hC hbw HR1 HR2 t0 t1 t2
    go_wp2_with fail
    go_loopw [7, 8, 9] (fun p i' j' wr => ∃ (i j : Nat) (dn : List Sp), i ≤ n ∧ j ≤ m ∧ dn.length ≤ i ∧ i' = .int .i64 (i : Int) ∧ j' = .int .i64 (j : Int) ∧ Hid ((t ≤ i ∧ t ≤ j) ∨ (i = j ∧ i < t)) ∧ Hid (OwnS wc.heap.size wr p dn) ∧ Hid (Below wc.heap.size wc wr) ∧ Hid (dn ++ wkF i j (a.drop i) (b.drop j) = wkF 0 0 a b)) (fun _ i' j' _ => (n - (intOf i').toNat) + (m - (intOf j').toNat))
    case atStart => exact ⟨0, 0, [], Nat.zero_le _, Nat.zero_le _, Nat.zero_le _, rfl, rfl, Lib.hid (by omega), Lib.hid (OwnS.nil _ _), Lib.hid (Below.refl _ _), Lib.hid rfl⟩
    case round =>
      obtain ⟨i, j, dn, hi, hj, hdn, rfl, rfl, HIn, HO, HBl, HE⟩ := hrel
      by_cases hlt : i < n ∧ j < m
      · obtain ⟨h1, h2⟩ := hlt
        have x1 : i < a.length := by rw [← HN.out]; exact h1
        have x2 : j < b.length := by rw [← HM.out]; exact h2
        obtain ⟨b1, o1, rfl, c1⟩ := int_at (HA.out.below (HBw.out.trans (HBl.out.mono HBw.out.size))) i x1
        obtain ⟨b2, o2, rfl, c2⟩ := int_at (HB.out.below (HBw.out.trans (HBl.out.mono HBw.out.size))) j x2
        have HE2 : Hid (dn ++ wkF i j (a[i] :: a.drop (i + 1)) (b[j] :: b.drop (j + 1)) = wkF 0 0 a b) := Lib.hid (by rw [← List.drop_eq_getElem_cons x1, ← List.drop_eq_getElem_cons x2]; exact HE.out)
        have i0 : (0 : Int) ≤ (i : Int) := by omega
        have i1 : (i : Int) < (n : Int) := by omega
        have j0 : (0 : Int) ≤ (j : Int) := by omega
        have j1 : (j : Int) < (m : Int) := by omega
        by_cases he : a[i] = b[j]
        · have HIn2 : Hid ((t ≤ i + 1 ∧ t ≤ j + 1) ∨ (i + 1 = j + 1 ∧ i + 1 < t)) := Lib.hid (by have := HIn.out; omega)
          rw [he] at c1 HE2
          have HE3 : Hid ((dn ++ [⟨i, j⟩]) ++ wkF ((i + 1 : Nat) : Int) ((j + 1 : Nat) : Int) (a.drop (i + 1)) (b.drop (j + 1)) = wkF 0 0 a b) := Lib.hid (by
            have := HE2.out
            rw [wkF_eq] at this
            rw [← this, List.append_assoc]; rfl)
          clear HE HE2 HIn he
          generalize b[j] = z at c1 c2
          have hdx : dn.length + 1 ≤ 1000000 := by omega
          have HHx := Lib.hid (HBl.out.drew.size)
          have HOd := Lib.hid (HO.out.drewN)
          go_wp2_with fail
          go_quiet (fail)
          have HOq := Lib.hid (HOd.out nq)
          have HBq := Lib.hid (below_drewN HBl.out nq)
          have HHq := Lib.hid HBq.out.size
          clear HO HBl HOd HHx
          generalize World.drewN wr nq = wq at *
          go_wp2_with (at_builtin; refine app_sp rfl (.tmp 42) (.tmp 46) rfl wc.heap.size dn ⟨i, j⟩ _ _ rfl HOq.out rfl rfl rfl hdx HHq.out ?_; intro v1 w1 ho1 hb1 _; have HO1 := Lib.hid ho1; have HB1 := Lib.hid (HBq.out.trans hb1); clear ho1 hb1)
          go_roundw
          case rel => exact ⟨i + 1, j + 1, _, by omega, by omega, by rw [List.length_append, List.length_singleton]; omega, by go_num, by go_num, HIn2, HO1, HB1, HE3⟩
          case measure => simp [intOf]; omega
        · obtain ⟨y1, y2⟩ : t ≤ i ∧ t ≤ j := by
            rcases HIn.out with h | ⟨h, h3⟩
            · exact h
            · subst h
              obtain ⟨_, _, e⟩ := (HEqN.out i (by rw [← HT.out]; omega)).1 (by rw [← HT.out]; exact h3)
              exact absurd e he
          have hx : (a[i] == b[j]) = false := by simpa using he
          have HEo : Hid (lcs (a.drop (i + 1)) (b[j] :: b.drop (j + 1)) = lcs (a[i] :: a.drop (i + 1)) (b[j] :: b.drop (j + 1)) → dn ++ wkF ((i + 1 : Nat) : Int) j (a.drop (i + 1)) (b.drop j) = wkF 0 0 a b) := Lib.hid (fun h => by
            have := HE2.out
            rw [wkF_old he h] at this
            rw [← this, List.drop_eq_getElem_cons x2]; rfl)
          have HEn : Hid (lcs (a.drop (i + 1)) (b[j] :: b.drop (j + 1)) ≠ lcs (a[i] :: a.drop (i + 1)) (b[j] :: b.drop (j + 1)) → dn ++ wkF i ((j + 1 : Nat) : Int) (a.drop i) (b.drop (j + 1)) = wkF 0 0 a b) := Lib.hid (fun h => by
            have := HE2.out
            rw [wkF_new he h] at this
            rw [← this, List.drop_eq_getElem_cons x1]; rfl)
          have HBit : Hid (colB (a.drop t) ((b.drop t).drop (j - t)) (n - t - 1 - (i - t)) = decide (lcs (a.drop (i + 1)) (b[j] :: b.drop (j + 1)) = lcs (a[i] :: a.drop (i + 1)) (b[j] :: b.drop (j + 1)))) := Lib.hid (by
            have h := colB_at (a := a.drop t) (bs := (b.drop t).drop (j - t)) (i := i - t) (by rw [List.length_drop]; omega)
            rw [List.length_drop, ← HN.out] at h
            rw [h, List.drop_drop, List.drop_drop, List.drop_drop, show t + (j - t) = j from by omega, show t + (i - t) = i from by omega, show t + (i - t + 1) = i + 1 from by omega, List.drop_eq_getElem_cons x1, List.drop_eq_getElem_cons x2, decide_eq_decide]
            exact eq_comm)
          have HIn2 : Hid ((t ≤ i + 1 ∧ t ≤ j) ∨ (i + 1 = j ∧ i + 1 < t)) := Lib.hid (.inl ⟨by omega, y2⟩)
          have HIn3 : Hid ((t ≤ i ∧ t ≤ j + 1) ∨ (i = j + 1 ∧ i < t)) := Lib.hid (.inl ⟨y1, by omega⟩)
          clear HE HE2 HIn he
          generalize a[i] = y at *
          generalize b[j] = z at *
          generalize hq : decide (lcs (a.drop (i + 1)) (z :: b.drop (j + 1)) = lcs (y :: a.drop (i + 1)) (z :: b.drop (j + 1))) = q at HBit
          have HQ := Lib.hid hq
          have HSp : Hid (∀ nq, Calls Try.prog 34 #[.agg #[.int .i64 ((a.drop t).length : Int), .slice (some ⟨G, 0, none⟩) ((b.drop t).length + 1) ((b.drop t).length + 1)], .int .i64 ((i - t : Nat) : Int), .int .i64 ((j - t : Nat) : Int)] (wr.drewN nq) (SpPost q (wr.drewN nq))) := Lib.hid (fun nq => by
            have h := spare_at _ ((n - t + 63) / 64) (n - t) (i - t) (j - t) (a.drop t) (b.drop t) (wr.drewN nq) (Lib.hid ⟨G, us, rfl, HC.out.below (below_drewN HBl.out nq)⟩) (Lib.hid (by rw [List.length_drop, HN.out])) (by omega) (Lib.hid rfl) (by omega) (Lib.hid (by rw [List.length_drop, ← HM.out]; omega)) (by omega)
            rw [HBit.out] at h
            exact h)
          have HTw := Lib.hid (fun nq => HTb.out.below (below_drewN HBl.out nq))
          have e1 : (i : Int) - (t : Int) = ((i - t : Nat) : Int) := by omega
          have e2 : (j : Int) - (t : Int) = ((j - t : Nat) : Int) := by omega
          have E1 := Lib.hid e1
          have E2 := Lib.hid e2
          have k0 : (t : Int) ≤ (i : Int) := by omega
          have k1 : (t : Int) ≤ (j : Int) := by omega
          clear hq HBit e1 e2 x1 x2
          generalize (a.drop t).length = la at *
          generalize (b.drop t).length = lb at *
          go_wp2_with fail
          go_quiet (fail)
          have HOq := Lib.hid (HO.out.drewN nq)
          have HBq := Lib.hid (below_drewN HBl.out nq)
          have HSq := Lib.hid (HSp.out nq)
          have HTq := Lib.hid (HTw.out nq)
          clear HO HBl HSp HTw
          generalize World.drewN wr nq = wq at *
          have q0 := HTq.out.cell (k := 0) (by simp)
          have q1 := HTq.out.cell (k := 1) (by simp)
          simp only [List.getElem_cons_zero, List.getElem_cons_succ] at q0 q1
          cases q with
          | true =>
            have HEx := Lib.hid (HEo.out (by simpa using HQ.out))
            clear HEo HEn HQ
            go_wp2_with (go_at_call 34; rw [E1.out, E2.out]; refine HSq.out.mono ?_; rintro e w5 ⟨rfl, hb5⟩; have HO5 := Lib.hid (HOq.out.below hb5); have HB5 := Lib.hid (HBq.out.trans (hb5.mono HBq.out.size)); clear hb5)
            go_roundw
            case rel => exact ⟨i + 1, j, _, by omega, by omega, by omega, by go_num, rfl, HIn2, HO5, HB5, HEx⟩
            case measure => simp [intOf]; omega
          | false =>
            have HEx := Lib.hid (HEn.out (by simpa using HQ.out))
            clear HEo HEn HQ
            go_wp2_with (go_at_call 34; rw [E1.out, E2.out]; refine HSq.out.mono ?_; rintro e w5 ⟨rfl, hb5⟩; have HO5 := Lib.hid (HOq.out.below hb5); have HB5 := Lib.hid (HBq.out.trans (hb5.mono HBq.out.size)); clear hb5)
            go_roundw
            case rel => exact ⟨i, j + 1, _, by omega, by omega, by omega, rfl, by go_num, HIn3, HO5, HB5, HEx⟩
            case measure => simp [intOf]; omega
      · have HF : Hid (dn = wkF 0 0 a b) := Lib.hid (by
          have h := HE.out
          by_cases h1 : i < n
          · have h2 : b.drop j = [] := List.drop_eq_nil_of_le (by rw [← HM.out]; omega)
            rw [h2, wkF_nil', List.append_nil] at h
            exact h
          · have h2 : a.drop i = [] := List.drop_eq_nil_of_le (by rw [← HN.out]; omega)
            rw [h2, wkF_nil, List.append_nil] at h
            exact h)
        have HFin : Hid (OwnS w.heap.size wr u7 dn ∧ Below w.heap.size w wr) := Lib.hid ⟨HO.out.base HBw.out.size, HBw.out.trans (HBl.out.mono HBw.out.size)⟩
        by_cases h1 : i < n
        · have h2 : decide (j < m) = false := by rw [decide_eq_false_iff_not]; omega
          clear HE hlt HIn
          go_wp2_with fail
          go_ret
          exact ⟨_, rfl, by rw [← HF.out]; exact HFin.out.1, HFin.out.2⟩
        · have h2 : decide (i < n) = false := by rw [decide_eq_false_iff_not]; omega
          clear HE hlt HIn
          go_wp2_with fail
          go_ret
          exact ⟨_, rfl, by rw [← HF.out]; exact HFin.out.1, HFin.out.2⟩
end Sh
end Go.Proofs.Ytechabkmepejaaa

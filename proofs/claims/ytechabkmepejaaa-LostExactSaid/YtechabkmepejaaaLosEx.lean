/-
  The walk of the law LostExact. Condition: the raw numbers read as a slice of ints.
-/
import Derived.Test.YtechabkmepejaaaLosPr
import Derived.Test.YtechabkmepejaaaLosCo
import Derived.Deep.RegionHeld3
namespace Go.Proofs.Ytechabkmepejaaa
open Go.RowKit
namespace Lo
open Cm Sc Au
/-- What the law asks of the merged list. -/
structure ExF (L : List (List Int)) (m : List Mg) : Prop where
  few : FewP L.length m
  own : ∀ q (h : q < L.length), prN m q = L[q]
  most : ∀ q (h : q < L.length), L[q].length ≤ m.length
  sum : m.length ≤ (L.map List.length).sum
theorem exF_of {L : List (List Int)} (h : L.length ≤ 32) (hs : (L.map List.length).sum ≤ 4096) : ExF L (colF L) ∧ codeF L = 0 := by
  obtain ⟨h1, h2⟩ := col_small h hs
  obtain ⟨f1, _, f3, _, f5, f6⟩ := co_facts L 0 [] (FewP.nil 0)
  rw [h1]
  refine ⟨⟨by simpa using f1, fun q hq => by simpa using f3 q hq, f5, by simpa using f6⟩, h2⟩
theorem ExF.rest {L : List (List Int)} {m : List Mg} (h : ExF L m) : prN m L.length = [] := prN_small (fun x hx => (h.few x hx).1) (Nat.le_refl _)
theorem sum_take {L : List (List Int)} {k : Nat} (h : k < L.length) : ((L.take (k + 1)).map List.length).sum = ((L.take k).map List.length).sum + L[k].length := by
  rw [List.take_succ_eq_append_getElem h, List.map_append, List.sum_append]
  rfl
theorem shr_0 (x k : Nat) (h : x < 2 ^ k) : (x : Int) / 2 ^ k = 0 := by
  rw [show (2 : Int) ^ k = ((2 ^ k : Nat) : Int) from by simp, ← Int.natCast_ediv, Nat.div_eq_of_lt h]
  rfl
set_option maxRecDepth 100000 in
set_option maxHeartbeats 8000000 in
theorem exact_walk (v : Value) (raw : List Int) (n : Int) (w : World) (hr : RdV w v (intsV raw)) (hs : raw.length ≤ maxLen) (hn : zB n) :
    Calls Try.prog 5 #[v, .int .i64 n] w (AwPost w) := by
  have HAw := Lib.hid (fun w => awake_any w)
  obtain ⟨A, c, rfl⟩ := hr.form
  have HLs := Lib.hid (lists_any (.slice A (intsV raw).length c) raw n w hr hs hn)
  clear hr hs hn
  generalize (intsV raw).length = rl at *
  obtain ⟨m3, m4⟩ := lists_small (us := raw) (n := n)
  have hl5 : (lsF raw (lsN n)).length ≤ 5 := by rw [lsF_len]; exact lsN_le n
  have hl6 : ∀ l ∈ lsF raw (lsN n), l.length ≤ 6 := lsF_le
  obtain ⟨hex, hcode⟩ := exF_of (L := lsF raw (lsN n)) m3 (by omega)
  have hml := col_len (ls := lsF raw (lsN n)) m3 (by omega)
  have HCl := Lib.hid (fun x W h => Coalesce_any x (lsF raw (lsN n)) W h (by omega) lsF_zB)
  unfold CoPost at HCl
  rw [hcode] at HCl
  have HEx := Lib.hid hex
  have hsum : ((lsF raw (lsN n)).map List.length).sum ≤ 1000 := m4
  clear hex hcode m3 m4
  generalize lsF raw (lsN n) = L at *
  generalize colF L = m at *
  go_enter Try.func5, Try.ntmps5
  go_wp2_with fail
  refine HLs.out.mono ?_
  rintro e w1 ⟨v1, rfl, ho1, hb1⟩
  obtain ⟨A1, c1, rfl⟩ := ho1.form
  have HL1 := Lib.hid ho1.rd
  have HB1 := Lib.hid hb1
  clear ho1 hb1 HLs
  go_wp2_with fail
  refine (HCl.out _ _ HL1.out).mono ?_
  rintro e w2 ⟨v2, rfl, ho2, hb2⟩
  obtain ⟨A2, c2, rfl⟩ := ho2.rd.form
  have HL2 := Lib.hid (HL1.out.below hb2)
  have HM2 := Lib.hid ho2.rd
  have HB2 := Lib.hid (HB1.out.trans (hb2.mono HB1.out.size))
  clear ho2 hb2 HL1 HB1 HCl
  obtain ⟨us, hru, hul, hus⟩ := HL2.out
  rw [List.length_map] at hul
  have HAt : Hid (∀ k (h : k < L.length), ∃ b off Ax cx, A1 = some ⟨b, off, none⟩ ∧ (∀ W, Below w2.heap.size w2 W → W.cell? ⟨b, off + k, none⟩ = some (.slice Ax L[k].length cx) ∧ RdV W (.slice Ax L[k].length cx) (intsV L[k]))) := Lib.hid (fun k hk => by
    obtain ⟨_, b, off, e, hc⟩ := hru.at (by omega)
    have h3 := hus k (by omega) (by rw [List.length_map]; exact hk)
    rw [List.getElem_map] at h3
    obtain ⟨Ax, cx, e2⟩ := h3.form
    rw [intsV_len] at e2
    refine ⟨b, off, Ax, cx, e, fun W hW => ⟨?_, by rw [← e2]; exact h3.below hW⟩⟩
    have h4 := hc k (by omega)
    rw [e2] at h4
    exact (hW.cell (p := ⟨b, off + k, none⟩) (Tx.cell_lt h4)).trans h4)
  have HMr := Lib.hid (fun W (hW : Below w2.heap.size w2 W) => HM2.out.below hW)
  have HBw := Lib.hid (fun W (hW : Below w2.heap.size w2 W) => HB2.out.trans (hW.mono HB2.out.size))
  have hmp : ∀ x ∈ m, x.par < 4294967296 := fun x hx => by
    have h1 := (HEx.out.few x hx).1
    have h2 : 2 ^ L.length ≤ 2 ^ 5 := Nat.pow_le_pow_right (by omega) hl5
    omega
  have HPr := Lib.hid (fun (p : Nat) (hp : p < 32) W (hW : Below w2.heap.size w2 W) => Project_in (.slice A2 m.length c2) m p W (HMr.out W hW) (by omega) hp hmp)
  clear hru hul hus us HL2 HM2 HB2
  obtain ⟨N, hN⟩ : ∃ N, N = L.length := ⟨_, rfl⟩
  obtain ⟨M, hM⟩ : ∃ M, M = m.length := ⟨_, rfl⟩
  rw [← hN] at hl5 ⊢
  rw [← hM] at hml HPr HMr ⊢
  have HN := Lib.hid hN
  have HM := Lib.hid hM
  clear hN hM hmp
  go_wp2_with fail
  go_loopw [8, 9, 10] (fun a' s' k' wr => ∃ (a s k : Nat), a' = .int .i64 (a : Int) ∧ s' = .int .i64 (s : Int) ∧ k' = .int .i64 (k : Int) ∧ k ≤ N ∧ a ≤ M ∧ s ≤ 6 * k ∧ Hid (s = ((L.take k).map List.length).sum) ∧ Hid (Below w2.heap.size w2 wr)) (fun _ _ k' _ => N - (intOf k').toNat)
  case atStart => exact ⟨0, 0, 0, rfl, rfl, rfl, Nat.zero_le _, Nat.zero_le _, Nat.le_refl _, Lib.hid rfl, Lib.hid (Below.refl _ _)⟩
  case round =>
    obtain ⟨a, s, k, rfl, rfl, rfl, hk, ha, hs, HS, HB⟩ := hrel
    by_cases hlt : k < N
    · have hx : k < L.length := by rw [← HN.out]; exact hlt
      obtain ⟨bL, offL, Ax, cx, rfl, hat⟩ := HAt.out k hx
      have HC := Lib.hid hat
      have HPk := Lib.hid (HPr.out k (by omega))
      rw [HEx.out.own k hx] at HPk
      have hLm := HEx.out.most k hx
      rw [← HM.out] at hLm
      have hL6 := hl6 _ (List.getElem_mem hx)
      have HSt := Lib.hid (sum_take hx)
      have i1 : (0 : Int) ≤ (k : Int) := by omega
      have i2 : (k : Int) < (N : Int) := by omega
      clear hat HAt HPr
      generalize L[k] = Lk at *
      obtain ⟨c0, hr0⟩ := HC.out wr HB.out
      have HIn := Lib.hid (fun x W (h1 : RdV W x (intsV Lk)) (h2 : Below w2.heap.size w2 W) => Ints_two x (.slice Ax Lk.length cx) Lk w2 W (by omega) h1 (HC.out W h2).2 h2)
      have hn : (intsV Lk).length = Lk.length := intsV_len Lk
      clear hr0
      generalize Lk.length = nk at *
      go_upto_region 9 with fail
      have HBd := Lib.hid HB.out.drew
      go_region_held3 (fun V => V.cell? ⟨bL, offL + k, none⟩ = some (.slice Ax nk cx))
        (first | go_keep | exact (HC.out _ HBp.out).1 | exact (HC.out _ HBq.out).1)
        (first
          | (go_at_call 14; refine (HPk.out _ HBd.out).mono ?_; rintro e wp ⟨vp, rfl, hop, hbp⟩; have HRp := Lib.hid (RdV.of_own hop); have HBp := Lib.hid (HBd.out.trans (hbp.mono HBd.out.size)); clear hop hbp)
          | (go_at_call 13; refine (HIn.out _ _ HRp.out HBp.out).mono ?_; rintro e wq ⟨rfl, hbq⟩; have HBq := Lib.hid hbq; clear hbq))
      clear c0 HBd HRp HBp HPk HIn HB
      obtain ⟨c0, _⟩ := HC.out wq HBq.out
      go_upto_region 11 with fail
      have hw : IntKind.i64.wrap ((s : Int) + (nk : Int)) = (s : Int) + (nk : Int) := IntWalk.i64_in _ (by omega)
      by_cases hm : a < nk
      · have dm : decide ((a : Int) < (nk : Int)) = true := decide_eq_true (by omega)
        go_region_held3 (fun V => V.cell? ⟨bL, offL + k, none⟩ = some (.slice Ax nk cx)) (go_keep) (fail)
        go_wp2_with fail
        go_roundw
        case rel => exact ⟨nk, s + nk, k + 1, rfl, by rw [Int.natCast_add], by go_num, by omega, by omega, by omega, Lib.hid (by rw [HSt.out, ← HS.out]), Lib.hid HBq.out.drew⟩
        case measure => simp [intOf]; omega
      · have dm : decide ((a : Int) < (nk : Int)) = false := decide_eq_false (by omega)
        go_region_held3 (fun V => V.cell? ⟨bL, offL + k, none⟩ = some (.slice Ax nk cx)) (go_keep) (fail)
        go_wp2_with fail
        go_roundw
        case rel => exact ⟨a, s + nk, k + 1, rfl, by rw [Int.natCast_add], by go_num, by omega, by omega, by omega, Lib.hid (by rw [HSt.out, ← HS.out]), Lib.hid HBq.out.drew⟩
        case measure => simp [intOf]; omega
    · obtain rfl : k = N := by omega
      have dk : decide ((k : Int) < (k : Int)) = false := decide_eq_false (by omega)
      have HSf : Hid (M ≤ s) := Lib.hid (by
        have h1 := HEx.out.sum
        have h2 := HS.out
        rw [HN.out, List.take_length] at h2
        rw [HM.out, h2]
        exact h1)
      have hP : ∀ j (h : j < m.length), m[j].par < 2 ^ k ∧ m[j].par ≠ 0 := fun j h => by
        have := HEx.out.few _ (List.getElem_mem h)
        rw [← HN.out] at this
        exact this
      have HPk := Lib.hid (HPr.out k (by omega))
      have hrest := HEx.out.rest
      rw [← HN.out] at hrest
      rw [hrest] at HPk
      have HP := Lib.hid hP
      clear hP hrest HPr HAt HS
      go_wp2_with fail
      go_loopw [11] (fun j' wq => ∃ j : Nat, j ≤ M ∧ j' = .int .i64 (j : Int) ∧ wq = wr) (fun j' _ => M - (intOf j').toNat)
      case atStart => exact ⟨0, Nat.zero_le _, rfl, rfl⟩
      case round =>
        obtain ⟨j, hj, rfl, rfl⟩ := hrel
        by_cases hlt2 : j < M
        · have hy : j < m.length := by rw [← HM.out]; exact hlt2
          obtain ⟨b, off, rfl, q0, q1⟩ := RdM_at (HMr.out _ HB.out) j hy
          obtain ⟨p1, p2⟩ := HP.out j hy
          have j0 : (0 : Int) ≤ (j : Int) := by omega
          have j1 : (j : Int) < (M : Int) := by omega
          have k0 : (0 : Int) ≤ (k : Int) := by omega
          have k1 : (k : Int) ≤ 5 := by omega
          have hsh := shr_0 m[j].par k p1
          have hpar : ((m[j].par : Int) == 0) = false := by rw [beq_eq_false_iff_ne]; omega
          have hlt32 : m[j].par < 4294967296 := by
            have h2 : 2 ^ k ≤ 2 ^ 5 := Nat.pow_le_pow_right (by omega) hl5
            omega
          clear p1 p2
          generalize m[j].line = ln at *
          generalize m[j].par = pr at *
          have hw64 : IntKind.u64.wrap (pr : Int) = (pr : Int) := by rw [IntKind.wrap_u64]; omega
          go_wp2_with fail
          go_roundw
          case rel => exact ⟨j + 1, by omega, by go_num, by simp⟩
          case measure => simp [intOf]; omega
        · obtain rfl : j = M := by omega
          have dj : decide ((j : Int) < (j : Int)) = false := decide_eq_false (by omega)
          have t1 : decide ((a : Int) ≤ (j : Int)) = true := decide_eq_true (by omega)
          have t2 : decide ((j : Int) ≤ (s : Int)) = true := decide_eq_true (by have := HSf.out; omega)
          go_wp2_with fail
          refine (HPk.out _ HB.out).mono ?_
          rintro e w5 ⟨v5, rfl, ho5, hb5⟩
          obtain ⟨A5, c5, rfl⟩ := own_form ho5
          have HB5 := Lib.hid (HB.out.trans (hb5.mono HB.out.size))
          clear ho5 hb5
          go_wp2_with fail
          refine (HAw.out _).mono ?_
          rintro e w9 ⟨rfl, hb9⟩
          have HB9 := Lib.hid ((HBw.out _ HB5.out).trans (hb9.mono (HBw.out _ HB5.out).size))
          clear hb9
          go_wp2_with fail
          go_ret
          exact ⟨rfl, HB9.out⟩
end Lo
end Go.Proofs.Ytechabkmepejaaa

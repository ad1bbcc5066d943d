/-
  The walk of the law LostCoalesces. Conditions: lists of numbers that a machine holds.
-/
import Derived.Test.YtechabkmepejaaaLosAw
import Derived.Test.YtechabkmepejaaaLosS
import Derived.Test.YtechabkmepejaaaLosH
namespace Go.Proofs.Ytechabkmepejaaa
open Go.RowKit
namespace Lo
open Cm Sc
theorem col_len {ls : List (List Int)} (h : ls.length ≤ 32) (hs : (ls.map List.length).sum ≤ 4096) : (colF ls).length ≤ 4096 := by
  rw [(col_small h hs).1]
  have := (co_facts ls 0 [] (FewP.nil 0)).2.2.2.2.2
  simp only [List.length_nil] at this
  omega
theorem lists_small {us : List Int} {n : Int} : (lsF us (lsN n)).length ≤ 32 ∧ ((lsF us (lsN n)).map List.length).sum ≤ 1000 := by
  have h1 := lsN_le n
  have h2 := sum_le (ls := lsF us (lsN n)) (c := 6) lsF_le
  rw [lsF_len] at *
  exact ⟨by omega, by omega⟩
/-- Two slices that read as one merged list are the same. -/
theorem Same_two (a b : Value) (xs : List Mg) (w W : World) (hl : xs.length ≤ 4096) (ha : RdM W a xs) (hb : RdM W b xs) (hB : Below w.heap.size w W) :
    Calls Try.prog 12 #[a, b] W fun e w' => e = .returned (.bool true) ∧ Below w.heap.size w w' ∧ Below W.heap.size W w' :=
  (Same_mg a b xs W (by omega) ha hb).mono (by
    rintro e w' ⟨rfl, m, rfl⟩
    exact ⟨rfl, below_drewN hB m, below_drewN (Below.refl _ _) m⟩)
set_option maxRecDepth 100000 in
set_option maxHeartbeats 4000000 in
theorem coalesces_walk (v u : Value) (raw : List Int) (n : Int) (l : List (List Int)) (w : World) (hr : RdV w v (intsV raw)) (hs : raw.length ≤ maxLen) (hn : zB n) (hu : RdLL w u (l.map intsV)) (hul : l.length ≤ maxLen) (huz : ∀ f ∈ l, f.length ≤ maxLen ∧ ∀ z ∈ f, zB z) :
    Calls Try.prog 3 #[v, .int .i64 n, u] w (AwPost w) := by
  have HAw := Lib.hid (fun w => awake_any w)
  obtain ⟨us, hru, hul2, hus⟩ := hu
  rw [List.length_map] at hul2
  obtain ⟨A2, c2, rfl⟩ := hru.form
  rw [hul2]
  rw [hul2] at hru
  have HAt : Hid (∀ k (h : k < l.length), ∃ b off Ax cx, A2 = some ⟨b, off, none⟩ ∧ w.cell? ⟨b, off + k, none⟩ = some (.slice Ax l[k].length cx)) := Lib.hid (fun k hk => by
    obtain ⟨_, b, off, e, hc⟩ := hru.at (by omega)
    have h3 := hus k (by omega) (by rw [List.length_map]; exact hk)
    rw [List.getElem_map] at h3
    obtain ⟨Ax, cx, e2⟩ := h3.form
    rw [intsV_len] at e2
    exact ⟨b, off, Ax, cx, e, by rw [hc k (by omega), e2]⟩)
  have HLL := Lib.hid (fun W (hB : Below w.heap.size w W) => (show RdLL w (.slice A2 l.length c2) (l.map intsV) from ⟨us, hru, by rw [List.length_map]; exact hul2, hus⟩).below hB)
  have HMx : Hid (∀ k (h : k < l.length), l[k].length ≤ 9223372036854775807) := Lib.hid (fun k hk => by have := (huz _ (List.getElem_mem hk)).1; unfold maxLen at this; omega)
  have HUz := Lib.hid (fun f hf => (huz f hf).2)
  obtain ⟨A, c, rfl⟩ := hr.form
  have HLs := Lib.hid (fun W (hB : Below w.heap.size w W) => lists_any (.slice A (intsV raw).length c) raw n W (hr.below hB) hs hn)
  clear hr hs hn hru hul2 hus huz us
  unfold maxLen at hul
  by_cases hbig : 6 < l.length
  · clear HAt HLL HLs HMx HUz
    generalize l.length = N at *
    have d1 : decide ((6 : Int) < (N : Int)) = true := decide_eq_true (by omega)
    go_enter Try.func3, Try.ntmps3
    go_wp2_with fail
    refine (HAw.out _).mono ?_
    rintro e w1 ⟨rfl, hb1⟩
    go_wp2_with fail
    go_ret
    exact ⟨rfl, hb1⟩
  · have HSm : Hid ((∀ f ∈ l, f.length ≤ 8) → l.length ≤ 32 ∧ (l.map List.length).sum ≤ 1000) := Lib.hid (fun h => by
      have := sum_le h
      exact ⟨by omega, by omega⟩)
    obtain ⟨N, hN⟩ : ∃ N, N = l.length := ⟨_, rfl⟩
    rw [← hN] at hbig HLL ⊢
    have HN := Lib.hid hN
    clear hN hul
    have d1 : decide ((6 : Int) < (N : Int)) = false := decide_eq_false (by omega)
    generalize (intsV raw).length = rl at *
    go_enter Try.func3, Try.ntmps3
    go_wp2_with fail
    go_loopw [7] (fun k' wr => ∃ k : Nat, k ≤ N ∧ k' = .int .i64 (k : Int) ∧ wr = w ∧ Hid (∀ j (h : j < l.length), j < k → l[j].length ≤ 8)) (fun k' _ => N - (intOf k').toNat)
    case atStart => exact ⟨0, Nat.zero_le _, rfl, rfl, Lib.hid (fun j h hj => absurd hj (Nat.not_lt_zero _))⟩
    case round =>
      obtain ⟨k, hk, rfl, rfl, HI⟩ := hrel
      by_cases hlt : k < N
      · have hx : k < l.length := by rw [← HN.out]; exact hlt
        obtain ⟨b, off, Ax, cx, rfl, c0⟩ := HAt.out k hx
        have hmx := HMx.out k hx
        have HI2 : Hid (l[k].length ≤ 8 → ∀ j (h : j < l.length), j < k + 1 → l[j].length ≤ 8) := Lib.hid (fun h8 j hj hjk => by
          by_cases e : j = k
          · subst e; exact h8
          · exact HI.out j hj (by omega))
        have i1 : (0 : Int) ≤ (k : Int) := by omega
        have i2 : (k : Int) < (N : Int) := by omega
        clear HI HAt HMx
        generalize l[k].length = M at *
        by_cases h8 : M ≤ 8
        · have d2 : decide ((8 : Int) < (M : Int)) = false := decide_eq_false (by omega)
          have HI3 := Lib.hid (HI2.out h8)
          go_wp2_with fail
          go_roundw
          case rel => exact ⟨k + 1, by omega, by go_num, by simp, HI3⟩
          case measure => simp [intOf]; omega
        · have d2 : decide ((8 : Int) < (M : Int)) = true := decide_eq_true (by omega)
          go_wp2_with fail
          refine (HAw.out _).mono ?_
          rintro e w1 ⟨rfl, hb1⟩
          go_wp2_with fail
          go_ret
          exact ⟨rfl, hb1⟩
      · obtain rfl : k = N := by omega
        have hall : ∀ f ∈ l, f.length ≤ 8 := fun f hf => by
          obtain ⟨j, hj, rfl⟩ := List.mem_iff_getElem.1 hf
          exact HI.out j hj (by rw [HN.out]; exact hj)
        obtain ⟨m1, m2⟩ := HSm.out hall
        have HCu := Lib.hid (fun W hB => Coalesce_any (.slice A2 k c2) l W (HLL.out W hB) (by omega) HUz.out)
        have HRu := Lib.hid (fun W hB => CoalesceR_any (.slice A2 k c2) l W (HLL.out W hB) m1 m2)
        have HSu := Lib.hid (fun a b W ha hb hB => Same_two a b (colF l) wr W (col_len m1 (by omega)) ha hb hB)
        obtain ⟨m3, m4⟩ := lists_small (us := raw) (n := n)
        have HCl := Lib.hid (fun x W h => Coalesce_any x (lsF raw (lsN n)) W h (by omega) lsF_zB)
        have HRl := Lib.hid (fun x W h => CoalesceR_any x (lsF raw (lsN n)) W h m3 m4)
        have HSl := Lib.hid (fun a b W ha hb hB => Same_two a b (colF (lsF raw (lsN n))) wr W (col_len m3 (by omega)) ha hb hB)
        unfold CoPost at HCu HRu HCl HRl
        clear HAt HI HMx HUz HSm hall m1 m2 m3 m4 HN
        generalize colF l = cu at *
        generalize codeF l = ku at *
        generalize lsF raw (lsN n) = L at *
        generalize colF L = cl at *
        generalize codeF L = kl at *
        have HB0 := Lib.hid (Below.refl wr.heap.size wr)
        go_wp2_with fail
        refine (HLs.out _ HB0.out).mono ?_
        rintro e w1 ⟨vl, rfl, ho, hb⟩
        obtain ⟨Al, cl, rfl⟩ := ho.form
        have HL := Lib.hid ho.rd
        have HB1 := Lib.hid (HB0.out.trans (hb.mono HB0.out.size))
        clear ho hb HB0
        go_wp2_with fail
        refine (HCl.out _ _ HL.out).mono ?_
        rintro e w2 ⟨vp, rfl, ho, hb⟩
        obtain ⟨Ap, cp, rfl⟩ := ho.rd.form
        have HRp := Lib.hid ho.rd
        have HB2 := Lib.hid (HB1.out.trans (hb.mono HB1.out.size))
        clear ho hb HB1 HL
        go_wp2_with fail
        refine (HLs.out _ HB2.out).mono ?_
        rintro e w3 ⟨vl, rfl, ho, hb⟩
        obtain ⟨Al, cl, rfl⟩ := ho.form
        have HL := Lib.hid ho.rd
        have HB3 := Lib.hid (HB2.out.trans (hb.mono HB2.out.size))
        have HRp := Lib.hid (HRp.out.below hb)
        clear ho hb HB2
        go_wp2_with fail
        refine (HRl.out _ _ HL.out).mono ?_
        rintro e w4 ⟨vq, rfl, ho, hb⟩
        obtain ⟨Aq, cq, rfl⟩ := ho.rd.form
        have HRq := Lib.hid ho.rd
        have HB4 := Lib.hid (HB3.out.trans (hb.mono HB3.out.size))
        have HRp := Lib.hid (HRp.out.below hb)
        clear ho hb HB3 HL
        go_wp2_with fail
        refine (HCu.out _ HB4.out).mono ?_
        rintro e w5 ⟨vr, rfl, ho, hb⟩
        obtain ⟨Ar, cr, rfl⟩ := ho.rd.form
        have HRr := Lib.hid ho.rd
        have HB5 := Lib.hid (HB4.out.trans (hb.mono HB4.out.size))
        have HRp := Lib.hid (HRp.out.below hb)
        have HRq := Lib.hid (HRq.out.below hb)
        clear ho hb HB4
        go_wp2_with fail
        refine (HRu.out _ HB5.out).mono ?_
        rintro e w6 ⟨vs, rfl, ho, hb⟩
        obtain ⟨As, cs, rfl⟩ := ho.rd.form
        have HRs := Lib.hid ho.rd
        have HB6 := Lib.hid (HB5.out.trans (hb.mono HB5.out.size))
        have HRp := Lib.hid (HRp.out.below hb)
        have HRq := Lib.hid (HRq.out.below hb)
        have HRr := Lib.hid (HRr.out.below hb)
        clear ho hb HB5
        go_wp2_with fail
        refine (HSl.out _ _ _ HRp.out HRq.out HB6.out).mono ?_
        rintro e w7 ⟨rfl, hb0, hb⟩
        have HB7 := Lib.hid hb0
        have HRr := Lib.hid (HRr.out.below hb)
        have HRs := Lib.hid (HRs.out.below hb)
        clear hb hb0
        go_wp2_with fail
        refine (HSu.out _ _ _ HRr.out HRs.out HB7.out).mono ?_
        rintro e w8 ⟨rfl, hb0, hb⟩
        have HB8 := Lib.hid hb0
        clear hb hb0
        go_wp2_with fail
        refine (HAw.out _).mono ?_
        rintro e w9 ⟨rfl, hb9⟩
        have HB9 := Lib.hid (HB8.out.trans (hb9.mono HB8.out.size))
        clear hb9
        go_wp2_with fail
        go_ret
        exact ⟨rfl, HB9.out⟩
end Lo
end Go.Proofs.Ytechabkmepejaaa

/-
  The walk of the law LostCopies. Condition: the raw numbers read as a slice of ints.
-/
import Derived.Test.YtechabkmepejaaaLosCo
namespace Go.Proofs.Ytechabkmepejaaa
open Go.RowKit
namespace Lo
open Cm Sc Au
def cB (us : List Int) (p : Nat) : Bool := Int.tmod (atF us (50 + (p : Int))) 4 == 0
def cpF (us xs : List Int) (k : Nat) : List (List Int) := (List.range k).map fun p : Nat => if cB us p = true then [] else xs
def wtF (us : List Int) : Nat → Nat
  | 0 => 0
  | k + 1 => if cB us k = true then wtF us k else wtF us k ||| 2 ^ k
theorem cpF_len (us xs : List Int) (k : Nat) : (cpF us xs k).length = k := by simp [cpF]
theorem cpF_T {us xs : List Int} {k : Nat} (h : cB us k = true) : cpF us xs (k + 1) = cpF us xs k ++ [[]] := by simp [cpF, List.range_succ, h]
theorem cpF_F {us xs : List Int} {k : Nat} (h : cB us k = false) : cpF us xs (k + 1) = cpF us xs k ++ [xs] := by simp [cpF, List.range_succ, h]
theorem wtF_T {us : List Int} {k : Nat} (h : cB us k = true) : wtF us (k + 1) = wtF us k := by
  show (if cB us k = true then wtF us k else wtF us k ||| 2 ^ k) = _
  rw [if_pos h]
theorem wtF_F {us : List Int} {k : Nat} (h : cB us k = false) : wtF us (k + 1) = wtF us k ||| 2 ^ k := by
  show (if cB us k = true then wtF us k else wtF us k ||| 2 ^ k) = _
  rw [if_neg (by rw [h]; decide)]
theorem wtF_lt (us : List Int) : ∀ k, wtF us k < 2 ^ k
  | 0 => by show 0 < 2 ^ 0; decide
  | k + 1 => by
    have ih := wtF_lt us k
    have up : (2 : Nat) ^ k < 2 ^ (k + 1) := Nat.pow_lt_pow_right (by decide) (by omega)
    cases h : cB us k with
    | true => rw [wtF_T h]; omega
    | false => rw [wtF_F h]; exact Nat.or_lt_two_pow (by omega) up
theorem or_ne (w k : Nat) : w ||| 2 ^ k ≠ 0 := fun e => by
  have h2 : (w ||| 2 ^ k).testBit k = true := by rw [Nat.testBit_or, Nat.testBit_two_pow_self, Bool.or_true]
  rw [e] at h2
  simp at h2
theorem coF_snoc (ys : List Int) : ∀ (ls : List (List Int)) (k : Nat) (l : List Mg), coF k l (ls ++ [ys]) = jn (coF k l ls) ys (2 ^ (k + ls.length))
  | [], k, l => rfl
  | z :: r, k, l => by
    show coF (k + 1) (jn l z (2 ^ k)) (r ++ [ys]) = _
    rw [coF_snoc ys r (k + 1) (jn l z (2 ^ k)), List.length_cons, show k + 1 + r.length = k + (r.length + 1) from by omega]
    rfl
def stF (us xs : List Int) (k : Nat) : List Mg := if wtF us k = 0 then [] else news (wtF us k) xs
theorem co_copies (us xs : List Int) : ∀ k, coF 0 [] (cpF us xs k) = stF us xs k
  | 0 => rfl
  | k + 1 => by
    have ih := co_copies us xs k
    cases h : cB us k with
    | true =>
      rw [cpF_T h, coF_snoc, ih, jn_nil]
      unfold stF
      rw [wtF_T h]
    | false =>
      rw [cpF_F h, coF_snoc, ih, cpF_len, Nat.zero_add]
      unfold stF
      rw [wtF_F h, if_neg (or_ne _ _)]
      by_cases e : wtF us k = 0
      · rw [if_pos e, e, jn_new, Nat.zero_or]
      · rw [if_neg e, jn_copy]
theorem col_copies {us xs : List Int} {k : Nat} (hk : k ≤ 32) (hx : xs.length ≤ 6) : colF (cpF us xs k) = stF us xs k ∧ codeF (cpF us xs k) = 0 := by
  have h1 := sum_le (ls := cpF us xs k) (c := 6) (by
    intro l hl
    obtain ⟨p, _, rfl⟩ := List.mem_map.1 hl
    split
    · simp
    · exact hx)
  rw [cpF_len] at h1
  obtain ⟨h2, h3⟩ := col_small (ls := cpF us xs k) (by rw [cpF_len]; exact hk) (by omega)
  exact ⟨by rw [h2, co_copies], h3⟩
theorem cpF_zB {us xs : List Int} {k : Nat} (h : ∀ z ∈ xs, zB z) : ∀ l ∈ cpF us xs k, ∀ z ∈ l, zB z := by
  intro l hl z hz
  obtain ⟨p, _, rfl⟩ := List.mem_map.1 hl
  split at hz
  · cases hz
  · exact h z hz
/-- A slice of ints is as it was behind an append onto a slice of slices. -/
theorem own_app {w w9 : World} {base base' n n' : Nat} {v v' : Value} {xs xs' : List Value} {C : Array Value} (h : w.ownsRow base tI 1 v n xs) (h' : w.ownsRow base' tIs 1 v' n' xs') (hg : (w.alloc (.cells C tIs)).grownBy w9 v'.ownBlock) : w9.ownsRow base tI 1 v n xs :=
  World.ownsRow.kept (World.ownsRow.alloc h (.cells C tIs)) hg (own_ne (World.ownsRow.alloc h (.cells C tIs)) (World.ownsRow.alloc h' (.cells C tIs)) (by decide))
set_option maxRecDepth 100000 in
set_option maxHeartbeats 8000000 in
theorem copies_walk (v : Value) (raw : List Int) (n : Int) (w : World) (hr : RdV w v (intsV raw)) (hs : raw.length ≤ maxLen) (hn : zB n) :
    Calls Try.prog 6 #[v, .int .i64 n] w (AwPost w) := by
  have HAw := Lib.hid (fun w => awake_any w)
  obtain ⟨A, c, rfl⟩ := hr.form
  have HAt := Lib.hid (fun (wq : World) (k : Int) (hb : Below w.heap.size w wq) (h0 : 0 ≤ k) (h1 : k ≤ 1000) => At_fn (.slice A (intsV raw).length c) raw k wq (hr.below hb) hs h0 (by omega))
  have HId := Lib.hid (fun (wq : World) (N : Nat) (hb : Below w.heap.size w wq) hN => Ids_at (.slice A (intsV raw).length c) raw 5 N 3 wq (hr.below hb) hs ⟨by omega, by omega⟩ hN ⟨by omega, by omega⟩)
  have HMn := Lib.hid (fun w => Tx.Mod_any n 32 w (by omega) (by omega) hn.1 hn.2)
  have n1 := Tx.modF_lo n 32 (by omega)
  have n2 := Tx.modF_hi n 32 (by omega)
  generalize Tx.modF n 32 = nn at *
  have HA0 := Lib.hid (HAt.out w 0 (Below.refl _ _) (by omega) (by omega))
  have z1 := atF_lo raw 0
  have z2 := atF_hi raw 0
  generalize atF raw 0 = z0 at *
  have m1 := Tx.modF_lo z0 7 (by omega)
  have m2 := Tx.modF_hi z0 7 (by omega)
  have HMd := Lib.hid (fun w => Tx.Mod_any z0 7 w (by omega) (by omega) z1 z2)
  generalize Tx.modF z0 7 = mm at *
  obtain ⟨C, rfl⟩ : ∃ C : Nat, mm = (C : Int) := ⟨mm.toNat, by omega⟩
  obtain ⟨N, hN⟩ : ∃ N : Nat, 1 + nn = (N : Int) := ⟨(1 + nn).toNat, by omega⟩
  have hN32 : N ≤ 32 := by omega
  have HI5 := Lib.hid (HId.out w C (Below.refl _ _) (by omega))
  have hxl : (idsF raw 5 3 C).length ≤ 6 := by rw [idsF_len]; omega
  have hxz : ∀ z ∈ idsF raw 5 3 C, zB z := idsF_zB ⟨by omega, by omega⟩
  have HXl := Lib.hid (idsF_len raw 5 3 C)
  clear HId m1 m2 z1 z2 hr hs hn
  generalize idsF raw 5 3 C = xs at *
  generalize (intsV raw).length = rl at *
  go_enter Try.func6, Try.ntmps6
  go_wp2_with fail
  refine (HMn.out _).mono ?_
  rintro e w1 ⟨rfl, rfl⟩
  go_wp2_with fail
  refine HA0.out.mono ?_
  rintro e w1 ⟨rfl, rfl⟩
  go_wp2_with fail
  refine (HMd.out _).mono ?_
  rintro e w1 ⟨rfl, rfl⟩
  go_wp2_with fail
  refine HI5.out.mono ?_
  rintro e w5 ⟨vx, rfl, ho5, hb5⟩
  obtain ⟨Ax, cx, rfl⟩ := own_form ho5
  rw [HXl.out]
  rw [HXl.out] at ho5
  have HX5 := Lib.hid ho5
  have HB5 := Lib.hid hb5
  clear ho5 hb5 HI5 HMd HA0 HMn
  go_wp2_with fail
  go_loopw [6, 7, 8] (fun l' t' k' wr => ∃ k : Nat, k ≤ N ∧ k' = .int .i64 (k : Int) ∧ t' = .int .u32 (wtF raw k : Nat) ∧ Hid (OwnLL wr w.heap.size l' (cpF raw xs k)) ∧ Hid (wr.ownsRow w.heap.size tI 1 (.slice Ax C cx) C (intsV xs)) ∧ Hid (Below w.heap.size w wr)) (fun _ _ k' _ => N - (intOf k').toNat)
  case atStart => exact ⟨0, Nat.zero_le _, rfl, rfl, Lib.hid (OwnLL.nil _ _), HX5, HB5⟩
  case round =>
    obtain ⟨k, hk, rfl, rfl, HO, HX, HB⟩ := hrel
    clear HX5 HB5
    by_cases hlt : k < N
    · have i1 : (0 : Int) ≤ (k : Int) := by omega
      have i2 : (k : Int) < (N : Int) := by omega
      have HAk := Lib.hid (HAt.out wr (50 + (k : Int)) HB.out (by omega) (by omega))
      have z1 := atF_lo raw (50 + (k : Int))
      have z2 := atF_hi raw (50 + (k : Int))
      have hlk := cpF_len raw xs k
      have hwl := wtF_lt raw k
      have h2k : 2 ^ k < 4294967296 := Nat.pow_lt_pow_right (a := 2) (by omega) (show k < 32 by omega)
      cases hc : cB raw k with
      | true =>
        have HL2 := Lib.hid (cpF_T (xs := xs) hc)
        have HW2 := Lib.hid (wtF_T hc)
        have hq : (Int.tmod (atF raw (50 + (k : Int))) 4 == 0) = true := hc
        clear hc
        generalize atF raw (50 + (k : Int)) = z at *
        generalize cpF raw xs k = L at *
        generalize hl2 : cpF raw xs (k + 1) = L2 at *
        generalize hw2 : wtF raw (k + 1) = W2 at *
        generalize wtF raw k = W1 at *
        have HE := Lib.hid (And.intro hl2 hw2)
        clear hl2 hw2
        obtain ⟨us8, _, g8, p8⟩ := HO.out.out
        have HG8 := Lib.hid g8
        have HA8 := Lib.hid p8
        clear g8 p8
        go_wp2_with (first
          | (go_at_call 18; refine HAk.out.mono ?_; rintro e w7 ⟨rfl, rfl⟩)
          | (at_builtin; refine app_one rfl Try.underlying23 info_ints rfl (by omega) (.tmp 31) (.tmp 32) rfl w.heap.size L.length us8 (.slice none 0 0) rfl _ _ rfl HG8.out rfl rfl (by omega) HB.out.size ?_; intro v9 w9 ho9 hb9 hg9; have HO9 := Lib.hid (HA8.out _ [] _ _ _ (World.ownsRow_nil _ _ _ _) ho9 hg9); have HX9 := Lib.hid (own_app HX.out HG8.out hg9); have HB9 := Lib.hid (HB.out.trans hb9); clear ho9 hb9 hg9))
        go_roundw
        case rel => exact ⟨k + 1, by omega, by go_num, by rw [HE.out.2, HW2.out], by rw [HE.out.1, HL2.out]; exact HO9, HX9, HB9⟩
        case measure => simp [intOf]; omega
      | false =>
        have HL2 := Lib.hid (cpF_F (xs := xs) hc)
        have HW2 := Lib.hid (wtF_F hc)
        have hq : (Int.tmod (atF raw (50 + (k : Int))) 4 == 0) = false := hc
        clear hc
        have hsh : IntKind.u32.wrap ((2 : Int) ^ k) = ((2 ^ k : Nat) : Int) := by
          rw [show (2 : Int) ^ k = ((2 ^ k : Nat) : Int) from by simp]
          exact wrap_u32 _ h2k
        have hor := or_u32 (wtF raw k) (2 ^ k) (by omega) h2k
        generalize atF raw (50 + (k : Int)) = z at *
        generalize cpF raw xs k = L at *
        generalize hl2 : cpF raw xs (k + 1) = L2 at *
        generalize hw2 : wtF raw (k + 1) = W2 at *
        generalize wtF raw k = W1 at *
        generalize (2 : Nat) ^ k = bt at *
        have HE := Lib.hid (And.intro hl2 hw2)
        clear hl2 hw2
        obtain ⟨us8, _, g8, p8⟩ := HO.out.out
        have HG8 := Lib.hid g8
        have HA8 := Lib.hid p8
        have HU : Hid (wr.ownsRow w.heap.size 3 1 (.slice Ax C cx) xs.length (intsV xs)) := Lib.hid (by rw [HXl.out]; exact HX.out)
        clear g8 p8
        go_wp2_with (first
          | (go_at_call 18; refine HAk.out.mono ?_; rintro e w7 ⟨rfl, rfl⟩)
          | (at_builtin; refine app_one rfl Try.underlying23 info_ints rfl (by omega) (.tmp 34) (.tmp 36) rfl w.heap.size L.length us8 (.slice Ax C cx) rfl _ _ rfl HG8.out rfl rfl (by omega) HB.out.size ?_; intro v9 w9 ho9 hb9 hg9; have HO9 := Lib.hid (HA8.out _ xs _ _ _ HU.out ho9 hg9); have HX9 := Lib.hid (own_app HX.out HG8.out hg9); have HB9 := Lib.hid (HB.out.trans hb9); clear ho9 hb9 hg9))
        go_roundw
        case rel => exact ⟨k + 1, by omega, by go_num, by rw [HE.out.2, HW2.out], by rw [HE.out.1, HL2.out]; exact HO9, HX9, HB9⟩
        case measure => simp [intOf]; omega
    · obtain rfl : k = N := by omega
      have dk : decide ((k : Int) < (k : Int)) = false := decide_eq_false (by omega)
      obtain ⟨hcol, hcode⟩ := col_copies (us := raw) (xs := xs) hN32 hxl
      obtain ⟨Al, cl, rfl⟩ := HO.out.form
      have HCo := Lib.hid (Coalesce_any _ (cpF raw xs k) wr HO.out.rd (by rw [cpF_len]; omega) (cpF_zB hxz))
      unfold CoPost at HCo
      rw [hcol, hcode] at HCo
      have HSt : Hid (stF raw xs k = if wtF raw k = 0 then [] else news (wtF raw k) xs) := Lib.hid rfl
      have hwl : wtF raw k < 4294967296 := by
        have h1 := wtF_lt raw k
        have h2 : 2 ^ k ≤ 2 ^ 32 := Nat.pow_le_pow_right (by omega) hN32
        omega
      rw [cpF_len] at *
      clear hcol hcode HO HAt hN
      generalize stF raw xs k = m at *
      generalize wtF raw k = W at *
      go_wp2_with fail
      refine HCo.out.mono ?_
      rintro e w6 ⟨v6, rfl, ho6, hb6⟩
      obtain ⟨A6, c6, rfl⟩ := ho6.rd.form
      have HM6 := Lib.hid ho6.rd
      have HX6 := Lib.hid (RdV.of_own (own_below HX.out hb6))
      have HB6 := Lib.hid (HB.out.trans (hb6.mono HB.out.size))
      clear ho6 hb6 HCo HX HB
      have HAl : Hid (∀ j (h : j < m.length), m[j].par = W ∧ ∃ hx : j < xs.length, m[j].line = xs[j]) := Lib.hid (by
        intro j h
        have e := HSt.out
        by_cases h0 : W = 0
        · rw [if_pos h0] at e
          subst e
          exact absurd h (Nat.not_lt_zero _)
        · rw [if_neg h0] at e
          subst e
          have hx : j < xs.length := by rw [news_len] at h; exact h
          exact ⟨by simp [news], hx, by simp [news]⟩)
      have HLn : Hid ((W = 0 → m.length = 0) ∧ (W ≠ 0 → m.length = C)) := Lib.hid (by
        have e := HSt.out
        refine ⟨fun h0 => ?_, fun h0 => ?_⟩
        · rw [if_pos h0] at e
          rw [e]; rfl
        · rw [if_neg h0] at e
          rw [e, news_len, HXl.out])
      clear HSt
      obtain ⟨M, hM⟩ : ∃ M, M = m.length := ⟨_, rfl⟩
      rw [← hM] at HLn ⊢
      have HM := Lib.hid hM
      clear hM
      by_cases h0 : W = 0
      · have hM0 := HLn.out.1 h0
        subst h0
        have t2 : decide ((0 : Int) < (M : Int)) = false := decide_eq_false (by omega)
        clear HLn
        go_wp2_with fail
        go_loopw [11] (fun j' wq => ∃ j : Nat, j ≤ M ∧ j' = .int .i64 (j : Int) ∧ ∃ q, wq = w6.drewN q) (fun j' _ => M - (intOf j').toNat)
        case atStart => exact ⟨0, Nat.zero_le _, rfl, 0, rfl⟩
        case round =>
          obtain ⟨j, hj, rfl, q, rfl⟩ := hrel
          by_cases hlt2 : j < M
          · exact absurd hlt2 (by omega)
          · obtain rfl : j = M := by omega
            have dj : decide ((j : Int) < (j : Int)) = false := decide_eq_false (by omega)
            have HBq := Lib.hid (below_drewN HB6.out q)
            generalize World.drewN w6 q = w7 at *
            go_wp2_with fail
            refine (HAw.out _).mono ?_
            rintro e w9 ⟨rfl, hb9⟩
            have HB9 := Lib.hid (HBq.out.trans (hb9.mono HBq.out.size))
            clear hb9
            go_wp2_with fail
            go_ret
            exact ⟨rfl, HB9.out⟩
      · have hMC := HLn.out.2 h0
        have t1 : ((W : Int) == 0) = false := by rw [beq_eq_false_iff_ne]; omega
        have t3 : ((W : Int) != 0) = true := by rw [bne_iff_ne]; omega
        have t4 : ((M : Int) != (C : Int)) = false := by simp [hMC]
        clear HLn
        go_wp2_with fail
        go_loopw [11] (fun j' wq => ∃ j : Nat, j ≤ M ∧ j' = .int .i64 (j : Int) ∧ ∃ q, wq = w6.drewN q) (fun j' _ => M - (intOf j').toNat)
        case atStart => exact ⟨0, Nat.zero_le _, rfl, 0, rfl⟩
        case round =>
          obtain ⟨j, hj, rfl, q, rfl⟩ := hrel
          by_cases hlt2 : j < M
          · have hy : j < m.length := by rw [← HM.out]; exact hlt2
            obtain ⟨e1, hjx, e2⟩ := HAl.out j hy
            obtain ⟨b, off, rfl, q0, q1⟩ := RdM_at HM6.out j hy
            obtain ⟨b2, o2, rfl, r0⟩ := Sh.int_at HX6.out j hjx
            rw [e1] at q1
            rw [e2] at q0
            have hjC : j < C := by rw [← HXl.out]; exact hjx
            have j0 : (0 : Int) ≤ (j : Int) := by omega
            have j1 : (j : Int) < (M : Int) := by omega
            have j2 : (j : Int) < (C : Int) := by omega
            clear e1 e2
            generalize xs[j] = xj at *
            have d5 : ((W : Int) != (W : Int)) = false := by simp
            have d6 : (xj != xj) = false := by simp
            go_wp2_with fail
            go_quiet (fail)
            go_wp2_with fail
            go_roundw
            case rel => exact ⟨j + 1, by omega, by go_num, _, rfl⟩
            case measure => simp [intOf]; omega
          · obtain rfl : j = M := by omega
            have dj : decide ((j : Int) < (j : Int)) = false := decide_eq_false (by omega)
            have HBq := Lib.hid (below_drewN HB6.out q)
            generalize World.drewN w6 q = w7 at *
            go_wp2_with fail
            refine (HAw.out _).mono ?_
            rintro e w9 ⟨rfl, hb9⟩
            have HB9 := Lib.hid (HBq.out.trans (hb9.mono HBq.out.size))
            clear hb9
            go_wp2_with fail
            go_ret
            exact ⟨rfl, HB9.out⟩
end Lo
end Go.Proofs.Ytechabkmepejaaa

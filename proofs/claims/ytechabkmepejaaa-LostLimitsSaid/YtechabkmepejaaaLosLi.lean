/-
  The walk of the law LostLimits. Condition: the raw numbers read as a slice of ints.
-/
import Derived.Test.YtechabkmepejaaaLosAw
import Derived.Test.YtechabkmepejaaaLosH
namespace Go.Proofs.Ytechabkmepejaaa
open Go.RowKit
namespace Lo
open Cm Sc Au
def liF (us : List Int) (k : Nat) : List (List Int) := (List.range k).map fun p : Nat => idsF us (p : Int) 3 2
theorem liF_len (us : List Int) (k : Nat) : (liF us k).length = k := by simp [liF]
theorem liF_succ (us : List Int) (k : Nat) : liF us (k + 1) = liF us k ++ [idsF us (k : Int) 3 2] := by simp [liF, List.range_succ]
theorem liF_le {us : List Int} {k : Nat} : ∀ l ∈ liF us k, l.length ≤ 2 := by
  intro l hl
  obtain ⟨p, _, rfl⟩ := List.mem_map.1 hl
  rw [idsF_len]; omega
theorem liF_zB {us : List Int} {k : Nat} : ∀ l ∈ liF us k, ∀ z ∈ l, zB z := by
  intro l hl
  obtain ⟨p, _, rfl⟩ := List.mem_map.1 hl
  exact idsF_zB ⟨by omega, by omega⟩
theorem li_32 (us : List Int) : codeF (liF us 32) = 0 := by
  have h1 := sum_le (ls := liF us 32) (c := 2) liF_le
  rw [liF_len] at h1
  exact (col_small (by rw [liF_len]; omega) (by omega)).2
theorem li_33 (us : List Int) : codeF (liF us 33) = 1 := by
  unfold codeF
  rw [if_pos (.inl (by rw [liF_len]; omega))]
theorem one_ok {ys : List Int} (h : ys.length = 4096) : codeF [ys] = 0 := (col_small (by simp) (by simp [h])).2
theorem one_long {ys : List Int} (h : ys.length = 4097) : codeF [ys] = 1 := by
  unfold codeF
  have e : badF 0 [] [ys] = true := by
    show ((decide (4096 < ([] : List Mg).length) || decide (4096 < ys.length)) || badF 1 _ []) = true
    rw [h]; rfl
  rw [if_pos (.inr e)]
/-- A slice of one slice. -/
theorem rd_one {W : World} {v : Value} {xs : List Value} (h : RdV W v xs) : RdLL (W.alloc (.cells #[v] tIs)) (.slice (some ⟨W.heap.size, 0, none⟩) 1 1) [xs] := by
  refine ⟨[v], RdV.lit W tIs [v] #[v] rfl, rfl, fun j h1 h2 => ?_⟩
  obtain rfl : j = 0 := by simp at h1; omega
  exact h.below ((Below.refl _ _).alloc (Nat.le_refl _) _)
set_option maxRecDepth 100000 in
set_option maxHeartbeats 4000000 in
theorem limits_walk (more : Bool) (v : Value) (raw : List Int) (w : World) (hr : RdV w v (intsV raw)) (hs : raw.length ≤ maxLen) : Calls Try.prog 7 #[.bool more, v] w (AwPost w) := by
  have HAw := Lib.hid (fun w => awake_any w)
  obtain ⟨A, c, rfl⟩ := hr.form
  have HId := Lib.hid (fun (wq : World) (k : Nat) (hb : Below w.heap.size w wq) (hk : k ≤ 100) => Ids_at (.slice A (intsV raw).length c) raw (k : Int) 2 3 wq (hr.below hb) hs ⟨by omega, by omega⟩ (by omega) ⟨by omega, by omega⟩)
  clear hr hs
  generalize (intsV raw).length = rl at *
  have HSc := Lib.hid (fun k => liF_succ raw k)
  have HLl := Lib.hid (fun k => liF_len raw k)
  have HCo := Lib.hid (fun x k W (hk : k ≤ 100) h => Coalesce_any x (liF raw k) W h (by rw [liF_len]; omega) liF_zB)
  unfold CoPost at HCo
  cases more with
  | false =>
    obtain ⟨N, hN⟩ : ∃ N : Nat, N = 32 := ⟨_, rfl⟩
    have hN2 : (32 : Int) = (N : Int) := by omega
    have hN3 : N ≤ 100 := by omega
    obtain ⟨M, hM⟩ : ∃ M : Nat, M = 4096 := ⟨_, rfl⟩
    have hM2 : (4096 : Int) = (M : Int) := by omega
    have hM3 : M ≤ 4194304 := by omega
    have HC1 : Hid (codeF (liF raw N) = 0) := Lib.hid (by rw [hN]; exact li_32 raw)
    have HC2 : Hid (codeF [List.replicate M 0] = 0) := Lib.hid (one_ok (by rw [List.length_replicate, hM]))
    have HMl := Lib.hid hM2
    have HNl := Lib.hid hN2
    clear hN hM hM2 hN2
    go_enter Try.func7, Try.ntmps7
    go_wp2_with fail
    go_loopw [7, 8] (fun l' k' wr => ∃ k : Nat, k ≤ N ∧ k' = .int .i64 (k : Int) ∧ Hid (OwnLL wr w.heap.size l' (liF raw k)) ∧ Hid (Below w.heap.size w wr)) (fun _ k' _ => N - (intOf k').toNat)
    case atStart => exact ⟨0, Nat.zero_le _, rfl, Lib.hid (OwnLL.nil _ _), Lib.hid (Below.refl _ _)⟩
    case round =>
      obtain ⟨k, hk, rfl, HO, HB⟩ := hrel
      by_cases hlt : k < N
      · have i1 : (0 : Int) ≤ (k : Int) := by omega
        have i2 : (k : Int) < 32 := by have := HNl.out; omega
        have HIk := Lib.hid (HId.out wr k HB.out (by omega))
        have HSk := Lib.hid (HSc.out k)
        have hlk := HLl.out k
        generalize liF raw k = L at *
        generalize hl2 : liF raw (k + 1) = L2 at *
        have HL2 := Lib.hid hl2
        clear hl2
        generalize idsF raw (k : Int) 3 2 = one at *
        go_wp2_with (first
          | (go_at_call 17; refine HIk.out.mono ?_; rintro e w8 ⟨v8, rfl, ho8, hb8⟩; have HU8 := Lib.hid (own_base ho8 HB.out.size); obtain ⟨A8, c8, rfl⟩ := own_form ho8; obtain ⟨us8, _, g8, p8⟩ := (HO.out.below hb8).out; have HG8 := Lib.hid g8; have HA8 := Lib.hid p8; have HB8 := Lib.hid (HB.out.trans (hb8.mono HB.out.size)); clear ho8 hb8 g8 p8)
          | (at_builtin; refine app_one rfl Try.underlying23 info_ints rfl (by omega) (.tmp 21) (.tmp 25) rfl w.heap.size L.length us8 (.slice A8 one.length c8) rfl _ _ rfl HG8.out rfl rfl (by omega) HB8.out.size ?_; intro v9 w9 ho9 hb9 hg9; have HO9 := Lib.hid (HA8.out _ _ _ _ _ HU8.out ho9 hg9); have HB9 := Lib.hid (HB8.out.trans hb9); clear ho9 hb9 hg9))
        go_roundw
        case rel => exact ⟨k + 1, by omega, by go_num, by rw [HL2.out, HSk.out]; exact HO9, HB9⟩
        case measure => simp [intOf]; omega
      · obtain rfl : k = N := by omega
        have i2 : decide ((k : Int) < 32) = false := decide_eq_false (by have := HNl.out; omega)
        obtain ⟨Al, cl, rfl⟩ := HO.out.form
        have HCk := Lib.hid (HCo.out _ k wr hN3 HO.out.rd)
        rw [HC1.out] at HCk
        clear HO HCo HSc HId HC1
        generalize (liF raw k).length = LL at *
        go_wp2_with fail
        refine HCk.out.mono ?_
        rintro e w1 ⟨v1, rfl, ho1, hb1⟩
        obtain ⟨A1, c1, rfl⟩ := ho1.rd.form
        have HB1 := Lib.hid (HB.out.trans (hb1.mono HB.out.size))
        clear ho1 hb1 HCk HB
        generalize (colF (liF raw k)).length = CL at *
        go_wp2_with (refine Sh.mk_row rfl (.tmp 35) (.tmp 35) rfl Try.underlying22 infoI rfl (by omega) M (congrArg (Value.int .i64) HMl.out) (congrArg (Value.int .i64) HMl.out) (by omega) ?_; intro w2 HR2 _ hb2; have HV2 := Lib.hid HR2.out.rd; have HB2 := Lib.hid (HB1.out.trans (hb2.mono HB1.out.size)); clear hb2 HR2)
        rw [List.length_replicate, show List.replicate M (Value.int .i64 0) = intsV (List.replicate M 0) from by simp [intsV]] at HV2
        have HCm := Lib.hid (Coalesce_any _ [List.replicate M 0] _ (rd_one HV2.out) (by simp) (by
          intro l hl z hz
          rw [List.mem_singleton] at hl
          subst hl
          rw [List.eq_of_mem_replicate hz]
          exact ⟨by decide, by decide⟩))
        unfold CoPost at HCm
        rw [HC2.out] at HCm
        have HB3 := Lib.hid (HB2.out.alloc HB2.out.size (.cells #[.slice (some ⟨w1.heap.size, 0, none⟩) M M] tIs))
        clear HC2 HV2 HB1
        generalize colF [List.replicate M 0] = C2 at *
        refine HCm.out.mono ?_
        rintro e w3 ⟨v3, rfl, ho3, hb3⟩
        obtain ⟨A3, c3, rfl⟩ := ho3.rd.form
        have HB4 := Lib.hid (HB3.out.trans (hb3.mono HB3.out.size))
        clear ho3 hb3 HCm HB3 HB2
        go_wp2_with fail
        refine (HAw.out _).mono ?_
        rintro e w9 ⟨rfl, hb9⟩
        have HB9 := Lib.hid (HB4.out.trans (hb9.mono HB4.out.size))
        clear hb9
        go_wp2_with fail
        go_ret
        exact ⟨rfl, HB9.out⟩
  | true =>
    obtain ⟨N, hN⟩ : ∃ N : Nat, N = 33 := ⟨_, rfl⟩
    have hN2 : (33 : Int) = (N : Int) := by omega
    have hN3 : N ≤ 100 := by omega
    obtain ⟨M, hM⟩ : ∃ M : Nat, M = 4097 := ⟨_, rfl⟩
    have hM2 : (4097 : Int) = (M : Int) := by omega
    have hM3 : M ≤ 4194304 := by omega
    have HC1 : Hid (codeF (liF raw N) = 1) := Lib.hid (by rw [hN]; exact li_33 raw)
    have HC2 : Hid (codeF [List.replicate M 0] = 1) := Lib.hid (one_long (by rw [List.length_replicate, hM]))
    have HMl := Lib.hid hM2
    have HNl := Lib.hid hN2
    clear hN hM hM2 hN2
    go_enter Try.func7, Try.ntmps7
    go_wp2_with fail
    go_loopw [7, 8] (fun l' k' wr => ∃ k : Nat, k ≤ N ∧ k' = .int .i64 (k : Int) ∧ Hid (OwnLL wr w.heap.size l' (liF raw k)) ∧ Hid (Below w.heap.size w wr)) (fun _ k' _ => N - (intOf k').toNat)
    case atStart => exact ⟨0, Nat.zero_le _, rfl, Lib.hid (OwnLL.nil _ _), Lib.hid (Below.refl _ _)⟩
    case round =>
      obtain ⟨k, hk, rfl, HO, HB⟩ := hrel
      by_cases hlt : k < N
      · have i1 : (0 : Int) ≤ (k : Int) := by omega
        have i2 : (k : Int) < 33 := by have := HNl.out; omega
        have HIk := Lib.hid (HId.out wr k HB.out (by omega))
        have HSk := Lib.hid (HSc.out k)
        have hlk := HLl.out k
        generalize liF raw k = L at *
        generalize hl2 : liF raw (k + 1) = L2 at *
        have HL2 := Lib.hid hl2
        clear hl2
        generalize idsF raw (k : Int) 3 2 = one at *
        go_wp2_with (first
          | (go_at_call 17; refine HIk.out.mono ?_; rintro e w8 ⟨v8, rfl, ho8, hb8⟩; have HU8 := Lib.hid (own_base ho8 HB.out.size); obtain ⟨A8, c8, rfl⟩ := own_form ho8; obtain ⟨us8, _, g8, p8⟩ := (HO.out.below hb8).out; have HG8 := Lib.hid g8; have HA8 := Lib.hid p8; have HB8 := Lib.hid (HB.out.trans (hb8.mono HB.out.size)); clear ho8 hb8 g8 p8)
          | (at_builtin; refine app_one rfl Try.underlying23 info_ints rfl (by omega) (.tmp 21) (.tmp 25) rfl w.heap.size L.length us8 (.slice A8 one.length c8) rfl _ _ rfl HG8.out rfl rfl (by omega) HB8.out.size ?_; intro v9 w9 ho9 hb9 hg9; have HO9 := Lib.hid (HA8.out _ _ _ _ _ HU8.out ho9 hg9); have HB9 := Lib.hid (HB8.out.trans hb9); clear ho9 hb9 hg9))
        go_roundw
        case rel => exact ⟨k + 1, by omega, by go_num, by rw [HL2.out, HSk.out]; exact HO9, HB9⟩
        case measure => simp [intOf]; omega
      · obtain rfl : k = N := by omega
        have i2 : decide ((k : Int) < 33) = false := decide_eq_false (by have := HNl.out; omega)
        obtain ⟨Al, cl, rfl⟩ := HO.out.form
        have HCk := Lib.hid (HCo.out _ k wr hN3 HO.out.rd)
        rw [HC1.out] at HCk
        clear HO HCo HSc HId HC1
        generalize (liF raw k).length = LL at *
        go_wp2_with fail
        refine HCk.out.mono ?_
        rintro e w1 ⟨v1, rfl, ho1, hb1⟩
        obtain ⟨A1, c1, rfl⟩ := ho1.rd.form
        have HB1 := Lib.hid (HB.out.trans (hb1.mono HB.out.size))
        clear ho1 hb1 HCk HB
        generalize (colF (liF raw k)).length = CL at *
        go_wp2_with (refine Sh.mk_row rfl (.tmp 35) (.tmp 35) rfl Try.underlying22 infoI rfl (by omega) M (congrArg (Value.int .i64) HMl.out) (congrArg (Value.int .i64) HMl.out) (by omega) ?_; intro w2 HR2 _ hb2; have HV2 := Lib.hid HR2.out.rd; have HB2 := Lib.hid (HB1.out.trans (hb2.mono HB1.out.size)); clear hb2 HR2)
        rw [List.length_replicate, show List.replicate M (Value.int .i64 0) = intsV (List.replicate M 0) from by simp [intsV]] at HV2
        have HCm := Lib.hid (Coalesce_any _ [List.replicate M 0] _ (rd_one HV2.out) (by simp) (by
          intro l hl z hz
          rw [List.mem_singleton] at hl
          subst hl
          rw [List.eq_of_mem_replicate hz]
          exact ⟨by decide, by decide⟩))
        unfold CoPost at HCm
        rw [HC2.out] at HCm
        have HB3 := Lib.hid (HB2.out.alloc HB2.out.size (.cells #[.slice (some ⟨w1.heap.size, 0, none⟩) M M] tIs))
        clear HC2 HV2 HB1
        generalize colF [List.replicate M 0] = C2 at *
        refine HCm.out.mono ?_
        rintro e w3 ⟨v3, rfl, ho3, hb3⟩
        obtain ⟨A3, c3, rfl⟩ := ho3.rd.form
        have HB4 := Lib.hid (HB3.out.trans (hb3.mono HB3.out.size))
        clear ho3 hb3 HCm HB3 HB2
        go_wp2_with fail
        refine (HAw.out _).mono ?_
        rintro e w9 ⟨rfl, hb9⟩
        have HB9 := Lib.hid (HB4.out.trans (hb9.mono HB4.out.size))
        clear hb9
        go_wp2_with fail
        go_ret
        exact ⟨rfl, HB9.out⟩
end Lo
end Go.Proofs.Ytechabkmepejaaa

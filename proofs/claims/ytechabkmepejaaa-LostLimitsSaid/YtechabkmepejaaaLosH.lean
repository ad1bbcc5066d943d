/-
  The verifier's lists of layer 15, as functions of the raw numbers. Conditions: the raw numbers read as a slice of ints.
-/
import Derived.Test.YtechabkmepejaaaLosG
namespace Go.Proofs.Ytechabkmepejaaa
open Go.RowKit
namespace Lo
open Cm Sc Au
/-- The law's lists. -/
def lsN (n : Int) : Nat := (Tx.modF n 6).toNat
def lsOne (us : List Int) (p : Nat) : List Int := idsF us (20 * (p : Int) + 5) 4 (Tx.modF (atF us p) 7).toNat
def lsF (us : List Int) (k : Nat) : List (List Int) := (List.range k).map (lsOne us)
theorem lsF_len (us : List Int) (k : Nat) : (lsF us k).length = k := by simp [lsF]
theorem lsF_succ (us : List Int) (k : Nat) : lsF us (k + 1) = lsF us k ++ [lsOne us k] := by simp [lsF, List.range_succ]
theorem lsN_le (n : Int) : lsN n ≤ 5 := by
  have h1 := Tx.modF_lo n 6 (by omega)
  have h2 := Tx.modF_hi n 6 (by omega)
  unfold lsN; omega
theorem lsOne_le (us : List Int) (p : Nat) : (lsOne us p).length ≤ 6 := by
  have h1 := Tx.modF_lo (atF us p) 7 (by omega)
  have h2 := Tx.modF_hi (atF us p) 7 (by omega)
  unfold lsOne
  rw [idsF_len]; omega
theorem lsF_le {us : List Int} {k : Nat} : ∀ l ∈ lsF us k, l.length ≤ 6 := by
  intro l hl
  obtain ⟨p, _, rfl⟩ := List.mem_map.1 hl
  exact lsOne_le us p
theorem lsF_zB {us : List Int} {k : Nat} : ∀ l ∈ lsF us k, ∀ z ∈ l, zB z := by
  intro l hl
  obtain ⟨p, _, rfl⟩ := List.mem_map.1 hl
  exact idsF_zB ⟨by omega, by omega⟩
theorem sum_le {c : Nat} : ∀ {ls : List (List Int)}, (∀ l ∈ ls, l.length ≤ c) → (ls.map List.length).sum ≤ c * ls.length
  | [], _ => by simp
  | l :: r, h => by
    have h1 := h l List.mem_cons_self
    have h2 := sum_le (ls := r) (fun x hx => h x (List.mem_cons_of_mem _ hx))
    simp only [List.map_cons, List.sum_cons, List.length_cons]
    rw [Nat.mul_succ]; omega
def LsPost (ls : List (List Int)) (w : World) (e : Ending) (w' : World) : Prop := ∃ v, e = .returned v ∧ OwnLL w' w.heap.size v ls ∧ Below w.heap.size w w'
set_option maxRecDepth 100000 in
set_option maxHeartbeats 4000000 in
theorem lists_any (v : Value) (us : List Int) (n : Int) (w : World) (h : RdV w v (intsV us)) (hu : us.length ≤ maxLen) (hn : zB n) :
    Calls Try.prog 10 #[v, .int .i64 n] w (LsPost (lsF us (lsN n)) w) := by
  have HAt := Lib.hid (fun (wq : World) (k : Nat) (hb : Below w.heap.size w wq) (h1 : k ≤ 1000) => At_fn v us k wq (h.below hb) hu (by omega) (by omega))
  have HId := Lib.hid (fun (wq : World) (fr : Int) (N : Nat) (hb : Below w.heap.size w wq) hf hN => Ids_at v us fr N 4 wq (h.below hb) hu hf hN ⟨by omega, by omega⟩)
  have HMn := Lib.hid (fun w => Tx.Mod_any n 6 w (by omega) (by omega) hn.1 hn.2)
  have hN5 := lsN_le n
  obtain ⟨N, hN⟩ : ∃ N, N = lsN n := ⟨_, rfl⟩
  have hN2 : Tx.modF n 6 = (N : Int) := by
    have h1 := Tx.modF_lo n 6 (by omega)
    rw [hN]; unfold lsN; omega
  rw [hN2] at HMn
  rw [← hN] at hN5 ⊢
  clear hN hN2 hn
  obtain ⟨A, c, rfl⟩ := h.form
  clear h hu
  rw [intsV_len] at HAt HId ⊢
  have HSc := Lib.hid (fun k => lsF_succ us k)
  have HLl := Lib.hid (fun k => lsF_len us k)
  go_enter Try.func10, Try.ntmps10
  go_wp2_with fail
  go_loopw [5, 6] (fun v' k' wr => ∃ k : Nat, k ≤ N ∧ k' = .int .i64 (k : Int) ∧ Hid (OwnLL wr w.heap.size v' (lsF us k)) ∧ Hid (Below w.heap.size w wr)) (fun _ k' _ => N - (intOf k').toNat)
  case atStart => exact ⟨0, Nat.zero_le _, rfl, Lib.hid (OwnLL.nil _ _), Lib.hid (Below.refl _ _)⟩
  case round =>
    obtain ⟨k, hk, rfl, HO, HB⟩ := hrel
    by_cases hlt : k < N
    · have i1 : (0 : Int) ≤ (k : Int) := by omega
      have i2 : (k : Int) < (N : Int) := by omega
      have z1 := atF_lo us k
      have z2 := atF_hi us k
      have HA2 := Lib.hid (HAt.out wr k HB.out (by omega))
      have HIk := Lib.hid (fun wq hb M hM => HId.out wq (20 * (k : Int) + 5) M hb ⟨by omega, by omega⟩ hM)
      have HOne : Hid (lsOne us k = idsF us (20 * (k : Int) + 5) 4 (Tx.modF (atF us k) 7).toNat) := Lib.hid rfl
      have HSk := Lib.hid (HSc.out k)
      have hlk := HLl.out k
      generalize lsF us k = L at *
      generalize hl2 : lsF us (k + 1) = L2 at *
      have HL2 := Lib.hid hl2
      clear hl2
      generalize atF us k = z at *
      have m1 := Tx.modF_lo z 7 (by omega)
      have m2 := Tx.modF_hi z 7 (by omega)
      have HMd := Lib.hid (fun w => Tx.Mod_any z 7 w (by omega) (by omega) z1 z2)
      generalize Tx.modF z 7 = x at *
      obtain ⟨M, rfl⟩ : ∃ M : Nat, x = (M : Int) := ⟨x.toNat, by omega⟩
      have HIM := Lib.hid (fun wq hb => HIk.out wq hb M (by omega))
      rw [Int.toNat_natCast] at HOne
      rw [← HOne.out] at HIM
      generalize lsOne us k = one at *
      clear HOne HIk
      go_upto_region 5 with (go_at_call 16; refine (HMn.out _).mono ?_; rintro e w7 ⟨rfl, rfl⟩)
      clear HMn
      go_wp2_with (first
        | (go_at_call 16; refine (HMd.out _).mono ?_; rintro e w7 ⟨rfl, rfl⟩)
        | (go_at_call 18; refine HA2.out.mono ?_; rintro e w7 ⟨rfl, rfl⟩)
        | (go_at_call 17; refine (HIM.out _ HB.out).mono ?_; rintro e w8 ⟨v8, rfl, ho8, hb8⟩; have HU8 := Lib.hid (own_base ho8 HB.out.size); obtain ⟨A8, c8, rfl⟩ := own_form ho8; obtain ⟨us8, _, g8, p8⟩ := (HO.out.below hb8).out; have HG8 := Lib.hid g8; have HA8 := Lib.hid p8; have HB8 := Lib.hid (HB.out.trans (hb8.mono HB.out.size)); clear ho8 hb8 g8 p8)
        | (at_builtin; refine app_one rfl Try.underlying23 info_ints rfl (by omega) (.tmp 13) (.tmp 23) rfl w.heap.size L.length us8 (.slice A8 one.length c8) rfl _ _ rfl HG8.out rfl rfl (by omega) HB8.out.size ?_; intro v9 w9 ho9 hb9 hg9; have HO9 := Lib.hid (HA8.out _ _ _ _ _ HU8.out ho9 hg9); have HB9 := Lib.hid (HB8.out.trans hb9); clear ho9 hb9 hg9))
      go_roundw
      case rel => exact ⟨k + 1, by omega, by go_num, by rw [HL2.out, HSk.out]; exact HO9, HB9⟩
      case measure => simp [intOf]; omega
    · obtain rfl : k = N := by omega
      go_wp2_with (go_at_call 16; refine (HMn.out _).mono ?_; rintro e w7 ⟨rfl, rfl⟩)
      go_ret
      exact ⟨_, rfl, HO.out, HB.out⟩
end Lo
end Go.Proofs.Ytechabkmepejaaa

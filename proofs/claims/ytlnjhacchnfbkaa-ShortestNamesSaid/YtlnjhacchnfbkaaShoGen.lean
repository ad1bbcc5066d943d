/-
  The verifier's lists of numbers, pairs of lists, and the sanity check of layer 9: it returns true. No conditions beyond the lengths.
-/
import Derived.Test.YtlnjhacchnfbkaaShoScr
import Derived.Test.YtlnjhacchnfbkaaScrGen
import Derived.Test.YtlnjhacchnfbkaaTextPick
namespace Go.Proofs.Ytlnjhacchnfbkaa
open Go.RowKit
namespace Sh
open Cm Sc Au
/-- A new list of numbers. -/
def NewI (N : Nat) (w : World) (e : Ending) (w' : World) : Prop := ∃ v l, e = .returned v ∧ l.length = N ∧ (∀ z ∈ l, zB z) ∧ w'.ownsRow w.heap.size tI 1 v N (intsV l) ∧ Below w.heap.size w w'
set_option maxRecDepth 100000 in
set_option maxHeartbeats 4000000 in
theorem Ids_any (v : Value) (us : List Int) (fr : Int) (N : Nat) (kinds : Int) (w : World) (h : RdV w v (intsV us)) (hu : us.length ≤ maxLen) (hf : 0 ≤ fr ∧ fr ≤ 1000) (hN : N ≤ 100) (hk : 1 ≤ kinds ∧ kinds ≤ 100) :
    Calls Try.prog 26 #[v, .int .i64 fr, .int .i64 (N : Int), .int .i64 kinds] w (NewI N w) := by
  have HAt := Lib.hid (fun (wq : World) (k : Int) (hb : Below w.heap.size w wq) (h0 : 0 ≤ k) (h1 : k ≤ 1000000) => At_fn v us k wq (h.below hb) hu h0 h1)
  obtain ⟨f0, f1⟩ := hf
  obtain ⟨k0, k1⟩ := hk
  obtain ⟨A, c, rfl⟩ := h.form
  clear h hu
  rw [intsV_len] at HAt ⊢
  generalize us.length = nu at HAt ⊢
  have HStart := Lib.hid (own_empty w tI)
  have HB0 := Lib.hid ((Below.refl w.heap.size w).alloc (Nat.le_refl _) (.cells #[] tI))
  go_enter Try.func26, Try.ntmps26
  go_wp2_with fail
  go_loopw [9, 10] (fun o' i' wr => ∃ (i : Nat) (l : List Int), i ≤ N ∧ i' = .int .i64 (i : Int) ∧ Hid (l.length = i ∧ ∀ z ∈ l, zB z) ∧ Hid (wr.ownsRow w.heap.size tI 1 o' i (intsV l)) ∧ Hid (Below w.heap.size w wr)) (fun _ i' _ => N - (intOf i').toNat)
  case atStart => exact ⟨0, [], Nat.zero_le _, rfl, Lib.hid ⟨rfl, fun z hz => by cases hz⟩, HStart, HB0⟩
  case round =>
    clear HStart HB0
    obtain ⟨i, l, hi, rfl, HL, HO, HB⟩ := hrel
    by_cases hlt : i < N
    · have i0 : (0 : Int) ≤ (i : Int) := by omega
      have i1 : (i : Int) < (N : Int) := by omega
      have z1 := atF_lo us (fr + i)
      have z2 := atF_hi us (fr + i)
      have HA2 := Lib.hid (HAt.out wr (fr + i) HB.out (by omega) (by omega))
      generalize atF us (fr + i) = z at HA2 z1 z2
      have m1 := Tx.modF_lo z kinds (by omega)
      have m2 := Tx.modF_hi z kinds (by omega)
      have HMd := Lib.hid (fun w => Tx.Mod_any z kinds w (by omega) (by omega) z1 z2)
      generalize Tx.modF z kinds = x at HMd m1 m2
      have HL2 : Hid ((l ++ [x]).length = i + 1 ∧ ∀ z ∈ l ++ [x], zB z) := Lib.hid ⟨by rw [List.length_append, HL.out.1]; rfl, fun z hz => by
        rcases List.mem_append.1 hz with h | h
        · exact HL.out.2 z h
        · rw [List.mem_singleton] at h; subst h; exact ⟨by omega, by omega⟩⟩
      have HS : Hid (intsV l ++ [.int .i64 x] = intsV (l ++ [x])) := Lib.hid (by simp [intsV])
      have hbs : w.heap.size ≤ wr.heap.size := HB.out.size
      have HBs := Lib.hid hbs
      clear hbs
      go_wp2_with (first
        | (go_at_call 25; refine (HMd.out _).mono ?_; rintro e w7 ⟨rfl, rfl⟩)
        | (go_at_call 27; refine HA2.out.mono ?_; rintro e w7 ⟨rfl, rfl⟩)
        | (at_builtin; refine app_one rfl Try.underlying22 info_i rfl (by omega) (.tmp 17) (.tmp 25) rfl w.heap.size i (intsV l) (.int .i64 x) rfl _ _ rfl HO.out rfl rfl (by omega) HBs.out ?_; intro v3 w3 ho3 hb3 _; rw [HS.out] at ho3; have HO3 := Lib.hid ho3; have HB3 := Lib.hid (HB.out.trans (hb3.mono (Nat.le_refl _))); clear ho3 hb3))
      go_roundw
      case rel => exact ⟨i + 1, _, by omega, by go_num, HL2, HO3, HB3⟩
      case measure => simp [intOf]; omega
    · obtain rfl : i = N := by omega
      have hd : decide (i < i) = false := by simp
      go_wp2_with fail
      go_ret
      exact ⟨_, l, rfl, HL.out.1, HL.out.2, HO.out, HB.out⟩
def PairPost (w : World) (e : Ending) (w' : World) : Prop := ∃ va vb a b, e = .returned (.tuple #[va, vb]) ∧ (a.length ≤ 12 ∧ ∀ z ∈ a, zB z) ∧ (b.length ≤ 12 ∧ ∀ z ∈ b, zB z) ∧ w'.ownsRow w.heap.size tI 1 va a.length (intsV a) ∧ w'.ownsRow w.heap.size tI 1 vb b.length (intsV b) ∧ Below w.heap.size w w'
set_option maxRecDepth 100000 in
set_option maxHeartbeats 4000000 in
theorem pair_any (v : Value) (us : List Int) (kinds : Int) (w : World) (h : RdV w v (intsV us)) (hu : us.length ≤ maxLen) (hk : zB kinds) :
    Calls Try.prog 11 #[v, .int .i64 kinds] w (PairPost w) := by
  have HAt := Lib.hid (fun (wq : World) (k : Int) (hb : Below w.heap.size w wq) (h0 : 0 ≤ k) (h1 : k ≤ 1000000) => At_fn v us k wq (h.below hb) hu h0 h1)
  have HId := Lib.hid (fun (wq : World) (fr : Int) (N : Nat) (kd : Int) (hb : Below w.heap.size w wq) hf hN hkd => Ids_any v us fr N kd wq (h.below hb) hu hf hN hkd)
  obtain ⟨A, c, rfl⟩ := h.form
  clear h hu
  rw [intsV_len] at HAt HId ⊢
  have HMk := Lib.hid (fun w => Tx.Mod_any kinds 5 w (by omega) (by omega) hk.1 hk.2)
  have m1 := Tx.modF_lo kinds 5 (by omega)
  have m2 := Tx.modF_hi kinds 5 (by omega)
  generalize Tx.modF kinds 5 = kd at *
  have HA0 := Lib.hid (fun wq hb => HAt.out wq 0 hb (by omega) (by omega))
  have HA1 := Lib.hid (fun wq hb => HAt.out wq 1 hb (by omega) (by omega))
  have x1 := atF_lo us 0
  have x2 := atF_hi us 0
  have y1 := atF_lo us 1
  have y2 := atF_hi us 1
  generalize atF us 0 = x at *
  generalize atF us 1 = y at *
  have HM0 := Lib.hid (fun w => Tx.Mod_any x 13 w (by omega) (by omega) x1 x2)
  have HM1 := Lib.hid (fun w => Tx.Mod_any y 13 w (by omega) (by omega) y1 y2)
  have n1 := Tx.modF_lo x 13 (by omega)
  have n2 := Tx.modF_hi x 13 (by omega)
  have n3 := Tx.modF_lo y 13 (by omega)
  have n4 := Tx.modF_hi y 13 (by omega)
  obtain ⟨N, hN⟩ : ∃ N : Nat, Tx.modF x 13 = (N : Int) := ⟨_, (Int.toNat_of_nonneg n1).symm⟩
  obtain ⟨M, hM⟩ : ∃ M : Nat, Tx.modF y 13 = (M : Int) := ⟨_, (Int.toNat_of_nonneg n3).symm⟩
  rw [hN] at HM0 n1 n2
  rw [hM] at HM1 n3 n4
  have HI0 := Lib.hid (fun wq hb => HId.out wq 10 N (1 + kd) hb ⟨by omega, by omega⟩ (by omega) ⟨by omega, by omega⟩)
  have HI1 := Lib.hid (fun wq hb => HId.out wq 40 M (1 + kd) hb ⟨by omega, by omega⟩ (by omega) ⟨by omega, by omega⟩)
  have hN12 : N ≤ 12 := by omega
  have hM12 : M ≤ 12 := by omega
  clear hN hM HAt HId x1 x2 y1 y2 hk
  generalize us.length = nu at *
  have HB0 := Lib.hid (Below.refl w.heap.size w)
  go_enter Try.func11, Try.ntmps11
  go_wp2_with fail
  refine (HMk.out _).mono ?_
  rintro e w1 ⟨rfl, rfl⟩
  go_wp2_with fail
  refine (HA0.out _ HB0.out).mono ?_
  rintro e w2 ⟨rfl, rfl⟩
  go_wp2_with fail
  refine (HM0.out _).mono ?_
  rintro e w3 ⟨rfl, rfl⟩
  go_wp2_with fail
  refine (HI0.out _ HB0.out).mono ?_
  rintro e w4 ⟨va, a, rfl, hla, hba, hoa, hb4⟩
  have HOa := Lib.hid hoa
  have HBa := Lib.hid hb4
  have HLa := Lib.hid hla
  have HZa := Lib.hid hba
  obtain ⟨A1, c1, rfl⟩ := own_form hoa
  clear hla hba hoa hb4 HB0
  go_wp2_with fail
  refine (HA1.out _ HBa.out).mono ?_
  rintro e w5 ⟨rfl, rfl⟩
  go_wp2_with fail
  refine (HM1.out _).mono ?_
  rintro e w6 ⟨rfl, rfl⟩
  go_wp2_with fail
  refine (HI1.out _ HBa.out).mono ?_
  rintro e w7 ⟨vb, b, rfl, hlb, hbb, hob, hb7⟩
  have HOb := Lib.hid hob
  have HBb := Lib.hid hb7
  have HLb := Lib.hid hlb
  have HZb := Lib.hid hbb
  obtain ⟨A2, c2, rfl⟩ := own_form hob
  clear hlb hbb hob hb7
  go_wp2_with fail
  go_ret2
  exact ⟨_, _, a, b, rfl, ⟨by rw [HLa.out]; exact hN12, HZa.out⟩, ⟨by rw [HLb.out]; exact hM12, HZb.out⟩, by rw [HLa.out]; exact own_below HOa.out HBb.out, by rw [HLb.out]; exact own_base HOb.out HBa.out.size, HBa.out.trans (HBb.out.mono HBa.out.size)⟩
theorem aw_wk : wkF 0 0 [1, 2, 3] [2, 4] = [⟨1, 0⟩] := by
  simp [wkF, lcs]
theorem aw_scr : scrF [1, 2, 3] [2, 4] = [⟨0, 1, 0, 0⟩, ⟨2, 1, 1, 1⟩] := by
  unfold scrF
  rw [aw_wk]
  simp [frF, btw]
theorem aw_dist : dist [1, 2, 3] [2, 4] = 3 := by
  simp [dist, lcs]
def AwPost (w : World) (e : Ending) (w' : World) : Prop := e = .returned (.bool true) ∧ Below w.heap.size w w'
set_option maxRecDepth 100000 in
set_option maxHeartbeats 4000000 in
theorem awake_any (w : World) : Calls Try.prog 10 #[] w (AwPost w) := by
  have hz1 : ∀ z ∈ [(1 : Int), 2, 3], zB z := by
    intro z hz
    simp only [List.mem_cons, List.not_mem_nil, or_false] at hz
    unfold zB; omega
  have hz2 : ∀ z ∈ [(2 : Int), 4], zB z := by
    intro z hz
    simp only [List.mem_cons, List.not_mem_nil, or_false] at hz
    unfold zB; omega
  have HLits : Hid (∀ W : World, w.heap.size ≤ W.heap.size → Below w.heap.size w W → RdV ((W.alloc (.cells #[.int .i64 1, .int .i64 2, .int .i64 3] tI)).alloc (.cells #[.int .i64 2, .int .i64 4] tI)) (.slice (some ⟨W.heap.size, 0, none⟩) 3 3) (intsV [1, 2, 3]) ∧ RdV ((W.alloc (.cells #[.int .i64 1, .int .i64 2, .int .i64 3] tI)).alloc (.cells #[.int .i64 2, .int .i64 4] tI)) (.slice (some ⟨W.heap.size + 1, 0, none⟩) 2 2) (intsV [2, 4]) ∧ Below w.heap.size w ((W.alloc (.cells #[.int .i64 1, .int .i64 2, .int .i64 3] tI)).alloc (.cells #[.int .i64 2, .int .i64 4] tI))) := Lib.hid (fun W hs hb => by
    have e : (W.alloc (.cells #[.int .i64 1, .int .i64 2, .int .i64 3] tI)).heap.size = W.heap.size + 1 := by simp
    refine ⟨(RdV.lit W tI (intsV [1, 2, 3]) _ rfl).below ((Below.refl _ _).alloc (Nat.le_refl _) _), ?_, (hb.alloc hs _).alloc (by rw [e]; omega) _⟩
    have := RdV.lit (W.alloc (.cells #[.int .i64 1, .int .i64 2, .int .i64 3] tI)) tI (intsV [2, 4]) #[.int .i64 2, .int .i64 4] rfl
    rw [e] at this
    exact this)
  have HSc : Hid (∀ (W w' : World), RdV w' (.slice (some ⟨W.heap.size, 0, none⟩) 3 3) (intsV [1, 2, 3]) → RdV w' (.slice (some ⟨W.heap.size + 1, 0, none⟩) 2 2) (intsV [2, 4]) → Calls Try.prog 12 #[.slice (some ⟨W.heap.size, 0, none⟩) 3 3, .slice (some ⟨W.heap.size + 1, 0, none⟩) 2 2] w' (ScPost [⟨0, 1, 0, 0⟩, ⟨2, 1, 1, 1⟩] w')) := Lib.hid (fun W w' h1 h2 => by
    have := Script_at _ _ _ _ 3 2 [1, 2, 3] [2, 4] w' (Lib.hid h1) (Lib.hid h2) (by omega) (by omega) (Lib.hid rfl) (Lib.hid rfl) (Lib.hid hz1) (Lib.hid hz2)
    rwa [aw_scr] at this)
  have HDi : Hid (∀ (W w' : World), RdV w' (.slice (some ⟨W.heap.size, 0, none⟩) 3 3) (intsV [1, 2, 3]) → RdV w' (.slice (some ⟨W.heap.size + 1, 0, none⟩) 2 2) (intsV [2, 4]) → Calls Try.prog 14 #[.slice (some ⟨W.heap.size, 0, none⟩) 3 3, .slice (some ⟨W.heap.size + 1, 0, none⟩) 2 2] w' (NumPost 3 w')) := Lib.hid (fun W w' h1 h2 => by
    have := Distance_at _ _ _ _ 3 2 [1, 2, 3] [2, 4] w' (Lib.hid h1) (Lib.hid h2) (by omega) (by omega) (Lib.hid rfl) (Lib.hid rfl) (Lib.hid hz1) (Lib.hid hz2)
    rwa [aw_dist] at this)
  have HL0 := Lib.hid (HLits.out w (Nat.le_refl _) (Below.refl _ _))
  clear hz1 hz2
  go_enter Try.func10, Try.ntmps10
  go_wp2_with fail
  refine (HSc.out w _ HL0.out.1 HL0.out.2.1).mono ?_
  rintro e w1 ⟨v1, rfl, ho1, hb1⟩
  obtain ⟨A1, c1, rfl⟩ := ho1.rd.form
  have HO1 := Lib.hid (ho1.base HL0.out.2.2.size)
  have HB1 := Lib.hid (HL0.out.2.2.trans (hb1.mono HL0.out.2.2.size))
  clear ho1 hb1 HL0 HSc
  have HL1 := Lib.hid (HLits.out w1 HB1.out.size HB1.out)
  have HK1 := Lib.hid (HO1.out.rd.below (((Below.refl _ w1).alloc (Nat.le_refl _) (.cells #[.int .i64 1, .int .i64 2, .int .i64 3] tI)).alloc (by simp) (.cells #[.int .i64 2, .int .i64 4] tI)))
  clear HLits HO1
  go_wp2_with fail
  refine (HDi.out w1 _ HL1.out.1 HL1.out.2.1).mono ?_
  rintro e w2 ⟨rfl, hb2⟩
  have HB2 := Lib.hid (HL1.out.2.2.trans (hb2.mono HL1.out.2.2.size))
  have HK2 := Lib.hid (HK1.out.below hb2)
  clear hb2 HL1 HDi HK1 HB1
  have HCh : Hid (∀ C, C.toList = flatK chC [⟨0, 1, 0, 0⟩, ⟨2, 1, 1, 1⟩] → Calls Try.prog 18 #[.slice A1 2 c1, .slice (some ⟨w2.heap.size, 0, none⟩) 2 2] (w2.alloc (.cells C tCh)) fun e w' => e = .returned (.bool true) ∧ Below w.heap.size w w') := Lib.hid (fun C hC => (Changes_same _ _ [⟨0, 1, 0, 0⟩, ⟨2, 1, 1, 1⟩] _ (by decide) (HK2.out.below ((Below.refl _ _).alloc (Nat.le_refl _) _)) (RdK.lit w2 tCh _ _ chC_len hC)).mono (by
    rintro e w' ⟨rfl, q, rfl⟩
    exact ⟨rfl, below_drewN (HB2.out.alloc HB2.out.size _) q⟩))
  clear HK2 HB2
  go_wp2_with fail
  refine (HCh.out _ rfl).mono ?_
  rintro e w3 ⟨rfl, hb3⟩
  go_wp2_with fail
  go_ret
  exact ⟨rfl, hb3⟩
end Sh
end Go.Proofs.Ytlnjhacchnfbkaa

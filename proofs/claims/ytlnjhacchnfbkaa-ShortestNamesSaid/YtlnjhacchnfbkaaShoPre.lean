/-
  The walk of the law ShortestPrefix of layer 9. No conditions.
-/
import Derived.Test.YtlnjhacchnfbkaaShoGen
import Derived.Test.YtlnjhacchnfbkaaShoPreM
namespace Go.Proofs.Ytlnjhacchnfbkaa
open Go.RowKit
namespace Sh
open Cm Sc Au
/-- Script on lists that read, few lines. -/
theorem Scr_rd (va vb : Value) (a b : List Int) (w : World) (ha : RdV w va (intsV a)) (hb : RdV w vb (intsV b)) (hla : a.length ≤ 4096) (hlb : b.length ≤ 4096) (hza : ∀ z ∈ a, zB z) (hzb : ∀ z ∈ b, zB z) :
    Calls Try.prog 12 #[va, vb] w (ScPost (scrF a b) w) := by
  obtain ⟨A, c, rfl⟩ := ha.form
  obtain ⟨B, d, rfl⟩ := hb.form
  rw [intsV_len] at ha hb ⊢
  rw [intsV_len]
  exact Script_at A B c d _ _ a b w (Lib.hid ha) (Lib.hid hb) hla hlb (Lib.hid rfl) (Lib.hid rfl) (Lib.hid hza) (Lib.hid hzb)
theorem scr_len (a b : List Int) : (scrF a b).length ≤ a.length + 1 := by
  have h := frF_len (a.length : Int) (b.length : Int) (wkF 0 0 a b) 0 0
  rw [wkF_len] at h
  have := (lcs_le a b).1
  unfold scrF
  omega
theorem scr_ok (a b : List Int) : OkL true 0 0 (scrF a b) (a.length : Int) (b.length : Int) :=
  frF_ok (wkF 0 0 a b) true 0 0 0 0 rfl (fun h => by cases h) (Int.le_refl _) (Int.le_refl _) (by omega) (by omega) (wk_okP a b)
theorem one_ints (l : List Int) : ∀ u ∈ intsV l, u.oneCell' = true := by
  intro u hu
  obtain ⟨z, _, rfl⟩ := List.mem_map.1 hu
  rfl
set_option maxRecDepth 100000 in
set_option maxHeartbeats 8000000 in
theorem prefix_walk (v : Value) (us : List Int) (kinds more : Int) (w : World) (h : RdV w v (intsV us)) (hu : us.length ≤ maxLen) (hk : -9223372036854775808 ≤ kinds ∧ kinds ≤ 9223372036854775807) (hm : -9223372036854775808 ≤ more ∧ more ≤ 9223372036854775807) :
    Calls Try.prog 7 #[v, .int .i64 kinds, .int .i64 more] w (AwPost w) := by
  have HAw := Lib.hid (fun w => awake_any w)
  have HPa := Lib.hid (pair_any v us kinds w h hu hk)
  have HMm := Lib.hid (fun w => Tx.Mod_any more 6 w (by omega) (by omega) hm.1 hm.2)
  have m1 := Tx.modF_lo more 6 (by omega)
  have m2 := Tx.modF_hi more 6 (by omega)
  obtain ⟨N, hN⟩ : ∃ N : Nat, Tx.modF more 6 = (N : Int) := ⟨_, (Int.toNat_of_nonneg m1).symm⟩
  rw [hN] at HMm m1 m2
  have HId := Lib.hid (fun (wq : World) (hb : Below w.heap.size w wq) => Ids_any v us 90 N 3 wq (h.below hb) hu ⟨by omega, by omega⟩ (by omega) ⟨by omega, by omega⟩)
  obtain ⟨A, c, rfl⟩ := h.form
  clear h hu hN hk hm
  rw [intsV_len] at HId HPa ⊢
  generalize us.length = nu at *
  go_enter Try.func7, Try.ntmps7
  go_wp2_with fail
  refine HPa.out.mono ?_
  rintro e w1 ⟨va, vb, a, b, rfl, ⟨hla, hza⟩, ⟨hlb, hzb⟩, hoa, hob, hb1⟩
  obtain ⟨A1, c1, rfl⟩ := own_form hoa
  obtain ⟨A2, c2, rfl⟩ := own_form hob
  have HA1 := Lib.hid (RdV.of_own hoa)
  have HB1 := Lib.hid (RdV.of_own hob)
  have HW1 := Lib.hid hb1
  have HZa := Lib.hid hza
  have HZb := Lib.hid hzb
  clear hoa hob hb1 hza hzb HPa
  go_wp2_with fail
  refine (HMm.out _).mono ?_
  rintro e w2 ⟨rfl, rfl⟩
  go_wp2_with fail
  refine (HId.out _ HW1.out).mono ?_
  rintro e w3 ⟨vp, p, rfl, hlp, hzp, hop, hb3⟩
  obtain ⟨A3, c3, rfl⟩ := own_form hop
  have HLp := Lib.hid hlp
  have HP3 := Lib.hid (RdV.of_own hop)
  have HA3 := Lib.hid (HA1.out.below hb3)
  have HB3 := Lib.hid (HB1.out.below hb3)
  have HW3 := Lib.hid (HW1.out.trans (hb3.mono HW1.out.size))
  have HZp := Lib.hid hzp
  clear hop hb3 hzp hlp HA1 HB1 HW1 HId HMm
  have HS1 := Lib.hid (Scr_rd _ _ a b w3 HA3.out HB3.out (by omega) (by omega) HZa.out HZb.out)
  go_wp2_with fail
  refine HS1.out.mono ?_
  rintro e w4 ⟨vl, rfl, hol, hb4⟩
  have HL4 := Lib.hid hol.rd
  obtain ⟨A4, c4, rfl⟩ := hol.rd.form
  have HP4 := Lib.hid (HP3.out.below hb4)
  have HA4 := Lib.hid (HA3.out.below hb4)
  have HB4 := Lib.hid (HB3.out.below hb4)
  have HW4 := Lib.hid (HW3.out.trans (hb4.mono HW3.out.size))
  clear hol hb4 HS1 HP3 HA3 HB3 HW3
  have HE4 := Lib.hid (own_empty w4 tI)
  have HBe4 := Lib.hid ((Below.refl w4.heap.size w4).alloc (Nat.le_refl _) (.cells #[] tI))
  have hsz4 : (w4.alloc (.cells #[] tI)).heap.size = w4.heap.size + 1 := by simp
  have HZ4 := Lib.hid hsz4
  have HPe := Lib.hid (HP4.out.below HBe4.out)
  clear hsz4
  have hlen1 : 0 + (intsV p).length ≤ 16777216 := by rw [intsV_len, HLp.out]; omega
  have hlen2 : 0 + (intsV p).length + (intsV a).length ≤ 16777216 := by rw [intsV_len, intsV_len, HLp.out]; omega
  have hlen3 : 0 + (intsV p).length + (intsV b).length ≤ 16777216 := by rw [intsV_len, intsV_len, HLp.out]; omega
  have HLn1 := Lib.hid hlen1
  have HLn2 := Lib.hid hlen2
  have HLn3 := Lib.hid hlen3
  clear hlen1 hlen2 hlen3
  go_wp2_with (first
    | (at_builtin; refine app_rd rfl Try.underlying22 info_i rfl (by omega) (.tmp 35) (.tmp 36) rfl w4.heap.size 0 [] (intsV p) _ _ rfl HE4.out rfl HPe.out (one_ints p) HLn1.out (by rw [HZ4.out]; omega) ?_; intro v5 w5 ho5 hb5 _; have HO5 := Lib.hid ho5; have HB5 := Lib.hid (HBe4.out.trans hb5); have HAe := Lib.hid (HA4.out.below HB5.out); clear ho5 hb5)
    | (at_builtin; refine app_rd rfl Try.underlying22 info_i rfl (by omega) (.tmp 37) (.tmp 38) rfl w4.heap.size _ _ (intsV a) _ _ rfl HO5.out rfl HAe.out (one_ints a) HLn2.out HB5.out.size ?_; intro v6 w6 ho6 hb6 _; have HO6 := Lib.hid ho6; have HB6 := Lib.hid (HB5.out.trans hb6); obtain ⟨A6, c6, hv6⟩ := own_form ho6; subst hv6; have HE6 := Lib.hid (own_empty w6 tI); have HBe6 := Lib.hid ((Below.refl w6.heap.size w6).alloc (Nat.le_refl _) (.cells #[] tI)); have HPf := Lib.hid ((HP4.out.below HB6.out).below HBe6.out); have hsz6 : (w6.alloc (.cells #[] tI)).heap.size = w6.heap.size + 1 := (by simp); have HZ6 := Lib.hid hsz6; clear ho6 hb6 hsz6)
    | (at_builtin; refine app_rd rfl Try.underlying22 info_i rfl (by omega) (.tmp 40) (.tmp 41) rfl w6.heap.size 0 [] (intsV p) _ _ rfl HE6.out rfl HPf.out (one_ints p) HLn1.out (by rw [HZ6.out]; omega) ?_; intro v7 w7 ho7 hb7 _; have HO7 := Lib.hid ho7; have HB7 := Lib.hid (HBe6.out.trans hb7); have HBf := Lib.hid (HB4.out.below (HB6.out.trans (HB7.out.mono HB6.out.size))); clear ho7 hb7)
    | (at_builtin; refine app_rd rfl Try.underlying22 info_i rfl (by omega) (.tmp 42) (.tmp 43) rfl w6.heap.size _ _ (intsV b) _ _ rfl HO7.out rfl HBf.out (one_ints b) HLn3.out HB7.out.size ?_; intro v8 w8 ho8 hb8 _; have HO8 := Lib.hid ho8; have HB8 := Lib.hid (HB7.out.trans hb8); obtain ⟨A8, c8, hv8⟩ := own_form ho8; subst hv8; clear ho8 hb8))
  have HR1 : Hid (RdV w8 (.slice A6 ((intsV p).length + (intsV a).length) c6) (intsV (p ++ a))) := Lib.hid (by
    have h1 := own_below HO6.out HB8.out
    have h2 := RdV.of_own (us := intsV (p ++ a)) (n := 0 + (intsV p).length + (intsV a).length) (by rw [show intsV (p ++ a) = [] ++ intsV p ++ intsV a from by simp [intsV]]; exact h1)
    rw [Nat.zero_add] at h2
    exact h2)
  have HR2 : Hid (RdV w8 (.slice A8 ((intsV p).length + (intsV b).length) c8) (intsV (p ++ b))) := Lib.hid (by
    have h2 := RdV.of_own (us := intsV (p ++ b)) (n := 0 + (intsV p).length + (intsV b).length) (by rw [show intsV (p ++ b) = [] ++ intsV p ++ intsV b from by simp [intsV]]; exact HO8.out)
    rw [Nat.zero_add] at h2
    exact h2)
  have HW8 := Lib.hid (HW4.out.trans ((HB6.out.trans (HB8.out.mono HB6.out.size)).mono HW4.out.size))
  have HL8 := Lib.hid (HL4.out.below (HB6.out.trans (HB8.out.mono HB6.out.size)))
  have HS2 := Lib.hid (Scr_rd _ _ (p ++ a) (p ++ b) w8 HR1.out HR2.out (by rw [List.length_append, HLp.out]; omega) (by rw [List.length_append, HLp.out]; omega) (fun z hz => by rcases List.mem_append.1 hz with h | h; exact HZp.out z h; exact HZa.out z h) (fun z hz => by rcases List.mem_append.1 hz with h | h; exact HZp.out z h; exact HZb.out z h))
  have hsp := scr_pre p a b
  have hsl := scr_len a b
  have hso := okL_bd (scr_ok a b)
  have HMs : Hid (scrF (p ++ a) (p ++ b) = (scrF a b).map (shC (N : Int))) := Lib.hid (by unfold scrF; rw [hsp, HLp.out])
  rw [HMs.out] at HS2
  have HBd : Hid (∀ c ∈ scrF a b, (0 ≤ c.old ∧ c.old ≤ 12) ∧ (0 ≤ c.new ∧ c.new ≤ 12)) := Lib.hid (fun c hc => by
    have := hso c hc; omega)
  have hl13 : (scrF a b).length ≤ 13 := by omega
  clear hsp hsl hso HMs HR1 HR2 HP4 HA4 HB4 HW4 HL4 HE4 HBe4 HZ4 HPe HLn1 HLn2 HLn3 HO5 HB5 HAe HO6 HB6 HE6 HBe6 HPf HZ6 HO7 HB7 HBf HO8 HB8
  generalize scrF a b = l at *
  generalize (intsV p).length = np at *
  generalize (intsV a).length = na at *
  generalize (intsV b).length = nb at *
  go_wp2_with fail
  refine HS2.out.mono ?_
  rintro e w9 ⟨vm, rfl, hom, hb9⟩
  have HM9 := Lib.hid hom.rd
  obtain ⟨A9, c9, hf9⟩ := hom.rd.form
  rw [List.length_map] at hf9
  subst hf9
  have HL9 := Lib.hid (HL8.out.below hb9)
  have HW9 := Lib.hid (HW8.out.trans (hb9.mono HW8.out.size))
  clear hom hb9 HS2 HW8 HL8
  obtain ⟨n, hn⟩ : ∃ n, n = l.length := ⟨_, rfl⟩
  have HN := Lib.hid hn
  rw [← hn] at hl13
  rw [← hn]
  rw [← hn] at HL9 HM9
  clear hn
  go_wp2_with fail
  go_loopw [15] (fun i' wr => ∃ k : Nat, k ≤ n ∧ i' = .int .i64 (k : Int) ∧ Hid (Below w9.heap.size w9 wr)) (fun i' _ => n - (intOf i').toNat)
  case atStart => exact ⟨0, Nat.zero_le _, rfl, Lib.hid (Below.refl _ _)⟩
  case round =>
    obtain ⟨k, hk, rfl, HBl⟩ := hrel
    by_cases hlt : k < n
    · have hx : k < l.length := by rw [← HN.out]; exact hlt
      have hx2 : k < (l.map (shC (N : Int))).length := by rw [List.length_map]; exact hx
      obtain ⟨b1, o1, rfl, p0, p1, p2, p3⟩ := RdC_at (HL9.out.below HBl.out) k hx
      obtain ⟨b2, o2, rfl, q0, q1, q2, q3⟩ := RdC_at (HM9.out.below HBl.out) k hx2
      rw [List.getElem_map] at q0 q1 q2 q3
      obtain ⟨⟨z0, z1⟩, z2, z3⟩ := HBd.out _ (List.getElem_mem hx)
      simp only [shC] at q0 q1 q2 q3
      generalize l[k].old = x0 at *
      generalize l[k].oldLen = x1 at *
      generalize l[k].new = x2 at *
      generalize l[k].newLen = x3 at *
      have i1 : (0 : Int) ≤ (k : Int) := by omega
      have i2 : (k : Int) < (n : Int) := by omega
      have heq := equal_ch (x0 + N) x1 (x2 + N) x3
      have hgd := guard_ch
      have HBa : Hid (∀ C, Below w9.heap.size w9 (wr.alloc (.cells C tCh))) := Lib.hid (fun C => HBl.out.alloc HBl.out.size _)
      have HQ : Hid (∀ C, (wr.alloc (.cells C tCh)).cell? ⟨b2, o2 + k * 4, none⟩ = some (.int .i64 (x0 + N)) ∧ (wr.alloc (.cells C tCh)).cell? ⟨b2, o2 + k * 4 + 1, none⟩ = some (.int .i64 x1) ∧ (wr.alloc (.cells C tCh)).cell? ⟨b2, o2 + k * 4 + 2, none⟩ = some (.int .i64 (x2 + N)) ∧ (wr.alloc (.cells C tCh)).cell? ⟨b2, o2 + k * 4 + 3, none⟩ = some (.int .i64 x3)) := Lib.hid (fun C => by
        have hb := (Below.refl wr.heap.size wr).alloc (Nat.le_refl _) (.cells C tCh)
        exact ⟨(hb.cell (Tx.cell_lt q0)).trans q0, (hb.cell (Tx.cell_lt q1)).trans q1, (hb.cell (Tx.cell_lt q2)).trans q2, (hb.cell (Tx.cell_lt q3)).trans q3⟩)
      clear hx hx2 q0 q1 q2 q3
      go_upto_region 13 with fail
      obtain ⟨q0, q1, q2, q3⟩ := HQ.out #[.int .i64 (x0 + N), .int .i64 x1, .int .i64 (x2 + N), .int .i64 x3]
      go_quiet (fail)
      have HBq := Lib.hid (below_drewN (HBa.out #[.int .i64 (x0 + N), .int .i64 x1, .int .i64 (x2 + N), .int .i64 x3]) nq)
      clear q0 q1 q2 q3 HQ HBa p0 p1 p2 p3
      go_wp2_with fail
      go_roundw
      case rel => exact ⟨k + 1, by omega, by go_num, HBq⟩
      case measure => simp [intOf]; omega
    · have hd : decide (k < n) = false := by rw [decide_eq_false_iff_not]; omega
      go_wp2_with fail
      refine (HAw.out _).mono ?_
      rintro e w11 ⟨rfl, hb⟩
      have HW11 := Lib.hid ((HW9.out.trans (HBl.out.mono HW9.out.size)).trans (hb.mono (Nat.le_trans HW9.out.size HBl.out.size)))
      go_wp2_with fail
      go_ret
      exact ⟨rfl, HW11.out⟩
end Sh
end Go.Proofs.Ytlnjhacchnfbkaa

/-
  Proved: the law InternExact of layer 3 returns true for every input, and its arguments read as before. No conditions.
-/
import Derived.Test.YthfadfennkkkjaaInternAwake
import Derived.Test.YthfadfennkkkjaaTextGen
import Derived.Test.YthfadfennkkkjaaComFrame
import Derived.StillTailTactics
namespace Go.Proofs.Ythfadfennkkkjaa
open Go.ChangeShapes Go.WideShapes Go.ChangeAt Go.RowKit
open Go.ChangeMaps (open_string shut_string)
namespace Nt.InternExact
open Cm Nt
theorem spell_names (ns f : List ByteArray) (h : ∀ s ∈ f, s ∈ ns) : spellF ns (f.map (placeI ns)) = some f := by
  induction f with
  | nil => rfl
  | cons s r ih =>
    have h1 := ih (fun t ht => h t (List.mem_cons_of_mem _ ht))
    obtain ⟨p1, p2, p3⟩ := spell_place (h s (List.mem_cons_self ..))
    rw [List.map_cons, spellF, dif_pos ⟨p1, p2⟩, h1]
    rw [List.getElem?_eq_getElem (by omega)] at p3
    simp only [Option.map_some]
    rw [Option.some.inj p3]
/-- What is known of lists of numbers that read. -/
theorem ints_at {w : World} {v : Value} {ls : List (List Int)} (h : RdLL w v (ls.map intsV)) :
    ∃ A c, v = .slice A ls.length c ∧ Hid (∀ j (hj : j < ls.length), ∃ b off A' c', A = some ⟨b, off, none⟩ ∧ w.cell? ⟨b, off + j, none⟩ = some (.slice A' ls[j].length c') ∧
      RdV w (.slice A' ls[j].length c') (intsV ls[j])) := by
  obtain ⟨us, ⟨A, c, rfl, _, hA⟩, hl, he⟩ := h
  rw [List.length_map] at hl
  refine ⟨A, c, by rw [hl], Lib.hid (fun j hj => ?_)⟩
  obtain ⟨b, off, rfl, hcell⟩ := hA (by omega)
  have h2 := he j (by omega) (by rw [List.length_map]; exact hj)
  rw [List.getElem_map] at h2
  have hc := hcell j (by omega)
  obtain ⟨A', c', e⟩ := h2.form
  rw [intsV_len] at e
  refine ⟨b, off, A', c', rfl, by rw [hc, e], ?_⟩
  rw [← e]; exact h2
theorem strs_at {w : World} {v : Value} {ls : List (List ByteArray)} (h : RdLL w v (ls.map stringsV)) :
    ∃ A c, v = .slice A ls.length c ∧ Hid (∀ j (hj : j < ls.length), ∃ b off A' c', A = some ⟨b, off, none⟩ ∧ w.cell? ⟨b, off + j, none⟩ = some (.slice A' ls[j].length c') ∧
      RdV w (.slice A' ls[j].length c') (stringsV ls[j])) := by
  obtain ⟨us, ⟨A, c, rfl, _, hA⟩, hl, he⟩ := h
  rw [List.length_map] at hl
  refine ⟨A, c, by rw [hl], Lib.hid (fun j hj => ?_)⟩
  obtain ⟨b, off, rfl, hcell⟩ := hA (by omega)
  have h2 := he j (by omega) (by rw [List.length_map]; exact hj)
  rw [List.getElem_map] at h2
  have hc := hcell j (by omega)
  obtain ⟨A', c', e⟩ := h2.form
  rw [stringsV_len] at e
  refine ⟨b, off, A', c', rfl, by rw [hc, e], ?_⟩
  rw [← e]; exact h2
theorem placeI_bounds (ns : List ByteArray) (s : ByteArray) (h : ns.length ≤ 1000000) : -9223372036854775808 ≤ placeI ns s ∧ placeI ns s ≤ 9223372036854775807 := by
  have h1 := placeI_lo ns s
  have h2 := placeI_hi ns s
  omega
theorem int_cell {w : World} {A : Option Addr} {n c : Nat} {l : List ByteArray} {F : ByteArray → Int} (h : RdV w (.slice A n c) (intsV (l.map F))) (k : Nat) (hk : k < l.length) : ∃ b off, A = some ⟨b, off, none⟩ ∧ w.cell? ⟨b, off + k, none⟩ = some (.int .i64 (F l[k])) := by
  obtain ⟨_, b, off, e, hc⟩ := h.at (by rw [intsV_len, List.length_map]; omega)
  exact ⟨b, off, e, by rw [hc k (by rw [intsV_len, List.length_map]; exact hk)]; simp [intsV]⟩
theorem str_cell {w : World} {A : Option Addr} {n c : Nat} {l : List ByteArray} (h : RdV w (.slice A n c) (stringsV l)) (k : Nat) (hk : k < l.length) : ∃ b off, A = some ⟨b, off, none⟩ ∧ w.cell? ⟨b, off + k, none⟩ = some (.string l[k]) := by
  obtain ⟨_, b, off, e, hc⟩ := h.at (by rw [stringsV_len]; omega)
  exact ⟨b, off, e, by rw [hc k (by rw [stringsV_len]; exact hk)]; simp [stringsV]⟩
theorem cell_drewN {w : World} {p : Addr} {u : Value} (h : w.cell? p = some u) (m : Nat) : (w.drewN m).cell? p = some u := by
  induction m generalizing w with
  | zero => exact h
  | succ m ih => exact ih (w := w.drew) h
theorem any_cell {w : World} {p : Addr} {u : Value} (h : w.cell? p = some u) : ∀ tp d os out, World.cell? ⟨w.heap, tp, d, os, out⟩ p = some u := fun _ _ _ _ => h
theorem mod_fun : ∃ M : Int → Int → Int, (∀ a n : Int, 0 < n → 0 ≤ M a n ∧ M a n < n) ∧ ∀ (a n : Int) (w : World), 0 < n → n ≤ 1000 → -9223372036854775808 ≤ a → a ≤ 9223372036854775807 →
    Calls Try.prog 9 #[.int .i64 a, .int .i64 n] w fun e w' => e = .returned (.int .i64 (M a n)) ∧ w = w' :=
  ⟨Tx.modF, fun a n h => ⟨Tx.modF_lo a n h, Tx.modF_hi a n h⟩, fun a n w h1 h2 h3 h4 => Tx.Mod_any a n w h1 (by omega) h3 h4⟩
set_option maxRecDepth 100000 in
set_option maxHeartbeats 4000000 in
theorem walk (u : Value) (fs : List (List ByteArray)) (f i g j : Int) (w : World) (hr : RdLL w u (fs.map stringsV)) (hl : fs.length ≤ maxLen) (hll : ∀ f ∈ fs, f.length ≤ maxLen) (hsz : ∀ f ∈ fs, ∀ s ∈ f, s.size ≤ maxLen)
    (bf : -9223372036854775808 ≤ f ∧ f ≤ 9223372036854775807) (bi : -9223372036854775808 ≤ i ∧ i ≤ 9223372036854775807) (bg : -9223372036854775808 ≤ g ∧ g ≤ 9223372036854775807) (bj : -9223372036854775808 ≤ j ∧ j ≤ 9223372036854775807) :
    Calls Try.prog 5 #[u, .int .i64 f, .int .i64 i, .int .i64 g, .int .i64 j] w fun e w' => e = .returned (.bool true) ∧ Below w.heap.size w w' := by
  have HSm := Lib.hid (small_any u fs w hr hl hll)
  have HAw := Lib.hid (fun w => awake_any w)
  have HSz := Lib.hid hsz
  have HR := Lib.hid hr
  have HBf := Lib.hid bf
  have HBi := Lib.hid bi
  have HBg := Lib.hid bg
  have HBj := Lib.hid bj
  obtain ⟨Au, cu, rfl, _⟩ := strs_at hr
  clear hr hl hll hsz bf bi bg bj
  generalize hfl : fs.length = fl at HSm HR ⊢
  have HFl := Lib.hid hfl
  clear hfl
  go_enter Try.func5, Try.ntmps5
  go_wp2_with fail
  refine HSm.out.mono ?_
  rintro e w1 ⟨b, rfl, hb, q, rfl⟩
  have HB1 := Lib.hid (below_drewN (Below.refl w.heap.size w) q)
  have HR1 := Lib.hid (HR.out.drewN q)
  generalize World.drewN w q = w1 at HB1 HR1 ⊢
  clear HSm
  cases b with
  | false =>
    clear hb
    go_wp2_with (go_at_call 8; refine (HAw.out _).mono ?_; rintro e w2 ⟨rfl, hb2⟩)
    go_ret
    exact ⟨rfl, HB1.out.trans (hb2.mono HB1.out.size)⟩
  | true =>
    have hfl6 := (hb rfl).1
    have HSmall := Lib.hid (hb rfl).2
    clear hb
    by_cases h0 : fl = 0
    · subst h0
      go_wp2_with (go_at_call 8; refine (HAw.out _).mono ?_; rintro e w2 ⟨rfl, hb2⟩)
      go_ret
      exact ⟨rfl, HB1.out.trans (hb2.mono HB1.out.size)⟩
    have hfp : (0 : Int) < (fl : Int) := by omega
    have hl1000 : fs.length ≤ 1000 := by rw [HFl.out]; omega
    have hll1000 : ∀ f ∈ fs, f.length ≤ 1000 := fun f hf => by have := HSmall.out f hf; omega
    have HI := Lib.hid (Ids_any _ fs w1 HR1.out hl1000 hll1000 HSz.out)
    have HN := Lib.hid (fun w h => Names_any (.slice Au fl cu) fs w h hl1000 hll1000 HSz.out)
    have hnl : (namesF fs).length ≤ 1000000 := by
      have h1 := namesA_len fs.flatten ([] : List ByteArray)
      have h2 := flat_bound fs 1000 hll1000
      unfold namesF
      simp only [List.length_nil] at h1; omega
    have HIds : Hid (idsF fs = fs.map fun f => f.map (placeI (namesF fs))) := Lib.hid rfl
    have HMem : Hid (∀ f ∈ fs, ∀ s ∈ f, s ∈ namesF fs) := Lib.hid (fun f hf s hs => mem_namesF hf hs)
    have hil : (idsF fs).length = fl := by rw [HIds.out, List.length_map, HFl.out]
    have HIj : Hid (∀ k (h : k < fl), (idsF fs)[k]'(by omega) = (fs[k]'(by rw [HFl.out]; exact h)).map (placeI (namesF fs))) := Lib.hid (fun k h => by simp [HIds.out])
    clear hl1000 hll1000
    go_wp2_with fail
    refine HI.out.mono ?_
    rintro e w2 ⟨vi, rfl, oi, bi⟩
    have RI2 := Lib.hid oi.rd
    have HR2 := Lib.hid (HR1.out.below bi)
    have HB2 := Lib.hid (HB1.out.trans (bi.mono HB1.out.size))
    clear oi bi HI HR1 HB1
    go_wp2_with fail
    refine (HN.out _ HR2.out).mono ?_
    rintro e w3 ⟨vn, rfl, on, bn⟩
    have RN := Lib.hid (RdV.of_own on)
    have RI3 := RI2.out.below bn
    have HR3 := HR2.out.below bn
    have HB3 := Lib.hid (HB2.out.trans (bn.mono HB2.out.size))
    clear on bn HN HR2 HB2 RI2
    obtain ⟨Ai, ci, rfl, HI3⟩ := ints_at RI3
    obtain ⟨Al, cl, hle, HL3⟩ := strs_at HR3
    injection hle with e1 e2 e3
    subst e1
    subst e3
    clear e2 RI3 HR3
    obtain ⟨G, hG⟩ : ∃ G : Nat → List ByteArray, ∀ k (h : k < fl), G k = fs[k]'(by rw [HFl.out]; exact h) := ⟨fun k => fs.getD k [], fun k h => by
      show fs.getD k [] = _
      rw [List.getD_eq_getElem?_getD, List.getElem?_eq_getElem (by rw [HFl.out]; exact h)]; rfl⟩
    have HG : Hid (∀ k, k < fl → (G k).length ≤ 10 ∧ ∀ s ∈ G k, s ∈ namesF fs) := Lib.hid (fun k h => by
      rw [hG k h]
      exact ⟨HSmall.out _ (List.getElem_mem _), HMem.out _ (List.getElem_mem _)⟩)
    have HC : Hid (∀ k, k < fl → ∃ bi oi Ai' ci' bl ol Al' cl', Ai = some ⟨bi, oi, none⟩ ∧ Au = some ⟨bl, ol, none⟩ ∧ w3.cell? ⟨bi, oi + k, none⟩ = some (.slice Ai' (G k).length ci') ∧ w3.cell? ⟨bl, ol + k, none⟩ = some (.slice Al' (G k).length cl') ∧
        RdV w3 (.slice Ai' (G k).length ci') (intsV ((G k).map (placeI (namesF fs)))) ∧ RdV w3 (.slice Al' (G k).length cl') (stringsV (G k))) := Lib.hid (fun k h => by
      obtain ⟨bi, oi, Ai', ci', e1, c1, r1⟩ := HI3.out k (by rw [hil]; exact h)
      obtain ⟨bl, ol, Al', cl', e2, c2, r2⟩ := HL3.out k (by rw [HFl.out]; exact h)
      rw [HIj.out k h, ← hG k h] at c1 r1
      rw [← hG k h] at c2 r2
      rw [List.length_map] at c1 r1
      exact ⟨bi, oi, Ai', ci', bl, ol, Al', cl', e1, e2, c1, c2, r1, r2⟩)
    have HSp : Hid (∀ k, k < fl → spellF (namesF fs) ((G k).map (placeI (namesF fs))) = some (G k)) := Lib.hid (fun k h => spell_names _ _ (HG.out k h).2)
    rw [hil]
    clear HI3 HL3 HIj HIds HMem hG HSmall HSz HR
    generalize namesF fs = ns at RN HG HC HSp hnl
    clear hil
    have HNl := Lib.hid hnl
    clear hnl
    have hsz3 := HB3.out.size
    go_wp2_with fail
    go_loopw [13] (fun q wr => ∃ k : Nat, k ≤ fl ∧ q = .int .i64 k ∧ Below w3.heap.size w3 wr) (fun q _ => fl - (intOf q).toNat)
    case atStart => exact ⟨0, Nat.zero_le _, rfl, Below.refl _ _⟩
    case round =>
      obtain ⟨k, hk, rfl, hnx⟩ := hrel
      have hsz := hnx.size
      by_cases hlt : k < fl
      · obtain ⟨bi, oi, Ai', ci', bl, ol, Al', cl', rfl, rfl, c1, c2, r1, r2⟩ := HC.out k hlt
        have hgl := (HG.out k hlt).1
        have HSk := Lib.hid (HSp.out k hlt)
        have HFb : Hid (∀ z ∈ (G k).map (placeI ns), -9223372036854775808 ≤ z ∧ z ≤ 9223372036854775807) := Lib.hid (fun z hz => by
          obtain ⟨s, _, rfl⟩ := List.mem_map.1 hz
          exact placeI_bounds _ _ HNl.out)
        have d1 := (hnx.cell (p := ⟨bi, oi + k, none⟩) (Tx.cell_lt c1)).trans c1
        have d2 := (hnx.cell (p := ⟨bl, ol + k, none⟩) (Tx.cell_lt c2)).trans c2
        have R1 := r1.below hnx
        have R2 := Lib.hid (r2.below hnx)
        have HS0 := Spell_any vn _ ns _ wr (RN.out.below hnx) R1 (by have := HNl.out; omega) (by rw [List.length_map]; omega) HFb.out
        rw [HSk.out] at HS0
        have HS := Lib.hid HS0
        clear c1 c2 r1 r2 HSk HFb HS0 R1
        generalize G k = gk at hgl d1 d2 R2 HS
        generalize hgn : gk.length = gl at hgl d1 d2 R2 HS
        have HGn := Lib.hid hgn
        clear hgn
        have i1 : (0 : Int) ≤ (k : Int) := by omega
        have i2 : (k : Int) < (fl : Int) := by omega
        go_wp2_with fail
        refine HS.out.mono ?_
        rintro e w4 ⟨v4, rfl, o4, b4⟩
        have HSt := Lib.hid (fun q => Strings_same v4 _ gk (w4.drewN q) (by rw [HGn.out]; omega) ((RdV.of_own o4).drewN q) ((R2.out.below b4).drewN q))
        have d3 := (b4.cell (p := ⟨bi, oi + k, none⟩) (Tx.cell_lt d1)).trans d1
        have d4 := (b4.cell (p := ⟨bl, ol + k, none⟩) (Tx.cell_lt d2)).trans d2
        have HB4 := Lib.hid (hnx.trans (b4.mono hsz))
        obtain ⟨A4, c4, rfl⟩ := own_form o4
        clear o4 b4 d1 d2 HS R2
        go_wp2_with fail
        go_quiet ((go_at_call 15; exact Calls.quiet_of (HSt.out _)))
        go_wp2_with fail
        go_roundw
        case rel => exact ⟨k + 1, by omega, by go_num, below_drewN HB4.out _⟩
        case measure => simp [intOf]; omega
      · have hd : decide (k < fl) = false := by simp only [decide_eq_false_iff_not]; omega
        obtain ⟨M, hM1, hM2⟩ := mod_fun
        have HM0 := Lib.hid hM1
        have HM := Lib.hid hM2
        clear hM1 hM2
        obtain ⟨fi, hMf⟩ : ∃ k : Nat, M f fl = k := ⟨(M f fl).toNat, by rw [Int.toNat_of_nonneg (HM0.out f fl (by omega)).1]⟩
        obtain ⟨gi, hMg⟩ : ∃ k : Nat, M g fl = k := ⟨(M g fl).toNat, by rw [Int.toNat_of_nonneg (HM0.out g fl (by omega)).1]⟩
        have hfi : fi < fl := by have := (HM0.out f fl (by omega)).2; omega
        have hgi : gi < fl := by have := (HM0.out g fl (by omega)).2; omega
        have bf1 := HBf.out.1
        have bf2 := HBf.out.2
        have bg1 := HBg.out.1
        have bg2 := HBg.out.2
        have bi1 := HBi.out.1
        have bi2 := HBi.out.2
        have bj1 := HBj.out.1
        have bj2 := HBj.out.2
        obtain ⟨bi, oi, Ai', ci', bl, ol, Al', cl', rfl, rfl, c1, c2, r1, r2⟩ := HC.out fi hfi
        obtain ⟨bx, ox, Aj', cj', by', oy, Am', cm', e1, e2, c3, c4, r3, r4⟩ := HC.out gi hgi
        injection e1 with e1
        injection e1 with e1 e1'
        injection e2 with e2
        injection e2 with e2 e2'
        subst e1
        subst e1'
        subst e2
        subst e2'
        have d1 := (hnx.cell (p := ⟨bi, oi + fi, none⟩) (Tx.cell_lt c1)).trans c1
        have d2 := (hnx.cell (p := ⟨bl, ol + fi, none⟩) (Tx.cell_lt c2)).trans c2
        have d3 := (hnx.cell (p := ⟨bi, oi + gi, none⟩) (Tx.cell_lt c3)).trans c3
        have d4 := (hnx.cell (p := ⟨bl, ol + gi, none⟩) (Tx.cell_lt c4)).trans c4
        have Q1 := Lib.hid (r1.below hnx)
        have Q2 := Lib.hid (r2.below hnx)
        have Q3 := Lib.hid (r3.below hnx)
        have Q4 := Lib.hid (r4.below hnx)
        have hg1 := (HG.out fi hfi).1
        have hg2 := (HG.out gi hgi).1
        have HM1 := Lib.hid (HG.out fi hfi).2
        have HM2 := Lib.hid (HG.out gi hgi).2
        have HB4 := Lib.hid (HB3.out.trans (hnx.mono hsz3))
        clear c1 c2 c3 c4 r1 r2 r3 r4 HC HG HSp
        generalize G fi = gf at *
        generalize G gi = gg at *
        generalize hlf : gf.length = lf at d1 d2 hg1 Q1 Q2
        generalize hlg : gg.length = lg at d3 d4 hg2 Q3 Q4
        have HLf := Lib.hid hlf
        have HLg := Lib.hid hlg
        have i1 : (0 : Int) ≤ (fi : Int) := by omega
        have i2 : (fi : Int) < (fl : Int) := by omega
        have i3 : (0 : Int) ≤ (gi : Int) := by omega
        have i4 : (gi : Int) < (fl : Int) := by omega
        clear hlf hlg hfi hgi hnx
        by_cases hz1 : lf = 0
        · subst hz1
          go_wp2_with (first
            | (go_at_call 9; refine (HM.out _ _ _ (by omega) (by omega) (by omega) (by omega)).mono ?_; rintro e w4 ⟨rfl, rfl⟩)
            | (go_at_call 8; refine (HAw.out _).mono ?_; rintro e w4 ⟨rfl, hb2⟩))
          go_ret
          exact ⟨rfl, HB4.out.trans (hb2.mono HB4.out.size)⟩
        by_cases hz2 : lg = 0
        · subst hz2
          have e0 : ((lf : Int) == 0) = false := by simp; omega
          go_wp2_with (first
            | (go_at_call 9; refine (HM.out _ _ _ (by omega) (by omega) (by omega) (by omega)).mono ?_; rintro e w4 ⟨rfl, rfl⟩)
            | (go_at_call 8; refine (HAw.out _).mono ?_; rintro e w4 ⟨rfl, hb2⟩))
          go_ret
          exact ⟨rfl, HB4.out.trans (hb2.mono HB4.out.size)⟩
        have e0 : ((lf : Int) == 0) = false := by simp; omega
        have e0' : ((lg : Int) == 0) = false := by simp; omega
        have lfp : (0 : Int) < (lf : Int) := by omega
        have lgp : (0 : Int) < (lg : Int) := by omega
        obtain ⟨ii, hMi⟩ : ∃ k : Nat, M i lf = k := ⟨(M i lf).toNat, by rw [Int.toNat_of_nonneg (HM0.out i lf lfp).1]⟩
        obtain ⟨jj, hMj⟩ : ∃ k : Nat, M j lg = k := ⟨(M j lg).toNat, by rw [Int.toNat_of_nonneg (HM0.out j lg lgp).1]⟩
        have hii : ii < lf := by have := (HM0.out i lf lfp).2; omega
        have hjj : jj < lg := by have := (HM0.out j lg lgp).2; omega
        obtain ⟨p1, o1, rfl, q1⟩ := int_cell Q1.out ii (by rw [HLf.out]; exact hii)
        obtain ⟨p2, o2, rfl, q2⟩ := str_cell Q2.out ii (by rw [HLf.out]; exact hii)
        obtain ⟨p3, o3, rfl, q3⟩ := int_cell Q3.out jj (by rw [HLg.out]; exact hjj)
        obtain ⟨p4, o4, rfl, q4⟩ := str_cell Q4.out jj (by rw [HLg.out]; exact hjj)
        have x1 : ii < gf.length := by rw [HLf.out]; exact hii
        have x2 : jj < gg.length := by rw [HLg.out]; exact hjj
        have hm1 := HM1.out _ (List.getElem_mem x1)
        have hm2 := HM2.out _ (List.getElem_mem x2)
        have HInj := Lib.hid (placeI_inj hm1 hm2)
        clear hm1 hm2 HM1 HM2 Q1 Q2 Q3 Q4
        generalize gf[ii] = s at q1 q2 HInj
        generalize gg[jj] = t at q3 q4 HInj
        clear x1 x2
        have j1 : (0 : Int) ≤ (ii : Int) := by omega
        have j2 : (ii : Int) < (lf : Int) := by omega
        have j3 : (0 : Int) ≤ (jj : Int) := by omega
        have j4 : (jj : Int) < (lg : Int) := by omega
        go_wp2_with (go_at_call 9; refine (HM.out _ _ _ (by omega) (by omega) (by omega) (by omega)).mono ?_; rintro e w4 ⟨rfl, rfl⟩)
        go_quiet ((go_at_call 9; exact Calls.quiet_of_same ((HM.out _ _ _ (by omega) (by omega) (by omega) (by omega)).mono fun _ _ h => ⟨h.1, h.2.symm⟩)))
        go_wp2_with fail
        rw [hMi, hMj]
        have HB5 := Lib.hid (below_drewN HB4.out nq)
        have f1 := any_cell (cell_drewN d1 nq)
        have f2 := any_cell (cell_drewN d2 nq)
        have f3 := any_cell (cell_drewN d3 nq)
        have f4 := any_cell (cell_drewN d4 nq)
        have f5 := any_cell (cell_drewN q1 nq)
        have f6 := any_cell (cell_drewN q2 nq)
        have f7 := any_cell (cell_drewN q3 nq)
        have f8 := any_cell (cell_drewN q4 nq)
        clear d1 d2 d3 d4 q1 q2 q3 q4 HB4
        generalize World.drewN wr nq = w5 at *
        by_cases hst : s = t
        · subst hst
          have e5 := eqT (rfl : s = s)
          generalize placeI ns s = z at f5 f7
          clear HInj
          go_still_tail 32, (by kernel_rfl)
          change wpList _ _ _ _ _ w5.drew
          generalize hw6 : w5.drew = w6
          have HB6 : Hid (Below w.heap.size w w6) := Lib.hid (by rw [← hw6]; exact HB5.out.drew)
          clear hw6
          go_wp2_with (go_at_call 8; refine (HAw.out _).mono ?_; rintro e w7 ⟨rfl, hb2⟩)
          go_ret
          exact ⟨rfl, HB6.out.trans (hb2.mono HB6.out.size)⟩
        · have hne : ¬ placeI ns s = placeI ns t := fun h => hst (HInj.out.1 h)
          have e5 := eqF hst
          have e6 : (placeI ns s == placeI ns t) = false := by rw [beq_eq_false_iff_ne]; exact hne
          generalize placeI ns s = z at f5 hne e6
          generalize placeI ns t = y at f7 hne e6
          clear HInj hst
          go_still_tail 32, (by kernel_rfl)
          change wpList _ _ _ _ _ w5.drew
          generalize hw6 : w5.drew = w6
          have HB6 : Hid (Below w.heap.size w w6) := Lib.hid (by rw [← hw6]; exact HB5.out.drew)
          clear hw6
          go_wp2_with (go_at_call 8; refine (HAw.out _).mono ?_; rintro e w7 ⟨rfl, hb2⟩)
          go_ret
          exact ⟨rfl, HB6.out.trans (hb2.mono HB6.out.size)⟩
set_option maxRecDepth 100000 in
theorem lifted (os : Os) (started : os.Started) (H : Type) (enc : TypeId × Value → H) :
    ReturnsInHanded {} Try.checked os 5 .any (Rows.internExactSpec.pre6 enc Try.prog Try.f5 Rows.internExactRow.domain false) (Rows.internExactSpec.post enc Try.prog Try.f5 false true false false) := by
  refine returnsInHanded_of_change (C := Try.checked) own started (by kernel_rfl) Try.func5
    (ChangeSpec.witness6 (enc := enc) (C := Try.checked) false ⟨#[], #[.slice none 0 0, .int .i64 0, .int .i64 0, .int .i64 0, .int .i64 0], []⟩ 8 (by kernel_rfl) (by kernel_rfl) (by kernel_rfl) (by kernel_rfl)) ?_
  intro W base args ds gs before hval0 hW _ _
  have hval : ∀ (j : Nat) t v, Try.f5.params[j]? = some t → args[j]? = some v → Value.okWide Try.prog W .any base t v := hval0
  have hW' := hW
  obtain ⟨p, q, hA0, hV, rfl, hfz, hnd⟩ := hW
  have hA : DataW.TrodAll enc Try.prog W 0 (fun _ => true) true Try.f5.params.toList args.toList ds p := hA0
  rw [Try.params5] at hA hval
  obtain ⟨v0, v1, v2, v3, v4, d0, d1, d2, d3, d4, p0, p1, p2, p3, p4, rfl, rfl, rfl, h0, h1, h2, h3, h4⟩ := trodAll_five hA
  obtain ⟨rfl, rfl⟩ := trodVars_none hV
  obtain ⟨A0, n0, c0, rfl⟩ := okWide_slice Try.underlying22 (hval 0 22 v0 rfl rfl)
  have k0 := h0
  have lt0 : ∀ x ∈ p0, x.block < W.heap.size := by obtain ⟨m, hm⟩ := k0; exact DataW.trod_lt m _ _ _ hm
  obtain ⟨fs, r0, s0, t0⟩ : ∃ fs : List (List ByteArray), RdLL W (.slice A0 n0 c0) (fs.map stringsV) ∧ fs.length ≤ maxLen ∧ ∀ f ∈ fs, f.length ≤ maxLen ∧ ∀ s ∈ f, s.size ≤ maxLen := by obtain ⟨fuel, hf⟩ := h0; exact open_filesV hf
  obtain ⟨f, rfl, rfl, rfl, wf⟩ := open_int Try.underlying3 (hval 1 3 v1 rfl rfl) h1
  have bf := bounds_int wf
  obtain ⟨i, rfl, rfl, rfl, wi⟩ := open_int Try.underlying3 (hval 2 3 v2 rfl rfl) h2
  have bi := bounds_int wi
  obtain ⟨g, rfl, rfl, rfl, wg⟩ := open_int Try.underlying3 (hval 3 3 v3 rfl rfl) h3
  have bg := bounds_int wg
  obtain ⟨j, rfl, rfl, rfl, wj⟩ := open_int Try.underlying3 (hval 4 3 v4 rfl rfl) h4
  have bj := bounds_int wj
  clear hA0 hval0
  simp only [List.append_nil] at hW'
  refine (walk (.slice A0 n0 c0) fs f i g j W r0 s0 (fun f hf => (t0 f hf).1) (fun f hf => (t0 f hf).2) bf bi bg bj).mono fun e W' ⟨he, hbel⟩ => ?_
  subst he
  exact ⟨_, rfl, _, _, _, [], _, [], hW', trodAll_mk1 (shut_bool Try.underlying4 _), trodAll_mk5 (Below.trod laidOut (by kernel_rfl) (of_decide_eq_true (by kernel_rfl)) k0 hbel lt0) (shut_int Try.underlying3 wf) (shut_int Try.underlying3 wi) (shut_int Try.underlying3 wg) (shut_int Try.underlying3 wj), rfl, hbel.frame _, fun h => by cases h⟩
theorem row_holds : Rows.InternExactSaid :=
  OpenClaim.holds_of_wide 5 Try.f5 rfl rfl rfl rfl rfl rfl rfl ⟨rfl, rfl, rfl, rfl, rfl⟩ rfl rfl rfl rfl rfl (by kernel_rfl) Try.func5 (by kernel_rfl)
    (of_decide_eq_true (by kernel_rfl)) (by unfold Func.isWrapper; first | (rw [if_pos (by decide +kernel)]; kernel_rfl) | (rw [if_neg (by decide +kernel)]; exact ⟨rfl, rfl⟩))
    (fun os started H enc _ => lifted os started H enc)
end Nt.InternExact
end Go.Proofs.Ythfadfennkkkjaa

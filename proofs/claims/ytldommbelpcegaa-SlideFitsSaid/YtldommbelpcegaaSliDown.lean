/-
  The program's Down, Up and Room of package slide. Conditions: lists of at most 4096 lines.
-/
import Derived.Test.YtldommbelpcegaaSliMid
namespace Go.Proofs.Ytldommbelpcegaa
open Go.RowKit
namespace Sl
open Cm Sc
theorem put2 {base g N c : Nat} {w : World} {l : List Ch} (h : OwnC base w (.slice (some ⟨g, 0, none⟩) N c) l) (k : Nat) (hk : k < l.length) (d : Int) :
    OwnC base ((w.setCell ⟨g, k * 4, none⟩ (.int .i64 (l[k].old + d))).setCell ⟨g, k * 4 + 2, none⟩ (.int .i64 (l[k].new + d))) (.slice (some ⟨g, 0, none⟩) N c) (l.set k (sh l[k] d)) := by
  have h1 := h.put k hk 0 (by decide) (.int .i64 (l[k].old + d)) ⟨l[k].old + d, l[k].oldLen, l[k].new, l[k].newLen⟩ rfl
  have hk2 : k < (l.set k ⟨l[k].old + d, l[k].oldLen, l[k].new, l[k].newLen⟩).length := by rw [List.length_set]; exact hk
  have h2 := OwnC.put h1 k hk2 2 (by decide) (.int .i64 (l[k].new + d)) (sh l[k] d) (by rw [List.getElem_set_self]; rfl)
  rw [List.set_set] at h2
  exact h2
def DnPost (l : List Ch) (w : World) (e : Ending) (w' : World) : Prop := ∃ v, e = .returned (.tuple #[v, .int .i64 0]) ∧ OwnC w.heap.size w' v l ∧ Below w.heap.size w w'
set_option maxRecDepth 100000 in
set_option maxHeartbeats 4000000 in
theorem Down_any (v : Value) (l : List Ch) (va vb : Value) (a b : List Int) (w : World) (h : RdC w v l) (ha : RdV w va (intsV a)) (hb : RdV w vb (intsV b)) (hla : a.length ≤ 4096) (hlb : b.length ≤ 4096) (hf : FitL a b true 0 0 l) :
    Calls Try.prog 10 #[v, va, vb] w (DnPost (downF a b a.length l) w) := by
  have hfew := fit_few hf
  have HFit : Hid (∀ wq, Below w.heap.size w wq → Calls Try.prog 29 #[v, va, vb] wq fun e w' => e = .returned (.bool true) ∧ Below wq.heap.size wq w') := Lib.hid (fun wq hq =>
    (Fits_any v l va vb a b wq (h.below hq) (by omega) (fun c hc => chN_B (fit_chN hf hla hlb c hc)) (ha.below hq) (hb.below hq) (by omega) (by omega)).mono fun e w' ⟨h1, h2⟩ => ⟨by rw [h1, fit_true hf hla hlb], h2⟩)
  have HCl := Lib.hid (fun wq (hq : Below w.heap.size w wq) => Clone_any v l wq (h.below hq) (by omega))
  have HRm := Lib.hid (fun (v8 : Value) (k : Nat) (hk : k < l.length) (wq : World) (hq : Below w.heap.size w wq) (hr : RdC wq v8 (midD a b l (k + 1))) =>
    room_any v8 (midD a b l (k + 1)) va vb a b k wq hr (by rw [midD_len a b hk]; omega) (by rw [midD_len a b hk]; exact hk) (ha.below hq) (hb.below hq) hla hlb (midD_fit hf _))
  have HN := Lib.hid (fun k => fit_chN (midD_fit hf k) hla hlb)
  have HNo := Lib.hid (fit_chN hf hla hlb)
  obtain ⟨A, cp, rfl⟩ := h.form
  obtain ⟨Aa, ca, rfl⟩ := ha.form
  obtain ⟨Ab, cb, rfl⟩ := hb.form
  rw [intsV_len] at HFit HRm ⊢
  rw [intsV_len] at HFit HRm ⊢
  clear h ha hb hf
  obtain ⟨N, hNl⟩ : ∃ N, N = l.length := ⟨_, rfl⟩
  rw [← hNl] at HFit HCl hfew ⊢
  have HNl := Lib.hid hNl
  clear hNl
  go_enter Try.func10, Try.ntmps10
  go_wp2_with (first
    | (go_at_call 29; refine (HFit.out _ (Below.refl _ _)).mono ?_; rintro e w1 ⟨rfl, hb1⟩; have HB1 := Lib.hid hb1; clear hb1 HFit)
    | (go_at_call 30; refine (HCl.out _ HB1.out).mono ?_; rintro e w2 ⟨v8, rfl, ho2, hb2⟩; obtain ⟨A8, c8, hv8⟩ := ho2.rd.form; rw [← HNl.out] at hv8; subst hv8; have HO2 := Lib.hid (ho2.base HB1.out.size); have HB2 := Lib.hid (HB1.out.trans (hb2.mono HB1.out.size)); clear ho2 hb2 HCl))
  go_loopw [9] (fun k' wr => ∃ k : Nat, k ≤ N ∧ k' = .int .i64 ((k : Int) - 1) ∧ Hid (OwnC w.heap.size wr (.slice A8 N c8) (midD a b l k)) ∧ Hid (Below w.heap.size w wr)) (fun k' _ => (intOf k' + 1).toNat)
  case atStart => exact ⟨N, Nat.le_refl _, rfl, Lib.hid (by rw [HNl.out, midD_all]; rw [HNl.out] at HO2; exact HO2.out), HB2⟩
  case round =>
    obtain ⟨k, hk, rfl, HO, HB⟩ := hrel
    clear HO2 HB2
    by_cases h0 : 0 < k
    · obtain ⟨p, rfl⟩ : ∃ p, k = p + 1 := ⟨k - 1, by omega⟩
      have hpl : p < l.length := by rw [← HNl.out]; omega
      have hpX : p < (midD a b l (p + 1)).length := by rw [midD_len a b hpl]; exact hpl
      have hgp := midD_get a b hpl hpX
      have hst := midD_step a b hpl
      have HR1 := Lib.hid (HRm.out (.slice A8 N c8) p hpl wr HB.out HO.out.rd)
      obtain ⟨g, c8', e, hgb⟩ := HO.out.block (by omega)
      rw [midD_len a b hpl, ← HNl.out] at e
      injection e with e1 _ e2
      subst e1
      subst e2
      have hPut := fun (W : World) (hO : OwnC w.heap.size W (.slice (some ⟨g, 0, none⟩) N c8) (midD a b l (p + 1))) (d : Int) => put2 hO p hpX d
      have hCel := fun (W : World) (hO : OwnC w.heap.size W (.slice (some ⟨g, 0, none⟩) N c8) (midD a b l (p + 1))) => hO.cells p hpX
      unfold RmPost at HR1
      rw [hgp] at HR1 hPut
      simp only [hgp] at hPut hCel
      have hNo := HNo.out _ (List.getElem_mem hpl)
      have hmem : sh l[p] (dnR a b l[p] (lowD a.length ((midD a b l (p + 1)).drop (p + 1)) l[p]) : Nat) ∈ midD a b l p := by
        rw [← hst]; exact List.mem_set hpX _
      have hNn := HN.out p _ hmem
      clear hmem hpX hgp
      generalize dnR a b l[p] (lowD a.length ((midD a b l (p + 1)).drop (p + 1)) l[p]) = D at *
      generalize upR a b l[p] (l[p].old - prE (midD a b l (p + 1)) p).toNat = U at *
      have HPut : Hid (∀ W : World, OwnC w.heap.size W (.slice (some ⟨g, 0, none⟩) N c8) (midD a b l (p + 1)) → OwnC w.heap.size ((W.setCell ⟨g, p * 4, none⟩ (.int .i64 (l[p].old + (D : Int)))).setCell ⟨g, p * 4 + 2, none⟩ (.int .i64 (l[p].new + (D : Int)))) (.slice (some ⟨g, 0, none⟩) N c8) (midD a b l p)) := Lib.hid (fun W hO => by
        have := hPut W hO (D : Int)
        rw [hst] at this
        exact this)
      have HCel := Lib.hid hCel
      clear hst hPut hCel
      obtain ⟨⟨o0, o1⟩, _, ⟨n0, n1⟩, _⟩ := hNo
      obtain ⟨⟨r0, r1⟩, _, ⟨r2, r3⟩, _⟩ := hNn
      unfold sh at r0 r1 r2 r3
      simp only at r0 r1 r2 r3
      have ez : (((p + 1 : Nat) : Int) - 1) = (p : Int) := by omega
      rw [ez]
      clear ez
      have i1 : (0 : Int) ≤ (p : Int) := by omega
      have i2 : (p : Int) < (N : Int) := by omega
      generalize l[p] = c at *
      obtain ⟨o, ol, nw, nl⟩ := c
      simp only at o0 o1 n0 n1 r0 r1 r2 r3
      have HO1 := Lib.hid HO.out
      go_wp2_with (first
        | (go_at_call 31; refine HR1.out.mono ?_; rintro e w3 ⟨rfl, hb3⟩; have HO3 := Lib.hid (HO1.out.below hb3); have HB3 := Lib.hid (HB.out.trans (hb3.mono HB.out.size)); clear hb3 HR1)
        | (go_at_call 32; refine (move_any g (p * 4) o nw (D : Int) _ (HCel.out _ HO3.out).1.1 (HCel.out _ HO3.out).1.2.2.1 (HCel.out _ HO3.out).2 ⟨r0, by omega⟩ ⟨r2, by omega⟩).mono ?_; rintro e w4 ⟨rfl, rfl⟩))
      go_roundw
      case rel => exact ⟨p, by omega, rfl, Lib.hid (HPut.out _ HO3.out), Lib.hid ((HB3.out.setCell (p := ⟨g, p * 4, none⟩) hgb _).setCell (p := ⟨g, p * 4 + 2, none⟩) hgb _)⟩
      case measure => simp [intOf]
    · obtain rfl : k = 0 := by omega
      rw [show (((0 : Nat) : Int) - 1) = -1 from rfl]
      go_wp2_with fail
      go_ret2
      exact ⟨_, rfl, HO.out, HB.out⟩
set_option maxRecDepth 100000 in
set_option maxHeartbeats 4000000 in
theorem Up_any (v : Value) (l : List Ch) (va vb : Value) (a b : List Int) (w : World) (h : RdC w v l) (ha : RdV w va (intsV a)) (hb : RdV w vb (intsV b)) (hla : a.length ≤ 4096) (hlb : b.length ≤ 4096) (hf : FitL a b true 0 0 l) :
    Calls Try.prog 12 #[v, va, vb] w (DnPost (upF a b 0 l) w) := by
  have hfew := fit_few hf
  have HFit : Hid (∀ wq, Below w.heap.size w wq → Calls Try.prog 29 #[v, va, vb] wq fun e w' => e = .returned (.bool true) ∧ Below wq.heap.size wq w') := Lib.hid (fun wq hq =>
    (Fits_any v l va vb a b wq (h.below hq) (by omega) (fun c hc => chN_B (fit_chN hf hla hlb c hc)) (ha.below hq) (hb.below hq) (by omega) (by omega)).mono fun e w' ⟨h1, h2⟩ => ⟨by rw [h1, fit_true hf hla hlb], h2⟩)
  have HCl := Lib.hid (fun wq (hq : Below w.heap.size w wq) => Clone_any v l wq (h.below hq) (by omega))
  have HRm := Lib.hid (fun (v8 : Value) (k : Nat) (hk : k < l.length) (wq : World) (hq : Below w.heap.size w wq) (hr : RdC wq v8 (midU a b l k)) =>
    room_any v8 (midU a b l k) va vb a b k wq hr (by rw [midU_len a b (Nat.le_of_lt hk)]; omega) (by rw [midU_len a b (Nat.le_of_lt hk)]; exact hk) (ha.below hq) (hb.below hq) hla hlb (midU_fit hf _))
  have HN := Lib.hid (fun k => fit_chN (midU_fit hf k) hla hlb)
  have HNo := Lib.hid (fit_chN hf hla hlb)
  obtain ⟨A, cp, rfl⟩ := h.form
  obtain ⟨Aa, ca, rfl⟩ := ha.form
  obtain ⟨Ab, cb, rfl⟩ := hb.form
  rw [intsV_len] at HFit HRm ⊢
  rw [intsV_len] at HFit HRm ⊢
  clear h ha hb hf
  obtain ⟨N, hNl⟩ : ∃ N, N = l.length := ⟨_, rfl⟩
  rw [← hNl] at HFit HCl hfew ⊢
  have HNl := Lib.hid hNl
  clear hNl
  go_enter Try.func12, Try.ntmps12
  go_wp2_with (first
    | (go_at_call 29; refine (HFit.out _ (Below.refl _ _)).mono ?_; rintro e w1 ⟨rfl, hb1⟩; have HB1 := Lib.hid hb1; clear hb1 HFit)
    | (go_at_call 30; refine (HCl.out _ HB1.out).mono ?_; rintro e w2 ⟨v8, rfl, ho2, hb2⟩; obtain ⟨A8, c8, hv8⟩ := ho2.rd.form; rw [← HNl.out] at hv8; subst hv8; have HO2 := Lib.hid (ho2.base HB1.out.size); have HB2 := Lib.hid (HB1.out.trans (hb2.mono HB1.out.size)); clear ho2 hb2 HCl))
  go_loopw [21] (fun k' wr => ∃ k : Nat, k ≤ N ∧ k' = .int .i64 (k : Int) ∧ Hid (OwnC w.heap.size wr (.slice A8 N c8) (midU a b l k)) ∧ Hid (Below w.heap.size w wr)) (fun k' _ => N - (intOf k').toNat)
  case atStart => exact ⟨0, Nat.zero_le _, rfl, Lib.hid (by rw [midU_zero]; exact HO2.out), HB2⟩
  case round =>
    obtain ⟨p, hk, rfl, HO, HB⟩ := hrel
    clear HO2 HB2
    by_cases h0 : p < N
    · have hpl : p < l.length := by rw [← HNl.out]; omega
      have hpX : p < (midU a b l p).length := by rw [midU_len a b (Nat.le_of_lt hpl)]; exact hpl
      have hgp := midU_get a b hpl hpX
      have hst := midU_step a b hpl
      have HR1 := Lib.hid (HRm.out (.slice A8 N c8) p hpl wr HB.out HO.out.rd)
      obtain ⟨g, c8', e, hgb⟩ := HO.out.block (by omega)
      rw [midU_len a b (Nat.le_of_lt hpl), ← HNl.out] at e
      injection e with e1 _ e2
      subst e1
      subst e2
      have hPut := fun (W : World) (hO : OwnC w.heap.size W (.slice (some ⟨g, 0, none⟩) N c8) (midU a b l p)) (d : Int) => put2 hO p hpX d
      have hCel := fun (W : World) (hO : OwnC w.heap.size W (.slice (some ⟨g, 0, none⟩) N c8) (midU a b l p)) => hO.cells p hpX
      unfold RmPost at HR1
      rw [hgp] at HR1 hPut
      simp only [hgp] at hPut hCel
      have hNo := HNo.out _ (List.getElem_mem hpl)
      have hmem : sh l[p] (-(upR a b l[p] (l[p].old - prE (midU a b l p) p).toNat : Nat)) ∈ midU a b l (p + 1) := by
        rw [← hst]; exact List.mem_set hpX _
      have hNn := HN.out (p + 1) _ hmem
      clear hmem hpX hgp
      generalize dnR a b l[p] (lowD a.length ((midU a b l p).drop (p + 1)) l[p]) = D at *
      generalize upR a b l[p] (l[p].old - prE (midU a b l p) p).toNat = U at *
      have HPut : Hid (∀ W : World, OwnC w.heap.size W (.slice (some ⟨g, 0, none⟩) N c8) (midU a b l p) → OwnC w.heap.size ((W.setCell ⟨g, p * 4, none⟩ (.int .i64 (l[p].old + -(U : Int)))).setCell ⟨g, p * 4 + 2, none⟩ (.int .i64 (l[p].new + -(U : Int)))) (.slice (some ⟨g, 0, none⟩) N c8) (midU a b l (p + 1))) := Lib.hid (fun W hO => by
        have := hPut W hO (-(U : Int))
        rw [hst] at this
        exact this)
      have HCel := Lib.hid hCel
      clear hst hPut hCel
      obtain ⟨⟨o0, o1⟩, _, ⟨n0, n1⟩, _⟩ := hNo
      obtain ⟨⟨r0, r1⟩, _, ⟨r2, r3⟩, _⟩ := hNn
      unfold sh at r0 r1 r2 r3
      simp only at r0 r1 r2 r3
      have i1 : (0 : Int) ≤ (p : Int) := by omega
      have i2 : (p : Int) < (N : Int) := by omega
      have i3 : decide (p < N) = true := decide_eq_true h0
      generalize l[p] = c at *
      obtain ⟨o, ol, nw, nl⟩ := c
      simp only at o0 o1 n0 n1 r0 r1 r2 r3
      have u1 : (U : Int) ≤ 8192 := by omega
      have HO1 := Lib.hid HO.out
      go_wp2_with (first
        | (go_at_call 31; refine HR1.out.mono ?_; rintro e w3 ⟨rfl, hb3⟩; have HO3 := Lib.hid (HO1.out.below hb3); have HB3 := Lib.hid (HB.out.trans (hb3.mono HB.out.size)); clear hb3 HR1)
        | (go_at_call 32; refine (move_any g (p * 4) o nw (-(U : Int)) _ (HCel.out _ HO3.out).1.1 (HCel.out _ HO3.out).1.2.2.1 (HCel.out _ HO3.out).2 ⟨r0, by omega⟩ ⟨r2, by omega⟩).mono ?_; rintro e w4 ⟨rfl, rfl⟩))
      go_roundw
      case rel => exact ⟨p + 1, by omega, by go_num, Lib.hid (HPut.out _ HO3.out), Lib.hid ((HB3.out.setCell (p := ⟨g, p * 4, none⟩) hgb _).setCell (p := ⟨g, p * 4 + 2, none⟩) hgb _)⟩
      case measure => simp [intOf]; omega
    · obtain rfl : p = N := by omega
      have i3 : decide (p < p) = false := decide_eq_false h0
      have HE : Hid (OwnC w.heap.size wr (.slice A8 p c8) (upF a b 0 l)) := Lib.hid (by have := HO.out; rw [HNl.out, midU_all] at this; rw [HNl.out]; exact this)
      go_wp2_with fail
      go_ret2
      exact ⟨_, rfl, HE.out, HB.out⟩
def BadPost (w : World) (e : Ending) (w' : World) : Prop := e = .returned (.tuple #[.slice none 0 0, .int .i64 80]) ∧ Below w.heap.size w w'
def NotFit (v va vb : Value) (w : World) : Prop := ∀ wq, Below w.heap.size w wq → Calls Try.prog 29 #[v, va, vb] wq fun e w' => e = .returned (.bool false) ∧ Below wq.heap.size wq w'
theorem Down_bad (v va vb : Value) (w : World) (h : NotFit v va vb w) : Calls Try.prog 10 #[v, va, vb] w (BadPost w) := by
  have HF := Lib.hid (h w (Below.refl _ _))
  clear h
  go_enter Try.func10, Try.ntmps10
  go_wp2_with (go_at_call 29; refine HF.out.mono ?_; rintro e w1 ⟨rfl, hb1⟩; have HB1 := Lib.hid hb1; clear hb1)
  go_ret2
  exact ⟨rfl, HB1.out⟩
theorem Up_bad (v va vb : Value) (w : World) (h : NotFit v va vb w) : Calls Try.prog 12 #[v, va, vb] w (BadPost w) := by
  have HF := Lib.hid (h w (Below.refl _ _))
  clear h
  go_enter Try.func12, Try.ntmps12
  go_wp2_with (go_at_call 29; refine HF.out.mono ?_; rintro e w1 ⟨rfl, hb1⟩; have HB1 := Lib.hid hb1; clear hb1)
  go_ret2
  exact ⟨rfl, HB1.out⟩
def Rm3 (x y z : Int) (w : World) (e : Ending) (w' : World) : Prop := e = .returned (.tuple #[.int .i64 x, .int .i64 y, .int .i64 z]) ∧ Below w.heap.size w w'
theorem Room_bad (v va vb : Value) (k : Int) (w : World) (h : NotFit v va vb w) : Calls Try.prog 16 #[v, va, vb, .int .i64 k] w (Rm3 0 0 80 w) := by
  have HF := Lib.hid (h w (Below.refl _ _))
  clear h
  go_enter Try.func16, Try.ntmps16
  go_wp2_with (go_at_call 29; refine HF.out.mono ?_; rintro e w1 ⟨rfl, hb1⟩; have HB1 := Lib.hid hb1; clear hb1)
  go_ret3
  exact ⟨rfl, HB1.out⟩
def rmU (a b : List Int) (l : List Ch) (k : Int) : Int := if h : 0 ≤ k ∧ k.toNat < l.length then (upR a b l[k.toNat] (l[k.toNat].old - prE l k.toNat).toNat : Nat) else 0
def rmD (a b : List Int) (l : List Ch) (k : Int) : Int := if h : 0 ≤ k ∧ k.toNat < l.length then (dnR a b l[k.toNat] (lowD a.length (l.drop (k.toNat + 1)) l[k.toNat]) : Nat) else 0
def rmE (l : List Ch) (k : Int) : Int := if 0 ≤ k ∧ k.toNat < l.length then 0 else 3
set_option maxHeartbeats 1000000 in
theorem Room_any (v : Value) (l : List Ch) (va vb : Value) (a b : List Int) (k : Int) (w : World) (h : RdC w v l) (ha : RdV w va (intsV a)) (hb : RdV w vb (intsV b)) (hla : a.length ≤ 4096) (hlb : b.length ≤ 4096) (hf : FitL a b true 0 0 l) :
    Calls Try.prog 16 #[v, va, vb, .int .i64 k] w (Rm3 (rmU a b l k) (rmD a b l k) (rmE l k) w) := by
  have hfew := fit_few hf
  have HFit : Hid (Calls Try.prog 29 #[v, va, vb] w fun e w' => e = .returned (.bool true) ∧ Below w.heap.size w w') := Lib.hid (
    (Fits_any v l va vb a b w h (by omega) (fun c hc => chN_B (fit_chN hf hla hlb c hc)) ha hb (by omega) (by omega)).mono fun e w' ⟨h1, h2⟩ => ⟨by rw [h1, fit_true hf hla hlb], h2⟩)
  have HRm := Lib.hid (fun (k : Nat) (hk : k < l.length) (wq : World) (hq : Below w.heap.size w wq) => room_any v l va vb a b k wq (h.below hq) (by omega) hk (ha.below hq) (hb.below hq) hla hlb hf)
  obtain ⟨A, cp, rfl⟩ := h.form
  clear h ha hb hf
  by_cases hk : 0 ≤ k ∧ k.toNat < l.length
  · obtain ⟨q, rfl⟩ : ∃ q : Nat, k = (q : Int) := ⟨k.toNat, by omega⟩
    rw [Int.toNat_natCast] at hk
    have hkl := hk.2
    have e1 : rmU a b l (q : Int) = (upR a b l[q] (l[q].old - prE l q).toNat : Nat) := by unfold rmU; rw [dif_pos (by rw [Int.toNat_natCast]; exact hk)]; rfl
    have e2 : rmD a b l (q : Int) = (dnR a b l[q] (lowD a.length (l.drop (q + 1)) l[q]) : Nat) := by unfold rmD; rw [dif_pos (by rw [Int.toNat_natCast]; exact hk)]; rfl
    have e3 : rmE l (q : Int) = 0 := by unfold rmE; rw [if_pos (by rw [Int.toNat_natCast]; exact hk)]
    rw [e1, e2, e3]
    have HR := Lib.hid (HRm.out q hkl)
    unfold RmPost at HR
    generalize ((upR a b l[q] (l[q].old - prE l q).toNat : Nat) : Int) = U at *
    generalize ((dnR a b l[q] (lowD a.length (l.drop (q + 1)) l[q]) : Nat) : Int) = D at *
    clear HRm e1 e2 e3 hk
    generalize l.length = N at *
    have i1 : (0 : Int) ≤ (q : Int) := by omega
    have i2 : (q : Int) < (N : Int) := by omega
    have d1 : decide ((q : Int) < 0) = false := decide_eq_false (by omega)
    have d2 : decide (N ≤ q) = false := decide_eq_false (by omega)
    go_enter Try.func16, Try.ntmps16
    go_wp2_with (first
      | (go_at_call 29; refine HFit.out.mono ?_; rintro e w1 ⟨rfl, hb1⟩; have HB1 := Lib.hid hb1; clear hb1 HFit)
      | (go_at_call 31; refine (HR.out _ HB1.out).mono ?_; rintro e w3 ⟨rfl, hb3⟩; have HB3 := Lib.hid (HB1.out.trans (hb3.mono HB1.out.size)); clear hb3 HR))
    go_ret3
    exact ⟨rfl, HB3.out⟩
  · have e1 : rmU a b l k = 0 := by unfold rmU; rw [dif_neg hk]
    have e2 : rmD a b l k = 0 := by unfold rmD; rw [dif_neg hk]
    have e3 : rmE l k = 3 := by unfold rmE; rw [if_neg hk]
    rw [e1, e2, e3]
    clear HRm e1 e2 e3
    generalize l.length = N at *
    by_cases h0 : k < 0
    · have d1 : decide (k < 0) = true := decide_eq_true h0
      clear hk
      go_enter Try.func16, Try.ntmps16
      go_wp2_with (go_at_call 29; refine HFit.out.mono ?_; rintro e w1 ⟨rfl, hb1⟩; have HB1 := Lib.hid hb1; clear hb1 HFit)
      go_ret3
      exact ⟨rfl, HB1.out⟩
    · obtain ⟨q, rfl⟩ : ∃ q : Nat, k = (q : Int) := ⟨k.toNat, by omega⟩
      rw [Int.toNat_natCast] at hk
      have d1 : decide ((q : Int) < 0) = false := decide_eq_false (by omega)
      have d2 : decide (N ≤ q) = true := decide_eq_true (by omega)
      clear hk h0
      go_enter Try.func16, Try.ntmps16
      go_wp2_with (go_at_call 29; refine HFit.out.mono ?_; rintro e w1 ⟨rfl, hb1⟩; have HB1 := Lib.hid hb1; clear hb1 HFit)
      go_ret3
      exact ⟨rfl, HB1.out⟩
end Sl
end Go.Proofs.Ytldommbelpcegaa

/-
  The reference's side, down, up, moved of layer 10. Conditions: a script that fits, lists of at most 4096 lines.
-/
import Derived.Test.YtldommbelpcegaaSliDown
namespace Go.Proofs.Ytldommbelpcegaa
open Go.RowKit
namespace Sl
open Cm Sc
def SdPost (v : Value) (x y : Int) (ok : Bool) (w : World) (e : Ending) (w' : World) : Prop := e = .returned (.tuple #[v, .int .i64 x, .int .i64 y, .bool ok]) ∧ Below w.heap.size w w'
set_option maxHeartbeats 1000000 in
theorem side_rem (o ol nw nl : Int) (va vb : Value) (w : World) (h : nl = 0) :
    Calls Try.prog 44 #[.agg #[.int .i64 o, .int .i64 ol, .int .i64 nw, .int .i64 nl], va, vb] w (SdPost va o ol true w) := by
  subst h
  go_enter Try.func44, Try.ntmps44
  go_wp2_with fail
  go_quiet (fail)
  go_wp2_with fail
  exact bodyPost_ret (v := .tuple #[va, .int .i64 o, .int .i64 ol, .bool true]) (by simp [results, Try.f44, go_sem]) rfl ⟨rfl, below_drewN ((Below.refl _ _).alloc (Nat.le_refl _) _) _⟩
set_option maxHeartbeats 1000000 in
theorem side_add (o ol nw nl : Int) (va vb : Value) (w : World) (h : ol = 0) (hne : nl ≠ 0) :
    Calls Try.prog 44 #[.agg #[.int .i64 o, .int .i64 ol, .int .i64 nw, .int .i64 nl], va, vb] w (SdPost vb nw nl true w) := by
  subst h
  have d1 : ((nl : Int) == 0) = false := by simpa using hne
  clear hne
  go_enter Try.func44, Try.ntmps44
  go_wp2_with fail
  go_quiet (fail)
  go_wp2_with fail
  exact bodyPost_ret (v := .tuple #[vb, .int .i64 nw, .int .i64 nl, .bool true]) (by simp [results, Try.f44, go_sem]) rfl ⟨rfl, below_drewN ((Below.refl _ _).alloc (Nat.le_refl _) _) _⟩
set_option maxHeartbeats 1000000 in
theorem side_no (o ol nw nl : Int) (va vb : Value) (w : World) (h : ol ≠ 0) (hne : nl ≠ 0) :
    Calls Try.prog 44 #[.agg #[.int .i64 o, .int .i64 ol, .int .i64 nw, .int .i64 nl], va, vb] w (SdPost (.slice none 0 0) 0 0 false w) := by
  have d1 : ((nl : Int) == 0) = false := by simpa using hne
  have d2 : ((ol : Int) == 0) = false := by simpa using h
  clear hne h
  go_enter Try.func44, Try.ntmps44
  go_wp2_with fail
  exact bodyPost_ret (v := .tuple #[.slice none 0 0, .int .i64 0, .int .i64 0, .bool false]) (by simp [results, Try.f44, go_sem]) rfl ⟨rfl, (Below.refl _ _).alloc (Nat.le_refl _) _⟩
theorem side_pure (c : Ch) (va vb : Value) (w : World) (hp : Pure c) :
    Calls Try.prog 44 #[.agg #[.int .i64 c.old, .int .i64 c.oldLen, .int .i64 c.new, .int .i64 c.newLen], va, vb] w (SdPost (if c.newLen = 0 then va else vb) (frC c) (lnC c) true w) := by
  by_cases h : c.newLen = 0
  · have e : frC c = c.old ∧ lnC c = c.oldLen := by unfold frC lnC; exact ⟨if_pos h, if_pos h⟩
    rw [e.1, e.2, if_pos h]
    exact side_rem _ _ _ _ va vb w h
  · have e : frC c = c.new ∧ lnC c = c.newLen := by unfold frC lnC; exact ⟨if_neg h, if_neg h⟩
    rw [e.1, e.2, if_neg h]
    exact side_add _ _ _ _ va vb w (hp.resolve_left h) h
def canD (a b : List Int) (l : List Ch) (k : Nat) (c : Ch) : Bool := dnB a b c && decide (0 < lowD a.length (l.drop (k + 1)) c)
def canU (a b : List Int) (l : List Ch) (k : Nat) (c : Ch) : Bool := upB a b c && decide (0 < (c.old - prE l k).toNat)
def BlPost (x : Bool) (w : World) (e : Ending) (w' : World) : Prop := e = .returned (.bool x) ∧ Below w.heap.size w w'
set_option maxRecDepth 100000 in
set_option maxHeartbeats 4000000 in
theorem can_no (v : Value) (l : List Ch) (va vb : Value) (a b : List Int) (k : Nat) (w : World) (h : RdC w v l) (hk : k < l.length) (hp : ¬ Pure l[k]) :
    Calls Try.prog 33 #[v, va, vb, .int .i64 (k : Int)] w (BlPost (canD a b l k l[k]) w) ∧ Calls Try.prog 35 #[v, va, vb, .int .i64 (k : Int)] w (BlPost (canU a b l k l[k]) w) := by
  have e1 : canD a b l k l[k] = false := by unfold canD dnB; rw [decide_eq_false (fun h => hp h.1)]; rfl
  have e2 : canU a b l k l[k] = false := by unfold canU upB; rw [decide_eq_false (fun h => hp h.1)]; rfl
  rw [e1, e2]
  clear e1 e2
  obtain ⟨A, cp, rfl⟩ := h.form
  obtain ⟨b, off, rfl, c0, c1, c2, c3⟩ := RdC_at h k hk
  clear h
  have hp2 : l[k].oldLen ≠ 0 ∧ l[k].newLen ≠ 0 := ⟨fun e => hp (.inr e), fun e => hp (.inl e)⟩
  clear hp
  generalize l[k] = c at *
  obtain ⟨o, ol, nw, nl⟩ := c
  simp only at c0 c1 c2 c3 hp2
  obtain ⟨n1, n2⟩ := hp2
  have HN := Lib.hid (And.intro n1 n2)
  clear n1 n2
  generalize l.length = N at *
  have q1 : (0 : Int) ≤ (k : Int) := by omega
  have q2 : (k : Int) < (N : Int) := by omega
  constructor
  · go_enter Try.func33, Try.ntmps33
    go_wp2_with (go_at_call 44; refine (side_no _ _ _ _ _ _ _ HN.out.1 HN.out.2).mono ?_; rintro e w1 ⟨rfl, hb1⟩; have HB1 := Lib.hid hb1; clear hb1)
    go_quiet (fail)
    go_wp2_with fail
    go_ret
    exact ⟨rfl, below_drewN HB1.out _⟩
  · go_enter Try.func35, Try.ntmps35
    go_wp2_with (go_at_call 44; refine (side_no _ _ _ _ _ _ _ HN.out.1 HN.out.2).mono ?_; rintro e w1 ⟨rfl, hb1⟩; have HB1 := Lib.hid hb1; clear hb1)
    go_quiet (fail)
    go_wp2_with fail
    go_ret
    exact ⟨rfl, below_drewN HB1.out _⟩
structure Facts (a b : List Int) (l : List Ch) (k : Nat) (c : Ch) (va vb : Value) (w : World) (At : Option Addr) (ct n f ln ab be : Nat) : Prop where
  tv : (if c.newLen = 0 then va else vb) = .slice At n ct
  tn : n = (txt a b c).length
  tr : ∀ wq, Below w.heap.size w wq → RdV wq (.slice At n ct) (intsV (txt a b c))
  ff : frC c = (f : Int)
  fl : lnC c = (ln : Int)
  lo : lowD a.length (l.drop (k + 1)) c = be
  hi : (c.old - prE l k).toNat = ab
  small : n ≤ 4096
  top : f + ln + be ≤ n
  topE : l.length ≤ k + 1 → f + ln + be = n
  topL : k + 1 < l.length → f + ln < n
  topN : ∀ h : k + 1 < l.length, (l[k + 1].old : Int) - 1 - c.old - c.oldLen = (be : Int)
  up : ab ≤ f
  up0 : k = 0 → f = 0 → ab = 0
  up00 : k = 0 → ab = 0 → f = 0
  upN : 0 < k → c.old - prE l k = (ab : Int)
theorem facts {a b : List Int} {l : List Ch} {k : Nat} (hf : FitL a b true 0 0 l) (hk : k < l.length) (va vb : Value) (w : World) (ha : RdV w va (intsV a)) (hb : RdV w vb (intsV b)) (hla : a.length ≤ 4096) (hlb : b.length ≤ 4096) : ∃ At ct n f ln ab be, Facts a b l k l[k] va vb w At ct n f ln ab be := by
  have hat := fit_at hf k hk
  obtain ⟨Aa, ca, rfl⟩ := ha.form
  obtain ⟨Ab, cb, rfl⟩ := hb.form
  rw [intsV_len] at ha hb ⊢
  rw [intsV_len]
  obtain ⟨o0, o1, n0, n1, om, nm, ne, up0, up, upN, up00, upNN, dn, dnM, dnN, dnE, dnL⟩ := hat
  have hT : ∃ At ct n, (if l[k].newLen = 0 then Value.slice Aa a.length ca else Value.slice Ab b.length cb) = .slice At n ct ∧ n = (txt a b l[k]).length ∧ n ≤ 4096 ∧ ∀ wq, Below w.heap.size w wq → RdV wq (.slice At n ct) (intsV (txt a b l[k])) := by
    unfold txt
    by_cases hz : l[k].newLen = 0
    · simp only [if_pos hz]; exact ⟨_, _, _, rfl, rfl, hla, fun wq hq => ha.below hq⟩
    · simp only [if_neg hz]; exact ⟨_, _, _, rfl, rfl, hlb, fun wq hq => hb.below hq⟩
  obtain ⟨At, ct, n, h1, h2, h3, h4⟩ := hT
  have h5 : 0 ≤ frC l[k] ∧ 0 ≤ lnC l[k] ∧ l[k].old - prE l k ≤ frC l[k] ∧ (frC l[k] = l[k].old ∨ frC l[k] = l[k].new) ∧ (l[k].old = l[k].new → frC l[k] = l[k].old) ∧ frC l[k] + lnC l[k] + (topE a.length (l.drop (k + 1)) - (l[k].old + l[k].oldLen)) ≤ (n : Int) ∧ (l.length ≤ k + 1 → frC l[k] + lnC l[k] + (topE a.length (l.drop (k + 1)) - (l[k].old + l[k].oldLen)) = (n : Int)) ∧ (k + 1 < l.length → frC l[k] + lnC l[k] < (n : Int)) := by
    rw [h2]
    have hE : l.length ≤ k + 1 → topE a.length (l.drop (k + 1)) = a.length := fun h => topE_out h
    unfold frC lnC txt
    split
    · exact ⟨by omega, by omega, by omega, by omega, by omega, by omega, fun h => by have := hE h; omega, fun h => by have := dnL h; omega⟩
    · exact ⟨by omega, by omega, by omega, by omega, by omega, by omega, fun h => by have := dnE h; omega, fun h => by have := dnL h; omega⟩
  obtain ⟨g1, g2, g3, g4, g5, g6, g7, g8⟩ := h5
  refine ⟨At, ct, n, (frC l[k]).toNat, (lnC l[k]).toNat, (l[k].old - prE l k).toNat, lowD a.length (l.drop (k + 1)) l[k], h1, h2, h4, by omega, by omega, rfl, rfl, h3, ?_, fun h => ?_, fun h => ?_, fun h => ?_, by omega, fun h e => ?_, fun h e => ?_, fun h => ?_⟩
  · unfold lowD; omega
  · have := g7 h; unfold lowD; omega
  · have := g8 h; omega
  · have := topE_in (e := a.length) h
    unfold lowD
    omega
  · have := up00 h; have := g5 this; omega
  · subst h
    have := up00 rfl; have := g5 this
    have : prE l 0 = 0 := rfl
    omega
  · omega
set_option maxRecDepth 100000 in
set_option maxHeartbeats 4000000 in
theorem down_pure (v : Value) (l : List Ch) (va vb : Value) (a b : List Int) (k : Nat) (w : World) (h : RdC w v l) (hl : l.length ≤ 1000000) (hk : k < l.length) (ha : RdV w va (intsV a)) (hb : RdV w vb (intsV b)) (hla : a.length ≤ 4096) (hlb : b.length ≤ 4096) (hf : FitL a b true 0 0 l) (hp : Pure l[k]) :
    Calls Try.prog 33 #[v, va, vb, .int .i64 (k : Int)] w (BlPost (canD a b l k l[k]) w) := by
  obtain ⟨At, ct, n, f, ln, ab, be, F⟩ := facts hf hk va vb w ha hb hla hlb
  have hN := fit_chN hf hla hlb
  have HSd := Lib.hid (side_pure l[k] va vb w hp)
  rw [F.tv, F.ff, F.fl] at HSd
  have e1 : canD a b l k l[k] = (dnB a b l[k] && decide (0 < be)) := by unfold canD; rw [F.lo]
  rw [e1]
  clear e1
  have hB : ∀ (h1 : f < (txt a b l[k]).length) (h2 : f + ln < (txt a b l[k]).length), dnB a b l[k] = ((txt a b l[k])[f] == (txt a b l[k])[f + ln]) := fun h1 h2 => by
    have := dnB_at (a := a) (b := b) hp (f := f) (e := f + ln) (d := 0) F.ff (by rw [F.ff, F.fl]; omega) h1 h2
    rw [show (((0 : Nat) : Int)) = 0 from rfl, sh_zero] at this
    exact this
  have HB := Lib.hid hB
  have HTr := Lib.hid F.tr
  have HTn := Lib.hid F.tn
  obtain ⟨A, cp, rfl⟩ := h.form
  obtain ⟨bl, off, rfl, c0, c1, c2, c3⟩ := RdC_at h k hk
  have HR := Lib.hid (fun wq (hq : Below w.heap.size w wq) => h.below hq)
  have HL := Lib.hid F.topL
  have HE := Lib.hid F.topE
  have hsm := F.small
  have htp := F.top
  have HNx : Hid (∀ hh : k + 1 < l.length, ∃ x : Int, (0 ≤ x ∧ x ≤ 4096) ∧ x - 1 - l[k].old - l[k].oldLen = (be : Int) ∧ ∀ wq, Below w.heap.size w wq → wq.cell? ⟨bl, off + (k + 1) * 4, none⟩ = some (.int .i64 x)) := Lib.hid (fun hh => ⟨l[k + 1].old, (hN _ (List.getElem_mem hh)).1, F.topN hh, fun wq hq => by
    obtain ⟨b', off', e, d0, _, _, _⟩ := RdC_at (h.below hq) (k + 1) hh
    cases e
    exact d0⟩)
  obtain ⟨⟨o0, o1⟩, ⟨l0, l1⟩, _, _⟩ := hN l[k] (List.getElem_mem hk)
  have HCw : Hid (∀ wq, Below w.heap.size w wq → wq.cell? ⟨bl, off + k * 4, none⟩ = some (.int .i64 l[k].old) ∧ wq.cell? ⟨bl, off + k * 4 + 1, none⟩ = some (.int .i64 l[k].oldLen)) := Lib.hid (fun wq hq => by
    obtain ⟨b', off', e, d0, d1, _, _⟩ := RdC_at (h.below hq) k hk
    cases e
    exact ⟨d0, d1⟩)
  clear F hN hf hp h ha hb hB HR
  generalize txt a b l[k] = T at *
  generalize dnB a b l[k] = B at *
  generalize l[k] = c at *
  obtain ⟨o, ol, nw, nl⟩ := c
  simp only at c0 c1 c2 c3 o0 o1 l0 l1
  generalize l.length = N at *
  have q1 : (0 : Int) ≤ (k : Int) := by omega
  have q2 : (k : Int) < (N : Int) := by omega
  have f1 : f + ln ≤ 4096 := by omega
  by_cases hg : n ≤ f + ln
  · have hkn : ¬ k + 1 < N := fun h => by have := HL.out h; omega
    have hbe : be = 0 := by omega
    subst hbe
    rw [show (B && decide (0 < 0)) = false from by cases B <;> rfl]
    have d1 : decide (n ≤ f + ln) = true := decide_eq_true hg
    have d2 : decide ((n : Int) ≤ (f : Int) + (ln : Int)) = true := decide_eq_true (by omega)
    clear HL HE HB HTr HTn HNx HCw hkn
    go_enter Try.func33, Try.ntmps33
    go_wp2_with (go_at_call 44; refine HSd.out.mono ?_; rintro e w1 ⟨rfl, hb1⟩; have HB1 := Lib.hid hb1; clear hb1)
    go_quiet (fail)
    go_wp2_with fail
    go_ret
    exact ⟨rfl, below_drewN HB1.out _⟩
  · have d1 : decide (n ≤ f + ln) = false := decide_eq_false hg
    have d2 : decide ((n : Int) ≤ (f : Int) + (ln : Int)) = false := decide_eq_false (by omega)
    have p1 : f < T.length := by rw [← HTn.out]; omega
    have p2 : f + ln < T.length := by rw [← HTn.out]; omega
    go_enter Try.func33, Try.ntmps33
    go_wp2_with (go_at_call 44; refine HSd.out.mono ?_; rintro e w1 ⟨rfl, hb1⟩; have HB1 := Lib.hid hb1; clear hb1)
    obtain ⟨bt, ot, rfl, x1⟩ := RdV_at (HTr.out w1 HB1.out) f p1
    obtain ⟨bt', ot', e, x2⟩ := RdV_at (HTr.out w1 HB1.out) (f + ln) p2
    cases e
    have hBe := HB.out p1 p2
    generalize T[f] = x at x1 hBe
    generalize T[f + ln] = y at x2 hBe
    have i1 : (f : Int) < (n : Int) := by omega
    have i2 : (f : Int) + (ln : Int) < (n : Int) := by omega
    clear p1 p2 c0 c1 c2 c3
    obtain ⟨c0, c1⟩ := HCw.out w1 HB1.out
    by_cases hx : x = y
    · have hz : (x != y) = false := by rw [bne_eq_false_iff_eq]; exact hx
      have HBt : Hid (B = true) := Lib.hid (by rw [hBe, beq_iff_eq]; exact hx)
      clear hBe hx HB
      by_cases hk1 : k + 1 < N
      · obtain ⟨z, ⟨z0, z1⟩, hzb, hzc⟩ := HNx.out hk1
        have d4 := hzc w1 HB1.out
        have HZ := Lib.hid hzb
        have d3 : (((k : Int) + 1) == (N : Int)) = false := by rw [beq_eq_false_iff_ne]; omega
        have i3 : (k : Int) + 1 < (N : Int) := by omega
        clear hzb hzc HNx HTr HTn HL HE HCw
        go_quiet (fail)
        go_wp2_with fail
        go_quiet (fail)
        go_wp2_with fail
        go_ret
        refine ⟨?_, below_drewN (below_drewN HB1.out _) _⟩
        show Ending.returned (.bool (decide (o + ol + 1 < z))) = _
        have := HZ.out
        rw [HBt.out, Bool.true_and, show decide (o + ol + 1 < z) = decide (0 < be) from decide_eq_decide.2 (by omega)]
      · have hk2 : k + 1 = N := by omega
        have d3 : (((k : Int) + 1) == (N : Int)) = true := by rw [beq_iff_eq]; omega
        have hbe : 0 < be := by have := HE.out (by omega); omega
        have HBe := Lib.hid hbe
        clear hbe hk2 HNx HTr HTn HL HE HCw
        go_quiet (fail)
        go_wp2_with fail
        go_quiet (fail)
        go_wp2_with fail
        go_ret
        exact ⟨by rw [HBt.out, decide_eq_true HBe.out]; rfl, below_drewN (below_drewN HB1.out _) _⟩
    · have hz : (x != y) = true := by rw [bne_iff_ne]; exact hx
      have HBt : Hid (B = false) := Lib.hid (by rw [hBe, beq_eq_false_iff_ne]; exact hx)
      clear hBe hx HB HNx HTr HTn HL HE HCw
      go_quiet (fail)
      go_wp2_with fail
      go_ret
      exact ⟨by rw [HBt.out, Bool.false_and]; rfl, below_drewN HB1.out _⟩
set_option maxRecDepth 100000 in
set_option maxHeartbeats 4000000 in
theorem up_pure (v : Value) (l : List Ch) (va vb : Value) (a b : List Int) (k : Nat) (w : World) (h : RdC w v l) (hl : l.length ≤ 1000000) (hk : k < l.length) (ha : RdV w va (intsV a)) (hb : RdV w vb (intsV b)) (hla : a.length ≤ 4096) (hlb : b.length ≤ 4096) (hf : FitL a b true 0 0 l) (hp : Pure l[k]) :
    Calls Try.prog 35 #[v, va, vb, .int .i64 (k : Int)] w (BlPost (canU a b l k l[k]) w) := by
  obtain ⟨At, ct, n, f, ln, ab, be, F⟩ := facts hf hk va vb w ha hb hla hlb
  have hN := fit_chN hf hla hlb
  have HSd := Lib.hid (side_pure l[k] va vb w hp)
  rw [F.tv, F.ff, F.fl] at HSd
  have e1 : canU a b l k l[k] = (upB a b l[k] && decide (0 < ab)) := by unfold canU; rw [F.hi]
  rw [e1]
  clear e1
  have hB : 0 < f → ∀ (h1 : f + ln - 1 < (txt a b l[k]).length) (h2 : f - 1 < (txt a b l[k]).length), upB a b l[k] = ((txt a b l[k])[f + ln - 1] == (txt a b l[k])[f - 1]) := fun h0 h1 h2 => by
    have := upB_at (a := a) (b := b) hp (f := f) (e := f + ln) (u := 0) F.ff (by rw [F.ff, F.fl]; omega) (by omega) (by omega) h1 h2
    rw [show (-((0 : Nat) : Int)) = 0 from rfl, sh_zero] at this
    exact this
  have HB := Lib.hid hB
  have HTr := Lib.hid F.tr
  have HTn := Lib.hid F.tn
  obtain ⟨A, cp, rfl⟩ := h.form
  obtain ⟨bl, off, rfl, c0, c1, c2, c3⟩ := RdC_at h k hk
  have HU0 := Lib.hid F.up00
  have hup := F.up
  have hsm := F.small
  have htp := F.top
  have HPr : Hid (0 < k → ∃ x y : Int, (0 ≤ x ∧ x ≤ 4096) ∧ (0 ≤ y ∧ y ≤ 4096) ∧ l[k].old - (x + y + 1) = (ab : Int) ∧ ∀ wq, Below w.heap.size w wq → wq.cell? ⟨bl, off + (k - 1) * 4, none⟩ = some (.int .i64 x) ∧ wq.cell? ⟨bl, off + (k - 1) * 4 + 1, none⟩ = some (.int .i64 y)) := Lib.hid (fun h0 => by
    obtain ⟨p, rfl⟩ : ∃ p, k = p + 1 := ⟨k - 1, by omega⟩
    obtain ⟨p0, p1, _, _⟩ := hN l[p] (List.getElem_mem (by omega))
    refine ⟨_, _, p0, p1, ?_, fun wq hq => ?_⟩
    · rw [← F.upN h0, prE_succ (by omega)]
    · obtain ⟨b', off', e, d0, d1, _, _⟩ := RdC_at (h.below hq) p (by omega)
      cases e
      exact ⟨d0, d1⟩)
  obtain ⟨⟨o0, o1⟩, ⟨l0, l1⟩, _, _⟩ := hN l[k] (List.getElem_mem hk)
  have HCw : Hid (∀ wq, Below w.heap.size w wq → wq.cell? ⟨bl, off + k * 4, none⟩ = some (.int .i64 l[k].old) ∧ wq.cell? ⟨bl, off + k * 4 + 1, none⟩ = some (.int .i64 l[k].oldLen)) := Lib.hid (fun wq hq => by
    obtain ⟨b', off', e, d0, d1, _, _⟩ := RdC_at (h.below hq) k hk
    cases e
    exact ⟨d0, d1⟩)
  clear F hN hf hp h ha hb hB
  generalize txt a b l[k] = T at *
  generalize upB a b l[k] = B at *
  generalize l[k] = c at *
  obtain ⟨o, ol, nw, nl⟩ := c
  simp only at c0 c1 c2 c3 o0 o1 l0 l1
  generalize l.length = N at *
  have q1 : (0 : Int) ≤ (k : Int) := by omega
  have q2 : (k : Int) < (N : Int) := by omega
  have f1 : f + ln ≤ 4096 := by omega
  by_cases hg : f = 0
  · subst hg
    obtain rfl : ab = 0 := by omega
    rw [show (B && decide (0 < 0)) = false from by cases B <;> rfl]
    clear HU0 HB HTr HTn HPr HCw
    go_enter Try.func35, Try.ntmps35
    go_wp2_with (go_at_call 44; refine HSd.out.mono ?_; rintro e w1 ⟨rfl, hb1⟩; have HB1 := Lib.hid hb1; clear hb1)
    go_quiet (fail)
    go_wp2_with fail
    go_ret
    exact ⟨rfl, below_drewN HB1.out _⟩
  · have d1 : ((f : Int) == 0) = false := by rw [beq_eq_false_iff_ne]; omega
    have p1 : f - 1 < T.length := by rw [← HTn.out]; omega
    have p2 : f + ln - 1 < T.length := by rw [← HTn.out]; omega
    go_enter Try.func35, Try.ntmps35
    go_wp2_with (go_at_call 44; refine HSd.out.mono ?_; rintro e w1 ⟨rfl, hb1⟩; have HB1 := Lib.hid hb1; clear hb1)
    obtain ⟨bt, ot, rfl, x1⟩ := RdV_at (HTr.out w1 HB1.out) (f - 1) p1
    obtain ⟨bt', ot', e, x2⟩ := RdV_at (HTr.out w1 HB1.out) (f + ln - 1) p2
    cases e
    have hBe := HB.out (by omega) p2 p1
    generalize T[f - 1] = x at x1 hBe
    generalize T[f + ln - 1] = y at x2 hBe
    have i1 : (f : Int) < (n : Int) + 1 := by omega
    have i2 : (f : Int) + (ln : Int) < (n : Int) + 1 := by omega
    have i0 : (1 : Int) ≤ (f : Int) := by omega
    have i00 : (1 : Int) ≤ (f : Int) + (ln : Int) := by omega
    clear p1 p2 c0 c1 c2 c3
    obtain ⟨c0, c1⟩ := HCw.out w1 HB1.out
    by_cases hx : x = y
    · have hz : (x != y) = false := by rw [bne_eq_false_iff_eq]; exact hx
      have HBt : Hid (B = true) := Lib.hid (by rw [hBe, beq_iff_eq]; exact hx.symm)
      clear hBe hx HB
      by_cases hk1 : 0 < k
      · obtain ⟨p, r, ⟨z0, z1⟩, ⟨s0, s1⟩, hzb, hzc⟩ := HPr.out hk1
        obtain ⟨d4, d5⟩ := hzc w1 HB1.out
        have HZ := Lib.hid hzb
        have d3 : ((k : Int) == 0) = false := by rw [beq_eq_false_iff_ne]; omega
        clear hzb hzc HPr HTr HTn HU0 HCw
        go_quiet (fail)
        go_wp2_with fail
        go_quiet (fail)
        go_wp2_with fail
        go_ret
        refine ⟨?_, below_drewN (below_drewN HB1.out _) _⟩
        show Ending.returned (.bool (decide (p + r < o - 1))) = _
        have := HZ.out
        rw [HBt.out, Bool.true_and, show decide (p + r < o - 1) = decide (0 < ab) from decide_eq_decide.2 (by omega)]
      · obtain rfl : k = 0 := by omega
        have HBe : Hid (0 < ab) := Lib.hid (by
          rcases Nat.eq_zero_or_pos ab with h | h
          · exact absurd (HU0.out rfl h) hg
          · exact h)
        clear HPr HTr HTn HU0 HCw
        go_quiet (fail)
        go_wp2_with fail
        go_quiet (fail)
        go_wp2_with fail
        go_ret
        exact ⟨by rw [HBt.out, decide_eq_true HBe.out]; rfl, below_drewN (below_drewN HB1.out _) _⟩
    · have hz : (x != y) = true := by rw [bne_iff_ne]; exact hx
      have HBt : Hid (B = false) := Lib.hid (by rw [hBe, beq_eq_false_iff_ne]; exact fun h => hx h.symm)
      clear hBe hx HB HPr HTr HTn HU0 HCw
      go_quiet (fail)
      go_wp2_with fail
      go_ret
      exact ⟨by rw [HBt.out, Bool.false_and]; rfl, below_drewN HB1.out _⟩
theorem downR_any (v : Value) (l : List Ch) (va vb : Value) (a b : List Int) (k : Nat) (w : World) (h : RdC w v l) (hl : l.length ≤ 1000000) (hk : k < l.length) (ha : RdV w va (intsV a)) (hb : RdV w vb (intsV b)) (hla : a.length ≤ 4096) (hlb : b.length ≤ 4096) (hf : FitL a b true 0 0 l) :
    Calls Try.prog 33 #[v, va, vb, .int .i64 (k : Int)] w (BlPost (canD a b l k l[k]) w) := by
  by_cases hp : Pure l[k]
  · exact down_pure v l va vb a b k w h hl hk ha hb hla hlb hf hp
  · exact (can_no v l va vb a b k w h hk hp).1
theorem upR_any (v : Value) (l : List Ch) (va vb : Value) (a b : List Int) (k : Nat) (w : World) (h : RdC w v l) (hl : l.length ≤ 1000000) (hk : k < l.length) (ha : RdV w va (intsV a)) (hb : RdV w vb (intsV b)) (hla : a.length ≤ 4096) (hlb : b.length ≤ 4096) (hf : FitL a b true 0 0 l) :
    Calls Try.prog 35 #[v, va, vb, .int .i64 (k : Int)] w (BlPost (canU a b l k l[k]) w) := by
  by_cases hp : Pure l[k]
  · exact up_pure v l va vb a b k w h hl hk ha hb hla hlb hf hp
  · exact (can_no v l va vb a b k w h hk hp).2
set_option maxRecDepth 100000 in
set_option maxHeartbeats 4000000 in
theorem moved_any (v : Value) (l : List Ch) (k : Nat) (d : Int) (w : World) (h : RdC w v l) (hl : l.length ≤ 100000) (hk : k < l.length) (ho : 0 ≤ l[k].old + d ∧ l[k].old + d ≤ 8192) (hn : 0 ≤ l[k].new + d ∧ l[k].new + d ≤ 8192) :
    Calls Try.prog 34 #[v, .int .i64 (k : Int), .int .i64 d] w (NewC (l.set k (sh l[k] d)) w) := by
  have HR := Lib.hid h
  obtain ⟨A, cp, rfl⟩ := h.form
  clear h
  have HR2 := Lib.hid (HR.out.below ((Below.refl w.heap.size w).alloc (Nat.le_refl _) (.cells #[] tCh)))
  obtain ⟨N, hN⟩ : ∃ N, N = l.length := ⟨_, rfl⟩
  rw [← hN] at HR2 ⊢
  have hkN : k < N := by omega
  have HN := Lib.hid hN
  obtain ⟨l2, hl2⟩ : ∃ l2, l.set k (sh l[k] d) = l2 := ⟨_, rfl⟩
  rw [hl2]
  have HL2 := Lib.hid hl2
  clear hl2
  obtain ⟨r0, r1⟩ := ho
  obtain ⟨r2, r3⟩ := hn
  have q1 : (0 : Int) ≤ (k : Int) := by omega
  have q2 : (k : Int) < (N : Int) := by omega
  clear hN
  go_enter Try.func34, Try.ntmps34
  go_upto_region 2 with (at_builtin; refine app_all rfl (.tmp 8) (.tmp 9) rfl w.heap.size [] l _ _ rfl (OwnC.empty w _ (Nat.le_refl _)) rfl HR2.out (by simp; omega) (by simp) ?_; intro v3 w3 ho3 hb3; have HO3 := Lib.hid ho3; have HB3 := Lib.hid (((Below.refl w.heap.size w).alloc (Nat.le_refl _) (.cells #[] tCh)).trans hb3); clear ho3 hb3)
  rw [List.nil_append] at HO3
  obtain ⟨g, c8, e, hgb⟩ := HO3.out.block (by omega)
  subst e
  rw [← HN.out] at HO3 ⊢
  obtain ⟨⟨c0, c1, c2, c3⟩, cf⟩ := HO3.out.cells k hk
  have HP := Lib.hid (put2 HO3.out k hk d)
  have f0 := cf (k * 4)
  have f2 := cf (k * 4 + 2)
  clear cf c1 c3 HR2 HR
  rw [HL2.out] at HP
  generalize l[k] = c at *
  obtain ⟨o, ol, nw, nl⟩ := c
  simp only at c0 c2 r0 r1 r2 r3
  go_wp2_with fail
  go_ret
  exact ⟨_, rfl, HP.out, (HB3.out.setCell (p := ⟨g, k * 4, none⟩) hgb _).setCell (p := ⟨g, k * 4 + 2, none⟩) hgb _⟩
end Sl
end Go.Proofs.Ytldommbelpcegaa

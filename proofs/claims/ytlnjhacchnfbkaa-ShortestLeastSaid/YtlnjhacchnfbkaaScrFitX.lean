/-
  The reference's Matched, Pairs and Fits. Conditions: as few elements as the laws have.
-/
import Derived.Test.YtlnjhacchnfbkaaScrCkR
import Derived.Test.YtlnjhacchnfbkaaScrMade
import Derived.StillTailTactics
namespace Go.Proofs.Ytlnjhacchnfbkaa
open Go.RowKit
namespace Sc
open Cm Au
def ChN (c : Ch) : Prop := (0 ≤ c.old ∧ c.old ≤ 4096) ∧ (0 ≤ c.oldLen ∧ c.oldLen ≤ 4096) ∧ (0 ≤ c.new ∧ c.new ≤ 4096) ∧ (0 ≤ c.newLen ∧ c.newLen ≤ 4096)
theorem mt_small {m n : Int} {l : List Ch} (hm : inI m) (hn : inI n) (h : OkL true 0 0 l m n) : (mtF m 0 0 l).length ≤ 4096 := by
  have h1 := (mt_len l true 0 0 hm hn hm.1 (fun _ => rfl) h).1
  have h2 := (szO_bd l).1
  have h3 := hm.2
  omega
def PrPost (l : List Ch) (m n : Int) (w : World) (e : Ending) (w' : World) : Prop :=
  ∃ v, e = .returned (.tuple #[v, .int .i64 (chkF l m n)]) ∧ (chkF l m n = 0 → OwnS w.heap.size w' v (mtF m 0 0 l)) ∧ (chkF l m n ≠ 0 → v = .slice none 0 0) ∧ Below w.heap.size w w'
theorem ok_chN {m n : Int} (hm : inI m) (hn : inI n) {l : List Ch} (h : OkL true 0 0 l m n) : ∀ c ∈ l, ChN c := by
  have hr := (ok_iff hm hn).1 h
  have : ∀ (l : List Ch) (f : Bool) (i j : Int), RfL f i j l m n → ∀ c ∈ l, ChN c := by
    intro l
    induction l with
    | nil => intro _ _ _ _ c hc; cases hc
    | cons x l ih =>
      intro f i j h c hc
      rcases List.mem_cons.1 hc with rfl | hc
      · obtain ⟨⟨a, b, c, d, _⟩, _⟩ := h
        exact ⟨a, b, c, d⟩
      · exact ih _ _ _ h.2 c hc
  exact this l true 0 0 hr
set_option maxRecDepth 100000 in
set_option maxHeartbeats 8000000 in
theorem Matched_any (v : Value) (l : List Ch) (m n : Int) (w : World) (h : RdC w v l) (hl : l.length ≤ 1000000) (hm : inI m) (hn : inI n) (hok : OkL true 0 0 l m n) :
    Calls Try.prog 59 #[v, .int .i64 m] w (NewS (mtF m 0 0 l) w) := by
  obtain ⟨A, cp, rfl⟩ := h.form
  have HR := Lib.hid h
  have HSm : Hid ((mtF m 0 0 l).length ≤ 100000) := Lib.hid (by have := mt_small hm hn hok; omega)
  have HOk := Lib.hid hok
  obtain ⟨m0, m1⟩ := hm
  obtain ⟨n0, n1⟩ := hn
  clear h hok
  generalize hN : l.length = N at hl ⊢
  have HN := Lib.hid hN
  clear hN
  go_enter Try.func59, Try.ntmps59
  go_wp2_with fail
  go_loopw [5, 6, 7, 8] (fun s' i' j' k' wr => ∃ (k : Nat) (i j : Int) (dn : List Sp), k ≤ N ∧ k' = .int .i64 (k : Int) ∧ i' = .int .i64 i ∧ j' = .int .i64 j ∧ (0 ≤ i ∧ i ≤ m) ∧ (0 ≤ j ∧ j ≤ n) ∧ Hid ((k = 0 → i = 0) ∧ OkL (k == 0) i j (l.drop k) m n) ∧ Hid (OwnS w.heap.size wr s' dn) ∧ Hid (Below w.heap.size w wr) ∧ Hid (dn ++ mtF m i j (l.drop k) = mtF m 0 0 l)) (fun _ _ _ k' _ => N - (intOf k').toNat)
  case atStart => exact ⟨0, 0, 0, [], Nat.zero_le _, rfl, rfl, rfl, ⟨by omega, by omega⟩, ⟨by omega, by omega⟩, Lib.hid ⟨fun _ => rfl, HOk.out⟩, Lib.hid (OwnS.nil _ _), Lib.hid (Below.refl _ _), Lib.hid rfl⟩
  case round =>
    obtain ⟨wo, rfl⟩ : ∃ wo, wo = wr := ⟨wr, rfl⟩
    obtain ⟨k, i, j, dn, hk, rfl, rfl, rfl, ⟨i0, i1⟩, ⟨j0, j1⟩, HV, HO, HBl, HP⟩ := hrel
    by_cases hlt : k < N
    · have hx : k < l.length := by rw [HN.out]; exact hlt
      have hv := HV.out.2
      rw [drop_at hx] at hv
      obtain ⟨⟨⟨⟨o0, l0, o1⟩, ⟨w0, v0, w1⟩, hne⟩, hdf, hfst⟩, hnxt⟩ := hv
      have hio : i ≤ l[k].old := by
        by_cases hk0 : k = 0
        · have := HV.out.1 hk0; omega
        · have := hfst (by simpa using hk0); omega
      have HNv := Lib.hid hnxt
      clear hne hfst hnxt HV
      have HCl : Hid (∀ wq, Below w.heap.size w wq → ∃ b off, A = some ⟨b, off, none⟩ ∧ wq.cell? ⟨b, off + k * 4, none⟩ = some (.int .i64 l[k].old) ∧ wq.cell? ⟨b, off + k * 4 + 1, none⟩ = some (.int .i64 l[k].oldLen) ∧ wq.cell? ⟨b, off + k * 4 + 2, none⟩ = some (.int .i64 l[k].new) ∧ wq.cell? ⟨b, off + k * 4 + 3, none⟩ = some (.int .i64 l[k].newLen)) := Lib.hid (fun wq hb => RdC_at (HR.out.below hb) k hx)
      have HP2 : Hid (dn ++ (run i j (l[k].old - i).toNat ++ mtF m (l[k].old + l[k].oldLen) (l[k].new + l[k].newLen) (l.drop (k + 1))) = mtF m 0 0 l) := Lib.hid (by have := HP.out; rw [drop_at hx] at this; exact this)
      clear HP
      generalize l[k] = c at *
      obtain ⟨o, ol, nw, nl⟩ := c
      simp only at o0 o1 l0 w0 w1 v0 hdf hio
      have dk : decide (k < N) = true := decide_eq_true hlt
      have q1 : (0 : Int) ≤ (k : Int) := by omega
      have q2 : (k : Int) < (N : Int) := by omega
      generalize hT : (o - i).toNat = T at HP2
      have ht1 : o - i ≤ (T : Int) := by omega
      have HT := Lib.hid hT
      have ht2 : 0 < T → (T : Int) = o - i := by omega
      have ht4 : i + (T : Int) = o := by omega
      have ht5 : j + (T : Int) = nw := by omega
      have HT4 := Lib.hid (And.intro ht4 ht5)
      have ht3 : (T : Int) ≤ 4096 := by omega
      have HT2 := Lib.hid ht2
      clear hT ht2 ht4 ht5 hdf
      go_wp2_with fail
      go_loopw [5, 6, 7] (fun s' i' j' wr => ∃ (t : Nat), i' = .int .i64 (i + (t : Int)) ∧ j' = .int .i64 (j + (t : Int)) ∧ t ≤ T ∧ Hid (OwnS w.heap.size wr s' (dn ++ run i j t)) ∧ Hid (Below w.heap.size w wr)) (fun _ i' _ _ => (o - intOf i').toNat)
      case atStart => exact ⟨0, by rw [show i + ((0 : Nat) : Int) = i from by omega], by rw [show j + ((0 : Nat) : Int) = j from by omega], Nat.zero_le _, Lib.hid (by rw [run_zero, List.append_nil]; exact HO.out), HBl⟩
      case round =>
        obtain ⟨t, rfl, rfl, ht, HO1, HB1⟩ := hrel
        clear HO HBl
        obtain ⟨b, off, rfl, c0, c1, c2, c3⟩ := HCl.out wr HB1.out
        by_cases hlt1 : t < T
        · have e1 := HT2.out (by omega)
          have d1 : decide (i + (t : Int) < o) = true := decide_eq_true (by omega)
          have HLn : Hid ((dn ++ run i j t).length + 1 ≤ 1000000) := Lib.hid (by
            have h1 := HP2.out
            have h2 := HSm.out
            rw [← h1] at h2
            simp only [List.length_append, run_len] at h2 ⊢
            omega)
          have b1 : i + (t : Int) ≤ 20000 := by omega
          have b2 : j + (t : Int) ≤ 20000 := by omega
          have b3 : 0 ≤ i + (t : Int) := by omega
          have b4 : 0 ≤ j + (t : Int) := by omega
          have HE1 := Lib.hid e1
          clear e1
          go_wp2_with (at_builtin; refine app_sp rfl (.tmp 22) (.tmp 26) rfl w.heap.size (dn ++ run i j t) ⟨i + (t : Int), j + (t : Int)⟩ _ _ rfl HO1.out rfl rfl rfl HLn.out HB1.out.size ?_; intro v3 w3 ho3 hb3 _; have HO3 := Lib.hid ho3; have HB3 := Lib.hid (HB1.out.trans hb3); clear ho3 hb3)
          go_roundw
          case rel => exact ⟨t + 1, by rw [show i + ((t + 1 : Nat) : Int) = i + (t : Int) + 1 from by omega], by rw [show j + ((t + 1 : Nat) : Int) = j + (t : Int) + 1 from by omega], by omega, Lib.hid (by rw [run_snoc, ← List.append_assoc]; exact HO3.out), HB3⟩
          case measure => have e1 := HE1.out; simp [intOf]; omega
        · have htT : t = T := by omega
          have d1 : decide (i + (t : Int) < o) = false := decide_eq_false (by omega)
          have HNx : Hid (dn ++ run i j t ++ mtF m (o + ol) (nw + nl) (l.drop (k + 1)) = mtF m 0 0 l) := Lib.hid (by rw [htT, List.append_assoc]; exact HP2.out)
          obtain ⟨e4, e5⟩ := HT4.out
          have e6 : i + (t : Int) + ol = o + ol := by rw [htT, e4]
          have e7 : j + (t : Int) + nl = nw + nl := by rw [htT, e5]
          have HE6 := Lib.hid (And.intro e6 e7)
          clear htT e4 e5 e6 e7
          have b1 : i + (t : Int) ≤ 20000 := by omega
          have b2 : j + (t : Int) ≤ 20000 := by omega
          go_wp2_with fail
          go_quiet (fail)
          go_wp2_with fail
          go_roundw
          case rel => exact ⟨k + 1, o + ol, nw + nl, _, by omega, by go_num, by rw [HE6.out.1], by rw [HE6.out.2], ⟨by omega, by omega⟩, ⟨by omega, by omega⟩, Lib.hid ⟨fun h => absurd h (Nat.succ_ne_zero _), HNv.out⟩, Lib.hid (HO1.out.drewN _), Lib.hid (below_drewN HB1.out _), HNx⟩
          case measure => simp [intOf]; omega
    · have dk : decide (k < N) = false := decide_eq_false hlt
      generalize hT : (m - i).toNat = T
      have ht1 : m - i ≤ (T : Int) := by omega
      have ht3 : (T : Int) ≤ 4096 := by omega
      have HT2 : Hid (0 < T → (T : Int) = m - i) := Lib.hid (by omega)
      have HP2 : Hid (dn ++ run i j T = mtF m 0 0 l) := Lib.hid (by
        have h := HP.out
        rw [List.drop_eq_nil_of_le (by rw [HN.out]; omega)] at h
        rw [← hT]; exact h)
      clear hT HP HV
      go_wp2_with fail
      go_loopw [5, 6, 7] (fun s' i' j' wr => ∃ (t : Nat), i' = .int .i64 (i + (t : Int)) ∧ j' = .int .i64 (j + (t : Int)) ∧ t ≤ T ∧ Hid (OwnS w.heap.size wr s' (dn ++ run i j t)) ∧ Hid (Below w.heap.size w wr)) (fun _ i' _ _ => (m - intOf i').toNat)
      case atStart => exact ⟨0, by rw [show i + ((0 : Nat) : Int) = i from by omega], by rw [show j + ((0 : Nat) : Int) = j from by omega], Nat.zero_le _, Lib.hid (by rw [run_zero, List.append_nil]; exact HO.out), HBl⟩
      case round =>
        obtain ⟨t, rfl, rfl, ht, HO1, HB1⟩ := hrel
        clear HO HBl
        by_cases hlt1 : t < T
        · have e1 := HT2.out (by omega)
          have d1 : decide (i + (t : Int) < m) = true := decide_eq_true (by omega)
          have HLn : Hid ((dn ++ run i j t).length + 1 ≤ 1000000) := Lib.hid (by
            have h1 := HP2.out
            have h2 := HSm.out
            rw [← h1] at h2
            simp only [List.length_append, run_len] at h2 ⊢
            omega)
          have b1 : i + (t : Int) ≤ 20000 := by omega
          have b2 : j + (t : Int) ≤ 20000 := by omega
          have b3 : 0 ≤ i + (t : Int) := by omega
          have b4 : 0 ≤ j + (t : Int) := by omega
          have HE1 := Lib.hid e1
          clear e1
          go_wp2_with (at_builtin; refine app_sp rfl (.tmp 49) (.tmp 53) rfl w.heap.size (dn ++ run i j t) ⟨i + (t : Int), j + (t : Int)⟩ _ _ rfl HO1.out rfl rfl rfl HLn.out HB1.out.size ?_; intro v3 w3 ho3 hb3 _; have HO3 := Lib.hid ho3; have HB3 := Lib.hid (HB1.out.trans hb3); clear ho3 hb3)
          go_roundw
          case rel => exact ⟨t + 1, by rw [show i + ((t + 1 : Nat) : Int) = i + (t : Int) + 1 from by omega], by rw [show j + ((t + 1 : Nat) : Int) = j + (t : Int) + 1 from by omega], by omega, Lib.hid (by rw [run_snoc, ← List.append_assoc]; exact HO3.out), HB3⟩
          case measure => have e1 := HE1.out; simp [intOf]; omega
        · have htT : t = T := by omega
          have d1 : decide (i + (t : Int) < m) = false := decide_eq_false (by omega)
          subst htT
          go_wp2_with fail
          go_ret
          exact ⟨_, rfl, by rw [← HP2.out]; exact HO1.out, HB1.out⟩
set_option maxRecDepth 100000 in
set_option maxHeartbeats 2000000 in
theorem PairsR_any (v : Value) (l : List Ch) (m n : Int) (w : World) (h : RdC w v l) (hl : l.length ≤ 1000000) :
    Calls Try.prog 42 #[v, .int .i64 m, .int .i64 n] w (PrPost l m n w) := by
  obtain ⟨A, cp, rfl⟩ := h.form
  have HC := Lib.hid (CheckR_any _ l m n w h (by omega))
  by_cases hv : inI m ∧ inI n ∧ OkL true 0 0 l m n
  · obtain ⟨hm, hn, hok⟩ := hv
    have hz := chkF_ok hm hn hok
    have HK := Lib.hid (fun w1 (hb1 : Below w.heap.size w w1) => Matched_any _ l m n w1 (h.below hb1) hl hm hn hok)
    unfold PrPost
    unfold CkPost at HC
    rw [hz] at HC ⊢
    clear hz h hm hn hok
    generalize l.length = N at *
    go_enter Try.func42, Try.ntmps42
    go_wp2_with (first
      | (go_at_call 58; refine HC.out.mono ?_; rintro e w1 ⟨rfl, hb1⟩; have HB1 := Lib.hid hb1; clear hb1)
      | (go_at_call 59; refine (HK.out _ HB1.out).mono ?_; rintro e w3 ⟨v3, rfl, ho3, hb3⟩; have HO3 := Lib.hid ho3; have HB3 := Lib.hid hb3; clear ho3 hb3))
    go_ret2
    have hs := HB1.out.size
    exact ⟨_, rfl, fun _ => HO3.out.base hs, fun h => absurd rfl h, HB1.out.trans (HB3.out.mono hs)⟩
  · have hz := chkF_no hv
    unfold PrPost
    unfold CkPost at HC
    rw [hz] at HC ⊢
    clear hz h hv
    generalize l.length = N at *
    go_enter Try.func42, Try.ntmps42
    go_wp2_with (go_at_call 58; refine HC.out.mono ?_; rintro e w1 ⟨rfl, hb1⟩; have HB1 := Lib.hid hb1; clear hb1)
    go_ret2
    exact ⟨_, rfl, fun h => absurd h (by decide), fun _ => rfl, HB1.out⟩
/-- Where the next pair may begin. -/
def prv (p : List Sp) : Nat → Sp
  | 0 => ⟨0, 0⟩
  | k + 1 => ⟨(p.getD k ⟨0, 0⟩).frm + 1, (p.getD k ⟨0, 0⟩).to + 1⟩
theorem prv_succ {p : List Sp} {k : Nat} (h : k < p.length) : prv p (k + 1) = ⟨p[k].frm + 1, p[k].to + 1⟩ := by
  show (⟨(p.getD k ⟨0, 0⟩).frm + 1, (p.getD k ⟨0, 0⟩).to + 1⟩ : Sp) = _
  rw [List.getD_eq_getElem?_getD, List.getElem?_eq_getElem h]
  rfl
def GoodS (p : List Sp) (w : World) (e : Ending) (w' : World) : Prop := ∃ v, e = .returned (.tuple #[v, .int .i64 0]) ∧ OwnS w.heap.size w' v p ∧ Below w.heap.size w w'
def eqAt (xs ys : List Int) (s : Sp) : Prop := xs.getD s.frm.toNat 0 = ys.getD s.to.toNat 0
open Classical in
/-- The verdict of Fits. -/
noncomputable def fitsB (l : List Ch) (xs ys : List Int) : Bool := decide (chkF l xs.length ys.length = 0 ∧ ∀ s ∈ mtF xs.length 0 0 l, eqAt xs ys s)
open Classical in
theorem fitsB_T {l : List Ch} {xs ys : List Int} (h : chkF l xs.length ys.length = 0) (h2 : ∀ s ∈ mtF xs.length 0 0 l, eqAt xs ys s) : fitsB l xs ys = true := decide_eq_true ⟨h, h2⟩
open Classical in
theorem fitsB_F {l : List Ch} {xs ys : List Int} (h : ¬ (chkF l xs.length ys.length = 0 ∧ ∀ s ∈ mtF xs.length 0 0 l, eqAt xs ys s)) : fitsB l xs ys = false := decide_eq_false h
theorem chkF_zero {l : List Ch} {m n : Int} (h : chkF l m n = 0) : inI m ∧ inI n ∧ OkL true 0 0 l m n := by
  unfold chkF at h
  split at h
  · assumption
  · cases h
theorem pre_mem {p q : List Sp} {x : Sp} (h : p ++ [x] <+: q) : x ∈ q := by
  obtain ⟨t, ht⟩ := h
  rw [← ht]; simp
theorem okP_mem {m n : Int} : ∀ {p : List Sp} {i j : Int}, 0 ≤ i → 0 ≤ j → OkP m n i j p → ∀ s ∈ p, (0 ≤ s.frm ∧ s.frm < m) ∧ 0 ≤ s.to ∧ s.to < n
  | [], _, _, _, _, _, s, hs => by cases hs
  | x :: p, i, j, hi, hj, ⟨⟨a, b, c, d⟩, e⟩, s, hs => by
    rcases List.mem_cons.1 hs with rfl | hs
    · exact ⟨⟨by omega, b⟩, by omega, d⟩
    · exact okP_mem (by omega) (by omega) e s hs
theorem RdV_at {w : World} {A : Option Addr} {n c : Nat} {xs : List Int} (h : RdV w (.slice A n c) (intsV xs)) (k : Nat) (hk : k < xs.length) : ∃ b off, A = some ⟨b, off, none⟩ ∧ w.cell? ⟨b, off + k, none⟩ = some (.int .i64 xs[k]) := by
  obtain ⟨_, b, off, e, hc⟩ := h.at (by rw [intsV_len]; omega)
  have h2 := hc k (by rw [intsV_len]; exact hk)
  exact ⟨b, off, e, by rw [h2]; simp [intsV]⟩
def FtPost (l : List Ch) (xs ys : List Int) (w : World) (e : Ending) (w' : World) : Prop := e = .returned (.bool (fitsB l xs ys)) ∧ Below w.heap.size w w'
set_option maxRecDepth 100000 in
set_option maxHeartbeats 4000000 in
theorem FitsR_any (v : Value) (l : List Ch) (va vb : Value) (xs ys : List Int) (w : World) (h : RdC w v l) (hl : l.length ≤ 1000000) (ha : RdV w va (intsV xs)) (hbb : RdV w vb (intsV ys)) :
    Calls Try.prog 23 #[v, va, vb] w (FtPost l xs ys w) := by
  obtain ⟨Aa, ca, rfl⟩ := ha.form
  obtain ⟨Ab, cb, rfl⟩ := hbb.form
  rw [intsV_len] at ha hbb ⊢
  rw [intsV_len]
  have HC := Lib.hid (PairsR_any v l (xs.length : Int) (ys.length : Int) w h hl)
  have HA := Lib.hid (fun wq (hq : Below w.heap.size w wq) => RdV.below ha hq)
  have HBv := Lib.hid (fun wq (hq : Below w.heap.size w wq) => RdV.below hbb hq)
  unfold FtPost
  by_cases hv : chkF l xs.length ys.length = 0
  · obtain ⟨hm, hn, hok⟩ := chkF_zero hv
    have HT : Hid ((∀ s ∈ mtF xs.length 0 0 l, eqAt xs ys s) → fitsB l xs ys = true) := Lib.hid (fun hh => fitsB_T hv hh)
    have HF : Hid ((∃ s ∈ mtF xs.length 0 0 l, ¬ eqAt xs ys s) → fitsB l xs ys = false) := Lib.hid (fun ⟨s, h1, h2⟩ => fitsB_F (fun hh => h2 (hh.2 s h1)))
    have HOp := Lib.hid (okP_mem (Int.le_refl 0) (Int.le_refl 0) (mt_okp l true 0 0 hm.1 (fun _ => rfl) hok))
    have hsm := mt_small hm hn hok
    have HC2 : Hid (Calls Try.prog 42 #[v, .int .i64 (xs.length : Int), .int .i64 (ys.length : Int)] w (GoodS (mtF xs.length 0 0 l) w)) := Lib.hid (HC.out.mono fun e w' ⟨v', h1, h2, _, h4⟩ => ⟨v', by rw [h1, hv], h2 hv, h4⟩)
    clear HC hv hm hn hok ha hbb h
    generalize mtF xs.length 0 0 l = p at *
    generalize hXl : xs.length = nx at *
    have HXl := Lib.hid hXl
    clear hXl
    generalize hYl : ys.length = ny at *
    have HYl := Lib.hid hYl
    clear hYl
    go_enter Try.func23, Try.ntmps23
    go_wp2_with fail
    refine HC2.out.mono ?_
    rintro e w1 ⟨vp, rfl, hop, hb1⟩
    obtain ⟨Ap, cp, rfl⟩ := hop.rd.form
    have HP := Lib.hid hop.rd
    have HB1 := Lib.hid hb1
    clear hop hb1 HC2
    generalize hNp : p.length = np at *
    have HNp := Lib.hid hNp
    clear hNp
    go_wp2_with fail
    go_loopw [9] (fun k' wr => ∃ k : Nat, k ≤ np ∧ k' = .int .i64 (k : Int) ∧ Hid (∀ i (hi : i < p.length), i < k → eqAt xs ys p[i]) ∧ ∃ q, wr = w1.drewN q) (fun k' _ => np - (intOf k').toNat)
    case atStart => exact ⟨0, Nat.zero_le _, rfl, Lib.hid (fun i _ h => absurd h (Nat.not_lt_zero _)), 0, rfl⟩
    case round =>
      obtain ⟨k, hk, rfl, HE, q, rfl⟩ := hrel
      by_cases hlt : k < np
      · have hx : k < p.length := by rw [HNp.out]; exact hlt
        obtain ⟨g, off, rfl, x0, x1⟩ := RdS_at HP.out k hx
        have hmem : p[k] ∈ p := List.getElem_mem hx
        obtain ⟨⟨f0, f1⟩, t0, t1⟩ := HOp.out p[k] hmem
        have HEn : Hid (eqAt xs ys p[k] → ∀ i (hi : i < p.length), i < k + 1 → eqAt xs ys p[i]) := Lib.hid (fun h i hi hik => by
          by_cases e : i = k
          · subst e; exact h
          · exact HE.out i hi (by omega))
        have HEf : Hid (¬ eqAt xs ys p[k] → fitsB l xs ys = false) := Lib.hid (fun h => HF.out ⟨_, hmem, h⟩)
        clear hmem HE
        generalize p[k] = s at *
        obtain ⟨fr, to_⟩ := s
        simp only at f0 f1 t0 t1 x0 x1
        obtain ⟨a, rfl⟩ : ∃ a : Nat, fr = (a : Int) := ⟨fr.toNat, by omega⟩
        obtain ⟨b, rfl⟩ : ∃ b : Nat, to_ = (b : Int) := ⟨to_.toNat, by omega⟩
        have hp1 : a < xs.length := by rw [HXl.out]; omega
        have hq1 : b < ys.length := by rw [HYl.out]; omega
        obtain ⟨ba, offa, rfl, ca1⟩ := RdV_at (HA.out w1 HB1.out) a hp1
        obtain ⟨bb, offb, rfl, cb1⟩ := RdV_at (HBv.out w1 HB1.out) b hq1
        have HEq : Hid (eqAt xs ys ⟨(a : Int), (b : Int)⟩ ↔ xs[a] = ys[b]) := Lib.hid (by
          unfold eqAt
          simp only [Int.toNat_natCast, List.getD_eq_getElem?_getD, List.getElem?_eq_getElem hp1, List.getElem?_eq_getElem hq1, Option.getD_some])
        generalize xs[a] = al at *
        generalize ys[b] = be at *
        clear hp1 hq1
        have dk : decide (k < np) = true := decide_eq_true hlt
        have i1 : (0 : Int) ≤ (k : Int) := by omega
        have i2 : (k : Int) < (np : Int) := by omega
        by_cases hab : al = be
        · have HEa := Lib.hid (HEn.out (HEq.out.2 hab))
          have q1 : (al != be) = false := by rw [bne_eq_false_iff_eq]; exact hab
          clear hab HEq HEn HEf
          go_wp2_with fail
          go_quiet (fail)
          go_wp2_with fail
          go_roundw
          case rel => exact ⟨k + 1, by omega, by go_num, HEa, _, rfl⟩
          case measure => simp [intOf]; omega
        · have HEa := Lib.hid (HEf.out (fun h => hab (HEq.out.1 h)))
          have q1 : (al != be) = true := by rw [bne_iff_ne]; exact hab
          clear hab HEq HEn HEf
          go_wp2_with fail
          go_quiet (fail)
          go_wp2_with fail
          go_ret
          exact ⟨by rw [HEa.out]; rfl, below_drewN (below_drewN HB1.out _) _⟩
      · have dk : decide (k < np) = false := decide_eq_false hlt
        have HEa := Lib.hid (HT.out (fun s hs => by
          obtain ⟨i, hi, rfl⟩ := List.mem_iff_getElem.1 hs
          exact HE.out i hi (by rw [HNp.out] at hi; omega)))
        clear HE
        go_wp2_with fail
        go_ret
        exact ⟨by rw [HEa.out]; rfl, below_drewN HB1.out _⟩
  · have HE := Lib.hid (fitsB_F (l := l) (xs := xs) (ys := ys) (fun hh => hv hh.1))
    have h3 : chkF l xs.length ys.length = 80 := chkF_no (fun hh => hv (chkF_ok hh.1 hh.2.1 hh.2.2))
    have HC2 : Hid (Calls Try.prog 42 #[v, .int .i64 (xs.length : Int), .int .i64 (ys.length : Int)] w fun e w' => e = .returned (.tuple #[.slice none 0 0, .int .i64 80]) ∧ Below w.heap.size w w') := Lib.hid (HC.out.mono fun e w' ⟨v', h1, _, h5, h4⟩ => ⟨by rw [h1, h5 hv, h3], h4⟩)
    clear HC hv ha hbb h h3
    generalize xs.length = nx at *
    generalize ys.length = ny at *
    go_enter Try.func23, Try.ntmps23
    go_wp2_with fail
    refine HC2.out.mono ?_
    rintro e w1 ⟨rfl, hb1⟩
    have HB1 := Lib.hid hb1
    clear hb1 HC2
    go_wp2_with fail
    go_ret
    exact ⟨by rw [HE.out]; rfl, HB1.out⟩
/-- Some numbers that an int holds, of a given length, in a row that the call owns. -/
def IdPost (n : Nat) (w : World) (e : Ending) (w' : World) : Prop := ∃ v xs, e = .returned v ∧ xs.length = n ∧ w'.ownsRow w.heap.size 3 1 v n (intsV xs) ∧ Below w.heap.size w w'
theorem info_int : (Try.prog.info? 3).map (fun i => (i.zero, i.size, i.bytes)) = some (some (.int .i64 0), 1, 8) := by kernel_rfl
end Sc
end Go.Proofs.Ytlnjhacchnfbkaa

/- Facts; each states its conditions. -/
import Derived.Test.YtjecfmbecgpbmaaGreatDoorGScrRange
import Derived.Test.YtjecfmbecgpbmaaGreatDoorGScrBase
import Derived.Test.YtjecfmbecgpbmaaGreatDoorScrSpoil
import Derived.Deep.AppendLies
import Derived.Tactics
import Derived.Tactics2
import Derived.WalkSpells
import Derived.StillTactics
import Derived.OwnWalk
import Derived.Laws.Pointers
import Derived.StillTailTactics
namespace Go.Proofs.YtjecfmbecgpbmaaGreatDoor
section
section
namespace Cm
end Cm
open Go.RowKit
namespace Sc
open Cm
def GoodS (p : List Sp) (w : World) (e : Ending) (w' : World) : Prop := ∃ v, e = .returned (.tuple #[v, .int .i64 0]) ∧ OwnS w.heap.size w' v p ∧ Below w.heap.size w w'
end Sc
end
section
open Go.RowKit
attribute [local go_sem] Oper.semAt_some
namespace Sc
open Cm
def eqAt (xs ys : List Int) (s : Sp) : Prop := xs.getD s.frm.toNat 0 = ys.getD s.to.toNat 0
open Classical in
noncomputable def fitsB (l : List Ch) (xs ys : List Int) : Bool := decide (chkF l xs.length ys.length = 0 ∧ ∀ s ∈ mtF xs.length 0 0 l, eqAt xs ys s)
open Classical in
theorem fitsB_T {l : List Ch} {xs ys : List Int} (h : chkF l xs.length ys.length = 0) (h2 : ∀ s ∈ mtF xs.length 0 0 l, eqAt xs ys s) : fitsB l xs ys = true := decide_eq_true ⟨h, h2⟩
open Classical in
theorem fitsB_F {l : List Ch} {xs ys : List Int} (h : ¬ (chkF l xs.length ys.length = 0 ∧ ∀ s ∈ mtF xs.length 0 0 l, eqAt xs ys s)) : fitsB l xs ys = false := decide_eq_false h
theorem chkF_zero {l : List Ch} {m n : Int} (h : chkF l m n = 0) : inI m ∧ inI n ∧ OkL true 0 0 l m n := by
 unfold chkF at h
 split at h
 · assumption
 · cases h
theorem pre_mem {p q : List Sp} {x : Sp} (h : p ++ [x] <+: q) : x ∈ q := by
 obtain ⟨t, ht⟩ := h
 rw [← ht]; simp
theorem okP_mem {m n : Int} : ∀ {p : List Sp} {i j : Int}, 0 ≤ i → 0 ≤ j → OkP m n i j p → ∀ s ∈ p, (0 ≤ s.frm ∧ s.frm < m) ∧ 0 ≤ s.to ∧ s.to < n
 | [], _, _, _, _, _, s, hs => by cases hs
 | x :: p, i, j, hi, hj, ⟨⟨a, b, c, d⟩, e⟩, s, hs => by
   rcases List.mem_cons.1 hs with rfl | hs
   · exact ⟨⟨by omega, b⟩, by omega, d⟩
   · exact okP_mem (by omega) (by omega) e s hs
theorem RdV_at {w : World} {A : Option Addr} {n c : Nat} {xs : List Int} (h : RdV w (.slice A n c) (intsV xs)) (k : Nat) (hk : k < xs.length) : ∃ b off, A = some ⟨b, off, none⟩ ∧ w.cell? ⟨b, off + k, none⟩ = some (.int .i64 xs[k]) := by
 obtain ⟨_, b, off, e, hc⟩ := h.at (by rw [intsV_len]; omega)
 have h2 := hc k (by rw [intsV_len]; exact hk)
 exact ⟨b, off, e, by rw [h2]; simp [intsV]⟩
abbrev tInts : TypeId := 22
abbrev tBool : TypeId := 4
structure FitI (w : World) (R : Nat) (va vb : Value) (xs ys : List Int) (W : World) : Prop where
 a : Boxed W (w.heap.size) tInts va
 b : Boxed W (w.heap.size + 1) tInts vb
 r : Boxed W R tBool (.bool false)
 below : Below w.heap.size w W
theorem FitI.to {w : World} {R : Nat} {va vb : Value} {xs ys : List Int} {W W' : World} (h : FitI w R va vb xs ys W) (hs : ∀ k, k ≤ R → W'.heap[k]? = W.heap[k]?) (hR : w.heap.size + 2 ≤ R) (hb : Below w.heap.size W W') : FitI w R va vb xs ys W' :=
 ⟨(hs _ (by omega)).trans h.a, (hs _ (by omega)).trans h.b, (hs _ (Nat.le_refl _)).trans h.r, h.below.trans hb⟩
def FtPost (l : List Ch) (xs ys : List Int) (w : World) (e : Ending) (w' : World) : Prop := e = .returned (.bool (fitsB l xs ys)) ∧ Below w.heap.size w w'
set_option maxRecDepth 100000 in
set_option maxHeartbeats 4000000 in
theorem Fits_any (v : Value) (l : List Ch) (va vb : Value) (xs ys : List Int) (w : World) (h : RdC w v l) (hl : l.length ≤ 1000000) (hb : ∀ c ∈ l, ChB c) (ha : RdV w va (intsV xs)) (hbb : RdV w vb (intsV ys)) (hxl : xs.length ≤ 4611686018427387904) (_hyl : ys.length ≤ 4611686018427387904) :
 Calls Tryz.prog 112 #[v, va, vb] w (FtPost l xs ys w) := by
 obtain ⟨A, cp, rfl⟩ := h.form
 obtain ⟨Aa, ca, rfl⟩ := ha.form
 obtain ⟨Ab, cb, rfl⟩ := hbb.form
 rw [intsV_len] at ha hbb ⊢
 rw [intsV_len]
 have HC := Lib.hid (fun wq (hq : Below w.heap.size w wq) => Check_any _ l (xs.length : Int) (ys.length : Int) wq (h.below hq) (by omega) hb)
 have HBl3 : Hid (Below w.heap.size w (((w.alloc (.cells #[.slice Aa xs.length ca] tInts)).alloc (.cells #[.slice Ab ys.length cb] tInts)).alloc (.cells #[.bool false] tBool))) := Lib.hid ((((Below.refl _ w).alloc (Nat.le_refl _) _).alloc (by simp) _).alloc (by simp; omega) _)
 unfold FtPost
 refine (callsIn_wide (n := 5)).1 ?_
 refine callsIn_of_wp_marks Tryz.func112 rfl trivial ?_ rfl
 simp only [Tryz.ntmps112, List.size_toArray, List.length_cons, List.length_nil, Nat.reduceAdd, Nat.reduceSub, Array.replicate_succ, Array.replicate_zero, List.push_toArray, List.append_toArray, List.nil_append, List.cons_append]
 have HI3 : Hid (FitI w (w.heap.size + 2) (.slice Aa xs.length ca) (.slice Ab ys.length cb) xs ys (((w.alloc (.cells #[.slice Aa xs.length ca] tInts)).alloc (.cells #[.slice Ab ys.length cb] tInts)).alloc (.cells #[.bool false] tBool))) := Lib.hid (by
  have s1 : (w.alloc (.cells #[.slice Aa xs.length ca] tInts)).heap.size = w.heap.size + 1 := by simp
  have s2 : ((w.alloc (.cells #[.slice Aa xs.length ca] tInts)).alloc (.cells #[.slice Ab ys.length cb] tInts)).heap.size = w.heap.size + 2 := by simp
  have a1 := heap_new w (.cells #[.slice Aa xs.length ca] tInts)
  have a2 := heap_new (w.alloc (.cells #[.slice Aa xs.length ca] tInts)) (.cells #[.slice Ab ys.length cb] tInts)
  have a3 := heap_new ((w.alloc (.cells #[.slice Aa xs.length ca] tInts)).alloc (.cells #[.slice Ab ys.length cb] tInts)) (.cells #[.bool false] tBool)
  rw [s1] at a2
  rw [s2] at a3
  exact ⟨(Below.heap_alloc _ _ _ (by rw [s2]; omega)).trans ((Below.heap_alloc _ _ _ (by rw [s1]; omega)).trans a1), (Below.heap_alloc _ _ _ (by rw [s2]; omega)).trans a2, a3, HBl3.out⟩)
 have HA := Lib.hid (fun wq (hq : Below w.heap.size w wq) => RdV.below ha hq)
 have HBv := Lib.hid (fun wq (hq : Below w.heap.size w wq) => RdV.below hbb hq)
 have HL := Lib.hid (fun wq (hq : Below w.heap.size w wq) => RdK.below h hq)
 obtain ⟨C, hCw⟩ : ∃ C, C = w.heap.size := ⟨_, rfl⟩
 have HCw := Lib.hid hCw
 by_cases hv : chkF l xs.length ys.length = 0
 · obtain ⟨hm, hn, hok⟩ := chkF_zero hv
   have HT : Hid ((∀ s ∈ mtF xs.length 0 0 l, eqAt xs ys s) → fitsB l xs ys = true) := Lib.hid (fun hh => fitsB_T hv hh)
   have HF : Hid ((∃ s ∈ mtF xs.length 0 0 l, ¬ eqAt xs ys s) → fitsB l xs ys = false) := Lib.hid (fun ⟨s, h1, h2⟩ => fitsB_F (fun hh => h2 (hh.2 s h1)))
   have HN := Lib.hid (ok_chN hm hn hok)
   have HOp := Lib.hid (okP_mem (Int.le_refl 0) (Int.le_refl 0) (mt_okp l true 0 0 hm.1 (fun _ => rfl) hok))
   have hm2 := hm.2
   have HCk : Hid (∀ wq, Below w.heap.size w wq → Calls Tryz.prog 75 #[.slice A l.length cp, .int .i64 (xs.length : Int), .int .i64 (ys.length : Int)] wq fun e w' => e = .returned (.int .i64 0) ∧ Below wq.heap.size wq w') := Lib.hid (fun wq hq => (HC.out wq hq).mono fun e w' ⟨h1, h2⟩ => ⟨by rw [h1, hv], h2⟩)
   clear HC hv hm hn hok ha hbb h
   generalize hNl : l.length = N at *
   have HNl := Lib.hid hNl
   clear hNl
   generalize hXl : xs.length = nx at *
   have HXl := Lib.hid hXl
   clear hXl
   generalize hYl : ys.length = ny at *
   have HYl := Lib.hid hYl
   clear hYl
   gi_wp2_with (first
    | (refine ⟨(trivial : Fence.wide.fn 75), ?_⟩; gi_at_call 75; refine (callsIn_wide.2 (HCk.out _ HBl3.out)).mono ?_; rintro e w4 ⟨rfl, hb4⟩; have HI4 := Lib.hid (HI3.out.to (W' := w4) (fun k hk => hb4.block k (by simp; omega)) (Nat.le_refl _) (hb4.mono (by simp; omega))); have hcA := HI4.out.a.cell; have hcB := HI4.out.b.cell; clear hb4 HCk HI3 HBl3)
    | (refine ⟨(trivial : Fence.wide.fn 150), ?_⟩; gi_at_call 150; refine (callsIn_wide.2 (matched_any _ _ _ _ _)).mono ?_; rintro e w5 ⟨rfl, rfl⟩)
    | gi_in)
   obtain ⟨w9, hw9⟩ : ∃ w9, ((w4.alloc (.cells #[.slice A N cp] tChs)).alloc (.cells #[.int .i64 (nx : Int)] 3)) = w9 := ⟨_, rfl⟩
   have hk9 : Below w4.heap.size w4 w9 := by rw [← hw9]; exact ((Below.refl _ _).alloc (Nat.le_refl _) _).alloc (by simp) _
   have h4s := HI4.out.below.size
   have hR4 : w.heap.size + 2 < w4.heap.size := (Array.getElem?_eq_some_iff.1 HI4.out.r).1
   have HI9 := Lib.hid (HI4.out.to (W' := w9) (fun k hk => hk9.block k (by omega)) (Nat.le_refl _) (hk9.mono (by omega)))
   have hc9 : Cap w9 w4.heap.size A N cp l (nx : Int) := by rw [← hw9]; exact cap_new (HL.out w4 HI4.out.below) (nx : Int)
   have HSep := Lib.hid (show Sep w4.heap.size A N (w.heap.size + 2) from ⟨by omega, by omega, fun hp a ha => by
    have hr := HL.out w (Below.refl _ _)
    obtain ⟨b, off, e, c0, _⟩ := RdC_at hr 0 (by rw [HNl.out]; exact hp)
    rw [e] at ha
    cases ha
    have := Tx.cell_lt c0
    show w.heap.size + 2 ≠ b
    omega⟩)
   have hs9 := hk9.size
   rw [hw9]
   clear hw9 hcA hcB hk9 HI4
   refine range_mat 5 (by omega) w4.heap.size A N cp l (nx : Int) HNl.out hl HN.out ⟨by omega, hm2⟩ (by rfl) rfl hc9
    (fun pre O W => O = [w.heap.size + 2] ∧ FitI w (w.heap.size + 2) (.slice Aa nx ca) (.slice Ab ny cb) xs ys W ∧ ∀ s ∈ pre, eqAt xs ys s)
    (fun c pre W => c = .ret ∧ FitI w (w.heap.size + 2) (.slice Aa nx ca) (.slice Ab ny cb) xs ys W ∧ ∃ s ∈ pre, ¬ eqAt xs ys s)
    (fun pre O W W' h he => ?hI) (fun pre O W h k hk => ?hIl) (fun c pre W k o h hk hn => ?hIx) [w.heap.size + 2] ⟨rfl, HI9.out, fun s hs => by cases hs⟩
    (fun x bx => { tmps := #[.slice A N cp, .slice Aa nx ca, .slice Ab ny cb, undef, .pointer (some ⟨w.heap.size, 0, none⟩), .pointer (some ⟨w.heap.size + 1, 0, none⟩), .pointer (some ⟨w.heap.size + 2, 0, none⟩), .pointer (some ⟨bx, 0, none⟩), .slice A N cp, .slice Aa nx ca, .int .i64 nx, .slice Ab ny cb, .int .i64 ny, .int .i64 0, .bool false, .slice A N cp, .slice Aa nx ca, .int .i64 nx, matV w4.heap.size, spV x, undef, undef, undef, undef, undef, undef, undef, undef, undef, undef, undef], defers := [] }) ?assign ?body ?done ?stop
   case hI =>
    obtain ⟨rfl, h2, h3⟩ := h
    exact ⟨rfl, h2.to (fun k hk => he.block k (.inl (by omega))) (Nat.le_refl _) ⟨he.os, he.tape, he.output, he.size, fun k hk => he.block k (.inl (by omega))⟩, h3⟩
   case hIl =>
    obtain ⟨rfl, h2, h3⟩ := h
    obtain rfl : k = w.heap.size + 2 := by simpa using hk
    exact ⟨(Array.getElem?_eq_some_iff.1 h2.r).1, HSep.out⟩
   case hIx =>
    obtain ⟨h1, h2, h3⟩ := h
    exact ⟨h1, h2.to (fun i hi => World.putObj_heap_other (by omega)) (Nat.le_refl _) ⟨rfl, rfl, rfl, (grownBy_putObj' W k o).size, fun i hi => World.putObj_heap_other (by omega)⟩, h3⟩
   case assign =>
    intro lp x W K hK
    rw [show ∀ (t : Array Value) (i : Nat) (v : Value), Array.foldl (fun t (x : Tmp × Value) => t.setIfInBounds x.fst x.snd) t (#[i].zip #[v]) = t.setIfInBounds i v from fun t i v => by simp [Array.zip]]
    clear hc9 hCw
    gi_wp2
    exact hK
   case body =>
    rintro lp pre O x bx W ⟨rfl, hI, hpre⟩ hpf hx hbo hbs hWs
    have hmem := pre_mem hpf
    obtain ⟨⟨f0, f1⟩, t0, t1⟩ := HOp.out x hmem
    obtain ⟨fr, to_⟩ := x
    simp only at f0 f1 t0 t1 hx
    obtain ⟨p, rfl⟩ : ∃ p : Nat, fr = (p : Int) := ⟨fr.toNat, by omega⟩
    obtain ⟨q, rfl⟩ : ∃ q : Nat, to_ = (q : Int) := ⟨to_.toNat, by omega⟩
    have hp1 : p < xs.length := by rw [HXl.out]; omega
    have hq1 : q < ys.length := by rw [HYl.out]; omega
    obtain ⟨ba, offa, rfl, ca1⟩ := RdV_at (HA.out W hI.below) p hp1
    obtain ⟨bb, offb, rfl, cb1⟩ := RdV_at (HBv.out W hI.below) q hq1
    have HEq : Hid (eqAt xs ys ⟨(p : Int), (q : Int)⟩ ↔ xs[p] = ys[q]) := Lib.hid (by
     unfold eqAt
     simp only [Int.toNat_natCast, List.getD_eq_getElem?_getD, List.getElem?_eq_getElem hp1, List.getElem?_eq_getElem hq1, Option.getD_some])
    obtain ⟨⟨x0, x1⟩, xf⟩ := cells2 hx
    have hcA := hI.a.cell
    have hcB := hI.b.cell
    have hcR := hI.r.cell
    have hfR := hI.r.frozen
    have HI := Lib.hid hI
    have HPre := Lib.hid hpre
    have HMem := Lib.hid hmem
    generalize xs[p] = al at *
    generalize ys[q] = be at *
    clear hI hpre hmem hpf hx hc9 hCw xf hp1 hq1
    by_cases hab : al = be
    · have HEa := Lib.hid (HEq.out.2 hab)
      have q1 : (al != be) = false := by rw [bne_eq_false_iff_eq]; exact hab
      clear hab HEq
      gi_wp2
      refine quiet_round lp rfl (by kernel_rfl) (by kernel_rfl) (by kernel_rfl) ?_
      repeat (refine wpQuietIn_step (fun _ _ _ _ => trivial) (fun K hK => ?_); go_simp; refine hK _ ?_; clear hK K)
      refine wpQuietIn_nil ?_
      intro _ hw'
      obtain ⟨nq, hw''⟩ := hw'
      subst hw''
      gi_wp2
      exact ⟨_, ⟨rfl, HI.out.to (fun k _ => (below_drewN (Below.refl (k + 1) W) nq).block k (Nat.lt_succ_self k)) (Nat.le_refl _) (below_drewN (Below.refl _ W) nq), fun s hs => by
       rcases List.mem_append.1 hs with h | h
       · exact HPre.out s h
       · rw [List.mem_singleton] at h; subst h; exact HEa.out⟩, (KeptO.refl _ _).drewN nq, fun k hk => .inl hk⟩
    · have HEa := Lib.hid (fun h => hab (HEq.out.1 h))
      have q1 : (al != be) = true := by rw [bne_iff_ne]; exact hab
      clear hab HEq
      gi_wp2
      refine quiet_round lp rfl (by kernel_rfl) (by kernel_rfl) (by kernel_rfl) ?_
      repeat (refine wpQuietIn_step (fun _ _ _ _ => trivial) (fun K hK => ?_); go_simp; refine hK _ ?_; clear hK K)
      refine wpQuietIn_nil ?_
      intro _ hw'
      obtain ⟨nq, hw''⟩ := hw'
      subst hw''
      have HI2 := Lib.hid (HI.out.to (W' := W.drewN nq) (fun k _ => (below_drewN (Below.refl (k + 1) W) nq).block k (Nat.lt_succ_self k)) (Nat.le_refl _) (below_drewN (Below.refl _ W) nq))
      have HK2 := Lib.hid ((KeptO.refl [w.heap.size + 2] W).drewN nq)
      clear HI hcA hcB hcR hfR x0 x1 ca1 cb1
      generalize World.drewN W nq = W2 at *
      have hcR := HI2.out.r.cell
      have hfR := HI2.out.r.frozen
      gi_wp2
      exact ⟨HK2.out.setCell (p := ⟨w.heap.size + 2, 0, none⟩) (.inl (by simp)) _, rfl, ⟨HI2.out.a.other (by omega) _, HI2.out.b.other (by omega) _, HI2.out.r.set _, HI2.out.below.setCell (p := ⟨w.heap.size + 2, 0, none⟩) (by show w.heap.size ≤ w.heap.size + 2; omega) _⟩, _, by simp, HEa.out⟩
   case done =>
    rintro D O W hD hDO ⟨rfl, hI, hall⟩ hK
    have hcR := hI.r.cell
    have hfR := hI.r.frozen
    have HE := Lib.hid (HT.out hall)
    obtain ⟨W2, hW2⟩ : ∃ W2, W.setCell ⟨w.heap.size + 2, 0, none⟩ (.bool true) = W2 := ⟨_, rfl⟩
    have hDR : D ≠ w.heap.size + 2 := fun e => hDO (by rw [e]; simp)
    have hK' : W2.heap[D]? = some (.deferred (some [])) := by rw [← hW2]; exact (Below.heap_setCell _ _ _ _ hDR).trans hK
    have g1 : Boxed W2 (w.heap.size + 2) tBool (.bool true) := by rw [← hW2]; exact hI.r.set _
    have g3 : Below w.heap.size w W2 := by rw [← hW2]; exact hI.below.setCell (p := ⟨w.heap.size + 2, 0, none⟩) (by show w.heap.size ≤ w.heap.size + 2; omega) _
    have hl2 : ∀ r, some D = some r → ∃ o : Obj, W2.heap[r]? = some o ∧ o.isCells = false := fun r e => by cases e; exact ⟨_, hK', rfl⟩
    have q1 := cell_kept g1.cell (grownBy_putObj' W2 D (.deferred none)) hl2
    have HB := Lib.hid (g3.trans (belowK_b (w := w9) (n₀ := w.heap.size) (by omega) W2 D _ (.deferred none) hD hK' rfl rfl))
    have HW := Lib.hid hW2
    clear hI hall hW2 g1 g3 hl2 hc9 hCw hDO
    gi_wp2
    rw [HW.out]
    refine ⟨by simp, .inl ⟨_, _, rfl, run_takeDeferred hK', ?_⟩⟩
    refine ⟨_, (by simp [results, Tryz.f112, go_sem, q1]; rfl), ?_, ?_⟩
    · rw [HE.out]
    · exact HB.out
   case stop =>
    rintro D c pre W hD hne hpre ⟨rfl, hI, s, hs, hne2⟩ hK
    have HE := Lib.hid (HF.out ⟨s, hpre.subset hs, hne2⟩)
    have hl2 : ∀ r, some D = some r → ∃ o : Obj, W.heap[r]? = some o ∧ o.isCells = false := fun r e => by cases e; exact ⟨_, hK, rfl⟩
    have q1 := cell_kept hI.r.cell (grownBy_putObj' W D (.deferred none)) hl2
    have HB := Lib.hid (hI.below.trans (belowK_b (w := w9) (n₀ := w.heap.size) (by omega) W D _ (.deferred none) hD hK rfl rfl))
    clear hI hne2 hs hpre hne hl2 hc9 hCw
    gi_wp2
    refine ⟨by simp, .inl ⟨_, _, rfl, run_takeDeferred hK, ?_⟩⟩
    refine ⟨_, (by simp [results, Tryz.f112, go_sem, q1]; rfl), ?_, ?_⟩
    · rw [HE.out]
    · exact HB.out
 · have HE := Lib.hid (fitsB_F (l := l) (xs := xs) (ys := ys) (fun hh => hv hh.1))
   have HCk : Hid (∀ wq, Below w.heap.size w wq → Calls Tryz.prog 75 #[.slice A l.length cp, .int .i64 (xs.length : Int), .int .i64 (ys.length : Int)] wq fun e w' => e = .returned (.int .i64 80) ∧ Below wq.heap.size wq w') := Lib.hid (fun wq hq => (HC.out wq hq).mono fun e w' ⟨h1, h2⟩ => ⟨by
    have h3 : chkF l xs.length ys.length = 80 := chkF_no (fun hh => hv (chkF_ok hh.1 hh.2.1 hh.2.2))
    rw [h1, h3], h2⟩)
   clear HC hv ha hbb h
   generalize l.length = N at *
   generalize xs.length = nx at *
   generalize ys.length = ny at *
   gi_wp2_with (first
    | (refine ⟨(trivial : Fence.wide.fn 75), ?_⟩; gi_at_call 75; refine (callsIn_wide.2 (HCk.out _ HBl3.out)).mono ?_; rintro e w4 ⟨rfl, hb4⟩; have HI4 := Lib.hid (HI3.out.to (W' := w4) (fun k hk => hb4.block k (by simp; omega)) (Nat.le_refl _) (hb4.mono (by simp; omega))); have hcR := HI4.out.r.cell; have hfR := HI4.out.r.frozen; clear hb4 HCk HI3 HBl3)
    | gi_in)
   have g1 := (HI4.out.r.set (.bool false)).cell
   have g2 := HI4.out.below.setCell (p := ⟨w.heap.size + 2, 0, none⟩) (by show w.heap.size ≤ w.heap.size + 2; omega) (.bool false)
   refine ⟨_, (by simp [results, Tryz.f112, go_sem, g1]; rfl), ?_, g2⟩
   rw [HE.out]
end Sc
end
end
section
namespace Au
end Au
open Go.RowKit
namespace Sc
open Cm Au
set_option maxRecDepth 100000 in
set_option maxHeartbeats 4000000 in
theorem FitsR_any (v : Value) (l : List Ch) (va vb : Value) (xs ys : List Int) (w : World) (h : RdC w v l) (hl : l.length ≤ 1000000) (ha : RdV w va (intsV xs)) (hbb : RdV w vb (intsV ys)) :
 Calls Tryz.prog 94 #[v, va, vb] w (FtPost l xs ys w) := by
 obtain ⟨Aa, ca, rfl⟩ := ha.form
 obtain ⟨Ab, cb, rfl⟩ := hbb.form
 rw [intsV_len] at ha hbb ⊢
 rw [intsV_len]
 have HC := Lib.hid (PairsR_any v l (xs.length : Int) (ys.length : Int) w h hl)
 have HA := Lib.hid (fun wq (hq : Below w.heap.size w wq) => RdV.below ha hq)
 have HBv := Lib.hid (fun wq (hq : Below w.heap.size w wq) => RdV.below hbb hq)
 unfold FtPost
 by_cases hv : chkF l xs.length ys.length = 0
 · obtain ⟨hm, hn, hok⟩ := chkF_zero hv
   have HT : Hid ((∀ s ∈ mtF xs.length 0 0 l, eqAt xs ys s) → fitsB l xs ys = true) := Lib.hid (fun hh => fitsB_T hv hh)
   have HF : Hid ((∃ s ∈ mtF xs.length 0 0 l, ¬ eqAt xs ys s) → fitsB l xs ys = false) := Lib.hid (fun ⟨s, h1, h2⟩ => fitsB_F (fun hh => h2 (hh.2 s h1)))
   have HOp := Lib.hid (okP_mem (Int.le_refl 0) (Int.le_refl 0) (mt_okp l true 0 0 hm.1 (fun _ => rfl) hok))
   have hsm := mt_small hm hn hok
   have HC2 : Hid (Calls Tryz.prog 133 #[v, .int .i64 (xs.length : Int), .int .i64 (ys.length : Int)] w (GoodS (mtF xs.length 0 0 l) w)) := Lib.hid (HC.out.mono fun e w' ⟨v', h1, h2, _, h4⟩ => ⟨v', by rw [h1, hv], h2 hv, h4⟩)
   clear HC hv hm hn hok ha hbb h
   generalize mtF xs.length 0 0 l = p at *
   generalize hXl : xs.length = nx at *
   have HXl := Lib.hid hXl
   clear hXl
   generalize hYl : ys.length = ny at *
   have HYl := Lib.hid hYl
   clear hYl
   go_enter Tryz.func94, Tryz.ntmps94
   go_wp2_with fail
   refine HC2.out.mono ?_
   rintro e w1 ⟨vp, rfl, hop, hb1⟩
   obtain ⟨Ap, cp, rfl⟩ := hop.rd.form
   have HP := Lib.hid hop.rd
   have HB1 := Lib.hid hb1
   clear hop hb1 HC2
   generalize hNp : p.length = np at *
   have HNp := Lib.hid hNp
   clear hNp
   go_wp2_with fail
   go_loopw [9] (fun k' wr => ∃ k : Nat, k ≤ np ∧ k' = .int .i64 (k : Int) ∧ Hid (∀ i (hi : i < p.length), i < k → eqAt xs ys p[i]) ∧ ∃ q, wr = w1.drewN q) (fun k' _ => np - (intOf k').toNat)
   case atStart => exact ⟨0, Nat.zero_le _, rfl, Lib.hid (fun i _ h => absurd h (Nat.not_lt_zero _)), 0, rfl⟩
   case round =>
    obtain ⟨k, hk, rfl, HE, q, rfl⟩ := hrel
    by_cases hlt : k < np
    · have hx : k < p.length := by rw [HNp.out]; exact hlt
      obtain ⟨g, off, rfl, x0, x1⟩ := RdS_at HP.out k hx
      have hmem : p[k] ∈ p := List.getElem_mem hx
      obtain ⟨⟨f0, f1⟩, t0, t1⟩ := HOp.out p[k] hmem
      have HEn : Hid (eqAt xs ys p[k] → ∀ i (hi : i < p.length), i < k + 1 → eqAt xs ys p[i]) := Lib.hid (fun h i hi hik => by
       by_cases e : i = k
       · subst e; exact h
       · exact HE.out i hi (by omega))
      have HEf : Hid (¬ eqAt xs ys p[k] → fitsB l xs ys = false) := Lib.hid (fun h => HF.out ⟨_, hmem, h⟩)
      clear hmem HE
      generalize p[k] = s at *
      obtain ⟨fr, to_⟩ := s
      simp only at f0 f1 t0 t1 x0 x1
      obtain ⟨a, rfl⟩ : ∃ a : Nat, fr = (a : Int) := ⟨fr.toNat, by omega⟩
      obtain ⟨b, rfl⟩ : ∃ b : Nat, to_ = (b : Int) := ⟨to_.toNat, by omega⟩
      have hp1 : a < xs.length := by rw [HXl.out]; omega
      have hq1 : b < ys.length := by rw [HYl.out]; omega
      obtain ⟨ba, offa, rfl, ca1⟩ := RdV_at (HA.out w1 HB1.out) a hp1
      obtain ⟨bb, offb, rfl, cb1⟩ := RdV_at (HBv.out w1 HB1.out) b hq1
      have HEq : Hid (eqAt xs ys ⟨(a : Int), (b : Int)⟩ ↔ xs[a] = ys[b]) := Lib.hid (by
       unfold eqAt
       simp only [Int.toNat_natCast, List.getD_eq_getElem?_getD, List.getElem?_eq_getElem hp1, List.getElem?_eq_getElem hq1, Option.getD_some])
      generalize xs[a] = al at *
      generalize ys[b] = be at *
      clear hp1 hq1
      have dk : decide (k < np) = true := decide_eq_true hlt
      have i1 : (0 : Int) ≤ (k : Int) := by omega
      have i2 : (k : Int) < (np : Int) := by omega
      by_cases hab : al = be
      · have HEa := Lib.hid (HEn.out (HEq.out.2 hab))
        have q1 : (al != be) = false := by rw [bne_eq_false_iff_eq]; exact hab
        clear hab HEq HEn HEf
        go_wp2_with fail
        go_quiet (fail)
        go_wp2_with fail
        go_roundw
        case rel => exact ⟨k + 1, by omega, by go_num, HEa, _, rfl⟩
        case measure => simp [intOf]; omega
      · have HEa := Lib.hid (HEf.out (fun h => hab (HEq.out.1 h)))
        have q1 : (al != be) = true := by rw [bne_iff_ne]; exact hab
        clear hab HEq HEn HEf
        go_wp2_with fail
        go_quiet (fail)
        go_wp2_with fail
        go_ret
        exact ⟨by rw [HEa.out]; rfl, below_drewN (below_drewN HB1.out _) _⟩
    · have dk : decide (k < np) = false := decide_eq_false hlt
      have HEa := Lib.hid (HT.out (fun s hs => by
       obtain ⟨i, hi, rfl⟩ := List.mem_iff_getElem.1 hs
       exact HE.out i hi (by rw [HNp.out] at hi; omega)))
      clear HE
      go_wp2_with fail
      go_ret
      exact ⟨by rw [HEa.out]; rfl, below_drewN HB1.out _⟩
 · have HE := Lib.hid (fitsB_F (l := l) (xs := xs) (ys := ys) (fun hh => hv hh.1))
   have h3 : chkF l xs.length ys.length = 80 := chkF_no (fun hh => hv (chkF_ok hh.1 hh.2.1 hh.2.2))
   have HC2 : Hid (Calls Tryz.prog 133 #[v, .int .i64 (xs.length : Int), .int .i64 (ys.length : Int)] w fun e w' => e = .returned (.tuple #[.slice none 0 0, .int .i64 80]) ∧ Below w.heap.size w w') := Lib.hid (HC.out.mono fun e w' ⟨v', h1, _, h5, h4⟩ => ⟨by rw [h1, h5 hv, h3], h4⟩)
   clear HC hv ha hbb h h3
   generalize xs.length = nx at *
   generalize ys.length = ny at *
   go_enter Tryz.func94, Tryz.ntmps94
   go_wp2_with fail
   refine HC2.out.mono ?_
   rintro e w1 ⟨rfl, hb1⟩
   have HB1 := Lib.hid hb1
   clear hb1 HC2
   go_wp2_with fail
   go_ret
   exact ⟨by rw [HE.out]; rfl, HB1.out⟩
def IdPost (n : Nat) (w : World) (e : Ending) (w' : World) : Prop := ∃ v xs, e = .returned v ∧ xs.length = n ∧ w'.ownsRow w.heap.size 3 1 v n (intsV xs) ∧ Below w.heap.size w w'
theorem info_int : (Tryz.prog.info? 3).map (fun i => (i.zero, i.size, i.bytes)) = some (some (.int .i64 0), 1, 8) := by kernel_rfl
end Sc
end
end Go.Proofs.YtjecfmbecgpbmaaGreatDoor

/-
  Contracts at valid scripts, as the laws call them. Conditions: scripts of at most nine lines. The program's Fits. Conditions: the fields are numbers that an int holds, as few elements as the laws have. The reference's Fits; the verifier's Ids. Conditions: as few elements as the laws have.
-/
import Derived.Test.YtjecfmbecgpbmaaGreatDoorGScrRange
import Derived.Test.YtjecfmbecgpbmaaGreatDoorGScrBase
import Derived.Test.YtjecfmbecgpbmaaGreatDoorScrSpoil
import Derived.Deep.AppendLies
import Derived.Tactics
import Derived.Tactics2
import Derived.WalkSpells
import Derived.StillTactics
import Derived.OwnWalk
import Derived.Laws.Pointers
import Derived.Sort.QuietTacIn
import Derived.StillTailTactics
namespace Go.Proofs.YtjecfmbecgpbmaaGreatDoor
section
section
namespace Cm
end Cm
open Go.RowKit
namespace Sc
open Cm
def GoodS (p : List Sp) (w : World) (e : Ending) (w' : World) : Prop := ∃ v, e = .returned (.tuple #[v, .int .i64 0]) ∧ OwnS w.heap.size w' v p ∧ Below w.heap.size w w'
end Sc
end
section
namespace Cm
end Cm
open Go.RowKit
attribute [local go_sem] Oper.semAt_some
namespace Sc
open Cm
def eqAt (xs ys : List Int) (s : Sp) : Prop := xs.getD s.frm.toNat 0 = ys.getD s.to.toNat 0
open Classical in
/-- The verdict of Fits. -/
noncomputable def fitsB (l : List Ch) (xs ys : List Int) : Bool := decide (chkF l xs.length ys.length = 0 ∧ ∀ s ∈ mtF xs.length 0 0 l, eqAt xs ys s)
open Classical in
theorem fitsB_T {l : List Ch} {xs ys : List Int} (h : chkF l xs.length ys.length = 0) (h2 : ∀ s ∈ mtF xs.length 0 0 l, eqAt xs ys s) : fitsB l xs ys = true := decide_eq_true ⟨h, h2⟩
open Classical in
theorem fitsB_F {l : List Ch} {xs ys : List Int} (h : ¬ (chkF l xs.length ys.length = 0 ∧ ∀ s ∈ mtF xs.length 0 0 l, eqAt xs ys s)) : fitsB l xs ys = false := decide_eq_false h
theorem chkF_zero {l : List Ch} {m n : Int} (h : chkF l m n = 0) : inI m ∧ inI n ∧ OkL true 0 0 l m n := by
  unfold chkF at h
  split at h
  · assumption
  · cases h
theorem okP_mem {m n : Int} : ∀ {p : List Sp} {i j : Int}, 0 ≤ i → 0 ≤ j → OkP m n i j p → ∀ s ∈ p, (0 ≤ s.frm ∧ s.frm < m) ∧ 0 ≤ s.to ∧ s.to < n
  | [], _, _, _, _, _, s, hs => by cases hs
  | x :: p, i, j, hi, hj, ⟨⟨a, b, c, d⟩, e⟩, s, hs => by
    rcases List.mem_cons.1 hs with rfl | hs
    · exact ⟨⟨by omega, b⟩, by omega, d⟩
    · exact okP_mem (by omega) (by omega) e s hs
theorem RdV_at {w : World} {A : Option Addr} {n c : Nat} {xs : List Int} (h : RdV w (.slice A n c) (intsV xs)) (k : Nat) (hk : k < xs.length) : ∃ b off, A = some ⟨b, off, none⟩ ∧ w.cell? ⟨b, off + k, none⟩ = some (.int .i64 xs[k]) := by
  obtain ⟨_, b, off, e, hc⟩ := h.at (by rw [intsV_len]; omega)
  have h2 := hc k (by rw [intsV_len]; exact hk)
  exact ⟨b, off, e, by rw [h2]; simp [intsV]⟩
def FtPost (l : List Ch) (xs ys : List Int) (w : World) (e : Ending) (w' : World) : Prop := e = .returned (.bool (fitsB l xs ys)) ∧ Below w.heap.size w w'
end Sc
end
end
section
namespace Au
end Au
namespace Cm
end Cm
open Go.RowKit
namespace Sc
open Cm Au
set_option maxRecDepth 100000 in
set_option maxHeartbeats 4000000 in
theorem FitsR_any (v : Value) (l : List Ch) (va vb : Value) (xs ys : List Int) (w : World) (h : RdC w v l) (hl : l.length ≤ 1000000) (ha : RdV w va (intsV xs)) (hbb : RdV w vb (intsV ys)) :
    Calls Tryz.prog 94 #[v, va, vb] w (FtPost l xs ys w) := by
  obtain ⟨Aa, ca, rfl⟩ := ha.form
  obtain ⟨Ab, cb, rfl⟩ := hbb.form
  rw [intsV_len] at ha hbb ⊢
  rw [intsV_len]
  have HC := Lib.hid (PairsR_any v l (xs.length : Int) (ys.length : Int) w h hl)
  have HA := Lib.hid (fun wq (hq : Below w.heap.size w wq) => RdV.below ha hq)
  have HBv := Lib.hid (fun wq (hq : Below w.heap.size w wq) => RdV.below hbb hq)
  unfold FtPost
  by_cases hv : chkF l xs.length ys.length = 0
  · obtain ⟨hm, hn, hok⟩ := chkF_zero hv
    have HT : Hid ((∀ s ∈ mtF xs.length 0 0 l, eqAt xs ys s) → fitsB l xs ys = true) := Lib.hid (fun hh => fitsB_T hv hh)
    have HF : Hid ((∃ s ∈ mtF xs.length 0 0 l, ¬ eqAt xs ys s) → fitsB l xs ys = false) := Lib.hid (fun ⟨s, h1, h2⟩ => fitsB_F (fun hh => h2 (hh.2 s h1)))
    have HOp := Lib.hid (okP_mem (Int.le_refl 0) (Int.le_refl 0) (mt_okp l true 0 0 hm.1 (fun _ => rfl) hok))
    have hsm := mt_small hm hn hok
    have HC2 : Hid (Calls Tryz.prog 133 #[v, .int .i64 (xs.length : Int), .int .i64 (ys.length : Int)] w (GoodS (mtF xs.length 0 0 l) w)) := Lib.hid (HC.out.mono fun e w' ⟨v', h1, h2, _, h4⟩ => ⟨v', by rw [h1, hv], h2 hv, h4⟩)
    clear HC hv hm hn hok ha hbb h
    generalize mtF xs.length 0 0 l = p at *
    generalize hXl : xs.length = nx at *
    have HXl := Lib.hid hXl
    clear hXl
    generalize hYl : ys.length = ny at *
    have HYl := Lib.hid hYl
    clear hYl
    go_enter Tryz.func94, Tryz.ntmps94
    go_wp2_with fail
    refine HC2.out.mono ?_
    rintro e w1 ⟨vp, rfl, hop, hb1⟩
    obtain ⟨Ap, cp, rfl⟩ := hop.rd.form
    have HP := Lib.hid hop.rd
    have HB1 := Lib.hid hb1
    clear hop hb1 HC2
    generalize hNp : p.length = np at *
    have HNp := Lib.hid hNp
    clear hNp
    go_wp2_with fail
    go_loopw [9] (fun k' wr => ∃ k : Nat, k ≤ np ∧ k' = .int .i64 (k : Int) ∧ Hid (∀ i (hi : i < p.length), i < k → eqAt xs ys p[i]) ∧ ∃ q, wr = w1.drewN q) (fun k' _ => np - (intOf k').toNat)
    case atStart => exact ⟨0, Nat.zero_le _, rfl, Lib.hid (fun i _ h => absurd h (Nat.not_lt_zero _)), 0, rfl⟩
    case round =>
      obtain ⟨k, hk, rfl, HE, q, rfl⟩ := hrel
      by_cases hlt : k < np
      · have hx : k < p.length := by rw [HNp.out]; exact hlt
        obtain ⟨g, off, rfl, x0, x1⟩ := RdS_at HP.out k hx
        have hmem : p[k] ∈ p := List.getElem_mem hx
        obtain ⟨⟨f0, f1⟩, t0, t1⟩ := HOp.out p[k] hmem
        have HEn : Hid (eqAt xs ys p[k] → ∀ i (hi : i < p.length), i < k + 1 → eqAt xs ys p[i]) := Lib.hid (fun h i hi hik => by
          by_cases e : i = k
          · subst e; exact h
          · exact HE.out i hi (by omega))
        have HEf : Hid (¬ eqAt xs ys p[k] → fitsB l xs ys = false) := Lib.hid (fun h => HF.out ⟨_, hmem, h⟩)
        clear hmem HE
        generalize p[k] = s at *
        obtain ⟨fr, to_⟩ := s
        simp only at f0 f1 t0 t1 x0 x1
        obtain ⟨a, rfl⟩ : ∃ a : Nat, fr = (a : Int) := ⟨fr.toNat, by omega⟩
        obtain ⟨b, rfl⟩ : ∃ b : Nat, to_ = (b : Int) := ⟨to_.toNat, by omega⟩
        have hp1 : a < xs.length := by rw [HXl.out]; omega
        have hq1 : b < ys.length := by rw [HYl.out]; omega
        obtain ⟨ba, offa, rfl, ca1⟩ := RdV_at (HA.out w1 HB1.out) a hp1
        obtain ⟨bb, offb, rfl, cb1⟩ := RdV_at (HBv.out w1 HB1.out) b hq1
        have HEq : Hid (eqAt xs ys ⟨(a : Int), (b : Int)⟩ ↔ xs[a] = ys[b]) := Lib.hid (by
          unfold eqAt
          simp only [Int.toNat_natCast, List.getD_eq_getElem?_getD, List.getElem?_eq_getElem hp1, List.getElem?_eq_getElem hq1, Option.getD_some])
        generalize xs[a] = al at *
        generalize ys[b] = be at *
        clear hp1 hq1
        have dk : decide (k < np) = true := decide_eq_true hlt
        have i1 : (0 : Int) ≤ (k : Int) := by omega
        have i2 : (k : Int) < (np : Int) := by omega
        by_cases hab : al = be
        · have HEa := Lib.hid (HEn.out (HEq.out.2 hab))
          have q1 : (al != be) = false := by rw [bne_eq_false_iff_eq]; exact hab
          clear hab HEq HEn HEf
          go_wp2_with fail
          go_quiet (fail)
          go_wp2_with fail
          go_roundw
          case rel => exact ⟨k + 1, by omega, by go_num, HEa, _, rfl⟩
          case measure => simp [intOf]; omega
        · have HEa := Lib.hid (HEf.out (fun h => hab (HEq.out.1 h)))
          have q1 : (al != be) = true := by rw [bne_iff_ne]; exact hab
          clear hab HEq HEn HEf
          go_wp2_with fail
          go_quiet (fail)
          go_wp2_with fail
          go_ret
          exact ⟨by rw [HEa.out]; rfl, below_drewN (below_drewN HB1.out _) _⟩
      · have dk : decide (k < np) = false := decide_eq_false hlt
        have HEa := Lib.hid (HT.out (fun s hs => by
          obtain ⟨i, hi, rfl⟩ := List.mem_iff_getElem.1 hs
          exact HE.out i hi (by rw [HNp.out] at hi; omega)))
        clear HE
        go_wp2_with fail
        go_ret
        exact ⟨by rw [HEa.out]; rfl, below_drewN HB1.out _⟩
  · have HE := Lib.hid (fitsB_F (l := l) (xs := xs) (ys := ys) (fun hh => hv hh.1))
    have h3 : chkF l xs.length ys.length = 80 := chkF_no (fun hh => hv (chkF_ok hh.1 hh.2.1 hh.2.2))
    have HC2 : Hid (Calls Tryz.prog 133 #[v, .int .i64 (xs.length : Int), .int .i64 (ys.length : Int)] w fun e w' => e = .returned (.tuple #[.slice none 0 0, .int .i64 80]) ∧ Below w.heap.size w w') := Lib.hid (HC.out.mono fun e w' ⟨v', h1, _, h5, h4⟩ => ⟨by rw [h1, h5 hv, h3], h4⟩)
    clear HC hv ha hbb h h3
    generalize xs.length = nx at *
    generalize ys.length = ny at *
    go_enter Tryz.func94, Tryz.ntmps94
    go_wp2_with fail
    refine HC2.out.mono ?_
    rintro e w1 ⟨rfl, hb1⟩
    have HB1 := Lib.hid hb1
    clear hb1 HC2
    go_wp2_with fail
    go_ret
    exact ⟨by rw [HE.out]; rfl, HB1.out⟩
/-- Some numbers that an int holds, of a given length, in a row that the call owns. -/
def IdPost (n : Nat) (w : World) (e : Ending) (w' : World) : Prop := ∃ v xs, e = .returned v ∧ xs.length = n ∧ w'.ownsRow w.heap.size 3 1 v n (intsV xs) ∧ Below w.heap.size w w'
theorem info_int : (Tryz.prog.info? 3).map (fun i => (i.zero, i.size, i.bytes)) = some (some (.int .i64 0), 1, 8) := by kernel_rfl
end Sc
end
end Go.Proofs.YtjecfmbecgpbmaaGreatDoor

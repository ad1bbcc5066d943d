/-
  Walks of layer 7: the iterator over the leftmost occurrences, for every loop body that keeps the iterator's cells. Conditions: needle and text have at most 2^22 bytes, and the offset lies within the text.
-/
import Derived.Test.YthpolbiekdijjaaOccLong
import Derived.RangeFuncGives
import Derived.RangeFuncOwn
import Derived.RangeFuncCalls
import Derived.RangeFuncLeaves
import Derived.RangeFuncBound
import Derived.Maps.AppendAt
import Derived.Shelf.AbstractIn
import Derived.OwnWalkIn
import Derived.TacticsInMore
import Derived.RegionIn
import Derived.LoopNIn
import Derived.LoopIn
import Derived.Sort.QuietTacIn
namespace Go.Proofs.Ythpolbiekdijjaa
open Go.RowKit
attribute [local go_sem] Oper.semAt_some
namespace Oc
open Tx Cm
/-- The cells of the iterator: needle, text, offset. -/
def Caps (W : World) (B : Nat) (n s : ByteArray) (p : Nat) : Prop :=
  W.cell? ⟨B, 0, none⟩ = some (.string n) ∧ W.cell? ⟨B + 1, 0, none⟩ = some (.string s) ∧ W.cell? ⟨B + 2, 0, none⟩ = some (.int .i64 p)
theorem Caps.below {W W' : World} {B m p : Nat} {n s : ByteArray} (h : Caps W B n s p) (hb : Below m W W') (hB : B + 3 ≤ m) : Caps W' B n s p :=
  ⟨(hb.cell (p := ⟨B, 0, none⟩) (by show B < m; omega)).trans h.1, (hb.cell (p := ⟨B + 1, 0, none⟩) (by show B + 1 < m; omega)).trans h.2.1, (hb.cell (p := ⟨B + 2, 0, none⟩) (by show B + 2 < m; omega)).trans h.2.2⟩
abbrev apartV (B : Nat) : Value := .func (.func 30) #[] #[.pointer (some ⟨B, 0, none⟩), .pointer (some ⟨B + 1, 0, none⟩), .pointer (some ⟨B + 2, 0, none⟩)]
theorem empty_of (s : ByteArray) (h : s.size = 0) : s = ⟨#[]⟩ := by
  cases s with | mk d => cases d with | mk l => cases l with
    | nil => rfl
    | cons a l => simp [ByteArray.size] at h
theorem nonempty_of (s : ByteArray) (h : 0 < s.size) : ¬ s.toList = [] ∧ s.toList.isEmpty = false := by
  have e : s.toList = s.data.toList := ByteArray.toList_eq s
  have h1 : s.data.toList ≠ [] := fun e => by
    have := congrArg List.length e
    simp at this
    have h2 : s.size = 0 := by simp [ByteArray.size, this]
    omega
  rw [e]
  exact ⟨h1, by simpa using h1⟩
theorem apart_any (n s : ByteArray) (p : Nat) (w : World) : Calls Try.prog 22 #[.string n, .string s, .int .i64 p] w fun e w' => e = .returned (apartV w.heap.size) ∧ w' = ((w.alloc (.cells #[.string n] 9)).alloc (.cells #[.string s] 9)).alloc (.cells #[.int .i64 p] 3) := by
  go_enter Try.func22, Try.ntmps22
  go_wp2_with fail
  go_ret
  exact ⟨rfl, rfl⟩
/-- What the iterator leaves. -/
def IterPost (L : List Nat) (w : World) (J : Nat → List Nat → World → Prop) (Jx : Nat → List Nat → World → Prop) (e : Ending) (W' : World) : Prop :=
  (∃ v, e = .returned v) ∧ ((W' = w ∧ L = []) ∨ (∃ G, J G L W') ∨ (∃ G pre, pre ≠ [] ∧ pre <+: L ∧ Jx G pre W'))
set_option maxRecDepth 100000 in
set_option maxHeartbeats 4000000 in
theorem apart1_in (f : Nat) (hf : 1 ≤ f) (l B : Nat) (n s : ByteArray) (p : Nat) (hn : n.size ≤ 4194304) (hs : s.size ≤ 4194304) (hp : p ≤ s.size)
    (J Jx : Nat → List Nat → World → Prop)
    (hJ : ∀ G pre W, J G pre W → Caps W B n s p ∧ W.rowIs G tInt n.size (rowBd (bs n) n.size))
    (hJd : ∀ G pre W, J G pre W → J G pre W.drew)
    (hY : ∀ G pre (x : Nat) W, J G pre W → pre.length < s.size → x < s.size → pre ++ [x] <+: posL (bs n) (bs s) p → YieldAt Fence.wide (f - 1) Try.prog l #[.int .i64 x] W fun e W' => (e = .returned (.bool true) ∧ J G (pre ++ [x]) W') ∨ (e = .returned (.bool false) ∧ Jx G (pre ++ [x]) W'))
    (W : World) (hc : Caps W B n s p) (h0 : ∀ G W1, Below W.heap.size W W1 → W.heap.size ≤ G → W1.rowIs G tInt n.size (rowBd (bs n) n.size) → J G [] W1) :
    CallsIn Fence.wide f Try.prog 30 #[.func (.yield l) #[] #[], .pointer (some ⟨B, 0, none⟩), .pointer (some ⟨B + 1, 0, none⟩), .pointer (some ⟨B + 2, 0, none⟩)] W (IterPost (posL (bs n) (bs s) p) W J Jx) := by
  obtain ⟨hc1, hc2, hc3⟩ := hc
  have hJn : ∀ G pre m W, J G pre W → J G pre (W.drewN m) := fun G pre m => by
    induction m with
    | zero => exact fun W h => h
    | succ m ih => exact fun W h => hJd _ _ _ (ih W h)
  have HJ := Lib.hid hJ
  have HJn := Lib.hid hJn
  have HY := Lib.hid hY
  clear hJ hJd hY hJn
  refine callsIn_of_wp Try.func30 rfl trivial ?_ rfl
  simp only [Try.ntmps30, List.size_toArray, List.length_cons, List.length_nil, Nat.reduceAdd, Nat.reduceSub, Array.replicate_succ, Array.replicate_zero, List.push_toArray, List.append_toArray, List.nil_append, List.cons_append]
  by_cases hn0 : n.size = 0
  · obtain rfl : n = ⟨#[]⟩ := empty_of n hn0
    have HE : Hid (posL (bs ⟨#[]⟩) (bs s) p = []) := Lib.hid (posL_eq (isPos_short (.inl rfl)))
    clear hn0 hn h0
    gi_wp2
    go_end0
    exact ⟨⟨_, rfl⟩, .inl ⟨rfl, HE.out⟩⟩
  have hnp : 0 < n.size := by omega
  obtain ⟨e0, e1⟩ := nonempty_of n hnp
  by_cases h2 : s.size < p + n.size
  · have HE : Hid (posL (bs n) (bs s) p = []) := Lib.hid (posL_eq (isPos_short (.inr (by rw [bs_len, bs_len]; exact h2))))
    have hd : decide ((s.size : Int) - (p : Int) < (n.size : Int)) = true := by simp only [decide_eq_true_eq]; omega
    clear hn0 h0
    gi_wp2
    go_end0
    exact ⟨⟨_, rfl⟩, .inl ⟨rfl, HE.out⟩⟩
  have hd : decide ((s.size : Int) - (p : Int) < (n.size : Int)) = false := by simp only [decide_eq_false_iff_not]; omega
  have HB := Lib.hid (fun W => Borders_any n W hn)
  have H0 := Lib.hid h0
  clear hn0 h0 h2
  have HSc : Hid (Scan (bs n) (bs s) p [] p 0) := Lib.hid (Scan.start (by rw [bs_len]; exact hnp) (by rw [bs_len]; exact hp))
  gi_wp2_with (refine ⟨(trivial : Fence.wide.fn 18), ?_⟩; gi_at_call 18; refine (callsIn_wide.2 (HB.out _)).mono ?_; rintro e w1 ⟨G, rfl, hG, hr, hb⟩; have HS := Lib.hid (H0.out G w1 hb hG hr); clear hG hr hb hc1 hc2 hc3; obtain ⟨⟨hc1, hc2, hc3⟩, _⟩ := HJ.out _ _ _ HS.out; rw [bs_len])
  clear HB H0 hc1 hc2 hc3 hd
  gi_loopw [6, 7] (fun mv iv wr => ∃ (k m : Nat) (pre : List Nat), iv = .int .i64 (k : Int) ∧ mv = .int .i64 (m : Int) ∧ k ≤ s.size ∧ m < n.size ∧ pre.length ≤ s.size ∧ Hid (Scan (bs n) (bs s) p pre k m) ∧ Hid (J G pre wr)) (fun _ iv _ => s.size - (intOf iv).toNat)
  case atStart => exact ⟨p, 0, [], rfl, by go_num, hp, hnp, Nat.zero_le _, HSc, HS⟩
  case round =>
    obtain ⟨k, m, pre, rfl, rfl, hk, hm, hpl, HSk, HJk⟩ := hrel
    clear HSc HS
    obtain ⟨⟨hc1, hc2, hc3⟩, hrow⟩ := HJ.out _ _ _ HJk.out
    by_cases hlt : k < s.size
    · have HL := Lib.hid (fun q => longest_any n (.slice (some ⟨G, 0, none⟩) n.size n.size) _ m s[k] (wr.drewN q) hn (rd_row (HJ.out _ _ _ (HJn.out _ _ q _ HJk.out)).2) hm (row_get (by omega) (by omega)))
      have hP := longF_is (n := bs n) (m := m) (b := s[k]) (by rw [bs_len]; omega)
      have hsk : (bs s)[k]'(by rw [bs_len]; exact hlt) = s[k] := rfl
      have hle := hP.le
      rw [bs_len] at hle
      have HGo : Hid (longF (bs n) m s[k] < n.size → Scan (bs n) (bs s) p pre (k + 1) (longF (bs n) m s[k])) := Lib.hid (fun h => HSk.out.go (by rw [bs_len]; exact hlt) hP (by rw [bs_len]; exact h))
      have HHit : Hid (¬ longF (bs n) m s[k] < n.size → n.size ≤ k + 1 ∧ Scan (bs n) (bs s) p (pre ++ [k + 1 - n.size]) (k + 1) 0) := Lib.hid (fun h => by
        have h1 := HSk.out.hit (by rw [bs_len]; exact hlt) hP (by rw [bs_len]; exact h)
        rw [bs_len] at h1
        exact ⟨h1.1, h1.2.1⟩)
      clear hP hsk hrow
      generalize longF (bs n) m s[k] = r at HL hle HGo HHit
      have i1 : (0 : Int) ≤ (k : Int) := by omega
      have i2 : (k : Int) < (s.size : Int) := by omega
      gi_wp2
      refine wpIn_region_quiet_lit rfl (by kernel_rfl) (by kernel_rfl) ?_
      repeat (refine wpQuietIn_step (fun _ _ _ _ => trivial) (fun K hK => ?_); go_simp; refine hK _ ?_; clear hK K)
      refine wpQuietIn_step (fun _ _ _ _ => trivial) (fun K hK => ?_)
      go_simp
      apply Exists.intro
      refine ⟨fun q => ?_, hK _ ?_⟩
      · exact CallsIn.quiet_of_same (callsIn_wide.2 ((HL.out q).mono fun _ _ h => ⟨h.1, h.2.symm⟩))
      clear hK K
      repeat (refine wpQuietIn_step (fun _ _ _ _ => trivial) (fun K hK => ?_); go_simp; refine hK _ ?_; clear hK K)
      refine wpQuietIn_nil ?_
      intro _ hw'
      obtain ⟨nq, hw''⟩ := hw'
      subst hw''
      have HJ2 := Lib.hid (HJn.out _ _ nq _ HJk.out)
      clear hc1 hc2 hc3 HL HJk HSk
      generalize World.drewN wr nq = w2 at HJ2 ⊢
      obtain ⟨⟨hc1, hc2, hc3⟩, _⟩ := HJ.out _ _ _ HJ2.out
      by_cases hr : r < n.size
      · have HS2 := Lib.hid (HGo.out hr)
        have hd : decide (r < n.size) = true := by simp only [decide_eq_true_eq]; omega
        have HR := Lib.hid hr
        clear HGo HHit hr
        gi_wp2
        have hr := HR.out
        go_roundw
        case rel => exact ⟨k + 1, r, pre, by go_num, rfl, by omega, by omega, by omega, HS2, HJ2⟩
        case measure => simp [intOf]; omega
      · obtain ⟨hnk, hS2⟩ := HHit.out hr
        have HS2 := Lib.hid hS2
        have hd : decide (r < n.size) = false := by simp only [decide_eq_false_iff_not]; omega
        have hpl2 : (pre ++ [k + 1 - n.size]).length ≤ s.size := hS2.pre_le (by rw [bs_len]; exact hp)
        rw [List.length_append, List.length_singleton] at hpl2
        have HPre := Lib.hid hS2.isPre
        obtain ⟨fn, tmps, assign, body, hy, hR⟩ := HY.out G pre (k + 1 - n.size) w2 HJ2.out (by omega) (by omega) hS2.isPre
        have hx : (k : Int) + 1 - (n.size : Int) = ((k + 1 - n.size : Nat) : Int) := by omega
        clear HGo HHit hr hS2
        generalize k + 1 - n.size = x at HS2 hy hR hx HPre hpl2
        gi_wp2
        refine hR.mono ?_
        rintro e W3 (⟨rfl, hJ3⟩ | ⟨rfl, hJ3⟩)
        · have HJ3 := Lib.hid hJ3
          clear hJ3 hc1 hc2 hc3 hy hR
          obtain ⟨⟨hc1, hc2, hc3⟩, _⟩ := HJ.out _ _ _ HJ3.out
          gi_wp2
          go_roundw
          case rel => exact ⟨k + 1, 0, _, by go_num, by go_num, by omega, by omega, by rw [List.length_append, List.length_singleton]; omega, HS2, HJ3⟩
          case measure => simp [intOf]; omega
        · have HJ3 := Lib.hid hJ3
          clear hJ3 hc1 hc2 hc3 hy hR
          gi_wp2
          go_end0
          exact ⟨⟨_, rfl⟩, .inr (.inr ⟨G, _, by simp, HPre.out, HJ3.out⟩)⟩
    · have hd : decide (k < s.size) = false := by simp only [decide_eq_false_iff_not]; omega
      obtain rfl : k = s.size := by omega
      have HE : Hid (posL (bs n) (bs s) p = pre) := Lib.hid (posL_eq (by have := HSk.out; rw [← bs_len] at this; exact this.stop))
      clear hrow
      gi_wp2
      go_end0
      exact ⟨⟨_, rfl⟩, .inr (.inl ⟨G, by rw [HE.out]; exact HJk.out⟩)⟩
end Oc
end Go.Proofs.Ythpolbiekdijjaa

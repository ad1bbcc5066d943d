/-
  The reference's bounds of a quantifier in braces: they are boundsF's. Conditions: short patterns.
-/
import Derived.Test.YtebljjdhgepfkaaRegexReaderB
import Derived.Test.YtebljjdhgepfkaaRegexMath
import Derived.Test.YtebljjdhgepfkaaScanNumR
namespace Go.Proofs.Ytebljjdhgepfkaa
open Go.RowKit
namespace Rx
open Cm
/-- What 'bounds' leaves. -/
def BPost (w : World) (base rb : Nat) (s : ByteArray) (at_ : Nat) (d : Int) (ns : List Nd) (ks : List Value) (r : Option (Nat × Int × Nat)) (en : Ending) (w' : World) : Prop :=
  match r with
  | none => en = .returned (.tuple #[.int .i64 0, .int .i64 0]) ∧ Rdr w' base rb s at_ d 40 ns ks ∧ Below base w w' ∧ KeptR w w'
  | some (m, h, nx) => en = .returned (.tuple #[.int .i64 (m : Int), .int .i64 h]) ∧ Rdr w' base rb s nx d 0 ns ks ∧ Below base w w' ∧ KeptR w w'
theorem finB_some {l : List UInt8} {m nx : Nat} {h : Int} (h1 : l[nx]? = some 125) (h2 : m ≤ 100) (h3 : h ≤ 100) (h4 : 0 ≤ h → (m : Int) ≤ h) : finB l m h nx = some (m, h, nx) := by unfold finB; rw [if_pos ⟨h1, h2, h3, h4⟩]
theorem finB_none {l : List UInt8} {m nx : Nat} {h : Int} (h1 : ¬ (l[nx]? = some 125 ∧ m ≤ 100 ∧ h ≤ 100 ∧ (0 ≤ h → (m : Int) ≤ h))) : finB l m h nx = none := by unfold finB; rw [if_neg h1]
theorem byte_T {b k : UInt8} (h : b = k) : ((b.toNat : Int) == (k.toNat : Int)) = true := by rw [h]; exact beq_self_eq_true _
theorem byte_F {b k : UInt8} (h : b ≠ k) : ((b.toNat : Int) == (k.toNat : Int)) = false := by
  rw [beq_eq_false_iff_ne]; intro e
  apply h
  apply UInt8.toNat_inj.1
  omega
theorem byte_N {b k : UInt8} (h : b ≠ k) : ((b.toNat : Int) != (k.toNat : Int)) = true := by rw [bne, byte_F h]; rfl
theorem byte_M {b k : UInt8} (h : b = k) : ((b.toNat : Int) != (k.toNat : Int)) = false := by rw [bne, byte_T h]; rfl
section
variable {w : World} {base rb : Nat} {s : ByteArray} {at_ : Nat} {d : Int} {ns : List Nd} {ks : List Value}
theorem below_drewN' {a b : World} {B : Nat} (m : Nat) (h : Below B (a.drewN m) b) : Below B a b := (below_drewN (Below.refl _ _) m).trans h
theorem gl {j : Nat} (h : j < s.size) : (Tx.bs s)[j]? = some s[j] := Tx.bs_get? s j h
theorem gn {j : Nat} (h : s.size ≤ j) : (Tx.bs s)[j]? = none := List.getElem?_eq_none (by rw [Tx.bs_len]; omega)
set_option maxRecDepth 100000 in
set_option maxHeartbeats 2000000 in
theorem bounds_a (h : Rdr w base rb s at_ d 0 ns ks) (hs : s.size ≤ 1000000) (ha : at_ < s.size) (hn : Sc.numF (Tx.bs s) ((at_ : Int) + 1) = none) : Calls Try.prog 81 #[.pointer (some ⟨rb, 0, none⟩)] w (BPost w base rb s at_ d ns ks (boundsF (Tx.bs s) at_)) := by
  have HFl : Hid (∀ m, Calls Try.prog 28 #[.pointer (some ⟨rb, 0, none⟩), .int .i64 40] (w.drewN m) fun en w' => en = .returned (.int .i64 0) ∧ Rdr w' base rb s at_ d 40 ns ks ∧ Below base (w.drewN m) w' ∧ KeptR (w.drewN m) w') := Lib.hid (fun m => fail_first (h.drewN m) 40)
  have HSet0 : Hid (∀ (nx m : Nat), Rdr ((w.drewN m).setCell ⟨rb, 1, none⟩ (.int .i64 (nx : Int))) base rb s nx d 0 ns ks ∧ Below base w ((w.drewN m).setCell ⟨rb, 1, none⟩ (.int .i64 (nx : Int))) ∧ KeptR w ((w.drewN m).setCell ⟨rb, 1, none⟩ (.int .i64 (nx : Int)))) := Lib.hid (fun nx m => by
    obtain ⟨r1, r2, r3⟩ := (h.drewN m).setAt (nx : Int)
    exact ⟨r1, below_drewN' m r2, (KeptX.drewN _ _).trans r3⟩)
  have HN : Hid (∀ w, Calls Try.prog 90 #[.string s, .int .i64 ((at_ : Int) + 1)] w fun e w' => e = .returned (.tuple #[.int .i64 0, .int .i64 0, .bool false]) ∧ w = w') := Lib.hid (fun w => by
    have := Sc.NumberR_any s ((at_ : Int) + 1) w (by omega)
    rwa [hn] at this)
  obtain ⟨v, hb, hh, hnn⟩ := h
  obtain ⟨c0, c1, c2, c3, c4, hf⟩ := rdr_cells hh
  have f1 := hf 1
  have i0 : (0 : Int) ≤ (at_ : Int) := by omega
  clear hh hnn hf
  have HR : Hid (boundsF (Tx.bs s) at_ = none) := Lib.hid (by unfold boundsF; rw [hn])
  clear hn
  go_enter Try.func81, Try.ntmps81
  go_wp2_with fail
  go_quiet ((go_at_call 90; exact Calls.quiet_of_same ((HN.out _).mono fun _ _ h => ⟨h.1, h.2.symm⟩)))
  go_wp2_with (first | (go_at_call 28; refine (HFl.out _).mono ?_; rintro e w1 ⟨rfl, q1, q2, q3⟩; have Q := Lib.hid (And.intro q1 (And.intro q2 q3)); clear q1 q2 q3))
  go_ret2
  rw [HR.out]
  exact ⟨rfl, Q.out.1, below_drewN' _ Q.out.2.1, (KeptX.drewN _ _).trans Q.out.2.2⟩
set_option maxRecDepth 100000 in
set_option maxHeartbeats 2000000 in
theorem bounds_b1 (h : Rdr w base rb s at_ d 0 ns ks) (hs : s.size ≤ 1000000) (ha : at_ < s.size) (m nx : Nat) (hn : Sc.numF (Tx.bs s) ((at_ : Int) + 1) = some (m, nx)) (h1 : s.size ≤ nx) : Calls Try.prog 81 #[.pointer (some ⟨rb, 0, none⟩)] w (BPost w base rb s at_ d ns ks (boundsF (Tx.bs s) at_)) := by
  have HFl : Hid (∀ m, Calls Try.prog 28 #[.pointer (some ⟨rb, 0, none⟩), .int .i64 40] (w.drewN m) fun en w' => en = .returned (.int .i64 0) ∧ Rdr w' base rb s at_ d 40 ns ks ∧ Below base (w.drewN m) w' ∧ KeptR (w.drewN m) w') := Lib.hid (fun m => fail_first (h.drewN m) 40)
  have HSet0 : Hid (∀ (nx m : Nat), Rdr ((w.drewN m).setCell ⟨rb, 1, none⟩ (.int .i64 (nx : Int))) base rb s nx d 0 ns ks ∧ Below base w ((w.drewN m).setCell ⟨rb, 1, none⟩ (.int .i64 (nx : Int))) ∧ KeptR w ((w.drewN m).setCell ⟨rb, 1, none⟩ (.int .i64 (nx : Int)))) := Lib.hid (fun nx m => by
    obtain ⟨r1, r2, r3⟩ := (h.drewN m).setAt (nx : Int)
    exact ⟨r1, below_drewN' m r2, (KeptX.drewN _ _).trans r3⟩)
  have HN : Hid (∀ w, Calls Try.prog 90 #[.string s, .int .i64 ((at_ : Int) + 1)] w fun e w' => e = .returned (.tuple #[.int .i64 (m : Int), .int .i64 (nx : Int), .bool true]) ∧ w = w') := Lib.hid (fun w => by
    have := Sc.NumberR_any s ((at_ : Int) + 1) w (by omega)
    rwa [hn] at this)
  obtain ⟨v, hb, hh, hnn⟩ := h
  obtain ⟨c0, c1, c2, c3, c4, hf⟩ := rdr_cells hh
  have f1 := hf 1
  have i0 : (0 : Int) ≤ (at_ : Int) := by omega
  clear hh hnn hf
  have hc : ¬ (Tx.bs s)[nx]? = some 44 := by rw [gn h1]; simp
  have HR : Hid (boundsF (Tx.bs s) at_ = none) := Lib.hid (by unfold boundsF; rw [hn]; simp only; rw [if_neg hc]; exact finB_none (by rw [gn h1]; simp))
  clear hn hc
  have d1 : decide ((nx : Int) < (s.size : Int)) = false := by simp only [decide_eq_false_iff_not]; omega
  clear HSet0
  go_enter Try.func81, Try.ntmps81
  go_wp2_with fail
  go_quiet ((go_at_call 90; exact Calls.quiet_of_same ((HN.out _).mono fun _ _ h => ⟨h.1, h.2.symm⟩)))
  go_wp2_with (first | (go_at_call 28; refine (HFl.out _).mono ?_; rintro e w1 ⟨rfl, q1, q2, q3⟩; have Q := Lib.hid (And.intro q1 (And.intro q2 q3)); clear q1 q2 q3))
  go_ret2
  rw [HR.out]
  exact ⟨rfl, Q.out.1, below_drewN' _ Q.out.2.1, (KeptX.drewN _ _).trans Q.out.2.2⟩
set_option maxRecDepth 100000 in
set_option maxHeartbeats 2000000 in
theorem bounds_b2 (h : Rdr w base rb s at_ d 0 ns ks) (hs : s.size ≤ 1000000) (ha : at_ < s.size) (m nx : Nat) (hn : Sc.numF (Tx.bs s) ((at_ : Int) + 1) = some (m, nx)) (h1 : nx < s.size) (h2 : s[nx] ≠ 44) (h3 : s[nx] ≠ 125) : Calls Try.prog 81 #[.pointer (some ⟨rb, 0, none⟩)] w (BPost w base rb s at_ d ns ks (boundsF (Tx.bs s) at_)) := by
  have HFl : Hid (∀ m, Calls Try.prog 28 #[.pointer (some ⟨rb, 0, none⟩), .int .i64 40] (w.drewN m) fun en w' => en = .returned (.int .i64 0) ∧ Rdr w' base rb s at_ d 40 ns ks ∧ Below base (w.drewN m) w' ∧ KeptR (w.drewN m) w') := Lib.hid (fun m => fail_first (h.drewN m) 40)
  have HSet0 : Hid (∀ (nx m : Nat), Rdr ((w.drewN m).setCell ⟨rb, 1, none⟩ (.int .i64 (nx : Int))) base rb s nx d 0 ns ks ∧ Below base w ((w.drewN m).setCell ⟨rb, 1, none⟩ (.int .i64 (nx : Int))) ∧ KeptR w ((w.drewN m).setCell ⟨rb, 1, none⟩ (.int .i64 (nx : Int)))) := Lib.hid (fun nx m => by
    obtain ⟨r1, r2, r3⟩ := (h.drewN m).setAt (nx : Int)
    exact ⟨r1, below_drewN' m r2, (KeptX.drewN _ _).trans r3⟩)
  have HN : Hid (∀ w, Calls Try.prog 90 #[.string s, .int .i64 ((at_ : Int) + 1)] w fun e w' => e = .returned (.tuple #[.int .i64 (m : Int), .int .i64 (nx : Int), .bool true]) ∧ w = w') := Lib.hid (fun w => by
    have := Sc.NumberR_any s ((at_ : Int) + 1) w (by omega)
    rwa [hn] at this)
  obtain ⟨v, hb, hh, hnn⟩ := h
  obtain ⟨c0, c1, c2, c3, c4, hf⟩ := rdr_cells hh
  have f1 := hf 1
  have i0 : (0 : Int) ≤ (at_ : Int) := by omega
  clear hh hnn hf
  have hc : ¬ (Tx.bs s)[nx]? = some 44 := by rw [gl h1]; intro e; exact h2 (Option.some.inj e)
  have HR : Hid (boundsF (Tx.bs s) at_ = none) := Lib.hid (by unfold boundsF; rw [hn]; simp only; rw [if_neg hc]; exact finB_none (by rw [gl h1]; intro e; exact h3 (Option.some.inj e.1)))
  clear hn hc
  have k0 : (0 : Int) ≤ (nx : Int) := by omega
  have k1 : (nx : Int) < (s.size : Int) := by omega
  have e1 : ((s[nx].toNat : Int) == 44) = false := byte_F h2
  have e2 : ((s[nx].toNat : Int) != 125) = true := byte_N h3
  clear h2 h3
  clear HSet0
  go_enter Try.func81, Try.ntmps81
  go_wp2_with fail
  go_quiet ((go_at_call 90; exact Calls.quiet_of_same ((HN.out _).mono fun _ _ h => ⟨h.1, h.2.symm⟩)))
  go_wp2_with (first | (go_at_call 28; refine (HFl.out _).mono ?_; rintro e w1 ⟨rfl, q1, q2, q3⟩; have Q := Lib.hid (And.intro q1 (And.intro q2 q3)); clear q1 q2 q3))
  go_ret2
  rw [HR.out]
  exact ⟨rfl, Q.out.1, below_drewN' _ Q.out.2.1, (KeptX.drewN _ _).trans Q.out.2.2⟩
set_option maxRecDepth 100000 in
set_option maxHeartbeats 2000000 in
theorem bounds_b3 (h : Rdr w base rb s at_ d 0 ns ks) (hs : s.size ≤ 1000000) (ha : at_ < s.size) (m nx : Nat) (hn : Sc.numF (Tx.bs s) ((at_ : Int) + 1) = some (m, nx)) (h1 : nx < s.size) (h2 : s[nx] = 125) (h3 : 100 < m) : Calls Try.prog 81 #[.pointer (some ⟨rb, 0, none⟩)] w (BPost w base rb s at_ d ns ks (boundsF (Tx.bs s) at_)) := by
  have HFl : Hid (∀ m, Calls Try.prog 28 #[.pointer (some ⟨rb, 0, none⟩), .int .i64 40] (w.drewN m) fun en w' => en = .returned (.int .i64 0) ∧ Rdr w' base rb s at_ d 40 ns ks ∧ Below base (w.drewN m) w' ∧ KeptR (w.drewN m) w') := Lib.hid (fun m => fail_first (h.drewN m) 40)
  have HSet0 : Hid (∀ (nx m : Nat), Rdr ((w.drewN m).setCell ⟨rb, 1, none⟩ (.int .i64 (nx : Int))) base rb s nx d 0 ns ks ∧ Below base w ((w.drewN m).setCell ⟨rb, 1, none⟩ (.int .i64 (nx : Int))) ∧ KeptR w ((w.drewN m).setCell ⟨rb, 1, none⟩ (.int .i64 (nx : Int)))) := Lib.hid (fun nx m => by
    obtain ⟨r1, r2, r3⟩ := (h.drewN m).setAt (nx : Int)
    exact ⟨r1, below_drewN' m r2, (KeptX.drewN _ _).trans r3⟩)
  have HN : Hid (∀ w, Calls Try.prog 90 #[.string s, .int .i64 ((at_ : Int) + 1)] w fun e w' => e = .returned (.tuple #[.int .i64 (m : Int), .int .i64 (nx : Int), .bool true]) ∧ w = w') := Lib.hid (fun w => by
    have := Sc.NumberR_any s ((at_ : Int) + 1) w (by omega)
    rwa [hn] at this)
  obtain ⟨v, hb, hh, hnn⟩ := h
  obtain ⟨c0, c1, c2, c3, c4, hf⟩ := rdr_cells hh
  have f1 := hf 1
  have i0 : (0 : Int) ≤ (at_ : Int) := by omega
  clear hh hnn hf
  have hc : ¬ (Tx.bs s)[nx]? = some 44 := by rw [gl h1, h2]; decide
  have HR : Hid (boundsF (Tx.bs s) at_ = none) := Lib.hid (by unfold boundsF; rw [hn]; simp only; rw [if_neg hc]; exact finB_none (by intro e; omega))
  clear hn hc
  have k0 : (0 : Int) ≤ (nx : Int) := by omega
  have k1 : (nx : Int) < (s.size : Int) := by omega
  have e1 : ((s[nx].toNat : Int) == 44) = false := byte_F (show s[nx] ≠ 44 by rw [h2]; decide)
  have e2 : ((s[nx].toNat : Int) != 125) = false := byte_M h2
  have e3 : (100 : Int) < (m : Int) := by omega
  clear h2
  clear HSet0
  go_enter Try.func81, Try.ntmps81
  go_wp2_with fail
  go_quiet ((go_at_call 90; exact Calls.quiet_of_same ((HN.out _).mono fun _ _ h => ⟨h.1, h.2.symm⟩)))
  go_wp2_with (first | (go_at_call 28; refine (HFl.out _).mono ?_; rintro e w1 ⟨rfl, q1, q2, q3⟩; have Q := Lib.hid (And.intro q1 (And.intro q2 q3)); clear q1 q2 q3))
  go_ret2
  rw [HR.out]
  exact ⟨rfl, Q.out.1, below_drewN' _ Q.out.2.1, (KeptX.drewN _ _).trans Q.out.2.2⟩
set_option maxRecDepth 100000 in
set_option maxHeartbeats 2000000 in
theorem bounds_b4 (h : Rdr w base rb s at_ d 0 ns ks) (hs : s.size ≤ 1000000) (ha : at_ < s.size) (m nx : Nat) (hn : Sc.numF (Tx.bs s) ((at_ : Int) + 1) = some (m, nx)) (h1 : nx < s.size) (h2 : s[nx] = 125) (h3 : m ≤ 100) : Calls Try.prog 81 #[.pointer (some ⟨rb, 0, none⟩)] w (BPost w base rb s at_ d ns ks (boundsF (Tx.bs s) at_)) := by
  have HFl : Hid (∀ m, Calls Try.prog 28 #[.pointer (some ⟨rb, 0, none⟩), .int .i64 40] (w.drewN m) fun en w' => en = .returned (.int .i64 0) ∧ Rdr w' base rb s at_ d 40 ns ks ∧ Below base (w.drewN m) w' ∧ KeptR (w.drewN m) w') := Lib.hid (fun m => fail_first (h.drewN m) 40)
  have HSet0 : Hid (∀ (nx m : Nat), Rdr ((w.drewN m).setCell ⟨rb, 1, none⟩ (.int .i64 (nx : Int))) base rb s nx d 0 ns ks ∧ Below base w ((w.drewN m).setCell ⟨rb, 1, none⟩ (.int .i64 (nx : Int))) ∧ KeptR w ((w.drewN m).setCell ⟨rb, 1, none⟩ (.int .i64 (nx : Int)))) := Lib.hid (fun nx m => by
    obtain ⟨r1, r2, r3⟩ := (h.drewN m).setAt (nx : Int)
    exact ⟨r1, below_drewN' m r2, (KeptX.drewN _ _).trans r3⟩)
  have HN : Hid (∀ w, Calls Try.prog 90 #[.string s, .int .i64 ((at_ : Int) + 1)] w fun e w' => e = .returned (.tuple #[.int .i64 (m : Int), .int .i64 (nx : Int), .bool true]) ∧ w = w') := Lib.hid (fun w => by
    have := Sc.NumberR_any s ((at_ : Int) + 1) w (by omega)
    rwa [hn] at this)
  obtain ⟨v, hb, hh, hnn⟩ := h
  obtain ⟨c0, c1, c2, c3, c4, hf⟩ := rdr_cells hh
  have f1 := hf 1
  have i0 : (0 : Int) ≤ (at_ : Int) := by omega
  clear hh hnn hf
  have hc : ¬ (Tx.bs s)[nx]? = some 44 := by rw [gl h1, h2]; decide
  have HR : Hid (boundsF (Tx.bs s) at_ = some (m, (m : Int), nx)) := Lib.hid (by unfold boundsF; rw [hn]; simp only; rw [if_neg hc]; exact finB_some (by rw [gl h1, h2]) h3 (by omega) (fun _ => by omega))
  clear hn hc
  have k0 : (0 : Int) ≤ (nx : Int) := by omega
  have k1 : (nx : Int) < (s.size : Int) := by omega
  have e1 : ((s[nx].toNat : Int) == 44) = false := byte_F (show s[nx] ≠ 44 by rw [h2]; decide)
  have e2 : ((s[nx].toNat : Int) != 125) = false := byte_M h2
  have e3 : decide ((100 : Int) < (m : Int)) = false := by simp only [decide_eq_false_iff_not]; omega
  have e4 : (0 : Int) ≤ (m : Int) := by omega
  have e5 : decide ((m : Int) < (m : Int)) = false := by simp
  clear h2
  have HSet := Lib.hid (HSet0.out nx)
  clear HFl HSet0
  go_enter Try.func81, Try.ntmps81
  go_wp2_with fail
  go_quiet ((go_at_call 90; exact Calls.quiet_of_same ((HN.out _).mono fun _ _ h => ⟨h.1, h.2.symm⟩)))
  go_wp2_with fail
  go_ret2
  rw [HR.out]
  exact ⟨rfl, HSet.out _⟩
set_option maxRecDepth 100000 in
set_option maxHeartbeats 2000000 in
theorem bounds_c1 (h : Rdr w base rb s at_ d 0 ns ks) (hs : s.size ≤ 1000000) (ha : at_ < s.size) (m nx : Nat) (hn : Sc.numF (Tx.bs s) ((at_ : Int) + 1) = some (m, nx)) (n1 : Nat) (hn1 : n1 = nx + 1) (h1 : nx < s.size) (h2 : s[nx] = 44) (h3 : s.size ≤ n1) : Calls Try.prog 81 #[.pointer (some ⟨rb, 0, none⟩)] w (BPost w base rb s at_ d ns ks (boundsF (Tx.bs s) at_)) := by
  have HFl : Hid (∀ m, Calls Try.prog 28 #[.pointer (some ⟨rb, 0, none⟩), .int .i64 40] (w.drewN m) fun en w' => en = .returned (.int .i64 0) ∧ Rdr w' base rb s at_ d 40 ns ks ∧ Below base (w.drewN m) w' ∧ KeptR (w.drewN m) w') := Lib.hid (fun m => fail_first (h.drewN m) 40)
  have HSet0 : Hid (∀ (nx m : Nat), Rdr ((w.drewN m).setCell ⟨rb, 1, none⟩ (.int .i64 (nx : Int))) base rb s nx d 0 ns ks ∧ Below base w ((w.drewN m).setCell ⟨rb, 1, none⟩ (.int .i64 (nx : Int))) ∧ KeptR w ((w.drewN m).setCell ⟨rb, 1, none⟩ (.int .i64 (nx : Int)))) := Lib.hid (fun nx m => by
    obtain ⟨r1, r2, r3⟩ := (h.drewN m).setAt (nx : Int)
    exact ⟨r1, below_drewN' m r2, (KeptX.drewN _ _).trans r3⟩)
  have HN : Hid (∀ w, Calls Try.prog 90 #[.string s, .int .i64 ((at_ : Int) + 1)] w fun e w' => e = .returned (.tuple #[.int .i64 (m : Int), .int .i64 (nx : Int), .bool true]) ∧ w = w') := Lib.hid (fun w => by
    have := Sc.NumberR_any s ((at_ : Int) + 1) w (by omega)
    rwa [hn] at this)
  obtain ⟨v, hb, hh, hnn⟩ := h
  obtain ⟨c0, c1, c2, c3, c4, hf⟩ := rdr_cells hh
  have f1 := hf 1
  have i0 : (0 : Int) ≤ (at_ : Int) := by omega
  clear hh hnn hf
  have hx1 : (nx : Int) + 1 = (n1 : Int) := by omega
  have hc : (Tx.bs s)[nx]? = some 44 := by rw [gl h1, h2]
  have HR : Hid (boundsF (Tx.bs s) at_ = none) := Lib.hid (by unfold boundsF; rw [hn]; simp only; rw [if_pos hc, ← hn1]; rw [if_neg (by rw [Tx.bs_len]; omega)]; exact finB_none (by rw [gn h3]; simp))
  clear hn hc
  have d1 : decide ((n1 : Int) < (s.size : Int)) = false := by simp only [decide_eq_false_iff_not]; omega
  have d2 : decide (n1 < s.size) = false := by simp only [decide_eq_false_iff_not]; omega
  have k0 : (0 : Int) ≤ (nx : Int) := by omega
  have k1 : (nx : Int) < (s.size : Int) := by omega
  have e44 : ((s[nx].toNat : Int) == 44) = true := byte_T h2
  have k2 : (0 : Int) ≤ (n1 : Int) := by omega
  clear h2
  clear hn1
  clear HSet0
  go_enter Try.func81, Try.ntmps81
  go_wp2_with fail
  go_quiet ((go_at_call 90; exact Calls.quiet_of_same ((HN.out _).mono fun _ _ h => ⟨h.1, h.2.symm⟩)))
  go_wp2_with (first | (go_at_call 28; refine (HFl.out _).mono ?_; rintro e w1 ⟨rfl, q1, q2, q3⟩; have Q := Lib.hid (And.intro q1 (And.intro q2 q3)); clear q1 q2 q3))
  go_ret2
  rw [HR.out]
  exact ⟨rfl, Q.out.1, below_drewN' _ Q.out.2.1, (KeptX.drewN _ _).trans Q.out.2.2⟩
set_option maxRecDepth 100000 in
set_option maxHeartbeats 2000000 in
theorem bounds_c2 (h : Rdr w base rb s at_ d 0 ns ks) (hs : s.size ≤ 1000000) (ha : at_ < s.size) (m nx : Nat) (hn : Sc.numF (Tx.bs s) ((at_ : Int) + 1) = some (m, nx)) (n1 : Nat) (hn1 : n1 = nx + 1) (h1 : nx < s.size) (h2 : s[nx] = 44) (h3 : n1 < s.size) (h4 : s[n1] = 125) (h5 : 100 < m) : Calls Try.prog 81 #[.pointer (some ⟨rb, 0, none⟩)] w (BPost w base rb s at_ d ns ks (boundsF (Tx.bs s) at_)) := by
  have HFl : Hid (∀ m, Calls Try.prog 28 #[.pointer (some ⟨rb, 0, none⟩), .int .i64 40] (w.drewN m) fun en w' => en = .returned (.int .i64 0) ∧ Rdr w' base rb s at_ d 40 ns ks ∧ Below base (w.drewN m) w' ∧ KeptR (w.drewN m) w') := Lib.hid (fun m => fail_first (h.drewN m) 40)
  have HSet0 : Hid (∀ (nx m : Nat), Rdr ((w.drewN m).setCell ⟨rb, 1, none⟩ (.int .i64 (nx : Int))) base rb s nx d 0 ns ks ∧ Below base w ((w.drewN m).setCell ⟨rb, 1, none⟩ (.int .i64 (nx : Int))) ∧ KeptR w ((w.drewN m).setCell ⟨rb, 1, none⟩ (.int .i64 (nx : Int)))) := Lib.hid (fun nx m => by
    obtain ⟨r1, r2, r3⟩ := (h.drewN m).setAt (nx : Int)
    exact ⟨r1, below_drewN' m r2, (KeptX.drewN _ _).trans r3⟩)
  have HN : Hid (∀ w, Calls Try.prog 90 #[.string s, .int .i64 ((at_ : Int) + 1)] w fun e w' => e = .returned (.tuple #[.int .i64 (m : Int), .int .i64 (nx : Int), .bool true]) ∧ w = w') := Lib.hid (fun w => by
    have := Sc.NumberR_any s ((at_ : Int) + 1) w (by omega)
    rwa [hn] at this)
  obtain ⟨v, hb, hh, hnn⟩ := h
  obtain ⟨c0, c1, c2, c3, c4, hf⟩ := rdr_cells hh
  have f1 := hf 1
  have i0 : (0 : Int) ≤ (at_ : Int) := by omega
  clear hh hnn hf
  have hx1 : (nx : Int) + 1 = (n1 : Int) := by omega
  have hc : (Tx.bs s)[nx]? = some 44 := by rw [gl h1, h2]
  have HR : Hid (boundsF (Tx.bs s) at_ = none) := Lib.hid (by unfold boundsF; rw [hn]; simp only; rw [if_pos hc, ← hn1]; rw [if_neg (by rw [gl h3, h4]; simp)]; exact finB_none (by intro e; omega))
  clear hn hc
  have k3 : (n1 : Int) < (s.size : Int) := by omega
  have e125 : ((s[n1].toNat : Int) != 125) = false := byte_M h4
  clear h4
  have e3 : (100 : Int) < (m : Int) := by omega
  have k0 : (0 : Int) ≤ (nx : Int) := by omega
  have k1 : (nx : Int) < (s.size : Int) := by omega
  have e44 : ((s[nx].toNat : Int) == 44) = true := byte_T h2
  have k2 : (0 : Int) ≤ (n1 : Int) := by omega
  clear h2
  clear hn1
  clear HSet0
  go_enter Try.func81, Try.ntmps81
  go_wp2_with fail
  go_quiet ((go_at_call 90; exact Calls.quiet_of_same ((HN.out _).mono fun _ _ h => ⟨h.1, h.2.symm⟩)))
  go_wp2_with (first | (go_at_call 28; refine (HFl.out _).mono ?_; rintro e w1 ⟨rfl, q1, q2, q3⟩; have Q := Lib.hid (And.intro q1 (And.intro q2 q3)); clear q1 q2 q3))
  go_ret2
  rw [HR.out]
  exact ⟨rfl, Q.out.1, below_drewN' _ Q.out.2.1, (KeptX.drewN _ _).trans Q.out.2.2⟩
set_option maxRecDepth 100000 in
set_option maxHeartbeats 2000000 in
theorem bounds_c3 (h : Rdr w base rb s at_ d 0 ns ks) (hs : s.size ≤ 1000000) (ha : at_ < s.size) (m nx : Nat) (hn : Sc.numF (Tx.bs s) ((at_ : Int) + 1) = some (m, nx)) (n1 : Nat) (hn1 : n1 = nx + 1) (h1 : nx < s.size) (h2 : s[nx] = 44) (h3 : n1 < s.size) (h4 : s[n1] = 125) (h5 : m ≤ 100) : Calls Try.prog 81 #[.pointer (some ⟨rb, 0, none⟩)] w (BPost w base rb s at_ d ns ks (boundsF (Tx.bs s) at_)) := by
  have HFl : Hid (∀ m, Calls Try.prog 28 #[.pointer (some ⟨rb, 0, none⟩), .int .i64 40] (w.drewN m) fun en w' => en = .returned (.int .i64 0) ∧ Rdr w' base rb s at_ d 40 ns ks ∧ Below base (w.drewN m) w' ∧ KeptR (w.drewN m) w') := Lib.hid (fun m => fail_first (h.drewN m) 40)
  have HSet0 : Hid (∀ (nx m : Nat), Rdr ((w.drewN m).setCell ⟨rb, 1, none⟩ (.int .i64 (nx : Int))) base rb s nx d 0 ns ks ∧ Below base w ((w.drewN m).setCell ⟨rb, 1, none⟩ (.int .i64 (nx : Int))) ∧ KeptR w ((w.drewN m).setCell ⟨rb, 1, none⟩ (.int .i64 (nx : Int)))) := Lib.hid (fun nx m => by
    obtain ⟨r1, r2, r3⟩ := (h.drewN m).setAt (nx : Int)
    exact ⟨r1, below_drewN' m r2, (KeptX.drewN _ _).trans r3⟩)
  have HN : Hid (∀ w, Calls Try.prog 90 #[.string s, .int .i64 ((at_ : Int) + 1)] w fun e w' => e = .returned (.tuple #[.int .i64 (m : Int), .int .i64 (nx : Int), .bool true]) ∧ w = w') := Lib.hid (fun w => by
    have := Sc.NumberR_any s ((at_ : Int) + 1) w (by omega)
    rwa [hn] at this)
  obtain ⟨v, hb, hh, hnn⟩ := h
  obtain ⟨c0, c1, c2, c3, c4, hf⟩ := rdr_cells hh
  have f1 := hf 1
  have i0 : (0 : Int) ≤ (at_ : Int) := by omega
  clear hh hnn hf
  have hx1 : (nx : Int) + 1 = (n1 : Int) := by omega
  have hc : (Tx.bs s)[nx]? = some 44 := by rw [gl h1, h2]
  have HR : Hid (boundsF (Tx.bs s) at_ = some (m, -1, n1)) := Lib.hid (by unfold boundsF; rw [hn]; simp only; rw [if_pos hc, ← hn1]; rw [if_neg (by rw [gl h3, h4]; simp)]; exact finB_some (by rw [gl h3, h4]) h5 (by omega) (fun h => by omega))
  clear hn hc
  have k3 : (n1 : Int) < (s.size : Int) := by omega
  have e125 : ((s[n1].toNat : Int) != 125) = false := byte_M h4
  clear h4
  have e3 : decide ((100 : Int) < (m : Int)) = false := by simp only [decide_eq_false_iff_not]; omega
  have k0 : (0 : Int) ≤ (nx : Int) := by omega
  have k1 : (nx : Int) < (s.size : Int) := by omega
  have e44 : ((s[nx].toNat : Int) == 44) = true := byte_T h2
  have k2 : (0 : Int) ≤ (n1 : Int) := by omega
  clear h2
  clear hn1
  have HSet := Lib.hid (HSet0.out n1)
  clear HFl HSet0
  go_enter Try.func81, Try.ntmps81
  go_wp2_with fail
  go_quiet ((go_at_call 90; exact Calls.quiet_of_same ((HN.out _).mono fun _ _ h => ⟨h.1, h.2.symm⟩)))
  go_wp2_with fail
  go_ret2
  rw [HR.out]
  exact ⟨rfl, HSet.out _⟩
set_option maxRecDepth 100000 in
set_option maxHeartbeats 2000000 in
theorem bounds_d0 (h : Rdr w base rb s at_ d 0 ns ks) (hs : s.size ≤ 1000000) (ha : at_ < s.size) (m nx : Nat) (hn : Sc.numF (Tx.bs s) ((at_ : Int) + 1) = some (m, nx)) (n1 : Nat) (hn1 : n1 = nx + 1) (h1 : nx < s.size) (h2 : s[nx] = 44) (h3 : n1 < s.size) (h4 : s[n1] ≠ 125) (hn2 : Sc.numF (Tx.bs s) ((nx : Int) + 1) = none) : Calls Try.prog 81 #[.pointer (some ⟨rb, 0, none⟩)] w (BPost w base rb s at_ d ns ks (boundsF (Tx.bs s) at_)) := by
  have HFl : Hid (∀ m, Calls Try.prog 28 #[.pointer (some ⟨rb, 0, none⟩), .int .i64 40] (w.drewN m) fun en w' => en = .returned (.int .i64 0) ∧ Rdr w' base rb s at_ d 40 ns ks ∧ Below base (w.drewN m) w' ∧ KeptR (w.drewN m) w') := Lib.hid (fun m => fail_first (h.drewN m) 40)
  have HSet0 : Hid (∀ (nx m : Nat), Rdr ((w.drewN m).setCell ⟨rb, 1, none⟩ (.int .i64 (nx : Int))) base rb s nx d 0 ns ks ∧ Below base w ((w.drewN m).setCell ⟨rb, 1, none⟩ (.int .i64 (nx : Int))) ∧ KeptR w ((w.drewN m).setCell ⟨rb, 1, none⟩ (.int .i64 (nx : Int)))) := Lib.hid (fun nx m => by
    obtain ⟨r1, r2, r3⟩ := (h.drewN m).setAt (nx : Int)
    exact ⟨r1, below_drewN' m r2, (KeptX.drewN _ _).trans r3⟩)
  have HN : Hid (∀ w, Calls Try.prog 90 #[.string s, .int .i64 ((at_ : Int) + 1)] w fun e w' => e = .returned (.tuple #[.int .i64 (m : Int), .int .i64 (nx : Int), .bool true]) ∧ w = w') := Lib.hid (fun w => by
    have := Sc.NumberR_any s ((at_ : Int) + 1) w (by omega)
    rwa [hn] at this)
  obtain ⟨v, hb, hh, hnn⟩ := h
  obtain ⟨c0, c1, c2, c3, c4, hf⟩ := rdr_cells hh
  have f1 := hf 1
  have i0 : (0 : Int) ≤ (at_ : Int) := by omega
  clear hh hnn hf
  have hx1 : (nx : Int) + 1 = (n1 : Int) := by omega
  have HN2 : Hid (∀ w, Calls Try.prog 90 #[.string s, .int .i64 (n1 : Int)] w fun e w' => e = .returned (.tuple #[.int .i64 0, .int .i64 0, .bool false]) ∧ w = w') := Lib.hid (fun w => by
    have := Sc.NumberR_any s ((nx : Int) + 1) w (by omega)
    rwa [hn2, hx1] at this)
  have hc : (Tx.bs s)[nx]? = some 44 := by rw [gl h1, h2]
  have HR : Hid (boundsF (Tx.bs s) at_ = none) := Lib.hid (by unfold boundsF; rw [hn]; simp only; rw [if_pos hc, ← hn1]; rw [if_pos ⟨by rw [Tx.bs_len]; exact h3, by rw [gl h3]; intro e; exact h4 (Option.some.inj e)⟩, hn2]; skip)
  clear hn hc hn2
  have k3 : (n1 : Int) < (s.size : Int) := by omega
  have e125 : ((s[n1].toNat : Int) != 125) = true := byte_N h4
  clear h4
  have k0 : (0 : Int) ≤ (nx : Int) := by omega
  have k1 : (nx : Int) < (s.size : Int) := by omega
  have e44 : ((s[nx].toNat : Int) == 44) = true := byte_T h2
  have k2 : (0 : Int) ≤ (n1 : Int) := by omega
  clear h2
  clear hn1
  clear HSet0
  go_enter Try.func81, Try.ntmps81
  go_wp2_with fail
  go_quiet ((go_at_call 90; exact Calls.quiet_of_same ((HN.out _).mono fun _ _ h => ⟨h.1, h.2.symm⟩)))
  go_wp2_with (first | (go_at_call 90; refine (HN2.out _).mono ?_; rintro e w1 ⟨rfl, rfl⟩) | (go_at_call 28; refine (HFl.out _).mono ?_; rintro e w1 ⟨rfl, q1, q2, q3⟩; have Q := Lib.hid (And.intro q1 (And.intro q2 q3)); clear q1 q2 q3))
  go_ret2
  rw [HR.out]
  exact ⟨rfl, Q.out.1, below_drewN' _ Q.out.2.1, (KeptX.drewN _ _).trans Q.out.2.2⟩
set_option maxRecDepth 100000 in
set_option maxHeartbeats 2000000 in
theorem bounds_d1 (h : Rdr w base rb s at_ d 0 ns ks) (hs : s.size ≤ 1000000) (ha : at_ < s.size) (m nx : Nat) (hn : Sc.numF (Tx.bs s) ((at_ : Int) + 1) = some (m, nx)) (n1 : Nat) (hn1 : n1 = nx + 1) (h1 : nx < s.size) (h2 : s[nx] = 44) (h3 : n1 < s.size) (h4 : s[n1] ≠ 125) (hv n2 : Nat) (hn2 : Sc.numF (Tx.bs s) ((nx : Int) + 1) = some (hv, n2)) (h5 : s.size ≤ n2) : Calls Try.prog 81 #[.pointer (some ⟨rb, 0, none⟩)] w (BPost w base rb s at_ d ns ks (boundsF (Tx.bs s) at_)) := by
  have HFl : Hid (∀ m, Calls Try.prog 28 #[.pointer (some ⟨rb, 0, none⟩), .int .i64 40] (w.drewN m) fun en w' => en = .returned (.int .i64 0) ∧ Rdr w' base rb s at_ d 40 ns ks ∧ Below base (w.drewN m) w' ∧ KeptR (w.drewN m) w') := Lib.hid (fun m => fail_first (h.drewN m) 40)
  have HSet0 : Hid (∀ (nx m : Nat), Rdr ((w.drewN m).setCell ⟨rb, 1, none⟩ (.int .i64 (nx : Int))) base rb s nx d 0 ns ks ∧ Below base w ((w.drewN m).setCell ⟨rb, 1, none⟩ (.int .i64 (nx : Int))) ∧ KeptR w ((w.drewN m).setCell ⟨rb, 1, none⟩ (.int .i64 (nx : Int)))) := Lib.hid (fun nx m => by
    obtain ⟨r1, r2, r3⟩ := (h.drewN m).setAt (nx : Int)
    exact ⟨r1, below_drewN' m r2, (KeptX.drewN _ _).trans r3⟩)
  have HN : Hid (∀ w, Calls Try.prog 90 #[.string s, .int .i64 ((at_ : Int) + 1)] w fun e w' => e = .returned (.tuple #[.int .i64 (m : Int), .int .i64 (nx : Int), .bool true]) ∧ w = w') := Lib.hid (fun w => by
    have := Sc.NumberR_any s ((at_ : Int) + 1) w (by omega)
    rwa [hn] at this)
  obtain ⟨v, hb, hh, hnn⟩ := h
  obtain ⟨c0, c1, c2, c3, c4, hf⟩ := rdr_cells hh
  have f1 := hf 1
  have i0 : (0 : Int) ≤ (at_ : Int) := by omega
  clear hh hnn hf
  have hx1 : (nx : Int) + 1 = (n1 : Int) := by omega
  have HN2 : Hid (∀ w, Calls Try.prog 90 #[.string s, .int .i64 (n1 : Int)] w fun e w' => e = .returned (.tuple #[.int .i64 (hv : Int), .int .i64 (n2 : Int), .bool true]) ∧ w = w') := Lib.hid (fun w => by
    have := Sc.NumberR_any s ((nx : Int) + 1) w (by omega)
    rwa [hn2, hx1] at this)
  have hc : (Tx.bs s)[nx]? = some 44 := by rw [gl h1, h2]
  have HR : Hid (boundsF (Tx.bs s) at_ = none) := Lib.hid (by unfold boundsF; rw [hn]; simp only; rw [if_pos hc, ← hn1]; rw [if_pos ⟨by rw [Tx.bs_len]; exact h3, by rw [gl h3]; intro e; exact h4 (Option.some.inj e)⟩, hn2]; exact finB_none (by rw [gn h5]; simp))
  clear hn hc hn2
  have k3 : (n1 : Int) < (s.size : Int) := by omega
  have e125 : ((s[n1].toNat : Int) != 125) = true := byte_N h4
  clear h4
  have k0 : (0 : Int) ≤ (nx : Int) := by omega
  have k1 : (nx : Int) < (s.size : Int) := by omega
  have e44 : ((s[nx].toNat : Int) == 44) = true := byte_T h2
  have k2 : (0 : Int) ≤ (n1 : Int) := by omega
  clear h2
  clear hn1
  have d1 : decide ((n2 : Int) < (s.size : Int)) = false := by simp only [decide_eq_false_iff_not]; omega
  have d2 : (s.size : Int) ≤ (n2 : Int) := by omega
  clear HSet0
  go_enter Try.func81, Try.ntmps81
  go_wp2_with fail
  go_quiet ((go_at_call 90; exact Calls.quiet_of_same ((HN.out _).mono fun _ _ h => ⟨h.1, h.2.symm⟩)))
  go_wp2_with (first | (go_at_call 90; refine (HN2.out _).mono ?_; rintro e w1 ⟨rfl, rfl⟩) | (go_at_call 28; refine (HFl.out _).mono ?_; rintro e w1 ⟨rfl, q1, q2, q3⟩; have Q := Lib.hid (And.intro q1 (And.intro q2 q3)); clear q1 q2 q3))
  go_ret2
  rw [HR.out]
  exact ⟨rfl, Q.out.1, below_drewN' _ Q.out.2.1, (KeptX.drewN _ _).trans Q.out.2.2⟩
set_option maxRecDepth 100000 in
set_option maxHeartbeats 2000000 in
theorem bounds_d2 (h : Rdr w base rb s at_ d 0 ns ks) (hs : s.size ≤ 1000000) (ha : at_ < s.size) (m nx : Nat) (hn : Sc.numF (Tx.bs s) ((at_ : Int) + 1) = some (m, nx)) (n1 : Nat) (hn1 : n1 = nx + 1) (h1 : nx < s.size) (h2 : s[nx] = 44) (h3 : n1 < s.size) (h4 : s[n1] ≠ 125) (hv n2 : Nat) (hn2 : Sc.numF (Tx.bs s) ((nx : Int) + 1) = some (hv, n2)) (h5 : n2 < s.size) (h6 : s[n2] ≠ 125) : Calls Try.prog 81 #[.pointer (some ⟨rb, 0, none⟩)] w (BPost w base rb s at_ d ns ks (boundsF (Tx.bs s) at_)) := by
  have HFl : Hid (∀ m, Calls Try.prog 28 #[.pointer (some ⟨rb, 0, none⟩), .int .i64 40] (w.drewN m) fun en w' => en = .returned (.int .i64 0) ∧ Rdr w' base rb s at_ d 40 ns ks ∧ Below base (w.drewN m) w' ∧ KeptR (w.drewN m) w') := Lib.hid (fun m => fail_first (h.drewN m) 40)
  have HSet0 : Hid (∀ (nx m : Nat), Rdr ((w.drewN m).setCell ⟨rb, 1, none⟩ (.int .i64 (nx : Int))) base rb s nx d 0 ns ks ∧ Below base w ((w.drewN m).setCell ⟨rb, 1, none⟩ (.int .i64 (nx : Int))) ∧ KeptR w ((w.drewN m).setCell ⟨rb, 1, none⟩ (.int .i64 (nx : Int)))) := Lib.hid (fun nx m => by
    obtain ⟨r1, r2, r3⟩ := (h.drewN m).setAt (nx : Int)
    exact ⟨r1, below_drewN' m r2, (KeptX.drewN _ _).trans r3⟩)
  have HN : Hid (∀ w, Calls Try.prog 90 #[.string s, .int .i64 ((at_ : Int) + 1)] w fun e w' => e = .returned (.tuple #[.int .i64 (m : Int), .int .i64 (nx : Int), .bool true]) ∧ w = w') := Lib.hid (fun w => by
    have := Sc.NumberR_any s ((at_ : Int) + 1) w (by omega)
    rwa [hn] at this)
  obtain ⟨v, hb, hh, hnn⟩ := h
  obtain ⟨c0, c1, c2, c3, c4, hf⟩ := rdr_cells hh
  have f1 := hf 1
  have i0 : (0 : Int) ≤ (at_ : Int) := by omega
  clear hh hnn hf
  have hx1 : (nx : Int) + 1 = (n1 : Int) := by omega
  have HN2 : Hid (∀ w, Calls Try.prog 90 #[.string s, .int .i64 (n1 : Int)] w fun e w' => e = .returned (.tuple #[.int .i64 (hv : Int), .int .i64 (n2 : Int), .bool true]) ∧ w = w') := Lib.hid (fun w => by
    have := Sc.NumberR_any s ((nx : Int) + 1) w (by omega)
    rwa [hn2, hx1] at this)
  have hc : (Tx.bs s)[nx]? = some 44 := by rw [gl h1, h2]
  have HR : Hid (boundsF (Tx.bs s) at_ = none) := Lib.hid (by unfold boundsF; rw [hn]; simp only; rw [if_pos hc, ← hn1]; rw [if_pos ⟨by rw [Tx.bs_len]; exact h3, by rw [gl h3]; intro e; exact h4 (Option.some.inj e)⟩, hn2]; exact finB_none (by rw [gl h5]; intro e; exact h6 (Option.some.inj e.1)))
  clear hn hc hn2
  have k3 : (n1 : Int) < (s.size : Int) := by omega
  have e125 : ((s[n1].toNat : Int) != 125) = true := byte_N h4
  clear h4
  have k0 : (0 : Int) ≤ (nx : Int) := by omega
  have k1 : (nx : Int) < (s.size : Int) := by omega
  have e44 : ((s[nx].toNat : Int) == 44) = true := byte_T h2
  have k2 : (0 : Int) ≤ (n1 : Int) := by omega
  clear h2
  clear hn1
  have k5 : (0 : Int) ≤ (n2 : Int) := by omega
  have k6 : (n2 : Int) < (s.size : Int) := by omega
  have e2 : ((s[n2].toNat : Int) != 125) = true := byte_N h6
  clear h6
  clear HSet0
  go_enter Try.func81, Try.ntmps81
  go_wp2_with fail
  go_quiet ((go_at_call 90; exact Calls.quiet_of_same ((HN.out _).mono fun _ _ h => ⟨h.1, h.2.symm⟩)))
  go_wp2_with (first | (go_at_call 90; refine (HN2.out _).mono ?_; rintro e w1 ⟨rfl, rfl⟩) | (go_at_call 28; refine (HFl.out _).mono ?_; rintro e w1 ⟨rfl, q1, q2, q3⟩; have Q := Lib.hid (And.intro q1 (And.intro q2 q3)); clear q1 q2 q3))
  go_ret2
  rw [HR.out]
  exact ⟨rfl, Q.out.1, below_drewN' _ Q.out.2.1, (KeptX.drewN _ _).trans Q.out.2.2⟩
set_option maxRecDepth 100000 in
set_option maxHeartbeats 2000000 in
theorem bounds_d3 (h : Rdr w base rb s at_ d 0 ns ks) (hs : s.size ≤ 1000000) (ha : at_ < s.size) (m nx : Nat) (hn : Sc.numF (Tx.bs s) ((at_ : Int) + 1) = some (m, nx)) (n1 : Nat) (hn1 : n1 = nx + 1) (h1 : nx < s.size) (h2 : s[nx] = 44) (h3 : n1 < s.size) (h4 : s[n1] ≠ 125) (hv n2 : Nat) (hn2 : Sc.numF (Tx.bs s) ((nx : Int) + 1) = some (hv, n2)) (h5 : n2 < s.size) (h6 : s[n2] = 125) (h7 : 100 < m) : Calls Try.prog 81 #[.pointer (some ⟨rb, 0, none⟩)] w (BPost w base rb s at_ d ns ks (boundsF (Tx.bs s) at_)) := by
  have HFl : Hid (∀ m, Calls Try.prog 28 #[.pointer (some ⟨rb, 0, none⟩), .int .i64 40] (w.drewN m) fun en w' => en = .returned (.int .i64 0) ∧ Rdr w' base rb s at_ d 40 ns ks ∧ Below base (w.drewN m) w' ∧ KeptR (w.drewN m) w') := Lib.hid (fun m => fail_first (h.drewN m) 40)
  have HSet0 : Hid (∀ (nx m : Nat), Rdr ((w.drewN m).setCell ⟨rb, 1, none⟩ (.int .i64 (nx : Int))) base rb s nx d 0 ns ks ∧ Below base w ((w.drewN m).setCell ⟨rb, 1, none⟩ (.int .i64 (nx : Int))) ∧ KeptR w ((w.drewN m).setCell ⟨rb, 1, none⟩ (.int .i64 (nx : Int)))) := Lib.hid (fun nx m => by
    obtain ⟨r1, r2, r3⟩ := (h.drewN m).setAt (nx : Int)
    exact ⟨r1, below_drewN' m r2, (KeptX.drewN _ _).trans r3⟩)
  have HN : Hid (∀ w, Calls Try.prog 90 #[.string s, .int .i64 ((at_ : Int) + 1)] w fun e w' => e = .returned (.tuple #[.int .i64 (m : Int), .int .i64 (nx : Int), .bool true]) ∧ w = w') := Lib.hid (fun w => by
    have := Sc.NumberR_any s ((at_ : Int) + 1) w (by omega)
    rwa [hn] at this)
  obtain ⟨v, hb, hh, hnn⟩ := h
  obtain ⟨c0, c1, c2, c3, c4, hf⟩ := rdr_cells hh
  have f1 := hf 1
  have i0 : (0 : Int) ≤ (at_ : Int) := by omega
  clear hh hnn hf
  have hx1 : (nx : Int) + 1 = (n1 : Int) := by omega
  have HN2 : Hid (∀ w, Calls Try.prog 90 #[.string s, .int .i64 (n1 : Int)] w fun e w' => e = .returned (.tuple #[.int .i64 (hv : Int), .int .i64 (n2 : Int), .bool true]) ∧ w = w') := Lib.hid (fun w => by
    have := Sc.NumberR_any s ((nx : Int) + 1) w (by omega)
    rwa [hn2, hx1] at this)
  have hc : (Tx.bs s)[nx]? = some 44 := by rw [gl h1, h2]
  have HR : Hid (boundsF (Tx.bs s) at_ = none) := Lib.hid (by unfold boundsF; rw [hn]; simp only; rw [if_pos hc, ← hn1]; rw [if_pos ⟨by rw [Tx.bs_len]; exact h3, by rw [gl h3]; intro e; exact h4 (Option.some.inj e)⟩, hn2]; exact finB_none (by intro e; omega))
  clear hn hc hn2
  have k3 : (n1 : Int) < (s.size : Int) := by omega
  have e125 : ((s[n1].toNat : Int) != 125) = true := byte_N h4
  clear h4
  have k0 : (0 : Int) ≤ (nx : Int) := by omega
  have k1 : (nx : Int) < (s.size : Int) := by omega
  have e44 : ((s[nx].toNat : Int) == 44) = true := byte_T h2
  have k2 : (0 : Int) ≤ (n1 : Int) := by omega
  clear h2
  clear hn1
  have k5 : (0 : Int) ≤ (n2 : Int) := by omega
  have k6 : (n2 : Int) < (s.size : Int) := by omega
  have e2 : ((s[n2].toNat : Int) != 125) = false := byte_M h6
  clear h6
  have e3 : (100 : Int) < (m : Int) := by omega
  clear HSet0
  go_enter Try.func81, Try.ntmps81
  go_wp2_with fail
  go_quiet ((go_at_call 90; exact Calls.quiet_of_same ((HN.out _).mono fun _ _ h => ⟨h.1, h.2.symm⟩)))
  go_wp2_with (first | (go_at_call 90; refine (HN2.out _).mono ?_; rintro e w1 ⟨rfl, rfl⟩) | (go_at_call 28; refine (HFl.out _).mono ?_; rintro e w1 ⟨rfl, q1, q2, q3⟩; have Q := Lib.hid (And.intro q1 (And.intro q2 q3)); clear q1 q2 q3))
  go_ret2
  rw [HR.out]
  exact ⟨rfl, Q.out.1, below_drewN' _ Q.out.2.1, (KeptX.drewN _ _).trans Q.out.2.2⟩
set_option maxRecDepth 100000 in
set_option maxHeartbeats 2000000 in
theorem bounds_d4 (h : Rdr w base rb s at_ d 0 ns ks) (hs : s.size ≤ 1000000) (ha : at_ < s.size) (m nx : Nat) (hn : Sc.numF (Tx.bs s) ((at_ : Int) + 1) = some (m, nx)) (n1 : Nat) (hn1 : n1 = nx + 1) (h1 : nx < s.size) (h2 : s[nx] = 44) (h3 : n1 < s.size) (h4 : s[n1] ≠ 125) (hv n2 : Nat) (hn2 : Sc.numF (Tx.bs s) ((nx : Int) + 1) = some (hv, n2)) (h5 : n2 < s.size) (h6 : s[n2] = 125) (h7 : m ≤ 100) (h8 : 100 < hv) : Calls Try.prog 81 #[.pointer (some ⟨rb, 0, none⟩)] w (BPost w base rb s at_ d ns ks (boundsF (Tx.bs s) at_)) := by
  have HFl : Hid (∀ m, Calls Try.prog 28 #[.pointer (some ⟨rb, 0, none⟩), .int .i64 40] (w.drewN m) fun en w' => en = .returned (.int .i64 0) ∧ Rdr w' base rb s at_ d 40 ns ks ∧ Below base (w.drewN m) w' ∧ KeptR (w.drewN m) w') := Lib.hid (fun m => fail_first (h.drewN m) 40)
  have HSet0 : Hid (∀ (nx m : Nat), Rdr ((w.drewN m).setCell ⟨rb, 1, none⟩ (.int .i64 (nx : Int))) base rb s nx d 0 ns ks ∧ Below base w ((w.drewN m).setCell ⟨rb, 1, none⟩ (.int .i64 (nx : Int))) ∧ KeptR w ((w.drewN m).setCell ⟨rb, 1, none⟩ (.int .i64 (nx : Int)))) := Lib.hid (fun nx m => by
    obtain ⟨r1, r2, r3⟩ := (h.drewN m).setAt (nx : Int)
    exact ⟨r1, below_drewN' m r2, (KeptX.drewN _ _).trans r3⟩)
  have HN : Hid (∀ w, Calls Try.prog 90 #[.string s, .int .i64 ((at_ : Int) + 1)] w fun e w' => e = .returned (.tuple #[.int .i64 (m : Int), .int .i64 (nx : Int), .bool true]) ∧ w = w') := Lib.hid (fun w => by
    have := Sc.NumberR_any s ((at_ : Int) + 1) w (by omega)
    rwa [hn] at this)
  obtain ⟨v, hb, hh, hnn⟩ := h
  obtain ⟨c0, c1, c2, c3, c4, hf⟩ := rdr_cells hh
  have f1 := hf 1
  have i0 : (0 : Int) ≤ (at_ : Int) := by omega
  clear hh hnn hf
  have hx1 : (nx : Int) + 1 = (n1 : Int) := by omega
  have HN2 : Hid (∀ w, Calls Try.prog 90 #[.string s, .int .i64 (n1 : Int)] w fun e w' => e = .returned (.tuple #[.int .i64 (hv : Int), .int .i64 (n2 : Int), .bool true]) ∧ w = w') := Lib.hid (fun w => by
    have := Sc.NumberR_any s ((nx : Int) + 1) w (by omega)
    rwa [hn2, hx1] at this)
  have hc : (Tx.bs s)[nx]? = some 44 := by rw [gl h1, h2]
  have HR : Hid (boundsF (Tx.bs s) at_ = none) := Lib.hid (by unfold boundsF; rw [hn]; simp only; rw [if_pos hc, ← hn1]; rw [if_pos ⟨by rw [Tx.bs_len]; exact h3, by rw [gl h3]; intro e; exact h4 (Option.some.inj e)⟩, hn2]; exact finB_none (by intro e; omega))
  clear hn hc hn2
  have k3 : (n1 : Int) < (s.size : Int) := by omega
  have e125 : ((s[n1].toNat : Int) != 125) = true := byte_N h4
  clear h4
  have k0 : (0 : Int) ≤ (nx : Int) := by omega
  have k1 : (nx : Int) < (s.size : Int) := by omega
  have e44 : ((s[nx].toNat : Int) == 44) = true := byte_T h2
  have k2 : (0 : Int) ≤ (n1 : Int) := by omega
  clear h2
  clear hn1
  have k5 : (0 : Int) ≤ (n2 : Int) := by omega
  have k6 : (n2 : Int) < (s.size : Int) := by omega
  have e2 : ((s[n2].toNat : Int) != 125) = false := byte_M h6
  clear h6
  have e3 : decide ((100 : Int) < (m : Int)) = false := by simp only [decide_eq_false_iff_not]; omega
  have e4 : (100 : Int) < (hv : Int) := by omega
  clear HSet0
  go_enter Try.func81, Try.ntmps81
  go_wp2_with fail
  go_quiet ((go_at_call 90; exact Calls.quiet_of_same ((HN.out _).mono fun _ _ h => ⟨h.1, h.2.symm⟩)))
  go_wp2_with (first | (go_at_call 90; refine (HN2.out _).mono ?_; rintro e w1 ⟨rfl, rfl⟩) | (go_at_call 28; refine (HFl.out _).mono ?_; rintro e w1 ⟨rfl, q1, q2, q3⟩; have Q := Lib.hid (And.intro q1 (And.intro q2 q3)); clear q1 q2 q3))
  go_ret2
  rw [HR.out]
  exact ⟨rfl, Q.out.1, below_drewN' _ Q.out.2.1, (KeptX.drewN _ _).trans Q.out.2.2⟩
set_option maxRecDepth 100000 in
set_option maxHeartbeats 2000000 in
theorem bounds_d5 (h : Rdr w base rb s at_ d 0 ns ks) (hs : s.size ≤ 1000000) (ha : at_ < s.size) (m nx : Nat) (hn : Sc.numF (Tx.bs s) ((at_ : Int) + 1) = some (m, nx)) (n1 : Nat) (hn1 : n1 = nx + 1) (h1 : nx < s.size) (h2 : s[nx] = 44) (h3 : n1 < s.size) (h4 : s[n1] ≠ 125) (hv n2 : Nat) (hn2 : Sc.numF (Tx.bs s) ((nx : Int) + 1) = some (hv, n2)) (h5 : n2 < s.size) (h6 : s[n2] = 125) (h7 : m ≤ 100) (h8 : hv ≤ 100) (h9 : hv < m) : Calls Try.prog 81 #[.pointer (some ⟨rb, 0, none⟩)] w (BPost w base rb s at_ d ns ks (boundsF (Tx.bs s) at_)) := by
  have HFl : Hid (∀ m, Calls Try.prog 28 #[.pointer (some ⟨rb, 0, none⟩), .int .i64 40] (w.drewN m) fun en w' => en = .returned (.int .i64 0) ∧ Rdr w' base rb s at_ d 40 ns ks ∧ Below base (w.drewN m) w' ∧ KeptR (w.drewN m) w') := Lib.hid (fun m => fail_first (h.drewN m) 40)
  have HSet0 : Hid (∀ (nx m : Nat), Rdr ((w.drewN m).setCell ⟨rb, 1, none⟩ (.int .i64 (nx : Int))) base rb s nx d 0 ns ks ∧ Below base w ((w.drewN m).setCell ⟨rb, 1, none⟩ (.int .i64 (nx : Int))) ∧ KeptR w ((w.drewN m).setCell ⟨rb, 1, none⟩ (.int .i64 (nx : Int)))) := Lib.hid (fun nx m => by
    obtain ⟨r1, r2, r3⟩ := (h.drewN m).setAt (nx : Int)
    exact ⟨r1, below_drewN' m r2, (KeptX.drewN _ _).trans r3⟩)
  have HN : Hid (∀ w, Calls Try.prog 90 #[.string s, .int .i64 ((at_ : Int) + 1)] w fun e w' => e = .returned (.tuple #[.int .i64 (m : Int), .int .i64 (nx : Int), .bool true]) ∧ w = w') := Lib.hid (fun w => by
    have := Sc.NumberR_any s ((at_ : Int) + 1) w (by omega)
    rwa [hn] at this)
  obtain ⟨v, hb, hh, hnn⟩ := h
  obtain ⟨c0, c1, c2, c3, c4, hf⟩ := rdr_cells hh
  have f1 := hf 1
  have i0 : (0 : Int) ≤ (at_ : Int) := by omega
  clear hh hnn hf
  have hx1 : (nx : Int) + 1 = (n1 : Int) := by omega
  have HN2 : Hid (∀ w, Calls Try.prog 90 #[.string s, .int .i64 (n1 : Int)] w fun e w' => e = .returned (.tuple #[.int .i64 (hv : Int), .int .i64 (n2 : Int), .bool true]) ∧ w = w') := Lib.hid (fun w => by
    have := Sc.NumberR_any s ((nx : Int) + 1) w (by omega)
    rwa [hn2, hx1] at this)
  have hc : (Tx.bs s)[nx]? = some 44 := by rw [gl h1, h2]
  have HR : Hid (boundsF (Tx.bs s) at_ = none) := Lib.hid (by unfold boundsF; rw [hn]; simp only; rw [if_pos hc, ← hn1]; rw [if_pos ⟨by rw [Tx.bs_len]; exact h3, by rw [gl h3]; intro e; exact h4 (Option.some.inj e)⟩, hn2]; exact finB_none (by intro e; have := e.2.2.2 (by omega); omega))
  clear hn hc hn2
  have k3 : (n1 : Int) < (s.size : Int) := by omega
  have e125 : ((s[n1].toNat : Int) != 125) = true := byte_N h4
  clear h4
  have k0 : (0 : Int) ≤ (nx : Int) := by omega
  have k1 : (nx : Int) < (s.size : Int) := by omega
  have e44 : ((s[nx].toNat : Int) == 44) = true := byte_T h2
  have k2 : (0 : Int) ≤ (n1 : Int) := by omega
  clear h2
  clear hn1
  have k5 : (0 : Int) ≤ (n2 : Int) := by omega
  have k6 : (n2 : Int) < (s.size : Int) := by omega
  have e2 : ((s[n2].toNat : Int) != 125) = false := byte_M h6
  clear h6
  have e3 : decide ((100 : Int) < (m : Int)) = false := by simp only [decide_eq_false_iff_not]; omega
  have e4 : decide ((100 : Int) < (hv : Int)) = false := by simp only [decide_eq_false_iff_not]; omega
  have e5 : (0 : Int) ≤ (hv : Int) := by omega
  have e6 : (hv : Int) < (m : Int) := by omega
  clear HSet0
  go_enter Try.func81, Try.ntmps81
  go_wp2_with fail
  go_quiet ((go_at_call 90; exact Calls.quiet_of_same ((HN.out _).mono fun _ _ h => ⟨h.1, h.2.symm⟩)))
  go_wp2_with (first | (go_at_call 90; refine (HN2.out _).mono ?_; rintro e w1 ⟨rfl, rfl⟩) | (go_at_call 28; refine (HFl.out _).mono ?_; rintro e w1 ⟨rfl, q1, q2, q3⟩; have Q := Lib.hid (And.intro q1 (And.intro q2 q3)); clear q1 q2 q3))
  go_ret2
  rw [HR.out]
  exact ⟨rfl, Q.out.1, below_drewN' _ Q.out.2.1, (KeptX.drewN _ _).trans Q.out.2.2⟩
set_option maxRecDepth 100000 in
set_option maxHeartbeats 2000000 in
theorem bounds_d6 (h : Rdr w base rb s at_ d 0 ns ks) (hs : s.size ≤ 1000000) (ha : at_ < s.size) (m nx : Nat) (hn : Sc.numF (Tx.bs s) ((at_ : Int) + 1) = some (m, nx)) (n1 : Nat) (hn1 : n1 = nx + 1) (h1 : nx < s.size) (h2 : s[nx] = 44) (h3 : n1 < s.size) (h4 : s[n1] ≠ 125) (hv n2 : Nat) (hn2 : Sc.numF (Tx.bs s) ((nx : Int) + 1) = some (hv, n2)) (h5 : n2 < s.size) (h6 : s[n2] = 125) (h7 : m ≤ 100) (h8 : hv ≤ 100) (h9 : m ≤ hv) : Calls Try.prog 81 #[.pointer (some ⟨rb, 0, none⟩)] w (BPost w base rb s at_ d ns ks (boundsF (Tx.bs s) at_)) := by
  have HFl : Hid (∀ m, Calls Try.prog 28 #[.pointer (some ⟨rb, 0, none⟩), .int .i64 40] (w.drewN m) fun en w' => en = .returned (.int .i64 0) ∧ Rdr w' base rb s at_ d 40 ns ks ∧ Below base (w.drewN m) w' ∧ KeptR (w.drewN m) w') := Lib.hid (fun m => fail_first (h.drewN m) 40)
  have HSet0 : Hid (∀ (nx m : Nat), Rdr ((w.drewN m).setCell ⟨rb, 1, none⟩ (.int .i64 (nx : Int))) base rb s nx d 0 ns ks ∧ Below base w ((w.drewN m).setCell ⟨rb, 1, none⟩ (.int .i64 (nx : Int))) ∧ KeptR w ((w.drewN m).setCell ⟨rb, 1, none⟩ (.int .i64 (nx : Int)))) := Lib.hid (fun nx m => by
    obtain ⟨r1, r2, r3⟩ := (h.drewN m).setAt (nx : Int)
    exact ⟨r1, below_drewN' m r2, (KeptX.drewN _ _).trans r3⟩)
  have HN : Hid (∀ w, Calls Try.prog 90 #[.string s, .int .i64 ((at_ : Int) + 1)] w fun e w' => e = .returned (.tuple #[.int .i64 (m : Int), .int .i64 (nx : Int), .bool true]) ∧ w = w') := Lib.hid (fun w => by
    have := Sc.NumberR_any s ((at_ : Int) + 1) w (by omega)
    rwa [hn] at this)
  obtain ⟨v, hb, hh, hnn⟩ := h
  obtain ⟨c0, c1, c2, c3, c4, hf⟩ := rdr_cells hh
  have f1 := hf 1
  have i0 : (0 : Int) ≤ (at_ : Int) := by omega
  clear hh hnn hf
  have hx1 : (nx : Int) + 1 = (n1 : Int) := by omega
  have HN2 : Hid (∀ w, Calls Try.prog 90 #[.string s, .int .i64 (n1 : Int)] w fun e w' => e = .returned (.tuple #[.int .i64 (hv : Int), .int .i64 (n2 : Int), .bool true]) ∧ w = w') := Lib.hid (fun w => by
    have := Sc.NumberR_any s ((nx : Int) + 1) w (by omega)
    rwa [hn2, hx1] at this)
  have hc : (Tx.bs s)[nx]? = some 44 := by rw [gl h1, h2]
  have HR : Hid (boundsF (Tx.bs s) at_ = some (m, (hv : Int), n2)) := Lib.hid (by unfold boundsF; rw [hn]; simp only; rw [if_pos hc, ← hn1]; rw [if_pos ⟨by rw [Tx.bs_len]; exact h3, by rw [gl h3]; intro e; exact h4 (Option.some.inj e)⟩, hn2]; exact finB_some (by rw [gl h5, h6]) h7 (by omega) (fun _ => by omega))
  clear hn hc hn2
  have k3 : (n1 : Int) < (s.size : Int) := by omega
  have e125 : ((s[n1].toNat : Int) != 125) = true := byte_N h4
  clear h4
  have k0 : (0 : Int) ≤ (nx : Int) := by omega
  have k1 : (nx : Int) < (s.size : Int) := by omega
  have e44 : ((s[nx].toNat : Int) == 44) = true := byte_T h2
  have k2 : (0 : Int) ≤ (n1 : Int) := by omega
  clear h2
  clear hn1
  have k5 : (0 : Int) ≤ (n2 : Int) := by omega
  have k6 : (n2 : Int) < (s.size : Int) := by omega
  have e2 : ((s[n2].toNat : Int) != 125) = false := byte_M h6
  clear h6
  have e3 : decide ((100 : Int) < (m : Int)) = false := by simp only [decide_eq_false_iff_not]; omega
  have e4 : decide ((100 : Int) < (hv : Int)) = false := by simp only [decide_eq_false_iff_not]; omega
  have e5 : (0 : Int) ≤ (hv : Int) := by omega
  have e6 : decide (hv < m) = false := by simp only [decide_eq_false_iff_not]; omega
  have HSet := Lib.hid (HSet0.out n2)
  clear HFl HSet0
  go_enter Try.func81, Try.ntmps81
  go_wp2_with fail
  go_quiet ((go_at_call 90; exact Calls.quiet_of_same ((HN.out _).mono fun _ _ h => ⟨h.1, h.2.symm⟩)))
  go_wp2_with (first | (go_at_call 90; refine (HN2.out _).mono ?_; rintro e w1 ⟨rfl, rfl⟩))
  go_ret2
  rw [HR.out]
  exact ⟨rfl, HSet.out _⟩
theorem bounds_any (h : Rdr w base rb s at_ d 0 ns ks) (hs : s.size ≤ 1000000) (ha : at_ < s.size) : Calls Try.prog 81 #[.pointer (some ⟨rb, 0, none⟩)] w (BPost w base rb s at_ d ns ks (boundsF (Tx.bs s) at_)) := by
  cases hn : Sc.numF (Tx.bs s) ((at_ : Int) + 1) with
  | none => exact bounds_a h hs ha hn
  | some p =>
    obtain ⟨m, nx⟩ := p
    by_cases h1 : nx < s.size
    · by_cases h2 : s[nx] = 44
      · by_cases h3 : nx + 1 < s.size
        · by_cases h4 : s[nx + 1] = 125
          · by_cases h5 : m ≤ 100
            · exact bounds_c3 h hs ha m nx hn _ rfl h1 h2 h3 h4 h5
            · exact bounds_c2 h hs ha m nx hn _ rfl h1 h2 h3 h4 (by omega)
          · cases hn2 : Sc.numF (Tx.bs s) ((nx : Int) + 1) with
            | none => exact bounds_d0 h hs ha m nx hn _ rfl h1 h2 h3 h4 hn2
            | some p2 =>
              obtain ⟨hv, n2⟩ := p2
              by_cases h5 : n2 < s.size
              · by_cases h6 : s[n2] = 125
                · by_cases h7 : m ≤ 100
                  · by_cases h8 : hv ≤ 100
                    · by_cases h9 : m ≤ hv
                      · exact bounds_d6 h hs ha m nx hn _ rfl h1 h2 h3 h4 hv n2 hn2 h5 h6 h7 h8 h9
                      · exact bounds_d5 h hs ha m nx hn _ rfl h1 h2 h3 h4 hv n2 hn2 h5 h6 h7 h8 (by omega)
                    · exact bounds_d4 h hs ha m nx hn _ rfl h1 h2 h3 h4 hv n2 hn2 h5 h6 h7 (by omega)
                  · exact bounds_d3 h hs ha m nx hn _ rfl h1 h2 h3 h4 hv n2 hn2 h5 h6 (by omega)
                · exact bounds_d2 h hs ha m nx hn _ rfl h1 h2 h3 h4 hv n2 hn2 h5 h6
              · exact bounds_d1 h hs ha m nx hn _ rfl h1 h2 h3 h4 hv n2 hn2 (by omega)
        · exact bounds_c1 h hs ha m nx hn _ rfl h1 h2 (by omega)
      · by_cases h3 : s[nx] = 125
        · by_cases h4 : m ≤ 100
          · exact bounds_b4 h hs ha m nx hn h1 h3 h4
          · exact bounds_b3 h hs ha m nx hn h1 h3 (by omega)
        · exact bounds_b2 h hs ha m nx hn h1 h2 h3
    · exact bounds_b1 h hs ha m nx hn (by omega)
end
end Rx
end Go.Proofs.Ytebljjdhgepfkaa

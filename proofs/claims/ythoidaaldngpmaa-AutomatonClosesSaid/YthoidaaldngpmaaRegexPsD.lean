/-
  The program's parser: quantifiers. Conditions: short patterns, at most a million nodes.
-/
import Derived.Test.YthoidaaldngpmaaRegexPsC
namespace Go.Proofs.Ythoidaaldngpmaa
open Go.RowKit
namespace Px
open Cm Rx
section
variable {w w0 : World} {base rb : Nat} {s : ByteArray} {a : Nat} {D : Int} {ns : List Nd} {ks : List Value}
/-- What 'quantified' leaves. -/
def QPost (w0 : World) (n : Nat) (base rb : Nat) (s : ByteArray) (a : Nat) (D : Int) (ns : List Nd) (ks : List Value) (k : Int) (r : Option (Option (Nat × Int × Nat))) (en : Ending) (w' : World) : Prop :=
  match r with
  | none => en = .returned (.int .i64 k) ∧ St w0 base rb s a D ns ks w'
  | some none => en = pan 40 ∧ Below base w0 w'
  | some (some (m, h, a2)) => en = .returned (.int .i64 (ns.length : Int)) ∧ ∃ kv, St w0 base rb s (a2 + 1) D (ns ++ [repN m h k]) (ks ++ [kv]) w' ∧ Late n kv
theorem rep_St (h : St w0 base rb s a D ns ks w) (hl : ns.length ≤ 1000000) (mn mx k : Int) (n : Nat) (hn : n ≤ w.heap.size) :
    Calls Try.prog 99 #[.pointer (some ⟨rb, 0, none⟩), .agg #[.int .i64 6, .int .u64 0, .int .u64 0, .int .u64 0, .int .u64 0, .int .i64 mn, .int .i64 mx, .slice (some ⟨w.heap.size, 0, none⟩) 1 1]] (w.alloc (.cells #[.int .i64 k] tInt))
      fun en w' => en = .returned (.int .i64 (ns.length : Int)) ∧ ∃ kv, St w0 base rb s a D (ns ++ [repN mn mx k]) (ks ++ [kv]) w' ∧ Late n kv := by
  have hb := h.1.size
  have := add_St (h.below ((Below.refl _ _).alloc (Nat.le_refl _) (.cells #[.int .i64 k] tInt))) (repN mn mx k) (.slice (some ⟨w.heap.size, 0, none⟩) 1 1) (one_own' hb k) hl
  unfold ndV at this
  simp only [repN, show ∀ j, word noSet j = 0 from fun j => word_none j] at this
  exact this.mono fun en w' hp => ⟨hp.1, _, hp.2, late_at hn _ _ _ _⟩
theorem St.le (h : St w0 base rb s a D ns ks w) : w0.heap.size ≤ w.heap.size := h.2.1.size
set_option maxRecDepth 100000 in
set_option maxHeartbeats 2000000 in
theorem quant_any (h : St w0 base rb s a D ns ks w) (hs : s.size ≤ 1000000) (ha : a ≤ s.size) (hl : ns.length ≤ 1000000) (k : Int) :
    Calls Try.prog 125 #[.pointer (some ⟨rb, 0, none⟩), .int .i64 k] w (QPost w0 w0.heap.size base rb s a D ns ks k (quantF (Tx.bs s) a)) := by
  by_cases h42 : (Tx.bs s)[a]? = some 42
  · have HR : Hid (quantF (Tx.bs s) a = some (some (0, -1, a))) := Lib.hid (by unfold quantF; rw [h42]; rfl)
    have T1 := Lib.hid (take_T h hs h42 42 rfl)
    have HA := Lib.hid (fun wq (hq : St w0 base rb s (a + 1) D ns ks wq) => rep_St hq hl 0 (-1) k w0.heap.size (St.le hq))
    clear h h42
    go_enter Try.func125, Try.ntmps125
    go_wp2_with fail
    refine T1.out.mono ?_
    rintro en w1 ⟨rfl, S1⟩
    have HS1 := Lib.hid S1
    clear S1
    go_wp2_with fail
    refine (HA.out _ HS1.out).mono ?_
    rintro en w2 ⟨rfl, S2⟩
    have HS2 := Lib.hid S2
    clear S2
    go_wp2_with fail
    go_ret
    rw [HR.out]
    exact ⟨rfl, HS2.out⟩
  by_cases h43 : (Tx.bs s)[a]? = some 43
  · have HR : Hid (quantF (Tx.bs s) a = some (some (1, -1, a))) := Lib.hid (by unfold quantF; rw [h43]; rfl)
    have T1 := Lib.hid (take_F h hs ha h42 42 rfl)
    have T2 := Lib.hid (fun wq (hq : St w0 base rb s a D ns ks wq) => take_T hq hs h43 43 rfl)
    have HA := Lib.hid (fun wq (hq : St w0 base rb s (a + 1) D ns ks wq) => rep_St hq hl 1 (-1) k w0.heap.size (St.le hq))
    clear h h42 h43
    go_enter Try.func125, Try.ntmps125
    go_wp2_with fail
    refine T1.out.mono ?_
    rintro en w1 ⟨rfl, S1⟩
    have HS1 := Lib.hid S1
    clear S1
    go_wp2_with fail
    refine (T2.out _ HS1.out).mono ?_
    rintro en w2 ⟨rfl, S2⟩
    have HS2 := Lib.hid S2
    clear S2
    go_wp2_with fail
    refine (HA.out _ HS2.out).mono ?_
    rintro en w3 ⟨rfl, S3⟩
    have HS3 := Lib.hid S3
    clear S3
    go_wp2_with fail
    go_ret
    rw [HR.out]
    exact ⟨rfl, HS3.out⟩
  by_cases h63 : (Tx.bs s)[a]? = some 63
  · have HR : Hid (quantF (Tx.bs s) a = some (some (0, 1, a))) := Lib.hid (by unfold quantF; rw [h63]; rfl)
    have T1 := Lib.hid (take_F h hs ha h42 42 rfl)
    have T2 := Lib.hid (fun wq (hq : St w0 base rb s a D ns ks wq) => take_F hq hs ha h43 43 rfl)
    have T3 := Lib.hid (fun wq (hq : St w0 base rb s a D ns ks wq) => take_T hq hs h63 63 rfl)
    have HA := Lib.hid (fun wq (hq : St w0 base rb s (a + 1) D ns ks wq) => rep_St hq hl 0 1 k w0.heap.size (St.le hq))
    clear h h42 h43 h63
    go_enter Try.func125, Try.ntmps125
    go_wp2_with fail
    refine T1.out.mono ?_
    rintro en w1 ⟨rfl, S1⟩
    have HS1 := Lib.hid S1
    clear S1
    go_wp2_with fail
    refine (T2.out _ HS1.out).mono ?_
    rintro en w2 ⟨rfl, S2⟩
    have HS2 := Lib.hid S2
    clear S2
    go_wp2_with fail
    refine (T3.out _ HS2.out).mono ?_
    rintro en w3 ⟨rfl, S3⟩
    have HS3 := Lib.hid S3
    clear S3
    go_wp2_with fail
    refine (HA.out _ HS3.out).mono ?_
    rintro en w4 ⟨rfl, S4⟩
    have HS4 := Lib.hid S4
    clear S4
    go_wp2_with fail
    go_ret
    rw [HR.out]
    exact ⟨rfl, HS4.out⟩
  have T1 := Lib.hid (take_F h hs ha h42 42 rfl)
  have T2 := Lib.hid (fun wq (hq : St w0 base rb s a D ns ks wq) => take_F hq hs ha h43 43 rfl)
  have T3 := Lib.hid (fun wq (hq : St w0 base rb s a D ns ks wq) => take_F hq hs ha h63 63 rfl)
  by_cases h123 : (Tx.bs s)[a]? = some 123
  · have HR : Hid (quantF (Tx.bs s) a = some (boundsF (Tx.bs s) a)) := Lib.hid (by unfold quantF; rw [h123]; rfl)
    have T4 := Lib.hid (fun wq (hq : St w0 base rb s a D ns ks wq) => take_T hq hs h123 123 rfl)
    have HB := Lib.hid (fun wq (hq : St w0 base rb s (a + 1) D ns ks wq) => boundsP_any hq hs)
    clear h h42 h43 h63 h123
    cases hbd : boundsF (Tx.bs s) a with
    | none =>
      rw [hbd] at HR HB
      clear hbd
      go_enter Try.func125, Try.ntmps125
      go_wp2_with fail
      refine T1.out.mono ?_
      rintro en w1 ⟨rfl, S1⟩
      have HS1 := Lib.hid S1
      clear S1
      go_wp2_with fail
      refine (T2.out _ HS1.out).mono ?_
      rintro en w2 ⟨rfl, S2⟩
      have HS2 := Lib.hid S2
      clear S2
      go_wp2_with fail
      refine (T3.out _ HS2.out).mono ?_
      rintro en w3 ⟨rfl, S3⟩
      have HS3 := Lib.hid S3
      clear S3
      go_wp2_with fail
      refine (T4.out _ HS3.out).mono ?_
      rintro en w4 ⟨rfl, S4⟩
      have HS4 := Lib.hid S4
      clear S4
      go_wp2_with fail
      refine (HB.out _ HS4.out).mono ?_
      rintro en w5 ⟨rfl, B5⟩
      go_wp2_with fail
      refine ⟨rfl, ?_⟩
      rw [HR.out]
      exact ⟨rfl, B5⟩
    | some x =>
      obtain ⟨m, hi, nx⟩ := x
      rw [hbd] at HR HB
      have HA := Lib.hid (fun wq (hq : St w0 base rb s (nx + 1) D ns ks wq) => rep_St hq hl (m : Int) hi k w0.heap.size (St.le hq))
      clear hbd
      go_enter Try.func125, Try.ntmps125
      go_wp2_with fail
      refine T1.out.mono ?_
      rintro en w1 ⟨rfl, S1⟩
      have HS1 := Lib.hid S1
      clear S1
      go_wp2_with fail
      refine (T2.out _ HS1.out).mono ?_
      rintro en w2 ⟨rfl, S2⟩
      have HS2 := Lib.hid S2
      clear S2
      go_wp2_with fail
      refine (T3.out _ HS2.out).mono ?_
      rintro en w3 ⟨rfl, S3⟩
      have HS3 := Lib.hid S3
      clear S3
      go_wp2_with fail
      refine (T4.out _ HS3.out).mono ?_
      rintro en w4 ⟨rfl, S4⟩
      have HS4 := Lib.hid S4
      clear S4
      go_wp2_with fail
      refine (HB.out _ HS4.out).mono ?_
      rintro en w5 ⟨rfl, S5⟩
      have HS5 := Lib.hid S5
      clear S5
      go_wp2_with fail
      refine (HA.out _ HS5.out).mono ?_
      rintro en w6 ⟨rfl, S6⟩
      have HS6 := Lib.hid S6
      clear S6
      go_wp2_with fail
      go_ret
      rw [HR.out]
      exact ⟨rfl, HS6.out⟩
  have T4 := Lib.hid (fun wq (hq : St w0 base rb s a D ns ks wq) => take_F hq hs ha h123 123 rfl)
  have HR : Hid (quantF (Tx.bs s) a = none) := Lib.hid (by
    unfold quantF
    cases hx : (Tx.bs s)[a]? with
    | none => rfl
    | some c =>
      simp only
      rw [hx] at h42 h43 h63 h123
      rw [if_neg (fun e => h42 (by rw [e])), if_neg (fun e => h43 (by rw [e])), if_neg (fun e => h63 (by rw [e])), if_neg (fun e => h123 (by rw [e]))])
  clear h h42 h43 h63 h123
  go_enter Try.func125, Try.ntmps125
  go_wp2_with fail
  refine T1.out.mono ?_
  rintro en w1 ⟨rfl, S1⟩
  have HS1 := Lib.hid S1
  clear S1
  go_wp2_with fail
  refine (T2.out _ HS1.out).mono ?_
  rintro en w2 ⟨rfl, S2⟩
  have HS2 := Lib.hid S2
  clear S2
  go_wp2_with fail
  refine (T3.out _ HS2.out).mono ?_
  rintro en w3 ⟨rfl, S3⟩
  have HS3 := Lib.hid S3
  clear S3
  go_wp2_with fail
  refine (T4.out _ HS3.out).mono ?_
  rintro en w4 ⟨rfl, S4⟩
  have HS4 := Lib.hid S4
  clear S4
  go_wp2_with fail
  go_ret
  rw [HR.out]
  exact ⟨rfl, HS4.out⟩
end
end Px
end Go.Proofs.Ythoidaaldngpmaa

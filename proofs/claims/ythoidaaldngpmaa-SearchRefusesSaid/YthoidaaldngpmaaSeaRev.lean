/-
  Walk of layer 6: slices.Reverse of spans that the call owns. Condition: at most 1000000 spans.
-/
import Derived.Test.YthoidaaldngpmaaSeaKeep
import Derived.Deep.Cut
import Derived.Deep.OwnRows
import Derived.RangeFuncOwn
namespace Go.Proofs.Ythoidaaldngpmaa
open Go.RowKit
namespace Se
open Cm Rx Au
theorem own_set2 {w : World} {base n g c : Nat} {t : TypeId} {xs : List Value} (h : w.ownsRow base t 2 (.slice (some ⟨g, 0, none⟩) n c) n xs) (j : Nat) (u : Value) : (w.setCell ⟨g, j, none⟩ u).ownsRow base t 2 (.slice (some ⟨g, 0, none⟩) n c) n (xs.set j u) := by
  refine ⟨by rw [List.length_set]; exact h.1, ?_⟩
  rcases h.2 with ⟨e1, _⟩ | ⟨g', cap, cur, e1, hb, hh, hn, hm, hs, ht⟩
  · cases e1
  · injection e1 with e2 _ e3
    injection e2 with e2
    injection e2 with e2
    subst e2 e3
    refine .inr ⟨g, c, _, rfl, hb, set_block hh, hn, hm, by rw [Array.size_setIfInBounds]; exact hs, ?_⟩
    rw [Array.toList_setIfInBounds, List.take_set, ht]
theorem flatP_set : ∀ (L : List (Nat × Nat)) (k : Nat) (x : Nat × Nat), ((flatP L).set (k * 2) (.int .i64 (x.1 : Int))).set (k * 2 + 1) (.int .i64 (x.2 : Int)) = flatP (L.set k x)
  | [], k, x => by simp [flatP]
  | a :: l, 0, x => rfl
  | a :: l, k + 1, x => by
    have e : flatP (a :: l) = .int .i64 (a.1 : Int) :: .int .i64 (a.2 : Int) :: flatP l := rfl
    rw [e, show (k + 1) * 2 = k * 2 + 1 + 1 by omega]
    simp only [List.set_cons_succ]
    rw [flatP_set l k x]
    rfl
theorem own_formP2 {w : World} {base m s : Nat} {t : TypeId} {v : Value} {xs : List Value} (h : w.ownsRow base t s v m xs) : ∃ A c, v = .slice A m c := by
  rcases h.2 with ⟨e1, e2⟩ | ⟨g, cap, cur, e1, _⟩
  · exact ⟨none, 0, by rw [e1, e2]⟩
  · exact ⟨_, _, e1⟩
/-- A list with its first k and its last k elements exchanged. -/
def revK (L : List (Nat × Nat)) (k : Nat) : List (Nat × Nat) := (List.range L.length).map fun i => if i < k ∨ L.length - 1 - i < k then L.getD (L.length - 1 - i) (0, 0) else L.getD i (0, 0)
theorem revK_len (L : List (Nat × Nat)) (k : Nat) : (revK L k).length = L.length := by simp [revK]
theorem revK_at {L : List (Nat × Nat)} {k i : Nat} (h : i < L.length) : (revK L k)[i]'(by rw [revK_len]; exact h) = if i < k ∨ L.length - 1 - i < k then L.getD (L.length - 1 - i) (0, 0) else L.getD i (0, 0) := by simp [revK]
theorem getD_in {L : List (Nat × Nat)} {i : Nat} (h : i < L.length) : L.getD i (0, 0) = L[i] := by rw [List.getD_eq_getElem?_getD, List.getElem?_eq_getElem h]; rfl
theorem revK_zero (L : List (Nat × Nat)) : revK L 0 = L := by
  refine List.ext_getElem (revK_len L 0) fun i h1 h2 => ?_
  rw [revK_at h2, if_neg (by omega), getD_in h2]
theorem revK_end {L : List (Nat × Nat)} {k : Nat} (h : L.length ≤ 2 * k + 1) : revK L k = L.reverse := by
  refine List.ext_getElem (by rw [revK_len, List.length_reverse]) fun i h1 h2 => ?_
  have hi : i < L.length := by rw [revK_len] at h1; exact h1
  rw [revK_at hi, List.getElem_reverse]
  by_cases hc : i < k ∨ L.length - 1 - i < k
  · rw [if_pos hc, getD_in (by omega)]
  · rw [if_neg hc, getD_in hi]
    congr 1
    omega
theorem revK_step {L : List (Nat × Nat)} {k : Nat} (h : 2 * k + 1 < L.length) : ((revK L k).set k (L.getD (L.length - 1 - k) (0, 0))).set (L.length - 1 - k) (L.getD k (0, 0)) = revK L (k + 1) := by
  refine List.ext_getElem (by simp [revK_len]) fun i h1 h2 => ?_
  have hi : i < L.length := by rw [revK_len] at h2; exact h2
  rw [List.getElem_set, List.getElem_set, revK_at hi, revK_at hi]
  by_cases e1 : L.length - 1 - k = i
  · rw [if_pos e1, if_pos (by omega)]
    congr 1
    omega
  · rw [if_neg e1]
    by_cases e2 : k = i
    · subst e2
      rw [if_pos rfl, if_pos (by omega)]
    · rw [if_neg e2]
      by_cases hc : i < k ∨ L.length - 1 - i < k
      · rw [if_pos hc, if_pos (by omega)]
      · rw [if_neg hc, if_neg (by omega)]
theorem own_at {w : World} {base n g c : Nat} {t : TypeId} {L : List (Nat × Nat)} (h : w.ownsRow base t 2 (.slice (some ⟨g, 0, none⟩) n c) n (flatP L)) {k : Nat} (hk : k < L.length) (hn : n = L.length) :
    w.cell? ⟨g, k * 2, none⟩ = some (.int .i64 (L[k].1 : Int)) ∧ w.cell? ⟨g, k * 2 + 1, none⟩ = some (.int .i64 (L[k].2 : Int)) := by
  obtain ⟨h1, h2⟩ := flatP_get L k hk
  exact ⟨(h.cellAt (k * 2) (by omega)).trans h1, (h.cellAt (k * 2 + 1) (by omega)).trans h2⟩
theorem own_frozen {w : World} {base n g c : Nat} {t : TypeId} {xs : List Value} (h : w.ownsRow base t 2 (.slice (some ⟨g, 0, none⟩) n c) n xs) (j : Nat) : w.frozen? ⟨g, j, none⟩ = false := by
  rcases h.2 with ⟨e1, _⟩ | ⟨g', cap, cur, e1, hb, hh, _⟩
  · cases e1
  · injection e1 with e2 _ _
    injection e2 with e2
    injection e2 with e2
    subst e2
    simp [World.frozen?, hh]
theorem own_lo {w : World} {base n g c : Nat} {t : TypeId} {xs : List Value} (h : w.ownsRow base t 2 (.slice (some ⟨g, 0, none⟩) n c) n xs) : base ≤ g := (h.lt g rfl).1
/-- The swap of two elements. -/
theorem own_swap {w : World} {base g c : Nat} {L : List (Nat × Nat)} {k : Nat} (h : w.ownsRow base tSp 2 (.slice (some ⟨g, 0, none⟩) L.length c) L.length (flatP (revK L k))) (hk : 2 * k + 1 < L.length) :
    ((((w.setCell ⟨g, k * 2, none⟩ (.int .i64 ((L.getD (L.length - 1 - k) (0, 0)).1 : Int))).setCell ⟨g, k * 2 + 1, none⟩ (.int .i64 ((L.getD (L.length - 1 - k) (0, 0)).2 : Int))).setCell ⟨g, (L.length - 1 - k) * 2, none⟩ (.int .i64 ((L.getD k (0, 0)).1 : Int))).setCell ⟨g, (L.length - 1 - k) * 2 + 1, none⟩ (.int .i64 ((L.getD k (0, 0)).2 : Int))).ownsRow base tSp 2 (.slice (some ⟨g, 0, none⟩) L.length c) L.length (flatP (revK L (k + 1))) ∧
    ((((w.setCell ⟨g, (L.length - 1 - k) * 2, none⟩ (.int .i64 ((L.getD k (0, 0)).1 : Int))).setCell ⟨g, (L.length - 1 - k) * 2 + 1, none⟩ (.int .i64 ((L.getD k (0, 0)).2 : Int))).setCell ⟨g, k * 2, none⟩ (.int .i64 ((L.getD (L.length - 1 - k) (0, 0)).1 : Int))).setCell ⟨g, k * 2 + 1, none⟩ (.int .i64 ((L.getD (L.length - 1 - k) (0, 0)).2 : Int))).ownsRow base tSp 2 (.slice (some ⟨g, 0, none⟩) L.length c) L.length (flatP (revK L (k + 1))) := by
  have h1 := own_set2 (own_set2 (own_set2 (own_set2 h (k * 2) (.int .i64 ((L.getD (L.length - 1 - k) (0, 0)).1 : Int))) (k * 2 + 1) (.int .i64 ((L.getD (L.length - 1 - k) (0, 0)).2 : Int))) ((L.length - 1 - k) * 2) (.int .i64 ((L.getD k (0, 0)).1 : Int))) ((L.length - 1 - k) * 2 + 1) (.int .i64 ((L.getD k (0, 0)).2 : Int))
  rw [flatP_set, flatP_set, revK_step hk] at h1
  have h2 := own_set2 (own_set2 (own_set2 (own_set2 h ((L.length - 1 - k) * 2) (.int .i64 ((L.getD k (0, 0)).1 : Int))) ((L.length - 1 - k) * 2 + 1) (.int .i64 ((L.getD k (0, 0)).2 : Int))) (k * 2) (.int .i64 ((L.getD (L.length - 1 - k) (0, 0)).1 : Int))) (k * 2 + 1) (.int .i64 ((L.getD (L.length - 1 - k) (0, 0)).2 : Int))
  rw [flatP_set, flatP_set, List.set_comm _ _ (by omega : L.length - 1 - k ≠ k), revK_step hk] at h2
  exact ⟨h1, h2⟩
/-- Whatever is no block of spans lies as it lay. -/
structure KS (w w' : World) : Prop where
  size : w.heap.size ≤ w'.heap.size
  same : ∀ (k : Nat) (o : Obj), w.heap[k]? = some o → (∀ cs z, o = Obj.cells cs tSp z → False) → w'.heap[k]? = some o
theorem KS.refl (w : World) : KS w w := ⟨Nat.le_refl _, fun _ _ h _ => h⟩
theorem KS.trans {a b c : World} (h : KS a b) (k : KS b c) : KS a c := ⟨Nat.le_trans h.size k.size, fun i o h1 h2 => k.same i o (h.same i o h1 h2) h2⟩
theorem KS.drew {a b : World} (h : KS a b) : KS a b.drew := ⟨h.size, h.same⟩
theorem KS.alloc (w : World) (o : Obj) : KS w (w.alloc o) := ⟨by simp, fun k o' h1 _ => (Below.heap_alloc w o k (lt_some h1)).trans h1⟩
theorem KS.set_own {w : World} {base n g c : Nat} {xs : List Value} (h : w.ownsRow base tSp 2 (.slice (some ⟨g, 0, none⟩) n c) n xs) (j : Nat) (u : Value) : KS w (w.setCell ⟨g, j, none⟩ u) := by
  refine ⟨by simp [World.setCell], fun k o h1 h2 => (Below.heap_setCell _ _ _ k (fun e => ?_)).trans h1⟩
  have e : k = g := e
  subst e
  obtain ⟨cur, hc⟩ := own_cells h (k := k) rfl
  rw [hc] at h1
  injection h1 with h1
  exact h2 _ _ h1.symm
theorem KS.set4 {w : World} {base n g c : Nat} {xs : List Value} (h : w.ownsRow base tSp 2 (.slice (some ⟨g, 0, none⟩) n c) n xs) (j1 j2 j3 j4 : Nat) (u1 u2 u3 u4 : Value) : KS w ((((w.setCell ⟨g, j1, none⟩ u1).setCell ⟨g, j2, none⟩ u2).setCell ⟨g, j3, none⟩ u3).setCell ⟨g, j4, none⟩ u4).drew :=
  ((((KS.set_own h j1 u1).trans (KS.set_own (own_set2 h j1 u1) j2 u2)).trans (KS.set_own (own_set2 (own_set2 h j1 u1) j2 u2) j3 u3)).trans (KS.set_own (own_set2 (own_set2 (own_set2 h j1 u1) j2 u2) j3 u3) j4 u4)).drew
def RevPost (base : Nat) (v : Value) (L : List (Nat × Nat)) (w : World) (e : Ending) (w' : World) : Prop :=
  e = .returned (.tuple #[]) ∧ w'.ownsRow base tSp 2 v L.length (flatP L.reverse) ∧ Below base w w' ∧ KS w w'
set_option maxRecDepth 100000 in
set_option maxHeartbeats 2000000 in
theorem Reverse_any (base : Nat) (v : Value) (L : List (Nat × Nat)) (w : World) (h : w.ownsRow base tSp 2 v L.length (flatP L)) (hl : L.length ≤ 1000000) :
    Calls Try.prog 71 #[v] w (RevPost base v L w) := by
  obtain ⟨A, c, hv⟩ := own_formP2 h
  subst hv
  have HR : Hid (w.ownsRow base tSp 2 (.slice A L.length c) L.length (flatP (revK L 0))) := Lib.hid (by rw [revK_zero]; exact h)
  obtain ⟨n, hn⟩ : ∃ n, n = L.length := ⟨_, rfl⟩
  have HN := Lib.hid hn
  rw [← hn] at hl HR
  unfold RevPost
  rw [← hn]
  clear hn h
  have e1 : IntKind.i64.wrap ((n : Int) - 1) = (n : Int) - 1 := IntWalk.i64_in _ (by omega)
  go_enter Try.func71, Try.ntmps71
  go_wp2_with fail
  clear e1
  go_loopw [2, 3] (fun a b wr => ∃ k : Nat, a = .int .i64 (k : Int) ∧ b = .int .i64 ((n : Int) - 1 - (k : Int)) ∧ 2 * k ≤ n ∧ Hid (wr.ownsRow base tSp 2 (.slice A n c) n (flatP (revK L k))) ∧ Hid (Below base w wr) ∧ Hid (KS w wr)) (fun a _ _ => n - (intOf a).toNat)
  case atStart => exact ⟨0, by go_num, by go_num, Nat.zero_le _, HR, Lib.hid (Below.refl _ _), Lib.hid (KS.refl _)⟩
  case round =>
    clear HR
    obtain ⟨k, rfl, rfl, hk, HR, HB, HKo⟩ := hrel
    by_cases hlt : 2 * k + 1 < n
    · obtain ⟨q, hq⟩ : ∃ q : Nat, q = n - 1 - k := ⟨_, rfl⟩
      have hqi : (n : Int) - 1 - (k : Int) = (q : Int) := by omega
      rw [hqi]
      obtain ⟨g, hA⟩ : ∃ g, A = some ⟨g, 0, none⟩ := by
        rcases HR.out.2 with ⟨_, e⟩ | ⟨g, cap, cur, e, _⟩
        · omega
        · injection e with e _ _; exact ⟨g, e⟩
      subst hA
      have hkL : k < (revK L k).length := by rw [revK_len, ← HN.out]; omega
      have hqL : q < (revK L k).length := by rw [revK_len, ← HN.out]; omega
      have hlen : n = (revK L k).length := by rw [revK_len]; exact HN.out
      obtain ⟨a0, a1⟩ := own_at HR.out hkL hlen
      obtain ⟨b0, b1⟩ := own_at HR.out hqL hlen
      rw [revK_at (by rw [← HN.out]; omega), if_neg (by rw [← HN.out]; omega)] at a0 a1 b0 b1
      have hf := own_frozen HR.out
      have HSw := Lib.hid (own_swap (L := L) (k := k) (by rw [← HN.out]; exact HR.out) (by rw [← HN.out]; exact hlt))
      rw [← HN.out, ← hq] at HSw
      generalize L.getD k (0, 0) = x at a0 a1 HSw
      generalize L.getD q (0, 0) = y at b0 b1 HSw
      have i0 : (0 : Int) ≤ (k : Int) := by omega
      have i1 : (k : Int) < (n : Int) := by omega
      have i2 : (0 : Int) ≤ (q : Int) := by omega
      have i3 : (q : Int) < (n : Int) := by omega
      have i4 : decide (k < q) = true := by simp only [decide_eq_true_eq]; omega
      have n1 : ¬ k * 2 = q * 2 := by omega
      have n2 : ¬ k * 2 + 1 = q * 2 := by omega
      have n3 : ¬ k * 2 = q * 2 + 1 := by omega
      have n4 : ¬ k * 2 + 1 = q * 2 + 1 := by omega
      have hlo := own_lo HR.out
      have hqn : q + k + 1 = n := by omega
      have HR0 := HR
      clear hkL hqL hlen hq hqi HR
      go_upto_region 3 with fail
      go_region_with (fail)
      all_goals
        go_wp2_with fail
        go_roundw
        case rel => exact ⟨k + 1, by go_num, by congr 1; omega, by omega, Lib.hid (by first | exact HSw.out.1 | exact HSw.out.2), Lib.hid ((((HB.out.setCell (p := ⟨g, _, none⟩) hlo _).setCell (p := ⟨g, _, none⟩) hlo _).setCell (p := ⟨g, _, none⟩) hlo _).setCell (p := ⟨g, _, none⟩) hlo _).drew, Lib.hid (HKo.out.trans (KS.set4 HR0.out _ _ _ _ _ _ _ _))⟩
        case measure => simp [intOf]; omega
    · have hd : decide ((k : Int) < (n : Int) - 1 - (k : Int)) = false := by simp only [decide_eq_false_iff_not]; omega
      have HF : Hid (wr.ownsRow base tSp 2 (.slice A n c) n (flatP L.reverse)) := Lib.hid (by
        have h := HR.out
        rw [revK_end (by rw [← HN.out]; omega)] at h
        exact h)
      go_wp2_with fail
      go_end0
      exact ⟨rfl, HF.out, HB.out, HKo.out⟩
end Se
end Go.Proofs.Ythoidaaldngpmaa

/-
  Walk of layer 6's verifier: star, the automaton of the chapter's example. No conditions. Layer 6: what the automaton of the chapter's example matches. No program. No conditions. Walk of layer 6: slices.Reverse of spans that the call owns. Condition: at most 1000000 spans. Walk of layer 6: the program's apart, in the memory of its argument. Condition: at most 1000000 spans, which the call owns. Walk of layer 6: the program's All. Conditions: a valid automaton; a text of at most 100000 bytes. Walk of the verifier's Spans: are two lists of spans equal? Conditions: slices that read as lists of spans, at most 1000000. Walk of layer 6's verifier: awake, the sanity check that every law calls. No conditions.
-/
import Derived.Test.YtgadomcbaenodaaSeaV
import Derived.Laws.Rows
import Derived.Test.YtgadomcbaenodaaSeaS
import Derived.Deep.Cut
import Derived.Deep.OwnRows
import Derived.RangeFuncOwn
import Derived.Test.YtgadomcbaenodaaSeaLong
import Derived.Laws.CopyOwn
import Derived.OwnWalkIn
import Derived.Deep.QuietTactic
import Derived.BigQuiet
namespace Go.Proofs.Ytgadomcbaenodaa
section
open Go.RowKit
namespace Se
open Cm Rx Au
def starS : List St := [⟨1, noSet, 1, 2⟩, ⟨0, putM noSet 97, 0, 0⟩, ⟨4, noSet, 0, 0⟩]
def StarPost (w : World) (e : Ending) (w' : World) : Prop := ∃ v, e = .returned (.agg #[v, .int .i64 0]) ∧ w'.ownsRow w.heap.size tSt 7 v starS.length (flatS starS) ∧ Below w.heap.size w w'
set_option maxRecDepth 100000 in
set_option maxHeartbeats 2000000 in
theorem star_any (w : World) : Calls Try.prog 21 #[] w (StarPost w) := by
  have HP : Hid (∀ W : World, Calls Try.prog 14 #[.agg #[.int .u64 0, .int .u64 0, .int .u64 0, .int .u64 0], .int .u8 97] W fun e w' => e = .returned (setV (putM noSet 97)) ∧ Below W.heap.size W w') := Lib.hid (fun W => by
    have h := Put_any noSet 97 W
    have e1 : setV noSet = .agg #[.int .u64 0, .int .u64 0, .int .u64 0, .int .u64 0] := by
      show setV (fun _ => false) = _
      simp [setV, word_none]
    rw [e1] at h
    exact h)
  have HR0 := Lib.hid (alloc2 w (.cells #[.slice none 0 0, .int .i64 0] tAuto) (.cells #[.int .u64 0, .int .u64 0, .int .u64 0, .int .u64 0] 45))
  go_enter Try.func21, Try.ntmps21
  go_wp2_with (go_at_call 14; refine (HP.out _).mono ?_; rintro e w5 ⟨rfl, hb⟩; have HB5 := Lib.hid (HR0.out.2.2.trans (hb.mono HR0.out.2.2.size)); have hr5 := (hb.block _ (lt_some HR0.out.1)).trans HR0.out.1; have hl5 := lt_some hr5; have qf0 : ∀ o, (w5.alloc o).frozen? ⟨w.heap.size, 0, none⟩ = false := (fun o => by simp [World.frozen?, Below.heap_alloc w5 o _ hl5, hr5]); have qf1 : ∀ o, (w5.alloc o).frozen? ⟨w.heap.size, 1, none⟩ = false := (fun o => by simp [World.frozen?, Below.heap_alloc w5 o _ hl5, hr5]); have qc0 : ∀ o, (w5.alloc o).cell? ⟨w.heap.size, 0, none⟩ = some (.slice none 0 0) := (fun o => by simp [World.cell?, Below.heap_alloc w5 o _ hl5, hr5]); have qc1 : ∀ o, (w5.alloc o).cell? ⟨w.heap.size, 1, none⟩ = some (.int .i64 0) := (fun o => by simp [World.cell?, Below.heap_alloc w5 o _ hl5, hr5]); have HR5 := Lib.hid hr5; clear hb hr5 hl5; unfold setV)
  have hl5 := lt_some HR5.out
  have hs5 := HB5.out.size
  have e7 : (flatS starS).length = 3 * 7 := by simp [flatS, starS, stC]
  have hz : word noSet 0 = 0 ∧ word noSet 1 = 0 ∧ word noSet 2 = 0 ∧ word noSet 3 = 0 := ⟨word_none 0, word_none 1, word_none 2, word_none 3⟩
  have hlist : flatS starS = [.int .i64 1, .int .u64 0, .int .u64 0, .int .u64 0, .int .u64 0, .int .i64 1, .int .i64 2, .int .i64 0, .int .u64 (word (putM noSet 97) 0 : Nat), .int .u64 (word (putM noSet 97) 1 : Nat), .int .u64 (word (putM noSet 97) 2 : Nat), .int .u64 (word (putM noSet 97) 3 : Nat), .int .i64 0, .int .i64 0, .int .i64 4, .int .u64 0, .int .u64 0, .int .u64 0, .int .u64 0, .int .i64 0, .int .i64 0] := by
    simp [flatS, starS, stC, hz.1, hz.2.1, hz.2.2.1, hz.2.2.2]
  have hw := heap_new w5 (.cells #[.int .i64 1, .int .u64 0, .int .u64 0, .int .u64 0, .int .u64 0, .int .i64 1, .int .i64 2, .int .i64 0, .int .u64 (word (putM noSet 97) 0 : Nat), .int .u64 (word (putM noSet 97) 1 : Nat), .int .u64 (word (putM noSet 97) 2 : Nat), .int .u64 (word (putM noSet 97) 3 : Nat), .int .i64 0, .int .i64 0, .int .i64 4, .int .u64 0, .int .u64 0, .int .u64 0, .int .u64 0, .int .i64 0, .int .i64 0] tSt)
  generalize hO : (Obj.cells #[.int .i64 1, .int .u64 0, .int .u64 0, .int .u64 0, .int .u64 0, .int .i64 1, .int .i64 2, .int .i64 0, .int .u64 (word (putM noSet 97) 0 : Nat), .int .u64 (word (putM noSet 97) 1 : Nat), .int .u64 (word (putM noSet 97) 2 : Nat), .int .u64 (word (putM noSet 97) 3 : Nat), .int .i64 0, .int .i64 0, .int .i64 4, .int .u64 0, .int .u64 0, .int .u64 0, .int .u64 0, .int .i64 0, .int .i64 0] tSt) = o at hw ⊢
  have g0 := (Below.heap_alloc w5 o _ hl5).trans HR5.out
  have g1 := set_block (o := 0) (u := .slice (some ⟨w5.heap.size, 0, none⟩) 3 3) g0
  have g2 := set_block (o := 1) (u := .int .i64 0) g1
  refine bodyPost_ret (results_cell_row (p := 0) rfl _ _ _ _ _ _ _ rfl g2 Try.underlying32 rfl (by kernel_rfl)) rfl ⟨_, rfl, ?_, ((HB5.out.alloc hs5 o).setCell (p := ⟨w.heap.size, 0, none⟩) (Nat.le_refl _) _).setCell (p := ⟨w.heap.size, 1, none⟩) (Nat.le_refl _) _⟩
  have hcells : o = .cells (flatS starS).toArray tSt := by rw [← hO, hlist]
  refine ⟨e7, .inr ⟨w5.heap.size, 3, (flatS starS).toArray, rfl, hs5, ?_, Nat.le_refl _, by unfold maxLen; omega, ?_, ?_⟩⟩
  · rw [← hcells]
    exact (Below.heap_setCell _ _ _ _ (by show w5.heap.size ≠ w.heap.size; omega)).trans ((Below.heap_setCell _ _ _ _ (by show w5.heap.size ≠ w.heap.size; omega)).trans hw)
  · rw [List.size_toArray, e7]
  · show List.take (3 * 7) (flatS starS) = _
    rw [List.take_of_length_le (by rw [e7]; exact Nat.le_refl _)]
end Se
end
section
namespace Se
open Cm Rx Au
theorem star_valid : ValidA starS ((0 : Nat) : Int) := by
  refine ⟨by simp [starS], rfl, fun k h => ?_⟩
  match k, h with
  | 0, _ => rfl
  | 1, _ => rfl
  | 2, _ => rfl
theorem put97 {x : UInt8} (h : putM noSet 97 x.toNat = true) : x = 97 := by
  have : x.toNat = 97 := by
    unfold putM noSet at h
    simpa using h
  exact UInt8.toNat_inj.1 (by rw [this]; rfl)
theorem star_up {bs : List UInt8} {i q e : Nat} (h : Run starS bs i q e) : (q = 0 ∨ q = 1 → ∀ k, i ≤ k → k < e → bs[k]? = some 97) ∧ (q = 2 → e = i) := by
  induction h with
  | acc h hk hi => exact ⟨fun _ k h1 h2 => by omega, fun _ => rfl⟩
  | @next i q e h hp hr ih =>
    have hq : q = 0 ∨ q = 1 ∨ q = 2 := by simp [starS] at h; omega
    rcases hq with rfl | rfl | rfl
    · exact ⟨fun _ => ih.1 (.inr rfl), fun h => by cases h⟩
    · simp [starS, passS] at hp
    · simp [starS, passS] at hp
  | @other i q e h hk hr ih =>
    have hq : q = 0 ∨ q = 1 ∨ q = 2 := by simp [starS] at h; omega
    rcases hq with rfl | rfl | rfl
    · have he : e = i := ih.2 rfl
      exact ⟨fun _ k h1 h2 => by omega, fun h => by cases h⟩
    · simp [starS] at hk
    · simp [starS] at hk
  | @read i q e h hk hi hb hr ih =>
    have hq : q = 0 ∨ q = 1 ∨ q = 2 := by simp [starS] at h; omega
    rcases hq with rfl | rfl | rfl
    · simp [starS] at hk
    · refine ⟨fun _ k h1 h2 => ?_, fun h => by cases h⟩
      by_cases e1 : k = i
      · subst e1
        rw [List.getElem?_eq_getElem hi]
        exact congrArg some (put97 hb)
      · exact ih.1 (.inl rfl) k (by omega) h2
    · simp [starS] at hk
theorem star_end {bs : List UInt8} {i : Nat} (h : i ≤ bs.length) : Run starS bs i 0 i :=
  .other (by simp [starS]) rfl (.acc (by simp [starS]) rfl h)
theorem star_read {bs : List UInt8} {i e : Nat} (h : bs[i]? = some 97) (hr : Run starS bs (i + 1) 0 e) : Run starS bs i 0 e := by
  obtain ⟨hi, hb⟩ := List.getElem?_eq_some_iff.1 h
  exact .next (by simp [starS]) rfl (.read (by simp [starS]) rfl hi (by rw [hb]; rfl) hr)
theorem star_best {bs : List UInt8} {i e : Nat} (hr : Run starS bs i 0 e) (hs : e = bs.length ∨ bs[e]? ≠ some 97) : bestF starS 0 bs i = some e := by
  refine bestF_some.2 ⟨hr, fun e' h' => ?_⟩
  have h1 := h'.le
  have h2 := hr.le
  rcases hs with h | h
  · omega
  · by_cases hc : e' ≤ e
    · exact hc
    · exact absurd ((star_up h').1 (.inl rfl) e h2.1 (by omega)) h
theorem star_whole : wholeF starS 0 [97, 97] = true := by
  have h : bestF starS 0 [97, 97] 0 = some 2 := star_best (star_read rfl (star_read rfl (star_end (Nat.le_refl 2)))) (.inl rfl)
  unfold wholeF
  rw [h]
  rfl
theorem star_all : allL starS 0 [98, 97, 97] = [(0, 0), (1, 3), (3, 3)] := by
  have h0 : bestF starS 0 [98, 97, 97] 0 = some 0 := star_best (star_end (Nat.zero_le _)) (.inr (by decide))
  have h3 : bestF starS 0 [98, 97, 97] 3 = some 3 := star_best (star_end (Nat.le_refl 3)) (.inl rfl)
  have h1 : bestF starS 0 [98, 97, 97] 1 = some 3 := star_best (star_read rfl (star_read rfl (star_end (Nat.le_refl 3)))) (.inl rfl)
  unfold allL
  rw [allG_cons (findF_hit h0)]
  show (0, 0) :: allG starS 0 [98, 97, 97] 3 1 = _
  rw [allG_cons (findF_hit h1)]
  show (0, 0) :: (1, 3) :: allG starS 0 [98, 97, 97] 2 3 = _
  rw [allG_cons (findF_hit h3)]
  show (0, 0) :: (1, 3) :: (3, 3) :: allG starS 0 [98, 97, 97] 1 4 = _
  rw [allG_nil (findF_end (by decide))]
end Se
end
section
open Go.RowKit
namespace Se
open Cm Rx Au
theorem own_set2 {w : World} {base n g c : Nat} {t : TypeId} {xs : List Value} (h : w.ownsRow base t 2 (.slice (some ⟨g, 0, none⟩) n c) n xs) (j : Nat) (u : Value) : (w.setCell ⟨g, j, none⟩ u).ownsRow base t 2 (.slice (some ⟨g, 0, none⟩) n c) n (xs.set j u) := by
  refine ⟨by rw [List.length_set]; exact h.1, ?_⟩
  rcases h.2 with ⟨e1, _⟩ | ⟨g', cap, cur, e1, hb, hh, hn, hm, hs, ht⟩
  · cases e1
  · injection e1 with e2 _ e3
    injection e2 with e2
    injection e2 with e2
    subst e2 e3
    refine .inr ⟨g, c, _, rfl, hb, set_block hh, hn, hm, by rw [Array.size_setIfInBounds]; exact hs, ?_⟩
    rw [Array.toList_setIfInBounds, List.take_set, ht]
theorem flatP_set : ∀ (L : List (Nat × Nat)) (k : Nat) (x : Nat × Nat), ((flatP L).set (k * 2) (.int .i64 (x.1 : Int))).set (k * 2 + 1) (.int .i64 (x.2 : Int)) = flatP (L.set k x)
  | [], k, x => by simp [flatP]
  | a :: l, 0, x => rfl
  | a :: l, k + 1, x => by
    have e : flatP (a :: l) = .int .i64 (a.1 : Int) :: .int .i64 (a.2 : Int) :: flatP l := rfl
    rw [e, show (k + 1) * 2 = k * 2 + 1 + 1 by omega]
    simp only [List.set_cons_succ]
    rw [flatP_set l k x]
    rfl
theorem own_formP2 {w : World} {base m s : Nat} {t : TypeId} {v : Value} {xs : List Value} (h : w.ownsRow base t s v m xs) : ∃ A c, v = .slice A m c := by
  rcases h.2 with ⟨e1, e2⟩ | ⟨g, cap, cur, e1, _⟩
  · exact ⟨none, 0, by rw [e1, e2]⟩
  · exact ⟨_, _, e1⟩
/-- A list with its first k and its last k elements exchanged. -/
def revK (L : List (Nat × Nat)) (k : Nat) : List (Nat × Nat) := (List.range L.length).map fun i => if i < k ∨ L.length - 1 - i < k then L.getD (L.length - 1 - i) (0, 0) else L.getD i (0, 0)
theorem revK_len (L : List (Nat × Nat)) (k : Nat) : (revK L k).length = L.length := by simp [revK]
theorem revK_at {L : List (Nat × Nat)} {k i : Nat} (h : i < L.length) : (revK L k)[i]'(by rw [revK_len]; exact h) = if i < k ∨ L.length - 1 - i < k then L.getD (L.length - 1 - i) (0, 0) else L.getD i (0, 0) := by simp [revK]
theorem getD_in {L : List (Nat × Nat)} {i : Nat} (h : i < L.length) : L.getD i (0, 0) = L[i] := by rw [List.getD_eq_getElem?_getD, List.getElem?_eq_getElem h]; rfl
theorem revK_zero (L : List (Nat × Nat)) : revK L 0 = L := by
  refine List.ext_getElem (revK_len L 0) fun i h1 h2 => ?_
  rw [revK_at h2, if_neg (by omega), getD_in h2]
theorem revK_end {L : List (Nat × Nat)} {k : Nat} (h : L.length ≤ 2 * k + 1) : revK L k = L.reverse := by
  refine List.ext_getElem (by rw [revK_len, List.length_reverse]) fun i h1 h2 => ?_
  have hi : i < L.length := by rw [revK_len] at h1; exact h1
  rw [revK_at hi, List.getElem_reverse]
  by_cases hc : i < k ∨ L.length - 1 - i < k
  · rw [if_pos hc, getD_in (by omega)]
  · rw [if_neg hc, getD_in hi]
    congr 1
    omega
theorem revK_step {L : List (Nat × Nat)} {k : Nat} (h : 2 * k + 1 < L.length) : ((revK L k).set k (L.getD (L.length - 1 - k) (0, 0))).set (L.length - 1 - k) (L.getD k (0, 0)) = revK L (k + 1) := by
  refine List.ext_getElem (by simp [revK_len]) fun i h1 h2 => ?_
  have hi : i < L.length := by rw [revK_len] at h2; exact h2
  rw [List.getElem_set, List.getElem_set, revK_at hi, revK_at hi]
  by_cases e1 : L.length - 1 - k = i
  · rw [if_pos e1, if_pos (by omega)]
    congr 1
    omega
  · rw [if_neg e1]
    by_cases e2 : k = i
    · subst e2
      rw [if_pos rfl, if_pos (by omega)]
    · rw [if_neg e2]
      by_cases hc : i < k ∨ L.length - 1 - i < k
      · rw [if_pos hc, if_pos (by omega)]
      · rw [if_neg hc, if_neg (by omega)]
theorem own_at {w : World} {base n g c : Nat} {t : TypeId} {L : List (Nat × Nat)} (h : w.ownsRow base t 2 (.slice (some ⟨g, 0, none⟩) n c) n (flatP L)) {k : Nat} (hk : k < L.length) (hn : n = L.length) :
    w.cell? ⟨g, k * 2, none⟩ = some (.int .i64 (L[k].1 : Int)) ∧ w.cell? ⟨g, k * 2 + 1, none⟩ = some (.int .i64 (L[k].2 : Int)) := by
  obtain ⟨h1, h2⟩ := flatP_get L k hk
  exact ⟨(h.cellAt (k * 2) (by omega)).trans h1, (h.cellAt (k * 2 + 1) (by omega)).trans h2⟩
theorem own_frozen {w : World} {base n g c : Nat} {t : TypeId} {xs : List Value} (h : w.ownsRow base t 2 (.slice (some ⟨g, 0, none⟩) n c) n xs) (j : Nat) : w.frozen? ⟨g, j, none⟩ = false := by
  rcases h.2 with ⟨e1, _⟩ | ⟨g', cap, cur, e1, hb, hh, _⟩
  · cases e1
  · injection e1 with e2 _ _
    injection e2 with e2
    injection e2 with e2
    subst e2
    simp [World.frozen?, hh]
theorem own_lo {w : World} {base n g c : Nat} {t : TypeId} {xs : List Value} (h : w.ownsRow base t 2 (.slice (some ⟨g, 0, none⟩) n c) n xs) : base ≤ g := (h.lt g rfl).1
/-- The swap of two elements. -/
theorem own_swap {w : World} {base g c : Nat} {L : List (Nat × Nat)} {k : Nat} (h : w.ownsRow base tSp 2 (.slice (some ⟨g, 0, none⟩) L.length c) L.length (flatP (revK L k))) (hk : 2 * k + 1 < L.length) :
    ((((w.setCell ⟨g, k * 2, none⟩ (.int .i64 ((L.getD (L.length - 1 - k) (0, 0)).1 : Int))).setCell ⟨g, k * 2 + 1, none⟩ (.int .i64 ((L.getD (L.length - 1 - k) (0, 0)).2 : Int))).setCell ⟨g, (L.length - 1 - k) * 2, none⟩ (.int .i64 ((L.getD k (0, 0)).1 : Int))).setCell ⟨g, (L.length - 1 - k) * 2 + 1, none⟩ (.int .i64 ((L.getD k (0, 0)).2 : Int))).ownsRow base tSp 2 (.slice (some ⟨g, 0, none⟩) L.length c) L.length (flatP (revK L (k + 1))) ∧
    ((((w.setCell ⟨g, (L.length - 1 - k) * 2, none⟩ (.int .i64 ((L.getD k (0, 0)).1 : Int))).setCell ⟨g, (L.length - 1 - k) * 2 + 1, none⟩ (.int .i64 ((L.getD k (0, 0)).2 : Int))).setCell ⟨g, k * 2, none⟩ (.int .i64 ((L.getD (L.length - 1 - k) (0, 0)).1 : Int))).setCell ⟨g, k * 2 + 1, none⟩ (.int .i64 ((L.getD (L.length - 1 - k) (0, 0)).2 : Int))).ownsRow base tSp 2 (.slice (some ⟨g, 0, none⟩) L.length c) L.length (flatP (revK L (k + 1))) := by
  have h1 := own_set2 (own_set2 (own_set2 (own_set2 h (k * 2) (.int .i64 ((L.getD (L.length - 1 - k) (0, 0)).1 : Int))) (k * 2 + 1) (.int .i64 ((L.getD (L.length - 1 - k) (0, 0)).2 : Int))) ((L.length - 1 - k) * 2) (.int .i64 ((L.getD k (0, 0)).1 : Int))) ((L.length - 1 - k) * 2 + 1) (.int .i64 ((L.getD k (0, 0)).2 : Int))
  rw [flatP_set, flatP_set, revK_step hk] at h1
  have h2 := own_set2 (own_set2 (own_set2 (own_set2 h ((L.length - 1 - k) * 2) (.int .i64 ((L.getD k (0, 0)).1 : Int))) ((L.length - 1 - k) * 2 + 1) (.int .i64 ((L.getD k (0, 0)).2 : Int))) (k * 2) (.int .i64 ((L.getD (L.length - 1 - k) (0, 0)).1 : Int))) (k * 2 + 1) (.int .i64 ((L.getD (L.length - 1 - k) (0, 0)).2 : Int))
  rw [flatP_set, flatP_set, List.set_comm _ _ (by omega : L.length - 1 - k ≠ k), revK_step hk] at h2
  exact ⟨h1, h2⟩
/-- Whatever is no block of spans lies as it lay. -/
structure KS (w w' : World) : Prop where
  size : w.heap.size ≤ w'.heap.size
  same : ∀ (k : Nat) (o : Obj), w.heap[k]? = some o → (∀ cs z, o = Obj.cells cs tSp z → False) → w'.heap[k]? = some o
theorem KS.refl (w : World) : KS w w := ⟨Nat.le_refl _, fun _ _ h _ => h⟩
theorem KS.trans {a b c : World} (h : KS a b) (k : KS b c) : KS a c := ⟨Nat.le_trans h.size k.size, fun i o h1 h2 => k.same i o (h.same i o h1 h2) h2⟩
theorem KS.drew {a b : World} (h : KS a b) : KS a b.drew := ⟨h.size, h.same⟩
theorem KS.alloc (w : World) (o : Obj) : KS w (w.alloc o) := ⟨by simp, fun k o' h1 _ => (Below.heap_alloc w o k (lt_some h1)).trans h1⟩
theorem KS.set_own {w : World} {base n g c : Nat} {xs : List Value} (h : w.ownsRow base tSp 2 (.slice (some ⟨g, 0, none⟩) n c) n xs) (j : Nat) (u : Value) : KS w (w.setCell ⟨g, j, none⟩ u) := by
  refine ⟨by simp [World.setCell], fun k o h1 h2 => (Below.heap_setCell _ _ _ k (fun e => ?_)).trans h1⟩
  have e : k = g := e
  subst e
  obtain ⟨cur, hc⟩ := own_cells h (k := k) rfl
  rw [hc] at h1
  injection h1 with h1
  exact h2 _ _ h1.symm
theorem KS.set4 {w : World} {base n g c : Nat} {xs : List Value} (h : w.ownsRow base tSp 2 (.slice (some ⟨g, 0, none⟩) n c) n xs) (j1 j2 j3 j4 : Nat) (u1 u2 u3 u4 : Value) : KS w ((((w.setCell ⟨g, j1, none⟩ u1).setCell ⟨g, j2, none⟩ u2).setCell ⟨g, j3, none⟩ u3).setCell ⟨g, j4, none⟩ u4).drew :=
  ((((KS.set_own h j1 u1).trans (KS.set_own (own_set2 h j1 u1) j2 u2)).trans (KS.set_own (own_set2 (own_set2 h j1 u1) j2 u2) j3 u3)).trans (KS.set_own (own_set2 (own_set2 (own_set2 h j1 u1) j2 u2) j3 u3) j4 u4)).drew
def RevPost (base : Nat) (v : Value) (L : List (Nat × Nat)) (w : World) (e : Ending) (w' : World) : Prop :=
  e = .returned (.tuple #[]) ∧ w'.ownsRow base tSp 2 v L.length (flatP L.reverse) ∧ Below base w w' ∧ KS w w'
set_option maxRecDepth 100000 in
set_option maxHeartbeats 2000000 in
theorem Reverse_any (base : Nat) (v : Value) (L : List (Nat × Nat)) (w : World) (h : w.ownsRow base tSp 2 v L.length (flatP L)) (hl : L.length ≤ 1000000) :
    Calls Try.prog 33 #[v] w (RevPost base v L w) := by
  obtain ⟨A, c, hv⟩ := own_formP2 h
  subst hv
  have HR : Hid (w.ownsRow base tSp 2 (.slice A L.length c) L.length (flatP (revK L 0))) := Lib.hid (by rw [revK_zero]; exact h)
  obtain ⟨n, hn⟩ : ∃ n, n = L.length := ⟨_, rfl⟩
  have HN := Lib.hid hn
  rw [← hn] at hl HR
  unfold RevPost
  rw [← hn]
  clear hn h
  have e1 : IntKind.i64.wrap ((n : Int) - 1) = (n : Int) - 1 := IntWalk.i64_in _ (by omega)
  go_enter Try.func33, Try.ntmps33
  go_wp2_with fail
  clear e1
  go_loopw [2, 3] (fun a b wr => ∃ k : Nat, a = .int .i64 (k : Int) ∧ b = .int .i64 ((n : Int) - 1 - (k : Int)) ∧ 2 * k ≤ n ∧ Hid (wr.ownsRow base tSp 2 (.slice A n c) n (flatP (revK L k))) ∧ Hid (Below base w wr) ∧ Hid (KS w wr)) (fun a _ _ => n - (intOf a).toNat)
  case atStart => exact ⟨0, by go_num, by go_num, Nat.zero_le _, HR, Lib.hid (Below.refl _ _), Lib.hid (KS.refl _)⟩
  case round =>
    clear HR
    obtain ⟨k, rfl, rfl, hk, HR, HB, HKo⟩ := hrel
    by_cases hlt : 2 * k + 1 < n
    · obtain ⟨q, hq⟩ : ∃ q : Nat, q = n - 1 - k := ⟨_, rfl⟩
      have hqi : (n : Int) - 1 - (k : Int) = (q : Int) := by omega
      rw [hqi]
      obtain ⟨g, hA⟩ : ∃ g, A = some ⟨g, 0, none⟩ := by
        rcases HR.out.2 with ⟨_, e⟩ | ⟨g, cap, cur, e, _⟩
        · omega
        · injection e with e _ _; exact ⟨g, e⟩
      subst hA
      have hkL : k < (revK L k).length := by rw [revK_len, ← HN.out]; omega
      have hqL : q < (revK L k).length := by rw [revK_len, ← HN.out]; omega
      have hlen : n = (revK L k).length := by rw [revK_len]; exact HN.out
      obtain ⟨a0, a1⟩ := own_at HR.out hkL hlen
      obtain ⟨b0, b1⟩ := own_at HR.out hqL hlen
      rw [revK_at (by rw [← HN.out]; omega), if_neg (by rw [← HN.out]; omega)] at a0 a1 b0 b1
      have hf := own_frozen HR.out
      have HSw := Lib.hid (own_swap (L := L) (k := k) (by rw [← HN.out]; exact HR.out) (by rw [← HN.out]; exact hlt))
      rw [← HN.out, ← hq] at HSw
      generalize L.getD k (0, 0) = x at a0 a1 HSw
      generalize L.getD q (0, 0) = y at b0 b1 HSw
      have i0 : (0 : Int) ≤ (k : Int) := by omega
      have i1 : (k : Int) < (n : Int) := by omega
      have i2 : (0 : Int) ≤ (q : Int) := by omega
      have i3 : (q : Int) < (n : Int) := by omega
      have i4 : decide (k < q) = true := by simp only [decide_eq_true_eq]; omega
      have n1 : ¬ k * 2 = q * 2 := by omega
      have n2 : ¬ k * 2 + 1 = q * 2 := by omega
      have n3 : ¬ k * 2 = q * 2 + 1 := by omega
      have n4 : ¬ k * 2 + 1 = q * 2 + 1 := by omega
      have hlo := own_lo HR.out
      have hqn : q + k + 1 = n := by omega
      have HR0 := HR
      clear hkL hqL hlen hq hqi HR
      go_upto_region 3 with fail
      go_region_with (fail)
      all_goals
        go_wp2_with fail
        go_roundw
        case rel => exact ⟨k + 1, by go_num, by congr 1; omega, by omega, Lib.hid (by first | exact HSw.out.1 | exact HSw.out.2), Lib.hid ((((HB.out.setCell (p := ⟨g, _, none⟩) hlo _).setCell (p := ⟨g, _, none⟩) hlo _).setCell (p := ⟨g, _, none⟩) hlo _).setCell (p := ⟨g, _, none⟩) hlo _).drew, Lib.hid (HKo.out.trans (KS.set4 HR0.out _ _ _ _ _ _ _ _))⟩
        case measure => simp [intOf]; omega
    · have hd : decide ((k : Int) < (n : Int) - 1 - (k : Int)) = false := by simp only [decide_eq_false_iff_not]; omega
      have HF : Hid (wr.ownsRow base tSp 2 (.slice A n c) n (flatP L.reverse)) := Lib.hid (by
        have h := HR.out
        rw [revK_end (by rw [← HN.out]; omega)] at h
        exact h)
      go_wp2_with fail
      go_end0
      exact ⟨rfl, HF.out, HB.out, HKo.out⟩
end Se
end
section
open Go.RowKit
namespace Se
open Cm Rx Au
theorem info_sp : (Try.prog.info? tSp).map (fun i => (i.zero, i.size, i.bytes)) = some (some (.agg #[.int .i64 0, .int .i64 0]), 2, 16) := by kernel_rfl
theorem flatP_append (L M : List (Nat × Nat)) : flatP (L ++ M) = flatP L ++ flatP M := by simp [flatP]
theorem flatP_splice {L : List (Nat × Nat)} {m : Nat} (hm : m < L.length) (x : Nat × Nat) : (flatP L).take (m * 2) ++ [.int .i64 (x.1 : Int), .int .i64 (x.2 : Int)] ++ (flatP L).drop (m * 2 + 2) = flatP (L.set m x) := by
  rw [← flatP_set]
  refine List.ext_getElem? fun i => ?_
  have hl := flatP_len L
  simp only [List.getElem?_append, List.length_append, List.length_take, List.length_cons, List.length_nil, List.getElem?_set, List.length_set, List.getElem?_take, List.getElem?_drop]
  by_cases h1 : i < m * 2
  · rw [if_pos (by omega), if_pos (by omega), if_pos h1, if_neg (by omega), if_neg (by omega)]
  · by_cases h2 : i = m * 2
    · subst h2
      rw [if_pos (by omega), if_neg (by omega), if_neg (by omega), if_pos rfl, if_pos (by omega)]
      rw [show m * 2 - min (m * 2) (flatP L).length = 0 by omega]
      rfl
    · by_cases h3 : i = m * 2 + 1
      · subst h3
        rw [if_pos (by omega), if_neg (by omega), if_pos rfl, if_pos (by omega)]
        rw [show m * 2 + 1 - min (m * 2) (flatP L).length = 1 by omega]
        rfl
      · rw [if_neg (by omega), if_neg (by omega), if_neg (by omega)]
        congr 1
        omega
theorem KS.setRow {w : World} {g : Nat} {cur : Array Value} {fr : Nat × Nat} (hh : w.heap[g]? = some (.cells cur tSp fr)) (cs : Array Value) : KS w (w.setRow g cs) := by
  refine ⟨by rw [setRow_size]; exact Nat.le_refl _, fun k o hk ho => ?_⟩
  by_cases e : k = g
  · subst e
    rw [hh] at hk
    injection hk with hk
    exact absurd hk.symm (fun e => ho _ _ e)
  · exact (setRow_other _ g k _ e).trans hk
theorem take_splice {X : List Value} {n m : Nat} (hm : m < n) (hX : n * 2 ≤ X.length) (a b : Value) : (X.take (m * 2) ++ [a, b] ++ X.drop (m * 2 + 2)).take (n * 2) = (X.take (n * 2)).take (m * 2) ++ [a, b] ++ (X.take (n * 2)).drop (m * 2 + 2) := by
  have hl : (X.take (m * 2) ++ [a, b]).length = m * 2 + 2 := by simp; omega
  rw [List.take_append, List.take_of_length_le (by rw [hl]; omega), hl, List.take_take, Nat.min_eq_left (by omega), List.drop_take]
section
variable {ops : Array Oper} {rest : List Oper} {o : Oper} {a : Act} {Q : Exit → Act → World → Prop} {w : World}
/-- append of one span where there is room: the element behind the kept ones is written over. -/
theorem app_over (hg : o.guard = none) (s x : Operand) (ho : o.op = .call { callee := .builtin .append, args := #[s, x], argTypes := #[tSps, tSps] })
    (base g m n c : Nat) (L : List (Nat × Nat)) (y : Nat × Nat) (hn : n = L.length) (hm : m < n) (hs : a.eval s = .slice (some ⟨g, 0, none⟩) m c) (hown : w.ownsRow base tSp 2 (.slice (some ⟨g, 0, none⟩) n c) n (flatP L))
    (H : Nat) (hx : a.eval x = .slice (some ⟨H, 0, none⟩) 1 1) (hH : H = w.heap.size) (hbase : base ≤ w.heap.size)
    (h : ∀ w', w'.ownsRow base tSp 2 (.slice (some ⟨g, 0, none⟩) n c) n (flatP (L.set m y)) → Below base w w' → (∀ k, k ≠ g → w'.heap[k]? = (w.alloc (.cells #[.int .i64 (y.1 : Int), .int .i64 (y.2 : Int)] tSp)).heap[k]?) → KS (w.alloc (.cells #[.int .i64 (y.1 : Int), .int .i64 (y.2 : Int)] tSp)) w' → wpList Try.prog ops Q rest (a.put o.dst (.slice (some ⟨g, 0, none⟩) (m + 1 : Nat) c)) w') :
    wpList Try.prog ops Q (o :: rest) a (w.alloc (.cells #[.int .i64 (y.1 : Int), .int .i64 (y.2 : Int)] tSp)) := by
  subst hn
  subst hH
  obtain ⟨i0, hi0, hz0, hz1, hz2⟩ := info_parts info_sp
  have h0 := hown.alloc (.cells #[.int .i64 (y.1 : Int), .int .i64 (y.2 : Int)] tSp)
  obtain ⟨hlen, hor⟩ := h0
  rcases hor with ⟨e, _⟩ | ⟨g', cap, cur, e, hb, hh, hle, hmx, hsz, htk⟩
  · cases e
  injection e with e2 _ e3
  injection e2 with e2
  injection e2 with e2
  subst e2 e3
  have hfl := flatP_len L
  refine wpList_plain hg fun K hK => ?_
  have hrun := run_append_room (P := Try.prog) (w.alloc (.cells #[.int .i64 (y.1 : Int), .int .i64 (y.2 : Int)] tSp)) tSps o.type tSp i0 Try.underlying60 hi0 g m c cur hh ⟨w.heap.size, 0, none⟩ 1 1 [.int .i64 (y.1 : Int), .int .i64 (y.2 : Int)] (by rw [hz1]; rfl) (fun j u hu => by
    have he : (Addr.mk w.heap.size 0 none).add j = ⟨w.heap.size, j, none⟩ := by
      unfold Addr.add; split
      · rename_i h0; rw [h0]
      · simp
    rw [he, World.cell?_alloc_mark, ← hu]; simp) (fun u hu => by
    simp only [List.mem_cons, List.not_mem_nil, or_false] at hu
    rcases hu with rfl | rfl <;> rfl) (by omega) (by rw [hz1, hsz]; simp; omega)
  unfold Oper.wp
  simp [execOp, ho, resolve, invoke, builtin, hs, hx, hrun, Result.andThen]
  refine hK _ _ (h _ ?_ ?_ (fun k hk => setRow_other _ g k _ hk) (KS.setRow hh _))
  · refine ⟨by rw [flatP_len, List.length_set], .inr ⟨g, c, _, rfl, hb, setRow_heap _ g _ _ tSp _ hh, hle, hmx, ?_, ?_⟩⟩
    · rw [hz1]
      simp
      omega
    · rw [hz1, ← flatP_splice hm y, ← htk]
      have h5 := take_splice (X := cur.toList) hm (by have hcs : cur.toList.length = cur.size := Array.length_toList (xs := cur); rw [hcs, hsz]; exact Nat.mul_le_mul_right _ hle) (.int .i64 (y.1 : Int)) (.int .i64 (y.2 : Int))
      rw [← h5, List.append_assoc]
      rfl
  · exact below_setRow ((Below.refl base w).alloc hbase _) hb _
end
/-- What apart leaves. -/
def ApPost (base : Nat) (L : List (Nat × Nat)) (w : World) (e : Ending) (w' : World) : Prop :=
  ∃ v, e = .returned v ∧ w'.ownsRow base tSp 2 v (apartL 0 L).length (flatP (apartL 0 L)) ∧ Below base w w' ∧ KS w w'
theorem own_pre {w : World} {base n c : Nat} {A : Option Addr} {L K : List (Nat × Nat)} (h : w.ownsRow base tSp 2 (.slice A n c) n (flatP L)) (hn : n = L.length) (hK : L.take K.length = K) : w.ownsRow base tSp 2 (.slice A K.length c) K.length (flatP K) := by
  refine ⟨flatP_len K, ?_⟩
  have hle : K.length ≤ L.length := by
    have := congrArg List.length hK
    rw [List.length_take] at this
    omega
  rcases h.2 with ⟨e, e2⟩ | ⟨g, cap, cur, e, hb, hh, h1, h2, h3, h4⟩
  · injection e with e1 _ e3
    subst e1 e3
    have hk : K = [] := List.eq_nil_of_length_eq_zero (by omega)
    subst hk
    exact .inl ⟨rfl, rfl⟩
  · injection e with e1 _ e3
    subst e1 e3
    refine .inr ⟨g, c, cur, rfl, hb, hh, by omega, h2, h3, ?_⟩
    have h5 : L = K ++ L.drop K.length := by
      conv => lhs; rw [← List.take_append_drop K.length L, hK]
    have h6 : flatP L = flatP K ++ flatP (L.drop K.length) := by
      conv => lhs; rw [h5]
      exact flatP_append _ _
    have h7 : (cur.toList.take (n * 2)).take (K.length * 2) = flatP K := by
      rw [h4, h6, List.take_append_of_le_length (by rw [flatP_len]; exact Nat.le_refl _), List.take_of_length_le (by rw [flatP_len]; exact Nat.le_refl _)]
    rw [List.take_take, Nat.min_eq_left (by omega)] at h7
    exact h7
set_option maxRecDepth 100000 in
set_option maxHeartbeats 2000000 in
theorem apart_any (base : Nat) (v : Value) (L : List (Nat × Nat)) (w : World) (h : w.ownsRow base tSp 2 v L.length (flatP L)) (hl : L.length ≤ 1000000) (hbw : base ≤ w.heap.size) :
    Calls Try.prog 34 #[v] w (ApPost base L w) := by
  obtain ⟨A, c, hv⟩ := own_formP2 h
  have hc0 : A = none → c = 0 := by
    rcases h.2 with ⟨e, _⟩ | ⟨g, cap, cur, e, _⟩
    · rw [e] at hv; injection hv with e1 _ e3; exact fun _ => e3.symm
    · rw [e] at hv; injection hv with e1 _ e3; subst e1; exact fun h => by cases h
  subst hv
  have HC0 := Lib.hid hc0
  obtain ⟨n, hn⟩ : ∃ n, n = L.length := ⟨_, rfl⟩
  have HN := Lib.hid hn
  rw [← hn] at hl h ⊢
  have HR := Lib.hid h
  have HAp : Hid (apartL 0 L = [] ++ apartL 0 (L.drop 0)) := Lib.hid rfl
  clear hn h hc0
  go_enter Try.func34, Try.ntmps34
  go_wp2_with fail
  go_loopw [3, 4, 11] (fun kv pv a wr => ∃ (i p : Nat) (K X : List (Nat × Nat)), a = .int .i64 (i : Int) ∧ pv = .int .i64 (p : Int) ∧ kv = .slice A (K.length : Nat) c ∧ i ≤ n ∧ K.length ≤ i ∧ Hid (X.length = n) ∧ Hid (wr.ownsRow base tSp 2 (.slice A n c) n (flatP X)) ∧ Hid (X.take K.length = K) ∧ Hid (X.drop i = L.drop i) ∧ Hid (apartL 0 L = K ++ apartL p (L.drop i)) ∧ Hid (Below base w wr) ∧ Hid (KS w wr)) (fun _ _ a _ => n - (intOf a).toNat)
  case atStart => exact ⟨0, 0, [], L, by go_num, by go_num, rfl, Nat.zero_le _, Nat.le_refl _, Lib.hid HN.out.symm, HR, Lib.hid rfl, Lib.hid rfl, HAp, Lib.hid (Below.refl _ _), Lib.hid (KS.refl _)⟩
  case round =>
    clear HR HAp
    obtain ⟨i, p, K, X, rfl, rfl, rfl, hi, hKi, HXl, HR, HTk, HDr, HAp, HB, HKo⟩ := hrel
    by_cases hlt : i < n
    · obtain ⟨g, hA⟩ : ∃ g, A = some ⟨g, 0, none⟩ := by
        rcases HR.out.2 with ⟨_, e⟩ | ⟨g, cap, cur, e, _⟩
        · omega
        · injection e with e _ _; exact ⟨g, e⟩
      subst hA
      have hiX : i < X.length := by rw [HXl.out]; exact hlt
      have hiL : i < L.length := by rw [← HN.out]; exact hlt
      have hxe : X[i] = L[i] := by
        have h1 := congrArg List.head? HDr.out
        rw [List.head?_drop, List.head?_drop, List.getElem?_eq_getElem hiX, List.getElem?_eq_getElem hiL] at h1
        exact Option.some.inj h1
      have HDc : Hid (L.drop i = L[i] :: L.drop (i + 1)) := Lib.hid (List.drop_eq_getElem_cons hiL)
      obtain ⟨m0, m1⟩ := own_at HR.out hiX HXl.out.symm
      rw [hxe] at m0 m1
      have HDr2 : Hid (X.drop (i + 1) = L.drop (i + 1)) := Lib.hid (by
        have h1 := congrArg List.tail HDr.out
        rwa [List.tail_drop, List.tail_drop] at h1)
      generalize L[i] = x at m0 m1 HDc
      have hm : K.length < n := by omega
      have i0 : (0 : Int) ≤ (i : Int) := by omega
      have i1 : (i : Int) < (n : Int) := by omega
      have i2 : decide (i < n) = true := by simpa using hlt
      have hbz := HB.out.size
      by_cases hxp : x.1 < p
      · have t0 : decide (x.1 < p) = true := by simpa using hxp
        have HAp2 : Hid (apartL 0 L = K ++ apartL p (L.drop (i + 1))) := Lib.hid (by
          rw [HAp.out, HDc.out]
          show K ++ (if x.1 < p then _ else _) = _
          rw [if_pos hxp])
        clear hiX hiL hxe HDc HDr HAp hxp
        go_wp2_with fail
        go_roundw
        case rel => exact ⟨i + 1, p, K, X, by go_num, rfl, rfl, by omega, by omega, HXl, Lib.hid (HR.out.alloc _), HTk, HDr2, HAp2, Lib.hid (HB.out.alloc (by omega) _), Lib.hid (HKo.out.trans (KS.alloc _ _))⟩
        case measure => simp [intOf]; omega
      · have t0 : decide (x.1 < p) = false := by simpa using hxp
        have HAp2 : Hid (apartL 0 L = (K ++ [x]) ++ apartL x.2 (L.drop (i + 1))) := Lib.hid (by
          rw [HAp.out, HDc.out, List.append_assoc]
          show K ++ (if x.1 < p then _ else _) = _
          rw [if_neg hxp]
          rfl)
        have HTk2 : Hid ((X.set K.length x).take (K ++ [x]).length = K ++ [x]) := Lib.hid (by
          rw [List.length_append, List.length_singleton, List.take_set, List.take_succ_eq_append_getElem (by omega), HTk.out]
          rw [List.set_append_right _ _ (by omega), Nat.sub_self]
          rfl)
        have HDr3 : Hid ((X.set K.length x).drop (i + 1) = L.drop (i + 1)) := Lib.hid (by
          rw [List.drop_set, if_pos (by omega)]; exact HDr2.out)
        have HXl2 : Hid ((X.set K.length x).length = n) := Lib.hid (by rw [List.length_set]; exact HXl.out)
        have hKl : (K ++ [x]).length = K.length + 1 := by simp
        have HKl := Lib.hid hKl
        obtain ⟨m, hmk⟩ : ∃ m, m = K.length := ⟨_, rfl⟩
        have HMk := Lib.hid hmk
        rw [← hmk] at hm hKi
        have hgn : wr.heap.size ≠ g := by have := Tx.cell_lt m0; omega
        clear hiX hiL hxe HDc HDr HDr2 HAp hxp hKl
        rw [← hmk]
        clear hmk
        go_upto_region 7 with fail
        go_wp2_with (at_builtin; refine app_over rfl (.tmp 19) (.tmp 21) rfl base g m n c X x HXl.out.symm hm rfl (HR.out.alloc _) (wr.heap.size + 1) rfl (by simp) (by simp; omega) ?_; intro w4 ho4 hb4 ho5 hko; have c4 : w4.cell? ⟨wr.heap.size, 1, none⟩ = some (.int .i64 (x.2 : Int)) := (by have h9 := (ho5 wr.heap.size hgn).trans ((Below.heap_alloc _ _ _ (by simp)).trans (heap_new wr _)); simp only [World.cell?, h9]; rfl); have HO4 := Lib.hid ho4; have HK4 := Lib.hid (((HKo.out.trans (KS.alloc _ _)).trans (KS.alloc _ _)).trans hko); have HB4 := Lib.hid ((HB.out.alloc (by omega) _).trans hb4); clear ho4 hb4 ho5 hko)
        go_wp2_with fail
        go_roundw
        case rel => exact ⟨i + 1, x.2, K ++ [x], X.set K.length x, by go_num, rfl, by rw [HKl.out, ← HMk.out], by omega, by rw [HKl.out, ← HMk.out]; omega, HXl2, by rw [← HMk.out]; exact HO4, HTk2, HDr3, HAp2, HB4, HK4⟩
        case measure => simp [intOf]; omega
    · obtain rfl : i = n := by omega
      have i2 : decide (i < i) = false := by simp
      have HF : Hid (apartL 0 L = K) := Lib.hid (by
        rw [HAp.out, HN.out, List.drop_length]
        simp [apartL])
      have HO := Lib.hid (own_pre HR.out HXl.out.symm HTk.out)
      go_wp2_with fail
      go_ret
      exact ⟨_, rfl, by rw [HF.out]; exact HO.out, HB.out, HKo.out⟩
end Se
end
section
open Go.RowKit
attribute [local go_sem] Oper.semAt_some
namespace Se
open Cm Rx Au
/-- What All leaves. -/
def AllPost (K : List (Nat × Nat)) (w : World) (e : Ending) (w' : World) : Prop :=
  ∃ v, e = .returned (.tuple #[v, .int .i64 0]) ∧ w'.ownsRow w.heap.size tSp 2 v K.length (flatP K) ∧ Below w.heap.size w w'
theorem cell_two_new (w : World) (a b : Value) (t : TypeId) : ∀ j u, [a, b][j]? = some u → (w.alloc (.cells #[a, b] t)).cell? ((⟨w.heap.size, 0, none⟩ : Addr).add j) = some u := fun j u hu => by
  have he : (Addr.mk w.heap.size 0 none).add j = ⟨w.heap.size, j, none⟩ := by
    unfold Addr.add; split
    · rename_i h0; rw [h0]
    · simp
  rw [he, World.cell?_alloc_mark, ← hu]; simp
theorem own_keep {w W : World} {base t s n : Nat} {v : Value} {xs : List Value} (h : w.ownsRow base t s v n xs) (hk : ∀ (k : Nat) (o : Obj), w.heap[k]? = some o → (∃ cs t z, o = Obj.cells cs t z) → W.heap[k]? = some o) : W.ownsRow base t s v n xs :=
  own_one h (fun k _ hc => hk k _ hc ⟨_, _, _, rfl⟩)
theorem K2.app {V w1 : World} {tmp : Obj} {v : Value} {b n : Nat} {xs : List Value} (hrow : V.ownsRow b tSp 2 v n xs) (hg : (V.alloc tmp).grownBy w1 v.ownBlock) : K2 V w1 :=
  (K2.alloc V tmp).trans (K2.of hg.size fun k cs t z h1 h2 => hg.block k (lt_some h1) (fun e => by
    obtain ⟨cur, hc⟩ := own_cells (hrow.alloc tmp) e.symm
    rw [hc] at h1
    injection h1 with h1
    injection h1 with _ h1 _
    subst h1
    cases h2))
set_option maxRecDepth 100000 in
set_option maxHeartbeats 2000000 in
theorem All_ok (v : Value) (ss : List St) (st : Nat) (s : ByteArray) (w : World) (h : RdT w v ss) (hv : ValidA ss (st : Int)) (hs : s.size ≤ 100000) :
    Calls Try.prog 20 #[.agg #[v, .int .i64 (st : Int)], .string s] w (AllPost (allL ss st (Tx.bs s)) w) := by
  have hst : st < ss.length := by have := of_decide_eq_true hv.2.1; omega
  have h8 := hv.1
  have HOk := Lib.hid hv.2.2
  have HCk := Lib.hid (fun W (hb : Below w.heap.size w W) => CheckA_any v ss st W (h.rd.below hb) (by omega))
  rw [checkA_T hv] at HCk
  have HRd := Lib.hid (fun W (hb : Below w.heap.size w W) => h.below hb)
  have HBl : Hid ((Tx.bs s).length = s.size) := Lib.hid (bs_len s)
  obtain ⟨A, c, rfl, hA⟩ := h
  obtain ⟨bA, oA, rfl, -⟩ := hA (by omega)
  clear hA hv
  obtain ⟨i0, hi, hz0, hz1, hz2⟩ := info_parts info_sp
  have HI := Lib.hid (And.intro hi (And.intro hz0 (And.intro hz1 hz2)))
  clear hi hz0 hz1 hz2
  have HLo := Lib.hid (fun W => longest_any (some ⟨bA, oA, none⟩) ss.length c st 0 s W)
  obtain ⟨C, hC⟩ : ∃ C, C = w.heap.size := ⟨_, rfl⟩
  refine (callsIn_wide (n := 4)).1 ?_
  refine callsIn_of_wp_marks Try.func20 rfl trivial ?_ rfl
  simp only [Try.ntmps20, List.size_toArray, List.length_cons, List.length_nil, Nat.reduceAdd, Nat.reduceSub, Array.replicate_succ, Array.replicate_zero, List.push_toArray, List.append_toArray, List.nil_append, List.cons_append]
  gi_upto_region 1 with fail
  have HW4 : Hid ((w.alloc (.cells #[.slice (some ⟨bA, oA, none⟩) ss.length c, .int .i64 (st : Int)] tAuto)).heap[w.heap.size]? = some (.cells #[.slice (some ⟨bA, oA, none⟩) ss.length c, .int .i64 (st : Int)] tAuto (0, 0)) ∧ Below w.heap.size w (w.alloc (.cells #[.slice (some ⟨bA, oA, none⟩) ss.length c, .int .i64 (st : Int)] tAuto))) := Lib.hid ⟨heap_new w _, (Below.refl _ _).alloc (Nat.le_refl _) _⟩
  generalize w.alloc (.cells #[.slice (some ⟨bA, oA, none⟩) ss.length c, .int .i64 (st : Int)] tAuto) = w4 at HW4 ⊢
  rw [← hC] at HW4 HCk HRd ⊢
  have HCw := Lib.hid hC
  clear hC
  obtain ⟨⟨c0, c1⟩, -, -⟩ := box_cells HW4.out.1
  gi_upto_region 5 with (first
    | (refine ⟨(trivial : Fence.wide.fn 27), ?_⟩; gi_at_call 27; refine (callsIn_wide.2 (HCk.out _ HW4.out.2)).mono ?_; rintro e w1 ⟨rfl, hb1⟩; have HB1 := Lib.hid hb1; clear c0 c1 hb1)
    | gi_in)
  have HW5 : Hid ((w1.alloc (.cells #[.slice none 0 0] tSps)).heap[w1.heap.size]? = some (.cells #[.slice none 0 0] tSps (0, 0)) ∧ Below w1.heap.size w1 (w1.alloc (.cells #[.slice none 0 0] tSps))) := Lib.hid ⟨heap_new w1 _, (Below.refl _ _).alloc (Nat.le_refl _) _⟩
  generalize w1.alloc (.cells #[.slice none 0 0] tSps) = w5 at HW5 ⊢
  obtain ⟨⟨c0, c1⟩, -, -⟩ := box_cells ((HW5.out.2.block C (by have := lt_some HW4.out.1; have := HB1.out.size; omega)).trans ((HB1.out.block _ (lt_some HW4.out.1)).trans HW4.out.1))
  gi_wp2_with (first
    | (refine ⟨(trivial : Fence.wide.fn 28), ?_⟩; gi_at_call 28; refine (callsIn_wide.2 (HLo.out _)).mono ?_; rintro e w2 ⟨rfl, hc2, hb2, hz2⟩; have HB2 := Lib.hid hb2; have HC2 := Lib.hid hc2; clear hb2 hc2 hz2)
    | gi_in)
  clear c0 c1
  have hCl := lt_some HW4.out.1
  have hz1 := HB1.out.size
  have hz5 := HW5.out.2.size
  have hbw : Below C w w2 := HW4.out.2.trans ((HB1.out.trans ((HW5.out.2.trans (HB2.out.mono hz5)).mono hz1)).mono (by omega))
  have hM : Boxed w2 w1.heap.size tSps (.slice none 0 0) := (HB2.out.block _ (lt_some HW5.out.1)).trans HW5.out.1
  have hz2 := hM.lt
  have HI2 := Lib.hid (And.intro hM hbw)
  obtain ⟨hsat, hty⟩ := rd_parts (HRd.out _ hbw) (by omega)
  generalize w5.heap.size = B at HC2 ⊢
  have hCM : C < w1.heap.size := by omega
  generalize hM' : w1.heap.size = M at HI2 hz2 hCM ⊢
  clear hbw hM hz5 hz1 hM' hCl HB1 HB2 HW4 HW5 HLo HCk HRd
  refine range_longest 4 (by omega) B ss st bA oA c 0 s (by omega) h8 hs hst (Nat.zero_le _) HOk.out (by rfl) rfl hsat hty HC2.out
    (fun pre W => (∃ v, Boxed W M tSps v ∧ W.ownsRow C tSp 2 v pre.length (flatP pre)) ∧ Below C w W)
    (fun _ _ _ => False)
    (fun pre A B row h hg hr => ?own) (fun pre W W' h hk hb => ?k1) (fun cd pre A B row h hg hr => h) ⟨⟨_, HI2.out.1, rfl, .inl ⟨rfl, rfl⟩⟩, HI2.out.2⟩
    (fun x W => { tmps := #[.agg #[.slice (some ⟨bA, oA, none⟩) ss.length c, .int .i64 (st : Int)], .string s, .pointer (some ⟨C, 0, none⟩), undef, .slice none 0 0, .int .i64 0, .int .i64 0, .pointer (some ⟨M, 0, none⟩), .pointer (some ⟨W.heap.size, 0, none⟩), .agg #[.slice (some ⟨bA, oA, none⟩) ss.length c, .int .i64 (st : Int)], .int .i64 0, .int .i64 0, .bool false, undef, .agg #[.slice (some ⟨bA, oA, none⟩) ss.length c, .int .i64 (st : Int)], .string s, longV B, .agg #[.int .i64 (x.1 : Int), .int .i64 (x.2 : Int)], undef, undef, undef, undef, undef, undef, undef, undef], defers := [] })
    (fun x W => W.alloc (.cells #[.int .i64 (x.1 : Int), .int .i64 (x.2 : Int)] tSp)) (fun x W => (Below.refl _ _).alloc (Nat.le_refl _) _) ?assign ?body ?done ?stop
  case own =>
    obtain ⟨⟨v, h1, h2⟩, h3⟩ := h
    refine ⟨⟨v, h1.kept hg (fun e => by have := (hr _ e.symm).1; omega), own_keep h2 (fun k o hk ho => (hg.block k (lt_some hk) (fun e => ?_)).trans hk)⟩, h3.grown hg (by have := h1.lt; omega) (fun k e => by have := (hr k e).1; omega)⟩
    obtain ⟨_, o', ho', hc'⟩ := hr k e.symm
    rw [hk] at ho'
    injection ho' with ho'
    subst ho'
    obtain ⟨cs, t, z, rfl⟩ := ho
    cases hc'
  case k1 =>
    obtain ⟨⟨v, h1, h2⟩, h3⟩ := h
    exact ⟨⟨v, boxed_k1 h1 hk rfl, own_one h2 (fun k cur hc => hk.same _ _ hc (fun cs t z e => by injection e with _ e _; subst e; rfl))⟩, h3.trans (hb.mono (by omega))⟩
  case assign =>
    intro l x W K hK
    rw [put_one]
    gi_wp2
    exact hK
  case body =>
    rintro l pre x W V ⟨⟨v, hv, hrow⟩, h5⟩ hW hVk hVs hpre
    have hnew : V.heap[W.heap.size]? = some (.cells #[.int .i64 (x.1 : Int), .int .i64 (x.2 : Int)] tSp (0, 0)) := (hVk _ (Nat.le_refl _)).trans (heap_new W _)
    obtain ⟨⟨m0, m1⟩, -, -⟩ := box_cells hnew
    have hpl : pre.length ≤ 200000 := by
      have h6 := hpre.length_le
      have h7 := desL_len ss st (Tx.bs s) 0
      rw [HBl.out] at h7
      simp at h6
      omega
    have hc := hv.cell
    have hf := hv.frozen
    have Hrow := Lib.hid hrow
    have Hv := Lib.hid hv
    have H5 := Lib.hid h5
    have hvz := hv.lt
    have HVs := Lib.hid (show C ≤ V.heap.size by omega)
    clear hVk hVs hpre hnew hsat hty HI2 HC2 hrow hv h5
    gi_wp2_with (first
      | (gi_at_builtin; refine wpListIn_append_own _ rfl _ _ tSps rfl C tSp i0 _ 2 16 Try.underlying60 HI.out.1 HI.out.2.1 HI.out.2.2.1 HI.out.2.2.2 rfl (by decide) _ _ _ rfl (Hrow.out.alloc _) ⟨V.heap.size, 0, none⟩ 1 1 [.int .i64 (x.1 : Int), .int .i64 (x.2 : Int)] rfl rfl (cell_two_new _ _ _ _) (by simp [Value.oneCell']) (by unfold maxLen; omega) (by omega) (by simp; omega) ?_; intro v' w6 hown' hgrow _; obtain ⟨A', c', rfl⟩ := own_formP2 hown'; obtain ⟨hv1, hv2, hr2, hk2, hb2⟩ := Hv.out.appended (by decide) Hrow.out HVs.out (by omega) hown' hgrow; have HK2 := Lib.hid ((K2.app Hrow.out hgrow).trans (K2.setCell (i := 0) (u := .slice A' (pre.length + 1 : Nat) c') hv1 rfl)); have hc1 := hv1.cell; have hf1 := hv1.frozen; clear hv1 hown' hgrow)
      | gi_in)
    refine ⟨hk2.from _, ⟨⟨_, hv2, ?_⟩, H5.out.trans hb2⟩, HK2.out⟩
    rw [List.length_append, List.length_singleton, flatP_append]
    exact hr2
  case done =>
    rintro D W hD ⟨⟨v, h1, h2⟩, h3⟩ hK
    have hlen : (desL ss st (Tx.bs s) 0).length ≤ 1000000 := by
      have h7 := desL_len ss st (Tx.bs s) 0
      rw [HBl.out] at h7
      omega
    have hrl : (ascL ss st (Tx.bs s) 0).length = (desL ss st (Tx.bs s) 0).length := by unfold desL; rw [List.length_reverse]
    have hrr : (desL ss st (Tx.bs s) 0).reverse = ascL ss st (Tx.bs s) 0 := by unfold desL; rw [List.reverse_reverse]
    have HRev := Lib.hid (Reverse_any C v (desL ss st (Tx.bs s) 0) W h2 hlen)
    have hzW : C ≤ W.heap.size := by have := h1.lt; omega
    have HAp := Lib.hid (fun (W7 : World) (hz : W.heap.size ≤ W7.heap.size) (ho : W7.ownsRow C tSp 2 v (desL ss st (Tx.bs s) 0).length (flatP (desL ss st (Tx.bs s) 0).reverse)) => apart_any C v (ascL ss st (Tx.bs s) 0) W7 (by rw [hrl, ← hrr]; exact ho) (by omega) (by omega))
    have HAll : Hid (apartL 0 (ascL ss st (Tx.bs s) 0) = allL ss st (Tx.bs s)) := Lib.hid (allL_apart ss st (Tx.bs s))
    have hc1 := h1.cell
    have HM := Lib.hid h1
    have H3 := Lib.hid h3
    have HK := Lib.hid hK
    clear h1 h2 h3 hK hlen hrl hrr hzW hsat hty HI2 HC2
    gi_wp2_with (first
      | (refine ⟨(trivial : Fence.wide.fn 33), ?_⟩; gi_at_call 33; refine (callsIn_wide.2 HRev.out).mono ?_; rintro e w7 ⟨rfl, ho7, hb7, hk7⟩; have HO7 := Lib.hid ho7; have HB7 := Lib.hid hb7; have HK7 := Lib.hid hk7; have c7 : w7.cell? ⟨M, 0, none⟩ = some v := Boxed.cell (hk7.same _ _ HM.out (fun cs z e => by injection e with _ e _; cases e)); clear ho7 hb7 hk7)
      | (refine ⟨(trivial : Fence.wide.fn 34), ?_⟩; gi_at_call 34; refine (callsIn_wide.2 (HAp.out w7 HK7.out.size HO7.out)).mono ?_; rintro e w8 ⟨v8, rfl, ho8, hb8, hk8⟩; have HO8 := Lib.hid ho8; have HB8 := Lib.hid hb8; have HK8 := Lib.hid hk8; clear ho8 hb8 hk8)
      | gi_in)
    have hK8 : w8.heap[D]? = some (.deferred (some [])) := HK8.out.same _ _ (HK7.out.same _ _ HK.out (fun cs z e => by cases e)) (fun cs z e => by cases e)
    refine ⟨by simp, .inl ⟨_, _, rfl, run_takeDeferred hK8, ?_⟩⟩
    refine ⟨_, results_tmp2 rfl _ _ _, v8, rfl, ?_, ?_⟩
    · rw [← HCw.out, ← HAll.out]
      exact ownsRow_putObj HO8.out (.deferred none) hK8 rfl
    · rw [← HCw.out]
      exact ((H3.out.trans HB7.out).trans HB8.out).trans (belowK_b (w := w2) (n₀ := C) (by omega) w8 D _ (.deferred none) hD hK8 rfl rfl)
  case stop =>
    rintro D c pre W _ _ _ h _
    exact h.elim
end Se
end
section
open Go.RowKit
namespace Se
open Cm Rx Au
/-- A slice that reads as a list of spans. -/
def RdP (w : World) (v : Value) (L : List (Nat × Nat)) : Prop :=
  ∃ A c, v = .slice A L.length c ∧ (0 < L.length → ∃ g off, A = some ⟨g, off, none⟩ ∧ ∀ k (h : k < L.length), w.cell? ⟨g, off + k * 2, none⟩ = some (.int .i64 (L[k].1 : Int)) ∧ w.cell? ⟨g, off + k * 2 + 1, none⟩ = some (.int .i64 (L[k].2 : Int)))
theorem RdP.below {w w' : World} {v : Value} {L : List (Nat × Nat)} (h : RdP w v L) (hb : Below w.heap.size w w') : RdP w' v L := by
  obtain ⟨A, c, rfl, h⟩ := h
  refine ⟨A, c, rfl, fun hp => ?_⟩
  obtain ⟨g, off, e, h1⟩ := h hp
  exact ⟨g, off, e, fun k hk => ⟨(hb.cell (p := ⟨g, off + k * 2, none⟩) (Tx.cell_lt (h1 k hk).1)).trans (h1 k hk).1, (hb.cell (p := ⟨g, off + k * 2 + 1, none⟩) (Tx.cell_lt (h1 k hk).2)).trans (h1 k hk).2⟩⟩
theorem RdP.of_own {w : World} {base : Nat} {v : Value} {L : List (Nat × Nat)} (h : w.ownsRow base tSp 2 v L.length (flatP L)) : RdP w v L := by
  obtain ⟨A, c, rfl⟩ := own_formP2 h
  refine ⟨A, c, rfl, fun hp => ?_⟩
  obtain ⟨g, hA⟩ : ∃ g, A = some ⟨g, 0, none⟩ := by
    rcases h.2 with ⟨_, e⟩ | ⟨g, cap, cur, e, _⟩
    · omega
    · injection e with e _ _; exact ⟨g, e⟩
  subst hA
  exact ⟨g, 0, rfl, fun k hk => by rw [Nat.zero_add]; exact own_at h hk rfl⟩
set_option maxRecDepth 100000 in
set_option maxHeartbeats 2000000 in
theorem Spans_any (v1 v2 : Value) (L M : List (Nat × Nat)) (w : World) (h1 : RdP w v1 L) (h2 : RdP w v2 M) (hL : L.length ≤ 1000000) (_hM : M.length ≤ 1000000) :
    Calls Try.prog 22 #[v1, v2] w fun e w' => e = .returned (.bool (decide (L = M))) ∧ ∃ m, w' = w.drewN m := by
  obtain ⟨A, c, rfl, hA⟩ := h1
  obtain ⟨B, d, rfl, hB⟩ := h2
  by_cases hlen : L.length = M.length
  · have HA := Lib.hid hA
    have HB := Lib.hid hB
    obtain ⟨n, hn⟩ : ∃ n, n = L.length := ⟨_, rfl⟩
    have HN := Lib.hid hn
    have HNM : Hid (n = M.length) := Lib.hid (hn.trans hlen)
    rw [← hlen, ← hn]
    have hl : n ≤ 1000000 := by omega
    have hnn : ((n : Int) == (n : Int)) = true := by simp
    clear hA hB hlen hn hL
    have HE0 : Hid (L.take 0 = M.take 0) := Lib.hid rfl
    go_enter Try.func22, Try.ntmps22
    go_wp2_with fail
    clear hnn
    go_loopw [5] (fun a wr => ∃ i : Nat, a = .int .i64 (i : Int) ∧ i ≤ n ∧ Hid (L.take i = M.take i) ∧ Hid (∃ m, wr = w.drewN m)) (fun a _ => n - (intOf a).toNat)
    case atStart => exact ⟨0, by go_num, Nat.zero_le _, HE0, Lib.hid ⟨0, rfl⟩⟩
    case round =>
      clear HE0
      obtain ⟨i, rfl, hi, HE, HD⟩ := hrel
      by_cases hlt : i < n
      · obtain ⟨m, rfl⟩ := HD.out
        obtain ⟨g, off, rfl, hc⟩ := HA.out (by rw [← HN.out]; omega)
        obtain ⟨g', off', rfl, hc'⟩ := HB.out (by rw [← HNM.out]; omega)
        have hiL : i < L.length := by rw [← HN.out]; exact hlt
        have hiM : i < M.length := by rw [← HNM.out]; exact hlt
        obtain ⟨a0, a1⟩ := hc i hiL
        obtain ⟨b0, b1⟩ := hc' i hiM
        rw [← World.cell?_drewN (n := m)] at a0 a1 b0 b1
        have HS : Hid (L[i] = M[i] → L.take (i + 1) = M.take (i + 1)) := Lib.hid (fun h => by
          rw [List.take_succ_eq_append_getElem hiL, List.take_succ_eq_append_getElem hiM, HE.out, h])
        have HX : Hid (L[i] ≠ M[i] → ¬ L = M) := Lib.hid (fun h e => by subst e; exact h rfl)
        have i0 : (0 : Int) ≤ (i : Int) := by omega
        have i1 : (i : Int) < (n : Int) := by omega
        have i2 : decide (i < n) = true := by simpa using hlt
        have HD2 : ∀ k, Hid (∃ m', (w.drewN m).drewN k = w.drewN m') := fun k => Lib.hid ⟨m + k, by rw [World.drewN_drewN]⟩
        generalize L[i] = x at a0 a1 HS HX
        generalize M[i] = y at b0 b1 HS HX
        generalize w.drewN m = wr at a0 a1 b0 b1 HD2 ⊢
        clear hiL hiM hc hc' HD
        by_cases hxy : x = y
        · subst hxy
          have HS2 := Lib.hid (HS.out rfl)
          clear HS HX
          have e1 : ((x.1 : Int) == (x.1 : Int)) = true := by simp
          have e2 : ((x.2 : Int) == (x.2 : Int)) = true := by simp
          go_upto_region 6 with fail
          go_quiet (fail)
          have HD3 := HD2 nq
          go_wp2_with fail
          go_roundw
          case rel => exact ⟨i + 1, by go_num, by omega, HS2, HD3⟩
          case measure => simp [intOf]; omega
        · have HF : Hid (decide (L = M) = false) := Lib.hid (decide_eq_false (HX.out hxy))
          clear HS HX
          by_cases h1 : x.1 = y.1
          · have h2 : ¬ x.2 = y.2 := fun h2 => hxy (Prod.ext h1 h2)
            have e1 : ((x.1 : Int) == (y.1 : Int)) = true := by rw [h1]; simp
            have e2 : ((x.2 : Int) == (y.2 : Int)) = false := by rw [beq_eq_false_iff_ne]; omega
            clear hxy h1 h2
            go_upto_region 6 with fail
            go_quiet (fail)
            have HD3 := HD2 nq
            go_wp2_with fail
            go_ret
            exact ⟨by rw [HF.out]; rfl, HD3.out⟩
          · have e1 : ((x.1 : Int) == (y.1 : Int)) = false := by rw [beq_eq_false_iff_ne]; omega
            clear hxy h1
            go_upto_region 6 with fail
            go_quiet (fail)
            have HD3 := HD2 nq
            go_wp2_with fail
            go_ret
            exact ⟨by rw [HF.out]; rfl, HD3.out⟩
      · obtain rfl : i = n := by omega
        have i2 : decide (i < i) = false := by simp
        have HF : Hid (decide (L = M) = true) := Lib.hid (decide_eq_true (by
          have h := HE.out
          rw [HN.out, List.take_length, ← HN.out, HNM.out, List.take_length] at h
          exact h))
        go_wp2_with fail
        go_ret
        exact ⟨by rw [HF.out]; rfl, HD.out⟩
  · have HF : Hid (decide (L = M) = false) := Lib.hid (decide_eq_false (fun e => hlen (by rw [e])))
    have e1 : ((L.length : Int) == (M.length : Int)) = false := by rw [beq_eq_false_iff_ne]; omega
    clear hlen hA hB
    generalize L.length = n1 at *
    generalize M.length = n2 at *
    go_enter Try.func22, Try.ntmps22
    go_wp2_with fail
    go_ret
    exact ⟨by rw [HF.out]; rfl, 0, rfl⟩
end Se
end
section
open Go.RowKit
namespace Se
open Cm Rx Au
theorem below_ch {w a b : World} (h : Below w.heap.size w a) (hb : Below a.heap.size a b) : Below w.heap.size w b := h.trans (hb.mono h.size)
theorem rd_lit (w : World) : RdP (w.alloc (.cells #[.int .i64 0, .int .i64 0, .int .i64 1, .int .i64 3, .int .i64 3, .int .i64 3] tSp)) (.slice (some ⟨w.heap.size, 0, none⟩) 3 3) [(0, 0), (1, 3), (3, 3)] := by
  refine ⟨_, 3, rfl, fun _ => ⟨w.heap.size, 0, rfl, fun k hk => ?_⟩⟩
  match k, hk with
  | 0, _ => exact ⟨by rw [World.cell?_alloc_mark]; rfl, by rw [World.cell?_alloc_mark]; rfl⟩
  | 1, _ => exact ⟨by rw [World.cell?_alloc_mark]; rfl, by rw [World.cell?_alloc_mark]; rfl⟩
  | 2, _ => exact ⟨by rw [World.cell?_alloc_mark]; rfl, by rw [World.cell?_alloc_mark]; rfl⟩
set_option maxRecDepth 100000 in
set_option maxHeartbeats 2000000 in
theorem awake6_any (w : World) : Calls Try.prog 7 #[] w fun e w' => e = .returned (.bool true) ∧ Below w.heap.size w w' := by
  have HAl : Hid (∀ (v : Value) (W : World), W.ownsRow W.heap.size tSt 7 v starS.length (flatS starS) → True) := Lib.hid (fun _ _ _ => trivial)
  have HA := Lib.hid (fun (v : Value) (W : World) (h : RdT W v starS) => All_ok v starS 0 ⟨#[98, 97, 97]⟩ W h star_valid (by decide))
  have HWh := Lib.hid (fun (v : Value) (W : World) (h : RdT W v starS) => Whole_ok v starS 0 ⟨#[97, 97]⟩ W h star_valid (by decide))
  rw [show Tx.bs ⟨#[98, 97, 97]⟩ = [98, 97, 97] from rfl, star_all] at HA
  rw [show Tx.bs ⟨#[97, 97]⟩ = [97, 97] from rfl, star_whole] at HWh
  clear HAl
  go_enter Try.func7, Try.ntmps7
  go_wp2_with (first
    | (have hq := HB2; clear hq; go_at_call 21; refine (star_any _).mono ?_; rintro e w3 ⟨v3, rfl, ho, hb⟩; have HS3 := Lib.hid (RdT.of_own ho); have HB3 := Lib.hid (below_ch HB2.out hb); have HL3 := Lib.hid (HL2.out.below hb); clear ho hb)
    | (go_at_call 21; refine (star_any _).mono ?_; rintro e w1 ⟨v1, rfl, ho, hb⟩; have HS1 := Lib.hid (RdT.of_own ho); have HB1 := Lib.hid hb; clear ho hb)
    | (go_at_call 20; refine (HA.out _ _ HS1.out).mono ?_; rintro e w2 ⟨v2, rfl, ho, hb⟩; have HL2 := Lib.hid (RdP.of_own ho); have HB2 := Lib.hid (below_ch HB1.out hb); clear ho hb)
    | (go_at_call 17; refine (HWh.out _ _ HS3.out).mono ?_; rintro e w4 ⟨rfl, hb⟩; have HL4 := Lib.hid (HL3.out.below hb); have HB4 := Lib.hid (below_ch HB3.out hb); have HSp : Hid (Calls Try.prog 22 #[v2, .slice (some ⟨w4.heap.size, 0, none⟩) 3 3] (w4.alloc (.cells #[.int .i64 0, .int .i64 0, .int .i64 1, .int .i64 3, .int .i64 3, .int .i64 3] tSp)) fun e w' => e = .returned (.bool true) ∧ ∃ m, w' = (w4.alloc (.cells #[.int .i64 0, .int .i64 0, .int .i64 1, .int .i64 3, .int .i64 3, .int .i64 3] tSp)).drewN m) := Lib.hid (Spans_any v2 _ _ _ _ (HL4.out.below ((Below.refl _ _).alloc (Nat.le_refl _) _)) (rd_lit w4) (by decide) (by decide)); clear hb)
    | (go_at_call 22; refine HSp.out.mono ?_; rintro e w5 ⟨rfl, m, rfl⟩))
  go_ret
  exact ⟨rfl, below_drewN (HB4.out.alloc HB4.out.size _) _⟩
end Se
end
end Go.Proofs.Ytgadomcbaenodaa

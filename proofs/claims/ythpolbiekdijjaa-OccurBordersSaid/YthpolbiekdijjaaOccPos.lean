/-
  Walks of layer 7: slices.AppendSeq and slices.Collect over the iterator, Positions. Conditions: needle and text have at most 2^22 bytes.
-/
import Derived.Test.YthpolbiekdijjaaOccCount
import Derived.Maps.AppendAt
namespace Go.Proofs.Ythpolbiekdijjaa
open Go.RowKit
attribute [local go_sem] Oper.semAt_some
namespace Oc
open Tx Cm
def natsI (l : List Nat) : List Int := l.map fun i : Nat => (i : Int)
theorem natsI_len (l : List Nat) : (natsI l).length = l.length := by simp [natsI]
theorem natsV_snoc (l : List Nat) (x : Nat) : intsV (natsI (l ++ [x])) = intsV (natsI l) ++ [.int .i64 (x : Int)] := by simp [intsV, natsI]
theorem appended2 {W w1 : World} {n₀ B : Nat} {t e : TypeId} {v v' : Value} {k m : Nat} {xs ys : List Value} {tmp : Obj}
    (hv : Boxed W B t v) (hte : t ≠ e) (hrow : W.ownsRow n₀ e 1 v k xs) (hown' : w1.ownsRow n₀ e 1 v' m ys) (hgrow : (W.alloc tmp).grownBy w1 v.ownBlock) :
    Boxed w1 B t v ∧ Boxed (w1.setCell ⟨B, 0, none⟩ v') B t v' ∧ (w1.setCell ⟨B, 0, none⟩ v').ownsRow n₀ e 1 v' m ys ∧ KeepsOthers W (w1.setCell ⟨B, 0, none⟩ v') ∧
      (∀ c, c ≤ n₀ → c ≤ B → c ≤ W.heap.size → Below c W (w1.setCell ⟨B, 0, none⟩ v')) ∧ ∀ k, k < W.heap.size → k ≠ B → k < n₀ → (w1.setCell ⟨B, 0, none⟩ v').heap[k]? = W.heap[k]? := by
  obtain ⟨h1, h2, _, h4, _⟩ := hv.appended hte (own_base hrow (Nat.zero_le _)) (Nat.zero_le _) (Nat.zero_le _) (own_base hown' (Nat.zero_le _)) hgrow
  have hge : ∀ j, v.ownBlock = some j → n₀ ≤ j := fun j ej => by
    rcases hrow.2 with ⟨rfl, _⟩ | ⟨g, cap, cur, rfl, hb, _, _⟩
    · simp [Value.ownBlock] at ej
    · obtain rfl : g = j := by simpa [Value.ownBlock] using ej
      exact hb
  refine ⟨h1, h2, hown'.kept (grownBy_setCell' w1 B v') (.inr (h1.not_row hte hown').symm), h4, fun c hc hB hW => ?_, fun k hk hkB hkn => ?_⟩
  · exact (((Below.refl c W).alloc hW tmp).grown hgrow (by simp; omega) (fun j ej => by have := hge j ej; omega)).setCell (p := ⟨B, 0, none⟩) hB v'
  · refine (Below.heap_setCell _ _ _ k hkB).trans ((hgrow.block k (by simp; omega) (fun e => by have := hge k e.symm; omega)).trans (Below.heap_alloc _ _ k hk))
theorem caps_of {W W' : World} {B p : Nat} {n s : ByteArray} (h : Caps W B n s p) (hb : ∀ k, B ≤ k → k < B + 3 → W'.heap[k]? = W.heap[k]?) : Caps W' B n s p :=
  ⟨(World.cell?_of_block (w := W) (a := ⟨B, 0, none⟩) (hb B (by omega) (by omega))).trans h.1, (World.cell?_of_block (w := W) (a := ⟨B + 1, 0, none⟩) (hb (B + 1) (by omega) (by omega))).trans h.2.1,
    (World.cell?_of_block (w := W) (a := ⟨B + 2, 0, none⟩) (hb (B + 2) (by omega) (by omega))).trans h.2.2⟩
theorem own_apart {W : World} {row : Option Nat} {base : Nat} {e : TypeId} {v : Value} {k : Nat} {xs : List Value} (h : W.ownsRow base e 1 v k xs) (hr : ∀ r, row = some r → ∃ o : Obj, W.heap[r]? = some o ∧ o.isCells = false) : v.ownBlock = none ∨ v.ownBlock ≠ row := by
  rcases h.2 with ⟨rfl, _⟩ | ⟨g, cap, cur, rfl, _, hgb, _⟩
  · exact .inl rfl
  · refine .inr fun e' => ?_
    obtain ⟨o, ho, hc⟩ := hr g (by rw [← e']; simp [Value.ownBlock])
    rw [hgb] at ho; cases ho; cases hc
/-- A new list of the occurrences. -/
def ListPost (L : List Nat) (w : World) (e : Ending) (w' : World) : Prop :=
  ∃ v, e = .returned v ∧ w'.ownsRow w.heap.size tInt 1 v L.length (intsV (natsI L)) ∧ Below w.heap.size w w'
set_option maxRecDepth 100000 in
set_option maxHeartbeats 4000000 in
theorem appendSeq_in (n s : ByteArray) (p : Nat) (B : Nat) (w : World) (hn : n.size ≤ 4194304) (hs : s.size ≤ 4194304) (hp : p ≤ s.size) (hB : B + 3 ≤ w.heap.size) (hc : Caps w B n s p) :
    CallsIn Fence.wide 4 Try.prog 31 #[.slice none 0 0, apartV B] w (ListPost (posL (bs n) (bs s) p) w) := by
  refine callsIn_of_wp_marks Try.func31 rfl trivial ?_ rfl
  simp only [Try.ntmps31, List.size_toArray, List.length_cons, List.length_nil, Nat.reduceAdd, Nat.reduceSub, Array.replicate_succ, Array.replicate_zero, List.push_toArray, List.append_toArray, List.nil_append, List.cons_append]
  gi_wp2
  obtain ⟨C, hC⟩ : ∃ C, C = w.heap.size := ⟨_, rfl⟩
  obtain ⟨w9, hw9⟩ : ∃ w9, (w.alloc (.cells #[.slice none 0 0] 22)) = w9 := ⟨_, rfl⟩
  have hz9 : w9.heap.size = C + 1 := by rw [← hw9, World.size_alloc, hC]
  have hb9 : Boxed w9 C 22 (.slice none 0 0) := by rw [← hw9, hC]; exact Boxed.new w _ _
  have hB9 : Below C w w9 := by rw [← hw9, hC]; exact (Below.refl _ _).alloc (Nat.le_refl _) _
  have hc9 : Caps w9 B n s p := hc.below hB9 (by omega)
  have hBC : B + 3 ≤ C := by omega
  have HCw := Lib.hid hC
  rw [hw9, ← hC]
  clear hw9 hc hB
  obtain ⟨i0, hi, hz0, hz1, hz2⟩ := info_parts info_int
  refine range_apart 4 (by omega) B n s p hn hs hp (by rfl) rfl (by omega) hc9
    (fun G pre W => (∃ v, Boxed W C 22 v ∧ W.ownsRow (G + 1) tInt 1 v pre.length (intsV (natsI pre))) ∧ Caps W B n s p ∧ W.rowIs G tInt n.size (rowBd (bs n) n.size) ∧ C + 1 ≤ G ∧ Below C w W)
    (fun _ _ _ => False) (fun pre W => (∃ v, Boxed W C 22 v ∧ W.ownsRow C tInt 1 v pre.length (intsV (natsI pre))) ∧ Below C w W)
    (fun G pre W h => ⟨h.2.1, h.2.2.1⟩) (fun G s A B' row h hg hr => ?own) (fun G pre W h => ⟨h.1, h.2.1, h.2.2.1.drew, h.2.2.2.1, h.2.2.2.2.drew⟩) (fun c s A B' row h _ _ => h) (fun s A B' row h hg hr => ?own2)
    (fun G W hb hG hr => ⟨⟨_, (hb.block C (by omega)).trans hb9, rfl, .inl ⟨rfl, rfl⟩⟩, hc9.below hb (by omega), hr, by omega, hB9.trans (hb.mono (by omega))⟩) ⟨⟨_, hb9, rfl, .inl ⟨rfl, rfl⟩⟩, hB9⟩ (fun G xs W h => by obtain ⟨⟨v, a, b⟩, _, _, c, d⟩ := h; exact ⟨⟨v, a, own_base b (by omega)⟩, d⟩)
    (fun x => { tmps := #[.slice none 0 0, apartV B, .pointer (some ⟨C, 0, none⟩), undef, .slice none 0 0, .int .i64 (x : Int), apartV B, .int .i64 (x : Int), undef, undef, undef, undef, undef], defers := [] }) ?assign ?body ?done ?stop
  case own =>
    have hr2 : ∀ r, row = some r → ∃ o : Obj, A.heap[r]? = some o ∧ o.isCells = false := fun r e => (hr r e).2
    obtain ⟨⟨v, h1, h1'⟩, h2, h3, h4, h5⟩ := h
    refine ⟨⟨v, h1.kept hg (fun e => ?_), h1'.kept hg ?_⟩, h2.kept hg hr2, row_kept h3 hg hr2, h4, h5.grown hg (by have := h5.size; omega) (fun k e => by have := (hr k e).1; omega)⟩
    · have := (hr C e.symm).1; omega
    · exact own_apart h1' hr2
  case own2 =>
    have hr2 : ∀ r, row = some r → ∃ o : Obj, A.heap[r]? = some o ∧ o.isCells = false := fun r e => (hr r e).2
    obtain ⟨⟨v, h1, h1'⟩, h5⟩ := h
    refine ⟨⟨v, h1.kept hg (fun e => ?_), h1'.kept hg ?_⟩, h5.grown hg (by have := h5.size; omega) (fun k e => by have := (hr k e).1; omega)⟩
    · have := (hr C e.symm).1; omega
    · exact own_apart h1' hr2
  case assign =>
    intro l x W K hK
    rw [put_one]
    clear hC hz9 hB9 hb9 hc9
    gi_wp2
    exact hK
  case body =>
    rintro l G pre x W ⟨⟨v, hv, hrow⟩, h2, h3, h4, h5⟩ _ hpl _ _
    have hc := hv.cell
    have hf := hv.frozen
    have hGlt := h3.lt
    have hCW := h5.size
    have HZ9 := Lib.hid hz9
    have HCW : Hid (C ≤ W.heap.size) := Lib.hid (by omega)
    have Hrow := Lib.hid hrow
    have Hv := Lib.hid hv
    have H2 := Lib.hid h2
    have H3 := Lib.hid h3
    have H5 := Lib.hid h5
    clear hC hz9 hB9 hb9 hc9 hrow hv h2 h3 h5
    gi_wp2_with (first
      | (gi_at_builtin; refine wpListIn_append_own _ rfl _ _ 22 rfl (G + 1) tInt i0 (.int .i64 0) 1 8 Try.underlying22 hi hz0 hz1 hz2 rfl (by decide) _ _ _ rfl (Hrow.out.alloc _) ⟨W.heap.size, 0, none⟩ 1 1 [.int .i64 (x : Int)] rfl rfl (cell_one_new _ _ _) (by simp [Value.oneCell']) (by unfold maxLen; omega) (by omega) (by simp; omega) ?_; intro v' w1 hown' hgrow _; obtain ⟨g', cap', rfl⟩ := ownsRow_succ hown'; obtain ⟨hv1, hv2, hr2, hk2, hb2, hk3⟩ := appended2 Hv.out (by decide) Hrow.out hown' hgrow; have hc1 := hv1.cell; have hf1 := hv1.frozen)
      | gi_in)
    refine ⟨hk2.from _, ⟨_, hv2, ?_⟩, caps_of H2.out (fun k a b => hk3 k (by have := HCW.out; omega) (by omega) (by omega)), H3.out.of_block (hk3 G hGlt (by omega) (by omega)), h4, H5.out.trans ((hb2 C (by omega) (Nat.le_refl _) HCW.out).mono (Nat.le_refl _))⟩
    rw [List.length_append, List.length_singleton, natsV_snoc]
    exact hr2
  case done =>
    rintro D W hD ⟨⟨v, h1, h1'⟩, h5⟩ hK
    have hc1 := h1.cell
    have HR := Lib.hid (ownsRow_putObj h1' (.deferred none) hK rfl)
    have HB := Lib.hid (h5.trans (belowK_b (w := w9) (n₀ := C) (by omega) W D _ (.deferred none) hD hK rfl rfl))
    clear h1 h1' h5 hC hz9 hB9 hb9 hc9
    gi_wp2
    refine ⟨by simp, .inl ⟨_, _, rfl, run_takeDeferred hK, ?_⟩⟩
    refine ⟨_, results_tmp rfl _ _ _, v, rfl, ?_, ?_⟩
    · rw [← HCw.out]; exact HR.out
    · rw [← HCw.out]; exact HB.out
  case stop =>
    rintro D c pre W _ _ _ h _
    exact h.elim
theorem Collect_any (n s : ByteArray) (p : Nat) (B : Nat) (w : World) (hn : n.size ≤ 4194304) (hs : s.size ≤ 4194304) (hp : p ≤ s.size) (hB : B + 3 ≤ w.heap.size) (hc : Caps w B n s p) :
    Calls Try.prog 25 #[apartV B] w (ListPost (posL (bs n) (bs s) p) w) := by
  have H := Lib.hid (callsIn_wide.1 (appendSeq_in n s p B w hn hs hp hB hc))
  clear hc
  go_enter Try.func25, Try.ntmps25
  go_wp2_with (go_at_call 31; refine H.out.mono ?_; rintro e w1 ⟨v, rfl, h1, h2⟩)
  go_ret
  exact ⟨v, rfl, h1, h2⟩
theorem Positions_any (n s : ByteArray) (w : World) (hn : n.size ≤ 4194304) (hs : s.size ≤ 4194304) :
    Calls Try.prog 15 #[.string n, .string s] w (ListPost (posL (bs n) (bs s) 0) w) := by
  have HA := Lib.hid (fun w => apart_any n s 0 w)
  have hc := caps_new w n s 0
  have hb : Below w.heap.size w (((w.alloc (.cells #[.string n] 9)).alloc (.cells #[.string s] 9)).alloc (.cells #[.int .i64 (0 : Nat)] 3)) := (((Below.refl _ w).alloc (Nat.le_refl _) _).alloc (by simp) _).alloc (by simp; omega) _
  have HC := Lib.hid (Collect_any n s 0 w.heap.size _ hn hs (Nat.zero_le _) (by simp) hc)
  have HB := Lib.hid hb
  clear hc hb
  go_enter Try.func15, Try.ntmps15
  go_wp2_with (first
    | (go_at_call 22; refine (HA.out _).mono ?_; rintro e w1 ⟨rfl, rfl⟩)
    | (go_at_call 25; refine HC.out.mono ?_; rintro e w2 ⟨v, rfl, ho, hb⟩))
  go_ret
  exact ⟨v, rfl, own_base ho HB.out.size, HB.out.trans (hb.mono HB.out.size)⟩
end Oc
end Go.Proofs.Ythpolbiekdijjaa

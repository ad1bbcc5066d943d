/-
  Both Inverts. Conditions: as few elements as the laws have.
-/
import Derived.Test.YtldommbelpcegaaScrSpoil
import Derived.Test.YtldommbelpcegaaScrMade
import Derived.Deep.AppendLies
import Derived.Tactics
import Derived.Tactics2
import Derived.WalkSpells
import Derived.StillTactics
import Derived.OwnWalk
import Derived.Laws.Pointers
namespace Go.Proofs.Ytldommbelpcegaa
open Go.RowKit
namespace Sc
open Cm
def zeroC : Ch := ⟨0, 0, 0, 0⟩
/-- The inverse under way. -/
def invP (l : List Ch) (k : Nat) : List Ch := (l.map inv).take k ++ List.replicate (l.length - k) zeroC
theorem invP_len (l : List Ch) {k : Nat} (h : k ≤ l.length) : (invP l k).length = l.length := by
  unfold invP
  rw [List.length_append, List.length_take, List.length_map, List.length_replicate]; omega
theorem invP_step {l : List Ch} {k : Nat} (h : k < l.length) : (invP l k).set k (inv l[k]) = invP l (k + 1) := by
  unfold invP
  have h1 : ((l.map inv).take k).length = k := by rw [List.length_take, List.length_map]; omega
  rw [List.set_append_right _ _ (by omega), h1, Nat.sub_self, show l.length - k = (l.length - (k + 1)) + 1 from by omega, List.replicate_succ, List.set_cons_zero,
    List.take_succ_eq_append_getElem (by rw [List.length_map]; exact h), List.append_assoc, List.getElem_map]
  rfl
theorem invP_all (l : List Ch) : invP l l.length = l.map inv := by
  unfold invP
  rw [Nat.sub_self, List.replicate_zero, List.append_nil, List.take_of_length_le (by rw [List.length_map]; exact Nat.le_refl _)]
theorem flat_rep : ∀ n : Nat, flatK chC (List.replicate n zeroC) = List.replicate (n * 4) (.int .i64 0)
  | 0 => rfl
  | n + 1 => by
    show chC zeroC ++ flatK chC (List.replicate n zeroC) = _
    rw [flat_rep n, Nat.succ_mul, Nat.add_comm, ← List.replicate_append_replicate]
    rfl
theorem toList_zeros (n : Nat) : (madeCells (Value.cells zeroCh) (n * 4)).toList = List.replicate (n * 4) (.int .i64 0) := by
  apply List.ext_getElem?
  intro j
  by_cases hj : j < n * 4
  · have h4 : j % 4 = 0 ∨ j % 4 = 1 ∨ j % 4 = 2 ∨ j % 4 = 3 := by omega
    have e : (madeCells (Value.cells zeroCh) (n * 4)).toList[j]? = some (.int .i64 0) := by
      rcases h4 with h | h | h | h <;> simp [madeCells, hj, h, Value.cells]
    rw [e]; simp [hj]
  · simp [madeCells, hj]
theorem OwnC.put4 {base g N c : Nat} {w : World} {l : List Ch} (h : OwnC base w (.slice (some ⟨g, 0, none⟩) N c) l) (k : Nat) (hk : k < l.length) (y : Ch) :
    OwnC base ((((w.setCell ⟨g, k * 4, none⟩ (.int .i64 y.old)).setCell ⟨g, k * 4 + 1, none⟩ (.int .i64 y.oldLen)).setCell ⟨g, k * 4 + 2, none⟩ (.int .i64 y.new)).setCell ⟨g, k * 4 + 3, none⟩ (.int .i64 y.newLen)) (.slice (some ⟨g, 0, none⟩) N c) (l.set k y) := by
  have h1 := h.put k hk 0 (by omega) (.int .i64 y.old) ⟨y.old, l[k].oldLen, l[k].new, l[k].newLen⟩ rfl
  have h2 := h1.put k (by rw [List.length_set]; exact hk) 1 (by omega) (.int .i64 y.oldLen) ⟨y.old, y.oldLen, l[k].new, l[k].newLen⟩ (by rw [List.getElem_set_self]; rfl)
  have h3 := h2.put k (by rw [List.length_set, List.length_set]; exact hk) 2 (by omega) (.int .i64 y.new) ⟨y.old, y.oldLen, y.new, l[k].newLen⟩ (by rw [List.getElem_set_self]; rfl)
  have h4 := h3.put k (by rw [List.length_set, List.length_set, List.length_set]; exact hk) 3 (by omega) (.int .i64 y.newLen) y (by rw [List.getElem_set_self]; rfl)
  rw [List.set_set, List.set_set, List.set_set] at h4
  exact h4
set_option maxRecDepth 100000 in
set_option maxHeartbeats 4000000 in
theorem InvertR_any (v : Value) (l : List Ch) (w : World) (h : RdC w v l) (hl : l.length ≤ 100000) :
    Calls Try.prog 23 #[v] w (NewC (l.map inv) w) := by
  obtain ⟨A, cp, rfl⟩ := h.form
  have HR := Lib.hid h
  have HSt : Hid (∀ k (hk : k < l.length), (l.map inv).take (k + 1) = (l.map inv).take k ++ [inv l[k]] ∧ ((l.map inv).take k).length = k) := Lib.hid (fun k hk => ⟨by rw [List.take_succ_eq_append_getElem (by rw [List.length_map]; exact hk), List.getElem_map], by rw [List.length_take, List.length_map]; omega⟩)
  have HAll : Hid ((l.map inv).take l.length = l.map inv) := Lib.hid (List.take_of_length_le (by rw [List.length_map]; exact Nat.le_refl _))
  clear h
  generalize hN : l.length = N at hl HAll ⊢
  have HN := Lib.hid hN
  clear hN
  go_enter Try.func23, Try.ntmps23
  go_wp2_with fail
  go_loopw [3, 4] (fun s' k' wr => ∃ (k : Nat) (s : Value), s' = s ∧ k ≤ N ∧ k' = .int .i64 (k : Int) ∧ Hid (OwnC w.heap.size wr s ((l.map inv).take k)) ∧ Hid (Below w.heap.size w wr)) (fun _ k' _ => N - (intOf k').toNat)
  case atStart => exact ⟨0, _, rfl, Nat.zero_le _, rfl, Lib.hid (OwnC.nil _ _), Lib.hid (Below.refl _ _)⟩
  case round =>
    obtain ⟨k, s, hs, hk, rfl, HO1, HB1⟩ := hrel
    subst hs
    by_cases hlt : k < N
    · have hx : k < l.length := by rw [HN.out]; exact hlt
      obtain ⟨b, off, rfl, c0, c1, c2, c3⟩ := RdC_at (HR.out.below HB1.out) k hx
      have HSk := Lib.hid (HSt.out k hx)
      generalize hcl : l[k] = c at c0 c1 c2 c3 HSk
      generalize (l.map inv).take k = dn at HSk HO1
      obtain ⟨o, ol, nw, nl⟩ := c
      simp only at c0 c1 c2 c3
      have HCe := Lib.hid hcl
      clear hcl
      have hln : dn.length ≤ 100000 := by have := HSk.out.2; omega
      have HOw : Hid (wr.ownsRow w.heap.size tCh 4 u3 dn.length (flatK chC dn)) := HO1
      have hsz := HB1.out.size
      have HKp : Hid (∀ V, Below w.heap.size w V → V.cell? ⟨b, off + k * 4, none⟩ = some (.int .i64 o) ∧ V.cell? ⟨b, off + k * 4 + 1, none⟩ = some (.int .i64 ol) ∧ V.cell? ⟨b, off + k * 4 + 2, none⟩ = some (.int .i64 nw) ∧ V.cell? ⟨b, off + k * 4 + 3, none⟩ = some (.int .i64 nl)) := Lib.hid (fun V hV => by
        obtain ⟨b2, off2, e, d0, d1, d2, d3⟩ := RdC_at (HR.out.below hV) k hx
        injection e with e
        injection e with e1 e2 _
        subst e1
        subst e2
        rw [HCe.out] at d0 d1 d2 d3
        exact ⟨d0, d1, d2, d3⟩)
      have i1 : (0 : Int) ≤ (k : Int) := by omega
      have i2 : (k : Int) < (N : Int) := by omega
      have dk : decide (k < N) = true := decide_eq_true hlt
      obtain ⟨i0, hi0, hz0, hz1, hz2⟩ := info_parts info_ch
      clear HO1
      go_wp2_with fail
      go_region_held3 (fun V => V.cell? ⟨b, off + k * 4, none⟩ = some (.int .i64 o) ∧ V.cell? ⟨b, off + k * 4 + 1, none⟩ = some (.int .i64 ol) ∧ V.cell? ⟨b, off + k * 4 + 2, none⟩ = some (.int .i64 nw) ∧ V.cell? ⟨b, off + k * 4 + 3, none⟩ = some (.int .i64 nl))
        (first | go_keep | exact HKp.out _ HBq.out)
        ((refine step_append_lies _ (by rfl) (.tmp 11) (.tmp 33) tChs (by rfl) w.heap.size tCh i0 zeroCh 4 32 Try.underlying23 hi0 hz0 hz1 hz2 rfl (by omega) u3 dn.length (flatK chC dn) (by rfl) ((HOw.out.alloc _).drew) ⟨wr.heap.size, 0, none⟩ 1 1 (chC ⟨nw, nl, o, ol⟩) (by rfl) (by rfl) (World.news_of_block (cs := #[.int .i64 nw, .int .i64 nl, .int .i64 o, .int .i64 ol]) (t := tCh) (fr := (0, 0)) (heap_alloc_new wr _)) (one_ch _) (by omega) (by unfold maxLen; omega) (by omega) (by simp; omega) (wr.heap.size + 1) (by simp) ?_; intro gg cap w3 ho3 hg3 hat hlt; have HBq := Lib.hid (((HB1.out.alloc hsz (.cells #[.int .i64 nw, .int .i64 nl, .int .i64 o, .int .i64 ol] tCh)).drew).grown hg3 (by simp; omega) (fun k hk => (HOw.out.lt k hk).1)); have HO3 : Hid (OwnC w.heap.size w3 (.slice (some ⟨gg, 0, none⟩) (dn.length + 1) cap) (dn ++ [⟨nw, nl, o, ol⟩])) := Lib.hid (by unfold OwnC; rw [List.length_append, List.length_singleton, flatK_snoc]; exact ho3); clear ho3 hg3 hat hlt))
      go_wp2_with fail
      go_roundw
      case rel => exact ⟨k + 1, _, rfl, by omega, by go_num, Lib.hid (by rw [HSk.out.1]; exact HO3.out), HBq⟩
      case measure => simp [intOf]; omega
    · have dk : decide (k < N) = false := decide_eq_false hlt
      obtain rfl : k = N := by omega
      go_wp2_with fail
      go_ret
      exact ⟨_, rfl, by rw [← HAll.out]; exact HO1.out, HB1.out⟩
end Sc
end Go.Proofs.Ytldommbelpcegaa

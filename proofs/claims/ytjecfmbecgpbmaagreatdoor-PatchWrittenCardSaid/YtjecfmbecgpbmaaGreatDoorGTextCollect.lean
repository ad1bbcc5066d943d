/- Facts; each states its conditions. -/
import Derived.Test.YtjecfmbecgpbmaaGreatDoorTextLines
import Derived.Test.YtjecfmbecgpbmaaGreatDoorShelfIter
import Derived.Test.YtjecfmbecgpbmaaGreatDoorGTextBase
namespace Go.Proofs.YtjecfmbecgpbmaaGreatDoor
section
open Go.RowKit Go.Maps Go.Sort Go.Shelf
attribute [local go_sem] Oper.semAt_some
namespace Tx
abbrev rz : Go.Shelf.Ren := Tryz.appendSeqS_ren
def Jz (w : World) (fn : FuncId) (sv : Value) (Bs l D : Nat) (ss : List (List UInt8)) (W : World) : Prop :=
 ∃ w0 : World, w0.heap.size = w.heap.size + 1 ∧ Below w.heap.size w w0 ∧ AnyZ.ApAt rz w0 fn sv Bs l D ss W
theorem heap_set {w0 W : World} {b k : Nat} (v : Value) (h : W.heap[k]? = w0.heap[k]?) : (W.setCell ⟨b, 0, none⟩ v).heap[k]? = (w0.setCell ⟨b, 0, none⟩ v).heap[k]? := by
 by_cases e : k = b
 · subst e
   show (W.heap.modify k _)[k]? = (w0.heap.modify k _)[k]?
   rw [Array.getElem?_modify, Array.getElem?_modify, h]
 · exact (Below.heap_setCell W ⟨b, 0, none⟩ v k e).trans (h.trans (Below.heap_setCell w0 ⟨b, 0, none⟩ v k e).symm)
theorem size_set (w : World) (a : Addr) (v : Value) : (w.setCell a v).heap.size = w.heap.size := by
 show (w.heap.modify _ _).size = _; rw [Array.size_modify]
theorem Jz_set {w : World} {fn : FuncId} {sv : Value} {Bs l D : Nat} (h1 : w.heap.size < Bs) (h2 : w.heap.size < l) (h3 : w.heap.size < D) (ss : List (List UInt8)) (W : World) (v : Value) (h : Jz w fn sv Bs l D ss W) :
 Jz w fn sv Bs l D ss (W.setCell ⟨w.heap.size, 0, none⟩ v) := by
 obtain ⟨w0, hz, hb, ⟨u, hu, hr, hn⟩, hL, hK, hw⟩ := h
 have other : ∀ k o, k ≠ w.heap.size → W.heap[k]? = some o → (W.setCell ⟨w.heap.size, 0, none⟩ v).heap[k]? = some o := fun k o hk ho => (Below.heap_setCell W ⟨w.heap.size, 0, none⟩ v k hk).trans ho
 refine ⟨w0.setCell ⟨w.heap.size, 0, none⟩ v, by rw [size_set]; exact hz, hb.setCell (Nat.le_refl _) _, ⟨u, other _ _ (by omega) hu, ?_, hn⟩, other _ _ (by omega) hL, other _ _ (by omega) hK, ?_⟩
 · rw [size_set]
   refine hr.kept (row := some w.heap.size) ⟨rfl, rfl, rfl, by rw [size_set]; exact Nat.le_refl _, fun k _ hk => Below.heap_setCell W ⟨w.heap.size, 0, none⟩ v k (fun e => hk (by rw [e]))⟩ (.inr ?_)
   rcases hr.2 with ⟨rfl, _⟩ | ⟨g, cap, cur, rfl, hg, _⟩
   · simp [Value.ownBlock]
   · intro e
     have : g = w.heap.size := by simpa [Value.ownBlock] using e
     omega
 · refine ⟨hw.os, hw.tape, hw.output, by rw [size_set, size_set]; exact hw.size, fun k hk => heap_set v (hw.block k (by rw [size_set] at hk; exact hk))⟩
theorem Jz_drew {w : World} {fn : FuncId} {sv : Value} {Bs l D : Nat} (ss : List (List UInt8)) (W : World) (h : Jz w fn sv Bs l D ss W) : Jz w fn sv Bs l D ss W.drew := by
 obtain ⟨w0, hz, hb, ⟨u, hu, hr, hn⟩, hL, hK, hw⟩ := h
 exact ⟨w0, hz, hb, ⟨u, hu, hr, hn⟩, hL, hK, hw.drew⟩
theorem Jz_yield {w : World} {fn : FuncId} {sv : Value} {Bs l D : Nat} (m : Nat) (h1 : w.heap.size < Bs) (h2 : w.heap.size < l) (hBl : Bs ≠ l) (hDl : D ≠ l) (hDB : D ≠ Bs)
 (pre : List (List UInt8)) (x : ByteArray) (W : World) (h : Jz w fn sv Bs l D pre W) (hlen : pre.length < 100000) :
 YieldAt Fence.wide m Tryz.prog l #[.string x] W fun e W' => e = .returned (.bool true) ∧ Jz w fn sv Bs l D (pre ++ [bs x]) W' ∧ KeepsCell w.heap.size W W' := by
 obtain ⟨w0, hz, hb, hA⟩ := h
 have hy := AnyZ.apYield (ρ := rz) Tryz.appendSeqS Fence.wide m w0 fn trivial sv Bs l D hBl hDl hDB (by omega) (by omega) 100000 (by unfold maxLen; omega) (by omega) pre (bs x) W hA hlen
 obtain ⟨f', tmps, assign, body, e1, e2⟩ := hy
 refine ⟨f', tmps, assign, body, e1, e2.mono ?_⟩
 rintro e W' ⟨he, hA', _⟩
 refine ⟨he, ⟨w0, hz, hb, hA'⟩, ?_, ?_⟩
 · exact (hA'.below.cell (p := ⟨w.heap.size, 0, none⟩) (by rw [hz]; exact Nat.lt_succ_self _)).trans (hA.below.cell (p := ⟨w.heap.size, 0, none⟩) (by rw [hz]; exact Nat.lt_succ_self _)).symm
 · exact (hA'.below.frozen (p := ⟨w.heap.size, 0, none⟩) (by rw [hz]; exact Nat.lt_succ_self _)).trans (hA.below.frozen (p := ⟨w.heap.size, 0, none⟩) (by rw [hz]; exact Nat.lt_succ_self _)).symm
set_option maxRecDepth 100000 in
set_option maxHeartbeats 2000000 in
theorem appendSeq_lines (s : ByteArray) (w : World) (hs : s.size ≤ 4194304) (hN : (linesF (bs s)).length ≤ 100000) :
 CallsIn Fence.wide 4 Tryz.prog 137 #[.slice none 0 0, .func (.func 138) #[] #[.pointer (some ⟨w.heap.size, 0, none⟩)]] (w.alloc (.cells #[.string s] 9)) (StrsPost w (linesF (bs s))) := by
 obtain ⟨wA, hwA⟩ : ∃ wA, w.alloc (.cells #[.string s] 9) = wA := ⟨_, rfl⟩
 have hsA : wA.heap.size = w.heap.size + 1 := by rw [← hwA]; simp
 have hbA : Below w.heap.size w wA := by rw [← hwA]; exact (Below.refl _ w).alloc (Nat.le_refl _) _
 have hcA : wA.cell? ⟨w.heap.size, 0, none⟩ = some (.string s) ∧ wA.frozen? ⟨w.heap.size, 0, none⟩ = false := by
  rw [← hwA]; exact cell_of_box_a (World.alloc_heap_new w _)
 rw [hwA]
 clear hwA
 have L := Tryz.appendSeqS
 have mixed := L.mixed
 have u24 := run_underlying L.t24; have u26 := run_underlying L.t26; have u28 := run_underlying L.t28; have u0 := run_underlying L.t0
 have t24 := L.t24; have t26 := L.t26; have t28 := L.t28; have a24 := L.a24; have a26 := L.a26; have a28 := L.a28; have z24 := L.z24; have z26 := L.z26; have z28 := L.z28; have v24 := L.v24; have v26 := L.v26; have v28 := L.v28
 have hne : rz.t 24 ≠ rz.t 26 := fun e => by have h := L.t24; rw [e, L.t26] at h; cases h
 obtain ⟨_, _, FG⟩ := L.f11
 refine callsIn_of_wp_marks FG rfl trivial ?_ rfl
 simp only [SlBodyZ.n11_ntmps rz, List.size_toArray, List.length_cons, List.length_nil, Nat.reduceAdd, Nat.reduceSub, Array.replicate_succ, Array.replicate_zero, List.push_toArray, List.append_toArray, List.nil_append, List.cons_append]
 gi_wp2
 refine wpIn_rangeFunc ?_
 intro fn hfn
 obtain ⟨W0, hW0⟩ : ∃ W0, wA.alloc (.cells #[.slice none 0 0] (rz.t 24)) = W0 := ⟨_, rfl⟩
 rw [hW0]
 have hs0 : W0.heap.size = w.heap.size + 2 := by rw [← hW0, World.size_alloc, hsA]
 have hv0 : W0.heap[w.heap.size + 1]? = some (.cells #[.slice none 0 0] (rz.t 24) (0, 0)) := by rw [← hW0, ← hsA]; exact World.alloc_heap_new wA _
 have hb0 : Below wA.heap.size wA W0 := by rw [← hW0]; exact (Below.refl _ wA).alloc (Nat.le_refl _) _
 clear hW0
 let R0 : Loop := AnyZ.apRec rz fn (.func (.func 138) #[] #[.pointer (some ⟨w.heap.size, 0, none⟩)]) (w.heap.size + 1) W0.heap.size .ready none
 obtain ⟨W1, hW1⟩ : ∃ W1, (W0.alloc (.deferred (some []))).alloc (.loop R0) = W1 := ⟨_, rfl⟩
 have hb01 : Below W0.heap.size W0 W1 := by rw [← hW1]; exact ((Below.refl _ W0).alloc (Nat.le_refl _) _).alloc (by simp) _
 have hb1 : Below wA.heap.size wA W1 := hb0.trans (hb01.mono hb0.size)
 have hL1 : W1.heap[W0.heap.size + 1]? = some (.loop R0) := by
  rw [← hW1]; have := World.alloc_heap_new (W0.alloc (.deferred (some []))) (.loop R0); rwa [World.size_alloc] at this
 have hK1 : W1.heap[W0.heap.size]? = some (.deferred (some [])) := by
  rw [← hW1]; exact (Below.heap_alloc _ _ _ (by simp)).trans (World.alloc_heap_new W0 _)
 have hc1 : W1.cell? ⟨w.heap.size, 0, none⟩ = some (.string s) := (hb1.cell (p := ⟨w.heap.size, 0, none⟩) (by rw [hsA]; exact Nat.lt_succ_self _)).trans hcA.1
 have hf1 : W1.frozen? ⟨w.heap.size, 0, none⟩ = false := (hb1.frozen (p := ⟨w.heap.size, 0, none⟩) (by rw [hsA]; exact Nat.lt_succ_self _)).trans hcA.2
 have hJ : Jz w fn (.func (.func 138) #[] #[.pointer (some ⟨w.heap.size, 0, none⟩)]) (w.heap.size + 1) (W0.heap.size + 1) W0.heap.size [] W1 :=
  ⟨wA, hsA, hbA, ⟨_, (hb01.block _ (by omega)).trans hv0, ⟨rfl, .inl ⟨rfl, rfl⟩⟩, by simp⟩, hL1, hK1, hb1⟩
 have e36 : ∀ args w, (callFunc 138 args).run Tryz.prog w = .ok (.enter 138 args) w := enters_of Tryz.func138 (by kernel_rfl) rfl
 refine ⟨W0.heap.size + 1, [{ target := .collected W0.heap.size, args := #[] }], W1, { target := .fn (.func 138) #[.pointer (some ⟨w.heap.size, 0, none⟩)], args := #[.func (.yield (W0.heap.size + 1)) #[] #[]] }, W1, 138,
  #[.func (.yield (W0.heap.size + 1)) #[] #[], .pointer (some ⟨w.heap.size, 0, none⟩)], W1, ?_, ?_, fun _ _ => trivial, ?_, fun _ => by omega, ?_⟩
 · rw [← hW1]; exact run_enterLoop_outer _ _ _ _ _
 · simp [resolve, go_sem]
 · simp [invoke, go_sem, e36]
 · refine (lines1_in (4 - 1) (by omega) (W0.heap.size + 1) w.heap.size 100000 s hs _ (Jz_set (by omega) (by omega) (by omega)) Jz_drew
    (fun pre x W hJ hl => Jz_yield _ (by omega) (by omega) (by omega) (by omega) (by omega) pre x W hJ hl) W1 hc1 hf1 hJ hN).mono ?_
   rintro e W2 ⟨⟨v0, rfl⟩, w0, hz0, hbw, h2⟩
   obtain ⟨v, hv, hrow, hnil⟩ := h2.box
   have hend := run_endLoop (P := Tryz.prog) h2.L (by simp [AnyZ.apRec])
   obtain ⟨W3, hW3⟩ : ∃ W3, W2.putObj (W0.heap.size + 1) (.loop { R0 with state := .exhausted }) = W3 := ⟨_, rfl⟩
   replace hend : (Instr.endLoop (W0.heap.size + 1)).run Tryz.prog W2 = .ok none W3 := by rw [← hW3]; exact hend
   have hg3 : W2.grownBy W3 (some (W0.heap.size + 1)) := by rw [← hW3]; exact grownBy_putObj_a _ _ _
   have hv3 : W3.heap[w.heap.size + 1]? = some (.cells #[v] (rz.t 24) (0, 0)) := by rw [← hW3]; exact (World.putObj_heap_other (by omega)).trans hv
   have hK3 : W3.heap[W0.heap.size]? = some (.deferred (some [])) := by rw [← hW3]; exact (World.putObj_heap_other (by omega)).trans h2.K
   have hrow3 := hrow.kept hg3 (ownsRow_ne_a hrow h2.L (fun cur e => by cases e))
   have hbw2 : Below w.heap.size w W2 := hbw.trans (h2.below.mono hbw.size)
   have hb3 : Below w.heap.size w W3 := hbw2.grown hg3 hbw2.size (fun k e => by cases e; omega)
   obtain ⟨hc3, hf3⟩ := cell_of_box_a hv3
   clear hW3 hbw2 hg3 hcA hc1 hf1
   have HL := Lib.hid L
   clear_value R0
   refine ⟨none, W3, hend, ?_⟩
   gi_wp2
   rw [hs0] at hK3
   refine ⟨by simp, .inl ⟨_, _, rfl, run_takeDeferred hK3, ?_⟩⟩
   refine ⟨_, results_tmp rfl _ _ _, v, rfl, ?_, hb3.grown (grownBy_putObj_a _ _ _) hb3.size (fun k e => by cases e; omega)⟩
   exact ownsRow_base_a (hrow3.kept (grownBy_putObj_a _ _ _) (ownsRow_ne_a hrow3 hK3 (fun cur e => by cases e))) (by omega)
theorem Collect_any (s : ByteArray) (w : World) (hs : s.size ≤ 4194304) (hN : (linesF (bs s)).length ≤ 100000) :
 Calls Tryz.prog 99 #[.func (.func 138) #[] #[.pointer (some ⟨w.heap.size, 0, none⟩)]] (w.alloc (.cells #[.string s] 9)) (StrsPost w (linesF (bs s))) := by
 have H := Lib.hid (callsIn_wide.1 (appendSeq_lines s w hs hN))
 go_enter Tryz.func99, Tryz.ntmps99
 go_wp2_with (go_at_call 137; refine H.out.mono ?_; rintro e w1 ⟨v, rfl, h1, h2⟩)
 go_ret
 exact ⟨v, rfl, h1, h2⟩
set_option maxHeartbeats 1000000 in
theorem Split_any (s : ByteArray) (w : World) (hs : s.size ≤ 4194304) : Calls Tryz.prog 59 #[.string s] w (SplitPost w (bs s)) := by
 have HC := Lib.hid (fun w => Check_any s w hs)
 rcases checkF_01 (bs s) with h | h
 · have hN : (linesF (bs s)).length ≤ 4096 := by
    rcases Nat.lt_or_ge 4096 (linesF (bs s)).length with h1 | h1
    · rw [checkF_many _ h1] at h; cases h
    · exact h1
   have HL := Lib.hid (fun w => Lines_any s w)
   have HCo := Lib.hid (Collect_any s w hs (by omega))
   have HP : Hid (∀ v w', RdS w' v (mks (linesF (bs s))) → Below w.heap.size w w' → SplitPost w (bs s) (.returned (.tuple #[v, .int .i64 0])) w') := Lib.hid (fun v w' h1 h2 => ⟨v, by rw [h], by rw [if_pos h]; exact h1, h2⟩)
   rw [h] at HC
   clear h hN
   go_enter Tryz.func59, Tryz.ntmps59
   go_wp2_with (first
    | (go_at_call 98; refine (HC.out _).mono ?_; rintro e w1 ⟨rfl, rfl⟩)
    | (go_at_call 100; refine (HL.out _).mono ?_; rintro e w1 ⟨rfl, rfl⟩)
    | (go_at_call 99; refine HCo.out.mono ?_; rintro e w2 ⟨v, rfl, ho, hb⟩))
   go_ret2
   exact HP.out _ _ (RdS.of_own ho) hb
 · have HP : Hid (∀ w', Below w.heap.size w w' → SplitPost w (bs s) (.returned (.tuple #[.slice none 0 0, .int .i64 1])) w') := Lib.hid (fun w' h2 => ⟨_, by rw [h], by rw [if_neg (by rw [h]; decide)]; exact RdS.nil _, h2⟩)
   rw [h] at HC
   clear h
   go_enter Tryz.func59, Tryz.ntmps59
   go_wp2_with (go_at_call 98; refine (HC.out _).mono ?_; rintro e w1 ⟨rfl, rfl⟩)
   go_ret2
   exact HP.out _ (Below.refl _ _)
end Tx
end
section
open Go.RowKit
namespace Tx
theorem RdS.lit (w : World) (xs : List ByteArray) : RdS (w.alloc (.cells (xs.map Value.string).toArray 9)) (.slice (some ⟨w.heap.size, 0, none⟩) xs.length xs.length) xs := by
 refine ⟨_, _, rfl, ⟨Nat.le_refl _, fun e => by cases e⟩, fun _ => ⟨_, 0, rfl, fun j hj => ?_⟩⟩
 rw [World.cell?_alloc_mark]
 simp [List.getElem?_eq_getElem hj]
end Tx
end
end Go.Proofs.YtjecfmbecgpbmaaGreatDoor

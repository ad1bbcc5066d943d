/-
  Walks of layer 6: slices.Repeat of one integer. Condition: at least one and at most 16000 times. Walks of layer 6: the program's newSteps and add. Condition: at least one and at most 8000 states. Walk of layer 6: the program's add of a step. Condition: the step and the state lie within the lists. Layer 6: a new walker's memory, while its steps are listed. No program. No conditions.
-/
import Derived.Test.YtgadomcbaenodaaAutoE
import Derived.Test.YtgadomcbaenodaaShelf
import Derived.Laws.CopyOwn
import Derived.Deep.RegionLaw
import Derived.StillTailTactics
import Derived.Test.YtgadomcbaenodaaSeaS
import Derived.Deep.RegionHeld3
import Derived.Laws.MakeOwn
import Derived.Laws.Rows
import Derived.Deep.Cut
import Derived.Deep.CutRange
namespace Go.Proofs.Ytgadomcbaenodaa
section
open Go.RowKit
namespace Se
open Cm Rx Au
/-- make of ints. -/
theorem mk_int {ops : Array Oper} {rest : List Oper} {o : Oper} {a : Act} {Q : Exit → Act → World → Prop} {w : World} (hgd : o.guard = none) (l c : Operand) (ho : o.op = Op.makeSlice 22 l c)
    (n : Nat) (hl : a.eval l = .int .i64 (n : Int)) (hc : a.eval c = .int .i64 (n : Int)) (hn : n ≤ 4194304)
    (h : ∀ w', Hid (w'.heap[w.heap.size]? = some (.cells (List.replicate n (.int .i64 0)).toArray tInt (0, 0))) → Below w.heap.size w w' → wpList Try.prog ops Q rest (a.put o.dst (.slice (some ⟨w.heap.size, 0, none⟩) n n)) w') : wpList Try.prog ops Q (o :: rest) a w := by
  obtain ⟨i0, hi0, hz0, hz1, hz2⟩ := info_parts info_intH
  refine wpList_make_row w hgd l c _ ho tInt i0 (.int .i64 0) Try.underlying22 hi0 hz0 hz1 rfl .i64 .i64 n hl hc (by rw [hz2]; omega) (by omega) (h _ ?_ ((Below.refl _ w).alloc (Nat.le_refl _) _))
  obtain ⟨c, h1, h2, h3⟩ := World.rowIs_made w (.int .i64 0) n tInt
  have e : c = (List.replicate n (.int .i64 0)).toArray := by
    refine Array.ext (by rw [h2, List.size_toArray, List.length_replicate]) fun i hi1 hi2 => ?_
    have h4 := h3 i (by omega)
    rw [Array.getElem?_eq_getElem hi1] at h4
    have h5 := Option.some.inj h4
    rw [h5, List.getElem_toArray, List.getElem_replicate]
  rw [e] at h1
  exact h1
/-- The first m of n cells are as asked, the others as they were made. -/
def repL (m n : Nat) (x : Int) : List Value := List.replicate m (.int .i64 x) ++ List.replicate (n - m) (.int .i64 0)
theorem repL_len {m n : Nat} {x : Int} (h : m ≤ n) : (repL m n x).length = n := by simp [repL]; omega
theorem repL_splice {m k n : Nat} {x : Int} (h : m + k ≤ n) : splice (repL m n x) m (List.replicate k (.int .i64 x)) = repL (m + k) n x := by
  unfold splice repL
  rw [List.take_append_of_le_length (by simp), List.take_of_length_le (by simp), List.length_replicate, List.drop_append, List.drop_of_length_le (by simp), List.nil_append, List.length_replicate, List.drop_replicate, ← List.append_assoc, List.replicate_append_replicate]
  congr 2
  omega
theorem repL_cell {w : World} {G m n : Nat} {x : Int} (h : w.heap[G]? = some (.cells (repL m n x).toArray tInt (0, 0))) {j : Nat} (hj : j < m) : w.cell? ⟨G, j, none⟩ = some (.int .i64 x) := by
  simp only [World.cell?, h]
  simp [repL, List.getElem?_append, hj]
theorem lt_some' {w : World} {b i : Nat} {v : Value} (h : w.cell? ⟨b, i, none⟩ = some v) : b < w.heap.size := Tx.cell_lt h
theorem src_rep {w : World} {b o k : Nat} {y : Value} (h : ∀ j, j < k → w.cell? ⟨b, o + j, none⟩ = some y) : ∀ j v, (List.replicate k y)[j]? = some v → w.cell? ((⟨b, o, none⟩ : Addr).add j) = some v := fun j v hv => by
  rw [List.getElem?_replicate] at hv
  by_cases hj : j < k
  · rw [if_pos hj] at hv
    have := Option.some.inj hv
    subst this
    have h2 := h j hj
    unfold Addr.add
    by_cases h0 : j = 0
    · subst h0; rw [if_pos rfl]; exact h2
    · rw [if_neg h0]; exact h2
  · rw [if_neg hj] at hv; cases hv
theorem copy_rep {ops : Array Oper} {rest : List Oper} {o : Oper} {a : Act} {Q : Exit → Act → World → Prop} {w : World} (hgd : o.guard = none) (d s : Operand) (ho : o.op = .call { callee := .builtin .copy, args := #[d, s], argTypes := #[22, 22] })
    (G m n k dLen dCap b p sLen sCap : Nat) (x : Int) (hd : a.eval d = .slice (some ⟨G, m, none⟩) dLen dCap) (hs : a.eval s = .slice (some ⟨b, p, none⟩) sLen sCap) (hk : k = Nat.min sLen dLen) (hsrc : ∀ j, j < k → w.cell? ⟨b, p + j, none⟩ = some (.int .i64 x)) (hfit : m + k ≤ n)
    (hg : w.heap[G]? = some (.cells (repL m n x).toArray tInt (0, 0))) (B : Nat) (w0 : World) (hb : Below B w0 w) (hBg : B ≤ G)
    (h : ∀ w', Hid (w'.heap[G]? = some (.cells (repL (m + k) n x).toArray tInt (0, 0))) → Below B w0 w' → wpList Try.prog ops Q rest (a.put o.dst (.int .i64 (k : Int))) w') : wpList Try.prog ops Q (o :: rest) a w := by
  refine wpList_copy_splice hgd d s _ _ ho tInt Try.underlying22 (by kernel_rfl) _ _ _ _ _ _ hd hs G m (repL m n x) tInt hg (List.replicate k (.int .i64 x)) (by rw [List.length_replicate]; exact hk) (fun _ => ⟨rfl, _, rfl, src_rep hsrc⟩) (by rw [repL_len (by omega), List.length_replicate]; exact hfit) (fun v hv => by rw [List.eq_of_mem_replicate hv]; rfl) B w0 hb hBg ?_
  intro w' h1 h2
  rw [repL_splice hfit] at h1
  rw [List.length_replicate]
  exact h w' h1 h2
theorem step_rep {ops : Array Oper} {o : Oper} {a : Act} {Q : Exit → Act → World → Prop} {K : Act → World → Prop} {E : Prop} {w : World} (hgd : o.guard = none) (d s : Operand) (ho : o.op = .call { callee := .builtin .copy, args := #[d, s], argTypes := #[22, 22] })
    (G m n k dLen dCap b p sLen sCap : Nat) (x : Int) (hd : a.eval d = .slice (some ⟨G, m, none⟩) dLen dCap) (hs : a.eval s = .slice (some ⟨b, p, none⟩) sLen sCap) (hk : k = Nat.min sLen dLen) (hsrc : ∀ j, j < k → w.cell? ⟨b, p + j, none⟩ = some (.int .i64 x)) (hfit : m + k ≤ n)
    (hg : w.heap[G]? = some (.cells (repL m n x).toArray tInt (0, 0))) (B : Nat) (w0 : World) (hb : Below B w0 w) (hBg : B ≤ G)
    (h : ∀ w', Hid (w'.heap[G]? = some (.cells (repL (m + k) n x).toArray tInt (0, 0))) → Below B w0 w' → K (a.put o.dst (.int .i64 (k : Int))) w') : if Region.wanted o (yielded ops a.tmps) = true then Oper.wp Try.prog o a w K Q else E := by
  refine step_copy_splice hgd d s _ _ ho tInt Try.underlying22 (by kernel_rfl) _ _ _ _ _ _ hd hs G m (repL m n x) tInt hg (List.replicate k (.int .i64 x)) (by rw [List.length_replicate]; exact hk) (fun _ => ⟨rfl, _, rfl, src_rep hsrc⟩) (by rw [repL_len (by omega), List.length_replicate]; exact hfit) (fun v hv => by rw [List.eq_of_mem_replicate hv]; rfl) B w0 hb hBg ?_
  intro w' h1 h2
  rw [repL_splice hfit] at h1
  rw [List.length_replicate]
  exact h w' h1 h2
def RepPost (n : Nat) (x : Int) (w : World) (e : Ending) (w' : World) : Prop :=
  ∃ G, e = .returned (.slice (some ⟨G, 0, none⟩) n n) ∧ w.heap.size ≤ G ∧ w'.heap[G]? = some (.cells (List.replicate n (.int .i64 x)).toArray tInt (0, 0)) ∧ Below w.heap.size w w'
set_option maxRecDepth 100000 in
set_option maxHeartbeats 2000000 in
theorem Repeat_any (b c n : Nat) (x : Int) (w : World) (hx : w.cell? ⟨b, 0, none⟩ = some (.int .i64 x)) (h1 : 1 ≤ n) (h2 : n ≤ 16000) : Calls Try.prog 58 #[.slice (some ⟨b, 0, none⟩) 1 c, .int .i64 n] w (RepPost n x w) := by
  have HX := Lib.hid hx
  have d1 : decide ((n : Int) < 0) = false := by simp only [decide_eq_false_iff_not]; omega
  have w1 : IntKind.u64.wrap (n : Int) = (n : Int) := by rw [IntWalk.u64_in _ (by omega)]
  have w2 : IntKind.i64.wrap (n : Int) = (n : Int) := by rw [IntWalk.i64_in _ (by omega)]
  have m1 : (((1 * n / 18446744073709551616 : Nat) : Nat) : Int) = 0 := by rw [Nat.one_mul, Nat.div_eq_of_lt (by omega)]; rfl
  have m2 : (((1 * n % 18446744073709551616 : Nat) : Nat) : Int) = (n : Int) := by rw [Nat.one_mul, Nat.mod_eq_of_lt (by omega)]
  have HM : Hid (∀ W, Calls Try.prog 65 #[.int .u64 1, .int .u64 (n : Int)] W fun e w' => e = .returned (.tuple #[.int .u64 0, .int .u64 (n : Int)]) ∧ w' = W) := Lib.hid (fun W => (Try.bits_Mul 1 n (by omega) (by omega) W).mono fun e w' h => by rw [m1, m2] at h; exact h)
  clear hx m1 m2
  go_enter Try.func58, Try.ntmps58
  go_upto_region 6 with (go_at_call 65; refine (HM.out _).mono ?_; rintro e w5 ⟨rfl, rfl⟩)
  clear HM d1 w1
  have hlt5 := lt_some' HX.out
  go_upto_region 7 with (first
    | (refine mk_int rfl (.tmp 29) (.tmp 29) rfl n rfl rfl (by omega) ?_; intro w3 hr3 hb3; have HR3 : Hid (w3.heap[w5.heap.size]? = some (.cells (repL 0 n x).toArray tInt (0, 0))) := hr3; have HB3 := Lib.hid hb3; have HX3 := Lib.hid ((hb3.cell (p := ⟨b, 0, none⟩) (Tx.cell_lt HX.out)).trans HX.out); clear hr3 hb3))
  have hm1 : Hid (1 = Nat.min 1 n) := Lib.hid (Nat.min_eq_left h1).symm
  go_upto_region 8 with (refine copy_rep rfl (.tmp 31) (.tmp 32) rfl w5.heap.size 0 n 1 n n b 0 1 c x rfl rfl hm1.out (fun j hj => (by obtain rfl : j = 0 := (by omega); exact HX3.out)) (by omega) HR3.out w5.heap.size w5 HB3.out (Nat.le_refl _) ?_; intro w4 hr4 hb4; have HR4 := hr4; have HB4 := Lib.hid hb4; clear hr4 hb4)
  have HX4 := HX3
  clear HR3 HB3 HX3 hm1
  go_wp2_with fail
  go_loopw [8] (fun i wr => ∃ m : Nat, 1 ≤ m ∧ m ≤ n ∧ i = .int .i64 (m : Int) ∧ Hid (wr.heap[w5.heap.size]? = some (.cells (repL m n x).toArray tInt (0, 0))) ∧ Hid (Below w5.heap.size w5 wr)) (fun i _ => n - (intOf i).toNat)
  case atStart => exact ⟨1, Nat.le_refl _, h1, by go_num, HR4, HB4⟩
  case round =>
    clear HR4 HB4 HX4
    obtain ⟨m, hm1, hm2, rfl, HR, HB⟩ := hrel
    by_cases hlt : m < n
    · have hd : decide (m < n) = true := by simpa using hlt
      obtain ⟨k, hk⟩ : ∃ k, k = Nat.min m (n - m) := ⟨_, rfl⟩
      have HKm := Lib.hid hk
      have hkl : k ≤ n - m := by rw [hk]; exact Nat.min_le_right _ _
      have hkp : 1 ≤ k := by rw [hk]; exact Nat.le_min.2 ⟨hm1, by omega⟩
      have hkm : k ≤ m := by rw [hk]; exact Nat.min_le_left _ _
      clear hk
      have HSrc : Hid (∀ j, j < k → wr.drew.cell? ⟨w5.heap.size, 0 + j, none⟩ = some (.int .i64 x)) := Lib.hid (fun j hj => by
        rw [World.cell?_drew, Nat.zero_add]; exact repL_cell HR.out (by omega))
      have i0 : (0 : Int) ≤ (m : Int) := by omega
      have i1 : (m : Int) < (n : Int) := by omega
      have i2 : (m : Int) ≤ (n : Int) := by omega
      go_upto_region 9 with fail
      have hne : ¬ n = m := by omega
      have hwr : IntKind.i64.wrap ((m : Int) + (k : Int)) = ((m + k : Nat) : Int) := by rw [IntWalk.i64_in _ (by omega)]; omega
      go_region_law (refine step_rep rfl (.tmp 41) (.tmp 44) rfl w5.heap.size m n k (n - m) (n - m) w5.heap.size 0 m n x (by simp [go_sem]) (by simp [go_sem]) HKm.out HSrc.out (by omega) HR.out w5.heap.size w5 HB.out.drew (Nat.le_refl _) ?_; intro w6 hr6 hb6; have HR6 := hr6; have HB6 := Lib.hid hb6; clear hr6 hb6)
      go_simp
      go_wp2_with fail
      go_roundw
      case rel => exact ⟨m + k, by omega, by omega, by go_num, HR6, HB6⟩
      case measure => simp [intOf]; omega
    · obtain rfl : m = n := by omega
      have hd : decide (m < m) = false := by simp
      go_wp2_with fail
      go_ret
      refine ⟨_, rfl, Nat.le_refl _, ?_, HB.out⟩
      have h := HR.out
      unfold repL at h
      rw [Nat.sub_self, List.replicate_zero, List.append_nil] at h
      exact h
end Se
end
section
open Go.RowKit
namespace Se
open Cm Rx Au
abbrev tSteps : TypeId := 97
theorem mk_heap (w : World) (n : Nat) : (w.alloc (.cells (madeCells #[.int .i64 0] n) tInt)).heap[w.heap.size]? = some (.cells (List.replicate n (.int .i64 0)).toArray tInt (0, 0)) := by
  obtain ⟨c, h1, h2, h3⟩ := World.rowIs_made w (.int .i64 0) n tInt
  have e : c = (List.replicate n (.int .i64 0)).toArray := by
    refine Array.ext (by rw [h2, List.size_toArray, List.length_replicate]) fun i hi1 hi2 => ?_
    have h4 := h3 i (by omega)
    rw [Array.getElem?_eq_getElem hi1] at h4
    have h5 := Option.some.inj h4
    rw [h5, List.getElem_toArray, List.getElem_replicate]
  rw [e] at h1
  exact h1
/-- make of ints, as a step of a region that draws its order. -/
theorem step_mk {ops : Array Oper} {o : Oper} {a : Act} {Q : Exit → Act → World → Prop} {K : Act → World → Prop} {E : Prop} {w : World} (hgd : o.guard = none) (l c : Operand) (ho : o.op = Op.makeSlice 22 l c)
    (n : Nat) (L : Int) (hl : a.eval l = .int .i64 L) (hc : a.eval c = .int .i64 L) (hL : L = (n : Int)) (hn : n ≤ 4194304)
    (h : ∀ w', Hid (w'.heap[w.heap.size]? = some (.cells (List.replicate n (.int .i64 0)).toArray tInt (0, 0))) → Below w.heap.size w w' → Hid (w.heap.size < w'.heap.size) → K (a.put o.dst (.slice (some ⟨w.heap.size, 0, none⟩) n n)) w') : if Region.wanted o (yielded ops a.tmps) = true then Oper.wp Try.prog o a w K Q else E := by
  have hw : Region.wanted o (yielded ops a.tmps) = true := by simp [Region.wanted, hgd]
  rw [if_pos hw]
  subst hL
  obtain ⟨i0, hi0, hz0, hz1, hz2⟩ := info_parts info_intH
  have hrun := run_make_row (P := Try.prog) 22 tInt i0 (.int .i64 0) Try.underlying22 hi0 hz0 hz1 rfl .i64 .i64 n (by rw [hz2]; omega) (by omega) w
  unfold Oper.wp
  simp [execOp, ho, hl, hc, hrun, Result.andThen]
  exact h _ (mk_heap w n) ((Below.refl _ w).alloc (Nat.le_refl _) _) (by show w.heap.size < (w.alloc _).heap.size; simp)
def stepsV (G F n : Nat) : Value := .agg #[.slice (some ⟨G, 0, none⟩) n n, .slice (some ⟨F, 0, none⟩) (2 * n : Nat) (2 * n : Nat)]
/-- Empty lists of steps. -/
def NsPost (n : Nat) (w : World) (e : Ending) (w' : World) : Prop :=
  ∃ G F, e = .returned (stepsV G F n) ∧ w.heap.size ≤ G ∧ w.heap.size ≤ F ∧ G ≠ F ∧ w'.heap[G]? = some (.cells (List.replicate n (.int .i64 (-1))).toArray tInt (0, 0)) ∧ w'.heap[F]? = some (.cells (List.replicate (2 * n) (.int .i64 0)).toArray tInt (0, 0)) ∧ Below w.heap.size w w'
theorem ns_fin {n G F : Nat} {w W : World} (hW : Below w.heap.size w W) (h : W.heap[w.heap.size]? = some (.cells #[.slice none 0 0, .slice none 0 0] tSteps (0, 0))) (hG : W.heap[G]? = some (.cells (List.replicate n (.int .i64 (-1))).toArray tInt (0, 0))) (hF : W.heap[F]? = some (.cells (List.replicate (2 * n) (.int .i64 0)).toArray tInt (0, 0)))
    (h1 : w.heap.size < G) (h2 : w.heap.size < F) (h3 : G ≠ F) :
    ((W.setCell ⟨w.heap.size, 0, none⟩ (.slice (some ⟨G, 0, none⟩) n n)).setCell ⟨w.heap.size, 1, none⟩ (.slice (some ⟨F, 0, none⟩) (2 * n : Nat) (2 * n : Nat))).heap[w.heap.size]? = some (.cells #[.slice (some ⟨G, 0, none⟩) n n, .slice (some ⟨F, 0, none⟩) (2 * n : Nat) (2 * n : Nat)] tSteps (0, 0)) ∧
    NsPost n w (.returned (stepsV G F n)) ((W.setCell ⟨w.heap.size, 0, none⟩ (.slice (some ⟨G, 0, none⟩) n n)).setCell ⟨w.heap.size, 1, none⟩ (.slice (some ⟨F, 0, none⟩) (2 * n : Nat) (2 * n : Nat))) := by
  have a1 := set_block (o := 0) (u := .slice (some ⟨G, 0, none⟩) n n) h
  have a2 := set_block (o := 1) (u := .slice (some ⟨F, 0, none⟩) (2 * n : Nat) (2 * n : Nat)) a1
  refine ⟨a2, G, F, rfl, by omega, by omega, h3, ?_, ?_, (hW.setCell (p := ⟨w.heap.size, 0, none⟩) (Nat.le_refl _) _).setCell (p := ⟨w.heap.size, 1, none⟩) (Nat.le_refl _) _⟩
  · exact (Below.heap_setCell _ _ _ _ (by show G ≠ w.heap.size; omega)).trans ((Below.heap_setCell _ _ _ _ (by show G ≠ w.heap.size; omega)).trans hG)
  · exact (Below.heap_setCell _ _ _ _ (by show F ≠ w.heap.size; omega)).trans ((Below.heap_setCell _ _ _ _ (by show F ≠ w.heap.size; omega)).trans hF)
set_option maxRecDepth 100000 in
set_option maxHeartbeats 400000 in
theorem newSteps_any (n : Nat) (w : World) (h1 : 1 ≤ n) (h2 : n ≤ 8000) : Calls Try.prog 57 #[.int .i64 n] w (NsPost n w) := by
  have hwr : IntKind.i64.wrap (2 * (n : Int)) = ((2 * n : Nat) : Int) := by rw [IntWalk.i64_in _ (by omega)]; omega
  go_enter Try.func57, Try.ntmps57
  have e1 : (w.alloc (.cells #[.slice none 0 0, .slice none 0 0] tSteps)).heap.size = w.heap.size + 1 := by simp
  have e2 : ((w.alloc (.cells #[.slice none 0 0, .slice none 0 0] tSteps)).alloc (.cells #[.int .i64 (-1)] tInt)).heap.size = w.heap.size + 1 + 1 := by simp
  have HC1 : Hid ((((w.alloc (.cells #[.slice none 0 0, .slice none 0 0] tSteps)).alloc (.cells #[.int .i64 (-1)] tInt)).drew).cell? ⟨w.heap.size + 1, 0, none⟩ = some (.int .i64 (-1)) ∧ (((w.alloc (.cells #[.slice none 0 0, .slice none 0 0] tSteps)).alloc (.cells #[.int .i64 (-1)] tInt)).drew).heap[w.heap.size]? = some (.cells #[.slice none 0 0, .slice none 0 0] tSteps (0, 0)) ∧ Below w.heap.size w (((w.alloc (.cells #[.slice none 0 0, .slice none 0 0] tSteps)).alloc (.cells #[.int .i64 (-1)] tInt)).drew) ∧ w.heap.size < (((w.alloc (.cells #[.slice none 0 0, .slice none 0 0] tSteps)).alloc (.cells #[.int .i64 (-1)] tInt)).drew).heap.size) := Lib.hid (by
    refine ⟨?_, (Below.heap_alloc _ _ _ (by rw [e1]; omega)).trans (heap_new w _), (((Below.refl _ _).alloc (Nat.le_refl _) _).alloc (by rw [e1]; omega) _).drew, by show w.heap.size < (World.alloc _ _).heap.size; rw [World.size_alloc, e1]; omega⟩
    rw [World.cell?_drew, ← e1, World.cell?_alloc_mark]; rfl)
  have HC2 : Hid (((((w.alloc (.cells #[.slice none 0 0, .slice none 0 0] tSteps)).alloc (.cells #[.int .i64 (-1)] tInt)).alloc (.cells (madeCells #[.int .i64 0] (2 * n)) tInt)).drew).cell? ⟨w.heap.size + 1, 0, none⟩ = some (.int .i64 (-1)) ∧ ((((w.alloc (.cells #[.slice none 0 0, .slice none 0 0] tSteps)).alloc (.cells #[.int .i64 (-1)] tInt)).alloc (.cells (madeCells #[.int .i64 0] (2 * n)) tInt)).drew).heap[w.heap.size]? = some (.cells #[.slice none 0 0, .slice none 0 0] tSteps (0, 0)) ∧ Below w.heap.size w ((((w.alloc (.cells #[.slice none 0 0, .slice none 0 0] tSteps)).alloc (.cells #[.int .i64 (-1)] tInt)).alloc (.cells (madeCells #[.int .i64 0] (2 * n)) tInt)).drew) ∧ w.heap.size + 1 + 1 < ((((w.alloc (.cells #[.slice none 0 0, .slice none 0 0] tSteps)).alloc (.cells #[.int .i64 (-1)] tInt)).alloc (.cells (madeCells #[.int .i64 0] (2 * n)) tInt)).drew).heap.size ∧ ((((w.alloc (.cells #[.slice none 0 0, .slice none 0 0] tSteps)).alloc (.cells #[.int .i64 (-1)] tInt)).alloc (.cells (madeCells #[.int .i64 0] (2 * n)) tInt)).drew).heap[w.heap.size + 1 + 1]? = some (.cells (List.replicate (2 * n) (.int .i64 0)).toArray tInt (0, 0))) := Lib.hid (by
    have hm := mk_heap ((w.alloc (.cells #[.slice none 0 0, .slice none 0 0] tSteps)).alloc (.cells #[.int .i64 (-1)] tInt)) (2 * n)
    rw [e2] at hm
    refine ⟨?_, (Below.heap_alloc _ _ _ (by rw [e2]; omega)).trans HC1.out.2.1, (HC1.out.2.2.1.alloc (by show w.heap.size ≤ (World.alloc _ _).heap.size; rw [e2]; omega) _), by show _ < (World.alloc _ _).heap.size; rw [World.size_alloc, e2]; omega, hm⟩
    exact (World.cell?_of_block (w := ((w.alloc (.cells #[.slice none 0 0, .slice none 0 0] tSteps)).alloc (.cells #[.int .i64 (-1)] tInt)).drew) (a := ⟨w.heap.size + 1, 0, none⟩) (Below.heap_alloc _ _ _ (by show w.heap.size + 1 < (World.alloc _ _).heap.size; rw [e2]; omega))).trans HC1.out.1)
  have e3 : ((w.alloc (.cells #[.slice none 0 0, .slice none 0 0] tSteps)).alloc (.cells (madeCells #[.int .i64 0] (2 * n)) tInt)).heap.size = w.heap.size + 1 + 1 := by simp
  have HC3 : Hid (((((w.alloc (.cells #[.slice none 0 0, .slice none 0 0] tSteps)).alloc (.cells (madeCells #[.int .i64 0] (2 * n)) tInt)).alloc (.cells #[.int .i64 (-1)] tInt)).drew).cell? ⟨w.heap.size + 1 + 1, 0, none⟩ = some (.int .i64 (-1)) ∧ ((((w.alloc (.cells #[.slice none 0 0, .slice none 0 0] tSteps)).alloc (.cells (madeCells #[.int .i64 0] (2 * n)) tInt)).alloc (.cells #[.int .i64 (-1)] tInt)).drew).heap[w.heap.size]? = some (.cells #[.slice none 0 0, .slice none 0 0] tSteps (0, 0)) ∧ Below w.heap.size w ((((w.alloc (.cells #[.slice none 0 0, .slice none 0 0] tSteps)).alloc (.cells (madeCells #[.int .i64 0] (2 * n)) tInt)).alloc (.cells #[.int .i64 (-1)] tInt)).drew) ∧ w.heap.size + 1 < ((((w.alloc (.cells #[.slice none 0 0, .slice none 0 0] tSteps)).alloc (.cells (madeCells #[.int .i64 0] (2 * n)) tInt)).alloc (.cells #[.int .i64 (-1)] tInt)).drew).heap.size ∧ ((((w.alloc (.cells #[.slice none 0 0, .slice none 0 0] tSteps)).alloc (.cells (madeCells #[.int .i64 0] (2 * n)) tInt)).alloc (.cells #[.int .i64 (-1)] tInt)).drew).heap[w.heap.size + 1]? = some (.cells (List.replicate (2 * n) (.int .i64 0)).toArray tInt (0, 0))) := Lib.hid (by
    have hm := mk_heap (w.alloc (.cells #[.slice none 0 0, .slice none 0 0] tSteps)) (2 * n)
    rw [e1] at hm
    refine ⟨?_, (Below.heap_alloc _ _ _ (by rw [e3]; omega)).trans ((Below.heap_alloc _ _ _ (by rw [e1]; omega)).trans (heap_new w _)), ((((Below.refl _ _).alloc (Nat.le_refl _) _).alloc (by rw [e1]; omega) _).alloc (by rw [e3]; omega) _).drew, by show _ < (World.alloc _ _).heap.size; rw [World.size_alloc, e3]; omega, (Below.heap_alloc _ _ _ (by rw [e3]; omega)).trans hm⟩
    rw [World.cell?_drew, ← e3, World.cell?_alloc_mark]; rfl)
  clear e1 e2 e3
  have hmk : ∀ W : World, Sem.run Try.prog (Instr.makeSlice 22 (.int .i64 (2 * (n : Int))) (.int .i64 (2 * (n : Int)))) W = .ok (.slice (some ⟨W.heap.size, 0, none⟩) (2 * n : Nat) (2 * n : Nat)) (W.alloc (.cells (madeCells #[.int .i64 0] (2 * n)) tInt)) := fun W => by
    obtain ⟨i0, hi0, hz0, hz1, hz2⟩ := info_parts info_intH
    exact run_make_row (P := Try.prog) 22 tInt i0 (.int .i64 0) Try.underlying22 hi0 hz0 hz1 rfl .i64 .i64 (2 * n) (by rw [hz2]; omega) (by omega) W
  go_upto_region 1 with fail
  go_region_with (first
    | (go_at_call 58; go_fit (Repeat_any (w.heap.size + 1) 1 n (-1) _ HC1.out.1 h1 (by omega)); rintro e w5 ⟨G, rfl, hG, hg, hb⟩; have hr5 := (hb.block _ HC1.out.2.2.2).trans HC1.out.2.1; have hl5 := lt_some hr5; have qf0 : ∀ o, (w5.alloc o).frozen? ⟨w.heap.size, 0, none⟩ = false := (fun o => by simp [World.frozen?, Below.heap_alloc w5 o _ hl5, hr5]); have qf1 : ∀ o, (w5.alloc o).frozen? ⟨w.heap.size, 1, none⟩ = false := (fun o => by simp [World.frozen?, Below.heap_alloc w5 o _ hl5, hr5]); have qc0 : ∀ o, (w5.alloc o).cell? ⟨w.heap.size, 0, none⟩ = some (.slice none 0 0) := (fun o => by simp [World.cell?, Below.heap_alloc w5 o _ hl5, hr5]); have qc1 : ∀ o, (w5.alloc o).cell? ⟨w.heap.size, 1, none⟩ = some (.slice none 0 0) := (fun o => by simp [World.cell?, Below.heap_alloc w5 o _ hl5, hr5]); have HR5 : Hid (w5.heap[w.heap.size]? = some (.cells #[.slice none 0 0, .slice none 0 0] tSteps (0, 0)) ∧ Below w.heap.size w w5 ∧ w5.heap[G]? = some (.cells (List.replicate n (.int .i64 (-1))).toArray tInt (0, 0)) ∧ w.heap.size < G) := Lib.hid ⟨hr5, HC1.out.2.2.1.trans (hb.mono HC1.out.2.2.1.size), hg, Nat.lt_of_lt_of_le HC1.out.2.2.2 hG⟩; clear hG hg hb hr5 hl5)
    | (go_at_call 58; go_fit (Repeat_any (w.heap.size + 1) 1 n (-1) _ HC2.out.1 h1 (by omega)); rintro e w5 ⟨G, rfl, hG, hg, hb⟩; have hr5 := (hb.block _ (Nat.lt_trans (Nat.lt_trans (Nat.lt_succ_self _) (Nat.lt_succ_self _)) HC2.out.2.2.2.1)).trans HC2.out.2.1; have hl5 := lt_some hr5; have qf0 : w5.frozen? ⟨w.heap.size, 0, none⟩ = false := (by simp [World.frozen?, hr5]); have qf1 : w5.frozen? ⟨w.heap.size, 1, none⟩ = false := (by simp [World.frozen?, hr5]); have qc0 : w5.cell? ⟨w.heap.size, 0, none⟩ = some (.slice none 0 0) := (by simp [World.cell?, hr5]); have qc1 : w5.cell? ⟨w.heap.size, 1, none⟩ = some (.slice none 0 0) := (by simp [World.cell?, hr5]); have HR6 : Hid (w5.heap[w.heap.size]? = some (.cells #[.slice none 0 0, .slice none 0 0] tSteps (0, 0)) ∧ Below w.heap.size w w5 ∧ w5.heap[G]? = some (.cells (List.replicate n (.int .i64 (-1))).toArray tInt (0, 0)) ∧ w5.heap[w.heap.size + 1 + 1]? = some (.cells (List.replicate (2 * n) (.int .i64 0)).toArray tInt (0, 0)) ∧ w.heap.size + 1 + 1 < G) := Lib.hid ⟨hr5, HC2.out.2.2.1.trans (hb.mono HC2.out.2.2.1.size), hg, (hb.block _ HC2.out.2.2.2.1).trans HC2.out.2.2.2.2, Nat.lt_of_lt_of_le HC2.out.2.2.2.1 hG⟩; clear hG hg hb hr5 hl5)
    | (go_at_call 58; go_fit (Repeat_any (w.heap.size + 1 + 1) 1 n (-1) _ HC3.out.1 h1 (by omega)); rintro e w5 ⟨G, rfl, hG, hg, hb⟩; have hr5 := (hb.block _ (Nat.lt_trans (Nat.lt_succ_self _) HC3.out.2.2.2.1)).trans HC3.out.2.1; have hl5 := lt_some hr5; have qf0 : w5.frozen? ⟨w.heap.size, 0, none⟩ = false := (by simp [World.frozen?, hr5]); have qf1 : w5.frozen? ⟨w.heap.size, 1, none⟩ = false := (by simp [World.frozen?, hr5]); have qc0 : w5.cell? ⟨w.heap.size, 0, none⟩ = some (.slice none 0 0) := (by simp [World.cell?, hr5]); have qc1 : w5.cell? ⟨w.heap.size, 1, none⟩ = some (.slice none 0 0) := (by simp [World.cell?, hr5]); have HR6 : Hid (w5.heap[w.heap.size]? = some (.cells #[.slice none 0 0, .slice none 0 0] tSteps (0, 0)) ∧ Below w.heap.size w w5 ∧ w5.heap[G]? = some (.cells (List.replicate n (.int .i64 (-1))).toArray tInt (0, 0)) ∧ w5.heap[w.heap.size + 1]? = some (.cells (List.replicate (2 * n) (.int .i64 0)).toArray tInt (0, 0)) ∧ w.heap.size + 1 < G) := Lib.hid ⟨hr5, HC3.out.2.2.1.trans (hb.mono HC3.out.2.2.1.size), hg, (hb.block _ HC3.out.2.2.2.1).trans HC3.out.2.2.2.2, Nat.lt_of_lt_of_le HC3.out.2.2.2.1 hG⟩; clear hG hg hb hr5 hl5))
  all_goals go_wp2_with fail
  · have hz : w5.heap.size ≠ G := fun e => by have h1 := lt_some HR5.out.2.2.1; omega
    have hlt := HR5.out.2.1.size
    have h9 := lt_some HR5.out.1
    have hf := ns_fin (n := n) (G := G) (F := w5.heap.size) (HR5.out.2.1.alloc hlt (.cells (madeCells #[.int .i64 0] (2 * n)) tInt)) ((Below.heap_alloc _ _ _ h9).trans HR5.out.1) ((Below.heap_alloc _ _ _ (lt_some HR5.out.2.2.1)).trans HR5.out.2.2.1) (mk_heap w5 (2 * n)) HR5.out.2.2.2 h9 hz.symm
    exact bodyPost_ret (results_cell_row (p := 2) rfl _ _ _ _ _ _ _ rfl hf.1 Try.underlying97 rfl (by kernel_rfl)) rfl hf.2
  all_goals
    have hf := ns_fin (n := n) (G := G) HR6.out.2.1 HR6.out.1 HR6.out.2.2.1 HR6.out.2.2.2.1 (by have := HR6.out.2.2.2.2; omega) (by omega) (by have := HR6.out.2.2.2.2; omega)
    exact bodyPost_ret (results_cell_row (p := 2) rfl _ _ _ _ _ _ _ rfl hf.1 Try.underlying97 rfl (by kernel_rfl)) rfl hf.2
end Se
end
section
open Go.RowKit
namespace Se
open Cm Rx Au
def AddPost (gl gb : Nat) (L Bf : List Int) (t q : Nat) (x : Int) (w : World) (e : Ending) (w' : World) : Prop :=
  e = .returned (.tuple #[]) ∧ w'.heap[gl]? = some (.cells (intsV (L.set q t)).toArray tInt (0, 0)) ∧ w'.heap[gb]? = some (.cells (intsV (Bf.set t x)).toArray tInt (0, 0)) ∧ (∀ k, k < w.heap.size → k ≠ gl → k ≠ gb → w'.heap[k]? = w.heap[k]?) ∧ ∀ B, B ≤ gl → B ≤ gb → Below B w w'
theorem ints_set {w : World} {g i : Nat} {L : List Int} {x : Int} (h : w.heap[g]? = some (.cells (intsV L).toArray tInt (0, 0))) : (w.setCell ⟨g, i, none⟩ (.int .i64 x)).heap[g]? = some (.cells (intsV (L.set i x)).toArray tInt (0, 0)) := by
  rw [set_block (o := i) (u := .int .i64 x) h]
  congr 2
  simp [intsV, List.map_set]
theorem cell_intsN {w : World} {g : Nat} {l : List Int} (h : w.heap[g]? = some (.cells (intsV l).toArray tInt (0, 0))) {j : Nat} (hj : j < l.length) : w.cell? ⟨g, j, none⟩ = some (.int .i64 l[j]) := by
  simp only [World.cell?, h]
  simp [intsV, hj]
set_option maxRecDepth 100000 in
set_option maxHeartbeats 1000000 in
theorem add_any (gl gb : Nat) (n m : Nat) (L Bf : List Int) (t q : Nat) (w : World) (hL : w.heap[gl]? = some (.cells (intsV L).toArray tInt (0, 0))) (hB : w.heap[gb]? = some (.cells (intsV Bf).toArray tInt (0, 0))) (hne : gl ≠ gb) (hn : L.length = n) (hm : Bf.length = m) (hq : q < n) (ht : t < m) :
    Calls Try.prog 59 #[.agg #[.slice (some ⟨gl, 0, none⟩) n n, .slice (some ⟨gb, 0, none⟩) m m], .int .i64 t, .int .i64 q] w (AddPost gl gb L Bf t q (L.getD q 0) w) := by
  have hx : L.getD q 0 = L[q]'(by omega) := by rw [List.getD_eq_getElem?_getD, List.getElem?_eq_getElem (by omega)]; rfl
  have hcl := cell_intsN hL (j := q) (by omega)
  rw [← hx] at hcl
  have HN := Lib.hid hne
  clear hx
  generalize L.getD q 0 = x at hcl
  have hll := lt_some hL
  have hlb := lt_some hB
  have a0 : ∀ o, (w.alloc o).drew.cell? ⟨gl, q, none⟩ = some (.int .i64 x) := fun o => by rw [World.cell?_drew]; exact (World.cell?_of_block (w := w) (a := ⟨gl, q, none⟩) (Below.heap_alloc w o _ hll)).trans hcl
  have a1 : ∀ o, (w.alloc o).drew.frozen? ⟨gb, t, none⟩ = false := fun o => by
    have : (w.alloc o).drew.heap[gb]? = _ := (Below.heap_alloc w o _ hlb).trans hB
    simp [World.frozen?, this]
  have a2 : ∀ o u, ((w.alloc o).drew.setCell ⟨gb, t, none⟩ u).frozen? ⟨gl, q, none⟩ = false := fun o u => by
    have : ((w.alloc o).drew.setCell ⟨gb, t, none⟩ u).heap[gl]? = _ := (Below.heap_setCell _ _ _ _ HN.out).trans ((Below.heap_alloc w o _ hll).trans hL)
    simp [World.frozen?, this]
  have hcb := cell_intsN hB (j := t) (by omega)
  have a3 : ∀ o, (w.alloc o).cell? ⟨gl, q, none⟩ = some (.int .i64 x) := a0
  have a4 : ∀ o, (w.alloc o).frozen? ⟨gb, t, none⟩ = false := a1
  have a5 : ∀ o, (w.alloc o).cell? ⟨gb, t, none⟩ = some (.int .i64 (Bf[t]'(by omega))) := fun o => (World.cell?_of_block (w := w) (a := ⟨gb, t, none⟩) (Below.heap_alloc w o _ hlb)).trans hcb
  have a6 : ∀ o, (w.alloc o).frozen? ⟨gl, q, none⟩ = false := fun o => by
    have : (w.alloc o).heap[gl]? = _ := (Below.heap_alloc w o _ hll).trans hL
    simp [World.frozen?, this]
  generalize Bf[t]'(by omega) = y at a5
  clear hcb
  have HP : Hid (∀ o, AddPost gl gb L Bf t q x w (.returned (.tuple #[])) (((w.alloc o).drew.setCell ⟨gb, t, none⟩ (.int .i64 x)).setCell ⟨gl, q, none⟩ (.int .i64 t))) := Lib.hid (fun o => by
    have b0 : (w.alloc o).drew.heap[gb]? = _ := (Below.heap_alloc w o _ hlb).trans hB
    have l0 : (w.alloc o).drew.heap[gl]? = _ := (Below.heap_alloc w o _ hll).trans hL
    refine ⟨rfl, ints_set ((Below.heap_setCell _ _ _ _ HN.out).trans l0), (Below.heap_setCell _ _ _ _ HN.out.symm).trans (ints_set b0), fun k hk h1 h2 => ?_, fun B h1 h2 => ?_⟩
    · exact (Below.heap_setCell _ _ _ _ h1).trans ((Below.heap_setCell _ _ _ _ h2).trans (Below.heap_alloc w o _ hk))
    · exact (((Below.refl B w).alloc (by omega) o).drew.setCell (p := ⟨gb, t, none⟩) h2 _).setCell (p := ⟨gl, q, none⟩) h1 _)
  have i0 : (0 : Int) ≤ (t : Int) := by omega
  have i1 : (t : Int) < (m : Int) := by omega
  have i2 : (0 : Int) ≤ (q : Int) := by omega
  have i3 : (q : Int) < (n : Int) := by omega
  have n1 : ¬ gb = w.heap.size := by omega
  have n2 : ¬ gl = w.heap.size := by omega
  have n3 : ¬ w.heap.size = gb := by omega
  have n4 : ¬ w.heap.size = gl := by omega
  clear hL hB hne hn hm hcl hll hlb
  go_enter Try.func59, Try.ntmps59
  go_upto_region 1 with fail
  have hne := HN.out
  have hne2 := HN.out.symm
  go_region_with (fail)
  all_goals
    go_wp2_with fail
    go_end0
    exact HP.out _
end Se
end
section
open Go.RowKit
namespace Se
open Cm Rx Au
/-- Where the parts of a new walker lie. -/
structure Lay where
  B : Nat
  gs : Nat
  R1 : Nat
  R2 : Nat
  F1 : Nat
  F2 : Nat
/-- All parts lie at or beyond a block, and apart. -/
structure LayOk (H : Nat) (Y : Lay) : Prop where
  lo : H ≤ Y.B ∧ H ≤ Y.gs ∧ H ≤ Y.R1 ∧ H ≤ Y.R2 ∧ H ≤ Y.F1 ∧ H ≤ Y.F2
  b : Y.B ≠ Y.gs ∧ Y.R1 ≠ Y.B ∧ Y.R2 ≠ Y.B ∧ Y.F1 ≠ Y.B ∧ Y.F2 ≠ Y.B
  g : Y.R1 ≠ Y.gs ∧ Y.R2 ≠ Y.gs ∧ Y.F1 ≠ Y.gs ∧ Y.F2 ≠ Y.gs
  r : Y.R1 ≠ Y.R2 ∧ Y.R1 ≠ Y.F1 ∧ Y.R1 ≠ Y.F2 ∧ Y.R2 ≠ Y.F1 ∧ Y.R2 ≠ Y.F2 ∧ Y.F1 ≠ Y.F2
def cells0 (n st bA oA c : Nat) (s : ByteArray) (Y : Lay) (vacc : Value) : Array Value :=
  #[.slice (some ⟨bA, oA, none⟩) n c, .int .i64 (st : Int), .string s, .slice (some ⟨Y.R1, 0, none⟩) n n, .slice (some ⟨Y.R2, 0, none⟩) (2 * n : Nat) (2 * n : Nat), .slice (some ⟨Y.F1, 0, none⟩) n n, .slice (some ⟨Y.F2, 0, none⟩) (2 * n : Nat) (2 * n : Nat), vacc, .int .i64 ((s.size : Int) + 1), .slice none 0 0, .slice none 0 0, .slice (some ⟨Y.gs, 0, none⟩) n n, .int .i64 0]
/-- A new walker in the world w; w0 is the world before it. -/
structure NwA (n st bA oA c : Nat) (s : ByteArray) (w0 w : World) (Y : Lay) (vacc : Value) (r1 r2 f1 f2 : List Int) : Prop where
  ok : LayOk w0.heap.size Y
  bel : Below w0.heap.size w0 w
  blk : w.heap[Y.B]? = some (.cells (cells0 n st bA oA c s Y vacc) tWk (0, 0))
  gs : w.heap[Y.gs]? = some (.cells (intsV (List.replicate n (-1))).toArray tInt (0, 0))
  r1 : w.heap[Y.R1]? = some (.cells (intsV r1).toArray tInt (0, 0))
  r2 : w.heap[Y.R2]? = some (.cells (intsV r2).toArray tInt (0, 0))
  f1 : w.heap[Y.F1]? = some (.cells (intsV f1).toArray tInt (0, 0))
  f2 : w.heap[Y.F2]? = some (.cells (intsV f2).toArray tInt (0, 0))
theorem intsV_rep (n : Nat) (x : Int) : intsV (List.replicate n x) = List.replicate n (.int .i64 x) := by simp [intsV]
theorem below_pre {V X Y : World} (hp : Below V.heap.size V X) (hb : Below X.heap.size X Y) : Below V.heap.size V Y := hp.trans (hb.mono hp.size)
theorem nw_fin {n st bA oA c G F G2 F2 G3 : Nat} {s : ByteArray} {w0 w5 w6 w7 : World} (h5 : NsPost n w0 (.returned (stepsV G F n)) w5) (h6 : NsPost n w5 (.returned (stepsV G2 F2 n)) w6) (h7 : RepPost n (-1) w6 (.returned (.slice (some ⟨G3, 0, none⟩) n n)) w7) :
    NwA n st bA oA c s w0 (w7.alloc (.cells (cells0 n st bA oA c s ⟨w7.heap.size, G3, G, F, G2, F2⟩ (.slice none 0 0)) tWk)) ⟨w7.heap.size, G3, G, F, G2, F2⟩ (.slice none 0 0) (List.replicate n (-1)) (List.replicate (2 * n) 0) (List.replicate n (-1)) (List.replicate (2 * n) 0) := by
  obtain ⟨G', F', e5, a1, a2, a3, a4, a5, a6⟩ := h5
  obtain ⟨G2', F2', e6, b1, b2, b3, b4, b5, b6⟩ := h6
  obtain ⟨G3', e7, c1, c2, c3⟩ := h7
  simp only [Ending.returned.injEq, stepsV, Value.agg.injEq] at e5 e6
  have e5 := congrArg Array.toList e5
  have e6 := congrArg Array.toList e6
  simp only [List.cons.injEq, Value.slice.injEq, Option.some.injEq, Addr.mk.injEq, and_true] at e5 e6
  simp only [Ending.returned.injEq, Value.slice.injEq, Option.some.injEq, Addr.mk.injEq, and_true] at e7
  obtain ⟨rfl, rfl⟩ := e5
  obtain ⟨rfl, rfl⟩ := e6
  subst e7
  have z1 := lt_some a4
  have z2 := lt_some a5
  have z3 := lt_some b4
  have z4 := lt_some b5
  have z5 := lt_some c2
  have s5 := a6.size
  have s6 := b6.size
  have s7 := c3.size
  have al : ∀ (k : Nat) (o : Obj) {q : Obj}, w7.heap[k]? = some o → (w7.alloc q).heap[k]? = some o := fun k o q h => (Below.heap_alloc w7 q k (lt_some h)).trans h
  refine ⟨⟨by dsimp only; omega, by dsimp only; omega, by dsimp only; omega, by dsimp only; omega⟩, ?_, heap_new w7 _, ?_, ?_, ?_, ?_, ?_⟩
  · exact (below_pre (below_pre a6 b6) c3).alloc (by omega) _
  · rw [intsV_rep]; exact al _ _ c2
  · rw [intsV_rep]; exact al _ _ ((c3.block _ (by dsimp only; omega)).trans ((b6.block _ (by dsimp only; omega)).trans a4))
  · rw [intsV_rep]; exact al _ _ ((c3.block _ (by dsimp only; omega)).trans ((b6.block _ (by dsimp only; omega)).trans a5))
  · rw [intsV_rep]; exact al _ _ ((c3.block _ (by dsimp only; omega)).trans b4)
  · rw [intsV_rep]; exact al _ _ ((c3.block _ (by dsimp only; omega)).trans b5)
theorem NsPost.of {n : Nat} {V X w' : World} {e : Ending} (hp : Below V.heap.size V X) (h : NsPost n X e w') : NsPost n V e w' := by
  obtain ⟨G, F, h1, h2, h3, h4, h5, h6, h7⟩ := h
  have := hp.size
  exact ⟨G, F, h1, by omega, by omega, h4, h5, h6, below_pre hp h7⟩
theorem RepPost.of {n : Nat} {x : Int} {V X w' : World} {e : Ending} (hp : Below V.heap.size V X) (h : RepPost n x X e w') : RepPost n x V e w' := by
  obtain ⟨G, h1, h2, h3, h4⟩ := h
  have := hp.size
  exact ⟨G, h1, by omega, h3, below_pre hp h4⟩
theorem ns_blk {n k : Nat} {X w' : World} {e : Ending} {o : Obj} (h : NsPost n X e w') (hc : X.heap[k]? = some o) : w'.heap[k]? = some o := by
  obtain ⟨G, F, h1, h2, h3, h4, h5, h6, h7⟩ := h
  exact (h7.block k (lt_some hc)).trans hc
theorem rp_blk {n k : Nat} {x : Int} {X w' : World} {e : Ending} {o : Obj} (h : RepPost n x X e w') (hc : X.heap[k]? = some o) : w'.heap[k]? = some o := by
  obtain ⟨G, h1, h2, h3, h4⟩ := h
  exact (h4.block k (lt_some hc)).trans hc
theorem box_cells {W : World} {H : Nat} {a b : Value} {T : TypeId} (h : W.heap[H]? = some (.cells #[a, b] T (0, 0))) : (W.cell? ⟨H, 0, none⟩ = some a ∧ W.cell? ⟨H, 1, none⟩ = some b) ∧ (∀ o, (W.alloc o).cell? ⟨H, 0, none⟩ = some a) ∧ ∀ o, (W.alloc o).cell? ⟨H, 1, none⟩ = some b := by
  have h0 : W.cell? ⟨H, 0, none⟩ = some a := by simp [World.cell?, h]
  have h1 : W.cell? ⟨H, 1, none⟩ = some b := by simp [World.cell?, h]
  exact ⟨⟨h0, h1⟩, fun o => (World.cell?_of_block (w := W) (a := ⟨H, 0, none⟩) (Below.heap_alloc W o _ (lt_some h))).trans h0, fun o => (World.cell?_of_block (w := W) (a := ⟨H, 1, none⟩) (Below.heap_alloc W o _ (lt_some h))).trans h1⟩
theorem ns_cell {n b : Nat} {X w' : World} {e : Ending} {v : Value} (h : NsPost n X e w') (hc : X.cell? ⟨b, 0, none⟩ = some v) : w'.cell? ⟨b, 0, none⟩ = some v := by
  obtain ⟨G, F, h1, h2, h3, h4, h5, h6, h7⟩ := h
  exact (h7.cell (p := ⟨b, 0, none⟩) (Tx.cell_lt hc)).trans hc
section
variable {n st bA oA c : Nat} {s : ByteArray} {w0 w w' : World} {Y : Lay} {vacc : Value} {r1 r2 f1 f2 : List Int}
theorem NwA.below {w0 w w' : World} (h : NwA n st bA oA c s w0 w Y vacc r1 r2 f1 f2) (hb : Below w.heap.size w w') : NwA n st bA oA c s w0 w' Y vacc r1 r2 f1 f2 := by
  have hk : ∀ (k : Nat) (o : Obj), w.heap[k]? = some o → w'.heap[k]? = some o := fun k o hk => (hb.block k (lt_some hk)).trans hk
  exact ⟨h.ok, h.bel.trans (hb.mono h.bel.size), hk _ _ h.blk, hk _ _ h.gs, hk _ _ h.r1, hk _ _ h.r2, hk _ _ h.f1, hk _ _ h.f2⟩
theorem NwA.drewN (h : NwA n st bA oA c s w0 w Y vacc r1 r2 f1 f2) (m : Nat) : NwA n st bA oA c s w0 (w.drewN m) Y vacc r1 r2 f1 f2 := h.below (below_drewN (Below.refl _ _) m)
theorem NwA.addR {t q : Nat} {x : Int} {e : Ending} (h : NwA n st bA oA c s w0 w Y vacc r1 r2 f1 f2) (ha : AddPost Y.R1 Y.R2 r1 r2 t q x w e w') : NwA n st bA oA c s w0 w' Y vacc (r1.set q t) (r2.set t x) f1 f2 := by
  obtain ⟨-, a1, a2, a3, a4⟩ := ha
  have ho := h.ok
  have hk : ∀ (k : Nat) (o : Obj), w.heap[k]? = some o → k ≠ Y.R1 → k ≠ Y.R2 → w'.heap[k]? = some o := fun k o hk h1 h2 => (a3 k (lt_some hk) h1 h2).trans hk
  exact ⟨ho, h.bel.trans (a4 _ ho.lo.2.2.1 ho.lo.2.2.2.1), hk _ _ h.blk ho.b.2.1.symm ho.b.2.2.1.symm, hk _ _ h.gs ho.g.1.symm ho.g.2.1.symm, a1, a2, hk _ _ h.f1 ho.r.2.1.symm ho.r.2.2.2.1.symm, hk _ _ h.f2 ho.r.2.2.1.symm ho.r.2.2.2.2.1.symm⟩
theorem NwA.addF {t q : Nat} {x : Int} {e : Ending} (h : NwA n st bA oA c s w0 w Y vacc r1 r2 f1 f2) (ha : AddPost Y.F1 Y.F2 f1 f2 t q x w e w') : NwA n st bA oA c s w0 w' Y vacc r1 r2 (f1.set q t) (f2.set t x) := by
  obtain ⟨-, a1, a2, a3, a4⟩ := ha
  have ho := h.ok
  have hk : ∀ (k : Nat) (o : Obj), w.heap[k]? = some o → k ≠ Y.F1 → k ≠ Y.F2 → w'.heap[k]? = some o := fun k o hk h1 h2 => (a3 k (lt_some hk) h1 h2).trans hk
  exact ⟨ho, h.bel.trans (a4 _ ho.lo.2.2.2.2.1 ho.lo.2.2.2.2.2), hk _ _ h.blk ho.b.2.2.2.1.symm ho.b.2.2.2.2.symm, hk _ _ h.gs ho.g.2.2.1.symm ho.g.2.2.2.symm, hk _ _ h.r1 ho.r.2.1 ho.r.2.2.1, hk _ _ h.r2 ho.r.2.2.2.1 ho.r.2.2.2.2.1, a1, a2⟩
/-- The accepting states so far. -/
structure NwB (ss : List St) (base i : Nat) (w : World) (vacc : Value) (accs : List Int) : Prop where
  own : w.ownsRow base tInt 1 vacc accs.length (intsV accs)
  nil : accs = [] → vacc = .slice none 0 0
  mem : ∀ x, x ∈ accs ↔ ∃ k : Nat, x = (k : Int) ∧ k < i ∧ ∃ h : k < ss.length, ss[k].kind = 4
  len : accs.length ≤ i
/-- All parts lie below a block. -/
def LayLt (Y : Lay) (base : Nat) : Prop := Y.B < base ∧ Y.gs < base ∧ Y.R1 < base ∧ Y.R2 < base ∧ Y.F1 < base ∧ Y.F2 < base
theorem NwA.lt (h : NwA n st bA oA c s w0 w Y vacc r1 r2 f1 f2) : LayLt Y w.heap.size := ⟨lt_some h.blk, lt_some h.gs, lt_some h.r1, lt_some h.r2, lt_some h.f1, lt_some h.f2⟩
variable {ss : List St} {base i : Nat} {accs : List Int}
theorem NwB.below (h : NwB ss base i w vacc accs) (hb : Below w.heap.size w w') : NwB ss base i w' vacc accs :=
  ⟨own_same h.own (fun k hk => hb.block k hk), h.nil, h.mem, h.len⟩
theorem NwB.add {t q gl gb : Nat} {x : Int} {e : Ending} {L F : List Int} (h : NwB ss base i w vacc accs) (ha : AddPost gl gb L F t q x w e w') (h1 : gl < base) (h2 : gb < base) : NwB ss base i w' vacc accs :=
  ⟨by
    obtain ⟨-, a1, a2, a3, a4⟩ := ha
    refine ⟨h.own.1, ?_⟩
    rcases h.own.2 with e | ⟨g, cap, cur, e, hb, hg, r⟩
    · exact .inl e
    · exact .inr ⟨g, cap, cur, e, hb, (a3 g (lt_some hg) (by omega) (by omega)).trans hg, r⟩, h.nil, h.mem, h.len⟩
theorem NwB.next (h : NwB ss base i w vacc accs) (hk : ∀ hi : i < ss.length, ss[i].kind ≠ 4) : NwB ss base (i + 1) w vacc accs := by
  refine ⟨h.own, h.nil, fun x => ?_, by have := h.len; omega⟩
  rw [h.mem]
  constructor
  · rintro ⟨k, rfl, h1, h2⟩; exact ⟨k, rfl, by omega, h2⟩
  · rintro ⟨k, rfl, h1, h2, h3⟩
    refine ⟨k, rfl, ?_, h2, h3⟩
    by_cases e : k = i
    · subst e; exact absurd h3 (hk h2)
    · omega
theorem NwB.push {v' : Value} (h : NwB ss base i w vacc accs) (hi : i < ss.length) (hk : ss[i].kind = 4) (ho : w'.ownsRow base tInt 1 v' (accs ++ [(i : Int)]).length (intsV (accs ++ [(i : Int)]))) : NwB ss base (i + 1) w' v' (accs ++ [(i : Int)]) := by
  refine ⟨ho, fun e => by simp at e, fun x => ?_, by have := h.len; simp; omega⟩
  rw [List.mem_append, List.mem_singleton, h.mem]
  constructor
  · rintro (⟨k, rfl, h1, h2⟩ | rfl)
    · exact ⟨k, rfl, by omega, h2⟩
    · exact ⟨i, rfl, by omega, hi, hk⟩
  · rintro ⟨k, rfl, h1, h2, h3⟩
    by_cases e : k = i
    · subst e; exact .inr rfl
    · exact .inl ⟨k, rfl, by omega, h2, h3⟩
/-- The store of the longer list of accepting states. -/
theorem NwA.acc {w4 : World} {row : Option Nat} {v' : Value} (h : NwA n st bA oA c s w0 w Y vacc r1 r2 f1 f2) (hl : LayLt Y base) (hw : w0.heap.size ≤ base) (hg : w.grownBy w4 row) (hr : ∀ k, row = some k → base ≤ k) (i : Nat) (hi : i = 7) : NwA n st bA oA c s w0 (w4.setCell ⟨Y.B, i, none⟩ v') Y v' r1 r2 f1 f2 := by
  subst hi
  have ho := h.ok
  obtain ⟨l1, l2, l3, l4, l5, l6⟩ := hl
  have hk : ∀ (k : Nat) (o : Obj), w.heap[k]? = some o → k < base → w4.heap[k]? = some o := fun k o hk h1 => (hg.block k (lt_some hk) (fun e => by have := hr k e.symm; omega)).trans hk
  have hk2 : ∀ (k : Nat) (o : Obj), w.heap[k]? = some o → k < base → k ≠ Y.B → (w4.setCell ⟨Y.B, 7, none⟩ v').heap[k]? = some o := fun k o h1 h2 h3 => (Below.heap_setCell _ _ _ _ h3).trans (hk k o h1 h2)
  refine ⟨ho, ?_, ?_, hk2 _ _ h.gs l2 ho.b.1.symm, hk2 _ _ h.r1 l3 ho.b.2.1, hk2 _ _ h.r2 l4 ho.b.2.2.1, hk2 _ _ h.f1 l5 ho.b.2.2.2.1, hk2 _ _ h.f2 l6 ho.b.2.2.2.2⟩
  · exact (h.bel.grown hg h.bel.size (fun k e => by have := hr k e; omega)).setCell (p := ⟨Y.B, 7, none⟩) ho.lo.1 _
  · rw [set_block (o := 7) (u := v') (hk _ _ h.blk l1)]
    rfl
end
end Se
end
end Go.Proofs.Ytgadomcbaenodaa

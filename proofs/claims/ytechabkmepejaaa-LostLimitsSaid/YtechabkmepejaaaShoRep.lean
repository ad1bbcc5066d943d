/-
  The program's slices.Repeat of one word. Condition: at most 16000 times.
-/
import Derived.Test.YtechabkmepejaaaShoBef
import Derived.Test.YtechabkmepejaaaShelf
import Derived.Laws.CopyOwn
import Derived.Deep.RegionLaw
import Derived.Deep.OwnRows
import Derived.StillTailTactics
namespace Go.Proofs.Ytechabkmepejaaa
open Go.RowKit
namespace Sh
open Cm Sc
/-- The first m of n cells are as asked, the others as they were made. -/
def repL (m n : Nat) (x : Int) : List Value := List.replicate m (.int .u64 x) ++ List.replicate (n - m) (.int .u64 0)
theorem repL_len {m n : Nat} {x : Int} (h : m ≤ n) : (repL m n x).length = n := by simp [repL]; omega
theorem repL_splice {m k n : Nat} {x : Int} (h : m + k ≤ n) : splice (repL m n x) m (List.replicate k (.int .u64 x)) = repL (m + k) n x := by
  unfold splice repL
  rw [List.take_append_of_le_length (by simp), List.take_of_length_le (by simp), List.length_replicate, List.drop_append, List.drop_of_length_le (by simp), List.nil_append, List.length_replicate, List.drop_replicate, ← List.append_assoc, List.replicate_append_replicate]
  congr 2
  omega
theorem repL_cell {w : World} {G m n : Nat} {x : Int} (h : w.heap[G]? = some (.cells (repL m n x).toArray tU (0, 0))) {j : Nat} (hj : j < m) : w.cell? ⟨G, j, none⟩ = some (.int .u64 x) := by
  simp only [World.cell?, h]
  simp [repL, List.getElem?_append, hj]
theorem lt_some {w : World} {b i : Nat} {v : Value} (h : w.cell? ⟨b, i, none⟩ = some v) : b < w.heap.size := Tx.cell_lt h
theorem src_rep {w : World} {b o k : Nat} {y : Value} (h : ∀ j, j < k → w.cell? ⟨b, o + j, none⟩ = some y) : ∀ j v, (List.replicate k y)[j]? = some v → w.cell? ((⟨b, o, none⟩ : Addr).add j) = some v := fun j v hv => by
  rw [List.getElem?_replicate] at hv
  by_cases hj : j < k
  · rw [if_pos hj] at hv
    have := Option.some.inj hv
    subst this
    have h2 := h j hj
    unfold Addr.add
    by_cases h0 : j = 0
    · subst h0; rw [if_pos rfl]; exact h2
    · rw [if_neg h0]; exact h2
  · rw [if_neg hj] at hv; cases hv
theorem copy_rep {ops : Array Oper} {rest : List Oper} {o : Oper} {a : Act} {Q : Exit → Act → World → Prop} {w : World} (hgd : o.guard = none) (d s : Operand) (ho : o.op = .call { callee := .builtin .copy, args := #[d, s], argTypes := #[72, 72] })
    (G m n k dLen dCap b p sLen sCap : Nat) (x : Int) (hd : a.eval d = .slice (some ⟨G, m, none⟩) dLen dCap) (hs : a.eval s = .slice (some ⟨b, p, none⟩) sLen sCap) (hk : k = Nat.min sLen dLen) (hsrc : ∀ j, j < k → w.cell? ⟨b, p + j, none⟩ = some (.int .u64 x)) (hfit : m + k ≤ n)
    (hg : w.heap[G]? = some (.cells (repL m n x).toArray tU (0, 0))) (B : Nat) (w0 : World) (hb : Below B w0 w) (hBg : B ≤ G)
    (h : ∀ w', Hid (w'.heap[G]? = some (.cells (repL (m + k) n x).toArray tU (0, 0))) → Below B w0 w' → wpList Try.prog ops Q rest (a.put o.dst (.int .i64 (k : Int))) w') : wpList Try.prog ops Q (o :: rest) a w := by
  refine wpList_copy_splice hgd d s _ _ ho tU Try.underlying72 (by kernel_rfl) _ _ _ _ _ _ hd hs G m (repL m n x) tU hg (List.replicate k (.int .u64 x)) (by rw [List.length_replicate]; exact hk) (fun _ => ⟨rfl, _, rfl, src_rep hsrc⟩) (by rw [repL_len (by omega), List.length_replicate]; exact hfit) (fun v hv => by rw [List.eq_of_mem_replicate hv]; rfl) B w0 hb hBg ?_
  intro w' h1 h2
  rw [repL_splice hfit] at h1
  rw [List.length_replicate]
  exact h w' h1 h2
theorem step_rep {ops : Array Oper} {o : Oper} {a : Act} {Q : Exit → Act → World → Prop} {K : Act → World → Prop} {E : Prop} {w : World} (hgd : o.guard = none) (d s : Operand) (ho : o.op = .call { callee := .builtin .copy, args := #[d, s], argTypes := #[72, 72] })
    (G m n k dLen dCap b p sLen sCap : Nat) (x : Int) (hd : a.eval d = .slice (some ⟨G, m, none⟩) dLen dCap) (hs : a.eval s = .slice (some ⟨b, p, none⟩) sLen sCap) (hk : k = Nat.min sLen dLen) (hsrc : ∀ j, j < k → w.cell? ⟨b, p + j, none⟩ = some (.int .u64 x)) (hfit : m + k ≤ n)
    (hg : w.heap[G]? = some (.cells (repL m n x).toArray tU (0, 0))) (B : Nat) (w0 : World) (hb : Below B w0 w) (hBg : B ≤ G)
    (h : ∀ w', Hid (w'.heap[G]? = some (.cells (repL (m + k) n x).toArray tU (0, 0))) → Below B w0 w' → K (a.put o.dst (.int .i64 (k : Int))) w') : if Region.wanted o (yielded ops a.tmps) = true then Oper.wp Try.prog o a w K Q else E := by
  refine step_copy_splice hgd d s _ _ ho tU Try.underlying72 (by kernel_rfl) _ _ _ _ _ _ hd hs G m (repL m n x) tU hg (List.replicate k (.int .u64 x)) (by rw [List.length_replicate]; exact hk) (fun _ => ⟨rfl, _, rfl, src_rep hsrc⟩) (by rw [repL_len (by omega), List.length_replicate]; exact hfit) (fun v hv => by rw [List.eq_of_mem_replicate hv]; rfl) B w0 hb hBg ?_
  intro w' h1 h2
  rw [repL_splice hfit] at h1
  rw [List.length_replicate]
  exact h w' h1 h2
def RepPost (n : Nat) (x : Int) (w : World) (e : Ending) (w' : World) : Prop :=
  ∃ G, e = .returned (.slice (some ⟨G, 0, none⟩) n n) ∧ w.heap.size ≤ G ∧ w'.heap[G]? = some (.cells (List.replicate n (.int .u64 x)).toArray tU (0, 0)) ∧ Below w.heap.size w w'
set_option maxRecDepth 100000 in
set_option maxHeartbeats 2000000 in
theorem Repeat_any (b c n : Nat) (x : Int) (w : World) (hx : w.cell? ⟨b, 0, none⟩ = some (.int .u64 x)) (h1 : 1 ≤ n) (h2 : n ≤ 16000) : Calls Try.prog 38 #[.slice (some ⟨b, 0, none⟩) 1 c, .int .i64 n] w (RepPost n x w) := by
  have HX := Lib.hid hx
  have d1 : decide ((n : Int) < 0) = false := by simp only [decide_eq_false_iff_not]; omega
  have w1 : IntKind.u64.wrap (n : Int) = (n : Int) := by rw [IntWalk.u64_in _ (by omega)]
  have w2 : IntKind.i64.wrap (n : Int) = (n : Int) := by rw [IntWalk.i64_in _ (by omega)]
  have m1 : (((1 * n / 18446744073709551616 : Nat) : Nat) : Int) = 0 := by rw [Nat.one_mul, Nat.div_eq_of_lt (by omega)]; rfl
  have m2 : (((1 * n % 18446744073709551616 : Nat) : Nat) : Int) = (n : Int) := by rw [Nat.one_mul, Nat.mod_eq_of_lt (by omega)]
  have HM : Hid (∀ W, Calls Try.prog 44 #[.int .u64 1, .int .u64 (n : Int)] W fun e w' => e = .returned (.tuple #[.int .u64 0, .int .u64 (n : Int)]) ∧ w' = W) := Lib.hid (fun W => (Try.bits_Mul 1 n (by omega) (by omega) W).mono fun e w' h => by rw [m1, m2] at h; exact h)
  clear hx m1 m2
  go_enter Try.func38, Try.ntmps38
  go_upto_region 6 with (go_at_call 44; refine (HM.out _).mono ?_; rintro e w5 ⟨rfl, rfl⟩)
  clear HM d1 w1
  have hlt5 := lt_some HX.out
  go_upto_region 7 with (first
    | (refine mk_row rfl (.tmp 29) (.tmp 29) rfl Try.underlying72 info_u rfl (by omega) n rfl rfl (by omega) ?_; intro w3 hr3 _ hb3; have HR3 : Hid (w3.heap[w5.heap.size]? = some (.cells (repL 0 n x).toArray tU (0, 0))) := hr3; have HB3 := Lib.hid hb3; have HX3 := Lib.hid ((hb3.cell (p := ⟨b, 0, none⟩) (Tx.cell_lt HX.out)).trans HX.out); clear hr3 hb3))
  have hm1 : Hid (1 = Nat.min 1 n) := Lib.hid (Nat.min_eq_left h1).symm
  go_upto_region 8 with (refine copy_rep rfl (.tmp 31) (.tmp 32) rfl w5.heap.size 0 n 1 n n b 0 1 c x rfl rfl hm1.out (fun j hj => (by obtain rfl : j = 0 := (by omega); exact HX3.out)) (by omega) HR3.out w5.heap.size w5 HB3.out (Nat.le_refl _) ?_; intro w4 hr4 hb4; have HR4 := hr4; have HB4 := Lib.hid hb4; clear hr4 hb4)
  have HX4 := HX3
  clear HR3 HB3 HX3 hm1
  go_wp2_with fail
  go_loopw [8] (fun i wr => ∃ m : Nat, 1 ≤ m ∧ m ≤ n ∧ i = .int .i64 (m : Int) ∧ Hid (wr.heap[w5.heap.size]? = some (.cells (repL m n x).toArray tU (0, 0))) ∧ Hid (Below w5.heap.size w5 wr)) (fun i _ => n - (intOf i).toNat)
  case atStart => exact ⟨1, Nat.le_refl _, h1, by go_num, HR4, HB4⟩
  case round =>
    clear HR4 HB4 HX4
    obtain ⟨m, hm1, hm2, rfl, HR, HB⟩ := hrel
    by_cases hlt : m < n
    · have hd : decide (m < n) = true := by simpa using hlt
      obtain ⟨k, hk⟩ : ∃ k, k = Nat.min m (n - m) := ⟨_, rfl⟩
      have HKm := Lib.hid hk
      have hkl : k ≤ n - m := by rw [hk]; exact Nat.min_le_right _ _
      have hkp : 1 ≤ k := by rw [hk]; exact Nat.le_min.2 ⟨hm1, by omega⟩
      have hkm : k ≤ m := by rw [hk]; exact Nat.min_le_left _ _
      clear hk
      have HSrc : Hid (∀ j, j < k → wr.drew.cell? ⟨w5.heap.size, 0 + j, none⟩ = some (.int .u64 x)) := Lib.hid (fun j hj => by
        rw [World.cell?_drew, Nat.zero_add]; exact repL_cell HR.out (by omega))
      have i0 : (0 : Int) ≤ (m : Int) := by omega
      have i1 : (m : Int) < (n : Int) := by omega
      have i2 : (m : Int) ≤ (n : Int) := by omega
      go_upto_region 9 with fail
      have hne : ¬ n = m := by omega
      have hwr : IntKind.i64.wrap ((m : Int) + (k : Int)) = ((m + k : Nat) : Int) := by rw [IntWalk.i64_in _ (by omega)]; omega
      go_region_law (refine step_rep rfl (.tmp 41) (.tmp 44) rfl w5.heap.size m n k (n - m) (n - m) w5.heap.size 0 m n x (by simp [go_sem]) (by simp [go_sem]) HKm.out HSrc.out (by omega) HR.out w5.heap.size w5 HB.out.drew (Nat.le_refl _) ?_; intro w6 hr6 hb6; have HR6 := hr6; have HB6 := Lib.hid hb6; clear hr6 hb6)
      go_simp
      go_wp2_with fail
      go_roundw
      case rel => exact ⟨m + k, by omega, by omega, by go_num, HR6, HB6⟩
      case measure => simp [intOf]; omega
    · obtain rfl : m = n := by omega
      have hd : decide (m < m) = false := by simp
      go_wp2_with fail
      go_ret
      refine ⟨_, rfl, Nat.le_refl _, ?_, HB.out⟩
      have h := HR.out
      unfold repL at h
      rw [Nat.sub_self, List.replicate_zero, List.append_nil] at h
      exact h
set_option maxRecDepth 100000 in
set_option maxHeartbeats 2000000 in
theorem Repeat_zero (b c : Nat) (x : Int) (w : World) (hx : w.cell? ⟨b, 0, none⟩ = some (.int .u64 x)) : Calls Try.prog 38 #[.slice (some ⟨b, 0, none⟩) 1 c, .int .i64 0] w (RepPost 0 x w) := by
  have HX := Lib.hid hx
  have HM : Hid (∀ W, Calls Try.prog 44 #[.int .u64 1, .int .u64 0] W fun e w' => e = .returned (.tuple #[.int .u64 0, .int .u64 0]) ∧ w' = W) := Lib.hid (fun W => (Try.bits_Mul 1 0 (by omega) (by omega) W).mono fun e w' h => h)
  clear hx
  go_enter Try.func38, Try.ntmps38
  go_upto_region 6 with (go_at_call 44; refine (HM.out _).mono ?_; rintro e w5 ⟨rfl, rfl⟩)
  clear HM
  have hlt5 := lt_some HX.out
  go_upto_region 7 with (first
    | (refine mk_row rfl (.tmp 29) (.tmp 29) rfl Try.underlying72 info_u rfl (by omega) 0 rfl rfl (by omega) ?_; intro w3 hr3 _ hb3; have HR3 : Hid (w3.heap[w5.heap.size]? = some (.cells (repL 0 0 x).toArray tU (0, 0))) := hr3; have HB3 := Lib.hid hb3; have HX3 := Lib.hid ((hb3.cell (p := ⟨b, 0, none⟩) (Tx.cell_lt HX.out)).trans HX.out); clear hr3 hb3))
  have hm1 : Hid (0 = Nat.min 1 0) := Lib.hid rfl
  go_upto_region 8 with (refine copy_rep rfl (.tmp 31) (.tmp 32) rfl w5.heap.size 0 0 0 0 0 b 0 1 c x rfl rfl hm1.out (fun j hj => absurd hj (Nat.not_lt_zero _)) (by omega) HR3.out w5.heap.size w5 HB3.out (Nat.le_refl _) ?_; intro w4 hr4 hb4; have HR4 := hr4; have HB4 := Lib.hid hb4; clear hr4 hb4)
  clear HR3 HB3 HX3 hm1
  go_wp2_with fail
  refine wp_loop_rounds 1 ?_
  rw [rounds_succ]
  go_wp2_with fail
  go_ret
  exact ⟨_, rfl, Nat.le_refl _, HR4.out, HB4.out⟩
theorem Repeat_le (b c n : Nat) (x : Int) (w : World) (hx : w.cell? ⟨b, 0, none⟩ = some (.int .u64 x)) (h2 : n ≤ 16000) : Calls Try.prog 38 #[.slice (some ⟨b, 0, none⟩) 1 c, .int .i64 n] w (RepPost n x w) := by
  by_cases h : 1 ≤ n
  · exact Repeat_any b c n x w hx h h2
  · obtain rfl : n = 0 := by omega
    exact Repeat_zero b c x w hx
end Sh
end Go.Proofs.Ytechabkmepejaaa

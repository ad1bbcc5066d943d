/-
  The reference's Check: whether a list of nodes is valid. Condition: the lists' lengths.
-/
import Derived.Test.YtgadomcbaenodaaRegexRead
namespace Go.Proofs.Ytgadomcbaenodaa
open Go.RowKit
namespace Rx
open Cm
def fineF (n : Nd) : Bool :=
  if n.kind = 6 then decide (n.kids.length = 1) && decide (0 ≤ n.mn) && decide (n.mn ≤ 100) && (decide (n.mx = -1) || (decide (n.mn ≤ n.mx) && decide (n.mx ≤ 100)))
  else if n.kind = 4 ∨ n.kind = 5 then decide (2 ≤ n.kids.length)
  else decide (n.kids.length = 0) && decide (0 ≤ n.kind) && decide (n.kind ≤ 6)
def FineP (k : Int) (kn : Nat) (mn mx : Int) : Prop := (k = 6 ∧ kn = 1 ∧ 0 ≤ mn ∧ mn ≤ 100 ∧ (mx = -1 ∨ (mn ≤ mx ∧ mx ≤ 100))) ∨ ((k = 4 ∨ k = 5) ∧ 2 ≤ kn) ∨ (k ≠ 6 ∧ k ≠ 4 ∧ k ≠ 5 ∧ kn = 0 ∧ 0 ≤ k ∧ k ≤ 6)
theorem fine_iff (n : Nd) : fineF n = true ↔ FineP n.kind n.kids.length n.mn n.mx := by
  unfold fineF FineP
  by_cases k6 : n.kind = 6
  · rw [if_pos k6]; simp only [Bool.and_eq_true, Bool.or_eq_true, decide_eq_true_eq]; omega
  · rw [if_neg k6]
    by_cases k45 : n.kind = 4 ∨ n.kind = 5
    · rw [if_pos k45]; simp only [decide_eq_true_eq]; omega
    · rw [if_neg k45]; simp only [Bool.and_eq_true, decide_eq_true_eq]; omega
def kidsOk (i : Nat) (n : Nd) : Prop := ∀ k ∈ n.kids, 0 ≤ k ∧ k < (i : Int)
def NodeOk (i : Nat) (n : Nd) : Prop := kidsOk i n ∧ fineF n = true
def Valid (ns : List Nd) : Prop := 0 < ns.length ∧ ns.length ≤ 4000 ∧ ∀ k (h : k < ns.length), NodeOk k ns[k]
open Classical in
noncomputable def checkF (ns : List Nd) : Int := if Valid ns then 0 else 2
theorem check_T {ns : List Nd} (h : Valid ns) : checkF ns = 0 := by unfold checkF; rw [if_pos h]
theorem check_F {ns : List Nd} (h : ¬ Valid ns) : checkF ns = 2 := by unfold checkF; rw [if_neg h]
theorem any_new (w : World) (C : Array Value) (t : TypeId) : ∀ (i : Nat) (u : Value), C[i]? = some u → (w.alloc (.cells C t)).cell? ⟨w.heap.size, i, none⟩ = some u := fun i u h => by rw [World.cell?_alloc_mark]; exact h
set_option maxRecDepth 100000 in
set_option maxHeartbeats 8000000 in
theorem CheckR_any (v : Value) (ns : List Nd) (w : World) (h : RdN w v ns) (hl : ns.length ≤ 4611686018427387904) (hk : ∀ n ∈ ns, n.kids.length ≤ 4611686018427387904) :
    Calls Try.prog 12 #[v] w fun e w' => e = .returned (.int .i64 (checkF ns)) ∧ Below w.heap.size w w' := by
  obtain ⟨A, c, rfl, hA⟩ := h
  have HA := Lib.hid hA
  have HK := Lib.hid hk
  have HV : Hid (Valid ns ↔ (0 < ns.length ∧ ns.length ≤ 4000 ∧ ∀ k (h : k < ns.length), NodeOk k ns[k])) := Lib.hid Iff.rfl
  have HT := Lib.hid (fun (h : Valid ns) => check_T h)
  have HF := Lib.hid (fun (h : ¬ Valid ns) => check_F h)
  clear hA hk
  generalize hn : ns.length = n at hl ⊢
  have HN := Lib.hid hn
  clear hn
  by_cases hz : n = 0
  · have HR : Hid (checkF ns = 2) := Lib.hid (HF.out (fun hv => by have := (HV.out.1 hv).1; rw [HN.out] at this; omega))
    subst hz
    go_enter Try.func12, Try.ntmps12
    go_wp2_with fail
    go_ret
    exact ⟨by rw [HR.out]; rfl, Below.refl _ _⟩
  have e0 : ((n : Int) == 0) = false := by rw [beq_eq_false_iff_ne]; omega
  by_cases hbig : (4000 : Int) < (n : Int)
  · have HR : Hid (checkF ns = 2) := Lib.hid (HF.out (fun hv => by have := (HV.out.1 hv).2.1; rw [HN.out] at this; omega))
    go_enter Try.func12, Try.ntmps12
    go_wp2_with fail
    go_ret
    exact ⟨by rw [HR.out]; rfl, Below.refl _ _⟩
  go_enter Try.func12, Try.ntmps12
  go_wp2_with fail
  go_loopw [3] (fun i wr => ∃ j : Nat, j ≤ n ∧ i = .int .i64 j ∧ Hid (∀ k (h : k < ns.length), k < j → NodeOk k ns[k]) ∧ Below w.heap.size w wr) (fun i _ => n - (intOf i).toNat)
  case atStart => exact ⟨0, Nat.zero_le _, rfl, Lib.hid (fun k _ h => absurd h (Nat.not_lt_zero _)), Below.refl _ _⟩
  case round =>
    obtain ⟨j, hj, rfl, HO, hnx⟩ := hrel
    by_cases hlt : j < n
    · have hx : j < ns.length := by rw [HN.out]; exact hlt
      obtain ⟨b, off, rfl, hA1⟩ := HA.out (by omega)
      have hat := (hA1 j hx).below hnx
      have hkl := HK.out _ (List.getElem_mem hx)
      have HNo : Hid (¬ NodeOk j ns[j] → checkF ns = 2) := Lib.hid (fun hno => HF.out (fun hv => hno ((HV.out.1 hv).2.2 j hx)))
      have HYes : Hid (NodeOk j ns[j] → ∀ k (h : k < ns.length), k < j + 1 → NodeOk k ns[k]) := Lib.hid (fun hy k hk1 hk2 => by
        by_cases hkj : k < j
        · exact HO.out k hk1 hkj
        · have : k = j := by omega
          subst this; exact hy)
      clear hA1
      generalize ns[j] = nd at hat hkl HNo HYes
      obtain ⟨kv, p0, p1, p2, p3, p4, p5, p6, p7, rk⟩ := hat
      obtain ⟨Ak, ck, hke⟩ := rk.form
      rw [intsV_len] at hke
      subst hke
      have HKids : Hid (∀ q (h : q < nd.kids.length), ∃ b2 o2, Ak = some ⟨b2, o2, none⟩ ∧ b2 < wr.heap.size ∧ wr.cell? ⟨b2, o2 + q, none⟩ = some (.int .i64 nd.kids[q])) := Lib.hid (fun q hq => by
        obtain ⟨_, b2, o2, e, hc⟩ := rk.at (by rw [intsV_len]; omega)
        have h2 := hc q (by rw [intsV_len]; exact hq)
        exact ⟨b2, o2, e, Tx.cell_lt h2, by rw [h2]; simp [intsV]⟩)
      clear rk
      generalize hkn : nd.kids.length = kn at p7 hkl
      have HKn := Lib.hid hkn
      clear hkn
      generalize word nd.set 0 = x0 at p1
      generalize word nd.set 1 = x1 at p2
      generalize word nd.set 2 = x2 at p3
      generalize word nd.set 3 = x3 at p4
      have i1 : (0 : Int) ≤ (j : Int) := by omega
      have i2 : (j : Int) < (n : Int) := by omega
      go_wp2_with fail
      have m0 := any_new wr #[Value.int .i64 nd.kind, .int .u64 x0, .int .u64 x1, .int .u64 x2, .int .u64 x3, .int .i64 nd.mn, .int .i64 nd.mx, .slice Ak kn ck] tNode
      have HKids2 : Hid (∀ q (h : q < nd.kids.length), ∃ b2 o2, Ak = some ⟨b2, o2, none⟩ ∧ (wr.alloc (Obj.cells #[Value.int .i64 nd.kind, .int .u64 x0, .int .u64 x1, .int .u64 x2, .int .u64 x3, .int .i64 nd.mn, .int .i64 nd.mx, .slice Ak kn ck] tNode)).cell? ⟨b2, o2 + q, none⟩ = some (.int .i64 nd.kids[q])) := Lib.hid (fun q hq => by
        obtain ⟨b2, o2, e, h1, h2⟩ := HKids.out q hq
        exact ⟨b2, o2, e, by rw [← h2]; exact World.cell?_of_block (Below.heap_alloc wr _ b2 h1)⟩)
      have HB2 := Lib.hid (hnx.alloc hnx.size (Obj.cells #[Value.int .i64 nd.kind, .int .u64 x0, .int .u64 x1, .int .u64 x2, .int .u64 x3, .int .i64 nd.mn, .int .i64 nd.mx, .slice Ak kn ck] tNode))
      generalize wr.alloc (Obj.cells #[Value.int .i64 nd.kind, .int .u64 x0, .int .u64 x1, .int .u64 x2, .int .u64 x3, .int .i64 nd.mn, .int .i64 nd.mx, .slice Ak kn ck] tNode) = W at m0 HKids2 HB2 ⊢
      generalize wr.heap.size = H at m0 ⊢
      have r0 : W.cell? ⟨H, 0, none⟩ = some (.int .i64 nd.kind) := m0 0 _ rfl
      have r5 : W.cell? ⟨H, 5, none⟩ = some (.int .i64 nd.mn) := m0 5 _ rfl
      have r6 : W.cell? ⟨H, 6, none⟩ = some (.int .i64 nd.mx) := m0 6 _ rfl
      have r7 : W.cell? ⟨H, 7, none⟩ = some (.slice Ak kn ck) := m0 7 _ rfl
      clear m0 p0 p1 p2 p3 p4 p5 p6 p7 hnx HKids
      go_loop [5] (fun i => ∃ q : Nat, q ≤ kn ∧ i = .int .i64 q ∧ Hid (∀ k (h : k < nd.kids.length), k < q → 0 ≤ nd.kids[k] ∧ nd.kids[k] < (j : Int))) (fun i => kn - (intOf i).toNat)
      case atStart => exact ⟨0, Nat.zero_le _, rfl, Lib.hid (fun k _ h => absurd h (Nat.not_lt_zero _))⟩
      case round =>
        obtain ⟨q, hq, rfl, HQ⟩ := hrel
        by_cases hlt1 : q < kn
        · have hx1 : q < nd.kids.length := by rw [HKn.out]; exact hlt1
          obtain ⟨b2, o2, rfl, hc2⟩ := HKids2.out q hx1
          have j1 : (0 : Int) ≤ (q : Int) := by omega
          have j2 : (q : Int) < (kn : Int) := by omega
          have HBad : Hid (¬ (0 ≤ nd.kids[q] ∧ nd.kids[q] < (j : Int)) → checkF ns = 2) := Lib.hid (fun hb => HNo.out (fun hy => hb (hy.1 _ (List.getElem_mem hx1))))
          have HGood : Hid (0 ≤ nd.kids[q] ∧ nd.kids[q] < (j : Int) → ∀ k (h : k < nd.kids.length), k < q + 1 → 0 ≤ nd.kids[k] ∧ nd.kids[k] < (j : Int)) := Lib.hid (fun hg k hk1 hk2 => by
            by_cases hkq : k < q
            · exact HQ.out k hk1 hkq
            · have : k = q := by omega
              subst this; exact hg)
          generalize nd.kids[q] = z at hc2 HBad HGood
          by_cases hz0 : z < 0
          · have HR := Lib.hid (HBad.out (by omega))
            go_wp2_with fail
            go_ret
            exact ⟨by rw [HR.out]; rfl, HB2.out⟩
          · by_cases hz1 : (j : Int) ≤ z
            · have HR := Lib.hid (HBad.out (by omega))
              go_wp2_with fail
              go_ret
              exact ⟨by rw [HR.out]; rfl, HB2.out⟩
            · have HG := Lib.hid (HGood.out ⟨by omega, by omega⟩)
              have d0 : decide (z < 0) = false := by simp only [decide_eq_false_iff_not]; omega
              have d1 : decide ((j : Int) ≤ z) = false := by simp only [decide_eq_false_iff_not]; omega
              go_wp2_with fail
              go_round
              case rel => exact ⟨q + 1, by omega, by go_num, HG⟩
              case measure => simp [intOf]; omega
        · have HKO : Hid (kidsOk j nd) := Lib.hid (fun k hk => by
            obtain ⟨i, hi, rfl⟩ := List.mem_iff_getElem.1 hk
            exact HQ.out i hi (by rw [HKn.out] at hi; omega))
          have dq : decide (q < kn) = false := by simp only [decide_eq_false_iff_not]; omega
          have HBad : Hid (¬ FineP nd.kind kn nd.mn nd.mx → checkF ns = 2) := Lib.hid (fun hf => HNo.out (fun hy => hf (by have := (fine_iff nd).1 hy.2; rw [HKn.out] at this; exact this)))
          have HGood : Hid (FineP nd.kind kn nd.mn nd.mx → ∀ k (h : k < ns.length), k < j + 1 → NodeOk k ns[k]) := Lib.hid (fun hf => HYes.out ⟨HKO.out, (fine_iff nd).2 (by rw [HKn.out]; exact hf)⟩)
          by_cases k6 : nd.kind = 6
          · by_cases c1 : kn = 1
            · by_cases c2 : nd.mn < 0
              · have HR := Lib.hid (HBad.out (by unfold FineP; omega))
                have t6 : (nd.kind == 6) = true := by rw [k6]; rfl
                have t1 : ((kn : Int) == 1) = true := by rw [c1]; rfl
                go_wp2_with fail
                go_ret
                exact ⟨by rw [HR.out]; rfl, HB2.out⟩
              by_cases c3 : 100 < nd.mn
              · have HR := Lib.hid (HBad.out (by unfold FineP; omega))
                have t6 : (nd.kind == 6) = true := by rw [k6]; rfl
                have t1 : ((kn : Int) == 1) = true := by rw [c1]; rfl
                have t2 : (0 : Int) ≤ nd.mn := by omega
                go_wp2_with fail
                go_ret
                exact ⟨by rw [HR.out]; rfl, HB2.out⟩
              by_cases c4 : nd.mx = -1
              · have HG := Lib.hid (HGood.out (by unfold FineP; omega))
                have t6 : (nd.kind == 6) = true := by rw [k6]; rfl
                have t1 : ((kn : Int) == 1) = true := by rw [c1]; rfl
                have t2 : (0 : Int) ≤ nd.mn := by omega
                have t3 : nd.mn ≤ 100 := by omega
                have t4 : (nd.mx == -1) = true := by rw [c4]; rfl
                go_wp2_with fail
                go_roundw
                case rel => exact ⟨j + 1, by omega, by go_num, HG, HB2.out⟩
                case measure => simp [intOf]; omega
              by_cases c5 : nd.mx < nd.mn
              · have HR := Lib.hid (HBad.out (by unfold FineP; omega))
                have t6 : (nd.kind == 6) = true := by rw [k6]; rfl
                have t1 : ((kn : Int) == 1) = true := by rw [c1]; rfl
                have t2 : (0 : Int) ≤ nd.mn := by omega
                have t3 : nd.mn ≤ 100 := by omega
                have t4 : (nd.mx == -1) = false := by rw [beq_eq_false_iff_ne]; exact c4
                go_wp2_with fail
                go_ret
                exact ⟨by rw [HR.out]; rfl, HB2.out⟩
              by_cases c6 : 100 < nd.mx
              · have HR := Lib.hid (HBad.out (by unfold FineP; omega))
                have t6 : (nd.kind == 6) = true := by rw [k6]; rfl
                have t1 : ((kn : Int) == 1) = true := by rw [c1]; rfl
                have t2 : (0 : Int) ≤ nd.mn := by omega
                have t3 : nd.mn ≤ 100 := by omega
                have t4 : (nd.mx == -1) = false := by rw [beq_eq_false_iff_ne]; exact c4
                have t5 : nd.mn ≤ nd.mx := by omega
                go_wp2_with fail
                go_ret
                exact ⟨by rw [HR.out]; rfl, HB2.out⟩
              have HG := Lib.hid (HGood.out (by unfold FineP; omega))
              have t6 : (nd.kind == 6) = true := by rw [k6]; rfl
              have t1 : ((kn : Int) == 1) = true := by rw [c1]; rfl
              have t2 : (0 : Int) ≤ nd.mn := by omega
              have t3 : nd.mn ≤ 100 := by omega
              have t4 : (nd.mx == -1) = false := by rw [beq_eq_false_iff_ne]; exact c4
              have t5 : nd.mn ≤ nd.mx := by omega
              have t7 : nd.mx ≤ 100 := by omega
              go_wp2_with fail
              go_roundw
              case rel => exact ⟨j + 1, by omega, by go_num, HG, HB2.out⟩
              case measure => simp [intOf]; omega
            have HR := Lib.hid (HBad.out (by unfold FineP; omega))
            have t6 : (nd.kind == 6) = true := by rw [k6]; rfl
            have t1 : ((kn : Int) == 1) = false := by rw [beq_eq_false_iff_ne]; omega
            go_wp2_with fail
            go_ret
            exact ⟨by rw [HR.out]; rfl, HB2.out⟩
          by_cases k45 : nd.kind = 4 ∨ nd.kind = 5
          · rcases k45 with k4 | k5
            · by_cases c1 : (2 : Int) ≤ (kn : Int)
              · have HG := Lib.hid (HGood.out (by unfold FineP; omega))
                have t6 : (nd.kind == 6) = false := by rw [beq_eq_false_iff_ne]; exact k6
                have t4 : (nd.kind == 4) = true := by rw [k4]; rfl
                have t8 : decide (nd.kind < 0) = false := by simp only [decide_eq_false_iff_not]; omega
                have t9 : decide (6 < nd.kind) = false := by simp only [decide_eq_false_iff_not]; omega
                go_wp2_with fail
                go_roundw
                case rel => exact ⟨j + 1, by omega, by go_num, HG, HB2.out⟩
                case measure => simp [intOf]; omega
              · have HR := Lib.hid (HBad.out (by unfold FineP; omega))
                have t6 : (nd.kind == 6) = false := by rw [beq_eq_false_iff_ne]; exact k6
                have t4 : (nd.kind == 4) = true := by rw [k4]; rfl
                have t7 : decide ((2 : Int) ≤ (kn : Int)) = false := by simp only [decide_eq_false_iff_not]; omega
                have t7' : decide (2 ≤ kn) = false := by simp only [decide_eq_false_iff_not]; omega
                go_wp2_with fail
                go_ret
                exact ⟨by rw [HR.out]; rfl, HB2.out⟩
            · by_cases c1 : (2 : Int) ≤ (kn : Int)
              · have HG := Lib.hid (HGood.out (by unfold FineP; omega))
                have t6 : (nd.kind == 6) = false := by rw [beq_eq_false_iff_ne]; exact k6
                have t4 : (nd.kind == 4) = false := by rw [k5]; rfl
                have t5 : (nd.kind == 5) = true := by rw [k5]; rfl
                have t8 : decide (nd.kind < 0) = false := by simp only [decide_eq_false_iff_not]; omega
                have t9 : decide (6 < nd.kind) = false := by simp only [decide_eq_false_iff_not]; omega
                go_wp2_with fail
                go_roundw
                case rel => exact ⟨j + 1, by omega, by go_num, HG, HB2.out⟩
                case measure => simp [intOf]; omega
              · have HR := Lib.hid (HBad.out (by unfold FineP; omega))
                have t6 : (nd.kind == 6) = false := by rw [beq_eq_false_iff_ne]; exact k6
                have t4 : (nd.kind == 4) = false := by rw [k5]; rfl
                have t5 : (nd.kind == 5) = true := by rw [k5]; rfl
                have t7 : decide ((2 : Int) ≤ (kn : Int)) = false := by simp only [decide_eq_false_iff_not]; omega
                have t7' : decide (2 ≤ kn) = false := by simp only [decide_eq_false_iff_not]; omega
                go_wp2_with fail
                go_ret
                exact ⟨by rw [HR.out]; rfl, HB2.out⟩
          by_cases c1 : kn = 0
          · by_cases c2 : nd.kind < 0
            · have HR := Lib.hid (HBad.out (by unfold FineP; omega))
              have t6 : (nd.kind == 6) = false := by rw [beq_eq_false_iff_ne]; exact k6
              have t4 : (nd.kind == 4) = false := by rw [beq_eq_false_iff_ne]; omega
              have t5 : (nd.kind == 5) = false := by rw [beq_eq_false_iff_ne]; omega
              have t1 : ((kn : Int) == 0) = true := by rw [c1]; rfl
              go_wp2_with fail
              go_ret
              exact ⟨by rw [HR.out]; rfl, HB2.out⟩
            by_cases c3 : 6 < nd.kind
            · have HR := Lib.hid (HBad.out (by unfold FineP; omega))
              have t6 : (nd.kind == 6) = false := by rw [beq_eq_false_iff_ne]; exact k6
              have t4 : (nd.kind == 4) = false := by rw [beq_eq_false_iff_ne]; omega
              have t5 : (nd.kind == 5) = false := by rw [beq_eq_false_iff_ne]; omega
              have t1 : ((kn : Int) == 0) = true := by rw [c1]; rfl
              have t2 : decide (nd.kind < 0) = false := by simp only [decide_eq_false_iff_not]; omega
              go_wp2_with fail
              go_ret
              exact ⟨by rw [HR.out]; rfl, HB2.out⟩
            have HG := Lib.hid (HGood.out (by unfold FineP; omega))
            have t6 : (nd.kind == 6) = false := by rw [beq_eq_false_iff_ne]; exact k6
            have t4 : (nd.kind == 4) = false := by rw [beq_eq_false_iff_ne]; omega
            have t5 : (nd.kind == 5) = false := by rw [beq_eq_false_iff_ne]; omega
            have t1 : ((kn : Int) == 0) = true := by rw [c1]; rfl
            have t2 : decide (nd.kind < 0) = false := by simp only [decide_eq_false_iff_not]; omega
            have t3 : decide (6 < nd.kind) = false := by simp only [decide_eq_false_iff_not]; omega
            go_wp2_with fail
            go_roundw
            case rel => exact ⟨j + 1, by omega, by go_num, HG, HB2.out⟩
            case measure => simp [intOf]; omega
          have HR := Lib.hid (HBad.out (by unfold FineP; omega))
          have t6 : (nd.kind == 6) = false := by rw [beq_eq_false_iff_ne]; exact k6
          have t4 : (nd.kind == 4) = false := by rw [beq_eq_false_iff_ne]; omega
          have t5 : (nd.kind == 5) = false := by rw [beq_eq_false_iff_ne]; omega
          have t1 : ((kn : Int) == 0) = false := by rw [beq_eq_false_iff_ne]; omega
          go_wp2_with fail
          go_ret
          exact ⟨by rw [HR.out]; rfl, HB2.out⟩
    · have hd : decide (j < n) = false := by simp only [decide_eq_false_iff_not]; omega
      have HR : Hid (checkF ns = 0) := Lib.hid (HT.out (HV.out.2 ⟨by rw [HN.out]; omega, by rw [HN.out]; omega, fun k h => HO.out k h (by rw [HN.out] at h; omega)⟩))
      go_wp2_with fail
      go_ret
      exact ⟨by rw [HR.out]; rfl, hnx⟩
end Rx
end Go.Proofs.Ytgadomcbaenodaa

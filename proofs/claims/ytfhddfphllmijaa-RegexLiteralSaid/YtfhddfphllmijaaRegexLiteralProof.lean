/-
  Proved: the law RegexLiteral of layer 4 returns true for every string, and its argument reads as before. No conditions.
-/
import Derived.Test.YtfhddfphllmijaaRegexAwake
import Derived.Test.YtfhddfphllmijaaRegexFrame
import Derived.Test.YtfhddfphllmijaaRegexLitP
import Derived.Test.YtfhddfphllmijaaRegexLitV
import Derived.Test.YtfhddfphllmijaaRegexCk
namespace Go.Proofs.Ytfhddfphllmijaa
open Go.ChangeShapes Go.WideShapes Go.ChangeAt Go.RowKit
open Go.ChangeMaps (open_string shut_string)
namespace Px.RegexLiteral
open Cm Rx
theorem Parse_rd (s : ByteArray) (w : World) (hG : Glb w.heap.size w) {ns : List Nd} (hr : parseF (Tx.bs s) = .ok ns) : Calls Try.prog 11 #[.string s] w fun e w' =>
    ∃ v, e = .returned (.tuple #[v, .int .i64 0]) ∧ RdN w' v ns ∧ Below w.heap.size w w' :=
  (Parse_all s w hG).mono fun e w' h => by
    rw [hr] at h
    obtain ⟨v, ks, e1, e2, e3⟩ := h
    exact ⟨v, e1, RdN.of_own e2, e3⟩
theorem nodes_long {l : List UInt8} (h : l.length ≤ 100) : (nodesL l).length ≤ 101 := by
  rw [nodes_len]
  repeat' split
  all_goals omega
theorem cell_up {w w' : World} {b i : Nat} {u : Value} (h : Below w.drew.heap.size w.drew w') (hc : w.cell? ⟨b, i, none⟩ = some u) : w'.cell? ⟨b, i, none⟩ = some u := by
  have hc2 : w.drew.cell? ⟨b, i, none⟩ = some u := hc
  exact (h.cell (p := ⟨b, i, none⟩) (Tx.cell_lt hc2)).trans hc2
theorem cell_drewN {w : World} {p : Addr} {u : Value} (m : Nat) (hc : w.cell? p = some u) : (w.drewN m).cell? p = some u := by
  induction m generalizing w with
  | zero => exact hc
  | succ m ih => exact ih (w := w.drew) hc
theorem zero_set : setV noSet = .agg #[.int .u64 0, .int .u64 0, .int .u64 0, .int .u64 0] := by kernel_rfl
theorem put0 (x : UInt8) (w : World) : Calls Try.prog 24 #[.agg #[.int .u64 0, .int .u64 0, .int .u64 0, .int .u64 0], .int .u8 (x.toNat : Int)] w fun e w' =>
    e = .returned (.agg #[.int .u64 (word (putM noSet x.toNat) 0 : Nat), .int .u64 (word (putM noSet x.toNat) 1 : Nat), .int .u64 (word (putM noSet x.toNat) 2 : Nat), .int .u64 (word (putM noSet x.toNat) 3 : Nat)]) ∧ Below w.heap.size w w' := by
  have h := Put_any noSet x w
  rw [zero_set] at h
  exact h
theorem bs_at (s : ByteArray) (j : Nat) (_h : j < s.size) (h2 : j < (Tx.bs s).length) : (Tx.bs s)[j] = s[j] := by
  show s.data.toList[j]'_ = s.data[j]'_
  simp
theorem below_tr {w w1 w2 : World} (h : Below w.heap.size w w1) (hb : Below w1.heap.size w1 w2) : Below w.heap.size w w2 := h.trans (hb.mono h.size)
set_option maxRecDepth 100000 in
set_option maxHeartbeats 4000000 in
theorem walk_long (s : ByteArray) (w : World) (hG : Glb w.heap.size w) (hs : (60 : Int) < (s.size : Int)) :
    Calls Try.prog 7 #[.string s] w fun e w' => e = .returned (.bool true) ∧ Below w.heap.size w w' := by
  have HAw := Lib.hid (fun (wq : World) (hb : Below w.heap.size w wq) => awake_any wq (hG.self hb))
  clear hG
  go_enter Try.func7, Try.ntmps7
  go_wp2_with (go_at_call 14; refine (HAw.out _ (Below.refl _ _)).mono ?_; rintro e w9 ⟨rfl, B9⟩; have HB9 := Lib.hid (below_tr (Below.refl _ _) B9); clear B9)
  go_ret
  exact ⟨rfl, HB9.out⟩
set_option maxRecDepth 100000 in
set_option maxHeartbeats 4000000 in
theorem walk_zero (s : ByteArray) (w : World) (hG : Glb w.heap.size w) (_hs : s.size ≤ 60) (h0 : s.size = 0) :
    Calls Try.prog 7 #[.string s] w fun e w' => e = .returned (.bool true) ∧ Below w.heap.size w w' := by
  have HAw := Lib.hid (fun (wq : World) (hb : Below w.heap.size w wq) => awake_any wq (hG.self hb))
  have hbl := Tx.bs_len s
  have HLit := Lib.hid (Literal_any s w (by omega))
  have HPar := Lib.hid (fun (wq : World) (hb : Below w.heap.size w wq) => Parse_rd ⟨(litF (Tx.bs s)).toArray⟩ wq (hG.self hb) (ns := nodesL (Tx.bs s)) (by rw [bs_mk]; exact parse_lit _ (by omega)))
  have HCk := Lib.hid (fun (wq : World) (v : Value) (h : RdN wq v (nodesL (Tx.bs s))) => Check_any v _ wq h (Nat.le_trans (nodes_long (by omega)) (by decide)) (fun n hn => Nat.le_trans (nodes_kids (by omega) n hn) (by decide)))
  have HV : Hid (checkF (nodesL (Tx.bs s)) = 0) := Lib.hid (check_T (nodes_valid (by omega)))
  rw [HV.out] at HCk
  generalize (⟨(litF (Tx.bs s)).toArray⟩ : ByteArray) = lit at HLit HPar
  have t60 : decide ((60 : Int) < (s.size : Int)) = false := by simp only [decide_eq_false_iff_not]; omega
  have hNl : (nodesL (Tx.bs s)).length = 1 := by rw [nodes_len, if_pos (by omega)]
  have HN0 : Hid (nodesL (Tx.bs s) = [plainN 0]) := Lib.hid (by rw [List.length_eq_zero_iff.1 (by omega : (Tx.bs s).length = 0)]; rfl)
  have t0 : ((s.size : Int) == 0) = true := by rw [h0]; rfl
  have HNl := Lib.hid hNl
  clear hG HV hNl
  go_enter Try.func7, Try.ntmps7
  go_wp2_with fail
  refine HLit.out.mono ?_
  rintro e w1 ⟨rfl, B1⟩
  have HB1 := Lib.hid B1
  have HPar1 := Lib.hid (HPar.out w1 B1)
  clear B1
  go_wp2_with fail
  refine HPar1.out.mono ?_
  rintro e w2 ⟨v, rfl, hv, B2⟩
  have HB2 := Lib.hid (below_tr HB1.out B2)
  have HV2 := Lib.hid hv
  have HCk2 := Lib.hid (HCk.out w2 v hv)
  obtain ⟨A, c, rfl, _⟩ := hv
  clear B2
  rw [HNl.out] at HV2 HCk2 ⊢
  go_wp2_with fail
  refine HCk2.out.mono ?_
  rintro e w3 ⟨rfl, B3⟩
  have HB3 := Lib.hid (below_tr HB2.out B3)
  have HV3 := Lib.hid (HV2.out.below B3)
  clear B3
  obtain ⟨b, off, rfl, hnd⟩ : ∃ b off, A = some ⟨b, off, none⟩ ∧ NodeAt w3 b off (plainN 0) := by
    have h3 := HV3.out
    rw [HN0.out] at h3
    obtain ⟨A', c', e, h4⟩ := h3
    cases e
    obtain ⟨b, off, e, h5⟩ := h4 (by decide)
    exact ⟨b, off, e, h5 0 (by decide)⟩
  obtain ⟨kv, p0, _, _, _, _, _, _, _, _⟩ := hnd
  have p00 : w3.cell? ⟨b, off, none⟩ = some (.int .i64 0) := p0
  clear p0
  go_wp2_with (go_at_call 14; refine (HAw.out _ HB3.out).mono ?_; rintro e w9 ⟨rfl, B9⟩; have HB9 := Lib.hid (below_tr HB3.out B9); clear B9)
  go_ret
  exact ⟨rfl, HB9.out⟩
set_option maxRecDepth 100000 in
set_option maxHeartbeats 4000000 in
theorem walk_one (s : ByteArray) (w : World) (hG : Glb w.heap.size w) (_hs : s.size ≤ 60) (h1 : s.size = 1) :
    Calls Try.prog 7 #[.string s] w fun e w' => e = .returned (.bool true) ∧ Below w.heap.size w w' := by
  have HAw := Lib.hid (fun (wq : World) (hb : Below w.heap.size w wq) => awake_any wq (hG.self hb))
  have hbl := Tx.bs_len s
  have HLit := Lib.hid (Literal_any s w (by omega))
  have HPar := Lib.hid (fun (wq : World) (hb : Below w.heap.size w wq) => Parse_rd ⟨(litF (Tx.bs s)).toArray⟩ wq (hG.self hb) (ns := nodesL (Tx.bs s)) (by rw [bs_mk]; exact parse_lit _ (by omega)))
  have HCk := Lib.hid (fun (wq : World) (v : Value) (h : RdN wq v (nodesL (Tx.bs s))) => Check_any v _ wq h (Nat.le_trans (nodes_long (by omega)) (by decide)) (fun n hn => Nat.le_trans (nodes_kids (by omega) n hn) (by decide)))
  have HV : Hid (checkF (nodesL (Tx.bs s)) = 0) := Lib.hid (check_T (nodes_valid (by omega)))
  rw [HV.out] at HCk
  generalize (⟨(litF (Tx.bs s)).toArray⟩ : ByteArray) = lit at HLit HPar
  have t60 : decide ((60 : Int) < (s.size : Int)) = false := by simp only [decide_eq_false_iff_not]; omega
  have hNl : (nodesL (Tx.bs s)).length = s.size := by rw [nodes_len, if_neg (by omega), if_pos (by omega)]; omega
  have t0 : ((s.size : Int) == 0) = false := by rw [beq_eq_false_iff_ne]; omega
  have t1 : decide ((1 : Int) < (s.size : Int)) = false := by simp only [decide_eq_false_iff_not]; omega
  have t2 : ((s.size : Int) != (s.size : Int)) = false := by simp
  have h1a : s.size ≤ 1 := by omega
  have h1b : 1 ≤ s.size := by omega
  clear h1
  have HNl := Lib.hid hNl
  clear hG HV hNl
  go_enter Try.func7, Try.ntmps7
  go_wp2_with fail
  refine HLit.out.mono ?_
  rintro e w1 ⟨rfl, B1⟩
  have HB1 := Lib.hid B1
  have HPar1 := Lib.hid (HPar.out w1 B1)
  clear B1
  go_wp2_with fail
  refine HPar1.out.mono ?_
  rintro e w2 ⟨v, rfl, hv, B2⟩
  have HB2 := Lib.hid (below_tr HB1.out B2)
  have HV2 := Lib.hid hv
  have HCk2 := Lib.hid (HCk.out w2 v hv)
  obtain ⟨A, c, rfl, _⟩ := hv
  clear B2
  rw [HNl.out] at HV2 HCk2 ⊢
  go_wp2_with fail
  refine HCk2.out.mono ?_
  rintro e w3 ⟨rfl, B3⟩
  have HB3 := Lib.hid (below_tr HB2.out B3)
  have HV3 := Lib.hid (HV2.out.below B3)
  clear B3
  have HJ : Hid (∀ j (h : j < s.size), ∃ b off, A = some ⟨b, off, none⟩ ∧ NodeAt w3 b (off + j * 8) (setB s[j])) := Lib.hid (fun j h => by
    obtain ⟨A', c', e, h4⟩ := HV3.out
    have e1 : A = A' := by injection e
    subst e1
    have hjl : j < (nodesL (Tx.bs s)).length := by rw [HNl.out]; omega
    obtain ⟨b, off, e, h5⟩ := h4 (by omega)
    refine ⟨b, off, e, ?_⟩
    have h6 := h5 j hjl
    rw [nodes_get (by omega) hjl, bs_at s j h] at h6
    exact h6)
  go_wp2_with fail
  go_quiet (fail)
  have HB5 := HB3
  have HS5 : Hid (Below w3.heap.size w3 w3) := Lib.hid (Below.refl _ _)
  go_wp2_with fail
  go_loopw [6] (fun i wr => ∃ j : Nat, j ≤ s.size ∧ i = .int .i64 j ∧ Hid (Below w.heap.size w wr) ∧ Hid (Below w3.heap.size w3 wr)) (fun i _ => s.size - (intOf i).toNat)
  case atStart => exact ⟨0, Nat.zero_le _, rfl, Lib.hid (below_drewN HB3.out _), Lib.hid (below_drewN (Below.refl _ _) _)⟩
  case round =>
    obtain ⟨j, hj, rfl, HB, HS⟩ := hrel
    by_cases hlt : j < s.size
    · have i0 : (0 : Int) ≤ (j : Int) := by omega
      have i1 : (j : Int) < (s.size : Int) := by omega
      have i2 : (j : Int) < ((s.size : Nat) : Int) := by omega
      obtain ⟨b', off', e9, hat0⟩ := HJ.out j hlt
      subst e9
      obtain ⟨b, rfl⟩ : ∃ q, q = b' := ⟨_, rfl⟩
      obtain ⟨off, rfl⟩ : ∃ q, q = off' := ⟨_, rfl⟩
      have hat := hat0.below HS.out
      generalize hxx : s[j] = x at hat hat0
      have hxn : s[j].toNat = x.toNat := by rw [hxx]
      have HAt := Lib.hid hat
      obtain ⟨kv', p0, p1, p2, p3, p4, _, _, _, _⟩ := hat
      have r0 : wr.cell? ⟨b, off + j * 8, none⟩ = some (.int .i64 1) := p0
      have r1 : wr.cell? ⟨b, off + j * 8 + 1, none⟩ = some (.int .u64 (word (putM noSet x.toNat) 0 : Nat)) := p1
      have r2 : wr.cell? ⟨b, off + j * 8 + 2, none⟩ = some (.int .u64 (word (putM noSet x.toNat) 1 : Nat)) := p2
      have r3 : wr.cell? ⟨b, off + j * 8 + 3, none⟩ = some (.int .u64 (word (putM noSet x.toNat) 2 : Nat)) := p3
      have r4 : wr.cell? ⟨b, off + j * 8 + 4, none⟩ = some (.int .u64 (word (putM noSet x.toNat) 3 : Nat)) := p4
      have HPut := Lib.hid (fun wq => put0 x wq)
      clear p0 p1 p2 p3 p4 hat0 HAt
      generalize word (putM noSet x.toNat) 0 = x0 at r1 HPut
      generalize word (putM noSet x.toNat) 1 = x1 at r2 HPut
      generalize word (putM noSet x.toNat) 2 = x2 at r3 HPut
      generalize word (putM noSet x.toNat) 3 = x3 at r4 HPut
      have heq := equal_set (x0 : Int) (x1 : Int) (x2 : Int) (x3 : Int)
      have hgd := guard_set
      have HK : Hid (wr.cell? ⟨b, off + j * 8, none⟩ = some (.int .i64 1) ∧ wr.cell? ⟨b, off + j * 8 + 1, none⟩ = some (.int .u64 (x0 : Nat)) ∧ wr.cell? ⟨b, off + j * 8 + 2, none⟩ = some (.int .u64 (x1 : Nat)) ∧ wr.cell? ⟨b, off + j * 8 + 3, none⟩ = some (.int .u64 (x2 : Nat)) ∧ wr.cell? ⟨b, off + j * 8 + 4, none⟩ = some (.int .u64 (x3 : Nat))) := Lib.hid ⟨r0, r1, r2, r3, r4⟩
      clear r0 r1 r2 r3 r4
      go_wp2_with fail
      go_region_held3 (fun W => W.cell? ⟨b, off + j * 8, none⟩ = some (.int .i64 1) ∧ W.cell? ⟨b, off + j * 8 + 1, none⟩ = some (.int .u64 (x0 : Nat)) ∧ W.cell? ⟨b, off + j * 8 + 2, none⟩ = some (.int .u64 (x1 : Nat)) ∧ W.cell? ⟨b, off + j * 8 + 3, none⟩ = some (.int .u64 (x2 : Nat)) ∧ W.cell? ⟨b, off + j * 8 + 4, none⟩ = some (.int .u64 (x3 : Nat))) (first | exact HK6.out | exact HK.out)
        (first
        | (go_at_call 24; refine (HPut.out _).mono ?_; rintro e w6 ⟨rfl, B6⟩; have HK6 : Hid (w6.cell? ⟨b, off + j * 8, none⟩ = some (.int .i64 1) ∧ w6.cell? ⟨b, off + j * 8 + 1, none⟩ = some (.int .u64 (x0 : Nat)) ∧ w6.cell? ⟨b, off + j * 8 + 2, none⟩ = some (.int .u64 (x1 : Nat)) ∧ w6.cell? ⟨b, off + j * 8 + 3, none⟩ = some (.int .u64 (x2 : Nat)) ∧ w6.cell? ⟨b, off + j * 8 + 4, none⟩ = some (.int .u64 (x3 : Nat))) := Lib.hid ⟨cell_up B6 HK.out.1, cell_up B6 HK.out.2.1, cell_up B6 HK.out.2.2.1, cell_up B6 HK.out.2.2.2.1, cell_up B6 HK.out.2.2.2.2⟩; have HB6 := Lib.hid (below_tr HB.out (below_tr (Below.refl _ _).drew B6)); have HS6 := Lib.hid (below_tr HS.out (below_tr (Below.refl _ _).drew B6)); clear B6))
      go_wp2_with fail
      go_roundw
      case rel => exact ⟨j + 1, by omega, by go_num, HB6, HS6⟩
      case measure => simp [intOf]; omega
    · have hd : decide (j < s.size) = false := by simp only [decide_eq_false_iff_not]; omega
      go_wp2_with (go_at_call 14; refine (HAw.out _ HB.out).mono ?_; rintro e w9 ⟨rfl, B9⟩; have HB9 := Lib.hid (below_tr HB.out B9); clear B9)
      go_ret
      exact ⟨rfl, HB9.out⟩
set_option maxRecDepth 100000 in
set_option maxHeartbeats 4000000 in
theorem walk_many (s : ByteArray) (w : World) (hG : Glb w.heap.size w) (_hs : s.size ≤ 60) (h1 : 2 ≤ s.size) (N : Nat) (hN : N = s.size + 1) :
    Calls Try.prog 7 #[.string s] w fun e w' => e = .returned (.bool true) ∧ Below w.heap.size w w' := by
  have HAw := Lib.hid (fun (wq : World) (hb : Below w.heap.size w wq) => awake_any wq (hG.self hb))
  have hbl := Tx.bs_len s
  have HLit := Lib.hid (Literal_any s w (by omega))
  have HPar := Lib.hid (fun (wq : World) (hb : Below w.heap.size w wq) => Parse_rd ⟨(litF (Tx.bs s)).toArray⟩ wq (hG.self hb) (ns := nodesL (Tx.bs s)) (by rw [bs_mk]; exact parse_lit _ (by omega)))
  have HCk := Lib.hid (fun (wq : World) (v : Value) (h : RdN wq v (nodesL (Tx.bs s))) => Check_any v _ wq h (Nat.le_trans (nodes_long (by omega)) (by decide)) (fun n hn => Nat.le_trans (nodes_kids (by omega) n hn) (by decide)))
  have HV : Hid (checkF (nodesL (Tx.bs s)) = 0) := Lib.hid (check_T (nodes_valid (by omega)))
  rw [HV.out] at HCk
  generalize (⟨(litF (Tx.bs s)).toArray⟩ : ByteArray) = lit at HLit HPar
  have t60 : decide ((60 : Int) < (s.size : Int)) = false := by simp only [decide_eq_false_iff_not]; omega
  have hNl : (nodesL (Tx.bs s)).length = N := by rw [nodes_len, if_neg (by omega), if_neg (by omega)]; omega
  have t0 : ((s.size : Int) == 0) = false := by rw [beq_eq_false_iff_ne]; omega
  have t1 : (1 : Int) < (s.size : Int) := by omega
  have t2 : ((N : Int) != (s.size : Int) + 1) = false := by rw [hN]; simp
  have h1a : s.size + 1 ≤ N := by omega
  have h1b : N ≤ s.size + 1 := by omega
  clear hN
  have HNl := Lib.hid hNl
  clear hG HV hNl
  go_enter Try.func7, Try.ntmps7
  go_wp2_with fail
  refine HLit.out.mono ?_
  rintro e w1 ⟨rfl, B1⟩
  have HB1 := Lib.hid B1
  have HPar1 := Lib.hid (HPar.out w1 B1)
  clear B1
  go_wp2_with fail
  refine HPar1.out.mono ?_
  rintro e w2 ⟨v, rfl, hv, B2⟩
  have HB2 := Lib.hid (below_tr HB1.out B2)
  have HV2 := Lib.hid hv
  have HCk2 := Lib.hid (HCk.out w2 v hv)
  obtain ⟨A, c, rfl, _⟩ := hv
  clear B2
  rw [HNl.out] at HV2 HCk2 ⊢
  go_wp2_with fail
  refine HCk2.out.mono ?_
  rintro e w3 ⟨rfl, B3⟩
  have HB3 := Lib.hid (below_tr HB2.out B3)
  have HV3 := Lib.hid (HV2.out.below B3)
  clear B3
  have HJ : Hid (∀ j (h : j < s.size), ∃ b off, A = some ⟨b, off, none⟩ ∧ NodeAt w3 b (off + j * 8) (setB s[j])) := Lib.hid (fun j h => by
    obtain ⟨A', c', e, h4⟩ := HV3.out
    have e1 : A = A' := by injection e
    subst e1
    have hjl : j < (nodesL (Tx.bs s)).length := by rw [HNl.out]; omega
    obtain ⟨b, off, e, h5⟩ := h4 (by omega)
    refine ⟨b, off, e, ?_⟩
    have h6 := h5 j hjl
    rw [nodes_get (by omega) hjl, bs_at s j h] at h6
    exact h6)
  obtain ⟨b, off, rfl, hnd⟩ : ∃ b off, A = some ⟨b, off, none⟩ ∧ NodeAt w3 b (off + s.size * 8) (manyN 4 (upTo s.size)) := by
    obtain ⟨A', c', e, h4⟩ := HV3.out
    have e1 : A = A' := by injection e
    subst e1
    have hjl : (Tx.bs s).length < (nodesL (Tx.bs s)).length := by rw [HNl.out]; omega
    obtain ⟨b, off, e, h5⟩ := h4 (by omega)
    refine ⟨b, off, e, ?_⟩
    have h6 := h5 _ hjl
    rw [nodes_last (by omega) hjl, hbl] at h6
    exact h6
  have HNd := Lib.hid hnd
  obtain ⟨kv, p0, _, _, _, _, _, _, p7, rk⟩ := hnd
  have p00 : w3.cell? ⟨b, off + s.size * 8, none⟩ = some (.int .i64 4) := p0
  have HRk : Hid (RdV w3 kv (intsV (upTo s.size))) := Lib.hid rk
  have HCnt := Lib.hid (Count_any s.size w3 (by omega))
  have i0 : (0 : Int) ≤ (s.size : Int) := by omega
  have i1 : (s.size : Int) < (N : Int) := by omega
  obtain ⟨Ak, ck, hke⟩ := rk.form
  rw [intsV_len, show (manyN 4 (upTo s.size)).kids.length = s.size from upTo_len _] at hke
  subst hke
  have HK3 : Hid (w3.cell? ⟨b, off + s.size * 8, none⟩ = some (.int .i64 4) ∧ w3.cell? ⟨b, off + s.size * 8 + 7, none⟩ = some (.slice Ak s.size ck)) := Lib.hid ⟨p00, p7⟩
  have HCnt := Lib.hid (fun wq => Count_any s.size wq (by omega))
  clear p0 rk p00 p7
  go_wp2_with fail
  go_region_held3 (fun W => W.cell? ⟨b, off + s.size * 8, none⟩ = some (.int .i64 4) ∧ W.cell? ⟨b, off + s.size * 8 + 7, none⟩ = some (.slice Ak s.size ck)) (first | exact HK5.out | exact HK4.out | exact HK3.out)
    (first
    | (go_at_call 23; refine (HCnt.out _).mono ?_; rintro e w4 ⟨cv, rfl, hcv, B4⟩; have HK4 : Hid (w4.cell? ⟨b, off + s.size * 8, none⟩ = some (.int .i64 4) ∧ w4.cell? ⟨b, off + s.size * 8 + 7, none⟩ = some (.slice Ak s.size ck)) := Lib.hid ⟨cell_up B4 HK3.out.1, cell_up B4 HK3.out.2⟩; have HS4 : Hid (Below w3.heap.size w3 w4) := Lib.hid (below_tr (Below.refl _ _).drew B4); have HIn := Lib.hid (fun m => Ints_same (.slice Ak s.size ck) cv (upTo s.size) (w4.drewN m) (by rw [upTo_len]; omega) ((HRk.out.below HS4.out).drewN m) ((RdV.of_own hcv).drewN m)); clear B4 hcv)
    | (go_at_call 22; refine (HIn.out 0).mono ?_; rintro e w5 ⟨rfl, m5, rfl⟩; have HS5 : Hid (Below w3.heap.size w3 ((w4.drewN 0).drewN m5)) := Lib.hid (below_drewN (below_drewN HS4.out 0) m5); have HK5 : Hid (((w4.drewN 0).drewN m5).cell? ⟨b, off + s.size * 8, none⟩ = some (.int .i64 4) ∧ ((w4.drewN 0).drewN m5).cell? ⟨b, off + s.size * 8 + 7, none⟩ = some (.slice Ak s.size ck)) := Lib.hid ⟨cell_drewN m5 (cell_drewN 0 HK4.out.1), cell_drewN m5 (cell_drewN 0 HK4.out.2)⟩; generalize (w4.drewN 0).drewN m5 = w5 at HS5 HK5 ⊢))
  have HB5 := Lib.hid (below_tr HB3.out HS5.out)
  go_wp2_with fail
  go_loopw [6] (fun i wr => ∃ j : Nat, j ≤ s.size ∧ i = .int .i64 j ∧ Hid (Below w.heap.size w wr) ∧ Hid (Below w3.heap.size w3 wr)) (fun i _ => s.size - (intOf i).toNat)
  case atStart => exact ⟨0, Nat.zero_le _, rfl, HB5, HS5⟩
  case round =>
    obtain ⟨j, hj, rfl, HB, HS⟩ := hrel
    by_cases hlt : j < s.size
    · have i0 : (0 : Int) ≤ (j : Int) := by omega
      have i1 : (j : Int) < (s.size : Int) := by omega
      have i2 : (j : Int) < ((N : Nat) : Int) := by omega
      obtain ⟨b', off', e9, hat0⟩ := HJ.out j hlt
      have e8 : b = b' ∧ off = off' := by cases e9; exact ⟨rfl, rfl⟩
      obtain ⟨rfl, rfl⟩ := e8
      have hat := hat0.below HS.out
      generalize hxx : s[j] = x at hat hat0
      have hxn : s[j].toNat = x.toNat := by rw [hxx]
      have HAt := Lib.hid hat
      obtain ⟨kv', p0, p1, p2, p3, p4, _, _, _, _⟩ := hat
      have r0 : wr.cell? ⟨b, off + j * 8, none⟩ = some (.int .i64 1) := p0
      have r1 : wr.cell? ⟨b, off + j * 8 + 1, none⟩ = some (.int .u64 (word (putM noSet x.toNat) 0 : Nat)) := p1
      have r2 : wr.cell? ⟨b, off + j * 8 + 2, none⟩ = some (.int .u64 (word (putM noSet x.toNat) 1 : Nat)) := p2
      have r3 : wr.cell? ⟨b, off + j * 8 + 3, none⟩ = some (.int .u64 (word (putM noSet x.toNat) 2 : Nat)) := p3
      have r4 : wr.cell? ⟨b, off + j * 8 + 4, none⟩ = some (.int .u64 (word (putM noSet x.toNat) 3 : Nat)) := p4
      have HPut := Lib.hid (fun wq => put0 x wq)
      clear p0 p1 p2 p3 p4 hat0 HAt
      generalize word (putM noSet x.toNat) 0 = x0 at r1 HPut
      generalize word (putM noSet x.toNat) 1 = x1 at r2 HPut
      generalize word (putM noSet x.toNat) 2 = x2 at r3 HPut
      generalize word (putM noSet x.toNat) 3 = x3 at r4 HPut
      have heq := equal_set (x0 : Int) (x1 : Int) (x2 : Int) (x3 : Int)
      have hgd := guard_set
      have HK : Hid (wr.cell? ⟨b, off + j * 8, none⟩ = some (.int .i64 1) ∧ wr.cell? ⟨b, off + j * 8 + 1, none⟩ = some (.int .u64 (x0 : Nat)) ∧ wr.cell? ⟨b, off + j * 8 + 2, none⟩ = some (.int .u64 (x1 : Nat)) ∧ wr.cell? ⟨b, off + j * 8 + 3, none⟩ = some (.int .u64 (x2 : Nat)) ∧ wr.cell? ⟨b, off + j * 8 + 4, none⟩ = some (.int .u64 (x3 : Nat))) := Lib.hid ⟨r0, r1, r2, r3, r4⟩
      clear r0 r1 r2 r3 r4
      go_wp2_with fail
      go_region_held3 (fun W => W.cell? ⟨b, off + j * 8, none⟩ = some (.int .i64 1) ∧ W.cell? ⟨b, off + j * 8 + 1, none⟩ = some (.int .u64 (x0 : Nat)) ∧ W.cell? ⟨b, off + j * 8 + 2, none⟩ = some (.int .u64 (x1 : Nat)) ∧ W.cell? ⟨b, off + j * 8 + 3, none⟩ = some (.int .u64 (x2 : Nat)) ∧ W.cell? ⟨b, off + j * 8 + 4, none⟩ = some (.int .u64 (x3 : Nat))) (first | exact HK6.out | exact HK.out)
        (first
        | (go_at_call 24; refine (HPut.out _).mono ?_; rintro e w6 ⟨rfl, B6⟩; have HK6 : Hid (w6.cell? ⟨b, off + j * 8, none⟩ = some (.int .i64 1) ∧ w6.cell? ⟨b, off + j * 8 + 1, none⟩ = some (.int .u64 (x0 : Nat)) ∧ w6.cell? ⟨b, off + j * 8 + 2, none⟩ = some (.int .u64 (x1 : Nat)) ∧ w6.cell? ⟨b, off + j * 8 + 3, none⟩ = some (.int .u64 (x2 : Nat)) ∧ w6.cell? ⟨b, off + j * 8 + 4, none⟩ = some (.int .u64 (x3 : Nat))) := Lib.hid ⟨cell_up B6 HK.out.1, cell_up B6 HK.out.2.1, cell_up B6 HK.out.2.2.1, cell_up B6 HK.out.2.2.2.1, cell_up B6 HK.out.2.2.2.2⟩; have HB6 := Lib.hid (below_tr HB.out (below_tr (Below.refl _ _).drew B6)); have HS6 := Lib.hid (below_tr HS.out (below_tr (Below.refl _ _).drew B6)); clear B6))
      go_wp2_with fail
      go_roundw
      case rel => exact ⟨j + 1, by omega, by go_num, HB6, HS6⟩
      case measure => simp [intOf]; omega
    · have hd : decide (j < s.size) = false := by simp only [decide_eq_false_iff_not]; omega
      go_wp2_with (go_at_call 14; refine (HAw.out _ HB.out).mono ?_; rintro e w9 ⟨rfl, B9⟩; have HB9 := Lib.hid (below_tr HB.out B9); clear B9)
      go_ret
      exact ⟨rfl, HB9.out⟩
theorem walk (s : ByteArray) (w : World) (hG : Glb w.heap.size w) :
    Calls Try.prog 7 #[.string s] w fun e w' => e = .returned (.bool true) ∧ Below w.heap.size w w' := by
  by_cases h : s.size ≤ 60
  · by_cases h0 : s.size = 0
    · exact walk_zero s w hG h h0
    · by_cases h1 : s.size = 1
      · exact walk_one s w hG h h1
      · exact walk_many s w hG h (by omega) _ rfl
  · exact walk_long s w hG (by omega)
set_option maxRecDepth 100000 in
theorem lifted (os : Os) (started : os.Started) (H : Type) (enc : TypeId × Value → H) :
    ReturnsInHanded {} Try.checked os 7 .any (Rows.regexLiteralSpec.pre6 enc Try.prog Try.f7 Rows.regexLiteralRow.domain false) (Rows.regexLiteralSpec.post enc Try.prog Try.f7 false true false false) := by
  refine returnsInHanded_of_change_shaped (C := Try.checked) own started (by kernel_rfl) Try.func7
    (ChangeSpec.witness6 (enc := enc) (C := Try.checked) false ⟨#[], #[.string ⟨#[]⟩], []⟩ 8 (by kernel_rfl) (by kernel_rfl) (by kernel_rfl) (by kernel_rfl)) ?_
  intro W base args ds gs before hval0 hW _ _ hsh _
  have hval : ∀ (j : Nat) t v, Try.f7.params[j]? = some t → args[j]? = some v → Value.okWide Try.prog W .any base t v := hval0
  have hW' := hW
  obtain ⟨p, q, hA0, hV, rfl, hfz, hnd⟩ := hW
  have hA : DataW.TrodAll enc Try.prog W 0 (fun _ => true) true Try.f7.params.toList args.toList ds p := hA0
  rw [Try.params7] at hA hval
  obtain ⟨v0, d0, rfl, rfl, h0⟩ := trodAll_one hA
  obtain ⟨rfl, rfl⟩ := trodVars_none hV
  obtain ⟨s, rfl, rfl, rfl, ws⟩ := open_string Try.underlying9 (hval 0 9 v0 rfl rfl) h0
  clear hA0 hval0
  simp only [List.append_nil] at hW'
  refine (walk s W (glb_of hsh)).mono fun e W' ⟨he, hbel⟩ => ?_
  subst he
  exact ⟨_, rfl, _, _, _, [], _, [], hW', trodAll_mk1 (shut_bool Try.underlying4 _), trodAll_mk1 (shut_string Try.underlying9 ws), rfl, hbel.frame _, fun h => by cases h⟩
theorem row_holds : Rows.RegexLiteralSaid :=
  OpenClaim.holds_of_wide 7 Try.f7 rfl rfl rfl rfl rfl rfl rfl ⟨rfl, rfl, rfl, rfl, rfl⟩ rfl rfl rfl rfl rfl (by kernel_rfl) Try.func7 (by kernel_rfl)
    (of_decide_eq_true (by kernel_rfl)) (by unfold Func.isWrapper; first | (rw [if_pos (by decide +kernel)]; kernel_rfl) | (rw [if_neg (by decide +kernel)]; exact ⟨rfl, rfl⟩))
    (fun os started H enc _ => lifted os started H enc)
end Px.RegexLiteral
end Go.Proofs.Ytfhddfphllmijaa

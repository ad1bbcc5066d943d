/-
  Proved: the law RegexLimits of layer 4 returns true for every input, and its arguments read as before. No conditions.
-/
import Derived.Test.YtfhddfphllmijaaRegexAwake
import Derived.Test.YtfhddfphllmijaaTextPick
import Derived.Test.YtfhddfphllmijaaComBytes
import Derived.Test.YtfhddfphllmijaaRegexFrame
import Derived.Deep.OwnRows
import Derived.Deep.Cut
namespace Go.Proofs.Ytfhddfphllmijaa
open Go.ChangeShapes Go.WideShapes Go.ChangeAt Go.RowKit
open Go.ChangeMaps (open_string shut_string)
namespace Px.RegexLimits
open Cm Rx
def codeOf (r : Except Int (List Nd)) : Int := match r with | .error c => c | .ok _ => 0
theorem c1 : codeOf (parseF [97, 123, 48, 44, 49, 48, 48, 125]) = 0 := by kernel_rfl
theorem c2 : codeOf (parseF [97, 123, 49, 48, 49, 44, 125]) = 40 := by kernel_rfl
theorem deep49 : codeOf (parseF (List.replicate 49 40 ++ List.replicate 49 41)) = 0 := by kernel_rfl
theorem deep50 : codeOf (parseF (List.replicate 50 40 ++ List.replicate 50 41)) = 0 := by kernel_rfl
theorem deep51 : codeOf (parseF (List.replicate 51 40 ++ List.replicate 51 41)) = 1 := by kernel_rfl
theorem long255 : codeOf (parseF (List.replicate 255 97)) = 0 := by kernel_rfl
theorem long256 : codeOf (parseF (List.replicate 256 97)) = 0 := by kernel_rfl
theorem long257 : codeOf (parseF (List.replicate 257 97)) = 1 := by kernel_rfl
theorem Parse_code (x : ByteArray) (w : World) (hG : Glb w.heap.size w) {c : Int} (hc : codeOf (parseF (Tx.bs x)) = c) : Calls Try.prog 11 #[.string x] w fun e w' =>
    ∃ A n d, e = .returned (.tuple #[.slice A n d, .int .i64 c]) ∧ Below w.heap.size w w' :=
  (Parse_all x w hG).mono fun e w' h => by
    cases hr : parseF (Tx.bs x) with
    | error k =>
      rw [hr] at h hc
      obtain ⟨e1, e2⟩ := h
      exact ⟨none, 0, 0, by rw [e1, show k = c from hc], e2⟩
    | ok ns =>
      rw [hr] at h hc
      obtain ⟨v, ks, e1, e2, e3⟩ := h
      rcases e2.2.1.2 with ⟨rfl, _⟩ | ⟨g, cap, cur, rfl, _⟩
      · exact ⟨none, 0, 0, by rw [e1, ← hc]; rfl, e3⟩
      · exact ⟨_, _, cap, by rw [e1, ← hc]; rfl, e3⟩
/-- make of bytes. -/
theorem mk_row {ops : Array Oper} {rest : List Oper} {o : Oper} {a : Act} {Q : Exit → Act → World → Prop} {w : World} (hgd : o.guard = none) (l c : Operand) (ho : o.op = Op.makeSlice 35 l c)
    (n : Nat) (hl : a.eval l = .int .i64 (n : Int)) (hc : a.eval c = .int .i64 (n : Int)) (hn : n ≤ 2097152)
    (h : ∀ w', w'.rowIs w.heap.size 5 n (fun _ => .int .u8 0) → Below w.heap.size w w' → wpList Try.prog ops Q rest (a.put o.dst (.slice (some ⟨w.heap.size, 0, none⟩) n n)) w') : wpList Try.prog ops Q (o :: rest) a w := by
  obtain ⟨i0, hi0, hz0, hz1, hz2⟩ := info_parts info_byte
  exact wpList_make_row w hgd l c _ ho 5 i0 (.int .u8 0) Try.underlying35 hi0 hz0 hz1 rfl .i64 .i64 n hl hc (by rw [hz2]; omega) (by omega) (h _ (World.rowIs_made w _ n _) ((Below.refl _ w).alloc (Nat.le_refl _) _))
theorem addr_at {b off j : Nat} : (Addr.mk b off none).add j = ⟨b, off + j, none⟩ := by
  unfold Addr.add; split
  · rename_i h0; rw [h0]; rfl
  · rfl
theorem conv_row {w : World} {g n : Nat} {b : UInt8} (h : w.rowIs g 5 n (fun _ => .int .u8 (b.toNat : Int))) :
    (convert 35 9 (.slice (some ⟨g, 0, none⟩) n n)).run Try.prog w = .ok (.string ⟨(List.replicate n b).toArray⟩) w := by
  have := run_convert_bytes_back (P := Try.prog) w 35 9 5 ⟨g, 0, none⟩ n (List.replicate n b) Try.underlying35 Try.underlying5 Try.underlying9 (by
    intro j hj
    rw [List.length_replicate] at hj
    rw [addr_at, Nat.zero_add, h.cell hj, List.getElem_replicate])
  rw [List.length_replicate] at this
  exact this
theorem row_below {w w' : World} {g : Nat} {t : TypeId} {n : Nat} {f : Nat → Value} (h : w.rowIs g t n f) (hb : Below w.heap.size w w') : w'.rowIs g t n f := h.of_block (hb.block _ h.lt)
theorem bs_add (x y : ByteArray) : Tx.bs (x ++ y) = Tx.bs x ++ Tx.bs y := by
  show (x ++ y).data.toList = x.data.toList ++ y.data.toList
  rw [ByteArray.data_append]; simp
set_option maxRecDepth 100000 in
set_option maxHeartbeats 4000000 in
theorem walk_00 (n m : Int) (w : World) (hG : Glb w.heap.size w) (N M k1 k2 : Nat) (hn1 : -9223372036854775808 ≤ n) (hn2 : n ≤ 9223372036854775807) (hm1 : -9223372036854775808 ≤ m) (hm2 : m ≤ 9223372036854775807)
    (hk1 : Tx.modF n 3 = (k1 : Int)) (hk2 : Tx.modF m 3 = (k2 : Int)) (hN : (49 : Int) + (k1 : Int) = (N : Int)) (hM : (255 : Int) + (k2 : Int) = (M : Int)) (hN2 : N ≤ 51) (hM2 : M ≤ 257)
    (hcN : codeOf (parseF (List.replicate N 40 ++ List.replicate N 41)) = 0) (hcM : codeOf (parseF (List.replicate M 97)) = 0) (hc : ¬ 50 < N) (hd : ¬ 256 < M) :
    Calls Try.prog 5 #[.int .i64 n, .int .i64 m] w fun e w' => e = .returned (.bool true) ∧ Below w.heap.size w w' := by
  have HJ := Lib.hid hk1
  have HK := Lib.hid hk2
  have HMod1 := Lib.hid (fun w => Tx.Mod_any n 3 w (by omega) (by omega) hn1 hn2)
  have HMod2 := Lib.hid (fun w => Tx.Mod_any m 3 w (by omega) (by omega) hm1 hm2)
  have HP := Lib.hid (fun (wq : World) (hb : Below w.heap.size w wq) (x : ByteArray) (c : Int) (h : codeOf (parseF (Tx.bs x)) = c) => Parse_code x wq (hG.self hb) h)
  have HAw := Lib.hid (fun (wq : World) (hb : Below w.heap.size w wq) => awake_any wq (hG.self hb))
  have HcN := Lib.hid hcN
  have HcM := Lib.hid hcM
  clear hk1 hk2 hcN hcM hG
  go_enter Try.func5, Try.ntmps5
  go_wp2_with fail
  refine (HMod1.out _).mono ?_
  rintro e w1 ⟨rfl, rfl⟩
  rw [HJ.out]
  go_wp2_with fail
  go_loopw [5, 6] (fun sv i wr => ∃ (j : Nat) (x : ByteArray), j ≤ N ∧ i = .int .i64 j ∧ sv = .string x ∧ Hid (Tx.bs x = List.replicate j 40) ∧ x.size = j ∧ Hid (Below w.heap.size w wr)) (fun _ i _ => N - (intOf i).toNat)
  case atStart => exact ⟨0, _, Nat.zero_le _, rfl, rfl, Lib.hid rfl, rfl, Lib.hid (Below.refl _ _)⟩
  case round =>
    obtain ⟨j, x, hj, rfl, rfl, HX, hx, HB⟩ := hrel
    by_cases hlt : j < N
    · have hadd : x.size + 1 ≤ 9223372036854775807 := by omega
      go_wp2_with fail
      go_roundw
      case rel => exact ⟨j + 1, _, by omega, by go_num, rfl, Lib.hid (by rw [bs_add, HX.out, List.replicate_succ']), by rw [ByteArray.size_append, hx]; rfl, HB⟩
      case measure => simp [intOf]; omega
    · have hd1 : decide (j < N) = false := by simp only [decide_eq_false_iff_not]; omega
      have HX1 : Hid (Tx.bs x = List.replicate N 40 ++ List.replicate 0 41) := Lib.hid (by rw [HX.out, show j = N from by omega]; simp)
      have hxN : x.size = N := by omega
      clear HX hx hlt
      go_wp2_with fail
      clear hd1
      go_loopw [5, 7] (fun sv i wr => ∃ (j : Nat) (x : ByteArray), j ≤ N ∧ i = .int .i64 j ∧ sv = .string x ∧ Hid (Tx.bs x = List.replicate N 40 ++ List.replicate j 41) ∧ x.size = N + j ∧ Hid (Below w.heap.size w wr)) (fun _ i _ => N - (intOf i).toNat)
      case atStart => exact ⟨0, _, Nat.zero_le _, rfl, rfl, HX1, by omega, HB⟩
      case round =>
        obtain ⟨j, x, hj, rfl, rfl, HX, hx, HB⟩ := hrel
        by_cases hlt : j < N
        · have hadd : x.size + 1 ≤ 9223372036854775807 := by omega
          go_wp2_with fail
          go_roundw
          case rel => exact ⟨j + 1, _, by omega, by go_num, rfl, Lib.hid (by rw [bs_add, HX.out, List.replicate_succ', List.append_assoc]), by rw [ByteArray.size_append, hx]; rfl, HB⟩
          case measure => simp [intOf]; omega
        · have hd2 : decide (j < N) = false := by simp only [decide_eq_false_iff_not]; omega
          have HPx := Lib.hid (HP.out wr HB.out x 0 (by rw [HX.out, show j = N from by omega]; exact HcN.out))
          clear HX hx hlt
          go_wp2_with fail
          refine HPx.out.mono ?_
          rintro e w2 ⟨A1, l1, d1, rfl, B2⟩
          have HB2 := Lib.hid (HB.out.trans (B2.mono HB.out.size))
          clear B2
          go_wp2_with fail
          refine (HMod2.out _).mono ?_
          rintro e w3 ⟨rfl, rfl⟩
          rw [HK.out]
          have hsz2 := HB2.out.size
          go_wp2_with (refine mk_row rfl (.tmp 46) (.tmp 46) rfl M rfl rfl (by omega) ?_; intro w4 hr4 hb4; have HR4 := Lib.hid hr4; have HB4 := Lib.hid (HB2.out.trans (hb4.mono HB2.out.size)); clear hr4 hb4)
          go_loopw [12] (fun i wr => ∃ k : Nat, k ≤ M ∧ i = .int .i64 k ∧ Hid (wr.rowIs w2.heap.size 5 M (fun j => if j < k then .int .u8 97 else .int .u8 0)) ∧ Hid (Below w.heap.size w wr)) (fun i _ => M - (intOf i).toNat)
          case atStart => exact ⟨0, Nat.zero_le _, rfl, HR4, HB4⟩
          case round =>
            obtain ⟨k, hk, rfl, HR, HB5⟩ := hrel
            by_cases hlt : k < M
            · have hc0 := HR.out.cell (i := k) (by omega)
              have hf0 := HR.out.frozen k
              rw [if_neg (Nat.lt_irrefl k)] at hc0
              have HR2 : Hid ((wr.setCell ⟨w2.heap.size, k, none⟩ (.int .u8 97)).rowIs w2.heap.size 5 M (fun j => if j < k + 1 then .int .u8 97 else .int .u8 0)) := Lib.hid ((HR.out.set k (.int .u8 97)).congr (fun j _ => by
                by_cases e : j = k
                · rw [if_pos e, if_pos (by omega)]
                · rw [if_neg e]
                  by_cases e2 : j < k
                  · rw [if_pos e2, if_pos (by omega)]
                  · rw [if_neg e2, if_neg (by omega)]))
              go_wp2_with fail
              go_roundw
              case rel => exact ⟨k + 1, by omega, by go_num, HR2, Lib.hid (HB5.out.setCell (p := ⟨w2.heap.size, k, none⟩) hsz2 _)⟩
              case measure => simp [intOf]; omega
            · have hd3 : decide (k < M) = false := by simp only [decide_eq_false_iff_not]; omega
              have HRow : Hid (wr.rowIs w2.heap.size 5 M (fun _ => .int .u8 97)) := Lib.hid (HR.out.congr (fun j hj => by rw [if_pos (by omega)]))
              have hcv := conv_row (b := 97) HRow.out
              have HPt := Lib.hid (HP.out wr HB5.out ⟨(List.replicate M 97).toArray⟩ 0 (by rw [bs_mk]; exact HcM.out))
              clear HR hlt
              go_wp2_with fail
              refine HPt.out.mono ?_
              rintro e w6 ⟨A2, l2, d2, rfl, B6⟩
              have HB6 := Lib.hid (HB5.out.trans (B6.mono HB5.out.size))
              have HPu := Lib.hid (HP.out w6 HB6.out ⟨#[97, 123, 48, 44, 49, 48, 48, 125]⟩ 0 c1)
              clear B6
              go_wp2_with fail
              refine HPu.out.mono ?_
              rintro e w7 ⟨A3, l3, d3, rfl, B7⟩
              have HB7 := Lib.hid (HB6.out.trans (B7.mono HB6.out.size))
              have HPv := Lib.hid (HP.out w7 HB7.out ⟨#[97, 123, 49, 48, 49, 44, 125]⟩ 40 c2)
              clear B7
              go_wp2_with fail
              refine HPv.out.mono ?_
              rintro e w8 ⟨A4, l4, d4, rfl, B8⟩
              have HB8 := Lib.hid (HB7.out.trans (B8.mono HB7.out.size))
              have HAw8 := Lib.hid (HAw.out w8 HB8.out)
              clear B8
              go_wp2_with (go_at_call 14; refine HAw8.out.mono ?_; rintro e w9 ⟨rfl, B9⟩; have HB9 := Lib.hid (HB8.out.trans (B9.mono HB8.out.size)); clear B9)
              go_ret
              exact ⟨rfl, HB9.out⟩
set_option maxRecDepth 100000 in
set_option maxHeartbeats 4000000 in
theorem walk_01 (n m : Int) (w : World) (hG : Glb w.heap.size w) (N M k1 k2 : Nat) (hn1 : -9223372036854775808 ≤ n) (hn2 : n ≤ 9223372036854775807) (hm1 : -9223372036854775808 ≤ m) (hm2 : m ≤ 9223372036854775807)
    (hk1 : Tx.modF n 3 = (k1 : Int)) (hk2 : Tx.modF m 3 = (k2 : Int)) (hN : (49 : Int) + (k1 : Int) = (N : Int)) (hM : (255 : Int) + (k2 : Int) = (M : Int)) (hN2 : N ≤ 51) (hM2 : M ≤ 257)
    (hcN : codeOf (parseF (List.replicate N 40 ++ List.replicate N 41)) = 0) (hcM : codeOf (parseF (List.replicate M 97)) = 1) (hc : ¬ 50 < N) (hd : 256 < M) :
    Calls Try.prog 5 #[.int .i64 n, .int .i64 m] w fun e w' => e = .returned (.bool true) ∧ Below w.heap.size w w' := by
  have HJ := Lib.hid hk1
  have HK := Lib.hid hk2
  have HMod1 := Lib.hid (fun w => Tx.Mod_any n 3 w (by omega) (by omega) hn1 hn2)
  have HMod2 := Lib.hid (fun w => Tx.Mod_any m 3 w (by omega) (by omega) hm1 hm2)
  have HP := Lib.hid (fun (wq : World) (hb : Below w.heap.size w wq) (x : ByteArray) (c : Int) (h : codeOf (parseF (Tx.bs x)) = c) => Parse_code x wq (hG.self hb) h)
  have HAw := Lib.hid (fun (wq : World) (hb : Below w.heap.size w wq) => awake_any wq (hG.self hb))
  have HcN := Lib.hid hcN
  have HcM := Lib.hid hcM
  clear hk1 hk2 hcN hcM hG
  go_enter Try.func5, Try.ntmps5
  go_wp2_with fail
  refine (HMod1.out _).mono ?_
  rintro e w1 ⟨rfl, rfl⟩
  rw [HJ.out]
  go_wp2_with fail
  go_loopw [5, 6] (fun sv i wr => ∃ (j : Nat) (x : ByteArray), j ≤ N ∧ i = .int .i64 j ∧ sv = .string x ∧ Hid (Tx.bs x = List.replicate j 40) ∧ x.size = j ∧ Hid (Below w.heap.size w wr)) (fun _ i _ => N - (intOf i).toNat)
  case atStart => exact ⟨0, _, Nat.zero_le _, rfl, rfl, Lib.hid rfl, rfl, Lib.hid (Below.refl _ _)⟩
  case round =>
    obtain ⟨j, x, hj, rfl, rfl, HX, hx, HB⟩ := hrel
    by_cases hlt : j < N
    · have hadd : x.size + 1 ≤ 9223372036854775807 := by omega
      go_wp2_with fail
      go_roundw
      case rel => exact ⟨j + 1, _, by omega, by go_num, rfl, Lib.hid (by rw [bs_add, HX.out, List.replicate_succ']), by rw [ByteArray.size_append, hx]; rfl, HB⟩
      case measure => simp [intOf]; omega
    · have hd1 : decide (j < N) = false := by simp only [decide_eq_false_iff_not]; omega
      have HX1 : Hid (Tx.bs x = List.replicate N 40 ++ List.replicate 0 41) := Lib.hid (by rw [HX.out, show j = N from by omega]; simp)
      have hxN : x.size = N := by omega
      clear HX hx hlt
      go_wp2_with fail
      clear hd1
      go_loopw [5, 7] (fun sv i wr => ∃ (j : Nat) (x : ByteArray), j ≤ N ∧ i = .int .i64 j ∧ sv = .string x ∧ Hid (Tx.bs x = List.replicate N 40 ++ List.replicate j 41) ∧ x.size = N + j ∧ Hid (Below w.heap.size w wr)) (fun _ i _ => N - (intOf i).toNat)
      case atStart => exact ⟨0, _, Nat.zero_le _, rfl, rfl, HX1, by omega, HB⟩
      case round =>
        obtain ⟨j, x, hj, rfl, rfl, HX, hx, HB⟩ := hrel
        by_cases hlt : j < N
        · have hadd : x.size + 1 ≤ 9223372036854775807 := by omega
          go_wp2_with fail
          go_roundw
          case rel => exact ⟨j + 1, _, by omega, by go_num, rfl, Lib.hid (by rw [bs_add, HX.out, List.replicate_succ', List.append_assoc]), by rw [ByteArray.size_append, hx]; rfl, HB⟩
          case measure => simp [intOf]; omega
        · have hd2 : decide (j < N) = false := by simp only [decide_eq_false_iff_not]; omega
          have HPx := Lib.hid (HP.out wr HB.out x 0 (by rw [HX.out, show j = N from by omega]; exact HcN.out))
          clear HX hx hlt
          go_wp2_with fail
          refine HPx.out.mono ?_
          rintro e w2 ⟨A1, l1, d1, rfl, B2⟩
          have HB2 := Lib.hid (HB.out.trans (B2.mono HB.out.size))
          clear B2
          go_wp2_with fail
          refine (HMod2.out _).mono ?_
          rintro e w3 ⟨rfl, rfl⟩
          rw [HK.out]
          have hsz2 := HB2.out.size
          go_wp2_with (refine mk_row rfl (.tmp 46) (.tmp 46) rfl M rfl rfl (by omega) ?_; intro w4 hr4 hb4; have HR4 := Lib.hid hr4; have HB4 := Lib.hid (HB2.out.trans (hb4.mono HB2.out.size)); clear hr4 hb4)
          go_loopw [12] (fun i wr => ∃ k : Nat, k ≤ M ∧ i = .int .i64 k ∧ Hid (wr.rowIs w2.heap.size 5 M (fun j => if j < k then .int .u8 97 else .int .u8 0)) ∧ Hid (Below w.heap.size w wr)) (fun i _ => M - (intOf i).toNat)
          case atStart => exact ⟨0, Nat.zero_le _, rfl, HR4, HB4⟩
          case round =>
            obtain ⟨k, hk, rfl, HR, HB5⟩ := hrel
            by_cases hlt : k < M
            · have hc0 := HR.out.cell (i := k) (by omega)
              have hf0 := HR.out.frozen k
              rw [if_neg (Nat.lt_irrefl k)] at hc0
              have HR2 : Hid ((wr.setCell ⟨w2.heap.size, k, none⟩ (.int .u8 97)).rowIs w2.heap.size 5 M (fun j => if j < k + 1 then .int .u8 97 else .int .u8 0)) := Lib.hid ((HR.out.set k (.int .u8 97)).congr (fun j _ => by
                by_cases e : j = k
                · rw [if_pos e, if_pos (by omega)]
                · rw [if_neg e]
                  by_cases e2 : j < k
                  · rw [if_pos e2, if_pos (by omega)]
                  · rw [if_neg e2, if_neg (by omega)]))
              go_wp2_with fail
              go_roundw
              case rel => exact ⟨k + 1, by omega, by go_num, HR2, Lib.hid (HB5.out.setCell (p := ⟨w2.heap.size, k, none⟩) hsz2 _)⟩
              case measure => simp [intOf]; omega
            · have hd3 : decide (k < M) = false := by simp only [decide_eq_false_iff_not]; omega
              have HRow : Hid (wr.rowIs w2.heap.size 5 M (fun _ => .int .u8 97)) := Lib.hid (HR.out.congr (fun j hj => by rw [if_pos (by omega)]))
              have hcv := conv_row (b := 97) HRow.out
              have HPt := Lib.hid (HP.out wr HB5.out ⟨(List.replicate M 97).toArray⟩ 1 (by rw [bs_mk]; exact HcM.out))
              clear HR hlt
              go_wp2_with fail
              refine HPt.out.mono ?_
              rintro e w6 ⟨A2, l2, d2, rfl, B6⟩
              have HB6 := Lib.hid (HB5.out.trans (B6.mono HB5.out.size))
              have HPu := Lib.hid (HP.out w6 HB6.out ⟨#[97, 123, 48, 44, 49, 48, 48, 125]⟩ 0 c1)
              clear B6
              go_wp2_with fail
              refine HPu.out.mono ?_
              rintro e w7 ⟨A3, l3, d3, rfl, B7⟩
              have HB7 := Lib.hid (HB6.out.trans (B7.mono HB6.out.size))
              have HPv := Lib.hid (HP.out w7 HB7.out ⟨#[97, 123, 49, 48, 49, 44, 125]⟩ 40 c2)
              clear B7
              go_wp2_with fail
              refine HPv.out.mono ?_
              rintro e w8 ⟨A4, l4, d4, rfl, B8⟩
              have HB8 := Lib.hid (HB7.out.trans (B8.mono HB7.out.size))
              have HAw8 := Lib.hid (HAw.out w8 HB8.out)
              clear B8
              go_wp2_with (go_at_call 14; refine HAw8.out.mono ?_; rintro e w9 ⟨rfl, B9⟩; have HB9 := Lib.hid (HB8.out.trans (B9.mono HB8.out.size)); clear B9)
              go_ret
              exact ⟨rfl, HB9.out⟩
set_option maxRecDepth 100000 in
set_option maxHeartbeats 4000000 in
theorem walk_10 (n m : Int) (w : World) (hG : Glb w.heap.size w) (N M k1 k2 : Nat) (hn1 : -9223372036854775808 ≤ n) (hn2 : n ≤ 9223372036854775807) (hm1 : -9223372036854775808 ≤ m) (hm2 : m ≤ 9223372036854775807)
    (hk1 : Tx.modF n 3 = (k1 : Int)) (hk2 : Tx.modF m 3 = (k2 : Int)) (hN : (49 : Int) + (k1 : Int) = (N : Int)) (hM : (255 : Int) + (k2 : Int) = (M : Int)) (hN2 : N ≤ 51) (hM2 : M ≤ 257)
    (hcN : codeOf (parseF (List.replicate N 40 ++ List.replicate N 41)) = 1) (hcM : codeOf (parseF (List.replicate M 97)) = 0) (hc : 50 < N) (hd : ¬ 256 < M) :
    Calls Try.prog 5 #[.int .i64 n, .int .i64 m] w fun e w' => e = .returned (.bool true) ∧ Below w.heap.size w w' := by
  have HJ := Lib.hid hk1
  have HK := Lib.hid hk2
  have HMod1 := Lib.hid (fun w => Tx.Mod_any n 3 w (by omega) (by omega) hn1 hn2)
  have HMod2 := Lib.hid (fun w => Tx.Mod_any m 3 w (by omega) (by omega) hm1 hm2)
  have HP := Lib.hid (fun (wq : World) (hb : Below w.heap.size w wq) (x : ByteArray) (c : Int) (h : codeOf (parseF (Tx.bs x)) = c) => Parse_code x wq (hG.self hb) h)
  have HAw := Lib.hid (fun (wq : World) (hb : Below w.heap.size w wq) => awake_any wq (hG.self hb))
  have HcN := Lib.hid hcN
  have HcM := Lib.hid hcM
  clear hk1 hk2 hcN hcM hG
  go_enter Try.func5, Try.ntmps5
  go_wp2_with fail
  refine (HMod1.out _).mono ?_
  rintro e w1 ⟨rfl, rfl⟩
  rw [HJ.out]
  go_wp2_with fail
  go_loopw [5, 6] (fun sv i wr => ∃ (j : Nat) (x : ByteArray), j ≤ N ∧ i = .int .i64 j ∧ sv = .string x ∧ Hid (Tx.bs x = List.replicate j 40) ∧ x.size = j ∧ Hid (Below w.heap.size w wr)) (fun _ i _ => N - (intOf i).toNat)
  case atStart => exact ⟨0, _, Nat.zero_le _, rfl, rfl, Lib.hid rfl, rfl, Lib.hid (Below.refl _ _)⟩
  case round =>
    obtain ⟨j, x, hj, rfl, rfl, HX, hx, HB⟩ := hrel
    by_cases hlt : j < N
    · have hadd : x.size + 1 ≤ 9223372036854775807 := by omega
      go_wp2_with fail
      go_roundw
      case rel => exact ⟨j + 1, _, by omega, by go_num, rfl, Lib.hid (by rw [bs_add, HX.out, List.replicate_succ']), by rw [ByteArray.size_append, hx]; rfl, HB⟩
      case measure => simp [intOf]; omega
    · have hd1 : decide (j < N) = false := by simp only [decide_eq_false_iff_not]; omega
      have HX1 : Hid (Tx.bs x = List.replicate N 40 ++ List.replicate 0 41) := Lib.hid (by rw [HX.out, show j = N from by omega]; simp)
      have hxN : x.size = N := by omega
      clear HX hx hlt
      go_wp2_with fail
      clear hd1
      go_loopw [5, 7] (fun sv i wr => ∃ (j : Nat) (x : ByteArray), j ≤ N ∧ i = .int .i64 j ∧ sv = .string x ∧ Hid (Tx.bs x = List.replicate N 40 ++ List.replicate j 41) ∧ x.size = N + j ∧ Hid (Below w.heap.size w wr)) (fun _ i _ => N - (intOf i).toNat)
      case atStart => exact ⟨0, _, Nat.zero_le _, rfl, rfl, HX1, by omega, HB⟩
      case round =>
        obtain ⟨j, x, hj, rfl, rfl, HX, hx, HB⟩ := hrel
        by_cases hlt : j < N
        · have hadd : x.size + 1 ≤ 9223372036854775807 := by omega
          go_wp2_with fail
          go_roundw
          case rel => exact ⟨j + 1, _, by omega, by go_num, rfl, Lib.hid (by rw [bs_add, HX.out, List.replicate_succ', List.append_assoc]), by rw [ByteArray.size_append, hx]; rfl, HB⟩
          case measure => simp [intOf]; omega
        · have hd2 : decide (j < N) = false := by simp only [decide_eq_false_iff_not]; omega
          have HPx := Lib.hid (HP.out wr HB.out x 1 (by rw [HX.out, show j = N from by omega]; exact HcN.out))
          clear HX hx hlt
          go_wp2_with fail
          refine HPx.out.mono ?_
          rintro e w2 ⟨A1, l1, d1, rfl, B2⟩
          have HB2 := Lib.hid (HB.out.trans (B2.mono HB.out.size))
          clear B2
          go_wp2_with fail
          refine (HMod2.out _).mono ?_
          rintro e w3 ⟨rfl, rfl⟩
          rw [HK.out]
          have hsz2 := HB2.out.size
          go_wp2_with (refine mk_row rfl (.tmp 46) (.tmp 46) rfl M rfl rfl (by omega) ?_; intro w4 hr4 hb4; have HR4 := Lib.hid hr4; have HB4 := Lib.hid (HB2.out.trans (hb4.mono HB2.out.size)); clear hr4 hb4)
          go_loopw [12] (fun i wr => ∃ k : Nat, k ≤ M ∧ i = .int .i64 k ∧ Hid (wr.rowIs w2.heap.size 5 M (fun j => if j < k then .int .u8 97 else .int .u8 0)) ∧ Hid (Below w.heap.size w wr)) (fun i _ => M - (intOf i).toNat)
          case atStart => exact ⟨0, Nat.zero_le _, rfl, HR4, HB4⟩
          case round =>
            obtain ⟨k, hk, rfl, HR, HB5⟩ := hrel
            by_cases hlt : k < M
            · have hc0 := HR.out.cell (i := k) (by omega)
              have hf0 := HR.out.frozen k
              rw [if_neg (Nat.lt_irrefl k)] at hc0
              have HR2 : Hid ((wr.setCell ⟨w2.heap.size, k, none⟩ (.int .u8 97)).rowIs w2.heap.size 5 M (fun j => if j < k + 1 then .int .u8 97 else .int .u8 0)) := Lib.hid ((HR.out.set k (.int .u8 97)).congr (fun j _ => by
                by_cases e : j = k
                · rw [if_pos e, if_pos (by omega)]
                · rw [if_neg e]
                  by_cases e2 : j < k
                  · rw [if_pos e2, if_pos (by omega)]
                  · rw [if_neg e2, if_neg (by omega)]))
              go_wp2_with fail
              go_roundw
              case rel => exact ⟨k + 1, by omega, by go_num, HR2, Lib.hid (HB5.out.setCell (p := ⟨w2.heap.size, k, none⟩) hsz2 _)⟩
              case measure => simp [intOf]; omega
            · have hd3 : decide (k < M) = false := by simp only [decide_eq_false_iff_not]; omega
              have HRow : Hid (wr.rowIs w2.heap.size 5 M (fun _ => .int .u8 97)) := Lib.hid (HR.out.congr (fun j hj => by rw [if_pos (by omega)]))
              have hcv := conv_row (b := 97) HRow.out
              have HPt := Lib.hid (HP.out wr HB5.out ⟨(List.replicate M 97).toArray⟩ 0 (by rw [bs_mk]; exact HcM.out))
              clear HR hlt
              go_wp2_with fail
              refine HPt.out.mono ?_
              rintro e w6 ⟨A2, l2, d2, rfl, B6⟩
              have HB6 := Lib.hid (HB5.out.trans (B6.mono HB5.out.size))
              have HPu := Lib.hid (HP.out w6 HB6.out ⟨#[97, 123, 48, 44, 49, 48, 48, 125]⟩ 0 c1)
              clear B6
              go_wp2_with fail
              refine HPu.out.mono ?_
              rintro e w7 ⟨A3, l3, d3, rfl, B7⟩
              have HB7 := Lib.hid (HB6.out.trans (B7.mono HB6.out.size))
              have HPv := Lib.hid (HP.out w7 HB7.out ⟨#[97, 123, 49, 48, 49, 44, 125]⟩ 40 c2)
              clear B7
              go_wp2_with fail
              refine HPv.out.mono ?_
              rintro e w8 ⟨A4, l4, d4, rfl, B8⟩
              have HB8 := Lib.hid (HB7.out.trans (B8.mono HB7.out.size))
              have HAw8 := Lib.hid (HAw.out w8 HB8.out)
              clear B8
              go_wp2_with (go_at_call 14; refine HAw8.out.mono ?_; rintro e w9 ⟨rfl, B9⟩; have HB9 := Lib.hid (HB8.out.trans (B9.mono HB8.out.size)); clear B9)
              go_ret
              exact ⟨rfl, HB9.out⟩
set_option maxRecDepth 100000 in
set_option maxHeartbeats 4000000 in
theorem walk_11 (n m : Int) (w : World) (hG : Glb w.heap.size w) (N M k1 k2 : Nat) (hn1 : -9223372036854775808 ≤ n) (hn2 : n ≤ 9223372036854775807) (hm1 : -9223372036854775808 ≤ m) (hm2 : m ≤ 9223372036854775807)
    (hk1 : Tx.modF n 3 = (k1 : Int)) (hk2 : Tx.modF m 3 = (k2 : Int)) (hN : (49 : Int) + (k1 : Int) = (N : Int)) (hM : (255 : Int) + (k2 : Int) = (M : Int)) (hN2 : N ≤ 51) (hM2 : M ≤ 257)
    (hcN : codeOf (parseF (List.replicate N 40 ++ List.replicate N 41)) = 1) (hcM : codeOf (parseF (List.replicate M 97)) = 1) (hc : 50 < N) (hd : 256 < M) :
    Calls Try.prog 5 #[.int .i64 n, .int .i64 m] w fun e w' => e = .returned (.bool true) ∧ Below w.heap.size w w' := by
  have HJ := Lib.hid hk1
  have HK := Lib.hid hk2
  have HMod1 := Lib.hid (fun w => Tx.Mod_any n 3 w (by omega) (by omega) hn1 hn2)
  have HMod2 := Lib.hid (fun w => Tx.Mod_any m 3 w (by omega) (by omega) hm1 hm2)
  have HP := Lib.hid (fun (wq : World) (hb : Below w.heap.size w wq) (x : ByteArray) (c : Int) (h : codeOf (parseF (Tx.bs x)) = c) => Parse_code x wq (hG.self hb) h)
  have HAw := Lib.hid (fun (wq : World) (hb : Below w.heap.size w wq) => awake_any wq (hG.self hb))
  have HcN := Lib.hid hcN
  have HcM := Lib.hid hcM
  clear hk1 hk2 hcN hcM hG
  go_enter Try.func5, Try.ntmps5
  go_wp2_with fail
  refine (HMod1.out _).mono ?_
  rintro e w1 ⟨rfl, rfl⟩
  rw [HJ.out]
  go_wp2_with fail
  go_loopw [5, 6] (fun sv i wr => ∃ (j : Nat) (x : ByteArray), j ≤ N ∧ i = .int .i64 j ∧ sv = .string x ∧ Hid (Tx.bs x = List.replicate j 40) ∧ x.size = j ∧ Hid (Below w.heap.size w wr)) (fun _ i _ => N - (intOf i).toNat)
  case atStart => exact ⟨0, _, Nat.zero_le _, rfl, rfl, Lib.hid rfl, rfl, Lib.hid (Below.refl _ _)⟩
  case round =>
    obtain ⟨j, x, hj, rfl, rfl, HX, hx, HB⟩ := hrel
    by_cases hlt : j < N
    · have hadd : x.size + 1 ≤ 9223372036854775807 := by omega
      go_wp2_with fail
      go_roundw
      case rel => exact ⟨j + 1, _, by omega, by go_num, rfl, Lib.hid (by rw [bs_add, HX.out, List.replicate_succ']), by rw [ByteArray.size_append, hx]; rfl, HB⟩
      case measure => simp [intOf]; omega
    · have hd1 : decide (j < N) = false := by simp only [decide_eq_false_iff_not]; omega
      have HX1 : Hid (Tx.bs x = List.replicate N 40 ++ List.replicate 0 41) := Lib.hid (by rw [HX.out, show j = N from by omega]; simp)
      have hxN : x.size = N := by omega
      clear HX hx hlt
      go_wp2_with fail
      clear hd1
      go_loopw [5, 7] (fun sv i wr => ∃ (j : Nat) (x : ByteArray), j ≤ N ∧ i = .int .i64 j ∧ sv = .string x ∧ Hid (Tx.bs x = List.replicate N 40 ++ List.replicate j 41) ∧ x.size = N + j ∧ Hid (Below w.heap.size w wr)) (fun _ i _ => N - (intOf i).toNat)
      case atStart => exact ⟨0, _, Nat.zero_le _, rfl, rfl, HX1, by omega, HB⟩
      case round =>
        obtain ⟨j, x, hj, rfl, rfl, HX, hx, HB⟩ := hrel
        by_cases hlt : j < N
        · have hadd : x.size + 1 ≤ 9223372036854775807 := by omega
          go_wp2_with fail
          go_roundw
          case rel => exact ⟨j + 1, _, by omega, by go_num, rfl, Lib.hid (by rw [bs_add, HX.out, List.replicate_succ', List.append_assoc]), by rw [ByteArray.size_append, hx]; rfl, HB⟩
          case measure => simp [intOf]; omega
        · have hd2 : decide (j < N) = false := by simp only [decide_eq_false_iff_not]; omega
          have HPx := Lib.hid (HP.out wr HB.out x 1 (by rw [HX.out, show j = N from by omega]; exact HcN.out))
          clear HX hx hlt
          go_wp2_with fail
          refine HPx.out.mono ?_
          rintro e w2 ⟨A1, l1, d1, rfl, B2⟩
          have HB2 := Lib.hid (HB.out.trans (B2.mono HB.out.size))
          clear B2
          go_wp2_with fail
          refine (HMod2.out _).mono ?_
          rintro e w3 ⟨rfl, rfl⟩
          rw [HK.out]
          have hsz2 := HB2.out.size
          go_wp2_with (refine mk_row rfl (.tmp 46) (.tmp 46) rfl M rfl rfl (by omega) ?_; intro w4 hr4 hb4; have HR4 := Lib.hid hr4; have HB4 := Lib.hid (HB2.out.trans (hb4.mono HB2.out.size)); clear hr4 hb4)
          go_loopw [12] (fun i wr => ∃ k : Nat, k ≤ M ∧ i = .int .i64 k ∧ Hid (wr.rowIs w2.heap.size 5 M (fun j => if j < k then .int .u8 97 else .int .u8 0)) ∧ Hid (Below w.heap.size w wr)) (fun i _ => M - (intOf i).toNat)
          case atStart => exact ⟨0, Nat.zero_le _, rfl, HR4, HB4⟩
          case round =>
            obtain ⟨k, hk, rfl, HR, HB5⟩ := hrel
            by_cases hlt : k < M
            · have hc0 := HR.out.cell (i := k) (by omega)
              have hf0 := HR.out.frozen k
              rw [if_neg (Nat.lt_irrefl k)] at hc0
              have HR2 : Hid ((wr.setCell ⟨w2.heap.size, k, none⟩ (.int .u8 97)).rowIs w2.heap.size 5 M (fun j => if j < k + 1 then .int .u8 97 else .int .u8 0)) := Lib.hid ((HR.out.set k (.int .u8 97)).congr (fun j _ => by
                by_cases e : j = k
                · rw [if_pos e, if_pos (by omega)]
                · rw [if_neg e]
                  by_cases e2 : j < k
                  · rw [if_pos e2, if_pos (by omega)]
                  · rw [if_neg e2, if_neg (by omega)]))
              go_wp2_with fail
              go_roundw
              case rel => exact ⟨k + 1, by omega, by go_num, HR2, Lib.hid (HB5.out.setCell (p := ⟨w2.heap.size, k, none⟩) hsz2 _)⟩
              case measure => simp [intOf]; omega
            · have hd3 : decide (k < M) = false := by simp only [decide_eq_false_iff_not]; omega
              have HRow : Hid (wr.rowIs w2.heap.size 5 M (fun _ => .int .u8 97)) := Lib.hid (HR.out.congr (fun j hj => by rw [if_pos (by omega)]))
              have hcv := conv_row (b := 97) HRow.out
              have HPt := Lib.hid (HP.out wr HB5.out ⟨(List.replicate M 97).toArray⟩ 1 (by rw [bs_mk]; exact HcM.out))
              clear HR hlt
              go_wp2_with fail
              refine HPt.out.mono ?_
              rintro e w6 ⟨A2, l2, d2, rfl, B6⟩
              have HB6 := Lib.hid (HB5.out.trans (B6.mono HB5.out.size))
              have HPu := Lib.hid (HP.out w6 HB6.out ⟨#[97, 123, 48, 44, 49, 48, 48, 125]⟩ 0 c1)
              clear B6
              go_wp2_with fail
              refine HPu.out.mono ?_
              rintro e w7 ⟨A3, l3, d3, rfl, B7⟩
              have HB7 := Lib.hid (HB6.out.trans (B7.mono HB6.out.size))
              have HPv := Lib.hid (HP.out w7 HB7.out ⟨#[97, 123, 49, 48, 49, 44, 125]⟩ 40 c2)
              clear B7
              go_wp2_with fail
              refine HPv.out.mono ?_
              rintro e w8 ⟨A4, l4, d4, rfl, B8⟩
              have HB8 := Lib.hid (HB7.out.trans (B8.mono HB7.out.size))
              have HAw8 := Lib.hid (HAw.out w8 HB8.out)
              clear B8
              go_wp2_with (go_at_call 14; refine HAw8.out.mono ?_; rintro e w9 ⟨rfl, B9⟩; have HB9 := Lib.hid (HB8.out.trans (B9.mono HB8.out.size)); clear B9)
              go_ret
              exact ⟨rfl, HB9.out⟩
theorem walk (n m : Int) (w : World) (hG : Glb w.heap.size w) (hn : -9223372036854775808 ≤ n ∧ n ≤ 9223372036854775807) (hm : -9223372036854775808 ≤ m ∧ m ≤ 9223372036854775807) :
    Calls Try.prog 5 #[.int .i64 n, .int .i64 m] w fun e w' => e = .returned (.bool true) ∧ Below w.heap.size w w' := by
  have l1 := Tx.modF_lo n 3 (by omega)
  have u1 := Tx.modF_hi n 3 (by omega)
  have l2 := Tx.modF_lo m 3 (by omega)
  have u2 := Tx.modF_hi m 3 (by omega)
  obtain ⟨k1, hk1⟩ : ∃ k : Nat, Tx.modF n 3 = (k : Int) := ⟨(Tx.modF n 3).toNat, by omega⟩
  obtain ⟨k2, hk2⟩ : ∃ k : Nat, Tx.modF m 3 = (k : Int) := ⟨(Tx.modF m 3).toNat, by omega⟩
  rw [hk1] at l1 u1
  rw [hk2] at l2 u2
  have a1 : k1 = 0 ∨ k1 = 1 ∨ k1 = 2 := by omega
  have a2 : k2 = 0 ∨ k2 = 1 ∨ k2 = 2 := by omega
  clear l1 u1 l2 u2
  rcases a1 with rfl | rfl | rfl <;> rcases a2 with rfl | rfl | rfl
  · exact walk_00 n m w hG 49 255 0 0 hn.1 hn.2 hm.1 hm.2 hk1 hk2 rfl rfl (by decide) (by decide) deep49 long255 (by decide) (by decide)
  · exact walk_00 n m w hG 49 256 0 1 hn.1 hn.2 hm.1 hm.2 hk1 hk2 rfl rfl (by decide) (by decide) deep49 long256 (by decide) (by decide)
  · exact walk_01 n m w hG 49 257 0 2 hn.1 hn.2 hm.1 hm.2 hk1 hk2 rfl rfl (by decide) (by decide) deep49 long257 (by decide) (by decide)
  · exact walk_00 n m w hG 50 255 1 0 hn.1 hn.2 hm.1 hm.2 hk1 hk2 rfl rfl (by decide) (by decide) deep50 long255 (by decide) (by decide)
  · exact walk_00 n m w hG 50 256 1 1 hn.1 hn.2 hm.1 hm.2 hk1 hk2 rfl rfl (by decide) (by decide) deep50 long256 (by decide) (by decide)
  · exact walk_01 n m w hG 50 257 1 2 hn.1 hn.2 hm.1 hm.2 hk1 hk2 rfl rfl (by decide) (by decide) deep50 long257 (by decide) (by decide)
  · exact walk_10 n m w hG 51 255 2 0 hn.1 hn.2 hm.1 hm.2 hk1 hk2 rfl rfl (by decide) (by decide) deep51 long255 (by decide) (by decide)
  · exact walk_10 n m w hG 51 256 2 1 hn.1 hn.2 hm.1 hm.2 hk1 hk2 rfl rfl (by decide) (by decide) deep51 long256 (by decide) (by decide)
  · exact walk_11 n m w hG 51 257 2 2 hn.1 hn.2 hm.1 hm.2 hk1 hk2 rfl rfl (by decide) (by decide) deep51 long257 (by decide) (by decide)
set_option maxRecDepth 100000 in
theorem lifted (os : Os) (started : os.Started) (H : Type) (enc : TypeId × Value → H) :
    ReturnsInHanded {} Try.checked os 5 .any (Rows.regexLimitsSpec.pre6 enc Try.prog Try.f5 Rows.regexLimitsRow.domain false) (Rows.regexLimitsSpec.post enc Try.prog Try.f5 false true false false) := by
  refine returnsInHanded_of_change_shaped (C := Try.checked) own started (by kernel_rfl) Try.func5
    (ChangeSpec.witness6 (enc := enc) (C := Try.checked) false ⟨#[], #[.int .i64 0, .int .i64 0], []⟩ 8 (by kernel_rfl) (by kernel_rfl) (by kernel_rfl) (by kernel_rfl)) ?_
  intro W base args ds gs before hval0 hW _ _ hsh _
  have hval : ∀ (j : Nat) t v, Try.f5.params[j]? = some t → args[j]? = some v → Value.okWide Try.prog W .any base t v := hval0
  have hW' := hW
  obtain ⟨p, q, hA0, hV, rfl, hfz, hnd⟩ := hW
  have hA : DataW.TrodAll enc Try.prog W 0 (fun _ => true) true Try.f5.params.toList args.toList ds p := hA0
  rw [Try.params5] at hA hval
  obtain ⟨v0, v1, d0, d1, p0, p1, rfl, rfl, rfl, h0, h1⟩ := trodAll_two hA
  obtain ⟨rfl, rfl⟩ := trodVars_none hV
  obtain ⟨n, rfl, rfl, rfl, wn⟩ := open_int Try.underlying3 (hval 0 3 v0 rfl rfl) h0
  have bn := bounds_int wn
  obtain ⟨m, rfl, rfl, rfl, wm⟩ := open_int Try.underlying3 (hval 1 3 v1 rfl rfl) h1
  have bm := bounds_int wm
  clear hA0 hval0
  simp only [List.append_nil] at hW'
  refine (walk n m W (glb_of hsh) bn bm).mono fun e W' ⟨he, hbel⟩ => ?_
  subst he
  exact ⟨_, rfl, _, _, _, [], _, [], hW', trodAll_mk1 (shut_bool Try.underlying4 _), trodAll_mk2 (shut_int Try.underlying3 wn) (shut_int Try.underlying3 wm), rfl, hbel.frame _, fun h => by cases h⟩
theorem row_holds : Rows.RegexLimitsSaid :=
  OpenClaim.holds_of_wide 5 Try.f5 rfl rfl rfl rfl rfl rfl rfl ⟨rfl, rfl, rfl, rfl, rfl⟩ rfl rfl rfl rfl rfl (by kernel_rfl) Try.func5 (by kernel_rfl)
    (of_decide_eq_true (by kernel_rfl)) (by unfold Func.isWrapper; first | (rw [if_pos (by decide +kernel)]; kernel_rfl) | (rw [if_neg (by decide +kernel)]; exact ⟨rfl, rfl⟩))
    (fun os started H enc _ => lifted os started H enc)
end Px.RegexLimits
end Go.Proofs.Ytfhddfphllmijaa

/-
  The walk of the law OccurCuts of layer 7. No conditions.
-/
import Derived.Test.YthpolbiekdijjaaOccWord
import Derived.Test.YthpolbiekdijjaaOccCutM
import Derived.Deep.AppendLies
namespace Go.Proofs.Ythpolbiekdijjaa
open Go.RowKit
namespace Oc
open Tx Cm
theorem repl_self (n s : ByteArray) : ByteArray.mk (replF (bs n) (bs s) (bs n)).toArray = s := by rw [replF_self, mk_bs]
def cntF (n t : ByteArray) : Int := ((posL (bs n) (bs t) 0).length : Int)
theorem Count_c (n t : ByteArray) (w : World) (hn : n.size ≤ 100) (ht : t.size ≤ 100) : Calls Try.prog 17 #[.string n, .string t] w fun e w' => e = .returned (.int .i64 (cntF n t)) ∧ Below w.heap.size w w' := Count_any n t w (by omega) (by omega)
set_option maxRecDepth 100000 in
set_option maxHeartbeats 4000000 in
theorem cuts_walk (v : Value) (N : Nat) (k : Int) (w : World) (hk1 : -9223372036854775808 ≤ k) (hk2 : k ≤ 9223372036854775807) (hv : RdI w v N) (hN : N ≤ maxLen) :
    Calls Try.prog 7 #[v, .int .i64 k] w fun e w' => e = .returned (.bool true) ∧ Below w.heap.size w w' := by
  have HAw := Lib.hid (fun w => awake_any w)
  have HW1 : Hid (∀ w2, Below w.heap.size w w2 → Calls Try.prog 12 #[v, .int .i64 0, .int .i64 4] w2 (WordPost 4 w2)) := Lib.hid (fun w2 hb => word_any v N 0 4 w2 (hv.below hb) hN (by omega) (by omega))
  have HW2 : Hid (∀ w2, Below w.heap.size w w2 → Calls Try.prog 12 #[v, .int .i64 20, .int .i64 30] w2 (WordPost 30 w2)) := Lib.hid (fun w2 hb => word_any v N 20 30 w2 (hv.below hb) hN (by omega) (by omega))
  clear hv hN
  go_enter Try.func7, Try.ntmps7
  go_wp2_with fail
  refine (HW1.out _ (Below.refl _ _)).mono ?_
  rintro e w1 ⟨n, hn, hn2, rfl, hb⟩
  have HB1 := Lib.hid hb
  clear hb
  go_wp2_with fail
  refine (HW2.out _ HB1.out).mono ?_
  rintro e w2 ⟨s, hs, _, rfl, hb⟩
  have HB2 := Lib.hid (HB1.out.trans (hb.mono HB1.out.size))
  clear hb HB1
  go_wp2_with fail
  refine (Positions_any n s _ (by omega) (by omega)).mono ?_
  rintro e w3 ⟨u, rfl, hr, hb⟩
  have HB3 := Lib.hid (HB2.out.trans (hb.mono HB2.out.size))
  clear hb HB2 HW1 HW2
  obtain ⟨A, c, rfl⟩ := own_form hr
  by_cases hL : (posL (bs n) (bs s) 0).length = 0
  · rw [hL]
    clear hr hL
    go_wp2_with fail
    refine (HAw.out _).mono ?_
    rintro e w4 ⟨rfl, hb⟩
    go_wp2_with fail
    go_ret
    exact ⟨rfl, HB3.out.trans (hb.mono HB3.out.size)⟩
  obtain ⟨L, hLe⟩ : ∃ L, posL (bs n) (bs s) 0 = L := ⟨_, rfl⟩
  have hp := posL_is (bs n) (bs s) 0
  have hz1 := replF_z (bs n) (bs s) 122
  rw [hLe] at hr hL hp hz1 ⊢
  have hcnt := hp.count (Nat.zero_le _)
  rw [bs_len] at hcnt
  have m1 := modF_lo k (L.length : Int) (by omega)
  have m2 := modF_hi k (L.length : Int) (by omega)
  have HM := Lib.hid (fun w => Mod_any k (L.length : Int) w (by omega) (by omega) hk1 hk2)
  generalize modF k (L.length : Int) = m at m1 m2 HM
  obtain ⟨m, rfl⟩ := Int.eq_ofNat_of_zero_le m1
  have hml : m < L.length := by omega
  obtain ⟨he, b1, o1, rfl, hcs⟩ := (RdV.of_own hr).at (by rw [intsV_len, natsI_len]; omega)
  have hcell := row_cell hr hml
  clear he hcs hr
  obtain ⟨hx1, hx2, hx3⟩ := hp.lt L[m] (List.getElem_mem hml)
  have hct := cut_count (n := bs n) (s := bs s) (m := m) (by rw [hLe]; exact hml)
  simp only [hLe] at hct
  rw [bs_len] at hx2 hx3 hct hz1
  rw [bs_len] at hx2 hz1
  generalize L[m] = x at hcell hx1 hx2 hct
  obtain ⟨len, hlen⟩ : ∃ len, L.length = len := ⟨_, rfl⟩
  rw [hlen] at hct hz1 hcnt hL hml HM m2 ⊢
  have HL := Lib.hid hlen
  have h1 : (bs s).take (x + n.size) = bs (s.extract 0 (x + n.size)) := by rw [bs_extract, List.drop_zero]; rfl
  have h2 : (bs s).drop (x + n.size) = bs (s.extract (x + n.size) s.size) := by rw [bs_extract, List.take_of_length_le (by rw [List.length_drop, bs_len]; exact Nat.le_refl _)]
  rw [h1, h2] at hct
  have hz : (122 : UInt8) ∉ bs n := fun h => by rcases hn2 _ h with h | h <;> exact absurd h (by decide)
  have hz0 := replF_none (bs n) (bs s) hz
  have hRs := fun w => (Replace_any n s n w (by omega) (by omega) (by omega)).mono (R' := fun e w' => e = .returned (.tuple #[.string s, .int .i64 0]) ∧ Below w.heap.size w w') fun e w' ⟨a, b⟩ => ⟨by rw [a, repl_self], b⟩
  have HRs := Lib.hid hRs
  have hRz := fun w => Replace_any n s ⟨#[122]⟩ w (by omega) (by omega) (by decide)
  unfold ReplPost at hRz
  rw [show bs ⟨#[122]⟩ = [122] from rfl] at hRz
  have hzb : bs ⟨(replF (bs n) (bs s) [122]).toArray⟩ = replF (bs n) (bs s) [122] := bs_mk _
  rw [← hzb] at hz0 hz1
  generalize ByteArray.mk (replF (bs n) (bs s) [122]).toArray = zb at hz0 hz1 hRz
  rw [bs_len] at hz1
  have HRz := Lib.hid hRz
  clear hRs hRz hzb hz hp hn2 h1 h2 hlen hLe
  have hE1 : cntF n (s.extract 0 (x + n.size)) = ((posL (bs n) (bs (s.extract 0 (x + n.size))) 0).length : Int) := rfl
  have hE2 : cntF n (s.extract (x + n.size) s.size) = ((posL (bs n) (bs (s.extract (x + n.size) s.size)) 0).length : Int) := rfl
  have hE3 : cntF n zb = 0 := by unfold cntF; rw [hz0]; rfl
  generalize (posL (bs n) (bs (s.extract 0 (x + n.size))) 0).length = c1 at hct hE1
  generalize (posL (bs n) (bs (s.extract (x + n.size) s.size)) 0).length = c2 at hct hE2
  have E1 := Lib.hid hE1
  have E2 := Lib.hid hE2
  have E3 := Lib.hid hE3
  have K1 : Hid ((s.extract 0 (x + n.size)).size ≤ 100) := Lib.hid (by rw [ByteArray.size_extract]; omega)
  have K2 : Hid ((s.extract (x + n.size) s.size).size ≤ 100) := Lib.hid (by rw [ByteArray.size_extract]; omega)
  have K3 : Hid (zb.size ≤ 100) := Lib.hid (by omega)
  have HC := Lib.hid (fun t w h => Count_c n t w (by omega) h)
  clear hE1 hE2 hE3 hz0
  go_wp2_with (go_at_call 13; refine (HM.out _).mono ?_; rintro e w4 ⟨rfl, rfl⟩)
  refine (HRs.out _).mono ?_
  rintro e w4 ⟨rfl, hb⟩
  have HB4 := Lib.hid (HB3.out.trans (hb.mono HB3.out.size))
  clear hb HB3
  go_wp2_with fail
  refine (HRz.out _).mono ?_
  rintro e w5 ⟨rfl, hb⟩
  have HB5 := Lib.hid (HB4.out.trans (hb.mono HB4.out.size))
  clear hb HB4 hcell
  go_wp2_with fail
  obtain ⟨q, hq⟩ : ∃ q, n.size - 1 = q := ⟨_, rfl⟩
  rw [hq] at hz1
  obtain ⟨P, hP⟩ : ∃ P, len * q = P := ⟨_, rfl⟩
  rw [hP] at hz1
  have f1 : IntKind.i64.wrap ((c1 : Int) + (c2 : Int)) = (len : Int) := by rw [IntWalk.i64_in _ (by omega)]; omega
  have f2 : IntKind.i64.wrap ((n.size : Int) - 1) = (q : Int) := by rw [IntWalk.i64_in _ (by omega)]; omega
  have hP2 : (len : Int) * (q : Int) = (P : Int) := by rw [← hP]; simp
  have f3 : IntKind.i64.wrap ((len : Int) * (q : Int)) = (P : Int) := by rw [hP2, IntWalk.i64_in _ (by omega)]
  have f4 : IntKind.i64.wrap ((s.size : Int) - (P : Int)) = (zb.size : Int) := by rw [IntWalk.i64_in _ (by omega)]; omega
  have i1 : ((x : Int) + (n.size : Int)).toNat = x + n.size := by omega
  have i2 : (0 : Int) ≤ (x : Int) + (n.size : Int) := by omega
  have i3 : (x : Int) + (n.size : Int) ≤ (s.size : Int) := by omega
  clear hz1 hct hP hq hP2
  go_region_held3 (fun _ => True) (exact trivial) (first
    | (go_at_call 17; refine (HC.out _ _ (by first | exact K1.out | exact K2.out | exact K3.out)).mono ?_; rintro e w6 ⟨rfl, hb6⟩; (first | rw [E1.out] | rw [E2.out] | rw [E3.out]); have HB5 : Hid (Below w.heap.size w w6) := Lib.hid (by first | exact HB5.out.trans (hb6.mono HB5.out.size) | exact HB5.out.drew.trans (hb6.mono HB5.out.size)); clear hb6)
    | (go_at_call 9; refine (HAw.out _).mono ?_; rintro e w6 ⟨rfl, hb6⟩; have HB5 : Hid (Below w.heap.size w w6) := Lib.hid (by first | exact HB5.out.trans (hb6.mono HB5.out.size) | exact HB5.out.drew.trans (hb6.mono HB5.out.size)); clear hb6))
  go_wp2_with fail
  go_ret
  exact ⟨rfl, HB5.out⟩
end Oc
end Go.Proofs.Ythpolbiekdijjaa

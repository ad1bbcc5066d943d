/- Facts; each states its conditions. -/
import Derived.Test.YtjecfmbecgpbmaaGreatDoorGHnkBase
import Derived.Test.YtjecfmbecgpbmaaGreatDoorScanRange
import Derived.Deep.RegionWith
namespace Go.Proofs.YtjecfmbecgpbmaaGreatDoor
namespace Cm
end Cm
namespace Hn
end Hn
namespace Sc
end Sc
open Go.RowKit
namespace Uf
open Cm Hn
open Sc (fmtR fmtR_len FormatRange_any Pow)
def hdrF (o n : Int) (ls : List Ln) : List UInt8 := [64, 64, 32, 45] ++ fmtR o (notK 43 ls).length ++ [32, 43] ++ fmtR n (notK 45 ls).length ++ [32, 64, 64, 10]
theorem bs_inj {a b : ByteArray} (h : Tx.bs a = Tx.bs b) : a = b := by rw [← Tx.mk_bs a, ← Tx.mk_bs b, h]
theorem notK_snoc (k : Int) (ls : List Ln) (l : Ln) : (notK k (ls ++ [l])).length = (notK k ls).length + if l.kind = k then 0 else 1 := by
 rw [notK_app, List.length_append]
 congr 1
 by_cases h : l.kind = k
 · rw [if_pos h]
   unfold notK
   rw [List.filter_cons_of_neg (by simp [h])]
   rfl
 · rw [if_neg h]
   unfold notK
   rw [List.filter_cons_of_pos (by simpa using h)]
   rfl
theorem notK_le (k : Int) (ls : List Ln) : (notK k ls).length ≤ ls.length := by
 unfold notK
 rw [List.length_map]
 exact List.length_filter_le _ _
set_option maxRecDepth 100000 in
set_option maxHeartbeats 4000000 in
theorem header_any (o n : Int) (v : Value) (ls : List Ln) (w : World) (hr : RdL w v ls) (hl : ls.length ≤ 1000000) (ho : -9223372036854775808 ≤ o ∧ o ≤ 9223372036854775807) (hn : -9223372036854775808 ≤ n ∧ n ≤ 9223372036854775807) (hp : Pow w) :
 Calls Tryz.prog 81 #[.agg #[.int .i64 o, .int .i64 n, v]] w fun e w' => e = .returned (.string ⟨(hdrF o n ls).toArray⟩) ∧ Below w.heap.size w w' := by
 have HR := Lib.hid (fun w' (hb : Below w.heap.size w w') => hr.below hb)
 have HP := Lib.hid (fun w' (hb : Below w.heap.size w w') => Pow.stays hp hb)
 obtain ⟨A, c, rfl⟩ := hr.form
 obtain ⟨M, hM⟩ : ∃ M : Int → Int → ByteArray, ∀ a c, M a c = ⟨(fmtR a c).toArray⟩ := ⟨fun a c => ⟨(fmtR a c).toArray⟩, fun _ _ => rfl⟩
 have HM := Lib.hid hM
 have HF := Lib.hid (fun (a c : Int) (w' : World) (hb : Below w.heap.size w w') (h0 : -9223372036854775808 ≤ a ∧ a ≤ 9223372036854775807) (h1 : 0 ≤ c ∧ c ≤ 1000000) => (show Calls Tryz.prog 120 #[.int .i64 a, .int .i64 c] w' fun e w'' => e = .returned (.string (M a c)) ∧ Below w'.heap.size w' w'' by rw [hM]; exact FormatRange_any a c w' h0.1 h0.2 (by omega) (by omega) (HP.out w' hb)))
 clear hM
 have HSn := Lib.hid (fun j (h : j < ls.length) k => notK_snoc k (ls.take j) ls[j])
 have HTk := Lib.hid (fun j (h : j < ls.length) => List.take_succ_eq_append_getElem h)
 have HLe := Lib.hid (fun j k => Nat.le_trans (notK_le k (ls.take j)) (List.length_take_le j ls))
 have HEnd : Hid (∀ a b : Nat, a = (notK 43 ls).length → b = (notK 45 ls).length → (⟨#[64, 64, 32, 45]⟩ : ByteArray) ++ M o a ++ ⟨#[32, 43]⟩ ++ M n b ++ ⟨#[32, 64, 64, 10]⟩ = ⟨(hdrF o n ls).toArray⟩) := Lib.hid (fun a b h1 h2 => by
  subst h1 h2
  rw [HM.out, HM.out]
  exact bs_inj (by simp [Tx.bs_mk, hdrF]))
 have HB0 := Lib.hid ((Below.refl w.heap.size w).alloc (Nat.le_refl _) (.cells #[.int .i64 o, .int .i64 n, .slice A ls.length c] tPh))
 have HK0 : Hid (Blk (w.alloc (.cells #[.int .i64 o, .int .i64 n, .slice A ls.length c] tPh)) w.heap.size tPh [.int .i64 o, .int .i64 n, .slice A ls.length c]) := Lib.hid (heap_new w _)
 clear hr hp
 obtain ⟨N, hN⟩ : ∃ N, N = ls.length := ⟨_, rfl⟩
 have HN := Lib.hid hN.symm
 rw [← hN] at hl HB0 HK0 ⊢
 have HR2 : Hid (∀ w', Below w.heap.size w w' → RdL w' (.slice A N c) ls) := Lib.hid (by rw [hN]; exact HR.out)
 clear hN HR
 go_enter Tryz.func81, Tryz.ntmps81
 go_wp2_with fail
 obtain ⟨W, hW⟩ : ∃ W, W = w.alloc (.cells #[.int .i64 o, .int .i64 n, .slice A N c] tPh) := ⟨_, rfl⟩
 rw [← hW] at HB0 HK0 ⊢
 clear hW
 go_loopw [3, 4, 10] (fun a' b' i wr => ∃ (j : Nat), j ≤ N ∧ i = .int .i64 j ∧ a' = .int .i64 ((notK 43 (ls.take j)).length : Nat) ∧ b' = .int .i64 ((notK 45 (ls.take j)).length : Nat) ∧ Hid (Below W.heap.size W wr)) (fun _ _ i _ => N - (intOf i).toNat)
 case atStart => exact ⟨0, Nat.zero_le _, rfl, rfl, rfl, Lib.hid (Below.refl _ _)⟩
 case round =>
  obtain ⟨j, hj, rfl, rfl, rfl, HB⟩ := hrel
  have HBw := Lib.hid (HB0.out.trans (HB.out.mono HB0.out.size))
  have la := HLe.out j 43
  have lb := HLe.out j 45
  by_cases hlt : j < N
  · have hx : j < ls.length := by rw [HN.out]; exact hlt
    obtain ⟨bl, off, rfl, c0, c1⟩ := RdL_at (HR2.out wr HBw.out) j hx
    have s1 := HSn.out j hx 43
    have s2 := HSn.out j hx 45
    rw [← HTk.out j hx] at s1 s2
    have S1 := Lib.hid s1
    have S2 := Lib.hid s2
    generalize ls[j].kind = k at *
    generalize ls[j].text = t at *
    generalize (notK 43 (ls.take j)).length = na at *
    generalize (notK 45 (ls.take j)).length = nb at *
    have HB1 := Lib.hid (HB.out.alloc HB.out.size (.cells #[.int .u8 k, .string t] tLn))
    have i1 : (0 : Int) ≤ (j : Int) := by omega
    have i2 : (j : Int) < (N : Int) := by omega
    clear s1 s2
    by_cases k1 : k = 43
    · subst k1
      have e1 := S1.out
      have e2 := S2.out
      rw [if_pos rfl] at e1
      rw [if_neg (by decide)] at e2
      have E1 := Lib.hid e1
      have E2 := Lib.hid e2
      clear e1 e2 S1 S2
      go_wp2_with fail
      go_roundw
      case rel => exact ⟨j + 1, by omega, by go_num, by rw [E1.out]; go_num, by rw [E2.out]; go_num, HB1⟩
      case measure => simp [intOf]; omega
    · have d1 : (k == 43) = false := by rw [beq_eq_false_iff_ne]; exact k1
      by_cases k2 : k = 45
      · subst k2
        have e1 := S1.out
        have e2 := S2.out
        rw [if_neg (by decide)] at e1
        rw [if_pos rfl] at e2
        have E1 := Lib.hid e1
        have E2 := Lib.hid e2
        clear e1 e2 S1 S2
        go_wp2_with fail
        go_roundw
        case rel => exact ⟨j + 1, by omega, by go_num, by rw [E1.out]; go_num, by rw [E2.out]; go_num, HB1⟩
        case measure => simp [intOf]; omega
      · have d2 : (k == 45) = false := by rw [beq_eq_false_iff_ne]; exact k2
        have e1 := S1.out
        have e2 := S2.out
        rw [if_neg k1] at e1
        rw [if_neg k2] at e2
        have E1 := Lib.hid e1
        have E2 := Lib.hid e2
        clear e1 e2 S1 S2 k1 k2
        go_wp2_with fail
        go_roundw
        case rel => exact ⟨j + 1, by omega, by go_num, by rw [E1.out]; go_num, by rw [E2.out]; go_num, HB1⟩
        case measure => simp [intOf]; omega
  · obtain rfl : j = N := by omega
    have htk : ls.take j = ls := by rw [← HN.out, List.take_length]
    rw [htk] at la lb ⊢
    have HE := Lib.hid (HEnd.out _ _ rfl rfl)
    generalize (notK 43 ls).length = na at *
    generalize (notK 45 ls).length = nb at *
    have hk := HK0.out.below HB.out
    obtain ⟨k0, k1, k2, -, -⟩ := blk3 hk
    have HBd : Hid (Below w.heap.size w wr.drew) := Lib.hid HBw.out.drew
    have HKd : Hid (Blk wr.drew w.heap.size tPh [.int .i64 o, .int .i64 n, .slice A j c]) := Lib.hid hk
    have l1 : (M o na).size ≤ 43 := by rw [HM.out, Tx.size_mk]; exact fmtR_len o na
    have l2 : (M n nb).size ≤ 43 := by rw [HM.out, Tx.size_mk]; exact fmtR_len n nb
    have q1 : ¬ (9223372036854775807 < 4 + (M o na).size) := by omega
    have q2 : ¬ (9223372036854775807 < 4 + (M o na).size + 2) := by omega
    have q3 : ¬ (9223372036854775807 < 4 + (M o na).size + 2 + (M n nb).size) := by omega
    have q4 : ¬ (9223372036854775807 < 4 + (M o na).size + 2 + (M n nb).size + 4) := by omega
    clear hk
    have HKp : Hid (∀ V : World, Below w.heap.size w V → Below wr.heap.size wr V → V.cell? ⟨w.heap.size, 0, none⟩ = some (.int .i64 o) ∧ V.cell? ⟨w.heap.size, 1, none⟩ = some (.int .i64 n)) := Lib.hid (fun V _ hV => by
     have h := HKd.out.below (show Below wr.drew.heap.size wr.drew V from ⟨hV.os, hV.tape, hV.output, hV.size, hV.block⟩)
     exact ⟨h.cell (k := 0) (show 0 < 3 by decide), h.cell (k := 1) (show 1 < 3 by decide)⟩)
    have HBr : Hid (Below wr.heap.size wr wr.drew) := Lib.hid (Below.refl _ wr).drew
    have hwr := HBw.out.size
    go_upto_region 10 with fail
    go_region_held3 (fun V => V.cell? ⟨w.heap.size, 0, none⟩ = some (.int .i64 o) ∧ V.cell? ⟨w.heap.size, 1, none⟩ = some (.int .i64 n))
     (first | go_keep | exact HKp.out _ HBd.out HBr.out)
     ((go_at_call 120; refine (HF.out _ _ _ HBd.out (by first | exact ho | exact hn) (by omega)).mono ?_; rintro e w' ⟨rfl, hb⟩; have HBr := Lib.hid (HBr.out.trans (hb.mono HBr.out.size)); have HBd := Lib.hid (HBd.out.trans (hb.mono HBd.out.size)); clear hb))
    all_goals
     go_wp2_with fail
     go_ret
     exact ⟨congrArg (fun s => Ending.returned (.string s)) HE.out, HBd.out⟩
end Uf
end Go.Proofs.YtjecfmbecgpbmaaGreatDoor

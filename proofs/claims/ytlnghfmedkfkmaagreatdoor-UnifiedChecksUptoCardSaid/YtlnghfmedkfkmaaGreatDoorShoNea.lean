/-
  The verifier's Near: some blob, not much longer. Conditions: short blobs.
-/
import Derived.Test.YtlnghfmedkfkmaaGreatDoorShoBlb
import Derived.Test.YtlnghfmedkfkmaaGreatDoorGTextBase
namespace Go.Proofs.YtlnghfmedkfkmaaGreatDoor
namespace Au
end Au
namespace Cm
end Cm
namespace Sc
end Sc
open Go.RowKit
namespace Sh
open Cm Sc Au
theorem lns_take {l : List (List UInt8)} {i : Nat} (h : i < l.length) : (l.take (i + 1)).flatten.length = (l.take i).flatten.length + l[i].length := by
  rw [List.take_succ_eq_append_getElem h, List.flatten_append]
  simp
theorem lns_all (L : List UInt8) (i : Nat) : ((Tx.linesF L).take i).flatten.length ≤ L.length := by
  have h := congrArg List.length (Tx.linesF_flatten L)
  have h2 : ((Tx.linesF L).take i).flatten.length + ((Tx.linesF L).drop i).flatten.length = (Tx.linesF L).flatten.length := by
    rw [← List.length_append, ← List.flatten_append, List.take_append_drop]
  omega
set_option maxRecDepth 100000 in
set_option maxHeartbeats 8000000 in
theorem Near_any (s : ByteArray) (v : Value) (us : List Int) (fr : Int) (w : World) (h : RdV w v (intsV us)) (hu : us.length ≤ maxLen) (hs : s.size ≤ 1000) (hf : 0 ≤ fr ∧ fr ≤ 1000) :
    Calls Tryz.prog 13 #[.string s, v, .int .i64 fr] w (Tx.SomeStr (5 * s.size) w) := by
  have HAt := Lib.hid (fun (wq : World) (k : Int) (hb : Below w.heap.size w wq) (h0 : 0 ≤ k) (h1 : k ≤ 1000000) => At_fn v us k wq (h.below hb) hu h0 h1)
  have HLi := Lib.hid (fun w => Tx.LinesR_any s w (by omega))
  obtain ⟨f0, f1⟩ := hf
  obtain ⟨A, c, rfl⟩ := h.form
  clear h hu
  rw [intsV_len] at HAt ⊢
  generalize us.length = nu at *
  have HF : Hid (∀ k, -9223372036854775808 ≤ atF us k ∧ atF us k ≤ 9223372036854775807) := Lib.hid (fun k => ⟨atF_lo us k, atF_hi us k⟩)
  generalize atF us = F at *
  have hN := Tx.linesF_le (Tx.bs s)
  rw [Tx.bs_len] at hN
  have HTk := Lib.hid (fun i h => lns_take (l := Tx.linesF (Tx.bs s)) (i := i) h)
  have HAl := Lib.hid (lns_all (Tx.bs s))
  rw [Tx.bs_len] at HAl
  go_enter Tryz.func13, Tryz.ntmps13
  go_wp2_with fail
  refine (HLi.out _).mono ?_
  rintro e w1 ⟨vl, rfl, hol, hb1⟩
  have HB1 := Lib.hid hb1
  have HR1 := Lib.hid (RdV.of_own (us := Tx.strsV (Tx.linesF (Tx.bs s))) hol)
  obtain ⟨Al, cl, rfl⟩ := own_form hol
  clear hb1 hol HLi
  generalize Tx.linesF (Tx.bs s) = ls at *
  obtain ⟨N, hNn⟩ : ∃ N, N = ls.length := ⟨_, rfl⟩
  have HNn := Lib.hid hNn
  rw [← hNn] at hN HR1 ⊢
  clear hNn
  go_wp2_with fail
  go_loopw [8, 9] (fun s' i' wr => ∃ (i : Nat) (acc : ByteArray), i ≤ N ∧ s' = .string acc ∧ i' = .int .i64 (i : Int) ∧ Hid (acc.size ≤ 4 * i + (ls.take i).flatten.length) ∧ Hid (Below w1.heap.size w1 wr)) (fun _ i' _ => N - (intOf i').toNat)
  case atStart => exact ⟨0, ⟨#[]⟩, Nat.zero_le _, rfl, rfl, Lib.hid (Nat.zero_le _), Lib.hid (Below.refl _ _)⟩
  case round =>
    obtain ⟨i, acc, hi, rfl, rfl, HSz, HBl⟩ := hrel
    have HBw := Lib.hid (HB1.out.trans (HBl.out.mono HB1.out.size))
    by_cases hlt : i < N
    · have hx : i < ls.length := by rw [← HNn.out]; exact hlt
      have i0 : (0 : Int) ≤ (i : Int) := by omega
      have i1 : (i : Int) < (N : Int) := by omega
      have htk := HTk.out i hx
      have hal := HAl.out i
      have hal2 := HAl.out (i + 1)
      have hsz := HSz.out
      obtain ⟨li, hli⟩ : ∃ li : ByteArray, li = ByteArray.mk ls[i].toArray := ⟨_, rfl⟩
      have hls : li.size = ls[i].length := by rw [hli]; exact Tx.size_mk _
      have HCl : Hid (∀ wq, Below w1.heap.size w1 wq → ∃ b off, Al = some ⟨b, off, none⟩ ∧ wq.cell? ⟨b, off + i, none⟩ = some (.string li)) := Lib.hid (fun wq hb => by
        obtain ⟨q1, b, off, e, hc⟩ := (HR1.out.below hb).at (by rw [Tx.strsV_len]; omega)
        refine ⟨b, off, e, ?_⟩
        rw [hc i (by rw [Tx.strsV_len]; exact hx), hli]
        simp [Tx.strsV])
      have z1 := HF.out (fr + i)
      have y1 := HF.out (fr + 40 + i)
      have HLn := Lib.hid (fun w => Tx.Line_any (F (fr + 40 + i)) w y1.1 y1.2)
      have HSk : Hid (acc.size ≤ 4 * (i + 1) + (ls.take (i + 1)).flatten.length) := Lib.hid (by omega)
      have HS2 : Hid (∀ xx : ByteArray, xx.size ≤ 3 → (acc ++ xx ++ ByteArray.mk #[10] ++ li).size ≤ 4 * (i + 1) + (ls.take (i + 1)).flatten.length) := Lib.hid (fun xx hxx => by
        simp only [ByteArray.size_append]
        have : (ByteArray.mk #[10]).size = 1 := rfl
        omega)
      have HS3 : Hid ((acc ++ li).size ≤ 4 * (i + 1) + (ls.take (i + 1)).flatten.length) := Lib.hid (by
        simp only [ByteArray.size_append]
        omega)
      have hb0 : acc.size ≤ 10000 := by omega
      have hb1 : li.size ≤ 10000 := by omega
      clear htk hal hal2 hsz hls hli hx y1
      obtain ⟨z2, z3⟩ := z1
      by_cases h3 : (F (fr + i)).tmod 6 = 0
      · have q3 : ((F (fr + i)).tmod 6 == 0) = true := by rw [beq_iff_eq]; exact h3
        clear h3
        go_wp2_with (go_at_call 36; refine (HAt.out _ _ HBw.out (by omega) (by omega)).mono ?_; rintro e w7 ⟨rfl, rfl⟩)
        go_roundw
        case rel => exact ⟨i + 1, acc, by omega, rfl, by go_num, HSk, HBl⟩
        case measure => simp [intOf]; omega
      · have q3 : ((F (fr + i)).tmod 6 == 0) = false := by rw [Bool.eq_false_iff]; intro hh; rw [beq_iff_eq] at hh; exact h3 hh
        by_cases h4 : (F (fr + i)).tmod 6 = 1
        · have q4 : ((F (fr + i)).tmod 6 == 1) = true := by rw [beq_iff_eq]; exact h4
          clear h3 h4
          go_wp2_with (first
            | (go_at_call 36; refine (HAt.out _ _ HBw.out (by omega) (by omega)).mono ?_; rintro e w7 ⟨rfl, rfl⟩)
            | (go_at_call 37; refine (HLn.out _).mono ?_; rintro e w2 ⟨xx, hxx, rfl, hb⟩; have HB2 := Lib.hid (HBl.out.trans (hb.mono HBl.out.size)); have HS4 := Lib.hid (HS2.out xx hxx); obtain ⟨b2, o2, rfl, c2⟩ := HCl.out _ HB2.out; clear hb))
          go_roundw
          case rel => exact ⟨i + 1, _, by omega, rfl, by go_num, HS4, HB2⟩
          case measure => simp [intOf]; omega
        · have q4 : ((F (fr + i)).tmod 6 == 1) = false := by rw [Bool.eq_false_iff]; intro hh; rw [beq_iff_eq] at hh; exact h4 hh
          clear h3 h4
          obtain ⟨b2, o2, rfl, c2⟩ := HCl.out _ HBl.out
          go_wp2_with (go_at_call 36; refine (HAt.out _ _ HBw.out (by omega) (by omega)).mono ?_; rintro e w7 ⟨rfl, rfl⟩)
          go_roundw
          case rel => exact ⟨i + 1, _, by omega, rfl, by go_num, HS3, HBl⟩
          case measure => simp [intOf]; omega
    · have hd : decide (i < N) = false := by rw [decide_eq_false_iff_not]; omega
      have hal := HAl.out i
      have hsz := HSz.out
      have HFn : Hid (acc.size ≤ 5 * s.size) := Lib.hid (by omega)
      clear hal hsz
      go_wp2_with fail
      go_ret
      exact ⟨acc, HFn.out, rfl, HBw.out⟩
end Sh
end Go.Proofs.YtlnghfmedkfkmaaGreatDoor

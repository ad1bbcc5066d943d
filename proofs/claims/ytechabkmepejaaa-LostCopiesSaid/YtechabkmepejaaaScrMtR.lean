/-
  The reference's Matched, Pairs. Conditions: the fields of the changes are numbers of lines, as few pairs as the laws have.
-/
import Derived.Test.YtechabkmepejaaaScrMade
import Derived.Test.YtechabkmepejaaaScrCk
namespace Go.Proofs.Ytechabkmepejaaa
open Go.RowKit
namespace Sc
open Cm
theorem mt_small {m n : Int} {l : List Ch} (hm : inI m) (hn : inI n) (h : OkL true 0 0 l m n) : (mtF m 0 0 l).length ≤ 4096 := by
  have h1 := (mt_len l true 0 0 hm hn hm.1 (fun _ => rfl) h).1
  have h2 := (szO_bd l).1
  have h3 := hm.2
  omega
set_option maxRecDepth 100000 in
set_option maxHeartbeats 8000000 in
theorem Matched_any (v : Value) (l : List Ch) (m n : Int) (w : World) (h : RdC w v l) (hl : l.length ≤ 1000000) (hm : inI m) (hn : inI n) (hok : OkL true 0 0 l m n) :
    Calls Try.prog 29 #[v, .int .i64 m] w (NewS (mtF m 0 0 l) w) := by
  obtain ⟨A, cp, rfl⟩ := h.form
  have HR := Lib.hid h
  have HSm : Hid ((mtF m 0 0 l).length ≤ 100000) := Lib.hid (by have := mt_small hm hn hok; omega)
  have HOk := Lib.hid hok
  obtain ⟨m0, m1⟩ := hm
  obtain ⟨n0, n1⟩ := hn
  clear h hok
  generalize hN : l.length = N at hl ⊢
  have HN := Lib.hid hN
  clear hN
  go_enter Try.func29, Try.ntmps29
  go_wp2_with fail
  go_loopw [5, 6, 7, 8] (fun s' i' j' k' wr => ∃ (k : Nat) (i j : Int) (dn : List Sp), k ≤ N ∧ k' = .int .i64 (k : Int) ∧ i' = .int .i64 i ∧ j' = .int .i64 j ∧ (0 ≤ i ∧ i ≤ m) ∧ (0 ≤ j ∧ j ≤ n) ∧ Hid ((k = 0 → i = 0) ∧ OkL (k == 0) i j (l.drop k) m n) ∧ Hid (OwnS w.heap.size wr s' dn) ∧ Hid (Below w.heap.size w wr) ∧ Hid (dn ++ mtF m i j (l.drop k) = mtF m 0 0 l)) (fun _ _ _ k' _ => N - (intOf k').toNat)
  case atStart => exact ⟨0, 0, 0, [], Nat.zero_le _, rfl, rfl, rfl, ⟨by omega, by omega⟩, ⟨by omega, by omega⟩, Lib.hid ⟨fun _ => rfl, HOk.out⟩, Lib.hid (OwnS.nil _ _), Lib.hid (Below.refl _ _), Lib.hid rfl⟩
  case round =>
    obtain ⟨wo, rfl⟩ : ∃ wo, wo = wr := ⟨wr, rfl⟩
    obtain ⟨k, i, j, dn, hk, rfl, rfl, rfl, ⟨i0, i1⟩, ⟨j0, j1⟩, HV, HO, HBl, HP⟩ := hrel
    by_cases hlt : k < N
    · have hx : k < l.length := by rw [HN.out]; exact hlt
      have hv := HV.out.2
      rw [drop_at hx] at hv
      obtain ⟨⟨⟨⟨o0, l0, o1⟩, ⟨w0, v0, w1⟩, hne⟩, hdf, hfst⟩, hnxt⟩ := hv
      have hio : i ≤ l[k].old := by
        by_cases hk0 : k = 0
        · have := HV.out.1 hk0; omega
        · have := hfst (by simpa using hk0); omega
      have HNv := Lib.hid hnxt
      clear hne hfst hnxt HV
      have HCl : Hid (∀ wq, Below w.heap.size w wq → ∃ b off, A = some ⟨b, off, none⟩ ∧ wq.cell? ⟨b, off + k * 4, none⟩ = some (.int .i64 l[k].old) ∧ wq.cell? ⟨b, off + k * 4 + 1, none⟩ = some (.int .i64 l[k].oldLen) ∧ wq.cell? ⟨b, off + k * 4 + 2, none⟩ = some (.int .i64 l[k].new) ∧ wq.cell? ⟨b, off + k * 4 + 3, none⟩ = some (.int .i64 l[k].newLen)) := Lib.hid (fun wq hb => RdC_at (HR.out.below hb) k hx)
      have HP2 : Hid (dn ++ (run i j (l[k].old - i).toNat ++ mtF m (l[k].old + l[k].oldLen) (l[k].new + l[k].newLen) (l.drop (k + 1))) = mtF m 0 0 l) := Lib.hid (by have := HP.out; rw [drop_at hx] at this; exact this)
      clear HP
      generalize l[k] = c at *
      obtain ⟨o, ol, nw, nl⟩ := c
      simp only at o0 o1 l0 w0 w1 v0 hdf hio
      have dk : decide (k < N) = true := decide_eq_true hlt
      have q1 : (0 : Int) ≤ (k : Int) := by omega
      have q2 : (k : Int) < (N : Int) := by omega
      generalize hT : (o - i).toNat = T at HP2
      have ht1 : o - i ≤ (T : Int) := by omega
      have HT := Lib.hid hT
      have ht2 : 0 < T → (T : Int) = o - i := by omega
      have ht4 : i + (T : Int) = o := by omega
      have ht5 : j + (T : Int) = nw := by omega
      have HT4 := Lib.hid (And.intro ht4 ht5)
      have ht3 : (T : Int) ≤ 4096 := by omega
      have HT2 := Lib.hid ht2
      clear hT ht2 ht4 ht5 hdf
      go_wp2_with fail
      go_loopw [5, 6, 7] (fun s' i' j' wr => ∃ (t : Nat), i' = .int .i64 (i + (t : Int)) ∧ j' = .int .i64 (j + (t : Int)) ∧ t ≤ T ∧ Hid (OwnS w.heap.size wr s' (dn ++ run i j t)) ∧ Hid (Below w.heap.size w wr)) (fun _ i' _ _ => (o - intOf i').toNat)
      case atStart => exact ⟨0, by rw [show i + ((0 : Nat) : Int) = i from by omega], by rw [show j + ((0 : Nat) : Int) = j from by omega], Nat.zero_le _, Lib.hid (by rw [run_zero, List.append_nil]; exact HO.out), HBl⟩
      case round =>
        obtain ⟨t, rfl, rfl, ht, HO1, HB1⟩ := hrel
        clear HO HBl
        obtain ⟨b, off, rfl, c0, c1, c2, c3⟩ := HCl.out wr HB1.out
        by_cases hlt1 : t < T
        · have e1 := HT2.out (by omega)
          have d1 : decide (i + (t : Int) < o) = true := decide_eq_true (by omega)
          have HLn : Hid ((dn ++ run i j t).length + 1 ≤ 1000000) := Lib.hid (by
            have h1 := HP2.out
            have h2 := HSm.out
            rw [← h1] at h2
            simp only [List.length_append, run_len] at h2 ⊢
            omega)
          have b1 : i + (t : Int) ≤ 20000 := by omega
          have b2 : j + (t : Int) ≤ 20000 := by omega
          have b3 : 0 ≤ i + (t : Int) := by omega
          have b4 : 0 ≤ j + (t : Int) := by omega
          have HE1 := Lib.hid e1
          clear e1
          go_wp2_with (at_builtin; refine app_sp rfl (.tmp 22) (.tmp 26) rfl w.heap.size (dn ++ run i j t) ⟨i + (t : Int), j + (t : Int)⟩ _ _ rfl HO1.out rfl rfl rfl HLn.out HB1.out.size ?_; intro v3 w3 ho3 hb3 _; have HO3 := Lib.hid ho3; have HB3 := Lib.hid (HB1.out.trans hb3); clear ho3 hb3)
          go_roundw
          case rel => exact ⟨t + 1, by rw [show i + ((t + 1 : Nat) : Int) = i + (t : Int) + 1 from by omega], by rw [show j + ((t + 1 : Nat) : Int) = j + (t : Int) + 1 from by omega], by omega, Lib.hid (by rw [run_snoc, ← List.append_assoc]; exact HO3.out), HB3⟩
          case measure => have e1 := HE1.out; simp [intOf]; omega
        · have htT : t = T := by omega
          have d1 : decide (i + (t : Int) < o) = false := decide_eq_false (by omega)
          have HNx : Hid (dn ++ run i j t ++ mtF m (o + ol) (nw + nl) (l.drop (k + 1)) = mtF m 0 0 l) := Lib.hid (by rw [htT, List.append_assoc]; exact HP2.out)
          obtain ⟨e4, e5⟩ := HT4.out
          have e6 : i + (t : Int) + ol = o + ol := by rw [htT, e4]
          have e7 : j + (t : Int) + nl = nw + nl := by rw [htT, e5]
          have HE6 := Lib.hid (And.intro e6 e7)
          clear htT e4 e5 e6 e7
          have b1 : i + (t : Int) ≤ 20000 := by omega
          have b2 : j + (t : Int) ≤ 20000 := by omega
          go_wp2_with fail
          go_quiet (fail)
          go_wp2_with fail
          go_roundw
          case rel => exact ⟨k + 1, o + ol, nw + nl, _, by omega, by go_num, by rw [HE6.out.1], by rw [HE6.out.2], ⟨by omega, by omega⟩, ⟨by omega, by omega⟩, Lib.hid ⟨fun h => absurd h (Nat.succ_ne_zero _), HNv.out⟩, Lib.hid (HO1.out.drewN _), Lib.hid (below_drewN HB1.out _), HNx⟩
          case measure => simp [intOf]; omega
    · have dk : decide (k < N) = false := decide_eq_false hlt
      generalize hT : (m - i).toNat = T
      have ht1 : m - i ≤ (T : Int) := by omega
      have ht3 : (T : Int) ≤ 4096 := by omega
      have HT2 : Hid (0 < T → (T : Int) = m - i) := Lib.hid (by omega)
      have HP2 : Hid (dn ++ run i j T = mtF m 0 0 l) := Lib.hid (by
        have h := HP.out
        rw [List.drop_eq_nil_of_le (by rw [HN.out]; omega)] at h
        rw [← hT]; exact h)
      clear hT HP HV
      go_wp2_with fail
      go_loopw [5, 6, 7] (fun s' i' j' wr => ∃ (t : Nat), i' = .int .i64 (i + (t : Int)) ∧ j' = .int .i64 (j + (t : Int)) ∧ t ≤ T ∧ Hid (OwnS w.heap.size wr s' (dn ++ run i j t)) ∧ Hid (Below w.heap.size w wr)) (fun _ i' _ _ => (m - intOf i').toNat)
      case atStart => exact ⟨0, by rw [show i + ((0 : Nat) : Int) = i from by omega], by rw [show j + ((0 : Nat) : Int) = j from by omega], Nat.zero_le _, Lib.hid (by rw [run_zero, List.append_nil]; exact HO.out), HBl⟩
      case round =>
        obtain ⟨t, rfl, rfl, ht, HO1, HB1⟩ := hrel
        clear HO HBl
        by_cases hlt1 : t < T
        · have e1 := HT2.out (by omega)
          have d1 : decide (i + (t : Int) < m) = true := decide_eq_true (by omega)
          have HLn : Hid ((dn ++ run i j t).length + 1 ≤ 1000000) := Lib.hid (by
            have h1 := HP2.out
            have h2 := HSm.out
            rw [← h1] at h2
            simp only [List.length_append, run_len] at h2 ⊢
            omega)
          have b1 : i + (t : Int) ≤ 20000 := by omega
          have b2 : j + (t : Int) ≤ 20000 := by omega
          have b3 : 0 ≤ i + (t : Int) := by omega
          have b4 : 0 ≤ j + (t : Int) := by omega
          have HE1 := Lib.hid e1
          clear e1
          go_wp2_with (at_builtin; refine app_sp rfl (.tmp 49) (.tmp 53) rfl w.heap.size (dn ++ run i j t) ⟨i + (t : Int), j + (t : Int)⟩ _ _ rfl HO1.out rfl rfl rfl HLn.out HB1.out.size ?_; intro v3 w3 ho3 hb3 _; have HO3 := Lib.hid ho3; have HB3 := Lib.hid (HB1.out.trans hb3); clear ho3 hb3)
          go_roundw
          case rel => exact ⟨t + 1, by rw [show i + ((t + 1 : Nat) : Int) = i + (t : Int) + 1 from by omega], by rw [show j + ((t + 1 : Nat) : Int) = j + (t : Int) + 1 from by omega], by omega, Lib.hid (by rw [run_snoc, ← List.append_assoc]; exact HO3.out), HB3⟩
          case measure => have e1 := HE1.out; simp [intOf]; omega
        · have htT : t = T := by omega
          have d1 : decide (i + (t : Int) < m) = false := decide_eq_false (by omega)
          subst htT
          go_wp2_with fail
          go_ret
          exact ⟨_, rfl, by rw [← HP2.out]; exact HO1.out, HB1.out⟩
end Sc
end Go.Proofs.Ytechabkmepejaaa

/-
  The program's Count. Conditions: at most a million hunks, and lines in each. The reference's Count of layer 12. Conditions: at most a million hunks, and lines in each.
-/
import Derived.Test.YtlnghfmedkfkmaaGreatDoorGUniIter
import Derived.Test.YtlnghfmedkfkmaaGreatDoorGHnkBase
import Derived.Test.YtlnghfmedkfkmaaGreatDoorUniFit
namespace Go.Proofs.YtlnghfmedkfkmaaGreatDoor
section
namespace Cm
end Cm
namespace Hn
end Hn
namespace Sc
end Sc
namespace Tx
end Tx
open Go.RowKit
namespace Uf
open Cm Hn
open Sc (RdK)
open Tx (bs)
def cntP (k : Int) (hs : List PH) : Nat := (hs.map fun h => cntK k h.lines).sum
theorem cntP_snoc (k : Int) (hs : List PH) (h : PH) : cntP k (hs ++ [h]) = cntP k hs + cntK k h.lines := by unfold cntP; simp
theorem cntK_snoc (k : Int) (ls : List Ln) (l : Ln) : cntK k (ls ++ [l]) = cntK k ls + (if l.kind = k then 1 else 0) := by
  unfold cntK
  rw [List.filter_append, List.length_append]
  by_cases h : l.kind = k
  · rw [if_pos h, List.filter_cons_of_pos (by simpa using h)]; rfl
  · rw [if_neg h, List.filter_cons_of_neg (by simpa using h)]; rfl
theorem cntK_le (k : Int) (ls : List Ln) : cntK k ls ≤ ls.length := List.length_filter_le _ _
theorem cntP_le {k : Int} : ∀ {hs : List PH}, (∀ h ∈ hs, h.lines.length ≤ 1000000) → cntP k hs ≤ hs.length * 1000000
  | [], _ => Nat.le_refl 0
  | a :: hs, h => by
    have h1 := cntP_le (k := k) (fun x hx => h x (List.mem_cons_of_mem _ hx)) (hs := hs)
    have h2 := Nat.le_trans (cntK_le k a.lines) (h a List.mem_cons_self)
    have e : cntP k (a :: hs) = cntK k a.lines + cntP k hs := by unfold cntP; simp
    rw [e, List.length_cons, Nat.succ_mul]
    omega
def CtPost (hs : List PH) (w : World) (e : Ending) (w' : World) : Prop := e = .returned (.tuple #[.int .i64 (cntP 45 hs : Nat), .int .i64 (cntP 43 hs : Nat)]) ∧ Below w.heap.size w w'
set_option maxRecDepth 100000 in
set_option maxHeartbeats 4000000 in
theorem Count_any (p : Pat) (v : Value) (w : World) (hr : RdP w v p.hunks) (hf : p.hunks.length ≤ 1000000) (hl : ∀ h ∈ p.hunks, h.lines.length ≤ 1000000) : Calls Tryz.prog 21 #[tPatV p v] w (CtPost p.hunks w) := by
  obtain ⟨on, nn, hs⟩ := p
  simp only at hr hf hl ⊢
  have HR := Lib.hid (fun w' (hb : Below w.heap.size w w') => hr.below hb)
  obtain ⟨A, c, rfl⟩ := hr.form
  have HB0 := Lib.hid ((Below.refl w.heap.size w).alloc (Nat.le_refl _) (.cells #[.string on, .string nn, .slice A hs.length c] tPat))
  have HLn := Lib.hid (fun j (h : j < hs.length) => hl _ (List.getElem_mem h))
  have HTk := Lib.hid (fun j (h : j < hs.length) k => (show cntP k (hs.take (j + 1)) = cntP k (hs.take j) + cntK k hs[j].lines by rw [List.take_succ_eq_append_getElem h, cntP_snoc]))
  have HLe := Lib.hid (fun j k => (show cntP k (hs.take j) ≤ 1000000 * 1000000 from Nat.le_trans (cntP_le (fun h hh => hl h (List.mem_of_mem_take hh))) (Nat.mul_le_mul (Nat.le_trans (by rw [List.length_take]; exact Nat.min_le_right _ _) hf) (Nat.le_refl _))))
  clear hr hl
  obtain ⟨N, hN⟩ : ∃ N, N = hs.length := ⟨_, rfl⟩
  have HN := Lib.hid hN.symm
  rw [← hN] at hf HB0 HR ⊢
  clear hN
  go_enter Tryz.func21, Tryz.ntmps21
  go_wp2_with fail
  obtain ⟨W, hW⟩ : ∃ W, W = w.alloc (.cells #[.string on, .string nn, .slice A N c] tPat) := ⟨_, rfl⟩
  rw [← hW] at HB0 ⊢
  clear hW
  go_loopw [4, 5, 13] (fun a' b' i wr => ∃ (j : Nat), j ≤ N ∧ i = .int .i64 j ∧ a' = .int .i64 (cntP 45 (hs.take j) : Nat) ∧ b' = .int .i64 (cntP 43 (hs.take j) : Nat) ∧ Hid (Below w.heap.size w wr)) (fun _ _ i _ => N - (intOf i).toNat)
  case atStart => exact ⟨0, Nat.zero_le _, rfl, rfl, rfl, HB0⟩
  case round =>
    obtain ⟨j, hj, rfl, rfl, rfl, HB⟩ := hrel
    have la := HLe.out j 45
    have lb := HLe.out j 43
    by_cases hlt : j < N
    · have hx : j < hs.length := by rw [HN.out]; exact hlt
      obtain ⟨bl, off, Al, cl, eA, c0, c1, c2, hrl⟩ := RdP_at (HR.out w (Below.refl _ _)) j hx
      obtain rfl := eA
      replace c0 := (HB.out.cell (Tx.cell_lt c0)).trans c0
      replace c1 := (HB.out.cell (Tx.cell_lt c1)).trans c1
      replace c2 := (HB.out.cell (Tx.cell_lt c2)).trans c2
      have HT1 := Lib.hid (HTk.out j hx 45)
      have HT2 := Lib.hid (HTk.out j hx 43)
      have hls := HLn.out j hx
      generalize hs[j] = h at *
      obtain ⟨ho, hn, ls⟩ := h
      simp only at c0 c1 c2 hrl hls HT1 HT2
      generalize cntP 45 (hs.take j) = na at *
      generalize cntP 43 (hs.take j) = nb at *
      have HSn := Lib.hid (fun j (h : j < ls.length) k => (show cntK k (ls.take (j + 1)) = cntK k (ls.take j) + (if ls[j].kind = k then 1 else 0) by rw [List.take_succ_eq_append_getElem h, cntK_snoc]))
      have HKl := Lib.hid (fun j k => (Nat.le_trans (cntK_le k (ls.take j)) (List.length_take_le j ls)))
      obtain ⟨M, hM⟩ : ∃ M, M = ls.length := ⟨_, rfl⟩
      have HM := Lib.hid hM.symm
      rw [← hM] at c2 hrl hls
      clear hM
      have HB1 := Lib.hid (HB.out.alloc HB.out.size (.cells #[.int .i64 ho, .int .i64 hn, .slice Al M cl] tPh))
      have HRl := Lib.hid (fun w' (hb : Below w.heap.size w w') => hrl.below hb)
      clear hrl
      have i1 : (0 : Int) ≤ (j : Int) := by omega
      have i2 : (j : Int) < (N : Int) := by omega
      go_wp2_with fail
      obtain ⟨W1, hW1⟩ : ∃ W1, W1 = wr.alloc (.cells #[.int .i64 ho, .int .i64 hn, .slice Al M cl] tPh) := ⟨_, rfl⟩
      rw [← hW1] at HB1 ⊢
      clear hW1 c0 c1 c2 HB
      go_loopw [4, 5, 20] (fun a' b' i wr => ∃ (m : Nat), m ≤ M ∧ i = .int .i64 m ∧ a' = .int .i64 ((na + cntK 45 (ls.take m) : Nat) : Int) ∧ b' = .int .i64 ((nb + cntK 43 (ls.take m) : Nat) : Int) ∧ Hid (Below w.heap.size w wr)) (fun _ _ i _ => M - (intOf i).toNat)
      case atStart => exact ⟨0, Nat.zero_le _, rfl, rfl, rfl, HB1⟩
      case round =>
        obtain ⟨m, hm, rfl, rfl, rfl, HB⟩ := hrel
        have lc := HKl.out m 45
        have ld := HKl.out m 43
        by_cases hlt2 : m < M
        · have hx2 : m < ls.length := by rw [HM.out]; exact hlt2
          obtain ⟨b2, off2, eA, c0, c1⟩ := RdL_at (HRl.out wr HB.out) m hx2
          obtain rfl := eA
          have s1 := HSn.out m hx2 45
          have s2 := HSn.out m hx2 43
          generalize ls[m].kind = k at *
          generalize ls[m].text = t at *
          generalize cntK 45 (ls.take m) = ma at *
          generalize cntK 43 (ls.take m) = mb at *
          have HB2 := Lib.hid (HB.out.alloc HB.out.size (.cells #[.int .u8 k, .string t] tLn))
          have i3 : (0 : Int) ≤ (m : Int) := by omega
          have i4 : (m : Int) < (M : Int) := by omega
          by_cases k1 : k = 45
          · subst k1
            rw [if_pos rfl] at s1
            rw [if_neg (by decide)] at s2
            have E1 := Lib.hid s1
            have E2 := Lib.hid s2
            clear s1 s2
            go_wp2_with fail
            go_roundw
            case rel => exact ⟨m + 1, by omega, by go_num, by rw [E1.out]; go_num, by rw [E2.out]; go_num, HB2⟩
            case measure => simp [intOf]; omega
          · have d1 : (k == 45) = false := by rw [beq_eq_false_iff_ne]; exact k1
            by_cases k2 : k = 43
            · subst k2
              rw [if_neg (by decide)] at s1
              rw [if_pos rfl] at s2
              have E1 := Lib.hid s1
              have E2 := Lib.hid s2
              clear s1 s2
              go_wp2_with fail
              go_roundw
              case rel => exact ⟨m + 1, by omega, by go_num, by rw [E1.out]; go_num, by rw [E2.out]; go_num, HB2⟩
              case measure => simp [intOf]; omega
            · have d2 : (k == 43) = false := by rw [beq_eq_false_iff_ne]; exact k2
              rw [if_neg k1] at s1
              rw [if_neg k2] at s2
              have E1 := Lib.hid s1
              have E2 := Lib.hid s2
              clear s1 s2 k1 k2
              go_wp2_with fail
              go_roundw
              case rel => exact ⟨m + 1, by omega, by go_num, by rw [E1.out]; go_num, by rw [E2.out]; go_num, HB2⟩
              case measure => simp [intOf]; omega
        · obtain rfl : m = M := by omega
          have htk : ls.take m = ls := by rw [← HM.out, List.take_length]
          rw [htk] at lc ld ⊢
          have E1 : Hid (cntP 45 (hs.take (j + 1)) = na + cntK 45 ls) := HT1
          have E2 : Hid (cntP 43 (hs.take (j + 1)) = nb + cntK 43 ls) := HT2
          clear htk
          generalize cntK 45 ls = ma at *
          generalize cntK 43 ls = mb at *
          go_wp2_with fail
          go_roundw
          case rel => exact ⟨j + 1, by omega, by go_num, by rw [E1.out], by rw [E2.out], HB⟩
          case measure => simp [intOf]; omega
    · obtain rfl : j = N := by omega
      have htk : hs.take j = hs := by rw [← HN.out, List.take_length]
      have HFin : Hid (∀ a b, a = cntP 45 (hs.take j) → b = cntP 43 (hs.take j) → CtPost hs w (.returned (.tuple #[.int .i64 (a : Nat), .int .i64 (b : Nat)])) wr) := Lib.hid (by rw [htk]; rintro _ _ rfl rfl; exact ⟨rfl, HB.out⟩)
      have HFin2 := Lib.hid (HFin.out _ _ rfl rfl)
      clear HFin htk
      generalize cntP 45 (hs.take j) = na at *
      generalize cntP 43 (hs.take j) = nb at *
      go_wp2_with fail
      go_ret2
      exact HFin2.out
end Uf
end
section
namespace Cm
end Cm
namespace Hn
end Hn
namespace Sc
end Sc
namespace Tx
end Tx
open Go.RowKit
namespace Uf
open Cm Hn
open Sc (RdK)
open Tx (bs)
set_option maxRecDepth 100000 in
set_option maxHeartbeats 4000000 in
theorem CountR_any (p : Pat) (v : Value) (w : World) (hr : RdP w v p.hunks) (hf : p.hunks.length ≤ 1000000) (hl : ∀ h ∈ p.hunks, h.lines.length ≤ 1000000) : Calls Tryz.prog 22 #[tPatV p v] w (CtPost p.hunks w) := by
  obtain ⟨on, nn, hs⟩ := p
  simp only at hr hf hl ⊢
  have HR := Lib.hid (fun w' (hb : Below w.heap.size w w') => hr.below hb)
  obtain ⟨A, c, rfl⟩ := hr.form
  have HB0 := Lib.hid ((Below.refl w.heap.size w).alloc (Nat.le_refl _) (.cells #[.string on, .string nn, .slice A hs.length c] tPat))
  have HLn := Lib.hid (fun j (h : j < hs.length) => hl _ (List.getElem_mem h))
  have HTk := Lib.hid (fun j (h : j < hs.length) k => (show cntP k (hs.take (j + 1)) = cntP k (hs.take j) + cntK k hs[j].lines by rw [List.take_succ_eq_append_getElem h, cntP_snoc]))
  have HLe := Lib.hid (fun j k => (show cntP k (hs.take j) ≤ 1000000 * 1000000 from Nat.le_trans (cntP_le (fun h hh => hl h (List.mem_of_mem_take hh))) (Nat.mul_le_mul (Nat.le_trans (by rw [List.length_take]; exact Nat.min_le_right _ _) hf) (Nat.le_refl _))))
  clear hr hl
  obtain ⟨N, hN⟩ : ∃ N, N = hs.length := ⟨_, rfl⟩
  have HN := Lib.hid hN.symm
  rw [← hN] at hf HB0 HR ⊢
  clear hN
  go_enter Tryz.func22, Tryz.ntmps22
  go_wp2_with fail
  have HK0 : Hid (Blk (w.alloc (.cells #[.string on, .string nn, .slice A N c] tPat)) w.heap.size tPat [.string on, .string nn, .slice A N c]) := Lib.hid (heap_new w _)
  obtain ⟨W, hW⟩ : ∃ W, W = w.alloc (.cells #[.string on, .string nn, .slice A N c] tPat) := ⟨_, rfl⟩
  rw [← hW] at HB0 HK0 ⊢
  clear hW
  obtain ⟨k0, k1, k2, -, -⟩ := blk3 HK0.out
  go_loopw [4, 5, 6] (fun a' b' i wr => ∃ (j : Nat), j ≤ N ∧ i = .int .i64 j ∧ a' = .int .i64 (cntP 45 (hs.take j) : Nat) ∧ b' = .int .i64 (cntP 43 (hs.take j) : Nat) ∧ wr = W) (fun _ _ i _ => N - (intOf i).toNat)
  case atStart => exact ⟨0, Nat.zero_le _, rfl, rfl, rfl, rfl⟩
  case round =>
    obtain ⟨j, hj, rfl, rfl, rfl, rfl⟩ := hrel
    have HB := HB0
    have la := HLe.out j 45
    have lb := HLe.out j 43
    by_cases hlt : j < N
    · have hx : j < hs.length := by rw [HN.out]; exact hlt
      obtain ⟨bl, off, Al, cl, eA, c0, c1, c2, hrl⟩ := RdP_at (HR.out w (Below.refl _ _)) j hx
      obtain rfl := eA
      replace c0 := (HB.out.cell (Tx.cell_lt c0)).trans c0
      replace c1 := (HB.out.cell (Tx.cell_lt c1)).trans c1
      replace c2 := (HB.out.cell (Tx.cell_lt c2)).trans c2
      have HT1 := Lib.hid (HTk.out j hx 45)
      have HT2 := Lib.hid (HTk.out j hx 43)
      have hls := HLn.out j hx
      generalize hs[j] = h at *
      obtain ⟨ho, hn, ls⟩ := h
      simp only at c0 c1 c2 hrl hls HT1 HT2
      generalize cntP 45 (hs.take j) = na at *
      generalize cntP 43 (hs.take j) = nb at *
      have HSn := Lib.hid (fun j (h : j < ls.length) k => (show cntK k (ls.take (j + 1)) = cntK k (ls.take j) + (if ls[j].kind = k then 1 else 0) by rw [List.take_succ_eq_append_getElem h, cntK_snoc]))
      have HKl := Lib.hid (fun j k => (Nat.le_trans (cntK_le k (ls.take j)) (List.length_take_le j ls)))
      obtain ⟨M, hM⟩ : ∃ M, M = ls.length := ⟨_, rfl⟩
      have HM := Lib.hid hM.symm
      rw [← hM] at c2 hrl hls
      clear hM
      have HRl := Lib.hid (fun w' (hb : Below w.heap.size w w') => hrl.below hb)
      clear hrl
      have i1 : (0 : Int) ≤ (j : Int) := by omega
      have i2 : (j : Int) < (N : Int) := by omega
      go_wp2_with fail
      go_loopw [4, 5, 7] (fun a' b' i wq => ∃ (m : Nat), m ≤ M ∧ i = .int .i64 m ∧ a' = .int .i64 ((na + cntK 45 (ls.take m) : Nat) : Int) ∧ b' = .int .i64 ((nb + cntK 43 (ls.take m) : Nat) : Int) ∧ wq = wr) (fun _ _ i _ => M - (intOf i).toNat)
      case atStart => exact ⟨0, Nat.zero_le _, rfl, rfl, rfl, rfl⟩
      case round =>
        obtain ⟨m, hm, rfl, rfl, rfl, rfl⟩ := hrel
        have lc := HKl.out m 45
        have ld := HKl.out m 43
        by_cases hlt2 : m < M
        · have hx2 : m < ls.length := by rw [HM.out]; exact hlt2
          obtain ⟨b2, off2, eA, d0, d1x⟩ := RdL_at (HRl.out _ HB0.out) m hx2
          obtain rfl := eA
          have s1 := HSn.out m hx2 45
          have s2 := HSn.out m hx2 43
          generalize ls[m].kind = k at *
          generalize ls[m].text = t at *
          generalize cntK 45 (ls.take m) = ma at *
          generalize cntK 43 (ls.take m) = mb at *
          have i3 : (0 : Int) ≤ (m : Int) := by omega
          have i4 : (m : Int) < (M : Int) := by omega
          by_cases k1 : k = 45
          · subst k1
            rw [if_pos rfl] at s1
            rw [if_neg (by decide)] at s2
            have E1 := Lib.hid s1
            have E2 := Lib.hid s2
            clear s1 s2
            go_wp2_with fail
            go_roundw
            case rel => exact ⟨m + 1, by omega, by go_num, by rw [E1.out]; go_num, by rw [E2.out]; go_num, trivial⟩
            case measure => simp [intOf]; omega
          · have d1 : (k == 45) = false := by rw [beq_eq_false_iff_ne]; exact k1
            by_cases k2 : k = 43
            · subst k2
              rw [if_neg (by decide)] at s1
              rw [if_pos rfl] at s2
              have E1 := Lib.hid s1
              have E2 := Lib.hid s2
              clear s1 s2
              go_wp2_with fail
              go_roundw
              case rel => exact ⟨m + 1, by omega, by go_num, by rw [E1.out]; go_num, by rw [E2.out]; go_num, trivial⟩
              case measure => simp [intOf]; omega
            · have d2 : (k == 43) = false := by rw [beq_eq_false_iff_ne]; exact k2
              rw [if_neg k1] at s1
              rw [if_neg k2] at s2
              have E1 := Lib.hid s1
              have E2 := Lib.hid s2
              clear s1 s2 k1 k2
              go_wp2_with fail
              go_roundw
              case rel => exact ⟨m + 1, by omega, by go_num, by rw [E1.out]; go_num, by rw [E2.out]; go_num, trivial⟩
              case measure => simp [intOf]; omega
        · obtain rfl : m = M := by omega
          have htk : ls.take m = ls := by rw [← HM.out, List.take_length]
          rw [htk] at lc ld ⊢
          have E1 : Hid (cntP 45 (hs.take (j + 1)) = na + cntK 45 ls) := HT1
          have E2 : Hid (cntP 43 (hs.take (j + 1)) = nb + cntK 43 ls) := HT2
          clear htk
          generalize cntK 45 ls = ma at *
          generalize cntK 43 ls = mb at *
          go_wp2_with fail
          go_roundw
          case rel => exact ⟨j + 1, by omega, by go_num, by rw [E1.out], by rw [E2.out], trivial⟩
          case measure => simp [intOf]; omega
    · obtain rfl : j = N := by omega
      have htk : hs.take j = hs := by rw [← HN.out, List.take_length]
      have HFin : Hid (∀ a b, a = cntP 45 (hs.take j) → b = cntP 43 (hs.take j) → CtPost hs w (.returned (.tuple #[.int .i64 (a : Nat), .int .i64 (b : Nat)])) wr) := Lib.hid (by rw [htk]; rintro _ _ rfl rfl; exact ⟨rfl, HB.out⟩)
      have HFin2 := Lib.hid (HFin.out _ _ rfl rfl)
      clear HFin htk
      generalize cntP 45 (hs.take j) = na at *
      generalize cntP 43 (hs.take j) = nb at *
      go_wp2_with fail
      go_ret2
      exact HFin2.out
end Uf
end
end Go.Proofs.YtlnghfmedkfkmaaGreatDoor

/-
  The program's reversed lines of layer 14. Condition: at most 100000 lines.
-/
import Derived.Test.YtjecfmbecgpbmaaGreatDoorGPatB
import Derived.Test.YtjecfmbecgpbmaaGreatDoorGTextBase
import Derived.Test.YtjecfmbecgpbmaaGreatDoorGHnkRefG
namespace Go.Proofs.YtjecfmbecgpbmaaGreatDoor
namespace Cm
end Cm
namespace Hn
end Hn
namespace Sc
end Sc
namespace Tx
end Tx
namespace Uf
end Uf
open Go.RowKit
namespace Pa
open Cm Uf Hn
open Sc (RdK flatK flatK_len ownK_below)
open Tx (bs)
/-- One cell of an owned slice of lines is written. -/
theorem lns_put {base g N c : Nat} {w : World} {l : List Ln} (h : OwnL base w (.slice (some ⟨g, 0, none⟩) N c) l) (k : Nat) (hk : k < l.length) (z : Int) :
    OwnL base (w.setCell ⟨g, k * 2, none⟩ (.int .u8 z)) (.slice (some ⟨g, 0, none⟩) N c) (l.set k ⟨z, l[k].text⟩) := by
  have h0 : w.ownsRow base tLn 2 (.slice (some ⟨g, 0, none⟩) N c) l.length (flatK lineC l) := h
  rcases h0.2 with ⟨e, _⟩ | ⟨g', cap, cur, e, hb, hh, hnc⟩
  · injection e with e1; cases e1
  · injection e with e1 e2 e3
    injection e1 with e1
    injection e1 with e1
    subst e1
    subst e2
    have h3 := (h0.stored (k * 2 + 0) (.int .u8 z)).1
    rw [Hn.flat_set lineC_len l k hk 0 (by decide) (.int .u8 z) ⟨z, l[k].text⟩ rfl] at h3
    unfold OwnL
    rw [List.length_set]
    exact h3
theorem OwnL.at {base g N c : Nat} {w : World} {l : List Ln} (h : OwnL base w (.slice (some ⟨g, 0, none⟩) N c) l) (k : Nat) (hk : k < l.length) :
    (∃ y, w.cell? ⟨g, k * 2, none⟩ = some y) ∧ w.frozen? ⟨g, k * 2, none⟩ = false ∧ base ≤ g := by
  obtain ⟨b, off, e, hc, _⟩ := RdL_at h.rd k hk
  injection e with e1
  injection e1 with e1 e2
  subst e1 e2
  rw [Nat.zero_add] at hc
  rcases h.2 with ⟨e, _⟩ | ⟨g', cap, cur, e, hb, hh, hnc⟩
  · injection e with e1; cases e1
  · injection e with e1 e2 e3
    injection e1 with e1
    injection e1 with e1
    subst e1
    exact ⟨⟨_, hc⟩, by simp [World.frozen?, hh], hb⟩
set_option maxRecDepth 100000 in
set_option maxHeartbeats 4000000 in
theorem reversed_any (v : Value) (ls : List Ln) (w : World) (hr : RdL w v ls) (hl : ls.length ≤ 100000) : Calls Tryz.prog 44 #[v] w (NewL (ls.map revL) w) := by
  have HR := Lib.hid (fun w' (hb : Below w.heap.size w w') => hr.below hb)
  have HCl := Lib.hid (Clone_any v ls w hr hl)
  unfold NewL at HCl
  obtain ⟨A, c, rfl⟩ := hr.form
  have HN : Hid (ls.length = ls.length) := Lib.hid rfl
  by_cases h0 : ls = []
  · subst h0
    clear hr
    simp only [List.length_nil] at HCl ⊢
    go_enter Tryz.func44, Tryz.ntmps44
    go_wp2_with fail
    refine HCl.out.mono ?_
    rintro e w1 ⟨v1, rfl, ho, hb⟩
    obtain ⟨A1, c1, rfl⟩ := ho.form
    have HF : Hid (NewL [] w (.returned (.slice A1 0 c1)) w1) := Lib.hid ⟨_, rfl, ho, hb⟩
    clear ho hb
    go_wp2_with fail
    refine wp_loop_rounds 1 ?_
    rw [rounds_succ]
    go_wp2_with fail
    go_ret
    exact HF.out
  · have hpos : 0 < ls.length := List.length_pos_iff.2 h0
    clear hr h0 HN
    obtain ⟨N, hN⟩ : ∃ N, N = ls.length := ⟨_, rfl⟩
    have HN := Lib.hid hN.symm
    rw [← hN] at hl hpos HR HCl ⊢
    clear hN
    go_enter Tryz.func44, Tryz.ntmps44
    go_wp2_with fail
    refine HCl.out.mono ?_
    rintro e w1 ⟨v1, rfl, ho, hb⟩
    obtain ⟨A1, c1, rfl⟩ := ho.form
    obtain ⟨g, rfl⟩ : ∃ g, A1 = some ⟨g, 0, none⟩ := by
      rcases ho.2 with ⟨e, e2⟩ | ⟨g', cap, cur, e, _⟩
      · have := HN.out; omega
      · injection e with e1; exact ⟨g', e1⟩
    have HO1 := Lib.hid ho
    have HB1 := Lib.hid hb
    rw [HN.out] at HO1
    rw [HN.out]
    clear ho hb HCl
    go_wp2_with fail
    go_loopw [10] (fun i wr => ∃ j : Nat, j ≤ N ∧ i = .int .i64 j ∧ Hid (OwnL w.heap.size wr (.slice (some ⟨g, 0, none⟩) N c1) ((ls.take j).map revL ++ ls.drop j)) ∧ Hid (Below w.heap.size w wr)) (fun i _ => N - (intOf i).toNat)
    case atStart => exact ⟨0, Nat.zero_le _, rfl, HO1, HB1⟩
    case round =>
      obtain ⟨j, hj, rfl, HO, HB⟩ := hrel
      by_cases hlt : j < N
      · have hx : j < ls.length := by rw [HN.out]; exact hlt
        obtain ⟨bl, off, rfl, c0, c1'⟩ := RdL_at (HR.out wr HB.out) j hx
        have hxl : j < ((ls.take j).map revL ++ ls.drop j).length := by
          rw [List.length_append, List.length_map, List.length_take, List.length_drop]; omega
        have hat : ((ls.take j).map revL ++ ls.drop j)[j] = ls[j] := by
          rw [List.getElem_append_right (by rw [List.length_map, List.length_take]; omega)]
          rw [List.getElem_drop]
          congr 1
          rw [List.length_map, List.length_take]; omega
        have hset : ∀ y : Ln, ((ls.take j).map revL ++ ls.drop j).set j y = (ls.take j).map revL ++ y :: ls.drop (j + 1) := fun y => by
          rw [List.set_append_right _ _ (by rw [List.length_map, List.length_take]; omega), List.drop_eq_getElem_cons hx]
          rw [show j - ((ls.take j).map revL).length = 0 from by rw [List.length_map, List.length_take]; omega]
          rfl
        have hnext : (ls.take (j + 1)).map revL ++ ls.drop (j + 1) = (ls.take j).map revL ++ revL ls[j] :: ls.drop (j + 1) := by
          rw [List.take_succ_eq_append_getElem hx, List.map_append, List.map_singleton, List.append_assoc]
          rfl
        have HSet : Hid (∀ (W : World) (z : Int), OwnL w.heap.size W (.slice (some ⟨g, 0, none⟩) N c1) ((ls.take j).map revL ++ ls.drop j) → flipK ls[j].kind = z → OwnL w.heap.size (W.setCell ⟨g, j * 2, none⟩ (.int .u8 z)) (.slice (some ⟨g, 0, none⟩) N c1) ((ls.take (j + 1)).map revL ++ ls.drop (j + 1))) := Lib.hid (fun W z ho hz => by
          have h1 := lns_put ho j hxl z
          rw [hat, hset] at h1
          rw [hnext]
          unfold revL at h1 ⊢
          rw [hz]
          exact h1)
        have HNo : Hid (∀ (W : World), OwnL w.heap.size W (.slice (some ⟨g, 0, none⟩) N c1) ((ls.take j).map revL ++ ls.drop j) → flipK ls[j].kind = ls[j].kind → OwnL w.heap.size W (.slice (some ⟨g, 0, none⟩) N c1) ((ls.take (j + 1)).map revL ++ ls.drop (j + 1))) := Lib.hid (fun W ho hz => by
          rw [hnext]
          rw [List.drop_eq_getElem_cons hx] at ho
          have e : revL ls[j] = ls[j] := by unfold revL; rw [hz]
          rw [e]
          exact ho)
        have HPl : Hid (∀ (W : World), OwnL w.heap.size W (.slice (some ⟨g, 0, none⟩) N c1) ((ls.take j).map revL ++ ls.drop j) → (∃ y, W.cell? ⟨g, j * 2, none⟩ = some y) ∧ W.frozen? ⟨g, j * 2, none⟩ = false ∧ w.heap.size ≤ g) := Lib.hid (fun W ho => OwnL.at ho j hxl)
        clear hat hset hnext hxl
        generalize ls[j].kind = kk at *
        generalize ls[j].text = t at *
        have i1 : (0 : Int) ≤ (j : Int) := by omega
        have i2 : (j : Int) < (N : Int) := by omega
        have HL1 := Lib.hid ((Below.refl wr.heap.size wr).alloc (Nat.le_refl _) (.cells #[.int .u8 kk, .string t] tLn))
        have HX1 : Hid (Blk (wr.alloc (.cells #[.int .u8 kk, .string t] tLn)) wr.heap.size tLn [.int .u8 kk, .string t]) := Lib.hid (heap_new wr _)
        obtain ⟨W1, hW1⟩ : ∃ W1, W1 = wr.alloc (.cells #[.int .u8 kk, .string t] tLn) := ⟨_, rfl⟩
        rw [← hW1] at HL1 HX1
        have HO2 := Lib.hid (HO.out.below HL1.out)
        have HB2 := Lib.hid (HB.out.trans (HL1.out.mono HB.out.size))
        obtain ⟨⟨y, p0⟩, p1, p2⟩ := HPl.out W1 HO2.out
        go_upto_region 5 with fail
        rw [← hW1]
        clear hW1 c0 c1'
        have x0 := HX1.out.cell (k := 0) (show 0 < 2 by decide)
        simp only [List.getElem_cons_zero] at x0
        by_cases k1 : kk = 45
        · subst k1
          have HOz := Lib.hid (HSet.out W1 43 HO2.out rfl)
          have HBz := Lib.hid (HB2.out.setCell (p := ⟨g, j * 2, none⟩) p2 (.int .u8 43))
          clear HSet HNo HPl
          go_wp2_with fail
          go_roundw
          case rel => exact ⟨j + 1, by omega, by go_num, HOz, HBz⟩
          case measure => simp [intOf]; omega
        · by_cases k2 : kk = 43
          · subst k2
            have HOz := Lib.hid (HSet.out W1 45 HO2.out rfl)
            have HBz := Lib.hid (HB2.out.setCell (p := ⟨g, j * 2, none⟩) p2 (.int .u8 45))
            clear HSet HNo HPl
            go_wp2_with fail
            go_roundw
            case rel => exact ⟨j + 1, by omega, by go_num, HOz, HBz⟩
            case measure => simp [intOf]; omega
          · have HOz := Lib.hid (HNo.out W1 HO2.out (by unfold flipK; rw [if_neg k1, if_neg k2]))
            have d1 : (kk == 45) = false := by rw [beq_eq_false_iff_ne]; exact k1
            have d2 : (kk == 43) = false := by rw [beq_eq_false_iff_ne]; exact k2
            clear HSet HNo HPl
            go_wp2_with fail
            go_roundw
            case rel => exact ⟨j + 1, by omega, by go_num, HOz, HB2⟩
            case measure => simp [intOf]; omega
      · obtain rfl : j = N := by omega
        have HF : Hid (NewL (ls.map revL) w (.returned (.slice (some ⟨g, 0, none⟩) j c1)) wr) := Lib.hid (by
          have h := HO.out
          rw [List.take_of_length_le (by rw [HN.out]; exact Nat.le_refl _), List.drop_eq_nil_of_le (by rw [HN.out]; exact Nat.le_refl _), List.append_nil] at h
          exact ⟨_, rfl, h, HB.out⟩)
        go_wp2_with fail
        go_ret
        exact HF.out
end Pa
end Go.Proofs.YtjecfmbecgpbmaaGreatDoor

/-
  The sanity check of layer 3's statements ('awake') returns true; 'small' says whether lists are short. No conditions beyond that the lists read.
-/
import Derived.Test.YthfadfennkkkjaaInternIds
import Derived.Test.YthfadfennkkkjaaInternNames
namespace Go.Proofs.Ythfadfennkkkjaa
open Go.RowKit
namespace Nt
open Cm
theorem RdLL.lit (w : World) (t : TypeId) (us : List Value) (uss : List (List Value)) (C : Array Value) (hC : C.toList = us) (hl : us.length = uss.length) (h : ∀ j (h1 : j < us.length) (h2 : j < uss.length), RdV w us[j] uss[j]) :
    RdLL (w.alloc (.cells C t)) (.slice (some ⟨w.heap.size, 0, none⟩) us.length us.length) uss :=
  ⟨us, RdV.lit w t us C hC, hl, fun j a b => (h j a b).below ((Below.refl _ _).alloc (Nat.le_refl _) _)⟩
/-- Two literal rows, and a row of the two. -/
theorem RdLL.lit2 (w : World) (t t' : TypeId) (us vs : List Value) (C D : Array Value) (hC : C.toList = us) (hD : D.toList = vs) :
    RdLL (((w.alloc (.cells C t)).alloc (.cells D t)).alloc (.cells #[.slice (some ⟨w.heap.size, 0, none⟩) us.length us.length, .slice (some ⟨w.heap.size + 1, 0, none⟩) vs.length vs.length] t')) (.slice (some ⟨w.heap.size + 2, 0, none⟩) 2 2) [us, vs] := by
  have e1 : (w.alloc (.cells C t)).heap.size = w.heap.size + 1 := by simp
  have e2 : ((w.alloc (.cells C t)).alloc (.cells D t)).heap.size = w.heap.size + 2 := by simp
  have h1 : RdV ((w.alloc (.cells C t)).alloc (.cells D t)) (.slice (some ⟨w.heap.size, 0, none⟩) us.length us.length) us := (RdV.lit w t us C hC).below ((Below.refl _ _).alloc (Nat.le_refl _) _)
  have h2 : RdV ((w.alloc (.cells C t)).alloc (.cells D t)) (.slice (some ⟨w.heap.size + 1, 0, none⟩) vs.length vs.length) vs := by
    have h := RdV.lit (w.alloc (.cells C t)) t vs D hD
    rwa [e1] at h
  have h3 := RdLL.lit ((w.alloc (.cells C t)).alloc (.cells D t)) t' [.slice (some ⟨w.heap.size, 0, none⟩) us.length us.length, .slice (some ⟨w.heap.size + 1, 0, none⟩) vs.length vs.length] [us, vs] _ rfl rfl (fun j a b => by
    match j, a, b with
    | 0, _, _ => exact h1
    | 1, _, _ => exact h2)
  rw [e2] at h3
  exact h3
def fsA : List (List ByteArray) := [[⟨#[97]⟩, ⟨#[98]⟩, ⟨#[97]⟩], [⟨#[99]⟩, ⟨#[98]⟩]]
theorem idsA : idsF fsA = [[0, 1, 0], [2, 1]] := by decide
theorem namesA' : namesF fsA = [⟨#[97]⟩, ⟨#[98]⟩, ⟨#[99]⟩] := by decide
set_option maxRecDepth 100000 in
set_option maxHeartbeats 1000000 in
theorem awake_any (w : World) : Calls Try.prog 8 #[] w fun e w' => e = .returned (.bool true) ∧ Below w.heap.size w w' := by
  have H1 : Hid (∀ w v, RdLL w v (fsA.map stringsV) → Calls Try.prog 13 #[v] w (NewLL w [[0, 1, 0], [2, 1]])) :=
    Lib.hid (fun w v h => by have := Ids_any v fsA w h (by decide) (by decide) (by unfold maxLen; decide); rwa [idsA] at this)
  have H2 : Hid (∀ w v, RdLL w v (fsA.map stringsV) → Calls Try.prog 16 #[v] w (NewStrs w [⟨#[97]⟩, ⟨#[98]⟩, ⟨#[99]⟩])) :=
    Lib.hid (fun w v h => by have := Names_any v fsA w h (by decide) (by decide) (by unfold maxLen; decide); rwa [namesA'] at this)
  have HL : Hid (RdLL (((w.alloc (.cells #[.string ⟨#[97]⟩, .string ⟨#[98]⟩, .string ⟨#[97]⟩] tStr)).alloc (.cells #[.string ⟨#[99]⟩, .string ⟨#[98]⟩] tStr)).alloc (.cells #[.slice (some ⟨w.heap.size, 0, none⟩) 3 3, .slice (some ⟨w.heap.size + 1, 0, none⟩) 2 2] 26)) (.slice (some ⟨w.heap.size + 2, 0, none⟩) 2 2) (fsA.map stringsV)) :=
    Lib.hid (RdLL.lit2 w tStr 26 _ _ #[.string ⟨#[97]⟩, .string ⟨#[98]⟩, .string ⟨#[97]⟩] #[.string ⟨#[99]⟩, .string ⟨#[98]⟩] rfl rfl)
  have HB0 : Hid (Below w.heap.size w (((w.alloc (.cells #[.string ⟨#[97]⟩, .string ⟨#[98]⟩, .string ⟨#[97]⟩] tStr)).alloc (.cells #[.string ⟨#[99]⟩, .string ⟨#[98]⟩] tStr)).alloc (.cells #[.slice (some ⟨w.heap.size, 0, none⟩) 3 3, .slice (some ⟨w.heap.size + 1, 0, none⟩) 2 2] 26))) :=
    Lib.hid ((((Below.refl _ _).alloc (Nat.le_refl _) _).alloc (by simp) _).alloc (by simp; omega) _)
  go_enter Try.func8, Try.ntmps8
  go_wp2_with fail
  refine (H1.out _ _ HL.out).mono ?_
  rintro e w1 ⟨v1, rfl, ho1, hb1⟩
  have R1 := Lib.hid ho1.rd
  have RL := Lib.hid (HL.out.below hb1)
  have B1 := Lib.hid (HB0.out.trans (hb1.mono HB0.out.size))
  clear ho1 hb1 HL HB0
  have HL2 : Hid (RdLL (((w1.alloc (.cells #[.int .i64 0, .int .i64 1, .int .i64 0] tInt)).alloc (.cells #[.int .i64 2, .int .i64 1] tInt)).alloc (.cells #[.slice (some ⟨w1.heap.size, 0, none⟩) 3 3, .slice (some ⟨w1.heap.size + 1, 0, none⟩) 2 2] 23)) (.slice (some ⟨w1.heap.size + 2, 0, none⟩) 2 2) ([[0, 1, 0], [2, 1]].map intsV)) :=
    Lib.hid (RdLL.lit2 w1 tInt 23 _ _ #[.int .i64 0, .int .i64 1, .int .i64 0] #[.int .i64 2, .int .i64 1] rfl rfl)
  have HB2 : Hid (Below w1.heap.size w1 (((w1.alloc (.cells #[.int .i64 0, .int .i64 1, .int .i64 0] tInt)).alloc (.cells #[.int .i64 2, .int .i64 1] tInt)).alloc (.cells #[.slice (some ⟨w1.heap.size, 0, none⟩) 3 3, .slice (some ⟨w1.heap.size + 1, 0, none⟩) 2 2] 23))) :=
    Lib.hid ((((Below.refl _ _).alloc (Nat.le_refl _) _).alloc (by simp) _).alloc (by simp; omega) _)
  go_wp2_with fail
  refine (Lists_same _ _ _ _ (by decide) (by decide) (R1.out.below HB2.out) HL2.out).mono ?_
  rintro e w2 ⟨rfl, m, rfl⟩
  have RL2 := Lib.hid ((RL.out.below HB2.out).drewN m)
  have B2 := Lib.hid (below_drewN (B1.out.trans (HB2.out.mono B1.out.size)) m)
  clear HL2 HB2 R1 RL B1
  generalize World.drewN _ m = w2 at RL2 B2 ⊢
  go_wp2_with fail
  refine (H2.out _ _ RL2.out).mono ?_
  rintro e w3 ⟨v3, rfl, ho3, hb3⟩
  have R3 := Lib.hid (RdV.of_own ho3)
  have B3 := Lib.hid (B2.out.trans (hb3.mono B2.out.size))
  clear ho3 hb3 RL2 B2
  have HL4 : Hid (RdV (w3.alloc (.cells #[.string ⟨#[97]⟩, .string ⟨#[98]⟩, .string ⟨#[99]⟩] tStr)) (.slice (some ⟨w3.heap.size, 0, none⟩) 3 3) (stringsV [⟨#[97]⟩, ⟨#[98]⟩, ⟨#[99]⟩])) := Lib.hid (RdV.lit w3 tStr _ _ rfl)
  have HB4 : Hid (Below w3.heap.size w3 (w3.alloc (.cells #[.string ⟨#[97]⟩, .string ⟨#[98]⟩, .string ⟨#[99]⟩] tStr))) := Lib.hid ((Below.refl _ _).alloc (Nat.le_refl _) _)
  go_wp2_with fail
  refine (Strings_same _ _ _ _ (by decide) (R3.out.below HB4.out) HL4.out).mono ?_
  rintro e w4 ⟨rfl, m4, rfl⟩
  have B5 := Lib.hid (below_drewN (B3.out.trans (HB4.out.mono B3.out.size)) m4)
  clear R3 HL4 HB4 B3
  generalize World.drewN _ m4 = w5 at B5 ⊢
  go_wp2_with fail
  go_ret
  exact ⟨rfl, B5.out⟩
set_option maxRecDepth 100000 in
set_option maxHeartbeats 1000000 in
/-- Whether lists are short. -/
theorem small_any (u : Value) (fs : List (List ByteArray)) (w : World) (hr : RdLL w u (fs.map stringsV)) (hl : fs.length ≤ maxLen) (hll : ∀ f ∈ fs, f.length ≤ maxLen) :
    Calls Try.prog 7 #[u] w fun e w' => ∃ b, e = .returned (.bool b) ∧ (b = true → fs.length ≤ 6 ∧ ∀ f ∈ fs, f.length ≤ 10) ∧ ∃ m, w' = w.drewN m := by
  obtain ⟨A, c, rfl, HF⟩ := files_at hr
  have HLL := Lib.hid hll
  have HEnd : Hid (fs.length ≤ 6 → (∀ j, j < fs.length → (fs.getD j []).length ≤ 10) → fs.length ≤ 6 ∧ ∀ f ∈ fs, f.length ≤ 10) := Lib.hid (fun h1 h2 => ⟨h1, fun f hf => by
    obtain ⟨j, hj, rfl⟩ := List.mem_iff_getElem.1 hf
    have := h2 j hj
    rwa [List.getD_eq_getElem?_getD, List.getElem?_eq_getElem hj] at this⟩)
  have HG : Hid (∀ j (h : j < fs.length), fs.getD j [] = fs[j]) := Lib.hid (fun j h => by rw [List.getD_eq_getElem?_getD, List.getElem?_eq_getElem h]; rfl)
  clear hll hr
  unfold maxLen at hl
  generalize hm : fs.length = m at hl HEnd ⊢
  have HM := Lib.hid hm
  clear hm
  by_cases h6 : (6 : Int) < (m : Int)
  · go_enter Try.func7, Try.ntmps7
    go_wp2_with fail
    go_ret
    exact ⟨_, rfl, fun h => (by cases h), 0, rfl⟩
  · have h6' : m ≤ 6 := by omega
    go_enter Try.func7, Try.ntmps7
    go_wp2_with fail
    go_loopw [3] (fun i wr => ∃ j : Nat, j ≤ m ∧ i = .int .i64 j ∧ Hid (∀ k, k < j → (fs.getD k []).length ≤ 10) ∧ ∃ q, wr = w.drewN q) (fun i _ => m - (intOf i).toNat)
    case atStart => exact ⟨0, Nat.zero_le _, rfl, Lib.hid (fun k hk => absurd hk (Nat.not_lt_zero _)), 0, rfl⟩
    case round =>
      obtain ⟨j, hj, rfl, HK, q, rfl⟩ := hrel
      by_cases hlt : j < m
      · have hx : j < fs.length := by rw [HM.out]; exact hlt
        obtain ⟨b, off, A', c', rfl, hc, _⟩ := HF.out j hx
        have hml := HLL.out _ (List.getElem_mem hx)
        unfold maxLen at hml
        have HGj := Lib.hid (HG.out j hx)
        generalize fs[j] = f at hc hml HGj
        generalize hfl : f.length = fl at hc hml
        have HFl := Lib.hid hfl
        clear hfl
        have i1 : (0 : Int) ≤ (j : Int) := by omega
        have i2 : (j : Int) < (m : Int) := by omega
        by_cases h10 : (10 : Int) < (fl : Int)
        · go_wp2_with fail
          go_ret
          exact ⟨_, rfl, fun h => (by cases h), _, rfl⟩
        · go_wp2_with fail
          go_roundw
          case rel => exact ⟨j + 1, by omega, by go_num, Lib.hid (fun k hk => by
            by_cases hkj : k < j
            · exact HK.out k hkj
            · have : k = j := by omega
              subst this
              rw [HGj.out, HFl.out]; omega), _, rfl⟩
          case measure => simp [intOf]; omega
      · have HEj : Hid (∀ k, k < m → (fs.getD k []).length ≤ 10) := Lib.hid (fun k hk => HK.out k (by omega))
        have hd : decide (j < m) = false := by simp only [decide_eq_false_iff_not]; omega
        go_wp2_with fail
        go_ret
        exact ⟨_, rfl, fun _ => HEnd.out h6' HEj.out, _, rfl⟩
end Nt
end Go.Proofs.Ythfadfennkkkjaa

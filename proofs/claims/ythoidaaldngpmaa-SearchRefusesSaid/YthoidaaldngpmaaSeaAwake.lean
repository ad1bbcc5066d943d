/-
  Walk of layer 6's verifier: awake, the sanity check that every law calls. No conditions.
-/
import Derived.Test.YthoidaaldngpmaaSeaStarM
import Derived.Test.YthoidaaldngpmaaSeaAll
import Derived.Test.YthoidaaldngpmaaSeaSpans
namespace Go.Proofs.Ythoidaaldngpmaa
open Go.RowKit
namespace Se
open Cm Rx Au
theorem below_ch {w a b : World} (h : Below w.heap.size w a) (hb : Below a.heap.size a b) : Below w.heap.size w b := h.trans (hb.mono h.size)
theorem rd_lit (w : World) : RdP (w.alloc (.cells #[.int .i64 0, .int .i64 0, .int .i64 1, .int .i64 3, .int .i64 3, .int .i64 3] tSp)) (.slice (some ⟨w.heap.size, 0, none⟩) 3 3) [(0, 0), (1, 3), (3, 3)] := by
  refine ⟨_, 3, rfl, fun _ => ⟨w.heap.size, 0, rfl, fun k hk => ?_⟩⟩
  match k, hk with
  | 0, _ => exact ⟨by rw [World.cell?_alloc_mark]; rfl, by rw [World.cell?_alloc_mark]; rfl⟩
  | 1, _ => exact ⟨by rw [World.cell?_alloc_mark]; rfl, by rw [World.cell?_alloc_mark]; rfl⟩
  | 2, _ => exact ⟨by rw [World.cell?_alloc_mark]; rfl, by rw [World.cell?_alloc_mark]; rfl⟩
set_option maxRecDepth 100000 in
set_option maxHeartbeats 2000000 in
theorem awake6_any (w : World) : Calls Try.prog 42 #[] w fun e w' => e = .returned (.bool true) ∧ Below w.heap.size w w' := by
  have HAl : Hid (∀ (v : Value) (W : World), W.ownsRow W.heap.size tSt 7 v starS.length (flatS starS) → True) := Lib.hid (fun _ _ _ => trivial)
  have HA := Lib.hid (fun (v : Value) (W : World) (h : RdT W v starS) => All_ok v starS 0 ⟨#[98, 97, 97]⟩ W h star_valid (by decide))
  have HWh := Lib.hid (fun (v : Value) (W : World) (h : RdT W v starS) => Whole_ok v starS 0 ⟨#[97, 97]⟩ W h star_valid (by decide))
  rw [show Tx.bs ⟨#[98, 97, 97]⟩ = [98, 97, 97] from rfl, star_all] at HA
  rw [show Tx.bs ⟨#[97, 97]⟩ = [97, 97] from rfl, star_whole] at HWh
  clear HAl
  go_enter Try.func42, Try.ntmps42
  go_wp2_with (first
    | (have hq := HB2; clear hq; go_at_call 70; refine (star_any _).mono ?_; rintro e w3 ⟨v3, rfl, ho, hb⟩; have HS3 := Lib.hid (RdT.of_own ho); have HB3 := Lib.hid (below_ch HB2.out hb); have HL3 := Lib.hid (HL2.out.below hb); clear ho hb)
    | (go_at_call 70; refine (star_any _).mono ?_; rintro e w1 ⟨v1, rfl, ho, hb⟩; have HS1 := Lib.hid (RdT.of_own ho); have HB1 := Lib.hid hb; clear ho hb)
    | (go_at_call 43; refine (HA.out _ _ HS1.out).mono ?_; rintro e w2 ⟨v2, rfl, ho, hb⟩; have HL2 := Lib.hid (RdP.of_own ho); have HB2 := Lib.hid (below_ch HB1.out hb); clear ho hb)
    | (go_at_call 36; refine (HWh.out _ _ HS3.out).mono ?_; rintro e w4 ⟨rfl, hb⟩; have HL4 := Lib.hid (HL3.out.below hb); have HB4 := Lib.hid (below_ch HB3.out hb); have HSp : Hid (Calls Try.prog 45 #[v2, .slice (some ⟨w4.heap.size, 0, none⟩) 3 3] (w4.alloc (.cells #[.int .i64 0, .int .i64 0, .int .i64 1, .int .i64 3, .int .i64 3, .int .i64 3] tSp)) fun e w' => e = .returned (.bool true) ∧ ∃ m, w' = (w4.alloc (.cells #[.int .i64 0, .int .i64 0, .int .i64 1, .int .i64 3, .int .i64 3, .int .i64 3] tSp)).drewN m) := Lib.hid (Spans_any v2 _ _ _ _ (HL4.out.below ((Below.refl _ _).alloc (Nat.le_refl _) _)) (rd_lit w4) (by decide) (by decide)); clear hb)
    | (go_at_call 45; refine HSp.out.mono ?_; rintro e w5 ⟨rfl, m, rfl⟩))
  go_ret
  exact ⟨rfl, below_drewN (HB4.out.alloc HB4.out.size _) _⟩
end Se
end Go.Proofs.Ythoidaaldngpmaa

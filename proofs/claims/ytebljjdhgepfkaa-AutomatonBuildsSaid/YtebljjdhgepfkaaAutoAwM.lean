/-
  The sanity check of layer 5: the automaton of a single byte. No conditions.
-/
import Derived.Test.YtebljjdhgepfkaaAutoN
import Derived.Test.YtebljjdhgepfkaaAutoE
import Derived.Test.YtebljjdhgepfkaaAutoC
import Derived.Test.YtebljjdhgepfkaaRegexLawY
namespace Go.Proofs.Ytebljjdhgepfkaa
open Go.RowKit
namespace Au
open Cm Rx
/-- The nodes of "a". -/
theorem parse_a : ∃ ns, parseF [97] = .ok ns ∧ ∃ m : Nat → Bool, ns = [⟨1, m, 0, 0, []⟩] ∧ m 97 = true := by
  refine ⟨_, rfl, _, rfl, ?_⟩
  rfl
abbrev oneN (m : Nat → Bool) : List Nd := [⟨1, m, 0, 0, []⟩]
abbrev oneA (m : Nat → Bool) : List St := [⟨4, noSet, 0, 0⟩, ⟨0, m, 0, 0⟩]
theorem one_valid (m : Nat → Bool) : Valid (oneN m) := by
  refine ⟨Nat.le_of_ble_eq_true rfl, Nat.le_of_ble_eq_true rfl, fun k h => ?_⟩
  obtain rfl : k = 0 := by simpa using h
  exact ⟨fun x hx => (by cases hx), rfl⟩
theorem one_code (m : Nat → Bool) : codeB (oneN m) = 0 := by
  have hw : weightR (oneN m) = 1 := by unfold weightR; rw [if_pos (check_T (one_valid m))]; rfl
  unfold codeB
  rw [if_pos (one_valid m), if_neg (by rw [hw]; decide)]
theorem one_res (m : Nat → Bool) : resB (oneN m) = (1, oneA m) := by
  unfold resB
  rw [if_pos (one_code m)]
  rfl
theorem one_auto (m : Nat → Bool) : ValidA (oneA m) 1 := by
  refine ⟨Nat.le_of_ble_eq_true rfl, rfl, fun k h => ?_⟩
  match k, h with
  | 0, _ => rfl
  | 1, _ => rfl
theorem zero_auto : ¬ ValidA [] 0 := fun h => by have := h.2.1; revert this; decide
theorem one_reach {m : Nat → Bool} {st en : Bool} {x : Nat} (h : Reach (oneA m) st en (inAt (oneA m) 1 [97] 0 0) x) : x = 1 := by
  induction h with
  | base h => exact h.1
  | next hi _ hp ih => subst ih; simp [passS] at hp
  | other hi _ hp ih => subst ih; simp at hp
theorem one_no (m : Nat → Bool) : ¬ accAt (oneA m) 1 [97] 0 0 := by
  rintro ⟨x, hx, h1, h2⟩
  have := one_reach h1
  subst this
  simp at h2
theorem one_yes {m : Nat → Bool} (h : m 97 = true) : accAt (oneA m) 1 [97] 0 1 :=
  ⟨0, Nat.le_of_ble_eq_true rfl, .base ⟨Nat.le_of_ble_eq_true rfl, 1, Nat.le_of_ble_eq_true rfl, .base ⟨rfl, Nat.le_of_ble_eq_true rfl⟩, rfl, ⟨97, rfl, h⟩, rfl⟩, rfl⟩
theorem one_ends {m : Nat → Bool} {l : List Bool} (hm : m 97 = true) (h : IsEnds (oneA m) 1 [97] 0 l) : l.length = 2 ∧ l.getD 1 false = true ∧ l.getD 0 false = false := by
  refine ⟨h.1, (h.2 1 (by decide)).2 ⟨1, rfl, one_yes hm⟩, ?_⟩
  cases hh : l.getD 0 false with
  | false => rfl
  | true =>
    obtain ⟨d, h1, h2⟩ := (h.2 0 (by decide)).1 hh
    obtain rfl : d = 0 := by omega
    exact absurd h2 (one_no m)
set_option maxRecDepth 100000 in
theorem build_one (v : Value) (m : Nat → Bool) (w : World) (h : RdN w v (oneN m)) : Calls Try.prog 14 #[v] w fun e w' => ∃ v', e = .returned (.tuple #[.agg #[v', .int .i64 1], .int .i64 0]) ∧ RdA w' v' (oneA m) ∧ Below w.heap.size w w' :=
  (Build_any v (oneN m) w 1 h (Nat.le_of_ble_eq_true rfl) (fun n hn => by rw [List.mem_singleton] at hn; subst hn; exact Nat.le_of_ble_eq_true rfl) (by decide) (fun _ w0 B G P A c hE =>
    node_any (j := 0) (wt := 1) hE (Nat.le_of_ble_eq_true rfl) (fun _ => by decide) (Nat.le_of_ble_eq_true rfl) (fun h _ => by simp at h) (fun h _ => by simp at h) (fun h _ => by simp at h))).mono fun e w' hp => by
    unfold BuildPost at hp
    rw [one_res, one_code] at hp
    exact hp
/-- What holds of the automaton while the sanity check goes on. -/
structure AwS (w wx : World) (Q : Nat) (A : Option Addr) (c : Nat) (m : Nat → Bool) : Prop where
  b : Below w.heap.size w wx
  r : RdA wx (.slice A 2 c) (oneA m)
  c0 : wx.cell? ⟨Q, 0, none⟩ = some (.slice A 2 c)
  c1 : wx.cell? ⟨Q, 1, none⟩ = some (.int .i64 1)
theorem AwS.below {w wx wy : World} {Q c : Nat} {A : Option Addr} {m : Nat → Bool} (h : AwS w wx Q A c m) (hb : Below wx.heap.size wx wy) : AwS w wy Q A c m :=
  ⟨h.b.trans (hb.mono h.b.size), h.r.below hb, (hb.cell (p := ⟨Q, 0, none⟩) (Tx.cell_lt h.c0)).trans h.c0, (hb.cell (p := ⟨Q, 1, none⟩) (Tx.cell_lt h.c1)).trans h.c1⟩
theorem parse_one (w : World) : Calls Try.prog 7 #[.string ⟨#[97]⟩] w fun e w' => ∃ v m, e = .returned (.tuple #[v, .int .i64 0]) ∧ m 97 = true ∧ RdN w' v (oneN m) ∧ Below w.heap.size w w' := by
  obtain ⟨ns, hp, m, rfl, hm⟩ := parse_a
  refine (Px.ParseR_rd ⟨#[97]⟩ w (by decide)).mono fun e w' h => ?_
  obtain ⟨v, h1, h2, h3⟩ := h
  rw [show Tx.bs ⟨#[97]⟩ = [97] from rfl, hp] at h1 h2
  exact ⟨v, m, h1, hm, h2, h3⟩
set_option maxRecDepth 100000 in
set_option maxHeartbeats 1000000 in
theorem awake5_any (w : World) : Calls Try.prog 9 #[] w fun e w' => e = .returned (.bool true) ∧ Below w.heap.size w w' := by
  go_enter Try.func9, Try.ntmps9
  go_wp2_with fail
  refine (parse_one w).mono ?_
  rintro e w2 ⟨v, m, rfl, hm, hr, hb⟩
  have HR := Lib.hid hr
  have HB2 := Lib.hid hb
  have HM := Lib.hid hm
  obtain ⟨Av, cv, rfl, _⟩ := id hr
  clear hr hb hm
  go_wp2_with fail
  refine (build_one _ m w2 HR.out).mono ?_
  rintro e w3 ⟨v3, rfl, hr3, hb3⟩
  obtain ⟨A3, c3, rfl, _⟩ := id hr3
  have HR3 := Lib.hid hr3
  have HB3 := Lib.hid (HB2.out.trans (hb3.mono HB2.out.size))
  clear hr3 hb3
  go_upto_region 3 with fail
  have HS3 : Hid (AwS w (w3.alloc (.cells #[.slice A3 2 c3, .int .i64 1] tAu)) w3.heap.size A3 c3 m) := Lib.hid ⟨HB3.out.alloc HB3.out.size _, HR3.out.below ((Below.refl _ _).alloc (Nat.le_refl _) _), any_newC w3 _ _ 0 _ rfl, any_newC w3 _ _ 1 _ rfl⟩
  generalize w3.alloc (.cells #[.slice A3 2 c3, .int .i64 1] tAu) = w4 at HS3 ⊢
  generalize w3.heap.size = Q at HS3 ⊢
  clear HB3 HR3 HR HB2
  have c0 := HS3.out.c0
  have c1 := HS3.out.c1
  go_wp2_with fail
  refine (CheckAR_any _ (oneA m) 1 w4 HS3.out.r (Nat.le_of_ble_eq_true rfl)).mono ?_
  rintro e w5 ⟨rfl, hb5⟩
  rw [checkA_T (one_auto m)]
  have HS5 := Lib.hid (HS3.out.below hb5)
  clear hb5 c0 c1 HS3
  have c0 := HS5.out.c0
  have c1 := HS5.out.c1
  go_wp2_with fail
  refine (EndsR_any (w := w5) (oneA m) 1 A3 c3 ⟨#[97]⟩ 0 HS5.out.r (one_auto m) (by decide) (by decide)).mono ?_
  rintro e w6 ⟨l, hl, g, c6, rfl, hg, _, hb6⟩
  rw [show Tx.bs ⟨#[97]⟩ = [97] from rfl] at hl
  obtain ⟨hll, hl1, hl0⟩ := one_ends HM.out hl
  have d1 := hg.bit (i := 1) (by omega)
  have d0 := hg.bit (i := 0) (by omega)
  rw [hl1] at d1
  rw [hl0] at d0
  have HS6 := Lib.hid (HS5.out.below hb6)
  clear hb6 c0 c1 HS5 hl hll hl1 hl0 hg
  have c0 := HS6.out.c0
  have c1 := HS6.out.c1
  rw [show (Tx.bs ⟨#[97]⟩).length + 1 = 2 from rfl]
  go_wp2_with fail
  refine (CheckA_any _ (oneA m) 1 w6 HS6.out.r (Nat.le_of_ble_eq_true rfl)).mono ?_
  rintro e w7 ⟨rfl, hb7⟩
  rw [checkA_T (one_auto m)]
  have HS7 := Lib.hid (HS6.out.below hb7)
  clear hb7 c0 c1 d0 d1 HS6
  go_wp2_with fail
  refine (CheckA_any _ [] 0 w7 (RdA.nil w7) (by decide)).mono ?_
  rintro e w8 ⟨rfl, hb8⟩
  rw [checkA_F zero_auto]
  have HB8 := Lib.hid (HS7.out.below hb8).b
  clear hb8 HS7
  go_wp2_with fail
  go_ret
  exact ⟨rfl, HB8.out⟩
end Au
end Go.Proofs.Ytebljjdhgepfkaa

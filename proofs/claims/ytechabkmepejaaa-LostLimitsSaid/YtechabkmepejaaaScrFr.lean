/-
  The program's appendBetween and FromPairs. Conditions: the fields are numbers that an int holds, as few elements as the laws have.
-/
import Derived.Test.YtechabkmepejaaaScrMade
namespace Go.Proofs.Ytechabkmepejaaa
open Go.RowKit
namespace Sc
open Cm
def BtPost (base : Nat) (l : List Ch) (w : World) (v : Value) (e : Ending) (w' : World) : Prop := ∃ v', e = .returned v' ∧ OwnC base w' v' l ∧ Below base w w' ∧ ∀ k, k < w.heap.size → some k ≠ v.ownBlock → w'.heap[k]? = w.heap[k]?
set_option maxRecDepth 100000 in
set_option maxHeartbeats 2000000 in
theorem btw_any (base : Nat) (v : Value) (l : List Ch) (i a j b : Int) (w : World) (h : OwnC base w v l) (hb : base ≤ w.heap.size) (hl : l.length ≤ 200000) (hi : 0 ≤ i ∧ i ≤ 4096) (ha : 0 ≤ a ∧ a ≤ 4096) (hj : 0 ≤ j ∧ j ≤ 4096) (hbb : 0 ≤ b ∧ b ≤ 4096) :
    Calls Try.prog 31 #[v, .int .i64 i, .int .i64 a, .int .i64 j, .int .i64 b] w (BtPost base (l ++ btw i a j b) w v) := by
  obtain ⟨i0, i1⟩ := hi
  obtain ⟨a0, a1⟩ := ha
  obtain ⟨j0, j1⟩ := hj
  obtain ⟨b0, b1⟩ := hbb
  have HO := Lib.hid h
  have HB := Lib.hid hb
  clear h hb
  by_cases h1 : i = a ∧ j = b
  · obtain ⟨rfl, rfl⟩ := h1
    rw [btw_same, List.append_nil]
    go_enter Try.func31, Try.ntmps31
    go_wp2_with fail
    go_ret
    exact ⟨_, rfl, HO.out, Below.refl _ _, fun _ _ _ => rfl⟩
  · have HE := Lib.hid (btw_new h1)
    have hz : (i == a) = false ∨ ((i == a) = true ∧ (j == b) = false) := by
      by_cases e : i = a
      · exact .inr ⟨by simpa using e, by simpa using fun h => h1 ⟨e, h⟩⟩
      · exact .inl (by simpa using e)
    rw [HE.out]
    clear h1 HE
    have hln : l.length + 1 ≤ 1000000 := by omega
    rcases hz with z1 | ⟨z1, z2⟩
    all_goals
      go_enter Try.func31, Try.ntmps31
      go_wp2_with (at_builtin; refine app_ch rfl (.tmp 20) (.tmp 30) rfl base l ⟨i, a - i, j, b - j⟩ v _ rfl HO.out rfl rfl rfl hln HB.out ?_; intro v1 w1 ho1 hb1 hg1; have HO1 := Lib.hid ho1; have HB1 := Lib.hid hb1; have HG1 := Lib.hid hg1; clear ho1 hb1 hg1)
      go_ret
      exact ⟨_, rfl, HO1.out, HB1.out, fun k hk hne => (HG1.out.block k (by simp; omega) hne).trans (Below.heap_alloc _ _ _ hk)⟩
open Classical in
/-- The code of FromPairs, and the script. -/
noncomputable def fpF (p : List Sp) (m n : Int) : Int := if inI m ∧ inI n then (if OkP m n 0 0 p then 0 else 3) else 80
def FpPost (p : List Sp) (m n : Int) (w : World) (e : Ending) (w' : World) : Prop :=
  ∃ v, e = .returned (.tuple #[v, .int .i64 (fpF p m n)]) ∧ (fpF p m n = 0 → OwnC w.heap.size w' v (frF m n 0 0 p)) ∧ (fpF p m n ≠ 0 → v = .slice none 0 0) ∧ Below w.heap.size w w'
theorem fpF_out {p : List Sp} {m n : Int} (h : ¬ (inI m ∧ inI n)) : fpF p m n = 80 := by unfold fpF; rw [if_neg h]
theorem fpF_ok {p : List Sp} {m n : Int} (hm : inI m) (hn : inI n) (h : OkP m n 0 0 p) : fpF p m n = 0 := by unfold fpF; rw [if_pos ⟨hm, hn⟩, if_pos h]
theorem fpF_no {p : List Sp} {m n : Int} (hm : inI m) (hn : inI n) (h : ¬ OkP m n 0 0 p) : fpF p m n = 3 := by unfold fpF; rw [if_pos ⟨hm, hn⟩, if_neg h]
theorem fp_err {p : List Sp} {m n z : Int} {w w' : World} (h : fpF p m n = z) (hz : z ≠ 0) (hb : Below w.heap.size w w') : FpPost p m n w (.returned (.tuple #[.slice none 0 0, .int .i64 z])) w' :=
  ⟨_, by rw [h], fun h0 => absurd (h ▸ h0) hz, fun _ => rfl, hb⟩
theorem fp_good {p : List Sp} {m n : Int} {v : Value} {w w' : World} (h : fpF p m n = 0) (ho : OwnC w.heap.size w' v (frF m n 0 0 p)) (hb : Below w.heap.size w w') : FpPost p m n w (.returned (.tuple #[v, .int .i64 0])) w' :=
  ⟨_, by rw [h], fun _ => ho, fun h0 => absurd h h0, hb⟩
end Sc
end Go.Proofs.Ytechabkmepejaaa

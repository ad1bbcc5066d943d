/-
  Walks of the verifier's Count and Spoiled: the first n numbers; some text that is at most one byte longer. Conditions: short.
-/
import Derived.Test.YtgadomcbaenodaaTextPick
import Derived.Test.YtgadomcbaenodaaComInts
namespace Go.Proofs.Ytgadomcbaenodaa
open Go.RowKit
namespace Rx
open Cm
theorem info_int' : (Try.prog.info? 3).map (fun i => (i.zero, i.size, i.bytes)) = some (some (.int .i64 0), 1, 8) := by kernel_rfl
def upTo (n : Nat) : List Int := (List.range n).map (fun k : Nat => (k : Int))
theorem upTo_succ (n : Nat) : intsV (upTo (n + 1)) = intsV (upTo n) ++ [.int .i64 (n : Int)] := by
  unfold upTo intsV; rw [List.range_succ]; simp
set_option maxRecDepth 100000 in
set_option maxHeartbeats 4000000 in
theorem Count_any (n : Nat) (w : World) (hn : n ≤ 1000000) :
    Calls Try.prog 16 #[.int .i64 n] w fun e w' => ∃ v, e = .returned v ∧ w'.ownsRow w.heap.size 3 1 v n (intsV (upTo n)) ∧ Below w.heap.size w w' := by
  go_enter Try.func16, Try.ntmps16
  go_wp2_with fail
  go_loopw [3, 4] (fun v i wr => ∃ j : Nat, j ≤ n ∧ i = .int .i64 j ∧ Hid (wr.ownsRow w.heap.size 3 1 v j (intsV (upTo j))) ∧ Below w.heap.size w wr) (fun _ i _ => n - (intOf i).toNat)
  case atStart => exact ⟨0, Nat.zero_le _, rfl, Lib.hid ⟨rfl, .inl ⟨rfl, rfl⟩⟩, Below.refl _ _⟩
  case round =>
    obtain ⟨j, hj, rfl, HO, hnx⟩ := hrel
    obtain ⟨B, d, rfl⟩ := own_form HO.out
    have hsz := hnx.size
    by_cases hlt : j < n
    · have HT := Lib.hid (upTo_succ j)
      generalize intsV (upTo j) = done at HO HT
      go_wp2_with (at_builtin; refine app_one rfl Try.underlying22 info_int' rfl (by omega) (.tmp 10) (.tmp 12) rfl w.heap.size j done (.int .i64 j) rfl _ _ rfl HO.out rfl rfl (by omega) hsz ?_; intro v3 w3 ho3 hb3 _; have HO3 := Lib.hid ho3; clear ho3)
      go_roundw
      case rel => exact ⟨j + 1, by omega, by go_num, by rw [HT.out]; exact HO3, hnx.trans hb3⟩
      case measure => simp [intOf]; omega
    · have hjn : j = n := by omega
      have hd : decide (j < n) = false := by simp only [decide_eq_false_iff_not]; omega
      go_wp2_with fail
      go_ret
      exact ⟨_, rfl, by rw [← hjn]; exact HO.out, hnx⟩
end Rx
end Go.Proofs.Ytgadomcbaenodaa

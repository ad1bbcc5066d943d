/-
  Walk of layer 1, the reference's octal. Condition: the text has at most 2^62 bytes.
-/
import Derived.Test.YtgfinppppgpleaaDoorScanUnqB
namespace Go.Proofs.YtgfinppppgpleaaDoor
open Go.RowKit
namespace Sc
/-- No three octal digits: false, with whatever byte. -/
def NoOct (w : World) (e : Ending) (w' : World) : Prop := ∃ x : Int, e = .returned (.tuple #[.int .u8 x, .bool false]) ∧ w = w'
set_option maxRecDepth 100000 in
set_option maxHeartbeats 3000000 in
theorem octalR_no (s : ByteArray) (k : Nat) (w : World) (hs : s.size ≤ 4611686018427387904) (hk : k ≤ s.size) (ho : octF ((bs s).drop k) = none) :
    Calls Tryd.prog 33 #[.string s, .int .i64 k] w (NoOct w) := by
  by_cases h0 : k < s.size
  · have ha := u8_lt s[k]
    by_cases ga : ¬ Dg s[k]
    · clear ho
      rcases not_Dg _ ga with g | g
      · clear ga
        go_enter Tryd.func33, Tryd.ntmps33
        go_wp2
        refine wp_loop_rounds 4 ?_
        rw [rounds_succ]
        go_wp2
        go_ret2
        exact ⟨_, rfl, rfl⟩
      · clear ga
        go_enter Tryd.func33, Tryd.ntmps33
        go_wp2
        refine wp_loop_rounds 4 ?_
        rw [rounds_succ]
        go_wp2
        go_ret2
        exact ⟨_, rfl, rfl⟩
    obtain ⟨ga1, ga2⟩ := Classical.not_not.1 ga
    by_cases h1 : k + 1 < s.size
    · have hb := u8_lt s[k + 1]
      by_cases gb : ¬ Dg s[k + 1]
      · clear ho ga
        rcases not_Dg _ gb with g | g
        · clear gb
          go_enter Tryd.func33, Tryd.ntmps33
          go_wp2
          refine wp_loop_rounds 4 ?_
          rw [rounds_succ]
          go_wp2
          rw [rounds_succ]
          go_wp2
          go_ret2
          exact ⟨_, rfl, rfl⟩
        · clear gb
          go_enter Tryd.func33, Tryd.ntmps33
          go_wp2
          refine wp_loop_rounds 4 ?_
          rw [rounds_succ]
          go_wp2
          rw [rounds_succ]
          go_wp2
          go_ret2
          exact ⟨_, rfl, rfl⟩
      obtain ⟨gb1, gb2⟩ := Classical.not_not.1 gb
      by_cases h2 : k + 1 + 1 < s.size
      · have hc := u8_lt s[k + 1 + 1]
        by_cases gc : ¬ Dg s[k + 1 + 1]
        · clear ho ga gb
          rcases not_Dg _ gc with g | g
          · clear gc
            go_enter Tryd.func33, Tryd.ntmps33
            go_wp2
            refine wp_loop_rounds 4 ?_
            rw [rounds_succ]
            go_wp2
            rw [rounds_succ]
            go_wp2
            rw [rounds_succ]
            go_wp2
            go_ret2
            exact ⟨_, rfl, rfl⟩
          · clear gc
            go_enter Tryd.func33, Tryd.ntmps33
            go_wp2
            refine wp_loop_rounds 4 ?_
            rw [rounds_succ]
            go_wp2
            rw [rounds_succ]
            go_wp2
            rw [rounds_succ]
            go_wp2
            go_ret2
            exact ⟨_, rfl, rfl⟩
        obtain ⟨gc1, gc2⟩ := Classical.not_not.1 gc
        have hd : (bs s).drop k = s[k] :: s[k + 1] :: s[k + 1 + 1] :: (bs s).drop (k + 3) := by rw [bs_drop s k h0, bs_drop s (k + 1) h1, bs_drop s (k + 1 + 1) h2]
        have gv : 256 ≤ 8 * (8 * ((s[k].toNat : Int) - 48) + ((s[k + 1].toNat : Int) - 48)) + ((s[k + 1 + 1].toNat : Int) - 48) := by
          rcases Nat.lt_or_ge (64 * (s[k].toNat - 48) + 8 * (s[k + 1].toNat - 48) + (s[k + 1 + 1].toNat - 48)) 256 with h | h
          · rw [hd, octF_yes _ _ _ _ ⟨ga1, ga2⟩ ⟨gb1, gb2⟩ ⟨gc1, gc2⟩ h] at ho; cases ho
          · omega
        clear ho ga gb gc hd
        go_enter Tryd.func33, Tryd.ntmps33
        go_wp2
        refine wp_loop_rounds 4 ?_
        rw [rounds_succ]
        go_wp2
        rw [rounds_succ]
        go_wp2
        rw [rounds_succ]
        go_wp2
        rw [rounds_succ]
        go_wp2
        go_ret2
        exact ⟨_, congrArg (fun b => Ending.returned (.tuple #[_, .bool b])) (by simp only [decide_eq_false_iff_not]; omega), rfl⟩
      · clear ho ga gb
        go_enter Tryd.func33, Tryd.ntmps33
        go_wp2
        refine wp_loop_rounds 4 ?_
        rw [rounds_succ]
        go_wp2
        rw [rounds_succ]
        go_wp2
        rw [rounds_succ]
        go_wp2
        go_ret2
        exact ⟨_, rfl, rfl⟩
    · clear ho ga
      go_enter Tryd.func33, Tryd.ntmps33
      go_wp2
      refine wp_loop_rounds 4 ?_
      rw [rounds_succ]
      go_wp2
      rw [rounds_succ]
      go_wp2
      go_ret2
      exact ⟨_, rfl, rfl⟩
  · clear ho
    go_enter Tryd.func33, Tryd.ntmps33
    go_wp2
    refine wp_loop_rounds 4 ?_
    rw [rounds_succ]
    go_wp2
    go_ret2
    exact ⟨_, rfl, rfl⟩
set_option maxRecDepth 100000 in
set_option maxHeartbeats 1000000 in
theorem octalR_yes (s : ByteArray) (k : Nat) (b : UInt8) (w : World) (hs : s.size ≤ 4611686018427387904) (ho : octF ((bs s).drop k) = some b) :
    Calls Tryd.prog 33 #[.string s, .int .i64 k] w fun e w' => e = .returned (.tuple #[.int .u8 b.toNat, .bool true]) ∧ w = w' := by
  have hl := octF_len _ _ ho
  rw [List.length_drop, bs_len] at hl
  have h0 : k < s.size := by omega
  have h1 : k + 1 < s.size := by omega
  have h2 : k + 1 + 1 < s.size := by omega
  have ha := u8_lt s[k]
  have hb := u8_lt s[k + 1]
  have hc := u8_lt s[k + 1 + 1]
  have hd : (bs s).drop k = s[k] :: s[k + 1] :: s[k + 1 + 1] :: (bs s).drop (k + 3) := by rw [bs_drop s k h0, bs_drop s (k + 1) h1, bs_drop s (k + 1 + 1) h2]
  rw [hd] at ho
  have hall : Dg s[k] ∧ Dg s[k + 1] ∧ Dg s[k + 1 + 1] ∧ 64 * (s[k].toNat - 48) + 8 * (s[k + 1].toNat - 48) + (s[k + 1 + 1].toNat - 48) < 256 := by
    refine Classical.byContradiction fun h => ?_
    rw [octF_no _ _ _ _ h] at ho; cases ho
  obtain ⟨⟨ga1, ga2⟩, ⟨gb1, gb2⟩, ⟨gc1, gc2⟩, gv⟩ := hall
  rw [octF_yes _ _ _ _ ⟨ga1, ga2⟩ ⟨gb1, gb2⟩ ⟨gc1, gc2⟩ gv] at ho
  have gv2 : 8 * (8 * ((s[k].toNat : Int) - 48) + ((s[k + 1].toNat : Int) - 48)) + ((s[k + 1 + 1].toNat : Int) - 48) < 256 := by omega
  have HV : Hid (Value.int .u8 (8 * (8 * ((s[k].toNat : Int) - 48) + ((s[k + 1].toNat : Int) - 48)) + ((s[k + 1 + 1].toNat : Int) - 48)) = .int .u8 (b.toNat : Int)) := Lib.hid (by
    rw [← Option.some.inj ho]
    congr 1
    rw [UInt8.toNat_ofNat', Nat.mod_eq_of_lt (by omega)]
    omega)
  clear ho hd hl gv
  go_enter Tryd.func33, Tryd.ntmps33
  go_wp2
  refine wp_loop_rounds 4 ?_
  rw [rounds_succ]
  go_wp2
  rw [rounds_succ]
  go_wp2
  rw [rounds_succ]
  go_wp2
  rw [rounds_succ]
  go_wp2
  go_ret2
  exact ⟨(congrArg (fun v => Ending.returned (.tuple #[_, .bool v])) rfl).trans (congrArg (fun v => Ending.returned (.tuple #[v, .bool true])) HV.out), rfl⟩
end Sc
end Go.Proofs.YtgfinppppgpleaaDoor

/-
  Walks of layer 1, reading words: octal, quotedByte, quoted, Unquote. Conditions: the text has at most 2^20 bytes.
-/
import Derived.Test.YtgfinppppgpleaaDoorScanQuote
import Derived.LoopN
namespace Go.Proofs.YtgfinppppgpleaaDoor
open Go.RowKit
namespace Sc
/-- []byte(s) of three bytes. -/
theorem conv3 (x : ByteArray) (hx : x.size = 3) (a b c : UInt8) (h : bs x = [a, b, c]) (w : World) :
    ∃ (cap : Nat) (W : World), (convert 9 49 (.string x)).run Tryd.prog w = .ok (.slice (some ⟨w.heap.size, 0, none⟩) 3 cap) W ∧
      W.cell? ⟨w.heap.size, 0, none⟩ = some (.int .u8 (a.toNat : Int)) ∧ W.cell? ⟨w.heap.size, 1, none⟩ = some (.int .u8 (b.toNat : Int)) ∧ W.cell? ⟨w.heap.size, 2, none⟩ = some (.int .u8 (c.toNat : Int)) ∧ Below w.heap.size w W := by
  have hr := run_bytes_of_string w 9 49 5 x Tryd.underlying9 Tryd.underlying49 Tryd.underlying5
  rw [hx] at hr
  have hd : x.data = #[a, b, c] := by apply Array.toList_inj.1; exact h
  have hrow : ∀ j, (bytesRow x (grownCap w 3 0 5))[j]? = if j < 3 then some (.int .u8 (([a, b, c].getD j 0).toNat : Int)) else (bytesRow x (grownCap w 3 0 5))[j]? := by
    intro j
    split
    · rename_i hj
      rw [bytesRow_at x _ j (by rw [hd]; exact hj)]
      match j, hj with
      | 0, _ => simp [hd]
      | 1, _ => simp [hd]
      | 2, _ => simp [hd]
    · rfl
  refine ⟨_, _, hr, ?_, ?_, ?_, ((Below.refl _ _).drew).alloc (Nat.le_refl _) _⟩
  · have := World.cell?_alloc_mark w.drew (bytesRow x (grownCap w 3 0 5)) 5 ((bytesRow x (grownCap w 3 0 5)).size, (bytesRow x (grownCap w 3 0 5)).size + 1) 0
    rw [hrow] at this; exact this
  · have := World.cell?_alloc_mark w.drew (bytesRow x (grownCap w 3 0 5)) 5 ((bytesRow x (grownCap w 3 0 5)).size, (bytesRow x (grownCap w 3 0 5)).size + 1) 1
    rw [hrow] at this; exact this
  · have := World.cell?_alloc_mark w.drew (bytesRow x (grownCap w 3 0 5)) 5 ((bytesRow x (grownCap w 3 0 5)).size, (bytesRow x (grownCap w 3 0 5)).size + 1) 2
    rw [hrow] at this; exact this
/-- What octal hands back. -/
def octV (k : Nat) : Option UInt8 → Value
  | some b => .tuple #[.int .u8 b.toNat, .int .i64 ((k : Int) + 3), .bool true]
  | none => .tuple #[.int .u8 0, .int .i64 0, .bool false]
def Dg (a : UInt8) : Prop := 48 ≤ a.toNat ∧ a.toNat ≤ 55
theorem octF_yes (a b c : UInt8) (r : List UInt8) (ha : Dg a) (hb : Dg b) (hc : Dg c) (h : 64 * (a.toNat - 48) + 8 * (b.toNat - 48) + (c.toNat - 48) < 256) :
    octF (a :: b :: c :: r) = some (UInt8.ofNat (64 * (a.toNat - 48) + 8 * (b.toNat - 48) + (c.toNat - 48))) := by
  exact if_pos ⟨ha, hb, hc, h⟩
theorem octF_no (a b c : UInt8) (r : List UInt8) (h : ¬ (Dg a ∧ Dg b ∧ Dg c ∧ 64 * (a.toNat - 48) + 8 * (b.toNat - 48) + (c.toNat - 48) < 256)) : octF (a :: b :: c :: r) = none := by
  exact if_neg h
theorem octF_short (l : List UInt8) (h : l.length < 3) : octF l = none := by
  match l, h with
  | [], _ => rfl
  | [_], _ => rfl
  | [_, _], _ => rfl
theorem not_Dg (a : UInt8) (h : ¬ Dg a) : (a.toNat : Int) < 48 ∨ (55 : Int) < (a.toNat : Int) := by unfold Dg at h; omega
set_option maxRecDepth 100000 in
set_option maxHeartbeats 4000000 in
theorem octal_any (s : ByteArray) (k : Nat) (w : World) (hs : s.size ≤ 4611686018427387904) (hk : k ≤ s.size) :
    Calls Tryd.prog 40 #[.string s, .int .i64 k] w fun e w' => e = .returned (octV k (octF ((bs s).drop k))) ∧ Below w.heap.size w w' := by
  by_cases h3 : s.size < k + 3
  · have HO := Lib.hid (octF_short ((bs s).drop k) (by rw [List.length_drop, bs_len]; omega))
    go_enter Tryd.func40, Tryd.ntmps40
    go_wp2
    go_ret3
    exact ⟨by rw [HO.out]; rfl, Below.refl _ _⟩
  have h0 : k < s.size := by omega
  have h1 : k + 1 < s.size := by omega
  have h2 : k + 2 < s.size := by omega
  have hx : (s.extract k (k + 3)).size = 3 := by simp only [ByteArray.size_extract]; omega
  have hd : (bs s).drop k = s[k] :: s[k + 1] :: s[k + 2] :: (bs s).drop (k + 3) := by
    rw [bs_drop s k h0, bs_drop s (k + 1) h1, bs_drop s (k + 2) h2]
  have hb : bs (s.extract k (k + 3)) = [s[k], s[k + 1], s[k + 2]] := by
    rw [bs_extract, hd, show k + 3 - k = 3 by omega]; rfl
  generalize s[k] = a at hd hb
  generalize s[k + 1] = b at hd hb
  generalize s[k + 2] = c at hd hb
  obtain ⟨cap, W, hcv, c0, c1, c2, hbel⟩ := conv3 _ hx a b c hb w
  have ha := u8_lt a
  have hb' := u8_lt b
  have hc' := u8_lt c
  have HD := Lib.hid hd
  have hle : (k : Int) + 3 ≤ (s.size : Int) := by omega
  clear hx hd hb
  by_cases ga : ¬ Dg a
  · have HO := Lib.hid (octF_no a b c ((bs s).drop (k + 3)) (fun h => ga h.1))
    rw [← HD.out] at HO
    rcases not_Dg a ga with g | g
    · clear ga
      go_enter Tryd.func40, Tryd.ntmps40
      go_wp2
      refine wp_loop_rounds 4 ?_
      rw [rounds_succ]
      go_wp2
      go_ret3
      exact ⟨by rw [HO.out]; rfl, hbel⟩
    · clear ga
      go_enter Tryd.func40, Tryd.ntmps40
      go_wp2
      refine wp_loop_rounds 4 ?_
      rw [rounds_succ]
      go_wp2
      go_ret3
      exact ⟨by rw [HO.out]; rfl, hbel⟩
  obtain ⟨ga1, ga2⟩ := Classical.not_not.1 ga
  by_cases gb : ¬ Dg b
  · clear ga
    have HO := Lib.hid (octF_no a b c ((bs s).drop (k + 3)) (fun h => gb h.2.1))
    rw [← HD.out] at HO
    rcases not_Dg b gb with g | g
    · clear gb
      go_enter Tryd.func40, Tryd.ntmps40
      go_wp2
      refine wp_loop_rounds 4 ?_
      rw [rounds_succ]
      go_wp2
      rw [rounds_succ]
      go_wp2
      go_ret3
      exact ⟨by rw [HO.out]; rfl, hbel⟩
    · clear gb
      go_enter Tryd.func40, Tryd.ntmps40
      go_wp2
      refine wp_loop_rounds 4 ?_
      rw [rounds_succ]
      go_wp2
      rw [rounds_succ]
      go_wp2
      go_ret3
      exact ⟨by rw [HO.out]; rfl, hbel⟩
  obtain ⟨gb1, gb2⟩ := Classical.not_not.1 gb
  by_cases gc : ¬ Dg c
  · clear ga gb
    have HO := Lib.hid (octF_no a b c ((bs s).drop (k + 3)) (fun h => gc h.2.2.1))
    rw [← HD.out] at HO
    rcases not_Dg c gc with g | g
    · clear gc
      go_enter Tryd.func40, Tryd.ntmps40
      go_wp2
      refine wp_loop_rounds 4 ?_
      rw [rounds_succ]
      go_wp2
      rw [rounds_succ]
      go_wp2
      rw [rounds_succ]
      go_wp2
      go_ret3
      exact ⟨by rw [HO.out]; rfl, hbel⟩
    · clear gc
      go_enter Tryd.func40, Tryd.ntmps40
      go_wp2
      refine wp_loop_rounds 4 ?_
      rw [rounds_succ]
      go_wp2
      rw [rounds_succ]
      go_wp2
      rw [rounds_succ]
      go_wp2
      go_ret3
      exact ⟨by rw [HO.out]; rfl, hbel⟩
  obtain ⟨gc1, gc2⟩ := Classical.not_not.1 gc
  by_cases gv : 64 * (a.toNat - 48) + 8 * (b.toNat - 48) + (c.toNat - 48) < 256
  · have HO := Lib.hid (octF_yes a b c ((bs s).drop (k + 3)) ⟨ga1, ga2⟩ ⟨gb1, gb2⟩ ⟨gc1, gc2⟩ gv)
    rw [← HD.out] at HO
    have gv2 : 8 * (8 * ((a.toNat : Int) - 48) + ((b.toNat : Int) - 48)) + ((c.toNat : Int) - 48) ≤ 255 := by omega
    have HV : Hid (Value.int .u8 (8 * (8 * ((a.toNat : Int) - 48) + ((b.toNat : Int) - 48)) + ((c.toNat : Int) - 48)) = .int .u8 ((UInt8.ofNat (64 * (a.toNat - 48) + 8 * (b.toNat - 48) + (c.toNat - 48))).toNat : Int)) := Lib.hid (by
      congr 1
      rw [UInt8.toNat_ofNat', Nat.mod_eq_of_lt (by omega)]
      omega)
    clear ga gb gc gv
    go_enter Tryd.func40, Tryd.ntmps40
    go_wp2
    refine wp_loop_rounds 4 ?_
    rw [rounds_succ]
    go_wp2
    rw [rounds_succ]
    go_wp2
    rw [rounds_succ]
    go_wp2
    rw [rounds_succ]
    go_wp2
    go_ret3
    exact ⟨by rw [HO.out]; exact congrArg (fun v => Ending.returned (.tuple #[v, .int .i64 ((k : Int) + 3), .bool true])) HV.out, hbel⟩
  · have HO := Lib.hid (octF_no a b c ((bs s).drop (k + 3)) (fun h => gv h.2.2.2))
    rw [← HD.out] at HO
    have gv2 : 255 < 8 * (8 * ((a.toNat : Int) - 48) + ((b.toNat : Int) - 48)) + ((c.toNat : Int) - 48) := by omega
    clear ga gb gc gv
    go_enter Tryd.func40, Tryd.ntmps40
    go_wp2
    refine wp_loop_rounds 4 ?_
    rw [rounds_succ]
    go_wp2
    rw [rounds_succ]
    go_wp2
    rw [rounds_succ]
    go_wp2
    rw [rounds_succ]
    go_wp2
    go_ret3
    exact ⟨by rw [HO.out]; rfl, hbel⟩
end Sc
end Go.Proofs.YtgfinppppgpleaaDoor

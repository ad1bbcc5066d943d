/- Facts; each states its conditions. -/
import Derived.Test.YtjecfmbecgpbmaaGreatDoorTextJoin
import Derived.RangeFuncGives
import Derived.RangeFuncOwn
import Derived.RangeFuncCalls
import Derived.RangeFuncLeaves
import Derived.Maps.AppendAt
import Derived.Shelf.AbstractIn
import Derived.OwnWalkIn
import Derived.TacticsInMore
import Derived.RegionIn
import Derived.LoopNIn
import Derived.LoopIn
namespace Go.Proofs.YtjecfmbecgpbmaaGreatDoor
open Go.RowKit
attribute [local go_sem] Oper.semAt_some
namespace Tx
theorem IndexByte_lf (s : ByteArray) (w : World) : Calls Tryz.prog 139 #[.string s, .int .u8 10] w fun e w' => e = .returned (.int .i64 (Lib.indexByte (bs s) 10)) ∧ w = w' :=
 (Tryz.strings_IndexByte s 10 w).mono fun _ _ ⟨h1, h2⟩ => ⟨h1, h2.symm⟩
theorem Lines_any (s : ByteArray) (w : World) : Calls Tryz.prog 100 #[.string s] w fun e w' => e = .returned (.func (.func 138) #[] #[.pointer (some ⟨w.heap.size, 0, none⟩)]) ∧ w' = w.alloc (.cells #[.string s] 9) := by
 go_enter Tryz.func100, Tryz.ntmps100
 go_wp2_with fail
 go_ret
 exact ⟨rfl, rfl⟩
def restOf (w : World) (b : Nat) : Nat := match w.cell? ⟨b, 0, none⟩ with | some (.string s) => s.size | _ => 0
theorem restOf_eq {w : World} {b : Nat} {s : ByteArray} (h : w.cell? ⟨b, 0, none⟩ = some (.string s)) : restOf w b = s.size := by
 unfold restOf; rw [h]
theorem lines_at (l : List UInt8) (k : Nat) (h : Lib.indexByte l 10 = (k : Int)) : k < l.length ∧ linesF l = l.take (k + 1) :: linesF (l.drop (k + 1)) := by
 obtain ⟨h1, h2⟩ := Lib.indexByte_some h
 have hk : k < l.length := by
  rcases Nat.lt_or_ge k l.length with h3 | h3
  · exact h3
  · rw [List.getElem?_eq_none h3] at h1; cases h1
 have := lines_lf l 0 k (Nat.zero_le _) h1 (fun j _ hj => h2 j hj)
 exact ⟨hk, this⟩
theorem lines_none (l : List UInt8) (h : Lib.indexByte l 10 = -1) (h0 : l ≠ []) : linesF l = [l] := by
 refine linesF_one l ?_ h0
 intro hm
 obtain ⟨j, hj⟩ := List.mem_iff_getElem?.1 hm
 exact Lib.indexByte_none h j hj
theorem set_cell {w : World} {b : Nat} {u : Value} (v : Value) (h : w.cell? ⟨b, 0, none⟩ = some u) : (w.setCell ⟨b, 0, none⟩ v).drew.cell? ⟨b, 0, none⟩ = some v :=
 World.cell?_setCell_same' _ _ _ (by rw [h]; rfl)
theorem set_frozen {w : World} {b : Nat} {f : Bool} (v : Value) (h : w.frozen? ⟨b, 0, none⟩ = f) : (w.setCell ⟨b, 0, none⟩ v).drew.frozen? ⟨b, 0, none⟩ = f := by
 show (w.setCell ⟨b, 0, none⟩ v).frozen? _ = f
 rw [World.frozen?_setCell]; exact h
def KeepsCell (b : Nat) (W W' : World) : Prop := W'.cell? ⟨b, 0, none⟩ = W.cell? ⟨b, 0, none⟩ ∧ W'.frozen? ⟨b, 0, none⟩ = W.frozen? ⟨b, 0, none⟩
set_option maxRecDepth 100000 in
set_option maxHeartbeats 2000000 in
theorem lines1_in (n : Nat) (hn : 1 ≤ n) (l Bx N : Nat) (s : ByteArray) (hs : s.size ≤ 4194304) (J : List (List UInt8) → World → Prop)
 (hJs : ∀ ss W v, J ss W → J ss (W.setCell ⟨Bx, 0, none⟩ v)) (hJd : ∀ ss W, J ss W → J ss W.drew)
 (hY : ∀ pre (x : ByteArray) W, J pre W → pre.length < N → YieldAt Fence.wide (n - 1) Tryz.prog l #[.string x] W fun e W' => e = .returned (.bool true) ∧ J (pre ++ [bs x]) W' ∧ KeepsCell Bx W W')
 (W : World) (hc0 : W.cell? ⟨Bx, 0, none⟩ = some (.string s)) (hf0 : W.frozen? ⟨Bx, 0, none⟩ = false) (h0 : J [] W) (hN : (linesF (bs s)).length ≤ N) :
 CallsIn Fence.wide n Tryz.prog 138 #[.func (.yield l) #[] #[], .pointer (some ⟨Bx, 0, none⟩)] W fun e W' => (∃ v, e = .returned v) ∧ J (linesF (bs s)) W' := by
 refine callsIn_of_wp Tryz.func138 rfl trivial ?_ rfl
 simp only [Tryz.ntmps138, List.size_toArray, List.length_cons, List.length_nil, Nat.reduceAdd, Nat.reduceSub, Array.replicate_succ, Array.replicate_zero, List.push_toArray, List.append_toArray, List.nil_append, List.cons_append]
 gi_wp2
 gi_loopw [3] (fun _ wr => ∃ (pre : List (List UInt8)) (t : ByteArray), wr.cell? ⟨Bx, 0, none⟩ = some (.string t) ∧ wr.frozen? ⟨Bx, 0, none⟩ = false ∧ t.size ≤ s.size ∧ Hid (pre ++ linesF (bs t) = linesF (bs s)) ∧ J pre wr) (fun _ wr => restOf wr Bx)
 case atStart => exact ⟨[], s, hc0, hf0, Nat.le_refl _, Lib.hid rfl, h0⟩
 case round =>
  obtain ⟨pre, t, hc, hf, hts, HL, hJ⟩ := hrel
  by_cases ht : t.size = 0
  · have HE : Hid (pre = linesF (bs s)) := Lib.hid (by
     rw [← HL.out, show bs t = [] from List.eq_nil_of_length_eq_zero ht]; exact (List.append_nil _).symm)
    have hd : ¬ ((0 : Int) < (t.size : Int)) := by omega
    clear ht
    gi_wp2
    go_end0
    exact ⟨⟨_, rfl⟩, by rw [← HE.out]; exact hJ⟩
  · have hd : (0 : Int) < (t.size : Int) := by omega
    have HI := Lib.hid (fun w => IndexByte_lf t w)
    by_cases hi : 0 ≤ Lib.indexByte (bs t) 10
    · obtain ⟨k, hk⟩ : ∃ k : Nat, Lib.indexByte (bs t) 10 = (k : Int) := ⟨(Lib.indexByte (bs t) 10).toNat, by omega⟩
      obtain ⟨hkl, HLt'⟩ := lines_at (bs t) k hk
      have HLt := Lib.hid HLt'
      rw [bs_len] at hkl
      rw [hk] at HI
      clear hi hk HLt' ht
      gi_wp2_with (refine ⟨(trivial : Fence.wide.fn 139), ?_⟩; gi_at_call 139; refine (callsIn_wide.2 (HI.out _)).mono ?_; rintro e w1 ⟨rfl, rfl⟩)
      gi_region
      have hlen : pre.length < N := by
       have h1 := congrArg List.length HL.out
       rw [HLt.out, List.length_append, List.length_cons] at h1; omega
      obtain ⟨fn, tmps, assign, body, hy, hR⟩ := hY pre (t.extract 0 (k + 1)) _ (hJd _ _ (hJs pre wr (.string (t.extract (k + 1) t.size)) hJ)) hlen
      have hc2 := set_cell (.string (t.extract (k + 1) t.size)) hc
      have hf2 := set_frozen (.string (t.extract (k + 1) t.size)) hf
      generalize (wr.setCell ⟨Bx, 0, none⟩ (.string (t.extract (k + 1) t.size))).drew = W2 at hy hR hc2 hf2
      have hx1 : (t.extract (k + 1) t.size).size < t.size := by rw [ByteArray.size_extract]; omega
      have HX : Hid ((pre ++ [bs (t.extract 0 (k + 1))]) ++ linesF (bs (t.extract (k + 1) t.size)) = linesF (bs s)) := Lib.hid (by
       have e1 : bs (t.extract 0 (k + 1)) = (bs t).take (k + 1) := by rw [bs_extract]; rfl
       have e2 : bs (t.extract (k + 1) t.size) = (bs t).drop (k + 1) := by
        rw [bs_extract, List.take_of_length_le (by rw [List.length_drop, bs_len]; exact Nat.le_refl _)]
       rw [← HL.out, HLt.out, e1, e2, List.append_assoc]; rfl)
      have HRe := Lib.hid (restOf_eq hc)
      generalize t.extract (k + 1) t.size = t2 at hx1 HX hc2
      generalize t.extract 0 (k + 1) = y at HX hy hR
      gi_wp2
      refine hR.mono ?_
      rintro e W3 ⟨rfl, hJ3, hk3⟩
      have hc3 := hk3.1.trans hc2
      have hf3 := hk3.2.trans hf2
      clear hc2 hf2
      gi_wp2
      go_roundw
      case rel => exact ⟨_, t2, hc3, hf3, by omega, HX, hJ3⟩
      case measure => rw [HRe.out, restOf_eq hc3]; exact hx1
    · have hi2 : Lib.indexByte (bs t) 10 = -1 := by have := Lib.indexByte_ge (bs t) 10; omega
      have HLt := Lib.hid (lines_none (bs t) hi2 (fun e => by
       have h2 := bs_len t
       rw [e, List.length_nil] at h2; omega))
      rw [hi2] at HI
      clear hi hi2 ht
      have hlen : pre.length < N := by
       have h1 := congrArg List.length HL.out
       rw [HLt.out, List.length_append, List.length_singleton] at h1; omega
      obtain ⟨fn, tmps, assign, body, hy, hR⟩ := hY pre t _ (hJs pre wr (.string ⟨#[]⟩) hJ) hlen
      have hc2 : (wr.setCell ⟨Bx, 0, none⟩ (.string ⟨#[]⟩)).cell? ⟨Bx, 0, none⟩ = some (.string ⟨#[]⟩) := set_cell (.string ⟨#[]⟩) hc
      have hf2 : (wr.setCell ⟨Bx, 0, none⟩ (.string ⟨#[]⟩)).frozen? ⟨Bx, 0, none⟩ = false := set_frozen (.string ⟨#[]⟩) hf
      have HX : Hid ((pre ++ [bs t]) ++ linesF (bs ⟨#[]⟩) = linesF (bs s)) := Lib.hid (by
       rw [← HL.out, HLt.out]; exact List.append_nil _)
      have HRe := Lib.hid (restOf_eq hc)
      gi_wp2_with (first
       | (refine ⟨(trivial : Fence.wide.fn 139), ?_⟩; gi_at_call 139; refine (callsIn_wide.2 (HI.out _)).mono ?_; rintro e w1 ⟨rfl, rfl⟩)
       | gi_in)
      refine hR.mono ?_
      rintro e W3 ⟨rfl, hJ3, hk3⟩
      have hc3 := hk3.1.trans hc2
      have hf3 := hk3.2.trans hf2
      clear hc2 hf2 hy hR hk3
      have hz : (ByteArray.mk #[]).size < t.size := by show 0 < t.size; omega
      gi_wp2
      go_roundw
      case rel => exact ⟨_, _, hc3, hf3, Nat.zero_le _, HX, hJ3⟩
      case measure => rw [HRe.out, restOf_eq hc3]; exact hz
end Tx
end Go.Proofs.YtjecfmbecgpbmaaGreatDoor

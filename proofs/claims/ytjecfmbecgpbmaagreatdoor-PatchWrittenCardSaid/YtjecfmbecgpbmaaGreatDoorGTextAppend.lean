/- Facts; each states its conditions. -/
import Derived.Test.YtjecfmbecgpbmaaGreatDoorTextRefJ
import Derived.Laws.AppendOwnNone
import Derived.Test.YtjecfmbecgpbmaaGreatDoorGComBase
namespace Go.Proofs.YtjecfmbecgpbmaaGreatDoor
section
open Go.RowKit
namespace Tx
theorem wpList_wanted {P : Program} {ops : Array Oper} {Q : Exit → Act → World → Prop} {a : Act} {w : World} {rest : List Oper} {o : Oper} (hg : Region.wanted o (yielded ops a.tmps) = true)
 (h : ∀ K : Act → World → Prop, (∀ a w, wpList P ops Q rest a w → K a w) → o.wp P a w K Q) : wpList P ops Q (o :: rest) a w :=
 wpList_step fun K hK => by rw [if_pos hg]; exact h K hK
theorem app_rds {ops : Array Oper} {rest : List Oper} {o : Oper} {a : Act} {Q : Exit → Act → World → Prop} {w : World} (hg : Region.wanted o (yielded ops a.tmps) = true) (s x : Operand)
 (ho : o.op = .call { callee := .builtin .append, args := #[s, x], argTypes := #[30, 30] })
 (base : Nat) (l : List (List UInt8)) (xs : List ByteArray) (v u : Value) (hs : a.eval s = v) (hown : w.ownsRow base 9 1 v l.length (strsV l))
 (hx : a.eval x = u) (hr : RdS w u xs) (hsz : l.length + xs.length ≤ 16777216) (hbase : base ≤ w.heap.size)
 (h : ∀ v' w', w'.ownsRow base 9 1 v' (l ++ bss xs).length (strsV (l ++ bss xs)) → Below base w w' → wpList Tryz.prog ops Q rest (a.put o.dst v') w') :
 wpList Tryz.prog ops Q (o :: rest) a w := by
 obtain ⟨i0, hi0, hz0, hz1, hz2⟩ := info_parts info_str
 obtain ⟨A, c, rfl, ⟨_, hnone⟩, hc⟩ := hr
 refine wpList_wanted hg fun K hK => ?_
 cases A with
 | none =>
   have h0 : xs = [] := by
    rcases Nat.eq_zero_or_pos xs.length with h1 | h1
    · exact List.eq_nil_of_length_eq_zero h1
    · obtain ⟨b, off, e, _⟩ := hc h1; cases e
   subst h0
   obtain rfl := hnone rfl
   have hrun := run_append_owned_none (P := Tryz.prog) (w := w) base 30 o.type 9 i0 1 Tryz.underlying30 hi0 v l.length (strsV l) hown
   unfold Oper.wp
   simp [execOp, ho, resolve, invoke, builtin, hs, hx, hrun, Result.andThen]
   exact hK _ _ (h v w (by rw [show l ++ bss [] = l from List.append_nil _]; exact hown) (Below.refl _ _))
 | some ad =>
   refine wp_append_own w s x _ ho base 9 i0 _ 1 16 Tryz.underlying30 hi0 hz0 hz1 hz2 rfl (by omega) v l.length (strsV l) hs hown ad xs.length c (strsV (bss xs)) hx (by rw [strsV_len]; simp [bss]) (fun j y hy => ?_) (fun y hy => ?_) (by unfold maxLen; omega) (by omega) hbase ?_
   · have hj : j < xs.length := by
      rcases Nat.lt_or_ge j xs.length with h1 | h1
      · exact h1
      · rw [List.getElem?_eq_none (by rw [strsV_len]; simp [bss]; exact h1)] at hy; cases hy
     obtain ⟨b, off, e, hcell⟩ := hc (by omega)
     cases e
     have he : (Addr.mk b off none).add j = ⟨b, off + j, none⟩ := by
      unfold Addr.add; split
      · rename_i h0; rw [h0]; rfl
      · rfl
     rw [he, hcell j hj, ← hy]
     simp [strsV, bss, List.getElem?_eq_getElem hj]
   · simp only [strsV, List.mem_map] at hy
     obtain ⟨z, _, rfl⟩ := hy
     rfl
   · intro v' w' h1 h2 _
     refine hK _ _ (h v' w' ?_ (below_of_appendS hown h2 hbase))
     rw [strsV_append, List.length_append, show (bss xs).length = xs.length from by simp [bss]]
     exact h1
end Tx
end
section
namespace Tx
end Tx
open Go.RowKit
namespace Pa
open Tx (RdS below_drewN)
set_option maxRecDepth 100000 in
set_option maxHeartbeats 2000000 in
theorem EqS_any (a b : Value) (xs ys : List ByteArray) (w : World) (ha : RdS w a xs) (hb : RdS w b ys) (hl : xs.length ≤ 1000000) (_hm : ys.length ≤ 1000000) :
 Calls Tryz.prog 60 #[a, b] w fun e w' => e = .returned (.bool (decide (xs = ys))) ∧ Below w.heap.size w w' := by
 obtain ⟨A, c, rfl, _, hA⟩ := ha
 obtain ⟨B, d, rfl, _, hB⟩ := hb
 by_cases hne : xs.length = ys.length
 · have HA := Lib.hid hA
   have HB := Lib.hid hB
   have HE := Lib.hid hne
   rw [← hne]
   clear hA hB hne _hm
   generalize hn : xs.length = n at hl
   have HN := Lib.hid hn
   have e1 : ((n : Int) != (n : Int)) = false := by simp
   clear hn
   go_enter Tryz.func60, Tryz.ntmps60
   go_wp2_with fail
   go_loopw [5, 13] (fun _ i wr => ∃ j : Nat, j ≤ n ∧ i = .int .i64 j ∧ Hid (xs.take j = ys.take j) ∧ ∃ m, wr = w.drewN m) (fun _ i _ => n - (intOf i).toNat)
   case atStart => exact ⟨0, Nat.zero_le _, rfl, Lib.hid rfl, 0, rfl⟩
   case round =>
    obtain ⟨j, hj, rfl, HT, m, rfl⟩ := hrel
    by_cases hlt : j < n
    · have hx : j < xs.length := by rw [HN.out]; exact hlt
      have hy : j < ys.length := by rw [← HE.out, HN.out]; exact hlt
      obtain ⟨b1, o1, rfl, hA2⟩ := HA.out (by omega)
      obtain ⟨b2, o2, rfl, hB2⟩ := HB.out (by omega)
      have c1 : w.cell? ⟨b1, o1 + j, none⟩ = some (.string xs[j]) := hA2 j hx
      have c2 : w.cell? ⟨b2, o2 + j, none⟩ = some (.string ys[j]) := hB2 j hy
      have HX : Hid (xs[j] = ys[j] → xs.take (j + 1) = ys.take (j + 1)) := Lib.hid (fun h => by rw [List.take_succ_eq_append_getElem hx, List.take_succ_eq_append_getElem hy, HT.out, h])
      have HY : Hid (xs[j] ≠ ys[j] → xs ≠ ys) := Lib.hid (fun h e => h (by subst e; rfl))
      clear hA2 hB2
      generalize xs[j] = x at *
      generalize ys[j] = y at *
      have i1 : (0 : Int) ≤ (j : Int) := by omega
      have i2 : (j : Int) < (n : Int) := by omega
      by_cases hxy : x = y
      · have HT2 := Lib.hid (HX.out hxy)
        subst hxy
        clear HX HY HT
        go_wp2_with fail
        go_quiet (fail)
        go_wp2_with fail
        go_roundw
        case rel => exact ⟨j + 1, by omega, by go_num, HT2, _, rfl⟩
        case measure => simp [intOf]; omega
      · have HF : Hid (decide (xs = ys) = false) := Lib.hid (decide_eq_false (HY.out hxy))
        have e2 := Nt.eqF hxy
        have e3 : (x.toList != y.toList) = true := by unfold bne; rw [e2]; rfl
        clear HX HY HT hxy
        go_wp2_with fail
        go_quiet (fail)
        go_wp2_with fail
        go_ret
        exact ⟨by rw [HF.out]; rfl, below_drewN (below_drewN (Below.refl _ _) _) _⟩
    · obtain rfl : j = n := by omega
      have hd : decide (j < j) = false := by simp only [decide_eq_false_iff_not]; omega
      have HF : Hid (decide (xs = ys) = true) := Lib.hid (decide_eq_true (by
       have h := HT.out
       rw [List.take_of_length_le (by rw [HN.out]; exact Nat.le_refl _), List.take_of_length_le (by rw [← HE.out, HN.out]; exact Nat.le_refl _)] at h
       exact h))
      clear HT
      go_wp2_with fail
      go_ret
      exact ⟨by rw [HF.out]; rfl, below_drewN (Below.refl _ _) _⟩
 · have HF : Hid (decide (xs = ys) = false) := Lib.hid (decide_eq_false (fun e => hne (by rw [e])))
   have e1 : ((xs.length : Int) != (ys.length : Int)) = true := by rw [bne_iff_ne]; omega
   clear hA hB hne
   generalize xs.length = n at *
   generalize ys.length = m at *
   go_enter Tryz.func60, Tryz.ntmps60
   go_wp2_with fail
   go_ret
   exact ⟨by rw [HF.out]; rfl, Below.refl _ _⟩
end Pa
end
end Go.Proofs.YtjecfmbecgpbmaaGreatDoor

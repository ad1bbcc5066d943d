/-
  Walk of layer 6's reference: All. Conditions: a valid automaton; a text of at most 100000 bytes.
-/
import Derived.Test.YthoidaaldngpmaaSeaRef
import Derived.Test.YthoidaaldngpmaaSeaAll
import Derived.Test.YthoidaaldngpmaaSeaMade
namespace Go.Proofs.Ythoidaaldngpmaa
open Go.RowKit
namespace Se
open Cm Rx Au
theorem heap_keep2 (V : World) (X : Nat) (h : X < V.heap.size) {o : Obj} : (V.alloc o).heap[X]? = V.heap[X]? := Below.heap_alloc V o X h
section
variable {ops : Array Oper} {rest : List Oper} {o : Oper} {a : Act} {Q : Exit → Act → World → Prop} {w : World}
/-- append of one span onto spans that the call owns. -/
theorem app_sp (hg : Region.wanted o (yielded ops a.tmps) = true)
    (s x : Operand) (ho : o.op = .call { callee := .builtin .append, args := #[s, x], argTypes := #[tSps, tSps] })
    (base : Nat) (pre : List (Nat × Nat)) (y : Nat × Nat) (v : Value) (hs : a.eval s = v) (hown : w.ownsRow base tSp 2 v pre.length (flatP pre))
    (hx : a.eval x = .slice (some ⟨w.heap.size, 0, none⟩) 1 1)
    (hsz : pre.length + 1 ≤ 1000000) (hbase : base ≤ w.heap.size)
    (h : ∀ v' w', w'.ownsRow base tSp 2 v' (pre ++ [y]).length (flatP (pre ++ [y])) → Below base w w' → (w.alloc (.cells #[.int .i64 (y.1 : Int), .int .i64 (y.2 : Int)] tSp)).grownBy w' v.ownBlock → wpList Try.prog ops Q rest (a.put o.dst v') w') :
    wpList Try.prog ops Q (o :: rest) a (w.alloc (.cells #[.int .i64 (y.1 : Int), .int .i64 (y.2 : Int)] tSp)) := by
  obtain ⟨i0, hi0, hz0, hz1, hz2⟩ := info_parts info_sp
  have hsize : (w.alloc (.cells #[.int .i64 (y.1 : Int), .int .i64 (y.2 : Int)] tSp)).heap.size = w.heap.size + 1 := by simp
  refine wpList_wanted hg fun K hK => ?_
  refine wp_append_own _ s x _ ho base tSp i0 _ 2 16 Try.underlying61 hi0 hz0 hz1 hz2 rfl (by omega) v pre.length (flatP pre) hs (hown.alloc _) ⟨w.heap.size, 0, none⟩ 1 1 [.int .i64 (y.1 : Int), .int .i64 (y.2 : Int)] hx
    rfl (cell_two_new _ _ _ _) (by simp [Value.oneCell']) (by unfold maxLen; omega) (by omega) (by omega) ?_
  intro v' w' h1 h2 _
  exact hK _ _ (h v' w' (by rw [List.length_append, List.length_singleton, flatP_append]; exact h1) (((Below.refl base w).alloc hbase _).trans ((Below.refl base _).grown h2 (by omega) (fun k hk => (hown.lt k hk).1))) h2)
end
set_option maxRecDepth 100000 in
set_option maxHeartbeats 4000000 in
theorem AllR_ok (v : Value) (ss : List St) (st : Nat) (s : ByteArray) (w : World) (h : RdA w v ss) (hv : ValidA ss (st : Int)) (hs : s.size ≤ 100000) :
    Calls Try.prog 44 #[.agg #[v, .int .i64 (st : Int)], .string s] w (AllPost (allL ss st (Tx.bs s)) w) := by
  have HBl : Hid ((Tx.bs s).length = s.size) := Lib.hid (bs_len s)
  have HCk := Lib.hid (fun W (hb : Below w.heap.size w W) => CheckAR_any v ss st W (h.below hb) (by have := hv.1; omega))
  rw [checkA_T hv] at HCk
  have HFi := Lib.hid (fun W (p : Nat) (hb : Below w.heap.size w W) (hp : p ≤ s.size) => FindR_ok v ss st s p W (h.below hb) hv hs hp)
  obtain ⟨A, c, rfl, hA⟩ := id h
  have HW4 : Hid ((w.alloc (.cells #[.slice A ss.length c, .int .i64 (st : Int)] tAuto)).heap[w.heap.size]? = some (.cells #[.slice A ss.length c, .int .i64 (st : Int)] tAuto (0, 0)) ∧ Below w.heap.size w (w.alloc (.cells #[.slice A ss.length c, .int .i64 (st : Int)] tAuto))) := Lib.hid ⟨heap_new w _, (Below.refl _ _).alloc (Nat.le_refl _) _⟩
  clear hA
  obtain ⟨C, hC⟩ : ∃ C, C = w.heap.size := ⟨_, rfl⟩
  have HCw := Lib.hid hC
  go_enter Try.func44, Try.ntmps44
  go_upto_region 1 with fail
  generalize w.alloc (.cells #[.slice A ss.length c, .int .i64 (st : Int)] tAuto) = w4 at HW4 ⊢
  rw [← hC] at HW4 HCk HFi ⊢
  clear hC h
  obtain ⟨⟨c0, c1⟩, -, -⟩ := box_cells HW4.out.1
  go_wp2_with (go_at_call 26; refine (HCk.out _ HW4.out.2).mono ?_; rintro e w1 ⟨rfl, hb1⟩; have HI : Hid (w1.heap[C]? = some (.cells #[.slice A ss.length c, .int .i64 (st : Int)] tAuto (0, 0)) ∧ Below C w w1) := Lib.hid ⟨(hb1.block _ (lt_some HW4.out.1)).trans HW4.out.1, HW4.out.2.trans (hb1.mono (by have := lt_some HW4.out.1; omega))⟩; clear c0 c1 hb1)
  have HL0 : Hid (allL ss st (Tx.bs s) = [] ++ allG ss st (Tx.bs s) (s.size + 1) 0) := Lib.hid (by rw [List.nil_append, ← HBl.out]; rfl)
  generalize allL ss st (Tx.bs s) = L at *
  clear HCk HW4
  have HO0 : Hid (w1.ownsRow (C + 1) tSp 2 (.slice none 0 0) ([] : List (Nat × Nat)).length (flatP [])) := Lib.hid ⟨rfl, .inl ⟨rfl, rfl⟩⟩
  go_loopw [6, 7] (fun vl i wr => ∃ (d p : Nat) (pre : List (Nat × Nat)), i = .int .i64 (p : Int) ∧ p ≤ s.size + 1 ∧ s.size + 1 ≤ p + d ∧ pre.length ≤ p ∧ Hid (L = pre ++ allG ss st (Tx.bs s) d p) ∧ Hid (wr.ownsRow (C + 1) tSp 2 vl pre.length (flatP pre)) ∧ Hid (wr.heap[C]? = some (.cells #[.slice A ss.length c, .int .i64 (st : Int)] tAuto (0, 0)) ∧ Below C w wr)) (fun _ i _ => s.size + 1 - (intOf i).toNat)
  case atStart => exact ⟨s.size + 1, 0, [], by go_num, by omega, by omega, Nat.le_refl _, HL0, HO0, HI⟩
  case round =>
    clear HI HL0 HO0
    obtain ⟨d, p, pre, rfl, hp1, hp2, hpl, HL, HO, HI⟩ := hrel
    obtain ⟨Av, cv, hvs⟩ := own_formP2 HO.out
    subst hvs
    by_cases hlt : p ≤ s.size
    · have i2 : decide (p ≤ s.size) = true := by simpa using hlt
      obtain ⟨⟨c0, c1⟩, -, -⟩ := box_cells HI.out.1
      have hCr := lt_some HI.out.1
      cases hf : findF ss st (Tx.bs s) p with
      | none =>
        have HE : Hid (L = pre) := Lib.hid (by rw [HL.out, allG_nil hf, List.append_nil])
        have HF : Hid (Calls Try.prog 41 #[.agg #[.slice A ss.length c, .int .i64 (st : Int)], .string s, .int .i64 (p : Int)] wr fun e w' => e = .returned (.tuple #[.agg #[.int .i64 0, .int .i64 0], .bool false, .int .i64 0]) ∧ Below wr.heap.size wr w') := Lib.hid (by have h := HFi.out wr p HI.out.2 hlt; rw [hf] at h; exact h)
        clear hf
        go_wp2_with (go_at_call 41; refine HF.out.mono ?_; rintro e w2 ⟨rfl, hb2⟩; have HB2 := Lib.hid hb2; clear hb2 c0 c1)
        go_ret2
        have hbl : Below wr.heap.size wr (w2.alloc (.cells #[.int .i64 0, .int .i64 0] tSp)) := HB2.out.alloc HB2.out.size _
        refine ⟨_, rfl, ?_, by rw [← HCw.out]; exact HI.out.2.trans (hbl.mono (by omega))⟩
        rw [HE.out, ← HCw.out]
        exact (own_keep HO.out (fun k ob hk _ => (hbl.block _ (lt_some hk)).trans hk)).mono (Nat.le_succ C)
      | some x =>
        obtain ⟨-, hx1, hx2, hx3⟩ := findF_some hf
        rw [HBl.out] at hx3
        obtain ⟨d, rfl⟩ : ∃ d', d = d' + 1 := ⟨d - 1, by omega⟩
        have HE : Hid (L = (pre ++ [x]) ++ allG ss st (Tx.bs s) d (nextP x)) := Lib.hid (by rw [HL.out, allG_cons hf, List.append_assoc]; rfl)
        have HF : Hid (Calls Try.prog 41 #[.agg #[.slice A ss.length c, .int .i64 (st : Int)], .string s, .int .i64 (p : Int)] wr fun e w' => e = .returned (.tuple #[.agg #[.int .i64 (x.1 : Int), .int .i64 (x.2 : Int)], .bool true, .int .i64 0]) ∧ Below wr.heap.size wr w') := Lib.hid (by have h := HFi.out wr p HI.out.2 hlt; rw [hf] at h; exact h)
        clear hf
        go_upto_region 7 with (go_at_call 41; refine HF.out.mono ?_; rintro e w2 ⟨rfl, hb2⟩; have HB2 := Lib.hid hb2; clear hb2 c0 c1)
        have hbl : Below wr.heap.size wr (w2.alloc (.cells #[.int .i64 (x.1 : Int), .int .i64 (x.2 : Int)] tSp)) := HB2.out.alloc HB2.out.size _
        have HIv := Lib.hid (And.intro ((hbl.block _ hCr).trans HI.out.1) (HI.out.2.trans (hbl.mono (by omega))))
        have HOv := Lib.hid (own_keep HO.out (fun k ob hk _ => (hbl.block _ (lt_some hk)).trans hk))
        have HX := Lib.hid (heap_new w2 (.cells #[.int .i64 (x.1 : Int), .int .i64 (x.2 : Int)] tSp))
        have HLow : Hid (∀ k, (Value.slice Av pre.length cv).ownBlock = some k → k < w2.heap.size) := Lib.hid (fun k hk => by have := (HO.out.lt k hk).2; have := HB2.out.size; omega)
        have hCv : C + 1 ≤ w2.heap.size := by have := HB2.out.size; omega
        clear HO HI HF HB2 hbl hCr
        generalize w2.heap.size = X at HX HLow hCv ⊢
        generalize w2.alloc _ = V at HIv HOv HX ⊢
        have hXV := lt_some HX.out
        obtain ⟨⟨m0, m1⟩, -, -⟩ := box_cells HX.out
        go_upto_region 9 with (at_builtin; refine app_sp rfl (.tmp 28) (.tmp 30) rfl (C + 1) pre x (.slice Av pre.length cv) rfl HOv.out rfl (by omega) (by omega) ?_; intro v6 w6 ho6 hb6 hg6; have hX6 := (hg6.block X (by simp; omega) (fun e => by have := HLow.out X e.symm; omega)).trans ((heap_keep2 V X hXV).trans HX.out); have HO6 := Lib.hid ho6; have HI6 := Lib.hid (And.intro ((hb6.block _ (Nat.lt_succ_self C)).trans HIv.out.1) (HIv.out.2.trans (hb6.mono (Nat.le_succ C)))); clear m0 m1; obtain ⟨⟨m0, m1⟩, -, -⟩ := box_cells hX6; clear ho6 hb6 hg6 hX6)
        have hpn : p + 1 ≤ nextP x ∧ nextP x ≤ s.size + 1 ∧ nextP x ≤ p + 1 + s.size := by unfold nextP; split <;> omega
        have hln : (pre ++ [x]).length ≤ nextP x := by rw [List.length_append, List.length_singleton]; omega
        by_cases hq : x.2 = x.1
        · have hn : nextP x = x.1 + 1 := by unfold nextP; rw [if_pos hq, hq]
          have hq2 : ((x.2 : Int) == (x.1 : Int)) = true := by rw [hq]; exact beq_self_eq_true _
          have hx20 : (x.2 : Int) + 1 ≤ 9223372036854775807 := by omega
          have HN : Hid ((x.2 : Int) + 1 = ((nextP x : Nat) : Int)) := Lib.hid (by rw [hn, hq]; omega)
          generalize nextP x = y at *
          clear hn hq
          go_wp2_with fail
          go_roundw
          case rel => exact ⟨d, y, pre ++ [x], by first | rw [← HN.out] | (rw [← HN.out]; rfl), by omega, by omega, hln, HE, HO6, HI6⟩
          case measure => have := HN.out; simp [intOf]; omega
        · have hn : nextP x = x.2 := if_neg hq
          have hq2 : ((x.2 : Int) == (x.1 : Int)) = false := beq_false_of_ne (by omega)
          rw [hn] at HE hpn hln
          clear hn hq
          go_wp2_with fail
          go_roundw
          case rel => exact ⟨d, x.2, pre ++ [x], rfl, by omega, by omega, hln, HE, HO6, HI6⟩
          case measure => simp [intOf]; omega
    · have i2 : decide (p ≤ s.size) = false := by simpa using hlt
      have HE : Hid (L = pre) := Lib.hid (by rw [HL.out, allG_nil (findF_end (by rw [HBl.out]; omega)), List.append_nil])
      go_wp2_with fail
      go_ret2
      refine ⟨_, rfl, ?_, by rw [← HCw.out]; exact HI.out.2⟩
      rw [HE.out, ← HCw.out]
      exact HO.out.mono (Nat.le_succ C)
end Se
end Go.Proofs.Ythoidaaldngpmaa

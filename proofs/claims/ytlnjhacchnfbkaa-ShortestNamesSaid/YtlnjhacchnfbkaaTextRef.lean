/-
  Walks of the reference of layer 2: Ended, Bare, Lines, Check, Split. Condition: the blob has at most 2^21 bytes.
-/
import Derived.Test.YtlnjhacchnfbkaaTextBase
namespace Go.Proofs.Ytlnjhacchnfbkaa
open Go.RowKit
namespace Tx
theorem bne_of (b : UInt8) (n : Nat) (h : b ≠ UInt8.ofNat n) (hn : n < 256) : ((b.toNat : Int) == (n : Int)) = false := by
  simp only [beq_eq_false_iff_ne, ne_eq]
  intro e
  exact h (UInt8.toNat_inj.1 (by have : b.toNat = n := by omega
                                 rw [this]; simp; omega))
theorem endedF_last (s : ByteArray) (h : 0 < s.size) : endedF (bs s) = (s[s.size - 1]'(by omega) == 10) := by
  unfold endedF
  rw [List.getLast?_eq_getElem?, bs_len, bs_get? s (s.size - 1) (by omega)]
  rfl
theorem endedF_empty (s : ByteArray) (h : s.size = 0) : endedF (bs s) = false := by
  have : bs s = [] := List.eq_nil_of_length_eq_zero h
  rw [this]; rfl
theorem nonempty_of (s : ByteArray) (h : 0 < s.size) : ¬ s.toList = [] := by
  rw [ByteArray.toList_eq]
  intro e
  have h2 : s.data.toList.length = s.size := rfl
  rw [e] at h2
  simp at h2; omega
theorem empty_of (s : ByteArray) (h : s.size = 0) : s.toList = [] := by
  rw [ByteArray.toList_eq]; exact List.eq_nil_of_length_eq_zero h
/-- A line without its line feed. -/
def bareB (s : ByteArray) : ByteArray := if endedF (bs s) then s.extract 0 (s.size - 1) else s
theorem bareB_bs (s : ByteArray) : bs (bareB s) = bareF (bs s) := by
  unfold bareB bareF
  split
  · rw [bs_extract, List.dropLast_eq_take, bs_len]; rfl
  · rfl
theorem ended_pos (s : ByteArray) (h : endedF (bs s) = true) : 0 < s.size := by
  rcases Nat.eq_zero_or_pos s.size with h0 | h0
  · rw [endedF_empty s h0] at h; cases h
  · exact h0
theorem lines_lf (l : List UInt8) (f k : Nat) (hf : f ≤ k) (hk : l[k]? = some 10) (h : ∀ j, f ≤ j → j < k → l[j]? ≠ some 10) :
    linesF (l.drop f) = (l.drop f).take (k + 1 - f) :: linesF (l.drop (k + 1)) := by
  have hlt : k < l.length := by
    rcases Nat.lt_or_ge k l.length with h1 | h1
    · exact h1
    · rw [List.getElem?_eq_none h1] at hk; cases hk
  have e1 : l.drop f = (l.drop f).take (k - f) ++ 10 :: l.drop (k + 1) := by
    conv => lhs; rw [← List.take_append_drop (k - f) (l.drop f)]
    rw [List.drop_drop, show f + (k - f) = k by omega, List.drop_eq_getElem_cons hlt]
    rw [List.getElem?_eq_getElem hlt] at hk
    rw [Option.some.inj hk]
  have h10 : (10 : UInt8) ∉ (l.drop f).take (k - f) := by
    intro hm
    obtain ⟨j, hj⟩ := List.mem_iff_getElem?.1 hm
    by_cases hjk : j < k - f
    · rw [List.getElem?_take_of_lt hjk, List.getElem?_drop] at hj
      exact h (f + j) (by omega) (by omega) hj
    · rw [List.getElem?_take_eq_none (by omega)] at hj; cases hj
  have e2 : (l.drop f).take (k + 1 - f) = (l.drop f).take (k - f) ++ [10] := by
    rw [show k + 1 - f = (k - f) + 1 by omega, List.take_add_one, List.getElem?_drop, show f + (k - f) = k by omega, hk]; rfl
  rw [e2]
  conv => lhs; rw [e1]
  exact linesF_cons _ _ h10
theorem lines_last (l : List UInt8) (f : Nat) (hf : f < l.length) (h : ∀ j, f ≤ j → j < l.length → l[j]? ≠ some 10) :
    linesF (l.drop f) = [(l.drop f).take (l.length - f)] := by
  rw [List.take_of_length_le (by simp)]
  refine linesF_one _ ?_ ?_
  · intro hm
    obtain ⟨j, hj⟩ := List.mem_iff_getElem?.1 hm
    rw [List.getElem?_drop] at hj
    by_cases hjk : f + j < l.length
    · exact h (f + j) (by omega) hjk hj
    · rw [List.getElem?_eq_none (by omega)] at hj; cases hj
  · intro e
    have := congrArg List.length e
    rw [List.length_drop] at this; simp at this; omega
theorem info_str : (Try.prog.info? 9).map (fun i => (i.zero, i.size, i.bytes)) = some (some (.string ⟨#[]⟩), 1, 16) := by kernel_rfl
theorem below_of_appendS {w w' : World} {base : Nat} {v : Value} {n : Nat} {xs : List Value} (hown : w.ownsRow base 9 1 v n xs) (hg : w.grownBy w' v.ownBlock) (hb : base ≤ w.heap.size) : Below base w w' :=
  (Below.refl _ _).grown hg hb (fun k hk => by
    rcases hown.2 with ⟨rfl, _⟩ | ⟨g, cap, cur, rfl, hg', _⟩
    · simp [Value.ownBlock] at hk
    · simp [Value.ownBlock] at hk; omega)
theorem app_newS {ops : Array Oper} {rest : List Oper} {o : Oper} {a : Act} {Q : Exit → Act → World → Prop} {w : World} {C : Array Value} (hgd : o.guard = none) (s x : Operand)
    (ho : o.op = .call { callee := .builtin .append, args := #[s, x], argTypes := #[52, 52] })
    (base : Nat) (l : List (List UInt8)) (m : List UInt8) (v : Value) (hs : a.eval s = v) (hown : w.ownsRow base 9 1 v l.length (strsV l))
    (hx : a.eval x = .slice (some ⟨w.heap.size, 0, none⟩) 1 1) (hC : C.toList = [strV m])
    (hsz : l.length + 1 ≤ 100000000) (hbase : base ≤ w.heap.size)
    (h : ∀ v' w', w'.ownsRow base 9 1 v' (l ++ [m]).length (strsV (l ++ [m])) → Below base w w' → wpList Try.prog ops Q rest (a.put o.dst v') w') :
    wpList Try.prog ops Q (o :: rest) a (w.alloc (.cells C 9)) := by
  obtain ⟨i0, hi0, hz0, hz1, hz2⟩ := info_parts info_str
  have hsize : (w.alloc (.cells C 9)).heap.size = w.heap.size + 1 := by simp
  refine wpList_append_own _ hgd s x _ ho base 9 i0 _ 1 16 Try.underlying52 hi0 hz0 hz1 hz2 rfl (by omega) v l.length (strsV l) hs (hown.alloc _) ⟨w.heap.size, 0, none⟩ 1 1 [strV m] hx
    rfl (fun j u hu => ?_) ?_ (by unfold maxLen; omega) (by omega) (by omega) ?_
  · have he : (Addr.mk w.heap.size 0 none).add j = ⟨w.heap.size, j, none⟩ := by
      unfold Addr.add; split
      · rename_i h0; rw [h0]
      · simp
    rw [he, World.cell?_alloc_mark, ← hu, ← hC]; simp
  · intro u hu
    simp only [List.mem_singleton] at hu
    subst hu
    rfl
  · intro v' w' h1 h2 _
    exact h v' w' (by rw [strsV_append, List.length_append]; exact h1) (((Below.refl base w).alloc hbase _).trans (below_of_appendS (hown.alloc _) h2 (by omega)))
/-- A new list of strings. -/
def StrsPost (w : World) (l : List (List UInt8)) (e : Ending) (w' : World) : Prop := ∃ v, e = .returned v ∧ w'.ownsRow w.heap.size 9 1 v l.length (strsV l) ∧ Below w.heap.size w w'
set_option maxRecDepth 100000 in
set_option maxHeartbeats 2000000 in
theorem LinesR_any (s : ByteArray) (w : World) (hs : s.size ≤ 4194304) : Calls Try.prog 30 #[.string s] w (StrsPost w (linesF (bs s))) := by
  go_enter Try.func30, Try.ntmps30
  go_wp2_with fail
  go_loopw [3, 4, 5] (fun v f i wr => ∃ (k fr : Nat) (acc : List (List UInt8)), k ≤ s.size ∧ fr ≤ k ∧ (k = s.size → fr = k) ∧ acc.length ≤ k ∧ i = .int .i64 k ∧ f = .int .i64 fr ∧ Hid (∀ j, fr ≤ j → j < k → (bs s)[j]? ≠ some 10) ∧ Hid (wr.ownsRow w.heap.size 9 1 v acc.length (strsV acc)) ∧
      Hid (acc ++ linesF ((bs s).drop fr) = linesF (bs s)) ∧ Below w.heap.size w wr) (fun _ _ i _ => s.size - (intOf i).toNat)
  case atStart => exact ⟨0, 0, [], Nat.zero_le _, Nat.le_refl _, fun _ => rfl, Nat.zero_le _, rfl, rfl, Lib.hid (fun j h1 h2 => absurd h2 (by omega)), Lib.hid (World.ownsRow_nil _ _ _ _), Lib.hid rfl, Below.refl _ _⟩
  case round =>
    obtain ⟨k, fr, acc, hk, hfk, hend, hacc, rfl, rfl, HN, HO, HA, hnx⟩ := hrel
    have hsz := hnx.size
    have HEnd := Lib.hid hend
    clear hend
    by_cases hlt : k < s.size
    · have hg := bs_get? s k hlt
      by_cases hb : s[k] = 10
      · have e3 : ((s[k].toNat : Int) == 10) = true := by rw [hb]; rfl
        have HS := Lib.hid (lines_lf (bs s) fr k hfk (by rw [hg, hb]) HN.out)
        have HX : Hid (bs (s.extract fr (k + 1)) = ((bs s).drop fr).take (k + 1 - fr)) := Lib.hid (bs_extract _ _ _)
        clear hg hb
        go_wp2_with (at_builtin; refine app_newS rfl (.tmp 23) (.tmp 29) rfl w.heap.size acc (bs (s.extract fr (k + 1))) _ rfl HO.out rfl rfl (by omega) hsz ?_; intro v3 w3 ho3 hb3; have HO3 := Lib.hid ho3; clear ho3)
        go_roundw
        case rel => exact ⟨k + 1, k + 1, acc ++ [bs (s.extract fr (k + 1))], by omega, by omega, fun _ => rfl, by simp; omega, by go_num, by go_num, Lib.hid (fun j h1 h2 => absurd h2 (by omega)), HO3, Lib.hid (by rw [List.append_assoc, ← HA.out, HS.out, HX.out]; rfl), hnx.trans hb3⟩
        case measure => simp [intOf]; omega
      · have e3 : ((s[k].toNat : Int) == 10) = false := bne_of _ 10 hb (by omega)
        have HN2 : Hid (∀ j, fr ≤ j → j < k + 1 → (bs s)[j]? ≠ some 10) := Lib.hid (fun j h1 h2 => by
          by_cases hj : j < k
          · exact HN.out j h1 hj
          · have : j = k := by omega
            subst this
            rw [hg]; intro e; exact hb (Option.some.inj e))
        by_cases hl : k + 1 = s.size
        · have e4 : ((k : Int) + 1 == (s.size : Int)) = true := by simp only [beq_iff_eq]; omega
          have HS : Hid (linesF ((bs s).drop fr) = [((bs s).drop fr).take (k + 1 - fr)]) := Lib.hid (by rw [hl]; exact lines_last (bs s) fr (by rw [bs_len]; omega) (by rw [bs_len, ← hl]; exact HN2.out))
          have HD : Hid (linesF ((bs s).drop (k + 1)) = []) := Lib.hid (by rw [hl, List.drop_of_length_le (by rw [bs_len]; exact Nat.le_refl _)]; rfl)
          have HX : Hid (bs (s.extract fr (k + 1)) = ((bs s).drop fr).take (k + 1 - fr)) := Lib.hid (bs_extract _ _ _)
          have HL := Lib.hid hl
          clear hg hb hl
          go_wp2_with (at_builtin; refine app_newS rfl (.tmp 23) (.tmp 29) rfl w.heap.size acc (bs (s.extract fr (k + 1))) _ rfl HO.out rfl rfl (by omega) hsz ?_; intro v3 w3 ho3 hb3; have HO3 := Lib.hid ho3; clear ho3)
          go_roundw
          case rel => exact ⟨k + 1, k + 1, acc ++ [bs (s.extract fr (k + 1))], by omega, by omega, fun _ => rfl, by simp; omega, by go_num, by go_num, Lib.hid (fun j h1 h2 => absurd h2 (by omega)), HO3, Lib.hid (by rw [List.append_assoc, ← HA.out, HS.out, HX.out, HD.out]; rfl), hnx.trans hb3⟩
          case measure => simp [intOf]; omega
        · have e4 : ((k : Int) + 1 == (s.size : Int)) = false := by simp only [beq_eq_false_iff_ne, ne_eq]; omega
          clear hg hb
          go_wp2_with fail
          go_roundw
          case rel => exact ⟨k + 1, fr, acc, by omega, by omega, fun e => absurd e hl, by omega, by go_num, rfl, HN2, HO, HA, hnx⟩
          case measure => simp [intOf]; omega
    · have hks : k = s.size := by omega
      have HF : Hid (acc = linesF (bs s)) := Lib.hid (by
        rw [← HA.out, HEnd.out hks, hks, List.drop_of_length_le (by rw [bs_len]; exact Nat.le_refl _)]
        exact (List.append_nil _).symm)
      clear hks
      go_wp2_with fail
      go_ret
      exact ⟨_, rfl, by rw [← HF.out]; exact HO.out, hnx⟩
/-- What Split leaves. -/
def SplitPost (w : World) (l : List UInt8) (e : Ending) (w' : World) : Prop :=
  ∃ v, e = .returned (.tuple #[v, .int .i64 (checkF l)]) ∧ RdS w' v (mks (if checkF l = 0 then linesF l else [])) ∧ Below w.heap.size w w'
theorem checkF_long (l : List UInt8) (h : 1048576 < l.length) : checkF l = 1 := by unfold checkF; rw [if_pos (.inl h)]
theorem checkF_many (l : List UInt8) (h : 4096 < (linesF l).length) : checkF l = 1 := by unfold checkF; rw [if_pos (.inr h)]
theorem own_len {w : World} {base n : Nat} {v : Value} {xs : List Value} (h : w.ownsRow base 9 1 v n xs) : ∃ A c, v = .slice A n c := by
  rcases h.2 with ⟨rfl, rfl⟩ | ⟨g, cap, cur, rfl, _⟩
  · exact ⟨none, 0, rfl⟩
  · exact ⟨_, cap, rfl⟩
set_option maxRecDepth 100000 in
set_option maxHeartbeats 2000000 in
theorem CheckR_any (s : ByteArray) (w : World) (hs : s.size ≤ 4194304) : Calls Try.prog 57 #[.string s] w fun e w' => e = .returned (.int .i64 (checkF (bs s))) ∧ Below w.heap.size w w' := by
  have HL := Lib.hid (fun w => LinesR_any s w hs)
  by_cases h1 : (1048576 : Int) < (s.size : Int)
  · have H := Lib.hid (checkF_long (bs s) (by rw [bs_len]; omega))
    rw [H.out]
    go_enter Try.func57, Try.ntmps57
    go_wp2_with fail
    go_ret
    exact ⟨rfl, Below.refl _ _⟩
  · have HT := Lib.hid (linesF_le (bs s))
    have hl0 := HT.out
    rw [bs_len] at hl0
    have HC1 := Lib.hid (checkF_no (bs s) (by rw [bs_len]; omega))
    have HC2 := Lib.hid (checkF_many (bs s))
    generalize hn : (linesF (bs s)).length = n at hl0 HC1 HC2
    have HLL : Hid (∀ w, Calls Try.prog 30 #[.string s] w fun e w' => ∃ A c, e = .returned (.slice A n c) ∧ Below w.heap.size w w') := Lib.hid (fun w => (HL.out w).mono fun e w' ⟨v, h1, h2, h3⟩ => by
      obtain ⟨A, c, rfl⟩ := own_len h2
      exact ⟨A, c, by rw [← hn]; exact h1, h3⟩)
    clear hn HT HL
    by_cases h2 : (4096 : Int) < (n : Int)
    · have HC : Hid (checkF (bs s) = 1) := Lib.hid (HC2.out (by omega))
      rw [HC.out]
      go_enter Try.func57, Try.ntmps57
      go_wp2_with (go_at_call 30; refine (HLL.out _).mono ?_; rintro e w1 ⟨A, c, rfl, hb⟩)
      go_ret
      exact ⟨rfl, hb⟩
    · have HC : Hid (checkF (bs s) = 0) := Lib.hid (HC1.out (by omega))
      rw [HC.out]
      go_enter Try.func57, Try.ntmps57
      go_wp2_with (go_at_call 30; refine (HLL.out _).mono ?_; rintro e w1 ⟨A, c, rfl, hb⟩)
      go_ret
      exact ⟨rfl, hb⟩
theorem checkF_01 (l : List UInt8) : checkF l = 0 ∨ checkF l = 1 := by unfold checkF; split <;> simp
set_option maxHeartbeats 1000000 in
theorem SplitR_any (s : ByteArray) (w : World) (hs : s.size ≤ 4194304) : Calls Try.prog 40 #[.string s] w (SplitPost w (bs s)) := by
  have HL := Lib.hid (fun w => LinesR_any s w hs)
  have HC := Lib.hid (fun w => CheckR_any s w hs)
  rcases checkF_01 (bs s) with h | h
  · have HP : Hid (∀ v w', RdS w' v (mks (linesF (bs s))) → Below w.heap.size w w' → SplitPost w (bs s) (.returned (.tuple #[v, .int .i64 0])) w') := Lib.hid (fun v w' h1 h2 => ⟨v, by rw [h], by rw [if_pos h]; exact h1, h2⟩)
    rw [h] at HC
    clear h
    go_enter Try.func40, Try.ntmps40
    go_wp2_with (first
      | (go_at_call 57; refine (HC.out _).mono ?_; rintro e w1 ⟨rfl, hb⟩)
      | (go_at_call 30; refine (HL.out _).mono ?_; rintro e w2 ⟨v, rfl, ho, hb2⟩))
    go_ret2
    exact HP.out _ _ (RdS.of_own ho) (hb.trans (hb2.mono hb.size))
  · have HP : Hid (∀ w', Below w.heap.size w w' → SplitPost w (bs s) (.returned (.tuple #[.slice none 0 0, .int .i64 1])) w') := Lib.hid (fun w' h2 => ⟨_, by rw [h], by rw [if_neg (by rw [h]; decide)]; exact RdS.nil _, h2⟩)
    rw [h] at HC
    clear h
    go_enter Try.func40, Try.ntmps40
    go_wp2_with (go_at_call 57; refine (HC.out _).mono ?_; rintro e w1 ⟨rfl, hb⟩)
    go_ret2
    exact HP.out _ hb
end Tx
end Go.Proofs.Ytlnjhacchnfbkaa

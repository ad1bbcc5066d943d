/-
  Walks of layer 1, reading words: quotedByte, quoted, Unquote. Conditions: the text has at most 2^20 bytes.
-/
import Derived.Test.YtgfinppppgpleaaDoorScanUnq
namespace Go.Proofs.YtgfinppppgpleaaDoor
open Go.RowKit
namespace Sc
/-- What quotedByte hands back. -/
def decV (k : Nat) : Option (UInt8 × Nat) → Value
  | some (b, n) => .tuple #[.int .u8 b.toNat, .int .i64 ((k + n : Nat) : Int), .bool true]
  | none => .tuple #[.int .u8 0, .int .i64 0, .bool false]
theorem octF_len (l : List UInt8) (b : UInt8) (h : octF l = some b) : 3 ≤ l.length := by
  rcases Nat.lt_or_ge l.length 3 with h1 | h1
  · rw [octF_short l h1] at h; cases h
  · exact h1
theorem decB_one (c : UInt8) (r : List UInt8) (h : c ≠ 92) : decB (c :: r) = some (c, 1) := by exact if_pos h
theorem decB_lone : decB [92] = none := rfl
theorem decB_two (d : UInt8) (r : List UInt8) (h : d = 34 ∨ d = 92) : decB (92 :: d :: r) = some (d, 2) := by exact if_pos h
theorem decB_n (r : List UInt8) : decB (92 :: 110 :: r) = some (10, 2) := rfl
theorem decB_t (r : List UInt8) : decB (92 :: 116 :: r) = some (9, 2) := rfl
theorem decB_oct (d : UInt8) (r : List UInt8) (h1 : ¬ (d = 34 ∨ d = 92)) (h2 : d ≠ 110) (h3 : d ≠ 116) : decB (92 :: d :: r) = (octF (d :: r)).map fun b => (b, 4) := by
  show (if d = 34 ∨ d = 92 then _ else _) = _
  rw [if_neg h1, if_neg h2, if_neg h3]
theorem decB_le (l : List UInt8) (b : UInt8) (n : Nat) (h : decB l = some (b, n)) : 1 ≤ n ∧ n ≤ l.length := by
  cases l with
  | nil => cases h
  | cons c r =>
    by_cases hc : c = 92
    · subst hc
      cases r with
      | nil => cases h
      | cons d r' =>
        by_cases h1 : d = 34 ∨ d = 92
        · rw [decB_two d r' h1] at h; simp at h; obtain ⟨_, rfl⟩ := h; simp
        by_cases h2 : d = 110
        · subst h2; rw [decB_n] at h; simp at h; obtain ⟨_, rfl⟩ := h; simp
        by_cases h3 : d = 116
        · subst h3; rw [decB_t] at h; simp at h; obtain ⟨_, rfl⟩ := h; simp
        rw [decB_oct d r' h1 h2 h3] at h
        cases ho : octF (d :: r') with
        | none => rw [ho] at h; cases h
        | some b' =>
          rw [ho] at h
          have := octF_len _ _ ho
          simp at h
          obtain ⟨_, rfl⟩ := h
          simp at this ⊢
          omega
    · rw [decB_one c r hc] at h; simp at h; obtain ⟨_, rfl⟩ := h; simp
theorem beq_of (b c : UInt8) (h : b = c) : ((b.toNat : Int) == (c.toNat : Int)) = true := by rw [h]; simp
theorem bne_of (b c : UInt8) (h : b ≠ c) : ((b.toNat : Int) == (c.toNat : Int)) = false := by
  simp only [beq_eq_false_iff_ne, ne_eq]
  intro e; exact h (UInt8.toNat_inj.1 (by omega))
set_option maxRecDepth 100000 in
set_option maxHeartbeats 1600000 in
theorem quotedByte_any (s : ByteArray) (k : Nat) (w : World) (hs : s.size ≤ 4611686018427387904) (hk : k < s.size) :
    Calls Tryd.prog 37 #[.string s, .int .i64 k] w fun e w' => e = .returned (decV k (decB ((bs s).drop k))) ∧ Below w.heap.size w w' := by
  by_cases h92 : s[k] = 92
  · have e92 : ((s[k].toNat : Int) != 92) = false := by rw [h92]; rfl
    by_cases hend : k + 1 < s.size
    · have hd : (bs s).drop k = 92 :: s[k + 1] :: (bs s).drop (k + 2) := by rw [bs_drop s k hk, bs_drop s (k + 1) hend, h92]
      have hd1 : (bs s).drop (k + 1) = s[k + 1] :: (bs s).drop (k + 2) := by rw [bs_drop s (k + 1) hend]
      clear h92
      by_cases c1 : s[k + 1] = 34
      · have HO : Hid (decB ((bs s).drop k) = some (s[k + 1], 2)) := Lib.hid (by rw [hd, decB_two _ _ (.inl c1)])
        have f2 : ((s[k + 1].toNat : Int) == 34) = true := beq_of _ 34 c1
        clear hd hd1 c1
        go_enter Tryd.func37, Tryd.ntmps37
        go_wp2_with fail
        go_ret3
        exact ⟨by rw [HO.out]; rfl, Below.refl _ _⟩
      have f1 : ((s[k + 1].toNat : Int) == 34) = false := bne_of _ 34 c1
      by_cases c2 : s[k + 1] = 92
      · have HO : Hid (decB ((bs s).drop k) = some (s[k + 1], 2)) := Lib.hid (by rw [hd, decB_two _ _ (.inr c2)])
        have f2 : ((s[k + 1].toNat : Int) == 92) = true := beq_of _ 92 c2
        clear hd hd1 c1 c2
        go_enter Tryd.func37, Tryd.ntmps37
        go_wp2_with fail
        go_ret3
        exact ⟨by rw [HO.out]; rfl, Below.refl _ _⟩
      have f2 : ((s[k + 1].toNat : Int) == 92) = false := bne_of _ 92 c2
      by_cases c3 : s[k + 1] = 110
      · have HO : Hid (decB ((bs s).drop k) = some (10, 2)) := Lib.hid (by rw [hd, c3, decB_n])
        have f3 : ((s[k + 1].toNat : Int) == 110) = true := beq_of _ 110 c3
        clear hd hd1 c1 c2 c3
        go_enter Tryd.func37, Tryd.ntmps37
        go_wp2_with fail
        go_ret3
        exact ⟨by rw [HO.out]; rfl, Below.refl _ _⟩
      have f3 : ((s[k + 1].toNat : Int) == 110) = false := bne_of _ 110 c3
      by_cases c4 : s[k + 1] = 116
      · have HO : Hid (decB ((bs s).drop k) = some (9, 2)) := Lib.hid (by rw [hd, c4, decB_t])
        have f4 : ((s[k + 1].toNat : Int) == 116) = true := beq_of _ 116 c4
        clear hd hd1 c1 c2 c3 c4
        go_enter Tryd.func37, Tryd.ntmps37
        go_wp2_with fail
        go_ret3
        exact ⟨by rw [HO.out]; rfl, Below.refl _ _⟩
      have f4 : ((s[k + 1].toNat : Int) == 116) = false := bne_of _ 116 c4
      have HO : Hid (decB ((bs s).drop k) = (octF ((bs s).drop (k + 1))).map fun b => (b, 4)) := Lib.hid (by rw [hd, decB_oct _ _ (by rintro (h | h) <;> contradiction) c3 c4, hd1])
      have HC : Hid (∀ w, Calls Tryd.prog 40 #[.string s, .int .i64 ((k : Int) + 1)] w fun e w' => e = .returned (octV (k + 1) (octF ((bs s).drop (k + 1)))) ∧ Below w.heap.size w w') := Lib.hid (fun w => octal_any s (k + 1) w hs (by omega))
      clear hd hd1 c1 c2 c3 c4
      cases ho : octF ((bs s).drop (k + 1)) with
      | none =>
        rw [ho] at HO HC
        clear ho
        go_enter Tryd.func37, Tryd.ntmps37
        go_wp2_with (go_at_call 40; refine (HC.out _).mono ?_; rintro e w1 ⟨rfl, hb⟩; unfold octV)
        go_ret3
        exact ⟨by rw [HO.out]; rfl, hb⟩
      | some b =>
        rw [ho] at HO HC
        have HK : Hid (Value.int .i64 (((k + 1 : Nat) : Int) + 3) = .int .i64 ((k + 4 : Nat) : Int)) := Lib.hid rfl
        clear ho
        go_enter Tryd.func37, Tryd.ntmps37
        go_wp2_with (go_at_call 40; refine (HC.out _).mono ?_; rintro e w1 ⟨rfl, hb⟩; unfold octV; rw [HK.out])
        go_ret3
        exact ⟨by rw [HO.out]; rfl, hb⟩
    · have HO : Hid (decB ((bs s).drop k) = none) := Lib.hid (by rw [bs_drop s k hk, h92, List.drop_eq_nil_of_le (by rw [bs_len]; omega)]; rfl)
      have hd : decide ((s.size : Int) ≤ (k : Int) + 1) = true := by simp only [decide_eq_true_eq]; omega
      clear h92
      go_enter Tryd.func37, Tryd.ntmps37
      go_wp2_with fail
      go_ret3
      exact ⟨by rw [HO.out]; rfl, Below.refl _ _⟩
  · have e92 : ((s[k].toNat : Int) != 92) = true := by
      have h2 : ((s[k].toNat : Int) == 92) = false := bne_of _ 92 h92
      rw [bne, h2]; rfl
    have HO : Hid (decB ((bs s).drop k) = some (s[k], 1)) := Lib.hid (by rw [bs_drop s k hk, decB_one _ _ h92])
    clear h92
    go_enter Tryd.func37, Tryd.ntmps37
    go_wp2_with fail
    go_ret3
    exact ⟨by rw [HO.out]; rfl, Below.refl _ _⟩

/-- What Unquote hands back. -/
def unqV : Option (List UInt8 × Nat) → Value
  | some (t, e) => .tuple #[.string ⟨t.toArray⟩, .int .i64 e, .bool true]
  | none => .tuple #[.string ⟨#[]⟩, .int .i64 0, .bool false]
theorem runQ_end (s : ByteArray) (f : Nat) (acc : List UInt8) (j : Nat) (h : s.size ≤ j) : runQ f ((bs s).drop j) acc j = none := by
  rw [List.drop_eq_nil_of_le (by rw [bs_len]; exact h)]; cases f <;> rfl
theorem runQ_stop (s : ByteArray) (f : Nat) (acc : List UInt8) (j : Nat) (h : j < s.size) (h2 : s[j] = 34) : runQ (f + 1) ((bs s).drop j) acc j = some (acc, j + 1) := by
  rw [bs_drop s j h, runQ, if_pos h2]
theorem runQ_bad (s : ByteArray) (f : Nat) (acc : List UInt8) (j : Nat) (h : j < s.size) (h2 : s[j] ≠ 34) (h3 : decB ((bs s).drop j) = none) : runQ (f + 1) ((bs s).drop j) acc j = none := by
  rw [bs_drop s j h] at h3 ⊢
  rw [runQ, if_neg h2, h3]
theorem runQ_step (s : ByteArray) (f : Nat) (acc : List UInt8) (j : Nat) (h : j < s.size) (h2 : s[j] ≠ 34) (b : UInt8) (n : Nat) (h3 : decB ((bs s).drop j) = some (b, n)) :
    runQ (f + 1) ((bs s).drop j) acc j = runQ f ((bs s).drop (j + n)) (acc ++ [b]) (j + n) := by
  have h4 : runQ (f + 1) ((bs s).drop j) acc j = runQ f (((bs s).drop j).drop n) (acc ++ [b]) (j + n) := by
    rw [bs_drop s j h] at h3 ⊢
    rw [runQ, if_neg h2, h3]
  rw [h4, List.drop_drop]
theorem quoted_none (l : List UInt8) (k : Nat) (h : runQ (l.length + 1) (l.drop (k + 1)) [] (k + 1) = none) : quotedAt l k = none := by unfold quotedAt; rw [h]
theorem quoted_yes (s : ByteArray) (k e : Nat) (t : List UInt8) (h : runQ ((bs s).length + 1) ((bs s).drop (k + 1)) [] (k + 1) = some (t, e)) (h2 : (!quoteF t == (s.extract k e).toList) = false) : quotedAt (bs s) k = some (t, e) := by
  have h1 : quoteF t = (s.extract k e).toList := by simpa using h2
  rw [ByteArray.toList_eq] at h1
  have h3 : quoteF t = ((bs s).drop k).take (e - k) := by rw [h1]; exact bs_extract s k e
  unfold quotedAt; rw [h]; simp only [if_pos h3]
theorem quoted_no (s : ByteArray) (k e : Nat) (t : List UInt8) (h : runQ ((bs s).length + 1) ((bs s).drop (k + 1)) [] (k + 1) = some (t, e)) (h2 : (!quoteF t == (s.extract k e).toList) = true) : quotedAt (bs s) k = none := by
  have h1 : ¬ quoteF t = (s.extract k e).toList := by simpa using h2
  rw [ByteArray.toList_eq] at h1
  have h3 : ¬ quoteF t = ((bs s).drop k).take (e - k) := by rw [← bs_extract]; exact h1
  unfold quotedAt; rw [h]; simp only [if_neg h3]
end Sc
end Go.Proofs.YtgfinppppgpleaaDoor

/- Facts; each states its conditions. -/
import Derived.Test.YtjecfmbecgpbmaaGreatDoorGTextBase
import Derived.LoopN
namespace Go.Proofs.YtjecfmbecgpbmaaGreatDoor
section
open Go.RowKit
namespace Sc
theorem conv3 (x : ByteArray) (hx : x.size = 3) (a b c : UInt8) (h : bs x = [a, b, c]) (w : World) :
 ∃ (cap : Nat) (W : World), (convert 9 91 (.string x)).run Tryz.prog w = .ok (.slice (some ⟨w.heap.size, 0, none⟩) 3 cap) W ∧
   W.cell? ⟨w.heap.size, 0, none⟩ = some (.int .u8 (a.toNat : Int)) ∧ W.cell? ⟨w.heap.size, 1, none⟩ = some (.int .u8 (b.toNat : Int)) ∧ W.cell? ⟨w.heap.size, 2, none⟩ = some (.int .u8 (c.toNat : Int)) ∧ Below w.heap.size w W := by
 have hr := run_bytes_of_string w 9 91 5 x Tryz.underlying9 Tryz.underlying91 Tryz.underlying5
 rw [hx] at hr
 have hd : x.data = #[a, b, c] := by apply Array.toList_inj.1; exact h
 have hrow : ∀ j, (bytesRow x (grownCap w 3 0 5))[j]? = if j < 3 then some (.int .u8 (([a, b, c].getD j 0).toNat : Int)) else (bytesRow x (grownCap w 3 0 5))[j]? := by
  intro j
  split
  · rename_i hj
    rw [bytesRow_at x _ j (by rw [hd]; exact hj)]
    match j, hj with
    | 0, _ => simp [hd]
    | 1, _ => simp [hd]
    | 2, _ => simp [hd]
  · rfl
 refine ⟨_, _, hr, ?_, ?_, ?_, ((Below.refl _ _).drew).alloc (Nat.le_refl _) _⟩
 · have := World.cell?_alloc_mark w.drew (bytesRow x (grownCap w 3 0 5)) 5 ((bytesRow x (grownCap w 3 0 5)).size, (bytesRow x (grownCap w 3 0 5)).size + 1) 0
   rw [hrow] at this; exact this
 · have := World.cell?_alloc_mark w.drew (bytesRow x (grownCap w 3 0 5)) 5 ((bytesRow x (grownCap w 3 0 5)).size, (bytesRow x (grownCap w 3 0 5)).size + 1) 1
   rw [hrow] at this; exact this
 · have := World.cell?_alloc_mark w.drew (bytesRow x (grownCap w 3 0 5)) 5 ((bytesRow x (grownCap w 3 0 5)).size, (bytesRow x (grownCap w 3 0 5)).size + 1) 2
   rw [hrow] at this; exact this
def octV (k : Nat) : Option UInt8 → Value
 | some b => .tuple #[.int .u8 b.toNat, .int .i64 ((k : Int) + 3), .bool true]
 | none => .tuple #[.int .u8 0, .int .i64 0, .bool false]
def Dg (a : UInt8) : Prop := 48 ≤ a.toNat ∧ a.toNat ≤ 55
theorem octF_yes (a b c : UInt8) (r : List UInt8) (ha : Dg a) (hb : Dg b) (hc : Dg c) (h : 64 * (a.toNat - 48) + 8 * (b.toNat - 48) + (c.toNat - 48) < 256) :
 octF (a :: b :: c :: r) = some (UInt8.ofNat (64 * (a.toNat - 48) + 8 * (b.toNat - 48) + (c.toNat - 48))) := by
 exact if_pos ⟨ha, hb, hc, h⟩
theorem octF_no (a b c : UInt8) (r : List UInt8) (h : ¬ (Dg a ∧ Dg b ∧ Dg c ∧ 64 * (a.toNat - 48) + 8 * (b.toNat - 48) + (c.toNat - 48) < 256)) : octF (a :: b :: c :: r) = none := by
 exact if_neg h
theorem octF_short (l : List UInt8) (h : l.length < 3) : octF l = none := by
 match l, h with
 | [], _ => rfl
 | [_], _ => rfl
 | [_, _], _ => rfl
theorem not_Dg (a : UInt8) (h : ¬ Dg a) : (a.toNat : Int) < 48 ∨ (55 : Int) < (a.toNat : Int) := by unfold Dg at h; omega
set_option maxRecDepth 100000 in
set_option maxHeartbeats 4000000 in
theorem octal_any (s : ByteArray) (k : Nat) (w : World) (hs : s.size ≤ 4611686018427387904) (hk : k ≤ s.size) :
 Calls Tryz.prog 194 #[.string s, .int .i64 k] w fun e w' => e = .returned (octV k (octF ((bs s).drop k))) ∧ Below w.heap.size w w' := by
 by_cases h3 : s.size < k + 3
 · have HO := Lib.hid (octF_short ((bs s).drop k) (by rw [List.length_drop, bs_len]; omega))
   go_enter Tryz.func194, Tryz.ntmps194
   go_wp2
   go_ret3
   exact ⟨by rw [HO.out]; rfl, Below.refl _ _⟩
 have h0 : k < s.size := by omega
 have h1 : k + 1 < s.size := by omega
 have h2 : k + 2 < s.size := by omega
 have hx : (s.extract k (k + 3)).size = 3 := by simp only [ByteArray.size_extract]; omega
 have hd : (bs s).drop k = s[k] :: s[k + 1] :: s[k + 2] :: (bs s).drop (k + 3) := by
  rw [bs_drop s k h0, bs_drop s (k + 1) h1, bs_drop s (k + 2) h2]
 have hb : bs (s.extract k (k + 3)) = [s[k], s[k + 1], s[k + 2]] := by
  rw [bs_extract, hd, show k + 3 - k = 3 by omega]; rfl
 generalize s[k] = a at hd hb
 generalize s[k + 1] = b at hd hb
 generalize s[k + 2] = c at hd hb
 obtain ⟨cap, W, hcv, c0, c1, c2, hbel⟩ := conv3 _ hx a b c hb w
 have ha := u8_lt a
 have hb' := u8_lt b
 have hc' := u8_lt c
 have HD := Lib.hid hd
 have hle : (k : Int) + 3 ≤ (s.size : Int) := by omega
 clear hx hd hb
 by_cases ga : ¬ Dg a
 · have HO := Lib.hid (octF_no a b c ((bs s).drop (k + 3)) (fun h => ga h.1))
   rw [← HD.out] at HO
   rcases not_Dg a ga with g | g
   · clear ga
     go_enter Tryz.func194, Tryz.ntmps194
     go_wp2
     refine wp_loop_rounds 4 ?_
     rw [rounds_succ]
     go_wp2
     go_ret3
     exact ⟨by rw [HO.out]; rfl, hbel⟩
   · clear ga
     go_enter Tryz.func194, Tryz.ntmps194
     go_wp2
     refine wp_loop_rounds 4 ?_
     rw [rounds_succ]
     go_wp2
     go_ret3
     exact ⟨by rw [HO.out]; rfl, hbel⟩
 obtain ⟨ga1, ga2⟩ := Classical.not_not.1 ga
 by_cases gb : ¬ Dg b
 · clear ga
   have HO := Lib.hid (octF_no a b c ((bs s).drop (k + 3)) (fun h => gb h.2.1))
   rw [← HD.out] at HO
   rcases not_Dg b gb with g | g
   · clear gb
     go_enter Tryz.func194, Tryz.ntmps194
     go_wp2
     refine wp_loop_rounds 4 ?_
     rw [rounds_succ]
     go_wp2
     rw [rounds_succ]
     go_wp2
     go_ret3
     exact ⟨by rw [HO.out]; rfl, hbel⟩
   · clear gb
     go_enter Tryz.func194, Tryz.ntmps194
     go_wp2
     refine wp_loop_rounds 4 ?_
     rw [rounds_succ]
     go_wp2
     rw [rounds_succ]
     go_wp2
     go_ret3
     exact ⟨by rw [HO.out]; rfl, hbel⟩
 obtain ⟨gb1, gb2⟩ := Classical.not_not.1 gb
 by_cases gc : ¬ Dg c
 · clear ga gb
   have HO := Lib.hid (octF_no a b c ((bs s).drop (k + 3)) (fun h => gc h.2.2.1))
   rw [← HD.out] at HO
   rcases not_Dg c gc with g | g
   · clear gc
     go_enter Tryz.func194, Tryz.ntmps194
     go_wp2
     refine wp_loop_rounds 4 ?_
     rw [rounds_succ]
     go_wp2
     rw [rounds_succ]
     go_wp2
     rw [rounds_succ]
     go_wp2
     go_ret3
     exact ⟨by rw [HO.out]; rfl, hbel⟩
   · clear gc
     go_enter Tryz.func194, Tryz.ntmps194
     go_wp2
     refine wp_loop_rounds 4 ?_
     rw [rounds_succ]
     go_wp2
     rw [rounds_succ]
     go_wp2
     rw [rounds_succ]
     go_wp2
     go_ret3
     exact ⟨by rw [HO.out]; rfl, hbel⟩
 obtain ⟨gc1, gc2⟩ := Classical.not_not.1 gc
 by_cases gv : 64 * (a.toNat - 48) + 8 * (b.toNat - 48) + (c.toNat - 48) < 256
 · have HO := Lib.hid (octF_yes a b c ((bs s).drop (k + 3)) ⟨ga1, ga2⟩ ⟨gb1, gb2⟩ ⟨gc1, gc2⟩ gv)
   rw [← HD.out] at HO
   have gv2 : 8 * (8 * ((a.toNat : Int) - 48) + ((b.toNat : Int) - 48)) + ((c.toNat : Int) - 48) ≤ 255 := by omega
   have HV : Hid (Value.int .u8 (8 * (8 * ((a.toNat : Int) - 48) + ((b.toNat : Int) - 48)) + ((c.toNat : Int) - 48)) = .int .u8 ((UInt8.ofNat (64 * (a.toNat - 48) + 8 * (b.toNat - 48) + (c.toNat - 48))).toNat : Int)) := Lib.hid (by
    congr 1
    rw [UInt8.toNat_ofNat', Nat.mod_eq_of_lt (by omega)]
    omega)
   clear ga gb gc gv
   go_enter Tryz.func194, Tryz.ntmps194
   go_wp2
   refine wp_loop_rounds 4 ?_
   rw [rounds_succ]
   go_wp2
   rw [rounds_succ]
   go_wp2
   rw [rounds_succ]
   go_wp2
   rw [rounds_succ]
   go_wp2
   go_ret3
   exact ⟨by rw [HO.out]; exact congrArg (fun v => Ending.returned (.tuple #[v, .int .i64 ((k : Int) + 3), .bool true])) HV.out, hbel⟩
 · have HO := Lib.hid (octF_no a b c ((bs s).drop (k + 3)) (fun h => gv h.2.2.2))
   rw [← HD.out] at HO
   have gv2 : 255 < 8 * (8 * ((a.toNat : Int) - 48) + ((b.toNat : Int) - 48)) + ((c.toNat : Int) - 48) := by omega
   clear ga gb gc gv
   go_enter Tryz.func194, Tryz.ntmps194
   go_wp2
   refine wp_loop_rounds 4 ?_
   rw [rounds_succ]
   go_wp2
   rw [rounds_succ]
   go_wp2
   rw [rounds_succ]
   go_wp2
   rw [rounds_succ]
   go_wp2
   go_ret3
   exact ⟨by rw [HO.out]; rfl, hbel⟩
end Sc
end
section
open Go.RowKit
namespace Sc
def decV (k : Nat) : Option (UInt8 × Nat) → Value
 | some (b, n) => .tuple #[.int .u8 b.toNat, .int .i64 ((k + n : Nat) : Int), .bool true]
 | none => .tuple #[.int .u8 0, .int .i64 0, .bool false]
theorem octF_len (l : List UInt8) (b : UInt8) (h : octF l = some b) : 3 ≤ l.length := by
 rcases Nat.lt_or_ge l.length 3 with h1 | h1
 · rw [octF_short l h1] at h; cases h
 · exact h1
theorem decB_one (c : UInt8) (r : List UInt8) (h : c ≠ 92) : decB (c :: r) = some (c, 1) := by exact if_pos h
theorem decB_two (d : UInt8) (r : List UInt8) (h : d = 34 ∨ d = 92) : decB (92 :: d :: r) = some (d, 2) := by exact if_pos h
theorem decB_n (r : List UInt8) : decB (92 :: 110 :: r) = some (10, 2) := rfl
theorem decB_t (r : List UInt8) : decB (92 :: 116 :: r) = some (9, 2) := rfl
theorem decB_oct (d : UInt8) (r : List UInt8) (h1 : ¬ (d = 34 ∨ d = 92)) (h2 : d ≠ 110) (h3 : d ≠ 116) : decB (92 :: d :: r) = (octF (d :: r)).map fun b => (b, 4) := by
 show (if d = 34 ∨ d = 92 then _ else _) = _
 rw [if_neg h1, if_neg h2, if_neg h3]
theorem decB_le (l : List UInt8) (b : UInt8) (n : Nat) (h : decB l = some (b, n)) : 1 ≤ n ∧ n ≤ l.length := by
 cases l with
 | nil => cases h
 | cons c r =>
   by_cases hc : c = 92
   · subst hc
     cases r with
     | nil => cases h
     | cons d r' =>
       by_cases h1 : d = 34 ∨ d = 92
       · rw [decB_two d r' h1] at h; simp at h; obtain ⟨_, rfl⟩ := h; simp
       by_cases h2 : d = 110
       · subst h2; rw [decB_n] at h; simp at h; obtain ⟨_, rfl⟩ := h; simp
       by_cases h3 : d = 116
       · subst h3; rw [decB_t] at h; simp at h; obtain ⟨_, rfl⟩ := h; simp
       rw [decB_oct d r' h1 h2 h3] at h
       cases ho : octF (d :: r') with
       | none => rw [ho] at h; cases h
       | some b' =>
         rw [ho] at h
         have := octF_len _ _ ho
         simp at h
         obtain ⟨_, rfl⟩ := h
         simp at this ⊢
         omega
   · rw [decB_one c r hc] at h; simp at h; obtain ⟨_, rfl⟩ := h; simp
theorem beq_of (b c : UInt8) (h : b = c) : ((b.toNat : Int) == (c.toNat : Int)) = true := by rw [h]; simp
theorem bne_of (b c : UInt8) (h : b ≠ c) : ((b.toNat : Int) == (c.toNat : Int)) = false := by
 simp only [beq_eq_false_iff_ne, ne_eq]
 intro e; exact h (UInt8.toNat_inj.1 (by omega))
set_option maxRecDepth 100000 in
set_option maxHeartbeats 1600000 in
theorem quotedByte_any (s : ByteArray) (k : Nat) (w : World) (hs : s.size ≤ 4611686018427387904) (hk : k < s.size) :
 Calls Tryz.prog 189 #[.string s, .int .i64 k] w fun e w' => e = .returned (decV k (decB ((bs s).drop k))) ∧ Below w.heap.size w w' := by
 by_cases h92 : s[k] = 92
 · have e92 : ((s[k].toNat : Int) != 92) = false := by rw [h92]; rfl
   by_cases hend : k + 1 < s.size
   · have hd : (bs s).drop k = 92 :: s[k + 1] :: (bs s).drop (k + 2) := by rw [bs_drop s k hk, bs_drop s (k + 1) hend, h92]
     have hd1 : (bs s).drop (k + 1) = s[k + 1] :: (bs s).drop (k + 2) := by rw [bs_drop s (k + 1) hend]
     clear h92
     by_cases c1 : s[k + 1] = 34
     · have HO : Hid (decB ((bs s).drop k) = some (s[k + 1], 2)) := Lib.hid (by rw [hd, decB_two _ _ (.inl c1)])
       have f2 : ((s[k + 1].toNat : Int) == 34) = true := beq_of _ 34 c1
       clear hd hd1 c1
       go_enter Tryz.func189, Tryz.ntmps189
       go_wp2_with fail
       go_ret3
       exact ⟨by rw [HO.out]; rfl, Below.refl _ _⟩
     have f1 : ((s[k + 1].toNat : Int) == 34) = false := bne_of _ 34 c1
     by_cases c2 : s[k + 1] = 92
     · have HO : Hid (decB ((bs s).drop k) = some (s[k + 1], 2)) := Lib.hid (by rw [hd, decB_two _ _ (.inr c2)])
       have f2 : ((s[k + 1].toNat : Int) == 92) = true := beq_of _ 92 c2
       clear hd hd1 c1 c2
       go_enter Tryz.func189, Tryz.ntmps189
       go_wp2_with fail
       go_ret3
       exact ⟨by rw [HO.out]; rfl, Below.refl _ _⟩
     have f2 : ((s[k + 1].toNat : Int) == 92) = false := bne_of _ 92 c2
     by_cases c3 : s[k + 1] = 110
     · have HO : Hid (decB ((bs s).drop k) = some (10, 2)) := Lib.hid (by rw [hd, c3, decB_n])
       have f3 : ((s[k + 1].toNat : Int) == 110) = true := beq_of _ 110 c3
       clear hd hd1 c1 c2 c3
       go_enter Tryz.func189, Tryz.ntmps189
       go_wp2_with fail
       go_ret3
       exact ⟨by rw [HO.out]; rfl, Below.refl _ _⟩
     have f3 : ((s[k + 1].toNat : Int) == 110) = false := bne_of _ 110 c3
     by_cases c4 : s[k + 1] = 116
     · have HO : Hid (decB ((bs s).drop k) = some (9, 2)) := Lib.hid (by rw [hd, c4, decB_t])
       have f4 : ((s[k + 1].toNat : Int) == 116) = true := beq_of _ 116 c4
       clear hd hd1 c1 c2 c3 c4
       go_enter Tryz.func189, Tryz.ntmps189
       go_wp2_with fail
       go_ret3
       exact ⟨by rw [HO.out]; rfl, Below.refl _ _⟩
     have f4 : ((s[k + 1].toNat : Int) == 116) = false := bne_of _ 116 c4
     have HO : Hid (decB ((bs s).drop k) = (octF ((bs s).drop (k + 1))).map fun b => (b, 4)) := Lib.hid (by rw [hd, decB_oct _ _ (by rintro (h | h) <;> contradiction) c3 c4, hd1])
     have HC : Hid (∀ w, Calls Tryz.prog 194 #[.string s, .int .i64 ((k : Int) + 1)] w fun e w' => e = .returned (octV (k + 1) (octF ((bs s).drop (k + 1)))) ∧ Below w.heap.size w w') := Lib.hid (fun w => octal_any s (k + 1) w hs (by omega))
     clear hd hd1 c1 c2 c3 c4
     cases ho : octF ((bs s).drop (k + 1)) with
     | none =>
       rw [ho] at HO HC
       clear ho
       go_enter Tryz.func189, Tryz.ntmps189
       go_wp2_with (go_at_call 194; refine (HC.out _).mono ?_; rintro e w1 ⟨rfl, hb⟩; unfold octV)
       go_ret3
       exact ⟨by rw [HO.out]; rfl, hb⟩
     | some b =>
       rw [ho] at HO HC
       have HK : Hid (Value.int .i64 (((k + 1 : Nat) : Int) + 3) = .int .i64 ((k + 4 : Nat) : Int)) := Lib.hid rfl
       clear ho
       go_enter Tryz.func189, Tryz.ntmps189
       go_wp2_with (go_at_call 194; refine (HC.out _).mono ?_; rintro e w1 ⟨rfl, hb⟩; unfold octV; rw [HK.out])
       go_ret3
       exact ⟨by rw [HO.out]; rfl, hb⟩
   · have HO : Hid (decB ((bs s).drop k) = none) := Lib.hid (by rw [bs_drop s k hk, h92, List.drop_eq_nil_of_le (by rw [bs_len]; omega)]; rfl)
     have hd : decide ((s.size : Int) ≤ (k : Int) + 1) = true := by simp only [decide_eq_true_eq]; omega
     clear h92
     go_enter Tryz.func189, Tryz.ntmps189
     go_wp2_with fail
     go_ret3
     exact ⟨by rw [HO.out]; rfl, Below.refl _ _⟩
 · have e92 : ((s[k].toNat : Int) != 92) = true := by
    have h2 : ((s[k].toNat : Int) == 92) = false := bne_of _ 92 h92
    rw [bne, h2]; rfl
   have HO : Hid (decB ((bs s).drop k) = some (s[k], 1)) := Lib.hid (by rw [bs_drop s k hk, decB_one _ _ h92])
   clear h92
   go_enter Tryz.func189, Tryz.ntmps189
   go_wp2_with fail
   go_ret3
   exact ⟨by rw [HO.out]; rfl, Below.refl _ _⟩
def unqV : Option (List UInt8 × Nat) → Value
 | some (t, e) => .tuple #[.string ⟨t.toArray⟩, .int .i64 e, .bool true]
 | none => .tuple #[.string ⟨#[]⟩, .int .i64 0, .bool false]
theorem runQ_end (s : ByteArray) (f : Nat) (acc : List UInt8) (j : Nat) (h : s.size ≤ j) : runQ f ((bs s).drop j) acc j = none := by
 rw [List.drop_eq_nil_of_le (by rw [bs_len]; exact h)]; cases f <;> rfl
theorem runQ_stop (s : ByteArray) (f : Nat) (acc : List UInt8) (j : Nat) (h : j < s.size) (h2 : s[j] = 34) : runQ (f + 1) ((bs s).drop j) acc j = some (acc, j + 1) := by
 rw [bs_drop s j h, runQ, if_pos h2]
theorem runQ_bad (s : ByteArray) (f : Nat) (acc : List UInt8) (j : Nat) (h : j < s.size) (h2 : s[j] ≠ 34) (h3 : decB ((bs s).drop j) = none) : runQ (f + 1) ((bs s).drop j) acc j = none := by
 rw [bs_drop s j h] at h3 ⊢
 rw [runQ, if_neg h2, h3]
theorem runQ_step (s : ByteArray) (f : Nat) (acc : List UInt8) (j : Nat) (h : j < s.size) (h2 : s[j] ≠ 34) (b : UInt8) (n : Nat) (h3 : decB ((bs s).drop j) = some (b, n)) :
 runQ (f + 1) ((bs s).drop j) acc j = runQ f ((bs s).drop (j + n)) (acc ++ [b]) (j + n) := by
 have h4 : runQ (f + 1) ((bs s).drop j) acc j = runQ f (((bs s).drop j).drop n) (acc ++ [b]) (j + n) := by
  rw [bs_drop s j h] at h3 ⊢
  rw [runQ, if_neg h2, h3]
 rw [h4, List.drop_drop]
theorem quoted_none (l : List UInt8) (k : Nat) (h : runQ (l.length + 1) (l.drop (k + 1)) [] (k + 1) = none) : quotedAt l k = none := by unfold quotedAt; rw [h]
theorem quoted_yes (s : ByteArray) (k e : Nat) (t : List UInt8) (h : runQ ((bs s).length + 1) ((bs s).drop (k + 1)) [] (k + 1) = some (t, e)) (h2 : (!quoteF t == (s.extract k e).toList) = false) : quotedAt (bs s) k = some (t, e) := by
 have h1 : quoteF t = (s.extract k e).toList := by simpa using h2
 rw [ByteArray.toList_eq] at h1
 have h3 : quoteF t = ((bs s).drop k).take (e - k) := by rw [h1]; exact bs_extract s k e
 unfold quotedAt; rw [h]; simp only [if_pos h3]
theorem quoted_no (s : ByteArray) (k e : Nat) (t : List UInt8) (h : runQ ((bs s).length + 1) ((bs s).drop (k + 1)) [] (k + 1) = some (t, e)) (h2 : (!quoteF t == (s.extract k e).toList) = true) : quotedAt (bs s) k = none := by
 have h1 : ¬ quoteF t = (s.extract k e).toList := by simpa using h2
 rw [ByteArray.toList_eq] at h1
 have h3 : ¬ quoteF t = ((bs s).drop k).take (e - k) := by rw [← bs_extract]; exact h1
 unfold quotedAt; rw [h]; simp only [if_neg h3]
end Sc
end
section
open Go.RowKit
namespace Sc
theorem b34 (b : UInt8) (h : b = 34) : ((b.toNat : Int) != 34) = false := by rw [h]; rfl
theorem n34 (b : UInt8) (h : b ≠ 34) : ((b.toNat : Int) != 34) = true := by
 have h2 : ((b.toNat : Int) == 34) = false := bne_of _ 34 h
 rw [bne, h2]; rfl
theorem own_below {w w' : World} {base : Nat} {v : Value} {n : Nat} {xs : List Value} (h : w.ownsRow base 5 1 v n xs) (hb : Below w.heap.size w w') : w'.ownsRow base 5 1 v n xs :=
 h.kept (row := none) ⟨hb.os, hb.tape, hb.output, hb.size, fun k hk _ => hb.block k hk⟩ (by cases v.ownBlock <;> simp)
set_option maxRecDepth 100000 in
set_option maxHeartbeats 2000000 in
theorem quoted_any (s : ByteArray) (k : Nat) (w : World) (hs : s.size ≤ 1048576) (hk : k < s.size) :
 Calls Tryz.prog 177 #[.string s, .int .i64 k] w fun e w' => e = .returned (unqV (quotedAt (bs s) k)) ∧ Below w.heap.size w w' := by
 go_enter Tryz.func177, Tryz.ntmps177
 go_wp2_with fail
 go_loopw [7, 8] (fun v i wr => ∃ (j f : Nat) (acc : List UInt8), k < j ∧ j ≤ s.size ∧ i = .int .i64 j ∧ s.size < j + f ∧ acc.length ≤ j ∧ Hid (wr.ownsRow w.heap.size 5 1 v acc.length (bytesV acc)) ∧
  Hid (runQ f ((bs s).drop j) acc j = runQ ((bs s).length + 1) ((bs s).drop (k + 1)) [] (k + 1)) ∧ Below w.heap.size w wr) (fun _ i _ => s.size - (intOf i).toNat)
 case atStart => exact ⟨k + 1, (bs s).length + 1, [], by omega, by omega, rfl, by rw [bs_len]; omega, Nat.zero_le _, Lib.hid (World.ownsRow_nil _ _ _ _), Lib.hid rfl, Below.refl _ _⟩
 case round =>
  obtain ⟨j, f, acc, hkj, hj, rfl, hf, hacc, HO, HR, hnx⟩ := hrel
  by_cases hlt : j < s.size
  · obtain ⟨f, rfl⟩ : ∃ f', f = f' + 1 := ⟨f - 1, by omega⟩
    by_cases hq : s[j] = 34
    · have e1 := b34 _ hq
      have HR2 : Hid (runQ ((bs s).length + 1) ((bs s).drop (k + 1)) [] (k + 1) = some (acc, j + 1)) := Lib.hid (by rw [← HR.out]; exact runQ_stop s f acc j hlt hq)
      have hcv := own_conv HO.out
      have hz : (ByteArray.mk acc.toArray).size ≤ 1048576 := by
       show acc.toArray.size ≤ _
       simp; omega
      have HQ : Hid (∀ w, Calls Tryz.prog 80 #[.string ⟨acc.toArray⟩] w fun e w' => e = .returned (.string ⟨(quoteF acc).toArray⟩) ∧ Below w.heap.size w w') := Lib.hid (fun w => Quote_any ⟨acc.toArray⟩ w hz)
      have i0 : (0 : Int) ≤ (k : Int) := by omega
      have i1 : (k : Int) ≤ (j : Int) + 1 := by omega
      have i2 : (j : Int) + 1 ≤ (s.size : Int) := by omega
      clear hq hz
      go_wp2_with fail
      go_region_held3 (fun _ => True) (trivial) (first | (go_at_call 80; refine (HQ.out _).mono ?_; rintro en w1 ⟨rfl, hbel⟩))
      go_wp2_with fail
      · go_ret3
        exact ⟨by rw [quoted_no s k (j + 1) acc HR2.out (by assumption)]; rfl, hnx.trans (((Below.refl _ _).drew.trans hbel).mono hnx.size)⟩
      · go_ret3
        exact ⟨by rw [quoted_yes s k (j + 1) acc HR2.out (by assumption)]; rfl, hnx.trans (((Below.refl _ _).drew.trans hbel).mono hnx.size)⟩
    · have e1 := n34 _ hq
      have HC := Lib.hid (fun w => quotedByte_any s j w (by omega) hlt)
      cases hd : decB ((bs s).drop j) with
      | none =>
        have HR2 : Hid (runQ ((bs s).length + 1) ((bs s).drop (k + 1)) [] (k + 1) = none) := Lib.hid (by rw [← HR.out]; exact runQ_bad s f acc j hlt hq hd)
        have HN := Lib.hid (quoted_none _ _ HR2.out)
        rw [hd] at HC
        clear hq hd
        go_wp2_with (go_at_call 189; refine (HC.out _).mono ?_; rintro e w1 ⟨rfl, hb⟩; unfold decV)
        go_ret3
        exact ⟨by rw [HN.out]; rfl, hnx.trans (hb.mono hnx.size)⟩
      | some p =>
        obtain ⟨b, n⟩ := p
        have HS := Lib.hid (runQ_step s f acc j hlt hq b n hd)
        obtain ⟨hn1, hn2⟩ := decB_le _ _ _ hd
        rw [List.length_drop, bs_len] at hn2
        rw [hd] at HC
        clear hq hd
        go_wp2_with (first
         | (go_at_call 189; refine (HC.out _).mono ?_; rintro e w1 ⟨rfl, hb⟩; unfold decV; have HO1 := Lib.hid (own_below HO.out hb); have hnx1 := hnx.trans (hb.mono hnx.size); clear hb)
         | (at_builtin; refine app_new rfl (.tmp 35) (.tmp 37) rfl w.heap.size acc [b] _ rfl HO1.out 1 rfl rfl rfl (by omega) hnx1.size ?_; intro v2 w2 ho2 hb2; have HO2 := Lib.hid ho2; clear ho2))
        go_roundw
        case rel => exact ⟨j + n, f, acc ++ [b], by omega, by omega, by go_num, by omega, by simp; omega, HO2, Lib.hid (HS.out.symm.trans HR.out), hnx1.trans hb2⟩
        case measure => simp [intOf]; omega
  · have HR2 : Hid (runQ ((bs s).length + 1) ((bs s).drop (k + 1)) [] (k + 1) = none) := Lib.hid (by rw [← HR.out]; exact runQ_end s f acc j (by omega))
    have HN := Lib.hid (quoted_none _ _ HR2.out)
    have hd : decide ((j : Int) < (s.size : Int)) = false := by simp only [decide_eq_false_iff_not]; omega
    go_wp2_with fail
    go_ret3
    exact ⟨by rw [HN.out]; rfl, hnx⟩
theorem unqF_out (l : List UInt8) (k : Int) (h : k < 0 ∨ (l.length : Int) ≤ k) : unqF l k = none := by unfold unqF; rw [if_pos h]
theorem unqF_in (l : List UInt8) (k : Nat) (h : k < l.length) : unqF l k = unqAt l k := by unfold unqF; rw [if_neg (by omega)]; rfl
theorem unqAt_q (l : List UInt8) (k : Nat) (h : l[k]? = some 34) : unqAt l k = quotedAt l k := by unfold unqAt; rw [if_pos h]
theorem unqAt_no (l : List UInt8) (k : Nat) (h : ¬ l[k]? = some 34) (h2 : endOf isPlain l k = k) : unqAt l k = none := by unfold unqAt; rw [if_neg h, if_pos h2]
theorem unqAt_yes (l : List UInt8) (k : Nat) (h : ¬ l[k]? = some 34) (h2 : ¬ endOf isPlain l k = k) : unqAt l k = some ((l.drop k).take (endOf isPlain l k - k), endOf isPlain l k) := by unfold unqAt; rw [if_neg h, if_neg h2]
set_option maxRecDepth 100000 in
set_option maxHeartbeats 1000000 in
theorem Unquote_any (s : ByteArray) (k : Int) (w : World) (hs : s.size ≤ 1048576) :
 Calls Tryz.prog 159 #[.string s, .int .i64 k] w fun e w' => e = .returned (unqV (unqF (bs s) k)) ∧ Below w.heap.size w w' := by
 by_cases h0 : k < 0
 · have HV := Lib.hid (unqF_out (bs s) k (.inl h0))
   go_enter Tryz.func159, Tryz.ntmps159
   go_wp2_with fail
   go_ret3
   exact ⟨by rw [HV.out]; rfl, Below.refl _ _⟩
 by_cases h1 : (s.size : Int) ≤ k
 · have HV := Lib.hid (unqF_out (bs s) k (.inr h1))
   go_enter Tryz.func159, Tryz.ntmps159
   go_wp2_with fail
   go_ret3
   exact ⟨by rw [HV.out]; rfl, Below.refl _ _⟩
 obtain ⟨k, rfl⟩ := Int.eq_ofNat_of_zero_le (Int.not_lt.1 h0)
 have hk : k < s.size := by omega
 have HV := Lib.hid (unqF_in (bs s) k hk)
 have d0 : decide ((k : Int) < 0) = false := by simp only [decide_eq_false_iff_not]; omega
 have d1 : decide ((s.size : Int) ≤ (k : Int)) = false := by simp only [decide_eq_false_iff_not]; omega
 clear h0 h1
 by_cases hq : s[k] = 34
 · have e1 : ((s[k].toNat : Int) == 34) = true := beq_of _ 34 hq
   have HX : Hid (unqF (bs s) k = quotedAt (bs s) k) := Lib.hid (by rw [HV.out, unqAt_q _ _ (by rw [bs_get? s k hk, hq])])
   have HC := Lib.hid (fun w => quoted_any s k w hs hk)
   clear hq
   cases hQ : quotedAt (bs s) k with
   | none =>
     rw [hQ] at HX HC
     clear hQ
     go_enter Tryz.func159, Tryz.ntmps159
     go_wp2_with (go_at_call 177; refine (HC.out _).mono ?_; rintro e w1 ⟨rfl, hb⟩; unfold unqV)
     go_ret3
     exact ⟨by rw [HX.out]; rfl, hb⟩
   | some p =>
     obtain ⟨t, e⟩ := p
     rw [hQ] at HX HC
     clear hQ
     go_enter Tryz.func159, Tryz.ntmps159
     go_wp2_with (go_at_call 177; refine (HC.out _).mono ?_; rintro en w1 ⟨rfl, hb⟩; unfold unqV)
     go_ret3
     exact ⟨by rw [HX.out]; rfl, hb⟩
 · have e1 : ((s[k].toNat : Int) == 34) = false := bne_of _ 34 hq
   have hq2 : ¬ (bs s)[k]? = some 34 := by rw [bs_get? s k hk]; intro h; exact hq (Option.some.inj h)
   have HC := Lib.hid (fun w => plainEnd_any s k w (by omega) (by omega))
   have hge := endOf_ge isPlain (bs s) k
   have hle := endOf_le isPlain (bs s) k (by rw [bs_len]; omega)
   rw [bs_len] at hle
   have HY := Lib.hid (unqAt_yes (bs s) k hq2)
   have HN := Lib.hid (unqAt_no (bs s) k hq2)
   generalize endOf isPlain (bs s) k = E at hge hle HC HY HN
   clear hq hq2
   by_cases he : E = k
   · have HX : Hid (unqF (bs s) k = none) := Lib.hid (by rw [HV.out, HN.out he])
     have e2 : ((E : Int) == (k : Int)) = true := by simp only [beq_iff_eq]; omega
     clear he
     go_enter Tryz.func159, Tryz.ntmps159
     go_wp2_with (go_at_call 118; refine (HC.out _).mono ?_; rintro en w1 ⟨rfl, rfl⟩)
     go_ret3
     exact ⟨by rw [HX.out]; rfl, Below.refl _ _⟩
   · have HX : Hid (unqF (bs s) k = some (bs (s.extract k E), E)) := Lib.hid (by rw [HV.out, HY.out he, bs_extract])
     have e2 : ((E : Int) == (k : Int)) = false := by simp only [beq_eq_false_iff_ne, ne_eq]; omega
     clear he
     go_enter Tryz.func159, Tryz.ntmps159
     go_wp2_with (go_at_call 118; refine (HC.out _).mono ?_; rintro en w1 ⟨rfl, rfl⟩)
     go_ret3
     exact ⟨by rw [HX.out]; rfl, Below.refl _ _⟩
end Sc
end
end Go.Proofs.YtjecfmbecgpbmaaGreatDoor

/-
  Walks of layer 1, writing words: isPlain, Plain, plainEnd, appendQuoted, Quote. Conditions: the text has at most 2^20 bytes.
-/
import Derived.Test.YtgfinppppgpleaaDoorScanBase
import Derived.Laws.IdiomStrings
import Derived.OwnWalk
import Derived.WalkSmall
import Derived.Deep.RegionHeld3
namespace Go.Proofs.YtgfinppppgpleaaDoor
open Go.RowKit
namespace Sc
abbrev byteV (b : UInt8) : Value := .int .u8 (b.toNat : Int)
def bytesV (l : List UInt8) : List Value := l.map byteV
theorem bytesV_append (a b : List UInt8) : bytesV (a ++ b) = bytesV a ++ bytesV b := by simp [bytesV]
theorem bytesV_len (a : List UInt8) : (bytesV a).length = a.length := by simp [bytesV]
/-- A slice of bytes that the call owns, and nothing below 'base' has changed. -/
def Owned (base : Nat) (l : List UInt8) (w0 : World) (e : Ending) (w' : World) : Prop :=
  ∃ v, e = .returned v ∧ w'.ownsRow base 5 1 v l.length (bytesV l) ∧ Below base w0 w'
theorem info_u8 : (Tryd.prog.info? 5).map (fun i => (i.zero, i.size, i.bytes)) = some (some (.int .u8 0), 1, 1) := by kernel_rfl
theorem below_of_append {w w' : World} {base : Nat} {v : Value} {n : Nat} {xs : List Value} (hown : w.ownsRow base 5 1 v n xs) (hg : w.grownBy w' v.ownBlock) (hb : base ≤ w.heap.size) : Below base w w' :=
  (Below.refl _ _).grown hg hb (fun k hk => by
    rcases hown.2 with ⟨rfl, _⟩ | ⟨g, cap, cur, rfl, hg', _⟩
    · simp [Value.ownBlock] at hk
    · simp [Value.ownBlock] at hk; omega)
/-- append of the bytes of a new row onto a slice of bytes that the call owns. -/
theorem app_new {ops : Array Oper} {rest : List Oper} {o : Oper} {a : Act} {Q : Exit → Act → World → Prop} {w : World} {C : Array Value} (hgd : o.guard = none) (s x : Operand)
    (ho : o.op = .call { callee := .builtin .append, args := #[s, x], argTypes := #[49, 49] })
    (base : Nat) (l m : List UInt8) (v : Value) (hs : a.eval s = v) (hown : w.ownsRow base 5 1 v l.length (bytesV l))
    (k : Nat) (hx : a.eval x = .slice (some ⟨w.heap.size, 0, none⟩) k k) (hk : m.length = k) (hC : C.toList = bytesV m)
    (hsz : l.length + k ≤ 1000000000) (hbase : base ≤ w.heap.size)
    (h : ∀ v' w', w'.ownsRow base 5 1 v' (l ++ m).length (bytesV (l ++ m)) → Below base w w' → wpList Tryd.prog ops Q rest (a.put o.dst v') w') :
    wpList Tryd.prog ops Q (o :: rest) a (w.alloc (.cells C 5)) := by
  obtain ⟨i0, hi0, hz0, hz1, hz2⟩ := info_parts info_u8
  subst hk
  have hsize : (w.alloc (.cells C 5)).heap.size = w.heap.size + 1 := by simp
  refine wpList_append_own _ hgd s x _ ho base 5 i0 _ 1 1 Tryd.underlying49 hi0 hz0 hz1 hz2 rfl (by omega) v l.length (bytesV l) hs (hown.alloc _) ⟨w.heap.size, 0, none⟩ m.length m.length (bytesV m) hx
    (by rw [bytesV_len]; omega) (fun j u hu => ?_) ?_ (by unfold maxLen; omega) (by omega) (by omega) ?_
  · have he : (Addr.mk w.heap.size 0 none).add j = ⟨w.heap.size, j, none⟩ := by
      unfold Addr.add; split
      · rename_i h0; rw [h0]
      · simp
    rw [he, World.cell?_alloc_mark, ← hu, ← hC]; simp
  · intro u hu
    simp only [bytesV, List.mem_map] at hu
    obtain ⟨b, _, rfl⟩ := hu
    rfl
  · intro v' w' h1 h2 _
    exact h v' w' (by rw [bytesV_append, List.length_append]; exact h1) (((Below.refl base w).alloc hbase _).trans (below_of_append (hown.alloc _) h2 (by omega)))

theorem quoteB_esc (b : UInt8) (h : b = 34 ∨ b = 92) : quoteB b = [92, b] := by unfold quoteB; rw [if_pos h]
theorem quoteB_lf : quoteB 10 = [92, 110] := by decide
theorem quoteB_tab : quoteB 9 = [92, 116] := by decide
theorem quoteB_oct (b : UInt8) (h1 : ¬ (b = 34 ∨ b = 92)) (h2 : b ≠ 10) (h3 : b ≠ 9) (h4 : b.toNat < 32 ∨ 126 < b.toNat) :
    quoteB b = [92, UInt8.ofNat (48 + b.toNat / 64), UInt8.ofNat (48 + b.toNat / 8 % 8), UInt8.ofNat (48 + b.toNat % 8)] := by unfold quoteB; rw [if_neg h1, if_neg h2, if_neg h3, if_pos h4]
theorem quoteB_one (b : UInt8) (h1 : ¬ (b = 34 ∨ b = 92)) (h2 : b ≠ 10) (h3 : b ≠ 9) (h4 : ¬ (b.toNat < 32 ∨ 126 < b.toNat)) : quoteB b = [b] := by unfold quoteB; rw [if_neg h1, if_neg h2, if_neg h3, if_neg h4]
theorem quoteB_len (b : UInt8) : (quoteB b).length ≤ 4 := by
  unfold quoteB; repeat' split
  all_goals simp
theorem beqU (b : UInt8) (n : Nat) (h : b.toNat = n) : ((b.toNat : Int) == (n : Int)) = true := by simp only [beq_iff_eq]; omega
theorem bneU (b : UInt8) (n : Nat) (h : b.toNat ≠ n) : ((b.toNat : Int) == (n : Int)) = false := by simp only [beq_eq_false_iff_ne, ne_eq]; omega
theorem u8_ne (b : UInt8) (n : Nat) (hn : n < 256) (h : b ≠ UInt8.ofNat n) : b.toNat ≠ n := fun e => h (UInt8.toNat_inj.1 (by rw [e]; simp; omega))
theorem oct_cells (b : UInt8) : [Value.int .u8 92, .int .u8 (48 + (b.toNat : Int) / 64), .int .u8 (48 + (b.toNat : Int) / 8 % 8), .int .u8 (48 + (b.toNat : Int) % 8)] =
    bytesV [92, UInt8.ofNat (48 + b.toNat / 64), UInt8.ofNat (48 + b.toNat / 8 % 8), UInt8.ofNat (48 + b.toNat % 8)] := by
  have h := b.toNat_lt
  simp only [bytesV, List.map_cons, List.map_nil, byteV, UInt8.toNat_ofNat']
  rw [Nat.mod_eq_of_lt (show 48 + b.toNat / 64 < 2 ^ 8 by omega), Nat.mod_eq_of_lt (show 48 + b.toNat / 8 % 8 < 2 ^ 8 by omega), Nat.mod_eq_of_lt (show 48 + b.toNat % 8 < 2 ^ 8 by omega)]
  rfl
set_option maxRecDepth 100000 in
set_option maxHeartbeats 1000000 in
theorem appendQuoted_any (v : Value) (l : List UInt8) (b : UInt8) (base : Nat) (w : World) (hown : w.ownsRow base 5 1 v l.length (bytesV l)) (hbase : base ≤ w.heap.size) (hl : l.length ≤ 100000000) :
    Calls Tryd.prog 34 #[v, .int .u8 b.toNat] w (Owned base (l ++ quoteB b) w) := by
  have HO := Lib.hid hown
  clear hown
  by_cases h1 : b = 34 ∨ b = 92
  · have HQ := Lib.hid (quoteB_esc b h1)
    rcases h1 with rfl | rfl
    · go_enter Tryd.func34, Tryd.ntmps34
      go_wp2_with (at_builtin; refine app_new rfl (.tmp 12) (.tmp 14) rfl base l [92, 34] v rfl HO.out 2 rfl rfl rfl (by omega) hbase ?_; intro v1 w1 h1 h2)
      go_ret
      exact ⟨v1, rfl, by rw [HQ.out]; exact h1, h2⟩
    · go_enter Tryd.func34, Tryd.ntmps34
      go_wp2_with (at_builtin; refine app_new rfl (.tmp 12) (.tmp 14) rfl base l [92, 92] v rfl HO.out 2 rfl rfl rfl (by omega) hbase ?_; intro v1 w1 h1 h2)
      go_ret
      exact ⟨v1, rfl, by rw [HQ.out]; exact h1, h2⟩
  by_cases h2 : b = 10
  · subst h2
    go_enter Tryd.func34, Tryd.ntmps34
    go_wp2_with (at_builtin; refine app_new rfl (.tmp 19) (.tmp 20) rfl base l [92, 110] v rfl HO.out 2 rfl rfl rfl (by omega) hbase ?_; intro v1 w1 h1 h2)
    go_ret
    exact ⟨v1, rfl, by rw [quoteB_lf]; exact h1, h2⟩
  by_cases h3 : b = 9
  · subst h3
    go_enter Tryd.func34, Tryd.ntmps34
    go_wp2_with (at_builtin; refine app_new rfl (.tmp 25) (.tmp 26) rfl base l [92, 116] v rfl HO.out 2 rfl rfl rfl (by omega) hbase ?_; intro v1 w1 h1 h2)
    go_ret
    exact ⟨v1, rfl, by rw [quoteB_tab]; exact h1, h2⟩
  have hb0 := u8_lt b
  have e1 : ((b.toNat : Int) == 34) = false := bneU b 34 (u8_ne b 34 (by decide) (fun h => h1 (.inl h)))
  have e2 : ((b.toNat : Int) == 92) = false := bneU b 92 (u8_ne b 92 (by decide) (fun h => h1 (.inr h)))
  have e3 : ((b.toNat : Int) == 10) = false := bneU b 10 (u8_ne b 10 (by decide) h2)
  have e4 : ((b.toNat : Int) == 9) = false := bneU b 9 (u8_ne b 9 (by decide) h3)
  by_cases h4 : b.toNat < 32 ∨ 126 < b.toNat
  · have HQ := Lib.hid (quoteB_oct b h1 h2 h3 h4)
    have HC := Lib.hid (oct_cells b)
    clear h1 h2 h3
    rcases h4 with h4 | h4
    · have h5 : (b.toNat : Int) < 32 := by omega
      clear h4
      go_enter Tryd.func34, Tryd.ntmps34
      go_wp2_with (at_builtin; refine app_new rfl (.tmp 35) (.tmp 46) rfl base l _ v rfl HO.out 4 rfl rfl HC.out (by omega) hbase ?_; intro v1 w1 h1 h2)
      go_ret
      exact ⟨v1, rfl, by rw [HQ.out]; exact h1, h2⟩
    · have h5 : (126 : Int) < (b.toNat : Int) := by omega
      have h6 : ¬ (b.toNat : Int) < 32 := by omega
      clear h4
      go_enter Tryd.func34, Tryd.ntmps34
      go_wp2_with (at_builtin; refine app_new rfl (.tmp 35) (.tmp 46) rfl base l _ v rfl HO.out 4 rfl rfl HC.out (by omega) hbase ?_; intro v1 w1 h1 h2)
      go_ret
      exact ⟨v1, rfl, by rw [HQ.out]; exact h1, h2⟩
  · have HQ := Lib.hid (quoteB_one b h1 h2 h3 h4)
    have h5 : ¬ (b.toNat : Int) < 32 := by omega
    have h6 : ¬ (126 : Int) < (b.toNat : Int) := by omega
    clear h1 h2 h3 h4
    go_enter Tryd.func34, Tryd.ntmps34
    go_wp2_with (at_builtin; refine app_new rfl (.tmp 48) (.tmp 50) rfl base l [b] v rfl HO.out 1 rfl rfl rfl (by omega) hbase ?_; intro v1 w1 h1 h2)
    go_ret
    exact ⟨v1, rfl, by rw [HQ.out]; exact h1, h2⟩

theorem plain_ok (b : UInt8) (h1 : (32 : Int) < (b.toNat : Int)) (h2 : (b.toNat : Int) < 127) (h3 : ((b.toNat : Int) == 34) = false) (h4 : ((b.toNat : Int) == 92) = false) : isPlain b = true := by
  have e3 : b ≠ 34 := fun h => by subst h; exact absurd h3 (by decide)
  have e4 : b ≠ 92 := fun h => by subst h; exact absurd h4 (by decide)
  unfold isPlain; simp [e3, e4]; omega
theorem plain_lo (b : UInt8) (h1 : ¬ (32 : Int) < (b.toNat : Int)) : isPlain b = false := by unfold isPlain; simp; omega
theorem plain_hi (b : UInt8) (h1 : ¬ (b.toNat : Int) < 127) : isPlain b = false := by unfold isPlain; simp; omega
theorem ret_bool {a b : Bool} (h : a = b) : Ending.returned (.bool a) = .returned (.bool b) := by rw [h]
set_option maxRecDepth 100000 in
theorem isPlain_any (b : UInt8) (w : World) : Calls Tryd.prog 38 #[.int .u8 b.toNat] w fun e w' => e = .returned (.bool (isPlain b)) ∧ w = w' := by
  have hb0 := u8_lt b
  by_cases h1 : (32 : Int) < (b.toNat : Int)
  · by_cases h2 : (b.toNat : Int) < 127
    · by_cases h3 : b = 34
      · subst h3
        go_enter Tryd.func38, Tryd.ntmps38
        go_wp2
        go_ret
        exact ⟨rfl, rfl⟩
      by_cases h4 : b = 92
      · subst h4
        go_enter Tryd.func38, Tryd.ntmps38
        go_wp2
        go_ret
        exact ⟨rfl, rfl⟩
      have e3 : ((b.toNat : Int) == 34) = false := bneU b 34 (u8_ne b 34 (by decide) h3)
      have e4 : ((b.toNat : Int) == 92) = false := bneU b 92 (u8_ne b 92 (by decide) h4)
      have HP := Lib.hid (plain_ok b h1 h2 e3 e4)
      have n3 : ((b.toNat : Int) != 34) = true := by rw [bne, e3]; rfl
      have n4 : ((b.toNat : Int) != 92) = true := by rw [bne, e4]; rfl
      clear h3 h4
      go_enter Tryd.func38, Tryd.ntmps38
      go_wp2
      go_ret
      exact ⟨by rw [HP.out]; simp [*], rfl⟩
    · have HP := Lib.hid (plain_hi b h2)
      go_enter Tryd.func38, Tryd.ntmps38
      go_wp2
      go_ret
      exact ⟨by rw [HP.out]; simp [*], rfl⟩
  · have HP := Lib.hid (plain_lo b h1)
    go_enter Tryd.func38, Tryd.ntmps38
    go_wp2
    go_ret
    exact ⟨by rw [HP.out]; simp [*], rfl⟩
set_option maxHeartbeats 400000 in
theorem plainEnd_any (s : ByteArray) (k : Nat) (w : World) (hs : s.size ≤ 4611686018427387904) (hk : k ≤ s.size) :
    Calls Tryd.prog 31 #[.string s, .int .i64 k] w fun e w' => e = .returned (.int .i64 (endOf isPlain (bs s) k)) ∧ w = w' := by
  go_enter Tryd.func31, Tryd.ntmps31
  go_wp2
  go_loop [1] (fun i => ∃ j : Nat, k ≤ j ∧ j ≤ s.size ∧ i = .int .i64 j ∧ Hid (endOf isPlain (bs s) j = endOf isPlain (bs s) k)) (fun i => s.size - (intOf i).toNat)
  case atStart => exact ⟨k, Nat.le_refl _, hk, rfl, Lib.hid rfl⟩
  case round =>
    obtain ⟨j, hj0, hj, rfl, H⟩ := hrel
    by_cases hlt : j < s.size
    · cases hp : isPlain s[j] with
      | true =>
        have HS := Lib.hid (endOf_step isPlain (bs s) j hlt hp)
        go_wp2_with (go_at_call 38; refine (isPlain_any s[j] _).mono ?_; rintro e w' ⟨rfl, rfl⟩)
        go_round
        case rel => exact ⟨j + 1, by omega, by omega, by go_num, Lib.hid (HS.out.symm.trans H.out)⟩
        case measure => simp [intOf]; omega
      | false =>
        have HS := Lib.hid (endOf_no isPlain (bs s) j hlt hp)
        go_wp2_with (go_at_call 38; refine (isPlain_any s[j] _).mono ?_; rintro e w' ⟨rfl, rfl⟩)
        go_ret
        exact ⟨ret_int (by rw [← H.out, HS.out]), rfl⟩
    · have HS := Lib.hid (endOf_end isPlain (bs s) j (by rw [bs_len]; omega))
      have hd : decide ((j : Int) < (s.size : Int)) = false := by simp only [decide_eq_false_iff_not]; omega
      go_wp2_with fail
      go_ret
      exact ⟨ret_int (by rw [← H.out, HS.out]), rfl⟩

/-- What Quote makes of a string. -/
theorem quoteF_plain (l : List UInt8) (h0 : l ≠ []) (h : l.all isPlain = true) : quoteF l = l := by unfold quoteF; rw [if_pos ⟨h0, h⟩]
theorem quoteF_quoted (l : List UInt8) (h : ¬ (l ≠ [] ∧ l.all isPlain = true)) : quoteF l = 34 :: l.flatMap quoteB ++ [34] := by unfold quoteF; rw [if_neg h]
theorem all_of_endOf (p : UInt8 → Bool) (l : List UInt8) : endOf p l 0 = l.length ↔ l.all p = true := by
  unfold endOf
  rw [List.drop_zero, Nat.zero_add]
  induction l with
  | nil => simp
  | cons a r ih =>
    rw [List.takeWhile_cons]
    cases h : p a with
    | true => simp [h, ih]
    | false => simp [h]
theorem take_flat (s : ByteArray) (j : Nat) (h : j < s.size) : ((bs s).take (j + 1)).flatMap quoteB = ((bs s).take j).flatMap quoteB ++ quoteB s[j] := by
  rw [List.take_succ_eq_append_getElem (by simpa using h)]; simp; rfl
theorem flat_len (l : List UInt8) : (l.flatMap quoteB).length ≤ 4 * l.length := by
  induction l with
  | nil => simp
  | cons a r ih => have := quoteB_len a; simp only [List.flatMap_cons, List.length_append, List.length_cons]; omega
/-- The word as far as byte j. -/
def wd (s : ByteArray) (j : Nat) : List UInt8 := 34 :: ((bs s).take j).flatMap quoteB
theorem wd_len (s : ByteArray) (j : Nat) (hj : j ≤ s.size) : (wd s j).length ≤ 4 * s.size + 1 := by
  have h := flat_len ((bs s).take j)
  have h2 := List.length_take_le j (bs s)
  unfold wd; simp only [List.length_cons]; omega
theorem wd_step (s : ByteArray) (j : Nat) (h : j < s.size) : wd s (j + 1) = wd s j ++ quoteB s[j] := by unfold wd; rw [take_flat s j h]; rfl
theorem wd_end (s : ByteArray) (j : Nat) (h : s.size ≤ j) (hq : quoteF (bs s) = 34 :: (bs s).flatMap quoteB ++ [34]) : quoteF (bs s) = wd s j ++ [34] := by
  unfold wd; rw [hq, List.take_of_length_le (by rw [bs_len]; exact h)]
theorem own_new (w : World) (C : Array Value) (m : List UInt8) (k : Nat) (hC : C.toList = bytesV m) (hk : m.length = k) (h0 : k ≤ maxLen) :
    (w.alloc (.cells C 5)).ownsRow w.heap.size 5 1 (.slice (some ⟨w.heap.size, 0, none⟩) k k) m.length (bytesV m) := by
  subst hk
  have hs : C.size = m.length := by rw [← Array.length_toList, hC, bytesV_len]
  refine ⟨by rw [bytesV_len]; omega, .inr ⟨w.heap.size, m.length, C, rfl, Nat.le_refl _, ?_, Nat.le_refl _, h0, by omega, ?_⟩⟩
  · show (w.heap.push _)[w.heap.size]? = _
    simp
  · rw [hC, List.take_of_length_le (by rw [bytesV_len]; omega)]
/-- string(b) of a slice of bytes that the call owns. -/
theorem own_conv {w : World} {base : Nat} {v : Value} {L : List UInt8} (h : w.ownsRow base 5 1 v L.length (bytesV L)) :
    (convert 49 9 v).run Tryd.prog w = .ok (.string ⟨L.toArray⟩) w := by
  rcases h.2 with ⟨rfl, h0⟩ | ⟨g, cap, cur, rfl, _, hh, _, _, hsz, ht⟩
  · have : L = [] := List.eq_nil_of_length_eq_zero h0
    subst this
    rw [run_convert_bytes_string w _ _ 5 none 0 0 Tryd.underlying49 Tryd.underlying5 Tryd.underlying9]
    rfl
  · refine run_convert_bytes_back w _ _ 5 ⟨g, 0, none⟩ cap L Tryd.underlying49 Tryd.underlying5 Tryd.underlying9 ?_
    intro j hj
    have he : (Addr.mk g 0 none).add j = ⟨g, j, none⟩ := by
      unfold Addr.add; split
      · rename_i h0; rw [h0]
      · simp
    have hc := h.cellAt j (by omega)
    rw [he, hc]
    simp [bytesV, List.getElem?_eq_getElem hj]
set_option maxRecDepth 100000 in
set_option maxHeartbeats 2000000 in
theorem Quote_any (s : ByteArray) (w : World) (hs : s.size ≤ 1048576) :
    Calls Tryd.prog 22 #[.string s] w fun e w' => e = .returned (.string ⟨(quoteF (bs s)).toArray⟩) ∧ Below w.heap.size w w' := by
  have HE := Lib.hid (fun w => plainEnd_any s 0 w (by omega) (Nat.zero_le _))
  by_cases hpl : bs s ≠ [] ∧ (bs s).all isPlain = true
  · obtain ⟨h0, h1⟩ := hpl
    have HQ := Lib.hid (quoteF_plain (bs s) h0 h1)
    have H1 : Hid (endOf isPlain (bs s) 0 = s.size) := Lib.hid ((all_of_endOf isPlain (bs s)).2 h1)
    have e0 : ¬ s.toList = [] := by rw [ByteArray.toList_eq]; exact h0
    have e1 : (!s.toList.isEmpty) = true := by simpa using e0
    clear h0 h1
    go_enter Tryd.func22, Tryd.ntmps22
    go_wp2_with (go_at_call 31; refine (HE.out _).mono ?_; rintro e w' ⟨rfl, rfl⟩; rw [H1.out])
    go_ret
    exact ⟨by rw [HQ.out]; rfl, Below.refl _ _⟩
  · have HQ := Lib.hid (quoteF_quoted (bs s) hpl)
    by_cases h0 : bs s = []
    · have e0 : s.toList = [] := by rw [ByteArray.toList_eq]; exact h0
      have e1 : (!s.toList.isEmpty) = false := by rw [e0]; rfl
      clear hpl h0
      go_enter Tryd.func22, Tryd.ntmps22
      go_wp2_with fail
      go_loopw [3, 4] (fun v i wr => ∃ j : Nat, j ≤ s.size ∧ i = .int .i64 j ∧ Hid (wr.ownsRow w.heap.size 5 1 v (wd s j).length (bytesV (wd s j))) ∧ Below w.heap.size w wr) (fun _ i _ => s.size - (intOf i).toNat)
      case atStart => exact ⟨0, Nat.zero_le _, rfl, Lib.hid (own_new w #[.int .u8 34] [34] 1 rfl rfl (by decide)), (Below.refl _ _).alloc (Nat.le_refl _) _⟩
      case round =>
        obtain ⟨j, hj, rfl, HO, hnx⟩ := hrel
        have hwl := wd_len s j hj
        by_cases hlt : j < s.size
        · have HT := Lib.hid (wd_step s j hlt)
          go_wp2_with (go_at_call 34; refine (appendQuoted_any _ (wd s j) s[j] w.heap.size _ HO.out hnx.size (by omega)).mono ?_; rintro e w1 ⟨v1, rfl, ho, hb⟩; have HO1 := Lib.hid ho; clear ho)
          go_roundw
          case rel => exact ⟨j + 1, by omega, by go_num, Lib.hid (by rw [HT.out]; exact HO1.out), hnx.trans hb⟩
          case measure => simp [intOf]; omega
        · have HT := Lib.hid (wd_end s j (by omega) HQ.out)
          have hd : decide ((j : Int) < (s.size : Int)) = false := by simp only [decide_eq_false_iff_not]; omega
          go_wp2_with (at_builtin; refine app_new rfl (.tmp 27) (.tmp 28) rfl w.heap.size (wd s j) [34] _ rfl HO.out 1 rfl rfl rfl (by omega) hnx.size ?_; intro v1 w1 h1 h2; rw [← HT.out] at h1; have hcv := own_conv h1; have HO1 := Lib.hid h1; clear h1)
          go_ret
          exact ⟨rfl, hnx.trans h2⟩
    · have e0 : ¬ s.toList = [] := by rw [ByteArray.toList_eq]; exact h0
      have e1 : (!s.toList.isEmpty) = true := by simpa using e0
      have hne : endOf isPlain (bs s) 0 ≠ s.size := fun h => hpl ⟨h0, (all_of_endOf isPlain (bs s)).1 h⟩
      generalize hE : endOf isPlain (bs s) 0 = E at hne HE
      have e2 : ((E : Int) == (s.size : Int)) = false := by simp only [beq_eq_false_iff_ne, ne_eq]; omega
      clear hpl h0 hne hE
      go_enter Tryd.func22, Tryd.ntmps22
      go_wp2_with (go_at_call 31; refine (HE.out _).mono ?_; rintro e w' ⟨rfl, rfl⟩)
      go_loopw [3, 4] (fun v i wr => ∃ j : Nat, j ≤ s.size ∧ i = .int .i64 j ∧ Hid (wr.ownsRow w.heap.size 5 1 v (wd s j).length (bytesV (wd s j))) ∧ Below w.heap.size w wr) (fun _ i _ => s.size - (intOf i).toNat)
      case atStart => exact ⟨0, Nat.zero_le _, rfl, Lib.hid (own_new w #[.int .u8 34] [34] 1 rfl rfl (by decide)), (Below.refl _ _).alloc (Nat.le_refl _) _⟩
      case round =>
        obtain ⟨j, hj, rfl, HO, hnx⟩ := hrel
        have hwl := wd_len s j hj
        by_cases hlt : j < s.size
        · have HT := Lib.hid (wd_step s j hlt)
          go_wp2_with (go_at_call 34; refine (appendQuoted_any _ (wd s j) s[j] w.heap.size _ HO.out hnx.size (by omega)).mono ?_; rintro e w1 ⟨v1, rfl, ho, hb⟩; have HO1 := Lib.hid ho; clear ho)
          go_roundw
          case rel => exact ⟨j + 1, by omega, by go_num, Lib.hid (by rw [HT.out]; exact HO1.out), hnx.trans hb⟩
          case measure => simp [intOf]; omega
        · have HT := Lib.hid (wd_end s j (by omega) HQ.out)
          have hd : decide ((j : Int) < (s.size : Int)) = false := by simp only [decide_eq_false_iff_not]; omega
          go_wp2_with (at_builtin; refine app_new rfl (.tmp 27) (.tmp 28) rfl w.heap.size (wd s j) [34] _ rfl HO.out 1 rfl rfl rfl (by omega) hnx.size ?_; intro v1 w1 h1 h2; rw [← HT.out] at h1; have hcv := own_conv h1; have HO1 := Lib.hid h1; clear h1)
          go_ret
          exact ⟨rfl, hnx.trans h2⟩
end Sc
end Go.Proofs.YtgfinppppgpleaaDoor

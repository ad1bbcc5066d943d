/-
  Small facts that the walks of layer 2 share: strings as lists of bytes, slices that read as lists. No conditions. Edit scripts as data: validity, pairs, the script of pairs; a script comes back from its pairs. Plain mathematics, no conditions. Hunks as data: the groups of a script's changes, the lines that they cover; plain mathematics of layer 11. No conditions. Moving changes along equal lines, as plain mathematics: scripts that fit, how often a change can be moved, the moved scripts; they fit, and moving twice moves nothing more. No conditions. Plain mathematics of layer 12: the lines of a hunk, of a made patch, where they stand in the two texts. No conditions. Walks of the verifier's Mod, At: some number. Conditions: the raw numbers read as a slice of ints; the bounds of the numbers. Walks of layer 1, writing words: isPlain, Plain, plainEnd, appendQuoted, Quote. Conditions: the text has at most 2^20 bytes. Walks of the reference of layer 2: Ended, Bare, Lines, Check, Split. Condition: the blob has at most 2^21 bytes. Layer 9 as mathematics: the greatest number of partners, the walk, the columns of bits. Plain mathematics, no conditions. Walk of the verifier's Line: some line. Conditions: the bounds of the number.
-/
import Derived.Test.YtlnghfmedkfkmaaDoorChecked
import Derived.Test.YtlnghfmedkfkmaaDoorGTextMath
import Derived.WalkKit
import Derived.WalkSpells
import Derived.WalkLawsBesides
import Derived.LoopTactic
import Derived.Lib.Hide
import Derived.Deep.QuietTactic
import Derived.BigQuiet
import Derived.IntWalk
import Derived.Deep.LoopGhost
import Derived.Deep.RegionHeld3
import Derived.Laws.IdiomStrings
import Derived.OwnWalk
import Derived.WalkSmall
import Derived.Test.YtlnghfmedkfkmaaDoorGScanBase
namespace Go.Proofs.YtlnghfmedkfkmaaDoor
section
open Go.RowKit
namespace Tx
theorem ret_int {k : IntKind} {a b : Int} (h : a = b) : Ending.returned (.int k a) = .returned (.int k b) := by rw [h]
/-- The bytes of a string. -/
abbrev bs (s : ByteArray) : List UInt8 := s.data.toList
theorem bs_len (s : ByteArray) : (bs s).length = s.size := rfl
theorem bs_get? (s : ByteArray) (k : Nat) (h : k < s.size) : (bs s)[k]? = some s[k] := by rw [List.getElem?_eq_getElem (by simpa using h)]; rfl
theorem bs_drop (s : ByteArray) (k : Nat) (h : k < s.size) : (bs s).drop k = s[k] :: (bs s).drop (k + 1) := List.drop_eq_getElem_cons (l := bs s) (i := k) h
theorem bs_extract (s : ByteArray) (a b : Nat) : bs (s.extract a b) = ((bs s).drop a).take (b - a) := by
  simp [bs, List.take_drop]
theorem bs_append (a b : ByteArray) : bs (a ++ b) = bs a ++ bs b := by simp [bs]
theorem mk_bs (s : ByteArray) : (ByteArray.mk (bs s).toArray) = s := by cases s; simp [bs]
theorem bs_mk (l : List UInt8) : bs ⟨l.toArray⟩ = l := by simp [bs]
theorem size_mk (l : List UInt8) : (ByteArray.mk l.toArray).size = l.length := by simp [ByteArray.size]
theorem u8_lt (b : UInt8) : (b.toNat : Int) < 256 := by have := b.toNat_lt; omega
/-- A slice of ints that reads. -/
def RdI (w : World) (v : Value) (n : Nat) : Prop :=
  ∃ A c, v = .slice A n c ∧ (0 < n → ∃ b off, A = some ⟨b, off, none⟩ ∧ ∀ j, j < n → ∃ z, w.cell? ⟨b, off + j, none⟩ = some (.int .i64 z) ∧ -9223372036854775808 ≤ z ∧ z ≤ 9223372036854775807)
theorem cell_lt {w : World} {b o : Nat} {u : Value} (h : w.cell? ⟨b, o, none⟩ = some u) : b < w.heap.size := by
  rcases Nat.lt_or_ge b w.heap.size with h2 | h2
  · exact h2
  · unfold World.cell? at h
    rw [Array.getElem?_eq_none (by simpa using h2)] at h
    cases h
theorem RdI.below {w w' : World} {v : Value} {n : Nat} (h : RdI w v n) (hb : Below w.heap.size w w') : RdI w' v n := by
  obtain ⟨A, c, rfl, hc⟩ := h
  refine ⟨A, c, rfl, fun hp => ?_⟩
  obtain ⟨b, off, rfl, hcell⟩ := hc hp
  refine ⟨b, off, rfl, fun j hj => ?_⟩
  obtain ⟨z, h1, h2, h3⟩ := hcell j hj
  exact ⟨z, (hb.cell (p := ⟨b, off + j, none⟩) (cell_lt h1)).trans h1, h2, h3⟩
/-- A slice of strings that reads as a list. -/
def RdS (w : World) (v : Value) (xs : List ByteArray) : Prop :=
  ∃ A c, v = .slice A xs.length c ∧ (xs.length ≤ c ∧ (A = none → c = 0)) ∧ (0 < xs.length → ∃ b off, A = some ⟨b, off, none⟩ ∧ ∀ j (h : j < xs.length), w.cell? ⟨b, off + j, none⟩ = some (.string xs[j]))
theorem RdS.below {w w' : World} {v : Value} {xs : List ByteArray} (h : RdS w v xs) (hb : Below w.heap.size w w') : RdS w' v xs := by
  obtain ⟨A, c, rfl, hcap, hc⟩ := h
  refine ⟨A, c, rfl, hcap, fun hp => ?_⟩
  obtain ⟨b, off, rfl, hcell⟩ := hc hp
  exact ⟨b, off, rfl, fun j hj => (hb.cell (p := ⟨b, off + j, none⟩) (cell_lt (hcell j hj))).trans (hcell j hj)⟩
/-- The strings of lists of bytes. -/
def mks (l : List (List UInt8)) : List ByteArray := l.map fun l => ⟨l.toArray⟩
theorem mks_bs (xs : List ByteArray) : mks (xs.map bs) = xs := by
  unfold mks; rw [List.map_map]
  conv => rhs; rw [← List.map_id xs]
  exact List.map_congr_left fun x _ => mk_bs x
theorem mks_len (l : List (List UInt8)) : (mks l).length = l.length := by simp [mks]
abbrev strV (l : List UInt8) : Value := .string ⟨l.toArray⟩
def strsV (l : List (List UInt8)) : List Value := l.map strV
theorem RdS.nil (w : World) : RdS w (.slice none 0 0) [] := ⟨none, 0, rfl, ⟨Nat.le_refl _, fun _ => rfl⟩, fun hp => absurd hp (by decide)⟩
end Tx
end
section
namespace Sc
structure Ch where
  old : Int
  oldLen : Int
  new : Int
  newLen : Int
structure Sp where
  frm : Int
  to : Int
def inI (n : Int) : Prop := 0 ≤ n ∧ n ≤ 4096
def wiI (f l n : Int) : Prop := 0 ≤ f ∧ 0 ≤ l ∧ l ≤ n - f
/-- One change behind another one (or the first one) that ends at i and j. -/
def OkC (f : Bool) (i j : Int) (c : Ch) (m n : Int) : Prop :=
  (wiI c.old c.oldLen m ∧ wiI c.new c.newLen n ∧ ¬ (c.oldLen = 0 ∧ c.newLen = 0)) ∧ (c.old - i = c.new - j ∧ (f = false → 1 ≤ c.old - i))
def OkL (f : Bool) (i j : Int) : List Ch → Int → Int → Prop
  | [], m, n => m - i = n - j
  | c :: l, m, n => OkC f i j c m n ∧ OkL false (c.old + c.oldLen) (c.new + c.newLen) l m n
open Classical in
/-- The code of Check. -/
noncomputable def chkF (l : List Ch) (m n : Int) : Int := if inI m ∧ inI n ∧ OkL true 0 0 l m n then 0 else 80
/-- Partners, one after the other. -/
def run (i j : Int) (k : Nat) : List Sp := (List.range k).map fun t : Nat => ⟨i + t, j + t⟩
def mtF (m : Int) : Int → Int → List Ch → List Sp
  | i, j, [] => run i j (m - i).toNat
  | i, j, c :: l => run i j (c.old - i).toNat ++ mtF m (c.old + c.oldLen) (c.new + c.newLen) l
def btw (i a j b : Int) : List Ch := if i = a ∧ j = b then [] else [⟨i, a - i, j, b - j⟩]
def frF (m n : Int) : Int → Int → List Sp → List Ch
  | i, j, [] => btw i m j n
  | i, j, s :: p => btw i s.frm j s.to ++ frF m n (s.frm + 1) (s.to + 1) p
end Sc
end
section
namespace Sc
end Sc
namespace Hn
open Sc
structure Hk where
  fst : Int
  lst : Int
  oF : Int
  oT : Int
  nF : Int
  nT : Int
/-- Ends of a change in both texts. -/
def endO (c : Ch) : Int := c.old + c.oldLen
def aft (ctx m : Int) (e : Ch) : Int := if m - endO e < ctx then m - endO e else ctx
/-- The farthest end of the hunks that begin at a line, in the program's way. -/
def Ends (hs : List Hk) (j t : Int) : Prop := t < 0 ∨ ∃ h ∈ hs, (if h.oF < 0 then 0 else h.oF) = j ∧ t < h.oT
end Hn
end
section
namespace Sc
end Sc
namespace Sl
open Sc
def Pure (c : Ch) : Prop := c.newLen = 0 ∨ c.oldLen = 0
instance (c : Ch) : Decidable (Pure c) := inferInstanceAs (Decidable (_ ∨ _))
-- what fits, change by change
-- place by place
end Sl
end
section
namespace Hn
end Hn
namespace Sc
end Sc
namespace Sl
end Sl
namespace Uf
open Sc Hn Sl
structure Ln where
  kind : Int
  text : ByteArray
structure PH where
  old : Int
  new : Int
  lines : List Ln
structure Pat where
  on : ByteArray
  nn : ByteArray
  hunks : List PH
section
variable {α : Type}
end
/-- The texts of the lines that are not of a kind. -/
def notK (k : Int) (ls : List Ln) : List ByteArray := (ls.filter fun l => l.kind != k).map (·.text)
theorem notK_app (k : Int) (a b : List Ln) : notK k (a ++ b) = notK k a ++ notK k b := by simp [notK]
variable {x y : List ByteArray}
end Uf
end
section
open Go.RowKit
namespace Tx
def modF (a n : Int) : Int := (a % 18446744073709551616) % n
theorem modF_lo (a n : Int) (h : 0 < n) : 0 ≤ modF a n := Int.emod_nonneg _ (by omega)
theorem modF_hi (a n : Int) (h : 0 < n) : modF a n < n := Int.emod_lt_of_pos _ h
theorem modF_walk (a n : Int) (h1 : 0 < n) (h2 : n ≤ 1099511627776) : wrap64 ((IntKind.u64.wrap a).tmod n) = modF a n := by
  have h3 := modF_lo a n h1
  have h4 := modF_hi a n h1
  have h5 : (IntKind.u64.wrap a).tmod n = modF a n := by
    rw [IntKind.wrap_u64, Int.tmod_eq_emod_of_nonneg (Int.emod_nonneg _ (by decide))]
    rfl
  rw [h5]
  exact IntWalk.wrap64_in _ ⟨by omega, by omega⟩
theorem Mod_any (a n : Int) (w : World) (h1 : 0 < n) (h2 : n ≤ 1099511627776) (_h0 : -9223372036854775808 ≤ a) (_h3 : a ≤ 9223372036854775807) :
    Calls Tryd.prog 8 #[.int .i64 a, .int .i64 n] w fun e w' => e = .returned (.int .i64 (modF a n)) ∧ w = w' := by
  go_enter Tryd.func8, Tryd.ntmps8
  go_wp2_with fail
  go_ret
  exact ⟨ret_int (modF_walk a n h1 h2), rfl⟩
/-- Some number that an int holds. -/
def SomeInt (w : World) (e : Ending) (w' : World) : Prop := ∃ n : Int, -9223372036854775808 ≤ n ∧ n ≤ 9223372036854775807 ∧ e = .returned (.int .i64 n) ∧ w = w'
theorem w64_lo (x : Int) : -9223372036854775808 ≤ wrap64 x := by unfold wrap64; omega
theorem w64_hi (x : Int) : wrap64 x ≤ 9223372036854775807 := by unfold wrap64; omega
set_option maxHeartbeats 1000000 in
theorem At_any (v : Value) (n : Nat) (k : Int) (w : World) (h : RdI w v n) (hn : n ≤ maxLen) (h0 : 0 ≤ k) (h1 : k ≤ 1000000) :
    Calls Tryd.prog 5 #[v, .int .i64 k] w (SomeInt w) := by
  obtain ⟨A, c, rfl, hc⟩ := h
  unfold maxLen at hn
  by_cases hz : 0 < n
  · obtain ⟨b, off, rfl, hcell⟩ := hc hz
    clear hc
    have hm0 : 0 ≤ k % (n : Int) := Int.emod_nonneg _ (by omega)
    have hm1 : k % (n : Int) < n := Int.emod_lt_of_pos _ (by omega)
    obtain ⟨j, hj⟩ : ∃ j : Nat, k % (n : Int) = j := ⟨(k % (n : Int)).toNat, by omega⟩
    obtain ⟨z, hz1, hz2, hz3⟩ := hcell j (by omega)
    have hcj : w.cell? ⟨b, off + (k % (n : Int)).toNat, none⟩ = some (.int .i64 z) := by rw [hj]; exact hz1
    clear hcell hj hz1
    go_enter Tryd.func5, Tryd.ntmps5
    go_wp2_with fail
    go_ret
    exact ⟨_, w64_lo _, w64_hi _, rfl, rfl⟩
  · clear hc
    go_enter Tryd.func5, Tryd.ntmps5
    go_wp2_with fail
    go_ret
    exact ⟨_, w64_lo _, w64_hi _, rfl, rfl⟩
/-- Some string of at most m bytes; nothing that lay before has changed. -/
def SomeStr (m : Nat) (w : World) (e : Ending) (w' : World) : Prop := ∃ b : ByteArray, b.size ≤ m ∧ e = .returned (.string b) ∧ Below w.heap.size w w'
end Tx
end
section
open Go.RowKit
namespace Sc
abbrev byteV (b : UInt8) : Value := .int .u8 (b.toNat : Int)
def bytesV (l : List UInt8) : List Value := l.map byteV
theorem bytesV_append (a b : List UInt8) : bytesV (a ++ b) = bytesV a ++ bytesV b := by simp [bytesV]
theorem bytesV_len (a : List UInt8) : (bytesV a).length = a.length := by simp [bytesV]
/-- A slice of bytes that the call owns, and nothing below 'base' has changed. -/
def Owned (base : Nat) (l : List UInt8) (w0 : World) (e : Ending) (w' : World) : Prop :=
  ∃ v, e = .returned v ∧ w'.ownsRow base 5 1 v l.length (bytesV l) ∧ Below base w0 w'
theorem info_u8 : (Tryd.prog.info? 5).map (fun i => (i.zero, i.size, i.bytes)) = some (some (.int .u8 0), 1, 1) := by kernel_rfl
theorem below_of_append {w w' : World} {base : Nat} {v : Value} {n : Nat} {xs : List Value} (hown : w.ownsRow base 5 1 v n xs) (hg : w.grownBy w' v.ownBlock) (hb : base ≤ w.heap.size) : Below base w w' :=
  (Below.refl _ _).grown hg hb (fun k hk => by
    rcases hown.2 with ⟨rfl, _⟩ | ⟨g, cap, cur, rfl, hg', _⟩
    · simp [Value.ownBlock] at hk
    · simp [Value.ownBlock] at hk; omega)
/-- append of the bytes of a new row onto a slice of bytes that the call owns. -/
theorem app_new {ops : Array Oper} {rest : List Oper} {o : Oper} {a : Act} {Q : Exit → Act → World → Prop} {w : World} {C : Array Value} (hgd : o.guard = none) (s x : Operand)
    (ho : o.op = .call { callee := .builtin .append, args := #[s, x], argTypes := #[53, 53] })
    (base : Nat) (l m : List UInt8) (v : Value) (hs : a.eval s = v) (hown : w.ownsRow base 5 1 v l.length (bytesV l))
    (k : Nat) (hx : a.eval x = .slice (some ⟨w.heap.size, 0, none⟩) k k) (hk : m.length = k) (hC : C.toList = bytesV m)
    (hsz : l.length + k ≤ 1000000000) (hbase : base ≤ w.heap.size)
    (h : ∀ v' w', w'.ownsRow base 5 1 v' (l ++ m).length (bytesV (l ++ m)) → Below base w w' → wpList Tryd.prog ops Q rest (a.put o.dst v') w') :
    wpList Tryd.prog ops Q (o :: rest) a (w.alloc (.cells C 5)) := by
  obtain ⟨i0, hi0, hz0, hz1, hz2⟩ := info_parts info_u8
  subst hk
  have hsize : (w.alloc (.cells C 5)).heap.size = w.heap.size + 1 := by simp
  refine wpList_append_own _ hgd s x _ ho base 5 i0 _ 1 1 Tryd.underlying53 hi0 hz0 hz1 hz2 rfl (by omega) v l.length (bytesV l) hs (hown.alloc _) ⟨w.heap.size, 0, none⟩ m.length m.length (bytesV m) hx
    (by rw [bytesV_len]; omega) (fun j u hu => ?_) ?_ (by unfold maxLen; omega) (by omega) (by omega) ?_
  · have he : (Addr.mk w.heap.size 0 none).add j = ⟨w.heap.size, j, none⟩ := by
      unfold Addr.add; split
      · rename_i h0; rw [h0]
      · simp
    rw [he, World.cell?_alloc_mark, ← hu, ← hC]; simp
  · intro u hu
    simp only [bytesV, List.mem_map] at hu
    obtain ⟨b, _, rfl⟩ := hu
    rfl
  · intro v' w' h1 h2 _
    exact h v' w' (by rw [bytesV_append, List.length_append]; exact h1) (((Below.refl base w).alloc hbase _).trans (below_of_append (hown.alloc _) h2 (by omega)))

theorem quoteB_esc (b : UInt8) (h : b = 34 ∨ b = 92) : quoteB b = [92, b] := by unfold quoteB; rw [if_pos h]
theorem quoteB_lf : quoteB 10 = [92, 110] := by decide
theorem quoteB_tab : quoteB 9 = [92, 116] := by decide
theorem quoteB_oct (b : UInt8) (h1 : ¬ (b = 34 ∨ b = 92)) (h2 : b ≠ 10) (h3 : b ≠ 9) (h4 : b.toNat < 32 ∨ 126 < b.toNat) :
    quoteB b = [92, UInt8.ofNat (48 + b.toNat / 64), UInt8.ofNat (48 + b.toNat / 8 % 8), UInt8.ofNat (48 + b.toNat % 8)] := by unfold quoteB; rw [if_neg h1, if_neg h2, if_neg h3, if_pos h4]
theorem quoteB_one (b : UInt8) (h1 : ¬ (b = 34 ∨ b = 92)) (h2 : b ≠ 10) (h3 : b ≠ 9) (h4 : ¬ (b.toNat < 32 ∨ 126 < b.toNat)) : quoteB b = [b] := by unfold quoteB; rw [if_neg h1, if_neg h2, if_neg h3, if_neg h4]
theorem quoteB_len (b : UInt8) : (quoteB b).length ≤ 4 := by
  unfold quoteB; repeat' split
  all_goals simp
theorem bneU (b : UInt8) (n : Nat) (h : b.toNat ≠ n) : ((b.toNat : Int) == (n : Int)) = false := by simp only [beq_eq_false_iff_ne, ne_eq]; omega
theorem u8_ne (b : UInt8) (n : Nat) (hn : n < 256) (h : b ≠ UInt8.ofNat n) : b.toNat ≠ n := fun e => h (UInt8.toNat_inj.1 (by rw [e]; simp; omega))
theorem oct_cells (b : UInt8) : [Value.int .u8 92, .int .u8 (48 + (b.toNat : Int) / 64), .int .u8 (48 + (b.toNat : Int) / 8 % 8), .int .u8 (48 + (b.toNat : Int) % 8)] =
    bytesV [92, UInt8.ofNat (48 + b.toNat / 64), UInt8.ofNat (48 + b.toNat / 8 % 8), UInt8.ofNat (48 + b.toNat % 8)] := by
  have h := b.toNat_lt
  simp only [bytesV, List.map_cons, List.map_nil, byteV, UInt8.toNat_ofNat']
  rw [Nat.mod_eq_of_lt (show 48 + b.toNat / 64 < 2 ^ 8 by omega), Nat.mod_eq_of_lt (show 48 + b.toNat / 8 % 8 < 2 ^ 8 by omega), Nat.mod_eq_of_lt (show 48 + b.toNat % 8 < 2 ^ 8 by omega)]
  rfl
set_option maxRecDepth 100000 in
set_option maxHeartbeats 1000000 in
theorem appendQuoted_any (v : Value) (l : List UInt8) (b : UInt8) (base : Nat) (w : World) (hown : w.ownsRow base 5 1 v l.length (bytesV l)) (hbase : base ≤ w.heap.size) (hl : l.length ≤ 100000000) :
    Calls Tryd.prog 48 #[v, .int .u8 b.toNat] w (Owned base (l ++ quoteB b) w) := by
  have HO := Lib.hid hown
  clear hown
  by_cases h1 : b = 34 ∨ b = 92
  · have HQ := Lib.hid (quoteB_esc b h1)
    rcases h1 with rfl | rfl
    · go_enter Tryd.func48, Tryd.ntmps48
      go_wp2_with (at_builtin; refine app_new rfl (.tmp 12) (.tmp 14) rfl base l [92, 34] v rfl HO.out 2 rfl rfl rfl (by omega) hbase ?_; intro v1 w1 h1 h2)
      go_ret
      exact ⟨v1, rfl, by rw [HQ.out]; exact h1, h2⟩
    · go_enter Tryd.func48, Tryd.ntmps48
      go_wp2_with (at_builtin; refine app_new rfl (.tmp 12) (.tmp 14) rfl base l [92, 92] v rfl HO.out 2 rfl rfl rfl (by omega) hbase ?_; intro v1 w1 h1 h2)
      go_ret
      exact ⟨v1, rfl, by rw [HQ.out]; exact h1, h2⟩
  by_cases h2 : b = 10
  · subst h2
    go_enter Tryd.func48, Tryd.ntmps48
    go_wp2_with (at_builtin; refine app_new rfl (.tmp 19) (.tmp 20) rfl base l [92, 110] v rfl HO.out 2 rfl rfl rfl (by omega) hbase ?_; intro v1 w1 h1 h2)
    go_ret
    exact ⟨v1, rfl, by rw [quoteB_lf]; exact h1, h2⟩
  by_cases h3 : b = 9
  · subst h3
    go_enter Tryd.func48, Tryd.ntmps48
    go_wp2_with (at_builtin; refine app_new rfl (.tmp 25) (.tmp 26) rfl base l [92, 116] v rfl HO.out 2 rfl rfl rfl (by omega) hbase ?_; intro v1 w1 h1 h2)
    go_ret
    exact ⟨v1, rfl, by rw [quoteB_tab]; exact h1, h2⟩
  have hb0 := u8_lt b
  have e1 : ((b.toNat : Int) == 34) = false := bneU b 34 (u8_ne b 34 (by decide) (fun h => h1 (.inl h)))
  have e2 : ((b.toNat : Int) == 92) = false := bneU b 92 (u8_ne b 92 (by decide) (fun h => h1 (.inr h)))
  have e3 : ((b.toNat : Int) == 10) = false := bneU b 10 (u8_ne b 10 (by decide) h2)
  have e4 : ((b.toNat : Int) == 9) = false := bneU b 9 (u8_ne b 9 (by decide) h3)
  by_cases h4 : b.toNat < 32 ∨ 126 < b.toNat
  · have HQ := Lib.hid (quoteB_oct b h1 h2 h3 h4)
    have HC := Lib.hid (oct_cells b)
    clear h1 h2 h3
    rcases h4 with h4 | h4
    · have h5 : (b.toNat : Int) < 32 := by omega
      clear h4
      go_enter Tryd.func48, Tryd.ntmps48
      go_wp2_with (at_builtin; refine app_new rfl (.tmp 35) (.tmp 46) rfl base l _ v rfl HO.out 4 rfl rfl HC.out (by omega) hbase ?_; intro v1 w1 h1 h2)
      go_ret
      exact ⟨v1, rfl, by rw [HQ.out]; exact h1, h2⟩
    · have h5 : (126 : Int) < (b.toNat : Int) := by omega
      have h6 : ¬ (b.toNat : Int) < 32 := by omega
      clear h4
      go_enter Tryd.func48, Tryd.ntmps48
      go_wp2_with (at_builtin; refine app_new rfl (.tmp 35) (.tmp 46) rfl base l _ v rfl HO.out 4 rfl rfl HC.out (by omega) hbase ?_; intro v1 w1 h1 h2)
      go_ret
      exact ⟨v1, rfl, by rw [HQ.out]; exact h1, h2⟩
  · have HQ := Lib.hid (quoteB_one b h1 h2 h3 h4)
    have h5 : ¬ (b.toNat : Int) < 32 := by omega
    have h6 : ¬ (126 : Int) < (b.toNat : Int) := by omega
    clear h1 h2 h3 h4
    go_enter Tryd.func48, Tryd.ntmps48
    go_wp2_with (at_builtin; refine app_new rfl (.tmp 48) (.tmp 50) rfl base l [b] v rfl HO.out 1 rfl rfl rfl (by omega) hbase ?_; intro v1 w1 h1 h2)
    go_ret
    exact ⟨v1, rfl, by rw [HQ.out]; exact h1, h2⟩

theorem plain_ok (b : UInt8) (h1 : (32 : Int) < (b.toNat : Int)) (h2 : (b.toNat : Int) < 127) (h3 : ((b.toNat : Int) == 34) = false) (h4 : ((b.toNat : Int) == 92) = false) : isPlain b = true := by
  have e3 : b ≠ 34 := fun h => by subst h; exact absurd h3 (by decide)
  have e4 : b ≠ 92 := fun h => by subst h; exact absurd h4 (by decide)
  unfold isPlain; simp [e3, e4]; omega
theorem plain_lo (b : UInt8) (h1 : ¬ (32 : Int) < (b.toNat : Int)) : isPlain b = false := by unfold isPlain; simp; omega
theorem plain_hi (b : UInt8) (h1 : ¬ (b.toNat : Int) < 127) : isPlain b = false := by unfold isPlain; simp; omega
set_option maxRecDepth 100000 in
theorem isPlain_any (b : UInt8) (w : World) : Calls Tryd.prog 63 #[.int .u8 b.toNat] w fun e w' => e = .returned (.bool (isPlain b)) ∧ w = w' := by
  have hb0 := u8_lt b
  by_cases h1 : (32 : Int) < (b.toNat : Int)
  · by_cases h2 : (b.toNat : Int) < 127
    · by_cases h3 : b = 34
      · subst h3
        go_enter Tryd.func63, Tryd.ntmps63
        go_wp2
        go_ret
        exact ⟨rfl, rfl⟩
      by_cases h4 : b = 92
      · subst h4
        go_enter Tryd.func63, Tryd.ntmps63
        go_wp2
        go_ret
        exact ⟨rfl, rfl⟩
      have e3 : ((b.toNat : Int) == 34) = false := bneU b 34 (u8_ne b 34 (by decide) h3)
      have e4 : ((b.toNat : Int) == 92) = false := bneU b 92 (u8_ne b 92 (by decide) h4)
      have HP := Lib.hid (plain_ok b h1 h2 e3 e4)
      have n3 : ((b.toNat : Int) != 34) = true := by rw [bne, e3]; rfl
      have n4 : ((b.toNat : Int) != 92) = true := by rw [bne, e4]; rfl
      clear h3 h4
      go_enter Tryd.func63, Tryd.ntmps63
      go_wp2
      go_ret
      exact ⟨by rw [HP.out]; simp [*], rfl⟩
    · have HP := Lib.hid (plain_hi b h2)
      go_enter Tryd.func63, Tryd.ntmps63
      go_wp2
      go_ret
      exact ⟨by rw [HP.out]; simp [*], rfl⟩
  · have HP := Lib.hid (plain_lo b h1)
    go_enter Tryd.func63, Tryd.ntmps63
    go_wp2
    go_ret
    exact ⟨by rw [HP.out]; simp [*], rfl⟩
set_option maxHeartbeats 400000 in
theorem plainEnd_any (s : ByteArray) (k : Nat) (w : World) (hs : s.size ≤ 4611686018427387904) (hk : k ≤ s.size) :
    Calls Tryd.prog 47 #[.string s, .int .i64 k] w fun e w' => e = .returned (.int .i64 (endOf isPlain (bs s) k)) ∧ w = w' := by
  go_enter Tryd.func47, Tryd.ntmps47
  go_wp2
  go_loop [1] (fun i => ∃ j : Nat, k ≤ j ∧ j ≤ s.size ∧ i = .int .i64 j ∧ Hid (endOf isPlain (bs s) j = endOf isPlain (bs s) k)) (fun i => s.size - (intOf i).toNat)
  case atStart => exact ⟨k, Nat.le_refl _, hk, rfl, Lib.hid rfl⟩
  case round =>
    obtain ⟨j, hj0, hj, rfl, H⟩ := hrel
    by_cases hlt : j < s.size
    · cases hp : isPlain s[j] with
      | true =>
        have HS := Lib.hid (endOf_step isPlain (bs s) j hlt hp)
        go_wp2_with (go_at_call 63; refine (isPlain_any s[j] _).mono ?_; rintro e w' ⟨rfl, rfl⟩)
        go_round
        case rel => exact ⟨j + 1, by omega, by omega, by go_num, Lib.hid (HS.out.symm.trans H.out)⟩
        case measure => simp [intOf]; omega
      | false =>
        have HS := Lib.hid (endOf_no isPlain (bs s) j hlt hp)
        go_wp2_with (go_at_call 63; refine (isPlain_any s[j] _).mono ?_; rintro e w' ⟨rfl, rfl⟩)
        go_ret
        exact ⟨ret_int (by rw [← H.out, HS.out]), rfl⟩
    · have HS := Lib.hid (endOf_end isPlain (bs s) j (by rw [bs_len]; omega))
      have hd : decide ((j : Int) < (s.size : Int)) = false := by simp only [decide_eq_false_iff_not]; omega
      go_wp2_with fail
      go_ret
      exact ⟨ret_int (by rw [← H.out, HS.out]), rfl⟩

/-- What Quote makes of a string. -/
theorem quoteF_plain (l : List UInt8) (h0 : l ≠ []) (h : l.all isPlain = true) : quoteF l = l := by unfold quoteF; rw [if_pos ⟨h0, h⟩]
theorem quoteF_quoted (l : List UInt8) (h : ¬ (l ≠ [] ∧ l.all isPlain = true)) : quoteF l = 34 :: l.flatMap quoteB ++ [34] := by unfold quoteF; rw [if_neg h]
theorem all_of_endOf (p : UInt8 → Bool) (l : List UInt8) : endOf p l 0 = l.length ↔ l.all p = true := by
  unfold endOf
  rw [List.drop_zero, Nat.zero_add]
  induction l with
  | nil => simp
  | cons a r ih =>
    rw [List.takeWhile_cons]
    cases h : p a with
    | true => simp [h, ih]
    | false => simp [h]
theorem take_flat (s : ByteArray) (j : Nat) (h : j < s.size) : ((bs s).take (j + 1)).flatMap quoteB = ((bs s).take j).flatMap quoteB ++ quoteB s[j] := by
  rw [List.take_succ_eq_append_getElem (by simpa using h)]; simp; rfl
theorem flat_len (l : List UInt8) : (l.flatMap quoteB).length ≤ 4 * l.length := by
  induction l with
  | nil => simp
  | cons a r ih => have := quoteB_len a; simp only [List.flatMap_cons, List.length_append, List.length_cons]; omega
/-- The word as far as byte j. -/
def wd (s : ByteArray) (j : Nat) : List UInt8 := 34 :: ((bs s).take j).flatMap quoteB
theorem wd_len (s : ByteArray) (j : Nat) (hj : j ≤ s.size) : (wd s j).length ≤ 4 * s.size + 1 := by
  have h := flat_len ((bs s).take j)
  have h2 := List.length_take_le j (bs s)
  unfold wd; simp only [List.length_cons]; omega
theorem wd_step (s : ByteArray) (j : Nat) (h : j < s.size) : wd s (j + 1) = wd s j ++ quoteB s[j] := by unfold wd; rw [take_flat s j h]; rfl
theorem wd_end (s : ByteArray) (j : Nat) (h : s.size ≤ j) (hq : quoteF (bs s) = 34 :: (bs s).flatMap quoteB ++ [34]) : quoteF (bs s) = wd s j ++ [34] := by
  unfold wd; rw [hq, List.take_of_length_le (by rw [bs_len]; exact h)]
theorem own_new (w : World) (C : Array Value) (m : List UInt8) (k : Nat) (hC : C.toList = bytesV m) (hk : m.length = k) (h0 : k ≤ maxLen) :
    (w.alloc (.cells C 5)).ownsRow w.heap.size 5 1 (.slice (some ⟨w.heap.size, 0, none⟩) k k) m.length (bytesV m) := by
  subst hk
  have hs : C.size = m.length := by rw [← Array.length_toList, hC, bytesV_len]
  refine ⟨by rw [bytesV_len]; omega, .inr ⟨w.heap.size, m.length, C, rfl, Nat.le_refl _, ?_, Nat.le_refl _, h0, by omega, ?_⟩⟩
  · show (w.heap.push _)[w.heap.size]? = _
    simp
  · rw [hC, List.take_of_length_le (by rw [bytesV_len]; omega)]
/-- string(b) of a slice of bytes that the call owns. -/
theorem own_conv {w : World} {base : Nat} {v : Value} {L : List UInt8} (h : w.ownsRow base 5 1 v L.length (bytesV L)) :
    (convert 53 9 v).run Tryd.prog w = .ok (.string ⟨L.toArray⟩) w := by
  rcases h.2 with ⟨rfl, h0⟩ | ⟨g, cap, cur, rfl, _, hh, _, _, hsz, ht⟩
  · have : L = [] := List.eq_nil_of_length_eq_zero h0
    subst this
    rw [run_convert_bytes_string w _ _ 5 none 0 0 Tryd.underlying53 Tryd.underlying5 Tryd.underlying9]
    rfl
  · refine run_convert_bytes_back w _ _ 5 ⟨g, 0, none⟩ cap L Tryd.underlying53 Tryd.underlying5 Tryd.underlying9 ?_
    intro j hj
    have he : (Addr.mk g 0 none).add j = ⟨g, j, none⟩ := by
      unfold Addr.add; split
      · rename_i h0; rw [h0]
      · simp
    have hc := h.cellAt j (by omega)
    rw [he, hc]
    simp [bytesV, List.getElem?_eq_getElem hj]
set_option maxRecDepth 100000 in
set_option maxHeartbeats 2000000 in
theorem Quote_any (s : ByteArray) (w : World) (hs : s.size ≤ 1048576) :
    Calls Tryd.prog 34 #[.string s] w fun e w' => e = .returned (.string ⟨(quoteF (bs s)).toArray⟩) ∧ Below w.heap.size w w' := by
  have HE := Lib.hid (fun w => plainEnd_any s 0 w (by omega) (Nat.zero_le _))
  by_cases hpl : bs s ≠ [] ∧ (bs s).all isPlain = true
  · obtain ⟨h0, h1⟩ := hpl
    have HQ := Lib.hid (quoteF_plain (bs s) h0 h1)
    have H1 : Hid (endOf isPlain (bs s) 0 = s.size) := Lib.hid ((all_of_endOf isPlain (bs s)).2 h1)
    have e0 : ¬ s.toList = [] := by rw [ByteArray.toList_eq]; exact h0
    have e1 : (!s.toList.isEmpty) = true := by simpa using e0
    clear h0 h1
    go_enter Tryd.func34, Tryd.ntmps34
    go_wp2_with (go_at_call 47; refine (HE.out _).mono ?_; rintro e w' ⟨rfl, rfl⟩; rw [H1.out])
    go_ret
    exact ⟨by rw [HQ.out]; rfl, Below.refl _ _⟩
  · have HQ := Lib.hid (quoteF_quoted (bs s) hpl)
    by_cases h0 : bs s = []
    · have e0 : s.toList = [] := by rw [ByteArray.toList_eq]; exact h0
      have e1 : (!s.toList.isEmpty) = false := by rw [e0]; rfl
      clear hpl h0
      go_enter Tryd.func34, Tryd.ntmps34
      go_wp2_with fail
      go_loopw [3, 4] (fun v i wr => ∃ j : Nat, j ≤ s.size ∧ i = .int .i64 j ∧ Hid (wr.ownsRow w.heap.size 5 1 v (wd s j).length (bytesV (wd s j))) ∧ Below w.heap.size w wr) (fun _ i _ => s.size - (intOf i).toNat)
      case atStart => exact ⟨0, Nat.zero_le _, rfl, Lib.hid (own_new w #[.int .u8 34] [34] 1 rfl rfl (by decide)), (Below.refl _ _).alloc (Nat.le_refl _) _⟩
      case round =>
        obtain ⟨j, hj, rfl, HO, hnx⟩ := hrel
        have hwl := wd_len s j hj
        by_cases hlt : j < s.size
        · have HT := Lib.hid (wd_step s j hlt)
          go_wp2_with (go_at_call 48; refine (appendQuoted_any _ (wd s j) s[j] w.heap.size _ HO.out hnx.size (by omega)).mono ?_; rintro e w1 ⟨v1, rfl, ho, hb⟩; have HO1 := Lib.hid ho; clear ho)
          go_roundw
          case rel => exact ⟨j + 1, by omega, by go_num, Lib.hid (by rw [HT.out]; exact HO1.out), hnx.trans hb⟩
          case measure => simp [intOf]; omega
        · have HT := Lib.hid (wd_end s j (by omega) HQ.out)
          have hd : decide ((j : Int) < (s.size : Int)) = false := by simp only [decide_eq_false_iff_not]; omega
          go_wp2_with (at_builtin; refine app_new rfl (.tmp 27) (.tmp 28) rfl w.heap.size (wd s j) [34] _ rfl HO.out 1 rfl rfl rfl (by omega) hnx.size ?_; intro v1 w1 h1 h2; rw [← HT.out] at h1; have hcv := own_conv h1; have HO1 := Lib.hid h1; clear h1)
          go_ret
          exact ⟨rfl, hnx.trans h2⟩
    · have e0 : ¬ s.toList = [] := by rw [ByteArray.toList_eq]; exact h0
      have e1 : (!s.toList.isEmpty) = true := by simpa using e0
      have hne : endOf isPlain (bs s) 0 ≠ s.size := fun h => hpl ⟨h0, (all_of_endOf isPlain (bs s)).1 h⟩
      generalize hE : endOf isPlain (bs s) 0 = E at hne HE
      have e2 : ((E : Int) == (s.size : Int)) = false := by simp only [beq_eq_false_iff_ne, ne_eq]; omega
      clear hpl h0 hne hE
      go_enter Tryd.func34, Tryd.ntmps34
      go_wp2_with (go_at_call 47; refine (HE.out _).mono ?_; rintro e w' ⟨rfl, rfl⟩)
      go_loopw [3, 4] (fun v i wr => ∃ j : Nat, j ≤ s.size ∧ i = .int .i64 j ∧ Hid (wr.ownsRow w.heap.size 5 1 v (wd s j).length (bytesV (wd s j))) ∧ Below w.heap.size w wr) (fun _ i _ => s.size - (intOf i).toNat)
      case atStart => exact ⟨0, Nat.zero_le _, rfl, Lib.hid (own_new w #[.int .u8 34] [34] 1 rfl rfl (by decide)), (Below.refl _ _).alloc (Nat.le_refl _) _⟩
      case round =>
        obtain ⟨j, hj, rfl, HO, hnx⟩ := hrel
        have hwl := wd_len s j hj
        by_cases hlt : j < s.size
        · have HT := Lib.hid (wd_step s j hlt)
          go_wp2_with (go_at_call 48; refine (appendQuoted_any _ (wd s j) s[j] w.heap.size _ HO.out hnx.size (by omega)).mono ?_; rintro e w1 ⟨v1, rfl, ho, hb⟩; have HO1 := Lib.hid ho; clear ho)
          go_roundw
          case rel => exact ⟨j + 1, by omega, by go_num, Lib.hid (by rw [HT.out]; exact HO1.out), hnx.trans hb⟩
          case measure => simp [intOf]; omega
        · have HT := Lib.hid (wd_end s j (by omega) HQ.out)
          have hd : decide ((j : Int) < (s.size : Int)) = false := by simp only [decide_eq_false_iff_not]; omega
          go_wp2_with (at_builtin; refine app_new rfl (.tmp 27) (.tmp 28) rfl w.heap.size (wd s j) [34] _ rfl HO.out 1 rfl rfl rfl (by omega) hnx.size ?_; intro v1 w1 h1 h2; rw [← HT.out] at h1; have hcv := own_conv h1; have HO1 := Lib.hid h1; clear h1)
          go_ret
          exact ⟨rfl, hnx.trans h2⟩
end Sc
end
section
open Go.RowKit
namespace Tx
theorem bne_of (b : UInt8) (n : Nat) (h : b ≠ UInt8.ofNat n) (hn : n < 256) : ((b.toNat : Int) == (n : Int)) = false := by
  simp only [beq_eq_false_iff_ne, ne_eq]
  intro e
  exact h (UInt8.toNat_inj.1 (by have : b.toNat = n := by omega
                                 rw [this]; simp; omega))
theorem nonempty_of (s : ByteArray) (h : 0 < s.size) : ¬ s.toList = [] := by
  rw [ByteArray.toList_eq]
  intro e
  have h2 : s.data.toList.length = s.size := rfl
  rw [e] at h2
  simp at h2; omega
theorem empty_of (s : ByteArray) (h : s.size = 0) : s.toList = [] := by
  rw [ByteArray.toList_eq]; exact List.eq_nil_of_length_eq_zero h
/-- A line without its line feed. -/
def bareB (s : ByteArray) : ByteArray := if endedF (bs s) then s.extract 0 (s.size - 1) else s
theorem bareB_bs (s : ByteArray) : bs (bareB s) = bareF (bs s) := by
  unfold bareB bareF
  split
  · rw [bs_extract, List.dropLast_eq_take, bs_len]; rfl
  · rfl
/-- A new list of strings. -/
def StrsPost (w : World) (l : List (List UInt8)) (e : Ending) (w' : World) : Prop := ∃ v, e = .returned v ∧ w'.ownsRow w.heap.size 9 1 v l.length (strsV l) ∧ Below w.heap.size w w'
end Tx
end
section
namespace Sc
end Sc
namespace Sh
open Sc
/-- The greatest number of partners. -/
def lcs : List Int → List Int → Nat
  | [], _ => 0
  | _ :: _, [] => 0
  | x :: a, y :: b => if x = y then lcs a b + 1 else max (lcs a (y :: b)) (lcs (x :: a) b)
termination_by a b => a.length + b.length
/-- The partners of the walk. -/
def wkF : Int → Int → List Int → List Int → List Sp
  | _, _, [], _ => []
  | _, _, _ :: _, [] => []
  | i, j, x :: a, y :: b => if x = y then ⟨i, j⟩ :: wkF (i + 1) (j + 1) a b else if lcs a (y :: b) = lcs (x :: a) (y :: b) then wkF (i + 1) j a (y :: b) else wkF i (j + 1) (x :: a) b
termination_by _ _ a b => a.length + b.length
/-! ### the columns of bits -/
end Sh
end
section
open Go.RowKit
namespace Tx
set_option maxHeartbeats 1000000 in
theorem Line_any (k : Int) (w : World) (h0 : -9223372036854775808 ≤ k) (h1 : k ≤ 9223372036854775807) :
    Calls Tryd.prog 4 #[.int .i64 k] w (SomeStr 3 w) := by
  have H := Lib.hid (fun w => Mod_any k 10 w (by omega) (by omega) h0 h1)
  have hlo := modF_lo k 10 (by omega)
  have hhi := modF_hi k 10 (by omega)
  generalize modF k 10 = m at H hlo hhi
  clear h0 h1
  have hm : m = 0 ∨ m = 1 ∨ m = 2 ∨ m = 3 ∨ m = 4 ∨ m = 5 ∨ m = 6 ∨ m = 7 ∨ m = 8 ∨ m = 9 := by omega
  clear hlo hhi
  rcases hm with rfl | rfl | rfl | rfl | rfl | rfl | rfl | rfl | rfl | rfl
  all_goals
    go_enter Tryd.func4, Tryd.ntmps4
    go_wp2_with (go_at_call 8; refine (H.out _).mono ?_; rintro e w1 ⟨rfl, rfl⟩)
    go_ret
    exact ⟨_, by decide, rfl, (Below.refl _ _).alloc (Nat.le_refl _) _⟩
end Tx
end
end Go.Proofs.YtlnghfmedkfkmaaDoor

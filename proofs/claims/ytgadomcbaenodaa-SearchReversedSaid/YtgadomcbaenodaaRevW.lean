/-
  The walk of SearchReversed. Conditions: what a row asks of its arguments.
-/
import Derived.Test.YtgadomcbaenodaaRevA
import Derived.Test.YtgadomcbaenodaaSeaU
import Derived.Test.YtgadomcbaenodaaSeaWord
import Derived.Test.YtgadomcbaenodaaRegexGen
import Derived.Deep.RegionWith
import Derived.Deep.Cut
namespace Go.Proofs.Ytgadomcbaenodaa
open Go.RowKit
namespace Rv
open Cm Rx Au Th Tx Se
def AwPost (w : World) (e : Ending) (w' : World) : Prop := e = .returned (.bool true) ∧ Below w.heap.size w w'
/-- The two lists so far. -/
structure LI (w0 wr : World) (vl vm : Value) (i : Nat) (gs : Gs) (bm : Nat) : Prop where
  len : gs.length = i
  ol : wr.ownsRow w0.heap.size tNode 8 vl i (fl gs)
  om : wr.ownsRow bm tNode 8 vm i (fl gs.reverse)
  hbm : w0.heap.size ≤ bm
  hsz : bm ≤ wr.heap.size
  lt : ∀ k, vl.ownBlock = some k → k < bm
  nil : i = 0 → vm = .slice none 0 0
  b : Below w0.heap.size w0 wr
theorem below_own {w w' : World} {base n k : Nat} {e : TypeId} {v : Value} {xs : List Value} (h : w.ownsRow base e k v n xs) (hb : Below w.heap.size w w') : w'.ownsRow base e k v n xs :=
  h.kept (row := none) ⟨hb.os, hb.tape, hb.output, hb.size, fun k hk _ => hb.block k hk⟩ (by cases v.ownBlock <;> simp)
theorem ownK_of {w : World} {base base' n k : Nat} {e : TypeId} {v : Value} {xs : List Value} (h : w.ownsRow base e k v n xs) (hb : base' ≤ base) : w.ownsRow base' e k v n xs := by
  refine ⟨h.1, ?_⟩
  rcases h.2 with hn | ⟨g, cap, cur, hv, hbg, rest⟩
  · exact .inl hn
  · exact .inr ⟨g, cap, cur, hv, Nat.le_trans hb hbg, rest⟩
theorem LI.below {w0 wr wy : World} {vl vm : Value} {i bm : Nat} {gs : Gs} (h : LI w0 wr vl vm i gs bm) (hb : Below wr.heap.size wr wy) : LI w0 wy vl vm i gs bm :=
  ⟨h.len, below_own h.ol hb, below_own h.om hb, h.hbm, Nat.le_trans h.hsz hb.size, h.lt, h.nil, h.b.trans (hb.mono h.b.size)⟩
/-- The second list and the set's block behind the first append. -/
theorem LI.mid {w0 wy w1 : World} {vl vm : Value} {i bm : Nat} {gs : Gs} {C : Array Value} (h : LI w0 wy vl vm i gs bm) (hg : (wy.alloc (.cells C tNode)).grownBy w1 vl.ownBlock) : w1.ownsRow bm tNode 8 vm i (fl gs.reverse) := by
  refine (h.om.alloc _).kept hg ?_
  rcases h.om.2 with ⟨rfl, _⟩ | ⟨g, cap, cur, rfl, hbg, _⟩
  · exact .inl rfl
  · right
    intro e
    have := h.lt g e.symm
    omega
theorem blk_mid {wy w1 : World} {base n X : Nat} {v : Value} {xs : List Value} {C D : Array Value} {t : TypeId} (h : wy.ownsRow base tNode 8 v n xs) (hX : wy.heap[X]? = some (.cells D t (0, 0))) (ht : t ≠ tNode) (hg : (wy.alloc (.cells C tNode)).grownBy w1 v.ownBlock) : w1.heap[X]? = some (.cells D t (0, 0)) := by
  have hlt : X < wy.heap.size := lt_of_block hX
  have hX2 : (wy.alloc (.cells C tNode)).heap[X]? = some (.cells D t (0, 0)) := (Below.heap_alloc wy _ X hlt).trans hX
  refine (hg.block X (by simp; omega) ?_).trans hX2
  intro e
  rcases h.2 with ⟨rfl, _⟩ | ⟨g, cap, cur, rfl, _, hh, _⟩
  · cases e
  · have : X = g := by simpa [Value.ownBlock] using e
    subst this
    rw [hX] at hh
    injection hh with hh
    injection hh with _ ht2
    exact ht ht2
theorem LI.next {w0 wy w1 w2 : World} {vl vm v1 v2 : Value} {i bm : Nat} {gs : Gs} {g : Nat → Bool} (h : LI w0 wy vl vm i gs bm) (hb1 : Below w0.heap.size wy w1) (ho1 : w1.ownsRow w0.heap.size tNode 8 v1 (i + 1) (fl gs ++ enc8 g))
    (ho2 : w2.ownsRow w1.heap.size tNode 8 v2 (i + 1) (enc8 g ++ fl gs.reverse)) (hb2 : Below w1.heap.size w1 w2) : LI w0 w2 v1 v2 (i + 1) (gs ++ [g]) w1.heap.size := by
  refine ⟨by rw [List.length_append, h.len]; rfl, ?_, ?_, (h.b.trans hb1).size, hb2.size, fun k hk => (ho1.lt k hk).2, fun e => by omega, (h.b.trans hb1).trans (hb2.mono (h.b.trans hb1).size)⟩
  · rw [fl_snoc]; exact below_own ho1 hb2
  · rw [List.reverse_append, List.reverse_singleton, List.singleton_append, fl_cons]; exact ho2
theorem cells4 {w : World} {X : Nat} {t : TypeId} {a b c d : Value} (h : w.heap[X]? = some (.cells #[a, b, c, d] t (0, 0))) : w.cell? ⟨X, 0, none⟩ = some a ∧ w.cell? ⟨X, 1, none⟩ = some b ∧ w.cell? ⟨X, 2, none⟩ = some c ∧ w.cell? ⟨X, 3, none⟩ = some d := by
  refine ⟨?_, ?_, ?_, ?_⟩ <;> simp [World.cell?, h]
def ksN (gs : Gs) (kv : Value) : List Value := List.replicate gs.length (.slice none 0 0) ++ [kv]
theorem ownN_row {w : World} {base : Nat} {v kv : Value} {gs : Gs} (h : w.ownsRow base tNode 8 v (gs.length + 1) (fl gs ++ ndC (catN gs.length) kv)) (hk : w.ownsRow base tInt 1 kv gs.length (intsV (upTo gs.length))) : OwnN w base v (rowN gs) (ksN gs kv) := by
  have hkl : (ksN gs kv).length = (rowN gs).length := by rw [rowN_len]; simp [ksN]
  refine ⟨hkl, ?_, fun j h1 h2 => ?_⟩
  · unfold rowN ksN
    rw [flatC_snoc _ _ _ _ (by simp), ← fl_flat, List.length_append, List.length_map, List.length_singleton]
    exact h
  · by_cases hj : j < gs.length
    · rw [rowN_set gs hj h2]
      have e0 : ksN gs kv = List.replicate gs.length (.slice none 0 0) ++ [kv] := rfl
      have e : (ksN gs kv)[j] = .slice none 0 0 := by
        rw [List.getElem_of_eq e0 h1]
        simp [hj]
      rw [e]
      exact World.ownsRow_nil _ _ _ _
    · rw [rowN_len] at h2
      obtain rfl : j = gs.length := by omega
      rw [rowN_cat]
      have e0 : ksN gs kv = List.replicate gs.length (.slice none 0 0) ++ [kv] := rfl
      have e : (ksN gs kv)[gs.length] = kv := by
        rw [List.getElem_of_eq e0 h1]
        simp
      rw [e]
      show w.ownsRow base tInt 1 kv (upTo gs.length).length (intsV (upTo gs.length))
      rw [upTo_len]
      exact hk
theorem keep_row {wy w1 : World} {base n k : Nat} {e : TypeId} {v : Value} {xs : List Value} {C : Array Value} {row : Option Nat} (h : wy.ownsRow base e k v n xs) (hg : (wy.alloc (.cells C tNode)).grownBy w1 row) (hne : v.ownBlock = none ∨ v.ownBlock ≠ row) : w1.ownsRow base e k v n xs := (h.alloc _).kept hg hne
theorem apart_own {w : World} {base base' n n' k k' : Nat} {e e' : TypeId} {v v' : Value} {xs xs' : List Value} (h : w.ownsRow base e k v n xs) (h' : w.ownsRow base' e' k' v' n' xs') (hne : e ≠ e') : v.ownBlock = none ∨ v.ownBlock ≠ v'.ownBlock := by
  rcases h.2 with ⟨rfl, _⟩ | ⟨g, cap, cur, rfl, _, hh, _⟩
  · exact .inl rfl
  · right
    rcases h'.2 with ⟨rfl, _⟩ | ⟨g', cap', cur', rfl, _, hh', _⟩
    · simp [Value.ownBlock]
    · intro hg
      have : g = g' := by simpa [Value.ownBlock] using hg
      subst this
      rw [hh] at hh'
      injection hh' with hh'
      injection hh' with _ ht
      exact hne ht
theorem own_form {w : World} {base n k : Nat} {e : TypeId} {v : Value} {xs : List Value} (h : w.ownsRow base e k v n xs) : ∃ (p : Option Addr) (m c : Nat), v = .slice p m c := by
  rcases h.2 with ⟨rfl, _⟩ | ⟨g, cap, cur, rfl, _⟩
  · exact ⟨_, _, _, rfl⟩
  · exact ⟨_, _, _, rfl⟩
theorem kv_one {w : World} {base n k : Nat} {e : TypeId} {v : Value} {xs : List Value} (h : w.ownsRow base e k v n xs) : v.oneCell' = true := by
  rcases h.2 with ⟨rfl, _⟩ | ⟨g, cap, cur, rfl, _⟩ <;> rfl
/-- The first list has its last node; the second one lies apart. -/
structure L1 (w0 w1 : World) (v1 vm kv : Value) (gs : Gs) (bm : Nat) : Prop where
  ol : w1.ownsRow w0.heap.size tNode 8 v1 (gs.length + 1) (fl gs ++ ndC (catN gs.length) kv)
  ok : w1.ownsRow w0.heap.size tInt 1 kv gs.length (intsV (upTo gs.length))
  om : w1.ownsRow bm tNode 8 vm gs.length (fl gs.reverse)
  ap : v1.ownBlock = none ∨ v1.ownBlock ≠ vm.ownBlock
  hbm : w0.heap.size ≤ bm
  hsz : bm ≤ w1.heap.size
  b : Below w0.heap.size w0 w1
theorem L1.of {w0 wr wc w1 : World} {vl vm v1 kv : Value} {i bm : Nat} {gs : Gs} {C : Array Value} (h : LI w0 wr vl vm i gs bm) (hb : Below wr.heap.size wr wc) (hk : wc.ownsRow wr.heap.size tInt 1 kv i (intsV (upTo i)))
    (ho : w1.ownsRow w0.heap.size tNode 8 v1 (i + 1) (fl gs ++ ndC (catN i) kv)) (hb1 : Below w0.heap.size wc w1) (hg : (wc.alloc (.cells C tNode)).grownBy w1 vl.ownBlock) (hw : ∀ k, v1.ownBlock = some k → vl.ownBlock = some k ∨ k = wc.heap.size + 1) : L1 w0 w1 v1 vm kv gs bm := by
  have hc := h.below hb
  obtain rfl := h.len
  refine ⟨ho, ownK_of (keep_row hk hg (apart_own hk hc.ol (by decide))) h.b.size, hc.mid hg, ?_, h.hbm, Nat.le_trans hc.hsz hb1.size, hc.b.trans hb1⟩
  rcases hc.om.2 with ⟨rfl, _⟩ | ⟨g, cap, cur, rfl, hbg, hh, _⟩
  · cases hv : v1.ownBlock with
    | none => exact .inl rfl
    | some k => right; intro e; cases e
  · right
    intro e
    have hlt : g < wc.heap.size := lt_of_block hh
    rcases hw g (by rw [e]; rfl) with h1 | h1
    · have := h.lt g h1; omega
    · omega
theorem L1.below {w0 w1 w2 : World} {v1 vm kv : Value} {gs : Gs} {bm : Nat} (h : L1 w0 w1 v1 vm kv gs bm) (hb : Below w1.heap.size w1 w2) : L1 w0 w2 v1 vm kv gs bm :=
  ⟨below_own h.ol hb, below_own h.ok hb, below_own h.om hb, h.ap, h.hbm, Nat.le_trans h.hsz hb.size, h.b.trans (hb.mono h.b.size)⟩
/-- Both lists read. -/
theorem L1.both {w0 w1 wc w2 : World} {v1 vm v2 kv kv2 : Value} {gs : Gs} {bm : Nat} {C : Array Value} (h : L1 w0 w1 v1 vm kv gs bm) (hb : Below w1.heap.size w1 wc) (hk : wc.ownsRow w1.heap.size tInt 1 kv2 gs.length (intsV (upTo gs.length)))
    (ho : w2.ownsRow bm tNode 8 v2 (gs.length + 1) (fl gs.reverse ++ ndC (catN gs.length) kv2)) (hb2 : Below bm wc w2) (hg : (wc.alloc (.cells C tNode)).grownBy w2 vm.ownBlock) : RdN w2 v1 (rowN gs) ∧ RdN w2 v2 (rowN gs.reverse) ∧ Below w0.heap.size w0 w2 := by
  have hc := h.below hb
  refine ⟨RdN.of_own (ownN_row (keep_row hc.ol hg h.ap) (keep_row hc.ok hg (apart_own hc.ok hc.om (by decide)))), RdN.of_own (base := w0.heap.size) (ownN_row (gs := gs.reverse) (kv := kv2) ?_ ?_), hc.b.trans (hb2.mono h.hbm)⟩
  · rw [List.length_reverse]; exact ownK_of ho h.hbm
  · rw [List.length_reverse]; exact ownK_of (keep_row hk hg (apart_own hk hc.om (by decide))) h.b.size
theorem L1.omI {w0 w1 : World} {v1 vm kv : Value} {gs : Gs} {bm i : Nat} (h : L1 w0 w1 v1 vm kv gs bm) (e : gs.length = i) : w1.ownsRow bm tNode 8 vm i (fl gs.reverse) := by subst e; exact h.om
theorem L1.bothI {w0 w1 wc w2 : World} {v1 vm v2 kv kv2 : Value} {gs : Gs} {bm i : Nat} {C : Array Value} (h : L1 w0 w1 v1 vm kv gs bm) (e : gs.length = i) (hb : Below w1.heap.size w1 wc) (hk : wc.ownsRow w1.heap.size tInt 1 kv2 i (intsV (upTo i)))
    (ho : w2.ownsRow bm tNode 8 v2 (i + 1) (fl gs.reverse ++ ndC (catN i) kv2)) (hb2 : Below bm wc w2) (hg : (wc.alloc (.cells C tNode)).grownBy w2 vm.ownBlock) : RdN w2 v1 (rowN gs) ∧ RdN w2 v2 (rowN gs.reverse) ∧ Below w0.heap.size w0 w2 := by
  subst e; exact h.both hb hk ho hb2 hg
theorem rev_step {s t c : ByteArray} (hc : c.size = 1) (h : Tx.bs t = (Tx.bs s).reverse) : Tx.bs (c ++ t) = (Tx.bs (s ++ c)).reverse := by
  rw [Tx.bs_append, Tx.bs_append, List.reverse_append, h]
  have hl : (Tx.bs c).length = 1 := by rw [Tx.bs_len]; exact hc
  obtain ⟨x, hx⟩ := List.length_eq_one_iff.1 hl
  rw [hx]
  rfl
theorem row_kids {gs : Gs} (h : gs.length ≤ 5) : ∀ n ∈ rowN gs, n.kids.length ≤ 1000000 := by
  intro n hn
  unfold rowN at hn
  rcases List.mem_append.1 hn with hn | hn
  · obtain ⟨g, _, rfl⟩ := List.mem_map.1 hn
    exact Nat.zero_le _
  · obtain rfl := List.mem_singleton.1 hn
    show (upTo gs.length).length ≤ _
    rw [upTo_len]
    omega
open Classical in
theorem one_acc {gs : Gs} {s : ByteArray} (h2 : 2 ≤ gs.length) (h5 : gs.length ≤ 5) (hs : s.size = gs.length) : ∃ st : Nat, (resB (rowN gs)).1 = (st : Int) ∧ ValidA (resB (rowN gs)).2 (st : Int) ∧ (wholeF (resB (rowN gs)).2 st (Tx.bs s) = true ↔ Fits (Tx.bs s) gs) := by
  obtain ⟨hva, _, hrun⟩ := build_acc (bs := Tx.bs s) (row_code gs h2 (by omega))
  have hst : 0 ≤ (resB (rowN gs)).1 := by
    have := hva.2.1
    simp only [hasB, decide_eq_true_eq] at this
    omega
  have e : (resB (rowN gs)).1 = ((resB (rowN gs)).1.toNat : Int) := by omega
  refine ⟨(resB (rowN gs)).1.toNat, e, by rw [← e]; exact hva, ?_⟩
  unfold wholeF
  rw [whole_row (by rw [Tx.bs_len]; exact hs) hrun, decide_eq_true_iff]
theorem both_acc {gs : Gs} {s t : ByteArray} (h2 : 2 ≤ gs.length) (h5 : gs.length ≤ 5) (hs : s.size = gs.length) (ht : t.size = gs.length) (hr : Tx.bs t = (Tx.bs s).reverse) :
    ∃ (st1 st2 : Nat) (b : Bool), (resB (rowN gs)).1 = (st1 : Int) ∧ ValidA (resB (rowN gs)).2 (st1 : Int) ∧ (resB (rowN gs.reverse)).1 = (st2 : Int) ∧ ValidA (resB (rowN gs.reverse)).2 (st2 : Int) ∧ wholeF (resB (rowN gs)).2 st1 (Tx.bs s) = b ∧ wholeF (resB (rowN gs.reverse)).2 st2 (Tx.bs t) = b := by
  obtain ⟨st1, a1, b1, c1⟩ := one_acc h2 h5 hs
  obtain ⟨st2, a2, b2, c2⟩ := one_acc (gs := gs.reverse) (s := t) (by rw [List.length_reverse]; exact h2) (by rw [List.length_reverse]; exact h5) (by rw [List.length_reverse]; exact ht)
  refine ⟨st1, st2, wholeF (resB (rowN gs)).2 st1 (Tx.bs s), a1, b1, a2, b2, rfl, ?_⟩
  rw [Bool.eq_iff_iff, c1, c2, hr]
  exact (fits_iff (by rw [Tx.bs_len]; exact hs)).symm
set_option maxRecDepth 100000 in
set_option maxHeartbeats 8000000 in
theorem reversed_walk (v : Value) (us : List Int) (n : Int) (w : World) (h : RdV w v (intsV us)) (hu : us.length ≤ maxLen) (hn : -9223372036854775808 ≤ n ∧ n ≤ 9223372036854775807) :
    Calls Try.prog 4 #[v, .int .i64 n] w (AwPost w) := by
  have HAt := Lib.hid (fun (wq : World) (k : Int) (hb : Below w.heap.size w wq) (h0 : 0 ≤ k) (h1 : k ≤ 1000000) => At_fn v us k wq (h.below hb) hu h0 h1)
  have HAw := Lib.hid (fun w => awake6_any w)
  have HMd := Lib.hid (fun wq => Tx.Mod_any n 6 wq (by decide) (by decide) hn.1 hn.2)
  have m1 := Tx.modF_lo n 6 (by decide)
  have m2 := Tx.modF_hi n 6 (by decide)
  obtain ⟨A, c, rfl⟩ := h.form
  clear h hu hn
  rw [intsV_len] at HAt ⊢
  generalize us.length = nu at *
  generalize Tx.modF n 6 = z at *
  obtain ⟨N, rfl⟩ : ∃ N : Nat, z = (N : Int) := ⟨z.toNat, by omega⟩
  have hN : N ≤ 5 := by omega
  clear m1 m2
  go_enter Try.func4, Try.ntmps4
  go_wp2_with fail
  refine (HMd.out _).mono ?_
  rintro e wm ⟨rfl, rfl⟩
  clear HMd
  go_wp2_with fail
  go_loopw [5, 6, 7] (fun l' m' i' wr => ∃ (i : Nat) (gs : Gs) (bm : Nat), i ≤ N ∧ i' = .int .i64 (i : Int) ∧ Hid (LI w wr l' m' i gs bm)) (fun _ _ i' _ => N - (intOf i').toNat)
  case atStart => exact ⟨0, [], w.heap.size, Nat.zero_le _, by go_num, Lib.hid ⟨rfl, World.ownsRow_nil _ _ _ _, World.ownsRow_nil _ _ _ _, Nat.le_refl _, Nat.le_refl _, fun k hk => (by cases hk), fun _ => rfl, Below.refl _ _⟩⟩
  case round =>
    obtain ⟨i, gs, bm, hi, rfl, HI⟩ := hrel
    by_cases hlt : i < N
    · have i1 : (0 : Int) ≤ (i : Int) := by omega
      have dk : decide (i < N) = true := decide_eq_true hlt
      have z1 := atF_lo us (i : Int)
      have z2 := atF_hi us (i : Int)
      have hX0 : (wr.alloc (.cells #[.int .u64 0, .int .u64 0, .int .u64 0, .int .u64 0] 45)).heap[wr.heap.size]? = some (.cells #[.int .u64 0, .int .u64 0, .int .u64 0, .int .u64 0] 45 (0, 0)) := heap_new wr _
      have HX0 := Lib.hid hX0
      have HBx : Hid (Below wr.heap.size wr (wr.alloc (.cells #[.int .u64 0, .int .u64 0, .int .u64 0, .int .u64 0] 45))) := Lib.hid ((Below.refl _ _).alloc (Nat.le_refl _) _)
      clear hX0
      go_upto_region 7 with fail
      generalize (wr.alloc (.cells #[.int .u64 0, .int .u64 0, .int .u64 0, .int .u64 0] 45)) = wx at *
      have HA1 := Lib.hid (HAt.out wx.drew (i : Int) ((HI.out.b.trans (HBx.out.mono HI.out.b.size)).drew) (by omega) (by omega))
      generalize atF us (i : Int) = a at *
      have r1 := Tx.modF_lo a 2 (by decide)
      have r2 := Tx.modF_hi a 2 (by decide)
      have HMa := Lib.hid (fun wq => Tx.Mod_any a 2 wq (by decide) (by decide) z1 z2)
      have HP1 : Hid (∀ W : World, Calls Try.prog 14 #[.agg #[.int .u64 0, .int .u64 0, .int .u64 0, .int .u64 0], .int .u8 (97 + Tx.modF a 2)] W fun e w' => e = .returned (setV (putM noSet (97 + Tx.modF a 2).toNat)) ∧ Below W.heap.size W w') := Lib.hid (fun W => by
        have h := Put_any noSet (UInt8.ofNat (97 + Tx.modF a 2).toNat) W
        have e1 : (UInt8.ofNat (97 + Tx.modF a 2).toNat).toNat = (97 + Tx.modF a 2).toNat := by
          rw [UInt8.toNat_ofNat']; exact Nat.mod_eq_of_lt (by omega)
        rw [e1, show (((97 + Tx.modF a 2).toNat : Nat) : Int) = 97 + Tx.modF a 2 from by omega] at h
        unfold setV at h
        simp only [show ∀ j, word noSet j = 0 from fun j => word_none j] at h
        exact h)
      have HP2 : Hid (∀ W : World, Calls Try.prog 14 #[setV (putM noSet (97 + Tx.modF a 2).toNat), .int .u8 120] W fun e w' => e = .returned (setV (putM (putM noSet (97 + Tx.modF a 2).toNat) 120)) ∧ Below W.heap.size W w') := Lib.hid (fun W => Put_any _ 120 W)
      generalize putM noSet (97 + Tx.modF a 2).toNat = st1 at HP1 HP2
      generalize putM st1 120 = st2 at HP2
      unfold setV at HP1 HP2
      obtain ⟨p0, hp0⟩ : ∃ p0 : Nat, word st1 0 = p0 := ⟨_, rfl⟩
      obtain ⟨p1, hp1⟩ : ∃ p1 : Nat, word st1 1 = p1 := ⟨_, rfl⟩
      obtain ⟨p2, hp2⟩ : ∃ p2 : Nat, word st1 2 = p2 := ⟨_, rfl⟩
      obtain ⟨p3, hp3⟩ : ∃ p3 : Nat, word st1 3 = p3 := ⟨_, rfl⟩
      rw [hp0, hp1, hp2, hp3] at HP1 HP2
      clear hp0 hp1 hp2 hp3
      obtain ⟨f0, hf0⟩ : ∃ f0 : Nat, word st2 0 = f0 := ⟨_, rfl⟩
      obtain ⟨f1, hf1⟩ : ∃ f1 : Nat, word st2 1 = f1 := ⟨_, rfl⟩
      obtain ⟨f2, hf2⟩ : ∃ f2 : Nat, word st2 2 = f2 := ⟨_, rfl⟩
      obtain ⟨f3, hf3⟩ : ∃ f3 : Nat, word st2 3 = f3 := ⟨_, rfl⟩
      have HF := Lib.hid (And.intro hf0 (And.intro hf1 (And.intro hf2 hf3)))
      rw [hf0, hf1, hf2, hf3] at HP2
      clear hf0 hf1 hf2 hf3
      generalize Tx.modF a 2 = ra at *
      have hw3 : IntKind.u8.wrap ra = ra := by rw [IntKind.wrap_u8]; omega
      have hw4 : IntKind.u8.wrap (97 + ra) = 97 + ra := by rw [IntKind.wrap_u8]; omega
      obtain ⟨g0, g1, g2, g3⟩ := cells4 HX0.out
      have hfz : ∀ j, wx.frozen? ⟨wr.heap.size, j, none⟩ = false := fun j => by simp [World.frozen?, HX0.out]
      go_region_with (first
        | (go_at_call 15; refine HA1.out.mono ?_; rintro e w6 ⟨rfl, rfl⟩)
        | (go_at_call 9; refine (HMa.out _).mono ?_; rintro e w7 ⟨rfl, rfl⟩)
        | (go_at_call 14; (try rw [hw3, hw4]); (with_reducible refine (HP1.out _).mono ?_); rintro e w8 ⟨rfl, B8⟩; have h8 := (B8.block _ (lt_some HX0.out)).trans HX0.out; have HB8 := Lib.hid (HBx.out.drew.trans (B8.mono HBx.out.size)); have HH8 := Lib.hid h8; obtain ⟨e80, e81, e82, e83⟩ := cells4 h8; clear h8 B8)
        | (go_at_call 14; (with_reducible refine (HP2.out _).mono ?_); rintro e w9 ⟨rfl, B9⟩; have h9 := (B9.block _ (lt_some HH8.out)).trans HH8.out; have HB9 := Lib.hid (HB8.out.trans (B9.mono HB8.out.size)); have HH9 := Lib.hid h9; obtain ⟨e90, e91, e92, e93⟩ := cells4 h9; have hf9 : ∀ j, w9.frozen? ⟨wr.heap.size, j, none⟩ = false := (fun j => by simp [World.frozen?, h9]); clear h9 B9))
      all_goals
        go_upto_region 8 with fail
        have hX : ((((w9.setCell ⟨wr.heap.size, 0, none⟩ (.int .u64 (f0 : Int))).setCell ⟨wr.heap.size, 1, none⟩ (.int .u64 (f1 : Int))).setCell ⟨wr.heap.size, 2, none⟩ (.int .u64 (f2 : Int))).setCell ⟨wr.heap.size, 3, none⟩ (.int .u64 (f3 : Int))).heap[wr.heap.size]? = some (.cells #[.int .u64 (f0 : Int), .int .u64 (f1 : Int), .int .u64 (f2 : Int), .int .u64 (f3 : Int)] 45 (0, 0)) := set_block (o := 3) (set_block (o := 2) (set_block (o := 1) (set_block (o := 0) HH9.out)))
        have hB : Below wr.heap.size wr ((((w9.setCell ⟨wr.heap.size, 0, none⟩ (.int .u64 (f0 : Int))).setCell ⟨wr.heap.size, 1, none⟩ (.int .u64 (f1 : Int))).setCell ⟨wr.heap.size, 2, none⟩ (.int .u64 (f2 : Int))).setCell ⟨wr.heap.size, 3, none⟩ (.int .u64 (f3 : Int))) := (((HB9.out.setCell (p := ⟨wr.heap.size, 0, none⟩) (Nat.le_refl _) _).setCell (p := ⟨wr.heap.size, 1, none⟩) (Nat.le_refl _) _).setCell (p := ⟨wr.heap.size, 2, none⟩) (Nat.le_refl _) _).setCell (p := ⟨wr.heap.size, 3, none⟩) (Nat.le_refl _) _
        clear HH9 HB9 HH8 HB8 HX0 HBx e80 e81 e82 e83 e90 e91 e92 e93 g0 g1 g2 g3 hf9 hfz HP1 HP2 HMa HA1
        generalize ((((w9.setCell ⟨wr.heap.size, 0, none⟩ (.int .u64 (f0 : Int))).setCell ⟨wr.heap.size, 1, none⟩ (.int .u64 (f1 : Int))).setCell ⟨wr.heap.size, 2, none⟩ (.int .u64 (f2 : Int))).setCell ⟨wr.heap.size, 3, none⟩ (.int .u64 (f3 : Int))) = wy at *
        have HIy := Lib.hid (HI.out.below hB)
        have HXy := Lib.hid hX
        obtain ⟨q0, q1, q2, q3⟩ := cells4 hX
        have HC : Hid ((#[.int .i64 1, .int .u64 (f0 : Int), .int .u64 (f1 : Int), .int .u64 (f2 : Int), .int .u64 (f3 : Int), .int .i64 0, .int .i64 0, .slice none 0 0] : Array Value).toList = enc8 st2) := Lib.hid (by unfold enc8 ndC oneN; simp only [HF.out.1, HF.out.2.1, HF.out.2.2.1, HF.out.2.2.2])
        clear hX hB HI
        generalize wr.heap.size = X at *
        go_wp2_with (first
          | (at_builtin; refine app_nd rfl (.tmp 37) (.tmp 40) rfl w.heap.size i (fl gs) (enc8 st2) rfl (one_nd _ _ rfl) u5 _ rfl HIy.out.ol rfl rfl HC.out (by omega) HIy.out.b.size ?_; intro v1 w1 ho1 hb1 hg1 hw1; have hX1 := blk_mid HIy.out.ol HXy.out (by decide) hg1; obtain ⟨x0, x1, x2, x3⟩ := cells4 hX1; have HM1 := Lib.hid (HIy.out.mid hg1); have HO1 := Lib.hid ho1; have HB1 := Lib.hid hb1; clear ho1 hb1 hg1 hw1 hX1)
          | (at_builtin; refine app_front rfl (.tmp 44) (.tmp 45) rfl bm i (fl gs.reverse) (enc8 st2) rfl (one_fl _) u6 _ rfl rfl HM1.out rfl HIy.out.nil HC.out (by omega) ?_; intro v2 w2 ho2 hb2; have HN2 := Lib.hid (LI.next HIy.out HB1.out HO1.out ho2 hb2); clear ho2 hb2))
        go_roundw
        case rel => exact ⟨i + 1, gs ++ [st2], w1.heap.size, by omega, by go_num, HN2⟩
        case measure => simp [intOf]; omega
    · obtain rfl : i = N := by omega
      have dk : decide (i < i) = false := decide_eq_false (Nat.lt_irrefl _)
      by_cases h2 : i < 2
      · have d2 : decide ((i : Int) < 2) = true := decide_eq_true (by omega)
        have d3 : decide (i < 2) = true := decide_eq_true h2
        have HBe := Lib.hid HI.out.b
        clear HI
        go_wp2_with fail
        refine (HAw.out _).mono ?_
        rintro e w9 ⟨rfl, hb9⟩
        have HB9 := Lib.hid (HBe.out.trans (hb9.mono HBe.out.size))
        go_wp2_with fail
        go_ret
        exact ⟨rfl, HB9.out⟩
      · have d2 : decide ((i : Int) < 2) = false := decide_eq_false (by omega)
        have d3 : decide (i < 2) = false := decide_eq_false h2
        have HCt := Lib.hid (fun wq => Count_any i wq (by omega))
        have HLe := Lib.hid HI.out.len
        have HC : Hid (∀ kv : Value, (#[.int .i64 4, .int .u64 0, .int .u64 0, .int .u64 0, .int .u64 0, .int .i64 0, .int .i64 0, kv] : Array Value).toList = ndC (catN i) kv) := Lib.hid (fun kv => by unfold ndC catN; simp only [show ∀ j, word (fun _ => false) j = 0 from fun j => word_none j]; rfl)
        go_upto_region 12 with fail
        go_upto_region 13 with (first
          | (go_at_call 16; refine (HCt.out _).mono ?_; rintro e wc ⟨kv, rfl, hk, hbc⟩; have HIc := Lib.hid (HI.out.below hbc); have HBc := Lib.hid hbc; have HK := Lib.hid hk; obtain ⟨kp, km, kc, rfl⟩ := own_form hk; clear hk hbc)
          | (at_builtin; refine app_nd rfl (.tmp 50) (.tmp 54) rfl w.heap.size i (fl gs) (ndC (catN i) (.slice kp km kc)) rfl (one_nd _ _ rfl) u5 _ rfl HIc.out.ol rfl rfl (HC.out (.slice kp km kc)) (by omega) HIc.out.b.size ?_; intro v1 w1 ho1 hb1 hg1 hw1; have HL1 := Lib.hid (L1.of HI.out HBc.out HK.out ho1 hb1 hg1 hw1); clear ho1 hb1 hg1 hw1))
        clear HI HBc HIc HK
        have HOm := Lib.hid (HL1.out.omI HLe.out)
        have HBs := Lib.hid HL1.out.hsz
        have HB1 := Lib.hid HL1.out.b
        go_upto_region 14 with (first
          | (go_at_call 16; refine (HCt.out _).mono ?_; rintro e wd ⟨kv2, rfl, hk, hbd⟩; have HOd := Lib.hid (below_own HOm.out hbd); have HBd := Lib.hid hbd; have HK := Lib.hid hk; obtain ⟨kp2, km2, kc2, rfl⟩ := own_form hk; clear hk hbd)
          | (at_builtin; refine app_nd rfl (.tmp 56) (.tmp 60) rfl bm i (fl gs.reverse) (ndC (catN i) (.slice kp2 km2 kc2)) rfl (one_nd _ _ rfl) u6 _ rfl HOd.out rfl rfl (HC.out (.slice kp2 km2 kc2)) (by omega) (by have := HBs.out; have := HBd.out.size; omega) ?_; intro v2 w2 ho2 hb2 hg2 hw2; have HL2 := Lib.hid (HL1.out.bothI HLe.out HBd.out HK.out ho2 hb2 hg2); clear ho2 hb2 hg2 hw2))
        clear HL1 HOm HBs HB1 HBd HOd HK HC
        obtain ⟨A1, c1, hv1⟩ : ∃ A1 c1, v1 = .slice A1 (i + 1) c1 := by obtain ⟨A1, c1, e, _⟩ := HL2.out.1; rw [rowN_len, HLe.out] at e; exact ⟨A1, c1, e⟩
        obtain ⟨A2, c2, hv2⟩ : ∃ A2 c2, v2 = .slice A2 (i + 1) c2 := by obtain ⟨A1, c1, e, _⟩ := HL2.out.2.1; rw [rowN_len, List.length_reverse, HLe.out] at e; exact ⟨A1, c1, e⟩
        subst hv1 hv2
        have HR1 := Lib.hid HL2.out.1
        have HR2 := Lib.hid HL2.out.2.1
        have HB2 := Lib.hid HL2.out.2.2
        clear HL2 HCt
        go_wp2_with fail
        go_loopw [9, 10, 11] (fun s' t' k' wr2 => ∃ (k : Nat) (s t : ByteArray), k ≤ i ∧ k' = .int .i64 (k : Int) ∧ s' = .string s ∧ t' = .string t ∧ Hid (s.size = k ∧ t.size = k ∧ Tx.bs t = (Tx.bs s).reverse) ∧ Hid (Below w2.heap.size w2 wr2)) (fun _ _ k' _ => i - (intOf k').toNat)
        case atStart => exact ⟨0, ⟨#[]⟩, ⟨#[]⟩, Nat.zero_le _, by go_num, rfl, rfl, Lib.hid ⟨rfl, rfl, rfl⟩, Lib.hid (Below.refl _ _)⟩
        case round =>
          obtain ⟨k, s, t, hk, rfl, rfl, rfl, HS, HQ⟩ := hrel
          by_cases hlt2 : k < i
          · have dk2 : decide (k < i) = true := decide_eq_true hlt2
            have HQ1 := Lib.hid (HQ.out.alloc HQ.out.size (.cells #[.string ⟨#[97]⟩, .string ⟨#[98]⟩, .string ⟨#[120]⟩] 9))
            have HA2 := Lib.hid (HAt.out _ (20 + (k : Int)) (HB2.out.trans (HQ1.out.mono HB2.out.size)) (by omega) (by omega))
            have z1 := atF_lo us (20 + (k : Int))
            have z2 := atF_hi us (20 + (k : Int))
            generalize atF us (20 + (k : Int)) = y at z1 z2 HA2
            have d1 := Tx.modF_lo y 3 (by omega)
            have d2 := Tx.modF_hi y 3 (by omega)
            have HM2 := Lib.hid (fun w => Tx.Mod_any y 3 w (by omega) (by omega) z1 z2)
            generalize Tx.modF y 3 = d at d1 d2 HM2
            obtain ⟨d, rfl⟩ := Int.eq_ofNat_of_zero_le d1
            obtain ⟨c, hc1, hc2⟩ := word_lit wr d (by omega)
            have hs1 : s.size = k := HS.out.1
            have hs2 : t.size = k := HS.out.2.1
            have hm1 : ¬ (9223372036854775807 < s.size + c.size) := by omega
            have hm2 : ¬ (9223372036854775807 < c.size + t.size) := by omega
            have hc0 : (0 : Int) ≤ (k : Int) := by omega
            have HN : Hid ((s ++ c).size = k + 1 ∧ (c ++ t).size = k + 1 ∧ Tx.bs (c ++ t) = (Tx.bs (s ++ c)).reverse) := Lib.hid ⟨by rw [ByteArray.size_append]; omega, by rw [ByteArray.size_append]; omega, rev_step hc2 HS.out.2.2⟩
            clear z1 z2 hc2 hs1 hs2 HS
            go_wp2_with (first
              | (go_at_call 15; refine HA2.out.mono ?_; clear HA2; rintro e w6 ⟨rfl, rfl⟩)
              | (go_at_call 9; refine (HM2.out _).mono ?_; clear HM2; rintro e w7 ⟨rfl, rfl⟩))
            go_roundw
            case rel => exact ⟨k + 1, s ++ c, c ++ t, by omega, by go_num, rfl, rfl, HN, HQ1⟩
            case measure => simp [intOf]; omega
          · obtain rfl : k = i := by omega
            have dk2 : decide (k < k) = false := decide_eq_false (Nat.lt_irrefl _)
            have hl5 : gs.length ≤ 5 := by rw [HLe.out]; omega
            have hl2 : 2 ≤ gs.length := by rw [HLe.out]; omega
            have HBa := Lib.hid (fun wq (hq : Below w2.heap.size w2 wq) => build_all (.slice A1 (k + 1) c1) (rowN gs) wq (HR1.out.below hq) (by rw [rowN_len]; omega) (row_kids hl5))
            have HBb := Lib.hid (fun wq (hq : Below w2.heap.size w2 wq) => build_all (.slice A2 (k + 1) c2) (rowN gs.reverse) wq (HR2.out.below hq) (by rw [rowN_len, List.length_reverse]; omega) (row_kids (by rw [List.length_reverse]; exact hl5)))
            unfold BuildPost at HBa HBb
            rw [row_code gs hl2 (by omega)] at HBa
            rw [row_code gs.reverse (by rw [List.length_reverse]; exact hl2) (by rw [List.length_reverse]; omega)] at HBb
            obtain ⟨st1, st2, b, e1, va1, e2, va2, ew1, ew2⟩ := both_acc hl2 hl5 (HS.out.1.trans HLe.out.symm) (HS.out.2.1.trans HLe.out.symm) HS.out.2.2
            rw [e1] at HBa
            rw [e2] at HBb
            have hs1 : s.size ≤ 100000 := by have := HS.out.1; omega
            have hs2 : t.size ≤ 100000 := by have := HS.out.2.1; omega
            clear e1 e2 hl5 hl2 HS
            generalize (resB (rowN gs)).2 = ss1 at *
            generalize (resB (rowN gs.reverse)).2 = ss2 at *
            have HV := Lib.hid (And.intro va1 va2)
            have HE := Lib.hid (And.intro ew1 ew2)
            have HSz := Lib.hid (And.intro hs1 hs2)
            clear va1 va2 ew1 ew2 hs1 hs2 HAt
            go_wp2_with fail
            refine (HBa.out _ HQ.out).mono ?_
            rintro e w4 ⟨va, rfl, ⟨base, hown⟩, hb4⟩
            have HRa := Lib.hid (Se.RdT.of_own hown)
            obtain ⟨Aa, ca, hv4⟩ : ∃ Aa ca, va = .slice Aa ss1.length ca := by obtain ⟨A3, c3, e, _⟩ := HRa.out; exact ⟨A3, c3, e⟩
            subst hv4
            have HQ4 := Lib.hid (HQ.out.trans (hb4.mono HQ.out.size))
            have hal4 := (Below.refl w4.heap.size w4).alloc (Nat.le_refl _) (.cells #[.slice Aa ss1.length ca, .int .i64 (st1 : Int)] 32)
            have HQx := Lib.hid (HQ4.out.trans (hal4.mono HQ4.out.size))
            have HRx := Lib.hid (HRa.out.below hal4)
            have HCx : Hid ((w4.alloc (.cells #[.slice Aa ss1.length ca, .int .i64 (st1 : Int)] 32)).cell? ⟨w4.heap.size, 0, none⟩ = some (.slice Aa ss1.length ca) ∧ (w4.alloc (.cells #[.slice Aa ss1.length ca, .int .i64 (st1 : Int)] 32)).cell? ⟨w4.heap.size, 1, none⟩ = some (.int .i64 (st1 : Int))) := Lib.hid ⟨by simp, by simp⟩
            clear hown hb4 HBa HQ HQ4 HRa hal4
            go_wp2_with fail
            generalize w4.alloc (.cells #[.slice Aa ss1.length ca, .int .i64 (st1 : Int)] 32) = wx at *
            generalize w4.heap.size = g4 at *
            refine (HBb.out _ HQx.out).mono ?_
            rintro e w5 ⟨vb, rfl, ⟨base2, hown2⟩, hb5⟩
            have HRb := Lib.hid (Se.RdT.of_own hown2)
            obtain ⟨Ab, cb, hv5⟩ : ∃ Ab cb, vb = .slice Ab ss2.length cb := by obtain ⟨A3, c3, e, _⟩ := HRb.out; exact ⟨A3, c3, e⟩
            subst hv5
            have hal5 := (Below.refl w5.heap.size w5).alloc (Nat.le_refl _) (.cells #[.slice Ab ss2.length cb, .int .i64 (st2 : Int)] 32)
            have hb5x := hb5.trans (hal5.mono hb5.size)
            have HQ5 := Lib.hid (HQx.out.trans (hb5x.mono HQx.out.size))
            have HR5 := Lib.hid (HRx.out.below hb5x)
            have HRy := Lib.hid (HRb.out.below hal5)
            have hcA := (hb5x.cell (p := ⟨g4, 0, none⟩) (Tx.cell_lt HCx.out.1)).trans HCx.out.1
            have hcB := (hb5x.cell (p := ⟨g4, 1, none⟩) (Tx.cell_lt HCx.out.2)).trans HCx.out.2
            have HCy : Hid ((w5.alloc (.cells #[.slice Ab ss2.length cb, .int .i64 (st2 : Int)] 32)).cell? ⟨w5.heap.size, 0, none⟩ = some (.slice Ab ss2.length cb) ∧ (w5.alloc (.cells #[.slice Ab ss2.length cb, .int .i64 (st2 : Int)] 32)).cell? ⟨w5.heap.size, 1, none⟩ = some (.int .i64 (st2 : Int))) := Lib.hid ⟨by simp, by simp⟩
            clear hown2 hb5 hb5x hal5 HBb HRb HCx HQx HRx
            go_upto_region 22 with fail
            generalize w5.alloc (.cells #[.slice Ab ss2.length cb, .int .i64 (st2 : Int)] 32) = wy at *
            generalize w5.heap.size = g5 at *
            have HWx : Hid (Calls Try.prog 17 #[.agg #[.slice Aa ss1.length ca, .int .i64 (st1 : Int)], .string s] wy fun x w' => x = .returned (.tuple #[.bool b, .int .i64 0]) ∧ Below wy.heap.size wy w') := Lib.hid (by
              have h := Whole_ok (.slice Aa ss1.length ca) ss1 st1 s wy HR5.out HV.out.1 HSz.out.1
              rw [HE.out.1] at h
              exact h)
            have HWy : Hid (∀ wq, Below wy.heap.size wy wq → Calls Try.prog 17 #[.agg #[.slice Ab ss2.length cb, .int .i64 (st2 : Int)], .string t] wq fun x w' => x = .returned (.tuple #[.bool b, .int .i64 0]) ∧ Below wq.heap.size wq w') := Lib.hid (fun wq hq => by
              have h := Whole_ok (.slice Ab ss2.length cb) ss2 st2 t wq (HRy.out.below hq) HV.out.2 HSz.out.2
              rw [HE.out.2] at h
              exact h)
            obtain ⟨y0, y1⟩ := HCy.out
            clear HE HSz HV HR5 HRy
            have hbb : (b == b) = true := by cases b <;> rfl
            go_upto_region 23 with ((go_at_call 17; (with_reducible refine HWx.out.mono ?_); rintro e w6 ⟨rfl, hb6⟩; have HB6 := Lib.hid hb6; have d0 := (hb6.cell (p := ⟨g5, 0, none⟩) (Tx.cell_lt HCy.out.1)).trans HCy.out.1; have d1 := (hb6.cell (p := ⟨g5, 1, none⟩) (Tx.cell_lt HCy.out.2)).trans HCy.out.2; clear hb6))
            go_upto_region 24 with (go_at_call 17; (with_reducible refine (HWy.out _ HB6.out).mono ?_); rintro e w7 ⟨rfl, hb7⟩; have HB7 := Lib.hid (HB2.out.trans ((HQ5.out.trans ((HB6.out.trans (hb7.mono HB6.out.size)).mono HQ5.out.size)).mono HB2.out.size)); clear hb7)
            clear HWx HWy HB6 HQ5 HB2 HCy
            go_wp2_with fail
            refine (HAw.out _).mono ?_
            rintro e w9 ⟨rfl, hb9⟩
            have HB9 := Lib.hid (HB7.out.trans (hb9.mono HB7.out.size))
            go_wp2_with fail
            go_ret
            exact ⟨rfl, HB9.out⟩
end Rv
end Go.Proofs.Ytgadomcbaenodaa

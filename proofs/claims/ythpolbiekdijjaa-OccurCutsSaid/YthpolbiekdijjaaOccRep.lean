/-
  Walks of layer 7: Replace. Conditions: needle, text and replacement have at most 1000 bytes.
-/
import Derived.Test.YthpolbiekdijjaaOccBld
import Derived.Test.YthpolbiekdijjaaOccRepM
import Derived.ControlIn
namespace Go.Proofs.Ythpolbiekdijjaa
open Go.RowKit
attribute [local go_sem] Oper.semAt_some
namespace Oc
open Tx Cm
set_option maxHeartbeats 1000000 in
theorem fits_yes (l n b c : Nat) (w : World) (h1 : l ≤ 1000) (_h2 : n ≤ 1000) (h3 : b ≤ 1000) (h4 : c ≤ 1000) (h5 : c * n ≤ l) :
    Calls Try.prog 27 #[.int .i64 l, .int .i64 n, .int .i64 b, .int .i64 c] w fun e w' => e = .returned (.bool true) ∧ w = w' := by
  have e1 : (c : Int) * (n : Int) = ((c * n : Nat) : Int) := by simp
  obtain ⟨k, hk⟩ : ∃ k, k = c * n := ⟨_, rfl⟩
  rw [← hk] at e1 h5
  clear hk
  by_cases hc : c = 0
  · subst hc
    have e2 : k = 0 := by
      have : (0 : Int) * (n : Int) = 0 := by simp
      have e3 : ((0 : Nat) : Int) = 0 := rfl
      rw [e3, this] at e1; omega
    subst e2
    clear e1
    go_enter Try.func27, Try.ntmps27
    go_wp2_with fail
    go_ret
    exact ⟨rfl, rfl⟩
  · have e3 : ((c : Int) == 0) = false := by rw [beq_eq_false_iff_ne]; omega
    have hq : (b : Int) ≤ (16777216 - ((l : Int) - (k : Int))) / (c : Int) := by
      rw [Int.le_ediv_iff_mul_le (by omega)]
      have : b * c ≤ 1000 * 1000 := Nat.mul_le_mul h3 h4
      have e4 : (b : Int) * (c : Int) = ((b * c : Nat) : Int) := by simp
      rw [e4]; omega
    have hd : decide ((b : Int) ≤ (16777216 - ((l : Int) - (k : Int))) / (c : Int)) = true := by simpa using hq
    have i1 : (0 : Int) ≤ 16777216 - ((l : Int) - (k : Int)) := by omega
    have i2 : (0 : Int) < (c : Int) := by omega
    clear hq hc
    go_enter Try.func27, Try.ntmps27
    go_wp2_with fail
    go_ret
    exact ⟨rfl, rfl⟩
theorem cells_app (l m : List UInt8) : Lib.byteCells (l ++ m) = Lib.byteCells l ++ Lib.byteCells m := by
  unfold Lib.byteCells
  rw [List.map_append]
theorem strCells_bs (s : ByteArray) : Lib.strCells s = Lib.byteCells (bs s) := rfl
theorem bs_slice (s : ByteArray) (a b : Nat) : bs (s.extract a b) = ((bs s).drop a).take (b - a) := bs_extract s a b
/-- The iterator's cells, as boxes. -/
def BCaps (W : World) (B : Nat) (n s : ByteArray) (p : Nat) : Prop := Boxed W B 9 (.string n) ∧ Boxed W (B + 1) 9 (.string s) ∧ Boxed W (B + 2) 3 (.int .i64 (p : Int))
theorem BCaps.caps {W : World} {B p : Nat} {n s : ByteArray} (h : BCaps W B n s p) : Caps W B n s p := ⟨h.1.cell, h.2.1.cell, h.2.2.cell⟩
theorem bcaps_new (w : World) (n s : ByteArray) (p : Nat) : BCaps (((w.alloc (.cells #[.string n] 9)).alloc (.cells #[.string s] 9)).alloc (.cells #[.int .i64 p] 3)) w.heap.size n s p := by
  have a1 := (Boxed.new w 9 (.string n)).alloc (.cells #[.string s] 9)
  have a2 := a1.alloc (.cells #[.int .i64 p] 3)
  have b1 := Boxed.new (w.alloc (.cells #[.string n] 9)) 9 (.string s)
  rw [World.size_alloc] at b1
  have b2 := b1.alloc (.cells #[.int .i64 p] 3)
  have c1 := Boxed.new ((w.alloc (.cells #[.string n] 9)).alloc (.cells #[.string s] 9)) 3 (.int .i64 p)
  rw [World.size_alloc, World.size_alloc] at c1
  exact ⟨a2, b2, c1⟩
/-- What the loop of Replace keeps. -/
def RepI (n s b : ByteArray) (D : Nat) (w2 : World) (G : Nat) (pre : List Nat) (W : World) : Prop :=
  (pre <+: posL (bs n) (bs s) 0 ∧ D + 5 ≤ G) ∧ Lib.IsBuilder tBld tU8 D D (Lib.byteCells (accR (bs n) (bs s) (bs b) pre).1) W ∧ Boxed W (D + 1) tInt (.int .i64 ((accR (bs n) (bs s) (bs b) pre).2 : Int)) ∧ BCaps W (D + 2) n s 0 ∧
    W.rowIs G tInt n.size (rowBd (bs n) n.size) ∧ Below D w2 W
theorem bld_kept {W W' : World} {row : Option Nat} {B b : Nat} {us : List Value} (h : Lib.IsBuilder tBld tU8 B b us W) (hg : W.grownBy W' row) (hr : ∀ r, row = some r → ∃ o : Obj, W.heap[r]? = some o ∧ o.isCells = false) : Lib.IsBuilder tBld tU8 B b us W' := by
  have key : ∀ {p : Value}, Lib.BuilderAt tBld tU8 B b p us W → Lib.BuilderAt tBld tU8 B b p us W' := by
    rintro p ⟨h1, v, h2, h3, h4⟩
    refine ⟨h1, v, (hg.block b (Array.getElem?_eq_some_iff.1 h2).1 fun e => ?_).trans h2, h3.kept hg (own_apart h3 hr), h4⟩
    obtain ⟨o, ho, hc⟩ := hr b e.symm
    rw [h2] at ho; cases ho; cases hc
  exact h.elim (fun h => .inl (key h)) (fun h => .inr (key h))
theorem RepI.own {n s b : ByteArray} {D G : Nat} {w2 A A' : World} {pre : List Nat} {row : Option Nat} (h : RepI n s b D w2 G pre A) (hw : D ≤ w2.heap.size) (hg : A.grownBy A' row) (hr : ∀ r, row = some r → D + 5 ≤ r ∧ ∃ o : Obj, A.heap[r]? = some o ∧ o.isCells = false) : RepI n s b D w2 G pre A' := by
  have hr2 : ∀ r, row = some r → ∃ o : Obj, A.heap[r]? = some o ∧ o.isCells = false := fun r e => (hr r e).2
  obtain ⟨h0, h1, h2, h3, h4, h5⟩ := h
  exact ⟨h0, bld_kept h1 hg hr2, h2.kept hg (fun e => by have := (hr (D + 1) e.symm).1; omega), ⟨h3.1.kept hg (fun e => by have := (hr (D + 2) e.symm).1; omega), h3.2.1.kept hg (fun e => by have := (hr (D + 2 + 1) e.symm).1; omega), h3.2.2.kept hg (fun e => by have := (hr (D + 2 + 2) e.symm).1; omega)⟩, row_kept h4 hg hr2, h5.grown hg (by have := h5.size; omega) (fun k e => by have := (hr k e).1; omega)⟩
theorem RepI.drew {n s b : ByteArray} {D G : Nat} {w2 A : World} {pre : List Nat} (h : RepI n s b D w2 G pre A) : RepI n s b D w2 G pre A.drew := by
  obtain ⟨h0, h1, h2, h3, h4, h5⟩ := h
  exact ⟨h0, h1, h2, h3, h4.drew, h5.drew⟩
theorem keep_other {D k : Nat} {W W' : World} {o : Obj} (h : Keeps8 D W W') (ho : W.heap[k]? = some o) (hk : k ≠ D) (hn : ∀ c fz, o ≠ .cells c tU8 fz) : W'.heap[k]? = some o := h k o ho (fun e => hk (by cases e; rfl)) hn
theorem keep_from {D B : Nat} {W W' : World} (h : Keeps8 D W W') (hs : W.heap.size ≤ W'.heap.size) (hB : D < B) : KeepsFrom B W W' :=
  ⟨hs, fun k o hk ho hc => keep_other h ho (by omega) (fun c fz e => by subst e; cases hc)⟩
theorem keep_row {D G m : Nat} {W W' : World} {f : Nat → Value} (h : Keeps8 D W W') (hr : W.rowIs G tInt m f) (hG : G ≠ D) : W'.rowIs G tInt m f := by
  obtain ⟨c, h1, h2⟩ := hr
  exact ⟨c, keep_other h h1 hG (fun c fz e => by injection e with _ e _; exact absurd e (by decide)), h2⟩
theorem keep_box {D B : Nat} {W W' : World} {t : TypeId} {v : Value} (h : Keeps8 D W W') (hb : Boxed W B t v) (hB : B ≠ D) (ht : t ≠ tU8) : Boxed W' B t v :=
  keep_other h hb hB (fun c fz e => by injection e with _ e _; exact ht e)
theorem keep_caps {D B p : Nat} {n s : ByteArray} {W W' : World} (h : Keeps8 D W W') (hb : BCaps W B n s p) (hB : D < B) : BCaps W' B n s p :=
  ⟨keep_box h hb.1 (by omega) (by decide), keep_box h hb.2.1 (by omega) (by decide), keep_box h hb.2.2 (by omega) (by decide)⟩
theorem bld_set {W : World} {B b C : Nat} {us : List Value} {u : Value} (v : Value) (h : Lib.IsBuilder tBld tU8 B b us W) (hb : Boxed W C tInt u) (hC : C ≠ b) : Lib.IsBuilder tBld tU8 B b us (W.setCell ⟨C, 0, none⟩ v) := by
  have key : ∀ {p : Value}, Lib.BuilderAt tBld tU8 B b p us W → Lib.BuilderAt tBld tU8 B b p us (W.setCell ⟨C, 0, none⟩ v) := by
    rintro p ⟨h1, x, h2, h3, h4⟩
    exact ⟨h1, x, (Below.heap_setCell _ _ _ b (fun e => hC e.symm)).trans h2, h3.kept (grownBy_setCell' W C v) (.inr (hb.not_row (by decide) h3).symm), h4⟩
  exact h.elim (fun h => .inl (key h)) (fun h => .inr (key h))
theorem rep_step {n s b : ByteArray} {D G x B0 : Nat} {w1 W W1 W2 : World} {pre : List Nat} (h : RepI n s b D w1 G pre W) (hx : pre ++ [x] <+: posL (bs n) (bs s) 0) (hB0 : D + 5 ≤ B0) (_hD : D ≤ w1.heap.size)
    (b1 : Below D W W1) (k1 : Keeps8 D W W1)
    (i2 : Lib.IsBuilder tBld tU8 D D (Lib.byteCells (accR (bs n) (bs s) (bs b) pre).1 ++ Lib.strCells (s.extract (accR (bs n) (bs s) (bs b) pre).2 x) ++ Lib.strCells b) W2) (b2 : Below D W1 W2) (k2 : Keeps8 D W1 W2) :
    KeepsFrom B0 W (W2.setCell ⟨D + 1, 0, none⟩ (.int .i64 ((x : Int) + (n.size : Int)))) ∧ RepI n s b D w1 G (pre ++ [x]) (W2.setCell ⟨D + 1, 0, none⟩ (.int .i64 ((x : Int) + (n.size : Int)))) := by
  obtain ⟨h0, _, h2, h3, h4, h5⟩ := h
  have hs := h5.size
  have b2' := b2
  have k12 : Keeps8 D W W2 := k1.trans k2
  have g2 := keep_box k12 h2 (by omega) (by decide)
  have g4 := keep_row k12 h4 (by omega)
  have e1 : (accR (bs n) (bs s) (bs b) (pre ++ [x])).1 = (accR (bs n) (bs s) (bs b) pre).1 ++ bs (s.extract (accR (bs n) (bs s) (bs b) pre).2 x) ++ bs b := by rw [accR_snoc, bs_slice]; rfl
  have e2 : ((accR (bs n) (bs s) (bs b) (pre ++ [x])).2 : Int) = (x : Int) + (n.size : Int) := by rw [accR_snoc]; show ((x + (bs n).length : Nat) : Int) = _; rw [bs_len]; omega
  refine ⟨(keep_from k12 (Nat.le_trans b1.size b2.size) (by omega)).trans ((KeepsOthers.setCell _ _ _).from B0), ⟨hx, h0.2⟩, ?_, ?_, ?_, ?_, ?_⟩
  · rw [e1, cells_app, cells_app]
    exact bld_set _ i2 g2 (by omega)
  · rw [e2]; exact g2.set _
  · have g3 := keep_caps k12 h3 (by omega)
    exact ⟨g3.1.other (by omega) _, g3.2.1.other (by omega) _, g3.2.2.other (by omega) _⟩
  · exact g4.setOther (a := ⟨D + 1, 0, none⟩) (by show G ≠ D + 1; omega) _
  · exact ((h5.trans b1).trans b2').setCell (p := ⟨D + 1, 0, none⟩) (Nat.le_succ _) _
def ReplPost (l : List UInt8) (w : World) (e : Ending) (w' : World) : Prop := e = .returned (.tuple #[.string ⟨l.toArray⟩, .int .i64 0]) ∧ Below w.heap.size w w'
set_option maxRecDepth 100000 in
set_option maxHeartbeats 4000000 in
theorem Replace_any (n s b : ByteArray) (w : World) (hn : n.size ≤ 1000) (hs : s.size ≤ 1000) (hb : b.size ≤ 1000) :
    Calls Try.prog 20 #[.string n, .string s, .string b] w (ReplPost (replF (bs n) (bs s) (bs b)) w) := by
  refine (callsIn_wide (n := 4)).1 ?_
  refine callsIn_of_wp_marks Try.func20 rfl trivial ?_ rfl
  simp only [Try.ntmps20, List.size_toArray, List.length_cons, List.length_nil, Nat.reduceAdd, Nat.reduceSub, Array.replicate_succ, Array.replicate_zero, List.push_toArray, List.append_toArray, List.nil_append, List.cons_append]
  have HA := Lib.hid (fun w => apart_any n s 0 w)
  have hcnt := (posL_is (bs n) (bs s) 0).count (Nat.zero_le _)
  have hlen := (posL_is (bs n) (bs s) 0).len (Nat.zero_le _)
  rw [bs_len] at hcnt hlen
  rw [bs_len, Nat.zero_add] at hlen
  have hCt := fun w => Count_any n s w (by omega) (by omega)
  unfold CountPost at hCt
  have HF := Lib.hid (fun w => fits_yes s.size n.size b.size (posL (bs n) (bs s) 0).length w hs hn hb (by omega) hlen)
  clear hcnt hlen
  generalize (posL (bs n) (bs s) 0).length = cnt at HF hCt
  have HCt := Lib.hid hCt
  clear hCt
  gi_wp2
  obtain ⟨C, hC⟩ : ∃ C, C = w.heap.size := ⟨_, rfl⟩
  obtain ⟨w0, hw0⟩ : ∃ w0, ((w.alloc (.cells #[.string n] 9)).alloc (.cells #[.string s] 9)).alloc (.cells #[.string b] 9) = w0 := ⟨_, rfl⟩
  have HS0 : Hid (w0.cell? ⟨C, 0, none⟩ = some (.string n) ∧ w0.cell? ⟨C + 1, 0, none⟩ = some (.string s) ∧ w0.cell? ⟨C + 2, 0, none⟩ = some (.string b)) := Lib.hid (by
    have a1 := ((Boxed.new w 9 (.string n)).alloc (.cells #[.string s] 9)).alloc (.cells #[.string b] 9)
    have b1 := Boxed.new (w.alloc (.cells #[.string n] 9)) 9 (.string s)
    rw [World.size_alloc] at b1
    have b2 := b1.alloc (.cells #[.string b] 9)
    have c1 := Boxed.new ((w.alloc (.cells #[.string n] 9)).alloc (.cells #[.string s] 9)) 9 (.string b)
    rw [World.size_alloc, World.size_alloc] at c1
    rw [← hw0, hC]
    exact ⟨a1.cell, b2.cell, c1.cell⟩)
  have HB0 : Hid (Below C w w0) := Lib.hid (by rw [← hw0, hC]; exact (((Below.refl _ w).alloc (Nat.le_refl _) _).alloc (by simp) _).alloc (by simp; omega) _)
  have HZ0 : Hid (w0.heap.size = C + 3) := Lib.hid (by rw [← hw0, hC]; simp)
  have HCw := Lib.hid hC
  rw [hw0, ← hC]
  clear hw0 hC
  refine wpIn_wide.2 ?_
  go_region_held3 (fun V => V.cell? ⟨C, 0, none⟩ = some (.string n) ∧ V.cell? ⟨C + 1, 0, none⟩ = some (.string s) ∧ V.cell? ⟨C + 2, 0, none⟩ = some (.string b)) (first | exact HS1.out | exact HS0.out) (first
    | (go_at_call 17; refine (HCt.out _).mono ?_; rintro e w1 ⟨rfl, b1⟩; have HS1 : Hid (w1.cell? ⟨C, 0, none⟩ = some (.string n) ∧ w1.cell? ⟨C + 1, 0, none⟩ = some (.string s) ∧ w1.cell? ⟨C + 2, 0, none⟩ = some (.string b)) := Lib.hid ⟨(b1.cell (p := ⟨C, 0, none⟩) (by have := HZ0.out; show C < w0.heap.size; omega)).trans HS0.out.1, (b1.cell (p := ⟨C + 1, 0, none⟩) (by have := HZ0.out; show C + 1 < w0.heap.size; omega)).trans HS0.out.2.1, (b1.cell (p := ⟨C + 2, 0, none⟩) (by have := HZ0.out; show C + 2 < w0.heap.size; omega)).trans HS0.out.2.2⟩; have HB1 : Hid (Below (C + 3) w0 w1) := Lib.hid ((Below.refl (C + 3) w0).drew.trans (b1.mono (by have := HZ0.out; show C + 3 ≤ w0.heap.size; omega))); clear b1)
    | (go_at_call 27; refine (HF.out _).mono ?_; rintro e w3 ⟨rfl, rfl⟩))
  have HB2 : Hid (Below C w w1) := Lib.hid (HB0.out.trans (HB1.out.mono (by omega)))
  have HZ1 : Hid (C + 3 ≤ w1.heap.size) := Lib.hid (by have := HB1.out.size; have := HZ0.out; omega)
  obtain ⟨hc1, hc2, hc3⟩ := HS1.out
  have HAll : ∀ k v, k < w1.heap.size → w1.cell? ⟨k, 0, none⟩ = some v → ((w1.alloc (.cells #[.pointer none, .slice none 0 0] tBld)).alloc (.cells #[.int .i64 0] tInt)).cell? ⟨k, 0, none⟩ = some v := fun k v hk h =>
    ((below_two w1 (.cells #[.pointer none, .slice none 0 0] tBld) (.cells #[.int .i64 0] tInt)).cell (p := ⟨k, 0, none⟩) hk).trans h
  have hd1 := HAll C _ (by have := HZ1.out; omega) hc1
  have hd2 := HAll (C + 1) _ (by have := HZ1.out; omega) hc2
  have HC3 := Lib.hid hc3
  clear HF HCt HB0 HB1 HS0 HZ0 hc1 hc2 hc3 HAll
  gi_wp2_with (first
    | (refine ⟨(trivial : Fence.wide.fn 22), ?_⟩; gi_at_call 22; refine (callsIn_wide.2 (HA.out _)).mono ?_; rintro e w4 ⟨rfl, rfl⟩)
    | gi_in)
  obtain ⟨D, hD⟩ : ∃ D, D = w1.heap.size := ⟨_, rfl⟩
  obtain ⟨w5, hw5⟩ : ∃ w5, (w1.alloc (.cells #[.pointer none, .slice none 0 0] tBld)).alloc (.cells #[.int .i64 0] tInt) = w5 := ⟨_, rfl⟩
  have hz5 : w5.heap.size = D + 2 := by rw [← hw5, World.size_alloc, World.size_alloc, hD]
  have hi5 : Lib.IsBuilder tBld tU8 D D (Lib.byteCells (accR (bs n) (bs s) (bs b) []).1) w5 := by
    refine .inl ⟨Nat.le_refl _, .slice none 0 0, ?_, World.ownsRow_nil _ _ _ _, by simp [Value.ownBlock]⟩
    rw [← hw5, hD]; exact (Below.heap_alloc _ _ _ (by simp)).trans (World.alloc_heap_new w1 _)
  have hb5 : Boxed w5 (D + 1) tInt (.int .i64 0) := by
    have := Boxed.new (w1.alloc (.cells #[.pointer none, .slice none 0 0] tBld)) tInt (.int .i64 0)
    rw [World.size_alloc] at this
    rw [← hw5, hD]; exact this
  have hB5 : Below D w1 w5 := by rw [← hw5, hD]; exact below_two _ _ _
  obtain ⟨w9, hw9⟩ : ∃ w9, ((w5.alloc (.cells #[.string n] 9)).alloc (.cells #[.string s] 9)).alloc (.cells #[.int .i64 0] 3) = w9 := ⟨_, rfl⟩
  have hc9 : BCaps w9 (D + 2) n s 0 := by rw [← hw9, ← hz5]; exact bcaps_new w5 n s 0
  have hz9 : w9.heap.size = D + 5 := by rw [← hw9, World.size_alloc, World.size_alloc, World.size_alloc, hz5]
  have h59 : Below (D + 2) w5 w9 := by rw [← hw9, ← hz5]; exact (((Below.refl _ w5).alloc (Nat.le_refl _) _).alloc (by simp) _).alloc (by simp; omega) _
  have hk : ∀ {p : Value}, Lib.BuilderAt tBld tU8 D D p (Lib.byteCells (accR (bs n) (bs s) (bs b) []).1) w5 → Lib.BuilderAt tBld tU8 D D p (Lib.byteCells (accR (bs n) (bs s) (bs b) []).1) w9 := by
    rintro p ⟨h1, v, h2, h3, h4⟩
    exact ⟨h1, v, (h59.block D (by omega)).trans h2, own_below h3 (by rw [hz5]; exact h59), h4⟩
  have hi9 : Lib.IsBuilder tBld tU8 D D (Lib.byteCells (accR (bs n) (bs s) (bs b) []).1) w9 := hi5.elim (fun h => .inl (hk h)) (fun h => .inr (hk h))
  have hb9 : Boxed w9 (D + 1) tInt (.int .i64 0) := (h59.block (D + 1) (by omega)).trans hb5
  have hB9 : Below D w1 w9 := hB5.trans (h59.mono (by omega))
  rw [hw5, hw9, ← hD]
  have HDw := Lib.hid hD
  have HZ9 := Lib.hid hz9
  have hDw : D ≤ w1.heap.size := by omega
  have hCD : C + 3 ≤ D := by have := HZ1.out; omega
  clear hw5 hw9 hi5 hb5 hB5 h59 hk HA hz5 hd1 hd2
  have hbelow : ∀ W, Below w9.heap.size w9 W → Lib.IsBuilder tBld tU8 D D (Lib.byteCells (accR (bs n) (bs s) (bs b) []).1) W := fun W h => by
    have key : ∀ {p : Value}, Lib.BuilderAt tBld tU8 D D p (Lib.byteCells (accR (bs n) (bs s) (bs b) []).1) w9 → Lib.BuilderAt tBld tU8 D D p (Lib.byteCells (accR (bs n) (bs s) (bs b) []).1) W := by
      rintro p ⟨h1, v, h2, h3, h4⟩
      exact ⟨h1, v, (h.block D (by omega)).trans h2, own_below h3 h, h4⟩
    exact hi9.elim (fun h => .inl (key h)) (fun h => .inr (key h))
  refine range_apart 4 (by omega) (D + 2) n s 0 (by omega) (by omega) (Nat.zero_le _) (by rfl) rfl (by omega) hc9.caps
    (RepI n s b D w1)
    (fun _ _ _ => False) (fun pre W => Lib.IsBuilder tBld tU8 D D (Lib.byteCells (accR (bs n) (bs s) (bs b) pre).1) W ∧ Boxed W (D + 1) tInt (.int .i64 ((accR (bs n) (bs s) (bs b) pre).2 : Int)) ∧ Below D w1 W)
    (fun G pre W h => ⟨h.2.2.2.1.caps, h.2.2.2.2.1⟩) (fun G s A B row h hg hr => h.own hDw hg (fun r e => by rw [← hz9]; exact hr r e)) (fun G pre W h => h.drew) (fun c s A B row h _ _ => h) (fun s A B row h hg hr => ?own2)
    (fun G W hb hG hr => ⟨⟨List.nil_prefix, by omega⟩, hbelow W hb, (hb.block (D + 1) (by omega)).trans hb9, ⟨(hb.block (D + 2) (by omega)).trans hc9.1, (hb.block (D + 2 + 1) (by omega)).trans hc9.2.1, (hb.block (D + 2 + 2) (by omega)).trans hc9.2.2⟩, hr, hB9.trans (hb.mono (by omega))⟩)
    ⟨hi9, hb9, hB9⟩ (fun G xs W h => ⟨h.2.1, h.2.2.1, h.2.2.2.2.2⟩)
    (fun x => { tmps := #[.string n, .string s, .string b, .pointer (some ⟨C, 0, none⟩), .pointer (some ⟨C + 1, 0, none⟩), .pointer (some ⟨C + 1 + 1, 0, none⟩), .string ⟨#[]⟩, .int .i64 0, .pointer (some ⟨D, 0, none⟩), .pointer (some ⟨D + 1, 0, none⟩), .int .i64 (x : Int), .string s, .int .i64 (s.size : Int), .string n, .int .i64 (n.size : Int), .string b, .int .i64 (b.size : Int), .string n, .string s, .int .i64 (cnt : Int), .bool true, .bool false, .string n, .string s, apartV (D + 1 + 1), .int .i64 (x : Int), undef, undef, undef, undef, undef, undef, undef, undef, undef, undef, undef, undef, undef, undef, undef, undef], defers := [] }) ?assign ?body ?done ?stop
  case own2 =>
    have hr2 : ∀ r, row = some r → ∃ o : Obj, A.heap[r]? = some o ∧ o.isCells = false := fun r e => (hr r e).2
    refine ⟨bld_kept h.1 hg hr2, h.2.1.kept hg (fun e => ?_), h.2.2.grown hg (by have := h.2.2.size; omega) (fun k e => by have := (hr k e).1; omega)⟩
    have := (hr (D + 1) e.symm).1; omega
  case assign =>
    intro l x W K hK
    rw [put_one]
    clear hD hz9 hB9 hb9 hc9 hi9 hbelow
    gi_wp2
    exact hK
  case body =>
    rintro l G pre x W hI _ hpl hxs hpre
    have hpre0 := hI.1.1
    obtain ⟨hd1, hd2, hd3⟩ := acc_pre (b := bs b) hpre0
    obtain ⟨hn1, hn2, hn3⟩ := acc_next (b := bs b) hpre
    rw [bs_len] at hd1 hd2 hd3 hn2 hn3
    rw [bs_len] at hn2
    have hbd : pre.length * b.size ≤ 1000 * 1000 := Nat.mul_le_mul (by omega) hb
    have hus : (Lib.byteCells (accR (bs n) (bs s) (bs b) pre).1).length ≤ 2000000 := by rw [Lib.byteCells_length]; omega
    have hDW := hI.2.2.2.2.2
    have q1 : W.cell? ⟨C + 1, 0, none⟩ = some (.string s) := (hDW.cell (p := ⟨C + 1, 0, none⟩) (by show C + 1 < D; omega)).trans HS1.out.2.1
    have q2 := hI.2.2.1.cell
    have HStep := Lib.hid (fun W1 W2 => rep_step (B0 := w9.heap.size) (W1 := W1) (W2 := W2) hI hpre (by omega) hDw)
    have HW1 := Lib.hid (write_any (s.extract (accR (bs n) (bs s) (bs b) pre).2 x) hI.2.1 (by rw [ByteArray.size_extract]; omega) (Nat.le_trans hDw hDW.size))
    have HW2 := Lib.hid (fun W1 h hz => write_any (w := W1) (B := D) (b := D) (bs := Lib.byteCells (accR (bs n) (bs s) (bs b) pre).1 ++ Lib.strCells (s.extract (accR (bs n) (bs s) (bs b) pre).2 x)) b h (by rw [List.length_append, Lib.strCells_length, ByteArray.size_extract]; omega) hz)
    have HBx : Hid (∀ W1 : World, Keeps8 D W W1 → Boxed W1 (D + 1) tInt (.int .i64 ((accR (bs n) (bs s) (bs b) pre).2 : Int))) := Lib.hid (fun W1 k => keep_box k hI.2.2.1 (by omega) (by decide))
    have HDW := Lib.hid hDW
    have HDw2 := Lib.hid (Nat.le_trans hDw hDW.size)
    clear hD hz9 hB9 hb9 hc9 hi9 hbelow hI hDW hd2 hus hbd
    generalize (accR (bs n) (bs s) (bs b) pre).2 = d at *
    gi_wp2_with (first
      | (refine ⟨(trivial : Fence.wide.fn 28), ?_⟩; gi_at_call 28; refine (CallsIn.inRound l (callsIn_wide.2 HW1.out)).mono ?_; clear HW1; rintro e W1 ⟨rfl, i1, b1, k1⟩; have r3 : W1.cell? ⟨C + 1 + 1, 0, none⟩ = some (.string b) := ((HDW.out.trans b1).cell (p := ⟨C + 1 + 1, 0, none⟩) (by show C + 1 + 1 < D; omega)).trans HC3.out; have HWb := Lib.hid (HW2.out W1 i1 (Nat.le_trans HDw2.out b1.size)); have Hb1 := Lib.hid b1; have Hk1 := Lib.hid k1; clear b1 k1 i1 HW2 q1 q2)
      | (refine ⟨(trivial : Fence.wide.fn 28), ?_⟩; gi_at_call 28; refine (CallsIn.inRound l (callsIn_wide.2 HWb.out)).mono ?_; clear HWb r3; rintro e W2 ⟨rfl, i2, b2, k2⟩; have r1 : W2.cell? ⟨C, 0, none⟩ = some (.string n) := (((HDW.out.trans Hb1.out).trans b2).cell (p := ⟨C, 0, none⟩) (by show C < D; omega)).trans HS1.out.1; have r2 := (HBx.out W2 (Hk1.out.trans k2)).cell; have f2 := (HBx.out W2 (Hk1.out.trans k2)).frozen; have HFin := Lib.hid (HStep.out W1 W2 Hb1.out Hk1.out i2 b2 k2); clear i2 b2 k2)
      | gi_in)
    exact HFin.out
  case done =>
    rintro K W hK0 ⟨h1, h2, h3⟩ hK
    obtain ⟨hd1, hd2, hd3⟩ := acc_pre (b := bs b) (List.prefix_refl (posL (bs n) (bs s) 0))
    rw [bs_len] at hd1 hd2 hd3
    have hbd : (posL (bs n) (bs s) 0).length * b.size ≤ 1000 * 1000 := Nat.mul_le_mul (by omega) hb
    have hus : (Lib.byteCells (accR (bs n) (bs s) (bs b) (posL (bs n) (bs s) 0)).1).length ≤ 2000000 := by rw [Lib.byteCells_length]; omega
    have q1 : W.cell? ⟨C + 1, 0, none⟩ = some (.string s) := (h3.cell (p := ⟨C + 1, 0, none⟩) (by show C + 1 < D; omega)).trans HS1.out.2.1
    have q2 := h2.cell
    have HW1 := Lib.hid (write_any (s.extract (accR (bs n) (bs s) (bs b) (posL (bs n) (bs s) 0)).2 s.size) h1 (by rw [ByteArray.size_extract]; omega) (Nat.le_trans hDw h3.size))
    have HE : Hid (Lib.byteCells (accR (bs n) (bs s) (bs b) (posL (bs n) (bs s) 0)).1 ++ Lib.strCells (s.extract (accR (bs n) (bs s) (bs b) (posL (bs n) (bs s) 0)).2 s.size) = Lib.byteCells (replF (bs n) (bs s) (bs b))) := Lib.hid (by
      rw [strCells_bs, bs_slice, ← cells_app]
      unfold replF
      rw [List.take_of_length_le (by rw [List.length_drop, bs_len]; exact Nat.le_refl _)])
    rw [HE.out] at HW1
    have H3 := Lib.hid h3
    have HK0 := Lib.hid hK0
    have HK := Lib.hid hK
    clear hD hz9 hB9 hb9 hc9 hi9 hbelow h1 h2 h3 hd2 hus hbd HE hK0 hK
    generalize (accR (bs n) (bs s) (bs b) (posL (bs n) (bs s) 0)).2 = d at *
    gi_wp2_with (first
      | (refine ⟨(trivial : Fence.wide.fn 28), ?_⟩; gi_at_call 28; refine (callsIn_wide.2 HW1.out).mono ?_; clear HW1; rintro e W1 ⟨rfl, i1, b1, k1⟩; have HSt := Lib.hid (Try.Builder_String_any_k D D (replF (bs n) (bs s) (bs b)) W1 (Lib.IsBuilderF.of i1) (Nat.le_trans hDw (Nat.le_trans H3.out.size b1.size))); have Hb1 := Lib.hid b1; have Hk1 := Lib.hid k1; clear b1 k1 i1 q1 q2)
      | (refine ⟨(trivial : Fence.wide.fn 29), ?_⟩; gi_at_call 29; refine (callsIn_wide.2 HSt.out).mono ?_; clear HSt; rintro e W2 ⟨rfl, _, b2, k2⟩; have HB2' := Lib.hid ((H3.out.trans Hb1.out).trans b2); have HKK : Hid (W2.heap[K]? = some (.deferred (some []))) := Lib.hid (keep_other (Hk1.out.trans k2) HK.out (by have := HK0.out; have := HZ9.out; omega) (fun c fz e => by cases e)); clear b2 k2)
      | gi_in)
    refine ⟨by simp, .inl ⟨_, _, rfl, run_takeDeferred HKK.out, ?_⟩⟩
    refine ⟨.tuple #[.string ⟨(replF (bs n) (bs s) (bs b)).toArray⟩, .int .i64 0], (by simp [results, Try.f20, go_sem]), rfl, ?_⟩
    have h5 : Below D w1 (W2.putObj K (.deferred none)) := HB2'.out.trans (belowK_b (w := w9) (n₀ := D) (by have := HZ9.out; omega) W2 K _ (.deferred none) HK0.out HKK.out rfl rfl)
    rw [← HCw.out]
    exact HB2.out.trans (h5.mono (by omega))
  case stop =>
    rintro D c pre W _ _ _ h _
    exact h.elim
end Oc
end Go.Proofs.Ythpolbiekdijjaa

/-
  The program's Format. Conditions: those of Check.
-/
import Derived.Test.YtlnghfmedkfkmaaDoorGUniCheck
import Derived.Test.YtlnghfmedkfkmaaDoorOccBld
namespace Go.Proofs.YtlnghfmedkfkmaaDoor
namespace Cm
end Cm
namespace Hn
end Hn
namespace Oc
end Oc
namespace Sc
end Sc
namespace Tx
end Tx
open Go.RowKit
attribute [local go_sem] Oper.semAt_some
namespace Uf
open Cm Hn
open Sc (fmtR Pow RdK)
open Tx (bs)
open Oc (tBld tU8 Keeps8)
def joinL (xs : List ByteArray) : List UInt8 := xs.flatMap bs
theorem joinL_len (xs : List ByteArray) : (joinL xs).length = szL xs := by
  unfold joinL szL
  induction xs with
  | nil => rfl
  | cons a l ih => rw [List.flatMap_cons, List.length_append, ih, List.map_cons, List.sum_cons, Tx.bs_len]
theorem joinL_snoc (xs : List ByteArray) (x : ByteArray) : joinL (xs ++ [x]) = joinL xs ++ bs x := by unfold joinL; simp
theorem cells_app (l m : List UInt8) : Lib.byteCells (l ++ m) = Lib.byteCells l ++ Lib.byteCells m := by
  unfold Lib.byteCells
  rw [List.map_append]
theorem own_apart {W : World} {row : Option Nat} {base : Nat} {e : TypeId} {v : Value} {k : Nat} {xs : List Value} (h : W.ownsRow base e 1 v k xs) (hr : ∀ r, row = some r → ∃ o : Obj, W.heap[r]? = some o ∧ o.isCells = false) : v.ownBlock = none ∨ v.ownBlock ≠ row := by
  rcases h.2 with ⟨rfl, _⟩ | ⟨g, cap, cur, rfl, _, hgb, _⟩
  · exact .inl rfl
  · refine .inr fun e' => ?_
    obtain ⟨o, ho, hc⟩ := hr g (by rw [← e']; simp [Value.ownBlock])
    rw [hgb] at ho; cases ho; cases hc
theorem bld_kept {W W' : World} {row : Option Nat} {B b : Nat} {us : List Value} (h : Lib.IsBuilder tBld tU8 B b us W) (hg : W.grownBy W' row) (hr : ∀ r, row = some r → ∃ o : Obj, W.heap[r]? = some o ∧ o.isCells = false) : Lib.IsBuilder tBld tU8 B b us W' := by
  have key : ∀ {p : Value}, Lib.BuilderAt tBld tU8 B b p us W → Lib.BuilderAt tBld tU8 B b p us W' := by
    rintro p ⟨h1, v, h2, h3, h4⟩
    refine ⟨h1, v, (hg.block b (Array.getElem?_eq_some_iff.1 h2).1 fun e => ?_).trans h2, h3.kept hg (own_apart h3 hr), h4⟩
    obtain ⟨o, ho, hc⟩ := hr b e.symm
    rw [h2] at ho; cases ho; cases hc
  exact h.elim (fun h => .inl (key h)) (fun h => .inr (key h))
theorem bld_type {W : World} {B b : Nat} {us : List Value} (h : Lib.IsBuilder tBld tU8 B b us W) : ∃ c, W.heap[b]? = some (.cells c tBld (0, 0)) := by
  rcases h with ⟨_, v, h2, _, _⟩ | ⟨_, v, h2, _, _⟩
  · exact ⟨_, h2⟩
  · exact ⟨_, h2⟩
theorem keep_other {D k : Nat} {W W' : World} {o : Obj} (h : Keeps8 D W W') (ho : W.heap[k]? = some o) (hk : k ≠ D) (hn : ∀ c fz, o ≠ .cells c tU8 fz) : W'.heap[k]? = some o := h k o ho (fun e => hk (by cases e; rfl)) hn
theorem keep_from {D B : Nat} {W W' : World} (h : Keeps8 D W W') (hs : W.heap.size ≤ W'.heap.size) (hB : D < B) : KeepsFrom B W W' :=
  ⟨hs, fun k o hk ho hc => keep_other h ho (by omega) (fun c fz e => by subst e; cases hc)⟩
theorem keep_blk {D G : Nat} {W W' : World} {t : TypeId} {l : List Value} (h : Keeps8 D W W') (hb : Blk W G t l) (hG : G ≠ D) (ht : t ≠ tU8) : Blk W' G t l :=
  keep_other h hb hG (fun c fz e => by injection e with _ e _; exact ht e)
theorem kt_bld {B D : Nat} {us : List Value} {W W' : World} (h : Lib.IsBuilder tBld tU8 B D us W) (k : Keeps8 D W W') : KT W W' := fun G t ls ht hb => by
  refine keep_blk k hb ?_ ?_
  · rintro rfl
    obtain ⟨c, hc⟩ := bld_type h
    have hb0 := hb
    unfold Blk at hb0
    rw [hc] at hb0
    injection hb0 with hb0
    injection hb0 with _ hb0 _
    rcases ht with rfl | rfl
    · exact absurd hb0 (by decide)
    · exact absurd hb0 (by decide)
  · rcases ht with rfl | rfl <;> decide
/-- What the loop of Format keeps. -/
def FmI (D : Nat) (p : Pat) (v : Value) (w1 : World) (pre : List ByteArray) (W : World) : Prop :=
  Blk W (D + 1) tPat [.string p.on, .string p.nn, v] ∧ Lib.IsBuilder tBld tU8 D D (Lib.byteCells (joinL pre)) W ∧ Below D w1 W
def FmD (D : Nat) (w1 : World) (pre : List ByteArray) (W : World) : Prop := Lib.IsBuilder tBld tU8 D D (Lib.byteCells (joinL pre)) W ∧ Below D w1 W
theorem FmI.own {D : Nat} {p : Pat} {v : Value} {w A A' : World} {pre : List ByteArray} {row : Option Nat} (h : FmI D p v w pre A) (hw : D ≤ w.heap.size) (hg : A.grownBy A' row) (hr : ∀ r, row = some r → D ≤ r ∧ ∃ o : Obj, A.heap[r]? = some o ∧ o.isCells = false) : FmI D p v w pre A' := by
  have hr2 : ∀ r, row = some r → ∃ o : Obj, A.heap[r]? = some o ∧ o.isCells = false := fun r e => (hr r e).2
  exact ⟨blk_grown h.1 hg hr2, bld_kept h.2.1 hg hr2, h.2.2.grown hg (by have := h.2.2.size; omega) (fun k e => (hr k e).1)⟩
theorem FmD.own {D : Nat} {w A A' : World} {pre : List ByteArray} {row : Option Nat} (h : FmD D w pre A) (hw : D ≤ w.heap.size) (hg : A.grownBy A' row) (hr : ∀ r, row = some r → D ≤ r ∧ ∃ o : Obj, A.heap[r]? = some o ∧ o.isCells = false) : FmD D w pre A' := by
  have hr2 : ∀ r, row = some r → ∃ o : Obj, A.heap[r]? = some o ∧ o.isCells = false := fun r e => (hr r e).2
  exact ⟨bld_kept h.1 hg hr2, h.2.grown hg (by have := h.2.size; omega) (fun k e => (hr k e).1)⟩
def fmtB (p : Pat) : ByteArray := if chkC p = 0 then ⟨(joinL (partsF p)).toArray⟩ else ⟨#[]⟩
def FmPost (p : Pat) (w : World) (e : Ending) (w' : World) : Prop := e = .returned (.tuple #[.string (fmtB p), .int .i64 (chkC p)]) ∧ Below w.heap.size w w'
theorem chk_good {p : Pat} (hs : PatSm p.hunks) (h : chkC p = 0) : PatOk p ∧ szL (partsF p) ≤ 16777216 := by
  unfold chkC at h
  split at h
  · rename_i h1
    split at h
    · rename_i h2
      split at h
      · rename_i h3; exact ⟨pat_ok hs h1.1 h1.2 h2, h3⟩
      · omega
    · omega
  · omega
set_option maxRecDepth 100000 in
set_option maxHeartbeats 4000000 in
theorem Format_any (p : Pat) (v : Value) (w : World) (hr : RdP w v p.hunks) (hs : PatSm p.hunks) (hw : Pow w) : Calls Tryd.prog 10 #[tPatV p v] w (FmPost p w) := by
  obtain ⟨zs, hz⟩ := hr.z
  have HB0 := Lib.hid ((Below.refl w.heap.size w).alloc (Nat.le_refl _) (.cells #[.string p.on, .string p.nn, v] tPat))
  have HCk := Lib.hid (Check_any p v _ (hr.below HB0.out) hs (hw.stays HB0.out))
  have HBox : Hid (∀ w', Below (w.heap.size + 1) (w.alloc (.cells #[.string p.on, .string p.nn, v] tPat)) w' → Below w.heap.size w w' ∧ w'.cell? ⟨w.heap.size, 0, none⟩ = some (.string p.on) ∧ w'.cell? ⟨w.heap.size, 1, none⟩ = some (.string p.nn) ∧ w'.cell? ⟨w.heap.size, 2, none⟩ = some v) := Lib.hid (fun w' hb => by
    have h := heap_new w (.cells #[.string p.on, .string p.nn, v] tPat)
    have hk : Blk w' w.heap.size tPat [.string p.on, .string p.nn, v] := (hb.block _ (Nat.lt_succ_self _)).trans h
    exact ⟨HB0.out.trans (hb.mono (Nat.le_succ _)), hk.cell (k := 0) (show 0 < 3 by decide), hk.cell (k := 1) (show 1 < 3 by decide), hk.cell (k := 2) (show 2 < 3 by decide)⟩)
  refine (callsIn_wide (n := 4)).1 ?_
  refine callsIn_of_wp_marks Tryd.func10 rfl trivial ?_ rfl
  simp only [Tryd.ntmps10, List.size_toArray, List.length_cons, List.length_nil, Nat.reduceAdd, Nat.reduceSub, Array.replicate_succ, Array.replicate_zero, List.push_toArray, List.append_toArray, List.nil_append, List.cons_append]
  by_cases hc : chkC p = 0
  · obtain ⟨hok, hsz⟩ := chk_good hs hc
    have HE : Hid (fmtB p = ⟨(joinL (partsF p)).toArray⟩) := Lib.hid (by unfold fmtB; rw [if_pos hc])
    have HA := Lib.hid (fun w => parts_any p.on p.nn v w)
    have HPost : Hid (∀ W, Below w.heap.size w W → FmPost p w (.returned (.tuple #[.string ⟨(joinL (partsF p)).toArray⟩, .int .i64 0])) W) := Lib.hid (fun W h => ⟨by rw [HE.out, hc], h⟩)
    clear hr
    gi_wp2
    refine ⟨(trivial : Fence.wide.fn 18), ?_⟩
    gi_at_call 18
    refine (callsIn_wide.2 HCk.out).mono ?_
    rintro e w1 ⟨rfl, hb1⟩
    rw [hc]
    obtain ⟨HB1, k0, k1, k2⟩ := HBox.out w1 (hb1.mono (by simp))
    have hwz : w.heap.size < w1.heap.size := by have := hb1.size; rw [World.size_alloc] at this; omega
    clear hb1 HBox HCk
    have hd0 := (Below.heap_alloc w1 (.cells #[.pointer none, .slice none 0 0] tBld))
    have hbx : ∀ (v' : Value) (i : Nat), w1.cell? ⟨w.heap.size, i, none⟩ = some v' → (w1.alloc (.cells #[.pointer none, .slice none 0 0] tBld)).cell? ⟨w.heap.size, i, none⟩ = some v' := fun v' i h => (World.cell?_of_block (hd0 _ hwz)).trans h
    have k3 := hbx _ _ k0
    have k4 := hbx _ _ k1
    have k5 := hbx _ _ k2
    clear hbx hd0
    gi_wp2
    refine ⟨(trivial : Fence.wide.fn 19), ?_⟩
    gi_at_call 19
    refine (callsIn_wide.2 (HA.out _)).mono ?_
    rintro e w9 ⟨rfl, hw9⟩
    gi_wp2
    obtain ⟨D, hD⟩ : ∃ D, D = w1.heap.size := ⟨_, rfl⟩
    have HB9 : Below D w1 w9 := by rw [hw9, hD]; exact ((Below.refl _ w1).alloc (Nat.le_refl _) _).alloc (by simp) _
    have hz9 : w9.heap.size = D + 2 := by rw [hw9, hD]; simp
    have hp9 : Blk w9 (D + 1) tPat [.string p.on, .string p.nn, v] := by
      rw [hw9, hD]
      have := heap_new (w1.alloc (.cells #[.pointer none, .slice none 0 0] tBld)) (.cells #[.string p.on, .string p.nn, v] tPat)
      rw [World.size_alloc] at this
      exact this
    have hb9 : Lib.IsBuilder tBld tU8 D D (Lib.byteCells (joinL [])) w9 := by
      refine .inl ⟨Nat.le_refl _, .slice none 0 0, ?_, World.ownsRow_nil _ _ _ _, by simp [Value.ownBlock]⟩
      rw [hw9, hD]
      exact (Below.heap_alloc _ _ _ (by simp)).trans (World.alloc_heap_new w1 _)
    rw [← hw9]
    clear hw9 HA k0 k1 k2 k3 k4 k5
    subst hD
    have hDw : w1.heap.size ≤ w1.heap.size := Nat.le_refl _
    refine range_parts 4 (by omega) (w1.heap.size + 1) p v zs hok (by rfl) rfl
      (FmI w1.heap.size p v w1) (fun c pre W => False) (FmD w1.heap.size w1)
      (fun pre W h => ⟨⟨h.1, hz.below (HB1.trans (h.2.2.mono (Nat.le_of_lt hwz)))⟩, hw.stays (HB1.trans (h.2.2.mono (Nat.le_of_lt hwz)))⟩)
      (fun s A B row h hg hr => h.own hDw hg (fun r e => ⟨by have := (hr r e).1; omega, (hr r e).2⟩)) (fun c s A B row h hg hr => h) (fun s A B row h hg hr => h.own hDw hg (fun r e => ⟨by have := (hr r e).1; omega, (hr r e).2⟩))
      ⟨hp9, hb9, HB9⟩ (fun xs W h => ⟨h.2.1, h.2.2⟩)
      (fun x => { tmps := #[tPatV p v, .pointer (some ⟨w.heap.size, 0, none⟩), .string ⟨#[]⟩, .int .i64 0, .int .i64 0, .pointer (some ⟨w1.heap.size, 0, none⟩), .string x, tPatV p v, .int .i64 0, .int .i64 0, .bool false, undef, tPatV p v, partsV (w1.heap.size + 1), .string x, undef, undef, undef], defers := [] })
      ?assign ?body ?done ?stop
    case assign =>
      intro l x W K hK
      rw [put_one]
      gi_wp2
      exact hK
    case body =>
      intro l pre x W hI hpre
      obtain ⟨h1, h2, h3⟩ := hI
      have e1 := szL_snoc pre x
      have hT := szL_pre hpre
      have HW1 := Lib.hid (Oc.write_any x h2 (by rw [Lib.byteCells_length, joinL_len]; omega) h3.size)
      have HFin : Hid (∀ W1, Lib.IsBuilder tBld tU8 w1.heap.size w1.heap.size (Lib.byteCells (joinL pre) ++ Lib.strCells x) W1 → Below w1.heap.size W W1 → Keeps8 w1.heap.size W W1 → KeepsFrom w9.heap.size W W1 ∧ KT W W1 ∧ FmI w1.heap.size p v w1 (pre ++ [x]) W1) := Lib.hid (by
        intro W1 i1 b1 k1
        refine ⟨keep_from k1 b1.size (by omega), kt_bld h2 k1, keep_blk k1 h1 (by omega) (by decide), ?_, h3.trans b1⟩
        rw [joinL_snoc, cells_app]
        exact i1)
      clear hok hz h1 h2 h3 e1 hT hpre hp9 hb9 HB9 hz9 HB0 HB1 hsz
      gi_wp2_with (refine ⟨(trivial : Fence.wide.fn 20), ?_⟩; gi_at_call 20; refine (CallsIn.inRound l (callsIn_wide.2 HW1.out)).mono ?_; clear HW1; rintro e W1 ⟨rfl, i1, b1, k1⟩; have HF := Lib.hid (HFin.out W1 i1 b1 k1); clear i1 b1 k1)
      exact HF.out
    case done =>
      intro K W hK0 hI hK
      obtain ⟨h2, h4⟩ := hI
      have hwb := Nat.le_of_lt hwz
      have HSt := Lib.hid (Tryd.Builder_String_any_k w1.heap.size w1.heap.size (joinL (partsF p)) W (Lib.IsBuilderF.of h2) h4.size)
      have HFin : Hid (∀ W2, Below w1.heap.size W W2 → Keeps8 w1.heap.size W W2 → W2.heap[K]? = some (.deferred (some [])) ∧ Below w.heap.size w (W2.putObj K (.deferred none))) := Lib.hid (by
        intro W2 b2 k2
        have hk2 : W2.heap[K]? = some (.deferred (some [])) := keep_other k2 hK (by omega) (fun c fz e => by cases e)
        exact ⟨hk2, HB1.trans (((h4.trans b2).trans (belowK_b (w := w9) (n₀ := w1.heap.size) (by omega) W2 K _ (.deferred none) hK0 hk2 rfl rfl)).mono hwb)⟩)
      clear hok hz h2 h4 hp9 hb9 HB9 hz9 HB0 HB1 hsz
      gi_wp2_with (refine ⟨(trivial : Fence.wide.fn 21), ?_⟩; gi_at_call 21; refine (callsIn_wide.2 HSt.out).mono ?_; clear HSt; rintro e W2 ⟨rfl, _, b2, k2⟩; have HF := Lib.hid (HFin.out W2 b2 k2); clear b2 k2)
      obtain ⟨q1, q2⟩ := HF.out
      refine ⟨by simp, .inl ⟨_, _, rfl, run_takeDeferred q1, ?_⟩⟩
      exact ⟨.tuple #[.string ⟨(joinL (partsF p)).toArray⟩, .int .i64 0], (by simp [results, Tryd.f10, go_sem]), HPost.out _ q2⟩
    case stop =>
      rintro D c pre W _ _ _ h _
      exact h.elim
  · obtain ⟨z, hz0⟩ : ∃ z, z = chkC p := ⟨_, rfl⟩
    have HPost : Hid (∀ W, Below w.heap.size w W → FmPost p w (.returned (.tuple #[.string ⟨#[]⟩, .int .i64 z])) W) := Lib.hid (fun W h => ⟨by unfold fmtB; rw [if_neg hc, hz0], h⟩)
    rw [← hz0] at HCk hc
    have d1 : (z != 0) = true := by rw [bne_iff_ne]; exact hc
    clear hr hz0
    gi_wp2
    refine ⟨(trivial : Fence.wide.fn 18), ?_⟩
    gi_at_call 18
    refine (callsIn_wide.2 HCk.out).mono ?_
    rintro e w1 ⟨rfl, hb1⟩
    obtain ⟨HB1, k0, k1, k2⟩ := HBox.out w1 (hb1.mono (by simp))
    have HBz := Lib.hid HB1
    clear hb1 HBox HCk HB1
    gi_wp2
    exact ⟨.tuple #[.string ⟨#[]⟩, .int .i64 z], (by simp [results, Tryd.f10, go_sem]), HPost.out _ HBz.out⟩
end Uf
end Go.Proofs.YtlnghfmedkfkmaaDoor

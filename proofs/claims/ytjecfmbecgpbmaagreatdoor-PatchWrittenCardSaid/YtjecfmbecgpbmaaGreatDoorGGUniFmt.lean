/- Facts; each states its conditions. -/
import Derived.Test.YtjecfmbecgpbmaaGreatDoorGUniCheck
import Derived.Test.YtjecfmbecgpbmaaGreatDoorOccBld
import Derived.Test.YtjecfmbecgpbmaaGreatDoorUniCmp
import Derived.Test.YtjecfmbecgpbmaaGreatDoorScanQuoteR
import Derived.Deep.AppendLies
import Derived.Test.YtjecfmbecgpbmaaGreatDoorGTextBase
import Derived.Test.YtjecfmbecgpbmaaGreatDoorUniMake
import Derived.Test.YtjecfmbecgpbmaaGreatDoorGPatB
import Derived.Test.YtjecfmbecgpbmaaGreatDoorGHnkRefG
namespace Go.Proofs.YtjecfmbecgpbmaaGreatDoor
section
section
namespace Cm
end Cm
namespace Hn
end Hn
namespace Oc
end Oc
namespace Sc
end Sc
namespace Tx
end Tx
open Go.RowKit
attribute [local go_sem] Oper.semAt_some
namespace Uf
open Cm Hn
open Sc (fmtR Pow RdK)
open Tx (bs)
open Oc (tBld tU8 Keeps8)
def joinL (xs : List ByteArray) : List UInt8 := xs.flatMap bs
theorem joinL_len (xs : List ByteArray) : (joinL xs).length = szL xs := by
 unfold joinL szL
 induction xs with
 | nil => rfl
 | cons a l ih => rw [List.flatMap_cons, List.length_append, ih, List.map_cons, List.sum_cons, Tx.bs_len]
theorem joinL_snoc (xs : List ByteArray) (x : ByteArray) : joinL (xs ++ [x]) = joinL xs ++ bs x := by unfold joinL; simp
theorem cells_app (l m : List UInt8) : Lib.byteCells (l ++ m) = Lib.byteCells l ++ Lib.byteCells m := by
 unfold Lib.byteCells
 rw [List.map_append]
theorem own_apart {W : World} {row : Option Nat} {base : Nat} {e : TypeId} {v : Value} {k : Nat} {xs : List Value} (h : W.ownsRow base e 1 v k xs) (hr : ∀ r, row = some r → ∃ o : Obj, W.heap[r]? = some o ∧ o.isCells = false) : v.ownBlock = none ∨ v.ownBlock ≠ row := by
 rcases h.2 with ⟨rfl, _⟩ | ⟨g, cap, cur, rfl, _, hgb, _⟩
 · exact .inl rfl
 · refine .inr fun e' => ?_
   obtain ⟨o, ho, hc⟩ := hr g (by rw [← e']; simp [Value.ownBlock])
   rw [hgb] at ho; cases ho; cases hc
theorem bld_kept {W W' : World} {row : Option Nat} {B b : Nat} {us : List Value} (h : Lib.IsBuilder tBld tU8 B b us W) (hg : W.grownBy W' row) (hr : ∀ r, row = some r → ∃ o : Obj, W.heap[r]? = some o ∧ o.isCells = false) : Lib.IsBuilder tBld tU8 B b us W' := by
 have key : ∀ {p : Value}, Lib.BuilderAt tBld tU8 B b p us W → Lib.BuilderAt tBld tU8 B b p us W' := by
  rintro p ⟨h1, v, h2, h3, h4⟩
  refine ⟨h1, v, (hg.block b (Array.getElem?_eq_some_iff.1 h2).1 fun e => ?_).trans h2, h3.kept hg (own_apart h3 hr), h4⟩
  obtain ⟨o, ho, hc⟩ := hr b e.symm
  rw [h2] at ho; cases ho; cases hc
 exact h.elim (fun h => .inl (key h)) (fun h => .inr (key h))
theorem bld_type {W : World} {B b : Nat} {us : List Value} (h : Lib.IsBuilder tBld tU8 B b us W) : ∃ c, W.heap[b]? = some (.cells c tBld (0, 0)) := by
 rcases h with ⟨_, v, h2, _, _⟩ | ⟨_, v, h2, _, _⟩
 · exact ⟨_, h2⟩
 · exact ⟨_, h2⟩
theorem keep_other {D k : Nat} {W W' : World} {o : Obj} (h : Keeps8 D W W') (ho : W.heap[k]? = some o) (hk : k ≠ D) (hn : ∀ c fz, o ≠ .cells c tU8 fz) : W'.heap[k]? = some o := h k o ho (fun e => hk (by cases e; rfl)) hn
theorem keep_from {D B : Nat} {W W' : World} (h : Keeps8 D W W') (hs : W.heap.size ≤ W'.heap.size) (hB : D < B) : KeepsFrom B W W' :=
 ⟨hs, fun k o hk ho hc => keep_other h ho (by omega) (fun c fz e => by subst e; cases hc)⟩
theorem keep_blk {D G : Nat} {W W' : World} {t : TypeId} {l : List Value} (h : Keeps8 D W W') (hb : Blk W G t l) (hG : G ≠ D) (ht : t ≠ tU8) : Blk W' G t l :=
 keep_other h hb hG (fun c fz e => by injection e with _ e _; exact ht e)
theorem kt_bld {B D : Nat} {us : List Value} {W W' : World} (h : Lib.IsBuilder tBld tU8 B D us W) (k : Keeps8 D W W') : KT W W' := fun G t ls ht hb => by
 refine keep_blk k hb ?_ ?_
 · rintro rfl
   obtain ⟨c, hc⟩ := bld_type h
   have hb0 := hb
   unfold Blk at hb0
   rw [hc] at hb0
   injection hb0 with hb0
   injection hb0 with _ hb0 _
   rcases ht with rfl | rfl
   · exact absurd hb0 (by decide)
   · exact absurd hb0 (by decide)
 · rcases ht with rfl | rfl <;> decide
def FmI (D : Nat) (p : Pat) (v : Value) (w1 : World) (pre : List ByteArray) (W : World) : Prop :=
 Blk W (D + 1) tPat [.string p.on, .string p.nn, v] ∧ Lib.IsBuilder tBld tU8 D D (Lib.byteCells (joinL pre)) W ∧ Below D w1 W
def FmD (D : Nat) (w1 : World) (pre : List ByteArray) (W : World) : Prop := Lib.IsBuilder tBld tU8 D D (Lib.byteCells (joinL pre)) W ∧ Below D w1 W
theorem FmI.own {D : Nat} {p : Pat} {v : Value} {w A A' : World} {pre : List ByteArray} {row : Option Nat} (h : FmI D p v w pre A) (hw : D ≤ w.heap.size) (hg : A.grownBy A' row) (hr : ∀ r, row = some r → D ≤ r ∧ ∃ o : Obj, A.heap[r]? = some o ∧ o.isCells = false) : FmI D p v w pre A' := by
 have hr2 : ∀ r, row = some r → ∃ o : Obj, A.heap[r]? = some o ∧ o.isCells = false := fun r e => (hr r e).2
 exact ⟨blk_grown h.1 hg hr2, bld_kept h.2.1 hg hr2, h.2.2.grown hg (by have := h.2.2.size; omega) (fun k e => (hr k e).1)⟩
theorem FmD.own {D : Nat} {w A A' : World} {pre : List ByteArray} {row : Option Nat} (h : FmD D w pre A) (hw : D ≤ w.heap.size) (hg : A.grownBy A' row) (hr : ∀ r, row = some r → D ≤ r ∧ ∃ o : Obj, A.heap[r]? = some o ∧ o.isCells = false) : FmD D w pre A' := by
 have hr2 : ∀ r, row = some r → ∃ o : Obj, A.heap[r]? = some o ∧ o.isCells = false := fun r e => (hr r e).2
 exact ⟨bld_kept h.1 hg hr2, h.2.grown hg (by have := h.2.size; omega) (fun k e => (hr k e).1)⟩
def fmtB (p : Pat) : ByteArray := if chkC p = 0 then ⟨(joinL (partsF p)).toArray⟩ else ⟨#[]⟩
def FmPost (p : Pat) (w : World) (e : Ending) (w' : World) : Prop := e = .returned (.tuple #[.string (fmtB p), .int .i64 (chkC p)]) ∧ Below w.heap.size w w'
theorem chk_good {p : Pat} (hs : PatSm p.hunks) (h : chkC p = 0) : PatOk p ∧ szL (partsF p) ≤ 16777216 := by
 unfold chkC at h
 split at h
 · rename_i h1
   split at h
   · rename_i h2
     split at h
     · rename_i h3; exact ⟨pat_ok hs h1.1 h1.2 h2, h3⟩
     · omega
   · omega
 · omega
set_option maxRecDepth 100000 in
set_option maxHeartbeats 4000000 in
theorem Format_any (p : Pat) (v : Value) (w : World) (hr : RdP w v p.hunks) (hs : PatSm p.hunks) (hw : Pow w) : Calls Tryz.prog 26 #[tPatV p v] w (FmPost p w) := by
 obtain ⟨zs, hz⟩ := hr.z
 have HB0 := Lib.hid ((Below.refl w.heap.size w).alloc (Nat.le_refl _) (.cells #[.string p.on, .string p.nn, v] tPat))
 have HCk := Lib.hid (Check_any p v _ (hr.below HB0.out) hs (hw.stays HB0.out))
 have HBox : Hid (∀ w', Below (w.heap.size + 1) (w.alloc (.cells #[.string p.on, .string p.nn, v] tPat)) w' → Below w.heap.size w w' ∧ w'.cell? ⟨w.heap.size, 0, none⟩ = some (.string p.on) ∧ w'.cell? ⟨w.heap.size, 1, none⟩ = some (.string p.nn) ∧ w'.cell? ⟨w.heap.size, 2, none⟩ = some v) := Lib.hid (fun w' hb => by
  have h := heap_new w (.cells #[.string p.on, .string p.nn, v] tPat)
  have hk : Blk w' w.heap.size tPat [.string p.on, .string p.nn, v] := (hb.block _ (Nat.lt_succ_self _)).trans h
  exact ⟨HB0.out.trans (hb.mono (Nat.le_succ _)), hk.cell (k := 0) (show 0 < 3 by decide), hk.cell (k := 1) (show 1 < 3 by decide), hk.cell (k := 2) (show 2 < 3 by decide)⟩)
 refine (callsIn_wide (n := 4)).1 ?_
 refine callsIn_of_wp_marks Tryz.func26 rfl trivial ?_ rfl
 simp only [Tryz.ntmps26, List.size_toArray, List.length_cons, List.length_nil, Nat.reduceAdd, Nat.reduceSub, Array.replicate_succ, Array.replicate_zero, List.push_toArray, List.append_toArray, List.nil_append, List.cons_append]
 by_cases hc : chkC p = 0
 · obtain ⟨hok, hsz⟩ := chk_good hs hc
   have HE : Hid (fmtB p = ⟨(joinL (partsF p)).toArray⟩) := Lib.hid (by unfold fmtB; rw [if_pos hc])
   have HA := Lib.hid (fun w => parts_any p.on p.nn v w)
   have HPost : Hid (∀ W, Below w.heap.size w W → FmPost p w (.returned (.tuple #[.string ⟨(joinL (partsF p)).toArray⟩, .int .i64 0])) W) := Lib.hid (fun W h => ⟨by rw [HE.out, hc], h⟩)
   clear hr
   gi_wp2
   refine ⟨(trivial : Fence.wide.fn 43), ?_⟩
   gi_at_call 43
   refine (callsIn_wide.2 HCk.out).mono ?_
   rintro e w1 ⟨rfl, hb1⟩
   rw [hc]
   obtain ⟨HB1, k0, k1, k2⟩ := HBox.out w1 (hb1.mono (by simp))
   have hwz : w.heap.size < w1.heap.size := by have := hb1.size; rw [World.size_alloc] at this; omega
   clear hb1 HBox HCk
   have hd0 := (Below.heap_alloc w1 (.cells #[.pointer none, .slice none 0 0] tBld))
   have hbx : ∀ (v' : Value) (i : Nat), w1.cell? ⟨w.heap.size, i, none⟩ = some v' → (w1.alloc (.cells #[.pointer none, .slice none 0 0] tBld)).cell? ⟨w.heap.size, i, none⟩ = some v' := fun v' i h => (World.cell?_of_block (hd0 _ hwz)).trans h
   have k3 := hbx _ _ k0
   have k4 := hbx _ _ k1
   have k5 := hbx _ _ k2
   clear hbx hd0
   gi_wp2
   refine ⟨(trivial : Fence.wide.fn 49), ?_⟩
   gi_at_call 49
   refine (callsIn_wide.2 (HA.out _)).mono ?_
   rintro e w9 ⟨rfl, hw9⟩
   gi_wp2
   obtain ⟨D, hD⟩ : ∃ D, D = w1.heap.size := ⟨_, rfl⟩
   have HB9 : Below D w1 w9 := by rw [hw9, hD]; exact ((Below.refl _ w1).alloc (Nat.le_refl _) _).alloc (by simp) _
   have hz9 : w9.heap.size = D + 2 := by rw [hw9, hD]; simp
   have hp9 : Blk w9 (D + 1) tPat [.string p.on, .string p.nn, v] := by
    rw [hw9, hD]
    have := heap_new (w1.alloc (.cells #[.pointer none, .slice none 0 0] tBld)) (.cells #[.string p.on, .string p.nn, v] tPat)
    rw [World.size_alloc] at this
    exact this
   have hb9 : Lib.IsBuilder tBld tU8 D D (Lib.byteCells (joinL [])) w9 := by
    refine .inl ⟨Nat.le_refl _, .slice none 0 0, ?_, World.ownsRow_nil _ _ _ _, by simp [Value.ownBlock]⟩
    rw [hw9, hD]
    exact (Below.heap_alloc _ _ _ (by simp)).trans (World.alloc_heap_new w1 _)
   rw [← hw9]
   clear hw9 HA k0 k1 k2 k3 k4 k5
   subst hD
   have hDw : w1.heap.size ≤ w1.heap.size := Nat.le_refl _
   refine range_parts 4 (by omega) (w1.heap.size + 1) p v zs hok (by rfl) rfl
    (FmI w1.heap.size p v w1) (fun c pre W => False) (FmD w1.heap.size w1)
    (fun pre W h => ⟨⟨h.1, hz.below (HB1.trans (h.2.2.mono (Nat.le_of_lt hwz)))⟩, hw.stays (HB1.trans (h.2.2.mono (Nat.le_of_lt hwz)))⟩)
    (fun s A B row h hg hr => h.own hDw hg (fun r e => ⟨by have := (hr r e).1; omega, (hr r e).2⟩)) (fun c s A B row h hg hr => h) (fun s A B row h hg hr => h.own hDw hg (fun r e => ⟨by have := (hr r e).1; omega, (hr r e).2⟩))
    ⟨hp9, hb9, HB9⟩ (fun xs W h => ⟨h.2.1, h.2.2⟩)
    (fun x => { tmps := #[tPatV p v, .pointer (some ⟨w.heap.size, 0, none⟩), .string ⟨#[]⟩, .int .i64 0, .int .i64 0, .pointer (some ⟨w1.heap.size, 0, none⟩), .string x, tPatV p v, .int .i64 0, .int .i64 0, .bool false, undef, tPatV p v, partsV (w1.heap.size + 1), .string x, undef, undef, undef], defers := [] })
    ?assign ?body ?done ?stop
   case assign =>
    intro l x W K hK
    rw [put_one]
    gi_wp2
    exact hK
   case body =>
    intro l pre x W hI hpre
    obtain ⟨h1, h2, h3⟩ := hI
    have e1 := szL_snoc pre x
    have hT := szL_pre hpre
    have HW1 := Lib.hid (Oc.write_any x h2 (by rw [Lib.byteCells_length, joinL_len]; omega) h3.size)
    have HFin : Hid (∀ W1, Lib.IsBuilder tBld tU8 w1.heap.size w1.heap.size (Lib.byteCells (joinL pre) ++ Lib.strCells x) W1 → Below w1.heap.size W W1 → Keeps8 w1.heap.size W W1 → KeepsFrom w9.heap.size W W1 ∧ KT W W1 ∧ FmI w1.heap.size p v w1 (pre ++ [x]) W1) := Lib.hid (by
     intro W1 i1 b1 k1
     refine ⟨keep_from k1 b1.size (by omega), kt_bld h2 k1, keep_blk k1 h1 (by omega) (by decide), ?_, h3.trans b1⟩
     rw [joinL_snoc, cells_app]
     exact i1)
    clear hok hz h1 h2 h3 e1 hT hpre hp9 hb9 HB9 hz9 HB0 HB1 hsz
    gi_wp2_with (refine ⟨(trivial : Fence.wide.fn 50), ?_⟩; gi_at_call 50; refine (CallsIn.inRound l (callsIn_wide.2 HW1.out)).mono ?_; clear HW1; rintro e W1 ⟨rfl, i1, b1, k1⟩; have HF := Lib.hid (HFin.out W1 i1 b1 k1); clear i1 b1 k1)
    exact HF.out
   case done =>
    intro K W hK0 hI hK
    obtain ⟨h2, h4⟩ := hI
    have hwb := Nat.le_of_lt hwz
    have HSt := Lib.hid (Tryz.Builder_String_any_k w1.heap.size w1.heap.size (joinL (partsF p)) W (Lib.IsBuilderF.of h2) h4.size)
    have HFin : Hid (∀ W2, Below w1.heap.size W W2 → Keeps8 w1.heap.size W W2 → W2.heap[K]? = some (.deferred (some [])) ∧ Below w.heap.size w (W2.putObj K (.deferred none))) := Lib.hid (by
     intro W2 b2 k2
     have hk2 : W2.heap[K]? = some (.deferred (some [])) := keep_other k2 hK (by omega) (fun c fz e => by cases e)
     exact ⟨hk2, HB1.trans (((h4.trans b2).trans (belowK_b (w := w9) (n₀ := w1.heap.size) (by omega) W2 K _ (.deferred none) hK0 hk2 rfl rfl)).mono hwb)⟩)
    clear hok hz h2 h4 hp9 hb9 HB9 hz9 HB0 HB1 hsz
    gi_wp2_with (refine ⟨(trivial : Fence.wide.fn 51), ?_⟩; gi_at_call 51; refine (callsIn_wide.2 HSt.out).mono ?_; clear HSt; rintro e W2 ⟨rfl, _, b2, k2⟩; have HF := Lib.hid (HFin.out W2 b2 k2); clear b2 k2)
    obtain ⟨q1, q2⟩ := HF.out
    refine ⟨by simp, .inl ⟨_, _, rfl, run_takeDeferred q1, ?_⟩⟩
    exact ⟨.tuple #[.string ⟨(joinL (partsF p)).toArray⟩, .int .i64 0], (by simp [results, Tryz.f26, go_sem]), HPost.out _ q2⟩
   case stop =>
    rintro D c pre W _ _ _ h _
    exact h.elim
 · obtain ⟨z, hz0⟩ : ∃ z, z = chkC p := ⟨_, rfl⟩
   have HPost : Hid (∀ W, Below w.heap.size w W → FmPost p w (.returned (.tuple #[.string ⟨#[]⟩, .int .i64 z])) W) := Lib.hid (fun W h => ⟨by unfold fmtB; rw [if_neg hc, hz0], h⟩)
   rw [← hz0] at HCk hc
   have d1 : (z != 0) = true := by rw [bne_iff_ne]; exact hc
   clear hr hz0
   gi_wp2
   refine ⟨(trivial : Fence.wide.fn 43), ?_⟩
   gi_at_call 43
   refine (callsIn_wide.2 HCk.out).mono ?_
   rintro e w1 ⟨rfl, hb1⟩
   obtain ⟨HB1, k0, k1, k2⟩ := HBox.out w1 (hb1.mono (by simp))
   have HBz := Lib.hid HB1
   clear hb1 HBox HCk HB1
   gi_wp2
   exact ⟨.tuple #[.string ⟨#[]⟩, .int .i64 z], (by simp [results, Tryz.f26, go_sem]), HPost.out _ HBz.out⟩
end Uf
end
section
open Go.RowKit
namespace Uf
open Cm Hn
open Sc (fmtR Pow RdK)
open Tx (bs)
def WrPost (p : Pat) (w : World) (e : Ending) (w' : World) : Prop := (∃ s : ByteArray, e = .returned (.string s) ∧ bs s = joinL (partsF p)) ∧ Below w.heap.size w w'
set_option maxRecDepth 100000 in
set_option maxHeartbeats 2000000 in
theorem CheckR_of (p : Pat) (v : Value) (w : World) (hr : RdP w v p.hunks) (hs : PatBg p.hunks)
 (hW : nameB p.on = true → nameB p.nn = true → hksB (0, false) (0, false) p.hunks = true → ∀ w', Below w.heap.size w w' → Calls Tryz.prog 67 #[.agg #[.string p.on, .string p.nn, v]] w' (WrPost p w')) :
 Calls Tryz.prog 40 #[tPatV p v] w (CkPost (chkC p) w) := by
 have HN := Lib.hid (fun s w => NameR_any s w)
 have HB0 := Lib.hid ((Below.refl w.heap.size w).alloc (Nat.le_refl _) (.cells #[.string p.on, .string p.nn, v] tPat))
 have HGd : Hid (∀ w', Below w.heap.size w w' → Calls Tryz.prog 66 #[.agg #[.string p.on, .string p.nn, v]] w' (AhPost p.hunks w')) := Lib.hid (fun w' hb => good_any p v w' (hr.below hb) hs)
 have HWr := Lib.hid hW
 have HBox : Hid (∀ w', Below (w.heap.size + 1) (w.alloc (.cells #[.string p.on, .string p.nn, v] tPat)) w' → Below w.heap.size w w' ∧ w'.cell? ⟨w.heap.size, 0, none⟩ = some (.string p.on) ∧ w'.cell? ⟨w.heap.size, 1, none⟩ = some (.string p.nn) ∧ w'.cell? ⟨w.heap.size, 2, none⟩ = some v) := Lib.hid (fun w' hb => by
  have h := heap_new w (.cells #[.string p.on, .string p.nn, v] tPat)
  have hk : Blk w' w.heap.size tPat [.string p.on, .string p.nn, v] := (hb.block _ (Nat.lt_succ_self _)).trans h
  exact ⟨HB0.out.trans (hb.mono (Nat.le_succ _)), hk.cell (k := 0) (show 0 < 3 by decide), hk.cell (k := 1) (show 1 < 3 by decide), hk.cell (k := 2) (show 2 < 3 by decide)⟩)
 obtain ⟨A, c, rfl⟩ := hr.form
 clear hr hs hW
 cases h1 : nameB p.on with
 | false =>
   have HC : Hid (chkC p = 120) := Lib.hid (by unfold chkC; rw [if_neg (by rw [h1]; simp)])
   rw [HC.out]
   clear HC
   go_enter Tryz.func40, Tryz.ntmps40
   go_wp2_with (go_at_call 53; refine (HN.out _ _).mono ?_; rintro e w1 ⟨rfl, rfl⟩; rw [h1])
   go_ret
   exact ⟨rfl, HB0.out⟩
 | true =>
   cases h2 : nameB p.nn with
   | false =>
     have HC : Hid (chkC p = 120) := Lib.hid (by unfold chkC; rw [if_neg (by rw [h2]; simp)])
     rw [HC.out]
     clear HC
     go_enter Tryz.func40, Tryz.ntmps40
     go_wp2_with fail
     refine (HN.out _ _).mono ?_
     rintro e w1 ⟨rfl, rfl⟩
     rw [h1]
     go_wp2_with fail
     refine (HN.out _ _).mono ?_
     rintro e w1 ⟨rfl, rfl⟩
     rw [h2]
     go_wp2_with fail
     go_ret
     exact ⟨rfl, HB0.out⟩
   | true =>
     have HA1 := Lib.hid (HGd.out _ HB0.out)
     cases h3 : hksB (0, false) (0, false) p.hunks with
     | false =>
       have HC : Hid (chkC p = 121) := Lib.hid (by unfold chkC; rw [if_pos ⟨h1, h2⟩, if_neg (by rw [h3]; simp)])
       rw [HC.out]
       clear HC HWr HBox
       go_enter Tryz.func40, Tryz.ntmps40
       go_wp2_with fail
       refine (HN.out _ _).mono ?_
       rintro e w1 ⟨rfl, rfl⟩
       rw [h1]
       go_wp2_with fail
       refine (HN.out _ _).mono ?_
       rintro e w1 ⟨rfl, rfl⟩
       rw [h2]
       go_wp2_with fail
       refine HA1.out.mono ?_
       rintro e w1 ⟨rfl, hb1⟩
       rw [h3]
       have HBz := Lib.hid (HB0.out.trans (hb1.mono HB0.out.size))
       clear hb1
       go_wp2_with fail
       go_ret
       exact ⟨rfl, HBz.out⟩
     | true =>
       have HF := Lib.hid (HWr.out h1 h2 h3)
       have HSz : Hid (∀ s : ByteArray, bs s = joinL (partsF p) → s.size = szL (partsF p)) := Lib.hid (fun s h => by rw [← Tx.bs_len, h, joinL_len])
       have hz : chkC p = if szL (partsF p) ≤ 16777216 then 0 else 1 := by unfold chkC; rw [if_pos ⟨h1, h2⟩, if_pos h3]
       by_cases h4 : szL (partsF p) ≤ 16777216
       · have HC : Hid (chkC p = 0) := Lib.hid (by rw [hz, if_pos h4])
         rw [HC.out]
         clear HC hz HWr
         go_enter Tryz.func40, Tryz.ntmps40
         go_wp2_with fail
         refine (HN.out _ _).mono ?_
         rintro e w1 ⟨rfl, rfl⟩
         rw [h1]
         go_wp2_with fail
         refine (HN.out _ _).mono ?_
         rintro e w1 ⟨rfl, rfl⟩
         rw [h2]
         go_wp2_with fail
         refine HA1.out.mono ?_
         rintro e w1 ⟨rfl, hb1⟩
         rw [h3]
         have HBz := Lib.hid (HB0.out.trans (hb1.mono HB0.out.size))
         obtain ⟨-, k0, k1, k2⟩ := HBox.out w1 (hb1.mono (by simp))
         clear hb1 HBox
         go_wp2_with fail
         refine (HF.out _ HBz.out).mono ?_
         rintro e w2 ⟨⟨s, rfl, hj⟩, hb2⟩
         have hsz := HSz.out s hj
         have HBy := Lib.hid (HBz.out.trans (hb2.mono HBz.out.size))
         rw [← hsz] at h4
         clear hb2 hj hsz
         go_wp2_with fail
         go_ret
         exact ⟨rfl, HBy.out⟩
       · have HC : Hid (chkC p = 1) := Lib.hid (by rw [hz, if_neg h4])
         rw [HC.out]
         clear HC hz HWr
         go_enter Tryz.func40, Tryz.ntmps40
         go_wp2_with fail
         refine (HN.out _ _).mono ?_
         rintro e w1 ⟨rfl, rfl⟩
         rw [h1]
         go_wp2_with fail
         refine (HN.out _ _).mono ?_
         rintro e w1 ⟨rfl, rfl⟩
         rw [h2]
         go_wp2_with fail
         refine HA1.out.mono ?_
         rintro e w1 ⟨rfl, hb1⟩
         rw [h3]
         have HBz := Lib.hid (HB0.out.trans (hb1.mono HB0.out.size))
         obtain ⟨-, k0, k1, k2⟩ := HBox.out w1 (hb1.mono (by simp))
         clear hb1 HBox
         go_wp2_with fail
         refine (HF.out _ HBz.out).mono ?_
         rintro e w2 ⟨⟨s, rfl, hj⟩, hb2⟩
         have hsz := HSz.out s hj
         have HBy := Lib.hid (HBz.out.trans (hb2.mono HBz.out.size))
         rw [← hsz] at h4
         clear hb2 hj hsz
         go_wp2_with fail
         go_ret
         exact ⟨rfl, HBy.out⟩
end Uf
end
section
open Go.RowKit
namespace Uf
open Cm Hn
open Sc (fmtR Pow RdK)
open Tx (bs strsV StrsPost)
def wrLn (l : Ln) : List (List UInt8) := (bs (kB l.kind) ++ bs l.text) :: (if Tx.endedF (bs l.text) = true then [] else [bs unB])
def wrHk (h : PH) : List (List UInt8) := hdrF h.old h.new h.lines :: h.lines.flatMap wrLn
def wrHd (on nn : ByteArray) : List (List UInt8) := [[45, 45, 45, 32] ++ bs (qB on) ++ [10], [43, 43, 43, 32] ++ bs (qB nn) ++ [10]]
def wrAll (p : Pat) : List (List UInt8) := wrHd p.on p.nn ++ p.hunks.flatMap wrHk
theorem wrLn_flat (l : Ln) : (wrLn l).flatten = joinL (lnPt l) := by
 unfold wrLn lnPt joinL
 split <;> simp
theorem joinL_app (a b : List ByteArray) : joinL (a ++ b) = joinL a ++ joinL b := by unfold joinL; simp
theorem wrLs_flat (ls : List Ln) : (ls.flatMap wrLn).flatten = joinL (lnsPt ls) := by
 induction ls with
 | nil => rfl
 | cons l ls ih =>
   have e : lnsPt (l :: ls) = lnPt l ++ lnsPt ls := by unfold lnsPt; rw [List.flatMap_cons]
   rw [List.flatMap_cons, List.flatten_append, ih, wrLn_flat, e, joinL_app]
theorem wrHk_flat (h : PH) : (wrHk h).flatten = joinL (hkPt h) := by
 have e : joinL (hkPt h) = bs (hkB h) ++ joinL (lnsPt h.lines) := by unfold hkPt joinL; rw [List.flatMap_cons]
 rw [e, wrHk, List.flatten_cons, wrLs_flat]
 unfold hkB
 rw [Tx.bs_mk]
theorem wrAll_flat (p : Pat) : (wrAll p).flatten = joinL (partsF p) := by
 have e : joinL (partsF p) = bs (hdPt p.on p.nn) ++ joinL (p.hunks.flatMap hkPt) := by unfold partsF joinL; rw [List.flatMap_cons]
 have e2 : ∀ hs : List PH, (hs.flatMap wrHk).flatten = joinL (hs.flatMap hkPt) := by
  intro hs
  induction hs with
  | nil => rfl
  | cons h hs ih => rw [List.flatMap_cons, List.flatMap_cons, List.flatten_append, ih, wrHk_flat, joinL_app]
 rw [e, wrAll, List.flatten_append, e2]
 unfold wrHd hdPt
 simp
theorem pair_own (w : World) (base : Nat) (a b : List UInt8) (hb : base ≤ w.heap.size) : (w.alloc (.cells #[.string ⟨a.toArray⟩, .string ⟨b.toArray⟩] 9)).ownsRow base 9 1 (.slice (some ⟨w.heap.size, 0, none⟩) 2 2) 2 (strsV [a, b]) :=
 ⟨rfl, .inr ⟨w.heap.size, 2, _, rfl, hb, heap_new w _, Nat.le_refl _, by decide, rfl, rfl⟩⟩
theorem szL_mem {xs : List ByteArray} {x : ByteArray} (h : x ∈ xs) : x.size ≤ szL xs := by
 unfold szL
 induction xs with
 | nil => cases h
 | cons a l ih =>
   rw [List.map_cons, List.sum_cons]
   rcases List.mem_cons.1 h with rfl | h
   · omega
   · have := ih h
     omega
theorem text_szL {p : Pat} {h : PH} {l : Ln} (hh : h ∈ p.hunks) (hl : l ∈ h.lines) : l.text.size ≤ szL (partsF p) := by
 refine szL_mem (List.mem_cons_of_mem _ (List.mem_flatMap.2 ⟨h, hh, List.mem_cons_of_mem _ ?_⟩))
 refine List.mem_flatMap.2 ⟨l, hl, ?_⟩
 unfold lnPt
 simp
theorem step_conv {P : Program} {ops : Array Oper} {o : Oper} {a : Act} {K : Act → World → Prop} {Q : Exit → Act → World → Prop} {E : Prop} {w w' : World} (hgd : o.guard = none) (s t : TypeId) (x : Operand)
 (ho : o.op = .convert s t x) (v v' : Value) (hx : a.eval x = v) (hr : (convert s t v).run P w = .ok v' w') (h : K (a.put o.dst v') w') :
 if Region.wanted o (yielded ops a.tmps) = true then Oper.wp P o a w K Q else E := by
 have hw : Region.wanted o (yielded ops a.tmps) = true := by simp [Region.wanted, hgd]
 rw [if_pos hw]
 have key : ∀ ρ : Operand → Value, ρ x = v → (execOp ρ o).run P w = .ok (.value v') w' := fun ρ h => by simp [execOp, ho, h, hr, go_sem]
 have e := key a.eval hx
 unfold Oper.wp
 rw [e]
 exact h
theorem step_app_str {ops : Array Oper} {o : Oper} {a : Act} {K : Act → World → Prop} {Q : Exit → Act → World → Prop} {E : Prop} {w : World} (hgd : o.guard = none) (s x : Operand)
 (ho : o.op = .call { callee := .builtin .append, args := #[s, x], argTypes := #[30, 30] })
 (base : Nat) (l : List (List UInt8)) (m : List UInt8) (v : Value) (hsv : a.eval s = v) (hown : w.ownsRow base 9 1 v l.length (strsV l))
 (ad : Addr) (hx : a.eval x = .slice (some ad) 1 1) (hnews : w.cell? ad = some (.string ⟨m.toArray⟩))
 (hsz : l.length + 1 ≤ 100000000) (hbase : base ≤ w.heap.size)
 (h : ∀ g cap w', w'.ownsRow base 9 1 (.slice (some ⟨g, 0, none⟩) (l.length + 1) cap) (l ++ [m]).length (strsV (l ++ [m])) → Below base w w' → (∀ (G : Nat) (t : TypeId) (bl : List Value), t ≠ 9 → Blk w G t bl → Blk w' G t bl) → K (a.put o.dst (.slice (some ⟨g, 0, none⟩) (l.length + 1) cap)) w') :
 if Region.wanted o (yielded ops a.tmps) = true then Oper.wp Tryz.prog o a w K Q else E := by
 obtain ⟨i0, hi0, hz0, hz1, hz2⟩ := info_parts Tx.info_str
 refine step_append_lies w hgd s x 30 ho base 9 i0 _ 1 16 Tryz.underlying30 hi0 hz0 hz1 hz2 rfl (by omega) v l.length (strsV l) hsv hown ad 1 1 [Tx.strV m] hx rfl (fun j u hu => ?_) ?_ (by omega) (by unfold maxLen; omega) (by omega) hbase w.heap.size rfl ?_
 · cases j with
   | zero =>
     obtain rfl := Option.some.inj hu
     have e : ad.add 0 = ad := by unfold Addr.add; simp
     rw [show ((0 : Nat) : Nat) = 0 from rfl, e]
     exact hnews
   | succ j => cases hu
 · intro u hu
   simp only [List.mem_singleton] at hu
   subst hu
   rfl
 · intro g cap w' g1 g2 g3 g4
   have hb : Below base w w' := (Below.refl _ w).grown g2 hbase (fun k hk => (hown.lt k hk).1)
   refine h g cap w' (by rw [Tx.strsV_append, List.length_append]; exact g1) hb (fun G t bl ht hB => (g2.block G hB.lt (fun e => ?_)).trans hB)
   rcases hown.2 with ⟨rfl, _⟩ | ⟨g', cap', cur', rfl, _, hh, _⟩
   · simp [Value.ownBlock] at e
   · have : G = g' := by simpa [Value.ownBlock] using e
     subst this
     unfold Blk at hB
     rw [hB] at hh
     injection hh with hh
     injection hh with _ ht2
     exact ht ht2
theorem app_strK {ops : Array Oper} {rest : List Oper} {o : Oper} {a : Act} {Q : Exit → Act → World → Prop} {w : World} {C : Array Value} (hgd : o.guard = none) (s x : Operand)
 (ho : o.op = .call { callee := .builtin .append, args := #[s, x], argTypes := #[30, 30] })
 (base : Nat) (l : List (List UInt8)) (m : List UInt8) (v : Value) (hs : a.eval s = v) (hown : w.ownsRow base 9 1 v l.length (strsV l))
 (hx : a.eval x = .slice (some ⟨w.heap.size, 0, none⟩) 1 1) (hC : C.toList = [Tx.strV m])
 (hsz : l.length + 1 ≤ 100000000) (hbase : base ≤ w.heap.size)
 (h : ∀ v' w', w'.ownsRow base 9 1 v' (l ++ [m]).length (strsV (l ++ [m])) → Below base w w' → (∀ (G : Nat) (t : TypeId) (bl : List Value), t ≠ 9 → Blk w G t bl → Blk w' G t bl) → wpList Tryz.prog ops Q rest (a.put o.dst v') w') :
 wpList Tryz.prog ops Q (o :: rest) a (w.alloc (.cells C 9)) := by
 obtain ⟨i0, hi0, hz0, hz1, hz2⟩ := info_parts Tx.info_str
 have hsize : (w.alloc (.cells C 9)).heap.size = w.heap.size + 1 := by simp
 refine wpList_append_own _ hgd s x _ ho base 9 i0 _ 1 16 Tryz.underlying30 hi0 hz0 hz1 hz2 rfl (by omega) v l.length (strsV l) hs (hown.alloc _) ⟨w.heap.size, 0, none⟩ 1 1 [Tx.strV m] hx
  rfl (fun j u hu => ?_) ?_ (by unfold maxLen; omega) (by omega) (by omega) ?_
 · have he : (Addr.mk w.heap.size 0 none).add j = ⟨w.heap.size, j, none⟩ := by
    unfold Addr.add; split
    · rename_i h0; rw [h0]
    · simp
   rw [he, World.cell?_alloc_mark, ← hu, ← hC]; simp
 · intro u hu
   simp only [List.mem_singleton] at hu
   subst hu
   rfl
 · intro v' w' h1 h2 _
   refine h v' w' (by rw [Tx.strsV_append, List.length_append]; exact h1) (((Below.refl base w).alloc hbase _).trans (Tx.below_of_appendS (hown.alloc _) h2 (by omega))) (fun G t bl ht hB => ?_)
   have hB2 : Blk (w.alloc (.cells C 9)) G t bl := hB.below ((Below.refl w.heap.size w).alloc (Nat.le_refl _) _)
   refine (h2.block G hB2.lt (fun e => ?_)).trans hB2
   rcases hown.2 with ⟨rfl, _⟩ | ⟨g', cap', cur', rfl, _, hh, _⟩
   · simp [Value.ownBlock] at e
   · have : G = g' := by simpa [Value.ownBlock] using e
     subst this
     unfold Blk at hB
     rw [hB] at hh
     injection hh with hh
     injection hh with _ ht2
     exact ht ht2
end Uf
end
section
namespace Sh
end Sh
namespace Sl
end Sl
open Go.RowKit
namespace Uf
open Sc Hn Sl
open Sh (lnB_len lnB_size)
theorem endAll_sub {l m : List (List UInt8)} (h : l.Sublist m) (he : endAll m = true) : endAll l = true := by
 induction h with
 | slnil => rfl
 | cons a _ ih =>
   rw [endAll_cons, Bool.and_eq_true] at he
   exact ih he.2
 | cons_cons a hs ih =>
   rw [endAll_cons, Bool.and_eq_true] at he ⊢
   refine ⟨?_, ih he.2⟩
   rw [Bool.or_eq_true] at he ⊢
   rcases he.1 with h1 | h1
   · left
     rw [List.isEmpty_iff] at h1 ⊢
     subst h1
     exact List.sublist_nil.1 hs
   · exact .inr h1
theorem endAll_list : ∀ {l : List (List UInt8)}, Tx.isListF l = true → endAll l = true
 | [], _ => rfl
 | [x], _ => rfl
 | x :: y :: r, h => by
   rw [Tx.isListF_cons, Bool.and_eq_true, Bool.and_eq_true] at h
   rw [endAll_cons, endAll_list h.2, Bool.and_true]
   exact h.1.2
theorem isList_mem : ∀ {l : List (List UInt8)}, Tx.isListF l = true → ∀ x ∈ l, Tx.isLine x = true
 | [], _, x, hx => by cases hx
 | [a], h, x, hx => by
   rw [Tx.isListF_cons, Bool.and_eq_true, Bool.and_eq_true] at h
   simp only [List.mem_cons, List.not_mem_nil, or_false] at hx
   rw [hx]; exact h.1.1
 | a :: b :: r, h, x, hx => by
   rw [Tx.isListF_cons, Bool.and_eq_true, Bool.and_eq_true] at h
   rcases List.mem_cons.1 hx with rfl | hx
   · exact h.1.1
   · exact isList_mem h.2 x hx
theorem lnB_list (s : ByteArray) : Tx.isListF ((Sh.lnB s).map Tx.bs) = true := by
 unfold Sh.lnB
 rw [Tx.mks_map]
 exact Tx.linesF_isList _
theorem cut_sub_drop {α : Type} (xs : List α) {i j k : Nat} (h1 : i ≤ j) (h2 : j ≤ k) (r : List α) (hr : r.Sublist (xs.drop k)) : (cut xs j k ++ r).Sublist (xs.drop i) := by
 have e : xs.drop j = cut xs j k ++ xs.drop k := by
  unfold cut
  have := List.take_append_drop (k - j) (xs.drop j)
  rw [List.drop_drop, show j + (k - j) = k from by omega] at this
  exact this.symm
 have h3 : (cut xs j k ++ r).Sublist (xs.drop j) := by
  rw [e]
  exact (List.Sublist.refl _).append hr
 have h4 : xs.drop j = (xs.drop i).drop (j - i) := by rw [List.drop_drop, show i + (j - i) = j from by omega]
 rw [h4] at h3
 exact h3.trans (List.drop_sublist _ _)
variable {x y : List ByteArray} {l : List Ch}
theorem allB_cons (k : Int) (h : PH) (hs : List PH) : allB k (h :: hs) = notB k h.lines ++ allB k hs := by unfold allB; rw [List.flatMap_cons]
theorem ph_sub : ∀ {hs : List Hk} {p i j : Nat}, Ph x y l p i j hs → (allB 43 (hs.map (mkPH x y l))).Sublist ((x.map Tx.bs).drop i) ∧ (allB 45 (hs.map (mkPH x y l))).Sublist ((y.map Tx.bs).drop j)
 | [], _, _, _, _ => ⟨List.nil_sublist _, List.nil_sublist _⟩
 | h :: hs, p, i, j, ⟨k, oF, nF, oT, nT, e, h1, h2, h3, h4, h5, h6, h7⟩ => by
   obtain ⟨g1, g2⟩ := ph_sub h7
   have hl := h6.le
   have e1 : notB 43 (mkPH x y l h).lines = cut (x.map Tx.bs) oF oT := by
    rw [e, mkPH_nat]
    unfold notB
    rw [h6.old]
    unfold cut
    rw [List.map_take, List.map_drop]
   have e2 : notB 45 (mkPH x y l h).lines = cut (y.map Tx.bs) nF nT := by
    rw [e, mkPH_nat]
    unfold notB
    rw [h6.new]
    unfold cut
    rw [List.map_take, List.map_drop]
   rw [List.map_cons, allB_cons, allB_cons, e1, e2]
   exact ⟨cut_sub_drop _ h3 hl.1 _ g1, cut_sub_drop _ h4 hl.2.1 _ g2⟩
theorem ph_good (hx : x.length ≤ 4096) (hy : y.length ≤ 4096) (htx : ∀ t ∈ x, Tx.isLine (Tx.bs t) = true) (hty : ∀ t ∈ y, Tx.isLine (Tx.bs t) = true) : ∀ {hs : List Hk} {p i j : Nat}, Ph x y l p i j hs → goodH i j (hs.map (mkPH x y l)) = true
 | [], _, _, _, _ => rfl
 | h :: hs, p, i, j, ⟨k, oF, nF, oT, nT, e, h1, h2, h3, h4, h5, h6, h7⟩ => by
   have hl := h6.le
   have ih := ph_good hx hy htx hty h7
   rw [List.map_cons, e, mkPH_nat, goodH]
   have n1 : (notB 43 (lnsF x y oF (cut l p k) oT)).length = oT - oF := by
    unfold notB
    rw [List.length_map, h6.old, cut_len x (by omega)]
   have n2 : (notB 45 (lnsF x y oF (cut l p k) oT)).length = nT - nF := by
    unfold notB
    rw [List.length_map, h6.new, cut_len y (by omega)]
   have a1 : (lnsF x y oF (cut l p k) oT).all lnB = true := by
    rw [List.all_eq_true]
    intro ln hln
    obtain ⟨t1, t2⟩ := h6.texts ln hln
    unfold lnB
    rw [Bool.and_eq_true]
    refine ⟨?_, ?_⟩
    · rcases t2 with t2 | t2 | t2 <;> (rw [t2]; rfl)
    · rcases t1 with t1 | t1
      · exact htx _ t1
      · exact hty _ t1
   have a2 : chgB (lnsF x y oF (cut l p k) oT) = true := by
    have hc : cut l p k = l[p]'(by omega) :: cut l (p + 1) k := cut_cons l h1 h2
    rw [hc] at h6 ⊢
    obtain ⟨ln, hln, hk⟩ := h6.change
    unfold chgB
    rw [List.any_eq_true]
    exact ⟨ln, hln, by rw [bne_iff_ne]; exact hk⟩
   have a3 : posB i j ⟨oF, nF, lnsF x y oF (cut l p k) oT⟩ = true := by
    unfold posB
    simp only [Bool.not_eq_true', Bool.or_eq_false_iff, decide_eq_false_iff_not, bne_eq_false_iff_eq]
    omega
   have a4 : roomB ⟨oF, nF, lnsF x y oF (cut l p k) oT⟩ = true := by
    unfold roomB
    simp only
    rw [n1, n2, Bool.and_eq_true, decide_eq_true_eq, decide_eq_true_eq]
    omega
   have e1 : (oF : Int) + ((oT - oF : Nat) : Int) = oT := by omega
   have e2 : (nF : Int) + ((nT - nF : Nat) : Int) = nT := by omega
   simp only
   rw [a1, a2, a3, a4, n1, n2, e1, e2, ih]
   rfl
theorem szL_app (a b : List ByteArray) : szL (a ++ b) = szL a + szL b := by unfold szL; rw [List.map_append, List.sum_append]
theorem szL_cons (a : ByteArray) (b : List ByteArray) : szL (a :: b) = a.size + szL b := by unfold szL; rw [List.map_cons, List.sum_cons]
theorem szL_ln {ln : Ln} {B : Nat} (h : ln.text.size ≤ B) : szL (lnPt ln) ≤ B + 30 := by
 unfold lnPt
 rw [szL_cons, szL_cons]
 have h1 : (kB ln.kind).size = 1 := rfl
 split
 · show _ + (_ + 0) ≤ _
   omega
 · have h2 : szL [unB] = 29 := rfl
   omega
theorem szL_lns {B : Nat} : ∀ {ls : List Ln}, (∀ ln ∈ ls, ln.text.size ≤ B) → szL (lnsPt ls) ≤ ls.length * (B + 30)
 | [], _ => Nat.zero_le _
 | a :: ls, h => by
   have e : lnsPt (a :: ls) = lnPt a ++ lnsPt ls := by unfold lnsPt; rw [List.flatMap_cons]
   have h1 := szL_ln (h a List.mem_cons_self)
   have h2 := szL_lns (fun ln hl => h ln (List.mem_cons_of_mem _ hl))
   rw [e, szL_app, List.length_cons, Nat.add_mul]
   omega
theorem hdr_len (o n : Int) (ls : List Ln) : (hdrF o n ls).length ≤ 96 := by
 unfold hdrF
 have h1 := fmtR_len o (notK 43 ls).length
 have h2 := fmtR_len n (notK 45 ls).length
 simp only [List.length_append, List.length_cons, List.length_nil]
 omega
theorem szL_hks {B : Nat} : ∀ {hs : List PH}, (∀ h ∈ hs, ∀ ln ∈ h.lines, ln.text.size ≤ B) → szL (hs.flatMap hkPt) ≤ hs.length * 96 + ((allB 43 hs).length + (allB 45 hs).length) * (B + 30)
 | [], _ => Nat.zero_le _
 | h :: hs, hh => by
   have h1 := szL_lns (hh h List.mem_cons_self)
   have h2 := szL_hks (fun g hg => hh g (List.mem_cons_of_mem _ hg))
   have h3 : (hkB h).size ≤ 96 := by
    unfold hkB
    rw [Tx.size_mk]
    exact hdr_len _ _ _
   have h4 := lens h.lines
   have e1 : ∀ k, (notB k h.lines).length = (notK k h.lines).length := fun k => by unfold notB; rw [List.length_map]
   rw [List.flatMap_cons, szL_app, hkPt, szL_cons, allB_cons, allB_cons, List.length_append, List.length_append, e1, e1, List.length_cons]
   have h5 : h.lines.length * (B + 30) ≤ ((notK 43 h.lines).length + (notK 45 h.lines).length) * (B + 30) := Nat.mul_le_mul_right _ h4
   have e2 : ((notK 43 h.lines).length + (allB 43 hs).length + ((notK 45 h.lines).length + (allB 45 hs).length)) * (B + 30) = ((notK 43 h.lines).length + (notK 45 h.lines).length) * (B + 30) + ((allB 43 hs).length + (allB 45 hs).length) * (B + 30) := by
    rw [← Nat.add_mul]
    congr 1
    omega
   rw [e2]
   omega
theorem wr_ln (ln : Ln) : (wrLn ln).length ≤ 2 := by unfold wrLn; split <;> simp
theorem wr_lns : ∀ ls : List Ln, (ls.flatMap wrLn).length ≤ 2 * ls.length
 | [] => Nat.zero_le _
 | a :: ls => by
   have h1 := wr_ln a
   have h2 := wr_lns ls
   rw [List.flatMap_cons, List.length_append, List.length_cons]
   omega
theorem wr_hks : ∀ hs : List PH, (hs.flatMap wrHk).length ≤ hs.length + 2 * ((allB 43 hs).length + (allB 45 hs).length)
 | [] => Nat.zero_le _
 | h :: hs => by
   have h1 := wr_lns h.lines
   have h2 := wr_hks hs
   have h4 := lens h.lines
   have e1 : ∀ k, (notB k h.lines).length = (notK k h.lines).length := fun k => by unfold notB; rw [List.length_map]
   rw [List.flatMap_cons, List.length_append, wrHk, List.length_cons, allB_cons, allB_cons, List.length_append, List.length_append, e1, e1, List.length_cons]
   omega
structure MkOk (p : Pat) : Prop where
 chk : chkC p = 0
 sz : szL (partsF p) ≤ 4194304
 cnt : (wrAll p).length ≤ 1048576
 big : PatBg p.hunks
theorem name_sz {s : ByteArray} (h : nameB s = true) : s.size ≤ 200 := by
 unfold nameB at h
 rw [decide_eq_true_iff] at h
 omega
theorem mk_ok {ctx : Int} (hc : 0 ≤ ctx) {s t : ByteArray} (hs : s.size ≤ 1000) (ht : t.size ≤ 1000) (down : Bool) {on nn : ByteArray} (h1 : nameB on = true) (h2 : nameB nn = true) : MkOk ⟨on, nn, patH (Sh.lnB s) (Sh.lnB t) ctx (scrD down s t)⟩ := by
 have hL := scrD_lf (s := s) (t := t) (by omega) (by omega) down
 have hP := ph_group hc hL
 have a := lnB_len s
 have b := lnB_len t
 have hlx := lnB_list s
 have hly := lnB_list t
 have hGd : goodH 0 0 (patH (Sh.lnB s) (Sh.lnB t) ctx (scrD down s t)) = true := ph_good (by omega) (by omega) (fun q hq => isList_mem hlx _ (List.mem_map_of_mem hq)) (fun q hq => isList_mem hly _ (List.mem_map_of_mem hq)) hP
 obtain ⟨s1, s2⟩ := ph_sub hP
 rw [List.drop_zero] at s1 s2
 have hE : endAll (allB 43 (patH (Sh.lnB s) (Sh.lnB t) ctx (scrD down s t))) = true ∧ endAll (allB 45 (patH (Sh.lnB s) (Sh.lnB t) ctx (scrD down s t))) = true := ⟨endAll_sub s1 (endAll_list hlx), endAll_sub s2 (endAll_list hly)⟩
 have l1 : (allB 43 (patH (Sh.lnB s) (Sh.lnB t) ctx (scrD down s t))).length ≤ 1000 := by
  have := s1.length_le
  rw [List.length_map] at this
  exact Nat.le_trans this (by omega)
 have l2 : (allB 45 (patH (Sh.lnB s) (Sh.lnB t) ctx (scrD down s t))).length ≤ 1000 := by
  have := s2.length_le
  rw [List.length_map] at this
  exact Nat.le_trans this (by omega)
 obtain ⟨f1, f2⟩ := ph_few hP
 have hn : (patH (Sh.lnB s) (Sh.lnB t) ctx (scrD down s t)).length ≤ 2000 := by
  unfold patH
  rw [List.length_map]
  have hk := hL.num
  omega
 have hB : ∀ h ∈ patH (Sh.lnB s) (Sh.lnB t) ctx (scrD down s t), (h.old : Int) ≤ 4096 ∧ 0 ≤ h.old ∧ h.new ≤ 4096 ∧ 0 ≤ h.new ∧ ∀ ln ∈ h.lines, ln.text.size ≤ 1000 := by
  intro h hh
  unfold patH at hh
  obtain ⟨k, hk, rfl⟩ := List.mem_map.1 hh
  obtain ⟨m, hm, rfl⟩ := List.mem_iff_getElem.1 hk
  obtain ⟨p, k, oF, nF, oT, nT, e, _, _, hlf⟩ := ph_at hP m hm
  have hle := hlf.le
  rw [e, mkPH_nat]
  refine ⟨by simp only; omega, by simp only; omega, by simp only; omega, by simp only; omega, fun ln hln => ?_⟩
  rcases (hlf.texts ln hln).1 with h3 | h3
  · exact Nat.le_trans (lnB_size s _ h3) hs
  · exact Nat.le_trans (lnB_size t _ h3) ht
 have f3 : ∀ h ∈ patH (Sh.lnB s) (Sh.lnB t) ctx (scrD down s t), h.lines.length ≤ 2000 := fun h hh => Nat.le_trans (f2 h hh) (by omega)
 generalize patH (Sh.lnB s) (Sh.lnB t) ctx (scrD down s t) = hks at *
 have z1 := szL_hks (B := 1000) (fun h hh => (hB h hh).2.2.2.2)
 have hS : szL (partsF ⟨on, nn, hks⟩) ≤ 4194304 := by
  unfold partsF
  rw [szL_cons]
  have n1 := name_sz h1
  have n2 := name_sz h2
  have q1 := qB_size on
  have q2 := qB_size nn
  have e : (hdPt on nn).size = 4 + (qB on).size + 5 + (qB nn).size + 1 := by
   unfold hdPt
   simp only [ByteArray.size_append]
   rfl
  simp only
  rw [e]
  have : ((allB 43 hks).length + (allB 45 hks).length) * (1000 + 30) ≤ 2000 * 1030 := Nat.mul_le_mul (by omega) (Nat.le_refl _)
  omega
 refine ⟨?_, hS, ?_, ⟨⟨show hks.length ≤ 1000000 by omega, fun h hh => ?_⟩, show (allB 43 hks).length ≤ 8388608 by omega, show (allB 45 hks).length ≤ 8388608 by omega⟩⟩
 · unfold chkC
   rw [if_pos ⟨h1, h2⟩, if_pos (by rw [hks_ref, hGd, hE.1, hE.2]; rfl), if_pos (by omega)]
 · unfold wrAll wrHd
   have := wr_hks hks
   simp only [List.length_append, List.length_cons, List.length_nil]
   omega
 · obtain ⟨b1, b2, b3, b4, b5⟩ := hB h hh
   exact ⟨Nat.le_trans (f3 h hh) (by omega), ⟨by omega, by omega⟩, ⟨by omega, by omega⟩, fun ln hln => Nat.le_trans (b5 ln hln) (by omega)⟩
end Uf
end
section
namespace Uf
end Uf
namespace Pa
open Uf Hn Sl
open Tx (bs)
def fitsF (p : Pat) (s : ByteArray) : Int × Int :=
 if chkC p ≠ 0 then (0, chkC p) else if Tx.checkF (bs s) ≠ 0 then (0, Tx.checkF (bs s)) else ((fitN (Sh.lnB s) p.hunks : Int), 0)
def allJ (l : List ByteArray) : ByteArray := ⟨(l.map bs).flatten.toArray⟩
def applyF (p : Pat) (s : ByteArray) : ByteArray × Int :=
 if (fitsF p s).2 ≠ 0 then (⟨#[]⟩, (fitsF p s).2)
 else if fitN (Sh.lnB s) p.hunks < p.hunks.length then (⟨#[]⟩, 140)
 else if Tx.isListF ((appT (Sh.lnB s) 0 p.hunks).map bs) = false then (⟨#[]⟩, 140)
 else if 1048576 < (allJ (appT (Sh.lnB s) 0 p.hunks)).size ∨ 4096 < (appT (Sh.lnB s) 0 p.hunks).length then (⟨#[]⟩, 1)
 else (allJ (appT (Sh.lnB s) 0 p.hunks), 0)
def reverseF (p : Pat) : Pat × Int := if chkC p ≠ 0 then (⟨⟨#[]⟩, ⟨#[]⟩, []⟩, chkC p) else (revP p, 0)
theorem allJ_bs (l : List ByteArray) : bs (allJ l) = (l.map bs).flatten := Tx.bs_mk _
theorem allJ_lnB (s : ByteArray) : allJ (Sh.lnB s) = s := bs_inj (by rw [allJ_bs, lnB_flat])
theorem lnB_allJ {l : List ByteArray} (h : Tx.isListF (l.map bs) = true) : Sh.lnB (allJ l) = l := by
 unfold Sh.lnB
 rw [allJ_bs, Tx.linesF_join _ h, Tx.mks_bs]
theorem notB_rev43 (h : PH) : notB 43 (revH h).lines = notB 45 h.lines := by unfold notB; exact congrArg _ (oldT_rev h)
theorem notB_rev45 (h : PH) : notB 45 (revH h).lines = notB 43 h.lines := by unfold notB; exact congrArg _ (newT_rev h)
theorem allB_rev43 : ∀ hs : List PH, allB 43 (hs.map revH) = allB 45 hs
 | [] => rfl
 | h :: hs => by rw [List.map_cons, allB_cons, allB_cons, notB_rev43, allB_rev43 hs]
theorem allB_rev45 : ∀ hs : List PH, allB 45 (hs.map revH) = allB 43 hs
 | [] => rfl
 | h :: hs => by rw [List.map_cons, allB_cons, allB_cons, notB_rev45, allB_rev45 hs]
theorem lnB_rev (l : Ln) : Uf.lnB (revL l) = Uf.lnB l := by
 unfold Uf.lnB revL
 simp only
 congr 1
 have h : flipK l.kind = 32 ↔ l.kind = 32 := by
  unfold flipK
  repeat' split
  all_goals omega
 rw [Bool.eq_iff_iff]
 simp only [Bool.or_eq_true, beq_iff_eq, h, flipK_45, flipK_43]
 omega
theorem flip_sp (k : Int) : (flipK k != 32) = (k != 32) := by
 rw [Bool.eq_iff_iff]
 simp only [bne_iff_ne]
 unfold flipK
 repeat' split
 all_goals omega
theorem chgB_rev (ls : List Ln) : chgB (ls.map revL) = chgB ls := by
 unfold chgB
 rw [List.any_map]
 congr 1
 funext l
 exact flip_sp l.kind
theorem all_rev (ls : List Ln) : (ls.map revL).all Uf.lnB = ls.all Uf.lnB := by
 rw [List.all_map]
 congr 1
 funext l
 exact lnB_rev l
theorem posB_rev (i j : Int) (h : PH) : posB j i (revH h) = posB i j h := by
 unfold posB revH
 rw [Bool.eq_iff_iff]
 simp only [Bool.not_eq_true', Bool.or_eq_false_iff, decide_eq_false_iff_not, bne_eq_false_iff_eq]
 omega
theorem roomB_rev (h : PH) : roomB (revH h) = roomB h := by
 unfold roomB
 rw [notB_rev43, notB_rev45, Bool.and_comm]
 rfl
theorem goodH_rev : ∀ (hs : List PH) (i j : Int), goodH j i (hs.map revH) = goodH i j hs
 | [], _, _ => rfl
 | h :: hs, i, j => by
   rw [List.map_cons, goodH, goodH, posB_rev, roomB_rev, notB_rev43, notB_rev45]
   rw [show (revH h).old = h.new from rfl, show (revH h).new = h.old from rfl, goodH_rev hs, show (revH h).lines = h.lines.map revL from rfl, all_rev, chgB_rev]
theorem hksB_rev (hs : List PH) : hksB (0, false) (0, false) (hs.map revH) = hksB (0, false) (0, false) hs := by
 rw [hks_good, hks_good, goodH_rev, allB_rev43, allB_rev45, Bool.and_comm (sideB _ _)]
theorem lnPt_rev (l : Ln) : szL (lnPt (revL l)) = szL (lnPt l) := by
 unfold lnPt
 rw [szL_cons, szL_cons, szL_cons, szL_cons]
 rfl
theorem lnsPt_rev : ∀ ls : List Ln, szL (lnsPt (ls.map revL)) = szL (lnsPt ls)
 | [] => rfl
 | l :: ls => by
   have ih := lnsPt_rev ls
   unfold lnsPt at ih ⊢
   rw [List.map_cons, List.flatMap_cons, List.flatMap_cons, szL_app, szL_app, lnPt_rev, ih]
theorem hkB_rev (h : PH) : (hkB (revH h)).size = (hkB h).size := by
 show (hdrF h.new h.old (h.lines.map revL)).length = (hdrF h.old h.new h.lines).length
 unfold hdrF
 rw [notK_rev flipK_43, notK_rev flipK_45]
 simp only [List.length_append, List.length_cons, List.length_nil]
 omega
theorem hks_rev : ∀ hs : List PH, szL ((hs.map revH).flatMap hkPt) = szL (hs.flatMap hkPt)
 | [] => rfl
 | h :: hs => by
   rw [List.map_cons, List.flatMap_cons, List.flatMap_cons, szL_app, szL_app, hks_rev hs]
   unfold hkPt
   rw [szL_cons, szL_cons, hkB_rev]
   show _ + szL (lnsPt (h.lines.map revL)) + _ = _
   rw [lnsPt_rev]
theorem parts_rev (p : Pat) : szL (partsF (revP p)) = szL (partsF p) := by
 unfold partsF
 rw [szL_cons, szL_cons]
 show (hdPt p.nn p.on).size + szL ((p.hunks.map revH).flatMap hkPt) = _
 rw [hks_rev]
 unfold hdPt
 simp only [ByteArray.size_append]
 have a : (⟨#[45, 45, 45, 32]⟩ : ByteArray).size = 4 := rfl
 have b : (⟨#[10, 43, 43, 43, 32]⟩ : ByteArray).size = 5 := rfl
 omega
theorem chkC_rev (p : Pat) : chkC (revP p) = chkC p := by
 unfold chkC
 rw [parts_rev]
 show (if nameB p.nn = true ∧ nameB p.on = true then (if hksB (0, false) (0, false) (p.hunks.map revH) = true then _ else _) else _) = _
 rw [hksB_rev]
 by_cases h : nameB p.on = true ∧ nameB p.nn = true
 · rw [if_pos h, if_pos h.symm]
 · rw [if_neg h, if_neg fun q => h q.symm]
theorem reverse_two {p : Pat} (h : chkC p = 0) : reverseF p = (revP p, 0) ∧ reverseF (revP p) = (p, 0) := by
 have h2 : chkC (revP p) = 0 := by rw [chkC_rev, h]
 unfold reverseF
 rw [if_neg (by rw [h]; decide), if_neg (by rw [h2]; decide), revP_two]
 exact ⟨rfl, rfl⟩
theorem goodH_geo : ∀ {hs : List PH} {i j : Nat}, goodH i j hs = true → geo i j hs
 | [], _, _, _ => trivial
 | h :: hs, i, j, g => by
   rw [goodH, Bool.and_eq_true, Bool.and_eq_true, Bool.and_eq_true, Bool.and_eq_true] at g
   obtain ⟨_, _, g1, _, g2⟩ := g
   unfold posB at g1
   simp only [Bool.not_eq_true', Bool.or_eq_false_iff, decide_eq_false_iff_not, bne_eq_false_iff_eq] at g1
   have e1 : h.old = (h.old.toNat : Int) := by omega
   have e2 : h.new = (h.new.toNat : Int) := by omega
   refine ⟨h.old.toNat, h.new.toNat, e1, e2, by omega, by omega, by omega, ?_⟩
   apply goodH_geo
   have n1 : (notB 43 h.lines).length = (oldT h).length := by unfold notB oldT; rw [List.length_map]
   have n2 : (notB 45 h.lines).length = (newT h).length := by unfold notB newT; rw [List.length_map]
   rw [n1, n2] at g2
   rw [Int.natCast_add, Int.natCast_add, ← e1, ← e2]
   exact g2
theorem chkC_geo {p : Pat} (h : chkC p = 0) : geo 0 0 p.hunks := by
 unfold chkC at h
 split at h
 · split at h
   · rename_i hk
     rw [hks_good, Bool.and_eq_true] at hk
     exact goodH_geo hk.1
   · cases h
 · cases h
theorem check_zero {l : List UInt8} : Tx.checkF l = 0 ↔ l.length ≤ 1048576 ∧ (Tx.linesF l).length ≤ 4096 := by
 unfold Tx.checkF
 split <;> simp <;> omega
theorem lnB_num (s : ByteArray) : (Sh.lnB s).length = (Tx.linesF (bs s)).length := by unfold Sh.lnB; rw [Tx.mks_len]
theorem fits_ok {p : Pat} {s : ByteArray} (h1 : chkC p = 0) (h2 : Tx.checkF (bs s) = 0) : fitsF p s = ((fitN (Sh.lnB s) p.hunks : Int), 0) := by
 unfold fitsF
 rw [if_neg (fun q => q h1), if_neg (fun q => q h2)]
theorem fits_err {p : Pat} {s : ByteArray} (h : (fitsF p s).2 = 0) : chkC p = 0 ∧ Tx.checkF (bs s) = 0 := by
 unfold fitsF at h
 by_cases h1 : chkC p = 0
 · rw [if_neg (fun q => q h1)] at h
   by_cases h2 : Tx.checkF (bs s) = 0
   · exact ⟨h1, h2⟩
   · rw [if_pos h2] at h; exact absurd h h2
 · rw [if_pos h1] at h; exact absurd h h1
theorem apply_ok {p : Pat} {s y : ByteArray} (h : applyF p s = (y, 0)) : chkC p = 0 ∧ Tx.checkF (bs s) = 0 ∧ (∀ g ∈ p.hunks, fitH (Sh.lnB s) g) ∧ Sh.lnB y = appT (Sh.lnB s) 0 p.hunks ∧ Tx.checkF (bs y) = 0 := by
 unfold applyF at h
 by_cases h0 : (fitsF p s).2 = 0
 · obtain ⟨h1, h2⟩ := fits_err h0
   rw [if_neg (fun q => q h0)] at h
   by_cases h3 : fitN (Sh.lnB s) p.hunks < p.hunks.length
   · rw [if_pos h3] at h; injection h with _ q; cases q
   · rw [if_neg h3] at h
     by_cases h4 : Tx.isListF ((appT (Sh.lnB s) 0 p.hunks).map bs) = false
     · rw [if_pos h4] at h; injection h with _ q; cases q
     · rw [if_neg h4] at h
       by_cases h5 : 1048576 < (allJ (appT (Sh.lnB s) 0 p.hunks)).size ∨ 4096 < (appT (Sh.lnB s) 0 p.hunks).length
       · rw [if_pos h5] at h; injection h with _ q; cases q
       · rw [if_neg h5] at h
         injection h with h6 _
         have hl : Tx.isListF ((appT (Sh.lnB s) 0 p.hunks).map bs) = true := by simpa using h4
         have hy : Sh.lnB y = appT (Sh.lnB s) 0 p.hunks := by rw [← h6, lnB_allJ hl]
         refine ⟨h1, h2, fit_all (Nat.le_antisymm (fitN_le _ _) (Nat.le_of_not_lt h3)), hy, check_zero.2 ⟨?_, ?_⟩⟩
         · have := Tx.bs_len y
           rw [h6] at h5
           omega
         · rw [← lnB_num, hy]; omega
 · rw [if_pos h0] at h; injection h with _ q; exact absurd q h0
theorem apply_to {p : Pat} {s y : ByteArray} (h1 : chkC p = 0) (h2 : Tx.checkF (bs s) = 0) (h3 : ∀ g ∈ p.hunks, fitH (Sh.lnB s) g) (h4 : appT (Sh.lnB s) 0 p.hunks = Sh.lnB y) (h5 : Tx.checkF (bs y) = 0) : applyF p s = (y, 0) := by
 obtain ⟨c1, c2⟩ := check_zero.1 h5
 unfold applyF
 rw [fits_ok h1 h2, if_neg (fun q => q rfl), if_neg (by rw [all_fit h3]; exact Nat.lt_irrefl _), h4, if_neg (by rw [lnB_list]; decide), allJ_lnB, if_neg]
 rw [lnB_num]
 have := Tx.bs_len y
 omega
theorem restores {p : Pat} {s y : ByteArray} (h : applyF p s = (y, 0)) : reverseF p = (revP p, 0) ∧ applyF (revP p) y = (s, 0) := by
 obtain ⟨h1, h2, h3, h4, h5⟩ := apply_ok h
 obtain ⟨r1, r2⟩ := rev_app (chkC_geo h1) h3 (Nat.zero_le _) (Y := Sh.lnB y) (by rw [List.drop_zero, h4])
 exact ⟨(reverse_two h1).1, apply_to (by rw [chkC_rev, h1]) h5 r1 (by rw [show (revP p).hunks = p.hunks.map revH from rfl, r2, List.drop_zero]) h2⟩
theorem makes {ctx : Int} (hc : 0 ≤ ctx) {s t on nn : ByteArray} {l : List Sc.Ch} (hL : Lf (Sh.lnB s) (Sh.lnB t) 0 0 l (Sh.lnB s).length (Sh.lnB t).length) (h1 : chkC ⟨on, nn, patH (Sh.lnB s) (Sh.lnB t) ctx l⟩ = 0) (h2 : Tx.checkF (bs s) = 0) (h3 : Tx.checkF (bs t) = 0) :
 applyF ⟨on, nn, patH (Sh.lnB s) (Sh.lnB t) ctx l⟩ s = (t, 0) ∧ applyF (revP ⟨on, nn, patH (Sh.lnB s) (Sh.lnB t) ctx l⟩) t = (s, 0) := by
 obtain ⟨_, m2, m3⟩ := made (ph_group hc hL) hL
 have := apply_to (p := ⟨on, nn, patH (Sh.lnB s) (Sh.lnB t) ctx l⟩) h1 h2 m2 m3 h3
 exact ⟨this, (restores this).2⟩
theorem check_le {s : ByteArray} (h : s.size ≤ 4096) : Tx.checkF (bs s) = 0 := Tx.checkF_small _ (by rw [Tx.bs_len]; exact h)
theorem makes_small {ctx : Int} (hc : 0 ≤ ctx) {s t : ByteArray} (hs : s.size ≤ 1000) (ht : t.size ≤ 1000) (down : Bool) {on nn : ByteArray} (h1 : nameB on = true) (h2 : nameB nn = true) :
 applyF ⟨on, nn, patH (Sh.lnB s) (Sh.lnB t) ctx (scrD down s t)⟩ s = (t, 0) ∧ reverseF ⟨on, nn, patH (Sh.lnB s) (Sh.lnB t) ctx (scrD down s t)⟩ = (revP ⟨on, nn, patH (Sh.lnB s) (Sh.lnB t) ctx (scrD down s t)⟩, 0) ∧
  applyF (revP ⟨on, nn, patH (Sh.lnB s) (Sh.lnB t) ctx (scrD down s t)⟩) t = (s, 0) := by
 have hk := (mk_ok hc hs ht down h1 h2).chk
 obtain ⟨m1, m2⟩ := makes hc (scrD_lf (by omega) (by omega) down) hk (check_le (s := s) (by omega)) (check_le (s := t) (by omega))
 exact ⟨m1, (reverse_two hk).1, m2⟩
end Pa
end
section
open Go.RowKit
namespace Uf
open Cm Hn
open Sc (fmtR Pow RdK fmtR_len FormatRangeR_any)
open Tx (bs strsV StrsPost RdS AllR_any)
set_option maxRecDepth 100000 in
set_option maxHeartbeats 4000000 in
theorem WriteR_any (p : Pat) (v : Value) (w : World) (hr : RdP w v p.hunks) (hok : PatOk p) (hz : szL (partsF p) ≤ 4194304) (hcnt : (wrAll p).length ≤ 1048576) : Calls Tryz.prog 67 #[tPatV p v] w (WrPost p w) := by
 obtain ⟨Mq, hMq⟩ : ∃ M : ByteArray → ByteArray, ∀ s, M s = qB s := ⟨qB, fun _ => rfl⟩
 have HMq := Lib.hid hMq
 have HQ := Lib.hid (fun (s : ByteArray) (w : World) (h : s.size ≤ 1048576) => (show Calls Tryz.prog 106 #[.string s] w fun e w' => e = .returned (.string (Mq s)) ∧ Below w.heap.size w w' by rw [hMq]; exact Sc.QuoteR_any s w h))
 have l1 : (Mq p.on).size ≤ 4 * 1048576 + 2 := by rw [hMq]; have := qB_size p.on; have := hok.on; omega
 have l2 : (Mq p.nn).size ≤ 4 * 1048576 + 2 := by rw [hMq]; have := qB_size p.nn; have := hok.nn; omega
 have hon := hok.on
 have hnn := hok.nn
 have hfw := hok.few
 clear hMq
 obtain ⟨A, c, rfl⟩ := hr.form
 have HB0 := Lib.hid ((Below.refl w.heap.size w).alloc (Nat.le_refl _) (.cells #[.string p.on, .string p.nn, .slice A p.hunks.length c] tPat))
 have HK0 : Hid (Blk (w.alloc (.cells #[.string p.on, .string p.nn, .slice A p.hunks.length c] tPat)) w.heap.size tPat [.string p.on, .string p.nn, .slice A p.hunks.length c]) := Lib.hid (heap_new w _)
 have HRp := Lib.hid (fun w' (hb : Below w.heap.size w w') => hr.below hb)
 have HOk := Lib.hid hok
 have HTq : Hid (∀ h ∈ p.hunks, ∀ l ∈ h.lines, l.text.size ≤ 4194304) := Lib.hid (fun h hh l hl => Nat.le_trans (text_szL hh hl) hz)
 clear hr hok
 obtain ⟨on, nn, hs⟩ := p
 simp only at l1 l2 hon hnn hfw HRp HOk HB0 HK0 hz HTq ⊢
 have HCn := Lib.hid hcnt
 clear hcnt
 have q1 : ¬ (9223372036854775807 < 4 + (Mq on).size) := by omega
 have q2 : ¬ (9223372036854775807 < 4 + (Mq on).size + 1) := by omega
 have q3 : ¬ (9223372036854775807 < 4 + (Mq nn).size) := by omega
 have q4 : ¬ (9223372036854775807 < 4 + (Mq nn).size + 1) := by omega
 go_enter Tryz.func67, Tryz.ntmps67
 go_upto_region 1 with fail
 obtain ⟨W, hW⟩ : ∃ W, W = w.alloc (.cells #[.string on, .string nn, .slice A hs.length c] tPat) := ⟨_, rfl⟩
 rw [← hW] at HB0 HK0 ⊢
 have hWz : W.heap.size = w.heap.size + 1 := by rw [hW]; simp
 clear hW
 have HBr : Hid (Below W.heap.size W W.drew) := Lib.hid (Below.refl _ W).drew
 have HKp : Hid (∀ V : World, Below W.heap.size W V → V.cell? ⟨w.heap.size, 0, none⟩ = some (.string on) ∧ V.cell? ⟨w.heap.size, 1, none⟩ = some (.string nn)) := Lib.hid (fun V hV => by
  obtain ⟨x0, x1, x2, -, -⟩ := blk3 (HK0.out.below hV)
  exact ⟨x0, x1⟩)
 go_region_held3 (fun V => V.cell? ⟨w.heap.size, 0, none⟩ = some (.string on) ∧ V.cell? ⟨w.heap.size, 1, none⟩ = some (.string nn))
  (first | exact HKp.out _ HBr.out | exact (HKp.out _ HBr.out).1 | exact (HKp.out _ HBr.out).2 | go_keep)
  ((go_at_call 106; refine (HQ.out _ _ (by first | exact hon | exact hnn)).mono ?_; rintro e w' ⟨rfl, hb⟩; have HBr := Lib.hid (HBr.out.trans (hb.mono HBr.out.size)); clear hb))
 have HO0 := Lib.hid (pair_own w' W.heap.size ([45, 45, 45, 32] ++ bs (qB on) ++ [10]) ([43, 43, 43, 32] ++ bs (qB nn) ++ [10]) HBr.out.size)
 have HS0 : Hid ((⟨#[45, 45, 45, 32]⟩ : ByteArray) ++ Mq on ++ ⟨#[10]⟩ = ⟨([45, 45, 45, 32] ++ bs (qB on) ++ [10]).toArray⟩ ∧ (⟨#[43, 43, 43, 32]⟩ : ByteArray) ++ Mq nn ++ ⟨#[10]⟩ = ⟨([43, 43, 43, 32] ++ bs (qB nn) ++ [10]).toArray⟩) := Lib.hid (by
  rw [HMq.out, HMq.out]
  exact ⟨bs_inj (by simp [Tx.bs_mk]), bs_inj (by simp [Tx.bs_mk])⟩)
 go_wp2_with fail
 rw [HS0.out.1, HS0.out.2]
 have HBa := Lib.hid (HBr.out.alloc HBr.out.size (.cells #[.string ⟨([45, 45, 45, 32] ++ bs (qB on) ++ [10]).toArray⟩, .string ⟨([43, 43, 43, 32] ++ bs (qB nn) ++ [10]).toArray⟩] 9))
 obtain ⟨W2, hW2⟩ : ∃ W2, W2 = w'.alloc (.cells #[.string ⟨([45, 45, 45, 32] ++ bs (qB on) ++ [10]).toArray⟩, .string ⟨([43, 43, 43, 32] ++ bs (qB nn) ++ [10]).toArray⟩] 9) := ⟨_, rfl⟩
 rw [← hW2] at HO0 HBa ⊢
 generalize (⟨([45, 45, 45, 32] ++ bs (qB on) ++ [10]).toArray⟩ : ByteArray) = s1
 generalize (⟨([43, 43, 43, 32] ++ bs (qB nn) ++ [10]).toArray⟩ : ByteArray) = s2
 clear hW2 HS0 HBr l1 l2 q1 q2 q3 q4 hon hnn HQ HMq HKp
 have HBw := Lib.hid (HB0.out.trans (HBa.out.mono HB0.out.size))
 obtain ⟨acc, hacc⟩ : ∃ acc : Nat → List (List UInt8), ∀ j, acc j = wrHd on nn ++ (hs.take j).flatMap wrHk := ⟨fun j => wrHd on nn ++ (hs.take j).flatMap wrHk, fun _ => rfl⟩
 have HAcc := Lib.hid hacc
 have HO1 : Hid (W2.ownsRow W.heap.size 9 1 (.slice (some ⟨w'.heap.size, 0, none⟩) 2 2) (acc 0).length (strsV (acc 0))) := Lib.hid (by rw [hacc]; exact HO0.out)
 have HAl : Hid (∀ j, (acc j).length ≤ 1048576) := Lib.hid (fun j => by
  have e : wrAll ⟨on, nn, hs⟩ = acc j ++ (hs.drop j).flatMap wrHk := by
   rw [hacc, List.append_assoc, ← List.flatMap_append, List.take_append_drop]; rfl
  have := HCn.out
  rw [e, List.length_append] at this
  omega)
 have HAs : Hid (∀ j (h : j < hs.length), acc (j + 1) = acc j ++ wrHk hs[j]) := Lib.hid (fun j h => by
  rw [hacc, hacc, List.take_succ_eq_append_getElem h, List.flatMap_append, List.append_assoc]
  simp)
 clear hacc HO0 HCn
 obtain ⟨N, hN⟩ : ∃ N, N = hs.length := ⟨_, rfl⟩
 have HN := Lib.hid hN.symm
 rw [← hN] at HRp HK0 hfw ⊢
 clear hN
 go_loopw [3, 4] (fun u i wr => ∃ j : Nat, j ≤ N ∧ i = .int .i64 j ∧ Hid (wr.ownsRow W.heap.size 9 1 u (acc j).length (strsV (acc j))) ∧ Below W.heap.size W wr) (fun _ i _ => N - (intOf i).toNat)
 case atStart => exact ⟨0, Nat.zero_le _, rfl, HO1, HBa.out⟩
 case round =>
  obtain ⟨j, hj, rfl, HO, hnx⟩ := hrel
  obtain ⟨k0, k1, k2, -, -⟩ := blk3 (HK0.out.below hnx)
  by_cases hlt : j < N
  · have hx : j < hs.length := by rw [HN.out]; exact hlt
    have HB := Lib.hid (HB0.out.trans (hnx.mono HB0.out.size))
    obtain ⟨bl, off, Al, cl, eA, c0, c1, c2, hrl⟩ := RdP_at (HRp.out w (Below.refl _ _)) j hx
    obtain rfl := eA
    replace c0 := (HB.out.cell (Tx.cell_lt c0)).trans c0
    replace c1 := (HB.out.cell (Tx.cell_lt c1)).trans c1
    replace c2 := (HB.out.cell (Tx.cell_lt c2)).trans c2
    have HA1 := Lib.hid (HAs.out j hx)
    obtain ⟨hls, hbo, hbn, hkk⟩ := HOk.out.hk _ (List.getElem_mem hx)
    have htq := HTq.out _ (List.getElem_mem hx)
    have hle := HAl.out (j + 1)
    rw [HA1.out, List.length_append] at hle
    generalize hs[j] = h at *
    obtain ⟨ho, hn, ls⟩ := h
    simp only at c0 c1 c2 hrl hls hbo hbn hkk htq
    have HTz := Lib.hid htq
    clear htq
    have HA2 : Hid (acc (j + 1) = (acc j ++ [hdrF ho hn ls]) ++ ls.flatMap wrLn) := Lib.hid (by rw [HA1.out, wrHk, List.append_assoc]; rfl)
    have hle2 : (acc j).length + (1 + (ls.flatMap wrLn).length) ≤ 1048576 := by
     have e : (wrHk ⟨ho, hn, ls⟩).length = (ls.flatMap wrLn).length + 1 := rfl
     rw [e] at hle
     omega
    obtain ⟨M, hM⟩ : ∃ M, M = ls.length := ⟨_, rfl⟩
    have HM := Lib.hid hM.symm
    have HLq := Lib.hid (fun (k : Int) (w' : World) (hb : Below w.heap.size w w') => LinesP_any ho hn _ ls k w' (hrl.below hb) hls)
    have hNa := notB_len 43 ls
    have hNb := notB_len 45 ls
    rw [← hM] at c2 hls hNa hNb HLq
    clear hM hle HA1
    have HRl := Lib.hid (fun w' (hb : Below w.heap.size w w') => hrl.below hb)
    have HK := Lib.hid hkk
    clear hrl hkk
    obtain ⟨na, hna⟩ : ∃ na, na = (notB 43 ls).length := ⟨_, rfl⟩
    obtain ⟨nb, hnb⟩ : ∃ nb, nb = (notB 45 ls).length := ⟨_, rfl⟩
    have HL1 : Hid (∀ (w' : World), Below w.heap.size w w' → Calls Tryz.prog 37 #[.agg #[.int .i64 ho, .int .i64 hn, .slice Al M cl], .int .u8 43] w' fun e w'' => ∃ A c, e = .returned (.slice A na c) ∧ Below w'.heap.size w' w'') := Lib.hid (fun w' hb => (HLq.out 43 w' hb).mono fun e w'' ⟨v, h1, h2, h3⟩ => by
     obtain ⟨A, c, rfl⟩ := Tx.own_len h2
     exact ⟨A, c, by rw [hna]; exact h1, h3⟩)
    have HL2 : Hid (∀ (w' : World), Below w.heap.size w w' → Calls Tryz.prog 37 #[.agg #[.int .i64 ho, .int .i64 hn, .slice Al M cl], .int .u8 45] w' fun e w'' => ∃ A c, e = .returned (.slice A nb c) ∧ Below w'.heap.size w' w'') := Lib.hid (fun w' hb => (HLq.out 45 w' hb).mono fun e w'' ⟨v, h1, h2, h3⟩ => by
     obtain ⟨A, c, rfl⟩ := Tx.own_len h2
     exact ⟨A, c, by rw [hnb]; exact h1, h3⟩)
    obtain ⟨X, hX⟩ : ∃ X : ByteArray, X = ⟨(fmtR ho na).toArray⟩ := ⟨_, rfl⟩
    obtain ⟨Y, hY⟩ : ∃ Y : ByteArray, Y = ⟨(fmtR hn nb).toArray⟩ := ⟨_, rfl⟩
    have HF1 := Lib.hid (fun w' => FormatRangeR_any ho na w' hbo.1 hbo.2 (by omega) (by omega))
    have HF2 := Lib.hid (fun w' => FormatRangeR_any hn nb w' hbn.1 hbn.2 (by omega) (by omega))
    have HH : Hid ((⟨#[64, 64, 32, 45]⟩ : ByteArray) ++ X ++ ⟨#[32, 43]⟩ ++ Y ++ ⟨#[32, 64, 64, 10]⟩ = ⟨(hdrF ho hn ls).toArray⟩) := Lib.hid (by
     have e1 : (notK 43 ls).length = na := by rw [hna]; unfold notB; rw [List.length_map]
     have e2 : (notK 45 ls).length = nb := by rw [hnb]; unfold notB; rw [List.length_map]
     rw [hX, hY]
     refine bs_inj ?_
     unfold hdrF
     rw [e1, e2]
     simp [Tx.bs_mk])
    have x1 : X.size ≤ 43 := by rw [hX, Tx.size_mk]; exact fmtR_len _ _
    have x2 : Y.size ≤ 43 := by rw [hY, Tx.size_mk]; exact fmtR_len _ _
    rw [← hX] at HF1
    rw [← hY] at HF2
    rw [← hna, ← hnb] at *
    clear hX hY hna hnb HLq
    have q1 : ¬ (9223372036854775807 < 4 + X.size) := by omega
    have q2 : ¬ (9223372036854775807 < 4 + X.size + 2) := by omega
    have q3 : ¬ (9223372036854775807 < 4 + X.size + 2 + Y.size) := by omega
    have q4 : ¬ (9223372036854775807 < 4 + X.size + 2 + Y.size + 4) := by omega
    have HBx := Lib.hid (HB.out.alloc HB.out.size (.cells #[.int .i64 ho, .int .i64 hn, .slice Al M cl] tPh))
    have hnx2 := hnx.alloc hnx.size (.cells #[.int .i64 ho, .int .i64 hn, .slice Al M cl] tPh)
    have HHb : Hid (Blk (wr.alloc (.cells #[.int .i64 ho, .int .i64 hn, .slice Al M cl] tPh)) wr.heap.size tPh [.int .i64 ho, .int .i64 hn, .slice Al M cl]) := Lib.hid (heap_new wr _)
    have HO2 := Lib.hid (own_below HO.out ((Below.refl wr.heap.size wr).alloc (Nat.le_refl _) (.cells #[.int .i64 ho, .int .i64 hn, .slice Al M cl] tPh)))
    have i1 : (0 : Int) ≤ (j : Int) := by omega
    have i2 : (j : Int) < (N : Int) := by omega
    go_upto_region 6 with fail
    obtain ⟨W1, hW1⟩ : ∃ W1, W1 = wr.alloc (.cells #[.int .i64 ho, .int .i64 hn, .slice Al M cl] tPh) := ⟨_, rfl⟩
    rw [← hW1] at HBx HHb hnx2 HO2 ⊢
    clear hW1 c0 c1 c2 HB k0 k1 k2
    obtain ⟨G, hG⟩ : ∃ G, G = wr.heap.size := ⟨_, rfl⟩
    rw [← hG] at HHb ⊢
    clear hG
    have HB1 : Hid (Below w.heap.size w W1.drew) := Lib.hid HBx.out.drew
    have HBr : Hid (Below W1.heap.size W1 W1.drew) := Lib.hid (Below.refl _ W1).drew
    have HKp : Hid (∀ V : World, Below W1.heap.size W1 V → V.cell? ⟨G, 0, none⟩ = some (.int .i64 ho) ∧ V.cell? ⟨G, 1, none⟩ = some (.int .i64 hn) ∧ V.cell? ⟨G, 2, none⟩ = some (.slice Al M cl)) := Lib.hid (fun V hV => by
     obtain ⟨x0, x1, x2, -, -⟩ := blk3 (HHb.out.below hV)
     exact ⟨x0, x1, x2⟩)
    refine wp_region_held_drew (S := (fun V => V.cell? ⟨G, 0, none⟩ = some (.int .i64 ho) ∧ V.cell? ⟨G, 1, none⟩ = some (.int .i64 hn) ∧ V.cell? ⟨G, 2, none⟩ = some (.slice Al M cl))) (by kernel_rfl) (HKp.out _ HBr.out) (fun hHeld => ?_)
    refine wpAnyH_take (i := 0) (v := u3) rfl (by kernel_rfl) (by kernel_rfl) (by kernel_rfl) (fun _ _ _ h => h) (Or.inl ⟨by kernel_rfl, ?_⟩) (by assumption) ?_
    · intro V hV
      obtain ⟨h0, h1, h2⟩ := hV
      go_simp
    change wpAnyH _ _ _ _ _ _ _ (Act.put _ (some 30) _) _
    simp only [Act.put, List.setIfInBounds_toArray, List.set_cons_zero, List.set_cons_succ]
    refine wpAnyH_take (i := 1) (v := .pointer (some ⟨G, 0, none⟩)) rfl (by kernel_rfl) (by kernel_rfl) (by kernel_rfl) (fun _ _ _ h => h) (Or.inl ⟨by kernel_rfl, ?_⟩) (by assumption) ?_
    · intro V hV
      obtain ⟨h0, h1, h2⟩ := hV
      go_simp
    change wpAnyH _ _ _ _ _ _ _ (Act.put _ (some 31) _) _
    simp only [Act.put, List.setIfInBounds_toArray, List.set_cons_zero, List.set_cons_succ]
    refine wpAnyH_take (i := 2) (v := .int .i64 ho) rfl (by kernel_rfl) (by kernel_rfl) (by kernel_rfl) (fun _ _ _ h => h) (Or.inl ⟨by kernel_rfl, ?_⟩) (by assumption) ?_
    · intro V hV
      obtain ⟨h0, h1, h2⟩ := hV
      go_simp
    change wpAnyH _ _ _ _ _ _ _ (Act.put _ (some 32) _) _
    simp only [Act.put, List.setIfInBounds_toArray, List.set_cons_zero, List.set_cons_succ]
    refine wpAnyH_take (i := 3) (v := .agg #[.int .i64 ho, .int .i64 hn, .slice Al M cl]) rfl (by kernel_rfl) (by kernel_rfl) (by kernel_rfl) (fun _ _ _ h => h) (Or.inl ⟨by kernel_rfl, ?_⟩) (by assumption) ?_
    · intro V hV
      obtain ⟨h0, h1, h2⟩ := hV
      go_simp
    change wpAnyH _ _ _ _ _ _ _ (Act.put _ (some 33) _) _
    simp only [Act.put, List.setIfInBounds_toArray, List.set_cons_zero, List.set_cons_succ]
    refine wpAnyH_take (i := 9) (v := .pointer (some ⟨G, 1, none⟩)) rfl (by kernel_rfl) (by kernel_rfl) (by kernel_rfl) (fun _ _ _ h => h) (Or.inl ⟨by kernel_rfl, ?_⟩) (by assumption) ?_
    · intro V hV
      obtain ⟨h0, h1, h2⟩ := hV
      go_simp
    change wpAnyH _ _ _ _ _ _ _ (Act.put _ (some 39) _) _
    simp only [Act.put, List.setIfInBounds_toArray, List.set_cons_zero, List.set_cons_succ]
    refine wpAnyH_take (i := 10) (v := .int .i64 hn) rfl (by kernel_rfl) (by kernel_rfl) (by kernel_rfl) (fun _ _ _ h => h) (Or.inl ⟨by kernel_rfl, ?_⟩) (by assumption) ?_
    · intro V hV
      obtain ⟨h0, h1, h2⟩ := hV
      go_simp
    change wpAnyH _ _ _ _ _ _ _ (Act.put _ (some 40) _) _
    simp only [Act.put, List.setIfInBounds_toArray, List.set_cons_zero, List.set_cons_succ]
    refine wpAnyH_take (i := 11) (v := .agg #[.int .i64 ho, .int .i64 hn, .slice Al M cl]) rfl (by kernel_rfl) (by kernel_rfl) (by kernel_rfl) (fun _ _ _ h => h) (Or.inl ⟨by kernel_rfl, ?_⟩) (by assumption) ?_
    · intro V hV
      obtain ⟨h0, h1, h2⟩ := hV
      go_simp
    change wpAnyH _ _ _ _ _ _ _ (Act.put _ (some 41) _) _
    simp only [Act.put, List.setIfInBounds_toArray, List.set_cons_zero, List.set_cons_succ]
    refine wpAnyH_ready (rs := [4]) (by kernel_rfl) (by simp) ?_
    refine AllReadyH.cons rfl (fun K hK => ?_) AllReadyH.nil
    go_simp
    go_at_call 37
    refine (HL1.out _ HB1.out).mono ?_
    rintro e w4 ⟨A5, c5, rfl, hb⟩
    have HBr := Lib.hid (HBr.out.trans (hb.mono HBr.out.size))
    have HB1 := Lib.hid (HB1.out.trans (hb.mono HB1.out.size))
    clear hb
    go_wp2_with fail
    refine hK.out _ _ (HKp.out _ HBr.out) (fun hHeld => ?_)
    clear hK K
    refine wpAnyH_take (i := 5) (v := .int .i64 (na : Int)) rfl (by kernel_rfl) (by kernel_rfl) (by kernel_rfl) (fun _ _ _ h => h) (Or.inl ⟨by kernel_rfl, ?_⟩) (by assumption) ?_
    · intro V hV
      obtain ⟨h0, h1, h2⟩ := hV
      go_simp
    change wpAnyH _ _ _ _ _ _ _ (Act.put _ (some 35) _) _
    simp only [Act.put, List.setIfInBounds_toArray, List.set_cons_zero, List.set_cons_succ]
    refine wpAnyH_ready (rs := [6]) (by kernel_rfl) (by simp) ?_
    refine AllReadyH.cons rfl (fun K hK => ?_) AllReadyH.nil
    go_simp
    go_at_call 107
    refine (HF1.out _).mono ?_
    rintro e w6 ⟨rfl, hb⟩
    have HBr := Lib.hid (HBr.out.trans (hb.mono HBr.out.size))
    have HB1 := Lib.hid (HB1.out.trans (hb.mono HB1.out.size))
    clear hb
    go_wp2_with fail
    refine hK.out _ _ (HKp.out _ HBr.out) (fun hHeld => ?_)
    clear hK K
    refine wpAnyH_take (i := 7) (v := .string ((⟨#[64, 64, 32, 45]⟩ : ByteArray) ++ X)) rfl (by kernel_rfl) (by kernel_rfl) (by kernel_rfl) (fun _ _ _ h => h) (Or.inl ⟨by kernel_rfl, ?_⟩) (by assumption) ?_
    · intro V hV
      obtain ⟨h0, h1, h2⟩ := hV
      go_simp
    change wpAnyH _ _ _ _ _ _ _ (Act.put _ (some 37) _) _
    simp only [Act.put, List.setIfInBounds_toArray, List.set_cons_zero, List.set_cons_succ]
    refine wpAnyH_take (i := 8) (v := .string ((⟨#[64, 64, 32, 45]⟩ : ByteArray) ++ X ++ ⟨#[32, 43]⟩)) rfl (by kernel_rfl) (by kernel_rfl) (by kernel_rfl) (fun _ _ _ h => h) (Or.inl ⟨by kernel_rfl, ?_⟩) (by assumption) ?_
    · intro V hV
      obtain ⟨h0, h1, h2⟩ := hV
      go_simp
    change wpAnyH _ _ _ _ _ _ _ (Act.put _ (some 38) _) _
    simp only [Act.put, List.setIfInBounds_toArray, List.set_cons_zero, List.set_cons_succ]
    refine wpAnyH_ready (rs := [12]) (by kernel_rfl) (by simp) ?_
    refine AllReadyH.cons rfl (fun K hK => ?_) AllReadyH.nil
    go_simp
    go_at_call 37
    refine (HL2.out _ HB1.out).mono ?_
    rintro e w12 ⟨A6, c6, rfl, hb⟩
    have HBr := Lib.hid (HBr.out.trans (hb.mono HBr.out.size))
    have HB1 := Lib.hid (HB1.out.trans (hb.mono HB1.out.size))
    clear hb
    go_wp2_with fail
    refine hK.out _ _ (HKp.out _ HBr.out) (fun hHeld => ?_)
    clear hK K
    refine wpAnyH_take (i := 13) (v := .int .i64 (nb : Int)) rfl (by kernel_rfl) (by kernel_rfl) (by kernel_rfl) (fun _ _ _ h => h) (Or.inl ⟨by kernel_rfl, ?_⟩) (by assumption) ?_
    · intro V hV
      obtain ⟨h0, h1, h2⟩ := hV
      go_simp
    change wpAnyH _ _ _ _ _ _ _ (Act.put _ (some 43) _) _
    simp only [Act.put, List.setIfInBounds_toArray, List.set_cons_zero, List.set_cons_succ]
    refine wpAnyH_ready (rs := [14]) (by kernel_rfl) (by simp) ?_
    refine AllReadyH.cons rfl (fun K hK => ?_) AllReadyH.nil
    go_simp
    go_at_call 107
    refine (HF2.out _).mono ?_
    rintro e w14 ⟨rfl, hb⟩
    have HBr := Lib.hid (HBr.out.trans (hb.mono HBr.out.size))
    have HB1 := Lib.hid (HB1.out.trans (hb.mono HB1.out.size))
    clear hb
    go_wp2_with fail
    refine hK.out _ _ (HKp.out _ HBr.out) (fun hHeld => ?_)
    clear hK K
    refine wpAnyH_take (i := 15) (v := .string ((⟨#[64, 64, 32, 45]⟩ : ByteArray) ++ X ++ ⟨#[32, 43]⟩ ++ Y)) rfl (by kernel_rfl) (by kernel_rfl) (by kernel_rfl) (fun _ _ _ h => h) (Or.inl ⟨by kernel_rfl, ?_⟩) (by assumption) ?_
    · intro V hV
      obtain ⟨h0, h1, h2⟩ := hV
      go_simp
    change wpAnyH _ _ _ _ _ _ _ (Act.put _ (some 45) _) _
    simp only [Act.put, List.setIfInBounds_toArray, List.set_cons_zero, List.set_cons_succ]
    refine wpAnyH_take (i := 16) (v := .string ((⟨#[64, 64, 32, 45]⟩ : ByteArray) ++ X ++ ⟨#[32, 43]⟩ ++ Y ++ ⟨#[32, 64, 64, 10]⟩)) rfl (by kernel_rfl) (by kernel_rfl) (by kernel_rfl) (fun _ _ _ h => h) (Or.inl ⟨by kernel_rfl, ?_⟩) (by assumption) ?_
    · intro V hV
      obtain ⟨h0, h1, h2⟩ := hV
      go_simp
    change wpAnyH _ _ _ _ _ _ _ (Act.put _ (some 46) _) _
    simp only [Act.put, List.setIfInBounds_toArray, List.set_cons_zero, List.set_cons_succ]
    rw [HH.out]
    have HOz := Lib.hid (own_below HO2.out (HBr.out.alloc HBr.out.size (.cells #[.string ⟨(hdrF ho hn ls).toArray⟩] 9)))
    have HBz := Lib.hid (HBr.out.alloc HBr.out.size (.cells #[.string ⟨(hdrF ho hn ls).toArray⟩] 9))
    have HCz : Hid ((w14.alloc (.cells #[.string ⟨(hdrF ho hn ls).toArray⟩] 9)).cell? ⟨w14.heap.size, 0, none⟩ = some (.string ⟨(hdrF ho hn ls).toArray⟩)) := Lib.hid (World.cell?_alloc_mark _ _ _ _ 0)
    have hWs : W.heap.size ≤ (w14.alloc (.cells #[.string ⟨(hdrF ho hn ls).toArray⟩] 9)).heap.size := Nat.le_trans hnx2.size HBz.out.size
    refine wpAnyH_ready (rs := [17]) (by kernel_rfl) (by simp) ?_
    refine AllReadyH.cons rfl (fun K hK => ?_) AllReadyH.nil
    go_simp
    refine hK.out _ _ (HKp.out _ HBz.out) (fun hHeld => ?_)
    clear hK K
    refine wpAnyH_ready (rs := [18]) (by kernel_rfl) (by simp) ?_
    refine AllReadyH.cons rfl (fun K hK => ?_) AllReadyH.nil
    refine step_app_str (by rfl) (.tmp 30) (.tmp 47) (by rfl) W.heap.size (acc j) (hdrF ho hn ls) u3 (by rfl) HOz.out ⟨w14.heap.size, 0, none⟩ (by rfl) HCz.out (by omega) hWs ?_
    intro g7 cap7 w7 ho7 hb7 hk7
    have HK7 := Lib.hid (hk7 _ _ _ (by decide) (HHb.out.below HBz.out))
    have HO7 := Lib.hid ho7
    have hnx7 := (hnx2.trans (HBz.out.mono hnx2.size)).trans hb7
    clear ho7 hb7 hk7
    refine hK.out _ _ ((fun V (h : Blk V G tPh [.int .i64 ho, .int .i64 hn, .slice Al M cl]) => (⟨h.cell (k := 0) (show 0 < 3 by decide), h.cell (k := 1) (show 1 < 3 by decide), h.cell (k := 2) (show 2 < 3 by decide)⟩ : V.cell? ⟨G, 0, none⟩ = some (.int .i64 ho) ∧ V.cell? ⟨G, 1, none⟩ = some (.int .i64 hn) ∧ V.cell? ⟨G, 2, none⟩ = some (.slice Al M cl))) w7 HK7.out) (fun hHeld => ?_)
    clear hK K
    refine wpAnyH_take (i := 19) (v := .slice (some ⟨g7, 0, none⟩) ((acc j).length + 1) cap7) rfl (by kernel_rfl) (by kernel_rfl) (by kernel_rfl) (fun _ _ _ h => h) (Or.inl ⟨by kernel_rfl, ?_⟩) (by assumption) ?_
    · intro V hV
      obtain ⟨h0, h1, h2⟩ := hV
      go_simp
    change wpAnyH _ _ _ _ _ _ _ (Act.put _ (some 3) _) _
    simp only [Act.put, List.setIfInBounds_toArray]
    refine wpAnyH_done (by kernel_rfl) ?_ _
    clear HBr HB1 HBx HO2 HHb HOz HBz HCz HL1 HL2 HF1 HF2 HH HKp x1 x2 q1 q2 q3 q4 hWs hHeld hNa hNb
    obtain ⟨bcc, hbcc⟩ : ∃ bcc : Nat → List (List UInt8), ∀ m, bcc m = (acc j ++ [hdrF ho hn ls]) ++ (ls.take m).flatMap wrLn := ⟨fun m => (acc j ++ [hdrF ho hn ls]) ++ (ls.take m).flatMap wrLn, fun _ => rfl⟩
    have HB0c : Hid (w7.ownsRow W.heap.size 9 1 (.slice (some ⟨g7, 0, none⟩) ((acc j).length + 1) cap7) (bcc 0).length (strsV (bcc 0))) := Lib.hid (by rw [hbcc, List.take_zero, List.flatMap_nil, List.append_nil]; exact HO7.out)
    have HBs : Hid (∀ m (h : m < ls.length), bcc (m + 1) = bcc m ++ wrLn ls[m]) := Lib.hid (fun m h => by rw [hbcc, hbcc, List.take_succ_eq_append_getElem h, List.flatMap_append, List.append_assoc]; simp)
    have HBe : Hid (bcc ls.length = acc (j + 1)) := Lib.hid (by rw [hbcc, List.take_length, HA2.out])
    have HBl : Hid (∀ m, (bcc m).length ≤ 1048576) := Lib.hid (fun m => by
     rw [hbcc, List.length_append, List.length_append, List.length_singleton]
     have : ((ls.take m).flatMap wrLn).length ≤ (ls.flatMap wrLn).length := by
      have e : ls.flatMap wrLn = (ls.take m).flatMap wrLn ++ (ls.drop m).flatMap wrLn := by rw [← List.flatMap_append, List.take_append_drop]
      rw [e, List.length_append]; omega
     omega)
    clear hbcc HA2 HO7
    go_wp2_with fail
    go_loopw [3, 6] (fun u i wq => ∃ m : Nat, m ≤ M ∧ i = .int .i64 m ∧ Hid (wq.ownsRow W.heap.size 9 1 u (bcc m).length (strsV (bcc m))) ∧ Hid (Blk wq G tPh [.int .i64 ho, .int .i64 hn, .slice Al M cl]) ∧ Below W.heap.size W wq) (fun _ i _ => M - (intOf i).toNat)
    case atStart => exact ⟨0, Nat.zero_le _, rfl, HB0c, HK7, hnx7⟩
    case round =>
     obtain ⟨m, hm, rfl, HOm, HKm, hnm⟩ := hrel
     clear HB0c HK7
     have HBq := Lib.hid (HB0.out.trans (hnm.mono HB0.out.size))
     obtain ⟨g0, g1, g2, -, -⟩ := blk3 HKm.out
     by_cases hlt2 : m < M
     · have hx2 : m < ls.length := by rw [HM.out]; exact hlt2
       obtain ⟨b2, off2, eA, c0, c1⟩ := RdL_at (HRl.out w (Below.refl _ _)) m hx2
       obtain rfl := eA
       obtain ⟨hkd, htz⟩ := HK.out _ (List.getElem_mem hx2)
       have htz2 := HTz.out _ (List.getElem_mem hx2)
       have HS2 := Lib.hid (HBs.out m hx2)
       have hbl := HBl.out m
       generalize ls[m] = l at *
       obtain ⟨k, t⟩ := l
       simp only at c0 c1 hkd htz2
       clear htz
       obtain ⟨kb, hkb, hkc⟩ : ∃ kb : UInt8, (kb.toNat : Int) = k ∧ kB k = ⟨[kb].toArray⟩ := by
        rcases hkd with rfl | rfl | rfl
        · exact ⟨32, rfl, rfl⟩
        · exact ⟨45, rfl, rfl⟩
        · exact ⟨43, rfl, rfl⟩
       have HLc : Hid (∀ V : World, Below w.heap.size w V → V.cell? ⟨b2, off2 + m * 2, none⟩ = some (.int .u8 k) ∧ V.cell? ⟨b2, off2 + m * 2 + 1, none⟩ = some (.string t)) := Lib.hid (fun V hV => ⟨(hV.cell (Tx.cell_lt c0)).trans c0, (hV.cell (Tx.cell_lt c1)).trans c1⟩)
       clear c0 c1
       obtain ⟨c0, c1⟩ := HLc.out _ HBq.out
       have HKb := Lib.hid hkb
       have HKc := Lib.hid hkc
       clear hkb hkc hkd
       have i3 : (0 : Int) ≤ (m : Int) := by omega
       have i4 : (m : Int) < (M : Int) := by omega
       have q1 : (kB k).size + t.size ≤ 9223372036854775807 := by have : (kB k).size = 1 := rfl; omega
       have q2 : ¬ (9223372036854775807 < (kB k).size + t.size) := by omega
       go_upto_region 10 with fail
       have HBw : Hid (Below wr.heap.size wr wr.drew) := Lib.hid (Below.refl _ wr).drew
       have HKq : Hid (∀ V : World, Below wr.heap.size wr V → V.cell? ⟨G, 2, none⟩ = some (.slice (some ⟨b2, off2, none⟩) M cl) ∧ V.cell? ⟨b2, off2 + m * 2, none⟩ = some (.int .u8 k) ∧ V.cell? ⟨b2, off2 + m * 2 + 1, none⟩ = some (.string t)) := Lib.hid (fun V hV => by
        obtain ⟨x0, x1, x2, -, -⟩ := blk3 (HKm.out.below hV)
        exact ⟨x2, (hV.cell (Tx.cell_lt c0)).trans c0, (hV.cell (Tx.cell_lt c1)).trans c1⟩)
       refine wp_region_held_drew (S := (fun V => V.cell? ⟨G, 2, none⟩ = some (.slice (some ⟨b2, off2, none⟩) M cl) ∧ V.cell? ⟨b2, off2 + m * 2, none⟩ = some (.int .u8 k) ∧ V.cell? ⟨b2, off2 + m * 2 + 1, none⟩ = some (.string t))) (by kernel_rfl) (HKq.out _ HBw.out) (fun hHeld => ?_)
       refine wpAnyH_take (i := 0) (v := u3) rfl (by kernel_rfl) (by kernel_rfl) (by kernel_rfl) (fun _ _ _ h => h) (Or.inl ⟨by kernel_rfl, ?_⟩) (by assumption) ?_
       · intro V hV
         obtain ⟨h0, h1, h2⟩ := hV
         go_simp
       change wpAnyH _ _ _ _ _ _ _ (Act.put _ (some 56) _) _
       simp only [Act.put, List.setIfInBounds_toArray, List.set_cons_zero, List.set_cons_succ]
       refine wpAnyH_take (i := 1) (v := .pointer (some ⟨G, 2, none⟩)) rfl (by kernel_rfl) (by kernel_rfl) (by kernel_rfl) (fun _ _ _ h => h) (Or.inl ⟨by kernel_rfl, ?_⟩) (by assumption) ?_
       · intro V hV
         obtain ⟨h0, h1, h2⟩ := hV
         go_simp
       change wpAnyH _ _ _ _ _ _ _ (Act.put _ (some 57) _) _
       simp only [Act.put, List.setIfInBounds_toArray, List.set_cons_zero, List.set_cons_succ]
       refine wpAnyH_take (i := 2) (v := .slice (some ⟨b2, off2, none⟩) M cl) rfl (by kernel_rfl) (by kernel_rfl) (by kernel_rfl) (fun _ _ _ h => h) (Or.inl ⟨by kernel_rfl, ?_⟩) (by assumption) ?_
       · intro V hV
         obtain ⟨h0, h1, h2⟩ := hV
         go_simp
       change wpAnyH _ _ _ _ _ _ _ (Act.put _ (some 58) _) _
       simp only [Act.put, List.setIfInBounds_toArray, List.set_cons_zero, List.set_cons_succ]
       refine wpAnyH_take (i := 3) (v := .int .i64 (m : Int)) rfl (by kernel_rfl) (by kernel_rfl) (by kernel_rfl) (fun _ _ _ h => h) (Or.inl ⟨by kernel_rfl, ?_⟩) (by assumption) ?_
       · intro V hV
         obtain ⟨h0, h1, h2⟩ := hV
         go_simp
       change wpAnyH _ _ _ _ _ _ _ (Act.put _ (some 59) _) _
       simp only [Act.put, List.setIfInBounds_toArray, List.set_cons_zero, List.set_cons_succ]
       refine wpAnyH_take (i := 4) (v := .pointer (some ⟨b2, off2 + m * 2, none⟩)) rfl (by kernel_rfl) (by kernel_rfl) (by kernel_rfl) (fun _ _ _ h => h) (Or.inl ⟨by kernel_rfl, ?_⟩) (by assumption) ?_
       · intro V hV
         obtain ⟨h0, h1, h2⟩ := hV
         go_simp
       change wpAnyH _ _ _ _ _ _ _ (Act.put _ (some 60) _) _
       simp only [Act.put, List.setIfInBounds_toArray, List.set_cons_zero, List.set_cons_succ]
       refine wpAnyH_take (i := 5) (v := .pointer (some ⟨b2, off2 + m * 2, none⟩)) rfl (by kernel_rfl) (by kernel_rfl) (by kernel_rfl) (fun _ _ _ h => h) (Or.inl ⟨by kernel_rfl, ?_⟩) (by assumption) ?_
       · intro V hV
         obtain ⟨h0, h1, h2⟩ := hV
         go_simp
       change wpAnyH _ _ _ _ _ _ _ (Act.put _ (some 61) _) _
       simp only [Act.put, List.setIfInBounds_toArray, List.set_cons_zero, List.set_cons_succ]
       refine wpAnyH_take (i := 6) (v := .int .u8 k) rfl (by kernel_rfl) (by kernel_rfl) (by kernel_rfl) (fun _ _ _ h => h) (Or.inl ⟨by kernel_rfl, ?_⟩) (by assumption) ?_
       · intro V hV
         obtain ⟨h0, h1, h2⟩ := hV
         go_simp
       change wpAnyH _ _ _ _ _ _ _ (Act.put _ (some 62) _) _
       simp only [Act.put, List.setIfInBounds_toArray, List.set_cons_zero, List.set_cons_succ]
       refine wpAnyH_take (i := 9) (v := .pointer (some ⟨G, 2, none⟩)) rfl (by kernel_rfl) (by kernel_rfl) (by kernel_rfl) (fun _ _ _ h => h) (Or.inl ⟨by kernel_rfl, ?_⟩) (by assumption) ?_
       · intro V hV
         obtain ⟨h0, h1, h2⟩ := hV
         go_simp
       change wpAnyH _ _ _ _ _ _ _ (Act.put _ (some 65) _) _
       simp only [Act.put, List.setIfInBounds_toArray, List.set_cons_zero, List.set_cons_succ]
       refine wpAnyH_take (i := 10) (v := .slice (some ⟨b2, off2, none⟩) M cl) rfl (by kernel_rfl) (by kernel_rfl) (by kernel_rfl) (fun _ _ _ h => h) (Or.inl ⟨by kernel_rfl, ?_⟩) (by assumption) ?_
       · intro V hV
         obtain ⟨h0, h1, h2⟩ := hV
         go_simp
       change wpAnyH _ _ _ _ _ _ _ (Act.put _ (some 66) _) _
       simp only [Act.put, List.setIfInBounds_toArray, List.set_cons_zero, List.set_cons_succ]
       refine wpAnyH_take (i := 11) (v := .int .i64 (m : Int)) rfl (by kernel_rfl) (by kernel_rfl) (by kernel_rfl) (fun _ _ _ h => h) (Or.inl ⟨by kernel_rfl, ?_⟩) (by assumption) ?_
       · intro V hV
         obtain ⟨h0, h1, h2⟩ := hV
         go_simp
       change wpAnyH _ _ _ _ _ _ _ (Act.put _ (some 67) _) _
       simp only [Act.put, List.setIfInBounds_toArray, List.set_cons_zero, List.set_cons_succ]
       refine wpAnyH_take (i := 12) (v := .pointer (some ⟨b2, off2 + m * 2, none⟩)) rfl (by kernel_rfl) (by kernel_rfl) (by kernel_rfl) (fun _ _ _ h => h) (Or.inl ⟨by kernel_rfl, ?_⟩) (by assumption) ?_
       · intro V hV
         obtain ⟨h0, h1, h2⟩ := hV
         go_simp
       change wpAnyH _ _ _ _ _ _ _ (Act.put _ (some 68) _) _
       simp only [Act.put, List.setIfInBounds_toArray, List.set_cons_zero, List.set_cons_succ]
       refine wpAnyH_take (i := 13) (v := .pointer (some ⟨b2, off2 + m * 2 + 1, none⟩)) rfl (by kernel_rfl) (by kernel_rfl) (by kernel_rfl) (fun _ _ _ h => h) (Or.inl ⟨by kernel_rfl, ?_⟩) (by assumption) ?_
       · intro V hV
         obtain ⟨h0, h1, h2⟩ := hV
         go_simp
       change wpAnyH _ _ _ _ _ _ _ (Act.put _ (some 69) _) _
       simp only [Act.put, List.setIfInBounds_toArray, List.set_cons_zero, List.set_cons_succ]
       refine wpAnyH_take (i := 14) (v := .string t) rfl (by kernel_rfl) (by kernel_rfl) (by kernel_rfl) (fun _ _ _ h => h) (Or.inl ⟨by kernel_rfl, ?_⟩) (by assumption) ?_
       · intro V hV
         obtain ⟨h0, h1, h2⟩ := hV
         go_simp
       change wpAnyH _ _ _ _ _ _ _ (Act.put _ (some 70) _) _
       simp only [Act.put, List.setIfInBounds_toArray, List.set_cons_zero, List.set_cons_succ]
       have HBk := Lib.hid (HBw.out.alloc HBw.out.size (.cells #[.int .u8 k] 5))
       have HCv : Hid ((convert 91 9 (.slice (some ⟨wr.heap.size, 0, none⟩) 1 1)).run Tryz.prog (wr.drew.alloc (.cells #[.int .u8 k] 5)) = .ok (.string (kB k)) (wr.drew.alloc (.cells #[.int .u8 k] 5))) := Lib.hid (by
        rw [HKc.out]
        refine Sc.own_conv (base := wr.heap.size) (L := [kb]) ⟨rfl, .inr ⟨wr.heap.size, 1, #[.int .u8 k], rfl, Nat.le_refl _, ?_, Nat.le_refl _, by decide, rfl, ?_⟩⟩
        · exact heap_new wr.drew _
        · rw [← HKb.out]; rfl)
       refine wpAnyH_ready (rs := [7]) (by kernel_rfl) (by simp) ?_
       refine AllReadyH.cons rfl (fun K hK => ?_) AllReadyH.nil
       go_simp
       refine hK.out _ _ (HKq.out _ HBk.out) (fun hHeld => ?_)
       clear hK K
       refine wpAnyH_ready (rs := [8]) (by kernel_rfl) (by simp) ?_
       refine AllReadyH.cons rfl (fun K hK => ?_) AllReadyH.nil
       refine step_conv (by rfl) 91 9 (.tmp 63) (by rfl) _ _ (by rfl) HCv.out ?_
       refine hK.out _ _ (HKq.out _ HBk.out) (fun hHeld => ?_)
       clear hK K
       refine wpAnyH_take (i := 15) (v := .string (kB k ++ t)) rfl (by kernel_rfl) (by kernel_rfl) (by kernel_rfl) (fun _ _ _ h => h) (Or.inl ⟨by kernel_rfl, ?_⟩) (by assumption) ?_
       · intro V hV
         obtain ⟨h0, h1, h2⟩ := hV
         go_simp
       change wpAnyH _ _ _ _ _ _ _ (Act.put _ (some 71) _) _
       simp only [Act.put, List.setIfInBounds_toArray]
       have HMm : Hid (kB k ++ t = ⟨(bs (kB k) ++ bs t).toArray⟩) := Lib.hid (bs_inj ((Tx.bs_append _ _).trans (Tx.bs_mk _).symm))
       rw [HMm.out]
       have HBx := Lib.hid (HBk.out.alloc HBk.out.size (.cells #[.string ⟨(bs (kB k) ++ bs t).toArray⟩] 9))
       have HOx := Lib.hid (own_below HOm.out HBx.out)
       have HCx : Hid (((wr.drew.alloc (.cells #[.int .u8 k] 5)).alloc (.cells #[.string ⟨(bs (kB k) ++ bs t).toArray⟩] 9)).cell? ⟨(wr.drew.alloc (.cells #[.int .u8 k] 5)).heap.size, 0, none⟩ = some (.string ⟨(bs (kB k) ++ bs t).toArray⟩)) := Lib.hid (World.cell?_alloc_mark _ _ _ _ 0)
       have hWs : W.heap.size ≤ ((wr.drew.alloc (.cells #[.int .u8 k] 5)).alloc (.cells #[.string ⟨(bs (kB k) ++ bs t).toArray⟩] 9)).heap.size := Nat.le_trans hnm.size HBx.out.size
       have hz2 : (wr.drew.alloc (.cells #[.int .u8 k] 5)).heap.size = wr.heap.size + 1 := by simp
       rw [hz2] at HCx
       refine wpAnyH_ready (rs := [16]) (by kernel_rfl) (by simp) ?_
       refine AllReadyH.cons rfl (fun K hK => ?_) AllReadyH.nil
       go_simp
       refine hK.out _ _ (HKq.out _ HBx.out) (fun hHeld => ?_)
       clear hK K
       refine wpAnyH_ready (rs := [17]) (by kernel_rfl) (by simp) ?_
       refine AllReadyH.cons rfl (fun K hK => ?_) AllReadyH.nil
       refine step_app_str (by rfl) (.tmp 56) (.tmp 72) (by rfl) W.heap.size (bcc m) (bs (kB k) ++ bs t) u3 (by rfl) HOx.out ⟨wr.heap.size + 1, 0, none⟩ (by rfl) HCx.out (by omega) hWs ?_
       intro g8 cap8 w8 ho8 hb8 hk8
       have HK8 := Lib.hid (hk8 _ _ _ (by decide) (HKm.out.below HBx.out))
       have HO8 := Lib.hid ho8
       have hB8 := (hnm.trans (HBx.out.mono hnm.size)).trans hb8
       have HB8 := Lib.hid (HB0.out.trans (hB8.mono HB0.out.size))
       clear ho8 hb8 hk8
       have HF8 := Lib.hid (HLc.out _ HB8.out)
       refine hK.out _ _ (⟨HK8.out.cell (k := 2) (show 2 < 3 by decide), HF8.out.1, HF8.out.2⟩) (fun hHeld => ?_)
       clear hK K
       refine wpAnyH_take (i := 18) (v := .slice (some ⟨g8, 0, none⟩) ((bcc m).length + 1) cap8) rfl (by kernel_rfl) (by kernel_rfl) (by kernel_rfl) (fun _ _ _ h => h) (Or.inl ⟨by kernel_rfl, ?_⟩) (by assumption) ?_
       · intro V hV
         obtain ⟨h0, h1, h2⟩ := hV
         go_simp
       change wpAnyH _ _ _ _ _ _ _ (Act.put _ (some 3) _) _
       simp only [Act.put, List.setIfInBounds_toArray]
       refine wpAnyH_done (by kernel_rfl) ?_ _
       clear HBw HKq HBk HCv HMm HBx HOx HCx hWs hz2 hHeld c0 c1 g0 g1 g2 HKm HOm
       obtain ⟨y0, y1, y2, -, -⟩ := blk3 HK8.out
       obtain ⟨c0, c1⟩ := HF8.out
       have HE := Lib.hid (fun w => Tx.EndedR_any t w (by omega))
       have hs8 := hB8.size
       cases he : Tx.endedF (bs t) with
       | true =>
         have HS3 : Hid (bcc (m + 1) = bcc m ++ [bs (kB k) ++ bs t]) := Lib.hid (by rw [HS2.out, wrLn, if_pos he])
         rw [he] at HE
         clear he
         go_wp2_with (go_at_call 64; refine (HE.out _).mono ?_; rintro e w9 ⟨rfl, rfl⟩)
         go_roundw
         case rel => exact ⟨m + 1, by omega, by go_num, by rw [HS3.out]; exact HO8, HK8, hB8⟩
         case measure => simp [intOf]; omega
       | false =>
         have HS3 : Hid (bcc (m + 1) = (bcc m ++ [bs (kB k) ++ bs t]) ++ [bs unB]) := Lib.hid (by rw [HS2.out, wrLn, if_neg (by rw [he]; decide), List.append_assoc]; rfl)
         rw [he] at HE
         clear he
         have hl8 : (bcc m ++ [bs (kB k) ++ bs t]).length + 1 ≤ 100000000 := by rw [List.length_append, List.length_singleton]; omega
         go_wp2_with (first | (go_at_call 64; refine (HE.out _).mono ?_; rintro e w9 ⟨rfl, rfl⟩) | (at_builtin; refine app_strK rfl (.tmp 82) (.tmp 83) rfl W.heap.size (bcc m ++ [bs (kB k) ++ bs t]) (bs unB) _ rfl HO8.out rfl (show (#[Value.string unB] : Array Value).toList = [Tx.strV (bs unB)] by unfold Tx.strV; rw [Tx.mk_bs]) hl8 hs8 ?_; intro v9 w9 ho9 hb9 hk9; have HO9 := Lib.hid ho9; have HK9 := Lib.hid (hk9 _ _ _ (by decide) HK8.out); have hB9 := hB8.trans hb9; clear ho9 hb9 hk9))
         go_roundw
         case rel => exact ⟨m + 1, by omega, by go_num, by rw [HS3.out]; exact HO9, HK9, hB9⟩
         case measure => simp [intOf]; omega
     · obtain rfl : m = M := by omega
       have HBE2 : Hid (bcc m = acc (j + 1)) := Lib.hid (by rw [← HBe.out, HM.out])
       rw [HBE2.out] at HOm
       clear HBe HBE2 HBs HBl HAs HAl HRl HK HTz
       go_wp2_with fail
       go_roundw
       case rel => exact ⟨j + 1, by omega, by go_num, HOm, hnm⟩
       case measure => simp [intOf]; omega
  · obtain rfl : j = N := by omega
    have hAN : acc j = wrAll ⟨on, nn, hs⟩ := by rw [HAcc.out, ← HN.out, List.take_length]; rfl
    have HR := Lib.hid (RdS.of_own HO.out)
    have hlen := HAl.out j
    have hfl : (Tx.bss (Tx.mks (acc j))).flatten = joinL (partsF ⟨on, nn, hs⟩) := by rw [Tx.bss, Tx.mks_map, hAN, wrAll_flat]
    have HAC := Lib.hid (AllR_any u3 (Tx.mks (acc j)) wr HR.out (by rw [Tx.mks_len]; exact hlen) (by unfold Tx.total; rw [hfl, joinL_len]; exact hz))
    rw [hfl] at HAC
    have HBf := Lib.hid (HB0.out.trans (hnx.mono HB0.out.size))
    have HPost : Hid (∀ w5, Below w.heap.size w w5 → WrPost ⟨on, nn, hs⟩ w (.returned (.string ⟨(joinL (partsF ⟨on, nn, hs⟩)).toArray⟩)) w5) := Lib.hid (fun w5 h => ⟨⟨_, rfl, Tx.bs_mk _⟩, h⟩)
    generalize joinL (partsF ⟨on, nn, hs⟩) = JL at *
    clear hAN hfl hlen hz HAl HAs HAcc HR
    go_wp2_with (go_at_call 65; refine (HAC.out).mono ?_; rintro e w5 ⟨rfl, hb5⟩; have HBg := Lib.hid (HBf.out.trans (hb5.mono HBf.out.size)); clear hb5)
    go_ret
    exact HPost.out _ HBg.out
end Uf
end
section
open Go.RowKit
namespace Uf
open Cm Hn
open Tx (bs)
def ShOk (p : Pat) : Prop := PatBg p.hunks ∧ (nameB p.on = true → nameB p.nn = true → hksB (0, false) (0, false) p.hunks = true → szL (partsF p) ≤ 4194304 ∧ (wrAll p).length ≤ 1048576)
theorem CheckR_any (p : Pat) (v : Value) (w : World) (hr : RdP w v p.hunks) (hs : ShOk p) : Calls Tryz.prog 40 #[tPatV p v] w (CkPost (chkC p) w) :=
 CheckR_of p v w hr hs.1 (fun h1 h2 h3 w' hb => WriteR_any p v w' (hr.below hb) (pat_ok hs.1.1 h1 h2 h3) (hs.2 h1 h2 h3).1 (hs.2 h1 h2 h3).2)
theorem MkOk.sh {p : Pat} (h : MkOk p) : ShOk p := ⟨h.big, fun _ _ _ => ⟨h.sz, h.cnt⟩⟩
end Uf
end
section
open Go.RowKit
namespace Uf
open Cm Hn
open Sc (fmtR)
open Tx (bs)
def xB : ByteArray := ⟨#[120]⟩
def exS : ByteArray := ⟨#[97, 10, 98]⟩
def exT : ByteArray := ⟨#[97, 10, 99, 10]⟩
def l1B : ByteArray := ⟨#[97, 10]⟩
def l2B : ByteArray := ⟨#[98]⟩
def l3B : ByteArray := ⟨#[99, 10]⟩
def exP : Pat := ⟨xB, xB, [⟨0, 0, [⟨32, l1B⟩, ⟨45, l2B⟩, ⟨43, l3B⟩]⟩]⟩
def exB : List UInt8 := [45, 45, 45, 32, 120, 10, 43, 43, 43, 32, 120, 10, 64, 64, 32, 45, 49, 44, 50, 32, 43, 49, 44, 50, 32, 64, 64, 10, 32, 97, 10, 45, 98, 10, 92, 32, 78, 111, 32, 110, 101, 119, 108, 105, 110, 101, 32, 97, 116, 32, 101, 110, 100, 32, 111, 102, 32, 102, 105, 108, 101, 10, 43, 99, 10]
theorem ex_ls : Sh.lnB exS = [l1B, l2B] := by rfl
theorem ex_lt : Sh.lnB exT = [l1B, l3B] := by rfl
theorem ex_blb : Sh.blbF exS exT = [⟨1, 1, 1, 1⟩] := by
 obtain ⟨x, hx⟩ : ∃ x, Nt.placeI (Nt.namesF [[l1B, l2B], [l1B, l3B]]) l1B = x := ⟨_, rfl⟩
 obtain ⟨y, hy⟩ : ∃ x, Nt.placeI (Nt.namesF [[l1B, l2B], [l1B, l3B]]) l2B = x := ⟨_, rfl⟩
 obtain ⟨z, hz⟩ : ∃ x, Nt.placeI (Nt.namesF [[l1B, l2B], [l1B, l3B]]) l3B = x := ⟨_, rfl⟩
 have hyz : y ≠ z := by
  rw [← hy, ← hz]
  intro h
  have := (Nt.placeI_inj (Nt.mem_namesF (f := [l1B, l2B]) (by simp) (by simp)) (Nt.mem_namesF (f := [l1B, l3B]) (by simp) (by simp))).1 h
  exact absurd (congrArg bs this) (by decide)
 have ha : Sh.idA exS exT = [x, y] := by
  unfold Sh.idA
  rw [ex_ls, ex_lt, List.map_cons, List.map_cons, List.map_nil, hx, hy]
 have hb : Sh.idB exS exT = [x, z] := by
  unfold Sh.idB
  rw [ex_ls, ex_lt, List.map_cons, List.map_cons, List.map_nil, hx, hz]
 unfold Sh.blbF
 rw [ha, hb]
 unfold Sh.scrF
 rw [Sh.wkF_eq, Sh.wkF_old hyz (by simp [Sh.lcs, hyz]), Sh.wkF_nil]
 rfl
theorem ex_mk : mkP xB xB exS exT 1 false = exP := by
 unfold mkP
 rw [if_pos (by decide), ex_ls, ex_lt]
 unfold scrD
 rw [if_neg (by decide), ex_blb]
 rfl
theorem ex_mc : mkC xB xB 1 = 0 := by decide
theorem dec1 : Lib.decDigits 1 = [49] := by
 rw [Lib.decDigits]
 rfl
theorem dec2 : Lib.decDigits 2 = [50] := by
 rw [Lib.decDigits]
 rfl
theorem fm12 : fmtR 0 2 = [49, 44, 50] := by
 have h1 : Sc.fmtF 1 = [49] := by
  unfold Sc.fmtF
  rw [if_neg (by decide)]
  exact dec1
 have h2 : Sc.fmtF 2 = [50] := by
  unfold Sc.fmtF
  rw [if_neg (by decide)]
  exact dec2
 rw [Sc.fmtR_n 0 2 (by decide) (by decide) (by decide)]
 show Sc.fmtF 1 ++ [44] ++ Sc.fmtF 2 = _
 rw [h1, h2]
 rfl
theorem ex_hdr : hdrF 0 0 [⟨32, l1B⟩, ⟨45, l2B⟩, ⟨43, l3B⟩] = [64, 64, 32, 45, 49, 44, 50, 32, 43, 49, 44, 50, 32, 64, 64, 10] := by
 unfold hdrF
 show [64, 64, 32, 45] ++ fmtR 0 2 ++ [32, 43] ++ fmtR 0 2 ++ [32, 64, 64, 10] = _
 rw [fm12]
 rfl
theorem ex_parts : joinL (partsF exP) = exB := by
 show joinL (hdPt xB xB :: (⟨(hdrF 0 0 [⟨32, l1B⟩, ⟨45, l2B⟩, ⟨43, l3B⟩]).toArray⟩ :: lnsPt [⟨32, l1B⟩, ⟨45, l2B⟩, ⟨43, l3B⟩] ++ [])) = exB
 rw [ex_hdr]
 rfl
theorem ex_chk : chkC exP = 0 := by
 unfold chkC
 rw [if_pos (by decide), if_pos (by rfl), if_pos (by rw [← joinL_len, ex_parts]; decide)]
end Uf
end
end
section
open Go.RowKit
namespace Pa
open Cm Uf Hn
open Sc (RdK flatK flatK_snoc ownK_below Pow)
open Tx (bs)
theorem keep_blk {V w7 : World} {v : Value} {G : Nat} {t : TypeId} {l : List Value} (hB : Blk V G t l) (hg : V.grownBy w7 v.ownBlock) (hne : v.ownBlock ≠ some G) : Blk w7 G t l := (hg.block G hB.lt (fun e => hne e.symm)).trans hB
end Pa
end
end Go.Proofs.YtjecfmbecgpbmaaGreatDoor

/-
  The program's Format. Conditions: those of Check. The reference's Write of layer 12: its strings, as plain mathematics. A made patch is valid and short, as plain mathematics. Conditions: blobs of at most 1000 bytes. Layer 14 as plain functions: the answers of Fits, Apply and Reverse, and the promise that the reverse restores. No conditions. The chapter's example: its patch and its text, as plain mathematics. A made patch in its box, Make with the names of the laws. Conditions: short blobs. The walk of the law UnifiedMakes of layer 12. Condition: the table of powers. The verifier's Blobs: some short blobs. Conditions: at most 10 of them, of at most 6 lines. The program's Reverse of layer 14. Conditions: at most 100000 hunks, and lines in a hunk; texts of at most 2^22 bytes; the table of powers.
-/
import Derived.Test.YtjecfmbecgpbmaaGreatDoorGUniCheck
import Derived.Test.YtjecfmbecgpbmaaGreatDoorOccBld
import Derived.Test.YtjecfmbecgpbmaaGreatDoorUniCmp
import Derived.Test.YtjecfmbecgpbmaaGreatDoorScanQuoteR
import Derived.Deep.AppendLies
import Derived.Test.YtjecfmbecgpbmaaGreatDoorGTextBase
import Derived.Test.YtjecfmbecgpbmaaGreatDoorUniMake
import Derived.Test.YtjecfmbecgpbmaaGreatDoorShoNea
import Derived.Deep.CutRange
import Derived.Test.YtjecfmbecgpbmaaGreatDoorGTextAppend
import Derived.Test.YtjecfmbecgpbmaaGreatDoorPatR
namespace Go.Proofs.YtjecfmbecgpbmaaGreatDoor
section
section
section
namespace Cm
end Cm
namespace Hn
end Hn
namespace Oc
end Oc
namespace Sc
end Sc
namespace Tx
end Tx
open Go.RowKit
attribute [local go_sem] Oper.semAt_some
namespace Uf
open Cm Hn
open Sc (fmtR Pow RdK)
open Tx (bs)
open Oc (tBld tU8 Keeps8)
def joinL (xs : List ByteArray) : List UInt8 := xs.flatMap bs
theorem joinL_len (xs : List ByteArray) : (joinL xs).length = szL xs := by
  unfold joinL szL
  induction xs with
  | nil => rfl
  | cons a l ih => rw [List.flatMap_cons, List.length_append, ih, List.map_cons, List.sum_cons, Tx.bs_len]
theorem joinL_snoc (xs : List ByteArray) (x : ByteArray) : joinL (xs ++ [x]) = joinL xs ++ bs x := by unfold joinL; simp
theorem cells_app (l m : List UInt8) : Lib.byteCells (l ++ m) = Lib.byteCells l ++ Lib.byteCells m := by
  unfold Lib.byteCells
  rw [List.map_append]
theorem own_apart {W : World} {row : Option Nat} {base : Nat} {e : TypeId} {v : Value} {k : Nat} {xs : List Value} (h : W.ownsRow base e 1 v k xs) (hr : ∀ r, row = some r → ∃ o : Obj, W.heap[r]? = some o ∧ o.isCells = false) : v.ownBlock = none ∨ v.ownBlock ≠ row := by
  rcases h.2 with ⟨rfl, _⟩ | ⟨g, cap, cur, rfl, _, hgb, _⟩
  · exact .inl rfl
  · refine .inr fun e' => ?_
    obtain ⟨o, ho, hc⟩ := hr g (by rw [← e']; simp [Value.ownBlock])
    rw [hgb] at ho; cases ho; cases hc
theorem bld_kept {W W' : World} {row : Option Nat} {B b : Nat} {us : List Value} (h : Lib.IsBuilder tBld tU8 B b us W) (hg : W.grownBy W' row) (hr : ∀ r, row = some r → ∃ o : Obj, W.heap[r]? = some o ∧ o.isCells = false) : Lib.IsBuilder tBld tU8 B b us W' := by
  have key : ∀ {p : Value}, Lib.BuilderAt tBld tU8 B b p us W → Lib.BuilderAt tBld tU8 B b p us W' := by
    rintro p ⟨h1, v, h2, h3, h4⟩
    refine ⟨h1, v, (hg.block b (Array.getElem?_eq_some_iff.1 h2).1 fun e => ?_).trans h2, h3.kept hg (own_apart h3 hr), h4⟩
    obtain ⟨o, ho, hc⟩ := hr b e.symm
    rw [h2] at ho; cases ho; cases hc
  exact h.elim (fun h => .inl (key h)) (fun h => .inr (key h))
theorem bld_type {W : World} {B b : Nat} {us : List Value} (h : Lib.IsBuilder tBld tU8 B b us W) : ∃ c, W.heap[b]? = some (.cells c tBld (0, 0)) := by
  rcases h with ⟨_, v, h2, _, _⟩ | ⟨_, v, h2, _, _⟩
  · exact ⟨_, h2⟩
  · exact ⟨_, h2⟩
theorem keep_other {D k : Nat} {W W' : World} {o : Obj} (h : Keeps8 D W W') (ho : W.heap[k]? = some o) (hk : k ≠ D) (hn : ∀ c fz, o ≠ .cells c tU8 fz) : W'.heap[k]? = some o := h k o ho (fun e => hk (by cases e; rfl)) hn
theorem keep_from {D B : Nat} {W W' : World} (h : Keeps8 D W W') (hs : W.heap.size ≤ W'.heap.size) (hB : D < B) : KeepsFrom B W W' :=
  ⟨hs, fun k o hk ho hc => keep_other h ho (by omega) (fun c fz e => by subst e; cases hc)⟩
theorem keep_blk {D G : Nat} {W W' : World} {t : TypeId} {l : List Value} (h : Keeps8 D W W') (hb : Blk W G t l) (hG : G ≠ D) (ht : t ≠ tU8) : Blk W' G t l :=
  keep_other h hb hG (fun c fz e => by injection e with _ e _; exact ht e)
theorem kt_bld {B D : Nat} {us : List Value} {W W' : World} (h : Lib.IsBuilder tBld tU8 B D us W) (k : Keeps8 D W W') : KT W W' := fun G t ls ht hb => by
  refine keep_blk k hb ?_ ?_
  · rintro rfl
    obtain ⟨c, hc⟩ := bld_type h
    have hb0 := hb
    unfold Blk at hb0
    rw [hc] at hb0
    injection hb0 with hb0
    injection hb0 with _ hb0 _
    rcases ht with rfl | rfl
    · exact absurd hb0 (by decide)
    · exact absurd hb0 (by decide)
  · rcases ht with rfl | rfl <;> decide
/-- What the loop of Format keeps. -/
def FmI (D : Nat) (p : Pat) (v : Value) (w1 : World) (pre : List ByteArray) (W : World) : Prop :=
  Blk W (D + 1) tPat [.string p.on, .string p.nn, v] ∧ Lib.IsBuilder tBld tU8 D D (Lib.byteCells (joinL pre)) W ∧ Below D w1 W
def FmD (D : Nat) (w1 : World) (pre : List ByteArray) (W : World) : Prop := Lib.IsBuilder tBld tU8 D D (Lib.byteCells (joinL pre)) W ∧ Below D w1 W
theorem FmI.own {D : Nat} {p : Pat} {v : Value} {w A A' : World} {pre : List ByteArray} {row : Option Nat} (h : FmI D p v w pre A) (hw : D ≤ w.heap.size) (hg : A.grownBy A' row) (hr : ∀ r, row = some r → D ≤ r ∧ ∃ o : Obj, A.heap[r]? = some o ∧ o.isCells = false) : FmI D p v w pre A' := by
  have hr2 : ∀ r, row = some r → ∃ o : Obj, A.heap[r]? = some o ∧ o.isCells = false := fun r e => (hr r e).2
  exact ⟨blk_grown h.1 hg hr2, bld_kept h.2.1 hg hr2, h.2.2.grown hg (by have := h.2.2.size; omega) (fun k e => (hr k e).1)⟩
theorem FmD.own {D : Nat} {w A A' : World} {pre : List ByteArray} {row : Option Nat} (h : FmD D w pre A) (hw : D ≤ w.heap.size) (hg : A.grownBy A' row) (hr : ∀ r, row = some r → D ≤ r ∧ ∃ o : Obj, A.heap[r]? = some o ∧ o.isCells = false) : FmD D w pre A' := by
  have hr2 : ∀ r, row = some r → ∃ o : Obj, A.heap[r]? = some o ∧ o.isCells = false := fun r e => (hr r e).2
  exact ⟨bld_kept h.1 hg hr2, h.2.grown hg (by have := h.2.size; omega) (fun k e => (hr k e).1)⟩
def fmtB (p : Pat) : ByteArray := if chkC p = 0 then ⟨(joinL (partsF p)).toArray⟩ else ⟨#[]⟩
def FmPost (p : Pat) (w : World) (e : Ending) (w' : World) : Prop := e = .returned (.tuple #[.string (fmtB p), .int .i64 (chkC p)]) ∧ Below w.heap.size w w'
theorem chk_good {p : Pat} (hs : PatSm p.hunks) (h : chkC p = 0) : PatOk p ∧ szL (partsF p) ≤ 16777216 := by
  unfold chkC at h
  split at h
  · rename_i h1
    split at h
    · rename_i h2
      split at h
      · rename_i h3; exact ⟨pat_ok hs h1.1 h1.2 h2, h3⟩
      · omega
    · omega
  · omega
set_option maxRecDepth 100000 in
set_option maxHeartbeats 4000000 in
theorem Format_any (p : Pat) (v : Value) (w : World) (hr : RdP w v p.hunks) (hs : PatSm p.hunks) (hw : Pow w) : Calls Tryz.prog 26 #[tPatV p v] w (FmPost p w) := by
  obtain ⟨zs, hz⟩ := hr.z
  have HB0 := Lib.hid ((Below.refl w.heap.size w).alloc (Nat.le_refl _) (.cells #[.string p.on, .string p.nn, v] tPat))
  have HCk := Lib.hid (Check_any p v _ (hr.below HB0.out) hs (hw.stays HB0.out))
  have HBox : Hid (∀ w', Below (w.heap.size + 1) (w.alloc (.cells #[.string p.on, .string p.nn, v] tPat)) w' → Below w.heap.size w w' ∧ w'.cell? ⟨w.heap.size, 0, none⟩ = some (.string p.on) ∧ w'.cell? ⟨w.heap.size, 1, none⟩ = some (.string p.nn) ∧ w'.cell? ⟨w.heap.size, 2, none⟩ = some v) := Lib.hid (fun w' hb => by
    have h := heap_new w (.cells #[.string p.on, .string p.nn, v] tPat)
    have hk : Blk w' w.heap.size tPat [.string p.on, .string p.nn, v] := (hb.block _ (Nat.lt_succ_self _)).trans h
    exact ⟨HB0.out.trans (hb.mono (Nat.le_succ _)), hk.cell (k := 0) (show 0 < 3 by decide), hk.cell (k := 1) (show 1 < 3 by decide), hk.cell (k := 2) (show 2 < 3 by decide)⟩)
  refine (callsIn_wide (n := 4)).1 ?_
  refine callsIn_of_wp_marks Tryz.func26 rfl trivial ?_ rfl
  simp only [Tryz.ntmps26, List.size_toArray, List.length_cons, List.length_nil, Nat.reduceAdd, Nat.reduceSub, Array.replicate_succ, Array.replicate_zero, List.push_toArray, List.append_toArray, List.nil_append, List.cons_append]
  by_cases hc : chkC p = 0
  · obtain ⟨hok, hsz⟩ := chk_good hs hc
    have HE : Hid (fmtB p = ⟨(joinL (partsF p)).toArray⟩) := Lib.hid (by unfold fmtB; rw [if_pos hc])
    have HA := Lib.hid (fun w => parts_any p.on p.nn v w)
    have HPost : Hid (∀ W, Below w.heap.size w W → FmPost p w (.returned (.tuple #[.string ⟨(joinL (partsF p)).toArray⟩, .int .i64 0])) W) := Lib.hid (fun W h => ⟨by rw [HE.out, hc], h⟩)
    clear hr
    gi_wp2
    refine ⟨(trivial : Fence.wide.fn 43), ?_⟩
    gi_at_call 43
    refine (callsIn_wide.2 HCk.out).mono ?_
    rintro e w1 ⟨rfl, hb1⟩
    rw [hc]
    obtain ⟨HB1, k0, k1, k2⟩ := HBox.out w1 (hb1.mono (by simp))
    have hwz : w.heap.size < w1.heap.size := by have := hb1.size; rw [World.size_alloc] at this; omega
    clear hb1 HBox HCk
    have hd0 := (Below.heap_alloc w1 (.cells #[.pointer none, .slice none 0 0] tBld))
    have hbx : ∀ (v' : Value) (i : Nat), w1.cell? ⟨w.heap.size, i, none⟩ = some v' → (w1.alloc (.cells #[.pointer none, .slice none 0 0] tBld)).cell? ⟨w.heap.size, i, none⟩ = some v' := fun v' i h => (World.cell?_of_block (hd0 _ hwz)).trans h
    have k3 := hbx _ _ k0
    have k4 := hbx _ _ k1
    have k5 := hbx _ _ k2
    clear hbx hd0
    gi_wp2
    refine ⟨(trivial : Fence.wide.fn 49), ?_⟩
    gi_at_call 49
    refine (callsIn_wide.2 (HA.out _)).mono ?_
    rintro e w9 ⟨rfl, hw9⟩
    gi_wp2
    obtain ⟨D, hD⟩ : ∃ D, D = w1.heap.size := ⟨_, rfl⟩
    have HB9 : Below D w1 w9 := by rw [hw9, hD]; exact ((Below.refl _ w1).alloc (Nat.le_refl _) _).alloc (by simp) _
    have hz9 : w9.heap.size = D + 2 := by rw [hw9, hD]; simp
    have hp9 : Blk w9 (D + 1) tPat [.string p.on, .string p.nn, v] := by
      rw [hw9, hD]
      have := heap_new (w1.alloc (.cells #[.pointer none, .slice none 0 0] tBld)) (.cells #[.string p.on, .string p.nn, v] tPat)
      rw [World.size_alloc] at this
      exact this
    have hb9 : Lib.IsBuilder tBld tU8 D D (Lib.byteCells (joinL [])) w9 := by
      refine .inl ⟨Nat.le_refl _, .slice none 0 0, ?_, World.ownsRow_nil _ _ _ _, by simp [Value.ownBlock]⟩
      rw [hw9, hD]
      exact (Below.heap_alloc _ _ _ (by simp)).trans (World.alloc_heap_new w1 _)
    rw [← hw9]
    clear hw9 HA k0 k1 k2 k3 k4 k5
    subst hD
    have hDw : w1.heap.size ≤ w1.heap.size := Nat.le_refl _
    refine range_parts 4 (by omega) (w1.heap.size + 1) p v zs hok (by rfl) rfl
      (FmI w1.heap.size p v w1) (fun c pre W => False) (FmD w1.heap.size w1)
      (fun pre W h => ⟨⟨h.1, hz.below (HB1.trans (h.2.2.mono (Nat.le_of_lt hwz)))⟩, hw.stays (HB1.trans (h.2.2.mono (Nat.le_of_lt hwz)))⟩)
      (fun s A B row h hg hr => h.own hDw hg (fun r e => ⟨by have := (hr r e).1; omega, (hr r e).2⟩)) (fun c s A B row h hg hr => h) (fun s A B row h hg hr => h.own hDw hg (fun r e => ⟨by have := (hr r e).1; omega, (hr r e).2⟩))
      ⟨hp9, hb9, HB9⟩ (fun xs W h => ⟨h.2.1, h.2.2⟩)
      (fun x => { tmps := #[tPatV p v, .pointer (some ⟨w.heap.size, 0, none⟩), .string ⟨#[]⟩, .int .i64 0, .int .i64 0, .pointer (some ⟨w1.heap.size, 0, none⟩), .string x, tPatV p v, .int .i64 0, .int .i64 0, .bool false, undef, tPatV p v, partsV (w1.heap.size + 1), .string x, undef, undef, undef], defers := [] })
      ?assign ?body ?done ?stop
    case assign =>
      intro l x W K hK
      rw [put_one]
      gi_wp2
      exact hK
    case body =>
      intro l pre x W hI hpre
      obtain ⟨h1, h2, h3⟩ := hI
      have e1 := szL_snoc pre x
      have hT := szL_pre hpre
      have HW1 := Lib.hid (Oc.write_any x h2 (by rw [Lib.byteCells_length, joinL_len]; omega) h3.size)
      have HFin : Hid (∀ W1, Lib.IsBuilder tBld tU8 w1.heap.size w1.heap.size (Lib.byteCells (joinL pre) ++ Lib.strCells x) W1 → Below w1.heap.size W W1 → Keeps8 w1.heap.size W W1 → KeepsFrom w9.heap.size W W1 ∧ KT W W1 ∧ FmI w1.heap.size p v w1 (pre ++ [x]) W1) := Lib.hid (by
        intro W1 i1 b1 k1
        refine ⟨keep_from k1 b1.size (by omega), kt_bld h2 k1, keep_blk k1 h1 (by omega) (by decide), ?_, h3.trans b1⟩
        rw [joinL_snoc, cells_app]
        exact i1)
      clear hok hz h1 h2 h3 e1 hT hpre hp9 hb9 HB9 hz9 HB0 HB1 hsz
      gi_wp2_with (refine ⟨(trivial : Fence.wide.fn 50), ?_⟩; gi_at_call 50; refine (CallsIn.inRound l (callsIn_wide.2 HW1.out)).mono ?_; clear HW1; rintro e W1 ⟨rfl, i1, b1, k1⟩; have HF := Lib.hid (HFin.out W1 i1 b1 k1); clear i1 b1 k1)
      exact HF.out
    case done =>
      intro K W hK0 hI hK
      obtain ⟨h2, h4⟩ := hI
      have hwb := Nat.le_of_lt hwz
      have HSt := Lib.hid (Tryz.Builder_String_any_k w1.heap.size w1.heap.size (joinL (partsF p)) W (Lib.IsBuilderF.of h2) h4.size)
      have HFin : Hid (∀ W2, Below w1.heap.size W W2 → Keeps8 w1.heap.size W W2 → W2.heap[K]? = some (.deferred (some [])) ∧ Below w.heap.size w (W2.putObj K (.deferred none))) := Lib.hid (by
        intro W2 b2 k2
        have hk2 : W2.heap[K]? = some (.deferred (some [])) := keep_other k2 hK (by omega) (fun c fz e => by cases e)
        exact ⟨hk2, HB1.trans (((h4.trans b2).trans (belowK_b (w := w9) (n₀ := w1.heap.size) (by omega) W2 K _ (.deferred none) hK0 hk2 rfl rfl)).mono hwb)⟩)
      clear hok hz h2 h4 hp9 hb9 HB9 hz9 HB0 HB1 hsz
      gi_wp2_with (refine ⟨(trivial : Fence.wide.fn 51), ?_⟩; gi_at_call 51; refine (callsIn_wide.2 HSt.out).mono ?_; clear HSt; rintro e W2 ⟨rfl, _, b2, k2⟩; have HF := Lib.hid (HFin.out W2 b2 k2); clear b2 k2)
      obtain ⟨q1, q2⟩ := HF.out
      refine ⟨by simp, .inl ⟨_, _, rfl, run_takeDeferred q1, ?_⟩⟩
      exact ⟨.tuple #[.string ⟨(joinL (partsF p)).toArray⟩, .int .i64 0], (by simp [results, Tryz.f26, go_sem]), HPost.out _ q2⟩
    case stop =>
      rintro D c pre W _ _ _ h _
      exact h.elim
  · obtain ⟨z, hz0⟩ : ∃ z, z = chkC p := ⟨_, rfl⟩
    have HPost : Hid (∀ W, Below w.heap.size w W → FmPost p w (.returned (.tuple #[.string ⟨#[]⟩, .int .i64 z])) W) := Lib.hid (fun W h => ⟨by unfold fmtB; rw [if_neg hc, hz0], h⟩)
    rw [← hz0] at HCk hc
    have d1 : (z != 0) = true := by rw [bne_iff_ne]; exact hc
    clear hr hz0
    gi_wp2
    refine ⟨(trivial : Fence.wide.fn 43), ?_⟩
    gi_at_call 43
    refine (callsIn_wide.2 HCk.out).mono ?_
    rintro e w1 ⟨rfl, hb1⟩
    obtain ⟨HB1, k0, k1, k2⟩ := HBox.out w1 (hb1.mono (by simp))
    have HBz := Lib.hid HB1
    clear hb1 HBox HCk HB1
    gi_wp2
    exact ⟨.tuple #[.string ⟨#[]⟩, .int .i64 z], (by simp [results, Tryz.f26, go_sem]), HPost.out _ HBz.out⟩
end Uf
end
section
namespace Cm
end Cm
namespace Hn
end Hn
namespace Sc
end Sc
namespace Tx
end Tx
open Go.RowKit
namespace Uf
open Cm Hn
open Sc (fmtR Pow RdK)
open Tx (bs strsV StrsPost)
/-- The strings that Write lays end to end. -/
def wrLn (l : Ln) : List (List UInt8) := (bs (kB l.kind) ++ bs l.text) :: (if Tx.endedF (bs l.text) = true then [] else [bs unB])
def wrHk (h : PH) : List (List UInt8) := hdrF h.old h.new h.lines :: h.lines.flatMap wrLn
def wrHd (on nn : ByteArray) : List (List UInt8) := [[45, 45, 45, 32] ++ bs (qB on) ++ [10], [43, 43, 43, 32] ++ bs (qB nn) ++ [10]]
def wrAll (p : Pat) : List (List UInt8) := wrHd p.on p.nn ++ p.hunks.flatMap wrHk
theorem joinL_app (a b : List ByteArray) : joinL (a ++ b) = joinL a ++ joinL b := by unfold joinL; simp
/-- A conversion, in a region that draws its order. -/
theorem step_conv {P : Program} {ops : Array Oper} {o : Oper} {a : Act} {K : Act → World → Prop} {Q : Exit → Act → World → Prop} {E : Prop} {w w' : World} (hgd : o.guard = none) (s t : TypeId) (x : Operand)
    (ho : o.op = .convert s t x) (v v' : Value) (hx : a.eval x = v) (hr : (convert s t v).run P w = .ok v' w') (h : K (a.put o.dst v') w') :
    if Region.wanted o (yielded ops a.tmps) = true then Oper.wp P o a w K Q else E := by
  have hw : Region.wanted o (yielded ops a.tmps) = true := by simp [Region.wanted, hgd]
  rw [if_pos hw]
  have key : ∀ ρ : Operand → Value, ρ x = v → (execOp ρ o).run P w = .ok (.value v') w' := fun ρ h => by simp [execOp, ho, h, hr, go_sem]
  have e := key a.eval hx
  unfold Oper.wp
  rw [e]
  exact h
end Uf
end
section
namespace Hn
end Hn
namespace Sc
end Sc
namespace Sh
end Sh
namespace Sl
end Sl
open Go.RowKit
namespace Uf
open Sc Hn Sl
open Sh (lnB_len lnB_size)
theorem endAll_sub {l m : List (List UInt8)} (h : l.Sublist m) (he : endAll m = true) : endAll l = true := by
  induction h with
  | slnil => rfl
  | cons a _ ih =>
    rw [endAll_cons, Bool.and_eq_true] at he
    exact ih he.2
  | cons_cons a hs ih =>
    rw [endAll_cons, Bool.and_eq_true] at he ⊢
    refine ⟨?_, ih he.2⟩
    rw [Bool.or_eq_true] at he ⊢
    rcases he.1 with h1 | h1
    · left
      rw [List.isEmpty_iff] at h1 ⊢
      subst h1
      exact List.sublist_nil.1 hs
    · exact .inr h1
theorem endAll_list : ∀ {l : List (List UInt8)}, Tx.isListF l = true → endAll l = true
  | [], _ => rfl
  | [x], _ => rfl
  | x :: y :: r, h => by
    rw [Tx.isListF_cons, Bool.and_eq_true, Bool.and_eq_true] at h
    rw [endAll_cons, endAll_list h.2, Bool.and_true]
    exact h.1.2
theorem isList_mem : ∀ {l : List (List UInt8)}, Tx.isListF l = true → ∀ x ∈ l, Tx.isLine x = true
  | [], _, x, hx => by cases hx
  | [a], h, x, hx => by
    rw [Tx.isListF_cons, Bool.and_eq_true, Bool.and_eq_true] at h
    simp only [List.mem_cons, List.not_mem_nil, or_false] at hx
    rw [hx]; exact h.1.1
  | a :: b :: r, h, x, hx => by
    rw [Tx.isListF_cons, Bool.and_eq_true, Bool.and_eq_true] at h
    rcases List.mem_cons.1 hx with rfl | hx
    · exact h.1.1
    · exact isList_mem h.2 x hx
theorem lnB_list (s : ByteArray) : Tx.isListF ((Sh.lnB s).map Tx.bs) = true := by
  unfold Sh.lnB
  rw [Tx.mks_map]
  exact Tx.linesF_isList _
theorem cut_sub_drop {α : Type} (xs : List α) {i j k : Nat} (h1 : i ≤ j) (h2 : j ≤ k) (r : List α) (hr : r.Sublist (xs.drop k)) : (cut xs j k ++ r).Sublist (xs.drop i) := by
  have e : xs.drop j = cut xs j k ++ xs.drop k := by
    unfold cut
    have := List.take_append_drop (k - j) (xs.drop j)
    rw [List.drop_drop, show j + (k - j) = k from by omega] at this
    exact this.symm
  have h3 : (cut xs j k ++ r).Sublist (xs.drop j) := by
    rw [e]
    exact (List.Sublist.refl _).append hr
  have h4 : xs.drop j = (xs.drop i).drop (j - i) := by rw [List.drop_drop, show i + (j - i) = j from by omega]
  rw [h4] at h3
  exact h3.trans (List.drop_sublist _ _)
variable {x y : List ByteArray} {l : List Ch}
theorem allB_cons (k : Int) (h : PH) (hs : List PH) : allB k (h :: hs) = notB k h.lines ++ allB k hs := by unfold allB; rw [List.flatMap_cons]
theorem ph_sub : ∀ {hs : List Hk} {p i j : Nat}, Ph x y l p i j hs → (allB 43 (hs.map (mkPH x y l))).Sublist ((x.map Tx.bs).drop i) ∧ (allB 45 (hs.map (mkPH x y l))).Sublist ((y.map Tx.bs).drop j)
  | [], _, _, _, _ => ⟨List.nil_sublist _, List.nil_sublist _⟩
  | h :: hs, p, i, j, ⟨k, oF, nF, oT, nT, e, h1, h2, h3, h4, h5, h6, h7⟩ => by
    obtain ⟨g1, g2⟩ := ph_sub h7
    have hl := h6.le
    have e1 : notB 43 (mkPH x y l h).lines = cut (x.map Tx.bs) oF oT := by
      rw [e, mkPH_nat]
      unfold notB
      rw [h6.old]
      unfold cut
      rw [List.map_take, List.map_drop]
    have e2 : notB 45 (mkPH x y l h).lines = cut (y.map Tx.bs) nF nT := by
      rw [e, mkPH_nat]
      unfold notB
      rw [h6.new]
      unfold cut
      rw [List.map_take, List.map_drop]
    rw [List.map_cons, allB_cons, allB_cons, e1, e2]
    exact ⟨cut_sub_drop _ h3 hl.1 _ g1, cut_sub_drop _ h4 hl.2.1 _ g2⟩
theorem ph_good (hx : x.length ≤ 4096) (hy : y.length ≤ 4096) (htx : ∀ t ∈ x, Tx.isLine (Tx.bs t) = true) (hty : ∀ t ∈ y, Tx.isLine (Tx.bs t) = true) : ∀ {hs : List Hk} {p i j : Nat}, Ph x y l p i j hs → goodH i j (hs.map (mkPH x y l)) = true
  | [], _, _, _, _ => rfl
  | h :: hs, p, i, j, ⟨k, oF, nF, oT, nT, e, h1, h2, h3, h4, h5, h6, h7⟩ => by
    have hl := h6.le
    have ih := ph_good hx hy htx hty h7
    rw [List.map_cons, e, mkPH_nat, goodH]
    have n1 : (notB 43 (lnsF x y oF (cut l p k) oT)).length = oT - oF := by
      unfold notB
      rw [List.length_map, h6.old, cut_len x (by omega)]
    have n2 : (notB 45 (lnsF x y oF (cut l p k) oT)).length = nT - nF := by
      unfold notB
      rw [List.length_map, h6.new, cut_len y (by omega)]
    have a1 : (lnsF x y oF (cut l p k) oT).all lnB = true := by
      rw [List.all_eq_true]
      intro ln hln
      obtain ⟨t1, t2⟩ := h6.texts ln hln
      unfold lnB
      rw [Bool.and_eq_true]
      refine ⟨?_, ?_⟩
      · rcases t2 with t2 | t2 | t2 <;> (rw [t2]; rfl)
      · rcases t1 with t1 | t1
        · exact htx _ t1
        · exact hty _ t1
    have a2 : chgB (lnsF x y oF (cut l p k) oT) = true := by
      have hc : cut l p k = l[p]'(by omega) :: cut l (p + 1) k := cut_cons l h1 h2
      rw [hc] at h6 ⊢
      obtain ⟨ln, hln, hk⟩ := h6.change
      unfold chgB
      rw [List.any_eq_true]
      exact ⟨ln, hln, by rw [bne_iff_ne]; exact hk⟩
    have a3 : posB i j ⟨oF, nF, lnsF x y oF (cut l p k) oT⟩ = true := by
      unfold posB
      simp only [Bool.not_eq_true', Bool.or_eq_false_iff, decide_eq_false_iff_not, bne_eq_false_iff_eq]
      omega
    have a4 : roomB ⟨oF, nF, lnsF x y oF (cut l p k) oT⟩ = true := by
      unfold roomB
      simp only
      rw [n1, n2, Bool.and_eq_true, decide_eq_true_eq, decide_eq_true_eq]
      omega
    have e1 : (oF : Int) + ((oT - oF : Nat) : Int) = oT := by omega
    have e2 : (nF : Int) + ((nT - nF : Nat) : Int) = nT := by omega
    simp only
    rw [a1, a2, a3, a4, n1, n2, e1, e2, ih]
    rfl
/-- How long the parts of some lines are. -/
theorem szL_app (a b : List ByteArray) : szL (a ++ b) = szL a + szL b := by unfold szL; rw [List.map_append, List.sum_append]
theorem szL_cons (a : ByteArray) (b : List ByteArray) : szL (a :: b) = a.size + szL b := by unfold szL; rw [List.map_cons, List.sum_cons]
theorem szL_ln {ln : Ln} {B : Nat} (h : ln.text.size ≤ B) : szL (lnPt ln) ≤ B + 30 := by
  unfold lnPt
  rw [szL_cons, szL_cons]
  have h1 : (kB ln.kind).size = 1 := rfl
  split
  · show _ + (_ + 0) ≤ _
    omega
  · have h2 : szL [unB] = 29 := rfl
    omega
theorem szL_lns {B : Nat} : ∀ {ls : List Ln}, (∀ ln ∈ ls, ln.text.size ≤ B) → szL (lnsPt ls) ≤ ls.length * (B + 30)
  | [], _ => Nat.zero_le _
  | a :: ls, h => by
    have e : lnsPt (a :: ls) = lnPt a ++ lnsPt ls := by unfold lnsPt; rw [List.flatMap_cons]
    have h1 := szL_ln (h a List.mem_cons_self)
    have h2 := szL_lns (fun ln hl => h ln (List.mem_cons_of_mem _ hl))
    rw [e, szL_app, List.length_cons, Nat.add_mul]
    omega
theorem hdr_len (o n : Int) (ls : List Ln) : (hdrF o n ls).length ≤ 96 := by
  unfold hdrF
  have h1 := fmtR_len o (notK 43 ls).length
  have h2 := fmtR_len n (notK 45 ls).length
  simp only [List.length_append, List.length_cons, List.length_nil]
  omega
theorem szL_hks {B : Nat} : ∀ {hs : List PH}, (∀ h ∈ hs, ∀ ln ∈ h.lines, ln.text.size ≤ B) → szL (hs.flatMap hkPt) ≤ hs.length * 96 + ((allB 43 hs).length + (allB 45 hs).length) * (B + 30)
  | [], _ => Nat.zero_le _
  | h :: hs, hh => by
    have h1 := szL_lns (hh h List.mem_cons_self)
    have h2 := szL_hks (fun g hg => hh g (List.mem_cons_of_mem _ hg))
    have h3 : (hkB h).size ≤ 96 := by
      unfold hkB
      rw [Tx.size_mk]
      exact hdr_len _ _ _
    have h4 := lens h.lines
    have e1 : ∀ k, (notB k h.lines).length = (notK k h.lines).length := fun k => by unfold notB; rw [List.length_map]
    rw [List.flatMap_cons, szL_app, hkPt, szL_cons, allB_cons, allB_cons, List.length_append, List.length_append, e1, e1, List.length_cons]
    have h5 : h.lines.length * (B + 30) ≤ ((notK 43 h.lines).length + (notK 45 h.lines).length) * (B + 30) := Nat.mul_le_mul_right _ h4
    have e2 : ((notK 43 h.lines).length + (allB 43 hs).length + ((notK 45 h.lines).length + (allB 45 hs).length)) * (B + 30) = ((notK 43 h.lines).length + (notK 45 h.lines).length) * (B + 30) + ((allB 43 hs).length + (allB 45 hs).length) * (B + 30) := by
      rw [← Nat.add_mul]
      congr 1
      omega
    rw [e2]
    omega
theorem wr_ln (ln : Ln) : (wrLn ln).length ≤ 2 := by unfold wrLn; split <;> simp
theorem wr_lns : ∀ ls : List Ln, (ls.flatMap wrLn).length ≤ 2 * ls.length
  | [] => Nat.zero_le _
  | a :: ls => by
    have h1 := wr_ln a
    have h2 := wr_lns ls
    rw [List.flatMap_cons, List.length_append, List.length_cons]
    omega
theorem wr_hks : ∀ hs : List PH, (hs.flatMap wrHk).length ≤ hs.length + 2 * ((allB 43 hs).length + (allB 45 hs).length)
  | [] => Nat.zero_le _
  | h :: hs => by
    have h1 := wr_lns h.lines
    have h2 := wr_hks hs
    have h4 := lens h.lines
    have e1 : ∀ k, (notB k h.lines).length = (notK k h.lines).length := fun k => by unfold notB; rw [List.length_map]
    rw [List.flatMap_cons, List.length_append, wrHk, List.length_cons, allB_cons, allB_cons, List.length_append, List.length_append, e1, e1, List.length_cons]
    omega
/-- What is known of a patch that Make makes. -/
structure MkOk (p : Pat) : Prop where
  chk : chkC p = 0
  sz : szL (partsF p) ≤ 4194304
  cnt : (wrAll p).length ≤ 1048576
  big : PatBg p.hunks
theorem name_sz {s : ByteArray} (h : nameB s = true) : s.size ≤ 200 := by
  unfold nameB at h
  rw [decide_eq_true_iff] at h
  omega
theorem mk_ok {ctx : Int} (hc : 0 ≤ ctx) {s t : ByteArray} (hs : s.size ≤ 1000) (ht : t.size ≤ 1000) (down : Bool) {on nn : ByteArray} (h1 : nameB on = true) (h2 : nameB nn = true) : MkOk ⟨on, nn, patH (Sh.lnB s) (Sh.lnB t) ctx (scrD down s t)⟩ := by
  have hL := scrD_lf (s := s) (t := t) (by omega) (by omega) down
  have hP := ph_group hc hL
  have a := lnB_len s
  have b := lnB_len t
  have hlx := lnB_list s
  have hly := lnB_list t
  have hGd : goodH 0 0 (patH (Sh.lnB s) (Sh.lnB t) ctx (scrD down s t)) = true := ph_good (by omega) (by omega) (fun q hq => isList_mem hlx _ (List.mem_map_of_mem hq)) (fun q hq => isList_mem hly _ (List.mem_map_of_mem hq)) hP
  obtain ⟨s1, s2⟩ := ph_sub hP
  rw [List.drop_zero] at s1 s2
  have hE : endAll (allB 43 (patH (Sh.lnB s) (Sh.lnB t) ctx (scrD down s t))) = true ∧ endAll (allB 45 (patH (Sh.lnB s) (Sh.lnB t) ctx (scrD down s t))) = true := ⟨endAll_sub s1 (endAll_list hlx), endAll_sub s2 (endAll_list hly)⟩
  have l1 : (allB 43 (patH (Sh.lnB s) (Sh.lnB t) ctx (scrD down s t))).length ≤ 1000 := by
    have := s1.length_le
    rw [List.length_map] at this
    exact Nat.le_trans this (by omega)
  have l2 : (allB 45 (patH (Sh.lnB s) (Sh.lnB t) ctx (scrD down s t))).length ≤ 1000 := by
    have := s2.length_le
    rw [List.length_map] at this
    exact Nat.le_trans this (by omega)
  obtain ⟨f1, f2⟩ := ph_few hP
  have hn : (patH (Sh.lnB s) (Sh.lnB t) ctx (scrD down s t)).length ≤ 2000 := by
    unfold patH
    rw [List.length_map]
    have hk := hL.num
    omega
  have hB : ∀ h ∈ patH (Sh.lnB s) (Sh.lnB t) ctx (scrD down s t), (h.old : Int) ≤ 4096 ∧ 0 ≤ h.old ∧ h.new ≤ 4096 ∧ 0 ≤ h.new ∧ ∀ ln ∈ h.lines, ln.text.size ≤ 1000 := by
    intro h hh
    unfold patH at hh
    obtain ⟨k, hk, rfl⟩ := List.mem_map.1 hh
    obtain ⟨m, hm, rfl⟩ := List.mem_iff_getElem.1 hk
    obtain ⟨p, k, oF, nF, oT, nT, e, _, _, hlf⟩ := ph_at hP m hm
    have hle := hlf.le
    rw [e, mkPH_nat]
    refine ⟨by simp only; omega, by simp only; omega, by simp only; omega, by simp only; omega, fun ln hln => ?_⟩
    rcases (hlf.texts ln hln).1 with h3 | h3
    · exact Nat.le_trans (lnB_size s _ h3) hs
    · exact Nat.le_trans (lnB_size t _ h3) ht
  have f3 : ∀ h ∈ patH (Sh.lnB s) (Sh.lnB t) ctx (scrD down s t), h.lines.length ≤ 2000 := fun h hh => Nat.le_trans (f2 h hh) (by omega)
  generalize patH (Sh.lnB s) (Sh.lnB t) ctx (scrD down s t) = hks at *
  have z1 := szL_hks (B := 1000) (fun h hh => (hB h hh).2.2.2.2)
  have hS : szL (partsF ⟨on, nn, hks⟩) ≤ 4194304 := by
    unfold partsF
    rw [szL_cons]
    have n1 := name_sz h1
    have n2 := name_sz h2
    have q1 := qB_size on
    have q2 := qB_size nn
    have e : (hdPt on nn).size = 4 + (qB on).size + 5 + (qB nn).size + 1 := by
      unfold hdPt
      simp only [ByteArray.size_append]
      rfl
    simp only
    rw [e]
    have : ((allB 43 hks).length + (allB 45 hks).length) * (1000 + 30) ≤ 2000 * 1030 := Nat.mul_le_mul (by omega) (Nat.le_refl _)
    omega
  refine ⟨?_, hS, ?_, ⟨⟨show hks.length ≤ 1000000 by omega, fun h hh => ?_⟩, show (allB 43 hks).length ≤ 8388608 by omega, show (allB 45 hks).length ≤ 8388608 by omega⟩⟩
  · unfold chkC
    rw [if_pos ⟨h1, h2⟩, if_pos (by rw [hks_ref, hGd, hE.1, hE.2]; rfl), if_pos (by omega)]
  · unfold wrAll wrHd
    have := wr_hks hks
    simp only [List.length_append, List.length_cons, List.length_nil]
    omega
  · obtain ⟨b1, b2, b3, b4, b5⟩ := hB h hh
    exact ⟨Nat.le_trans (f3 h hh) (by omega), ⟨by omega, by omega⟩, ⟨by omega, by omega⟩, fun ln hln => Nat.le_trans (b5 ln hln) (by omega)⟩
end Uf
end
section
namespace Hn
end Hn
namespace Sl
end Sl
namespace Tx
end Tx
namespace Uf
end Uf
namespace Pa
open Uf Hn Sl
open Tx (bs)
/-- The answer of Fits. -/
def fitsF (p : Pat) (s : ByteArray) : Int × Int :=
  if chkC p ≠ 0 then (0, chkC p) else if Tx.checkF (bs s) ≠ 0 then (0, Tx.checkF (bs s)) else ((fitN (Sh.lnB s) p.hunks : Int), 0)
/-- A list of lines, end to end. -/
def allJ (l : List ByteArray) : ByteArray := ⟨(l.map bs).flatten.toArray⟩
/-- The answer of Apply. -/
def applyF (p : Pat) (s : ByteArray) : ByteArray × Int :=
  if (fitsF p s).2 ≠ 0 then (⟨#[]⟩, (fitsF p s).2)
  else if fitN (Sh.lnB s) p.hunks < p.hunks.length then (⟨#[]⟩, 140)
  else if Tx.isListF ((appT (Sh.lnB s) 0 p.hunks).map bs) = false then (⟨#[]⟩, 140)
  else if 1048576 < (allJ (appT (Sh.lnB s) 0 p.hunks)).size ∨ 4096 < (appT (Sh.lnB s) 0 p.hunks).length then (⟨#[]⟩, 1)
  else (allJ (appT (Sh.lnB s) 0 p.hunks), 0)
/-- The answer of Reverse. -/
def reverseF (p : Pat) : Pat × Int := if chkC p ≠ 0 then (⟨⟨#[]⟩, ⟨#[]⟩, []⟩, chkC p) else (revP p, 0)
theorem allJ_bs (l : List ByteArray) : bs (allJ l) = (l.map bs).flatten := Tx.bs_mk _
theorem allJ_lnB (s : ByteArray) : allJ (Sh.lnB s) = s := bs_inj (by rw [allJ_bs, lnB_flat])
theorem lnB_allJ {l : List ByteArray} (h : Tx.isListF (l.map bs) = true) : Sh.lnB (allJ l) = l := by
  unfold Sh.lnB
  rw [allJ_bs, Tx.linesF_join _ h, Tx.mks_bs]
theorem notB_rev43 (h : PH) : notB 43 (revH h).lines = notB 45 h.lines := by unfold notB; exact congrArg _ (oldT_rev h)
theorem notB_rev45 (h : PH) : notB 45 (revH h).lines = notB 43 h.lines := by unfold notB; exact congrArg _ (newT_rev h)
theorem allB_rev43 : ∀ hs : List PH, allB 43 (hs.map revH) = allB 45 hs
  | [] => rfl
  | h :: hs => by rw [List.map_cons, allB_cons, allB_cons, notB_rev43, allB_rev43 hs]
theorem allB_rev45 : ∀ hs : List PH, allB 45 (hs.map revH) = allB 43 hs
  | [] => rfl
  | h :: hs => by rw [List.map_cons, allB_cons, allB_cons, notB_rev45, allB_rev45 hs]
theorem lnB_rev (l : Ln) : Uf.lnB (revL l) = Uf.lnB l := by
  unfold Uf.lnB revL
  simp only
  congr 1
  have h : flipK l.kind = 32 ↔ l.kind = 32 := by
    unfold flipK
    repeat' split
    all_goals omega
  rw [Bool.eq_iff_iff]
  simp only [Bool.or_eq_true, beq_iff_eq, h, flipK_45, flipK_43]
  omega
theorem flip_sp (k : Int) : (flipK k != 32) = (k != 32) := by
  rw [Bool.eq_iff_iff]
  simp only [bne_iff_ne]
  unfold flipK
  repeat' split
  all_goals omega
theorem chgB_rev (ls : List Ln) : chgB (ls.map revL) = chgB ls := by
  unfold chgB
  rw [List.any_map]
  congr 1
  funext l
  exact flip_sp l.kind
theorem all_rev (ls : List Ln) : (ls.map revL).all Uf.lnB = ls.all Uf.lnB := by
  rw [List.all_map]
  congr 1
  funext l
  exact lnB_rev l
theorem posB_rev (i j : Int) (h : PH) : posB j i (revH h) = posB i j h := by
  unfold posB revH
  rw [Bool.eq_iff_iff]
  simp only [Bool.not_eq_true', Bool.or_eq_false_iff, decide_eq_false_iff_not, bne_eq_false_iff_eq]
  omega
theorem roomB_rev (h : PH) : roomB (revH h) = roomB h := by
  unfold roomB
  rw [notB_rev43, notB_rev45, Bool.and_comm]
  rfl
theorem goodH_rev : ∀ (hs : List PH) (i j : Int), goodH j i (hs.map revH) = goodH i j hs
  | [], _, _ => rfl
  | h :: hs, i, j => by
    rw [List.map_cons, goodH, goodH, posB_rev, roomB_rev, notB_rev43, notB_rev45]
    rw [show (revH h).old = h.new from rfl, show (revH h).new = h.old from rfl, goodH_rev hs, show (revH h).lines = h.lines.map revL from rfl, all_rev, chgB_rev]
theorem hksB_rev (hs : List PH) : hksB (0, false) (0, false) (hs.map revH) = hksB (0, false) (0, false) hs := by
  rw [hks_good, hks_good, goodH_rev, allB_rev43, allB_rev45, Bool.and_comm (sideB _ _)]
theorem lnPt_rev (l : Ln) : szL (lnPt (revL l)) = szL (lnPt l) := by
  unfold lnPt
  rw [szL_cons, szL_cons, szL_cons, szL_cons]
  rfl
theorem lnsPt_rev : ∀ ls : List Ln, szL (lnsPt (ls.map revL)) = szL (lnsPt ls)
  | [] => rfl
  | l :: ls => by
    have ih := lnsPt_rev ls
    unfold lnsPt at ih ⊢
    rw [List.map_cons, List.flatMap_cons, List.flatMap_cons, szL_app, szL_app, lnPt_rev, ih]
theorem hkB_rev (h : PH) : (hkB (revH h)).size = (hkB h).size := by
  show (hdrF h.new h.old (h.lines.map revL)).length = (hdrF h.old h.new h.lines).length
  unfold hdrF
  rw [notK_rev flipK_43, notK_rev flipK_45]
  simp only [List.length_append, List.length_cons, List.length_nil]
  omega
theorem hks_rev : ∀ hs : List PH, szL ((hs.map revH).flatMap hkPt) = szL (hs.flatMap hkPt)
  | [] => rfl
  | h :: hs => by
    rw [List.map_cons, List.flatMap_cons, List.flatMap_cons, szL_app, szL_app, hks_rev hs]
    unfold hkPt
    rw [szL_cons, szL_cons, hkB_rev]
    show _ + szL (lnsPt (h.lines.map revL)) + _ = _
    rw [lnsPt_rev]
theorem parts_rev (p : Pat) : szL (partsF (revP p)) = szL (partsF p) := by
  unfold partsF
  rw [szL_cons, szL_cons]
  show (hdPt p.nn p.on).size + szL ((p.hunks.map revH).flatMap hkPt) = _
  rw [hks_rev]
  unfold hdPt
  simp only [ByteArray.size_append]
  have a : (⟨#[45, 45, 45, 32]⟩ : ByteArray).size = 4 := rfl
  have b : (⟨#[10, 43, 43, 43, 32]⟩ : ByteArray).size = 5 := rfl
  omega
/-- A patch is valid exactly if its reverse is, and the error is the same. -/
theorem chkC_rev (p : Pat) : chkC (revP p) = chkC p := by
  unfold chkC
  rw [parts_rev]
  show (if nameB p.nn = true ∧ nameB p.on = true then (if hksB (0, false) (0, false) (p.hunks.map revH) = true then _ else _) else _) = _
  rw [hksB_rev]
  by_cases h : nameB p.on = true ∧ nameB p.nn = true
  · rw [if_pos h, if_pos h.symm]
  · rw [if_neg h, if_neg fun q => h q.symm]
/-- Reversing twice changes nothing. -/
theorem reverse_two {p : Pat} (h : chkC p = 0) : reverseF p = (revP p, 0) ∧ reverseF (revP p) = (p, 0) := by
  have h2 : chkC (revP p) = 0 := by rw [chkC_rev, h]
  unfold reverseF
  rw [if_neg (by rw [h]; decide), if_neg (by rw [h2]; decide), revP_two]
  exact ⟨rfl, rfl⟩
theorem goodH_geo : ∀ {hs : List PH} {i j : Nat}, goodH i j hs = true → geo i j hs
  | [], _, _, _ => trivial
  | h :: hs, i, j, g => by
    rw [goodH, Bool.and_eq_true, Bool.and_eq_true, Bool.and_eq_true, Bool.and_eq_true] at g
    obtain ⟨_, _, g1, _, g2⟩ := g
    unfold posB at g1
    simp only [Bool.not_eq_true', Bool.or_eq_false_iff, decide_eq_false_iff_not, bne_eq_false_iff_eq] at g1
    have e1 : h.old = (h.old.toNat : Int) := by omega
    have e2 : h.new = (h.new.toNat : Int) := by omega
    refine ⟨h.old.toNat, h.new.toNat, e1, e2, by omega, by omega, by omega, ?_⟩
    apply goodH_geo
    have n1 : (notB 43 h.lines).length = (oldT h).length := by unfold notB oldT; rw [List.length_map]
    have n2 : (notB 45 h.lines).length = (newT h).length := by unfold notB newT; rw [List.length_map]
    rw [n1, n2] at g2
    rw [Int.natCast_add, Int.natCast_add, ← e1, ← e2]
    exact g2
theorem chkC_geo {p : Pat} (h : chkC p = 0) : geo 0 0 p.hunks := by
  unfold chkC at h
  split at h
  · split at h
    · rename_i hk
      rw [hks_good, Bool.and_eq_true] at hk
      exact goodH_geo hk.1
    · cases h
  · cases h
theorem check_zero {l : List UInt8} : Tx.checkF l = 0 ↔ l.length ≤ 1048576 ∧ (Tx.linesF l).length ≤ 4096 := by
  unfold Tx.checkF
  split <;> simp <;> omega
theorem lnB_num (s : ByteArray) : (Sh.lnB s).length = (Tx.linesF (bs s)).length := by unfold Sh.lnB; rw [Tx.mks_len]
theorem fits_ok {p : Pat} {s : ByteArray} (h1 : chkC p = 0) (h2 : Tx.checkF (bs s) = 0) : fitsF p s = ((fitN (Sh.lnB s) p.hunks : Int), 0) := by
  unfold fitsF
  rw [if_neg (fun q => q h1), if_neg (fun q => q h2)]
theorem fits_err {p : Pat} {s : ByteArray} (h : (fitsF p s).2 = 0) : chkC p = 0 ∧ Tx.checkF (bs s) = 0 := by
  unfold fitsF at h
  by_cases h1 : chkC p = 0
  · rw [if_neg (fun q => q h1)] at h
    by_cases h2 : Tx.checkF (bs s) = 0
    · exact ⟨h1, h2⟩
    · rw [if_pos h2] at h; exact absurd h h2
  · rw [if_pos h1] at h; exact absurd h h1
/-- What it says that a patch can be applied. -/
theorem apply_ok {p : Pat} {s y : ByteArray} (h : applyF p s = (y, 0)) : chkC p = 0 ∧ Tx.checkF (bs s) = 0 ∧ (∀ g ∈ p.hunks, fitH (Sh.lnB s) g) ∧ Sh.lnB y = appT (Sh.lnB s) 0 p.hunks ∧ Tx.checkF (bs y) = 0 := by
  unfold applyF at h
  by_cases h0 : (fitsF p s).2 = 0
  · obtain ⟨h1, h2⟩ := fits_err h0
    rw [if_neg (fun q => q h0)] at h
    by_cases h3 : fitN (Sh.lnB s) p.hunks < p.hunks.length
    · rw [if_pos h3] at h; injection h with _ q; cases q
    · rw [if_neg h3] at h
      by_cases h4 : Tx.isListF ((appT (Sh.lnB s) 0 p.hunks).map bs) = false
      · rw [if_pos h4] at h; injection h with _ q; cases q
      · rw [if_neg h4] at h
        by_cases h5 : 1048576 < (allJ (appT (Sh.lnB s) 0 p.hunks)).size ∨ 4096 < (appT (Sh.lnB s) 0 p.hunks).length
        · rw [if_pos h5] at h; injection h with _ q; cases q
        · rw [if_neg h5] at h
          injection h with h6 _
          have hl : Tx.isListF ((appT (Sh.lnB s) 0 p.hunks).map bs) = true := by simpa using h4
          have hy : Sh.lnB y = appT (Sh.lnB s) 0 p.hunks := by rw [← h6, lnB_allJ hl]
          refine ⟨h1, h2, fit_all (Nat.le_antisymm (fitN_le _ _) (Nat.le_of_not_lt h3)), hy, check_zero.2 ⟨?_, ?_⟩⟩
          · have := Tx.bs_len y
            rw [h6] at h5
            omega
          · rw [← lnB_num, hy]; omega
  · rw [if_pos h0] at h; injection h with _ q; exact absurd q h0
theorem apply_to {p : Pat} {s y : ByteArray} (h1 : chkC p = 0) (h2 : Tx.checkF (bs s) = 0) (h3 : ∀ g ∈ p.hunks, fitH (Sh.lnB s) g) (h4 : appT (Sh.lnB s) 0 p.hunks = Sh.lnB y) (h5 : Tx.checkF (bs y) = 0) : applyF p s = (y, 0) := by
  obtain ⟨c1, c2⟩ := check_zero.1 h5
  unfold applyF
  rw [fits_ok h1 h2, if_neg (fun q => q rfl), if_neg (by rw [all_fit h3]; exact Nat.lt_irrefl _), h4, if_neg (by rw [lnB_list]; decide), allJ_lnB, if_neg]
  rw [lnB_num]
  have := Tx.bs_len y
  omega
/-- The reverse of a patch that can be applied restores the text. -/
theorem restores {p : Pat} {s y : ByteArray} (h : applyF p s = (y, 0)) : reverseF p = (revP p, 0) ∧ applyF (revP p) y = (s, 0) := by
  obtain ⟨h1, h2, h3, h4, h5⟩ := apply_ok h
  obtain ⟨r1, r2⟩ := rev_app (chkC_geo h1) h3 (Nat.zero_le _) (Y := Sh.lnB y) (by rw [List.drop_zero, h4])
  exact ⟨(reverse_two h1).1, apply_to (by rw [chkC_rev, h1]) h5 r1 (by rw [show (revP p).hunks = p.hunks.map revH from rfl, r2, List.drop_zero]) h2⟩
/-- A made patch makes the second text of the first one, and its reverse the first one of the second one. -/
theorem makes {ctx : Int} (hc : 0 ≤ ctx) {s t on nn : ByteArray} {l : List Sc.Ch} (hL : Lf (Sh.lnB s) (Sh.lnB t) 0 0 l (Sh.lnB s).length (Sh.lnB t).length) (h1 : chkC ⟨on, nn, patH (Sh.lnB s) (Sh.lnB t) ctx l⟩ = 0) (h2 : Tx.checkF (bs s) = 0) (h3 : Tx.checkF (bs t) = 0) :
    applyF ⟨on, nn, patH (Sh.lnB s) (Sh.lnB t) ctx l⟩ s = (t, 0) ∧ applyF (revP ⟨on, nn, patH (Sh.lnB s) (Sh.lnB t) ctx l⟩) t = (s, 0) := by
  obtain ⟨_, m2, m3⟩ := made (ph_group hc hL) hL
  have := apply_to (p := ⟨on, nn, patH (Sh.lnB s) (Sh.lnB t) ctx l⟩) h1 h2 m2 m3 h3
  exact ⟨this, (restores this).2⟩
theorem check_le {s : ByteArray} (h : s.size ≤ 4096) : Tx.checkF (bs s) = 0 := Tx.checkF_small _ (by rw [Tx.bs_len]; exact h)
/-- The patch that Make makes of small blobs. -/
theorem makes_small {ctx : Int} (hc : 0 ≤ ctx) {s t : ByteArray} (hs : s.size ≤ 1000) (ht : t.size ≤ 1000) (down : Bool) {on nn : ByteArray} (h1 : nameB on = true) (h2 : nameB nn = true) :
    applyF ⟨on, nn, patH (Sh.lnB s) (Sh.lnB t) ctx (scrD down s t)⟩ s = (t, 0) ∧ reverseF ⟨on, nn, patH (Sh.lnB s) (Sh.lnB t) ctx (scrD down s t)⟩ = (revP ⟨on, nn, patH (Sh.lnB s) (Sh.lnB t) ctx (scrD down s t)⟩, 0) ∧
      applyF (revP ⟨on, nn, patH (Sh.lnB s) (Sh.lnB t) ctx (scrD down s t)⟩) t = (s, 0) := by
  have hk := (mk_ok hc hs ht down h1 h2).chk
  obtain ⟨m1, m2⟩ := makes hc (scrD_lf (by omega) (by omega) down) hk (check_le (s := s) (by omega)) (check_le (s := t) (by omega))
  exact ⟨m1, (reverse_two hk).1, m2⟩
end Pa
end
section
namespace Cm
end Cm
namespace Hn
end Hn
namespace Sc
end Sc
namespace Tx
end Tx
open Go.RowKit
namespace Uf
open Cm Hn
open Sc (fmtR)
open Tx (bs)
def xB : ByteArray := ⟨#[120]⟩
def l1B : ByteArray := ⟨#[97, 10]⟩
theorem dec1 : Lib.decDigits 1 = [49] := by
  rw [Lib.decDigits]
  rfl
end Uf
end
end
section
section
namespace Cm
end Cm
namespace Hn
end Hn
namespace Sc
end Sc
namespace Tx
end Tx
open Go.RowKit
namespace Uf
open Cm Hn
open Sc (Pow RdK)
open Tx (bs)
theorem rdI_V {w : World} {v : Value} {l : List Int} (h : RdV w v (intsV l)) (hb : ∀ z ∈ l, -9223372036854775808 ≤ z ∧ z ≤ 9223372036854775807) : Tx.RdI w v l.length := by
  obtain ⟨A, c, rfl, _, hc⟩ := h
  refine ⟨A, c, by rw [intsV_len], fun hp => ?_⟩
  obtain ⟨b, off, rfl, hcell⟩ := hc (by rw [intsV_len]; exact hp)
  refine ⟨b, off, rfl, fun j hj => ⟨l[j], ?_, hb _ (List.getElem_mem hj)⟩⟩
  rw [hcell j (by rw [intsV_len]; exact hj)]
  simp [intsV]
def oB : ByteArray := ⟨#[111]⟩
def nB : ByteArray := ⟨#[110]⟩
def AwPost (w : World) (e : Ending) (w' : World) : Prop := e = .returned (.bool true) ∧ Below w.heap.size w w'
/-- A made patch in its box. -/
def Bx (W : World) (B : Nat) (hs : List PH) (v : Value) : Prop := Blk W B tPat [.string oB, .string nB, v] ∧ RdP W v hs
/-- Make with the laws' names. -/
theorem Make_on (s t : ByteArray) (ctx : Int) (down : Bool) (hs : s.size ≤ 1000) (ht : t.size ≤ 1000) (hc : 0 ≤ ctx ∧ ctx ≤ 1048576) (w : World) : Calls Tryz.prog 25 #[.string oB, .string nB, .string s, .string t, .int .i64 ctx, .bool down] w fun e w' => ∃ A c, e = .returned (.tuple #[.agg #[.string oB, .string nB, .slice A (patH (Sh.lnB s) (Sh.lnB t) ctx (scrD down s t)).length c], .int .i64 0]) ∧ OwnP w.heap.size w' (.slice A (patH (Sh.lnB s) (Sh.lnB t) ctx (scrD down s t)).length c) (patH (Sh.lnB s) (Sh.lnB t) ctx (scrD down s t)) ∧ Below w.heap.size w w' := by
  obtain ⟨e1, e2⟩ := mk_on (s := s) (t := t) (ctx := ctx) (down := down) (on := oB) (nn := nB) (by decide) (by decide) hc
  have h := Make_any oB nB s t ctx down hs ht w
  rw [e1, e2] at h
  refine h.mono ?_
  rintro e w' ⟨v, rfl, ho, hb⟩
  obtain ⟨A, c, rfl⟩ := ho.form
  exact ⟨A, c, rfl, ho, hb⟩
end Uf
end
section
namespace Cm
end Cm
namespace Hn
end Hn
namespace Sc
end Sc
namespace Tx
end Tx
open Go.RowKit
namespace Uf
open Cm Hn
open Sc (Pow RdK)
open Tx (bs)
/-- A patch in its box. -/
def BxP (W : World) (B : Nat) (p : Pat) (v : Value) : Prop := Blk W B tPat [.string p.on, .string p.nn, v] ∧ RdP W v p.hunks
theorem BxP.below {W W' : World} {B : Nat} {p : Pat} {v : Value} (h : BxP W B p v) (hb : Below W.heap.size W W') : BxP W' B p v := ⟨h.1.below hb, h.2.below hb⟩
theorem BxP.new {W : World} {p : Pat} {v : Value} (h : RdP W v p.hunks) : BxP (W.alloc (.cells #[.string p.on, .string p.nn, v] tPat)) W.heap.size p v := ⟨heap_new W _, h.below ((Below.refl _ W).alloc (Nat.le_refl _) _)⟩
theorem BxP.cells {W : World} {B : Nat} {p : Pat} {v : Value} (h : BxP W B p v) : W.cell? ⟨B, 0, none⟩ = some (.string p.on) ∧ W.cell? ⟨B, 1, none⟩ = some (.string p.nn) ∧ W.cell? ⟨B, 2, none⟩ = some v := ⟨h.1.cell (k := 0) (show 0 < 3 by decide), h.1.cell (k := 1) (show 1 < 3 by decide), h.1.cell (k := 2) (show 2 < 3 by decide)⟩
end Uf
end
section
namespace Cm
end Cm
namespace Hn
end Hn
namespace Sc
end Sc
namespace Tx
end Tx
namespace Uf
end Uf
open Go.RowKit
namespace Pa
open Cm Uf Hn
open Sc (ownK_below ownK_base)
open Tx (bs bss RdS strsV)
def BlPost (n : Nat) (w : World) (e : Ending) (w' : World) : Prop := ∃ (v : Value) (xs : List ByteArray), e = .returned v ∧ xs.length = n ∧ (∀ x ∈ xs, x.size ≤ 120) ∧ RdS w' v xs ∧ Below w.heap.size w w'
theorem str_one (t : ByteArray) : (#[Value.string t] : Array Value).toList = [Tx.strV (bs t)] := by unfold Tx.strV; rw [Tx.mk_bs]
theorem strs_empty (w : World) (base : Nat) (hb : base ≤ w.heap.size) : (w.alloc (.cells #[] 9)).ownsRow base 9 1 (.slice (some ⟨w.heap.size, 0, none⟩) 0 0) 0 (strsV []) :=
  ⟨rfl, .inr ⟨w.heap.size, 0, #[], rfl, hb, heap_new w _, Nat.le_refl _, Nat.zero_le _, rfl, rfl⟩⟩
set_option maxRecDepth 100000 in
set_option maxHeartbeats 8000000 in
theorem Blobs_any (v : Value) (us : List Int) (n : Nat) (w : World) (h : RdV w v (intsV us)) (hu : us.length ≤ maxLen) (hub : ∀ z ∈ us, -9223372036854775808 ≤ z ∧ z ≤ 9223372036854775807) (hn : n ≤ 8) :
    Calls Tryz.prog 30 #[v, .int .i64 (n : Int), .int .i64 6] w (BlPost n w) := by
  have HB0 := Lib.hid (Tx.Blob_any v us.length 0 6 5 w (rdI_V h hub) hu (by omega) (by omega) (by omega) (by omega) (by omega) (by omega))
  have HBl := Lib.hid (fun wq (hb : Below w.heap.size w wq) (fr : Int) (h0 : 0 ≤ fr) (h1 : fr ≤ 10000) => Tx.Blob_any v us.length fr 6 4 wq (rdI_V (h.below hb) hub) hu h0 h1 (by omega) (by omega) (by omega) (by omega))
  have HNr := Lib.hid (fun wq (hb : Below w.heap.size w wq) (a : ByteArray) (ha : a.size ≤ 24) (fr : Int) (hf : 0 ≤ fr ∧ fr ≤ 1000) => Sh.Near_any a v us fr wq (h.below hb) hu (by omega) hf)
  have HAt := Lib.hid (fun wq (hb : Below w.heap.size w wq) (k : Int) (h0 : 0 ≤ k) (h1 : k ≤ 1000000) => Tx.At_any v us.length k wq (rdI_V (h.below hb) hub) hu h0 h1)
  obtain ⟨A, c, rfl⟩ := h.form
  clear h hu hub
  rw [intsV_len] at HB0 HBl HNr HAt ⊢
  generalize us.length = nu at *
  unfold Tx.SomeStr at HB0 HBl HNr
  unfold Tx.SomeInt at HAt
  rw [show (6 : Int).toNat = 6 from rfl] at HB0 HBl
  have HFin : Hid (∀ (u : Value) (l : List (List UInt8)) (b : Nat) (w' : World), w'.ownsRow b 9 1 u l.length (strsV l) → l.length = n → (∀ x ∈ l, x.length ≤ 120) → Below w.heap.size w w' → BlPost n w (.returned u) w') := Lib.hid (fun u l b w' h1 h2 h3 h4 => by
    refine ⟨u, Tx.mks l, rfl, by rw [Tx.mks_len]; exact h2, fun x hx => ?_, RdS.of_own h1, h4⟩
    obtain ⟨y, hy, rfl⟩ := List.mem_map.1 hx
    rw [Tx.size_mk]
    exact h3 y hy)
  go_enter Tryz.func30, Tryz.ntmps30
  go_wp2_with fail
  refine (HB0.out).mono ?_
  rintro e w1 ⟨a, ha, rfl, hb⟩
  have HW1 := Lib.hid hb
  have HE := Lib.hid (strs_empty w1 w1.heap.size (Nat.le_refl _))
  have HBe := Lib.hid ((Below.refl w1.heap.size w1).alloc (Nat.le_refl _) (.cells #[] 9))
  have hax : a.size ≤ 24 := by omega
  clear hb ha HB0
  go_wp2_with fail
  go_loopw [8, 9] (fun u i wr => ∃ (j : Nat) (l : List (List UInt8)), j ≤ n ∧ i = .int .i64 j ∧ l.length = j ∧ Hid (∀ x ∈ l, x.length ≤ 120) ∧ Hid (wr.ownsRow w1.heap.size 9 1 u l.length (strsV l)) ∧ Hid (Below w1.heap.size w1 wr)) (fun _ i _ => n - (intOf i).toNat)
  case atStart => exact ⟨0, [], Nat.zero_le _, rfl, rfl, Lib.hid (fun x hx => by cases hx), HE, HBe⟩
  case round =>
    obtain ⟨j, l, hj, rfl, hl, HL, HO, HB⟩ := hrel
    have HBw := Lib.hid (HW1.out.trans (HB.out.mono HW1.out.size))
    clear HE HBe
    by_cases hlt : j < n
    · have i1 : (0 : Int) ≤ (j : Int) := by omega
      have i2 : (j : Int) < (n : Int) := by omega
      have HA := Lib.hid (HAt.out wr HBw.out (500 + (j : Int)) (by omega) (by omega))
      have HGo : Hid (∀ (t : ByteArray) (u' : Value) (w' : World), t.size ≤ 120 → w'.ownsRow w1.heap.size 9 1 u' (l ++ [bs t]).length (strsV (l ++ [bs t])) → Below w1.heap.size w1 w' → ∃ (j' : Nat) (l' : List (List UInt8)), j' ≤ n ∧ (Value.int .i64 ((j : Int) + 1)) = .int .i64 j' ∧ l'.length = j' ∧ Hid (∀ x ∈ l', x.length ≤ 120) ∧ Hid (w'.ownsRow w1.heap.size 9 1 u' l'.length (strsV l')) ∧ Hid (Below w1.heap.size w1 w')) := Lib.hid (fun t u' w' h1 h2 h3 =>
        ⟨j + 1, l ++ [bs t], by omega, by go_num, by rw [List.length_append, List.length_singleton, hl], Lib.hid (fun x hx => by
          rcases List.mem_append.1 hx with h | h
          · exact HL.out x h
          · rw [List.mem_singleton.1 h, Tx.bs_len]; exact h1), Lib.hid h2, Lib.hid h3⟩)
      go_wp2_with fail
      refine HA.out.mono ?_
      rintro e w2 ⟨nv, n1, n2, rfl, rfl⟩
      cases k0 : (nv.tmod 5 == 0) with
      | true =>
        have HBx := Lib.hid (HBl.out wr HBw.out (600 + 50 * (j : Int)) (by omega) (by omega))
        go_wp2_with fail
        refine HBx.out.mono ?_
        rintro e w3 ⟨t, ht, rfl, hb⟩
        have HO3 := Lib.hid (ownK_below HO.out hb)
        have HB3 := Lib.hid (HB.out.trans (hb.mono HB.out.size))
        clear hb
        go_wp2_with (at_builtin; refine Tx.app_newS rfl (.tmp 35) (.tmp 42) rfl w1.heap.size l (bs t) _ rfl HO3.out rfl (str_one _) (by omega) HB3.out.size ?_; intro v4 w4 ho4 hb4; have HO4 := Lib.hid ho4; clear ho4)
        go_roundw
        case rel => exact HGo.out t _ _ (by omega) HO4.out (HB3.out.trans hb4)
        case measure => simp [intOf]; omega
      | false =>
        cases k1 : (nv.tmod 5 == 1) with
        | true =>
          go_wp2_with (at_builtin; refine Tx.app_newS rfl (.tmp 46) (.tmp 48) rfl w1.heap.size l (bs a) _ rfl HO.out rfl (str_one _) (by omega) HB.out.size ?_; intro v4 w4 ho4 hb4; have HO4 := Lib.hid ho4; clear ho4)
          go_roundw
          case rel => exact HGo.out a _ _ (by omega) HO4.out (HB.out.trans hb4)
          case measure => simp [intOf]; omega
        | false =>
          have HNx := Lib.hid (HNr.out wr HBw.out a hax (600 + 50 * (j : Int)) ⟨by omega, by omega⟩)
          go_wp2_with fail
          refine HNx.out.mono ?_
          rintro e w3 ⟨t, ht, rfl, hb⟩
          have HO3 := Lib.hid (ownK_below HO.out hb)
          have HB3 := Lib.hid (HB.out.trans (hb.mono HB.out.size))
          clear hb
          go_wp2_with (at_builtin; refine Tx.app_newS rfl (.tmp 24) (.tmp 31) rfl w1.heap.size l (bs t) _ rfl HO3.out rfl (str_one _) (by omega) HB3.out.size ?_; intro v4 w4 ho4 hb4; have HO4 := Lib.hid ho4; clear ho4)
          go_roundw
          case rel => exact HGo.out t _ _ (by omega) HO4.out (HB3.out.trans hb4)
          case measure => simp [intOf]; omega
    · obtain rfl : j = n := by omega
      have HF := Lib.hid (fun u h1 => HFin.out u l w1.heap.size wr h1 hl HL.out HBw.out)
      go_wp2_with fail
      go_ret
      exact HF.out _ HO.out
end Pa
end
end
end
section
namespace Cm
end Cm
namespace Hn
end Hn
namespace Sc
end Sc
namespace Tx
end Tx
namespace Uf
end Uf
open Go.RowKit
namespace Pa
open Cm Uf Hn
open Sc (RdK flatK flatK_snoc ownK_below Pow)
open Tx (bs)
theorem step_app_phG {ops : Array Oper} {o : Oper} {a : Act} {K : Act → World → Prop} {Q : Exit → Act → World → Prop} {E : Prop} {w : World} (hgd : o.guard = none) (s x : Operand)
    (ho : o.op = .call { callee := .builtin .append, args := #[s, x], argTypes := #[tPhs, tPhs] })
    (base : Nat) (hs : List PH) (c : PH) (u v : Value) (hsv : a.eval s = v) (hown : OwnP base w v hs) (hu : OwnL base w u c.lines)
    (ad : Addr) (hx : a.eval x = .slice (some ad) 1 1) (hnews : ∀ (j : Nat) (z : Value), [Value.int .i64 c.old, .int .i64 c.new, u][j]? = some z → w.cell? (ad.add j) = some z)
    (hsz : hs.length + 1 ≤ 1000000) (hbase : base ≤ w.heap.size)
    (h : ∀ g cap w', OwnP base w' (.slice (some ⟨g, 0, none⟩) (hs.length + 1) cap) (hs ++ [c]) → Below base w w' → w.grownBy w' v.ownBlock → K (a.put o.dst (.slice (some ⟨g, 0, none⟩) (hs.length + 1) cap)) w') :
    if Region.wanted o (yielded ops a.tmps) = true then Oper.wp Tryz.prog o a w K Q else E := by
  obtain ⟨i0, hi0, hz0, hz1, hz2⟩ := info_parts info_ph
  obtain ⟨zs, h1, h2, h3⟩ := hown
  obtain ⟨Au, cu, eu⟩ := hu.form
  refine step_append_lies w hgd s x tPhs ho base tPh i0 zeroPh 3 40 Tryz.underlying24 hi0 hz0 hz1 hz2 rfl (by omega) v zs.length (flatK hunkC zs) hsv h1 ad 1 1 (hunkC ⟨c.old, c.new, u⟩) hx rfl hnews (one_hv ⟨c.old, c.new, u⟩ _ _ _ eu) (by omega) (by unfold maxLen; omega) (by omega) hbase w.heap.size rfl ?_
  intro g cap w' g1 g2 g3 g4
  have hb : Below base w w' := (Below.refl _ w).grown g2 hbase (fun k hk => (h1.lt k hk).1)
  rw [h2]
  refine h g cap w' ⟨zs ++ [⟨c.old, c.new, u⟩], by rw [List.length_append, List.length_singleton, flatK_snoc, ← h2]; exact g1, by simp [h2], fun j a b => ?_⟩ hb g2
  by_cases hj : j < zs.length
  · rw [List.getElem_append_left hj]
    have e : (hs ++ [c])[j] = hs[j]'(by omega) := List.getElem_append_left (by omega)
    rw [e]
    obtain ⟨k1, k2, k3⟩ := h3 j hj (by omega)
    exact ⟨k1, k2, World.ownsRow.kept k3 g2 (ownK_ne k3 h1 (by decide))⟩
  · have hj2 : j = zs.length := by rw [List.length_append, List.length_singleton] at a; omega
    subst hj2
    have e1 : (zs ++ [(⟨c.old, c.new, u⟩ : HV)])[zs.length] = ⟨c.old, c.new, u⟩ := by simp
    have e2 : (hs ++ [c])[zs.length] = c := by simp [h2]
    rw [e1, e2]
    exact ⟨rfl, rfl, World.ownsRow.kept hu g2 (ownK_ne hu h1 (by decide))⟩
theorem ownP_lt {base : Nat} {w : World} {v : Value} {hs : List PH} (h : OwnP base w v hs) : v.ownBlock ≠ some w.heap.size := by
  obtain ⟨zs, h1, _⟩ := h
  intro e
  have := (h1.lt _ e).2
  omega
theorem keep_blk {V w7 : World} {v : Value} {G : Nat} {t : TypeId} {l : List Value} (hB : Blk V G t l) (hg : V.grownBy w7 v.ownBlock) (hne : v.ownBlock ≠ some G) : Blk w7 G t l := (hg.block G hB.lt (fun e => hne e.symm)).trans hB
set_option maxRecDepth 100000 in
set_option maxHeartbeats 8000000 in
theorem Reverse_any (p : Pat) (v0 : Value) (w : World) (hr : RdP w v0 p.hunks) (hsm : PatSm p.hunks) (hfew : p.hunks.length ≤ 100000) (hl : ∀ h ∈ p.hunks, h.lines.length ≤ 100000) (hp : Pow w) : Calls Tryz.prog 19 #[tPatV p v0] w (PtPost (reverseF p).1 (reverseF p).2 w) := by
  have HBa := Lib.hid ((Below.refl w.heap.size w).alloc (Nat.le_refl _) (.cells #[.string p.on, .string p.nn, v0] tPat))
  have HB0 := Lib.hid (HBa.out.alloc HBa.out.size (.cells #[.string ⟨#[]⟩, .string ⟨#[]⟩, .slice none 0 0] tPat))
  have HR := Lib.hid (fun w' (hb : Below w.heap.size w w') => hr.below hb)
  obtain ⟨A, c, rfl⟩ := hr.form
  have HCk := Lib.hid (fun w' (hb : Below w.heap.size w w') => Check_any p _ w' (hr.below hb) hsm (hp.stays hb))
  unfold CkPost at HCk
  have HK0 : Hid (Blk ((w.alloc (.cells #[.string p.on, .string p.nn, .slice A p.hunks.length c] tPat)).alloc (.cells #[.string ⟨#[]⟩, .string ⟨#[]⟩, .slice none 0 0] tPat)) w.heap.size tPat [.string p.on, .string p.nn, .slice A p.hunks.length c]) := Lib.hid (Blk.alloc (heap_new w _) _)
  have HZ0 : Hid (Blk ((w.alloc (.cells #[.string p.on, .string p.nn, .slice A p.hunks.length c] tPat)).alloc (.cells #[.string ⟨#[]⟩, .string ⟨#[]⟩, .slice none 0 0] tPat)) (w.heap.size + 1) tPat [.string ⟨#[]⟩, .string ⟨#[]⟩, .slice none 0 0]) := Lib.hid (by
    have h := heap_new (w.alloc (.cells #[.string p.on, .string p.nn, .slice A p.hunks.length c] tPat)) (.cells #[.string ⟨#[]⟩, .string ⟨#[]⟩, .slice none 0 0] tPat)
    have e : (w.alloc (.cells #[.string p.on, .string p.nn, .slice A p.hunks.length c] tPat)).heap.size = w.heap.size + 1 := by simp
    rw [e] at h
    exact h)
  obtain ⟨W, hW⟩ : ∃ W, W = (w.alloc (.cells #[.string p.on, .string p.nn, .slice A p.hunks.length c] tPat)).alloc (.cells #[.string ⟨#[]⟩, .string ⟨#[]⟩, .slice none 0 0] tPat) := ⟨_, rfl⟩
  rw [← hW] at HB0 HK0 HZ0
  obtain ⟨k0, k1, k2, -, -⟩ := blk3 HK0.out
  clear hr hp HBa
  by_cases hc : chkC p = 0
  · have HE : Hid (∀ v w', OwnP w.heap.size w' v (p.hunks.map revH) → Below w.heap.size w w' → PtPost (reverseF p).1 (reverseF p).2 w (.returned (.tuple #[.agg #[.string p.nn, .string p.on, v], .int .i64 0])) w') := Lib.hid (fun v w' h1 h2 => by
      have e : reverseF p = (revP p, 0) := by unfold reverseF; rw [if_neg (fun h => h hc)]
      rw [e]
      exact ⟨v, rfl, h1, h2⟩)
    have HC1 := Lib.hid (HCk.out W HB0.out)
    rw [hc] at HC1
    generalize reverseF p = rp at *
    obtain ⟨on, nn, hs⟩ := p
    simp only at hsm hfew hl hc HR HCk HK0 HZ0 k0 k1 k2 HE HC1 hW ⊢
    have HLs := Lib.hid hl
    clear hc HCk hsm hl
    obtain ⟨N, hN⟩ : ∃ N, N = hs.length := ⟨_, rfl⟩
    have HN := Lib.hid hN.symm
    rw [← hN] at hfew HR HK0 k2 hW HC1 ⊢
    clear hN
    go_enter Tryz.func19, Tryz.ntmps19
    go_upto_region 1 with fail
    rw [← hW]
    clear hW
    go_wp2_with fail
    refine HC1.out.mono ?_
    rintro e w1 ⟨rfl, hb⟩
    have HB1 := Lib.hid (HB0.out.trans (hb.mono HB0.out.size))
    have HK1 := Lib.hid (HK0.out.below hb)
    have HZ1 := Lib.hid (HZ0.out.below hb)
    obtain ⟨k0, k1, k2, -, -⟩ := blk3 HK1.out
    have HI0 : Hid (MkI w1 nn on (w1.alloc (.cells #[.string nn, .string on, .slice none 0 0] tPat)) (.slice none 0 0) []) := Lib.hid ⟨(Below.refl _ _).alloc (Nat.le_refl _) _, heap_new w1 _, OwnP.nil _ _⟩
    have HK2 : Hid (Blk (w1.alloc (.cells #[.string nn, .string on, .slice none 0 0] tPat)) w.heap.size tPat [.string on, .string nn, .slice A N c]) := Lib.hid (HK1.out.alloc _)
    obtain ⟨W2, hW2⟩ : ∃ W2, W2 = w1.alloc (.cells #[.string nn, .string on, .slice none 0 0] tPat) := ⟨_, rfl⟩
    rw [← hW2] at HI0 HK2
    clear hb HC1 HK0 HZ0 HB0
    go_upto_region 5 with fail
    rw [← hW2]
    clear hW2
    obtain ⟨k0, k1, k2, -, -⟩ := blk3 HK2.out
    go_wp2_with fail
    go_loopw [22] (fun i wr => ∃ (j : Nat) (v : Value), j ≤ N ∧ i = .int .i64 j ∧ Hid (MkI w1 nn on wr v ((hs.take j).map revH))) (fun i _ => N - (intOf i).toNat)
    case atStart => exact ⟨0, _, Nat.zero_le _, rfl, HI0⟩
    case round =>
      obtain ⟨j, v, hj, rfl, HI⟩ := hrel
      obtain ⟨p0, p1, p2, pf, plt⟩ := blk3 HI.out.blk
      have HBw := Lib.hid (HB1.out.trans (HI.out.bel.mono HB1.out.size))
      by_cases hlt : j < N
      · have hx : j < hs.length := by rw [HN.out]; exact hlt
        have HTk : Hid ((hs.take (j + 1)).map revH = (hs.take j).map revH ++ [⟨hs[j].new, hs[j].old, hs[j].lines.map revL⟩]) := Lib.hid (by
          rw [List.take_succ_eq_append_getElem hx, List.map_append, List.map_singleton]
          rfl)
        have hlj : ((hs.take j).map revH).length + 1 ≤ 1000000 := by rw [List.length_map, List.length_take]; omega
        obtain ⟨bl, off, Ah, ch, rfl, c0, c1, c2, hrh⟩ := RdP_at (HR.out wr HBw.out) j hx
        have hls := HLs.out _ (List.getElem_mem hx)
        generalize hs[j] = h at *
        obtain ⟨ho, hn, ls⟩ := h
        simp only at c0 c1 c2 hrh hls HTk
        have HRl := Lib.hid (fun V (hV : Below wr.heap.size wr V) => reversed_any _ ls V (hrh.below hV) hls)
        unfold NewL at HRl
        have hrl : (ls.map revL).length = ls.length := List.length_map _
        generalize ls.map revL = rl at *
        generalize hM : ls.length = M at *
        have HLl := Lib.hid hrl
        clear hrl hrh
        have i1 : (0 : Int) ≤ (j : Int) := by omega
        have i2 : (j : Int) < (N : Int) := by omega
        generalize (hs.take j).map revH = ps at *
        clear hx hM
        go_upto_region 8 with fail
        have HA1 := Lib.hid ((Below.refl wr.heap.size wr).alloc (Nat.le_refl _) (.cells #[.int .i64 ho, .int .i64 hn, .slice Ah M ch] tPh))
        have HH1 : Hid (Blk (wr.alloc (.cells #[.int .i64 ho, .int .i64 hn, .slice Ah M ch] tPh)) wr.heap.size tPh [.int .i64 ho, .int .i64 hn, .slice Ah M ch]) := Lib.hid (heap_new wr _)
        obtain ⟨W1, hW1⟩ : ∃ W1, W1 = wr.alloc (.cells #[.int .i64 ho, .int .i64 hn, .slice Ah M ch] tPh) := ⟨_, rfl⟩
        rw [← hW1] at HA1 HH1 ⊢
        clear hW1
        have HI1 : Hid (MkI w1 nn on W1 v ps) := Lib.hid ⟨HI.out.bel.trans (HA1.out.mono HI.out.bel.size), HI.out.blk.below HA1.out, HI.out.own.below HA1.out⟩
        have HI0b := HI.out.blk.lt
        have HvB := Lib.hid (ownP_lt HI.out.own)
        have HRv := Lib.hid (fun V (hV : Below W1.heap.size W1 V) => HRl.out V (HA1.out.trans (hV.mono HA1.out.size)))
        clear HA1 HI c0 c1 c2 p0 p1 p2 pf plt HRl
        have hW1s : wr.heap.size < W1.heap.size := HH1.out.lt
        have hHB : w1.heap.size ≠ wr.heap.size := by have := HI0b; omega
        generalize wr.heap.size = HB at *
        have HFx : Hid (∀ V : World, Below W1.heap.size W1 V → V.cell? ⟨w1.heap.size, 2, none⟩ = some v ∧ V.cell? ⟨HB, 0, none⟩ = some (.int .i64 ho) ∧ V.cell? ⟨HB, 1, none⟩ = some (.int .i64 hn) ∧ V.cell? ⟨HB, 2, none⟩ = some (.slice Ah M ch)) := Lib.hid (fun V hV => by
          have b1 := HI1.out.blk.below hV
          have b2 := HH1.out.below hV
          exact ⟨b1.cell (k := 2) (show 2 < 3 by decide), b2.cell (k := 0) (show 0 < 3 by decide), b2.cell (k := 1) (show 1 < 3 by decide), b2.cell (k := 2) (show 2 < 3 by decide)⟩)
        have HNext : Hid (∀ (V w7 : World) (v7 : Value), Below W1.heap.size W1 V → OwnP (w1.heap.size + 1) w7 v7 (ps ++ [⟨hn, ho, rl⟩]) → Below (w1.heap.size + 1) V w7 → (w7.cell? ⟨w1.heap.size, 2, none⟩ = some v ∧ w7.frozen? ⟨w1.heap.size, 2, none⟩ = false) ∧ MkI w1 nn on (w7.setCell ⟨w1.heap.size, 2, none⟩ v7) v7 (ps ++ [⟨hn, ho, rl⟩])) := Lib.hid (fun V w7 v7 hV ho hb => by
          have hlt1 := HI1.out.blk.lt
          have b7 : Blk w7 w1.heap.size tPat [.string nn, .string on, v] := (hb.block w1.heap.size (by omega)).trans (HI1.out.blk.below hV)
          refine ⟨⟨b7.cell (k := 2) (show 2 < 3 by decide), b7.free 2⟩, ?_, b7.set 2 v7, ho.box (by omega)⟩
          have h1 : Below w1.heap.size w1 V := HI1.out.bel.trans (hV.mono (by omega))
          exact (h1.trans (hb.mono (by omega))).setCell (p := ⟨w1.heap.size, 2, none⟩) (Nat.le_refl _) _)
        have HKeep : Hid (∀ V w7 : World, Blk V HB tPh [.int .i64 ho, .int .i64 hn, .slice Ah M ch] → V.grownBy w7 v.ownBlock → Blk w7 HB tPh [.int .i64 ho, .int .i64 hn, .slice Ah M ch]) := Lib.hid (fun V w7 h1 h2 => keep_blk h1 h2 HvB.out)
        have hW1d : w1.heap.size + 1 ≤ W1.drew.heap.size := by have := HI1.out.blk.lt; show w1.heap.size + 1 ≤ W1.heap.size; omega
        have HAfter : Hid (∀ (w5 : World) (A5 : Option Addr) (c5 : Nat), OwnL W1.drew.heap.size w5 (.slice A5 rl.length c5) rl → Below W1.drew.heap.size W1.drew w5 →
            w5.cell? ⟨w1.heap.size, 2, none⟩ = some v ∧ (w5.alloc (.cells #[.int .i64 hn, .int .i64 ho, .slice A5 rl.length c5] tPh)).cell? ⟨w1.heap.size, 2, none⟩ = some v ∧
            OwnL (w1.heap.size + 1) (w5.alloc (.cells #[.int .i64 hn, .int .i64 ho, .slice A5 rl.length c5] tPh)) (.slice A5 rl.length c5) rl ∧
            OwnP (w1.heap.size + 1) (w5.alloc (.cells #[.int .i64 hn, .int .i64 ho, .slice A5 rl.length c5] tPh)) v ps ∧
            w1.heap.size + 1 ≤ (w5.alloc (.cells #[.int .i64 hn, .int .i64 ho, .slice A5 rl.length c5] tPh)).heap.size ∧
            Below W1.heap.size W1 (w5.alloc (.cells #[.int .i64 hn, .int .i64 ho, .slice A5 rl.length c5] tPh))) := Lib.hid (fun w5 A5 c5 ho' hb => by
          have hB : Below W1.heap.size W1 w5 := (Below.refl _ W1).drew.trans hb
          have hA := (Below.refl w5.heap.size w5).alloc (Nat.le_refl _) (.cells #[.int .i64 hn, .int .i64 ho, .slice A5 rl.length c5] tPh)
          have hB2 := hB.alloc hB.size (.cells #[.int .i64 hn, .int .i64 ho, .slice A5 rl.length c5] tPh)
          exact ⟨(HFx.out _ hB).1, (HFx.out _ hB2).1, (ho'.base hW1d).below hA, (HI1.out.own.below hB).below hA, Nat.le_trans hW1d hB2.size, hB2⟩)
        obtain ⟨a0, a1, a2, a3⟩ := HFx.out W1 (Below.refl _ _)
        have HSx : Hid (∀ V : World, Blk V HB tPh [.int .i64 ho, .int .i64 hn, .slice Ah M ch] → V.cell? ⟨HB, 0, none⟩ = some (.int .i64 ho) ∧ V.cell? ⟨HB, 1, none⟩ = some (.int .i64 hn) ∧ V.cell? ⟨HB, 2, none⟩ = some (.slice Ah M ch)) := Lib.hid (fun V b2 => ⟨b2.cell (k := 0) (show 0 < 3 by decide), b2.cell (k := 1) (show 1 < 3 by decide), b2.cell (k := 2) (show 2 < 3 by decide)⟩)
        have hPB := HI1.out.blk.lt
        have ne1 : w1.heap.size ≠ HB := hHB
        have ne2 : HB ≠ w1.heap.size := Ne.symm hHB
        have HBe : Hid (Below W1.heap.size W1 W1.drew) := Lib.hid (Below.refl _ W1).drew
        clear HFx HvB
        refine wp_region_held_drew (S := (fun V => V.cell? ⟨HB, 0, none⟩ = some (.int .i64 ho) ∧ V.cell? ⟨HB, 1, none⟩ = some (.int .i64 hn) ∧ V.cell? ⟨HB, 2, none⟩ = some (.slice Ah M ch))) (by kernel_rfl) (HSx.out _ (HH1.out.below HBe.out)) (fun hHeld => ?_)
        refine wpAnyH_take (i := 0) (v := .pointer (some ⟨w1.heap.size, 2, none⟩)) rfl (by kernel_rfl) (by kernel_rfl) (by kernel_rfl) (fun _ _ _ h => h) (Or.inl ⟨by kernel_rfl, ?_⟩) (by assumption) ?_
        · intro V hV
          obtain ⟨h0, h1, h2⟩ := hV
          go_simp
        change wpAnyH _ _ _ _ _ _ _ (Act.put _ (some 26) _) _
        simp only [Act.put, List.setIfInBounds_toArray, List.set_cons_zero, List.set_cons_succ]
        refine wpAnyH_take (i := 2) (v := .pointer (some ⟨HB, 1, none⟩)) rfl (by kernel_rfl) (by kernel_rfl) (by kernel_rfl) (fun _ _ _ h => h) (Or.inl ⟨by kernel_rfl, ?_⟩) (by assumption) ?_
        · intro V hV
          obtain ⟨h0, h1, h2⟩ := hV
          go_simp
        change wpAnyH _ _ _ _ _ _ _ (Act.put _ (some 28) _) _
        simp only [Act.put, List.setIfInBounds_toArray, List.set_cons_zero, List.set_cons_succ]
        refine wpAnyH_take (i := 3) (v := .int .i64 hn) rfl (by kernel_rfl) (by kernel_rfl) (by kernel_rfl) (fun _ _ _ h => h) (Or.inl ⟨by kernel_rfl, ?_⟩) (by assumption) ?_
        · intro V hV
          obtain ⟨h0, h1, h2⟩ := hV
          go_simp
        change wpAnyH _ _ _ _ _ _ _ (Act.put _ (some 29) _) _
        simp only [Act.put, List.setIfInBounds_toArray, List.set_cons_zero, List.set_cons_succ]
        refine wpAnyH_take (i := 4) (v := .pointer (some ⟨HB, 0, none⟩)) rfl (by kernel_rfl) (by kernel_rfl) (by kernel_rfl) (fun _ _ _ h => h) (Or.inl ⟨by kernel_rfl, ?_⟩) (by assumption) ?_
        · intro V hV
          obtain ⟨h0, h1, h2⟩ := hV
          go_simp
        change wpAnyH _ _ _ _ _ _ _ (Act.put _ (some 30) _) _
        simp only [Act.put, List.setIfInBounds_toArray, List.set_cons_zero, List.set_cons_succ]
        refine wpAnyH_take (i := 5) (v := .int .i64 ho) rfl (by kernel_rfl) (by kernel_rfl) (by kernel_rfl) (fun _ _ _ h => h) (Or.inl ⟨by kernel_rfl, ?_⟩) (by assumption) ?_
        · intro V hV
          obtain ⟨h0, h1, h2⟩ := hV
          go_simp
        change wpAnyH _ _ _ _ _ _ _ (Act.put _ (some 31) _) _
        simp only [Act.put, List.setIfInBounds_toArray, List.set_cons_zero, List.set_cons_succ]
        refine wpAnyH_take (i := 6) (v := .pointer (some ⟨HB, 2, none⟩)) rfl (by kernel_rfl) (by kernel_rfl) (by kernel_rfl) (fun _ _ _ h => h) (Or.inl ⟨by kernel_rfl, ?_⟩) (by assumption) ?_
        · intro V hV
          obtain ⟨h0, h1, h2⟩ := hV
          go_simp
        change wpAnyH _ _ _ _ _ _ _ (Act.put _ (some 32) _) _
        simp only [Act.put, List.setIfInBounds_toArray, List.set_cons_zero, List.set_cons_succ]
        refine wpAnyH_take (i := 7) (v := .slice Ah M ch) rfl (by kernel_rfl) (by kernel_rfl) (by kernel_rfl) (fun _ _ _ h => h) (Or.inl ⟨by kernel_rfl, ?_⟩) (by assumption) ?_
        · intro V hV
          obtain ⟨h0, h1, h2⟩ := hV
          go_simp
        change wpAnyH _ _ _ _ _ _ _ (Act.put _ (some 33) _) _
        simp only [Act.put, List.setIfInBounds_toArray, List.set_cons_zero, List.set_cons_succ]
        refine wpAnyH_ready (rs := [1, 8]) (by kernel_rfl) (by simp) ?_
        refine AllReadyH.cons rfl (fun K hK => ?_) (AllReadyH.cons rfl (fun K hK => ?_) AllReadyH.nil)
        · skip
          go_simp
          refine hK.out _ _ (HSx.out _ (HH1.out.below HBe.out)) (fun hHeld => ?_)
          clear hK K
          refine wpAnyH_ready (rs := [8]) (by kernel_rfl) (by simp) ?_
          refine AllReadyH.cons rfl (fun K hK => ?_) AllReadyH.nil
          go_simp
          go_at_call 44
          refine (HRv.out W1.drew (Below.refl _ W1).drew).mono ?_
          rintro e w5 ⟨v5, rfl, ho5, hb5⟩
          obtain ⟨A5, c5, rfl⟩ := ho5.form
          obtain ⟨b0, b1, hu5, hp5, hs5, hB5⟩ := HAfter.out w5 A5 c5 ho5 hb5
          have HB5 := Lib.hid ((Below.refl _ W1).drew.trans hb5)
          have HU5 := Lib.hid hu5
          have HP5 := Lib.hid hp5
          have HBA5 := Lib.hid hB5
          clear hu5 hp5 hB5 ho5 hb5
          go_wp2_with fail
          refine hK.out _ _ (HSx.out _ (HH1.out.below HB5.out)) (fun hHeld => ?_)
          clear hK K
          refine wpAnyH_take (i := 9) (v := .agg #[.int .i64 hn, .int .i64 ho, .slice A5 rl.length c5]) rfl (by kernel_rfl) (by kernel_rfl) (by kernel_rfl) (fun _ _ _ h => h) (Or.inl ⟨by kernel_rfl, ?_⟩) (by assumption) ?_
          · intro V hV
            obtain ⟨h0, h1, h2⟩ := hV
            go_simp
          change wpAnyH _ _ _ _ _ _ _ (Act.put _ (some 35) _) _
          simp only [Act.put, List.setIfInBounds_toArray, List.set_cons_zero, List.set_cons_succ]
          refine wpAnyH_ready (rs := [10]) (by kernel_rfl) (by simp) ?_
          refine AllReadyH.cons rfl (fun K hK => ?_) AllReadyH.nil
          go_simp
          refine hK.out _ _ (HSx.out _ (HH1.out.below HBA5.out)) (fun hHeld => ?_)
          clear hK K
          refine wpAnyH_ready (rs := [11]) (by kernel_rfl) (by simp) ?_
          refine AllReadyH.cons rfl (fun K hK => ?_) AllReadyH.nil
          refine step_app_phG (by rfl) (.tmp 27) (.tmp 36) (by rfl) (w1.heap.size + 1) ps ⟨hn, ho, rl⟩ _ v (by rfl) HP5.out HU5.out ⟨w5.heap.size, 0, none⟩ (by rfl) (World.news_of_block (cs := #[.int .i64 hn, .int .i64 ho, .slice A5 rl.length c5]) (t := tPh) (fr := (0, 0)) (heap_new w5 _)) hlj hs5 ?_
          intro g7 cap7 w7 ho7 hb7 hg7
          obtain ⟨⟨e0, e1⟩, hmk7⟩ := HNext.out _ _ _ HBA5.out ho7 hb7
          have HM7 := Lib.hid hmk7
          have HH7 := Lib.hid (HKeep.out _ _ (HH1.out.below HBA5.out) hg7)
          clear ho7 hb7 hmk7 hg7
          refine hK.out _ _ (HSx.out _ HH7.out) (fun hHeld => ?_)
          clear hK K
          simp only [Act.put, List.setIfInBounds_toArray]
          refine wpAnyH_take (i := 12) (v := .pointer (some ⟨w1.heap.size, 2, none⟩)) rfl (by kernel_rfl) (by kernel_rfl) (by kernel_rfl) (fun _ _ _ h => h) (Or.inl ⟨by kernel_rfl, ?_⟩) (by assumption) ?_
          · intro V hV
            obtain ⟨h0, h1, h2⟩ := hV
            go_simp
          change wpAnyH _ _ _ _ _ _ _ (Act.put _ (some 38) _) _
          simp only [Act.put]
          refine wpAnyH_ready (rs := [13]) (by kernel_rfl) (by simp) ?_
          refine AllReadyH.cons rfl (fun K hK => ?_) AllReadyH.nil
          go_simp
          refine hK.out _ _ (HSx.out _ (HH7.out.set_ne ne2 _ _)) (fun hHeld => ?_)
          clear hK K
          refine wpAnyH_done (by kernel_rfl) ?_ _
          go_wp2_with fail
          go_roundw
          case rel => exact ⟨j + 1, _, by omega, by go_num, by rw [HTk.out]; exact HM7⟩
          case measure => simp [intOf]; omega
        · skip
          go_simp
          go_at_call 44
          refine (HRv.out W1.drew (Below.refl _ W1).drew).mono ?_
          rintro e w5 ⟨v5, rfl, ho5, hb5⟩
          obtain ⟨A5, c5, rfl⟩ := ho5.form
          obtain ⟨b0, b1, hu5, hp5, hs5, hB5⟩ := HAfter.out w5 A5 c5 ho5 hb5
          have HB5 := Lib.hid ((Below.refl _ W1).drew.trans hb5)
          have HU5 := Lib.hid hu5
          have HP5 := Lib.hid hp5
          have HBA5 := Lib.hid hB5
          clear hu5 hp5 hB5 ho5 hb5
          go_wp2_with fail
          refine hK.out _ _ (HSx.out _ (HH1.out.below HB5.out)) (fun hHeld => ?_)
          clear hK K
          refine wpAnyH_take (i := 9) (v := .agg #[.int .i64 hn, .int .i64 ho, .slice A5 rl.length c5]) rfl (by kernel_rfl) (by kernel_rfl) (by kernel_rfl) (fun _ _ _ h => h) (Or.inl ⟨by kernel_rfl, ?_⟩) (by assumption) ?_
          · intro V hV
            obtain ⟨h0, h1, h2⟩ := hV
            go_simp
          change wpAnyH _ _ _ _ _ _ _ (Act.put _ (some 35) _) _
          simp only [Act.put, List.setIfInBounds_toArray, List.set_cons_zero, List.set_cons_succ]
          refine wpAnyH_ready (rs := [1, 10]) (by kernel_rfl) (by simp) ?_
          refine AllReadyH.cons rfl (fun K hK => ?_) (AllReadyH.cons rfl (fun K hK => ?_) AllReadyH.nil)
          · skip
            go_simp
            refine hK.out _ _ (HSx.out _ (HH1.out.below HB5.out)) (fun hHeld => ?_)
            clear hK K
            refine wpAnyH_ready (rs := [10]) (by kernel_rfl) (by simp) ?_
            refine AllReadyH.cons rfl (fun K hK => ?_) AllReadyH.nil
            go_simp
            refine hK.out _ _ (HSx.out _ (HH1.out.below HBA5.out)) (fun hHeld => ?_)
            clear hK K
            refine wpAnyH_ready (rs := [11]) (by kernel_rfl) (by simp) ?_
            refine AllReadyH.cons rfl (fun K hK => ?_) AllReadyH.nil
            refine step_app_phG (by rfl) (.tmp 27) (.tmp 36) (by rfl) (w1.heap.size + 1) ps ⟨hn, ho, rl⟩ _ v (by rfl) HP5.out HU5.out ⟨w5.heap.size, 0, none⟩ (by rfl) (World.news_of_block (cs := #[.int .i64 hn, .int .i64 ho, .slice A5 rl.length c5]) (t := tPh) (fr := (0, 0)) (heap_new w5 _)) hlj hs5 ?_
            intro g7 cap7 w7 ho7 hb7 hg7
            obtain ⟨⟨e0, e1⟩, hmk7⟩ := HNext.out _ _ _ HBA5.out ho7 hb7
            have HM7 := Lib.hid hmk7
            have HH7 := Lib.hid (HKeep.out _ _ (HH1.out.below HBA5.out) hg7)
            clear ho7 hb7 hmk7 hg7
            refine hK.out _ _ (HSx.out _ HH7.out) (fun hHeld => ?_)
            clear hK K
            simp only [Act.put, List.setIfInBounds_toArray]
            refine wpAnyH_take (i := 12) (v := .pointer (some ⟨w1.heap.size, 2, none⟩)) rfl (by kernel_rfl) (by kernel_rfl) (by kernel_rfl) (fun _ _ _ h => h) (Or.inl ⟨by kernel_rfl, ?_⟩) (by assumption) ?_
            · intro V hV
              obtain ⟨h0, h1, h2⟩ := hV
              go_simp
            change wpAnyH _ _ _ _ _ _ _ (Act.put _ (some 38) _) _
            simp only [Act.put]
            refine wpAnyH_ready (rs := [13]) (by kernel_rfl) (by simp) ?_
            refine AllReadyH.cons rfl (fun K hK => ?_) AllReadyH.nil
            go_simp
            refine hK.out _ _ (HSx.out _ (HH7.out.set_ne ne2 _ _)) (fun hHeld => ?_)
            clear hK K
            refine wpAnyH_done (by kernel_rfl) ?_ _
            go_wp2_with fail
            go_roundw
            case rel => exact ⟨j + 1, _, by omega, by go_num, by rw [HTk.out]; exact HM7⟩
            case measure => simp [intOf]; omega
          · skip
            go_simp
            refine hK.out _ _ (HSx.out _ (HH1.out.below HBA5.out)) (fun hHeld => ?_)
            clear hK K
            refine wpAnyH_ready (rs := [1]) (by kernel_rfl) (by simp) ?_
            refine AllReadyH.cons rfl (fun K hK => ?_) AllReadyH.nil
            go_simp
            refine hK.out _ _ (HSx.out _ (HH1.out.below HBA5.out)) (fun hHeld => ?_)
            clear hK K
            refine wpAnyH_ready (rs := [11]) (by kernel_rfl) (by simp) ?_
            refine AllReadyH.cons rfl (fun K hK => ?_) AllReadyH.nil
            refine step_app_phG (by rfl) (.tmp 27) (.tmp 36) (by rfl) (w1.heap.size + 1) ps ⟨hn, ho, rl⟩ _ v (by rfl) HP5.out HU5.out ⟨w5.heap.size, 0, none⟩ (by rfl) (World.news_of_block (cs := #[.int .i64 hn, .int .i64 ho, .slice A5 rl.length c5]) (t := tPh) (fr := (0, 0)) (heap_new w5 _)) hlj hs5 ?_
            intro g7 cap7 w7 ho7 hb7 hg7
            obtain ⟨⟨e0, e1⟩, hmk7⟩ := HNext.out _ _ _ HBA5.out ho7 hb7
            have HM7 := Lib.hid hmk7
            have HH7 := Lib.hid (HKeep.out _ _ (HH1.out.below HBA5.out) hg7)
            clear ho7 hb7 hmk7 hg7
            refine hK.out _ _ (HSx.out _ HH7.out) (fun hHeld => ?_)
            clear hK K
            simp only [Act.put, List.setIfInBounds_toArray]
            refine wpAnyH_take (i := 12) (v := .pointer (some ⟨w1.heap.size, 2, none⟩)) rfl (by kernel_rfl) (by kernel_rfl) (by kernel_rfl) (fun _ _ _ h => h) (Or.inl ⟨by kernel_rfl, ?_⟩) (by assumption) ?_
            · intro V hV
              obtain ⟨h0, h1, h2⟩ := hV
              go_simp
            change wpAnyH _ _ _ _ _ _ _ (Act.put _ (some 38) _) _
            simp only [Act.put]
            refine wpAnyH_ready (rs := [13]) (by kernel_rfl) (by simp) ?_
            refine AllReadyH.cons rfl (fun K hK => ?_) AllReadyH.nil
            go_simp
            refine hK.out _ _ (HSx.out _ (HH7.out.set_ne ne2 _ _)) (fun hHeld => ?_)
            clear hK K
            refine wpAnyH_done (by kernel_rfl) ?_ _
            go_wp2_with fail
            go_roundw
            case rel => exact ⟨j + 1, _, by omega, by go_num, by rw [HTk.out]; exact HM7⟩
            case measure => simp [intOf]; omega
      · obtain rfl : j = N := by omega
        have hgs : hs.take j = hs := by rw [← HN.out, List.take_length]
        rw [hgs] at HI
        have hww := HZ1.out.lt
        obtain ⟨z0, z1, z2, fz, hlt2⟩ := blk3 (HZ1.out.below HI.out.bel)
        have HFin : Hid (OwnP w.heap.size (((wr.setCell ⟨w.heap.size + 1, 0, none⟩ (.string nn)).setCell ⟨w.heap.size + 1, 1, none⟩ (.string on)).setCell ⟨w.heap.size + 1, 2, none⟩ v) v (hs.map revH) ∧ Below w.heap.size w (((wr.setCell ⟨w.heap.size + 1, 0, none⟩ (.string nn)).setCell ⟨w.heap.size + 1, 1, none⟩ (.string on)).setCell ⟨w.heap.size + 1, 2, none⟩ v)) := Lib.hid (by
          have hb : Below w.heap.size w wr := HBw.out
          refine ⟨(((HI.out.own.box (o := 0) (u := .string nn) (show w.heap.size + 1 < w1.heap.size + 1 by omega)).box (o := 1) (u := .string on) (show w.heap.size + 1 < w1.heap.size + 1 by omega)).box (o := 2) (u := v) (show w.heap.size + 1 < w1.heap.size + 1 by omega)).base (by omega), ?_⟩
          exact ((hb.setCell (p := ⟨w.heap.size + 1, 0, none⟩) (Nat.le_succ _) _).setCell (p := ⟨w.heap.size + 1, 1, none⟩) (Nat.le_succ _) _).setCell (p := ⟨w.heap.size + 1, 2, none⟩) (Nat.le_succ _) _)
        obtain ⟨Av, cv, hv⟩ := HI.out.own.form
        rw [List.length_map] at hv
        subst hv
        have hd : decide ((j : Int) < (j : Int)) = false := decide_eq_false (by omega)
        go_wp2_with fail
        exact bodyPost_ret (v := .tuple #[.agg #[.string nn, .string on, .slice Av hs.length cv], .int .i64 0]) (by simp [results, Tryz.f19, go_sem, z0, z1, z2]) rfl (HE.out _ _ HFin.out.1 HFin.out.2)
  · have HD : Hid (∀ w', Below w.heap.size w w' → PtPost (reverseF p).1 (reverseF p).2 w (.returned (.tuple #[.agg #[.string ⟨#[]⟩, .string ⟨#[]⟩, .slice none 0 0], .int .i64 (chkC p)])) w') := Lib.hid (fun w' hb => by
      have e : reverseF p = (⟨⟨#[]⟩, ⟨#[]⟩, []⟩, chkC p) := by unfold reverseF; rw [if_pos hc]
      rw [e]
      exact ⟨_, rfl, OwnP.nil _ _, hb⟩)
    have HC1 := Lib.hid (HCk.out W HB0.out)
    have d1 : (chkC p != 0) = true := by rw [bne_iff_ne]; exact hc
    clear hc HCk hsm hfew hl
    generalize chkC p = z at *
    generalize reverseF p = rp at *
    go_enter Tryz.func19, Tryz.ntmps19
    go_upto_region 1 with fail
    rw [← hW]
    clear hW
    go_wp2_with fail
    refine HC1.out.mono ?_
    rintro e w1 ⟨rfl, hb⟩
    have HB1 := Lib.hid (HB0.out.trans (hb.mono HB0.out.size))
    obtain ⟨z0, z1, z2, fz, hlt⟩ := blk3 (HZ0.out.below hb)
    have HB4 := Lib.hid (((HB1.out.setCell (p := ⟨w.heap.size + 1, 0, none⟩) (Nat.le_succ _) (.string ⟨#[]⟩)).setCell (p := ⟨w.heap.size + 1, 1, none⟩) (Nat.le_succ _) (.string ⟨#[]⟩)).setCell (p := ⟨w.heap.size + 1, 2, none⟩) (Nat.le_succ _) (.slice none 0 0))
    clear hb HC1 HB0 HZ0 HK0
    go_wp2_with fail
    exact bodyPost_ret (v := .tuple #[.agg #[.string ⟨#[]⟩, .string ⟨#[]⟩, .slice none 0 0], .int .i64 z]) (by simp [results, Tryz.f19, go_sem, z0, z1, z2]) rfl (HD.out _ HB4.out)
end Pa
end
end Go.Proofs.YtjecfmbecgpbmaaGreatDoor

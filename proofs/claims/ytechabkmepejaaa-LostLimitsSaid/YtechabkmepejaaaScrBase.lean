/-
  Slices of changes and of spans: how they read, slices that the call owns, append of one element. No conditions.
-/
import Derived.Test.YtechabkmepejaaaScrMath
import Derived.Test.YtechabkmepejaaaComIntsV
import Derived.Test.YtechabkmepejaaaScrAt
import Derived.WalkLawsBesides
import Derived.Deep.RegionHeld3
import Derived.Deep.RegionLaw
import Derived.Deep.Cut
import Derived.Deep.CutRange
import Derived.Deep.QuietTactic
import Derived.BigQuiet
import Derived.BigRegion
import Derived.Deep.Onto
import Derived.IntWalk
namespace Go.Proofs.Ytechabkmepejaaa
open Go.RowKit
namespace Sc
open Cm
abbrev tCh : TypeId := 55
abbrev tChs : TypeId := 45
abbrev tSp : TypeId := 59
abbrev tSps : TypeId := 52
def chC (c : Ch) : List Value := [.int .i64 c.old, .int .i64 c.oldLen, .int .i64 c.new, .int .i64 c.newLen]
def spC (s : Sp) : List Value := [.int .i64 s.frm, .int .i64 s.to]
def zB (z : Int) : Prop := -9223372036854775808 ≤ z ∧ z ≤ 9223372036854775807
def ChB (c : Ch) : Prop := zB c.old ∧ zB c.oldLen ∧ zB c.new ∧ zB c.newLen
def SpB (s : Sp) : Prop := zB s.frm ∧ zB s.to
abbrev zeroCh : Value := .agg #[.int .i64 0, .int .i64 0, .int .i64 0, .int .i64 0]
abbrev zeroSp : Value := .agg #[.int .i64 0, .int .i64 0]
theorem info_ch : (Try.prog.info? tCh).map (fun i => (i.zero, i.size, i.bytes)) = some (some zeroCh, 4, 32) := by kernel_rfl
theorem info_sp : (Try.prog.info? tSp).map (fun i => (i.zero, i.size, i.bytes)) = some (some zeroSp, 2, 16) := by kernel_rfl
section
variable {α : Type} {k : Nat} {enc : α → List Value}
/-- A slice of elements of k cells that reads as a list. -/
def RdK (k : Nat) (enc : α → List Value) (w : World) (v : Value) (xs : List α) : Prop :=
  ∃ A c, v = .slice A xs.length c ∧ (xs.length ≤ c ∧ (A = none → c = 0)) ∧ (0 < xs.length → ∃ b off, A = some ⟨b, off, none⟩ ∧ ∀ j (h : j < xs.length) i (hi : i < (enc xs[j]).length), w.cell? ⟨b, off + j * k + i, none⟩ = some (enc xs[j])[i])
def flatK (enc : α → List Value) (xs : List α) : List Value := xs.flatMap enc
theorem flatK_len (he : ∀ x, (enc x).length = k) (xs : List α) : (flatK enc xs).length = k * xs.length := by
  induction xs with
  | nil => rfl
  | cons s r ih =>
    show (enc s ++ flatK enc r).length = _
    rw [List.length_append, ih, List.length_cons, he, Nat.mul_succ]
    omega
theorem flatK_snoc (xs : List α) (s : α) : flatK enc (xs ++ [s]) = flatK enc xs ++ enc s := by simp [flatK]
theorem flatK_get (he : ∀ x, (enc x).length = k) : ∀ (xs : List α) (j : Nat) (hj : j < xs.length) (i : Nat), i < k → (flatK enc xs)[j * k + i]? = (enc xs[j])[i]?
  | [], j, h, _, _ => absurd h (Nat.not_lt_zero _)
  | s :: ss, 0, _, i, hi => by
    show (enc s ++ flatK enc ss)[0 * k + i]? = _
    rw [List.getElem?_append_left (by rw [he]; omega)]
    simp
  | s :: ss, j + 1, h, i, hi => by
    show (enc s ++ flatK enc ss)[(j + 1) * k + i]? = _
    rw [List.getElem?_append_right (by rw [he, Nat.succ_mul]; omega), he, show (j + 1) * k + i - k = j * k + i by rw [Nat.succ_mul]; omega, flatK_get he ss j (by simpa using h) i hi]
    rfl
theorem RdK.below {w w' : World} {v : Value} {xs : List α} (h : RdK k enc w v xs) (hb : Below w.heap.size w w') : RdK k enc w' v xs := by
  obtain ⟨A, c, rfl, hcap, hc⟩ := h
  refine ⟨A, c, rfl, hcap, fun hp => ?_⟩
  obtain ⟨b, off, rfl, hcell⟩ := hc hp
  exact ⟨b, off, rfl, fun j hj i hi => (hb.cell (p := ⟨b, off + j * k + i, none⟩) (Tx.cell_lt (hcell j hj i hi))).trans (hcell j hj i hi)⟩
theorem RdK.below_at {n : Nat} {w w' : World} {v : Value} {xs : List α} (h : RdK k enc w v xs) (hn : w.heap.size = n) (hb : Below n w w') : RdK k enc w' v xs := by
  subst hn; exact h.below hb
theorem RdK.drewN {w : World} {v : Value} {xs : List α} (h : RdK k enc w v xs) (m : Nat) : RdK k enc (w.drewN m) v xs := by
  induction m generalizing w with
  | zero => exact h
  | succ m ih => exact ih (w := w.drew) h
theorem RdK.nil (w : World) : RdK k enc w (.slice none 0 0) [] := ⟨none, 0, rfl, ⟨Nat.le_refl _, fun _ => rfl⟩, fun hp => absurd hp (Nat.lt_irrefl 0)⟩
theorem RdK.form {w : World} {v : Value} {xs : List α} (h : RdK k enc w v xs) : ∃ A c, v = .slice A xs.length c := by
  obtain ⟨A, c, rfl, _⟩ := h; exact ⟨A, c, rfl⟩
theorem RdK.at {w : World} {A : Option Addr} {n c : Nat} {xs : List α} (h : RdK k enc w (.slice A n c) xs) (j : Nat) (hj : j < xs.length) : ∃ b off, A = some ⟨b, off, none⟩ ∧ ∀ i (hi : i < (enc xs[j]).length), w.cell? ⟨b, off + j * k + i, none⟩ = some (enc xs[j])[i] := by
  obtain ⟨A', c', e, _, hc⟩ := h
  injection e with e1 e2 _
  subst e1
  obtain ⟨b, off, e3, hcell⟩ := hc (by omega)
  exact ⟨b, off, e3, fun i hi => hcell j hj i hi⟩
theorem RdK.len {w : World} {A : Option Addr} {n c : Nat} {xs : List α} (h : RdK k enc w (.slice A n c) xs) : n = xs.length := by
  obtain ⟨A', c', e, _⟩ := h
  injection e
theorem RdK.of_own {w : World} {base : Nat} {e : TypeId} {v : Value} {xs : List α} (he : ∀ x, (enc x).length = k) (h : w.ownsRow base e k v xs.length (flatK enc xs)) : RdK k enc w v xs := by
  rcases h.2 with ⟨rfl, h0⟩ | ⟨g, cap, cur, rfl, _, _, hcap, _⟩
  · exact ⟨none, 0, by rw [h0], ⟨by omega, fun _ => rfl⟩, fun hp => by omega⟩
  · refine ⟨some ⟨g, 0, none⟩, cap, rfl, ⟨by omega, fun e => by cases e⟩, fun _ => ⟨g, 0, rfl, fun j hj i hi => ?_⟩⟩
    have hik : i < k := by rw [he] at hi; exact hi
    have hjk : j * k + i < k * xs.length := by
      have := Nat.mul_le_mul_right k (Nat.succ_le_of_lt hj)
      rw [Nat.succ_mul, Nat.mul_comm xs.length] at this
      omega
    rw [Nat.zero_add, h.cellAt (j * k + i) (by rw [Nat.mul_comm k] at hjk; exact hjk), flatK_get he xs j hj i hik, List.getElem?_eq_getElem hi]
theorem ownK_below {w w' : World} {base n : Nat} {e : TypeId} {v : Value} {xs : List Value} (h : w.ownsRow base e k v n xs) (hb : Below w.heap.size w w') : w'.ownsRow base e k v n xs :=
  h.kept (row := none) ⟨hb.os, hb.tape, hb.output, hb.size, fun k hk _ => hb.block k hk⟩ (by cases v.ownBlock <;> simp)
theorem ownK_base {w : World} {base base' n : Nat} {e : TypeId} {v : Value} {xs : List Value} (h : w.ownsRow base e k v n xs) (hb : base' ≤ base) : w.ownsRow base' e k v n xs := by
  refine ⟨h.1, ?_⟩
  rcases h.2 with hn | ⟨g, cap, cur, hv, hbg, rest⟩
  · exact .inl hn
  · exact .inr ⟨g, cap, cur, hv, Nat.le_trans hb hbg, rest⟩
theorem RdK.lit (w : World) (t : TypeId) (xs : List α) (C : Array Value) (he : ∀ x, (enc x).length = k) (hC : C.toList = flatK enc xs) : RdK k enc (w.alloc (.cells C t)) (.slice (some ⟨w.heap.size, 0, none⟩) xs.length xs.length) xs := by
  refine ⟨_, _, rfl, ⟨Nat.le_refl _, fun e => by cases e⟩, fun _ => ⟨_, 0, rfl, fun j hj i hi => ?_⟩⟩
  rw [Nat.zero_add, World.cell?_alloc_mark, ← Array.getElem?_toList, hC, flatK_get he xs j hj i (by rw [he] at hi; exact hi), List.getElem?_eq_getElem hi]
end
abbrev RdC := RdK 4 chC
abbrev RdS := RdK 2 spC
theorem chC_len (c : Ch) : (chC c).length = 4 := rfl
theorem spC_len (s : Sp) : (spC s).length = 2 := rfl
theorem RdC_at {w : World} {A : Option Addr} {n c : Nat} {l : List Ch} (h : RdC w (.slice A n c) l) (k : Nat) (hk : k < l.length) : ∃ b off, A = some ⟨b, off, none⟩ ∧
    w.cell? ⟨b, off + k * 4, none⟩ = some (.int .i64 l[k].old) ∧ w.cell? ⟨b, off + k * 4 + 1, none⟩ = some (.int .i64 l[k].oldLen) ∧ w.cell? ⟨b, off + k * 4 + 2, none⟩ = some (.int .i64 l[k].new) ∧ w.cell? ⟨b, off + k * 4 + 3, none⟩ = some (.int .i64 l[k].newLen) := by
  obtain ⟨b, off, e, hc⟩ := h.at k hk
  exact ⟨b, off, e, hc 0 (show 0 < 4 by decide), hc 1 (show 1 < 4 by decide), hc 2 (show 2 < 4 by decide), hc 3 (show 3 < 4 by decide)⟩
theorem RdS_at {w : World} {A : Option Addr} {n c : Nat} {l : List Sp} (h : RdS w (.slice A n c) l) (k : Nat) (hk : k < l.length) : ∃ b off, A = some ⟨b, off, none⟩ ∧
    w.cell? ⟨b, off + k * 2, none⟩ = some (.int .i64 l[k].frm) ∧ w.cell? ⟨b, off + k * 2 + 1, none⟩ = some (.int .i64 l[k].to) := by
  obtain ⟨b, off, e, hc⟩ := h.at k hk
  exact ⟨b, off, e, hc 0 (show 0 < 2 by decide), hc 1 (show 1 < 2 by decide)⟩
def OwnC (base : Nat) (w : World) (v : Value) (l : List Ch) : Prop := w.ownsRow base tCh 4 v l.length (flatK chC l)
def OwnS (base : Nat) (w : World) (v : Value) (l : List Sp) : Prop := w.ownsRow base tSp 2 v l.length (flatK spC l)
theorem OwnC.rd {base : Nat} {w : World} {v : Value} {l : List Ch} (h : OwnC base w v l) : RdC w v l := RdK.of_own chC_len h
theorem OwnS.rd {base : Nat} {w : World} {v : Value} {l : List Sp} (h : OwnS base w v l) : RdS w v l := RdK.of_own spC_len h
theorem OwnC.below {base : Nat} {w w' : World} {v : Value} {l : List Ch} (h : OwnC base w v l) (hb : Below w.heap.size w w') : OwnC base w' v l := ownK_below h hb
theorem OwnS.below {base : Nat} {w w' : World} {v : Value} {l : List Sp} (h : OwnS base w v l) (hb : Below w.heap.size w w') : OwnS base w' v l := ownK_below h hb
theorem OwnC.nil (base : Nat) (w : World) : OwnC base w (.slice none 0 0) [] := World.ownsRow_nil _ _ _ _
theorem OwnS.nil (base : Nat) (w : World) : OwnS base w (.slice none 0 0) [] := World.ownsRow_nil _ _ _ _
theorem OwnC.base {base base' : Nat} {w : World} {v : Value} {l : List Ch} (h : OwnC base w v l) (hb : base' ≤ base) : OwnC base' w v l := ownK_base h hb
theorem OwnS.base {base base' : Nat} {w : World} {v : Value} {l : List Sp} (h : OwnS base w v l) (hb : base' ≤ base) : OwnS base' w v l := ownK_base h hb
theorem below_grown {w w' : World} {base n k : Nat} {e : TypeId} {v : Value} {xs : List Value} (hown : w.ownsRow base e k v n xs) (hg : w.grownBy w' v.ownBlock) (hb : base ≤ w.heap.size) : Below base w w' :=
  (Below.refl _ w).grown hg hb (fun k hk => (hown.lt k hk).1)
section
variable {ops : Array Oper} {rest : List Oper} {o : Oper} {a : Act} {Q : Exit → Act → World → Prop} {w : World}
/-- append of one new element onto a row that the call owns. -/
theorem app_k {t e : TypeId} {z : Value} {k bytes : Nat} (hk : 0 < k) (hg : Region.wanted o (yielded ops a.tmps) = true) (ht : Try.prog.underlying t = some (.slice e)) (hinfo : (Try.prog.info? e).map (fun i => (i.zero, i.size, i.bytes)) = some (some z, k, bytes)) (hz : z.cells.size = k) (hby : bytes ≤ 64)
    (s x : Operand) (ho : o.op = .call { callee := .builtin .append, args := #[s, x], argTypes := #[t, t] })
    (base n : Nat) (xs us : List Value) (hus : us.length = k) (hone : ∀ u ∈ us, u.oneCell' = true) (v : Value) (C : Array Value) (hs : a.eval s = v) (hown : w.ownsRow base e k v n xs)
    (hx : a.eval x = .slice (some ⟨w.heap.size, 0, none⟩) 1 1) (hC : C.toList = us)
    (hsz : n + 1 ≤ 1000000) (hbase : base ≤ w.heap.size)
    (h : ∀ v' w', w'.ownsRow base e k v' (n + 1) (xs ++ us) → Below base w w' → (w.alloc (.cells C e)).grownBy w' v.ownBlock → wpList Try.prog ops Q rest (a.put o.dst v') w') :
    wpList Try.prog ops Q (o :: rest) a (w.alloc (.cells C e)) := by
  obtain ⟨i0, hi0, hz0, hz1, hz2⟩ := info_parts hinfo
  have hsize : (w.alloc (.cells C e)).heap.size = w.heap.size + 1 := by simp
  refine wpList_wanted hg fun K hK => ?_
  refine wp_append_own _ s x _ ho base e i0 _ k bytes ht hi0 hz0 hz1 hz2 hz hk v n xs hs (hown.alloc _) ⟨w.heap.size, 0, none⟩ 1 1 us hx
    (by rw [hus, Nat.one_mul]) (fun j y hy => ?_) hone (by unfold maxLen; omega) ?_ (by omega) ?_
  · have he : (Addr.mk w.heap.size 0 none).add j = ⟨w.heap.size, j, none⟩ := by
      unfold Addr.add; split
      · rename_i h0; rw [h0]
      · simp
    rw [he, World.cell?_alloc_mark, ← hy, ← hC]; simp
  · have := Nat.mul_le_mul_left (n + 1) hby
    omega
  · intro v' w' h1 h2 _
    exact hK _ _ (h v' w' h1 (((Below.refl base w).alloc hbase _).trans ((Below.refl base _).grown h2 (by omega) (fun k hk => (hown.lt k hk).1))) h2)
theorem one_ch (c : Ch) : ∀ u ∈ chC c, u.oneCell' = true := by
  intro u hu
  unfold chC at hu
  simp only [List.mem_cons, List.not_mem_nil, or_false] at hu
  rcases hu with rfl | rfl | rfl | rfl
  all_goals rfl
theorem one_sp (c : Sp) : ∀ u ∈ spC c, u.oneCell' = true := by
  intro u hu
  unfold spC at hu
  simp only [List.mem_cons, List.not_mem_nil, or_false] at hu
  rcases hu with rfl | rfl
  all_goals rfl
theorem app_ch (hg : Region.wanted o (yielded ops a.tmps) = true)
    (s x : Operand) (ho : o.op = .call { callee := .builtin .append, args := #[s, x], argTypes := #[tChs, tChs] })
    (base : Nat) (l : List Ch) (c : Ch) (v : Value) (C : Array Value) (hs : a.eval s = v) (hown : OwnC base w v l)
    {g : Nat} (hz : w.heap.size = g) (hx : a.eval x = .slice (some ⟨g, 0, none⟩) 1 1) (hC : C.toList = chC c)
    (hsz : l.length + 1 ≤ 1000000) (hbase : base ≤ w.heap.size)
    (h : ∀ v' w', OwnC base w' v' (l ++ [c]) → Below base w w' → (w.alloc (.cells C tCh)).grownBy w' v.ownBlock → wpList Try.prog ops Q rest (a.put o.dst v') w') :
    wpList Try.prog ops Q (o :: rest) a (w.alloc (.cells C tCh)) :=
  app_k (by decide) hg Try.underlying45 info_ch rfl (by decide) s x ho base l.length (flatK chC l) (chC c) rfl (one_ch c) v C hs hown (by rw [hz]; exact hx) hC hsz hbase
    (fun v' w' h1 h2 h3 => h v' w' (by unfold OwnC; rw [List.length_append, List.length_singleton, flatK_snoc]; exact h1) h2 h3)
theorem app_sp (hg : Region.wanted o (yielded ops a.tmps) = true)
    (s x : Operand) (ho : o.op = .call { callee := .builtin .append, args := #[s, x], argTypes := #[tSps, tSps] })
    (base : Nat) (l : List Sp) (c : Sp) (v : Value) (C : Array Value) (hs : a.eval s = v) (hown : OwnS base w v l)
    {g : Nat} (hz : w.heap.size = g) (hx : a.eval x = .slice (some ⟨g, 0, none⟩) 1 1) (hC : C.toList = spC c)
    (hsz : l.length + 1 ≤ 1000000) (hbase : base ≤ w.heap.size)
    (h : ∀ v' w', OwnS base w' v' (l ++ [c]) → Below base w w' → (w.alloc (.cells C tSp)).grownBy w' v.ownBlock → wpList Try.prog ops Q rest (a.put o.dst v') w') :
    wpList Try.prog ops Q (o :: rest) a (w.alloc (.cells C tSp)) :=
  app_k (by decide) hg Try.underlying52 info_sp rfl (by decide) s x ho base l.length (flatK spC l) (spC c) rfl (one_sp c) v C hs hown (by rw [hz]; exact hx) hC hsz hbase
    (fun v' w' h1 h2 h3 => h v' w' (by unfold OwnS; rw [List.length_append, List.length_singleton, flatK_snoc]; exact h1) h2 h3)
end
end Sc
end Go.Proofs.Ytechabkmepejaaa

/-
  The program's (*builder).cat: the kids one after another, from the last. Conditions: each kid keeps its contract; at most a million states. The program's (*builder).alt: the last kid, then for each other one, from the last, its states and a split one. Conditions: at least one kid; each kid keeps its contract; at most a million states. The program's (*builder).loop: a split state, the kid behind it, then the split state's next one. Conditions: the kid keeps its contract, and lays nothing away; at most a million states. The program's (*builder).node at every node of a list: it lays what the plain functions say. Conditions: valid nodes, at most 4000; at most a million kids each; a weight of at most 4000.
-/
import Derived.Test.YtgadomcbaenodaaAutoN
import Derived.Test.YtgadomcbaenodaaAutoRg
import Derived.RangeFuncNested
import Derived.Shelf.RegionOpen
import Derived.RangeFuncLeaves
import Derived.TacticsIn
import Derived.RegionIn
import Derived.Laws.OwnMore
import Derived.Test.YtgadomcbaenodaaThoM
namespace Go.Proofs.Ytgadomcbaenodaa
section
open Go.RowKit Go.Shelf
attribute [local go_sem] Oper.semAt_some
namespace Au
open Cm Rx
theorem Chg.own {β : Type} {base rb : Nat} {w : World} (hb : base ≤ w.heap.size) {B : Nat} (hB : w.heap.size ≤ B) : OwnFrom B (fun (_ : β) W => Chg base rb w W) := fun _ W W' row h hg hr => by
  have hne : ∀ k, k < w.heap.size → some k ≠ row := fun k hk e => by have := (hr k e.symm).1; omega
  have hs : ∀ k, k < w.heap.size → W'.heap[k]? = W.heap[k]? := fun k hk => hg.block k (by have := h.size; omega) (hne k hk)
  exact ⟨hg.os.trans h.os, hg.tape.trans h.tape, hg.output.trans h.output, Nat.le_trans h.size hg.size, fun k hk hr => (hs k (by omega)).trans (h.block k hk hr), ⟨Nat.le_trans h.size hg.size, fun k o hk ho => (hs k (lt_some hk)).trans (h.oth.same k o hk ho)⟩, fun k cur e h1 h2 h3 => (hs k (lt_some h3)).trans (h.kept k cur e h1 h2 h3)⟩
/-- A store into a block that came later. -/
theorem Chg.far {base rb k : Nat} {a w : World} (h : Chg base rb a w) (hb : base ≤ a.heap.size) (hk : a.heap.size ≤ k) (u : Value) : Chg base rb a (w.setCell ⟨k, 0, none⟩ u) := by
  have hs : ∀ j, j < a.heap.size → (w.setCell ⟨k, 0, none⟩ u).heap[j]? = w.heap[j]? := fun j hj => Below.heap_setCell _ _ _ _ (by show j ≠ k; omega)
  exact ⟨h.os, h.tape, h.output, by have := h.size; simp [World.setCell]; omega, fun j hj hr => (hs j (by omega)).trans (h.block j hj hr), h.oth.trans (KeepsOthers.setCell _ _ _), fun j cur e h1 h2 h3 => (hs j (lt_some h3)).trans (h.kept j cur e h1 h2 h3)⟩
theorem Chg.alloc {base rb : Nat} {a w : World} (h : Chg base rb a w) (hb : base ≤ w.heap.size) (o : Obj) : Chg base rb a (w.alloc o) :=
  h.trans (Chg.of ((Below.refl _ _).alloc hb _) (KeepsOthers.alloc _ _) (KeptX.alloc _ _))
/-- A block of another type stays through what a method leaves. -/
theorem Chg.box {base rb b : Nat} {t : TypeId} {v : Value} {a w : World} (h : Chg base rb a w) (hx : Boxed a b t v) (h1 : t ≠ tBd) (h2 : t ≠ tSt) : Boxed w b t v := (h.kept b _ t h1 h2 hx).trans hx
theorem Bld.own {β : Type} {base rb : Nat} {vn vp vb : Value} {ss : β → List St} {B : Nat} : OwnFrom B (fun (x : β) W => Bld W base rb vn vp vb (ss x)) := fun _ W W' row ⟨v, h0, h1, h2⟩ hg hr => by
  refine ⟨v, Nat.le_trans h0 hg.size, ?_, h2.kept hg ?_⟩
  · refine (hg.block rb (lt_some h1) fun e => ?_).trans h1
    obtain ⟨_, o, ho, hc⟩ := hr rb e.symm
    rw [h1] at ho; cases ho; cases hc
  · rcases h2.2 with ⟨rfl, _⟩ | ⟨g, cap, cur, rfl, _, hh, _⟩
    · exact .inl rfl
    · refine .inr fun e => ?_
      have e2 : some g = row := by simpa [Value.ownBlock] using e
      obtain ⟨_, o, ho, hc⟩ := hr g e2.symm
      rw [hh] at ho; cases ho; cases hc
theorem Boxed.own {β : Type} {b : Nat} {t : TypeId} {v : β → Value} {B : Nat} : OwnFrom B (fun (x : β) W => Boxed W b t (v x)) := fun _ W W' row h hg hr => h.kept hg fun e => by
  obtain ⟨_, o, ho, hc⟩ := hr b e.symm
  rw [show W.heap[b]? = _ from h] at ho; cases ho; cases hc
/-- A store into a box leaves the builder. -/
theorem Bld.far {w : World} {base rb b : Nat} {t : TypeId} {vn vp vb x u : Value} {ss : List St} (h : Bld w base rb vn vp vb ss) (hx : Boxed w b t x) (h1 : t ≠ tBd) (h2 : t ≠ tSt) : Bld (w.setCell ⟨b, 0, none⟩ u) base rb vn vp vb ss := by
  obtain ⟨v, h0, h3, h4⟩ := h
  refine ⟨v, by simp [World.setCell]; omega, ?_, ownsRow_setCell_other (a := ⟨b, 0, none⟩) h4 ?_ u⟩
  · refine (Below.heap_setCell _ _ _ _ ?_).trans h3
    show rb ≠ b
    rintro rfl
    rw [show w.heap[rb]? = _ from hx] at h3
    injection h3 with h3
    injection h3 with _ ht
    exact h1 ht
  · rcases h4.2 with ⟨rfl, _⟩ | ⟨g, cap, cur, rfl, _, hh, _⟩
    · simp [Value.ownBlock]
    · intro e
      have : g = b := by simpa [Value.ownBlock] using e
      subst this
      rw [show w.heap[g]? = _ from hx] at hh
      injection hh with hh
      injection hh with _ ht
      exact h2 ht
abbrev tPb : TypeId := 68
/-- What kids append, from the last. -/
def kidsX (t : List Bf) (x : Xs) (pre : List Int) : Xs := pre.foldl (fun x k => getT t k x.1 x.2) x
theorem kidsX_snoc (t : List Bf) (x : Xs) (pre : List Int) (k : Int) : kidsX t x (pre ++ [k]) = getT t k (kidsX t x pre).1 (kidsX t x pre).2 := by unfold kidsX; rw [List.foldl_append]; rfl
theorem kidsX_rev (t : List Bf) (x : Xs) (kids : List Int) : kidsX t x kids.reverse = catF t kids x := by unfold kidsX catF; rw [List.foldl_reverse]
theorem kidsX_len {t : List Bf} {W : Int → Nat} (x : Xs) : ∀ pre : List Int, (∀ k ∈ pre, Grows (getT t k) (W k)) → (kidsX t x pre).2.length ≤ x.2.length + (pre.map W).sum := by
  intro pre
  induction pre generalizing x with
  | nil => intro _; exact Nat.le_refl _
  | cons k r ih =>
    intro h
    have h1 := h k List.mem_cons_self x.1 x.2
    have h2 := ih (getT t k x.1 x.2) fun k' hk => h k' (List.mem_cons_of_mem _ hk)
    show (kidsX t (getT t k x.1 x.2) r).2.length ≤ _
    rw [List.map_cons, List.sum_cons]
    omega
theorem sum_pre {W : Int → Nat} {pre kids : List Int} {x : Int} (h : pre ++ [x] <+: kids.reverse) : (pre.map W).sum + W x ≤ (kids.map W).sum := by
  obtain ⟨r, hr⟩ := h
  have e : (kids.reverse.map W).sum = (kids.map W).sum := by rw [List.map_reverse, List.sum_reverse]
  rw [← e, ← hr, List.map_append, List.map_append, List.sum_append, List.sum_append]
  simp only [List.map_cons, List.map_nil, List.sum_cons, List.sum_nil]
  omega
set_option maxRecDepth 100000 in
set_option maxHeartbeats 2000000 in
theorem cat_any {w0 : World} {B G P c n : Nat} {A : Option Addr} {t : List Bf} {W' : Int → Nat} (kids : List Int) (hlen : kids.length ≤ 1000000) (hkn : ∀ k ∈ kids, NodeC w0 B G P A c n k (getT t k) (W' k)) (hG : ∀ k ∈ kids, Grows (getT t k) (W' k))
    (hE : ∀ w v us, Chg w0.heap.size B w0 w → RdV w0 v (intsV us) → RdV w v (intsV us)) : KidsC 38 w0 B G P A c n kids (fun next ss => catF t kids (next, ss)) (kids.map W').sum := by
  intro w next ss v hrd hw hb hs
  obtain ⟨Ak, ck, hv⟩ := hrd.form
  rw [intsV_len] at hv
  subst hv
  have hsz : w0.heap.size ≤ w.heap.size := hw.size
  refine callsIn_wide.1 (callsIn_of_wp_marks (n := 4) Try.func38 rfl trivial ?_ rfl)
  simp only [Try.ntmps38, List.size_toArray, List.length_cons, List.length_nil, Nat.reduceAdd, Nat.reduceSub, Array.replicate_succ, Array.replicate_zero, List.push_toArray, List.append_toArray, List.nil_append, List.cons_append]
  gi_wp2_with (refine ⟨trivial, ?_⟩; gi_at_call 54; refine (backward_in (4 - 1) _ _ _ _).mono ?_; rintro e w' ⟨rfl, rfl⟩)
  obtain ⟨w1, e1⟩ : ∃ w1, w.alloc (.cells #[.pointer (some ⟨B, 0, none⟩)] tPb) = w1 := ⟨_, rfl⟩
  have x0 : Boxed w1 w.heap.size tPb (.pointer (some ⟨B, 0, none⟩)) := by rw [← e1]; exact Boxed.new _ _ _
  have c1 : Chg w0.heap.size B w w1 := by rw [← e1]; exact (Chg.refl _ _ _).alloc hsz _
  have b1 : BldE w1 w0.heap.size B G P A c n ss := by rw [← e1]; exact hb.of_below ((Below.refl _ _).alloc (Nat.le_refl _) _)
  have z1 : w1.heap.size = w.heap.size + 1 := by rw [← e1]; simp
  rw [e1]
  obtain ⟨w2, e2⟩ : ∃ w2, w1.alloc (.cells #[.int .i64 next] tInt) = w2 := ⟨_, rfl⟩
  have x1 : Boxed w2 w.heap.size tPb (.pointer (some ⟨B, 0, none⟩)) := by rw [← e2]; exact x0.alloc _
  have y1 : Boxed w2 (w.heap.size + 1) tInt (.int .i64 next) := by rw [← e2, ← z1]; exact Boxed.new _ _ _
  have c2 : Chg w0.heap.size B w w2 := by rw [← e2]; exact c1.alloc (by omega) _
  have b2 : BldE w2 w0.heap.size B G P A c n ss := by rw [← e2]; exact b1.of_below ((Below.refl _ _).alloc (Nat.le_refl _) _)
  have z2 : w2.heap.size = w.heap.size + 1 + 1 := by rw [← e2]; simp [z1]
  rw [e2]
  obtain ⟨w3, e3⟩ : ∃ w3, w2.alloc (.cells #[.slice Ak kids.length ck] 22) = w3 := ⟨_, rfl⟩
  have x2 : Boxed w3 w.heap.size tPb (.pointer (some ⟨B, 0, none⟩)) := by rw [← e3]; exact x1.alloc _
  have y2 : Boxed w3 (w.heap.size + 1) tInt (.int .i64 next) := by rw [← e3]; exact y1.alloc _
  have s2 : Boxed w3 (w.heap.size + 1 + 1) 22 (.slice Ak kids.length ck) := by rw [← e3, ← z2]; exact Boxed.new _ _ _
  have c3 : Chg w0.heap.size B w w3 := by rw [← e3]; exact c2.alloc (by omega) _
  have b3 : BldE w3 w0.heap.size B G P A c n ss := by rw [← e3]; exact b2.of_below ((Below.refl _ _).alloc (Nat.le_refl _) _)
  have z3 : w3.heap.size = w.heap.size + 3 := by rw [← e3]; simp [z2]
  rw [e3]
  clear e1 e2 e3 x0 c1 b1 z1 x1 y1 c2 b2 z2
  refine range_back 4 (by omega) (w.heap.size + 1 + 1) kids Ak ck hlen rfl rfl
    (fun pre W => Chg w0.heap.size B w W ∧ Boxed W w.heap.size tPb (.pointer (some ⟨B, 0, none⟩)) ∧ Boxed W (w.heap.size + 1) tInt (.int .i64 (kidsX t (next, ss) pre).1) ∧ Boxed W (w.heap.size + 1 + 1) 22 (.slice Ak kids.length ck) ∧ BldE W w0.heap.size B G P A c n (kidsX t (next, ss) pre).2)
    (fun pre W h => ⟨h.2.2.2.1.cell, hE _ _ _ (hw.trans h.1) hrd⟩)
    (OwnFrom.and (Chg.own hsz (by omega)) (OwnFrom.and Boxed.own (OwnFrom.and (Boxed.own (v := fun pre => .int .i64 (kidsX t (next, ss) pre).1)) (OwnFrom.and Boxed.own (Bld.own (ss := fun pre => (kidsX t (next, ss) pre).2))))))
    ⟨c3, x2, y2, s2, b3⟩
    (fun i x => { tmps := #[.pointer (some ⟨B, 0, none⟩), .slice Ak kids.length ck, .int .i64 next, .pointer (some ⟨w.heap.size, 0, none⟩), undef, .pointer (some ⟨w.heap.size + 1, 0, none⟩), .int .i64 0, undef, .int .i64 x, .slice Ak kids.length ck, .func (.func 64) #[] #[.pointer (some ⟨w.heap.size + 1 + 1, 0, none⟩)], .int .i64 i, .int .i64 x, undef, undef, undef, undef, undef], defers := [] }) ?assign ?body ?done
  case assign =>
    intro l i x W K hK
    gi_wp2
    exact hK
  case body =>
    rintro l pre i x W ⟨hc, hx, hy, hz, hB⟩ hpre
    have hmem : ∀ k ∈ pre ++ [x], k ∈ kids := fun k hk => List.mem_reverse.1 (hpre.subset hk)
    have hxk := hmem x (by simp)
    have hlen2 := kidsX_len (t := t) (W := W') (next, ss) pre fun k hk => hG k (hmem k (by simp [hk]))
    have hsum : (pre.map W').sum + W' x ≤ (kids.map W').sum := sum_pre hpre
    have hN := hkn x hxk W (kidsX t (next, ss) pre).1 (kidsX t (next, ss) pre).2 (hw.trans hc) hB (by have e : ((next, ss) : Xs).2 = ss := rfl; rw [e] at hlen2; omega)
    have hxc := hx.cell
    have hyc := hy.cell
    have h1 : 1 ≤ 4 - 1 - 1 := by decide
    gi_wp2_with (refine ⟨trivial, ?_⟩; gi_at_call 26; refine (CallsIn.inRound l (callsIn_wide.2 hN)).mono ?_; rintro e W2 ⟨rfl, hB2, hC2⟩; have hy2 := (hC2.box hy (by decide) (by decide)); have hyc2 := hy2.cell; have hyf2 := hy2.frozen)
    refine ⟨(hC2.oth.trans (KeepsOthers.setCell _ _ _)).from _, (hc.trans hC2).far hsz (by omega) _, (hC2.box hx (by decide) (by decide)).other (by omega) _, ?_, (hC2.box hz (by decide) (by decide)).other (by omega) _, ?_⟩
    · rw [kidsX_snoc]; exact hy2.set _
    · rw [kidsX_snoc]; exact hB2.far hy2 (by decide) (by decide)
  case done =>
    rintro D W hD ⟨hc, hx, hy, hz, hB⟩ hK
    rw [kidsX_rev] at hy hB
    have hyc := hy.cell
    gi_wp2
    refine ⟨by simp, .inl ⟨_, _, rfl, run_takeDeferred hK, ?_⟩⟩
    refine ⟨_, results_tmp rfl _ _ _, rfl, ?_, ?_⟩
    · exact OwnFrom.putObj (Bld.own (B := w3.heap.size) (ss := fun _ : Unit => (catF t kids (next, ss)).2)) (s := ()) _ hB hD hK rfl
    · exact OwnFrom.putObj (Chg.own (β := Unit) (B := w3.heap.size) hsz (by omega)) (s := ()) _ hc hD hK rfl
end Au
end
section
open Go.RowKit Go.Shelf
attribute [local go_sem] Oper.semAt_some
namespace Au
open Cm Rx
theorem sum_mem {W : Int → Nat} {k : Int} {kids : List Int} (h : k ∈ kids) : W k ≤ (kids.map W).sum := by
  induction kids with
  | nil => cases h
  | cons a r ih =>
    rw [List.map_cons, List.sum_cons]
    rcases List.mem_cons.1 h with rfl | h
    · omega
    · have := ih h; omega
/-- What the kids but the last append, from the last of them. -/
def altX (t : List Bf) (next : Int) (x : Xs) (pre : List Int) : Xs := pre.foldl (fun x k => altS t next k x) x
theorem altX_snoc (t : List Bf) (next : Int) (x : Xs) (pre : List Int) (k : Int) : altX t next x (pre ++ [k]) = addF ⟨1, noSet, (getT t k next (altX t next x pre).2).1, (altX t next x pre).1⟩ (getT t k next (altX t next x pre).2).2 := by unfold altX; rw [List.foldl_append]; rfl
theorem altX_rev (t : List Bf) (next : Int) (ss : List St) (l : List Int) (z : Int) : altX t next (getT t z next ss) l.reverse = altF t (l ++ [z]) next ss := by
  unfold altX altF
  rw [List.foldl_reverse, List.dropLast_concat, List.getLastD_concat]
theorem altX_len {t : List Bf} {W : Int → Nat} (next : Int) (x : Xs) : ∀ pre : List Int, (∀ k ∈ pre, Grows (getT t k) (W k)) → (altX t next x pre).2.length ≤ x.2.length + (pre.map W).sum + pre.length := by
  intro pre
  induction pre generalizing x with
  | nil => intro _; exact Nat.le_refl _
  | cons k r ih =>
    intro h
    have h1 := h k List.mem_cons_self next x.2
    have h2 := ih (altS t next k x) fun k' hk => h k' (List.mem_cons_of_mem _ hk)
    have h3 : (altS t next k x).2.length = (getT t k next x.2).2.length + 1 := by show ((getT t k next x.2).2 ++ [_] : List St).length = _; rw [List.length_append]; rfl
    show (altX t next (altS t next k x) r).2.length ≤ _
    rw [List.map_cons, List.sum_cons, List.length_cons]
    omega
theorem rd_init {w : World} {b off c : Nat} {l : List Int} {z : Int} (h : RdV w (.slice (some ⟨b, off, none⟩) (l.length + 1) c) (intsV (l ++ [z]))) : RdV w (.slice (some ⟨b, off, none⟩) l.length c) (intsV l) := by
  obtain ⟨A', c', e, hc', hA⟩ := h
  rw [intsV_len, List.length_append, List.length_singleton] at e
  cases e
  refine ⟨_, _, by rw [intsV_len], ⟨by have := hc'.1; rw [intsV_len] at this ⊢; rw [List.length_append, List.length_singleton] at this; omega, hc'.2⟩, fun hp => ?_⟩
  obtain ⟨b', off', e, hcell⟩ := hA (by rw [intsV_len, List.length_append]; rw [intsV_len] at hp; omega)
  cases e
  refine ⟨b, off, rfl, fun k hk => ?_⟩
  rw [intsV_len] at hk
  have := hcell k (by rw [intsV_len, List.length_append]; omega)
  rw [this]
  simp [intsV, hk]
set_option maxRecDepth 100000 in
set_option maxHeartbeats 16000000 in
theorem alt_any {w0 : World} {B G P c n : Nat} {A : Option Addr} {t : List Bf} {W' : Int → Nat} (kids : List Int) (hpos : 1 ≤ kids.length) (hlen : kids.length ≤ 1000000) (hkn : ∀ k ∈ kids, NodeC w0 B G P A c n k (getT t k) (W' k)) (hG : ∀ k ∈ kids, Grows (getT t k) (W' k))
    (hE : ∀ w v us, Chg w0.heap.size B w0 w → RdV w0 v (intsV us) → RdV w v (intsV us)) : KidsC 39 w0 B G P A c n kids (altF t kids) ((kids.map W').sum + kids.length) := by
  intro w next ss v hrd hw hb hs
  obtain ⟨Ak, ck, hv⟩ := hrd.form
  rw [intsV_len] at hv
  subst hv
  have hsz : w0.heap.size ≤ w.heap.size := hw.size
  obtain ⟨l, z, hlz⟩ : ∃ l z, kids = l ++ [z] := ⟨kids.dropLast, kids.getLast (by intro e; rw [e] at hpos; exact absurd hpos (by decide)), (List.dropLast_concat_getLast _).symm⟩
  have hll : kids.length = l.length + 1 := by rw [hlz]; simp
  rw [hll] at hrd
  have ew : wrap64 (((l.length + 1 : Nat) : Int) - 1) = (l.length : Int) := by unfold wrap64; omega
  rw [hll]
  refine callsIn_wide.1 (callsIn_of_wp_marks (n := 4) Try.func39 rfl trivial ?_ rfl)
  simp only [Try.ntmps39, List.size_toArray, List.length_cons, List.length_nil, Nat.reduceAdd, Nat.reduceSub, Array.replicate_succ, Array.replicate_zero, List.push_toArray, List.append_toArray, List.nil_append, List.cons_append]
  gi_wp2_with fail
  rename_i K hK
  have HRest : Hid (∀ (b off Kb : Nat) (V : World), Ak = some ⟨b, off, none⟩ → w.heap.size + 2 ≤ Kb → Chg w0.heap.size B w V → Boxed V w.heap.size tPb (.pointer (some ⟨B, 0, none⟩)) → Boxed V (w.heap.size + 1) tInt (.int .i64 next) → Boxed V Kb tInt (.int .i64 (getT t z next ss).1) → BldE V w0.heap.size B G P A c n (getT t z next ss).2 →
      K { tmps := #[.pointer (some ⟨B, 0, none⟩), .slice (some ⟨b, off, none⟩) (l.length + 1) ck, .int .i64 next, .pointer (some ⟨w.heap.size, 0, none⟩), undef, .pointer (some ⟨w.heap.size + 1, 0, none⟩), .int .i64 0, .int .i64 (l.length : Int), .pointer (some ⟨Kb, 0, none⟩), undef, undef, .slice (some ⟨b, off, none⟩) (l.length + 1) ck, .int .i64 ((l.length : Int) + 1), .int .i64 (l.length : Int), .pointer (some ⟨B, 0, none⟩), .slice (some ⟨b, off, none⟩) (l.length + 1) ck, .int .i64 (l.length : Int), .pointer (some ⟨b, off + l.length, none⟩), .int .i64 z, .int .i64 next, .int .i64 (getT t z next ss).1, undef, undef, undef, undef, undef, undef, undef, undef, undef, undef, undef, undef, undef, undef], defers := [] } V) := Lib.hid (by
    intro b off Kb V hAk hKb hcV hxV hyV hfV hbV
    subst hAk
    apply hK
    have hrl : RdV w0 (.slice (some ⟨b, off, none⟩) l.length ck) (intsV l) := rd_init (z := z) (by rw [← hlz]; exact hrd)
    have hck : l.length + 1 ≤ ck := by obtain ⟨A', c', e, hc', _⟩ := hrd; rw [intsV_len] at e hc'; rw [hll] at e hc'; cases e; exact hc'.1
    have i1 : (0 : Int) ≤ (l.length : Int) := Int.natCast_nonneg _
    have i2 : (l.length : Int) ≤ (ck : Int) := by omega
    have hVs : w.heap.size + 2 ≤ V.heap.size := by have := hyV.lt; have := hfV.lt; omega
    have hKV : Kb < V.heap.size := hfV.lt
    gi_wp2_with (refine ⟨trivial, ?_⟩; gi_at_call 54; refine (backward_in (4 - 1) _ _ _ _).mono ?_; rintro e w' ⟨rfl, rfl⟩)
    obtain ⟨V2, e3⟩ : ∃ V2, V.alloc (.cells #[.slice (some ⟨b, off, none⟩) l.length ck] 22) = V2 := ⟨_, rfl⟩
    have x2 : Boxed V2 w.heap.size tPb (.pointer (some ⟨B, 0, none⟩)) := by rw [← e3]; exact hxV.alloc _
    have y2 : Boxed V2 (w.heap.size + 1) tInt (.int .i64 next) := by rw [← e3]; exact hyV.alloc _
    have f2 : Boxed V2 Kb tInt (.int .i64 (getT t z next ss).1) := by rw [← e3]; exact hfV.alloc _
    have s2 : Boxed V2 V.heap.size 22 (.slice (some ⟨b, off, none⟩) l.length ck) := by rw [← e3]; exact Boxed.new _ _ _
    have c3 : Chg w0.heap.size B w V2 := by rw [← e3]; exact hcV.alloc (by omega) _
    have b3 : BldE V2 w0.heap.size B G P A c n (getT t z next ss).2 := by rw [← e3]; exact hbV.of_below ((Below.refl _ _).alloc (Nat.le_refl _) _)
    have z3 : V2.heap.size = V.heap.size + 1 := by rw [← e3]; simp
    rw [e3]
    clear e3
    have hgz := hG z (by rw [hlz]; simp) next ss
    have hszl : (l.map W').sum + W' z = (kids.map W').sum := by rw [hlz, List.map_append, List.sum_append]; simp
    refine range_back 4 (by omega) V.heap.size l (some ⟨b, off, none⟩) ck (by omega) rfl rfl
      (fun pre W => Chg w0.heap.size B w W ∧ Boxed W w.heap.size tPb (.pointer (some ⟨B, 0, none⟩)) ∧ Boxed W (w.heap.size + 1) tInt (.int .i64 next) ∧ Boxed W V.heap.size 22 (.slice (some ⟨b, off, none⟩) l.length ck) ∧ Boxed W Kb tInt (.int .i64 (altX t next (getT t z next ss) pre).1) ∧ BldE W w0.heap.size B G P A c n (altX t next (getT t z next ss) pre).2)
      (fun pre W h => ⟨h.2.2.2.1.cell, hE _ _ _ (hw.trans h.1) hrl⟩)
      (OwnFrom.and (Chg.own hsz (by omega)) (OwnFrom.and Boxed.own (OwnFrom.and Boxed.own (OwnFrom.and Boxed.own (OwnFrom.and (Boxed.own (v := fun pre => .int .i64 (altX t next (getT t z next ss) pre).1)) (Bld.own (ss := fun pre => (altX t next (getT t z next ss) pre).2)))))))
      ⟨c3, x2, y2, s2, f2, b3⟩
      (fun i x => { tmps := #[.pointer (some ⟨B, 0, none⟩), .slice (some ⟨b, off, none⟩) (l.length + 1) ck, .int .i64 next, .pointer (some ⟨w.heap.size, 0, none⟩), undef, .pointer (some ⟨w.heap.size + 1, 0, none⟩), .int .i64 0, .int .i64 (l.length : Int), .pointer (some ⟨Kb, 0, none⟩), undef, .int .i64 x, .slice (some ⟨b, off, none⟩) (l.length + 1) ck, .int .i64 ((l.length : Int) + 1), .int .i64 (l.length : Int), .pointer (some ⟨B, 0, none⟩), .slice (some ⟨b, off, none⟩) (l.length + 1) ck, .int .i64 (l.length : Int), .pointer (some ⟨b, off + l.length, none⟩), .int .i64 z, .int .i64 next, .int .i64 (getT t z next ss).1, .slice (some ⟨b, off, none⟩) (l.length + 1) ck, .int .i64 (l.length : Int), .slice (some ⟨b, off, none⟩) l.length ck, .func (.func 64) #[] #[.pointer (some ⟨V.heap.size, 0, none⟩)], .int .i64 i, .int .i64 x, undef, undef, undef, undef, undef, undef, undef, undef], defers := [] }) ?assign ?body ?done
    case assign =>
      intro l i x W K hK
      gi_wp2
      exact hK
    case body =>
      rintro lp pre i x W ⟨hc, hx, hy, hs9, hf, hB⟩ hpre
      have hmem : ∀ k ∈ pre ++ [x], k ∈ kids := fun k hk => by rw [hlz]; exact List.mem_append_left _ (List.mem_reverse.1 (hpre.subset hk))
      have hxk := hmem x (by simp)
      have hlen2 := altX_len (t := t) (W := W') next (getT t z next ss) pre fun k hk => hG k (hmem k (by simp [hk]))
      have hsum : (pre.map W').sum + W' x ≤ (l.map W').sum := sum_pre hpre
      have hpl : pre.length + 1 ≤ l.length := by have := hpre.length_le; rw [List.length_append, List.length_reverse, List.length_singleton] at this; exact this
      have hgx := hG x hxk next (altX t next (getT t z next ss) pre).2
      have hN := hkn x hxk W.drew next (altX t next (getT t z next ss) pre).2 ((hw.trans hc).trans (Chg.of (Below.refl _ W).drew (KeepsOthers.drew _) (KeptX.drewN W 1))) (hB.of_below (Below.refl _ W).drew) (by omega)
      have hxc := hx.cell
      have hyc := hy.cell
      have hfc := hf.cell
      have h1 : 1 ≤ 4 - 1 - 1 := by decide
      have hmx : Try.prog.follows .mixedOrders = true := by kernel_rfl
      have HcD := Lib.hid (hc.trans (Chg.of (Below.refl w0.heap.size W).drew (KeepsOthers.drew _) (KeptX.drewN W 1)))
      have HBd : Hid ((getT t x next (altX t next (getT t z next ss) pre).2).2.length ≤ 1000000) := Lib.hid (by omega)
      have HSn := Lib.hid (altX_snoc t next (getT t z next ss) pre x)
      have Hx := Lib.hid hx
      have Hy := Lib.hid hy
      have Hs := Lib.hid hs9
      have Hf := Lib.hid hf
      clear hx hy hs9 hf hc hB hpre hmem hsum hgx hgz hszl hlen2 hpl hpos hlz hll hkn hG hE hrd hrl hs hw hb ew x2 y2 f2 s2 c3 b3 hxV hyV hfV hbV hcV hlen hK hxk
      generalize hY : altX t next (getT t z next ss) pre = Y at HSn Hf hN hfc HBd ⊢
      gi_wp2_with fail
      gi_region_with_o (first
        | (refine ⟨trivial, ?_⟩; gi_at_call 26; refine (CallsIn.inRound lp (callsIn_wide.2 hN)).mono ?_; rintro e W4 ⟨rfl, hB4, hC4⟩; have hf4 := hC4.box (a := W.drew) Hf.out (by decide) (by decide); have hf4c := hf4.cell; have hx4c := (hC4.box (a := W.drew) Hx.out (by decide) (by decide)).cell; have hSp := split_any hB4 (getT t x next Y.2).1 Y.1 HBd.out)
        | (refine ⟨trivial, ?_⟩; gi_at_call 55; refine (CallsIn.inRound lp (callsIn_wide.2 hSp)).mono ?_; rintro e W5 ⟨rfl, hB5, hC5⟩; have hf5 := hC5.box hf4 (by decide) (by decide); have hf5c := hf5.cell; have hf5f := hf5.frozen))
      all_goals
        refine ⟨((((KeepsOthers.drew W).trans hC4.oth).trans hC5.oth).trans (KeepsOthers.setCell _ _ _)).from _, ?_⟩
        exact ⟨((HcD.out.trans hC4).trans hC5).far hsz (by omega) _, (hC5.box (hC4.box (a := W.drew) Hx.out (by decide) (by decide)) (by decide) (by decide)).other (by omega) _, (hC5.box (hC4.box (a := W.drew) Hy.out (by decide) (by decide)) (by decide) (by decide)).other (by omega) _, (hC5.box (hC4.box (a := W.drew) Hs.out (by decide) (by decide)) (by decide) (by decide)).other (by omega) _, by rw [HSn.out]; exact hf5.set _, by rw [HSn.out]; exact hB5.far hf5 (by decide) (by decide)⟩
    case done =>
      rintro D W hD ⟨hc, hx, hy, hs9, hf, hB⟩ hKd
      subst hlz
      rw [altX_rev] at hf hB
      have hfc := hf.cell
      gi_wp2
      refine ⟨by simp, .inl ⟨_, _, rfl, run_takeDeferred hKd, ?_⟩⟩
      refine ⟨_, results_tmp rfl _ _ _, rfl, ?_, ?_⟩
      · exact OwnFrom.putObj (Bld.own (B := V2.heap.size) (ss := fun _ : Unit => (altF t (l ++ [z]) next ss).2)) (s := ()) _ hB hD hKd rfl
      · exact OwnFrom.putObj (Chg.own (β := Unit) (B := V2.heap.size) hsz (by omega)) (s := ()) _ hc hD hKd rfl)
  clear hK
  obtain ⟨w1, e1⟩ : ∃ w1, w.alloc (.cells #[.pointer (some ⟨B, 0, none⟩)] tPb) = w1 := ⟨_, rfl⟩
  have x0 : Boxed w1 w.heap.size tPb (.pointer (some ⟨B, 0, none⟩)) := by rw [← e1]; exact Boxed.new _ _ _
  have c1 : Chg w0.heap.size B w w1 := by rw [← e1]; exact (Chg.refl _ _ _).alloc hsz _
  have b1 : BldE w1 w0.heap.size B G P A c n ss := by rw [← e1]; exact hb.of_below ((Below.refl _ _).alloc (Nat.le_refl _) _)
  have z1 : w1.heap.size = w.heap.size + 1 := by rw [← e1]; simp
  rw [e1]
  obtain ⟨w2, e2⟩ : ∃ w2, w1.alloc (.cells #[.int .i64 next] tInt) = w2 := ⟨_, rfl⟩
  have x1 : Boxed w2 w.heap.size tPb (.pointer (some ⟨B, 0, none⟩)) := by rw [← e2]; exact x0.alloc _
  have y1 : Boxed w2 (w.heap.size + 1) tInt (.int .i64 next) := by rw [← e2, ← z1]; exact Boxed.new _ _ _
  have c2 : Chg w0.heap.size B w w2 := by rw [← e2]; exact c1.alloc (by omega) _
  have b2 : BldE w2 w0.heap.size B G P A c n ss := by rw [← e2]; exact b1.of_below ((Below.refl _ _).alloc (Nat.le_refl _) _)
  have z2 : w2.heap.size = w.heap.size + 2 := by rw [← e2]; simp [z1]
  rw [e2]
  clear e1 e2 x0 c1 b1 z1
  obtain ⟨A', c', e, hc', hA⟩ := hE _ _ _ (hw.trans c2) hrd
  rw [intsV_len] at e
  rw [hll] at e
  cases e
  obtain ⟨b, off, rfl, hcell⟩ := hA (by rw [intsV_len]; omega)
  have d0 : w2.cell? ⟨b, off + l.length, none⟩ = some (.int .i64 z) := by
    have := hcell l.length (by rw [intsV_len]; omega)
    rw [this]
    subst hlz
    simp [intsV]
  obtain ⟨wA, eA⟩ : ∃ wA, w2.drew.alloc (.cells #[.int .i64 0] tInt) = wA := ⟨_, rfl⟩
  have hbA : Below w2.heap.size w2 wA := by rw [← eA]; exact (Below.refl w2.heap.size w2).drew.alloc (Nat.le_refl _) _
  have cA : Chg w0.heap.size B w wA := by rw [← eA]; exact (c2.trans (Chg.of (Below.refl _ w2).drew (KeepsOthers.drew _) (KeptX.drewN w2 1))).alloc (by show _ ≤ w2.heap.size; omega) _
  have a1 : wA.cell? ⟨w.heap.size, 0, none⟩ = some (.pointer (some ⟨B, 0, none⟩)) := (hbA.cell (p := ⟨w.heap.size, 0, none⟩) (by show w.heap.size < w2.heap.size; omega)).trans x1.cell
  have a2 : wA.cell? ⟨w.heap.size + 1, 0, none⟩ = some (.int .i64 next) := (hbA.cell (p := ⟨w.heap.size + 1, 0, none⟩) (by show w.heap.size + 1 < w2.heap.size; omega)).trans y1.cell
  have a3 : wA.cell? ⟨b, off + l.length, none⟩ = some (.int .i64 z) := (hbA.cell (p := ⟨b, off + l.length, none⟩) (Tx.cell_lt d0)).trans d0
  have xA : Boxed wA (w.heap.size + 2) tInt (.int .i64 0) := by rw [← eA, ← z2]; exact Boxed.new w2.drew _ _
  have bA : BldE wA w0.heap.size B G P A c n ss := b2.of_below hbA
  have x1c := x1.cell
  have y1c := y1.cell
  have hz : z ∈ kids := by rw [hlz]; simp
  have HNa := Lib.hid (hkn z hz w2.drew next ss (hw.trans (c2.trans (Chg.of (Below.refl _ w2).drew (KeepsOthers.drew _) (KeptX.drewN w2 1)))) (b2.of_below (Below.refl _ w2).drew) (by have := sum_mem (W := W') hz; omega))
  have HNb := Lib.hid (hkn z hz wA next ss (hw.trans cA) bA (by have := sum_mem (W := W') hz; omega))
  have i1 : (0 : Int) ≤ (l.length : Int) := Int.natCast_nonneg _
  have HLZ := Lib.hid hlz
  have hmx : Try.prog.follows .mixedOrders = true := by kernel_rfl
  have HcA := Lib.hid cA
  have HcB := Lib.hid (c2.trans (Chg.of (Below.refl _ w2).drew (KeepsOthers.drew _) (KeptX.drewN w2 1)))
  have x1A : Boxed wA w.heap.size tPb (.pointer (some ⟨B, 0, none⟩)) := by rw [← eA]; exact Boxed.alloc (W := w2.drew) x1 _
  have y1A : Boxed wA (w.heap.size + 1) tInt (.int .i64 next) := by rw [← eA]; exact Boxed.alloc (W := w2.drew) y1 _
  have HxA := Lib.hid (And.intro x1A y1A)
  have HxB := Lib.hid (And.intro x1 y1)
  clear hlz hll hkn hG hE hcell hc' hrd bA cA hbA hA x1A y1A x1 y1 c2 b2 hw hb hpos hlen ew hs hz
  refine wpIn_mono (Q := Exit.then K (fun _ _ _ => False)) ?_ (fun e a' V h => by cases e <;> first | exact h | exact h.elim)
  gi_region_with_o (first
    | (refine ⟨trivial, ?_⟩; gi_at_call 26; first | (refine (callsIn_wide.2 HNa.out).mono ?_; rintro e w4 ⟨rfl, hB4, hC4⟩) | ((try rw [eA]); refine (callsIn_wide.2 HNb.out).mono ?_; rintro e w4 ⟨rfl, hB4, hC4⟩; have hx4 := hC4.box xA (by decide) (by decide); have hx4c := hx4.cell; have hx4f := hx4.frozen))
    | (gi_at_call 26; first | (refine (callsIn_wide.2 HNa.out).mono ?_; rintro e w4 ⟨rfl, hB4, hC4⟩) | ((try rw [eA]); refine (callsIn_wide.2 HNb.out).mono ?_; rintro e w4 ⟨rfl, hB4, hC4⟩; have hx4 := hC4.box xA (by decide) (by decide); have hx4c := hx4.cell; have hx4f := hx4.frozen)))
  all_goals first
    | exact HRest.out _ _ _ _ rfl (Nat.le_refl _) ((HcA.out.trans hC4).far hsz (by omega) _) ((hC4.box HxA.out.1 (by decide) (by decide)).other (by omega) _) ((hC4.box HxA.out.2 (by decide) (by decide)).other (by omega) _) (hx4.set _) (hB4.far hx4 (by decide) (by decide))
    | exact HRest.out _ _ _ _ rfl (by have := hC4.size; have e : w2.drew.heap.size = w2.heap.size := rfl; omega) ((HcB.out.trans hC4).alloc (by have := hC4.size; have e : w2.drew.heap.size = w2.heap.size := rfl; omega) _) ((hC4.box (a := w2.drew) HxB.out.1 (by decide) (by decide)).alloc _) ((hC4.box (a := w2.drew) HxB.out.2 (by decide) (by decide)).alloc _) (Boxed.new _ _ _) (hB4.of_below ((Below.refl _ _).alloc (Nat.le_refl _) _))
end Au
end
section
open Go.RowKit
namespace Au
open Cm Rx
theorem flatS_set (ss : List St) (j : Nat) (x : Int) (h : j < ss.length) : flatS (Au.setN ss j x) = (flatS ss).set (j * 7 + 5) (.int .i64 x) := by
  refine List.ext_getElem? fun k => ?_
  have hl : (flatS ss).length = 7 * ss.length := flatS_len ss
  have hl2 : (flatS (Au.setN ss j x)).length = 7 * ss.length := by rw [flatS_len, setN_len]
  by_cases hk : k < 7 * ss.length
  · obtain ⟨q, i, hi, rfl⟩ : ∃ q i, i < 7 ∧ k = q * 7 + i := ⟨k / 7, k % 7, Nat.mod_lt _ (by decide), by omega⟩
    have hq : q < ss.length := by omega
    rw [flatS_get _ q (by rw [setN_len]; exact hq) i hi, List.getElem?_set]
    have hg : (Au.setN ss j x)[q]'(by rw [setN_len]; exact hq) = if j = q then { ss[q] with next := x } else ss[q] := by
      unfold Au.setN
      rw [List.getElem_modify]
    rw [hg]
    by_cases e : j = q
    · subst e
      rw [if_pos rfl]
      by_cases e5 : i = 5
      · subst e5
        rw [if_pos rfl, if_pos (by omega)]
        rfl
      · rw [if_neg (by omega), flatS_get ss j hq i hi]
        rcases i with _ | _ | _ | _ | _ | _ | _ | i
        · rfl
        · rfl
        · rfl
        · rfl
        · rfl
        · exact absurd rfl e5
        · rfl
        · omega
    · rw [if_neg e, if_neg (by omega), flatS_get ss q hq i hi]
  · rw [List.getElem?_eq_none (by omega), List.getElem?_eq_none (by rw [List.length_set]; omega)]
theorem row_form {w : World} {base : Nat} {v : Value} {ss : List St} (h : w.ownsRow base tSt 7 v ss.length (flatS ss)) (hp : 0 < ss.length) : ∃ g c cur, v = .slice (some ⟨g, 0, none⟩) ss.length c ∧ base ≤ g ∧ w.heap[g]? = some (.cells cur tSt (0, 0)) := by
  rcases h.2 with ⟨_, h0⟩ | ⟨g, cap, cur, rfl, hb, hh, _⟩
  · omega
  · exact ⟨g, cap, cur, rfl, hb, hh⟩
theorem loop_step {w : World} {base rb : Nat} {vn vp vb : Value} {ss : List St} (h : Bld w base rb vn vp vb ss) (j : Nat) (hj : j < ss.length) (x : Int) :
    ∃ g c, ∃ old : Int, w.cell? ⟨rb, 3, none⟩ = some (.slice (some ⟨g, 0, none⟩) ss.length c) ∧ w.cell? ⟨g, j * 7 + 5, none⟩ = some (.int .i64 old) ∧ w.frozen? ⟨g, j * 7 + 5, none⟩ = false ∧
      Bld (w.setCell ⟨g, j * 7 + 5, none⟩ (.int .i64 x)) base rb vn vp vb (Au.setN ss j x) ∧ Chg base rb w (w.setCell ⟨g, j * 7 + 5, none⟩ (.int .i64 x)) := by
  obtain ⟨v, h0, h1, h2⟩ := h
  obtain ⟨g, c, cur, rfl, hg, hh⟩ := row_form h2 (by omega)
  have hne : rb ≠ g := by
    rintro rfl
    rw [h1] at hh
    injection hh with hh
    injection hh with _ ht
    exact absurd ht (by decide)
  obtain ⟨s1, s2⟩ := h2.stored (j * 7 + 5) (.int .i64 x)
  refine ⟨g, c, ss[j].next, (bld_cells h1).2.2.2.1, ?_, h2.frozenAt _, ⟨.slice (some ⟨g, 0, none⟩) ss.length c, Nat.le_trans h0 s2.size, (s2.block rb (lt_some h1) (fun e => hne (by cases e; rfl))).trans h1, ?_⟩, s2.os, s2.tape, s2.output, s2.size, fun k hk hr => ?_, KeepsOthers.setCell _ _ _, ?_⟩
  · rw [h2.cellAt (j * 7 + 5) (by have := flatS_len ss; omega), flatS_get ss j hj 5 (by omega)]
    rfl
  · rw [setN_len, flatS_set ss j x hj]
    exact s1
  · exact s2.block k (by omega) (fun e => by cases e; omega)
  · exact KeptX.grown h2 s2
set_option maxRecDepth 100000 in
set_option maxHeartbeats 1000000 in
theorem loop_any {w0 : World} {B G P c n b0 : Nat} {A : Option Addr} {kid : Int} {f : Bf} (hC : NodeC w0 B G P A c n kid f b0) (hU : ∀ next ss, ss.length ≤ (f next ss).2.length) (hG : Grows f b0) : LoopC w0 B G P A c n kid f (b0 + 1) := by
  intro w next ss hw hb hs
  have HSp := Lib.hid (split_any hb next next (by omega))
  have HKid : Hid (∀ w1, BldE w1 w0.heap.size B G P A c n (ss ++ [⟨1, noSet, next, next⟩]) → Chg w0.heap.size B w w1 → Calls Try.prog 26 #[.pointer (some ⟨B, 0, none⟩), .int .i64 kid, .int .i64 (ss.length : Int)] w1 (Post w0.heap.size B G P A c n (f (ss.length : Int) (ss ++ [⟨1, noSet, next, next⟩])) w1)) :=
    Lib.hid fun w1 h1 h2 => hC w1 (ss.length : Int) _ (hw.trans h2) h1 (by rw [List.length_append, List.length_singleton]; omega)
  have hu : ss.length + 1 ≤ (f (ss.length : Int) (ss ++ [⟨1, noSet, next, next⟩])).2.length := by have := hU (ss.length : Int) (ss ++ [⟨1, noSet, next, next⟩]); rw [List.length_append, List.length_singleton] at this; exact this
  have hg : (f (ss.length : Int) (ss ++ [⟨1, noSet, next, next⟩])).2.length ≤ 1000000 := by have := hG (ss.length : Int) (ss ++ [⟨1, noSet, next, next⟩]); rw [List.length_append, List.length_singleton] at this; omega
  have HR : Hid (loopF f next ss = ((ss.length : Int), Au.setN (f (ss.length : Int) (ss ++ [⟨1, noSet, next, next⟩])).2 ss.length (f (ss.length : Int) (ss ++ [⟨1, noSet, next, next⟩])).1)) := Lib.hid rfl
  generalize f (ss.length : Int) (ss ++ [⟨1, noSet, next, next⟩]) = y at HKid HR hu hg
  rw [HR.out]
  clear hC hU hG hb hw HR
  go_enter Try.func56, Try.ntmps56
  go_wp2_with fail
  refine HSp.out.mono ?_
  rintro e w1 ⟨rfl, hb1, hc1⟩
  have HK := Lib.hid (HKid.out w1 hb1 hc1)
  have HC1 := Lib.hid hc1
  clear hb1 hc1 HSp HKid
  go_wp2_with fail
  refine HK.out.mono ?_
  rintro e w2 ⟨rfl, hb2, hc2⟩
  obtain ⟨g, c', old, hr3, hold, hfz, hb3, hc3⟩ := loop_step hb2 ss.length (by omega) y.1
  have HB3 := Lib.hid hb3
  have HC3 := Lib.hid ((HC1.out.trans hc2).trans hc3)
  clear hb2 hc2 hb3 hc3 HK HC1
  have i1 : (0 : Int) ≤ (ss.length : Int) := Int.natCast_nonneg _
  have i2 : (ss.length : Int) < (y.2.length : Int) := by omega
  generalize hq : ss.length = q at hold hfz HB3 HC3 i1 i2 hu ⊢
  generalize hf1 : y.1 = fst at HB3 HC3 ⊢
  generalize y.2.length = m at hr3 i2
  go_wp2_with fail
  go_ret
  subst hq hf1
  exact ⟨rfl, HB3.out, HC3.out⟩
end Au
end
section
open Go.RowKit
namespace Th
open Cm Rx Au Se
theorem NodeC.mono {w0 : World} {B G P c n : Nat} {A : Option Addr} {i : Int} {f : Bf} {a b : Nat} (h : NodeC w0 B G P A c n i f a) (hab : a ≤ b) : NodeC w0 B G P A c n i f b := fun w next ss h1 h2 h3 => h w next ss h1 h2 (by omega)
theorem KidsC.mono {q : Nat} {w0 : World} {B G P c n : Nat} {A : Option Addr} {kids : List Int} {f : Bf} {a b : Nat} (h : KidsC q w0 B G P A c n kids f a) (hab : a ≤ b) : KidsC q w0 B G P A c n kids f b := fun w next ss v h0 h1 h2 h3 => h w next ss v h0 h1 h2 (by omega)
theorem RepC.mono {w0 : World} {B G P c n : Nat} {A : Option Addr} {nd : Nd} {f : Bf} {a b : Nat} (h : RepC w0 B G P A c n nd f a) (hab : a ≤ b) : RepC w0 B G P A c n nd f b := fun w next ss b' o h0 h1 h2 h3 => h w next ss b' o h0 h1 h2 (by omega)
theorem sum_two {g : Int → Int} {l : List Int} (h : ∀ k ∈ l, 0 ≤ g k) : (((l.map fun k => (2 * g k).toNat).sum : Nat) : Int) = 2 * (l.map g).sum := by
  induction l with
  | nil => rfl
  | cons a r ih =>
    have h1 := h a List.mem_cons_self
    have h2 := ih fun k hk => h k (List.mem_cons_of_mem _ hk)
    rw [List.map_cons, List.map_cons, List.sum_cons, List.sum_cons]
    omega
theorem node_at {w0 : World} {B G P c : Nat} {A : Option Addr} {ns : List Nd} (h : Env w0 B G P A c ns) (hv : ∀ k (h : k < ns.length), NodeOk k ns[k]) (hl : ns.length ≤ 4000) (hkl : ∀ n ∈ ns, n.kids.length ≤ 1000000) :
    ∀ j, j < ns.length → (bigW ns).getD j 0 ≤ 4000 → NodeC w0 B G P A c ns.length (j : Int) (getT (tabF ns) (j : Int)) (2 * (bigW ns).getD j 0).toNat := by
  intro j
  induction j using Nat.strongRecOn with
  | _ j ih =>
    intro hj hb
    obtain ⟨hko, hf⟩ := hv j hj
    have hfp := (fine_iff ns[j]).1 hf
    unfold FineP at hfp
    have hE : ∀ w v us, Chg w0.heap.size B w0 w → RdV w0 v (intsV us) → RdV w v (intsV us) := fun w v us h1 h2 => h.ints h1 h2
    have hkj := hkl _ (List.getElem_mem hj)
    have e2 : (bigW ns).getD j 0 = weighF ns[j] (sumW (bigW (ns.take j)) ns[j].kids) := tabG_at hj
    have hkid : ∀ k ∈ ns[j].kids, ∃ m : Nat, k = m ∧ m < j ∧ (bigW (ns.take j)).getD m 0 = (bigW ns).getD m 0 ∧ (blanksF (ns.take j)).getD m false = (blanksF ns).getD m false ∧ getT (tabF (ns.take j)) (m : Int) = getT (tabF ns) (m : Int) := fun k hk => by
      obtain ⟨h0, h1⟩ := hko k hk
      obtain ⟨k, rfl⟩ : ∃ m : Nat, k = m := ⟨k.toNat, by omega⟩
      refine ⟨k, rfl, by omega, tabG_kid (by omega) (by omega), ?_, tab_kid (by omega) (by omega)⟩
      have h := blanks_pre ns (ns.length - j) j (by omega) k (by omega)
      rw [show j + (ns.length - j) = ns.length by omega, List.take_length] at h
      rw [List.getD_eq_getElem?_getD, List.getD_eq_getElem?_getD, h]
    have h0 : ∀ k ∈ ns[j].kids, 0 ≤ (bigW (ns.take j)).getD k.toNat 0 := fun k hk => by
      obtain ⟨m, rfl, h1, h2, _⟩ := hkid k hk
      rw [Int.toNat_natCast, h2]
      exact (table_good (bs := []) hv m (by omega)).2.2
    have hhv : blankN (blanksF (ns.take j)) ns[j] = false → 1 ≤ weighF ns[j] (sumW (bigW (ns.take j)) ns[j].kids) ∧ ∀ k ∈ (if ns[j].kind = 4 then heavyF (blanksF (ns.take j)) ns[j].kids else ns[j].kids), (bigW (ns.take j)).getD k.toNat 0 ≤ weighF ns[j] (sumW (bigW (ns.take j)) ns[j].kids) := heavy_node hf h0 fun k hk hb2 => by
      obtain ⟨m, rfl, h1, h2, h3, _⟩ := hkid k hk
      rw [Int.toNat_natCast, h3] at hb2
      rw [Int.toNat_natCast, h2]
      exact heavy_at hv m (by omega) hb2
    have hN : ∀ k ∈ ns[j].kids, (bigW (ns.take j)).getD k.toNat 0 ≤ 4000 → NodeC w0 B G P A c ns.length k (getT (tabF (ns.take j)) k) (2 * (bigW (ns.take j)).getD k.toNat 0).toNat := fun k hk hb2 => by
      obtain ⟨m, rfl, h1, h2, h3, h4⟩ := hkid k hk
      rw [Int.toNat_natCast, h2] at hb2 ⊢
      rw [h4]
      exact ih m h1 (by omega) hb2
    have hG : ∀ k ∈ ns[j].kids, Grows (getT (tabF (ns.take j)) k) (2 * (bigW (ns.take j)).getD k.toNat 0).toNat := fun k hk next ss => by
      have hp := h0 k hk
      obtain ⟨m, rfl, h1, h2, h3, h4⟩ := hkid k hk
      rw [Int.toNat_natCast, h2] at hp ⊢
      rw [h4]
      have := gr_at hv m (by omega) next ss
      omega
    have hU : ∀ k ∈ ns[j].kids, UpL (getT (tabF (ns.take j)) k) := fun k hk => by
      obtain ⟨m, rfl, h1, h2, h3, h4⟩ := hkid k hk
      rw [h4]
      exact ul_at hv m (by omega)
    rw [e2] at hb ⊢
    rw [tab_at hj]
    generalize hWS : bigW (ns.take j) = ws at h0 hhv hN hG hb ⊢
    refine node_any h hj (fun hbl => by have := (hhv hbl).1; omega) hl (fun k4 hbl => ?_) (fun k5 hbl => ?_) (fun k6 hbl => ?_)
    · have hle := (hhv hbl).2
      rw [if_pos k4] at hle
      have ep : partN (blanksF (ns.take j)) ns[j] = heavyF (blanksF (ns.take j)) ns[j].kids := if_pos k4
      have ew : weighF ns[j] (sumW ws ns[j].kids) = sumW ws ns[j].kids := if_pos k4
      rw [ep]
      refine KidsC.mono (cat_any (W' := fun k => (2 * ws.getD k.toNat 0).toNat) (heavyF (blanksF (ns.take j)) ns[j].kids) (Nat.le_trans (heavy_len _ _) hkj) (fun k hk => hN k (List.mem_filter.1 hk).1 (by have := hle k hk; omega)) (fun k hk => hG k (List.mem_filter.1 hk).1) hE) ?_
      have h1 := sum_two (g := fun k => ws.getD k.toNat 0) (l := heavyF (blanksF (ns.take j)) ns[j].kids) fun k hk => h0 k (List.mem_filter.1 hk).1
      have h2 := sum_filter (W := fun k => ws.getD k.toNat 0) (p := fun k => !(blanksF (ns.take j)).getD k.toNat false) (l := ns[j].kids) h0
      rw [sum_map ws ns[j].kids] at h2
      rw [ew]
      unfold heavyF at h1 ⊢
      omega
    · have hle := (hhv hbl).2
      rw [if_neg (by omega)] at hle
      have ew : weighF ns[j] (sumW ws ns[j].kids) = sumW ws ns[j].kids + (ns[j].kids.length : Int) - 1 := by unfold weighF; rw [if_neg (by omega), if_pos k5]
      refine KidsC.mono (alt_any (W' := fun k => (2 * ws.getD k.toNat 0).toNat) ns[j].kids (by omega) hkj (fun k hk => hN k hk (by have := hle k hk; omega)) hG hE) ?_
      have h1 := sum_two (g := fun k => ws.getD k.toNat 0) (l := ns[j].kids) h0
      rw [sum_map ws ns[j].kids] at h1
      rw [ew]
      omega
    · have hle := (hhv hbl).2
      rw [if_neg (by omega)] at hle
      have hk0 : ns[j].kids.length = 1 := by rcases hfp with h | h | h <;> omega
      obtain ⟨k, hk1⟩ : ∃ k, ns[j].kids = [k] := List.length_eq_one_iff.1 hk0
      have hkm : k ∈ ns[j].kids := by rw [hk1]; exact List.mem_singleton.2 rfl
      have e3 : weighF ns[j] (sumW ws ns[j].kids) = ns[j].mn * ws.getD k.toNat 0 + optW ns[j].mn ns[j].mx * (ws.getD k.toNat 0 + 1) := by
        have e4 : sumW ws ns[j].kids = ws.getD k.toNat 0 := by rw [hk1]; show _ + 0 = _; omega
        unfold weighF; rw [if_neg (by omega), if_neg (by omega), if_pos k6, e4]
      have e5 : ns[j].kids.headD 0 = k := by rw [hk1]; rfl
      have hNk := hN k hkm (by have := hle k hkm; omega)
      have hL := loop_any hNk (hU k hkm) (hG k hkm)
      have hp := h0 k hkm
      have hR := rep_any h ns[j] (getT (tabF (ns.take j)) k) (by omega) (by omega) (by omega) (by omega) (by rw [e5]; exact hNk) (hG k hkm) (fun _ => by rw [e5]; exact hL)
      rw [e5]
      refine RepC.mono hR ?_
      rw [e3]
      generalize ws.getD k.toNat 0 = b at hp
      obtain ⟨b, rfl⟩ : ∃ m : Nat, b = m := ⟨b.toNat, by omega⟩
      obtain ⟨m, hm⟩ : ∃ m : Nat, ns[j].mn = m := ⟨ns[j].mn.toNat, by omega⟩
      have e6 : (2 * (b : Int)).toNat = 2 * b := by omega
      rw [e6, hm, Int.toNat_natCast]
      by_cases hx : ns[j].mx = -1
      · have eo : optW (m : Int) ns[j].mx = 1 := if_pos hx
        rw [if_pos hx, eo]
        have e7 : (m : Int) * (b : Int) = ((m * b : Nat) : Int) := by simp
        have e8 : m * (2 * b) = 2 * (m * b) := by rw [Nat.mul_left_comm]
        rw [e7, e8]
        omega
      · obtain ⟨d, hd⟩ : ∃ d : Nat, ns[j].mx = (m : Int) + d := ⟨(ns[j].mx - m).toNat, by omega⟩
        have eo : optW (m : Int) ns[j].mx = (d : Int) := by unfold optW; rw [if_neg hx]; omega
        rw [if_neg hx, eo, hd, show ((m : Int) + (d : Int) - (m : Int)).toNat = d by omega]
        have e7 : (m : Int) * (b : Int) = ((m * b : Nat) : Int) := by simp
        have e9 : (d : Int) * ((b : Int) + 1) = ((d * b + d : Nat) : Int) := by simp [Int.mul_add]
        have e8 : m * (2 * b) = 2 * (m * b) := by rw [Nat.mul_left_comm]
        have e10 : d * (2 * b + 1) = 2 * (d * b) + d := by rw [Nat.mul_add, Nat.mul_left_comm, Nat.mul_one]
        rw [e7, e8, e9, e10]
        omega
theorem code_zero {ns : List Nd} (h : codeB ns = 0) : Valid ns ∧ (bigW ns).getD (ns.length - 1) 0 ≤ 4000 ∧ weightR ns = (bigW ns).getD (ns.length - 1) 0 := by
  unfold codeB at h
  by_cases hv : Valid ns
  · rw [if_pos hv] at h
    by_cases hw : 4000 < weightR ns
    · rw [if_pos hw] at h; cases h
    · have e : weightR ns = weightF ns := by unfold weightR; rw [check_T hv, if_pos rfl]
      have e2 : weightF ns = min ((bigW ns).getD (ns.length - 1) 0) 4001 := cap_at hv.2.2 (ns.length - 1) (by have := hv.1; omega)
      rw [e, e2] at hw
      rw [e, e2]
      exact ⟨hv, by omega, by omega⟩
  · rw [if_neg hv] at h; cases h
/-- Build, for every list of nodes. -/
theorem build_all (v : Value) (ns : List Nd) (w : World) (h : RdN w v ns) (hl : ns.length ≤ 1000000) (hk : ∀ n ∈ ns, n.kids.length ≤ 1000000) : Calls Try.prog 10 #[v] w (BuildPost ns w) := by
  by_cases hc : codeB ns = 0
  · obtain ⟨hv, hw, _⟩ := code_zero hc
    exact Build_any v ns w (2 * (bigW ns).getD (ns.length - 1) 0).toNat h hl hk (by omega) fun _ w0 B G P A c hE => node_at hE hv.2.2 hv.2.1 hk (ns.length - 1) (by have := hv.1; omega) hw
  · exact Build_any v ns w 0 h hl hk (by omega) fun h => absurd h hc
/-- The automaton of nodes whose weight is within the limit. -/
theorem build_acc {bs : List UInt8} {ns : List Nd} (hc : codeB ns = 0) : ValidA (resB ns).2 (resB ns).1 ∧ ((resB ns).2.length : Int) ≤ weightR ns + 1 ∧ ∀ i e, Run (resB ns).2 bs i (resB ns).1.toNat e ↔ e ≤ bs.length ∧ getB (langsB bs ns) ((ns.length - 1 : Nat) : Int) i e = true := by
  obtain ⟨hv, hw, hw2⟩ := code_zero hc
  have e : resB ns = buildX ns := by unfold resB; rw [if_pos hc]
  obtain ⟨h1, h2, h3, h4, h5⟩ := thompson (bs := bs) hv (buildX ns) rfl
  rw [e]
  refine ⟨⟨by omega, ?_, h3⟩, by omega, h5⟩
  unfold hasB
  rw [decide_eq_true_eq]
  exact ⟨h1, h2⟩
end Th
end
end Go.Proofs.Ytgadomcbaenodaa

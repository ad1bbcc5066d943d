/-
  The reference's tables of pairs: a slice of rows of bools that the call owns; empty. Condition: a text of at most 100000 bytes. The reference's compose. Condition: tables of at most 100001 rows. The reference's tables: one cell of a table is written. No conditions. The reference's pairs of a list of kids, one after another or one of them. Conditions: the kids stand before the node and have their tables; a text of at most 100000 bytes. The reference's pairs of a repetition. Conditions: the kid stands before the node and has its table; a text of at most 100000 bytes. The reference's pairs of a set of bytes. Condition: a text of at most 100000 bytes. The reference's pairs of any node that is well formed, and Pairs of a valid list: the document's tables. Conditions: a text of at most 100000 bytes.
-/
import Derived.Test.YtgadomcbaenodaaComBase
import Derived.Test.YtgadomcbaenodaaTextBase
import Derived.Test.YtgadomcbaenodaaThoM
import Derived.Deep.OwnRows
import Derived.Laws.MakeOwn
import Derived.StillTailTactics
import Derived.Test.YtgadomcbaenodaaAutoE
import Derived.Deep.RegionWith
namespace Go.Proofs.Ytgadomcbaenodaa
section
open Go.RowKit
namespace Pr
open Cm Rx Au Se Th
abbrev tB : TypeId := 4
abbrev tBs : TypeId := 42
abbrev tBss : TypeId := 40
theorem info_b : (Try.prog.info? tB).map (fun i => (i.zero, i.size, i.bytes)) = some (some (.bool false), 1, 1) := by kernel_rfl
theorem info_bs : (Try.prog.info? tBs).map (fun i => (i.zero, i.size, i.bytes)) = some (some (.slice none 0 0), 1, 24) := by kernel_rfl
/-- A block that holds these cells. -/
def Blk (w : World) (G : Nat) (t : TypeId) (l : List Value) : Prop := w.heap[G]? = some (.cells l.toArray t (0, 0))
theorem Blk.lt {w : World} {G : Nat} {t : TypeId} {l : List Value} (h : Blk w G t l) : G < w.heap.size := (Array.getElem?_eq_some_iff.1 h).1
theorem Blk.cell {w : World} {G : Nat} {t : TypeId} {l : List Value} (h : Blk w G t l) {k : Nat} (hk : k < l.length) : w.cell? ⟨G, k, none⟩ = some l[k] := by
  unfold Blk at h
  simp only [World.cell?, h]
  simp [hk]
theorem Blk.free {w : World} {G : Nat} {t : TypeId} {l : List Value} (h : Blk w G t l) (k : Nat) : w.frozen? ⟨G, k, none⟩ = false := by
  unfold Blk at h
  simp [World.frozen?, h]
theorem Blk.below {w w' : World} {G : Nat} {t : TypeId} {l : List Value} (h : Blk w G t l) (hb : Below w.heap.size w w') : Blk w' G t l := (hb.block G h.lt).trans h
theorem Blk.set {w : World} {G : Nat} {t : TypeId} {l : List Value} (h : Blk w G t l) (k : Nat) (v : Value) : Blk (w.setCell ⟨G, k, none⟩ v) G t (l.set k v) := by
  have hlt := h.lt
  unfold Blk at h
  have h' : w.heap[G] = .cells l.toArray t (0, 0) := by simpa [Array.getElem?_eq_getElem hlt] using h
  show (w.heap.modify G _)[G]? = _
  rw [Array.getElem?_eq_getElem (by simpa using hlt), Array.getElem_modify_self, h']
  simp
theorem Blk.set_ne {w : World} {G H : Nat} {t : TypeId} {l : List Value} (h : Blk w G t l) (hne : G ≠ H) (k : Nat) (v : Value) : Blk (w.setCell ⟨H, k, none⟩ v) G t l :=
  (Below.heap_setCell _ _ _ _ hne).trans h
theorem Blk.alloc {w : World} {G : Nat} {t : TypeId} {l : List Value} (h : Blk w G t l) (o : Obj) : Blk (w.alloc o) G t l := (Below.heap_alloc w o G h.lt).trans h
theorem Blk.drew {w : World} {G : Nat} {t : TypeId} {l : List Value} (h : Blk w G t l) : Blk w.drew G t l := h
theorem Blk.drewN {w : World} {G : Nat} {t : TypeId} {l : List Value} (h : Blk w G t l) (m : Nat) : Blk (w.drewN m) G t l := h.below (below_drewN (Below.refl _ _) m)
theorem Blk.rd {w : World} {G : Nat} {t : TypeId} {l : List Value} (h : Blk w G t l) : RdV w (.slice (some ⟨G, 0, none⟩) l.length l.length) l :=
  ⟨_, _, rfl, ⟨Nat.le_refl _, fun e => by cases e⟩, fun _ => ⟨G, 0, rfl, fun j hj => by rw [Nat.zero_add]; exact h.cell hj⟩⟩
/-- make of a row of cells. -/
theorem mk_row {ops : Array Oper} {rest : List Oper} {o : Oper} {a : Act} {Q : Exit → Act → World → Prop} {w : World} {tS e : TypeId} {z : Value} {bytes : Nat} (hgd : o.guard = none) (l c : Operand) (ho : o.op = Op.makeSlice tS l c)
    (hu : Try.prog.underlying tS = some (.slice e)) (hi : (Try.prog.info? e).map (fun i => (i.zero, i.size, i.bytes)) = some (some z, 1, bytes)) (hzz : z.cells = #[z]) (hby : bytes ≤ 24)
    (n : Nat) (hl : a.eval l = .int .i64 (n : Int)) (hc : a.eval c = .int .i64 (n : Int)) (hn : n ≤ 4194304)
    (h : ∀ w', Hid (Blk w' w.heap.size e (List.replicate n z)) → Hid (w'.heap.size = w.heap.size + 1) → Below w.heap.size w w' → wpList Try.prog ops Q rest (a.put o.dst (.slice (some ⟨w.heap.size, 0, none⟩) n n)) w') : wpList Try.prog ops Q (o :: rest) a w := by
  obtain ⟨i0, hi0, hz0, hz1, hz2⟩ := info_parts hi
  have hm := Nat.mul_le_mul_left n hby
  refine wpList_make_row w hgd l c _ ho e i0 z hu hi0 hz0 hz1 hzz .i64 .i64 n hl hc (by rw [hz2]; have := Nat.mul_comm bytes n; omega) (by omega) (h _ ?_ (Lib.hid (by simp)) ((Below.refl _ w).alloc (Nat.le_refl _) _))
  obtain ⟨c, h1, h2, h3⟩ := World.rowIs_made w z n e
  have e : c = (List.replicate n z).toArray := by
    refine Array.ext (by rw [h2, List.size_toArray, List.length_replicate]) fun i hi1 hi2 => ?_
    have h4 := h3 i (by omega)
    rw [Array.getElem?_eq_getElem hi1] at h4
    have h5 := Option.some.inj h4
    rw [h5, List.getElem_toArray, List.getElem_replicate]
  rw [e] at h1
  exact Lib.hid h1
def rowB (n : Nat) (t : Tb) (i : Nat) : List Value := (List.range (n + 1)).map fun j => .bool (t i j)
theorem rowB_len (n : Nat) (t : Tb) (i : Nat) : (rowB n t i).length = n + 1 := by simp [rowB]
/-- The first k rows of a table. -/
def Tbl (w : World) (base : Nat) (v : Value) (n k : Nat) (t : Tb) : Prop :=
  ∃ us : List Value, us.length = k ∧ w.ownsRow base tBs 1 v k us ∧ ∀ i (h : i < us.length), (∃ g, us[i] = .slice (some ⟨g, 0, none⟩) (n + 1) (n + 1) ∧ base ≤ g ∧ Blk w g tB (rowB n t i)) ∧ ∀ j (hj : j < us.length), i < j → us[i] ≠ us[j]
theorem Tbl.nil (w : World) (base n : Nat) (t : Tb) : Tbl w base (.slice none 0 0) n 0 t := ⟨[], rfl, World.ownsRow_nil _ _ _ _, fun _ h => absurd h (Nat.not_lt_zero _)⟩
theorem Tbl.below {w w' : World} {base n k : Nat} {v : Value} {t : Tb} (h : Tbl w base v n k t) (hb : Below w.heap.size w w') : Tbl w' base v n k t := by
  obtain ⟨us, h1, h2, h3⟩ := h
  exact ⟨us, h1, own_below h2 hb, fun i hi => by obtain ⟨⟨g, e, h4, h5⟩, h6⟩ := h3 i hi; exact ⟨⟨g, e, h4, h5.below hb⟩, h6⟩⟩
theorem Tbl.form {w : World} {base n k : Nat} {v : Value} {t : Tb} (h : Tbl w base v n k t) : ∃ A c, v = .slice A k c := by
  obtain ⟨us, h1, h2, _⟩ := h
  exact own_form h2
theorem Tbl.base {w : World} {base base' n k : Nat} {v : Value} {t : Tb} (h : Tbl w base v n k t) (hb : base' ≤ base) : Tbl w base' v n k t := by
  obtain ⟨us, h1, h2, h3⟩ := h
  exact ⟨us, h1, own_base h2 hb, fun i hi => by obtain ⟨⟨g, e, h4, h5⟩, h6⟩ := h3 i hi; exact ⟨⟨g, e, by omega, h5⟩, h6⟩⟩
/-- What is to be known of the table for an append onto it, in whatever world that leaves it alone. -/
theorem Tbl.out {w : World} {base n k : Nat} {v : Value} {t : Tb} (h : Tbl w base v n k t) : ∃ us : List Value, ∀ W, Below w.heap.size w W → W.ownsRow base tBs 1 v k us ∧
    ∀ (g : Nat) (C : Array Value) (v' : Value) (w' : World), w.heap.size ≤ g → base ≤ g → Blk W g tB (rowB n t k) → w'.ownsRow base tBs 1 v' (k + 1) (us ++ [.slice (some ⟨g, 0, none⟩) (n + 1) (n + 1)]) → (W.alloc (.cells C tBs)).grownBy w' v.ownBlock → Tbl w' base v' n (k + 1) t := by
  obtain ⟨us, h1, h2, h3⟩ := h
  refine ⟨us, fun W hW => ⟨own_below h2 hW, fun g C v' w' hg0 hbg hg hv hgr => ⟨us ++ [.slice (some ⟨g, 0, none⟩) (n + 1) (n + 1)], by simp [h1], hv, fun i hi => ?_⟩⟩⟩
  have hkeep : ∀ (g : Nat) (l : List Value), Blk W g tB l → Blk w' g tB l := fun g l hB => by
    refine (hgr.block g (by have := (hB.alloc (.cells C tBs)).lt; exact this) fun e => ?_).trans (hB.alloc _)
    rcases (own_below h2 hW).2 with ⟨rfl, _⟩ | ⟨g2, cap, cur, rfl, _, hh, _⟩
    · simp [Value.ownBlock] at e
    · have e2 : g = g2 := by simpa [Value.ownBlock] using e
      subst e2
      rw [show W.heap[g]? = _ from hB] at hh
      injection hh with hh
      injection hh with _ ht
      exact absurd ht (by decide)
  by_cases hj : i < us.length
  · rw [List.getElem_append_left hj]
    obtain ⟨⟨g', e, h4, h5⟩, h6⟩ := h3 i hj
    refine ⟨⟨g', e, h4, hkeep _ _ (h5.below hW)⟩, fun j hjl hij => ?_⟩
    by_cases hj2 : j < us.length
    · rw [List.getElem_append_left hj2]; exact h6 j hj2 hij
    · have hj3 : j = us.length := by rw [List.length_append, List.length_singleton] at hjl; omega
      subst hj3
      rw [e]
      intro e2
      have hlt := h5.lt
      simp at e2 <;> omega
  · have hj2 : i = us.length := by rw [List.length_append, List.length_singleton] at hi; omega
    subst hj2
    refine ⟨⟨g, by simp, hbg, ?_⟩, fun j hjl hij => ?_⟩
    · rw [h1]; exact hkeep _ _ hg
    · rw [List.length_append, List.length_singleton] at hjl; omega
/-- .. for a row that was made since. -/
theorem Tbl.app {w w2 : World} {base n k : Nat} {v : Value} {t : Tb} (h : Tbl w base v n k t) (hb : Below w.heap.size w w2) (hw : base ≤ w.heap.size) : ∃ us : List Value, ∀ W, Below w.heap.size w2 W → W.ownsRow base tBs 1 v k us ∧
    ∀ (C : Array Value) (v' : Value) (w' : World), Blk W w.heap.size tB (rowB n t k) → w'.ownsRow base tBs 1 v' (k + 1) (us ++ [.slice (some ⟨w.heap.size, 0, none⟩) (n + 1) (n + 1)]) → (W.alloc (.cells C tBs)).grownBy w' v.ownBlock → Tbl w' base v' n (k + 1) t := by
  obtain ⟨us, h1⟩ := h.out
  exact ⟨us, fun W hW => ⟨(h1 W (hb.trans hW)).1, fun C v' w' h2 h3 h4 => (h1 W (hb.trans hW)).2 _ C v' w' (Nat.le_refl _) hw h2 h3 h4⟩⟩
theorem rowB_empty (n : Nat) (d : Bool) (i : Nat) (_hi : i ≤ n) : (List.replicate (n + 1) (Value.bool false)).set i (.bool d) = rowB n (emptyB d) i := by
  refine List.ext_getElem (by rw [List.length_set, List.length_replicate, rowB_len]) fun j h1 h2 => ?_
  rw [List.getElem_set]
  simp only [rowB, List.getElem_map, List.getElem_range, emptyB, List.getElem_replicate]
  by_cases e : i = j
  · subst e
    rw [if_pos rfl]
    simp
  · rw [if_neg e]
    simp [e]
def TbPost (n : Nat) (t : Tb) (w : World) (e : Ending) (w' : World) : Prop := ∃ v, e = .returned v ∧ Tbl w' w.heap.size v n (n + 1) t ∧ Below w.heap.size w w'
set_option maxRecDepth 100000 in
set_option maxHeartbeats 2000000 in
theorem empty_any (s : ByteArray) (d : Bool) (w : World) (hs : s.size ≤ 100000) : Calls Try.prog 46 #[.string s, .bool d] w (TbPost s.size (emptyB d) w) := by
  generalize hn : s.size = n at hs
  have HN := Lib.hid hn
  go_enter Try.func46, Try.ntmps46
  go_wp2_with fail
  go_loopw [5, 6] (fun v i wr => ∃ k : Nat, k ≤ n + 1 ∧ i = .int .i64 (k : Int) ∧ Hid (Tbl wr w.heap.size v n k (emptyB d)) ∧ Hid (Below w.heap.size w wr)) (fun _ i _ => n + 1 - (intOf i).toNat)
  case atStart => exact ⟨0, Nat.zero_le _, by go_num, Lib.hid (Tbl.nil _ _ _ _), Lib.hid (Below.refl _ _)⟩
  case round =>
    obtain ⟨wo, rfl⟩ : ∃ wo, wo = wr := ⟨wr, rfl⟩
    obtain ⟨k, hk, rfl, HT, HB⟩ := hrel
    have hsn : s.size = n := HN.out
    have i0 : (0 : Int) ≤ (k : Int) := Int.natCast_nonneg _
    by_cases hlt : k ≤ n
    · have i1 : (k : Int) ≤ (n : Int) := by omega
      have i2 : (k : Int) < (n : Int) + 1 := by omega
      have i3 : k < n + 1 := by omega
      obtain ⟨A', c', hform⟩ := HT.out.form
      subst hform
      go_upto_region 6 with (refine mk_row rfl (.tmp 16) (.tmp 16) rfl Try.underlying42 info_b rfl (by omega) (n + 1) (by simp [go_sem]) (by simp [go_sem]) (by omega) ?_; intro w2 HR2 HZ2 hb2; have HB2 := Lib.hid hb2)
      have qc := HR2.out.cell (k := k) (by rw [List.length_replicate]; omega)
      have qf := HR2.out.free k
      have hgw : w.heap.size ≤ wo.heap.size := HB.out.size
      have HSet := Lib.hid (HR2.out.set k (.bool d))
      obtain ⟨us, hout⟩ := HT.out.app HB2.out hgw
      have HOut := Lib.hid (hout _ ((Below.refl wo.heap.size w2).setCell (p := ⟨wo.heap.size, k, none⟩) (Nat.le_refl _) (.bool d)))
      clear hout
      have HB3 : Hid (Below w.heap.size w (w2.setCell ⟨wo.heap.size, k, none⟩ (.bool d))) := Lib.hid (HB.out.trans ((HB2.out.mono hgw).setCell hgw _))
      have e3 : w.heap.size ≤ (w2.setCell ⟨wo.heap.size, k, none⟩ (.bool d)).heap.size := by simp [World.setCell, HZ2.out]; omega
      generalize hw3 : w2.setCell ⟨wo.heap.size, k, none⟩ (.bool d) = w3 at HSet HOut HB3 e3
      have HUs := Lib.hid HOut.out.1
      have HApp := Lib.hid HOut.out.2
      have HSet2 : Hid (Blk w3 wo.heap.size tB (rowB n (emptyB d) k)) := Lib.hid (by have := HSet.out; rw [rowB_empty n d k hlt] at this; exact this)
      generalize wo.heap.size = g at *
      clear HOut HT HB HSet HR2 HZ2 HB2
      go_wp2_with (at_builtin; refine app_one rfl Try.underlying40 info_bs rfl (by omega) (.tmp 22) (.tmp 24) rfl w.heap.size k us (.slice (some ⟨g, 0, none⟩) (n + 1) (n + 1)) rfl _ _ rfl HUs.out rfl rfl (by omega) (by omega) ?_; intro v3 w4 ho3 hb3 hg3; have HT4 := Lib.hid (HApp.out _ _ _ HSet2.out ho3 hg3); have HB4 := Lib.hid (HB3.out.trans hb3); clear ho3 hb3 hg3)
      go_roundw
      case rel => exact ⟨k + 1, by omega, by go_num, HT4, HB4⟩
      case measure => simp [intOf]; omega
    · obtain rfl : k = n + 1 := by omega
      have i1 : ¬ ((n + 1 : Nat) : Int) ≤ (n : Int) := by omega
      go_wp2_with fail
      go_ret
      exact ⟨_, rfl, HT.out, HB.out⟩
/-- A table that reads so. -/
def RdT (w : World) (v : Value) (n : Nat) (t : Tb) : Prop :=
  ∃ b off c, v = .slice (some ⟨b, off, none⟩) (n + 1) c ∧ ∀ i, i ≤ n → ∃ g, w.cell? ⟨b, off + i, none⟩ = some (.slice (some ⟨g, 0, none⟩) (n + 1) (n + 1)) ∧ ∀ j, j ≤ n → w.cell? ⟨g, j, none⟩ = some (.bool (t i j))
theorem RdT.below {w w' : World} {v : Value} {n : Nat} {t : Tb} (h : RdT w v n t) (hb : Below w.heap.size w w') : RdT w' v n t := by
  obtain ⟨b, off, c, e, h1⟩ := h
  refine ⟨b, off, c, e, fun i hi => ?_⟩
  obtain ⟨g, h2, h3⟩ := h1 i hi
  exact ⟨g, (hb.cell (p := ⟨b, off + i, none⟩) (Tx.cell_lt h2)).trans h2, fun j hj => (hb.cell (p := ⟨g, j, none⟩) (Tx.cell_lt (h3 j hj))).trans (h3 j hj)⟩
theorem rowB_get {n : Nat} {t : Tb} {i j : Nat} (h : j < (rowB n t i).length) : (rowB n t i)[j] = .bool (t i j) := by simp [rowB]
theorem RdT.of {w : World} {base n : Nat} {v : Value} {t : Tb} (h : Tbl w base v n (n + 1) t) : RdT w v n t := by
  obtain ⟨us, h1, h2, h3⟩ := h
  rcases h2.2 with ⟨_, h0⟩ | ⟨g, cap, cur, rfl, _⟩
  · omega
  · refine ⟨g, 0, cap, rfl, fun i hi => ?_⟩
    have hl : i < us.length := by omega
    obtain ⟨⟨q, e, _, hB⟩, _⟩ := h3 i hl
    refine ⟨q, ?_, fun j hj => ?_⟩
    · rw [Nat.zero_add, h2.cellAt i (by omega), List.getElem?_eq_getElem hl, e]
    · rw [hB.cell (k := j) (by rw [rowB_len]; omega), rowB_get]
/-- The first j cells of a row, the rest being false. -/
def halfB (n : Nat) (t : Tb) (i j : Nat) : List Value := (rowB n t i).take j ++ List.replicate (n + 1 - j) (.bool false)
theorem halfB_len {n : Nat} {t : Tb} {i j : Nat} (h : j ≤ n + 1) : (halfB n t i j).length = n + 1 := by simp [halfB, rowB_len]; omega
theorem halfB_zero (n : Nat) (t : Tb) (i : Nat) : halfB n t i 0 = List.replicate (n + 1) (.bool false) := by simp [halfB]
theorem halfB_all (n : Nat) (t : Tb) (i : Nat) : halfB n t i (n + 1) = rowB n t i := by
  unfold halfB
  rw [List.take_of_length_le (by rw [rowB_len]; exact Nat.le_refl _), Nat.sub_self, List.replicate_zero, List.append_nil]
theorem halfB_set {n : Nat} {t : Tb} {i j : Nat} (h : j ≤ n) : (halfB n t i j).set j (.bool (t i j)) = halfB n t i (j + 1) := by
  have hl : j < (rowB n t i).length := by rw [rowB_len]; omega
  unfold halfB
  rw [List.take_succ_eq_append_getElem hl, rowB_get, List.append_assoc, List.set_append_right _ _ (by rw [List.length_take]; omega), List.length_take, Nat.min_eq_left (by omega), Nat.sub_self]
  rw [show n + 1 - j = (n + 1 - (j + 1)) + 1 by omega, List.replicate_succ]
  rfl
set_option maxRecDepth 100000 in
set_option maxHeartbeats 8000000 in
theorem union_any (va vb : Value) (n : Nat) (a b : Tb) (w : World) (ha : RdT w va n a) (hb : RdT w vb n b) (hs : n ≤ 100000) : Calls Try.prog 49 #[va, vb] w (TbPost n (uniB a b) w) := by
  have HA : Hid (∀ W, Below w.heap.size w W → RdT W va n a) := Lib.hid fun W h => ha.below h
  have HBb : Hid (∀ W, Below w.heap.size w W → RdT W vb n b) := Lib.hid fun W h => hb.below h
  obtain ⟨ba, oa, ca, rfl, _⟩ := ha
  obtain ⟨bb, ob, cb, rfl, _⟩ := hb
  go_enter Try.func49, Try.ntmps49
  go_wp2_with fail
  go_loopw [5, 6] (fun v i wr => ∃ k : Nat, k ≤ n + 1 ∧ i = .int .i64 (k : Int) ∧ Hid (Tbl wr w.heap.size v n k (uniB a b)) ∧ Hid (Below w.heap.size w wr)) (fun _ i _ => n + 1 - (intOf i).toNat)
  case atStart => exact ⟨0, Nat.zero_le _, by go_num, Lib.hid (Tbl.nil _ _ _ _), Lib.hid (Below.refl _ _)⟩
  case round =>
    obtain ⟨wo, rfl⟩ : ∃ wo, wo = wr := ⟨wr, rfl⟩
    obtain ⟨k, hk, rfl, HT, HB⟩ := hrel
    have i0 : (0 : Int) ≤ (k : Int) := Int.natCast_nonneg _
    by_cases hlt : k ≤ n
    · have i2 : (k : Int) < (n : Int) + 1 := by omega
      obtain ⟨A', c', hform⟩ := HT.out.form
      subst hform
      go_upto_region 6 with (refine mk_row rfl (.tmp 16) (.tmp 16) rfl Try.underlying42 info_b rfl (by omega) (n + 1) (by simp [go_sem]) (by simp [go_sem]) (by omega) ?_; intro w2 HR2 HZ2 hb2; have HB2 := Lib.hid hb2)
      have hgw : w.heap.size ≤ wo.heap.size := HB.out.size
      have HB3 := Lib.hid (HB.out.trans (HB2.out.mono hgw))
      obtain ⟨us, hout⟩ := HT.out.app HB2.out hgw
      have HT5 := Lib.hid hout
      clear hout
      have HR3 : Hid (Blk w2 wo.heap.size tB (halfB n (uniB a b) k 0)) := Lib.hid (by rw [halfB_zero]; exact HR2.out)
      generalize wo.heap.size = g at *
      clear HT HB HR2 HZ2 HB2
      go_wp2_with fail
      go_loopw [8] (fun j' wr => ∃ j : Nat, j ≤ n + 1 ∧ j' = .int .i64 (j : Int) ∧ Hid (Blk wr g tB (halfB n (uniB a b) k j)) ∧ Hid (Below g w2 wr)) (fun j' _ => n + 1 - (intOf j').toNat)
      case atStart => exact ⟨0, Nat.zero_le _, by go_num, HR3, Lib.hid (Below.refl _ _)⟩
      case round =>
        obtain ⟨j, hj, rfl, HR, HBj⟩ := hrel
        have j0 : (0 : Int) ≤ (j : Int) := Int.natCast_nonneg _
        have HBw : Hid (Below w.heap.size w wr) := Lib.hid (HB3.out.trans (HBj.out.mono hgw))
        by_cases hjn : j ≤ n
        · have j1 : (j : Int) < (n : Int) + 1 := by omega
          obtain ⟨_, _, _, e1, hA1⟩ := HA.out wr HBw.out
          cases e1
          obtain ⟨_, _, _, e2, hB1⟩ := HBb.out wr HBw.out
          cases e2
          obtain ⟨ga, qa, ra⟩ := hA1 k hlt
          obtain ⟨gb, qb, rb⟩ := hB1 k hlt
          have ra := ra j hjn
          have rb := rb j hjn
          have qc := HR.out.cell (k := j) (by rw [halfB_len hj]; omega)
          have qf := HR.out.free j
          have hset : (halfB n (uniB a b) k j).set j (.bool (a k j || b k j)) = halfB n (uniB a b) k (j + 1) := halfB_set hjn
          have HS := Lib.hid hset
          clear hA1 hB1 hset
          cases hab : a k j with
          | true =>
            rw [hab] at ra HS
            go_wp2_with fail
            go_roundw
            case rel => exact ⟨j + 1, by omega, by go_num, Lib.hid (by rw [← HS.out]; exact HR.out.set j _), Lib.hid (HBj.out.setCell (Nat.le_refl _) _)⟩
            case measure => simp [intOf]; omega
          | false =>
            rw [hab] at ra HS
            go_wp2_with fail
            go_roundw
            case rel => exact ⟨j + 1, by omega, by go_num, Lib.hid (by rw [← HS.out]; exact HR.out.set j _), Lib.hid (HBj.out.setCell (Nat.le_refl _) _)⟩
            case measure => simp [intOf]; omega
        · obtain rfl : j = n + 1 := by omega
          have hTj := HT5.out wr HBj.out
          have HUs := Lib.hid hTj.1
          have HApp := Lib.hid hTj.2
          have HSet2 : Hid (Blk wr g tB (rowB n (uniB a b) k)) := Lib.hid (by have := HR.out; rw [halfB_all] at this; exact this)
          have e3 : w.heap.size ≤ wr.heap.size := HBw.out.size
          clear hTj HR HBj HT5 HR3 HB3
          go_wp2_with (at_builtin; refine app_one rfl Try.underlying40 info_bs rfl (by omega) (.tmp 43) (.tmp 45) rfl w.heap.size k us (.slice (some ⟨g, 0, none⟩) (n + 1) (n + 1)) rfl _ _ rfl HUs.out rfl rfl (by omega) (by omega) ?_; intro v3 w4 ho3 hb3 hg3; have HT4 := Lib.hid (HApp.out _ _ _ HSet2.out ho3 hg3); have HB4 := Lib.hid (HBw.out.trans hb3); clear ho3 hb3 hg3)
          go_roundw
          case rel => exact ⟨k + 1, by omega, by go_num, HT4, HB4⟩
          case measure => simp [intOf]; omega
    · obtain rfl : k = n + 1 := by omega
      go_wp2_with fail
      go_ret
      exact ⟨_, rfl, HT.out, HB.out⟩
end Pr
end
section
open Go.RowKit
namespace Pr
open Cm Rx Au Se Th
def rowF (n : Nat) (f : Nat → Bool) : List Value := (List.range (n + 1)).map fun j => .bool (f j)
theorem rowF_len (n : Nat) (f : Nat → Bool) : (rowF n f).length = n + 1 := by simp [rowF]
theorem rowF_get {n : Nat} {f : Nat → Bool} {j : Nat} (h : j < (rowF n f).length) : (rowF n f)[j] = .bool (f j) := by simp [rowF]
theorem rowF_ext {n : Nat} {f g : Nat → Bool} (h : ∀ j, j ≤ n → f j = g j) : rowF n f = rowF n g := by
  refine List.ext_getElem (by rw [rowF_len, rowF_len]) fun j h1 h2 => ?_
  rw [rowF_get, rowF_get, h j (by rw [rowF_len] at h1; omega)]
theorem rowF_none (n : Nat) : rowF n (fun _ => false) = List.replicate (n + 1) (.bool false) := by
  refine List.ext_getElem (by rw [rowF_len, List.length_replicate]) fun j h1 h2 => ?_
  rw [rowF_get, List.getElem_replicate]
/-- What is known of the pairs through the first k middles. -/
def upTo (a b : Tb) (i k : Nat) : Nat → Bool := fun j => (List.range k).any fun q => decide (i ≤ q) && a i q && (decide (q ≤ j) && b q j)
theorem upTo_succ (a b : Tb) (i k j : Nat) : upTo a b i (k + 1) j = (upTo a b i k j || (decide (i ≤ k) && a i k && (decide (k ≤ j) && b k j))) := by
  unfold upTo
  rw [List.range_succ, List.any_append]
  simp
theorem upTo_start (a b : Tb) (i j : Nat) : upTo a b i i j = false := by
  unfold upTo
  rw [List.any_eq_false]
  intro q hq
  rw [List.mem_range] at hq
  simp [show ¬ i ≤ q by omega]
/-- A row in the middle of a round. -/
def mixF (f g : Nat → Bool) (j : Nat) : Nat → Bool := fun q => if q < j then g q else f q
theorem mixF_set {n : Nat} {f g : Nat → Bool} {j : Nat} (_h : j ≤ n) : (rowF n (mixF f g j)).set j (.bool (g j)) = rowF n (mixF f g (j + 1)) := by
  refine List.ext_getElem (by rw [List.length_set, rowF_len, rowF_len]) fun q h1 h2 => ?_
  rw [List.getElem_set, rowF_get, rowF_get]
  unfold mixF
  by_cases e : j = q
  · subst e; rw [if_pos rfl, if_pos (Nat.lt_succ_self _)]
  · rw [if_neg e]
    by_cases h3 : q < j
    · rw [if_pos h3, if_pos (by omega)]
    · rw [if_neg h3, if_neg (by omega)]
set_option maxRecDepth 100000 in
set_option maxHeartbeats 16000000 in
theorem compose_any (va vb : Value) (n : Nat) (a b : Tb) (w : World) (ha : RdT w va n a) (hb : RdT w vb n b) (hs : n ≤ 100000) : Calls Try.prog 48 #[va, vb] w (TbPost n (compB n a b) w) := by
  have HA : Hid (∀ W, Below w.heap.size w W → RdT W va n a) := Lib.hid fun W h => ha.below h
  have HBb : Hid (∀ W, Below w.heap.size w W → RdT W vb n b) := Lib.hid fun W h => hb.below h
  obtain ⟨ba, oa, ca, rfl, _⟩ := ha
  obtain ⟨bb, ob, cb, rfl, _⟩ := hb
  go_enter Try.func48, Try.ntmps48
  go_wp2_with fail
  go_loopw [6, 7] (fun v i wr => ∃ k : Nat, k ≤ n + 1 ∧ i = .int .i64 (k : Int) ∧ Hid (Tbl wr w.heap.size v n k (compB n a b)) ∧ Hid (Below w.heap.size w wr)) (fun _ i _ => n + 1 - (intOf i).toNat)
  case atStart => exact ⟨0, Nat.zero_le _, by go_num, Lib.hid (Tbl.nil _ _ _ _), Lib.hid (Below.refl _ _)⟩
  case round =>
    obtain ⟨wo, rfl⟩ : ∃ wo, wo = wr := ⟨wr, rfl⟩
    obtain ⟨k, hk, rfl, HT, HB⟩ := hrel
    have i0 : (0 : Int) ≤ (k : Int) := Int.natCast_nonneg _
    by_cases hlt : k ≤ n
    · have i2 : (k : Int) < (n : Int) + 1 := by omega
      obtain ⟨A', c', hform⟩ := HT.out.form
      subst hform
      go_upto_region 7 with (refine mk_row rfl (.tmp 18) (.tmp 18) rfl Try.underlying42 info_b rfl (by omega) (n + 1) (by simp [go_sem]) (by simp [go_sem]) (by omega) ?_; intro w2 HR2 HZ2 hb2; have HB2 := Lib.hid hb2)
      have hgw : w.heap.size ≤ wo.heap.size := HB.out.size
      have HB3 := Lib.hid (HB.out.trans (HB2.out.mono hgw))
      obtain ⟨us, hout⟩ := HT.out.app HB2.out hgw
      have HT5 := Lib.hid hout
      clear hout
      have HR3 : Hid (Blk w2 wo.heap.size tB (rowF n (upTo a b k k))) := Lib.hid (by
        rw [rowF_ext (g := fun _ => false) fun j _ => upTo_start a b k j, rowF_none]; exact HR2.out)
      generalize wo.heap.size = g at *
      clear HT HB HR2 HZ2 HB2
      go_wp2_with fail
      go_loopw [9] (fun q' wr => ∃ q : Nat, k ≤ q ∧ q ≤ n + 1 ∧ q' = .int .i64 (q : Int) ∧ Hid (Blk wr g tB (rowF n (upTo a b k q))) ∧ Hid (Below g w2 wr)) (fun q' _ => n + 1 - (intOf q').toNat)
      case atStart => exact ⟨k, Nat.le_refl _, hk, by go_num, HR3, Lib.hid (Below.refl _ _)⟩
      case round =>
        obtain ⟨wm, rfl⟩ : ∃ wm, wm = wr := ⟨wr, rfl⟩
        obtain ⟨q, hkq, hq, rfl, HR, HBq⟩ := hrel
        have q0 : (0 : Int) ≤ (q : Int) := Int.natCast_nonneg _
        by_cases hqn : q ≤ n
        · have q1 : (q : Int) < (n : Int) + 1 := by omega
          have HM : Hid (Blk wm g tB (rowF n (mixF (upTo a b k q) (upTo a b k (q + 1)) q))) := Lib.hid (by
            rw [rowF_ext (g := upTo a b k q) fun j _ => ?_]
            · exact HR.out
            · unfold mixF
              by_cases h : j < q
              · rw [if_pos h, upTo_succ]; simp [show ¬ q ≤ j by omega]
              · rw [if_neg h])
          clear HR
          go_wp2_with fail
          go_loopw [10] (fun j' wr => ∃ j : Nat, q ≤ j ∧ j ≤ n + 1 ∧ j' = .int .i64 (j : Int) ∧ Hid (Blk wr g tB (rowF n (mixF (upTo a b k q) (upTo a b k (q + 1)) j))) ∧ Hid (Below g w2 wr)) (fun j' _ => n + 1 - (intOf j').toNat)
          case atStart => exact ⟨q, Nat.le_refl _, hq, by go_num, HM, HBq⟩
          case round =>
            clear HM HBq
            obtain ⟨j, hqj, hj, rfl, HR, HBj⟩ := hrel
            have j0 : (0 : Int) ≤ (j : Int) := Int.natCast_nonneg _
            have HBw : Hid (Below w.heap.size w wr) := Lib.hid (HB3.out.trans (HBj.out.mono hgw))
            by_cases hjn : j ≤ n
            · have j1 : (j : Int) < (n : Int) + 1 := by omega
              obtain ⟨_, _, _, e1, hA1⟩ := HA.out wr HBw.out
              cases e1
              obtain ⟨_, _, _, e2, hB1⟩ := HBb.out wr HBw.out
              cases e2
              obtain ⟨ga, qa, ra⟩ := hA1 k hlt
              obtain ⟨gb, qb, rb⟩ := hB1 q hqn
              have ra := ra q hqn
              have rb := rb j hjn
              clear hA1 hB1
              cases hab : a k q with
              | false =>
                rw [hab] at ra
                have HEnd : Hid (Blk wr g tB (rowF n (upTo a b k (q + 1)))) := Lib.hid (by
                  rw [← rowF_ext (f := mixF (upTo a b k q) (upTo a b k (q + 1)) j) fun p _ => ?_]
                  · exact HR.out
                  · unfold mixF
                    split
                    · rfl
                    · rw [upTo_succ, hab]; simp)
                go_wp2_with fail
                go_roundw
                case rel => exact ⟨q + 1, by omega, by omega, by go_num, HEnd, HBj⟩
                case measure => simp [intOf]; omega
              | true =>
                rw [hab] at ra
                have hval : upTo a b k (q + 1) j = (upTo a b k q j || b q j) := by
                  rw [upTo_succ, hab]; simp [hkq, hqj]
                have qc : wr.cell? ⟨g, j, none⟩ = some (.bool (upTo a b k q j)) := by
                  rw [HR.out.cell (k := j) (by rw [rowF_len]; omega), rowF_get]
                  unfold mixF
                  rw [if_neg (Nat.lt_irrefl j)]
                have qf := HR.out.free j
                have hset := mixF_set (f := upTo a b k q) (g := upTo a b k (q + 1)) hjn
                rw [hval] at hset
                have HS := Lib.hid hset
                clear hset hval
                cases hu : upTo a b k q j with
                | true =>
                  rw [hu] at qc HS
                  go_wp2_with fail
                  go_roundw
                  case rel => exact ⟨j + 1, by omega, by omega, by go_num, Lib.hid (by rw [← HS.out]; exact HR.out.set j _), Lib.hid (HBj.out.setCell (Nat.le_refl _) _)⟩
                  case measure => simp [intOf]; omega
                | false =>
                  rw [hu] at qc HS
                  go_wp2_with fail
                  go_roundw
                  case rel => exact ⟨j + 1, by omega, by omega, by go_num, Lib.hid (by rw [← HS.out]; exact HR.out.set j _), Lib.hid (HBj.out.setCell (Nat.le_refl _) _)⟩
                  case measure => simp [intOf]; omega
            · obtain rfl : j = n + 1 := by omega
              have HEnd : Hid (Blk wr g tB (rowF n (upTo a b k (q + 1)))) := Lib.hid (by
                rw [← rowF_ext (f := mixF (upTo a b k q) (upTo a b k (q + 1)) (n + 1)) fun p hp => ?_]
                · exact HR.out
                · unfold mixF
                  rw [if_pos (by omega)])
              go_wp2_with fail
              go_roundw
              case rel => exact ⟨q + 1, by omega, by omega, by go_num, HEnd, HBj⟩
              case measure => simp [intOf]; omega
        · obtain rfl : q = n + 1 := by omega
          have HBw : Hid (Below w.heap.size w wm) := Lib.hid (HB3.out.trans (HBq.out.mono hgw))
          have hTj := HT5.out wm HBq.out
          have HUs := Lib.hid hTj.1
          have HApp := Lib.hid hTj.2
          have HSet2 : Hid (Blk wm g tB (rowB n (compB n a b) k)) := Lib.hid HR.out
          have e3 : w.heap.size ≤ wm.heap.size := HBw.out.size
          clear hTj HR HBq HT5 HR3 HB3
          go_wp2_with (at_builtin; refine app_one rfl Try.underlying40 info_bs rfl (by omega) (.tmp 57) (.tmp 59) rfl w.heap.size k us (.slice (some ⟨g, 0, none⟩) (n + 1) (n + 1)) rfl _ _ rfl HUs.out rfl rfl (by omega) (by omega) ?_; intro v3 w4 ho3 hb3 hg3; have HT4 := Lib.hid (HApp.out _ _ _ HSet2.out ho3 hg3); have HB4 := Lib.hid (HBw.out.trans hb3); clear ho3 hb3 hg3)
          go_roundw
          case rel => exact ⟨k + 1, by omega, by go_num, HT4, HB4⟩
          case measure => simp [intOf]; omega
    · obtain rfl : k = n + 1 := by omega
      go_wp2_with fail
      go_ret
      exact ⟨_, rfl, HT.out, HB.out⟩
end Pr
end
section
open Go.RowKit
namespace Pr
open Cm Rx Au Se Th
def putT (t : Tb) (i j : Nat) (x : Bool) : Tb := fun p q => if p = i ∧ q = j then x else t p q
theorem rowB_put (n : Nat) (t : Tb) (i j : Nat) (x : Bool) : (rowB n t i).set j (.bool x) = rowB n (putT t i j x) i := by
  refine List.ext_getElem (by rw [List.length_set, rowB_len, rowB_len]) fun q h1 h2 => ?_
  rw [List.getElem_set, rowB_get, rowB_get]
  unfold putT
  by_cases e : j = q
  · subst e; rw [if_pos rfl, if_pos ⟨rfl, rfl⟩]
  · rw [if_neg e, if_neg (fun h => e h.2.symm)]
theorem rowB_other (n : Nat) (t : Tb) {i p : Nat} (j : Nat) (x : Bool) (h : p ≠ i) : rowB n (putT t i j x) p = rowB n t p := by
  unfold rowB
  refine List.map_congr_left fun q _ => ?_
  unfold putT
  rw [if_neg (fun h2 => h h2.1)]
theorem rowB_same {n : Nat} {t t' : Tb} {i : Nat} (h : ∀ j, j ≤ n → t i j = t' i j) : rowB n t i = rowB n t' i := by
  unfold rowB
  refine List.map_congr_left fun q hq => ?_
  rw [List.mem_range] at hq
  rw [h q (by omega)]
theorem Tbl.same {w : World} {base n : Nat} {v : Value} {t t' : Tb} (h : Tbl w base v n (n + 1) t) (he : ∀ i j, i ≤ n → j ≤ n → t i j = t' i j) : Tbl w base v n (n + 1) t' := by
  obtain ⟨us, h1, h2, h3⟩ := h
  refine ⟨us, h1, h2, fun i hi => ?_⟩
  obtain ⟨⟨g, e, h4, h5⟩, h6⟩ := h3 i hi
  exact ⟨⟨g, e, h4, by rw [← rowB_same (t := t) fun j hj => he i j (by omega) hj]; exact h5⟩, h6⟩
/-- One cell is written. -/
theorem Tbl.put {w : World} {base n : Nat} {v : Value} {t : Tb} (h : Tbl w base v n (n + 1) t) {i j : Nat} (hi : i ≤ n) (hj : j ≤ n) : ∃ b c g, v = .slice (some ⟨b, 0, none⟩) (n + 1) c ∧ w.cell? ⟨b, i, none⟩ = some (.slice (some ⟨g, 0, none⟩) (n + 1) (n + 1)) ∧
    w.cell? ⟨g, j, none⟩ = some (.bool (t i j)) ∧ w.frozen? ⟨g, j, none⟩ = false ∧ base ≤ g ∧ ∀ W, Below w.heap.size w W → ∀ x, Tbl (W.setCell ⟨g, j, none⟩ (.bool x)) base v n (n + 1) (putT t i j x) := by
  obtain ⟨us, h1, h2, h3⟩ := h
  have h2' := h2
  rcases h2.2 with ⟨_, h0⟩ | ⟨b, cap, cur, rfl, hb, hh, _⟩
  · omega
  have hl : i < us.length := by omega
  obtain ⟨⟨g, e, hg, hB⟩, hd⟩ := h3 i hl
  have hgb : b ≠ g := by
    rintro rfl
    rw [show w.heap[b]? = _ from hB] at hh
    injection hh with hh
    injection hh with _ ht
    exact absurd ht (by decide)
  refine ⟨b, cap, g, rfl, ?_, ?_, hB.free j, hg, fun W hW x => ⟨us, h1, ?_, fun p hp => ?_⟩⟩
  · rw [h2'.cellAt i (by omega), List.getElem?_eq_getElem hl, e]
  · rw [hB.cell (k := j) (by rw [rowB_len]; omega), rowB_get]
  · exact ownsRow_setCell_other (a := ⟨g, j, none⟩) (own_below h2' hW) (by intro e2; exact hgb (by simpa [Value.ownBlock] using e2)) _
  · obtain ⟨⟨gp, ep, hgp, hBp⟩, hdp⟩ := h3 p hp
    refine ⟨⟨gp, ep, hgp, ?_⟩, hdp⟩
    by_cases hpi : p = i
    · subst hpi
      rw [e] at ep
      have : g = gp := by simpa using ep
      subst this
      rw [← rowB_put]
      exact (hB.below hW).set j _
    · rw [rowB_other n t j x hpi]
      refine (hBp.below hW).set_ne ?_ j _
      rintro rfl
      rcases Nat.lt_or_gt_of_ne hpi with h | h
      · exact hdp i hl h (by rw [ep, e])
      · exact hd p hp h (by rw [ep, e])
/-- A list of tables. -/
def RdAll (w : World) (v : Value) (n : Nat) (ts : List Tb) : Prop := ∃ vs : List Value, RdV w v vs ∧ vs.length = ts.length ∧ ∀ i (h : i < vs.length) (h' : i < ts.length), RdT w vs[i] n ts[i]
/-- The boxed node's cells. -/
def BoxN (w : World) (b : Nat) (c0 c1 c2 c3 c4 c5 c6 c7 : Value) : Prop := w.cell? ⟨b, 0, none⟩ = some c0 ∧ w.cell? ⟨b, 1, none⟩ = some c1 ∧ w.cell? ⟨b, 2, none⟩ = some c2 ∧ w.cell? ⟨b, 3, none⟩ = some c3 ∧ w.cell? ⟨b, 4, none⟩ = some c4 ∧ w.cell? ⟨b, 5, none⟩ = some c5 ∧ w.cell? ⟨b, 6, none⟩ = some c6 ∧ w.cell? ⟨b, 7, none⟩ = some c7
theorem BoxN.new (w W : World) (t : TypeId) (c0 c1 c2 c3 c4 c5 c6 c7 : Value) (h : Below (w.alloc (.cells #[c0, c1, c2, c3, c4, c5, c6, c7] t)).heap.size (w.alloc (.cells #[c0, c1, c2, c3, c4, c5, c6, c7] t)) W) : BoxN W w.heap.size c0 c1 c2 c3 c4 c5 c6 c7 := by
  have e : W.heap[w.heap.size]? = some (.cells #[c0, c1, c2, c3, c4, c5, c6, c7] t (0, 0)) := (h.block _ (by simp)).trans (World.alloc_heap_new _ _)
  unfold BoxN
  simp [World.cell?, e]
theorem BoxN.below {w w' : World} {b : Nat} {c0 c1 c2 c3 c4 c5 c6 c7 : Value} (h : BoxN w b c0 c1 c2 c3 c4 c5 c6 c7) (hb : Below w.heap.size w w') : BoxN w' b c0 c1 c2 c3 c4 c5 c6 c7 := by
  obtain ⟨h0, h1, h2, h3, h4, h5, h6, h7⟩ := h
  have e : ∀ (j : Nat) (u : Value), w.cell? ⟨b, j, none⟩ = some u → w'.cell? ⟨b, j, none⟩ = some u := fun j u h => (hb.cell (p := ⟨b, j, none⟩) (Tx.cell_lt h)).trans h
  exact ⟨e _ _ h0, e _ _ h1, e _ _ h2, e _ _ h3, e _ _ h4, e _ _ h5, e _ _ h6, e _ _ h7⟩
set_option maxRecDepth 100000 in
set_option maxHeartbeats 4000000 in
theorem pairs_empty (nd : Nd) (kv va : Value) (s : ByteArray) (w : World) (hs : s.size ≤ 100000) (hk : nd.kind = 0) : Calls Try.prog 29 #[ndV nd kv, va, .string s] w (TbPost s.size (emptyB true) w) := by
  have HE := Lib.hid (fun w1 => empty_any s true w1 hs)
  unfold ndV
  generalize word nd.set 0 = x0
  generalize word nd.set 1 = x1
  generalize word nd.set 2 = x2
  generalize word nd.set 3 = x3
  rw [hk]
  go_enter Try.func29, Try.ntmps29
  go_wp2_with (go_at_call 46; refine (HE.out _).mono ?_; rintro e w1 ⟨v, rfl, hT, hB⟩; obtain ⟨q0, q1, q2, q3, q4, q5, q6, q7⟩ := BoxN.new _ _ _ _ _ _ _ _ _ _ _ hB; have HT := Lib.hid hT; have HB := Lib.hid hB; clear hT hB)
  go_ret
  exact ⟨_, rfl, HT.out.base (by simp), ((Below.refl _ _).alloc (Nat.le_refl _) _).trans (HB.out.mono (by simp))⟩
theorem put_point (m i j : Nat) : putT (emptyB false) m m true i j = ((i == m) && (j == m)) := by
  unfold putT emptyB
  by_cases h : i = m
  · by_cases h2 : j = m
    · rw [if_pos ⟨h, h2⟩]; simp [h, h2]
    · rw [if_neg (fun h3 => h2 h3.2)]; simp [h2]
  · rw [if_neg (fun h3 => h h3.1)]; simp [h]
set_option maxRecDepth 100000 in
set_option maxHeartbeats 4000000 in
theorem pairs_start (nd : Nd) (kv va : Value) (s : ByteArray) (w : World) (hs : s.size ≤ 100000) (hk : nd.kind = 2) : Calls Try.prog 29 #[ndV nd kv, va, .string s] w (TbPost s.size startB w) := by
  have HE := Lib.hid (fun w1 => empty_any s false w1 hs)
  unfold ndV
  generalize word nd.set 0 = x0
  generalize word nd.set 1 = x1
  generalize word nd.set 2 = x2
  generalize word nd.set 3 = x3
  rw [hk]
  have n0 : (0 : Int) ≤ (s.size : Int) := Int.natCast_nonneg _
  have n1 : (s.size : Int) < (s.size : Int) + 1 := by omega
  have n2 : (0 : Int) < (s.size : Int) + 1 := by omega
  go_enter Try.func29, Try.ntmps29
  go_wp2_with (go_at_call 46; refine (HE.out _).mono ?_; rintro e w1 ⟨v, rfl, hT, hB⟩; obtain ⟨q0, q1, q2, q3, q4, q5, q6, q7⟩ := BoxN.new _ _ _ _ _ _ _ _ _ _ _ hB; obtain ⟨b, c, g, rfl, qa, qb, qf, hg, hput⟩ := hT.put (i := 0) (j := 0) (by omega) (by omega); have HP := Lib.hid (hput _ (Below.refl _ _) true); have HG := Lib.hid hg; have HB := Lib.hid hB; clear hT hB hput hg)
  go_ret
  exact ⟨_, rfl, (HP.out.same fun i j _ _ => put_point 0 i j).base (by simp), (((Below.refl _ _).alloc (Nat.le_refl _) _).trans (HB.out.mono (by simp))).setCell (by have := HG.out; simp at this; show _ ≤ g; omega) _⟩
set_option maxRecDepth 100000 in
set_option maxHeartbeats 4000000 in
theorem pairs_end (nd : Nd) (kv va : Value) (s : ByteArray) (w : World) (hs : s.size ≤ 100000) (hk : nd.kind = 3) : Calls Try.prog 29 #[ndV nd kv, va, .string s] w (TbPost s.size (endB s.size) w) := by
  have HE := Lib.hid (fun w1 => empty_any s false w1 hs)
  unfold ndV
  generalize word nd.set 0 = x0
  generalize word nd.set 1 = x1
  generalize word nd.set 2 = x2
  generalize word nd.set 3 = x3
  rw [hk]
  have n0 : (0 : Int) ≤ (s.size : Int) := Int.natCast_nonneg _
  have n1 : (s.size : Int) < (s.size : Int) + 1 := by omega
  have n2 : (0 : Int) < (s.size : Int) + 1 := by omega
  go_enter Try.func29, Try.ntmps29
  go_wp2_with (go_at_call 46; refine (HE.out _).mono ?_; rintro e w1 ⟨v, rfl, hT, hB⟩; obtain ⟨q0, q1, q2, q3, q4, q5, q6, q7⟩ := BoxN.new _ _ _ _ _ _ _ _ _ _ _ hB; obtain ⟨b, c, g, rfl, qa, qb, qf, hg, hput⟩ := hT.put (i := s.size) (j := s.size) (by omega) (by omega); have HP := Lib.hid (hput _ (Below.refl _ _) true); have HG := Lib.hid hg; have HB := Lib.hid hB; clear hT hB hput hg)
  go_ret
  exact ⟨_, rfl, (HP.out.same fun i j _ _ => put_point s.size i j).base (by simp), (((Below.refl _ _).alloc (Nat.le_refl _) _).trans (HB.out.mono (by simp))).setCell (by have := HG.out; simp at this; show _ ≤ g; omega) _⟩
end Pr
end
section
open Go.RowKit
namespace Pr
open Cm Rx Au Se Th
/-- Where the kids and their tables stand. -/
def KidsAt (w : World) (b off b2 off2 n : Nat) (kids : List Int) (ts : List Tb) : Prop := ∀ W, Below w.heap.size w W → ∀ q (h : q < kids.length), ∃ (m : Nat) (u : Value), kids[q] = (m : Int) ∧ m < ts.length ∧ W.cell? ⟨b, off + q, none⟩ = some (.int .i64 (m : Int)) ∧ W.cell? ⟨b2, off2 + m, none⟩ = some u ∧ RdT W u n (getB ts (m : Int))
theorem KidsAt.of {w : World} {kv va : Value} {n : Nat} {kids : List Int} {ts : List Tb} (hk : RdV w kv (intsV kids)) (ha : RdAll w va n ts) (hp : 0 < kids.length) (hkd : ∀ k ∈ kids, 0 ≤ k ∧ k < (ts.length : Int)) :
    ∃ b off c b2 off2 c2, kv = .slice (some ⟨b, off, none⟩) kids.length c ∧ va = .slice (some ⟨b2, off2, none⟩) ts.length c2 ∧ KidsAt w b off b2 off2 n kids ts := by
  obtain ⟨A, c, rfl, _, hA⟩ := hk
  obtain ⟨vs, ⟨A2, c2, rfl, _, hA2⟩, hvl, hT⟩ := ha
  have h0 := hkd _ (List.getElem_mem hp)
  obtain ⟨b, off, rfl, hc⟩ := hA (by rw [intsV_len]; exact hp)
  obtain ⟨b2, off2, rfl, hc2⟩ := hA2 (by omega)
  refine ⟨b, off, c, b2, off2, c2, by rw [intsV_len], by rw [hvl], fun W hW q hq => ?_⟩
  obtain ⟨h1, h2⟩ := hkd _ (List.getElem_mem hq)
  obtain ⟨m, hm⟩ : ∃ m : Nat, kids[q] = m := ⟨kids[q].toNat, by omega⟩
  have hml : m < ts.length := by omega
  have k1 := hc q (by rw [intsV_len]; exact hq)
  have k2 := hc2 m (by omega)
  have e1 : (intsV kids)[q]'(by rw [intsV_len]; exact hq) = .int .i64 (m : Int) := by simp [intsV, hm]
  rw [e1] at k1
  refine ⟨m, vs[m]'(by omega), hm, hml, (hW.cell (p := ⟨b, off + q, none⟩) (Tx.cell_lt k1)).trans k1, (hW.cell (p := ⟨b2, off2 + m, none⟩) (Tx.cell_lt k2)).trans k2, ?_⟩
  have h3 := (hT m (by omega) hml).below hW
  have e2 : getB ts (m : Int) = ts[m] := by unfold getB; rw [Int.toNat_natCast, List.getD_eq_getElem?_getD, List.getElem?_eq_getElem hml]; rfl
  rw [e2]
  exact h3
set_option maxRecDepth 100000 in
set_option maxHeartbeats 8000000 in
theorem pairs_cat (nd : Nd) (kv va : Value) (s : ByteArray) (ts : List Tb) (w : World) (hs : s.size ≤ 100000) (hk : nd.kind = 4) (hrd : RdV w kv (intsV nd.kids)) (ha : RdAll w va s.size ts) (hp : 0 < nd.kids.length) (hkl : nd.kids.length ≤ 1000000) (_htl : ts.length ≤ 1000000) (hkd : ∀ k ∈ nd.kids, 0 ≤ k ∧ k < (ts.length : Int)) :
    Calls Try.prog 29 #[ndV nd kv, va, .string s] w (TbPost s.size (nd.kids.foldl (fun t k => compB s.size t (getB ts k)) (emptyB true)) w) := by
  obtain ⟨b, off, c, b2, off2, c2, rfl, rfl, hKA⟩ := KidsAt.of hrd ha hp hkd
  have HKA := Lib.hid hKA
  have HE := Lib.hid (fun w1 => empty_any s true w1 hs)
  have HC : Hid (∀ (va vb : Value) (a b : Tb) (w : World), RdT w va s.size a → RdT w vb s.size b → Calls Try.prog 48 #[va, vb] w (TbPost s.size (compB s.size a b) w)) := Lib.hid fun va vb a b w h1 h2 => compose_any va vb s.size a b w h1 h2 hs
  clear hrd ha hkd hKA
  unfold ndV
  generalize word nd.set 0 = x0
  generalize word nd.set 1 = x1
  generalize word nd.set 2 = x2
  generalize word nd.set 3 = x3
  rw [hk]
  generalize nd.mn = mn
  generalize nd.mx = mx
  generalize nd.kids = kids at *
  generalize hkn : kids.length = kn at *
  have HKn := Lib.hid hkn
  generalize htn : ts.length = tn at *
  have HTn := Lib.hid htn
  generalize s.size = n at *
  clear hkn htn hk
  go_enter Try.func29, Try.ntmps29
  go_wp2_with (go_at_call 46; refine (HE.out _).mono ?_; rintro e w1 ⟨v, rfl, hT, hB⟩; obtain ⟨q0, q1, q2, q3, q4, q5, q6, q7⟩ := BoxN.new _ _ _ _ _ _ _ _ _ _ _ hB; have HN := Lib.hid (BoxN.new _ _ _ _ _ _ _ _ _ _ _ hB); have HT := Lib.hid (hT.base (base' := w.heap.size) (by simp)); have HB := Lib.hid (((Below.refl w.heap.size w).alloc (Nat.le_refl _) _).trans (hB.mono (by simp))); clear hT hB)
  clear q1 q2 q3 q4 q5 q6
  go_loopw [7, 9] (fun v k' wr => ∃ q : Nat, q ≤ kn ∧ k' = .int .i64 (q : Int) ∧ Hid (Tbl wr w.heap.size v n (n + 1) ((kids.take q).foldl (fun t k => compB n t (getB ts k)) (emptyB true))) ∧ Hid (wr.cell? ⟨w.heap.size, 7, none⟩ = some (.slice (some ⟨b, off, none⟩) kn c)) ∧ Hid (Below w.heap.size w wr)) (fun _ k' _ => kn - (intOf k').toNat)
  case atStart => exact ⟨0, Nat.zero_le _, by go_num, HT, Lib.hid q7, HB⟩
  case round =>
    clear q0 q7 HT HB HN
    obtain ⟨q, hq, rfl, HT, HQ, HB⟩ := hrel
    have q7 := HQ.out
    have j0 : (0 : Int) ≤ (q : Int) := Int.natCast_nonneg _
    by_cases hqn : q < kn
    · have j1 : (q : Int) < (kn : Int) := by omega
      have hql : q < kids.length := by rw [HKn.out]; exact hqn
      obtain ⟨m, u, hm, hml, ka, kb, kr⟩ := HKA.out _ HB.out q hql
      rw [HTn.out] at hml
      have m0 : (0 : Int) ≤ (m : Int) := Int.natCast_nonneg _
      have m1 : (m : Int) < (tn : Int) := by omega
      have HCc := Lib.hid (HC.out _ _ _ _ _ (RdT.of HT.out) kr)
      have HF : Hid ((kids.take (q + 1)).foldl (fun t k => compB n t (getB ts k)) (emptyB true) = (fun (a b : Tb) => compB n a b) ((kids.take q).foldl (fun t k => compB n t (getB ts k)) (emptyB true)) (getB ts (m : Int))) := Lib.hid (by
        rw [List.take_succ_eq_append_getElem hql, List.foldl_append, hm]; rfl)
      clear kr
      go_wp2_with (go_at_call 48; refine HCc.out.mono ?_; rintro e w3 ⟨v3, rfl, hT3, hB3⟩; have HT3 := Lib.hid (hT3.base HB.out.size); have HB3 := Lib.hid (HB.out.trans (hB3.mono HB.out.size)); have HQ3 := Lib.hid ((hB3.cell (p := ⟨w.heap.size, 7, none⟩) (Tx.cell_lt HQ.out)).trans HQ.out); clear hT3 hB3)
      go_roundw
      case rel => exact ⟨q + 1, by omega, by go_num, Lib.hid (by rw [HF.out]; exact HT3.out), HQ3, HB3⟩
      case measure => simp [intOf]; omega
    · obtain rfl : q = kn := by omega
      go_wp2_with fail
      go_ret
      exact ⟨_, rfl, by have h := HT.out; rw [List.take_of_length_le (by rw [HKn.out]; exact Nat.le_refl _)] at h; exact h, HB.out⟩
set_option maxRecDepth 100000 in
set_option maxHeartbeats 8000000 in
theorem pairs_alt (nd : Nd) (kv va : Value) (s : ByteArray) (ts : List Tb) (w : World) (hs : s.size ≤ 100000) (hk : nd.kind = 5) (hrd : RdV w kv (intsV nd.kids)) (ha : RdAll w va s.size ts) (hp : 0 < nd.kids.length) (hkl : nd.kids.length ≤ 1000000) (_htl : ts.length ≤ 1000000) (hkd : ∀ k ∈ nd.kids, 0 ≤ k ∧ k < (ts.length : Int)) :
    Calls Try.prog 29 #[ndV nd kv, va, .string s] w (TbPost s.size (nd.kids.foldl (fun t k => uniB t (getB ts k)) (emptyB false)) w) := by
  obtain ⟨b, off, c, b2, off2, c2, rfl, rfl, hKA⟩ := KidsAt.of hrd ha hp hkd
  have HKA := Lib.hid hKA
  have HE := Lib.hid (fun w1 => empty_any s false w1 hs)
  have HC : Hid (∀ (va vb : Value) (a b : Tb) (w : World), RdT w va s.size a → RdT w vb s.size b → Calls Try.prog 49 #[va, vb] w (TbPost s.size (uniB a b) w)) := Lib.hid fun va vb a b w h1 h2 => union_any va vb s.size a b w h1 h2 hs
  clear hrd ha hkd hKA
  unfold ndV
  generalize word nd.set 0 = x0
  generalize word nd.set 1 = x1
  generalize word nd.set 2 = x2
  generalize word nd.set 3 = x3
  rw [hk]
  generalize nd.mn = mn
  generalize nd.mx = mx
  generalize nd.kids = kids at *
  generalize hkn : kids.length = kn at *
  have HKn := Lib.hid hkn
  generalize htn : ts.length = tn at *
  have HTn := Lib.hid htn
  generalize s.size = n at *
  clear hkn htn hk
  go_enter Try.func29, Try.ntmps29
  go_wp2_with (go_at_call 46; refine (HE.out _).mono ?_; rintro e w1 ⟨v, rfl, hT, hB⟩; obtain ⟨q0, q1, q2, q3, q4, q5, q6, q7⟩ := BoxN.new _ _ _ _ _ _ _ _ _ _ _ hB; have HN := Lib.hid (BoxN.new _ _ _ _ _ _ _ _ _ _ _ hB); have HT := Lib.hid (hT.base (base' := w.heap.size) (by simp)); have HB := Lib.hid (((Below.refl w.heap.size w).alloc (Nat.le_refl _) _).trans (hB.mono (by simp))); clear hT hB)
  clear q1 q2 q3 q4 q5 q6
  go_loopw [7, 10] (fun v k' wr => ∃ q : Nat, q ≤ kn ∧ k' = .int .i64 (q : Int) ∧ Hid (Tbl wr w.heap.size v n (n + 1) ((kids.take q).foldl (fun t k => uniB t (getB ts k)) (emptyB false))) ∧ Hid (wr.cell? ⟨w.heap.size, 7, none⟩ = some (.slice (some ⟨b, off, none⟩) kn c)) ∧ Hid (Below w.heap.size w wr)) (fun _ k' _ => kn - (intOf k').toNat)
  case atStart => exact ⟨0, Nat.zero_le _, by go_num, HT, Lib.hid q7, HB⟩
  case round =>
    clear q0 q7 HT HB HN
    obtain ⟨q, hq, rfl, HT, HQ, HB⟩ := hrel
    have q7 := HQ.out
    have j0 : (0 : Int) ≤ (q : Int) := Int.natCast_nonneg _
    by_cases hqn : q < kn
    · have j1 : (q : Int) < (kn : Int) := by omega
      have hql : q < kids.length := by rw [HKn.out]; exact hqn
      obtain ⟨m, u, hm, hml, ka, kb, kr⟩ := HKA.out _ HB.out q hql
      rw [HTn.out] at hml
      have m0 : (0 : Int) ≤ (m : Int) := Int.natCast_nonneg _
      have m1 : (m : Int) < (tn : Int) := by omega
      have HCc := Lib.hid (HC.out _ _ _ _ _ (RdT.of HT.out) kr)
      have HF : Hid ((kids.take (q + 1)).foldl (fun t k => uniB t (getB ts k)) (emptyB false) = (fun (a b : Tb) => uniB a b) ((kids.take q).foldl (fun t k => uniB t (getB ts k)) (emptyB false)) (getB ts (m : Int))) := Lib.hid (by
        rw [List.take_succ_eq_append_getElem hql, List.foldl_append, hm]; rfl)
      clear kr
      go_wp2_with (go_at_call 49; refine HCc.out.mono ?_; rintro e w3 ⟨v3, rfl, hT3, hB3⟩; have HT3 := Lib.hid (hT3.base HB.out.size); have HB3 := Lib.hid (HB.out.trans (hB3.mono HB.out.size)); have HQ3 := Lib.hid ((hB3.cell (p := ⟨w.heap.size, 7, none⟩) (Tx.cell_lt HQ.out)).trans HQ.out); clear hT3 hB3)
      go_roundw
      case rel => exact ⟨q + 1, by omega, by go_num, Lib.hid (by rw [HF.out]; exact HT3.out), HQ3, HB3⟩
      case measure => simp [intOf]; omega
    · obtain rfl : q = kn := by omega
      go_wp2_with fail
      go_ret
      exact ⟨_, rfl, by have h := HT.out; rw [List.take_of_length_le (by rw [HKn.out]; exact Nat.le_refl _)] at h; exact h, HB.out⟩
end Pr
end
section
open Go.RowKit
namespace Pr
open Cm Rx Au Se Th
set_option maxRecDepth 100000 in
set_option maxHeartbeats 8000000 in
theorem pairs_star (nd : Nd) (kv va : Value) (s : ByteArray) (ts : List Tb) (w : World) (m : Nat) (hs : s.size ≤ 100000) (hk : nd.kind = 6) (hrd : RdV w kv (intsV nd.kids)) (ha : RdAll w va s.size ts) (hk1 : nd.kids.length = 1) (hkd : ∀ k ∈ nd.kids, 0 ≤ k ∧ k < (ts.length : Int)) (hmn : nd.mn = (m : Int)) (hmb : m ≤ 100) (hmx : nd.mx = -1) :
    Calls Try.prog 29 #[ndV nd kv, va, .string s] w (TbPost s.size (iterB (fun t => uniB t (compB s.size t (getB ts (nd.kids.headD 0)))) (s.size + 1) (iterB (fun t => compB s.size t (getB ts (nd.kids.headD 0))) m (emptyB true))) w) := by
  obtain ⟨b, off, c, b2, off2, c2, rfl, rfl, hKA⟩ := KidsAt.of hrd ha (by omega) hkd
  have HKA := Lib.hid hKA
  have HE := Lib.hid (fun w1 => empty_any s true w1 hs)
  have HC : Hid (∀ (va vb : Value) (a b : Tb) (w : World), RdT w va s.size a → RdT w vb s.size b → Calls Try.prog 48 #[va, vb] w (TbPost s.size (compB s.size a b) w)) := Lib.hid fun va vb a b w h1 h2 => compose_any va vb s.size a b w h1 h2 hs
  have HU : Hid (∀ (va vb : Value) (a b : Tb) (w : World), RdT w va s.size a → RdT w vb s.size b → Calls Try.prog 49 #[va, vb] w (TbPost s.size (uniB a b) w)) := Lib.hid fun va vb a b w h1 h2 => union_any va vb s.size a b w h1 h2 hs
  clear hrd ha hkd hKA
  unfold ndV
  generalize word nd.set 0 = x0
  generalize word nd.set 1 = x1
  generalize word nd.set 2 = x2
  generalize word nd.set 3 = x3
  rw [hk, hmn, hmx, hk1]
  obtain ⟨z, hz⟩ : ∃ z, nd.kids = [z] := List.length_eq_one_iff.1 hk1
  rw [hz] at HKA ⊢
  have HKZ : Hid (∀ W, Below w.heap.size w W → ∃ (p : Nat) (u : Value), z = (p : Int) ∧ p < ts.length ∧ W.cell? ⟨b, off, none⟩ = some (.int .i64 (p : Int)) ∧ W.cell? ⟨b2, off2 + p, none⟩ = some u ∧ RdT W u s.size (getB ts (p : Int))) := Lib.hid fun W hW => by
    obtain ⟨p, u, h1, h2, h3, h4, h5⟩ := HKA.out W hW 0 (by simp)
    exact ⟨p, u, h1, h2, h3, h4, h5⟩
  clear HKA hz hk1 hk hmn hmx
  show Calls _ _ _ _ (TbPost s.size (iterB (fun t => uniB t (compB s.size t (getB ts z))) (s.size + 1) (iterB (fun t => compB s.size t (getB ts z)) m (emptyB true))) w)
  generalize htn : ts.length = tn at *
  generalize hsn : s.size = n at *
  have n0 : (0 : Int) ≤ (n : Int) := Int.natCast_nonneg _
  have mm0 : (0 : Int) ≤ (m : Int) := Int.natCast_nonneg _
  have e2 : (-1 : Int) < 0 := by decide
  go_enter Try.func29, Try.ntmps29
  go_wp2_with (go_at_call 46; refine (HE.out _).mono ?_; rintro e w1 ⟨v, rfl, hT, hB⟩; obtain ⟨q0, q1, q2, q3, q4, q5, q6, q7⟩ := BoxN.new _ _ _ _ _ _ _ _ _ _ _ hB; have HN := Lib.hid (And.intro q5 q6); have HT := Lib.hid (hT.base (base' := w.heap.size) (by simp)); have hB1 := (((Below.refl w.heap.size w).alloc (Nat.le_refl _) _).trans (hB.mono (by simp))); obtain ⟨p, u, hp, hpl, ka, kb, kr⟩ := HKZ.out _ hB1; have HB := Lib.hid hB1; have HK := Lib.hid kr; have p0 : (0 : Int) ≤ (p : Int) := Int.natCast_nonneg _; have p1 : (p : Int) < (tn : Int) := (by omega); clear hT hB hB1 kr)
  clear q0 q1 q2 q3 q4 ka kb
  subst hp
  have HKW : Hid (∀ W, Below w1.heap.size w1 W → RdT W u n (getB ts (p : Int))) := Lib.hid fun W hW => HK.out.below hW
  clear HK
  go_loopw [7, 12] (fun v k' wr => ∃ q : Nat, q ≤ m ∧ k' = .int .i64 (q : Int) ∧ Hid (Tbl wr w.heap.size v n (n + 1) (iterB (fun t => compB n t (getB ts (p : Int))) q (emptyB true))) ∧ Hid (wr.cell? ⟨w.heap.size, 5, none⟩ = some (.int .i64 (m : Int)) ∧ wr.cell? ⟨w.heap.size, 6, none⟩ = some (.int .i64 (-1))) ∧ Hid (Below w1.heap.size w1 wr)) (fun _ k' _ => m - (intOf k').toNat)
  case atStart => exact ⟨0, Nat.zero_le _, by go_num, HT, HN, Lib.hid (Below.refl _ _)⟩
  case round =>
    clear q5 q6 q7 HT HN
    obtain ⟨wo, rfl⟩ : ∃ wo, wo = wr := ⟨wr, rfl⟩
    obtain ⟨q, hq, rfl, HT, HQ, HBr⟩ := hrel
    obtain ⟨q5, q6⟩ := HQ.out
    have j0 : (0 : Int) ≤ (q : Int) := Int.natCast_nonneg _
    have hwr : w.heap.size ≤ wo.heap.size := Nat.le_trans HB.out.size HBr.out.size
    by_cases hqn : q < m
    · have j1 : (q : Int) < (m : Int) := by omega
      have HCc := Lib.hid (HC.out _ _ _ _ _ (RdT.of HT.out) (HKW.out _ HBr.out))
      go_wp2_with (go_at_call 48; refine HCc.out.mono ?_; rintro e w3 ⟨v3, rfl, hT3, hB3⟩; have HT3 := Lib.hid (hT3.base hwr); have HB3 := Lib.hid (HBr.out.trans (hB3.mono HBr.out.size)); have HQ3 := Lib.hid (And.intro ((hB3.cell (p := ⟨w.heap.size, 5, none⟩) (Tx.cell_lt q5)).trans q5) ((hB3.cell (p := ⟨w.heap.size, 6, none⟩) (Tx.cell_lt q6)).trans q6)); clear hT3 hB3)
      go_roundw
      case rel => exact ⟨q + 1, by omega, by go_num, HT3, HQ3, HB3⟩
      case measure => simp [intOf]; omega
    · obtain rfl : q = m := by omega
      clear HQ
      go_wp2_with fail
      go_loopw [7, 14] (fun v k' wr => ∃ r : Nat, r ≤ n + 1 ∧ k' = .int .i64 (r : Int) ∧ Hid (Tbl wr w.heap.size v n (n + 1) (iterB (fun t => uniB t (compB n t (getB ts (p : Int)))) r (iterB (fun t => compB n t (getB ts (p : Int))) q (emptyB true)))) ∧ Hid (Below w1.heap.size w1 wr)) (fun _ k' _ => n + 1 - (intOf k').toNat)
      case atStart => exact ⟨0, Nat.zero_le _, by go_num, HT, HBr⟩
      case round =>
        clear HT HBr q5 q6 hwr
        obtain ⟨r, hr, rfl, HT, HBr⟩ := hrel
        have k0 : (0 : Int) ≤ (r : Int) := Int.natCast_nonneg _
        have hwr : w.heap.size ≤ wr.heap.size := Nat.le_trans HB.out.size HBr.out.size
        by_cases hrn : r < n + 1
        · have k1 : (r : Int) < ((n : Int) + 1) := by omega
          have HCc := Lib.hid (HC.out _ _ _ _ _ (RdT.of HT.out) (HKW.out _ HBr.out))
          have HUc := Lib.hid (fun (v3 : Value) (w3 : World) (hb : Below wr.heap.size wr w3) (h3 : RdT w3 v3 n (compB n (iterB (fun t => uniB t (compB n t (getB ts (p : Int)))) r (iterB (fun t => compB n t (getB ts (p : Int))) q (emptyB true))) (getB ts (p : Int)))) => HU.out _ v3 _ _ w3 ((RdT.of HT.out).below hb) h3)
          go_wp2_with (first
            | (go_at_call 48; refine HCc.out.mono ?_; rintro e w3 ⟨v3, rfl, hT3, hB3⟩; have HUd := Lib.hid (HUc.out v3 w3 hB3 (RdT.of hT3)); have HB3 := Lib.hid hB3; clear hT3 hB3)
            | (go_at_call 49; refine HUd.out.mono ?_; rintro e w4 ⟨v4, rfl, hT4, hB4⟩; have HT4 := Lib.hid (hT4.base (Nat.le_trans hwr HB3.out.size)); have HB4 := Lib.hid (HBr.out.trans ((HB3.out.trans (hB4.mono HB3.out.size)).mono HBr.out.size)); clear hT4 hB4))
          go_roundw
          case rel => exact ⟨r + 1, by omega, by go_num, HT4, HB4⟩
          case measure => simp [intOf]; omega
        · obtain rfl : r = n + 1 := by omega
          go_wp2_with fail
          go_ret
          exact ⟨_, rfl, HT.out, HB.out.trans (HBr.out.mono HB.out.size)⟩
set_option maxRecDepth 100000 in
set_option maxHeartbeats 8000000 in
theorem pairs_upto (nd : Nd) (kv va : Value) (s : ByteArray) (ts : List Tb) (w : World) (m d : Nat) (hs : s.size ≤ 100000) (hk : nd.kind = 6) (hrd : RdV w kv (intsV nd.kids)) (ha : RdAll w va s.size ts) (hk1 : nd.kids.length = 1) (hkd : ∀ k ∈ nd.kids, 0 ≤ k ∧ k < (ts.length : Int)) (hmn : nd.mn = (m : Int)) (hmb : m ≤ 100) (hmx : nd.mx = (m : Int) + (d : Int)) (hdb : d ≤ 100) :
    Calls Try.prog 29 #[ndV nd kv, va, .string s] w (TbPost s.size (iterB (fun t => uniB t (compB s.size t (getB ts (nd.kids.headD 0)))) (d) (iterB (fun t => compB s.size t (getB ts (nd.kids.headD 0))) m (emptyB true))) w) := by
  obtain ⟨b, off, c, b2, off2, c2, rfl, rfl, hKA⟩ := KidsAt.of hrd ha (by omega) hkd
  have HKA := Lib.hid hKA
  have HE := Lib.hid (fun w1 => empty_any s true w1 hs)
  have HC : Hid (∀ (va vb : Value) (a b : Tb) (w : World), RdT w va s.size a → RdT w vb s.size b → Calls Try.prog 48 #[va, vb] w (TbPost s.size (compB s.size a b) w)) := Lib.hid fun va vb a b w h1 h2 => compose_any va vb s.size a b w h1 h2 hs
  have HU : Hid (∀ (va vb : Value) (a b : Tb) (w : World), RdT w va s.size a → RdT w vb s.size b → Calls Try.prog 49 #[va, vb] w (TbPost s.size (uniB a b) w)) := Lib.hid fun va vb a b w h1 h2 => union_any va vb s.size a b w h1 h2 hs
  clear hrd ha hkd hKA
  unfold ndV
  generalize word nd.set 0 = x0
  generalize word nd.set 1 = x1
  generalize word nd.set 2 = x2
  generalize word nd.set 3 = x3
  rw [hk, hmn, hmx, hk1]
  obtain ⟨z, hz⟩ : ∃ z, nd.kids = [z] := List.length_eq_one_iff.1 hk1
  rw [hz] at HKA ⊢
  have HKZ : Hid (∀ W, Below w.heap.size w W → ∃ (p : Nat) (u : Value), z = (p : Int) ∧ p < ts.length ∧ W.cell? ⟨b, off, none⟩ = some (.int .i64 (p : Int)) ∧ W.cell? ⟨b2, off2 + p, none⟩ = some u ∧ RdT W u s.size (getB ts (p : Int))) := Lib.hid fun W hW => by
    obtain ⟨p, u, h1, h2, h3, h4, h5⟩ := HKA.out W hW 0 (by simp)
    exact ⟨p, u, h1, h2, h3, h4, h5⟩
  clear HKA hz hk1 hk hmn hmx
  show Calls _ _ _ _ (TbPost s.size (iterB (fun t => uniB t (compB s.size t (getB ts z))) (d) (iterB (fun t => compB s.size t (getB ts z)) m (emptyB true))) w)
  generalize htn : ts.length = tn at *
  generalize hsn : s.size = n at *
  have n0 : (0 : Int) ≤ (n : Int) := Int.natCast_nonneg _
  have mm0 : (0 : Int) ≤ (m : Int) := Int.natCast_nonneg _
  have dd0 : (0 : Int) ≤ (d : Int) := Int.natCast_nonneg _
  have ed : wrap64 ((m : Int) + (d : Int) - (m : Int)) = (d : Int) := by unfold wrap64; omega
  have e2 : ¬ (m : Int) + (d : Int) < 0 := by omega
  go_enter Try.func29, Try.ntmps29
  go_wp2_with (go_at_call 46; refine (HE.out _).mono ?_; rintro e w1 ⟨v, rfl, hT, hB⟩; obtain ⟨q0, q1, q2, q3, q4, q5, q6, q7⟩ := BoxN.new _ _ _ _ _ _ _ _ _ _ _ hB; have HN := Lib.hid (And.intro q5 q6); have HT := Lib.hid (hT.base (base' := w.heap.size) (by simp)); have hB1 := (((Below.refl w.heap.size w).alloc (Nat.le_refl _) _).trans (hB.mono (by simp))); obtain ⟨p, u, hp, hpl, ka, kb, kr⟩ := HKZ.out _ hB1; have HB := Lib.hid hB1; have HK := Lib.hid kr; have p0 : (0 : Int) ≤ (p : Int) := Int.natCast_nonneg _; have p1 : (p : Int) < (tn : Int) := (by omega); clear hT hB hB1 kr)
  clear q0 q1 q2 q3 q4 ka kb
  subst hp
  have HKW : Hid (∀ W, Below w1.heap.size w1 W → RdT W u n (getB ts (p : Int))) := Lib.hid fun W hW => HK.out.below hW
  clear HK
  go_loopw [7, 12] (fun v k' wr => ∃ q : Nat, q ≤ m ∧ k' = .int .i64 (q : Int) ∧ Hid (Tbl wr w.heap.size v n (n + 1) (iterB (fun t => compB n t (getB ts (p : Int))) q (emptyB true))) ∧ Hid (wr.cell? ⟨w.heap.size, 5, none⟩ = some (.int .i64 (m : Int)) ∧ wr.cell? ⟨w.heap.size, 6, none⟩ = some (.int .i64 ((m : Int) + (d : Int)))) ∧ Hid (Below w1.heap.size w1 wr)) (fun _ k' _ => m - (intOf k').toNat)
  case atStart => exact ⟨0, Nat.zero_le _, by go_num, HT, HN, Lib.hid (Below.refl _ _)⟩
  case round =>
    clear q5 q6 q7 HT HN
    obtain ⟨wo, rfl⟩ : ∃ wo, wo = wr := ⟨wr, rfl⟩
    obtain ⟨q, hq, rfl, HT, HQ, HBr⟩ := hrel
    obtain ⟨q5, q6⟩ := HQ.out
    have j0 : (0 : Int) ≤ (q : Int) := Int.natCast_nonneg _
    have hwr : w.heap.size ≤ wo.heap.size := Nat.le_trans HB.out.size HBr.out.size
    by_cases hqn : q < m
    · have j1 : (q : Int) < (m : Int) := by omega
      have HCc := Lib.hid (HC.out _ _ _ _ _ (RdT.of HT.out) (HKW.out _ HBr.out))
      go_wp2_with (go_at_call 48; refine HCc.out.mono ?_; rintro e w3 ⟨v3, rfl, hT3, hB3⟩; have HT3 := Lib.hid (hT3.base hwr); have HB3 := Lib.hid (HBr.out.trans (hB3.mono HBr.out.size)); have HQ3 := Lib.hid (And.intro ((hB3.cell (p := ⟨w.heap.size, 5, none⟩) (Tx.cell_lt q5)).trans q5) ((hB3.cell (p := ⟨w.heap.size, 6, none⟩) (Tx.cell_lt q6)).trans q6)); clear hT3 hB3)
      go_roundw
      case rel => exact ⟨q + 1, by omega, by go_num, HT3, HQ3, HB3⟩
      case measure => simp [intOf]; omega
    · obtain rfl : q = m := by omega
      clear HQ
      go_wp2_with fail
      go_loopw [7, 14] (fun v k' wr => ∃ r : Nat, r ≤ d ∧ k' = .int .i64 (r : Int) ∧ Hid (Tbl wr w.heap.size v n (n + 1) (iterB (fun t => uniB t (compB n t (getB ts (p : Int)))) r (iterB (fun t => compB n t (getB ts (p : Int))) q (emptyB true)))) ∧ Hid (Below w1.heap.size w1 wr)) (fun _ k' _ => d - (intOf k').toNat)
      case atStart => exact ⟨0, Nat.zero_le _, by go_num, HT, HBr⟩
      case round =>
        clear HT HBr q5 q6 hwr
        obtain ⟨r, hr, rfl, HT, HBr⟩ := hrel
        have k0 : (0 : Int) ≤ (r : Int) := Int.natCast_nonneg _
        have hwr : w.heap.size ≤ wr.heap.size := Nat.le_trans HB.out.size HBr.out.size
        by_cases hrn : r < d
        · have k1 : (r : Int) < ((d : Int)) := by omega
          have HCc := Lib.hid (HC.out _ _ _ _ _ (RdT.of HT.out) (HKW.out _ HBr.out))
          have HUc := Lib.hid (fun (v3 : Value) (w3 : World) (hb : Below wr.heap.size wr w3) (h3 : RdT w3 v3 n (compB n (iterB (fun t => uniB t (compB n t (getB ts (p : Int)))) r (iterB (fun t => compB n t (getB ts (p : Int))) q (emptyB true))) (getB ts (p : Int)))) => HU.out _ v3 _ _ w3 ((RdT.of HT.out).below hb) h3)
          go_wp2_with (first
            | (go_at_call 48; refine HCc.out.mono ?_; rintro e w3 ⟨v3, rfl, hT3, hB3⟩; have HUd := Lib.hid (HUc.out v3 w3 hB3 (RdT.of hT3)); have HB3 := Lib.hid hB3; clear hT3 hB3)
            | (go_at_call 49; refine HUd.out.mono ?_; rintro e w4 ⟨v4, rfl, hT4, hB4⟩; have HT4 := Lib.hid (hT4.base (Nat.le_trans hwr HB3.out.size)); have HB4 := Lib.hid (HBr.out.trans ((HB3.out.trans (hB4.mono HB3.out.size)).mono HBr.out.size)); clear hT4 hB4))
          go_roundw
          case rel => exact ⟨r + 1, by omega, by go_num, HT4, HB4⟩
          case measure => simp [intOf]; omega
        · obtain rfl : r = d := by omega
          go_wp2_with fail
          go_ret
          exact ⟨_, rfl, HT.out, HB.out.trans (HBr.out.mono HB.out.size)⟩
end Pr
end
section
open Go.RowKit
namespace Pr
open Cm Rx Au Se Th Tx
/-- The first q rows of a set's table. -/
def setUp (l : List UInt8) (g : Nat → Bool) (q : Nat) : Tb := fun i j => decide (i < q) && setB l g i j
theorem setUp_succ {l : List UInt8} {g : Nat → Bool} {q : Nat} (hq : q < l.length) (i j : Nat) : putT (setUp l g q) q (q + 1) (g l[q].toNat) i j = setUp l g (q + 1) i j := by
  unfold putT setUp
  by_cases h : i = q
  · subst h
    by_cases h2 : j = i + 1
    · rw [if_pos ⟨rfl, h2⟩]
      unfold setB
      rw [List.getElem?_eq_getElem hq]
      simp [h2]
    · rw [if_neg (fun h3 => h2 h3.2)]
      unfold setB
      simp [h2]
  · rw [if_neg (fun h3 => h h3.1)]
    have e : decide (i < q) = decide (i < q + 1) := by rw [decide_eq_decide]; omega
    rw [e]
theorem setUp_all {l : List UInt8} {g : Nat → Bool} (i j : Nat) : setUp l g l.length i j = setB l g i j := by
  unfold setUp
  by_cases h : i < l.length
  · simp [h]
  · unfold setB
    rw [List.getElem?_eq_none (by omega)]
    simp
theorem BoxN.setNe {w : World} {b g : Nat} {c0 c1 c2 c3 c4 c5 c6 c7 : Value} (h : BoxN w b c0 c1 c2 c3 c4 c5 c6 c7) (hne : b ≠ g) (p : Nat) (v : Value) : BoxN (w.setCell ⟨g, p, none⟩ v) b c0 c1 c2 c3 c4 c5 c6 c7 := by
  have e : ∀ j, (w.setCell ⟨g, p, none⟩ v).cell? ⟨b, j, none⟩ = w.cell? ⟨b, j, none⟩ := fun j => World.cell?_of_block (Below.heap_setCell _ _ _ _ hne)
  unfold BoxN
  rw [e, e, e, e, e, e, e, e]
  exact h
set_option maxRecDepth 100000 in
set_option maxHeartbeats 16000000 in
theorem pairs_set (nd : Nd) (kv va : Value) (s : ByteArray) (w : World) (hs : s.size ≤ 100000) (hk : nd.kind = 1) : Calls Try.prog 29 #[ndV nd kv, va, .string s] w (TbPost s.size (setB (bs s) nd.set) w) := by
  have HE := Lib.hid (fun w1 => empty_any s false w1 hs)
  have HHas := Lib.hid (fun c w => Has_any nd.set c w)
  have HStep : Hid (∀ q (h : q < s.size) i j, putT (setUp (bs s) nd.set q) q (q + 1) (nd.set s[q].toNat) i j = setUp (bs s) nd.set (q + 1) i j) := Lib.hid fun q h i j => by
    have h2 : q < (bs s).length := by rw [bs_len]; exact h
    have e : (bs s)[q] = s[q] := rfl
    rw [← e]
    exact setUp_succ h2 i j
  have HAll : Hid (∀ i j, setUp (bs s) nd.set s.size i j = setB (bs s) nd.set i j) := Lib.hid fun i j => by
    have e : (bs s).length = s.size := bs_len s
    rw [← e]
    exact setUp_all i j
  have HZero : Hid (∀ i j, emptyB false i j = setUp (bs s) nd.set 0 i j) := Lib.hid fun i j => by unfold emptyB setUp; simp
  unfold ndV
  unfold setV at HHas
  generalize word nd.set 0 = x0 at *
  generalize word nd.set 1 = x1 at *
  generalize word nd.set 2 = x2 at *
  generalize word nd.set 3 = x3 at *
  rw [hk]
  have n0 : (0 : Int) ≤ (s.size : Int) := Int.natCast_nonneg _
  go_enter Try.func29, Try.ntmps29
  go_wp2_with (go_at_call 46; refine (HE.out _).mono ?_; rintro e w1 ⟨v, rfl, hT, hB⟩; obtain ⟨q0, q1, q2, q3, q4, q5, q6, q7⟩ := BoxN.new _ _ _ _ _ _ _ _ _ _ _ hB; have HN := Lib.hid (BoxN.new _ _ _ _ _ _ _ _ _ _ _ hB); have HT := Lib.hid ((hT.same fun i j _ _ => HZero.out i j).base (base' := w.heap.size + 1) (by simp)); have HB := Lib.hid (((Below.refl w.heap.size w).alloc (Nat.le_refl _) _).trans (hB.mono (by simp))); obtain ⟨A', c', hf⟩ := HT.out.form; subst hf; clear hT hB)
  clear q1 q2 q3 q4 q5 q6 q7 q0
  go_loopw [8] (fun i' wr => ∃ q : Nat, q ≤ s.size ∧ i' = .int .i64 (q : Int) ∧ Hid (Tbl wr (w.heap.size + 1) (.slice A' (s.size + 1) c') s.size (s.size + 1) (setUp (bs s) nd.set q)) ∧ Hid (BoxN wr w.heap.size (.int .i64 1) (.int .u64 (x0 : Nat)) (.int .u64 (x1 : Nat)) (.int .u64 (x2 : Nat)) (.int .u64 (x3 : Nat)) (.int .i64 nd.mn) (.int .i64 nd.mx) kv) ∧ Hid (Below w.heap.size w wr)) (fun i' _ => s.size - (intOf i').toNat)
  case atStart => exact ⟨0, Nat.zero_le _, by go_num, HT, HN, HB⟩
  case round =>
    clear HT HN HB
    obtain ⟨q, hq, rfl, HT, HN, HB⟩ := hrel
    have j0 : (0 : Int) ≤ (q : Int) := Int.natCast_nonneg _
    by_cases hqn : q < s.size
    · have j1 : (q : Int) < (s.size : Int) := by omega
      have j2 : (q : Int) < (s.size : Int) + 1 := by omega
      obtain ⟨p, hp⟩ : ∃ p, p = q + 1 := ⟨_, rfl⟩
      have HPq := Lib.hid hp
      have j3 : (p : Int) < (s.size : Int) + 1 := by omega
      have j4 : (0 : Int) ≤ (p : Int) := Int.natCast_nonneg _
      have jw : IntKind.i64.wrap ((q : Int) + 1) = (p : Int) := by
        rw [IntWalk.i64_in _ (by omega)]; omega
      obtain ⟨r0, r1, r2, r3, r4, r5, r6, r7⟩ := HN.out
      obtain ⟨b, c, g, e, qa, qb, qf, hg, hput⟩ := HT.out.put (i := q) (j := p) (by omega) (by omega)
      cases e
      have HPut := Lib.hid (fun W hW => hput W hW (nd.set s[q].toNat))
      clear hput hp
      have HBd : Hid (Below wr.heap.size wr wr.drew) := Lib.hid (Below.refl _ wr).drew
      go_wp2_with fail
      go_region_with (go_at_call 47; refine (HHas.out _ _).mono ?_; rintro e w3 ⟨rfl, hB3⟩; have qa3 := (hB3.cell (p := ⟨b, q, none⟩) (Tx.cell_lt qa)).trans qa; have qb3 := (hB3.cell (p := ⟨g, p, none⟩) (Tx.cell_lt qb)).trans qb; have qf3 := (hB3.frozen (p := ⟨g, p, none⟩) (Tx.cell_lt qb)).trans qf; have HB3 := Lib.hid hB3; clear hB3)
      all_goals
        have hBw := HBd.out.trans HB3.out
        have hNT := HPut.out _ hBw
        have HNT : Hid (Tbl (w3.setCell ⟨g, p, none⟩ (.bool (nd.set s[q].toNat))) (w.heap.size + 1) (.slice (some ⟨b, 0, none⟩) (s.size + 1) c') s.size (s.size + 1) (setUp (bs s) nd.set (q + 1))) := Lib.hid (hNT.same fun i j _ _ => by rw [HPq.out]; exact HStep.out q hqn i j)
        have hq1 : q + 1 ≤ s.size := hqn
        have HNN := Lib.hid ((HN.out.below hBw).setNe (show w.heap.size ≠ g by omega) p (.bool (nd.set s[q].toNat)))
        have HNB := Lib.hid ((HB.out.trans (hBw.mono HB.out.size)).setCell (p := ⟨g, p, none⟩) (show w.heap.size ≤ g by omega) (.bool (nd.set s[q].toNat)))
        clear hBw hNT
        go_wp2_with fail
        go_roundw
        case rel => exact ⟨q + 1, hq1, by have := HPq.out; first | (subst this; rfl) | go_num, HNT, HNN, HNB⟩
        case measure => have := HPq.out; simp [intOf]; omega
    · obtain rfl : q = s.size := by omega
      go_wp2_with fail
      go_ret
      exact ⟨_, rfl, (HT.out.same fun i j _ _ => HAll.out i j).base (by omega), HB.out⟩
end Pr
end
section
open Go.RowKit
namespace Pr
open Cm Rx Au Se Th Tx
theorem pairs_any (nd : Nd) (kv va : Value) (s : ByteArray) (ts : List Tb) (w : World) (hs : s.size ≤ 100000) (hf : FineP nd.kind nd.kids.length nd.mn nd.mx) (hrd : RdV w kv (intsV nd.kids)) (ha : RdAll w va s.size ts) (hkl : nd.kids.length ≤ 1000000) (htl : ts.length ≤ 1000000) (hkd : ∀ k ∈ nd.kids, 0 ≤ k ∧ k < (ts.length : Int)) :
    Calls Try.prog 29 #[ndV nd kv, va, .string s] w (TbPost s.size (nodeB (bs s) ts nd) w) := by
  have hbl : (bs s).length = s.size := bs_len s
  unfold nodeB
  rw [hbl]
  by_cases k1 : nd.kind = 1
  · rw [if_pos k1]; exact pairs_set nd kv va s w hs k1
  rw [if_neg k1]
  by_cases k2 : nd.kind = 2
  · rw [if_pos k2]; exact pairs_start nd kv va s w hs k2
  rw [if_neg k2]
  by_cases k3 : nd.kind = 3
  · rw [if_pos k3]; exact pairs_end nd kv va s w hs k3
  rw [if_neg k3]
  by_cases k4 : nd.kind = 4
  · have hp : 0 < nd.kids.length := by rcases hf with h | h | h <;> omega
    rw [if_pos k4]; exact pairs_cat nd kv va s ts w hs k4 hrd ha hp hkl htl hkd
  rw [if_neg k4]
  by_cases k5 : nd.kind = 5
  · have hp : 0 < nd.kids.length := by rcases hf with h | h | h <;> omega
    rw [if_pos k5]; exact pairs_alt nd kv va s ts w hs k5 hrd ha hp hkl htl hkd
  rw [if_neg k5]
  by_cases k6 : nd.kind = 6
  · rw [if_pos k6]
    have h6 : nd.kids.length = 1 ∧ 0 ≤ nd.mn ∧ nd.mn ≤ 100 ∧ (nd.mx = -1 ∨ (nd.mn ≤ nd.mx ∧ nd.mx ≤ 100)) := by
      rcases hf with h | h | h
      · exact h.2
      · omega
      · omega
    obtain ⟨g1, g2, g3, g4⟩ := h6
    obtain ⟨m, hm⟩ : ∃ m : Nat, nd.mn = (m : Int) := ⟨nd.mn.toNat, by omega⟩
    have hm2 : nd.mn.toNat = m := by omega
    rcases g4 with g4 | ⟨g4, g5⟩
    · have e : moreB s.size nd.mn nd.mx = s.size + 1 := by unfold moreB; rw [if_pos (by omega)]
      rw [e, hm2]
      exact pairs_star nd kv va s ts w m hs k6 hrd ha g1 hkd hm (by omega) g4
    · obtain ⟨d, hd⟩ : ∃ d : Nat, nd.mx = (m : Int) + (d : Int) := ⟨(nd.mx - nd.mn).toNat, by omega⟩
      have e : moreB s.size nd.mn nd.mx = d := by unfold moreB; rw [if_neg (by omega)]; omega
      rw [e, hm2]
      exact pairs_upto nd kv va s ts w m d hs k6 hrd ha g1 hkd hm (by omega) hd (by omega)
  rw [if_neg k6]
  have k0 : nd.kind = 0 := by rcases hf with h | h | h <;> omega
  exact pairs_empty nd kv va s w hs k0
abbrev tTab : TypeId := 40
abbrev tTabs : TypeId := 80
theorem info_tab : (Try.prog.info? tTab).map (fun i => (i.zero, i.size, i.bytes)) = some (some (.slice none 0 0), 1, 24) := by kernel_rfl
theorem Tbl.keptX {w w' : World} {base n k : Nat} {v : Value} {t : Tb} (h : Tbl w base v n k t) (hk : KeptX tTab tTab w w') : Tbl w' base v n k t := by
  obtain ⟨us, h1, h2, h3⟩ := h
  refine ⟨us, h1, KeptX.own h2 hk (by decide) (by decide), fun i hi => ⟨?_, (h3 i hi).2⟩⟩
  obtain ⟨g, e, hb, hB⟩ := (h3 i hi).1
  exact ⟨g, e, hb, (hk _ _ _ (by decide) (by decide) hB).trans hB⟩
structure TabsI (w : World) (base : Nat) (v : Value) (n k : Nat) (ts : List Tb) (vs : List Value) : Prop where
  own : w.ownsRow base tTab 1 v k vs
  len : vs.length = k
  tl : ts.length = k
  rd : ∀ i (h : i < vs.length) (h' : i < ts.length), Tbl w base vs[i] n (n + 1) ts[i]
theorem TabsI.all {w : World} {base n k : Nat} {v : Value} {ts : List Tb} {vs : List Value} (h : TabsI w base v n k ts vs) : RdAll w v n ts :=
  ⟨vs, RdV.of_own h.own, by rw [h.len, h.tl], fun i h1 h2 => RdT.of (h.rd i h1 h2)⟩
theorem TabsI.below {w w' : World} {base n k : Nat} {v : Value} {ts : List Tb} {vs : List Value} (h : TabsI w base v n k ts vs) (hb : Below w.heap.size w w') : TabsI w' base v n k ts vs :=
  ⟨own_below h.own hb, h.len, h.tl, fun i h1 h2 => (h.rd i h1 h2).below hb⟩
theorem TabsI.more {w w' : World} {base n k : Nat} {v v' u : Value} {ts : List Tb} {vs : List Value} {t : Tb} {C : Array Value} (h : TabsI w base v n k ts vs) (hu : Tbl w base u n (n + 1) t) (ho : w'.ownsRow base tTab 1 v' (k + 1) (vs ++ [u])) (hg : (w.alloc (.cells C tTab)).grownBy w' v.ownBlock) : TabsI w' base v' n (k + 1) (ts ++ [t]) (vs ++ [u]) := by
  have hk : KeptX tTab tTab w w' := (KeptX.alloc w (.cells C tTab)).trans (KeptX.grown (own_below h.own ((Below.refl _ _).alloc (Nat.le_refl _) _)) hg)
  refine ⟨ho, by rw [List.length_append, h.len]; rfl, by rw [List.length_append, h.tl]; rfl, fun i h1 h2 => ?_⟩
  by_cases hi : i < k
  · rw [List.getElem_append_left (by rw [h.len]; exact hi), List.getElem_append_left (by rw [h.tl]; exact hi)]
    exact (h.rd i _ _).keptX hk
  · have e : i = k := by rw [List.length_append, h.len] at h1; simp at h1; omega
    subst e
    rw [List.getElem_append_right (by rw [h.len]; exact Nat.le_refl _), List.getElem_append_right (by rw [h.tl]; exact Nat.le_refl _)]
    simp only [h.len, h.tl, Nat.sub_self, List.getElem_cons_zero]
    exact hu.keptX hk
theorem TabsI.nil (w : World) (base n : Nat) : TabsI w base (.slice none 0 0) n 0 [] [] := ⟨World.ownsRow_nil _ _ _ _, rfl, rfl, fun _ h => absurd h (Nat.not_lt_zero _)⟩
def PsPost (n : Nat) (t : Tb) (w : World) (e : Ending) (w' : World) : Prop := ∃ v, e = .returned v ∧ RdT w' v n t ∧ Below w.heap.size w w'
theorem RdN.at {w : World} {A : Option Addr} {N c : Nat} {ns : List Nd} (h : RdN w (.slice A N c) ns) {k : Nat} (hk : k < ns.length) : ∃ b off, A = some ⟨b, off, none⟩ ∧ NodeAt w b (off + k * 8) ns[k] := by
  obtain ⟨A', c', e, h1⟩ := h
  injection e with e1 _ _
  subst e1
  obtain ⟨b, off, rfl, h2⟩ := h1 (by omega)
  exact ⟨b, off, rfl, h2 k hk⟩
set_option maxRecDepth 100000 in
set_option maxHeartbeats 8000000 in
theorem Pairs_any (v : Value) (ns : List Nd) (s : ByteArray) (w : World) (h : RdN w v ns) (hv : Valid ns) (hkl : ∀ n ∈ ns, n.kids.length ≤ 1000000) (hs : s.size ≤ 100000) :
    Calls Try.prog 13 #[v, .string s] w (PsPost s.size (getB (langsB (bs s) ns) ((ns.length - 1 : Nat) : Int)) w) := by
  obtain ⟨A, c, rfl, hA⟩ := h
  have HR : Hid (RdN w (.slice A ns.length c) ns) := Lib.hid ⟨A, c, rfl, hA⟩
  clear hA
  obtain ⟨hv0, hv1, hv2⟩ := hv
  have HTk := Lib.hid (fun (k : Nat) (hk : k < ns.length) => tabG_take (step := nodeB (bs s)) hk)
  have HTl := Lib.hid (fun (k : Nat) => tabG_len (step := nodeB (bs s)) (ns.take k))
  have HP := Lib.hid (fun (k : Nat) (hk : k < ns.length) (kv va : Value) (wq : World) (hrd : RdV wq kv (intsV ns[k].kids)) (ha : RdAll wq va s.size (langsB (bs s) (ns.take k))) =>
    pairs_any ns[k] kv va s (langsB (bs s) (ns.take k)) wq hs ((fine_iff _).1 (hv2 k hk).2) hrd ha (hkl _ (List.getElem_mem hk)) (by rw [show (langsB (bs s) (ns.take k)).length = (ns.take k).length from tabG_len _, List.length_take]; omega)
      (by rw [show (langsB (bs s) (ns.take k)).length = (ns.take k).length from tabG_len _, List.length_take, Nat.min_eq_left (by omega)]; exact (hv2 k hk).1))
  have HEnd : Hid (langsB (bs s) (ns.take ns.length) = langsB (bs s) ns) := Lib.hid (by rw [List.take_length])
  unfold langsB at HP HEnd ⊢
  clear hv2 hkl
  generalize hn : s.size = n at *
  obtain ⟨N, hN⟩ : ∃ N, N = ns.length := ⟨_, rfl⟩
  rw [← hN] at HR HEnd hv0 hv1 ⊢
  have HN := Lib.hid hN
  clear hN hn
  go_enter Try.func13, Try.ntmps13
  go_wp2_with fail
  go_loopw [5, 6] (fun v' k' wr => ∃ (k : Nat) (vs : List Value), k ≤ N ∧ k' = .int .i64 (k : Int) ∧ Hid (TabsI wr w.heap.size v' n k (tabG (nodeB (bs s)) (ns.take k)) vs) ∧ Hid (Below w.heap.size w wr)) (fun _ k' _ => N - (intOf k').toNat)
  case atStart => exact ⟨0, [], Nat.zero_le _, rfl, Lib.hid (TabsI.nil _ _ _), Lib.hid (Below.refl _ _)⟩
  case round =>
    obtain ⟨k, vs, hk, rfl, HT, HB⟩ := hrel
    by_cases hlt : k < N
    · have hkn : k < ns.length := by rw [← HN.out]; exact hlt
      obtain ⟨b, off, rfl, kv, c0, c1, c2, c3, c4, c5, c6, c7, hkv⟩ := Pr.RdN.at (HR.out.below HB.out) hkn
      have HPk := Lib.hid (HP.out k hkn kv u5 wr hkv HT.out.all)
      have HTk2 := Lib.hid (HTk.out k hkn)
      unfold ndV at HPk
      generalize nodeB (bs s) (tabG (nodeB (bs s)) (ns.take k)) ns[k] = tk at *
      generalize tabG (nodeB (bs s)) (ns.take k) = ts at *
      generalize ns[k] = nd at *
      have i1 : (0 : Int) ≤ (k : Int) := by omega
      have i2 : (k : Int) < (N : Int) := by omega
      have i3 : decide (k < N) = true := decide_eq_true hlt
      have hsz := HB.out.size
      have HSz := Lib.hid hsz
      clear hkv hkn hsz
      go_wp2_with (first
        | (go_at_call 29; refine HPk.out.mono ?_; rintro e w1 ⟨v1, rfl, hT1, hB1⟩; obtain ⟨A1, c1', rfl⟩ := hT1.form; have HT1 := Lib.hid (hT1.base HSz.out); have HT0 := Lib.hid (HT.out.below hB1); have HB1 := Lib.hid (HB.out.trans (hB1.mono HSz.out)); clear hT1 hB1)
        | (at_builtin; refine app_one rfl Try.underlying80 info_tab rfl (by omega) (.tmp 13) (.tmp 21) rfl w.heap.size k vs (.slice A1 (n + 1) c1') rfl _ _ rfl HT0.out.own rfl rfl (by omega) HB1.out.size ?_; intro v3 w3 ho3 hb3 hg3; have HT3 := Lib.hid (HT0.out.more HT1.out ho3 hg3); have HB3 := Lib.hid (HB1.out.trans (hb3.mono (Nat.le_refl _))); clear ho3 hb3 hg3))
      go_roundw
      case rel => exact ⟨k + 1, _, by omega, by go_num, Lib.hid (by rw [HTk2.out]; exact HT3.out), HB3⟩
      case measure => simp [intOf]; omega
    · obtain rfl : k = N := by omega
      have i3 : decide (k < k) = false := decide_eq_false hlt
      have HT2 := HT
      rw [HEnd.out] at HT2
      have hvl := HT2.out.len
      have htl := HT2.out.tl
      obtain ⟨A5, c5, hu5⟩ := own_form HT2.out.own
      have h1 : k - 1 < vs.length := by omega
      have hR : RdT wr vs[k - 1] n (getB (tabG (nodeB (bs s)) ns) ((k - 1 : Nat) : Int)) := by
        have h2 : k - 1 < (tabG (nodeB (bs s)) ns).length := by omega
        have := RdT.of (HT2.out.rd (k - 1) h1 h2)
        unfold getB
        rw [Int.toNat_natCast, List.getD_eq_getElem?_getD, List.getElem?_eq_getElem h2, Option.getD_some]
        exact this
      have hrow : RdV wr u5 vs := RdV.of_own HT2.out.own
      subst hu5
      obtain ⟨-, b, off, e, hc⟩ := hrow.at (by omega)
      subst e
      have c1 := hc (k - 1) h1
      have HRt := Lib.hid hR
      obtain ⟨bv, ov, cv, ev, -⟩ := hR
      rw [ev] at c1 HRt
      have i4 : (1 : Int) ≤ (k : Int) := by omega
      clear hc hrow hvl htl h1 HT HT2 ev
      go_wp2_with fail
      go_ret
      exact ⟨_, rfl, HRt.out, HB.out⟩
end Pr
end
end Go.Proofs.Ytgadomcbaenodaa

/-
  Slices of hunks: how they read, slices that the call owns, append of one; blocks of cells that the call made. No conditions.
-/
import Derived.Test.YtlckdacmeandmaaHnkMath
import Derived.Test.YtlckdacmeandmaaScrBase
import Derived.Deep.OwnRows
import Derived.StillTailTactics
import Derived.WalkSpells
namespace Go.Proofs.Ytlckdacmeandmaa
open Go.RowKit
namespace Hn
open Cm Sc
abbrev tHk : TypeId := 43
abbrev tHks : TypeId := 27
abbrev tI : TypeId := 3
abbrev tB : TypeId := 4
def hkC (h : Hk) : List Value := [.int .i64 h.fst, .int .i64 h.lst, .int .i64 h.oF, .int .i64 h.oT, .int .i64 h.nF, .int .i64 h.nT]
def HkB (h : Hk) : Prop := zB h.fst ∧ zB h.lst ∧ zB h.oF ∧ zB h.oT ∧ zB h.nF ∧ zB h.nT
abbrev hkA (h : Hk) : Value := .agg #[.int .i64 h.fst, .int .i64 h.lst, .int .i64 h.oF, .int .i64 h.oT, .int .i64 h.nF, .int .i64 h.nT]
abbrev zeroHk : Value := .agg #[.int .i64 0, .int .i64 0, .int .i64 0, .int .i64 0, .int .i64 0, .int .i64 0]
theorem info_hk : (Try.prog.info? tHk).map (fun i => (i.zero, i.size, i.bytes)) = some (some zeroHk, 6, 48) := by kernel_rfl
theorem info_i : (Try.prog.info? tI).map (fun i => (i.zero, i.size, i.bytes)) = some (some (.int .i64 0), 1, 8) := by kernel_rfl
theorem info_b : (Try.prog.info? tB).map (fun i => (i.zero, i.size, i.bytes)) = some (some (.bool false), 1, 1) := by kernel_rfl
abbrev RdH := RdK 6 hkC
theorem hkC_len (h : Hk) : (hkC h).length = 6 := rfl
theorem RdH_at {w : World} {A : Option Addr} {n c : Nat} {l : List Hk} (h : RdH w (.slice A n c) l) (k : Nat) (hk : k < l.length) : ∃ b off, A = some ⟨b, off, none⟩ ∧
    w.cell? ⟨b, off + k * 6, none⟩ = some (.int .i64 l[k].fst) ∧ w.cell? ⟨b, off + k * 6 + 1, none⟩ = some (.int .i64 l[k].lst) ∧ w.cell? ⟨b, off + k * 6 + 2, none⟩ = some (.int .i64 l[k].oF) ∧ w.cell? ⟨b, off + k * 6 + 3, none⟩ = some (.int .i64 l[k].oT) ∧ w.cell? ⟨b, off + k * 6 + 4, none⟩ = some (.int .i64 l[k].nF) ∧ w.cell? ⟨b, off + k * 6 + 5, none⟩ = some (.int .i64 l[k].nT) := by
  obtain ⟨b, off, e, hc⟩ := h.at k hk
  exact ⟨b, off, e, hc 0 (show 0 < 6 by decide), hc 1 (show 1 < 6 by decide), hc 2 (show 2 < 6 by decide), hc 3 (show 3 < 6 by decide), hc 4 (show 4 < 6 by decide), hc 5 (show 5 < 6 by decide)⟩
def OwnH (base : Nat) (w : World) (v : Value) (l : List Hk) : Prop := w.ownsRow base tHk 6 v l.length (flatK hkC l)
theorem OwnH.rd {base : Nat} {w : World} {v : Value} {l : List Hk} (h : OwnH base w v l) : RdH w v l := RdK.of_own hkC_len h
theorem OwnH.below {base : Nat} {w w' : World} {v : Value} {l : List Hk} (h : OwnH base w v l) (hb : Below w.heap.size w w') : OwnH base w' v l := ownK_below h hb
theorem OwnH.nil (base : Nat) (w : World) : OwnH base w (.slice none 0 0) [] := World.ownsRow_nil _ _ _ _
theorem OwnH.base {base base' : Nat} {w : World} {v : Value} {l : List Hk} (h : OwnH base w v l) (hb : base' ≤ base) : OwnH base' w v l := ownK_base h hb
theorem OwnH.drewN {base : Nat} {w : World} {v : Value} {l : List Hk} (h : OwnH base w v l) (m : Nat) : OwnH base (w.drewN m) v l := h.below (below_drewN (Below.refl _ _) m)
theorem one_hk (h : Hk) : ∀ u ∈ hkC h, u.oneCell' = true := by
  intro u hu
  unfold hkC at hu
  simp only [List.mem_cons, List.not_mem_nil, or_false] at hu
  rcases hu with rfl | rfl | rfl | rfl | rfl | rfl
  all_goals rfl
theorem app_hk {ops : Array Oper} {rest : List Oper} {o : Oper} {a : Act} {Q : Exit → Act → World → Prop} {w : World} (hg : Region.wanted o (yielded ops a.tmps) = true)
    (s x : Operand) (ho : o.op = .call { callee := .builtin .append, args := #[s, x], argTypes := #[tHks, tHks] })
    (base : Nat) (l : List Hk) (c : Hk) (v : Value) (C : Array Value) (hs : a.eval s = v) (hown : OwnH base w v l)
    {g : Nat} (hz : w.heap.size = g) (hx : a.eval x = .slice (some ⟨g, 0, none⟩) 1 1) (hC : C.toList = hkC c)
    (hsz : l.length + 1 ≤ 1000000) (hbase : base ≤ w.heap.size)
    (h : ∀ v' w', OwnH base w' v' (l ++ [c]) → Below base w w' → (w.alloc (.cells C tHk)).grownBy w' v.ownBlock → wpList Try.prog ops Q rest (a.put o.dst v') w') :
    wpList Try.prog ops Q (o :: rest) a (w.alloc (.cells C tHk)) :=
  app_k (by decide) hg Try.underlying27 info_hk rfl (by decide) s x ho base l.length (flatK hkC l) (hkC c) rfl (one_hk c) v C hs hown (by rw [hz]; exact hx) hC hsz hbase
    (fun v' w' h1 h2 h3 => h v' w' (by unfold OwnH; rw [List.length_append, List.length_singleton, flatK_snoc]; exact h1) h2 h3)
/-- A block that holds these cells. -/
def Blk (w : World) (G : Nat) (t : TypeId) (l : List Value) : Prop := w.heap[G]? = some (.cells l.toArray t (0, 0))
theorem Blk.lt {w : World} {G : Nat} {t : TypeId} {l : List Value} (h : Blk w G t l) : G < w.heap.size := lt_of_block h
theorem Blk.cell {w : World} {G : Nat} {t : TypeId} {l : List Value} (h : Blk w G t l) {k : Nat} (hk : k < l.length) : w.cell? ⟨G, k, none⟩ = some l[k] := by
  unfold Blk at h
  simp only [World.cell?, h]
  simp [hk]
theorem Blk.free {w : World} {G : Nat} {t : TypeId} {l : List Value} (h : Blk w G t l) (k : Nat) : w.frozen? ⟨G, k, none⟩ = false := by
  unfold Blk at h
  simp [World.frozen?, h]
theorem Blk.below {w w' : World} {G : Nat} {t : TypeId} {l : List Value} (h : Blk w G t l) (hb : Below w.heap.size w w') : Blk w' G t l := (hb.block G h.lt).trans h
theorem Blk.set {w : World} {G : Nat} {t : TypeId} {l : List Value} (h : Blk w G t l) (k : Nat) (v : Value) : Blk (w.setCell ⟨G, k, none⟩ v) G t (l.set k v) := by
  have hlt := h.lt
  unfold Blk at h
  have h' : w.heap[G] = .cells l.toArray t (0, 0) := by simpa [Array.getElem?_eq_getElem hlt] using h
  show (w.heap.modify G _)[G]? = _
  rw [Array.getElem?_eq_getElem (by simpa using hlt), Array.getElem_modify_self, h']
  simp
theorem Blk.alloc {w : World} {G : Nat} {t : TypeId} {l : List Value} (h : Blk w G t l) (o : Obj) : Blk (w.alloc o) G t l := (Below.heap_alloc w o G h.lt).trans h
theorem Blk.drewN {w : World} {G : Nat} {t : TypeId} {l : List Value} (h : Blk w G t l) (m : Nat) : Blk (w.drewN m) G t l := h.below (below_drewN (Below.refl _ _) m)
theorem Blk.rd {w : World} {G : Nat} {t : TypeId} {l : List Value} (h : Blk w G t l) : RdV w (.slice (some ⟨G, 0, none⟩) l.length l.length) l :=
  ⟨_, _, rfl, ⟨Nat.le_refl _, fun e => by cases e⟩, fun _ => ⟨G, 0, rfl, fun j hj => by rw [Nat.zero_add]; exact h.cell hj⟩⟩
/-- make of a row of cells. -/
theorem mk_row {ops : Array Oper} {rest : List Oper} {o : Oper} {a : Act} {Q : Exit → Act → World → Prop} {w : World} {tS e : TypeId} {z : Value} {bytes : Nat} (hgd : o.guard = none) (l c : Operand) (ho : o.op = Op.makeSlice tS l c)
    (hu : Try.prog.underlying tS = some (.slice e)) (hi : (Try.prog.info? e).map (fun i => (i.zero, i.size, i.bytes)) = some (some z, 1, bytes)) (hzz : z.cells = #[z]) (hby : bytes ≤ 24)
    (n : Nat) (hl : a.eval l = .int .i64 (n : Int)) (hc : a.eval c = .int .i64 (n : Int)) (hn : n ≤ 4194304)
    (h : ∀ w', Hid (Blk w' w.heap.size e (List.replicate n z)) → Hid (w'.heap.size = w.heap.size + 1) → Below w.heap.size w w' → wpList Try.prog ops Q rest (a.put o.dst (.slice (some ⟨w.heap.size, 0, none⟩) n n)) w') : wpList Try.prog ops Q (o :: rest) a w := by
  obtain ⟨i0, hi0, hz0, hz1, hz2⟩ := info_parts hi
  have hm := Nat.mul_le_mul_left n hby
  refine wpList_make_row w hgd l c _ ho e i0 z hu hi0 hz0 hz1 hzz .i64 .i64 n hl hc (by rw [hz2]; have := Nat.mul_comm bytes n; omega) (by omega) (h _ ?_ (Lib.hid (by simp)) ((Below.refl _ w).alloc (Nat.le_refl _) _))
  obtain ⟨c, h1, h2, h3⟩ := World.rowIs_made w z n e
  have e : c = (List.replicate n z).toArray := by
    refine Array.ext (by rw [h2, List.size_toArray, List.length_replicate]) fun i hi1 hi2 => ?_
    have h4 := h3 i (by omega)
    rw [Array.getElem?_eq_getElem hi1] at h4
    have h5 := Option.some.inj h4
    rw [h5, List.getElem_toArray, List.getElem_replicate]
  rw [e] at h1
  exact Lib.hid h1
/-- Fields of a change are numbers of lines. -/
def ChN (c : Ch) : Prop := (0 ≤ c.old ∧ c.old ≤ 4096) ∧ (0 ≤ c.oldLen ∧ c.oldLen ≤ 4096) ∧ (0 ≤ c.new ∧ c.new ≤ 4096) ∧ (0 ≤ c.newLen ∧ c.newLen ≤ 4096)
theorem ok_chN {m n : Int} (hm : inI m) (hn : inI n) : ∀ {l : List Ch} {f : Bool} {i j : Int}, OkL f i j l m n → ∀ c ∈ l, ChN c ∧ endO c ≤ m ∧ endN c ≤ n
  | [], _, _, _, _, c, hc => by cases hc
  | x :: l, f, i, j, ⟨⟨⟨⟨a0, a1, a2⟩, ⟨b0, b1, b2⟩, _⟩, _⟩, hl⟩, c, hc => by
    rcases List.mem_cons.1 hc with rfl | hc
    · have := hm.2; have := hn.2
      exact ⟨⟨⟨a0, by omega⟩, ⟨a1, by omega⟩, ⟨b0, by omega⟩, ⟨b1, by omega⟩⟩, by unfold endO; omega, by unfold endN; omega⟩
    · exact ok_chN hm hn hl c hc
end Hn
end Go.Proofs.Ytlckdacmeandmaa

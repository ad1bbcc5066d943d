/-
  Slices of hunks: how they read, slices that the call owns, append of one; blocks of cells that the call made. No conditions. Lines and hunks of patches: how slices of them read, slices that the call owns, append of one element. No conditions. Parts of slices; the program's lines of a hunk. Conditions: changes that lead from one part of a text to a part of the other one.
-/
import Derived.Test.YtlnghfmedkfkmaaDoorGTextBase
import Derived.Test.YtlnghfmedkfkmaaDoorGScrBase
import Derived.Deep.OwnRows
import Derived.StillTailTactics
import Derived.WalkSpells
namespace Go.Proofs.YtlnghfmedkfkmaaDoor
section
namespace Cm
end Cm
namespace Sc
end Sc
open Go.RowKit
namespace Hn
open Cm Sc
abbrev tI : TypeId := 3
/-- A block that holds these cells. -/
def Blk (w : World) (G : Nat) (t : TypeId) (l : List Value) : Prop := w.heap[G]? = some (.cells l.toArray t (0, 0))
theorem Blk.lt {w : World} {G : Nat} {t : TypeId} {l : List Value} (h : Blk w G t l) : G < w.heap.size := lt_of_block h
theorem Blk.cell {w : World} {G : Nat} {t : TypeId} {l : List Value} (h : Blk w G t l) {k : Nat} (hk : k < l.length) : w.cell? ⟨G, k, none⟩ = some l[k] := by
  unfold Blk at h
  simp only [World.cell?, h]
  simp [hk]
theorem Blk.free {w : World} {G : Nat} {t : TypeId} {l : List Value} (h : Blk w G t l) (k : Nat) : w.frozen? ⟨G, k, none⟩ = false := by
  unfold Blk at h
  simp [World.frozen?, h]
theorem Blk.below {w w' : World} {G : Nat} {t : TypeId} {l : List Value} (h : Blk w G t l) (hb : Below w.heap.size w w') : Blk w' G t l := (hb.block G h.lt).trans h
theorem Blk.set {w : World} {G : Nat} {t : TypeId} {l : List Value} (h : Blk w G t l) (k : Nat) (v : Value) : Blk (w.setCell ⟨G, k, none⟩ v) G t (l.set k v) := by
  have hlt := h.lt
  unfold Blk at h
  have h' : w.heap[G] = .cells l.toArray t (0, 0) := by simpa [Array.getElem?_eq_getElem hlt] using h
  show (w.heap.modify G _)[G]? = _
  rw [Array.getElem?_eq_getElem (by simpa using hlt), Array.getElem_modify_self, h']
  simp
theorem Blk.alloc {w : World} {G : Nat} {t : TypeId} {l : List Value} (h : Blk w G t l) (o : Obj) : Blk (w.alloc o) G t l := (Below.heap_alloc w o G h.lt).trans h
end Hn
end
section
namespace Cm
end Cm
namespace Hn
end Hn
namespace Sc
end Sc
open Go.RowKit
namespace Uf
open Cm Sc Hn
abbrev tLn : TypeId := 78
abbrev tLns : TypeId := 73
abbrev tPh : TypeId := 75
abbrev tPhs : TypeId := 25
abbrev tPat : TypeId := 27
abbrev tStr : TypeId := 9
def lineC (l : Ln) : List Value := [.int .u8 l.kind, .string l.text]
/-- A hunk as it lies: its lines are a slice. -/
structure HV where
  old : Int
  new : Int
  u : Value
def hunkC (h : HV) : List Value := [.int .i64 h.old, .int .i64 h.new, h.u]
theorem lineC_len (l : Ln) : (lineC l).length = 2 := rfl
theorem hunkC_len (h : HV) : (hunkC h).length = 3 := rfl
abbrev zeroLn : Value := .agg #[.int .u8 0, .string ⟨#[]⟩]
abbrev zeroPh : Value := .agg #[.int .i64 0, .int .i64 0, .slice none 0 0]
theorem info_ln : (Tryd.prog.info? tLn).map (fun i => (i.zero, i.size, i.bytes)) = some (some zeroLn, 2, 24) := by kernel_rfl
theorem info_ph : (Tryd.prog.info? tPh).map (fun i => (i.zero, i.size, i.bytes)) = some (some zeroPh, 3, 40) := by kernel_rfl
abbrev RdL := RdK 2 lineC
theorem RdL_at {w : World} {A : Option Addr} {n c : Nat} {l : List Ln} (h : RdL w (.slice A n c) l) (k : Nat) (hk : k < l.length) : ∃ b off, A = some ⟨b, off, none⟩ ∧
    w.cell? ⟨b, off + k * 2, none⟩ = some (.int .u8 l[k].kind) ∧ w.cell? ⟨b, off + k * 2 + 1, none⟩ = some (.string l[k].text) := by
  obtain ⟨b, off, e, hc⟩ := h.at k hk
  exact ⟨b, off, e, hc 0 (show 0 < 2 by decide), hc 1 (show 1 < 2 by decide)⟩
def OwnL (base : Nat) (w : World) (v : Value) (l : List Ln) : Prop := w.ownsRow base tLn 2 v l.length (flatK lineC l)
theorem OwnL.rd {base : Nat} {w : World} {v : Value} {l : List Ln} (h : OwnL base w v l) : RdL w v l := RdK.of_own lineC_len h
theorem OwnL.below {base : Nat} {w w' : World} {v : Value} {l : List Ln} (h : OwnL base w v l) (hb : Below w.heap.size w w') : OwnL base w' v l := ownK_below h hb
theorem OwnL.nil (base : Nat) (w : World) : OwnL base w (.slice none 0 0) [] := World.ownsRow_nil _ _ _ _
theorem OwnL.form {base : Nat} {w : World} {v : Value} {l : List Ln} (h : OwnL base w v l) : ∃ A c, v = .slice A l.length c := h.rd.form
theorem one_ln (l : Ln) : ∀ u ∈ lineC l, u.oneCell' = true := by
  intro u hu
  unfold lineC at hu
  simp only [List.mem_cons, List.not_mem_nil, or_false] at hu
  rcases hu with rfl | rfl
  all_goals rfl
theorem one_hv (h : HV) (A : Option Addr) (n c : Nat) (e : h.u = .slice A n c) : ∀ u ∈ hunkC h, u.oneCell' = true := by
  intro u hu
  unfold hunkC at hu
  simp only [List.mem_cons, List.not_mem_nil, or_false] at hu
  rcases hu with rfl | rfl | rfl
  · rfl
  · rfl
  · rw [e]; rfl
/-- A slice of hunks that reads as a list. -/
def RdP (w : World) (v : Value) (hs : List PH) : Prop :=
  ∃ zs : List HV, RdK 3 hunkC w v zs ∧ zs.length = hs.length ∧ ∀ j (a : j < zs.length) (b : j < hs.length), zs[j].old = hs[j].old ∧ zs[j].new = hs[j].new ∧ RdL w zs[j].u hs[j].lines
theorem RdP.below {w w' : World} {v : Value} {hs : List PH} (h : RdP w v hs) (hb : Below w.heap.size w w') : RdP w' v hs := by
  obtain ⟨zs, h1, h2, h3⟩ := h
  exact ⟨zs, h1.below hb, h2, fun j a b => ⟨(h3 j a b).1, (h3 j a b).2.1, (h3 j a b).2.2.below hb⟩⟩
theorem RdP.form {w : World} {v : Value} {hs : List PH} (h : RdP w v hs) : ∃ A c, v = .slice A hs.length c := by
  obtain ⟨zs, h1, h2, _⟩ := h
  rw [← h2]; exact h1.form
theorem RdP_at {w : World} {A : Option Addr} {n c : Nat} {hs : List PH} (h : RdP w (.slice A n c) hs) (k : Nat) (hk : k < hs.length) : ∃ b off Al cl, A = some ⟨b, off, none⟩ ∧
    w.cell? ⟨b, off + k * 3, none⟩ = some (.int .i64 hs[k].old) ∧ w.cell? ⟨b, off + k * 3 + 1, none⟩ = some (.int .i64 hs[k].new) ∧ w.cell? ⟨b, off + k * 3 + 2, none⟩ = some (.slice Al hs[k].lines.length cl) ∧ RdL w (.slice Al hs[k].lines.length cl) hs[k].lines := by
  obtain ⟨zs, h1, h2, h3⟩ := h
  obtain ⟨b, off, e, hc⟩ := h1.at k (by omega)
  obtain ⟨g1, g2, g3⟩ := h3 k (by omega) hk
  obtain ⟨Al, cl, eu⟩ := g3.form
  have c0 := hc 0 (show 0 < 3 by decide)
  have c1 := hc 1 (show 1 < 3 by decide)
  have c2 := hc 2 (show 2 < 3 by decide)
  simp only [hunkC, List.getElem_cons_zero, List.getElem_cons_succ] at c0 c1 c2
  rw [g1] at c0
  rw [g2] at c1
  rw [eu] at c2 g3
  exact ⟨b, off, Al, cl, e, c0, c1, c2, g3⟩
def OwnP (base : Nat) (w : World) (v : Value) (hs : List PH) : Prop :=
  ∃ zs : List HV, w.ownsRow base tPh 3 v zs.length (flatK hunkC zs) ∧ zs.length = hs.length ∧ ∀ j (a : j < zs.length) (b : j < hs.length), zs[j].old = hs[j].old ∧ zs[j].new = hs[j].new ∧ OwnL base w zs[j].u hs[j].lines
theorem OwnP.rd {base : Nat} {w : World} {v : Value} {hs : List PH} (h : OwnP base w v hs) : RdP w v hs := by
  obtain ⟨zs, h1, h2, h3⟩ := h
  exact ⟨zs, RdK.of_own hunkC_len h1, h2, fun j a b => ⟨(h3 j a b).1, (h3 j a b).2.1, (h3 j a b).2.2.rd⟩⟩
theorem OwnP.form {base : Nat} {w : World} {v : Value} {hs : List PH} (h : OwnP base w v hs) : ∃ A c, v = .slice A hs.length c := h.rd.form
/-- A row of other elements lies in another block. -/
theorem ownK_ne {w : World} {base n n' base' k k' : Nat} {t e : TypeId} {v v' : Value} {xs xs' : List Value} (h : w.ownsRow base e k v n xs) (h' : w.ownsRow base' t k' v' n' xs') (hne : e ≠ t) : v.ownBlock = none ∨ v.ownBlock ≠ v'.ownBlock := by
  rcases h.2 with ⟨rfl, _⟩ | ⟨g, cap, cur, rfl, _, hh, _⟩
  · exact .inl rfl
  · right
    rcases h'.2 with ⟨rfl, _⟩ | ⟨g', cap', cur', rfl, _, hh', _⟩
    · simp [Value.ownBlock]
    · intro hg
      have : g = g' := by simpa [Value.ownBlock] using hg
      subst this
      rw [hh] at hh'
      injection hh' with hh'
      injection hh' with _ ht
      exact hne ht
end Uf
end
section
namespace Cm
end Cm
namespace Hn
end Hn
namespace Sc
end Sc
open Go.RowKit
namespace Uf
open Cm Sc Hn
theorem blk3 {W : World} {G : Nat} {t : TypeId} {a b c : Value} (h : Blk W G t [a, b, c]) : W.cell? ⟨G, 0, none⟩ = some a ∧ W.cell? ⟨G, 1, none⟩ = some b ∧ W.cell? ⟨G, 2, none⟩ = some c ∧ (∀ k, W.frozen? ⟨G, k, none⟩ = false) ∧ G < W.heap.size :=
  ⟨h.cell (k := 0) (show 0 < 3 by decide), h.cell (k := 1) (show 1 < 3 by decide), h.cell (k := 2) (show 2 < 3 by decide), h.free, h.lt⟩
end Uf
end
end Go.Proofs.YtlnghfmedkfkmaaDoor

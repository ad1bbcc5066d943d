/-
  Walks of layer 1: reader.word and Words. Condition: the text has at most 2^20 bytes.
-/
import Derived.Test.YtgfinppppgpleaaDoorScanUnqC
import Derived.Test.YtgfinppppgpleaaDoorScanWordsMath
import Derived.OneCell
import Derived.Laws.Rows
namespace Go.Proofs.YtgfinppppgpleaaDoor
open Go.RowKit
namespace Sc
def Blk (w : World) (g : Nat) (t : TypeId) (cs : Array Value) : Prop := w.heap[g]? = some (.cells cs t (0, 0))
section
variable {w w' : World} {g : Nat} {t : TypeId} {cs : Array Value}
theorem Blk.lt (h : Blk w g t cs) : g < w.heap.size := by
  rcases Nat.lt_or_ge g w.heap.size with hlt | hge
  · exact hlt
  · unfold Blk at h; rw [Array.getElem?_eq_none hge] at h; cases h
theorem Blk.cell (h : Blk w g t cs) (i : Nat) : w.cell? ⟨g, i, none⟩ = cs[i]? := cell_of_row w g i cs t (0, 0) h
theorem Blk.frozen (h : Blk w g t cs) (i : Nat) : w.frozen? ⟨g, i, none⟩ = false := by
  unfold Blk at h
  simp [World.frozen?, h]
theorem Blk.below (h : Blk w g t cs) (hb : Below w.heap.size w w') : Blk w' g t cs := (hb.block g h.lt).trans h
end
/-- The reader's block. -/
abbrev Rdr (w : World) (g : Nat) (s : ByteArray) (k : Nat) : Prop := Blk w g 55 #[.string s, .int .i64 (k : Int)]
theorem Rdr.set {w : World} {g : Nat} {s : ByteArray} {k : Nat} (h : Rdr w g s k) (e : Nat) : Rdr (w.setCell ⟨g, 1, none⟩ (.int .i64 (e : Int))) g s e := by
  unfold Rdr Blk at h ⊢
  simp only [World.setCell, Array.getElem?_modify]
  rw [h]
  simp
/-- What word leaves where it reads a word. -/
def WordYes (w : World) (g : Nat) (t : List UInt8) (e : Nat) (en : Ending) (w' : World) : Prop :=
  ∃ w1, Below w.heap.size w w1 ∧ en = .returned (.tuple #[.string ⟨t.toArray⟩, .bool true]) ∧ w' = w1.setCell ⟨g, 1, none⟩ (.int .i64 (e : Int))
set_option maxRecDepth 100000 in
set_option maxHeartbeats 800000 in
theorem word_no (s : ByteArray) (k g : Nat) (w : World) (hs : s.size ≤ 1048576) (hb : Rdr w g s k) (h : unqF (bs s) k = none) :
    Calls Tryd.prog 35 #[.pointer (some ⟨g, 0, none⟩)] w fun e w' => e = .returned (.tuple #[.string ⟨#[]⟩, .bool false]) ∧ Below w.heap.size w w' := by
  have hc0 : w.cell? ⟨g, 0, none⟩ = some (.string s) := hb.cell 0
  have hc1 : w.cell? ⟨g, 1, none⟩ = some (.int .i64 (k : Int)) := hb.cell 1
  have hg : g < w.heap.size := hb.lt
  have HU : Hid (∀ w, Calls Tryd.prog 20 #[.string s, .int .i64 k] w fun e w' => e = .returned (.tuple #[.string ⟨#[]⟩, .int .i64 0, .bool false]) ∧ Below w.heap.size w w') := Lib.hid (fun w => by
    have := Unquote_any s k w hs; rw [h] at this; exact this)
  clear hb h
  go_enter Tryd.func35, Tryd.ntmps35
  go_wp2_with fail
  go_region_held3 (fun W => W.cell? ⟨g, 0, none⟩ = some (.string s) ∧ W.cell? ⟨g, 1, none⟩ = some (.int .i64 (k : Int))) (first | exact ⟨hc0, hc1⟩ | exact ⟨(hbel.cell (p := ⟨g, 0, none⟩) hg).trans hc0, (hbel.cell (p := ⟨g, 1, none⟩) hg).trans hc1⟩)
    (first | (go_at_call 20; refine (HU.out _).mono ?_; rintro en w1 ⟨rfl, hbel⟩))
  go_wp2_with fail
  go_ret2
  exact ⟨rfl, (Below.refl _ _).drew.trans hbel⟩
set_option maxRecDepth 100000 in
set_option maxHeartbeats 800000 in
theorem word_yes (s : ByteArray) (k g e : Nat) (t : List UInt8) (w : World) (hs : s.size ≤ 1048576) (hb : Rdr w g s k) (h : unqF (bs s) k = some (t, e)) :
    Calls Tryd.prog 35 #[.pointer (some ⟨g, 0, none⟩)] w (WordYes w g t e) := by
  have hc0 : w.cell? ⟨g, 0, none⟩ = some (.string s) := hb.cell 0
  have hc1 : w.cell? ⟨g, 1, none⟩ = some (.int .i64 (k : Int)) := hb.cell 1
  have hf1 : w.frozen? ⟨g, 1, none⟩ = false := hb.frozen 1
  have hg : g < w.heap.size := hb.lt
  have HU : Hid (∀ w, Calls Tryd.prog 20 #[.string s, .int .i64 k] w fun en w' => en = .returned (.tuple #[.string ⟨t.toArray⟩, .int .i64 e, .bool true]) ∧ Below w.heap.size w w') := Lib.hid (fun w => by
    have := Unquote_any s k w hs; rw [h] at this; exact this)
  clear hb h
  go_enter Tryd.func35, Tryd.ntmps35
  go_wp2_with fail
  go_region_held3 (fun W => W.cell? ⟨g, 0, none⟩ = some (.string s) ∧ W.cell? ⟨g, 1, none⟩ = some (.int .i64 (k : Int))) (first | exact ⟨hc0, hc1⟩ | exact ⟨(hbel.cell (p := ⟨g, 0, none⟩) hg).trans hc0, (hbel.cell (p := ⟨g, 1, none⟩) hg).trans hc1⟩)
    (first | (go_at_call 20; refine (HU.out _).mono ?_; rintro en w1 ⟨rfl, hbel⟩))
  have hk1 : w1.cell? ⟨g, 1, none⟩ = some (.int .i64 (k : Int)) := (hbel.cell (p := ⟨g, 1, none⟩) hg).trans hc1
  have hz1 : w1.frozen? ⟨g, 1, none⟩ = false := (hbel.frozen (p := ⟨g, 1, none⟩) hg).trans hf1
  go_wp2_with fail
  go_ret2
  exact ⟨w1, (Below.refl _ _).drew.trans hbel, rfl, rfl⟩
end Sc
end Go.Proofs.YtgfinppppgpleaaDoor

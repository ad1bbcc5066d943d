/-
  The program's Make. Conditions: blobs of at most 1000 bytes.
-/
import Derived.Test.YtjecfmbecgpbmaaGreatDoorUniCmp
import Derived.Test.YtjecfmbecgpbmaaGreatDoorGHnkRefG
import Derived.Deep.AppendLies
namespace Go.Proofs.YtjecfmbecgpbmaaGreatDoor
namespace Cm
end Cm
namespace Hn
end Hn
namespace Sc
end Sc
namespace Sh
end Sh
namespace Sl
end Sl
open Go.RowKit
namespace Uf
open Cm Sc Hn Sl
open Sh (lnB lnB_len lnB_size idA idB idA_len idB_len blbF)
def mkC (on nn : ByteArray) (ctx : Int) : Int := if nameB on = true ∧ nameB nn = true then (if ctx < 0 ∨ 1048576 < ctx then 3 else 0) else 120
def zeroP : Pat := ⟨⟨#[]⟩, ⟨#[]⟩, []⟩
def mkP (on nn s t : ByteArray) (ctx : Int) (down : Bool) : Pat := if mkC on nn ctx = 0 then ⟨on, nn, patH (lnB s) (lnB t) ctx (scrD down s t)⟩ else zeroP
def PtPost (p : Pat) (code : Int) (w : World) (e : Ending) (w' : World) : Prop := ∃ v, e = .returned (.tuple #[.agg #[.string p.on, .string p.nn, v], .int .i64 code]) ∧ OwnP w.heap.size w' v p.hunks ∧ Below w.heap.size w w'
theorem pt_zero {on nn s t : ByteArray} {ctx : Int} {down : Bool} {w w' : World} {z : Int} (h : mkC on nn ctx = z) (hz : z ≠ 0) (hb : Below w.heap.size w w') : PtPost (mkP on nn s t ctx down) (mkC on nn ctx) w (.returned (.tuple #[.agg #[.string ⟨#[]⟩, .string ⟨#[]⟩, .slice none 0 0], .int .i64 z])) w' := by
  have e : mkP on nn s t ctx down = zeroP := by unfold mkP; rw [if_neg (by rw [h]; exact hz)]
  rw [e, h]
  exact ⟨_, rfl, OwnP.nil _ _, hb⟩
theorem Lf.few : ∀ {x y : List ByteArray} {cs : List Ch} {i j T U : Nat}, Lf x y i j cs T U → cs.length ≤ (T - i) + (U - j)
  | _, _, [], _, _, _, _, _ => Nat.zero_le _
  | x, y, d :: cs, i, j, T, U, ⟨o, ol, nw, nl, e, g1, g2, g3, g4, g5, g6⟩ => by
    have hl := g6.le
    have := g6.few
    rw [List.length_cons]
    omega
theorem own_box {w : World} {base n k g o : Nat} {e : TypeId} {v u : Value} {xs : List Value} (h : w.ownsRow base e k v n xs) (hg : g < base) : (w.setCell ⟨g, o, none⟩ u).ownsRow base e k v n xs := by
  refine h.kept (row := some g) ⟨rfl, rfl, rfl, by rw [World.size_setCell]; exact Nat.le_refl _, fun x hx hr => Below.heap_setCell _ _ _ _ (fun e => hr (by rw [e]))⟩ ?_
  rcases h.2 with ⟨rfl, _⟩ | ⟨g', cap, cur, rfl, hb, _⟩
  · exact .inl rfl
  · right
    intro e2
    have : g' = g := by simpa [Value.ownBlock] using e2
    omega
theorem OwnP.box {base g o : Nat} {w : World} {v u : Value} {hs : List PH} (h : OwnP base w v hs) (hg : g < base) : OwnP base (w.setCell ⟨g, o, none⟩ u) v hs := by
  obtain ⟨zs, h1, h2, h3⟩ := h
  exact ⟨zs, own_box h1 hg, h2, fun j a b => ⟨(h3 j a b).1, (h3 j a b).2.1, own_box (h3 j a b).2.2 hg⟩⟩
/-- What the loop over the hunks keeps: V is the world before the patch was made. -/
structure MkI (V : World) (on nn : ByteArray) (wr : World) (v : Value) (hs : List PH) : Prop where
  bel : Below V.heap.size V wr
  blk : Blk wr V.heap.size tPat [.string on, .string nn, v]
  own : OwnP (V.heap.size + 1) wr v hs
end Uf
end Go.Proofs.YtjecfmbecgpbmaaGreatDoor

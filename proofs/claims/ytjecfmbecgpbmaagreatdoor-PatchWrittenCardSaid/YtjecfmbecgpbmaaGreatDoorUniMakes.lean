/- Facts; each states its conditions. -/
import Derived.Test.YtjecfmbecgpbmaaGreatDoorGUniCheck
import Derived.Test.YtjecfmbecgpbmaaGreatDoorGGUniFmt
import Derived.Test.YtjecfmbecgpbmaaGreatDoorShoNea
import Derived.Test.YtjecfmbecgpbmaaGreatDoorUniRMk
import Derived.Deep.CutRange
namespace Go.Proofs.YtjecfmbecgpbmaaGreatDoor
section
namespace Cm
end Cm
namespace Hn
end Hn
namespace Sc
end Sc
namespace Tx
end Tx
open Go.RowKit
namespace Uf
open Cm Hn
open Sc (Pow RdK)
open Tx (bs)
theorem rdI_V {w : World} {v : Value} {l : List Int} (h : RdV w v (intsV l)) (hb : ∀ z ∈ l, -9223372036854775808 ≤ z ∧ z ≤ 9223372036854775807) : Tx.RdI w v l.length := by
 obtain ⟨A, c, rfl, _, hc⟩ := h
 refine ⟨A, c, by rw [intsV_len], fun hp => ?_⟩
 obtain ⟨b, off, rfl, hcell⟩ := hc (by rw [intsV_len]; exact hp)
 refine ⟨b, off, rfl, fun j hj => ⟨l[j], ?_, hb _ (List.getElem_mem hj)⟩⟩
 rw [hcell j (by rw [intsV_len]; exact hj)]
 simp [intsV]
def oB : ByteArray := ⟨#[111]⟩
def nB : ByteArray := ⟨#[110]⟩
def AwPost (w : World) (e : Ending) (w' : World) : Prop := e = .returned (.bool true) ∧ Below w.heap.size w w'
def Bx (W : World) (B : Nat) (hs : List PH) (v : Value) : Prop := Blk W B tPat [.string oB, .string nB, v] ∧ RdP W v hs
theorem Make_on (s t : ByteArray) (ctx : Int) (down : Bool) (hs : s.size ≤ 1000) (ht : t.size ≤ 1000) (hc : 0 ≤ ctx ∧ ctx ≤ 1048576) (w : World) : Calls Tryz.prog 25 #[.string oB, .string nB, .string s, .string t, .int .i64 ctx, .bool down] w fun e w' => ∃ A c, e = .returned (.tuple #[.agg #[.string oB, .string nB, .slice A (patH (Sh.lnB s) (Sh.lnB t) ctx (scrD down s t)).length c], .int .i64 0]) ∧ OwnP w.heap.size w' (.slice A (patH (Sh.lnB s) (Sh.lnB t) ctx (scrD down s t)).length c) (patH (Sh.lnB s) (Sh.lnB t) ctx (scrD down s t)) ∧ Below w.heap.size w w' := by
 obtain ⟨e1, e2⟩ := mk_on (s := s) (t := t) (ctx := ctx) (down := down) (on := oB) (nn := nB) (by decide) (by decide) hc
 have h := Make_any oB nB s t ctx down hs ht w
 rw [e1, e2] at h
 refine h.mono ?_
 rintro e w' ⟨v, rfl, ho, hb⟩
 obtain ⟨A, c, rfl⟩ := ho.form
 exact ⟨A, c, rfl, ho, hb⟩
end Uf
end
section
open Go.RowKit
namespace Uf
open Cm Hn
open Sc (Pow RdK)
open Tx (bs)
def BxP (W : World) (B : Nat) (p : Pat) (v : Value) : Prop := Blk W B tPat [.string p.on, .string p.nn, v] ∧ RdP W v p.hunks
theorem BxP.below {W W' : World} {B : Nat} {p : Pat} {v : Value} (h : BxP W B p v) (hb : Below W.heap.size W W') : BxP W' B p v := ⟨h.1.below hb, h.2.below hb⟩
theorem BxP.new {W : World} {p : Pat} {v : Value} (h : RdP W v p.hunks) : BxP (W.alloc (.cells #[.string p.on, .string p.nn, v] tPat)) W.heap.size p v := ⟨heap_new W _, h.below ((Below.refl _ W).alloc (Nat.le_refl _) _)⟩
theorem BxP.cells {W : World} {B : Nat} {p : Pat} {v : Value} (h : BxP W B p v) : W.cell? ⟨B, 0, none⟩ = some (.string p.on) ∧ W.cell? ⟨B, 1, none⟩ = some (.string p.nn) ∧ W.cell? ⟨B, 2, none⟩ = some v := ⟨h.1.cell (k := 0) (show 0 < 3 by decide), h.1.cell (k := 1) (show 1 < 3 by decide), h.1.cell (k := 2) (show 2 < 3 by decide)⟩
end Uf
end
end Go.Proofs.YtjecfmbecgpbmaaGreatDoor

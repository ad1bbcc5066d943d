/-
  A slice of hunks that came in reads as a list. No conditions.
-/
import Derived.Test.YtlckdacmeandmaaScrFrame
import Derived.Test.YtlckdacmeandmaaHnkBase
namespace Go.Proofs.Ytlckdacmeandmaa
open Go.ChangeShapes Go.WideShapes Go.ChangeAt Go.RowKit
namespace Hn
open Cm Sc
section
variable {H : Type} {enc : TypeId × Value → H} {W : World} {base : Nat} {spare : Nat → Bool} {held : Bool} {fuel : Nat} {u : Value} {x : DataW H × List MemPlace}
set_option maxRecDepth 100000 in
theorem open_hk {cs : List Value} (h : DataW.trod enc Try.prog W base spare held fuel tHk cs = some x) : ∃ c : Hk, cs = hkC c ∧ HkB c := by
  obtain ⟨xs, n, _, _, hlen, _, hf⟩ := DataW.trod_struct Try.underlying43 h
  rw [show Try.prog.cellsOf tHk = 6 from by kernel_rfl] at hlen
  match cs, hlen with
  | [x0, x1, x2, x3, x4, x5], _ =>
    have ci : Try.prog.cellsOf 3 = 1 := by kernel_rfl
    have c2 : Try.prog.cellsOf tSp = 2 := by kernel_rfl
    have f0 : DataW.trod enc Try.prog W base spare held n 3 (([x0, x1, x2, x3, x4, x5].drop 0).take (Try.prog.cellsOf 3)) = xs[0]? := hf 0 _ rfl
    have f1 : DataW.trod enc Try.prog W base spare held n 3 (([x0, x1, x2, x3, x4, x5].drop 1).take (Try.prog.cellsOf 3)) = xs[1]? := hf 1 _ rfl
    have f2 : DataW.trod enc Try.prog W base spare held n tSp (([x0, x1, x2, x3, x4, x5].drop 2).take (Try.prog.cellsOf tSp)) = xs[2]? := hf 2 _ rfl
    have f3 : DataW.trod enc Try.prog W base spare held n tSp (([x0, x1, x2, x3, x4, x5].drop 4).take (Try.prog.cellsOf tSp)) = xs[3]? := hf 3 _ rfl
    rw [ci] at f0 f1
    rw [c2] at f2 f3
    have g : ∀ {t : TypeId} {l : List Value} {i : Nat}, i < xs.length → DataW.trod enc Try.prog W base spare held n t l = xs[i]? → ∃ y, DataW.trod enc Try.prog W base spare held n t l = some y := fun hi e => by
      rw [List.getElem?_eq_getElem hi] at e; exact ⟨_, e⟩
    have hxl : xs.length = 4 := by assumption
    obtain ⟨y0, e0⟩ := g (by omega) f0
    obtain ⟨z0, h0, _, w0⟩ := DataW.trod_int Try.underlying3 e0
    have q0 : x0 = .int .i64 z0 := by simpa using h0
    obtain ⟨y1, e1⟩ := g (by omega) f1
    obtain ⟨z1, h1, _, w1⟩ := DataW.trod_int Try.underlying3 e1
    have q1 : x1 = .int .i64 z1 := by simpa using h1
    obtain ⟨y2, e2⟩ := g (by omega) f2
    obtain ⟨s2, h2, b2⟩ := open_sp e2
    obtain ⟨y3, e3⟩ := g (by omega) f3
    obtain ⟨s3, h3, b3⟩ := open_sp e3
    obtain ⟨a2, b2'⟩ := s2
    obtain ⟨a3, b3'⟩ := s3
    have q2 : x2 = .int .i64 a2 ∧ x3 = .int .i64 b2' := by simpa [spC] using h2
    have q3 : x4 = .int .i64 a3 ∧ x5 = .int .i64 b3' := by simpa [spC] using h3
    exact ⟨⟨z0, z1, a2, b2', a3, b3'⟩, by rw [q0, q1, q2.1, q2.2, q3.1, q3.2]; rfl, bounds_int w0, bounds_int w1, b2.1, b2.2, b3.1, b3.2⟩
theorem open_hunksV (h : DataW.trod enc Try.prog W base spare held fuel 27 [u] = some x) : ∃ l : List Hk, RdH W u l ∧ l.length ≤ maxLen ∧ ∀ c ∈ l, HkB c :=
  open_K Try.underlying27 (by kernel_rfl) (by decide) hkC_len (fun _ _ _ h => open_hk h) h
end
end Hn
end Go.Proofs.Ytlckdacmeandmaa

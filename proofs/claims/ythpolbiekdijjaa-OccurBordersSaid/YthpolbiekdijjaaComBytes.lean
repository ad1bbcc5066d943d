/-
  A slice of bytes that the call owns, and the string that it makes. No conditions.
-/
import Derived.Test.YthpolbiekdijjaaComInts
namespace Go.Proofs.Ythpolbiekdijjaa
open Go.RowKit
namespace Cm
def bytesV (l : List UInt8) : List Value := l.map fun b => .int .u8 (b.toNat : Int)
theorem bytesV_len (l : List UInt8) : (bytesV l).length = l.length := by simp [bytesV]
theorem bytesV_snoc (l : List UInt8) (b : UInt8) : bytesV (l ++ [b]) = bytesV l ++ [.int .u8 (b.toNat : Int)] := by simp [bytesV]
theorem info_byte : (Try.prog.info? 5).map (fun i => (i.zero, i.size, i.bytes)) = some (some (.int .u8 0), 1, 1) := by kernel_rfl
theorem own_string {w : World} {base : Nat} {v : Value} {L : List UInt8} (h : w.ownsRow base 5 1 v L.length (bytesV L)) :
    (convert 51 9 v).run Try.prog w = .ok (.string ⟨L.toArray⟩) w := by
  rcases h.2 with ⟨rfl, h0⟩ | ⟨g, cap, cur, rfl, _, hh, _, _, hsz, ht⟩
  · have : L = [] := List.eq_nil_of_length_eq_zero h0
    subst this
    rw [run_convert_bytes_string w _ _ 5 none 0 0 Try.underlying51 Try.underlying5 Try.underlying9]
    rfl
  · refine run_convert_bytes_back w _ _ 5 ⟨g, 0, none⟩ cap L Try.underlying51 Try.underlying5 Try.underlying9 ?_
    intro j hj
    have he : (Addr.mk g 0 none).add j = ⟨g, j, none⟩ := by
      unfold Addr.add; split
      · rename_i h0; rw [h0]
      · simp
    have hc := h.cellAt j (by omega)
    rw [he, hc]
    simp [bytesV, List.getElem?_eq_getElem hj]
end Cm
end Go.Proofs.Ythpolbiekdijjaa

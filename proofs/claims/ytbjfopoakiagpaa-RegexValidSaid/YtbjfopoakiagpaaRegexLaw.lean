/-
  What the program's Parse hands back, in one form for an error and for nodes. Conditions: the library's variable holds a number.
-/
import Derived.Test.YtbjfopoakiagpaaRegexAwake
import Derived.Test.YtbjfopoakiagpaaRegexGood
import Derived.Test.YtbjfopoakiagpaaRegexNz
namespace Go.Proofs.Ytbjfopoakiagpaa
open Go.RowKit
namespace Px
open Cm Rx
def codeR (r : Except Int (List Nd)) : Int := match r with | .error c => c | .ok _ => 0
def nodesR (r : Except Int (List Nd)) : List Nd := match r with | .error _ => [] | .ok ns => ns
theorem nodes_small (l : List UInt8) : (nodesR (parseF l)).length ≤ 1100 ∧ ∀ n ∈ nodesR (parseF l), n.kids.length ≤ 257 := by
  cases h : parseF l with
  | error c => exact ⟨Nat.zero_le _, fun n hn => by cases hn⟩
  | ok ns => exact ⟨(parse_good h).2.1, (parse_good h).2.2⟩
theorem ParseP_rd (s : ByteArray) (w : World) (hG : Glb w.heap.size w) : Calls Try.prog 15 #[.string s] w fun e w' =>
    ∃ v, e = .returned (.tuple #[v, .int .i64 (codeR (parseF (Tx.bs s)))]) ∧ RdN w' v (nodesR (parseF (Tx.bs s))) ∧ Below w.heap.size w w' :=
  (Parse_all s w hG).mono fun e w' h => by
    cases hr : parseF (Tx.bs s) with
    | error c =>
      rw [hr] at h
      exact ⟨.slice none 0 0, h.1, RdN.nil _, h.2⟩
    | ok ns =>
      rw [hr] at h
      obtain ⟨v, ks, e1, e2, e3⟩ := h
      exact ⟨v, e1, RdN.of_own e2, e3⟩
theorem below_tr {w w1 w2 : World} (h : Below w.heap.size w w1) (hb : Below w1.heap.size w1 w2) : Below w.heap.size w w2 := h.trans (hb.mono h.size)
end Px
end Go.Proofs.Ytbjfopoakiagpaa

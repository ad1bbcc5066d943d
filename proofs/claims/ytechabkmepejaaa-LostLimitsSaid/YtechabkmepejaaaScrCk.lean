/-
  The program's and the reference's tests on numbers of lines; their Check. Condition: the fields are numbers that an int holds, the list is not longer than a slice may be.
-/
import Derived.Test.YtechabkmepejaaaScrBase
namespace Go.Proofs.Ytechabkmepejaaa
open Go.RowKit
namespace Sc
open Cm
def inB (n : Int) : Bool := decide (0 ≤ n ∧ n ≤ 4096)
def wiB (f l n : Int) : Bool := decide (0 ≤ f ∧ 0 ≤ l ∧ l ≤ n - f)
theorem inB_T {n : Int} (h : inI n) : inB n = true := decide_eq_true h
theorem inB_F {n : Int} (h : ¬ inI n) : inB n = false := decide_eq_false h
theorem wiB_T {f l n : Int} (h : wiI f l n) : wiB f l n = true := decide_eq_true h
theorem wiB_F {f l n : Int} (h : ¬ wiI f l n) : wiB f l n = false := decide_eq_false h
theorem isLength_any (n : Int) (w : World) : Calls Try.prog 30 #[.int .i64 n] w fun e w' => e = .returned (.bool (inB n)) ∧ w = w' := by
  by_cases h0 : 0 ≤ n
  · by_cases h1 : n ≤ 4096
    · have h : inB n = true := inB_T ⟨h0, h1⟩
      go_enter Try.func30, Try.ntmps30
      go_wp2_with fail
      go_ret
      first | exact ⟨rfl, rfl⟩ | exact ⟨by rw [h]; rfl, rfl⟩
    · have h : inB n = false := inB_F (fun h => h1 h.2)
      have d1 : decide (n ≤ 4096) = false := decide_eq_false h1
      go_enter Try.func30, Try.ntmps30
      go_wp2_with fail
      go_ret
      first | exact ⟨rfl, rfl⟩ | exact ⟨by rw [h]; rfl, rfl⟩
  · have h : inB n = false := inB_F (fun h => h0 h.1)
    have d1 : decide (0 ≤ n) = false := decide_eq_false h0
    go_enter Try.func30, Try.ntmps30
    go_wp2_with fail
    go_ret
    first | exact ⟨rfl, rfl⟩ | exact ⟨by rw [h]; rfl, rfl⟩
theorem drop_at {α : Type} {l : List α} {k : Nat} (h : k < l.length) : l.drop k = l[k] :: l.drop (k + 1) := List.drop_eq_getElem_cons h
def CkPost (l : List Ch) (m n : Int) (w : World) (e : Ending) (w' : World) : Prop := e = .returned (.int .i64 (chkF l m n)) ∧ Below w.heap.size w w'
theorem ck_ret {l : List Ch} {m n z : Int} {w w' : World} (h : chkF l m n = z) (hb : Below w.heap.size w w') : CkPost l m n w (.returned (.int .i64 z)) w' := ⟨by rw [h], hb⟩
end Sc
end Go.Proofs.Ytechabkmepejaaa

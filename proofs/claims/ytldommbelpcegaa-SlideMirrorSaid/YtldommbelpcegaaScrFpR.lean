/-
  The reference's Pairs and FromPairs. Conditions: the fields are numbers that an int holds, as few elements as the laws have.
-/
import Derived.Test.YtldommbelpcegaaScrMtR
import Derived.Test.YtldommbelpcegaaScrFr
namespace Go.Proofs.Ytldommbelpcegaa
open Go.RowKit
namespace Sc
open Cm
set_option maxRecDepth 100000 in
set_option maxHeartbeats 2000000 in
theorem PairsR_any (v : Value) (l : List Ch) (m n : Int) (w : World) (h : RdC w v l) (hl : l.length ≤ 1000000) :
    Calls Try.prog 36 #[v, .int .i64 m, .int .i64 n] w (PrPost l m n w) := by
  obtain ⟨A, cp, rfl⟩ := h.form
  have HC := Lib.hid (CheckR_any _ l m n w h (by omega))
  by_cases hv : inI m ∧ inI n ∧ OkL true 0 0 l m n
  · obtain ⟨hm, hn, hok⟩ := hv
    have hz := chkF_ok hm hn hok
    have HK := Lib.hid (fun w1 (hb1 : Below w.heap.size w w1) => Matched_any _ l m n w1 (h.below hb1) hl hm hn hok)
    unfold PrPost
    unfold CkPost at HC
    rw [hz] at HC ⊢
    clear hz h hm hn hok
    generalize l.length = N at *
    go_enter Try.func36, Try.ntmps36
    go_wp2_with (first
      | (go_at_call 45; refine HC.out.mono ?_; rintro e w1 ⟨rfl, hb1⟩; have HB1 := Lib.hid hb1; clear hb1)
      | (go_at_call 28; refine (HK.out _ HB1.out).mono ?_; rintro e w3 ⟨v3, rfl, ho3, hb3⟩; have HO3 := Lib.hid ho3; have HB3 := Lib.hid hb3; clear ho3 hb3))
    go_ret2
    have hs := HB1.out.size
    exact ⟨_, rfl, fun _ => HO3.out.base hs, fun h => absurd rfl h, HB1.out.trans (HB3.out.mono hs)⟩
  · have hz := chkF_no hv
    unfold PrPost
    unfold CkPost at HC
    rw [hz] at HC ⊢
    clear hz h hv
    generalize l.length = N at *
    go_enter Try.func36, Try.ntmps36
    go_wp2_with (go_at_call 45; refine HC.out.mono ?_; rintro e w1 ⟨rfl, hb1⟩; have HB1 := Lib.hid hb1; clear hb1)
    go_ret2
    exact ⟨_, rfl, fun h => absurd h (by decide), fun _ => rfl, HB1.out⟩
/-- Where the next pair may begin. -/
def prv (p : List Sp) : Nat → Sp
  | 0 => ⟨0, 0⟩
  | k + 1 => ⟨(p.getD k ⟨0, 0⟩).frm + 1, (p.getD k ⟨0, 0⟩).to + 1⟩
theorem prv_succ {p : List Sp} {k : Nat} (h : k < p.length) : prv p (k + 1) = ⟨p[k].frm + 1, p[k].to + 1⟩ := by
  show (⟨(p.getD k ⟨0, 0⟩).frm + 1, (p.getD k ⟨0, 0⟩).to + 1⟩ : Sp) = _
  rw [List.getD_eq_getElem?_getD, List.getElem?_eq_getElem h]
  rfl
end Sc
end Go.Proofs.Ytldommbelpcegaa

/-
  The law's sanity check of layer 4: it returns true. Conditions: the library's variable holds a number.
-/
import Derived.Test.YtbjfopoakiagpaaRegexPsQ
import Derived.Test.YtbjfopoakiagpaaRegexRead
namespace Go.Proofs.Ytbjfopoakiagpaa
open Go.RowKit
namespace Px
open Cm Rx
theorem own_nodes {w : World} {B : Nat} {v : Value} {ns : List Nd} {ks : List Value} (h : OwnN w B v ns ks) (hp : 0 < ns.length) : ∃ g c, v = .slice (some ⟨g, 0, none⟩) ns.length c ∧ ∀ j (hj : j < ns.length), NodeAt w g (j * 8) ns[j] := by
  obtain ⟨hl, hv, hk⟩ := h
  rcases hv.2 with ⟨rfl, h0⟩ | ⟨g, cap, cur, rfl, _, _, _, _⟩
  · omega
  · refine ⟨g, cap, rfl, fun j hj => ?_⟩
    have hjk : j < ks.length := by omega
    have e : ∀ i, i < 8 → w.cell? ⟨g, j * 8 + i, none⟩ = (ndC ns[j] ks[j])[i]? := fun i hi => by
      rw [hv.cellAt (j * 8 + i) (by omega), flat_get ns ks hl j hj hjk i hi]
    exact ⟨ks[j], e 0 (by omega), e 1 (by omega), e 2 (by omega), e 3 (by omega), e 4 (by omega), e 5 (by omega), e 6 (by omega), e 7 (by omega), RdV.of_own (hk j hjk hj)⟩
/-- What Parse hands back, to be read. -/
def ParseV (w : World) (r : Except Int (List Nd)) (e : Ending) (w' : World) : Prop :=
  match r with
  | .error c => e = .returned (.tuple #[.slice none 0 0, .int .i64 c]) ∧ Below w.heap.size w w'
  | .ok ns => ∃ g c, e = .returned (.tuple #[.slice (some ⟨g, 0, none⟩) ns.length c, .int .i64 0]) ∧ (∀ j (hj : j < ns.length), NodeAt w' g (j * 8) ns[j]) ∧ Below w.heap.size w w'
def nodes1 : List Nd := [setN (putM noSet 97), setN (putM noSet 98), repN 0 (-1) 1, manyN 5 [0, 2]]
theorem parse1 : parseF [97, 124, 98, 42] = .ok nodes1 := rfl
theorem parse2 : parseF [97, 42, 42] = .error 40 := rfl
theorem Parse_ok (s : ByteArray) (w : World) (hG : Glb w.heap.size w) {ns : List Nd} (hr : parseF (Tx.bs s) = .ok ns) (hp : 0 < ns.length) : Calls Try.prog 15 #[.string s] w fun e w' =>
    ∃ g c, e = .returned (.tuple #[.slice (some ⟨g, 0, none⟩) ns.length c, .int .i64 0]) ∧ (∀ j (hj : j < ns.length), NodeAt w' g (j * 8) ns[j]) ∧ Below w.heap.size w w' :=
  (Parse_all s w hG).mono fun e w' h => by
    rw [hr] at h
    obtain ⟨v, ks, e1, e2, e3⟩ := h
    obtain ⟨g, c, rfl, e4⟩ := own_nodes e2 hp
    exact ⟨g, c, e1, e4, e3⟩
theorem Parse_err (s : ByteArray) (w : World) (hG : Glb w.heap.size w) {c : Int} (hr : parseF (Tx.bs s) = .error c) : Calls Try.prog 15 #[.string s] w fun e w' =>
    e = .returned (.tuple #[.slice none 0 0, .int .i64 c]) ∧ Below w.heap.size w w' :=
  (Parse_all s w hG).mono fun e w' h => by
    rw [hr] at h
    exact h
theorem Glb.self {w w' : World} (h : Glb w.heap.size w) (hb : Below w.heap.size w w') : Glb w'.heap.size w' :=
  ⟨Nat.lt_of_lt_of_le h.1 hb.size, (h.below hb).2⟩
set_option maxRecDepth 100000 in
set_option maxHeartbeats 4000000 in
theorem awake_any (w : World) (hG : Glb w.heap.size w) : Calls Try.prog 18 #[] w fun e w' => e = .returned (.bool true) ∧ Below w.heap.size w w' := by
  have HP1 := Lib.hid (Parse_ok ⟨#[97, 124, 98, 42]⟩ w hG (ns := nodes1) parse1 (by decide))
  have HP2 := Lib.hid (fun wq (hb : Below w.heap.size w wq) => Parse_err ⟨#[97, 42, 42]⟩ wq (hG.self hb) parse2)
  clear hG
  go_enter Try.func18, Try.ntmps18
  go_wp2_with fail
  refine HP1.out.mono ?_
  rintro e w1 ⟨g, c, rfl, hN, B1⟩
  have HP3 := Lib.hid (HP2.out w1 B1)
  have N2 := Lib.hid (hN 2 (by decide))
  have N3 := Lib.hid (hN 3 (by decide))
  have HB1 := Lib.hid B1
  clear hN B1
  go_wp2_with fail
  refine HP3.out.mono ?_
  rintro e w2 ⟨rfl, B2⟩
  obtain ⟨k2, a0, _, _, _, _, _, a6, _, _⟩ := N2.out.below B2
  obtain ⟨k3, b0, _, _, _, _, _, _, b7, r3⟩ := N3.out.below B2
  have HB2 := Lib.hid (HB1.out.trans (B2.mono HB1.out.size))
  have x0 : w2.cell? ⟨g, 16, none⟩ = some (.int .i64 6) := a0
  have x6 : w2.cell? ⟨g, 22, none⟩ = some (.int .i64 (-1)) := a6
  have y0 : w2.cell? ⟨g, 24, none⟩ = some (.int .i64 5) := b0
  have y7 : w2.cell? ⟨g, 31, none⟩ = some k3 := b7
  have HIn := Lib.hid (Ints_same k3 (.slice (some ⟨w2.heap.size, 0, none⟩) 2 2) [0, 2] (w2.alloc (.cells #[.int .i64 0, .int .i64 2] tInt)) (by decide) (RdV.below r3 ((Below.refl _ _).alloc (Nat.le_refl _) _)) (RdV.of_own (w := w2.alloc (.cells #[.int .i64 0, .int .i64 2] tInt)) (base := w2.heap.size) (e := tInt) (us := [.int .i64 0, .int .i64 2]) ⟨rfl, .inr ⟨w2.heap.size, 2, #[.int .i64 0, .int .i64 2], rfl, Nat.le_refl _, heap_new w2 _, Nat.le_refl _, by unfold maxLen; omega, rfl, rfl⟩⟩))
  rw [show nodes1.length = 4 from rfl]
  obtain ⟨A3, n3, c3, rfl⟩ : ∃ A n c, k3 = .slice A n c := by obtain ⟨A, c, e, _⟩ := r3; exact ⟨_, _, _, e⟩
  clear B2 r3 a0 a6 b0 b7
  go_wp2_with (go_at_call 37; refine HIn.out.mono ?_; rintro e w3 ⟨rfl, m, rfl⟩)
  go_ret
  exact ⟨rfl, below_drewN (HB2.out.alloc (by have := HB2.out.size; omega) _) _⟩
end Px
end Go.Proofs.Ytbjfopoakiagpaa

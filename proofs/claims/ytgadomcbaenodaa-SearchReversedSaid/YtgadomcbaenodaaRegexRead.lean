/-
  A slice of nodes that reads as a list; the verifier's Nodes on equal lists: it returns true. No conditions beyond the lengths.
-/
import Derived.Test.YtgadomcbaenodaaRegexNode
namespace Go.Proofs.Ytgadomcbaenodaa
open Go.RowKit
namespace Rx
open Cm
/-- The cells of one node. -/
def NodeAt (w : World) (b o : Nat) (n : Nd) : Prop :=
  ∃ kv, w.cell? ⟨b, o, none⟩ = some (.int .i64 n.kind) ∧ w.cell? ⟨b, o + 1, none⟩ = some (.int .u64 (word n.set 0 : Nat)) ∧ w.cell? ⟨b, o + 2, none⟩ = some (.int .u64 (word n.set 1 : Nat)) ∧ w.cell? ⟨b, o + 3, none⟩ = some (.int .u64 (word n.set 2 : Nat)) ∧ w.cell? ⟨b, o + 4, none⟩ = some (.int .u64 (word n.set 3 : Nat)) ∧
    w.cell? ⟨b, o + 5, none⟩ = some (.int .i64 n.mn) ∧ w.cell? ⟨b, o + 6, none⟩ = some (.int .i64 n.mx) ∧ w.cell? ⟨b, o + 7, none⟩ = some kv ∧ RdV w kv (intsV n.kids)
/-- A slice of nodes that reads as a list. -/
def RdN (w : World) (v : Value) (ns : List Nd) : Prop :=
  ∃ A c, v = .slice A ns.length c ∧ (0 < ns.length → ∃ b off, A = some ⟨b, off, none⟩ ∧ ∀ j (h : j < ns.length), NodeAt w b (off + j * 8) ns[j])
theorem NodeAt.below {w w' : World} {b o : Nat} {n : Nd} (h : NodeAt w b o n) (hb : Below w.heap.size w w') : NodeAt w' b o n := by
  obtain ⟨kv, h0, h1, h2, h3, h4, h5, h6, h7, hk⟩ := h
  have e : ∀ (i : Nat) (u : Value), w.cell? ⟨b, i, none⟩ = some u → w'.cell? ⟨b, i, none⟩ = some u := fun i u hu => (hb.cell (p := ⟨b, i, none⟩) (Tx.cell_lt hu)).trans hu
  exact ⟨kv, e _ _ h0, e _ _ h1, e _ _ h2, e _ _ h3, e _ _ h4, e _ _ h5, e _ _ h6, e _ _ h7, hk.below hb⟩
theorem RdN.below {w w' : World} {v : Value} {ns : List Nd} (h : RdN w v ns) (hb : Below w.heap.size w w') : RdN w' v ns := by
  obtain ⟨A, c, rfl, hA⟩ := h
  refine ⟨A, c, rfl, fun hp => ?_⟩
  obtain ⟨b, off, rfl, hj⟩ := hA hp
  exact ⟨b, off, rfl, fun j h => (hj j h).below hb⟩
theorem NodeAt.drewN {w : World} {b o : Nat} {n : Nd} (h : NodeAt w b o n) (m : Nat) : NodeAt (w.drewN m) b o n := by
  induction m generalizing w with
  | zero => exact h
  | succ m ih => exact ih (w := w.drew) h
theorem RdN.drewN {w : World} {v : Value} {ns : List Nd} (h : RdN w v ns) (m : Nat) : RdN (w.drewN m) v ns := by
  obtain ⟨A, c, rfl, hA⟩ := h
  refine ⟨A, c, rfl, fun hp => ?_⟩
  obtain ⟨b, off, rfl, hj⟩ := hA hp
  exact ⟨b, off, rfl, fun j h => (hj j h).drewN m⟩
theorem RdN.nil (w : World) : RdN w (.slice none 0 0) [] := ⟨none, 0, rfl, fun hp => absurd hp (Nat.lt_irrefl 0)⟩
theorem flat_get : ∀ (ns : List Nd) (ks : List Value), ks.length = ns.length → ∀ j (h1 : j < ns.length) (h2 : j < ks.length) (i : Nat), i < 8 → (flatC ns ks)[j * 8 + i]? = (ndC ns[j] ks[j])[i]?
  | [], _, _, j, h1, _, _, _ => absurd h1 (Nat.not_lt_zero _)
  | n :: ns, [], h, _, _, _, _, _ => by cases h
  | n :: ns, k :: ks, h, 0, _, _, i, hi => by
    rw [flatC, List.getElem?_append_left (by rw [show (ndC n k).length = 8 from rfl]; omega)]
    simp
  | n :: ns, k :: ks, h, j + 1, h1, h2, i, hi => by
    rw [flatC, List.getElem?_append_right (by rw [show (ndC n k).length = 8 from rfl]; omega), show (ndC n k).length = 8 from rfl, show (j + 1) * 8 + i - 8 = j * 8 + i from by omega]
    exact flat_get ns ks (by simpa using h) j (by simpa using h1) (by simpa using h2) i hi
theorem RdN.of_own {w : World} {base : Nat} {v : Value} {ns : List Nd} {ks : List Value} (h : OwnN w base v ns ks) : RdN w v ns := by
  obtain ⟨hl, hv, hk⟩ := h
  rcases hv.2 with ⟨rfl, h0⟩ | ⟨g, cap, cur, rfl, _, _, _, _⟩
  · exact ⟨none, 0, by rw [h0], fun hp => by omega⟩
  · refine ⟨_, cap, rfl, fun _ => ⟨g, 0, rfl, fun j hj => ?_⟩⟩
    have hjk : j < ks.length := by omega
    have e : ∀ i, i < 8 → w.cell? ⟨g, 0 + j * 8 + i, none⟩ = (ndC ns[j] ks[j])[i]? := fun i hi => by
      rw [Nat.zero_add, hv.cellAt (j * 8 + i) (by omega), flat_get ns ks hl j hj hjk i hi]
    exact ⟨ks[j], e 0 (by omega), e 1 (by omega), e 2 (by omega), e 3 (by omega), e 4 (by omega), e 5 (by omega), e 6 (by omega), e 7 (by omega), RdV.of_own (hk j hjk hj)⟩
abbrev tSet : TypeId := 45
theorem guard_set : Try.prog.eqGuardType Try.prog.depth tSet = false := by kernel_rfl
theorem eq64 (d : Nat) (x : Int) (w : World) : (Op.equalIn (d + 1) 44 (.int .u64 x) (.int .u64 x)).run Try.prog w = .ok true w := by
  simp [Op.equalIn, run_underlying Try.underlying44]
/-- Equal sets compare as equal. -/
theorem equal_set (x0 x1 x2 x3 : Int) (w : World) : (Op.equalIn 10000 tSet (.agg #[.int .u64 x0, .int .u64 x1, .int .u64 x2, .int .u64 x3]) (.agg #[.int .u64 x0, .int .u64 x1, .int .u64 x2, .int .u64 x3])).run Try.prog w = .ok true w := by
  show (Op.equalIn (9999 + 1) tSet _ _).run Try.prog w = _
  unfold Op.equalIn
  simp [run_underlying Try.underlying45]
  have e := fun x w => eq64 9998 x w
  simp at e
  have hs : ∀ w, (sizeOf 44).run Try.prog w = .ok 1 w := fun w => by kernel_rfl
  have hp : ∀ (cs : Array Value) (i : Nat) (v : Value) (w : World), cs[i]? = some v → (part 44 cs i).run Try.prog w = .ok v w := fun cs i v w h => by
    unfold part
    simp [hs, h]
  simp [List.range', hp, e, Result.andThen]
end Rx
end Go.Proofs.Ytgadomcbaenodaa

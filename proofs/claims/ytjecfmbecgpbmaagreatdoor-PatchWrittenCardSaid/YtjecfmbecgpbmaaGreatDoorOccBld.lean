/- Facts; each states its conditions. -/
import Derived.Test.YtjecfmbecgpbmaaGreatDoorGComBase
import Derived.Test.YtjecfmbecgpbmaaGreatDoorGTextBase
import Derived.Test.YtjecfmbecgpbmaaGreatDoorShelf
import Derived.Laws.LoneSync
namespace Go.Proofs.YtjecfmbecgpbmaaGreatDoor
namespace Cm
end Cm
namespace Tx
end Tx
open Go.RowKit
namespace Oc
open Tx Cm
abbrev tBld : TypeId := 93
abbrev tU8 : TypeId := 5
theorem info_byte : (Tryz.prog.info? tU8).map (fun i => (i.zero, i.size, i.bytes)) = some (some (.int .u8 0), 1, 1) := by kernel_rfl
theorem info_bld : (Tryz.prog.info? tBld).map (·.size) = some 2 := by kernel_rfl
theorem lies_bld : liesAt Tryz.prog Tryz.prog.depth tBld (2 / Tryz.prog.cellsOf tBld) 0 tBld 1 = true := by kernel_rfl
section
variable {w : World} {B b : Nat} {bs : List Value}
set_option maxRecDepth 100000 in
set_option maxHeartbeats 1000000 in
theorem check_new (h : Lib.BuilderAt tBld tU8 B b (.pointer none) bs w) : Calls Tryz.prog 83 #[.pointer (some ⟨b, 0, none⟩)] w fun e w' => e = .returned (.tuple #[]) ∧ w' = w.setCell ⟨b, 0, none⟩ (.pointer (some ⟨b, 0, none⟩)) := by
 obtain ⟨j, hj, hjs⟩ := Option.map_eq_some_iff.1 info_bld
 have c0 := h.cell0
 have z0 := h.frozen0
 have k1 := Lib.run_to_unsafe (P := Tryz.prog) w ⟨b, 0, none⟩ Tryz.underlying90 Tryz.underlying165 hj (by rw [hjs]; decide) h.shape (Nat.zero_lt_succ 1)
 have k2 := Lib.run_from_unsafe (P := Tryz.prog) w ⟨b, 0, none⟩ Tryz.underlying165 Tryz.underlying90 hj h.shape lies_bld
 have k3 := fun w => Lib.run_neq_ptr_same (P := Tryz.prog) w ⟨b, 0, none⟩ Tryz.underlying90 hj
 have k4 : (callFunc 122 #[.pointer (some ⟨b, 0, none⟩)]).run Tryz.prog w = .ok (.value (.pointer (some ⟨b, 0, none⟩))) w := by
  rw [run_callFunc_extern Tryz.func122 (by kernel_rfl) (by kernel_rfl) (by kernel_rfl) (e := Extern.AbiNoEscape.same) (by kernel_rfl)]
  rfl
 clear hj hjs h
 go_enter Tryz.func83, Tryz.ntmps83
 go_wp2_with fail
 first | go_end0 | skip
 exact ⟨rfl, rfl⟩
set_option maxRecDepth 100000 in
theorem check_used (h : Lib.BuilderAt tBld tU8 B b (.pointer (some ⟨b, 0, none⟩)) bs w) : Calls Tryz.prog 83 #[.pointer (some ⟨b, 0, none⟩)] w fun e w' => e = .returned (.tuple #[]) ∧ w' = w := by
 obtain ⟨j, hj, hjs⟩ := Option.map_eq_some_iff.1 info_bld
 have c0 := h.cell0
 have k3 := fun w => Lib.run_neq_ptr_same (P := Tryz.prog) w ⟨b, 0, none⟩ Tryz.underlying90 hj
 clear hj hjs h
 go_enter Tryz.func83, Tryz.ntmps83
 go_wp2_with fail
 first | go_end0 | skip
 exact ⟨rfl, rfl⟩
abbrev Keeps8 (b : Nat) (w w' : World) : Prop := Lib.OthersKept tU8 (some b) w w'
theorem check_any (h : Lib.IsBuilder tBld tU8 B b bs w) : Calls Tryz.prog 83 #[.pointer (some ⟨b, 0, none⟩)] w fun e w' => e = .returned (.tuple #[]) ∧ Lib.BuilderAt tBld tU8 B b (.pointer (some ⟨b, 0, none⟩)) bs w' ∧ Below B w w' ∧ Keeps8 b w w' := by
 rcases h with h | h
 · exact (check_new h).mono fun e w' ⟨h1, h2⟩ => ⟨h1, by rw [h2]; exact h.used _, by rw [h2]; exact (Below.refl B w).setCell (p := ⟨b, 0, none⟩) h.1 _, by rw [h2]; exact (Lib.OthersKept.refl _ _ _).setCell ⟨b, 0, none⟩ rfl _⟩
 · exact (check_used h).mono fun e w' ⟨h1, h2⟩ => ⟨h1, by rw [h2]; exact h, by rw [h2]; exact Below.refl _ _, by rw [h2]; exact Lib.OthersKept.refl _ _ _⟩
theorem row_kind {w : World} {base n : Nat} {v : Value} {xs : List Value} (h : w.ownsRow base tU8 1 v n xs) : ∀ g, v.ownBlock = some g → ∃ c fz, w.heap[g]? = some (.cells c tU8 fz) := fun g e => by
 rcases h.2 with ⟨rfl, _⟩ | ⟨g', cap, cur, rfl, _, hh, _⟩
 · simp [Value.ownBlock] at e
 · obtain rfl : g' = g := by simpa [Value.ownBlock] using e
   exact ⟨_, _, hh⟩
def WritePost (B b : Nat) (us : List Value) (n : Nat) (w : World) (e : Ending) (w' : World) : Prop :=
 e = .returned (.tuple #[.int .i64 (n : Int), .nilIface]) ∧ Lib.IsBuilder tBld tU8 B b us w' ∧ Below B w w' ∧ Keeps8 b w w'
set_option maxRecDepth 100000 in
set_option maxHeartbeats 1000000 in
theorem write_any (s : ByteArray) (h : Lib.IsBuilder tBld tU8 B b bs w) (hlen : bs.length + s.size ≤ 1000000000) (hB : B ≤ w.heap.size) : Calls Tryz.prog 50 #[.pointer (some ⟨b, 0, none⟩), .string s] w (WritePost B b (bs ++ Lib.strCells s) s.size w) := by
 obtain ⟨i0, hi, hz0, hz1, hz2⟩ := info_parts info_byte
 have HC := Lib.hid (check_any h)
 clear h
 go_enter Tryz.func50, Tryz.ntmps50
 go_wp2_with fail
 refine HC.out.mono ?_
 rintro e w1 ⟨rfl, h1, b1, o1⟩
 obtain ⟨hBb, v, hbk, hown, hne⟩ := h1
 have hsz := b1.size
 have hlt : b < w1.heap.size := (Array.getElem?_eq_some_iff.1 hbk).1
 have c1 : w1.cell? ⟨b, 1, none⟩ = some v := by simp [World.cell?, hbk]
 have HNx : Hid (∀ (v2 : Value) (w2 : World), w2.ownsRow B tU8 1 v2 (bs.length + s.size) (bs ++ Lib.strCells s) → w1.grownBy w2 v.ownBlock →
  (Lib.IsBuilder tBld tU8 B b (bs ++ Lib.strCells s) (w2.setCell ⟨b, 1, none⟩ v2) ∧ Below B w (w2.setCell ⟨b, 1, none⟩ v2) ∧ Keeps8 b w (w2.setCell ⟨b, 1, none⟩ v2)) ∧ w2.cell? ⟨b, 1, none⟩ = some v ∧ w2.frozen? ⟨b, 1, none⟩ = false) := Lib.hid (fun v2 w2 ho hg => by
  have hb2 : w2.heap[b]? = some (.cells #[.pointer (some ⟨b, 0, none⟩), v] tBld (0, 0)) := by
   rw [hg.block b hlt (fun e => hne e.symm)]
   exact hbk
  have hv2 : v2.ownBlock ≠ some b := by
   rcases ho.2 with ⟨rfl, h0⟩ | ⟨g, cap, cur, rfl, _, hh, _⟩
   · simp [Value.ownBlock]
   · intro e
     have : g = b := by simpa [Value.ownBlock] using e
     subst this
     rw [hb2] at hh
     injection hh with hh
     injection hh with _ ht
     exact absurd ht (by decide)
  refine ⟨⟨.inr (Lib.BuilderAt.put (T := tBld) (e := tU8) hBb hb2 (bs' := bs ++ Lib.strCells s) (by simpa [Lib.strCells_length] using ho) (by decide)), ?_, ?_⟩, by simp [World.cell?, hb2], by simp [World.frozen?, hb2]⟩
  · exact (b1.grown hg (by omega) (fun k hk => (hown.lt k hk).1)).setCell (p := ⟨b, 1, none⟩) hBb _
  · exact (o1.grown hg (row_kind hown)).setCell ⟨b, 1, none⟩ rfl _)
 have HO := Lib.hid hown
 obtain ⟨A, d, rfl⟩ := own_form hown
 have hmx : bs.length + s.size ≤ maxLen := by unfold maxLen; omega
 clear hbk hne hown b1 o1
 go_wp2_with (at_builtin; refine Lib.wpList_append_own_string _ rfl _ _ 91 9 rfl B tU8 i0 Tryz.underlying91 Tryz.underlying9 hi hz0 hz1 hz2 _ _ _ rfl HO.out s rfl hmx (by omega) (by omega) ?_; intro v3 w3 ho3 hg3 _; obtain ⟨q1, q2, q3⟩ := HNx.out v3 w3 ho3 hg3; have HQ := Lib.hid q1; obtain ⟨A3, d3, rfl⟩ := own_form ho3; clear ho3 hg3 q1)
 go_ret2
 exact ⟨rfl, HQ.out⟩
end
end Oc
end Go.Proofs.YtjecfmbecgpbmaaGreatDoor

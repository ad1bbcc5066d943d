/-
  The program's Literal: a backslash before each byte with a meaning of its own. Condition: short strings.
-/
import Derived.Test.YtbjfopoakiagpaaRegexLit
import Derived.Test.YtbjfopoakiagpaaShelf
import Derived.Test.YtbjfopoakiagpaaRegexPs
import Derived.WalkKit
import Derived.Laws.LoneSync
namespace Go.Proofs.Ytbjfopoakiagpaa
open Go.RowKit
namespace Px
open Cm Rx
abbrev tBld : TypeId := 81
abbrev tU8 : TypeId := 5
theorem info_bld : (Try.prog.info? tBld).map (·.size) = some 2 := by kernel_rfl
theorem lies_bld : liesAt Try.prog Try.prog.depth tBld (2 / Try.prog.cellsOf tBld) 0 tBld 1 = true := by kernel_rfl
section
variable {w : World} {B b : Nat} {bs : List Value}
set_option maxRecDepth 100000 in
set_option maxHeartbeats 1000000 in
/-- A builder that was not yet written. -/
theorem check_new (h : Lib.BuilderAt tBld tU8 B b (.pointer none) bs w) : Calls Try.prog 70 #[.pointer (some ⟨b, 0, none⟩)] w fun e w' => e = .returned (.tuple #[]) ∧ w' = w.setCell ⟨b, 0, none⟩ (.pointer (some ⟨b, 0, none⟩)) := by
  obtain ⟨j, hj, hjs⟩ := Option.map_eq_some_iff.1 info_bld
  have c0 := h.cell0
  have z0 := h.frozen0
  have k1 := Lib.run_to_unsafe (P := Try.prog) w ⟨b, 0, none⟩ Try.underlying79 Try.underlying118 hj (by rw [hjs]; decide) h.shape (Nat.zero_lt_succ 1)
  have k2 := Lib.run_from_unsafe (P := Try.prog) w ⟨b, 0, none⟩ Try.underlying118 Try.underlying79 hj h.shape lies_bld
  have k3 := fun w => Lib.run_neq_ptr_same (P := Try.prog) w ⟨b, 0, none⟩ Try.underlying79 hj
  have k4 : (callFunc 83 #[.pointer (some ⟨b, 0, none⟩)]).run Try.prog w = .ok (.value (.pointer (some ⟨b, 0, none⟩))) w := by
    rw [run_callFunc_extern Try.func83 (by kernel_rfl) (by kernel_rfl) (by kernel_rfl) (e := Extern.AbiNoEscape.same) (by kernel_rfl)]
    rfl
  clear hj hjs h
  go_enter Try.func70, Try.ntmps70
  go_wp2_with fail
  first | go_end0 | skip
  exact ⟨rfl, rfl⟩
set_option maxRecDepth 100000 in
theorem check_used (h : Lib.BuilderAt tBld tU8 B b (.pointer (some ⟨b, 0, none⟩)) bs w) : Calls Try.prog 70 #[.pointer (some ⟨b, 0, none⟩)] w fun e w' => e = .returned (.tuple #[]) ∧ w' = w := by
  obtain ⟨j, hj, hjs⟩ := Option.map_eq_some_iff.1 info_bld
  have c0 := h.cell0
  have k3 := fun w => Lib.run_neq_ptr_same (P := Try.prog) w ⟨b, 0, none⟩ Try.underlying79 hj
  clear hj hjs h
  go_enter Try.func70, Try.ntmps70
  go_wp2_with fail
  first | go_end0 | skip
  exact ⟨rfl, rfl⟩
theorem check_any (h : Lib.IsBuilder tBld tU8 B b bs w) : Calls Try.prog 70 #[.pointer (some ⟨b, 0, none⟩)] w fun e w' => e = .returned (.tuple #[]) ∧ Lib.BuilderAt tBld tU8 B b (.pointer (some ⟨b, 0, none⟩)) bs w' ∧ Below B w w' := by
  rcases h with h | h
  · exact (check_new h).mono fun e w' ⟨h1, h2⟩ => ⟨h1, by rw [h2]; exact h.used _, by rw [h2]; exact (Below.refl B w).setCell (p := ⟨b, 0, none⟩) h.1 _⟩
  · exact (check_used h).mono fun e w' ⟨h1, h2⟩ => ⟨h1, by rw [h2]; exact h, by rw [h2]; exact Below.refl _ _⟩
set_option maxRecDepth 100000 in
set_option maxHeartbeats 1000000 in
/-- One byte more. -/
theorem write_any (h : Lib.IsBuilder tBld tU8 B b bs w) (hlen : bs.length ≤ 1000000) (hB : B ≤ w.heap.size) (c : Int) : Calls Try.prog 45 #[.pointer (some ⟨b, 0, none⟩), .int .u8 c] w fun e w' => e = .returned .nilIface ∧ Lib.IsBuilder tBld tU8 B b (bs ++ [.int .u8 c]) w' ∧ Below B w w' := by
  have HC := Lib.hid (check_any h)
  clear h
  go_enter Try.func45, Try.ntmps45
  go_wp2_with fail
  refine HC.out.mono ?_
  rintro e w1 ⟨rfl, h1, b1⟩
  obtain ⟨hBb, v, hbk, hown, hne⟩ := h1
  have hsz := b1.size
  have hlt := lt_some hbk
  have c1 : w1.cell? ⟨b, 1, none⟩ = some v := by simp [World.cell?, hbk]
  have HNx : Hid (∀ (C : Array Value) (v2 : Value) (w2 : World), w2.ownsRow B tU8 1 v2 (bs.length + 1) (bs ++ [.int .u8 c]) → Below B w1 w2 → (w1.alloc (.cells C tU8)).grownBy w2 v.ownBlock →
      (Lib.IsBuilder tBld tU8 B b (bs ++ [.int .u8 c]) (w2.setCell ⟨b, 1, none⟩ v2) ∧ Below B w (w2.setCell ⟨b, 1, none⟩ v2)) ∧ w2.cell? ⟨b, 1, none⟩ = some v ∧ w2.frozen? ⟨b, 1, none⟩ = false) := Lib.hid (fun C v2 w2 ho hb hg => by
    have hb2 : w2.heap[b]? = some (.cells #[.pointer (some ⟨b, 0, none⟩), v] tBld (0, 0)) := by
      rw [hg.block b (by simp; omega) (fun e => hne e.symm), Below.heap_alloc _ _ _ hlt]
      exact hbk
    have hv2 : v2.ownBlock ≠ some b := by
      rcases ho.2 with ⟨rfl, h0⟩ | ⟨g, cap, cur, rfl, _, hh, _⟩
      · simp [Value.ownBlock]
      · intro e
        have : g = b := by simpa [Value.ownBlock] using e
        subst this
        rw [hb2] at hh
        injection hh with hh
        injection hh with _ ht
        exact absurd ht (by decide)
    refine ⟨⟨.inr ⟨hBb, v2, set_block hb2, ?_, hv2⟩, (b1.trans hb).setCell (p := ⟨b, 1, none⟩) hBb _⟩, by simp [World.cell?, hb2], by simp [World.frozen?, hb2]⟩
    rw [List.length_append, List.length_singleton]
    exact ownsRow_setCell_other ho hv2 v2)
  have HO := Lib.hid hown
  obtain ⟨A, d, rfl⟩ := own_form hown
  clear hbk hne hown b1
  go_wp2_with (at_builtin; refine app_one rfl Try.underlying69 info_byte rfl (by omega) (.tmp 11) (.tmp 13) rfl B bs.length bs (.int .u8 c) rfl _ _ rfl HO.out rfl rfl (by omega) (by omega) ?_; intro v3 w3 ho3 hb3 hg3; obtain ⟨q1, q2, q3⟩ := HNx.out _ v3 w3 ho3 hb3 hg3; have HQ := Lib.hid q1; obtain ⟨A3, d3, rfl⟩ := own_form ho3; clear ho3 hb3 hg3 q1)
  go_ret
  exact ⟨rfl, HQ.out⟩
theorem cells_snoc (l m : List UInt8) : Lib.byteCells (l ++ m) = Lib.byteCells l ++ Lib.byteCells m := by
  unfold Lib.byteCells
  rw [List.map_append]
theorem index_iff (x : UInt8) : 0 ≤ Lib.indexByte [40, 41, 91, 123, 42, 43, 63, 124, 46, 94, 36, 92] x ↔ specB x = true := by
  have key : ∀ n : Fin 256, 0 ≤ Lib.indexByte [40, 41, 91, 123, 42, 43, 63, 124, 46, 94, 36, 92] (UInt8.ofNat n.val) ↔ specB (UInt8.ofNat n.val) = true := by decide +kernel
  have h := key ⟨x.toNat, x.toNat_lt⟩
  have e : UInt8.ofNat x.toNat = x := by simp
  rwa [e] at h
theorem index_spec (x : UInt8) (w : World) : Calls Try.prog 44 #[.string ⟨#[40, 41, 91, 123, 42, 43, 63, 124, 46, 94, 36, 92]⟩, .int .u8 (x.toNat : Int)] w fun e w' => e = .returned (.int .i64 (Lib.indexByte [40, 41, 91, 123, 42, 43, 63, 124, 46, 94, 36, 92] x)) ∧ w' = w := by
  have h := Try.strings_IndexByte ⟨#[40, 41, 91, 123, 42, 43, 63, 124, 46, 94, 36, 92]⟩ (x.toNat : Int) w
  rw [show ((x.toNat : Int)).toNat.toUInt8 = x from by simp] at h
  exact h
set_option maxRecDepth 100000 in
set_option maxHeartbeats 4000000 in
/-- Literal. -/
theorem Literal_any (s : ByteArray) (w : World) (hs : s.size ≤ 100000) : Calls Try.prog 19 #[.string s] w fun e w' => e = .returned (.string ⟨(litF (Tx.bs s)).toArray⟩) ∧ Below w.heap.size w w' := by
  have H0 : Hid (Lib.IsBuilder tBld tU8 w.heap.size w.heap.size (Lib.byteCells (litF ((Tx.bs s).take 0))) (w.alloc (.cells #[.pointer none, .slice none 0 0] tBld))) := Lib.hid (.inl ⟨Nat.le_refl _, .slice none 0 0, heap_new w _, World.ownsRow_nil _ _ _ _, by simp [Value.ownBlock]⟩)
  have HStep : Hid (∀ j (h : j < s.size), litF ((Tx.bs s).take (j + 1)) = litF ((Tx.bs s).take j) ++ litB s[j]) := Lib.hid (fun j h => lit_snoc s j h)
  have HLen : Hid (∀ j, (Lib.byteCells (litF ((Tx.bs s).take j))).length ≤ 200000) := Lib.hid (fun j => by
    unfold Lib.byteCells
    rw [List.length_map]
    have h1 := lit_len ((Tx.bs s).take j)
    have h2 := List.length_take_le j (Tx.bs s)
    have h3 : ((Tx.bs s).take j).length ≤ (Tx.bs s).length := by rw [List.length_take]; omega
    rw [Tx.bs_len] at h3
    omega)
  go_enter Try.func19, Try.ntmps19
  go_wp2_with fail
  go_loopw [4] (fun i wr => ∃ j : Nat, j ≤ s.size ∧ i = .int .i64 j ∧ Hid (Lib.IsBuilder tBld tU8 w.heap.size w.heap.size (Lib.byteCells (litF ((Tx.bs s).take j))) wr) ∧ Hid (Below w.heap.size w wr)) (fun i _ => s.size - (intOf i).toNat)
  case atStart => exact ⟨0, Nat.zero_le _, rfl, H0, Lib.hid ((Below.refl _ _).alloc (Nat.le_refl _) _)⟩
  case round =>
    obtain ⟨j, hj, rfl, HI, HB⟩ := hrel
    by_cases hlt : j < s.size
    · have i0 : (0 : Int) ≤ (j : Int) := by omega
      have i1 : (j : Int) < (s.size : Int) := by omega
      have HSt := Lib.hid (HStep.out j hlt)
      have HL := Lib.hid (HLen.out j)
      have HIx := Lib.hid (index_spec s[j])
      have hiff := index_iff s[j]
      generalize hxx : s[j] = x at HSt HIx hiff
      have hxn : s[j].toNat = x.toNat := by rw [hxx]
      generalize Lib.indexByte [40, 41, 91, 123, 42, 43, 63, 124, 46, 94, 36, 92] x = z at HIx hiff
      by_cases hsp : specB x = true
      · have hz : (0 : Int) ≤ z := hiff.2 hsp
        have hl2 : litB x = [92, x] := by unfold litB; rw [if_pos hsp]
        have HW1 := Lib.hid (write_any HI.out (by have := HL.out; omega) HB.out.size 92)
        clear hiff hsp hxx
        go_wp2_with fail
        refine (HIx.out _).mono ?_
        rintro e w1 ⟨rfl, rfl⟩
        go_wp2_with fail
        refine HW1.out.mono ?_
        rintro e w2 ⟨rfl, h2, b2⟩
        have HB2 := Lib.hid (HB.out.trans b2)
        have HW2 := Lib.hid (write_any h2 (by have := HL.out; rw [List.length_append, List.length_singleton]; omega) HB2.out.size (x.toNat : Int))
        clear h2 b2
        go_wp2_with fail
        refine HW2.out.mono ?_
        rintro e w3 ⟨rfl, h3, b3⟩
        have HB3 := Lib.hid (HB2.out.trans b3)
        have H3 : Hid (Lib.IsBuilder tBld tU8 w.heap.size w.heap.size (Lib.byteCells (litF ((Tx.bs s).take (j + 1)))) w3) := Lib.hid (by
          rw [HSt.out, hl2, cells_snoc]
          rw [List.append_assoc] at h3
          exact h3)
        clear h3 b3
        go_wp2_with fail
        go_roundw
        case rel => exact ⟨j + 1, by omega, by go_num, H3, HB3⟩
        case measure => simp [intOf]; omega
      · have hz : ¬ (0 : Int) ≤ z := fun h => hsp (hiff.1 h)
        have hl2 : litB x = [x] := by unfold litB; rw [if_neg hsp]
        have HW1 := Lib.hid (write_any HI.out (by have := HL.out; omega) HB.out.size (x.toNat : Int))
        clear hiff hsp hxx
        go_wp2_with fail
        refine (HIx.out _).mono ?_
        rintro e w1 ⟨rfl, rfl⟩
        go_wp2_with fail
        refine HW1.out.mono ?_
        rintro e w3 ⟨rfl, h3, b3⟩
        have HB3 := Lib.hid (HB.out.trans b3)
        have H3 : Hid (Lib.IsBuilder tBld tU8 w.heap.size w.heap.size (Lib.byteCells (litF ((Tx.bs s).take (j + 1)))) w3) := Lib.hid (by
          rw [HSt.out, hl2, cells_snoc]
          exact h3)
        clear h3 b3
        go_wp2_with fail
        go_roundw
        case rel => exact ⟨j + 1, by omega, by go_num, H3, HB3⟩
        case measure => simp [intOf]; omega
    · have hd : decide ((j : Int) < (s.size : Int)) = false := by simp only [decide_eq_false_iff_not]; omega
      have hd2 : decide (j < s.size) = false := by simp only [decide_eq_false_iff_not]; omega
      have HS := Lib.hid (Try.Builder_String_any w.heap.size w.heap.size (litF (Tx.bs s)) wr (by have := HI.out; rwa [show (Tx.bs s).take j = Tx.bs s from List.take_of_length_le (by rw [Tx.bs_len]; omega)] at this) HB.out.size)
      clear hlt
      go_wp2_with (go_at_call 46; refine HS.out.mono ?_; rintro e w1 ⟨rfl, b1⟩; have HB1 := Lib.hid (HB.out.trans b1); clear b1)
      go_ret
      exact ⟨rfl, HB1.out⟩
end
end Px
end Go.Proofs.Ytbjfopoakiagpaa

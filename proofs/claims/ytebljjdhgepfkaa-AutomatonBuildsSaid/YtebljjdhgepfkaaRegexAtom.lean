/-
  The reference's atom. Conditions: short patterns; what it calls for a group does what the document says.
-/
import Derived.Test.YtebljjdhgepfkaaRegexPost
namespace Go.Proofs.Ytebljjdhgepfkaa
open Go.RowKit
namespace Rx
open Cm
theorem setV_none : setV noSet = .agg #[.int .u64 0, .int .u64 0, .int .u64 0, .int .u64 0] := by
  unfold setV noSet
  rw [word_none, word_none, word_none, word_none]; rfl
theorem kids_none {w : World} {base : Nat} : w.ownsRow base tInt 1 (.slice none 0 0) ([] : List Int).length (intsV []) := World.ownsRow_nil _ _ _ _
/-- A group's pattern does what the document says (none: no group may open here). -/
def POk (s : ByteArray) (D : Int) (p : Option (Nat → List Nd → Res)) : Prop :=
  match p with
  | none => D = 50
  | some f => D < 50 ∧ (∀ (w : World) (base rb at_ : Nat) (ns : List Nd) (ks : List Value), Rdr w base rb s at_ (D + 1) 0 ns ks → at_ ≤ s.size → ns.length + 4 * (s.size - at_) ≤ 500000 →
      Calls Try.prog 27 #[.pointer (some ⟨rb, 0, none⟩)] w (RPost w base rb s (D + 1) ns ks (f at_ ns))) ∧
      Adv (Tx.bs s) f
section
variable {w : World} {base rb : Nat} {s : ByteArray} {at_ : Nat} {D : Int} {ns : List Nd} {ks : List Value}
set_option maxRecDepth 100000 in
set_option maxHeartbeats 2000000 in
theorem atom_start (p : Option (Nat → List Nd → Res)) (h : Rdr w base rb s at_ D 0 ns ks) (hs : s.size ≤ 1000000) (ha : at_ < s.size) (hx : s[at_] = 94) (hl : ns.length ≤ 1000000) : Calls Try.prog 80 #[.pointer (some ⟨rb, 0, none⟩)] w (RPost w base rb s D ns ks (atomF (Tx.bs s) p at_ ns)) := by
  have HR0 := Lib.hid h
  have HSet : Hid (∀ (q : Nat), Rdr ((w.drewN q).setCell ⟨rb, 1, none⟩ (.int .i64 ((at_ : Int) + 1))) base rb s ((at_ + 1 : Nat) : Int) D 0 ns ks ∧ Below base w ((w.drewN q).setCell ⟨rb, 1, none⟩ (.int .i64 ((at_ : Int) + 1))) ∧ KeptR w ((w.drewN q).setCell ⟨rb, 1, none⟩ (.int .i64 ((at_ : Int) + 1)))) := Lib.hid (fun q => by
    obtain ⟨r1, r2, r3⟩ := (h.drewN q).setAt ((at_ : Int) + 1)
    exact ⟨r1, below_drewN' q r2, (KeptX.drewN _ _).trans r3⟩)
  obtain ⟨v, hb, hh, hnn⟩ := h
  obtain ⟨c0, c1, c2, c3, c4, hf⟩ := rdr_cells hh
  have f1 := hf 1
  have i0 : (0 : Int) ≤ (at_ : Int) := by omega
  have i1 : (at_ : Int) < (s.size : Int) := by omega
  clear hh hnn hf
  have HA : Hid (atomF (Tx.bs s) p at_ ns = .ok (ns.length, at_ + 1, ns ++ [plainN 2])) := Lib.hid (by unfold atomF; rw [gl ha, hx]; rfl)
  have x1 : s[at_].toNat = 94 := by rw [hx]; rfl
  clear hx
  have HNode := Lib.hid (fun w' (hw : Rdr w' base rb s ((at_ + 1 : Nat) : Int) D 0 ns ks) => node_any hw (plainN 2) (.slice none 0 0) kids_none hl)
  unfold ndV at HNode
  simp only [plainN, show ∀ j, word noSet j = 0 from fun j => word_none j] at HNode
  go_enter Try.func80, Try.ntmps80
  go_wp2_with fail
  go_quiet (fail)
  go_wp2_with (go_at_call 45; refine (HNode.out _ (HSet.out _).1).mono ?_; rintro e w2 ⟨rfl, q1, q2, q3⟩; have Q := Lib.hid (And.intro q1 (And.intro q2 q3)); clear q1 q2 q3)
  go_ret
  rw [HA.out]
  exact RPost_one rfl (HSet.out _).2 (late_nil _) Q.out
set_option maxRecDepth 100000 in
set_option maxHeartbeats 2000000 in
theorem atom_end (p : Option (Nat → List Nd → Res)) (h : Rdr w base rb s at_ D 0 ns ks) (hs : s.size ≤ 1000000) (ha : at_ < s.size) (hx : s[at_] = 36) (hl : ns.length ≤ 1000000) : Calls Try.prog 80 #[.pointer (some ⟨rb, 0, none⟩)] w (RPost w base rb s D ns ks (atomF (Tx.bs s) p at_ ns)) := by
  have HR0 := Lib.hid h
  have HSet : Hid (∀ (q : Nat), Rdr ((w.drewN q).setCell ⟨rb, 1, none⟩ (.int .i64 ((at_ : Int) + 1))) base rb s ((at_ + 1 : Nat) : Int) D 0 ns ks ∧ Below base w ((w.drewN q).setCell ⟨rb, 1, none⟩ (.int .i64 ((at_ : Int) + 1))) ∧ KeptR w ((w.drewN q).setCell ⟨rb, 1, none⟩ (.int .i64 ((at_ : Int) + 1)))) := Lib.hid (fun q => by
    obtain ⟨r1, r2, r3⟩ := (h.drewN q).setAt ((at_ : Int) + 1)
    exact ⟨r1, below_drewN' q r2, (KeptX.drewN _ _).trans r3⟩)
  obtain ⟨v, hb, hh, hnn⟩ := h
  obtain ⟨c0, c1, c2, c3, c4, hf⟩ := rdr_cells hh
  have f1 := hf 1
  have i0 : (0 : Int) ≤ (at_ : Int) := by omega
  have i1 : (at_ : Int) < (s.size : Int) := by omega
  clear hh hnn hf
  have HA : Hid (atomF (Tx.bs s) p at_ ns = .ok (ns.length, at_ + 1, ns ++ [plainN 3])) := Lib.hid (by unfold atomF; rw [gl ha, hx]; rfl)
  have x1 : s[at_].toNat = 36 := by rw [hx]; rfl
  clear hx
  have HNode := Lib.hid (fun w' (hw : Rdr w' base rb s ((at_ + 1 : Nat) : Int) D 0 ns ks) => node_any hw (plainN 3) (.slice none 0 0) kids_none hl)
  unfold ndV at HNode
  simp only [plainN, show ∀ j, word noSet j = 0 from fun j => word_none j] at HNode
  go_enter Try.func80, Try.ntmps80
  go_wp2_with fail
  go_quiet (fail)
  go_wp2_with (go_at_call 45; refine (HNode.out _ (HSet.out _).1).mono ?_; rintro e w2 ⟨rfl, q1, q2, q3⟩; have Q := Lib.hid (And.intro q1 (And.intro q2 q3)); clear q1 q2 q3)
  go_ret
  rw [HA.out]
  exact RPost_one rfl (HSet.out _).2 (late_nil _) Q.out
set_option maxRecDepth 100000 in
set_option maxHeartbeats 2000000 in
theorem atom_dot (p : Option (Nat → List Nd → Res)) (h : Rdr w base rb s at_ D 0 ns ks) (hs : s.size ≤ 1000000) (ha : at_ < s.size) (hx : s[at_] = 46) (hl : ns.length ≤ 1000000) : Calls Try.prog 80 #[.pointer (some ⟨rb, 0, none⟩)] w (RPost w base rb s D ns ks (atomF (Tx.bs s) p at_ ns)) := by
  have HR0 := Lib.hid h
  have HSet : Hid (∀ (q : Nat), Rdr ((w.drewN q).setCell ⟨rb, 1, none⟩ (.int .i64 ((at_ : Int) + 1))) base rb s ((at_ + 1 : Nat) : Int) D 0 ns ks ∧ Below base w ((w.drewN q).setCell ⟨rb, 1, none⟩ (.int .i64 ((at_ : Int) + 1))) ∧ KeptR w ((w.drewN q).setCell ⟨rb, 1, none⟩ (.int .i64 ((at_ : Int) + 1)))) := Lib.hid (fun q => by
    obtain ⟨r1, r2, r3⟩ := (h.drewN q).setAt ((at_ : Int) + 1)
    exact ⟨r1, below_drewN' q r2, (KeptX.drewN _ _).trans r3⟩)
  obtain ⟨v, hb, hh, hnn⟩ := h
  obtain ⟨c0, c1, c2, c3, c4, hf⟩ := rdr_cells hh
  have f1 := hf 1
  have i0 : (0 : Int) ≤ (at_ : Int) := by omega
  have i1 : (at_ : Int) < (s.size : Int) := by omega
  clear hh hnn hf
  have HA : Hid (atomF (Tx.bs s) p at_ ns = Except.ok ((ns.length : Int), at_ + 1, ns ++ [setN allSet])) := Lib.hid (by unfold atomF; rw [gl ha, hx]; rfl)
  have x1 : s[at_].toNat = 46 := by rw [hx]; rfl
  clear hx
  have HC : Hid (∀ w, Calls Try.prog 89 #[(.agg #[.int .u64 0, .int .u64 0, .int .u64 0, .int .u64 0])] w fun e w' => e = .returned (.agg #[.int .u64 (word allSet 0 : Nat), .int .u64 (word allSet 1 : Nat), .int .u64 (word allSet 2 : Nat), .int .u64 (word allSet 3 : Nat)]) ∧ Below w.heap.size w w') := Lib.hid (fun w => by have := complement_any noSet w; rw [setV_none] at this; exact this)
  have HNode := Lib.hid (fun w' (hw : Rdr w' base rb s ((at_ + 1 : Nat) : Int) D 0 ns ks) => node_any hw (setN allSet) (.slice none 0 0) kids_none hl)
  unfold ndV at HNode
  simp only [setN] at HNode
  go_enter Try.func80, Try.ntmps80
  go_wp2_with fail
  go_quiet (fail)
  go_wp2_with (first | (go_at_call 89; refine (HC.out _).mono ?_; rintro e w1 ⟨rfl, hb1⟩; have HB1 := Lib.hid hb1; have HRB := Lib.hid (Rdr_below (HSet.out _) hb1)) | (go_at_call 45; refine (HNode.out _ HRB.out.1).mono ?_; rintro e w2 ⟨rfl, q1, q2, q3⟩; have Q := Lib.hid (And.intro q1 (And.intro q2 q3)); clear q1 q2 q3))
  go_ret
  rw [HA.out]
  exact RPost_one rfl HRB.out.2 (late_nil _) Q.out
set_option maxRecDepth 100000 in
set_option maxHeartbeats 2000000 in
theorem atom_byte (p : Option (Nat → List Nd → Res)) (h : Rdr w base rb s at_ D 0 ns ks) (hs : s.size ≤ 1000000) (ha : at_ < s.size) (h40 : s[at_] ≠ 40) (h91 : s[at_] ≠ 91) (h46 : s[at_] ≠ 46) (h94 : s[at_] ≠ 94) (h36 : s[at_] ≠ 36) (h41 : s[at_] ≠ 41) (h124 : s[at_] ≠ 124) (h42 : s[at_] ≠ 42) (h43 : s[at_] ≠ 43) (h63 : s[at_] ≠ 63) (h123 : s[at_] ≠ 123) (h92 : s[at_] ≠ 92) (hl : ns.length ≤ 1000000) : Calls Try.prog 80 #[.pointer (some ⟨rb, 0, none⟩)] w (RPost w base rb s D ns ks (atomF (Tx.bs s) p at_ ns)) := by
  have HR0 := Lib.hid h
  have HSet : Hid (∀ (q : Nat), Rdr ((w.drewN q).setCell ⟨rb, 1, none⟩ (.int .i64 ((at_ : Int) + 1))) base rb s ((at_ + 1 : Nat) : Int) D 0 ns ks ∧ Below base w ((w.drewN q).setCell ⟨rb, 1, none⟩ (.int .i64 ((at_ : Int) + 1))) ∧ KeptR w ((w.drewN q).setCell ⟨rb, 1, none⟩ (.int .i64 ((at_ : Int) + 1)))) := Lib.hid (fun q => by
    obtain ⟨r1, r2, r3⟩ := (h.drewN q).setAt ((at_ : Int) + 1)
    exact ⟨r1, below_drewN' q r2, (KeptX.drewN _ _).trans r3⟩)
  obtain ⟨v, hb, hh, hnn⟩ := h
  obtain ⟨c0, c1, c2, c3, c4, hf⟩ := rdr_cells hh
  have f1 := hf 1
  have i0 : (0 : Int) ≤ (at_ : Int) := by omega
  have i1 : (at_ : Int) < (s.size : Int) := by omega
  clear hh hnn hf
  have HA : Hid (atomF (Tx.bs s) p at_ ns = Except.ok ((ns.length : Int), at_ + 1, ns ++ [setN (putM noSet s[at_].toNat)])) := Lib.hid (by unfold atomF; rw [gl ha]; simp only; rw [if_neg h40, if_neg h91, if_neg h46, if_neg h94, if_neg h36, if_neg (by unfold noAtom; simp [h41, h124, h42, h43, h63, h123]), if_neg h92])
  have e40 : ((s[at_].toNat : Int) == 40) = false := byte_F h40
  have e91 : ((s[at_].toNat : Int) == 91) = false := byte_F h91
  have e46 : ((s[at_].toNat : Int) == 46) = false := byte_F h46
  have e94 : ((s[at_].toNat : Int) == 94) = false := byte_F h94
  have e36 : ((s[at_].toNat : Int) == 36) = false := byte_F h36
  have e41 : ((s[at_].toNat : Int) == 41) = false := byte_F h41
  have e124 : ((s[at_].toNat : Int) == 124) = false := byte_F h124
  have e42 : ((s[at_].toNat : Int) == 42) = false := byte_F h42
  have e43 : ((s[at_].toNat : Int) == 43) = false := byte_F h43
  have e63 : ((s[at_].toNat : Int) == 63) = false := byte_F h63
  have e123 : ((s[at_].toNat : Int) == 123) = false := byte_F h123
  have e92 : ((s[at_].toNat : Int) == 92) = false := byte_F h92
  clear h40 h91 h46 h94 h36 h41 h124 h42 h43 h63 h123 h92
  have HP : Hid (∀ w, Calls Try.prog 24 #[(.agg #[.int .u64 0, .int .u64 0, .int .u64 0, .int .u64 0]), .int .u8 (s[at_].toNat : Int)] w fun e w' => e = .returned (.agg #[.int .u64 (word (putM noSet s[at_].toNat) 0 : Nat), .int .u64 (word (putM noSet s[at_].toNat) 1 : Nat), .int .u64 (word (putM noSet s[at_].toNat) 2 : Nat), .int .u64 (word (putM noSet s[at_].toNat) 3 : Nat)]) ∧ Below w.heap.size w w') := Lib.hid (fun w => by have := Put_any noSet s[at_] w; rw [setV_none] at this; exact this)
  have HNode := Lib.hid (fun w' (hw : Rdr w' base rb s ((at_ + 1 : Nat) : Int) D 0 ns ks) => node_any hw (setN (putM noSet s[at_].toNat)) (.slice none 0 0) kids_none hl)
  unfold ndV at HNode
  simp only [setN] at HNode
  go_enter Try.func80, Try.ntmps80
  go_wp2_with fail
  go_quiet (fail)
  go_wp2_with (first | (go_at_call 24; refine (HP.out _).mono ?_; rintro e w1 ⟨rfl, hb1⟩; have HB1 := Lib.hid hb1; have HRB := Lib.hid (Rdr_below (HSet.out _) hb1)) | (go_at_call 45; refine (HNode.out _ HRB.out.1).mono ?_; rintro e w2 ⟨rfl, q1, q2, q3⟩; have Q := Lib.hid (And.intro q1 (And.intro q2 q3)); clear q1 q2 q3))
  go_ret
  rw [HA.out]
  exact RPost_one rfl HRB.out.2 (late_nil _) Q.out
set_option maxRecDepth 100000 in
set_option maxHeartbeats 2000000 in
theorem atom_no41 (p : Option (Nat → List Nd → Res)) (h : Rdr w base rb s at_ D 0 ns ks) (hs : s.size ≤ 1000000) (ha : at_ < s.size) (hx : s[at_] = 41) : Calls Try.prog 80 #[.pointer (some ⟨rb, 0, none⟩)] w (RPost w base rb s D ns ks (atomF (Tx.bs s) p at_ ns)) := by
  have HR0 := Lib.hid h
  have HSet : Hid (∀ (q : Nat), Rdr ((w.drewN q).setCell ⟨rb, 1, none⟩ (.int .i64 ((at_ : Int) + 1))) base rb s ((at_ + 1 : Nat) : Int) D 0 ns ks ∧ Below base w ((w.drewN q).setCell ⟨rb, 1, none⟩ (.int .i64 ((at_ : Int) + 1))) ∧ KeptR w ((w.drewN q).setCell ⟨rb, 1, none⟩ (.int .i64 ((at_ : Int) + 1)))) := Lib.hid (fun q => by
    obtain ⟨r1, r2, r3⟩ := (h.drewN q).setAt ((at_ : Int) + 1)
    exact ⟨r1, below_drewN' q r2, (KeptX.drewN _ _).trans r3⟩)
  obtain ⟨v, hb, hh, hnn⟩ := h
  obtain ⟨c0, c1, c2, c3, c4, hf⟩ := rdr_cells hh
  have f1 := hf 1
  have i0 : (0 : Int) ≤ (at_ : Int) := by omega
  have i1 : (at_ : Int) < (s.size : Int) := by omega
  clear hh hnn hf
  have HA : Hid (atomF (Tx.bs s) p at_ ns = Except.error 40) := Lib.hid (by unfold atomF; rw [gl ha, hx]; rfl)
  have x1 : s[at_].toNat = 41 := by rw [hx]; rfl
  clear hx
  have HFl := Lib.hid (fun w' (hw : Rdr w' base rb s ((at_ + 1 : Nat) : Int) D 0 ns ks) => fail_first hw 40)
  go_enter Try.func80, Try.ntmps80
  go_wp2_with fail
  go_quiet (fail)
  go_wp2_with (first | (go_at_call 28; refine (HFl.out _ (HSet.out _).1).mono ?_; rintro e w2 ⟨rfl, q1, q2, q3⟩; have Q := Lib.hid (And.intro q1 (And.intro q2 q3)); clear q1 q2 q3))
  go_ret
  rw [HA.out]
  exact RPost_fail (by decide) (HSet.out _).2 Q.out
set_option maxRecDepth 100000 in
set_option maxHeartbeats 2000000 in
theorem atom_no124 (p : Option (Nat → List Nd → Res)) (h : Rdr w base rb s at_ D 0 ns ks) (hs : s.size ≤ 1000000) (ha : at_ < s.size) (hx : s[at_] = 124) : Calls Try.prog 80 #[.pointer (some ⟨rb, 0, none⟩)] w (RPost w base rb s D ns ks (atomF (Tx.bs s) p at_ ns)) := by
  have HR0 := Lib.hid h
  have HSet : Hid (∀ (q : Nat), Rdr ((w.drewN q).setCell ⟨rb, 1, none⟩ (.int .i64 ((at_ : Int) + 1))) base rb s ((at_ + 1 : Nat) : Int) D 0 ns ks ∧ Below base w ((w.drewN q).setCell ⟨rb, 1, none⟩ (.int .i64 ((at_ : Int) + 1))) ∧ KeptR w ((w.drewN q).setCell ⟨rb, 1, none⟩ (.int .i64 ((at_ : Int) + 1)))) := Lib.hid (fun q => by
    obtain ⟨r1, r2, r3⟩ := (h.drewN q).setAt ((at_ : Int) + 1)
    exact ⟨r1, below_drewN' q r2, (KeptX.drewN _ _).trans r3⟩)
  obtain ⟨v, hb, hh, hnn⟩ := h
  obtain ⟨c0, c1, c2, c3, c4, hf⟩ := rdr_cells hh
  have f1 := hf 1
  have i0 : (0 : Int) ≤ (at_ : Int) := by omega
  have i1 : (at_ : Int) < (s.size : Int) := by omega
  clear hh hnn hf
  have HA : Hid (atomF (Tx.bs s) p at_ ns = Except.error 40) := Lib.hid (by unfold atomF; rw [gl ha, hx]; rfl)
  have x1 : s[at_].toNat = 124 := by rw [hx]; rfl
  clear hx
  have HFl := Lib.hid (fun w' (hw : Rdr w' base rb s ((at_ + 1 : Nat) : Int) D 0 ns ks) => fail_first hw 40)
  go_enter Try.func80, Try.ntmps80
  go_wp2_with fail
  go_quiet (fail)
  go_wp2_with (first | (go_at_call 28; refine (HFl.out _ (HSet.out _).1).mono ?_; rintro e w2 ⟨rfl, q1, q2, q3⟩; have Q := Lib.hid (And.intro q1 (And.intro q2 q3)); clear q1 q2 q3))
  go_ret
  rw [HA.out]
  exact RPost_fail (by decide) (HSet.out _).2 Q.out
set_option maxRecDepth 100000 in
set_option maxHeartbeats 2000000 in
theorem atom_no42 (p : Option (Nat → List Nd → Res)) (h : Rdr w base rb s at_ D 0 ns ks) (hs : s.size ≤ 1000000) (ha : at_ < s.size) (hx : s[at_] = 42) : Calls Try.prog 80 #[.pointer (some ⟨rb, 0, none⟩)] w (RPost w base rb s D ns ks (atomF (Tx.bs s) p at_ ns)) := by
  have HR0 := Lib.hid h
  have HSet : Hid (∀ (q : Nat), Rdr ((w.drewN q).setCell ⟨rb, 1, none⟩ (.int .i64 ((at_ : Int) + 1))) base rb s ((at_ + 1 : Nat) : Int) D 0 ns ks ∧ Below base w ((w.drewN q).setCell ⟨rb, 1, none⟩ (.int .i64 ((at_ : Int) + 1))) ∧ KeptR w ((w.drewN q).setCell ⟨rb, 1, none⟩ (.int .i64 ((at_ : Int) + 1)))) := Lib.hid (fun q => by
    obtain ⟨r1, r2, r3⟩ := (h.drewN q).setAt ((at_ : Int) + 1)
    exact ⟨r1, below_drewN' q r2, (KeptX.drewN _ _).trans r3⟩)
  obtain ⟨v, hb, hh, hnn⟩ := h
  obtain ⟨c0, c1, c2, c3, c4, hf⟩ := rdr_cells hh
  have f1 := hf 1
  have i0 : (0 : Int) ≤ (at_ : Int) := by omega
  have i1 : (at_ : Int) < (s.size : Int) := by omega
  clear hh hnn hf
  have HA : Hid (atomF (Tx.bs s) p at_ ns = Except.error 40) := Lib.hid (by unfold atomF; rw [gl ha, hx]; rfl)
  have x1 : s[at_].toNat = 42 := by rw [hx]; rfl
  clear hx
  have HFl := Lib.hid (fun w' (hw : Rdr w' base rb s ((at_ + 1 : Nat) : Int) D 0 ns ks) => fail_first hw 40)
  go_enter Try.func80, Try.ntmps80
  go_wp2_with fail
  go_quiet (fail)
  go_wp2_with (first | (go_at_call 28; refine (HFl.out _ (HSet.out _).1).mono ?_; rintro e w2 ⟨rfl, q1, q2, q3⟩; have Q := Lib.hid (And.intro q1 (And.intro q2 q3)); clear q1 q2 q3))
  go_ret
  rw [HA.out]
  exact RPost_fail (by decide) (HSet.out _).2 Q.out
set_option maxRecDepth 100000 in
set_option maxHeartbeats 2000000 in
theorem atom_no43 (p : Option (Nat → List Nd → Res)) (h : Rdr w base rb s at_ D 0 ns ks) (hs : s.size ≤ 1000000) (ha : at_ < s.size) (hx : s[at_] = 43) : Calls Try.prog 80 #[.pointer (some ⟨rb, 0, none⟩)] w (RPost w base rb s D ns ks (atomF (Tx.bs s) p at_ ns)) := by
  have HR0 := Lib.hid h
  have HSet : Hid (∀ (q : Nat), Rdr ((w.drewN q).setCell ⟨rb, 1, none⟩ (.int .i64 ((at_ : Int) + 1))) base rb s ((at_ + 1 : Nat) : Int) D 0 ns ks ∧ Below base w ((w.drewN q).setCell ⟨rb, 1, none⟩ (.int .i64 ((at_ : Int) + 1))) ∧ KeptR w ((w.drewN q).setCell ⟨rb, 1, none⟩ (.int .i64 ((at_ : Int) + 1)))) := Lib.hid (fun q => by
    obtain ⟨r1, r2, r3⟩ := (h.drewN q).setAt ((at_ : Int) + 1)
    exact ⟨r1, below_drewN' q r2, (KeptX.drewN _ _).trans r3⟩)
  obtain ⟨v, hb, hh, hnn⟩ := h
  obtain ⟨c0, c1, c2, c3, c4, hf⟩ := rdr_cells hh
  have f1 := hf 1
  have i0 : (0 : Int) ≤ (at_ : Int) := by omega
  have i1 : (at_ : Int) < (s.size : Int) := by omega
  clear hh hnn hf
  have HA : Hid (atomF (Tx.bs s) p at_ ns = Except.error 40) := Lib.hid (by unfold atomF; rw [gl ha, hx]; rfl)
  have x1 : s[at_].toNat = 43 := by rw [hx]; rfl
  clear hx
  have HFl := Lib.hid (fun w' (hw : Rdr w' base rb s ((at_ + 1 : Nat) : Int) D 0 ns ks) => fail_first hw 40)
  go_enter Try.func80, Try.ntmps80
  go_wp2_with fail
  go_quiet (fail)
  go_wp2_with (first | (go_at_call 28; refine (HFl.out _ (HSet.out _).1).mono ?_; rintro e w2 ⟨rfl, q1, q2, q3⟩; have Q := Lib.hid (And.intro q1 (And.intro q2 q3)); clear q1 q2 q3))
  go_ret
  rw [HA.out]
  exact RPost_fail (by decide) (HSet.out _).2 Q.out
set_option maxRecDepth 100000 in
set_option maxHeartbeats 2000000 in
theorem atom_no63 (p : Option (Nat → List Nd → Res)) (h : Rdr w base rb s at_ D 0 ns ks) (hs : s.size ≤ 1000000) (ha : at_ < s.size) (hx : s[at_] = 63) : Calls Try.prog 80 #[.pointer (some ⟨rb, 0, none⟩)] w (RPost w base rb s D ns ks (atomF (Tx.bs s) p at_ ns)) := by
  have HR0 := Lib.hid h
  have HSet : Hid (∀ (q : Nat), Rdr ((w.drewN q).setCell ⟨rb, 1, none⟩ (.int .i64 ((at_ : Int) + 1))) base rb s ((at_ + 1 : Nat) : Int) D 0 ns ks ∧ Below base w ((w.drewN q).setCell ⟨rb, 1, none⟩ (.int .i64 ((at_ : Int) + 1))) ∧ KeptR w ((w.drewN q).setCell ⟨rb, 1, none⟩ (.int .i64 ((at_ : Int) + 1)))) := Lib.hid (fun q => by
    obtain ⟨r1, r2, r3⟩ := (h.drewN q).setAt ((at_ : Int) + 1)
    exact ⟨r1, below_drewN' q r2, (KeptX.drewN _ _).trans r3⟩)
  obtain ⟨v, hb, hh, hnn⟩ := h
  obtain ⟨c0, c1, c2, c3, c4, hf⟩ := rdr_cells hh
  have f1 := hf 1
  have i0 : (0 : Int) ≤ (at_ : Int) := by omega
  have i1 : (at_ : Int) < (s.size : Int) := by omega
  clear hh hnn hf
  have HA : Hid (atomF (Tx.bs s) p at_ ns = Except.error 40) := Lib.hid (by unfold atomF; rw [gl ha, hx]; rfl)
  have x1 : s[at_].toNat = 63 := by rw [hx]; rfl
  clear hx
  have HFl := Lib.hid (fun w' (hw : Rdr w' base rb s ((at_ + 1 : Nat) : Int) D 0 ns ks) => fail_first hw 40)
  go_enter Try.func80, Try.ntmps80
  go_wp2_with fail
  go_quiet (fail)
  go_wp2_with (first | (go_at_call 28; refine (HFl.out _ (HSet.out _).1).mono ?_; rintro e w2 ⟨rfl, q1, q2, q3⟩; have Q := Lib.hid (And.intro q1 (And.intro q2 q3)); clear q1 q2 q3))
  go_ret
  rw [HA.out]
  exact RPost_fail (by decide) (HSet.out _).2 Q.out
set_option maxRecDepth 100000 in
set_option maxHeartbeats 2000000 in
theorem atom_no123 (p : Option (Nat → List Nd → Res)) (h : Rdr w base rb s at_ D 0 ns ks) (hs : s.size ≤ 1000000) (ha : at_ < s.size) (hx : s[at_] = 123) : Calls Try.prog 80 #[.pointer (some ⟨rb, 0, none⟩)] w (RPost w base rb s D ns ks (atomF (Tx.bs s) p at_ ns)) := by
  have HR0 := Lib.hid h
  have HSet : Hid (∀ (q : Nat), Rdr ((w.drewN q).setCell ⟨rb, 1, none⟩ (.int .i64 ((at_ : Int) + 1))) base rb s ((at_ + 1 : Nat) : Int) D 0 ns ks ∧ Below base w ((w.drewN q).setCell ⟨rb, 1, none⟩ (.int .i64 ((at_ : Int) + 1))) ∧ KeptR w ((w.drewN q).setCell ⟨rb, 1, none⟩ (.int .i64 ((at_ : Int) + 1)))) := Lib.hid (fun q => by
    obtain ⟨r1, r2, r3⟩ := (h.drewN q).setAt ((at_ : Int) + 1)
    exact ⟨r1, below_drewN' q r2, (KeptX.drewN _ _).trans r3⟩)
  obtain ⟨v, hb, hh, hnn⟩ := h
  obtain ⟨c0, c1, c2, c3, c4, hf⟩ := rdr_cells hh
  have f1 := hf 1
  have i0 : (0 : Int) ≤ (at_ : Int) := by omega
  have i1 : (at_ : Int) < (s.size : Int) := by omega
  clear hh hnn hf
  have HA : Hid (atomF (Tx.bs s) p at_ ns = Except.error 40) := Lib.hid (by unfold atomF; rw [gl ha, hx]; rfl)
  have x1 : s[at_].toNat = 123 := by rw [hx]; rfl
  clear hx
  have HFl := Lib.hid (fun w' (hw : Rdr w' base rb s ((at_ + 1 : Nat) : Int) D 0 ns ks) => fail_first hw 40)
  go_enter Try.func80, Try.ntmps80
  go_wp2_with fail
  go_quiet (fail)
  go_wp2_with (first | (go_at_call 28; refine (HFl.out _ (HSet.out _).1).mono ?_; rintro e w2 ⟨rfl, q1, q2, q3⟩; have Q := Lib.hid (And.intro q1 (And.intro q2 q3)); clear q1 q2 q3))
  go_ret
  rw [HA.out]
  exact RPost_fail (by decide) (HSet.out _).2 Q.out
set_option maxRecDepth 100000 in
set_option maxHeartbeats 2000000 in
theorem atom_last (p : Option (Nat → List Nd → Res)) (h : Rdr w base rb s at_ D 0 ns ks) (hs : s.size ≤ 1000000) (ha : at_ < s.size) (hx : s[at_] = 92) (h1 : s.size ≤ at_ + 1) : Calls Try.prog 80 #[.pointer (some ⟨rb, 0, none⟩)] w (RPost w base rb s D ns ks (atomF (Tx.bs s) p at_ ns)) := by
  have HR0 := Lib.hid h
  have HSet : Hid (∀ (q : Nat), Rdr ((w.drewN q).setCell ⟨rb, 1, none⟩ (.int .i64 ((at_ : Int) + 1))) base rb s ((at_ + 1 : Nat) : Int) D 0 ns ks ∧ Below base w ((w.drewN q).setCell ⟨rb, 1, none⟩ (.int .i64 ((at_ : Int) + 1))) ∧ KeptR w ((w.drewN q).setCell ⟨rb, 1, none⟩ (.int .i64 ((at_ : Int) + 1)))) := Lib.hid (fun q => by
    obtain ⟨r1, r2, r3⟩ := (h.drewN q).setAt ((at_ : Int) + 1)
    exact ⟨r1, below_drewN' q r2, (KeptX.drewN _ _).trans r3⟩)
  obtain ⟨v, hb, hh, hnn⟩ := h
  obtain ⟨c0, c1, c2, c3, c4, hf⟩ := rdr_cells hh
  have f1 := hf 1
  have i0 : (0 : Int) ≤ (at_ : Int) := by omega
  have i1 : (at_ : Int) < (s.size : Int) := by omega
  clear hh hnn hf
  have HA : Hid (atomF (Tx.bs s) p at_ ns = Except.error 40) := Lib.hid (by unfold atomF; rw [gl ha, hx]; simp only; rw [gn h1]; rfl)
  have x1 : s[at_].toNat = 92 := by rw [hx]; rfl
  have d1 : (s.size : Int) ≤ (at_ : Int) + 1 := by omega
  clear hx
  have HSet2 : Hid (∀ (q q2 : Nat), Rdr (((w.drewN q).setCell ⟨rb, 1, none⟩ (.int .i64 ((at_ : Int) + 1))).drewN q2) base rb s ((at_ + 1 : Nat) : Int) D 0 ns ks ∧ Below base w (((w.drewN q).setCell ⟨rb, 1, none⟩ (.int .i64 ((at_ : Int) + 1))).drewN q2) ∧ KeptR w (((w.drewN q).setCell ⟨rb, 1, none⟩ (.int .i64 ((at_ : Int) + 1))).drewN q2)) := Lib.hid (fun q q2 => by
    obtain ⟨r1, r2, r3⟩ := HSet.out q
    exact ⟨r1.drewN q2, below_drewN r2 q2, r3.trans (KeptX.drewN _ _)⟩)
  have HFl := Lib.hid (fun w' (hw : Rdr w' base rb s ((at_ + 1 : Nat) : Int) D 0 ns ks) => fail_first hw 40)
  go_enter Try.func80, Try.ntmps80
  go_wp2_with fail
  go_quiet (fail)
  go_wp2_with (first | fail)
  go_quiet (fail)
  go_wp2_with (go_at_call 28; refine (HFl.out _ (HSet2.out _ _).1).mono ?_; rintro e w2 ⟨rfl, q1, q2, q3⟩; have Q := Lib.hid (And.intro q1 (And.intro q2 q3)); clear q1 q2 q3)
  go_ret
  rw [HA.out]
  exact RPost_fail (by decide) (HSet2.out _ _).2 Q.out
set_option maxRecDepth 100000 in
set_option maxHeartbeats 2000000 in
theorem atom_esc (p : Option (Nat → List Nd → Res)) (h : Rdr w base rb s at_ D 0 ns ks) (hs : s.size ≤ 1000000) (ha : at_ < s.size) (hx : s[at_] = 92) (h1 : at_ + 1 < s.size) (hl : ns.length ≤ 1000000) : Calls Try.prog 80 #[.pointer (some ⟨rb, 0, none⟩)] w (RPost w base rb s D ns ks (atomF (Tx.bs s) p at_ ns)) := by
  have HR0 := Lib.hid h
  have HSet : Hid (∀ (q : Nat), Rdr ((w.drewN q).setCell ⟨rb, 1, none⟩ (.int .i64 ((at_ : Int) + 1))) base rb s ((at_ + 1 : Nat) : Int) D 0 ns ks ∧ Below base w ((w.drewN q).setCell ⟨rb, 1, none⟩ (.int .i64 ((at_ : Int) + 1))) ∧ KeptR w ((w.drewN q).setCell ⟨rb, 1, none⟩ (.int .i64 ((at_ : Int) + 1)))) := Lib.hid (fun q => by
    obtain ⟨r1, r2, r3⟩ := (h.drewN q).setAt ((at_ : Int) + 1)
    exact ⟨r1, below_drewN' q r2, (KeptX.drewN _ _).trans r3⟩)
  obtain ⟨v, hb, hh, hnn⟩ := h
  obtain ⟨c0, c1, c2, c3, c4, hf⟩ := rdr_cells hh
  have f1 := hf 1
  have i0 : (0 : Int) ≤ (at_ : Int) := by omega
  have i1 : (at_ : Int) < (s.size : Int) := by omega
  clear hh hnn hf
  have HA : Hid (atomF (Tx.bs s) p at_ ns = Except.ok ((ns.length : Int), at_ + 2, ns ++ [setN (putM noSet s[at_ + 1].toNat)])) := Lib.hid (by unfold atomF; rw [gl ha, hx]; simp only; rw [gl h1]; rfl)
  have x1 : s[at_].toNat = 92 := by rw [hx]; rfl
  have d1 : decide ((s.size : Int) ≤ (at_ : Int) + 1) = false := by simp only [decide_eq_false_iff_not]; omega
  have d2 : (at_ : Int) + 1 < (s.size : Int) := by omega
  have d3 : (0 : Int) ≤ (at_ : Int) + 1 := by omega
  have d4 : ((at_ : Int) + 1).toNat = at_ + 1 := by omega
  clear hx
  have HSet2 : Hid (∀ (q q2 : Nat), Rdr (((w.drewN q).setCell ⟨rb, 1, none⟩ (.int .i64 ((at_ : Int) + 1))).drewN q2) base rb s ((at_ + 1 : Nat) : Int) D 0 ns ks ∧ Below base w (((w.drewN q).setCell ⟨rb, 1, none⟩ (.int .i64 ((at_ : Int) + 1))).drewN q2) ∧ KeptR w (((w.drewN q).setCell ⟨rb, 1, none⟩ (.int .i64 ((at_ : Int) + 1))).drewN q2)) := Lib.hid (fun q q2 => by
    obtain ⟨r1, r2, r3⟩ := HSet.out q
    exact ⟨r1.drewN q2, below_drewN r2 q2, r3.trans (KeptX.drewN _ _)⟩)
  have HSet3 : Hid (∀ (q q2 : Nat), Rdr ((((w.drewN q).setCell ⟨rb, 1, none⟩ (.int .i64 ((at_ : Int) + 1))).drewN q2).setCell ⟨rb, 1, none⟩ (.int .i64 ((at_ : Int) + 1 + 1))) base rb s ((at_ + 2 : Nat) : Int) D 0 ns ks ∧ Below base w ((((w.drewN q).setCell ⟨rb, 1, none⟩ (.int .i64 ((at_ : Int) + 1))).drewN q2).setCell ⟨rb, 1, none⟩ (.int .i64 ((at_ : Int) + 1 + 1))) ∧ KeptR w ((((w.drewN q).setCell ⟨rb, 1, none⟩ (.int .i64 ((at_ : Int) + 1))).drewN q2).setCell ⟨rb, 1, none⟩ (.int .i64 ((at_ : Int) + 1 + 1)))) := Lib.hid (fun q q2 => by
    obtain ⟨r1, r2, r3⟩ := HSet2.out q q2
    obtain ⟨r4, r5, r6⟩ := r1.setAt ((at_ : Int) + 1 + 1)
    refine ⟨?_, r2.trans r5, r3.trans r6⟩
    rw [show ((at_ + 2 : Nat) : Int) = (at_ : Int) + 1 + 1 from by omega]
    exact r4)
  have HP : Hid (∀ w, Calls Try.prog 24 #[(.agg #[.int .u64 0, .int .u64 0, .int .u64 0, .int .u64 0]), .int .u8 (s[at_ + 1].toNat : Int)] w fun e w' => e = .returned (.agg #[.int .u64 (word (putM noSet s[at_ + 1].toNat) 0 : Nat), .int .u64 (word (putM noSet s[at_ + 1].toNat) 1 : Nat), .int .u64 (word (putM noSet s[at_ + 1].toNat) 2 : Nat), .int .u64 (word (putM noSet s[at_ + 1].toNat) 3 : Nat)]) ∧ Below w.heap.size w w') := Lib.hid (fun w => by have := Put_any noSet s[at_ + 1] w; rw [setV_none] at this; exact this)
  have HNode := Lib.hid (fun w' (hw : Rdr w' base rb s ((at_ + 2 : Nat) : Int) D 0 ns ks) => node_any hw (setN (putM noSet s[at_ + 1].toNat)) (.slice none 0 0) kids_none hl)
  unfold ndV at HNode
  simp only [setN] at HNode
  go_enter Try.func80, Try.ntmps80
  go_wp2_with fail
  go_quiet (fail)
  go_wp2_with (first | fail)
  go_quiet (fail)
  go_wp2_with fail
  go_quiet (fail)
  go_wp2_with (first | (go_at_call 24; refine (HP.out _).mono ?_; rintro e w1 ⟨rfl, hb1⟩; have HB1 := Lib.hid hb1; have HRB := Lib.hid (Rdr_below (HSet3.out _ _) hb1)) | (go_at_call 45; refine (HNode.out _ HRB.out.1).mono ?_; rintro e w2 ⟨rfl, q1, q2, q3⟩; have Q := Lib.hid (And.intro q1 (And.intro q2 q3)); clear q1 q2 q3))
  go_ret
  rw [HA.out]
  exact RPost_one rfl HRB.out.2 (late_nil _) Q.out
set_option maxRecDepth 100000 in
set_option maxHeartbeats 2000000 in
theorem atom_class (p : Option (Nat → List Nd → Res)) (h : Rdr w base rb s at_ D 0 ns ks) (hs : s.size ≤ 1000000) (ha : at_ < s.size) (hx : s[at_] = 91) (hl : ns.length ≤ 1000000) (hC : ClassOk s) : Calls Try.prog 80 #[.pointer (some ⟨rb, 0, none⟩)] w (RPost w base rb s D ns ks (atomF (Tx.bs s) p at_ ns)) := by
  have HR0 := Lib.hid h
  have HSet : Hid (∀ (q : Nat), Rdr ((w.drewN q).setCell ⟨rb, 1, none⟩ (.int .i64 ((at_ : Int) + 1))) base rb s ((at_ + 1 : Nat) : Int) D 0 ns ks ∧ Below base w ((w.drewN q).setCell ⟨rb, 1, none⟩ (.int .i64 ((at_ : Int) + 1))) ∧ KeptR w ((w.drewN q).setCell ⟨rb, 1, none⟩ (.int .i64 ((at_ : Int) + 1)))) := Lib.hid (fun q => by
    obtain ⟨r1, r2, r3⟩ := (h.drewN q).setAt ((at_ : Int) + 1)
    exact ⟨r1, below_drewN' q r2, (KeptX.drewN _ _).trans r3⟩)
  obtain ⟨v, hb, hh, hnn⟩ := h
  obtain ⟨c0, c1, c2, c3, c4, hf⟩ := rdr_cells hh
  have f1 := hf 1
  have i0 : (0 : Int) ≤ (at_ : Int) := by omega
  have i1 : (at_ : Int) < (s.size : Int) := by omega
  clear hh hnn hf
  have HA : Hid (atomF (Tx.bs s) p at_ ns = (match classF (Tx.bs s) (at_ + 1) with | none => Except.error 40 | some (m, a) => Except.ok ((ns.length : Int), a, ns ++ [setN m]))) := Lib.hid (by unfold atomF; rw [gl ha, hx]; rfl)
  have x1 : s[at_].toNat = 91 := by rw [hx]; rfl
  clear hx
  have HCl : Hid (∀ q, Calls Try.prog 88 #[.pointer (some ⟨rb, 0, none⟩)] ((w.drewN q).setCell ⟨rb, 1, none⟩ (.int .i64 ((at_ : Int) + 1))) (RPost w base rb s D ns ks (match classF (Tx.bs s) (at_ + 1) with | none => Except.error 40 | some (m, a) => Except.ok ((ns.length : Int), a, ns ++ [setN m])))) := Lib.hid (fun q =>
    (hC _ base rb (at_ + 1) D ns ks (HSet.out q).1 (by omega) hl).mono fun en w' hh => RPost.before' (HSet.out q).2.1 (HSet.out q).2.2 hh)
  go_enter Try.func80, Try.ntmps80
  go_wp2_with fail
  go_quiet (fail)
  go_wp2_with (first | fail)
  refine (HCl.out _).mono ?_
  intro e w2 hQ
  obtain ⟨z, rfl⟩ := hQ.int
  have Q := Lib.hid hQ
  clear hQ
  go_wp2_with fail
  go_ret
  rw [HA.out]
  exact Q.out
end
end Rx
end Go.Proofs.Ytebljjdhgepfkaa

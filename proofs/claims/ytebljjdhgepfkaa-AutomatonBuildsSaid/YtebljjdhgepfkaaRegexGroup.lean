/-
  The reference's atom: a group; and atom as a whole. Conditions: short patterns; what it calls for a group does what the document says.
-/
import Derived.Test.YtebljjdhgepfkaaRegexAtom
namespace Go.Proofs.Ytebljjdhgepfkaa
open Go.RowKit
namespace Rx
open Cm
section
variable {w : World} {base rb : Nat} {s : ByteArray} {at_ : Nat} {D : Int} {ns : List Nd} {ks : List Value}
theorem isF_T {l : List UInt8} {a : Nat} {k : UInt8} (h : l[a]? = some k) : isF l a k.toNat = true := by unfold isF; rw [h]; exact beq_self_eq_true _
theorem isF_F {l : List UInt8} {a : Nat} {k : UInt8} (h : l[a]? ≠ some k) : isF l a k.toNat = false := by
  unfold isF
  cases hl : l[a]? with
  | none => rfl
  | some b =>
    simp only
    rw [beq_eq_false_iff_ne]
    intro e
    apply h
    rw [hl]
    congr 1
    exact UInt8.toNat_inj.1 e
set_option maxRecDepth 100000 in
set_option maxHeartbeats 2000000 in
theorem atom_deep (h : Rdr w base rb s at_ D 0 ns ks) (hs : s.size ≤ 1000000) (ha : at_ < s.size) (hx : s[at_] = 40) (hp : D = 50) :
    Calls Try.prog 80 #[.pointer (some ⟨rb, 0, none⟩)] w (RPost w base rb s D ns ks (atomF (Tx.bs s) none at_ ns)) := by
  have HSet : Hid (∀ (q : Nat), Rdr ((w.drewN q).setCell ⟨rb, 1, none⟩ (.int .i64 ((at_ : Int) + 1))) base rb s ((at_ + 1 : Nat) : Int) D 0 ns ks ∧ Below base w ((w.drewN q).setCell ⟨rb, 1, none⟩ (.int .i64 ((at_ : Int) + 1))) ∧ KeptR w ((w.drewN q).setCell ⟨rb, 1, none⟩ (.int .i64 ((at_ : Int) + 1)))) := Lib.hid (fun q => by
    obtain ⟨r1, r2, r3⟩ := (h.drewN q).setAt ((at_ : Int) + 1)
    exact ⟨r1, below_drewN' q r2, (KeptX.drewN _ _).trans r3⟩)
  obtain ⟨v, hb, hh, hnn⟩ := h
  obtain ⟨c0, c1, c2, c3, c4, hf⟩ := rdr_cells hh
  have f1 := hf 1
  have i0 : (0 : Int) ≤ (at_ : Int) := by omega
  have i1 : (at_ : Int) < (s.size : Int) := by omega
  clear hh hnn hf
  have HA : Hid (atomF (Tx.bs s) none at_ ns = .error 1) := Lib.hid (by unfold atomF; rw [gl ha, hx]; rfl)
  have x1 : s[at_].toNat = 40 := by rw [hx]; rfl
  have HFl := Lib.hid (fun w' (hw : Rdr w' base rb s ((at_ + 1 : Nat) : Int) D 0 ns ks) => fail_first hw 1)
  clear hx
  have hD : (50 : Int) ≤ D := by omega
  clear hp
  go_enter Try.func80, Try.ntmps80
  go_wp2_with fail
  go_quiet (fail)
  go_wp2_with (go_at_call 28; refine (HFl.out _ (HSet.out _).1).mono ?_; rintro e w2 ⟨rfl, q1, q2, q3⟩; have Q := Lib.hid (And.intro q1 (And.intro q2 q3)); clear q1 q2 q3)
  go_ret
  rw [HA.out]
  exact RPost_fail (by decide) (HSet.out _).2 Q.out
set_option maxRecDepth 100000 in
set_option maxHeartbeats 4000000 in
theorem atom_group {f : Nat → List Nd → Res} (h : Rdr w base rb s at_ D 0 ns ks) (hs : s.size ≤ 1000000) (ha : at_ < s.size) (hx : s[at_] = 40) (hD0 : 0 ≤ D) (hp : POk s D (some f)) (hl : ns.length + 4 * (s.size - at_) ≤ 500000) :
    Calls Try.prog 80 #[.pointer (some ⟨rb, 0, none⟩)] w (RPost w base rb s D ns ks (atomF (Tx.bs s) (some f) at_ ns)) := by
  obtain ⟨hD, hcall, hadv⟩ := hp
  have HSet : Hid (∀ (q : Nat), Rdr (((w.drewN q).setCell ⟨rb, 1, none⟩ (.int .i64 ((at_ : Int) + 1))).setCell ⟨rb, 2, none⟩ (.int .i64 (D + 1))) base rb s ((at_ + 1 : Nat) : Int) (D + 1) 0 ns ks ∧ Below base w (((w.drewN q).setCell ⟨rb, 1, none⟩ (.int .i64 ((at_ : Int) + 1))).setCell ⟨rb, 2, none⟩ (.int .i64 (D + 1))) ∧
      KeptR w (((w.drewN q).setCell ⟨rb, 1, none⟩ (.int .i64 ((at_ : Int) + 1))).setCell ⟨rb, 2, none⟩ (.int .i64 (D + 1)))) := Lib.hid (fun q => by
    obtain ⟨r1, r2, r3⟩ := (h.drewN q).setAt ((at_ : Int) + 1)
    obtain ⟨r4, r5, r6⟩ := r1.setDepth (D + 1)
    exact ⟨r4, below_drewN' q (r2.trans r5), (KeptX.drewN _ _).trans (r3.trans r6)⟩)
  have HCall : Hid (∀ q, Calls Try.prog 27 #[.pointer (some ⟨rb, 0, none⟩)] (((w.drewN q).setCell ⟨rb, 1, none⟩ (.int .i64 ((at_ : Int) + 1))).setCell ⟨rb, 2, none⟩ (.int .i64 (D + 1)))
      (RPost w base rb s (D + 1) ns ks (f (at_ + 1) ns))) := Lib.hid (fun q => (hcall _ base rb (at_ + 1) ns ks (HSet.out q).1 (by omega) (by omega)).mono fun en w' hh => RPost.before' (HSet.out q).2.1 (HSet.out q).2.2 hh)
  obtain ⟨v, hb, hh, hnn⟩ := h
  obtain ⟨c0, c1, c2, c3, c4, hf⟩ := rdr_cells hh
  have f1 := hf 1
  have f2 := hf 2
  have i0 : (0 : Int) ≤ (at_ : Int) := by omega
  have i1 : (at_ : Int) < (s.size : Int) := by omega
  clear hh hnn hf
  have x1 : s[at_].toNat = 40 := by rw [hx]; rfl
  have i2 : ¬ (50 : Int) ≤ D := by omega
  cases hr : f (at_ + 1) ns with
  | error c =>
    have HA : Hid (atomF (Tx.bs s) (some f) at_ ns = .error c) := Lib.hid (by unfold atomF; rw [gl ha, hx]; simp only [if_true]; rw [hr])
    rw [hr] at HCall
    clear hx hr hcall hadv
    go_enter Try.func80, Try.ntmps80
    go_wp2_with fail
    go_quiet (fail)
    go_wp2_with fail
    refine (HCall.out _).mono ?_
    rintro e w2 ⟨⟨z, rfl⟩, hc0, ⟨a, d, hR⟩, hB, hK⟩
    obtain ⟨r1, r2, r3⟩ := hR.setDepth (wrap64 (d - 1))
    obtain ⟨r4, r5, r6⟩ := r1.setAt (wrap64 (a + 1))
    have HE := Lib.hid (And.intro r4 (And.intro (hB.trans (r2.trans r5)) (hK.trans (r3.trans r6))))
    obtain ⟨v', hb', hh'⟩ := hR
    obtain ⟨c0', c1', c2', c3', c4', hf'⟩ := rdr_cells hh'
    have f1' := hf' 1
    have f2' := hf' 2
    have e1 : (c == 0) = false := by rw [beq_eq_false_iff_ne]; exact hc0
    have HC0 := Lib.hid hc0
    clear r1 r2 r3 r4 r5 r6 hB hK hh' hf' hc0 hb'
    go_wp2_with fail
    go_ret
    rw [HA.out]
    exact ⟨⟨_, rfl⟩, HC0.out, ⟨_, _, HE.out.1⟩, HE.out.2⟩
  | ok x =>
    obtain ⟨k, a, ns2⟩ := x
    have hav := hadv (at_ + 1) ns (by rw [Tx.bs_len]; omega) k a ns2 hr
    rw [Tx.bs_len] at hav
    rw [hr] at HCall
    by_cases hb41 : (Tx.bs s)[a]? = some 41
    · have HA : Hid (atomF (Tx.bs s) (some f) at_ ns = .ok (k, a + 1, ns2)) := Lib.hid (by unfold atomF; rw [gl ha, hx]; simp only [if_true]; rw [hr]; simp only; rw [if_pos hb41])
      have HI : Hid (isF (Tx.bs s) a 41 = true) := Lib.hid (isF_T hb41)
      clear hx hr hcall hadv hb41
      go_enter Try.func80, Try.ntmps80
      go_wp2_with fail
      go_quiet (fail)
      go_wp2_with fail
      refine (HCall.out _).mono ?_
      rintro e w2 ⟨rfl, ⟨ks2, hR, hLate⟩, hB, hK⟩
      have HEnd : Hid (∀ m, Rdr (((w2.drewN m).setCell ⟨rb, 2, none⟩ (.int .i64 D)).setCell ⟨rb, 1, none⟩ (.int .i64 ((a : Int) + 1))) base rb s ((a + 1 : Nat) : Int) D 0 ns2 (ks ++ ks2) ∧ Below base w (((w2.drewN m).setCell ⟨rb, 2, none⟩ (.int .i64 D)).setCell ⟨rb, 1, none⟩ (.int .i64 ((a : Int) + 1))) ∧
          KeptR w (((w2.drewN m).setCell ⟨rb, 2, none⟩ (.int .i64 D)).setCell ⟨rb, 1, none⟩ (.int .i64 ((a : Int) + 1)))) := Lib.hid (fun m => by
        obtain ⟨r1, r2, r3⟩ := (hR.drewN m).setDepth D
        obtain ⟨r4, r5, r6⟩ := r1.setAt ((a : Int) + 1)
        exact ⟨r4, hB.trans (below_drewN' m (r2.trans r5)), hK.trans ((KeptX.drewN _ _).trans (r3.trans r6))⟩)
      have HIs := Lib.hid (is_any hR 41)
      have HLate := Lib.hid hLate
      obtain ⟨v', hb', hh', _⟩ := hR
      obtain ⟨c0', c1', c2', c3', c4', hf'⟩ := rdr_cells hh'
      have f1' := hf' 1
      have f2' := hf' 2
      have k0 : (0 : Int) ≤ (a : Int) := by omega
      have k1 : (a : Int) ≤ (s.size : Int) := by omega
      clear hB hK hh' hf' hb' hLate
      go_wp2_with (go_at_call 44; refine HIs.out.mono ?_; rintro e w3 ⟨rfl, m, rfl⟩; rw [HI.out])
      go_ret
      rw [HA.out]
      exact ⟨rfl, ⟨ks2, (HEnd.out _).1, HLate.out⟩, (HEnd.out _).2⟩
    · have HA : Hid (atomF (Tx.bs s) (some f) at_ ns = .error 40) := Lib.hid (by unfold atomF; rw [gl ha, hx]; simp only [if_true]; rw [hr]; simp only; rw [if_neg hb41])
      have HI : Hid (isF (Tx.bs s) a 41 = false) := Lib.hid (isF_F hb41)
      clear hx hr hcall hadv hb41
      go_enter Try.func80, Try.ntmps80
      go_wp2_with fail
      go_quiet (fail)
      go_wp2_with fail
      refine (HCall.out _).mono ?_
      rintro e w2 ⟨rfl, ⟨ks2, hR, hLate⟩, hB, hK⟩
      have HB := Lib.hid hB
      have HK := Lib.hid hK
      have HIs := Lib.hid (is_any hR 41)
      have HFl := Lib.hid (fun m => fail_first (hR.drewN m) 40)
      obtain ⟨v', hb', hh', _⟩ := hR
      obtain ⟨c0', c1', c2', c3', c4', hf'⟩ := rdr_cells hh'
      clear hB hK hh' hf' hb' hLate
      go_wp2_with (first
        | (go_at_call 44; refine HIs.out.mono ?_; rintro e w3 ⟨rfl, m, rfl⟩; rw [HI.out])
        | (go_at_call 28; refine (HFl.out _).mono ?_; rintro e w4 ⟨rfl, q1, q2, q3⟩; have Q := Lib.hid (And.intro q1 (And.intro q2 q3)); clear q1 q2 q3))
      go_ret
      rw [HA.out]
      exact ⟨⟨_, rfl⟩, by decide, ⟨_, _, Q.out.1.err⟩, HB.out.trans (below_drewN' _ Q.out.2.1), HK.out.trans ((KeptX.drewN _ _).trans Q.out.2.2)⟩
/-- One atom. -/
theorem atom_any {p : Option (Nat → List Nd → Res)} (h : Rdr w base rb s at_ D 0 ns ks) (hs : s.size ≤ 1000000) (ha : at_ < s.size) (hD0 : 0 ≤ D) (hp : POk s D p) (hC : ClassOk s) (hl : ns.length + 4 * (s.size - at_) ≤ 500000) :
    Calls Try.prog 80 #[.pointer (some ⟨rb, 0, none⟩)] w (RPost w base rb s D ns ks (atomF (Tx.bs s) p at_ ns)) := by
  by_cases h40 : s[at_] = 40
  · cases p with
    | none => exact atom_deep h hs ha h40 hp
    | some f => exact atom_group h hs ha h40 hD0 hp hl
  by_cases h91 : s[at_] = 91
  · exact atom_class p h hs ha h91 (by omega) hC
  by_cases h46 : s[at_] = 46
  · exact atom_dot p h hs ha h46 (by omega)
  by_cases h94 : s[at_] = 94
  · exact atom_start p h hs ha h94 (by omega)
  by_cases h36 : s[at_] = 36
  · exact atom_end p h hs ha h36 (by omega)
  by_cases h41 : s[at_] = 41
  · exact atom_no41 p h hs ha h41
  by_cases h124 : s[at_] = 124
  · exact atom_no124 p h hs ha h124
  by_cases h42 : s[at_] = 42
  · exact atom_no42 p h hs ha h42
  by_cases h43 : s[at_] = 43
  · exact atom_no43 p h hs ha h43
  by_cases h63 : s[at_] = 63
  · exact atom_no63 p h hs ha h63
  by_cases h123 : s[at_] = 123
  · exact atom_no123 p h hs ha h123
  by_cases h92 : s[at_] = 92
  · by_cases h1 : at_ + 1 < s.size
    · exact atom_esc p h hs ha h92 h1 (by omega)
    · exact atom_last p h hs ha h92 (by omega)
  exact atom_byte p h hs ha h40 h91 h46 h94 h36 h41 h124 h42 h43 h63 h123 h92 (by omega)
end
end Rx
end Go.Proofs.Ytebljjdhgepfkaa

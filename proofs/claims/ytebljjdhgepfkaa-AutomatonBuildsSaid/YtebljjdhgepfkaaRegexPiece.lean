/-
  The reference's piece: an atom and a quantifier. Conditions: short patterns; what is called for a group does what the document says.
-/
import Derived.Test.YtebljjdhgepfkaaRegexGroup
namespace Go.Proofs.Ytebljjdhgepfkaa
open Go.RowKit
namespace Rx
open Cm
section
variable {w : World} {base rb : Nat} {s : ByteArray} {at_ : Nat} {D : Int} {ns : List Nd} {ks : List Value}
theorem kids_one {w : World} {base : Nat} (hb : base ≤ w.heap.size) (k : Int) : (w.alloc (.cells #[.int .i64 k] tInt)).ownsRow base tInt 1 (.slice (some ⟨w.heap.size, 0, none⟩) 1 1) ([k] : List Int).length (intsV [k]) :=
  ⟨rfl, .inr ⟨w.heap.size, 1, #[.int .i64 k], rfl, hb, heap_new w _, Nat.le_refl _, by unfold maxLen; omega, rfl, rfl⟩⟩
theorem size_drewN (w : World) (m : Nat) : (w.drewN m).heap.size = w.heap.size := by
  induction m generalizing w with
  | zero => rfl
  | succ m ih => exact ih (w := w.drew)
/-- The node of a quantifier. -/
theorem rep_node {W : World} {a : Nat} {ns1 : List Nd} {ks2 : List Value} (hR : Rdr W base rb s (a : Int) D 0 ns1 (ks ++ ks2)) (hB : Below base w W) (hK : KeptR w W) (hL : ∀ kv ∈ ks2, Late w.heap.size kv) (lo hi k : Int) (hl : ns1.length ≤ 1000000) (H : Nat) (hH : W.heap.size = H) :
    Calls Try.prog 45 #[.pointer (some ⟨rb, 0, none⟩), .agg #[.int .i64 6, .int .u64 0, .int .u64 0, .int .u64 0, .int .u64 0, .int .i64 lo, .int .i64 hi, .slice (some ⟨H, 0, none⟩) 1 1]] ((W.setCell ⟨rb, 1, none⟩ (.int .i64 ((a : Int) + 1))).alloc (.cells #[.int .i64 k] tInt))
      (RPost w base rb s D ns ks (.ok ((ns1.length : Int), a + 1, ns1 ++ [repN lo hi k]))) := by
  obtain ⟨r1, r2, r3⟩ := hR.setAt ((a : Int) + 1)
  have hsz : (W.setCell ⟨rb, 1, none⟩ (.int .i64 ((a : Int) + 1))).heap.size = H := by rw [← hH]; simp [World.setCell]
  have h6 := Rdr_below (w := W) ⟨r1, r2, r3⟩ ((Below.refl _ (W.setCell ⟨rb, 1, none⟩ (.int .i64 ((a : Int) + 1)))).alloc (Nat.le_refl _) (.cells #[.int .i64 k] tInt))
  have hk := kids_one (w := W.setCell ⟨rb, 1, none⟩ (.int .i64 ((a : Int) + 1))) r1.size k
  rw [hsz] at hk
  have hN := node_any h6.1 (repN lo hi k) _ hk hl
  unfold ndV at hN
  simp only [repN, show ∀ j, word noSet j = 0 from fun j => word_none j] at hN
  refine hN.mono fun en w' ⟨e1, e2, e3, e4⟩ => ⟨e1, ⟨ks2 ++ [.slice (some ⟨H, 0, none⟩) 1 1], by rw [← List.append_assoc]; exact e2, fun kv hkv => ?_⟩, hB.trans (h6.2.1.trans e3), hK.trans (h6.2.2.trans e4)⟩
  rcases List.mem_append.1 hkv with hkv | hkv
  · exact hL kv hkv
  · rw [List.mem_singleton] at hkv
    subst hkv
    intro g hg
    have : g = H := by simpa [Value.ownBlock] using hg.symm
    have := hB.size
    omega
set_option maxRecDepth 100000 in
set_option maxHeartbeats 2000000 in
theorem piece_xe (p : Option (Nat → List Nd → Res)) (h : Rdr w base rb s at_ D 0 ns ks) (_hs : s.size ≤ 1000000) (ha : at_ < s.size) (hAtom : ∀ q, Calls Try.prog 80 #[.pointer (some ⟨rb, 0, none⟩)] (w.drewN q) (RPost w base rb s D ns ks (atomF (Tx.bs s) p at_ ns))) (hx : s[at_] = 94) (c : Int) (hr : atomF (Tx.bs s) p at_ ns = .error c) : Calls Try.prog 67 #[.pointer (some ⟨rb, 0, none⟩)] w (RPost w base rb s D ns ks (pieceF (Tx.bs s) p at_ ns)) := by
  have HA : Hid (pieceF (Tx.bs s) p at_ ns = .error c) := Lib.hid (by unfold pieceF; rw [hr])
  rw [hr] at hAtom
  have HI94 : Hid (∀ q, Calls Try.prog 44 #[.pointer (some ⟨rb, 0, none⟩), .int .u8 94] (w.drewN q) fun en w' => en = .returned (.bool true) ∧ ∃ m, w' = (w.drewN q).drewN m) := Lib.hid (fun q => by
    have h1 := is_any (h.drewN q) 94
    rw [show isF (Tx.bs s) at_ 94 = true from isF_T (k := 94) (by rw [gl ha, hx])] at h1
    exact h1)
  have HAtom := Lib.hid hAtom
  clear hAtom
  clear h hr
  go_enter Try.func67, Try.ntmps67
  go_wp2_with fail
  refine (HI94.out 0).mono ?_
  rintro e w0 ⟨rfl, m0, rfl⟩
  rw [World.drewN_drewN, Nat.zero_add]
  go_wp2_with fail
  refine (HAtom.out _).mono ?_
  rintro e w2 ⟨⟨z, rfl⟩, hc0, ⟨a, d, hR⟩, hB, hK⟩
  have HE := Lib.hid (fun m => And.intro (hR.drewN m) (And.intro (below_drewN hB m) (hK.trans (KeptX.drewN w2 m))))
  obtain ⟨v', hb', hh'⟩ := hR
  obtain ⟨c0, c1, c2, c3, c4, hf⟩ := rdr_cells hh'
  have f1 := hf 1
  have e1 : (c == 0) = false := by rw [beq_eq_false_iff_ne]; exact hc0
  have e2 : (c != 0) = true := by rw [bne, e1]; rfl
  have HC0 := Lib.hid hc0
  clear hB hK hh' hf hc0 hb'
  go_wp2_with fail
  go_quiet (fail)
  go_wp2_with fail
  go_ret
  rw [HA.out]
  exact ⟨⟨_, rfl⟩, HC0.out, ⟨_, _, (HE.out _).1⟩, (HE.out _).2⟩
set_option maxRecDepth 100000 in
set_option maxHeartbeats 2000000 in
theorem piece_xs (p : Option (Nat → List Nd → Res)) (h : Rdr w base rb s at_ D 0 ns ks) (_hs : s.size ≤ 1000000) (ha : at_ < s.size) (hAtom : ∀ q, Calls Try.prog 80 #[.pointer (some ⟨rb, 0, none⟩)] (w.drewN q) (RPost w base rb s D ns ks (atomF (Tx.bs s) p at_ ns))) (hx : s[at_] = 94) (k : Int) (a : Nat) (ns1 : List Nd) (hr : atomF (Tx.bs s) p at_ ns = .ok (k, a, ns1)) (h1 : s.size ≤ a) : Calls Try.prog 67 #[.pointer (some ⟨rb, 0, none⟩)] w (RPost w base rb s D ns ks (pieceF (Tx.bs s) p at_ ns)) := by
  have HA : Hid (pieceF (Tx.bs s) p at_ ns = .ok (k, a, ns1)) := Lib.hid (by unfold pieceF; rw [hr]; simp only; rw [show quantF (Tx.bs s) a = none from by unfold quantF; rw [gn h1]])
  rw [hr] at hAtom
  have HI94 : Hid (∀ q, Calls Try.prog 44 #[.pointer (some ⟨rb, 0, none⟩), .int .u8 94] (w.drewN q) fun en w' => en = .returned (.bool true) ∧ ∃ m, w' = (w.drewN q).drewN m) := Lib.hid (fun q => by
    have h1 := is_any (h.drewN q) 94
    rw [show isF (Tx.bs s) at_ 94 = true from isF_T (k := 94) (by rw [gl ha, hx])] at h1
    exact h1)
  have HAtom := Lib.hid hAtom
  clear hAtom
  clear h hr
  go_enter Try.func67, Try.ntmps67
  go_wp2_with fail
  refine (HI94.out 0).mono ?_
  rintro e w0 ⟨rfl, m0, rfl⟩
  rw [World.drewN_drewN, Nat.zero_add]
  go_wp2_with fail
  refine (HAtom.out _).mono ?_
  rintro e w2 ⟨rfl, ⟨ks2, hR, hLate⟩, hB, hK⟩
  have HL := Lib.hid hLate
  have HR := Lib.hid (fun m => And.intro (hR.drewN m) (And.intro (below_drewN hB m) (hK.trans (KeptX.drewN w2 m))))
  have hbs := hB.size
  obtain ⟨v', hb', hh', _⟩ := hR
  obtain ⟨c0, c1, c2, c3, c4, hf⟩ := rdr_cells hh'
  have f1 := hf 1
  have k0 : (0 : Int) ≤ (a : Int) := by omega
  clear hLate hB hK hh' hf hb'
  have d1 : (s.size : Int) ≤ (a : Int) := by omega
  go_wp2_with fail
  go_quiet (fail)
  go_wp2_with fail
  go_ret
  rw [HA.out]
  exact ⟨rfl, ⟨_, (HR.out _).1, HL.out⟩, (HR.out _).2⟩
set_option maxRecDepth 100000 in
set_option maxHeartbeats 2000000 in
theorem piece_xn (p : Option (Nat → List Nd → Res)) (h : Rdr w base rb s at_ D 0 ns ks) (_hs : s.size ≤ 1000000) (ha : at_ < s.size) (hAtom : ∀ q, Calls Try.prog 80 #[.pointer (some ⟨rb, 0, none⟩)] (w.drewN q) (RPost w base rb s D ns ks (atomF (Tx.bs s) p at_ ns))) (hx : s[at_] = 94) (k : Int) (a : Nat) (ns1 : List Nd) (hr : atomF (Tx.bs s) p at_ ns = .ok (k, a, ns1)) (h1 : a < s.size) (q1 : s[a] ≠ 42) (q2 : s[a] ≠ 43) (q3 : s[a] ≠ 63) (q4 : s[a] ≠ 123) : Calls Try.prog 67 #[.pointer (some ⟨rb, 0, none⟩)] w (RPost w base rb s D ns ks (pieceF (Tx.bs s) p at_ ns)) := by
  have HA : Hid (pieceF (Tx.bs s) p at_ ns = .ok (k, a, ns1)) := Lib.hid (by unfold pieceF; rw [hr]; simp only; rw [show quantF (Tx.bs s) a = none from by unfold quantF; rw [gl h1]; simp only; rw [if_neg q1, if_neg q2, if_neg q3, if_neg q4]])
  rw [hr] at hAtom
  have HI94 : Hid (∀ q, Calls Try.prog 44 #[.pointer (some ⟨rb, 0, none⟩), .int .u8 94] (w.drewN q) fun en w' => en = .returned (.bool true) ∧ ∃ m, w' = (w.drewN q).drewN m) := Lib.hid (fun q => by
    have h1 := is_any (h.drewN q) 94
    rw [show isF (Tx.bs s) at_ 94 = true from isF_T (k := 94) (by rw [gl ha, hx])] at h1
    exact h1)
  have HAtom := Lib.hid hAtom
  clear hAtom
  have e1 : ((s[a].toNat : Int) == 42) = false := byte_F q1
  have e2 : ((s[a].toNat : Int) == 43) = false := byte_F q2
  have e3 : ((s[a].toNat : Int) == 63) = false := byte_F q3
  have e4 : ((s[a].toNat : Int) == 123) = false := byte_F q4
  clear h hr q1 q2 q3 q4
  go_enter Try.func67, Try.ntmps67
  go_wp2_with fail
  refine (HI94.out 0).mono ?_
  rintro e w0 ⟨rfl, m0, rfl⟩
  rw [World.drewN_drewN, Nat.zero_add]
  go_wp2_with fail
  refine (HAtom.out _).mono ?_
  rintro e w2 ⟨rfl, ⟨ks2, hR, hLate⟩, hB, hK⟩
  have HL := Lib.hid hLate
  have HR := Lib.hid (fun m => And.intro (hR.drewN m) (And.intro (below_drewN hB m) (hK.trans (KeptX.drewN w2 m))))
  have hbs := hB.size
  obtain ⟨v', hb', hh', _⟩ := hR
  obtain ⟨c0, c1, c2, c3, c4, hf⟩ := rdr_cells hh'
  have f1 := hf 1
  have k0 : (0 : Int) ≤ (a : Int) := by omega
  clear hLate hB hK hh' hf hb'
  have k1 : (a : Int) < (s.size : Int) := by omega
  have d1 : decide ((s.size : Int) ≤ (a : Int)) = false := by simp only [decide_eq_false_iff_not]; omega
  go_wp2_with fail
  go_quiet (fail)
  go_wp2_with fail
  go_quiet (fail)
  go_wp2_with fail
  go_ret
  rw [HA.out]
  exact ⟨rfl, ⟨_, (HR.out _).1, HL.out⟩, (HR.out _).2⟩
set_option maxRecDepth 100000 in
set_option maxHeartbeats 2000000 in
theorem piece_xstar (p : Option (Nat → List Nd → Res)) (h : Rdr w base rb s at_ D 0 ns ks) (_hs : s.size ≤ 1000000) (ha : at_ < s.size) (hAtom : ∀ q, Calls Try.prog 80 #[.pointer (some ⟨rb, 0, none⟩)] (w.drewN q) (RPost w base rb s D ns ks (atomF (Tx.bs s) p at_ ns))) (hx : s[at_] = 94) (k : Int) (a : Nat) (ns1 : List Nd) (hr : atomF (Tx.bs s) p at_ ns = .ok (k, a, ns1)) (h1 : a < s.size) (q1 : s[a] = 42) : Calls Try.prog 67 #[.pointer (some ⟨rb, 0, none⟩)] w (RPost w base rb s D ns ks (pieceF (Tx.bs s) p at_ ns)) := by
  have HA : Hid (pieceF (Tx.bs s) p at_ ns = .error 40) := Lib.hid (by unfold pieceF; rw [hr]; simp only; rw [(show quantF (Tx.bs s) a = some (some (0, (-1), a)) from by unfold quantF; rw [gl h1, q1]; rfl)]; simp only; rw [if_pos (Or.inl (by rw [gl ha, hx]))])
  rw [hr] at hAtom
  have HI94 : Hid (∀ q, Calls Try.prog 44 #[.pointer (some ⟨rb, 0, none⟩), .int .u8 94] (w.drewN q) fun en w' => en = .returned (.bool true) ∧ ∃ m, w' = (w.drewN q).drewN m) := Lib.hid (fun q => by
    have h1 := is_any (h.drewN q) 94
    rw [show isF (Tx.bs s) at_ 94 = true from isF_T (k := 94) (by rw [gl ha, hx])] at h1
    exact h1)
  have HAtom := Lib.hid hAtom
  clear hAtom
  have e1 : s[a].toNat = 42 := by rw [q1]; rfl
  clear h hr q1
  go_enter Try.func67, Try.ntmps67
  go_wp2_with fail
  refine (HI94.out 0).mono ?_
  rintro e w0 ⟨rfl, m0, rfl⟩
  rw [World.drewN_drewN, Nat.zero_add]
  go_wp2_with fail
  refine (HAtom.out _).mono ?_
  rintro e w2 ⟨rfl, ⟨ks2, hR, hLate⟩, hB, hK⟩
  have HL := Lib.hid hLate
  have HR := Lib.hid (fun m => And.intro (hR.drewN m) (And.intro (below_drewN hB m) (hK.trans (KeptX.drewN w2 m))))
  have hbs := hB.size
  have HFl := Lib.hid (fun m => fail_first (hR.drewN m) 40)
  obtain ⟨v', hb', hh', _⟩ := hR
  obtain ⟨c0, c1, c2, c3, c4, hf⟩ := rdr_cells hh'
  have f1 := hf 1
  have k0 : (0 : Int) ≤ (a : Int) := by omega
  clear hLate hB hK hh' hf hb'
  have k1 : (a : Int) < (s.size : Int) := by omega
  have d1 : decide ((s.size : Int) ≤ (a : Int)) = false := by simp only [decide_eq_false_iff_not]; omega
  go_wp2_with fail
  go_quiet (fail)
  go_wp2_with fail
  go_quiet (fail)
  go_wp2_with (go_at_call 28; refine (HFl.out _).mono ?_; rintro e w4 ⟨rfl, q1, q2, q3⟩; have Q := Lib.hid (And.intro q1 (And.intro q2 q3)); clear q1 q2 q3)
  go_ret
  rw [HA.out]
  exact RPost_fail (by decide) (HR.out _).2 Q.out
set_option maxRecDepth 100000 in
set_option maxHeartbeats 2000000 in
theorem piece_xplus (p : Option (Nat → List Nd → Res)) (h : Rdr w base rb s at_ D 0 ns ks) (_hs : s.size ≤ 1000000) (ha : at_ < s.size) (hAtom : ∀ q, Calls Try.prog 80 #[.pointer (some ⟨rb, 0, none⟩)] (w.drewN q) (RPost w base rb s D ns ks (atomF (Tx.bs s) p at_ ns))) (hx : s[at_] = 94) (k : Int) (a : Nat) (ns1 : List Nd) (hr : atomF (Tx.bs s) p at_ ns = .ok (k, a, ns1)) (h1 : a < s.size) (q1 : s[a] = 43) : Calls Try.prog 67 #[.pointer (some ⟨rb, 0, none⟩)] w (RPost w base rb s D ns ks (pieceF (Tx.bs s) p at_ ns)) := by
  have HA : Hid (pieceF (Tx.bs s) p at_ ns = .error 40) := Lib.hid (by unfold pieceF; rw [hr]; simp only; rw [(show quantF (Tx.bs s) a = some (some (1, (-1), a)) from by unfold quantF; rw [gl h1, q1]; rfl)]; simp only; rw [if_pos (Or.inl (by rw [gl ha, hx]))])
  rw [hr] at hAtom
  have HI94 : Hid (∀ q, Calls Try.prog 44 #[.pointer (some ⟨rb, 0, none⟩), .int .u8 94] (w.drewN q) fun en w' => en = .returned (.bool true) ∧ ∃ m, w' = (w.drewN q).drewN m) := Lib.hid (fun q => by
    have h1 := is_any (h.drewN q) 94
    rw [show isF (Tx.bs s) at_ 94 = true from isF_T (k := 94) (by rw [gl ha, hx])] at h1
    exact h1)
  have HAtom := Lib.hid hAtom
  clear hAtom
  have e1 : s[a].toNat = 43 := by rw [q1]; rfl
  clear h hr q1
  go_enter Try.func67, Try.ntmps67
  go_wp2_with fail
  refine (HI94.out 0).mono ?_
  rintro e w0 ⟨rfl, m0, rfl⟩
  rw [World.drewN_drewN, Nat.zero_add]
  go_wp2_with fail
  refine (HAtom.out _).mono ?_
  rintro e w2 ⟨rfl, ⟨ks2, hR, hLate⟩, hB, hK⟩
  have HL := Lib.hid hLate
  have HR := Lib.hid (fun m => And.intro (hR.drewN m) (And.intro (below_drewN hB m) (hK.trans (KeptX.drewN w2 m))))
  have hbs := hB.size
  have HFl := Lib.hid (fun m => fail_first (hR.drewN m) 40)
  obtain ⟨v', hb', hh', _⟩ := hR
  obtain ⟨c0, c1, c2, c3, c4, hf⟩ := rdr_cells hh'
  have f1 := hf 1
  have k0 : (0 : Int) ≤ (a : Int) := by omega
  clear hLate hB hK hh' hf hb'
  have k1 : (a : Int) < (s.size : Int) := by omega
  have d1 : decide ((s.size : Int) ≤ (a : Int)) = false := by simp only [decide_eq_false_iff_not]; omega
  go_wp2_with fail
  go_quiet (fail)
  go_wp2_with fail
  go_quiet (fail)
  go_wp2_with (go_at_call 28; refine (HFl.out _).mono ?_; rintro e w4 ⟨rfl, q1, q2, q3⟩; have Q := Lib.hid (And.intro q1 (And.intro q2 q3)); clear q1 q2 q3)
  go_ret
  rw [HA.out]
  exact RPost_fail (by decide) (HR.out _).2 Q.out
set_option maxRecDepth 100000 in
set_option maxHeartbeats 2000000 in
theorem piece_xquest (p : Option (Nat → List Nd → Res)) (h : Rdr w base rb s at_ D 0 ns ks) (_hs : s.size ≤ 1000000) (ha : at_ < s.size) (hAtom : ∀ q, Calls Try.prog 80 #[.pointer (some ⟨rb, 0, none⟩)] (w.drewN q) (RPost w base rb s D ns ks (atomF (Tx.bs s) p at_ ns))) (hx : s[at_] = 94) (k : Int) (a : Nat) (ns1 : List Nd) (hr : atomF (Tx.bs s) p at_ ns = .ok (k, a, ns1)) (h1 : a < s.size) (q1 : s[a] = 63) : Calls Try.prog 67 #[.pointer (some ⟨rb, 0, none⟩)] w (RPost w base rb s D ns ks (pieceF (Tx.bs s) p at_ ns)) := by
  have HA : Hid (pieceF (Tx.bs s) p at_ ns = .error 40) := Lib.hid (by unfold pieceF; rw [hr]; simp only; rw [(show quantF (Tx.bs s) a = some (some (0, 1, a)) from by unfold quantF; rw [gl h1, q1]; rfl)]; simp only; rw [if_pos (Or.inl (by rw [gl ha, hx]))])
  rw [hr] at hAtom
  have HI94 : Hid (∀ q, Calls Try.prog 44 #[.pointer (some ⟨rb, 0, none⟩), .int .u8 94] (w.drewN q) fun en w' => en = .returned (.bool true) ∧ ∃ m, w' = (w.drewN q).drewN m) := Lib.hid (fun q => by
    have h1 := is_any (h.drewN q) 94
    rw [show isF (Tx.bs s) at_ 94 = true from isF_T (k := 94) (by rw [gl ha, hx])] at h1
    exact h1)
  have HAtom := Lib.hid hAtom
  clear hAtom
  have e1 : s[a].toNat = 63 := by rw [q1]; rfl
  clear h hr q1
  go_enter Try.func67, Try.ntmps67
  go_wp2_with fail
  refine (HI94.out 0).mono ?_
  rintro e w0 ⟨rfl, m0, rfl⟩
  rw [World.drewN_drewN, Nat.zero_add]
  go_wp2_with fail
  refine (HAtom.out _).mono ?_
  rintro e w2 ⟨rfl, ⟨ks2, hR, hLate⟩, hB, hK⟩
  have HL := Lib.hid hLate
  have HR := Lib.hid (fun m => And.intro (hR.drewN m) (And.intro (below_drewN hB m) (hK.trans (KeptX.drewN w2 m))))
  have hbs := hB.size
  have HFl := Lib.hid (fun m => fail_first (hR.drewN m) 40)
  obtain ⟨v', hb', hh', _⟩ := hR
  obtain ⟨c0, c1, c2, c3, c4, hf⟩ := rdr_cells hh'
  have f1 := hf 1
  have k0 : (0 : Int) ≤ (a : Int) := by omega
  clear hLate hB hK hh' hf hb'
  have k1 : (a : Int) < (s.size : Int) := by omega
  have d1 : decide ((s.size : Int) ≤ (a : Int)) = false := by simp only [decide_eq_false_iff_not]; omega
  go_wp2_with fail
  go_quiet (fail)
  go_wp2_with fail
  go_quiet (fail)
  go_wp2_with (go_at_call 28; refine (HFl.out _).mono ?_; rintro e w4 ⟨rfl, q1, q2, q3⟩; have Q := Lib.hid (And.intro q1 (And.intro q2 q3)); clear q1 q2 q3)
  go_ret
  rw [HA.out]
  exact RPost_fail (by decide) (HR.out _).2 Q.out
set_option maxRecDepth 100000 in
set_option maxHeartbeats 2000000 in
theorem piece_xc (p : Option (Nat → List Nd → Res)) (h : Rdr w base rb s at_ D 0 ns ks) (hs : s.size ≤ 1000000) (ha : at_ < s.size) (hAtom : ∀ q, Calls Try.prog 80 #[.pointer (some ⟨rb, 0, none⟩)] (w.drewN q) (RPost w base rb s D ns ks (atomF (Tx.bs s) p at_ ns))) (hx : s[at_] = 94) (k : Int) (a : Nat) (ns1 : List Nd) (hr : atomF (Tx.bs s) p at_ ns = .ok (k, a, ns1)) (_hl1 : ns1.length ≤ 1000000) (h1 : a < s.size) (q1 : s[a] = 123) (hq : boundsF (Tx.bs s) a = none) : Calls Try.prog 67 #[.pointer (some ⟨rb, 0, none⟩)] w (RPost w base rb s D ns ks (pieceF (Tx.bs s) p at_ ns)) := by
  have HA : Hid (pieceF (Tx.bs s) p at_ ns = .error 40) := Lib.hid (by unfold pieceF; rw [hr]; simp only; rw [(show quantF (Tx.bs s) a = some none from by unfold quantF; rw [gl h1, q1]; simp only; rw [if_neg (by decide), if_neg (by decide), if_neg (by decide), if_pos trivial, hq])])
  rw [hr] at hAtom
  have HI94 : Hid (∀ q, Calls Try.prog 44 #[.pointer (some ⟨rb, 0, none⟩), .int .u8 94] (w.drewN q) fun en w' => en = .returned (.bool true) ∧ ∃ m, w' = (w.drewN q).drewN m) := Lib.hid (fun q => by
    have h1 := is_any (h.drewN q) 94
    rw [show isF (Tx.bs s) at_ 94 = true from isF_T (k := 94) (by rw [gl ha, hx])] at h1
    exact h1)
  have HAtom := Lib.hid hAtom
  clear hAtom
  have e1 : s[a].toNat = 123 := by rw [q1]; rfl
  clear h hr q1
  go_enter Try.func67, Try.ntmps67
  go_wp2_with fail
  refine (HI94.out 0).mono ?_
  rintro e w0 ⟨rfl, m0, rfl⟩
  rw [World.drewN_drewN, Nat.zero_add]
  go_wp2_with fail
  refine (HAtom.out _).mono ?_
  rintro e w2 ⟨rfl, ⟨ks2, hR, hLate⟩, hB, hK⟩
  have HL := Lib.hid hLate
  have HR := Lib.hid (fun m => And.intro (hR.drewN m) (And.intro (below_drewN hB m) (hK.trans (KeptX.drewN w2 m))))
  have hbs := hB.size
  have HBd := Lib.hid (fun q => bounds_any (hR.drewN q) hs (by omega))
  rw [hq] at HBd
  obtain ⟨v', hb', hh', _⟩ := hR
  obtain ⟨c0, c1, c2, c3, c4, hf⟩ := rdr_cells hh'
  have f1 := hf 1
  have k0 : (0 : Int) ≤ (a : Int) := by omega
  clear hLate hB hK hh' hf hb'
  have k1 : (a : Int) < (s.size : Int) := by omega
  have d1 : decide ((s.size : Int) ≤ (a : Int)) = false := by simp only [decide_eq_false_iff_not]; omega
  clear hq
  go_wp2_with fail
  go_quiet (fail)
  go_wp2_with fail
  go_quiet (fail)
  go_wp2_with fail
  refine (HBd.out _).mono ?_
  rintro e w3 ⟨rfl, hR3, hB3, hK3⟩
  have hB3' := below_drewN' _ hB3
  have hK3' : KeptR w2 w3 := (KeptX.drewN w2 _).trans hK3
  have hB4 := ((HR.out 0).2.1).trans hB3'
  have hK4 : KeptR w w3 := ((HR.out 0).2.2).trans hK3'
  have HFl := Lib.hid (fun m => fail_later (hR3.drewN m) (by decide) 40)
  have HE := Lib.hid (fun m => And.intro (hR3.drewN m) (And.intro (below_drewN hB4 m) (hK4.trans (KeptX.drewN w3 m))))
  obtain ⟨v3, hb3, hh3, _⟩ := hR3
  obtain ⟨d0, d1', d2, d3, d4, hf3⟩ := rdr_cells hh3
  have g1 := hf3 1
  clear hB3 hK3 hB3' hK3' hB4 hK4 hh3 hf3 hb3 c0 c1 c2 c3 c4 f1
  go_wp2_with (go_at_call 28; refine (HFl.out 0).mono ?_; rintro e w4 ⟨rfl, rfl⟩)
  go_ret
  rw [HA.out]
  exact ⟨⟨_, rfl⟩, by decide, ⟨_, _, (HE.out 0).1.err⟩, (HE.out 0).2⟩
set_option maxRecDepth 100000 in
set_option maxHeartbeats 2000000 in
theorem piece_xb (p : Option (Nat → List Nd → Res)) (h : Rdr w base rb s at_ D 0 ns ks) (hs : s.size ≤ 1000000) (ha : at_ < s.size) (hAtom : ∀ q, Calls Try.prog 80 #[.pointer (some ⟨rb, 0, none⟩)] (w.drewN q) (RPost w base rb s D ns ks (atomF (Tx.bs s) p at_ ns))) (hx : s[at_] = 94) (k : Int) (a : Nat) (ns1 : List Nd) (hr : atomF (Tx.bs s) p at_ ns = .ok (k, a, ns1)) (_hl1 : ns1.length ≤ 1000000) (h1 : a < s.size) (q1 : s[a] = 123) (m : Nat) (hh2 : Int) (nx : Nat) (hq : boundsF (Tx.bs s) a = some (m, hh2, nx)) (_hnx : nx < s.size) : Calls Try.prog 67 #[.pointer (some ⟨rb, 0, none⟩)] w (RPost w base rb s D ns ks (pieceF (Tx.bs s) p at_ ns)) := by
  have HA : Hid (pieceF (Tx.bs s) p at_ ns = .error 40) := Lib.hid (by unfold pieceF; rw [hr]; simp only; rw [(show quantF (Tx.bs s) a = some (some (m, hh2, nx)) from by unfold quantF; rw [gl h1, q1]; simp only; rw [if_neg (by decide), if_neg (by decide), if_neg (by decide), if_pos trivial, hq])]; simp only; rw [if_pos (Or.inl (by rw [gl ha, hx]))])
  rw [hr] at hAtom
  have HI94 : Hid (∀ q, Calls Try.prog 44 #[.pointer (some ⟨rb, 0, none⟩), .int .u8 94] (w.drewN q) fun en w' => en = .returned (.bool true) ∧ ∃ m, w' = (w.drewN q).drewN m) := Lib.hid (fun q => by
    have h1 := is_any (h.drewN q) 94
    rw [show isF (Tx.bs s) at_ 94 = true from isF_T (k := 94) (by rw [gl ha, hx])] at h1
    exact h1)
  have HAtom := Lib.hid hAtom
  clear hAtom
  have e1 : s[a].toNat = 123 := by rw [q1]; rfl
  clear h hr q1
  go_enter Try.func67, Try.ntmps67
  go_wp2_with fail
  refine (HI94.out 0).mono ?_
  rintro e w0 ⟨rfl, m0, rfl⟩
  rw [World.drewN_drewN, Nat.zero_add]
  go_wp2_with fail
  refine (HAtom.out _).mono ?_
  rintro e w2 ⟨rfl, ⟨ks2, hR, hLate⟩, hB, hK⟩
  have HL := Lib.hid hLate
  have HR := Lib.hid (fun m => And.intro (hR.drewN m) (And.intro (below_drewN hB m) (hK.trans (KeptX.drewN w2 m))))
  have hbs := hB.size
  have HBd := Lib.hid (fun q => bounds_any (hR.drewN q) hs (by omega))
  rw [hq] at HBd
  obtain ⟨v', hb', hh', _⟩ := hR
  obtain ⟨c0, c1, c2, c3, c4, hf⟩ := rdr_cells hh'
  have f1 := hf 1
  have k0 : (0 : Int) ≤ (a : Int) := by omega
  clear hLate hB hK hh' hf hb'
  have k1 : (a : Int) < (s.size : Int) := by omega
  have d1 : decide ((s.size : Int) ≤ (a : Int)) = false := by simp only [decide_eq_false_iff_not]; omega
  clear hq
  go_wp2_with fail
  go_quiet (fail)
  go_wp2_with fail
  go_quiet (fail)
  go_wp2_with fail
  refine (HBd.out _).mono ?_
  rintro e w3 ⟨rfl, hR3, hB3, hK3⟩
  have hB3' := below_drewN' _ hB3
  have hK3' : KeptR w2 w3 := (KeptX.drewN w2 _).trans hK3
  have hB4 := ((HR.out 0).2.1).trans hB3'
  have hK4 : KeptR w w3 := ((HR.out 0).2.2).trans hK3'
  have HFl := Lib.hid (fun m => fail_first (hR3.drewN m) 40)
  have HE := Lib.hid (fun m => And.intro (below_drewN hB4 m) (hK4.trans (KeptX.drewN w3 m)))
  obtain ⟨v3, hb3, hh3, _⟩ := hR3
  obtain ⟨d0, d1', d2, d3, d4, hf3⟩ := rdr_cells hh3
  have g1 := hf3 1
  clear hB3 hK3 hB3' hK3' hB4 hK4 hh3 hf3 hb3 c0 c1 c2 c3 c4 f1
  go_wp2_with (go_at_call 28; refine (HFl.out 0).mono ?_; rintro e w4 ⟨rfl, q1, q2, q3⟩; have Q := Lib.hid (And.intro q1 (And.intro q2 q3)); clear q1 q2 q3)
  go_ret
  rw [HA.out]
  exact RPost_fail (by decide) (HE.out 0) Q.out
set_option maxRecDepth 100000 in
set_option maxHeartbeats 2000000 in
theorem piece_ye (p : Option (Nat → List Nd → Res)) (h : Rdr w base rb s at_ D 0 ns ks) (_hs : s.size ≤ 1000000) (ha : at_ < s.size) (hAtom : ∀ q, Calls Try.prog 80 #[.pointer (some ⟨rb, 0, none⟩)] (w.drewN q) (RPost w base rb s D ns ks (atomF (Tx.bs s) p at_ ns))) (hx : s[at_] = 36) (c : Int) (hr : atomF (Tx.bs s) p at_ ns = .error c) : Calls Try.prog 67 #[.pointer (some ⟨rb, 0, none⟩)] w (RPost w base rb s D ns ks (pieceF (Tx.bs s) p at_ ns)) := by
  have HA : Hid (pieceF (Tx.bs s) p at_ ns = .error c) := Lib.hid (by unfold pieceF; rw [hr])
  rw [hr] at hAtom
  have HI94 : Hid (∀ q, Calls Try.prog 44 #[.pointer (some ⟨rb, 0, none⟩), .int .u8 94] (w.drewN q) fun en w' => en = .returned (.bool false) ∧ ∃ m, w' = (w.drewN q).drewN m) := Lib.hid (fun q => by
    have h1 := is_any (h.drewN q) 94
    rw [show isF (Tx.bs s) at_ 94 = false from isF_F (k := 94) (by rw [gl ha, hx]; decide)] at h1
    exact h1)
  have HI36 : Hid (∀ q, Calls Try.prog 44 #[.pointer (some ⟨rb, 0, none⟩), .int .u8 36] (w.drewN q) fun en w' => en = .returned (.bool true) ∧ ∃ m, w' = (w.drewN q).drewN m) := Lib.hid (fun q => by
    have h1 := is_any (h.drewN q) 36
    rw [show isF (Tx.bs s) at_ 36 = true from isF_T (k := 36) (by rw [gl ha, hx])] at h1
    exact h1)
  have HAtom := Lib.hid hAtom
  clear hAtom
  clear h hr
  go_enter Try.func67, Try.ntmps67
  go_wp2_with fail
  refine (HI94.out 0).mono ?_
  rintro e w0 ⟨rfl, m0, rfl⟩
  rw [World.drewN_drewN, Nat.zero_add]
  go_wp2_with fail
  refine (HI36.out m0).mono ?_
  rintro e w1 ⟨rfl, m1, rfl⟩
  rw [World.drewN_drewN]
  go_wp2_with fail
  refine (HAtom.out _).mono ?_
  rintro e w2 ⟨⟨z, rfl⟩, hc0, ⟨a, d, hR⟩, hB, hK⟩
  have HE := Lib.hid (fun m => And.intro (hR.drewN m) (And.intro (below_drewN hB m) (hK.trans (KeptX.drewN w2 m))))
  obtain ⟨v', hb', hh'⟩ := hR
  obtain ⟨c0, c1, c2, c3, c4, hf⟩ := rdr_cells hh'
  have f1 := hf 1
  have e1 : (c == 0) = false := by rw [beq_eq_false_iff_ne]; exact hc0
  have e2 : (c != 0) = true := by rw [bne, e1]; rfl
  have HC0 := Lib.hid hc0
  clear hB hK hh' hf hc0 hb'
  go_wp2_with fail
  go_quiet (fail)
  go_wp2_with fail
  go_ret
  rw [HA.out]
  exact ⟨⟨_, rfl⟩, HC0.out, ⟨_, _, (HE.out _).1⟩, (HE.out _).2⟩
set_option maxRecDepth 100000 in
set_option maxHeartbeats 2000000 in
theorem piece_ys (p : Option (Nat → List Nd → Res)) (h : Rdr w base rb s at_ D 0 ns ks) (_hs : s.size ≤ 1000000) (ha : at_ < s.size) (hAtom : ∀ q, Calls Try.prog 80 #[.pointer (some ⟨rb, 0, none⟩)] (w.drewN q) (RPost w base rb s D ns ks (atomF (Tx.bs s) p at_ ns))) (hx : s[at_] = 36) (k : Int) (a : Nat) (ns1 : List Nd) (hr : atomF (Tx.bs s) p at_ ns = .ok (k, a, ns1)) (h1 : s.size ≤ a) : Calls Try.prog 67 #[.pointer (some ⟨rb, 0, none⟩)] w (RPost w base rb s D ns ks (pieceF (Tx.bs s) p at_ ns)) := by
  have HA : Hid (pieceF (Tx.bs s) p at_ ns = .ok (k, a, ns1)) := Lib.hid (by unfold pieceF; rw [hr]; simp only; rw [show quantF (Tx.bs s) a = none from by unfold quantF; rw [gn h1]])
  rw [hr] at hAtom
  have HI94 : Hid (∀ q, Calls Try.prog 44 #[.pointer (some ⟨rb, 0, none⟩), .int .u8 94] (w.drewN q) fun en w' => en = .returned (.bool false) ∧ ∃ m, w' = (w.drewN q).drewN m) := Lib.hid (fun q => by
    have h1 := is_any (h.drewN q) 94
    rw [show isF (Tx.bs s) at_ 94 = false from isF_F (k := 94) (by rw [gl ha, hx]; decide)] at h1
    exact h1)
  have HI36 : Hid (∀ q, Calls Try.prog 44 #[.pointer (some ⟨rb, 0, none⟩), .int .u8 36] (w.drewN q) fun en w' => en = .returned (.bool true) ∧ ∃ m, w' = (w.drewN q).drewN m) := Lib.hid (fun q => by
    have h1 := is_any (h.drewN q) 36
    rw [show isF (Tx.bs s) at_ 36 = true from isF_T (k := 36) (by rw [gl ha, hx])] at h1
    exact h1)
  have HAtom := Lib.hid hAtom
  clear hAtom
  clear h hr
  go_enter Try.func67, Try.ntmps67
  go_wp2_with fail
  refine (HI94.out 0).mono ?_
  rintro e w0 ⟨rfl, m0, rfl⟩
  rw [World.drewN_drewN, Nat.zero_add]
  go_wp2_with fail
  refine (HI36.out m0).mono ?_
  rintro e w1 ⟨rfl, m1, rfl⟩
  rw [World.drewN_drewN]
  go_wp2_with fail
  refine (HAtom.out _).mono ?_
  rintro e w2 ⟨rfl, ⟨ks2, hR, hLate⟩, hB, hK⟩
  have HL := Lib.hid hLate
  have HR := Lib.hid (fun m => And.intro (hR.drewN m) (And.intro (below_drewN hB m) (hK.trans (KeptX.drewN w2 m))))
  have hbs := hB.size
  obtain ⟨v', hb', hh', _⟩ := hR
  obtain ⟨c0, c1, c2, c3, c4, hf⟩ := rdr_cells hh'
  have f1 := hf 1
  have k0 : (0 : Int) ≤ (a : Int) := by omega
  clear hLate hB hK hh' hf hb'
  have d1 : (s.size : Int) ≤ (a : Int) := by omega
  go_wp2_with fail
  go_quiet (fail)
  go_wp2_with fail
  go_ret
  rw [HA.out]
  exact ⟨rfl, ⟨_, (HR.out _).1, HL.out⟩, (HR.out _).2⟩
set_option maxRecDepth 100000 in
set_option maxHeartbeats 2000000 in
theorem piece_yn (p : Option (Nat → List Nd → Res)) (h : Rdr w base rb s at_ D 0 ns ks) (_hs : s.size ≤ 1000000) (ha : at_ < s.size) (hAtom : ∀ q, Calls Try.prog 80 #[.pointer (some ⟨rb, 0, none⟩)] (w.drewN q) (RPost w base rb s D ns ks (atomF (Tx.bs s) p at_ ns))) (hx : s[at_] = 36) (k : Int) (a : Nat) (ns1 : List Nd) (hr : atomF (Tx.bs s) p at_ ns = .ok (k, a, ns1)) (h1 : a < s.size) (q1 : s[a] ≠ 42) (q2 : s[a] ≠ 43) (q3 : s[a] ≠ 63) (q4 : s[a] ≠ 123) : Calls Try.prog 67 #[.pointer (some ⟨rb, 0, none⟩)] w (RPost w base rb s D ns ks (pieceF (Tx.bs s) p at_ ns)) := by
  have HA : Hid (pieceF (Tx.bs s) p at_ ns = .ok (k, a, ns1)) := Lib.hid (by unfold pieceF; rw [hr]; simp only; rw [show quantF (Tx.bs s) a = none from by unfold quantF; rw [gl h1]; simp only; rw [if_neg q1, if_neg q2, if_neg q3, if_neg q4]])
  rw [hr] at hAtom
  have HI94 : Hid (∀ q, Calls Try.prog 44 #[.pointer (some ⟨rb, 0, none⟩), .int .u8 94] (w.drewN q) fun en w' => en = .returned (.bool false) ∧ ∃ m, w' = (w.drewN q).drewN m) := Lib.hid (fun q => by
    have h1 := is_any (h.drewN q) 94
    rw [show isF (Tx.bs s) at_ 94 = false from isF_F (k := 94) (by rw [gl ha, hx]; decide)] at h1
    exact h1)
  have HI36 : Hid (∀ q, Calls Try.prog 44 #[.pointer (some ⟨rb, 0, none⟩), .int .u8 36] (w.drewN q) fun en w' => en = .returned (.bool true) ∧ ∃ m, w' = (w.drewN q).drewN m) := Lib.hid (fun q => by
    have h1 := is_any (h.drewN q) 36
    rw [show isF (Tx.bs s) at_ 36 = true from isF_T (k := 36) (by rw [gl ha, hx])] at h1
    exact h1)
  have HAtom := Lib.hid hAtom
  clear hAtom
  have e1 : ((s[a].toNat : Int) == 42) = false := byte_F q1
  have e2 : ((s[a].toNat : Int) == 43) = false := byte_F q2
  have e3 : ((s[a].toNat : Int) == 63) = false := byte_F q3
  have e4 : ((s[a].toNat : Int) == 123) = false := byte_F q4
  clear h hr q1 q2 q3 q4
  go_enter Try.func67, Try.ntmps67
  go_wp2_with fail
  refine (HI94.out 0).mono ?_
  rintro e w0 ⟨rfl, m0, rfl⟩
  rw [World.drewN_drewN, Nat.zero_add]
  go_wp2_with fail
  refine (HI36.out m0).mono ?_
  rintro e w1 ⟨rfl, m1, rfl⟩
  rw [World.drewN_drewN]
  go_wp2_with fail
  refine (HAtom.out _).mono ?_
  rintro e w2 ⟨rfl, ⟨ks2, hR, hLate⟩, hB, hK⟩
  have HL := Lib.hid hLate
  have HR := Lib.hid (fun m => And.intro (hR.drewN m) (And.intro (below_drewN hB m) (hK.trans (KeptX.drewN w2 m))))
  have hbs := hB.size
  obtain ⟨v', hb', hh', _⟩ := hR
  obtain ⟨c0, c1, c2, c3, c4, hf⟩ := rdr_cells hh'
  have f1 := hf 1
  have k0 : (0 : Int) ≤ (a : Int) := by omega
  clear hLate hB hK hh' hf hb'
  have k1 : (a : Int) < (s.size : Int) := by omega
  have d1 : decide ((s.size : Int) ≤ (a : Int)) = false := by simp only [decide_eq_false_iff_not]; omega
  go_wp2_with fail
  go_quiet (fail)
  go_wp2_with fail
  go_quiet (fail)
  go_wp2_with fail
  go_ret
  rw [HA.out]
  exact ⟨rfl, ⟨_, (HR.out _).1, HL.out⟩, (HR.out _).2⟩
set_option maxRecDepth 100000 in
set_option maxHeartbeats 2000000 in
theorem piece_ystar (p : Option (Nat → List Nd → Res)) (h : Rdr w base rb s at_ D 0 ns ks) (_hs : s.size ≤ 1000000) (ha : at_ < s.size) (hAtom : ∀ q, Calls Try.prog 80 #[.pointer (some ⟨rb, 0, none⟩)] (w.drewN q) (RPost w base rb s D ns ks (atomF (Tx.bs s) p at_ ns))) (hx : s[at_] = 36) (k : Int) (a : Nat) (ns1 : List Nd) (hr : atomF (Tx.bs s) p at_ ns = .ok (k, a, ns1)) (h1 : a < s.size) (q1 : s[a] = 42) : Calls Try.prog 67 #[.pointer (some ⟨rb, 0, none⟩)] w (RPost w base rb s D ns ks (pieceF (Tx.bs s) p at_ ns)) := by
  have HA : Hid (pieceF (Tx.bs s) p at_ ns = .error 40) := Lib.hid (by unfold pieceF; rw [hr]; simp only; rw [(show quantF (Tx.bs s) a = some (some (0, (-1), a)) from by unfold quantF; rw [gl h1, q1]; rfl)]; simp only; rw [if_pos (Or.inr (by rw [gl ha, hx]))])
  rw [hr] at hAtom
  have HI94 : Hid (∀ q, Calls Try.prog 44 #[.pointer (some ⟨rb, 0, none⟩), .int .u8 94] (w.drewN q) fun en w' => en = .returned (.bool false) ∧ ∃ m, w' = (w.drewN q).drewN m) := Lib.hid (fun q => by
    have h1 := is_any (h.drewN q) 94
    rw [show isF (Tx.bs s) at_ 94 = false from isF_F (k := 94) (by rw [gl ha, hx]; decide)] at h1
    exact h1)
  have HI36 : Hid (∀ q, Calls Try.prog 44 #[.pointer (some ⟨rb, 0, none⟩), .int .u8 36] (w.drewN q) fun en w' => en = .returned (.bool true) ∧ ∃ m, w' = (w.drewN q).drewN m) := Lib.hid (fun q => by
    have h1 := is_any (h.drewN q) 36
    rw [show isF (Tx.bs s) at_ 36 = true from isF_T (k := 36) (by rw [gl ha, hx])] at h1
    exact h1)
  have HAtom := Lib.hid hAtom
  clear hAtom
  have e1 : s[a].toNat = 42 := by rw [q1]; rfl
  clear h hr q1
  go_enter Try.func67, Try.ntmps67
  go_wp2_with fail
  refine (HI94.out 0).mono ?_
  rintro e w0 ⟨rfl, m0, rfl⟩
  rw [World.drewN_drewN, Nat.zero_add]
  go_wp2_with fail
  refine (HI36.out m0).mono ?_
  rintro e w1 ⟨rfl, m1, rfl⟩
  rw [World.drewN_drewN]
  go_wp2_with fail
  refine (HAtom.out _).mono ?_
  rintro e w2 ⟨rfl, ⟨ks2, hR, hLate⟩, hB, hK⟩
  have HL := Lib.hid hLate
  have HR := Lib.hid (fun m => And.intro (hR.drewN m) (And.intro (below_drewN hB m) (hK.trans (KeptX.drewN w2 m))))
  have hbs := hB.size
  have HFl := Lib.hid (fun m => fail_first (hR.drewN m) 40)
  obtain ⟨v', hb', hh', _⟩ := hR
  obtain ⟨c0, c1, c2, c3, c4, hf⟩ := rdr_cells hh'
  have f1 := hf 1
  have k0 : (0 : Int) ≤ (a : Int) := by omega
  clear hLate hB hK hh' hf hb'
  have k1 : (a : Int) < (s.size : Int) := by omega
  have d1 : decide ((s.size : Int) ≤ (a : Int)) = false := by simp only [decide_eq_false_iff_not]; omega
  go_wp2_with fail
  go_quiet (fail)
  go_wp2_with fail
  go_quiet (fail)
  go_wp2_with (go_at_call 28; refine (HFl.out _).mono ?_; rintro e w4 ⟨rfl, q1, q2, q3⟩; have Q := Lib.hid (And.intro q1 (And.intro q2 q3)); clear q1 q2 q3)
  go_ret
  rw [HA.out]
  exact RPost_fail (by decide) (HR.out _).2 Q.out
set_option maxRecDepth 100000 in
set_option maxHeartbeats 2000000 in
theorem piece_yplus (p : Option (Nat → List Nd → Res)) (h : Rdr w base rb s at_ D 0 ns ks) (_hs : s.size ≤ 1000000) (ha : at_ < s.size) (hAtom : ∀ q, Calls Try.prog 80 #[.pointer (some ⟨rb, 0, none⟩)] (w.drewN q) (RPost w base rb s D ns ks (atomF (Tx.bs s) p at_ ns))) (hx : s[at_] = 36) (k : Int) (a : Nat) (ns1 : List Nd) (hr : atomF (Tx.bs s) p at_ ns = .ok (k, a, ns1)) (h1 : a < s.size) (q1 : s[a] = 43) : Calls Try.prog 67 #[.pointer (some ⟨rb, 0, none⟩)] w (RPost w base rb s D ns ks (pieceF (Tx.bs s) p at_ ns)) := by
  have HA : Hid (pieceF (Tx.bs s) p at_ ns = .error 40) := Lib.hid (by unfold pieceF; rw [hr]; simp only; rw [(show quantF (Tx.bs s) a = some (some (1, (-1), a)) from by unfold quantF; rw [gl h1, q1]; rfl)]; simp only; rw [if_pos (Or.inr (by rw [gl ha, hx]))])
  rw [hr] at hAtom
  have HI94 : Hid (∀ q, Calls Try.prog 44 #[.pointer (some ⟨rb, 0, none⟩), .int .u8 94] (w.drewN q) fun en w' => en = .returned (.bool false) ∧ ∃ m, w' = (w.drewN q).drewN m) := Lib.hid (fun q => by
    have h1 := is_any (h.drewN q) 94
    rw [show isF (Tx.bs s) at_ 94 = false from isF_F (k := 94) (by rw [gl ha, hx]; decide)] at h1
    exact h1)
  have HI36 : Hid (∀ q, Calls Try.prog 44 #[.pointer (some ⟨rb, 0, none⟩), .int .u8 36] (w.drewN q) fun en w' => en = .returned (.bool true) ∧ ∃ m, w' = (w.drewN q).drewN m) := Lib.hid (fun q => by
    have h1 := is_any (h.drewN q) 36
    rw [show isF (Tx.bs s) at_ 36 = true from isF_T (k := 36) (by rw [gl ha, hx])] at h1
    exact h1)
  have HAtom := Lib.hid hAtom
  clear hAtom
  have e1 : s[a].toNat = 43 := by rw [q1]; rfl
  clear h hr q1
  go_enter Try.func67, Try.ntmps67
  go_wp2_with fail
  refine (HI94.out 0).mono ?_
  rintro e w0 ⟨rfl, m0, rfl⟩
  rw [World.drewN_drewN, Nat.zero_add]
  go_wp2_with fail
  refine (HI36.out m0).mono ?_
  rintro e w1 ⟨rfl, m1, rfl⟩
  rw [World.drewN_drewN]
  go_wp2_with fail
  refine (HAtom.out _).mono ?_
  rintro e w2 ⟨rfl, ⟨ks2, hR, hLate⟩, hB, hK⟩
  have HL := Lib.hid hLate
  have HR := Lib.hid (fun m => And.intro (hR.drewN m) (And.intro (below_drewN hB m) (hK.trans (KeptX.drewN w2 m))))
  have hbs := hB.size
  have HFl := Lib.hid (fun m => fail_first (hR.drewN m) 40)
  obtain ⟨v', hb', hh', _⟩ := hR
  obtain ⟨c0, c1, c2, c3, c4, hf⟩ := rdr_cells hh'
  have f1 := hf 1
  have k0 : (0 : Int) ≤ (a : Int) := by omega
  clear hLate hB hK hh' hf hb'
  have k1 : (a : Int) < (s.size : Int) := by omega
  have d1 : decide ((s.size : Int) ≤ (a : Int)) = false := by simp only [decide_eq_false_iff_not]; omega
  go_wp2_with fail
  go_quiet (fail)
  go_wp2_with fail
  go_quiet (fail)
  go_wp2_with (go_at_call 28; refine (HFl.out _).mono ?_; rintro e w4 ⟨rfl, q1, q2, q3⟩; have Q := Lib.hid (And.intro q1 (And.intro q2 q3)); clear q1 q2 q3)
  go_ret
  rw [HA.out]
  exact RPost_fail (by decide) (HR.out _).2 Q.out
set_option maxRecDepth 100000 in
set_option maxHeartbeats 2000000 in
theorem piece_yquest (p : Option (Nat → List Nd → Res)) (h : Rdr w base rb s at_ D 0 ns ks) (_hs : s.size ≤ 1000000) (ha : at_ < s.size) (hAtom : ∀ q, Calls Try.prog 80 #[.pointer (some ⟨rb, 0, none⟩)] (w.drewN q) (RPost w base rb s D ns ks (atomF (Tx.bs s) p at_ ns))) (hx : s[at_] = 36) (k : Int) (a : Nat) (ns1 : List Nd) (hr : atomF (Tx.bs s) p at_ ns = .ok (k, a, ns1)) (h1 : a < s.size) (q1 : s[a] = 63) : Calls Try.prog 67 #[.pointer (some ⟨rb, 0, none⟩)] w (RPost w base rb s D ns ks (pieceF (Tx.bs s) p at_ ns)) := by
  have HA : Hid (pieceF (Tx.bs s) p at_ ns = .error 40) := Lib.hid (by unfold pieceF; rw [hr]; simp only; rw [(show quantF (Tx.bs s) a = some (some (0, 1, a)) from by unfold quantF; rw [gl h1, q1]; rfl)]; simp only; rw [if_pos (Or.inr (by rw [gl ha, hx]))])
  rw [hr] at hAtom
  have HI94 : Hid (∀ q, Calls Try.prog 44 #[.pointer (some ⟨rb, 0, none⟩), .int .u8 94] (w.drewN q) fun en w' => en = .returned (.bool false) ∧ ∃ m, w' = (w.drewN q).drewN m) := Lib.hid (fun q => by
    have h1 := is_any (h.drewN q) 94
    rw [show isF (Tx.bs s) at_ 94 = false from isF_F (k := 94) (by rw [gl ha, hx]; decide)] at h1
    exact h1)
  have HI36 : Hid (∀ q, Calls Try.prog 44 #[.pointer (some ⟨rb, 0, none⟩), .int .u8 36] (w.drewN q) fun en w' => en = .returned (.bool true) ∧ ∃ m, w' = (w.drewN q).drewN m) := Lib.hid (fun q => by
    have h1 := is_any (h.drewN q) 36
    rw [show isF (Tx.bs s) at_ 36 = true from isF_T (k := 36) (by rw [gl ha, hx])] at h1
    exact h1)
  have HAtom := Lib.hid hAtom
  clear hAtom
  have e1 : s[a].toNat = 63 := by rw [q1]; rfl
  clear h hr q1
  go_enter Try.func67, Try.ntmps67
  go_wp2_with fail
  refine (HI94.out 0).mono ?_
  rintro e w0 ⟨rfl, m0, rfl⟩
  rw [World.drewN_drewN, Nat.zero_add]
  go_wp2_with fail
  refine (HI36.out m0).mono ?_
  rintro e w1 ⟨rfl, m1, rfl⟩
  rw [World.drewN_drewN]
  go_wp2_with fail
  refine (HAtom.out _).mono ?_
  rintro e w2 ⟨rfl, ⟨ks2, hR, hLate⟩, hB, hK⟩
  have HL := Lib.hid hLate
  have HR := Lib.hid (fun m => And.intro (hR.drewN m) (And.intro (below_drewN hB m) (hK.trans (KeptX.drewN w2 m))))
  have hbs := hB.size
  have HFl := Lib.hid (fun m => fail_first (hR.drewN m) 40)
  obtain ⟨v', hb', hh', _⟩ := hR
  obtain ⟨c0, c1, c2, c3, c4, hf⟩ := rdr_cells hh'
  have f1 := hf 1
  have k0 : (0 : Int) ≤ (a : Int) := by omega
  clear hLate hB hK hh' hf hb'
  have k1 : (a : Int) < (s.size : Int) := by omega
  have d1 : decide ((s.size : Int) ≤ (a : Int)) = false := by simp only [decide_eq_false_iff_not]; omega
  go_wp2_with fail
  go_quiet (fail)
  go_wp2_with fail
  go_quiet (fail)
  go_wp2_with (go_at_call 28; refine (HFl.out _).mono ?_; rintro e w4 ⟨rfl, q1, q2, q3⟩; have Q := Lib.hid (And.intro q1 (And.intro q2 q3)); clear q1 q2 q3)
  go_ret
  rw [HA.out]
  exact RPost_fail (by decide) (HR.out _).2 Q.out
set_option maxRecDepth 100000 in
set_option maxHeartbeats 2000000 in
theorem piece_yc (p : Option (Nat → List Nd → Res)) (h : Rdr w base rb s at_ D 0 ns ks) (hs : s.size ≤ 1000000) (ha : at_ < s.size) (hAtom : ∀ q, Calls Try.prog 80 #[.pointer (some ⟨rb, 0, none⟩)] (w.drewN q) (RPost w base rb s D ns ks (atomF (Tx.bs s) p at_ ns))) (hx : s[at_] = 36) (k : Int) (a : Nat) (ns1 : List Nd) (hr : atomF (Tx.bs s) p at_ ns = .ok (k, a, ns1)) (_hl1 : ns1.length ≤ 1000000) (h1 : a < s.size) (q1 : s[a] = 123) (hq : boundsF (Tx.bs s) a = none) : Calls Try.prog 67 #[.pointer (some ⟨rb, 0, none⟩)] w (RPost w base rb s D ns ks (pieceF (Tx.bs s) p at_ ns)) := by
  have HA : Hid (pieceF (Tx.bs s) p at_ ns = .error 40) := Lib.hid (by unfold pieceF; rw [hr]; simp only; rw [(show quantF (Tx.bs s) a = some none from by unfold quantF; rw [gl h1, q1]; simp only; rw [if_neg (by decide), if_neg (by decide), if_neg (by decide), if_pos trivial, hq])])
  rw [hr] at hAtom
  have HI94 : Hid (∀ q, Calls Try.prog 44 #[.pointer (some ⟨rb, 0, none⟩), .int .u8 94] (w.drewN q) fun en w' => en = .returned (.bool false) ∧ ∃ m, w' = (w.drewN q).drewN m) := Lib.hid (fun q => by
    have h1 := is_any (h.drewN q) 94
    rw [show isF (Tx.bs s) at_ 94 = false from isF_F (k := 94) (by rw [gl ha, hx]; decide)] at h1
    exact h1)
  have HI36 : Hid (∀ q, Calls Try.prog 44 #[.pointer (some ⟨rb, 0, none⟩), .int .u8 36] (w.drewN q) fun en w' => en = .returned (.bool true) ∧ ∃ m, w' = (w.drewN q).drewN m) := Lib.hid (fun q => by
    have h1 := is_any (h.drewN q) 36
    rw [show isF (Tx.bs s) at_ 36 = true from isF_T (k := 36) (by rw [gl ha, hx])] at h1
    exact h1)
  have HAtom := Lib.hid hAtom
  clear hAtom
  have e1 : s[a].toNat = 123 := by rw [q1]; rfl
  clear h hr q1
  go_enter Try.func67, Try.ntmps67
  go_wp2_with fail
  refine (HI94.out 0).mono ?_
  rintro e w0 ⟨rfl, m0, rfl⟩
  rw [World.drewN_drewN, Nat.zero_add]
  go_wp2_with fail
  refine (HI36.out m0).mono ?_
  rintro e w1 ⟨rfl, m1, rfl⟩
  rw [World.drewN_drewN]
  go_wp2_with fail
  refine (HAtom.out _).mono ?_
  rintro e w2 ⟨rfl, ⟨ks2, hR, hLate⟩, hB, hK⟩
  have HL := Lib.hid hLate
  have HR := Lib.hid (fun m => And.intro (hR.drewN m) (And.intro (below_drewN hB m) (hK.trans (KeptX.drewN w2 m))))
  have hbs := hB.size
  have HBd := Lib.hid (fun q => bounds_any (hR.drewN q) hs (by omega))
  rw [hq] at HBd
  obtain ⟨v', hb', hh', _⟩ := hR
  obtain ⟨c0, c1, c2, c3, c4, hf⟩ := rdr_cells hh'
  have f1 := hf 1
  have k0 : (0 : Int) ≤ (a : Int) := by omega
  clear hLate hB hK hh' hf hb'
  have k1 : (a : Int) < (s.size : Int) := by omega
  have d1 : decide ((s.size : Int) ≤ (a : Int)) = false := by simp only [decide_eq_false_iff_not]; omega
  clear hq
  go_wp2_with fail
  go_quiet (fail)
  go_wp2_with fail
  go_quiet (fail)
  go_wp2_with fail
  refine (HBd.out _).mono ?_
  rintro e w3 ⟨rfl, hR3, hB3, hK3⟩
  have hB3' := below_drewN' _ hB3
  have hK3' : KeptR w2 w3 := (KeptX.drewN w2 _).trans hK3
  have hB4 := ((HR.out 0).2.1).trans hB3'
  have hK4 : KeptR w w3 := ((HR.out 0).2.2).trans hK3'
  have HFl := Lib.hid (fun m => fail_later (hR3.drewN m) (by decide) 40)
  have HE := Lib.hid (fun m => And.intro (hR3.drewN m) (And.intro (below_drewN hB4 m) (hK4.trans (KeptX.drewN w3 m))))
  obtain ⟨v3, hb3, hh3, _⟩ := hR3
  obtain ⟨d0, d1', d2, d3, d4, hf3⟩ := rdr_cells hh3
  have g1 := hf3 1
  clear hB3 hK3 hB3' hK3' hB4 hK4 hh3 hf3 hb3 c0 c1 c2 c3 c4 f1
  go_wp2_with (go_at_call 28; refine (HFl.out 0).mono ?_; rintro e w4 ⟨rfl, rfl⟩)
  go_ret
  rw [HA.out]
  exact ⟨⟨_, rfl⟩, by decide, ⟨_, _, (HE.out 0).1.err⟩, (HE.out 0).2⟩
set_option maxRecDepth 100000 in
set_option maxHeartbeats 2000000 in
theorem piece_yb (p : Option (Nat → List Nd → Res)) (h : Rdr w base rb s at_ D 0 ns ks) (hs : s.size ≤ 1000000) (ha : at_ < s.size) (hAtom : ∀ q, Calls Try.prog 80 #[.pointer (some ⟨rb, 0, none⟩)] (w.drewN q) (RPost w base rb s D ns ks (atomF (Tx.bs s) p at_ ns))) (hx : s[at_] = 36) (k : Int) (a : Nat) (ns1 : List Nd) (hr : atomF (Tx.bs s) p at_ ns = .ok (k, a, ns1)) (_hl1 : ns1.length ≤ 1000000) (h1 : a < s.size) (q1 : s[a] = 123) (m : Nat) (hh2 : Int) (nx : Nat) (hq : boundsF (Tx.bs s) a = some (m, hh2, nx)) (_hnx : nx < s.size) : Calls Try.prog 67 #[.pointer (some ⟨rb, 0, none⟩)] w (RPost w base rb s D ns ks (pieceF (Tx.bs s) p at_ ns)) := by
  have HA : Hid (pieceF (Tx.bs s) p at_ ns = .error 40) := Lib.hid (by unfold pieceF; rw [hr]; simp only; rw [(show quantF (Tx.bs s) a = some (some (m, hh2, nx)) from by unfold quantF; rw [gl h1, q1]; simp only; rw [if_neg (by decide), if_neg (by decide), if_neg (by decide), if_pos trivial, hq])]; simp only; rw [if_pos (Or.inr (by rw [gl ha, hx]))])
  rw [hr] at hAtom
  have HI94 : Hid (∀ q, Calls Try.prog 44 #[.pointer (some ⟨rb, 0, none⟩), .int .u8 94] (w.drewN q) fun en w' => en = .returned (.bool false) ∧ ∃ m, w' = (w.drewN q).drewN m) := Lib.hid (fun q => by
    have h1 := is_any (h.drewN q) 94
    rw [show isF (Tx.bs s) at_ 94 = false from isF_F (k := 94) (by rw [gl ha, hx]; decide)] at h1
    exact h1)
  have HI36 : Hid (∀ q, Calls Try.prog 44 #[.pointer (some ⟨rb, 0, none⟩), .int .u8 36] (w.drewN q) fun en w' => en = .returned (.bool true) ∧ ∃ m, w' = (w.drewN q).drewN m) := Lib.hid (fun q => by
    have h1 := is_any (h.drewN q) 36
    rw [show isF (Tx.bs s) at_ 36 = true from isF_T (k := 36) (by rw [gl ha, hx])] at h1
    exact h1)
  have HAtom := Lib.hid hAtom
  clear hAtom
  have e1 : s[a].toNat = 123 := by rw [q1]; rfl
  clear h hr q1
  go_enter Try.func67, Try.ntmps67
  go_wp2_with fail
  refine (HI94.out 0).mono ?_
  rintro e w0 ⟨rfl, m0, rfl⟩
  rw [World.drewN_drewN, Nat.zero_add]
  go_wp2_with fail
  refine (HI36.out m0).mono ?_
  rintro e w1 ⟨rfl, m1, rfl⟩
  rw [World.drewN_drewN]
  go_wp2_with fail
  refine (HAtom.out _).mono ?_
  rintro e w2 ⟨rfl, ⟨ks2, hR, hLate⟩, hB, hK⟩
  have HL := Lib.hid hLate
  have HR := Lib.hid (fun m => And.intro (hR.drewN m) (And.intro (below_drewN hB m) (hK.trans (KeptX.drewN w2 m))))
  have hbs := hB.size
  have HBd := Lib.hid (fun q => bounds_any (hR.drewN q) hs (by omega))
  rw [hq] at HBd
  obtain ⟨v', hb', hh', _⟩ := hR
  obtain ⟨c0, c1, c2, c3, c4, hf⟩ := rdr_cells hh'
  have f1 := hf 1
  have k0 : (0 : Int) ≤ (a : Int) := by omega
  clear hLate hB hK hh' hf hb'
  have k1 : (a : Int) < (s.size : Int) := by omega
  have d1 : decide ((s.size : Int) ≤ (a : Int)) = false := by simp only [decide_eq_false_iff_not]; omega
  clear hq
  go_wp2_with fail
  go_quiet (fail)
  go_wp2_with fail
  go_quiet (fail)
  go_wp2_with fail
  refine (HBd.out _).mono ?_
  rintro e w3 ⟨rfl, hR3, hB3, hK3⟩
  have hB3' := below_drewN' _ hB3
  have hK3' : KeptR w2 w3 := (KeptX.drewN w2 _).trans hK3
  have hB4 := ((HR.out 0).2.1).trans hB3'
  have hK4 : KeptR w w3 := ((HR.out 0).2.2).trans hK3'
  have HFl := Lib.hid (fun m => fail_first (hR3.drewN m) 40)
  have HE := Lib.hid (fun m => And.intro (below_drewN hB4 m) (hK4.trans (KeptX.drewN w3 m)))
  obtain ⟨v3, hb3, hh3, _⟩ := hR3
  obtain ⟨d0, d1', d2, d3, d4, hf3⟩ := rdr_cells hh3
  have g1 := hf3 1
  clear hB3 hK3 hB3' hK3' hB4 hK4 hh3 hf3 hb3 c0 c1 c2 c3 c4 f1
  go_wp2_with (go_at_call 28; refine (HFl.out 0).mono ?_; rintro e w4 ⟨rfl, q1, q2, q3⟩; have Q := Lib.hid (And.intro q1 (And.intro q2 q3)); clear q1 q2 q3)
  go_ret
  rw [HA.out]
  exact RPost_fail (by decide) (HE.out 0) Q.out
set_option maxRecDepth 100000 in
set_option maxHeartbeats 2000000 in
theorem piece_ze (p : Option (Nat → List Nd → Res)) (h : Rdr w base rb s at_ D 0 ns ks) (_hs : s.size ≤ 1000000) (ha : at_ < s.size) (hAtom : ∀ q, Calls Try.prog 80 #[.pointer (some ⟨rb, 0, none⟩)] (w.drewN q) (RPost w base rb s D ns ks (atomF (Tx.bs s) p at_ ns))) (hx : s[at_] ≠ 94) (hy : s[at_] ≠ 36) (c : Int) (hr : atomF (Tx.bs s) p at_ ns = .error c) : Calls Try.prog 67 #[.pointer (some ⟨rb, 0, none⟩)] w (RPost w base rb s D ns ks (pieceF (Tx.bs s) p at_ ns)) := by
  have HA : Hid (pieceF (Tx.bs s) p at_ ns = .error c) := Lib.hid (by unfold pieceF; rw [hr])
  rw [hr] at hAtom
  have HI94 : Hid (∀ q, Calls Try.prog 44 #[.pointer (some ⟨rb, 0, none⟩), .int .u8 94] (w.drewN q) fun en w' => en = .returned (.bool false) ∧ ∃ m, w' = (w.drewN q).drewN m) := Lib.hid (fun q => by
    have h1 := is_any (h.drewN q) 94
    rw [show isF (Tx.bs s) at_ 94 = false from isF_F (k := 94) (by rw [gl ha]; intro e; exact hx (Option.some.inj e))] at h1
    exact h1)
  have HI36 : Hid (∀ q, Calls Try.prog 44 #[.pointer (some ⟨rb, 0, none⟩), .int .u8 36] (w.drewN q) fun en w' => en = .returned (.bool false) ∧ ∃ m, w' = (w.drewN q).drewN m) := Lib.hid (fun q => by
    have h1 := is_any (h.drewN q) 36
    rw [show isF (Tx.bs s) at_ 36 = false from isF_F (k := 36) (by rw [gl ha]; intro e; exact hy (Option.some.inj e))] at h1
    exact h1)
  have HAtom := Lib.hid hAtom
  clear hAtom
  clear h hr
  go_enter Try.func67, Try.ntmps67
  go_wp2_with fail
  refine (HI94.out 0).mono ?_
  rintro e w0 ⟨rfl, m0, rfl⟩
  rw [World.drewN_drewN, Nat.zero_add]
  go_wp2_with fail
  refine (HI36.out m0).mono ?_
  rintro e w1 ⟨rfl, m1, rfl⟩
  rw [World.drewN_drewN]
  go_wp2_with fail
  refine (HAtom.out _).mono ?_
  rintro e w2 ⟨⟨z, rfl⟩, hc0, ⟨a, d, hR⟩, hB, hK⟩
  have HE := Lib.hid (fun m => And.intro (hR.drewN m) (And.intro (below_drewN hB m) (hK.trans (KeptX.drewN w2 m))))
  obtain ⟨v', hb', hh'⟩ := hR
  obtain ⟨c0, c1, c2, c3, c4, hf⟩ := rdr_cells hh'
  have f1 := hf 1
  have e1 : (c == 0) = false := by rw [beq_eq_false_iff_ne]; exact hc0
  have e2 : (c != 0) = true := by rw [bne, e1]; rfl
  have HC0 := Lib.hid hc0
  clear hB hK hh' hf hc0 hb'
  go_wp2_with fail
  go_quiet (fail)
  go_wp2_with fail
  go_ret
  rw [HA.out]
  exact ⟨⟨_, rfl⟩, HC0.out, ⟨_, _, (HE.out _).1⟩, (HE.out _).2⟩
set_option maxRecDepth 100000 in
set_option maxHeartbeats 2000000 in
theorem piece_zs (p : Option (Nat → List Nd → Res)) (h : Rdr w base rb s at_ D 0 ns ks) (_hs : s.size ≤ 1000000) (ha : at_ < s.size) (hAtom : ∀ q, Calls Try.prog 80 #[.pointer (some ⟨rb, 0, none⟩)] (w.drewN q) (RPost w base rb s D ns ks (atomF (Tx.bs s) p at_ ns))) (hx : s[at_] ≠ 94) (hy : s[at_] ≠ 36) (k : Int) (a : Nat) (ns1 : List Nd) (hr : atomF (Tx.bs s) p at_ ns = .ok (k, a, ns1)) (h1 : s.size ≤ a) : Calls Try.prog 67 #[.pointer (some ⟨rb, 0, none⟩)] w (RPost w base rb s D ns ks (pieceF (Tx.bs s) p at_ ns)) := by
  have HA : Hid (pieceF (Tx.bs s) p at_ ns = .ok (k, a, ns1)) := Lib.hid (by unfold pieceF; rw [hr]; simp only; rw [show quantF (Tx.bs s) a = none from by unfold quantF; rw [gn h1]])
  rw [hr] at hAtom
  have HI94 : Hid (∀ q, Calls Try.prog 44 #[.pointer (some ⟨rb, 0, none⟩), .int .u8 94] (w.drewN q) fun en w' => en = .returned (.bool false) ∧ ∃ m, w' = (w.drewN q).drewN m) := Lib.hid (fun q => by
    have h1 := is_any (h.drewN q) 94
    rw [show isF (Tx.bs s) at_ 94 = false from isF_F (k := 94) (by rw [gl ha]; intro e; exact hx (Option.some.inj e))] at h1
    exact h1)
  have HI36 : Hid (∀ q, Calls Try.prog 44 #[.pointer (some ⟨rb, 0, none⟩), .int .u8 36] (w.drewN q) fun en w' => en = .returned (.bool false) ∧ ∃ m, w' = (w.drewN q).drewN m) := Lib.hid (fun q => by
    have h1 := is_any (h.drewN q) 36
    rw [show isF (Tx.bs s) at_ 36 = false from isF_F (k := 36) (by rw [gl ha]; intro e; exact hy (Option.some.inj e))] at h1
    exact h1)
  have HAtom := Lib.hid hAtom
  clear hAtom
  clear h hr
  go_enter Try.func67, Try.ntmps67
  go_wp2_with fail
  refine (HI94.out 0).mono ?_
  rintro e w0 ⟨rfl, m0, rfl⟩
  rw [World.drewN_drewN, Nat.zero_add]
  go_wp2_with fail
  refine (HI36.out m0).mono ?_
  rintro e w1 ⟨rfl, m1, rfl⟩
  rw [World.drewN_drewN]
  go_wp2_with fail
  refine (HAtom.out _).mono ?_
  rintro e w2 ⟨rfl, ⟨ks2, hR, hLate⟩, hB, hK⟩
  have HL := Lib.hid hLate
  have HR := Lib.hid (fun m => And.intro (hR.drewN m) (And.intro (below_drewN hB m) (hK.trans (KeptX.drewN w2 m))))
  have hbs := hB.size
  obtain ⟨v', hb', hh', _⟩ := hR
  obtain ⟨c0, c1, c2, c3, c4, hf⟩ := rdr_cells hh'
  have f1 := hf 1
  have k0 : (0 : Int) ≤ (a : Int) := by omega
  clear hLate hB hK hh' hf hb'
  have d1 : (s.size : Int) ≤ (a : Int) := by omega
  go_wp2_with fail
  go_quiet (fail)
  go_wp2_with fail
  go_ret
  rw [HA.out]
  exact ⟨rfl, ⟨_, (HR.out _).1, HL.out⟩, (HR.out _).2⟩
set_option maxRecDepth 100000 in
set_option maxHeartbeats 2000000 in
theorem piece_zn (p : Option (Nat → List Nd → Res)) (h : Rdr w base rb s at_ D 0 ns ks) (_hs : s.size ≤ 1000000) (ha : at_ < s.size) (hAtom : ∀ q, Calls Try.prog 80 #[.pointer (some ⟨rb, 0, none⟩)] (w.drewN q) (RPost w base rb s D ns ks (atomF (Tx.bs s) p at_ ns))) (hx : s[at_] ≠ 94) (hy : s[at_] ≠ 36) (k : Int) (a : Nat) (ns1 : List Nd) (hr : atomF (Tx.bs s) p at_ ns = .ok (k, a, ns1)) (h1 : a < s.size) (q1 : s[a] ≠ 42) (q2 : s[a] ≠ 43) (q3 : s[a] ≠ 63) (q4 : s[a] ≠ 123) : Calls Try.prog 67 #[.pointer (some ⟨rb, 0, none⟩)] w (RPost w base rb s D ns ks (pieceF (Tx.bs s) p at_ ns)) := by
  have HA : Hid (pieceF (Tx.bs s) p at_ ns = .ok (k, a, ns1)) := Lib.hid (by unfold pieceF; rw [hr]; simp only; rw [show quantF (Tx.bs s) a = none from by unfold quantF; rw [gl h1]; simp only; rw [if_neg q1, if_neg q2, if_neg q3, if_neg q4]])
  rw [hr] at hAtom
  have HI94 : Hid (∀ q, Calls Try.prog 44 #[.pointer (some ⟨rb, 0, none⟩), .int .u8 94] (w.drewN q) fun en w' => en = .returned (.bool false) ∧ ∃ m, w' = (w.drewN q).drewN m) := Lib.hid (fun q => by
    have h1 := is_any (h.drewN q) 94
    rw [show isF (Tx.bs s) at_ 94 = false from isF_F (k := 94) (by rw [gl ha]; intro e; exact hx (Option.some.inj e))] at h1
    exact h1)
  have HI36 : Hid (∀ q, Calls Try.prog 44 #[.pointer (some ⟨rb, 0, none⟩), .int .u8 36] (w.drewN q) fun en w' => en = .returned (.bool false) ∧ ∃ m, w' = (w.drewN q).drewN m) := Lib.hid (fun q => by
    have h1 := is_any (h.drewN q) 36
    rw [show isF (Tx.bs s) at_ 36 = false from isF_F (k := 36) (by rw [gl ha]; intro e; exact hy (Option.some.inj e))] at h1
    exact h1)
  have HAtom := Lib.hid hAtom
  clear hAtom
  have e1 : ((s[a].toNat : Int) == 42) = false := byte_F q1
  have e2 : ((s[a].toNat : Int) == 43) = false := byte_F q2
  have e3 : ((s[a].toNat : Int) == 63) = false := byte_F q3
  have e4 : ((s[a].toNat : Int) == 123) = false := byte_F q4
  clear h hr q1 q2 q3 q4
  go_enter Try.func67, Try.ntmps67
  go_wp2_with fail
  refine (HI94.out 0).mono ?_
  rintro e w0 ⟨rfl, m0, rfl⟩
  rw [World.drewN_drewN, Nat.zero_add]
  go_wp2_with fail
  refine (HI36.out m0).mono ?_
  rintro e w1 ⟨rfl, m1, rfl⟩
  rw [World.drewN_drewN]
  go_wp2_with fail
  refine (HAtom.out _).mono ?_
  rintro e w2 ⟨rfl, ⟨ks2, hR, hLate⟩, hB, hK⟩
  have HL := Lib.hid hLate
  have HR := Lib.hid (fun m => And.intro (hR.drewN m) (And.intro (below_drewN hB m) (hK.trans (KeptX.drewN w2 m))))
  have hbs := hB.size
  obtain ⟨v', hb', hh', _⟩ := hR
  obtain ⟨c0, c1, c2, c3, c4, hf⟩ := rdr_cells hh'
  have f1 := hf 1
  have k0 : (0 : Int) ≤ (a : Int) := by omega
  clear hLate hB hK hh' hf hb'
  have k1 : (a : Int) < (s.size : Int) := by omega
  have d1 : decide ((s.size : Int) ≤ (a : Int)) = false := by simp only [decide_eq_false_iff_not]; omega
  go_wp2_with fail
  go_quiet (fail)
  go_wp2_with fail
  go_quiet (fail)
  go_wp2_with fail
  go_ret
  rw [HA.out]
  exact ⟨rfl, ⟨_, (HR.out _).1, HL.out⟩, (HR.out _).2⟩
set_option maxRecDepth 100000 in
set_option maxHeartbeats 2000000 in
theorem piece_zstar (p : Option (Nat → List Nd → Res)) (h : Rdr w base rb s at_ D 0 ns ks) (_hs : s.size ≤ 1000000) (ha : at_ < s.size) (hAtom : ∀ q, Calls Try.prog 80 #[.pointer (some ⟨rb, 0, none⟩)] (w.drewN q) (RPost w base rb s D ns ks (atomF (Tx.bs s) p at_ ns))) (hx : s[at_] ≠ 94) (hy : s[at_] ≠ 36) (k : Int) (a : Nat) (ns1 : List Nd) (hr : atomF (Tx.bs s) p at_ ns = .ok (k, a, ns1)) (hl1 : ns1.length ≤ 1000000) (h1 : a < s.size) (q1 : s[a] = 42) : Calls Try.prog 67 #[.pointer (some ⟨rb, 0, none⟩)] w (RPost w base rb s D ns ks (pieceF (Tx.bs s) p at_ ns)) := by
  have HA : Hid (pieceF (Tx.bs s) p at_ ns = .ok (ns1.length, a + 1, ns1 ++ [repN 0 (-1) k])) := Lib.hid (by unfold pieceF; rw [hr]; simp only; rw [(show quantF (Tx.bs s) a = some (some (0, (-1), a)) from by unfold quantF; rw [gl h1, q1]; rfl)]; simp only; rw [if_neg (by rw [gl ha]; intro e; rcases e with e | e; exact hx (Option.some.inj e); exact hy (Option.some.inj e))]; rfl)
  rw [hr] at hAtom
  have HI94 : Hid (∀ q, Calls Try.prog 44 #[.pointer (some ⟨rb, 0, none⟩), .int .u8 94] (w.drewN q) fun en w' => en = .returned (.bool false) ∧ ∃ m, w' = (w.drewN q).drewN m) := Lib.hid (fun q => by
    have h1 := is_any (h.drewN q) 94
    rw [show isF (Tx.bs s) at_ 94 = false from isF_F (k := 94) (by rw [gl ha]; intro e; exact hx (Option.some.inj e))] at h1
    exact h1)
  have HI36 : Hid (∀ q, Calls Try.prog 44 #[.pointer (some ⟨rb, 0, none⟩), .int .u8 36] (w.drewN q) fun en w' => en = .returned (.bool false) ∧ ∃ m, w' = (w.drewN q).drewN m) := Lib.hid (fun q => by
    have h1 := is_any (h.drewN q) 36
    rw [show isF (Tx.bs s) at_ 36 = false from isF_F (k := 36) (by rw [gl ha]; intro e; exact hy (Option.some.inj e))] at h1
    exact h1)
  have HAtom := Lib.hid hAtom
  clear hAtom
  have e1 : s[a].toNat = 42 := by rw [q1]; rfl
  clear h hr q1
  go_enter Try.func67, Try.ntmps67
  go_wp2_with fail
  refine (HI94.out 0).mono ?_
  rintro e w0 ⟨rfl, m0, rfl⟩
  rw [World.drewN_drewN, Nat.zero_add]
  go_wp2_with fail
  refine (HI36.out m0).mono ?_
  rintro e w1 ⟨rfl, m1, rfl⟩
  rw [World.drewN_drewN]
  go_wp2_with fail
  refine (HAtom.out _).mono ?_
  rintro e w2 ⟨rfl, ⟨ks2, hR, hLate⟩, hB, hK⟩
  have HL := Lib.hid hLate
  have HR := Lib.hid (fun m => And.intro (hR.drewN m) (And.intro (below_drewN hB m) (hK.trans (KeptX.drewN w2 m))))
  have hbs := hB.size
  have HNode := Lib.hid (fun m => rep_node (ns := ns) (hR.drewN m) (below_drewN hB m) (hK.trans (KeptX.drewN w2 m)) HL.out 0 (-1) k hl1 w2.heap.size (size_drewN w2 m))
  obtain ⟨v', hb', hh', _⟩ := hR
  obtain ⟨c0, c1, c2, c3, c4, hf⟩ := rdr_cells hh'
  have f1 := hf 1
  have k0 : (0 : Int) ≤ (a : Int) := by omega
  clear hLate hB hK hh' hf hb'
  have k1 : (a : Int) < (s.size : Int) := by omega
  have d1 : decide ((s.size : Int) ≤ (a : Int)) = false := by simp only [decide_eq_false_iff_not]; omega
  go_wp2_with fail
  go_quiet (fail)
  go_wp2_with fail
  go_quiet (fail)
  go_wp2_with fail
  refine (HNode.out _).mono ?_
  intro e w4 hQ
  obtain ⟨z, rfl⟩ := hQ.int
  have Q := Lib.hid hQ
  clear hQ
  go_wp2_with fail
  go_ret
  rw [HA.out]
  exact Q.out
set_option maxRecDepth 100000 in
set_option maxHeartbeats 2000000 in
theorem piece_zplus (p : Option (Nat → List Nd → Res)) (h : Rdr w base rb s at_ D 0 ns ks) (_hs : s.size ≤ 1000000) (ha : at_ < s.size) (hAtom : ∀ q, Calls Try.prog 80 #[.pointer (some ⟨rb, 0, none⟩)] (w.drewN q) (RPost w base rb s D ns ks (atomF (Tx.bs s) p at_ ns))) (hx : s[at_] ≠ 94) (hy : s[at_] ≠ 36) (k : Int) (a : Nat) (ns1 : List Nd) (hr : atomF (Tx.bs s) p at_ ns = .ok (k, a, ns1)) (hl1 : ns1.length ≤ 1000000) (h1 : a < s.size) (q1 : s[a] = 43) : Calls Try.prog 67 #[.pointer (some ⟨rb, 0, none⟩)] w (RPost w base rb s D ns ks (pieceF (Tx.bs s) p at_ ns)) := by
  have HA : Hid (pieceF (Tx.bs s) p at_ ns = .ok (ns1.length, a + 1, ns1 ++ [repN 1 (-1) k])) := Lib.hid (by unfold pieceF; rw [hr]; simp only; rw [(show quantF (Tx.bs s) a = some (some (1, (-1), a)) from by unfold quantF; rw [gl h1, q1]; rfl)]; simp only; rw [if_neg (by rw [gl ha]; intro e; rcases e with e | e; exact hx (Option.some.inj e); exact hy (Option.some.inj e))]; rfl)
  rw [hr] at hAtom
  have HI94 : Hid (∀ q, Calls Try.prog 44 #[.pointer (some ⟨rb, 0, none⟩), .int .u8 94] (w.drewN q) fun en w' => en = .returned (.bool false) ∧ ∃ m, w' = (w.drewN q).drewN m) := Lib.hid (fun q => by
    have h1 := is_any (h.drewN q) 94
    rw [show isF (Tx.bs s) at_ 94 = false from isF_F (k := 94) (by rw [gl ha]; intro e; exact hx (Option.some.inj e))] at h1
    exact h1)
  have HI36 : Hid (∀ q, Calls Try.prog 44 #[.pointer (some ⟨rb, 0, none⟩), .int .u8 36] (w.drewN q) fun en w' => en = .returned (.bool false) ∧ ∃ m, w' = (w.drewN q).drewN m) := Lib.hid (fun q => by
    have h1 := is_any (h.drewN q) 36
    rw [show isF (Tx.bs s) at_ 36 = false from isF_F (k := 36) (by rw [gl ha]; intro e; exact hy (Option.some.inj e))] at h1
    exact h1)
  have HAtom := Lib.hid hAtom
  clear hAtom
  have e1 : s[a].toNat = 43 := by rw [q1]; rfl
  clear h hr q1
  go_enter Try.func67, Try.ntmps67
  go_wp2_with fail
  refine (HI94.out 0).mono ?_
  rintro e w0 ⟨rfl, m0, rfl⟩
  rw [World.drewN_drewN, Nat.zero_add]
  go_wp2_with fail
  refine (HI36.out m0).mono ?_
  rintro e w1 ⟨rfl, m1, rfl⟩
  rw [World.drewN_drewN]
  go_wp2_with fail
  refine (HAtom.out _).mono ?_
  rintro e w2 ⟨rfl, ⟨ks2, hR, hLate⟩, hB, hK⟩
  have HL := Lib.hid hLate
  have HR := Lib.hid (fun m => And.intro (hR.drewN m) (And.intro (below_drewN hB m) (hK.trans (KeptX.drewN w2 m))))
  have hbs := hB.size
  have HNode := Lib.hid (fun m => rep_node (ns := ns) (hR.drewN m) (below_drewN hB m) (hK.trans (KeptX.drewN w2 m)) HL.out 1 (-1) k hl1 w2.heap.size (size_drewN w2 m))
  obtain ⟨v', hb', hh', _⟩ := hR
  obtain ⟨c0, c1, c2, c3, c4, hf⟩ := rdr_cells hh'
  have f1 := hf 1
  have k0 : (0 : Int) ≤ (a : Int) := by omega
  clear hLate hB hK hh' hf hb'
  have k1 : (a : Int) < (s.size : Int) := by omega
  have d1 : decide ((s.size : Int) ≤ (a : Int)) = false := by simp only [decide_eq_false_iff_not]; omega
  go_wp2_with fail
  go_quiet (fail)
  go_wp2_with fail
  go_quiet (fail)
  go_wp2_with fail
  refine (HNode.out _).mono ?_
  intro e w4 hQ
  obtain ⟨z, rfl⟩ := hQ.int
  have Q := Lib.hid hQ
  clear hQ
  go_wp2_with fail
  go_ret
  rw [HA.out]
  exact Q.out
set_option maxRecDepth 100000 in
set_option maxHeartbeats 2000000 in
theorem piece_zquest (p : Option (Nat → List Nd → Res)) (h : Rdr w base rb s at_ D 0 ns ks) (_hs : s.size ≤ 1000000) (ha : at_ < s.size) (hAtom : ∀ q, Calls Try.prog 80 #[.pointer (some ⟨rb, 0, none⟩)] (w.drewN q) (RPost w base rb s D ns ks (atomF (Tx.bs s) p at_ ns))) (hx : s[at_] ≠ 94) (hy : s[at_] ≠ 36) (k : Int) (a : Nat) (ns1 : List Nd) (hr : atomF (Tx.bs s) p at_ ns = .ok (k, a, ns1)) (hl1 : ns1.length ≤ 1000000) (h1 : a < s.size) (q1 : s[a] = 63) : Calls Try.prog 67 #[.pointer (some ⟨rb, 0, none⟩)] w (RPost w base rb s D ns ks (pieceF (Tx.bs s) p at_ ns)) := by
  have HA : Hid (pieceF (Tx.bs s) p at_ ns = .ok (ns1.length, a + 1, ns1 ++ [repN 0 1 k])) := Lib.hid (by unfold pieceF; rw [hr]; simp only; rw [(show quantF (Tx.bs s) a = some (some (0, 1, a)) from by unfold quantF; rw [gl h1, q1]; rfl)]; simp only; rw [if_neg (by rw [gl ha]; intro e; rcases e with e | e; exact hx (Option.some.inj e); exact hy (Option.some.inj e))]; rfl)
  rw [hr] at hAtom
  have HI94 : Hid (∀ q, Calls Try.prog 44 #[.pointer (some ⟨rb, 0, none⟩), .int .u8 94] (w.drewN q) fun en w' => en = .returned (.bool false) ∧ ∃ m, w' = (w.drewN q).drewN m) := Lib.hid (fun q => by
    have h1 := is_any (h.drewN q) 94
    rw [show isF (Tx.bs s) at_ 94 = false from isF_F (k := 94) (by rw [gl ha]; intro e; exact hx (Option.some.inj e))] at h1
    exact h1)
  have HI36 : Hid (∀ q, Calls Try.prog 44 #[.pointer (some ⟨rb, 0, none⟩), .int .u8 36] (w.drewN q) fun en w' => en = .returned (.bool false) ∧ ∃ m, w' = (w.drewN q).drewN m) := Lib.hid (fun q => by
    have h1 := is_any (h.drewN q) 36
    rw [show isF (Tx.bs s) at_ 36 = false from isF_F (k := 36) (by rw [gl ha]; intro e; exact hy (Option.some.inj e))] at h1
    exact h1)
  have HAtom := Lib.hid hAtom
  clear hAtom
  have e1 : s[a].toNat = 63 := by rw [q1]; rfl
  clear h hr q1
  go_enter Try.func67, Try.ntmps67
  go_wp2_with fail
  refine (HI94.out 0).mono ?_
  rintro e w0 ⟨rfl, m0, rfl⟩
  rw [World.drewN_drewN, Nat.zero_add]
  go_wp2_with fail
  refine (HI36.out m0).mono ?_
  rintro e w1 ⟨rfl, m1, rfl⟩
  rw [World.drewN_drewN]
  go_wp2_with fail
  refine (HAtom.out _).mono ?_
  rintro e w2 ⟨rfl, ⟨ks2, hR, hLate⟩, hB, hK⟩
  have HL := Lib.hid hLate
  have HR := Lib.hid (fun m => And.intro (hR.drewN m) (And.intro (below_drewN hB m) (hK.trans (KeptX.drewN w2 m))))
  have hbs := hB.size
  have HNode := Lib.hid (fun m => rep_node (ns := ns) (hR.drewN m) (below_drewN hB m) (hK.trans (KeptX.drewN w2 m)) HL.out 0 1 k hl1 w2.heap.size (size_drewN w2 m))
  obtain ⟨v', hb', hh', _⟩ := hR
  obtain ⟨c0, c1, c2, c3, c4, hf⟩ := rdr_cells hh'
  have f1 := hf 1
  have k0 : (0 : Int) ≤ (a : Int) := by omega
  clear hLate hB hK hh' hf hb'
  have k1 : (a : Int) < (s.size : Int) := by omega
  have d1 : decide ((s.size : Int) ≤ (a : Int)) = false := by simp only [decide_eq_false_iff_not]; omega
  go_wp2_with fail
  go_quiet (fail)
  go_wp2_with fail
  go_quiet (fail)
  go_wp2_with fail
  refine (HNode.out _).mono ?_
  intro e w4 hQ
  obtain ⟨z, rfl⟩ := hQ.int
  have Q := Lib.hid hQ
  clear hQ
  go_wp2_with fail
  go_ret
  rw [HA.out]
  exact Q.out
set_option maxRecDepth 100000 in
set_option maxHeartbeats 2000000 in
theorem piece_zc (p : Option (Nat → List Nd → Res)) (h : Rdr w base rb s at_ D 0 ns ks) (hs : s.size ≤ 1000000) (ha : at_ < s.size) (hAtom : ∀ q, Calls Try.prog 80 #[.pointer (some ⟨rb, 0, none⟩)] (w.drewN q) (RPost w base rb s D ns ks (atomF (Tx.bs s) p at_ ns))) (hx : s[at_] ≠ 94) (hy : s[at_] ≠ 36) (k : Int) (a : Nat) (ns1 : List Nd) (hr : atomF (Tx.bs s) p at_ ns = .ok (k, a, ns1)) (_hl1 : ns1.length ≤ 1000000) (h1 : a < s.size) (q1 : s[a] = 123) (hq : boundsF (Tx.bs s) a = none) : Calls Try.prog 67 #[.pointer (some ⟨rb, 0, none⟩)] w (RPost w base rb s D ns ks (pieceF (Tx.bs s) p at_ ns)) := by
  have HA : Hid (pieceF (Tx.bs s) p at_ ns = .error 40) := Lib.hid (by unfold pieceF; rw [hr]; simp only; rw [(show quantF (Tx.bs s) a = some none from by unfold quantF; rw [gl h1, q1]; simp only; rw [if_neg (by decide), if_neg (by decide), if_neg (by decide), if_pos trivial, hq])])
  rw [hr] at hAtom
  have HI94 : Hid (∀ q, Calls Try.prog 44 #[.pointer (some ⟨rb, 0, none⟩), .int .u8 94] (w.drewN q) fun en w' => en = .returned (.bool false) ∧ ∃ m, w' = (w.drewN q).drewN m) := Lib.hid (fun q => by
    have h1 := is_any (h.drewN q) 94
    rw [show isF (Tx.bs s) at_ 94 = false from isF_F (k := 94) (by rw [gl ha]; intro e; exact hx (Option.some.inj e))] at h1
    exact h1)
  have HI36 : Hid (∀ q, Calls Try.prog 44 #[.pointer (some ⟨rb, 0, none⟩), .int .u8 36] (w.drewN q) fun en w' => en = .returned (.bool false) ∧ ∃ m, w' = (w.drewN q).drewN m) := Lib.hid (fun q => by
    have h1 := is_any (h.drewN q) 36
    rw [show isF (Tx.bs s) at_ 36 = false from isF_F (k := 36) (by rw [gl ha]; intro e; exact hy (Option.some.inj e))] at h1
    exact h1)
  have HAtom := Lib.hid hAtom
  clear hAtom
  have e1 : s[a].toNat = 123 := by rw [q1]; rfl
  clear h hr q1
  go_enter Try.func67, Try.ntmps67
  go_wp2_with fail
  refine (HI94.out 0).mono ?_
  rintro e w0 ⟨rfl, m0, rfl⟩
  rw [World.drewN_drewN, Nat.zero_add]
  go_wp2_with fail
  refine (HI36.out m0).mono ?_
  rintro e w1 ⟨rfl, m1, rfl⟩
  rw [World.drewN_drewN]
  go_wp2_with fail
  refine (HAtom.out _).mono ?_
  rintro e w2 ⟨rfl, ⟨ks2, hR, hLate⟩, hB, hK⟩
  have HL := Lib.hid hLate
  have HR := Lib.hid (fun m => And.intro (hR.drewN m) (And.intro (below_drewN hB m) (hK.trans (KeptX.drewN w2 m))))
  have hbs := hB.size
  have HBd := Lib.hid (fun q => bounds_any (hR.drewN q) hs (by omega))
  rw [hq] at HBd
  obtain ⟨v', hb', hh', _⟩ := hR
  obtain ⟨c0, c1, c2, c3, c4, hf⟩ := rdr_cells hh'
  have f1 := hf 1
  have k0 : (0 : Int) ≤ (a : Int) := by omega
  clear hLate hB hK hh' hf hb'
  have k1 : (a : Int) < (s.size : Int) := by omega
  have d1 : decide ((s.size : Int) ≤ (a : Int)) = false := by simp only [decide_eq_false_iff_not]; omega
  clear hq
  go_wp2_with fail
  go_quiet (fail)
  go_wp2_with fail
  go_quiet (fail)
  go_wp2_with fail
  refine (HBd.out _).mono ?_
  rintro e w3 ⟨rfl, hR3, hB3, hK3⟩
  have hB3' := below_drewN' _ hB3
  have hK3' : KeptR w2 w3 := (KeptX.drewN w2 _).trans hK3
  have hB4 := ((HR.out 0).2.1).trans hB3'
  have hK4 : KeptR w w3 := ((HR.out 0).2.2).trans hK3'
  have HFl := Lib.hid (fun m => fail_later (hR3.drewN m) (by decide) 40)
  have HE := Lib.hid (fun m => And.intro (hR3.drewN m) (And.intro (below_drewN hB4 m) (hK4.trans (KeptX.drewN w3 m))))
  obtain ⟨v3, hb3, hh3, _⟩ := hR3
  obtain ⟨d0, d1', d2, d3, d4, hf3⟩ := rdr_cells hh3
  have g1 := hf3 1
  clear hB3 hK3 hB3' hK3' hB4 hK4 hh3 hf3 hb3 c0 c1 c2 c3 c4 f1
  go_wp2_with (go_at_call 28; refine (HFl.out 0).mono ?_; rintro e w4 ⟨rfl, rfl⟩)
  go_ret
  rw [HA.out]
  exact ⟨⟨_, rfl⟩, by decide, ⟨_, _, (HE.out 0).1.err⟩, (HE.out 0).2⟩
set_option maxRecDepth 100000 in
set_option maxHeartbeats 2000000 in
theorem piece_zb (p : Option (Nat → List Nd → Res)) (h : Rdr w base rb s at_ D 0 ns ks) (hs : s.size ≤ 1000000) (ha : at_ < s.size) (hAtom : ∀ q, Calls Try.prog 80 #[.pointer (some ⟨rb, 0, none⟩)] (w.drewN q) (RPost w base rb s D ns ks (atomF (Tx.bs s) p at_ ns))) (hx : s[at_] ≠ 94) (hy : s[at_] ≠ 36) (k : Int) (a : Nat) (ns1 : List Nd) (hr : atomF (Tx.bs s) p at_ ns = .ok (k, a, ns1)) (hl1 : ns1.length ≤ 1000000) (h1 : a < s.size) (q1 : s[a] = 123) (m : Nat) (hh2 : Int) (nx : Nat) (hq : boundsF (Tx.bs s) a = some (m, hh2, nx)) (hnx : nx < s.size) : Calls Try.prog 67 #[.pointer (some ⟨rb, 0, none⟩)] w (RPost w base rb s D ns ks (pieceF (Tx.bs s) p at_ ns)) := by
  have HA : Hid (pieceF (Tx.bs s) p at_ ns = .ok (ns1.length, nx + 1, ns1 ++ [repN (m : Int) hh2 k])) := Lib.hid (by unfold pieceF; rw [hr]; simp only; rw [(show quantF (Tx.bs s) a = some (some (m, hh2, nx)) from by unfold quantF; rw [gl h1, q1]; simp only; rw [if_neg (by decide), if_neg (by decide), if_neg (by decide), if_pos trivial, hq])]; simp only; rw [if_neg (by rw [gl ha]; intro e; rcases e with e | e; exact hx (Option.some.inj e); exact hy (Option.some.inj e))])
  rw [hr] at hAtom
  have HI94 : Hid (∀ q, Calls Try.prog 44 #[.pointer (some ⟨rb, 0, none⟩), .int .u8 94] (w.drewN q) fun en w' => en = .returned (.bool false) ∧ ∃ m, w' = (w.drewN q).drewN m) := Lib.hid (fun q => by
    have h1 := is_any (h.drewN q) 94
    rw [show isF (Tx.bs s) at_ 94 = false from isF_F (k := 94) (by rw [gl ha]; intro e; exact hx (Option.some.inj e))] at h1
    exact h1)
  have HI36 : Hid (∀ q, Calls Try.prog 44 #[.pointer (some ⟨rb, 0, none⟩), .int .u8 36] (w.drewN q) fun en w' => en = .returned (.bool false) ∧ ∃ m, w' = (w.drewN q).drewN m) := Lib.hid (fun q => by
    have h1 := is_any (h.drewN q) 36
    rw [show isF (Tx.bs s) at_ 36 = false from isF_F (k := 36) (by rw [gl ha]; intro e; exact hy (Option.some.inj e))] at h1
    exact h1)
  have HAtom := Lib.hid hAtom
  clear hAtom
  have e1 : s[a].toNat = 123 := by rw [q1]; rfl
  clear h hr q1
  go_enter Try.func67, Try.ntmps67
  go_wp2_with fail
  refine (HI94.out 0).mono ?_
  rintro e w0 ⟨rfl, m0, rfl⟩
  rw [World.drewN_drewN, Nat.zero_add]
  go_wp2_with fail
  refine (HI36.out m0).mono ?_
  rintro e w1 ⟨rfl, m1, rfl⟩
  rw [World.drewN_drewN]
  go_wp2_with fail
  refine (HAtom.out _).mono ?_
  rintro e w2 ⟨rfl, ⟨ks2, hR, hLate⟩, hB, hK⟩
  have HL := Lib.hid hLate
  have HR := Lib.hid (fun m => And.intro (hR.drewN m) (And.intro (below_drewN hB m) (hK.trans (KeptX.drewN w2 m))))
  have hbs := hB.size
  have HBd := Lib.hid (fun q => bounds_any (hR.drewN q) hs (by omega))
  rw [hq] at HBd
  obtain ⟨v', hb', hh', _⟩ := hR
  obtain ⟨c0, c1, c2, c3, c4, hf⟩ := rdr_cells hh'
  have f1 := hf 1
  have k0 : (0 : Int) ≤ (a : Int) := by omega
  clear hLate hB hK hh' hf hb'
  have k1 : (a : Int) < (s.size : Int) := by omega
  have d1 : decide ((s.size : Int) ≤ (a : Int)) = false := by simp only [decide_eq_false_iff_not]; omega
  clear hq
  go_wp2_with fail
  go_quiet (fail)
  go_wp2_with fail
  go_quiet (fail)
  go_wp2_with fail
  refine (HBd.out _).mono ?_
  rintro e w3 ⟨rfl, hR3, hB3, hK3⟩
  have hB3' := below_drewN' _ hB3
  have hK3' : KeptR w2 w3 := (KeptX.drewN w2 _).trans hK3
  have hB4 := ((HR.out 0).2.1).trans hB3'
  have hK4 : KeptR w w3 := ((HR.out 0).2.2).trans hK3'
  have HNode := Lib.hid (fun q => rep_node (ns := ns) (hR3.drewN q) (below_drewN hB4 q) (hK4.trans (KeptX.drewN w3 q)) HL.out (m : Int) hh2 k hl1 w3.heap.size (size_drewN w3 q))
  obtain ⟨v3, hb3, hh3, _⟩ := hR3
  obtain ⟨d0, d1', d2, d3, d4, hf3⟩ := rdr_cells hh3
  have g1 := hf3 1
  clear hB3 hK3 hB3' hK3' hB4 hK4 hh3 hf3 hb3 c0 c1 c2 c3 c4 f1
  have k7 : (0 : Int) ≤ (nx : Int) := by omega
  have k8 : (nx : Int) < (s.size : Int) := by omega
  go_wp2_with fail
  refine (HNode.out 0).mono ?_
  intro e w4 hQ
  obtain ⟨z, rfl⟩ := hQ.int
  have Q := Lib.hid hQ
  clear hQ
  go_wp2_with fail
  go_ret
  rw [HA.out]
  exact Q.out
/-- One piece. -/
theorem piece_any {p : Option (Nat → List Nd → Res)} (h : Rdr w base rb s at_ D 0 ns ks) (hs : s.size ≤ 1000000) (ha : at_ < s.size) (hD0 : 0 ≤ D) (hp : POk s D p) (hadv : AdvO (Tx.bs s) p) (hC : ClassOk s) (hl : ns.length + 4 * (s.size - at_) ≤ 500000) :
    Calls Try.prog 67 #[.pointer (some ⟨rb, 0, none⟩)] w (RPost w base rb s D ns ks (pieceF (Tx.bs s) p at_ ns)) := by
  have hAtom : ∀ q, Calls Try.prog 80 #[.pointer (some ⟨rb, 0, none⟩)] (w.drewN q) (RPost w base rb s D ns ks (atomF (Tx.bs s) p at_ ns)) := fun q =>
    (atom_any (h.drewN q) hs ha hD0 hp hC hl).mono fun en w' hh => RPost.before' (below_drewN (Below.refl _ _) q) (KeptX.drewN w q) hh
  cases hr : atomF (Tx.bs s) p at_ ns with
  | error c =>
    by_cases h94 : s[at_] = 94
    · exact piece_xe p h hs ha hAtom h94 c hr
    by_cases h36 : s[at_] = 36
    · exact piece_ye p h hs ha hAtom h36 c hr
    exact piece_ze p h hs ha hAtom h94 h36 c hr
  | ok x =>
    obtain ⟨k, a, ns1⟩ := x
    have hav := atom_adv hadv hr
    rw [Tx.bs_len] at hav
    have hl1 : ns1.length ≤ 1000000 := by omega
    by_cases h1 : a < s.size
    · by_cases q1 : s[a] = 42
      · by_cases h94 : s[at_] = 94
        · exact piece_xstar p h hs ha hAtom h94 k a ns1 hr h1 q1
        by_cases h36 : s[at_] = 36
        · exact piece_ystar p h hs ha hAtom h36 k a ns1 hr h1 q1
        exact piece_zstar p h hs ha hAtom h94 h36 k a ns1 hr hl1 h1 q1
      by_cases q2 : s[a] = 43
      · by_cases h94 : s[at_] = 94
        · exact piece_xplus p h hs ha hAtom h94 k a ns1 hr h1 q2
        by_cases h36 : s[at_] = 36
        · exact piece_yplus p h hs ha hAtom h36 k a ns1 hr h1 q2
        exact piece_zplus p h hs ha hAtom h94 h36 k a ns1 hr hl1 h1 q2
      by_cases q3 : s[a] = 63
      · by_cases h94 : s[at_] = 94
        · exact piece_xquest p h hs ha hAtom h94 k a ns1 hr h1 q3
        by_cases h36 : s[at_] = 36
        · exact piece_yquest p h hs ha hAtom h36 k a ns1 hr h1 q3
        exact piece_zquest p h hs ha hAtom h94 h36 k a ns1 hr hl1 h1 q3
      by_cases q4 : s[a] = 123
      · cases hq : boundsF (Tx.bs s) a with
        | none =>
          by_cases h94 : s[at_] = 94
          · exact piece_xc p h hs ha hAtom h94 k a ns1 hr hl1 h1 q4 hq
          by_cases h36 : s[at_] = 36
          · exact piece_yc p h hs ha hAtom h36 k a ns1 hr hl1 h1 q4 hq
          exact piece_zc p h hs ha hAtom h94 h36 k a ns1 hr hl1 h1 q4 hq
        | some b =>
          obtain ⟨m, hh2, nx⟩ := b
          have hnx := (bounds_adv hq).2
          rw [Tx.bs_len] at hnx
          by_cases h94 : s[at_] = 94
          · exact piece_xb p h hs ha hAtom h94 k a ns1 hr hl1 h1 q4 m hh2 nx hq hnx
          by_cases h36 : s[at_] = 36
          · exact piece_yb p h hs ha hAtom h36 k a ns1 hr hl1 h1 q4 m hh2 nx hq hnx
          exact piece_zb p h hs ha hAtom h94 h36 k a ns1 hr hl1 h1 q4 m hh2 nx hq hnx
      by_cases h94 : s[at_] = 94
      · exact piece_xn p h hs ha hAtom h94 k a ns1 hr h1 q1 q2 q3 q4
      by_cases h36 : s[at_] = 36
      · exact piece_yn p h hs ha hAtom h36 k a ns1 hr h1 q1 q2 q3 q4
      exact piece_zn p h hs ha hAtom h94 h36 k a ns1 hr h1 q1 q2 q3 q4
    · by_cases h94 : s[at_] = 94
      · exact piece_xs p h hs ha hAtom h94 k a ns1 hr (by omega)
      by_cases h36 : s[at_] = 36
      · exact piece_ys p h hs ha hAtom h36 k a ns1 hr (by omega)
      exact piece_zs p h hs ha hAtom h94 h36 k a ns1 hr (by omega)
end
end Rx
end Go.Proofs.Ytebljjdhgepfkaa

/-
  The program's parser: groups and pieces. Conditions: short patterns, at most a million nodes; what is called for a group, and for a class, does what the document says.
-/
import Derived.Test.YtgadomcbaenodaaRegexPsX
namespace Go.Proofs.Ytgadomcbaenodaa
open Go.RowKit
namespace Px
open Cm Rx
/-- The library's variable, which the call cannot reach. -/
def Glb (base : Nat) (w : World) : Prop := 0 < base ∧ ∃ m, w.cell? ⟨0, 0, none⟩ = some (.int .i64 m)
theorem Glb.below {base : Nat} {w w' : World} (h : Glb base w) (hb : Below base w w') : Glb base w' := by
  obtain ⟨h1, m, h2⟩ := h
  refine ⟨h1, m, ?_⟩
  rw [World.cell?_of_block (w := w) (hb.block 0 h1)]
  exact h2
/-- A class does what the document says. -/
def ClassP (s : ByteArray) : Prop := ∀ (w : World) (base rb a : Nat) (D : Int) (ns : List Nd) (ks : List Value), Glb base w → Prs w base rb s (a : Int) D ns ks → a < s.size → ns.length ≤ 1000000 →
  Calls Try.prog 69 #[.pointer (some ⟨rb, 0, none⟩)] w (PPost w base rb s D ks (match classF (Tx.bs s) (a + 1) with | none => .error 40 | some (m, a) => .ok (ns.length, a, ns ++ [setN m])))
/-- A group's pattern does what the document says (none: no group may open here). -/
def POk (s : ByteArray) (D : Int) (p : Option (Nat → List Nd → Res)) : Prop :=
  match p with
  | none => D = 50
  | some f => (0 ≤ D ∧ D < 50) ∧ (∀ (w : World) (base rb a : Nat) (ns : List Nd) (ks : List Value), Glb base w → Prs w base rb s (a : Int) (D + 1) ns ks → a ≤ s.size → ns.length + 4 * (s.size - a) ≤ 500000 →
      Calls Try.prog 19 #[.pointer (some ⟨rb, 0, none⟩)] w (PPost w base rb s (D + 1) ks (f a ns))) ∧
      Adv (Tx.bs s) f
section
variable {w : World} {base rb : Nat} {s : ByteArray} {a : Nat} {D : Int} {ns : List Nd} {ks : List Value}
set_option maxRecDepth 100000 in
theorem group_deep (h : Prs w base rb s (a : Int) D ns ks) (hD : D = 50) (hx : (Tx.bs s)[a]? = some 40) :
    Calls Try.prog 68 #[.pointer (some ⟨rb, 0, none⟩)] w (PPost w base rb s D ks (atomF (Tx.bs s) none a ns)) := by
  have HR : Hid (atomF (Tx.bs s) none a ns = .error 1) := Lib.hid (by unfold atomF; rw [hx]; rfl)
  obtain ⟨c0, c1, c2, hf⟩ := (St.start h).cells
  clear h hf hx
  subst hD
  go_enter Try.func68, Try.ntmps68
  go_wp2_with fail
  refine ⟨rfl, ?_⟩
  rw [HR.out]
  exact ⟨rfl, Below.refl _ _⟩
set_option maxRecDepth 100000 in
set_option maxHeartbeats 2000000 in
theorem group_some {f : Nat → List Nd → Res} (h : Prs w base rb s (a : Int) D ns ks) (hG : Glb base w) (hs : s.size ≤ 1000000) (hx : (Tx.bs s)[a]? = some 40) (hp : POk s D (some f)) (hl : ns.length + 4 * (s.size - a) ≤ 500000) :
    Calls Try.prog 68 #[.pointer (some ⟨rb, 0, none⟩)] w (PPost w base rb s D ks (atomF (Tx.bs s) (some f) a ns)) := by
  obtain ⟨⟨hD0, hD⟩, hcall, hadv⟩ := hp
  have hlt := get_lt hx
  rw [Tx.bs_len] at hlt
  have hset := ((St.start h).setDepth (D + 1)).setAt (a + 1)
  have HCall : Hid (Calls Try.prog 19 #[.pointer (some ⟨rb, 0, none⟩)] ((w.setCell ⟨rb, 2, none⟩ (.int .i64 (D + 1))).setCell ⟨rb, 1, none⟩ (.int .i64 ((a + 1 : Nat) : Int))) (PPost w base rb s (D + 1) ks (f (a + 1) ns))) :=
    Lib.hid ((hcall _ base rb (a + 1) ns ks (hG.below hset.2.1) hset.1 (by omega) (by omega)).mono fun _ _ hh => PPost.before' hset.2.1 hset.2.2 hh)
  obtain ⟨c0, c1, c2, hf⟩ := (St.start h).cells
  have f1 := hf 1
  have f2 := hf 2
  have e0 : (D == 50) = false := by rw [beq_eq_false_iff_ne]; omega
  clear h hf hset hcall
  cases hr : f (a + 1) ns with
  | error c =>
    have HR : Hid (atomF (Tx.bs s) (some f) a ns = .error c) := Lib.hid (by unfold atomF; rw [hx]; simp only [if_true]; rw [hr])
    rw [hr] at HCall
    clear hx hr hadv
    go_enter Try.func68, Try.ntmps68
    go_wp2_with fail
    refine HCall.out.mono ?_
    rintro en w1 ⟨rfl, B1⟩
    go_wp2_with fail
    refine ⟨rfl, ?_⟩
    rw [HR.out]
    exact ⟨rfl, B1⟩
  | ok x =>
    obtain ⟨k, a2, ns2⟩ := x
    have hav := hadv (a + 1) ns (by rw [Tx.bs_len]; omega) k a2 ns2 hr
    rw [Tx.bs_len] at hav
    rw [hr] at HCall
    by_cases hc : (Tx.bs s)[a2]? = some 41
    · have HR : Hid (atomF (Tx.bs s) (some f) a ns = .ok (k, a2 + 1, ns2)) := Lib.hid (by unfold atomF; rw [hx]; simp only [if_true]; rw [hr]; simp only; rw [if_pos hc])
      clear hx hr hadv
      go_enter Try.func68, Try.ntmps68
      go_wp2_with fail
      refine HCall.out.mono ?_
      rintro en w1 ⟨rfl, ks2, S1, L1⟩
      have T1 := Lib.hid (take_T S1 hs hc 41 rfl)
      have HL := Lib.hid L1
      clear S1 L1
      go_wp2_with fail
      refine T1.out.mono ?_
      rintro en w2 ⟨rfl, S2⟩
      have HS2 := Lib.hid (S2.setDepth D)
      obtain ⟨d0, d1, d2, hf⟩ := S2.cells
      have g2 := hf 2
      clear S2 hf
      go_wp2_with fail
      go_ret
      rw [HR.out]
      exact ⟨rfl, ks2, HS2.out, HL.out⟩
    · have HR : Hid (atomF (Tx.bs s) (some f) a ns = .error 40) := Lib.hid (by unfold atomF; rw [hx]; simp only [if_true]; rw [hr]; simp only; rw [if_neg hc])
      clear hx hr hadv
      go_enter Try.func68, Try.ntmps68
      go_wp2_with fail
      refine HCall.out.mono ?_
      rintro en w1 ⟨rfl, ks2, S1, L1⟩
      have T1 := Lib.hid (take_F S1 hs (by omega) hc 41 rfl)
      clear S1 L1
      go_wp2_with fail
      refine T1.out.mono ?_
      rintro en w2 ⟨rfl, S2⟩
      have HS2 := Lib.hid S2
      clear S2
      go_wp2_with fail
      refine ⟨rfl, ?_⟩
      rw [HR.out]
      exact ⟨rfl, HS2.out.2.1⟩
theorem group_any {p : Option (Nat → List Nd → Res)} (h : Prs w base rb s (a : Int) D ns ks) (hG : Glb base w) (hs : s.size ≤ 1000000) (hx : (Tx.bs s)[a]? = some 40) (hp : POk s D p) (hl : ns.length + 4 * (s.size - a) ≤ 500000) :
    Calls Try.prog 68 #[.pointer (some ⟨rb, 0, none⟩)] w (PPost w base rb s D ks (atomF (Tx.bs s) p a ns)) := by
  cases p with
  | none => exact group_deep h hp hx
  | some f => exact group_some h hG hs hx hp hl
/-- The value of a step. -/
abbrev stepV (K rb : Nat) : Value := .func (.func K) #[.pointer (some ⟨rb, 0, none⟩)] #[]
set_option maxRecDepth 100000 in
theorem step_40 (w : World) (rb : Nat) : Calls Try.prog 62 #[.pointer (some ⟨rb, 0, none⟩), .int .u8 40] w fun en w' => en = .returned (stepV 68 rb) ∧ w = w' := by
  go_enter Try.func62, Try.ntmps62
  go_wp2_with fail
  go_ret
  exact ⟨rfl, rfl⟩
set_option maxRecDepth 100000 in
theorem step_91 (w : World) (rb : Nat) : Calls Try.prog 62 #[.pointer (some ⟨rb, 0, none⟩), .int .u8 91] w fun en w' => en = .returned (stepV 69 rb) ∧ w = w' := by
  go_enter Try.func62, Try.ntmps62
  go_wp2_with fail
  go_ret
  exact ⟨rfl, rfl⟩
set_option maxRecDepth 100000 in
theorem step_46 (w : World) (rb : Nat) : Calls Try.prog 62 #[.pointer (some ⟨rb, 0, none⟩), .int .u8 46] w fun en w' => en = .returned (stepV 70 rb) ∧ w = w' := by
  go_enter Try.func62, Try.ntmps62
  go_wp2_with fail
  go_ret
  exact ⟨rfl, rfl⟩
set_option maxRecDepth 100000 in
theorem step_94 (w : World) (rb : Nat) : Calls Try.prog 62 #[.pointer (some ⟨rb, 0, none⟩), .int .u8 94] w fun en w' => en = .returned (stepV 71 rb) ∧ w = w' := by
  go_enter Try.func62, Try.ntmps62
  go_wp2_with fail
  go_ret
  exact ⟨rfl, rfl⟩
set_option maxRecDepth 100000 in
theorem step_36 (w : World) (rb : Nat) : Calls Try.prog 62 #[.pointer (some ⟨rb, 0, none⟩), .int .u8 36] w fun en w' => en = .returned (stepV 72 rb) ∧ w = w' := by
  go_enter Try.func62, Try.ntmps62
  go_wp2_with fail
  go_ret
  exact ⟨rfl, rfl⟩
set_option maxRecDepth 100000 in
theorem step_92 (w : World) (rb : Nat) : Calls Try.prog 62 #[.pointer (some ⟨rb, 0, none⟩), .int .u8 92] w fun en w' => en = .returned (stepV 73 rb) ∧ w = w' := by
  go_enter Try.func62, Try.ntmps62
  go_wp2_with fail
  go_ret
  exact ⟨rfl, rfl⟩
set_option maxRecDepth 100000 in
theorem step_42 (w : World) (rb : Nat) : Calls Try.prog 62 #[.pointer (some ⟨rb, 0, none⟩), .int .u8 42] w fun en w' => en = .returned (stepV 74 rb) ∧ w = w' := by
  go_enter Try.func62, Try.ntmps62
  go_wp2_with fail
  go_ret
  exact ⟨rfl, rfl⟩
set_option maxRecDepth 100000 in
theorem step_43 (w : World) (rb : Nat) : Calls Try.prog 62 #[.pointer (some ⟨rb, 0, none⟩), .int .u8 43] w fun en w' => en = .returned (stepV 74 rb) ∧ w = w' := by
  go_enter Try.func62, Try.ntmps62
  go_wp2_with fail
  go_ret
  exact ⟨rfl, rfl⟩
set_option maxRecDepth 100000 in
theorem step_63 (w : World) (rb : Nat) : Calls Try.prog 62 #[.pointer (some ⟨rb, 0, none⟩), .int .u8 63] w fun en w' => en = .returned (stepV 74 rb) ∧ w = w' := by
  go_enter Try.func62, Try.ntmps62
  go_wp2_with fail
  go_ret
  exact ⟨rfl, rfl⟩
set_option maxRecDepth 100000 in
theorem step_123 (w : World) (rb : Nat) : Calls Try.prog 62 #[.pointer (some ⟨rb, 0, none⟩), .int .u8 123] w fun en w' => en = .returned (stepV 74 rb) ∧ w = w' := by
  go_enter Try.func62, Try.ntmps62
  go_wp2_with fail
  go_ret
  exact ⟨rfl, rfl⟩
set_option maxRecDepth 100000 in
theorem step_other (w : World) (rb : Nat) (c : Int) (h40 : c ≠ 40) (h91 : c ≠ 91) (h46 : c ≠ 46) (h94 : c ≠ 94) (h36 : c ≠ 36) (h92 : c ≠ 92) (h42 : c ≠ 42) (h43 : c ≠ 43) (h63 : c ≠ 63) (h123 : c ≠ 123) : Calls Try.prog 62 #[.pointer (some ⟨rb, 0, none⟩), .int .u8 c] w fun en w' => en = .returned (stepV 75 rb) ∧ w = w' := by
  have e40 : (c == 40) = false := by rw [beq_eq_false_iff_ne]; exact h40
  have e91 : (c == 91) = false := by rw [beq_eq_false_iff_ne]; exact h91
  have e46 : (c == 46) = false := by rw [beq_eq_false_iff_ne]; exact h46
  have e94 : (c == 94) = false := by rw [beq_eq_false_iff_ne]; exact h94
  have e36 : (c == 36) = false := by rw [beq_eq_false_iff_ne]; exact h36
  have e92 : (c == 92) = false := by rw [beq_eq_false_iff_ne]; exact h92
  have e42 : (c == 42) = false := by rw [beq_eq_false_iff_ne]; exact h42
  have e43 : (c == 43) = false := by rw [beq_eq_false_iff_ne]; exact h43
  have e63 : (c == 63) = false := by rw [beq_eq_false_iff_ne]; exact h63
  have e123 : (c == 123) = false := by rw [beq_eq_false_iff_ne]; exact h123
  clear h40 h91 h46 h94 h36 h92 h42 h43 h63 h123
  go_enter Try.func62, Try.ntmps62
  go_wp2_with fail
  go_ret
  exact ⟨rfl, rfl⟩
set_option maxRecDepth 100000 in
set_option maxHeartbeats 2000000 in
theorem piece_group {p : Option (Nat → List Nd → Res)} (h : Prs w base rb s (a : Int) D ns ks) (hs : s.size ≤ 1000000) {c : UInt8} (hx : (Tx.bs s)[a]? = some c) (h94 : c ≠ 94) (h36 : c ≠ 36)
    (hstep : ∀ q, Calls Try.prog 62 #[.pointer (some ⟨rb, 0, none⟩), .int .u8 (c.toNat : Int)] q fun en w' => en = .returned (stepV 68 rb) ∧ q = w')
    (hA : ∀ q, Calls Try.prog 68 #[.pointer (some ⟨rb, 0, none⟩)] (w.drewN q) (PPost (w.drewN q) base rb s D ks (atomF (Tx.bs s) p a ns)))
    (hav : ∀ k a2 ns2, atomF (Tx.bs s) p a ns = .ok (k, a2, ns2) → a2 ≤ s.size ∧ ns2.length ≤ 1000000) :
    Calls Try.prog 50 #[.pointer (some ⟨rb, 0, none⟩)] w (PPost w base rb s D ks (pieceG (Tx.bs s) p a ns)) := by
  have hlt := get_lt hx
  rw [Tx.bs_len] at hlt
  have HSt := Lib.hid hstep
  have HA : Hid (∀ q, Calls Try.prog 68 #[.pointer (some ⟨rb, 0, none⟩)] (w.drewN q) (PPost w base rb s D ks (atomF (Tx.bs s) p a ns))) := Lib.hid (fun q => (hA q).mono fun _ _ hh => PPost.before' (below_drewN (Below.refl _ _) q) (KeptX.drewN w q) hh)
  obtain ⟨c0, c1, c2, hf⟩ := (St.start h).cells
  have i0 : (0 : Int) ≤ (a : Int) := by omega
  have i1 : (a : Int) < (s.size : Int) := by omega
  have hxc : s[a] = c := by
    have := Tx.bs_get? s a hlt
    rw [hx] at this
    exact (Option.some.inj this).symm
  have hyp : ¬ ((Tx.bs s)[a]? = some 94 ∨ (Tx.bs s)[a]? = some 36) := by
    rw [hx]
    rintro (h1 | h1)
    · exact h94 (Option.some.inj h1)
    · exact h36 (Option.some.inj h1)
  have x1 : s[a].toNat = c.toNat := by rw [hxc]
  have x2 : ((c.toNat : Int) == 94) = false := by rw [beq_eq_false_iff_ne]; intro e; apply h94; apply UInt8.toNat_inj.1; show c.toNat = 94; omega
  have x3 : ((c.toNat : Int) == 36) = false := by rw [beq_eq_false_iff_ne]; intro e; apply h36; apply UInt8.toNat_inj.1; show c.toNat = 36; omega
  clear h hf hx hA hstep hxc h94 h36
  cases hr : atomF (Tx.bs s) p a ns with
  | error e =>
    have HR : Hid (pieceG (Tx.bs s) p a ns = .error e) := Lib.hid (by unfold pieceG; rw [hr])
    rw [hr] at HA
    clear hr hav hyp
    go_enter Try.func50, Try.ntmps50
    go_wp2_with fail
    go_quiet (fail)
    go_wp2_with fail
    refine (HSt.out _).mono ?_
    rintro en w1 ⟨rfl, rfl⟩
    go_wp2_with fail
    refine (HA.out _).mono ?_
    rintro en w2 ⟨rfl, B2⟩
    go_wp2_with fail
    refine ⟨rfl, ?_⟩
    rw [HR.out]
    exact ⟨rfl, B2⟩
  | ok x =>
    obtain ⟨k, a2, ns2⟩ := x
    have hav2 := hav k a2 ns2 hr
    rw [hr] at HA
    have HR : Hid (pieceG (Tx.bs s) p a ns = match quantF (Tx.bs s) a2 with | none => .ok (k, a2, ns2) | some none => .error 40 | some (some (m, h, a3)) => .ok (ns2.length, a3 + 1, ns2 ++ [repN m h k])) := Lib.hid (by unfold pieceG; rw [hr]; simp only; rw [if_neg hyp]; generalize quantF (Tx.bs s) a2 = q; rcases q with _ | _ | ⟨_, _, _⟩ <;> rfl)
    clear hr hav hyp
    go_enter Try.func50, Try.ntmps50
    go_wp2_with fail
    go_quiet (fail)
    go_wp2_with fail
    refine (HSt.out _).mono ?_
    rintro en w1 ⟨rfl, rfl⟩
    go_wp2_with fail
    refine (HA.out _).mono ?_
    rintro en w2 ⟨rfl, ks2, S2, L2⟩
    have HQ := Lib.hid (quant_any S2 hs hav2.1 hav2.2 k)
    have HL2 := Lib.hid L2
    clear S2 L2
    go_wp2_with fail
    refine HQ.out.mono ?_
    intro en w3 hq
    cases hqv : quantF (Tx.bs s) a2 with
    | none =>
      rw [hqv] at hq HR
      obtain ⟨rfl, S3⟩ := hq
      have HS3 := Lib.hid S3
      clear S3 hqv
      go_wp2_with fail
      go_ret
      rw [HR.out]
      exact ⟨rfl, ks2, HS3.out, HL2.out⟩
    | some y =>
      cases y with
      | none =>
        rw [hqv] at hq HR
        obtain ⟨rfl, B3⟩ := hq
        clear hqv
        go_wp2_with fail
        refine ⟨rfl, ?_⟩
        rw [HR.out]
        exact ⟨rfl, B3⟩
      | some z =>
        obtain ⟨m, hi, a3⟩ := z
        rw [hqv] at hq HR
        obtain ⟨rfl, kv, S3, L3⟩ := hq
        have HS3 := Lib.hid S3
        have HL3 := Lib.hid L3
        clear S3 L3 hqv
        go_wp2_with fail
        go_ret
        rw [HR.out]
        refine ⟨rfl, ks2 ++ [kv], by rw [← List.append_assoc]; exact HS3.out, fun x hx => ?_⟩
        rcases List.mem_append.1 hx with hx | hx
        · exact HL2.out x hx
        · rw [List.mem_singleton] at hx
          rw [hx]
          exact HL3.out
set_option maxRecDepth 100000 in
set_option maxHeartbeats 2000000 in
theorem piece_class {p : Option (Nat → List Nd → Res)} (h : Prs w base rb s (a : Int) D ns ks) (hs : s.size ≤ 1000000) {c : UInt8} (hx : (Tx.bs s)[a]? = some c) (h94 : c ≠ 94) (h36 : c ≠ 36)
    (hstep : ∀ q, Calls Try.prog 62 #[.pointer (some ⟨rb, 0, none⟩), .int .u8 (c.toNat : Int)] q fun en w' => en = .returned (stepV 69 rb) ∧ q = w')
    (hA : ∀ q, Calls Try.prog 69 #[.pointer (some ⟨rb, 0, none⟩)] (w.drewN q) (PPost (w.drewN q) base rb s D ks (atomF (Tx.bs s) p a ns)))
    (hav : ∀ k a2 ns2, atomF (Tx.bs s) p a ns = .ok (k, a2, ns2) → a2 ≤ s.size ∧ ns2.length ≤ 1000000) :
    Calls Try.prog 50 #[.pointer (some ⟨rb, 0, none⟩)] w (PPost w base rb s D ks (pieceG (Tx.bs s) p a ns)) := by
  have hlt := get_lt hx
  rw [Tx.bs_len] at hlt
  have HSt := Lib.hid hstep
  have HA : Hid (∀ q, Calls Try.prog 69 #[.pointer (some ⟨rb, 0, none⟩)] (w.drewN q) (PPost w base rb s D ks (atomF (Tx.bs s) p a ns))) := Lib.hid (fun q => (hA q).mono fun _ _ hh => PPost.before' (below_drewN (Below.refl _ _) q) (KeptX.drewN w q) hh)
  obtain ⟨c0, c1, c2, hf⟩ := (St.start h).cells
  have i0 : (0 : Int) ≤ (a : Int) := by omega
  have i1 : (a : Int) < (s.size : Int) := by omega
  have hxc : s[a] = c := by
    have := Tx.bs_get? s a hlt
    rw [hx] at this
    exact (Option.some.inj this).symm
  have hyp : ¬ ((Tx.bs s)[a]? = some 94 ∨ (Tx.bs s)[a]? = some 36) := by
    rw [hx]
    rintro (h1 | h1)
    · exact h94 (Option.some.inj h1)
    · exact h36 (Option.some.inj h1)
  have x1 : s[a].toNat = c.toNat := by rw [hxc]
  have x2 : ((c.toNat : Int) == 94) = false := by rw [beq_eq_false_iff_ne]; intro e; apply h94; apply UInt8.toNat_inj.1; show c.toNat = 94; omega
  have x3 : ((c.toNat : Int) == 36) = false := by rw [beq_eq_false_iff_ne]; intro e; apply h36; apply UInt8.toNat_inj.1; show c.toNat = 36; omega
  clear h hf hx hA hstep hxc h94 h36
  cases hr : atomF (Tx.bs s) p a ns with
  | error e =>
    have HR : Hid (pieceG (Tx.bs s) p a ns = .error e) := Lib.hid (by unfold pieceG; rw [hr])
    rw [hr] at HA
    clear hr hav hyp
    go_enter Try.func50, Try.ntmps50
    go_wp2_with fail
    go_quiet (fail)
    go_wp2_with fail
    refine (HSt.out _).mono ?_
    rintro en w1 ⟨rfl, rfl⟩
    go_wp2_with fail
    refine (HA.out _).mono ?_
    rintro en w2 ⟨rfl, B2⟩
    go_wp2_with fail
    refine ⟨rfl, ?_⟩
    rw [HR.out]
    exact ⟨rfl, B2⟩
  | ok x =>
    obtain ⟨k, a2, ns2⟩ := x
    have hav2 := hav k a2 ns2 hr
    rw [hr] at HA
    have HR : Hid (pieceG (Tx.bs s) p a ns = match quantF (Tx.bs s) a2 with | none => .ok (k, a2, ns2) | some none => .error 40 | some (some (m, h, a3)) => .ok (ns2.length, a3 + 1, ns2 ++ [repN m h k])) := Lib.hid (by unfold pieceG; rw [hr]; simp only; rw [if_neg hyp]; generalize quantF (Tx.bs s) a2 = q; rcases q with _ | _ | ⟨_, _, _⟩ <;> rfl)
    clear hr hav hyp
    go_enter Try.func50, Try.ntmps50
    go_wp2_with fail
    go_quiet (fail)
    go_wp2_with fail
    refine (HSt.out _).mono ?_
    rintro en w1 ⟨rfl, rfl⟩
    go_wp2_with fail
    refine (HA.out _).mono ?_
    rintro en w2 ⟨rfl, ks2, S2, L2⟩
    have HQ := Lib.hid (quant_any S2 hs hav2.1 hav2.2 k)
    have HL2 := Lib.hid L2
    clear S2 L2
    go_wp2_with fail
    refine HQ.out.mono ?_
    intro en w3 hq
    cases hqv : quantF (Tx.bs s) a2 with
    | none =>
      rw [hqv] at hq HR
      obtain ⟨rfl, S3⟩ := hq
      have HS3 := Lib.hid S3
      clear S3 hqv
      go_wp2_with fail
      go_ret
      rw [HR.out]
      exact ⟨rfl, ks2, HS3.out, HL2.out⟩
    | some y =>
      cases y with
      | none =>
        rw [hqv] at hq HR
        obtain ⟨rfl, B3⟩ := hq
        clear hqv
        go_wp2_with fail
        refine ⟨rfl, ?_⟩
        rw [HR.out]
        exact ⟨rfl, B3⟩
      | some z =>
        obtain ⟨m, hi, a3⟩ := z
        rw [hqv] at hq HR
        obtain ⟨rfl, kv, S3, L3⟩ := hq
        have HS3 := Lib.hid S3
        have HL3 := Lib.hid L3
        clear S3 L3 hqv
        go_wp2_with fail
        go_ret
        rw [HR.out]
        refine ⟨rfl, ks2 ++ [kv], by rw [← List.append_assoc]; exact HS3.out, fun x hx => ?_⟩
        rcases List.mem_append.1 hx with hx | hx
        · exact HL2.out x hx
        · rw [List.mem_singleton] at hx
          rw [hx]
          exact HL3.out
set_option maxRecDepth 100000 in
set_option maxHeartbeats 2000000 in
theorem piece_dot {p : Option (Nat → List Nd → Res)} (h : Prs w base rb s (a : Int) D ns ks) (hs : s.size ≤ 1000000) {c : UInt8} (hx : (Tx.bs s)[a]? = some c) (h94 : c ≠ 94) (h36 : c ≠ 36)
    (hstep : ∀ q, Calls Try.prog 62 #[.pointer (some ⟨rb, 0, none⟩), .int .u8 (c.toNat : Int)] q fun en w' => en = .returned (stepV 70 rb) ∧ q = w')
    (hA : ∀ q, Calls Try.prog 70 #[.pointer (some ⟨rb, 0, none⟩)] (w.drewN q) (PPost (w.drewN q) base rb s D ks (atomF (Tx.bs s) p a ns)))
    (hav : ∀ k a2 ns2, atomF (Tx.bs s) p a ns = .ok (k, a2, ns2) → a2 ≤ s.size ∧ ns2.length ≤ 1000000) :
    Calls Try.prog 50 #[.pointer (some ⟨rb, 0, none⟩)] w (PPost w base rb s D ks (pieceG (Tx.bs s) p a ns)) := by
  have hlt := get_lt hx
  rw [Tx.bs_len] at hlt
  have HSt := Lib.hid hstep
  have HA : Hid (∀ q, Calls Try.prog 70 #[.pointer (some ⟨rb, 0, none⟩)] (w.drewN q) (PPost w base rb s D ks (atomF (Tx.bs s) p a ns))) := Lib.hid (fun q => (hA q).mono fun _ _ hh => PPost.before' (below_drewN (Below.refl _ _) q) (KeptX.drewN w q) hh)
  obtain ⟨c0, c1, c2, hf⟩ := (St.start h).cells
  have i0 : (0 : Int) ≤ (a : Int) := by omega
  have i1 : (a : Int) < (s.size : Int) := by omega
  have hxc : s[a] = c := by
    have := Tx.bs_get? s a hlt
    rw [hx] at this
    exact (Option.some.inj this).symm
  have hyp : ¬ ((Tx.bs s)[a]? = some 94 ∨ (Tx.bs s)[a]? = some 36) := by
    rw [hx]
    rintro (h1 | h1)
    · exact h94 (Option.some.inj h1)
    · exact h36 (Option.some.inj h1)
  have x1 : s[a].toNat = c.toNat := by rw [hxc]
  have x2 : ((c.toNat : Int) == 94) = false := by rw [beq_eq_false_iff_ne]; intro e; apply h94; apply UInt8.toNat_inj.1; show c.toNat = 94; omega
  have x3 : ((c.toNat : Int) == 36) = false := by rw [beq_eq_false_iff_ne]; intro e; apply h36; apply UInt8.toNat_inj.1; show c.toNat = 36; omega
  clear h hf hx hA hstep hxc h94 h36
  cases hr : atomF (Tx.bs s) p a ns with
  | error e =>
    have HR : Hid (pieceG (Tx.bs s) p a ns = .error e) := Lib.hid (by unfold pieceG; rw [hr])
    rw [hr] at HA
    clear hr hav hyp
    go_enter Try.func50, Try.ntmps50
    go_wp2_with fail
    go_quiet (fail)
    go_wp2_with fail
    refine (HSt.out _).mono ?_
    rintro en w1 ⟨rfl, rfl⟩
    go_wp2_with fail
    refine (HA.out _).mono ?_
    rintro en w2 ⟨rfl, B2⟩
    go_wp2_with fail
    refine ⟨rfl, ?_⟩
    rw [HR.out]
    exact ⟨rfl, B2⟩
  | ok x =>
    obtain ⟨k, a2, ns2⟩ := x
    have hav2 := hav k a2 ns2 hr
    rw [hr] at HA
    have HR : Hid (pieceG (Tx.bs s) p a ns = match quantF (Tx.bs s) a2 with | none => .ok (k, a2, ns2) | some none => .error 40 | some (some (m, h, a3)) => .ok (ns2.length, a3 + 1, ns2 ++ [repN m h k])) := Lib.hid (by unfold pieceG; rw [hr]; simp only; rw [if_neg hyp]; generalize quantF (Tx.bs s) a2 = q; rcases q with _ | _ | ⟨_, _, _⟩ <;> rfl)
    clear hr hav hyp
    go_enter Try.func50, Try.ntmps50
    go_wp2_with fail
    go_quiet (fail)
    go_wp2_with fail
    refine (HSt.out _).mono ?_
    rintro en w1 ⟨rfl, rfl⟩
    go_wp2_with fail
    refine (HA.out _).mono ?_
    rintro en w2 ⟨rfl, ks2, S2, L2⟩
    have HQ := Lib.hid (quant_any S2 hs hav2.1 hav2.2 k)
    have HL2 := Lib.hid L2
    clear S2 L2
    go_wp2_with fail
    refine HQ.out.mono ?_
    intro en w3 hq
    cases hqv : quantF (Tx.bs s) a2 with
    | none =>
      rw [hqv] at hq HR
      obtain ⟨rfl, S3⟩ := hq
      have HS3 := Lib.hid S3
      clear S3 hqv
      go_wp2_with fail
      go_ret
      rw [HR.out]
      exact ⟨rfl, ks2, HS3.out, HL2.out⟩
    | some y =>
      cases y with
      | none =>
        rw [hqv] at hq HR
        obtain ⟨rfl, B3⟩ := hq
        clear hqv
        go_wp2_with fail
        refine ⟨rfl, ?_⟩
        rw [HR.out]
        exact ⟨rfl, B3⟩
      | some z =>
        obtain ⟨m, hi, a3⟩ := z
        rw [hqv] at hq HR
        obtain ⟨rfl, kv, S3, L3⟩ := hq
        have HS3 := Lib.hid S3
        have HL3 := Lib.hid L3
        clear S3 L3 hqv
        go_wp2_with fail
        go_ret
        rw [HR.out]
        refine ⟨rfl, ks2 ++ [kv], by rw [← List.append_assoc]; exact HS3.out, fun x hx => ?_⟩
        rcases List.mem_append.1 hx with hx | hx
        · exact HL2.out x hx
        · rw [List.mem_singleton] at hx
          rw [hx]
          exact HL3.out
set_option maxRecDepth 100000 in
set_option maxHeartbeats 2000000 in
theorem piece_escape {p : Option (Nat → List Nd → Res)} (h : Prs w base rb s (a : Int) D ns ks) (hs : s.size ≤ 1000000) {c : UInt8} (hx : (Tx.bs s)[a]? = some c) (h94 : c ≠ 94) (h36 : c ≠ 36)
    (hstep : ∀ q, Calls Try.prog 62 #[.pointer (some ⟨rb, 0, none⟩), .int .u8 (c.toNat : Int)] q fun en w' => en = .returned (stepV 73 rb) ∧ q = w')
    (hA : ∀ q, Calls Try.prog 73 #[.pointer (some ⟨rb, 0, none⟩)] (w.drewN q) (PPost (w.drewN q) base rb s D ks (atomF (Tx.bs s) p a ns)))
    (hav : ∀ k a2 ns2, atomF (Tx.bs s) p a ns = .ok (k, a2, ns2) → a2 ≤ s.size ∧ ns2.length ≤ 1000000) :
    Calls Try.prog 50 #[.pointer (some ⟨rb, 0, none⟩)] w (PPost w base rb s D ks (pieceG (Tx.bs s) p a ns)) := by
  have hlt := get_lt hx
  rw [Tx.bs_len] at hlt
  have HSt := Lib.hid hstep
  have HA : Hid (∀ q, Calls Try.prog 73 #[.pointer (some ⟨rb, 0, none⟩)] (w.drewN q) (PPost w base rb s D ks (atomF (Tx.bs s) p a ns))) := Lib.hid (fun q => (hA q).mono fun _ _ hh => PPost.before' (below_drewN (Below.refl _ _) q) (KeptX.drewN w q) hh)
  obtain ⟨c0, c1, c2, hf⟩ := (St.start h).cells
  have i0 : (0 : Int) ≤ (a : Int) := by omega
  have i1 : (a : Int) < (s.size : Int) := by omega
  have hxc : s[a] = c := by
    have := Tx.bs_get? s a hlt
    rw [hx] at this
    exact (Option.some.inj this).symm
  have hyp : ¬ ((Tx.bs s)[a]? = some 94 ∨ (Tx.bs s)[a]? = some 36) := by
    rw [hx]
    rintro (h1 | h1)
    · exact h94 (Option.some.inj h1)
    · exact h36 (Option.some.inj h1)
  have x1 : s[a].toNat = c.toNat := by rw [hxc]
  have x2 : ((c.toNat : Int) == 94) = false := by rw [beq_eq_false_iff_ne]; intro e; apply h94; apply UInt8.toNat_inj.1; show c.toNat = 94; omega
  have x3 : ((c.toNat : Int) == 36) = false := by rw [beq_eq_false_iff_ne]; intro e; apply h36; apply UInt8.toNat_inj.1; show c.toNat = 36; omega
  clear h hf hx hA hstep hxc h94 h36
  cases hr : atomF (Tx.bs s) p a ns with
  | error e =>
    have HR : Hid (pieceG (Tx.bs s) p a ns = .error e) := Lib.hid (by unfold pieceG; rw [hr])
    rw [hr] at HA
    clear hr hav hyp
    go_enter Try.func50, Try.ntmps50
    go_wp2_with fail
    go_quiet (fail)
    go_wp2_with fail
    refine (HSt.out _).mono ?_
    rintro en w1 ⟨rfl, rfl⟩
    go_wp2_with fail
    refine (HA.out _).mono ?_
    rintro en w2 ⟨rfl, B2⟩
    go_wp2_with fail
    refine ⟨rfl, ?_⟩
    rw [HR.out]
    exact ⟨rfl, B2⟩
  | ok x =>
    obtain ⟨k, a2, ns2⟩ := x
    have hav2 := hav k a2 ns2 hr
    rw [hr] at HA
    have HR : Hid (pieceG (Tx.bs s) p a ns = match quantF (Tx.bs s) a2 with | none => .ok (k, a2, ns2) | some none => .error 40 | some (some (m, h, a3)) => .ok (ns2.length, a3 + 1, ns2 ++ [repN m h k])) := Lib.hid (by unfold pieceG; rw [hr]; simp only; rw [if_neg hyp]; generalize quantF (Tx.bs s) a2 = q; rcases q with _ | _ | ⟨_, _, _⟩ <;> rfl)
    clear hr hav hyp
    go_enter Try.func50, Try.ntmps50
    go_wp2_with fail
    go_quiet (fail)
    go_wp2_with fail
    refine (HSt.out _).mono ?_
    rintro en w1 ⟨rfl, rfl⟩
    go_wp2_with fail
    refine (HA.out _).mono ?_
    rintro en w2 ⟨rfl, ks2, S2, L2⟩
    have HQ := Lib.hid (quant_any S2 hs hav2.1 hav2.2 k)
    have HL2 := Lib.hid L2
    clear S2 L2
    go_wp2_with fail
    refine HQ.out.mono ?_
    intro en w3 hq
    cases hqv : quantF (Tx.bs s) a2 with
    | none =>
      rw [hqv] at hq HR
      obtain ⟨rfl, S3⟩ := hq
      have HS3 := Lib.hid S3
      clear S3 hqv
      go_wp2_with fail
      go_ret
      rw [HR.out]
      exact ⟨rfl, ks2, HS3.out, HL2.out⟩
    | some y =>
      cases y with
      | none =>
        rw [hqv] at hq HR
        obtain ⟨rfl, B3⟩ := hq
        clear hqv
        go_wp2_with fail
        refine ⟨rfl, ?_⟩
        rw [HR.out]
        exact ⟨rfl, B3⟩
      | some z =>
        obtain ⟨m, hi, a3⟩ := z
        rw [hqv] at hq HR
        obtain ⟨rfl, kv, S3, L3⟩ := hq
        have HS3 := Lib.hid S3
        have HL3 := Lib.hid L3
        clear S3 L3 hqv
        go_wp2_with fail
        go_ret
        rw [HR.out]
        refine ⟨rfl, ks2 ++ [kv], by rw [← List.append_assoc]; exact HS3.out, fun x hx => ?_⟩
        rcases List.mem_append.1 hx with hx | hx
        · exact HL2.out x hx
        · rw [List.mem_singleton] at hx
          rw [hx]
          exact HL3.out
set_option maxRecDepth 100000 in
set_option maxHeartbeats 2000000 in
theorem piece_refuse {p : Option (Nat → List Nd → Res)} (h : Prs w base rb s (a : Int) D ns ks) (hs : s.size ≤ 1000000) {c : UInt8} (hx : (Tx.bs s)[a]? = some c) (h94 : c ≠ 94) (h36 : c ≠ 36)
    (hstep : ∀ q, Calls Try.prog 62 #[.pointer (some ⟨rb, 0, none⟩), .int .u8 (c.toNat : Int)] q fun en w' => en = .returned (stepV 74 rb) ∧ q = w')
    (hA : ∀ q, Calls Try.prog 74 #[.pointer (some ⟨rb, 0, none⟩)] (w.drewN q) (PPost (w.drewN q) base rb s D ks (atomF (Tx.bs s) p a ns)))
    (hav : ∀ k a2 ns2, atomF (Tx.bs s) p a ns = .ok (k, a2, ns2) → a2 ≤ s.size ∧ ns2.length ≤ 1000000) :
    Calls Try.prog 50 #[.pointer (some ⟨rb, 0, none⟩)] w (PPost w base rb s D ks (pieceG (Tx.bs s) p a ns)) := by
  have hlt := get_lt hx
  rw [Tx.bs_len] at hlt
  have HSt := Lib.hid hstep
  have HA : Hid (∀ q, Calls Try.prog 74 #[.pointer (some ⟨rb, 0, none⟩)] (w.drewN q) (PPost w base rb s D ks (atomF (Tx.bs s) p a ns))) := Lib.hid (fun q => (hA q).mono fun _ _ hh => PPost.before' (below_drewN (Below.refl _ _) q) (KeptX.drewN w q) hh)
  obtain ⟨c0, c1, c2, hf⟩ := (St.start h).cells
  have i0 : (0 : Int) ≤ (a : Int) := by omega
  have i1 : (a : Int) < (s.size : Int) := by omega
  have hxc : s[a] = c := by
    have := Tx.bs_get? s a hlt
    rw [hx] at this
    exact (Option.some.inj this).symm
  have hyp : ¬ ((Tx.bs s)[a]? = some 94 ∨ (Tx.bs s)[a]? = some 36) := by
    rw [hx]
    rintro (h1 | h1)
    · exact h94 (Option.some.inj h1)
    · exact h36 (Option.some.inj h1)
  have x1 : s[a].toNat = c.toNat := by rw [hxc]
  have x2 : ((c.toNat : Int) == 94) = false := by rw [beq_eq_false_iff_ne]; intro e; apply h94; apply UInt8.toNat_inj.1; show c.toNat = 94; omega
  have x3 : ((c.toNat : Int) == 36) = false := by rw [beq_eq_false_iff_ne]; intro e; apply h36; apply UInt8.toNat_inj.1; show c.toNat = 36; omega
  clear h hf hx hA hstep hxc h94 h36
  cases hr : atomF (Tx.bs s) p a ns with
  | error e =>
    have HR : Hid (pieceG (Tx.bs s) p a ns = .error e) := Lib.hid (by unfold pieceG; rw [hr])
    rw [hr] at HA
    clear hr hav hyp
    go_enter Try.func50, Try.ntmps50
    go_wp2_with fail
    go_quiet (fail)
    go_wp2_with fail
    refine (HSt.out _).mono ?_
    rintro en w1 ⟨rfl, rfl⟩
    go_wp2_with fail
    refine (HA.out _).mono ?_
    rintro en w2 ⟨rfl, B2⟩
    go_wp2_with fail
    refine ⟨rfl, ?_⟩
    rw [HR.out]
    exact ⟨rfl, B2⟩
  | ok x =>
    obtain ⟨k, a2, ns2⟩ := x
    have hav2 := hav k a2 ns2 hr
    rw [hr] at HA
    have HR : Hid (pieceG (Tx.bs s) p a ns = match quantF (Tx.bs s) a2 with | none => .ok (k, a2, ns2) | some none => .error 40 | some (some (m, h, a3)) => .ok (ns2.length, a3 + 1, ns2 ++ [repN m h k])) := Lib.hid (by unfold pieceG; rw [hr]; simp only; rw [if_neg hyp]; generalize quantF (Tx.bs s) a2 = q; rcases q with _ | _ | ⟨_, _, _⟩ <;> rfl)
    clear hr hav hyp
    go_enter Try.func50, Try.ntmps50
    go_wp2_with fail
    go_quiet (fail)
    go_wp2_with fail
    refine (HSt.out _).mono ?_
    rintro en w1 ⟨rfl, rfl⟩
    go_wp2_with fail
    refine (HA.out _).mono ?_
    rintro en w2 ⟨rfl, ks2, S2, L2⟩
    have HQ := Lib.hid (quant_any S2 hs hav2.1 hav2.2 k)
    have HL2 := Lib.hid L2
    clear S2 L2
    go_wp2_with fail
    refine HQ.out.mono ?_
    intro en w3 hq
    cases hqv : quantF (Tx.bs s) a2 with
    | none =>
      rw [hqv] at hq HR
      obtain ⟨rfl, S3⟩ := hq
      have HS3 := Lib.hid S3
      clear S3 hqv
      go_wp2_with fail
      go_ret
      rw [HR.out]
      exact ⟨rfl, ks2, HS3.out, HL2.out⟩
    | some y =>
      cases y with
      | none =>
        rw [hqv] at hq HR
        obtain ⟨rfl, B3⟩ := hq
        clear hqv
        go_wp2_with fail
        refine ⟨rfl, ?_⟩
        rw [HR.out]
        exact ⟨rfl, B3⟩
      | some z =>
        obtain ⟨m, hi, a3⟩ := z
        rw [hqv] at hq HR
        obtain ⟨rfl, kv, S3, L3⟩ := hq
        have HS3 := Lib.hid S3
        have HL3 := Lib.hid L3
        clear S3 L3 hqv
        go_wp2_with fail
        go_ret
        rw [HR.out]
        refine ⟨rfl, ks2 ++ [kv], by rw [← List.append_assoc]; exact HS3.out, fun x hx => ?_⟩
        rcases List.mem_append.1 hx with hx | hx
        · exact HL2.out x hx
        · rw [List.mem_singleton] at hx
          rw [hx]
          exact HL3.out
set_option maxRecDepth 100000 in
set_option maxHeartbeats 2000000 in
theorem piece_plain {p : Option (Nat → List Nd → Res)} (h : Prs w base rb s (a : Int) D ns ks) (hs : s.size ≤ 1000000) {c : UInt8} (hx : (Tx.bs s)[a]? = some c) (h94 : c ≠ 94) (h36 : c ≠ 36)
    (hstep : ∀ q, Calls Try.prog 62 #[.pointer (some ⟨rb, 0, none⟩), .int .u8 (c.toNat : Int)] q fun en w' => en = .returned (stepV 75 rb) ∧ q = w')
    (hA : ∀ q, Calls Try.prog 75 #[.pointer (some ⟨rb, 0, none⟩)] (w.drewN q) (PPost (w.drewN q) base rb s D ks (atomF (Tx.bs s) p a ns)))
    (hav : ∀ k a2 ns2, atomF (Tx.bs s) p a ns = .ok (k, a2, ns2) → a2 ≤ s.size ∧ ns2.length ≤ 1000000) :
    Calls Try.prog 50 #[.pointer (some ⟨rb, 0, none⟩)] w (PPost w base rb s D ks (pieceG (Tx.bs s) p a ns)) := by
  have hlt := get_lt hx
  rw [Tx.bs_len] at hlt
  have HSt := Lib.hid hstep
  have HA : Hid (∀ q, Calls Try.prog 75 #[.pointer (some ⟨rb, 0, none⟩)] (w.drewN q) (PPost w base rb s D ks (atomF (Tx.bs s) p a ns))) := Lib.hid (fun q => (hA q).mono fun _ _ hh => PPost.before' (below_drewN (Below.refl _ _) q) (KeptX.drewN w q) hh)
  obtain ⟨c0, c1, c2, hf⟩ := (St.start h).cells
  have i0 : (0 : Int) ≤ (a : Int) := by omega
  have i1 : (a : Int) < (s.size : Int) := by omega
  have hxc : s[a] = c := by
    have := Tx.bs_get? s a hlt
    rw [hx] at this
    exact (Option.some.inj this).symm
  have hyp : ¬ ((Tx.bs s)[a]? = some 94 ∨ (Tx.bs s)[a]? = some 36) := by
    rw [hx]
    rintro (h1 | h1)
    · exact h94 (Option.some.inj h1)
    · exact h36 (Option.some.inj h1)
  have x1 : s[a].toNat = c.toNat := by rw [hxc]
  have x2 : ((c.toNat : Int) == 94) = false := by rw [beq_eq_false_iff_ne]; intro e; apply h94; apply UInt8.toNat_inj.1; show c.toNat = 94; omega
  have x3 : ((c.toNat : Int) == 36) = false := by rw [beq_eq_false_iff_ne]; intro e; apply h36; apply UInt8.toNat_inj.1; show c.toNat = 36; omega
  clear h hf hx hA hstep hxc h94 h36
  cases hr : atomF (Tx.bs s) p a ns with
  | error e =>
    have HR : Hid (pieceG (Tx.bs s) p a ns = .error e) := Lib.hid (by unfold pieceG; rw [hr])
    rw [hr] at HA
    clear hr hav hyp
    go_enter Try.func50, Try.ntmps50
    go_wp2_with fail
    go_quiet (fail)
    go_wp2_with fail
    refine (HSt.out _).mono ?_
    rintro en w1 ⟨rfl, rfl⟩
    go_wp2_with fail
    refine (HA.out _).mono ?_
    rintro en w2 ⟨rfl, B2⟩
    go_wp2_with fail
    refine ⟨rfl, ?_⟩
    rw [HR.out]
    exact ⟨rfl, B2⟩
  | ok x =>
    obtain ⟨k, a2, ns2⟩ := x
    have hav2 := hav k a2 ns2 hr
    rw [hr] at HA
    have HR : Hid (pieceG (Tx.bs s) p a ns = match quantF (Tx.bs s) a2 with | none => .ok (k, a2, ns2) | some none => .error 40 | some (some (m, h, a3)) => .ok (ns2.length, a3 + 1, ns2 ++ [repN m h k])) := Lib.hid (by unfold pieceG; rw [hr]; simp only; rw [if_neg hyp]; generalize quantF (Tx.bs s) a2 = q; rcases q with _ | _ | ⟨_, _, _⟩ <;> rfl)
    clear hr hav hyp
    go_enter Try.func50, Try.ntmps50
    go_wp2_with fail
    go_quiet (fail)
    go_wp2_with fail
    refine (HSt.out _).mono ?_
    rintro en w1 ⟨rfl, rfl⟩
    go_wp2_with fail
    refine (HA.out _).mono ?_
    rintro en w2 ⟨rfl, ks2, S2, L2⟩
    have HQ := Lib.hid (quant_any S2 hs hav2.1 hav2.2 k)
    have HL2 := Lib.hid L2
    clear S2 L2
    go_wp2_with fail
    refine HQ.out.mono ?_
    intro en w3 hq
    cases hqv : quantF (Tx.bs s) a2 with
    | none =>
      rw [hqv] at hq HR
      obtain ⟨rfl, S3⟩ := hq
      have HS3 := Lib.hid S3
      clear S3 hqv
      go_wp2_with fail
      go_ret
      rw [HR.out]
      exact ⟨rfl, ks2, HS3.out, HL2.out⟩
    | some y =>
      cases y with
      | none =>
        rw [hqv] at hq HR
        obtain ⟨rfl, B3⟩ := hq
        clear hqv
        go_wp2_with fail
        refine ⟨rfl, ?_⟩
        rw [HR.out]
        exact ⟨rfl, B3⟩
      | some z =>
        obtain ⟨m, hi, a3⟩ := z
        rw [hqv] at hq HR
        obtain ⟨rfl, kv, S3, L3⟩ := hq
        have HS3 := Lib.hid S3
        have HL3 := Lib.hid L3
        clear S3 L3 hqv
        go_wp2_with fail
        go_ret
        rw [HR.out]
        refine ⟨rfl, ks2 ++ [kv], by rw [← List.append_assoc]; exact HS3.out, fun x hx => ?_⟩
        rcases List.mem_append.1 hx with hx | hx
        · exact HL2.out x hx
        · rw [List.mem_singleton] at hx
          rw [hx]
          exact HL3.out
set_option maxRecDepth 100000 in
set_option maxHeartbeats 2000000 in
theorem piece_start {p : Option (Nat → List Nd → Res)} (h : Prs w base rb s (a : Int) D ns ks) (_hs : s.size ≤ 1000000) {c : UInt8} (hx : (Tx.bs s)[a]? = some c) (n : Nat) (hn : c.toNat = n) (han : n = 94 ∨ n = 36)
    (hstep : ∀ q, Calls Try.prog 62 #[.pointer (some ⟨rb, 0, none⟩), .int .u8 (n : Int)] q fun en w' => en = .returned (stepV 71 rb) ∧ q = w')
    (hA : ∀ q, Calls Try.prog 71 #[.pointer (some ⟨rb, 0, none⟩)] (w.drewN q) (PPost (w.drewN q) base rb s D ks (atomF (Tx.bs s) p a ns)))
    (hav : ∀ k a2 ns2, atomF (Tx.bs s) p a ns = .ok (k, a2, ns2) → a2 ≤ s.size ∧ ns2.length ≤ 1000000) :
    Calls Try.prog 50 #[.pointer (some ⟨rb, 0, none⟩)] w (PPost w base rb s D ks (pieceG (Tx.bs s) p a ns)) := by
  have hlt := get_lt hx
  rw [Tx.bs_len] at hlt
  have HSt := Lib.hid hstep
  have HA : Hid (∀ q, Calls Try.prog 71 #[.pointer (some ⟨rb, 0, none⟩)] (w.drewN q) (PPost w base rb s D ks (atomF (Tx.bs s) p a ns))) := Lib.hid (fun q => (hA q).mono fun _ _ hh => PPost.before' (below_drewN (Below.refl _ _) q) (KeptX.drewN w q) hh)
  obtain ⟨c0, c1, c2, hf⟩ := (St.start h).cells
  have i0 : (0 : Int) ≤ (a : Int) := by omega
  have i1 : (a : Int) < (s.size : Int) := by omega
  have hxc : s[a] = c := by
    have := Tx.bs_get? s a hlt
    rw [hx] at this
    exact (Option.some.inj this).symm
  have hyp : (Tx.bs s)[a]? = some 94 ∨ (Tx.bs s)[a]? = some 36 := by
    rw [hx]
    rcases han with h1 | h1
    · left; congr 1; apply UInt8.toNat_inj.1; rw [hn, h1]; rfl
    · right; congr 1; apply UInt8.toNat_inj.1; rw [hn, h1]; rfl
  have x1 : s[a].toNat = n := by rw [hxc, hn]
  clear h hf hx hA hstep hxc hn
  rcases han with rfl | rfl
  all_goals
    cases hr : atomF (Tx.bs s) p a ns with
    | error e =>
      have HR : Hid (pieceG (Tx.bs s) p a ns = .error e) := Lib.hid (by unfold pieceG; rw [hr])
      rw [hr] at HA
      clear hr hav hyp
      go_enter Try.func50, Try.ntmps50
      go_wp2_with fail
      go_quiet (fail)
      go_wp2_with fail
      refine (HSt.out _).mono ?_
      rintro en w1 ⟨rfl, rfl⟩
      go_wp2_with fail
      refine (HA.out _).mono ?_
      rintro en w2 ⟨rfl, B2⟩
      go_wp2_with fail
      refine ⟨rfl, ?_⟩
      rw [HR.out]
      exact ⟨rfl, B2⟩
    | ok x =>
      obtain ⟨k, a2, ns2⟩ := x
      have hav2 := hav k a2 ns2 hr
      rw [hr] at HA
      have HR : Hid (pieceG (Tx.bs s) p a ns = .ok (k, a2, ns2)) := Lib.hid (by unfold pieceG; rw [hr]; simp only; rw [if_pos hyp])
      clear hr hav hyp
      go_enter Try.func50, Try.ntmps50
      go_wp2_with fail
      go_quiet (fail)
      go_wp2_with fail
      refine (HSt.out _).mono ?_
      rintro en w1 ⟨rfl, rfl⟩
      go_wp2_with fail
      refine (HA.out _).mono ?_
      rintro en w2 ⟨rfl, ks2, S2, L2⟩
      have HS2 := Lib.hid S2
      have HL2 := Lib.hid L2
      clear S2 L2
      go_wp2_with fail
      go_ret
      rw [HR.out]
      exact ⟨rfl, ks2, HS2.out, HL2.out⟩
set_option maxRecDepth 100000 in
set_option maxHeartbeats 2000000 in
theorem piece_end {p : Option (Nat → List Nd → Res)} (h : Prs w base rb s (a : Int) D ns ks) (_hs : s.size ≤ 1000000) {c : UInt8} (hx : (Tx.bs s)[a]? = some c) (n : Nat) (hn : c.toNat = n) (han : n = 94 ∨ n = 36)
    (hstep : ∀ q, Calls Try.prog 62 #[.pointer (some ⟨rb, 0, none⟩), .int .u8 (n : Int)] q fun en w' => en = .returned (stepV 72 rb) ∧ q = w')
    (hA : ∀ q, Calls Try.prog 72 #[.pointer (some ⟨rb, 0, none⟩)] (w.drewN q) (PPost (w.drewN q) base rb s D ks (atomF (Tx.bs s) p a ns)))
    (hav : ∀ k a2 ns2, atomF (Tx.bs s) p a ns = .ok (k, a2, ns2) → a2 ≤ s.size ∧ ns2.length ≤ 1000000) :
    Calls Try.prog 50 #[.pointer (some ⟨rb, 0, none⟩)] w (PPost w base rb s D ks (pieceG (Tx.bs s) p a ns)) := by
  have hlt := get_lt hx
  rw [Tx.bs_len] at hlt
  have HSt := Lib.hid hstep
  have HA : Hid (∀ q, Calls Try.prog 72 #[.pointer (some ⟨rb, 0, none⟩)] (w.drewN q) (PPost w base rb s D ks (atomF (Tx.bs s) p a ns))) := Lib.hid (fun q => (hA q).mono fun _ _ hh => PPost.before' (below_drewN (Below.refl _ _) q) (KeptX.drewN w q) hh)
  obtain ⟨c0, c1, c2, hf⟩ := (St.start h).cells
  have i0 : (0 : Int) ≤ (a : Int) := by omega
  have i1 : (a : Int) < (s.size : Int) := by omega
  have hxc : s[a] = c := by
    have := Tx.bs_get? s a hlt
    rw [hx] at this
    exact (Option.some.inj this).symm
  have hyp : (Tx.bs s)[a]? = some 94 ∨ (Tx.bs s)[a]? = some 36 := by
    rw [hx]
    rcases han with h1 | h1
    · left; congr 1; apply UInt8.toNat_inj.1; rw [hn, h1]; rfl
    · right; congr 1; apply UInt8.toNat_inj.1; rw [hn, h1]; rfl
  have x1 : s[a].toNat = n := by rw [hxc, hn]
  clear h hf hx hA hstep hxc hn
  rcases han with rfl | rfl
  all_goals
    cases hr : atomF (Tx.bs s) p a ns with
    | error e =>
      have HR : Hid (pieceG (Tx.bs s) p a ns = .error e) := Lib.hid (by unfold pieceG; rw [hr])
      rw [hr] at HA
      clear hr hav hyp
      go_enter Try.func50, Try.ntmps50
      go_wp2_with fail
      go_quiet (fail)
      go_wp2_with fail
      refine (HSt.out _).mono ?_
      rintro en w1 ⟨rfl, rfl⟩
      go_wp2_with fail
      refine (HA.out _).mono ?_
      rintro en w2 ⟨rfl, B2⟩
      go_wp2_with fail
      refine ⟨rfl, ?_⟩
      rw [HR.out]
      exact ⟨rfl, B2⟩
    | ok x =>
      obtain ⟨k, a2, ns2⟩ := x
      have hav2 := hav k a2 ns2 hr
      rw [hr] at HA
      have HR : Hid (pieceG (Tx.bs s) p a ns = .ok (k, a2, ns2)) := Lib.hid (by unfold pieceG; rw [hr]; simp only; rw [if_pos hyp])
      clear hr hav hyp
      go_enter Try.func50, Try.ntmps50
      go_wp2_with fail
      go_quiet (fail)
      go_wp2_with fail
      refine (HSt.out _).mono ?_
      rintro en w1 ⟨rfl, rfl⟩
      go_wp2_with fail
      refine (HA.out _).mono ?_
      rintro en w2 ⟨rfl, ks2, S2, L2⟩
      have HS2 := Lib.hid S2
      have HL2 := Lib.hid L2
      clear S2 L2
      go_wp2_with fail
      go_ret
      rw [HR.out]
      exact ⟨rfl, ks2, HS2.out, HL2.out⟩
end
end Px
end Go.Proofs.Ytgadomcbaenodaa

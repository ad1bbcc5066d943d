/-
  The program's parser: a piece as a whole. Conditions: short patterns, at most a million nodes; what is called for a group, and for a class, does what the document says.
-/
import Derived.Test.YthoidaaldngpmaaRegexPsE
namespace Go.Proofs.Ythoidaaldngpmaa
open Go.RowKit
namespace Px
open Cm Rx
section
variable {w : World} {base rb : Nat} {s : ByteArray} {a : Nat} {D : Int} {ns : List Nd} {ks : List Value}
/-- A piece. -/
theorem piece_all {p : Option (Nat → List Nd → Res)} (h : Prs w base rb s (a : Int) D ns ks) (hG : Glb base w) (hs : s.size ≤ 100000) (ha : a < s.size) (hp : POk s D p) (hadv : AdvO (Tx.bs s) p) (hC : ClassP s) (hl : ns.length + 4 * (s.size - a) ≤ 500000) (hm : moreF (Tx.bs s) true a = true) :
    Calls Try.prog 98 #[.pointer (some ⟨rb, 0, none⟩)] w (PPost w base rb s D ks (pieceG (Tx.bs s) p a ns)) := by
  have hx := Tx.bs_get? s a ha
  generalize s[a] = c at hx
  have hav : ∀ k a2 ns2, atomF (Tx.bs s) p a ns = .ok (k, a2, ns2) → a2 ≤ s.size ∧ ns2.length ≤ 1000000 := fun k a2 ns2 hr => by
    have := atom_adv hadv hr
    rw [Tx.bs_len] at this
    omega
  have hGq : ∀ q, Glb base (w.drewN q) := fun q => hG.below (below_drewN (Below.refl _ _) q)
  have hs2 : s.size ≤ 1000000 := by omega
  by_cases h40 : c = 40
  · subst h40
    exact piece_group h hs2 hx (by decide) (by decide) (fun q => step_40 q rb) (fun q => group_any (h.drewN q) (hGq q) hs2 hx hp hl) hav
  by_cases h91 : c = 91
  · subst h91
    refine piece_class (p := p) h hs2 hx (by decide) (by decide) (fun q => step_91 q rb) (fun q => ?_) hav
    have := hC (w.drewN q) base rb a D ns ks (hGq q) (h.drewN q) ha (by omega)
    rw [show atomF (Tx.bs s) p a ns = (match classF (Tx.bs s) (a + 1) with | none => .error 40 | some (m, a) => .ok (ns.length, a, ns ++ [setN m])) from by
      unfold atomF; rw [hx]; simp only [show ((91 : UInt8) = 40) = False from by decide, if_false, if_true]; generalize classF (Tx.bs s) (a + 1) = q; rcases q with _ | ⟨_, _⟩ <;> rfl]
    exact this
  by_cases h46 : c = 46
  · subst h46
    refine piece_dot (p := p) h hs2 hx (by decide) (by decide) (fun q => step_46 q rb) (fun q => ?_) hav
    rw [show atomF (Tx.bs s) p a ns = .ok (ns.length, a + 1, ns ++ [setN allSet]) from by unfold atomF; rw [hx]; rfl]
    exact dot_any (h.drewN q) hs2 (by omega) (by omega)
  by_cases h94 : c = 94
  · subst h94
    refine piece_start (p := p) h hs2 hx 94 rfl (.inl rfl) (fun q => step_94 q rb) (fun q => ?_) hav
    rw [show atomF (Tx.bs s) p a ns = .ok (ns.length, a + 1, ns ++ [plainN 2]) from by unfold atomF; rw [hx]; rfl]
    exact start_any (h.drewN q) hs2 (by omega) (by omega)
  by_cases h36 : c = 36
  · subst h36
    refine piece_end (p := p) h hs2 hx 36 rfl (.inr rfl) (fun q => step_36 q rb) (fun q => ?_) hav
    rw [show atomF (Tx.bs s) p a ns = .ok (ns.length, a + 1, ns ++ [plainN 3]) from by unfold atomF; rw [hx]; rfl]
    exact end_any (h.drewN q) hs2 (by omega) (by omega)
  by_cases h92 : c = 92
  · subst h92
    refine piece_escape (p := p) h hs2 hx (by decide) (by decide) (fun q => step_92 q rb) (fun q => ?_) hav
    rw [show atomF (Tx.bs s) p a ns = (match (Tx.bs s)[a + 1]? with | none => .error 40 | some b => .ok (ns.length, a + 2, ns ++ [setN (putM noSet b.toNat)])) from by
      unfold atomF; rw [hx]; simp only [show ((92 : UInt8) = 40) = False from by decide, show ((92 : UInt8) = 91) = False from by decide, show ((92 : UInt8) = 46) = False from by decide, show ((92 : UInt8) = 94) = False from by decide, show ((92 : UInt8) = 36) = False from by decide, show noAtom 92 = false from rfl, if_false, if_true, Bool.false_eq_true]; generalize (Tx.bs s)[a + 1]? = q; rcases q with _ | _ <;> rfl]
    exact escape_any (h.drewN q) hs2 ha (by omega)
  by_cases h42 : c = 42
  · subst h42
    refine piece_refuse (p := p) h hs2 hx (by decide) (by decide) (fun q => step_42 q rb) (fun q => ?_) hav
    rw [atom_no hx (by simp)]
    exact refuse_any (h.drewN q)
  by_cases h43 : c = 43
  · subst h43
    refine piece_refuse (p := p) h hs2 hx (by decide) (by decide) (fun q => step_43 q rb) (fun q => ?_) hav
    rw [atom_no hx (by simp)]
    exact refuse_any (h.drewN q)
  by_cases h63 : c = 63
  · subst h63
    refine piece_refuse (p := p) h hs2 hx (by decide) (by decide) (fun q => step_63 q rb) (fun q => ?_) hav
    rw [atom_no hx (by simp)]
    exact refuse_any (h.drewN q)
  by_cases h123 : c = 123
  · subst h123
    refine piece_refuse (p := p) h hs2 hx (by decide) (by decide) (fun q => step_123 q rb) (fun q => ?_) hav
    rw [atom_no hx (by simp)]
    exact refuse_any (h.drewN q)
  have h124 : c ≠ 124 := by
    rintro rfl
    unfold moreF at hm
    rw [hx] at hm
    cases hm
  have h41 : c ≠ 41 := by
    rintro rfl
    unfold moreF at hm
    rw [hx] at hm
    cases hm
  have hn : ∀ k : UInt8, c ≠ k → (c.toNat : Int) ≠ (k.toNat : Int) := fun k hk e => hk (UInt8.toNat_inj.1 (by omega))
  refine piece_plain (p := p) h hs2 hx h94 h36 (fun q => step_other q rb _ (hn 40 h40) (hn 91 h91) (hn 46 h46) (hn 94 h94) (hn 36 h36) (hn 92 h92) (hn 42 h42) (hn 43 h43) (hn 63 h63) (hn 123 h123)) (fun q => ?_) hav
  have hno : noAtom c = false := by
    unfold noAtom
    simp [h41, h124, h42, h43, h63, h123]
  rw [atom_at hx h40 h91 h46 h94 h36 hno h92]
  exact (plain_T (St.start (h.drewN q)) hs2 hx (by omega)).mono fun en w' hq => by
    obtain ⟨rfl, hq⟩ := hq
    exact PPost_one hq (late_nil _)
end
end Px
end Go.Proofs.Ythoidaaldngpmaa

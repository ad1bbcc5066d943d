/-
  Patterns, as plain mathematics: the program reads an anchor without a look at what follows, and stops at every closing parenthesis: the answer is parseF's all the same. No conditions.
-/
import Derived.Test.YthoidaaldngpmaaRegexAdv
namespace Go.Proofs.Ythoidaaldngpmaa
open Go.RowKit
namespace Px
open Cm Rx
section
variable {l : List UInt8} {p : Option (Nat → List Nd → Res)}
/-- A piece, as the program reads it. -/
def pieceG (l : List UInt8) (p : Option (Nat → List Nd → Res)) (at_ : Nat) (ns : List Nd) : Res :=
  match atomF l p at_ ns with
  | .error e => .error e
  | .ok (k, a, ns1) =>
    if l[at_]? = some 94 ∨ l[at_]? = some 36 then .ok (k, a, ns1)
    else match quantF l a with
    | none => .ok (k, a, ns1)
    | some none => .error 40
    | some (some (m, h, a2)) => .ok (ns1.length, a2 + 1, ns1 ++ [repN m h k])
def piecesG (l : List UInt8) (p : Option (Nat → List Nd → Res)) : Nat → Nat → List Nd → List Int → Except Int (List Int × Nat × List Nd)
  | 0, _, _, _ => .error 0
  | f + 1, at_, ns, kids =>
    if moreF l true at_ then
      match pieceG l p at_ ns with
      | .error e => .error e
      | .ok (k, a, ns1) => piecesG l p f a ns1 (kids ++ [k])
    else .ok (kids, at_, ns)
theorem pieceG_eq {at_ : Nat} {ns : List Nd} (h : ¬ (l[at_]? = some 94 ∨ l[at_]? = some 36)) : pieceG l p at_ ns = pieceF l p at_ ns := by
  unfold pieceG pieceF
  cases atomF l p at_ ns with
  | error e => rfl
  | ok x =>
    obtain ⟨k, a, ns1⟩ := x
    simp only
    rw [if_neg h]
    cases quantF l a with
    | none => rfl
    | some y =>
      cases y with
      | none => rfl
      | some z =>
        obtain ⟨m, hh, a2⟩ := z
        simp only
        rw [if_neg h]
theorem pieceG_anchor {at_ : Nat} {ns : List Nd} (h : l[at_]? = some 94 ∨ l[at_]? = some 36) : ∃ n, pieceG l p at_ ns = .ok ((ns.length : Int), at_ + 1, ns ++ [n]) ∧ (quantF l (at_ + 1) = none → pieceF l p at_ ns = .ok ((ns.length : Int), at_ + 1, ns ++ [n])) ∧ (quantF l (at_ + 1) ≠ none → pieceF l p at_ ns = .error 40) := by
  rcases h with h | h
  · have ha : atomF l p at_ ns = .ok ((ns.length : Int), at_ + 1, ns ++ [plainN 2]) := by unfold atomF; rw [h]; rfl
    refine ⟨plainN 2, ?_, fun hq => ?_, fun hq => ?_⟩
    · unfold pieceG
      rw [ha]
      simp only
      rw [if_pos (.inl h)]
    · unfold pieceF
      rw [ha]
      simp only
      rw [hq]
    · unfold pieceF
      rw [ha]
      simp only
      cases hv : quantF l (at_ + 1) with
      | none => exact absurd hv hq
      | some y =>
        cases y with
        | none => rfl
        | some z =>
          obtain ⟨m, hh, a2⟩ := z
          simp only
          rw [if_pos (.inl h)]
  · have ha : atomF l p at_ ns = .ok ((ns.length : Int), at_ + 1, ns ++ [plainN 3]) := by unfold atomF; rw [h]; rfl
    refine ⟨plainN 3, ?_, fun hq => ?_, fun hq => ?_⟩
    · unfold pieceG
      rw [ha]
      simp only
      rw [if_pos (.inr h)]
    · unfold pieceF
      rw [ha]
      simp only
      rw [hq]
    · unfold pieceF
      rw [ha]
      simp only
      cases hv : quantF l (at_ + 1) with
      | none => exact absurd hv hq
      | some y =>
        cases y with
        | none => rfl
        | some z =>
          obtain ⟨m, hh, a2⟩ := z
          simp only
          rw [if_pos (.inr h)]
/-- Where a quantifier begins no atom does. -/
theorem quant_noAtom {a : Nat} (h : quantF l a ≠ none) : ∃ c, l[a]? = some c ∧ (c = 42 ∨ c = 43 ∨ c = 63 ∨ c = 123) := by
  unfold quantF at h
  cases hx : l[a]? with
  | none => rw [hx] at h; exact absurd rfl h
  | some c =>
    refine ⟨c, rfl, ?_⟩
    rw [hx] at h
    simp only at h
    by_cases h1 : c = 42
    · exact .inl h1
    by_cases h2 : c = 43
    · exact .inr (.inl h2)
    by_cases h3 : c = 63
    · exact .inr (.inr (.inl h3))
    by_cases h4 : c = 123
    · exact .inr (.inr (.inr h4))
    rw [if_neg h1, if_neg h2, if_neg h3, if_neg h4] at h
    exact absurd rfl h
theorem atom_no {a : Nat} {ns : List Nd} {c : UInt8} (h : l[a]? = some c) (hc : c = 42 ∨ c = 43 ∨ c = 63 ∨ c = 123) : atomF l p a ns = .error 40 := by
  unfold atomF
  rw [h]
  rcases hc with rfl | rfl | rfl | rfl <;> rfl
theorem atom_close {a : Nat} {ns : List Nd} (h : l[a]? = some 41) : atomF l p a ns = .error 40 := by
  unfold atomF
  rw [h]
  rfl
theorem piecesG_eq (f : Nat) : ∀ (at_ : Nat) (ns : List Nd) (kids : List Int), l.length < at_ + f → at_ ≤ l.length → AdvO l p → piecesG l p f at_ ns kids = piecesF l p true f at_ ns kids := by
  induction f with
  | zero => intro at_ ns kids h h2; omega
  | succ f ih =>
    intro at_ ns kids h h2 hp
    unfold piecesG piecesF
    by_cases hm : moreF l true at_ = true
    · rw [if_pos hm, if_pos hm]
      have hlt : at_ < l.length := by
        unfold moreF at hm
        cases hx : l[at_]? with
        | none => rw [hx] at hm; cases hm
        | some c => exact get_lt hx
      by_cases han : l[at_]? = some 94 ∨ l[at_]? = some 36
      · obtain ⟨n, h3, h4, h5⟩ := pieceG_anchor (p := p) (ns := ns) han
        rw [h3]
        simp only
        by_cases hq : quantF l (at_ + 1) = none
        · rw [h4 hq]
          simp only
          exact ih _ _ _ (by omega) (by omega) hp
        · rw [h5 hq]
          obtain ⟨c, hc, hc4⟩ := quant_noAtom hq
          obtain ⟨f', rfl⟩ : ∃ f', f = f' + 1 := ⟨f - 1, by omega⟩
          unfold piecesG
          have hmore : moreF l true (at_ + 1) = true := by
            unfold moreF
            rw [hc]
            rcases hc4 with rfl | rfl | rfl | rfl <;> rfl
          rw [if_pos hmore]
          unfold pieceG
          rw [atom_no hc hc4]
      · rw [pieceG_eq han]
        cases hr : pieceF l p at_ ns with
        | error e => rfl
        | ok x =>
          obtain ⟨k, a, ns1⟩ := x
          have hav := piece_adv hp hr
          simp only
          exact ih _ _ _ (by omega) hav.2.1 hp
    · rw [if_neg hm, if_neg hm]
theorem pieceG_adv (hp : AdvO l p) {at_ : Nat} {ns : List Nd} {k : Int} {a : Nat} {ns2 : List Nd} (hl : at_ < l.length) (h : pieceG l p at_ ns = .ok (k, a, ns2)) : at_ < a ∧ a ≤ l.length ∧ ns2.length + 2 ≤ ns.length + 4 * (a - at_) := by
  by_cases han : l[at_]? = some 94 ∨ l[at_]? = some 36
  · obtain ⟨n, h3, h4, h5⟩ := pieceG_anchor (p := p) (ns := ns) han
    rw [h3] at h
    injection h with h
    injection h with h1 h2
    injection h2 with h2 h6
    subst h2 h6
    refine ⟨by omega, by omega, ?_⟩
    rw [List.length_append, List.length_singleton]
    omega
  · rw [pieceG_eq han] at h
    exact piece_adv hp h
/-- The same, but an error where a closing parenthesis stands. -/
def shutK {α : Type} (l : List UInt8) (r : Except Int (α × Nat × List Nd)) : Except Int (α × Nat × List Nd) :=
  match r with
  | .error e => .error e
  | .ok (k, a, ns) => if l[a]? = some 41 then .error 40 else .ok (k, a, ns)
theorem pieces_outer (f : Nat) : ∀ (at_ : Nat) (ns : List Nd) (kids : List Int), piecesF l p false f at_ ns kids = shutK l (piecesF l p true f at_ ns kids) := by
  induction f with
  | zero => intro at_ ns kids; rfl
  | succ f ih =>
    intro at_ ns kids
    unfold piecesF
    cases hx : l[at_]? with
    | none =>
      have h1 : ∀ b, moreF l b at_ = false := fun b => by unfold moreF; rw [hx]
      rw [h1, h1]
      simp only [Bool.false_eq_true, if_false]
      unfold shutK
      simp only
      rw [if_neg (by rw [hx]; simp)]
    | some c =>
      by_cases h124 : c = 124
      · have h1 : ∀ b, moreF l b at_ = false := fun b => by unfold moreF; rw [hx, h124]; rfl
        rw [h1, h1]
        simp only [Bool.false_eq_true, if_false]
        unfold shutK
        simp only
        rw [if_neg (by rw [hx, h124]; simp)]
      · by_cases h41 : c = 41
        · have h1 : moreF l true at_ = false := by unfold moreF; rw [hx, h41]; rfl
          have h2 : moreF l false at_ = true := by unfold moreF; rw [hx, h41]; rfl
          rw [h1, h2]
          simp only [Bool.false_eq_true, if_false, if_true]
          unfold pieceF
          rw [atom_close (by rw [hx, h41])]
          unfold shutK
          simp only
          rw [if_pos (by rw [hx, h41])]
        · have h1 : ∀ b, moreF l b at_ = true := fun b => by
            unfold moreF; rw [hx]
            simp [h124, h41]
          rw [h1, h1]
          simp only [if_true]
          cases hr : pieceF l p at_ ns with
          | error e => rfl
          | ok x =>
            obtain ⟨k, a, ns1⟩ := x
            simp only
            exact ih _ _ _
theorem alt_outer (at_ : Nat) (ns : List Nd) : altF l p false at_ ns = shutK l (altF l p true at_ ns) := by
  unfold altF
  rw [pieces_outer]
  cases piecesF l p true (l.length + 1) at_ ns [] with
  | error e => rfl
  | ok x =>
    obtain ⟨kids, a, ns1⟩ := x
    unfold shutK
    simp only
    by_cases h : l[a]? = some 41
    · rcases kids with _ | ⟨k, _ | ⟨k2, kr⟩⟩ <;> simp [h]
    · rcases kids with _ | ⟨k, _ | ⟨k2, kr⟩⟩ <;> simp [h]
theorem alts_outer (hp : AdvO l p) (f : Nat) : ∀ (at_ : Nat) (ns : List Nd) (kids : List Int), l.length < at_ + f → at_ ≤ l.length → l[at_]? ≠ some 41 → altsF l p false f at_ ns kids = shutK l (altsF l p true f at_ ns kids) := by
  induction f with
  | zero => intro at_ ns kids _ _ _; rfl
  | succ f ih =>
    intro at_ ns kids hf hl h0
    unfold altsF
    by_cases h : l[at_]? = some 124
    · rw [if_pos h, if_pos h, alt_outer]
      have hlt := get_lt h
      cases hr : altF l p true (at_ + 1) ns with
      | error e => rfl
      | ok x =>
        obtain ⟨k, a, ns1⟩ := x
        have hav := alt_adv hp (by omega) hr
        by_cases h41 : l[a]? = some 41
        · rw [show shutK l (.ok (k, a, ns1) : Res) = .error 40 from by unfold shutK; simp only; rw [if_pos h41]]
          simp only
          have hla := get_lt h41
          cases f with
          | zero => omega
          | succ f =>
            unfold altsF
            rw [if_neg (by rw [h41]; simp)]
            unfold shutK
            simp only
            rw [if_pos h41]
        · rw [show shutK l (.ok (k, a, ns1) : Res) = .ok (k, a, ns1) from by unfold shutK; simp only; rw [if_neg h41]]
          simp only
          exact ih _ _ _ (by omega) hav.2.1 h41
    · rw [if_neg h, if_neg h]
      unfold shutK
      simp only
      rw [if_neg h0]
theorem pat_outer (hp : AdvO l p) (ns : List Nd) : patF l p false 0 ns = shutK l (patF l p true 0 ns) := by
  unfold patF
  rw [alt_outer]
  cases hr : altF l p true 0 ns with
  | error e => rfl
  | ok x =>
    obtain ⟨k, a, ns1⟩ := x
    have hav := alt_adv hp (Nat.zero_le _) hr
    by_cases h41 : l[a]? = some 41
    · rw [show shutK l (.ok (k, a, ns1) : Res) = .error 40 from by unfold shutK; simp only; rw [if_pos h41]]
      simp only
      unfold altsF
      rw [if_neg (by rw [h41]; simp)]
      unfold shutK
      simp only
      rw [if_pos h41]
    · rw [show shutK l (.ok (k, a, ns1) : Res) = .ok (k, a, ns1) from by unfold shutK; simp only; rw [if_neg h41]]
      simp only
      rw [alts_outer hp (l.length + 1) a ns1 [k] (by omega) hav.2.1 h41]
      cases altsF l p true (l.length + 1) a ns1 [k] with
      | error e => rfl
      | ok y =>
        obtain ⟨kids, a2, ns2⟩ := y
        unfold shutK
        simp only
        by_cases h : l[a2]? = some 41
        · rcases kids with _ | ⟨k, _ | ⟨k2, kr⟩⟩ <;> simp [h]
        · rcases kids with _ | ⟨k, _ | ⟨k2, kr⟩⟩ <;> simp [h]
/-- The whole of a pattern, as the program reads it. -/
def parseG (l : List UInt8) : Except Int (List Nd) :=
  if 256 < l.length then .error 1
  else match patF l (some (groupF l 49)) true 0 [] with
  | .error e => .error e
  | .ok (_, a, ns) => if a < l.length then .error 40 else .ok ns
theorem parseG_eq (l : List UInt8) : parseG l = parseF l := by
  unfold parseG parseF
  have hp : AdvO l (some (groupF l 49)) := fun f hf => by cases hf; exact group_adv 49
  rw [pat_outer hp]
  cases patF l (some (groupF l 49)) true 0 [] with
  | error e => rfl
  | ok x =>
    obtain ⟨k, a, ns1⟩ := x
    by_cases h : l[a]? = some 41
    · have hl := get_lt h
      rw [show shutK l (.ok (k, a, ns1) : Res) = .error 40 from by unfold shutK; simp only; rw [if_pos h]]
      simp only
      rw [if_pos hl]
    · rw [show shutK l (.ok (k, a, ns1) : Res) = .ok (k, a, ns1) from by unfold shutK; simp only; rw [if_neg h]]
end
end Px
end Go.Proofs.Ythoidaaldngpmaa

/-
  Patterns, as plain mathematics: an error of the parser has a number of its own. No conditions.
-/
import Derived.Test.YtebljjdhgepfkaaRegexAdv
namespace Go.Proofs.Ytebljjdhgepfkaa
namespace Rx
section
variable {l : List UInt8}
def Nz {α : Type} (r : Except Int α) : Prop := ∀ c, r = .error c → c ≠ 0
theorem nz_ok {α : Type} (a : α) : Nz (.ok a : Except Int α) := fun c h => by cases h
theorem nz_err {α : Type} {d : Int} (h : d ≠ 0) : Nz (.error d : Except Int α) := fun c e => by injection e with e; rw [← e]; exact h
def NzF (l : List UInt8) (f : Nat → List Nd → Res) : Prop := ∀ (a : Nat) (ns : List Nd), a ≤ l.length → Nz (f a ns)
def NzO (l : List UInt8) (p : Option (Nat → List Nd → Res)) : Prop := ∀ f, p = some f → NzF l f
variable {p : Option (Nat → List Nd → Res)} {inner : Bool}
theorem atom_nz (hp : NzO l p) {at_ : Nat} {ns : List Nd} (hl : at_ < l.length) : Nz (atomF l p at_ ns) := by
  unfold atomF
  rw [List.getElem?_eq_getElem hl]
  simp only
  split
  · cases hq : p with
    | none => exact nz_err (by decide)
    | some f =>
      simp only
      have h1 := hp f hq (at_ + 1) ns (by omega)
      cases hr : f (at_ + 1) ns with
      | error e => exact nz_err (h1 e hr)
      | ok x =>
        obtain ⟨k, a, ns2⟩ := x
        simp only
        split
        · exact nz_ok _
        · exact nz_err (by decide)
  · split
    · cases classF l (at_ + 1) with
      | none => exact nz_err (by decide)
      | some x => exact nz_ok _
    · split
      · exact nz_ok _
      · split
        · exact nz_ok _
        · split
          · exact nz_ok _
          · split
            · exact nz_err (by decide)
            · split
              · cases l[at_ + 1]? with
                | none => exact nz_err (by decide)
                | some b => exact nz_ok _
              · exact nz_ok _
theorem piece_nz (hp : NzO l p) {at_ : Nat} {ns : List Nd} (hl : at_ < l.length) : Nz (pieceF l p at_ ns) := by
  unfold pieceF
  have h1 := atom_nz hp (ns := ns) hl
  cases hr : atomF l p at_ ns with
  | error e => exact nz_err (h1 e hr)
  | ok x =>
    obtain ⟨k, a, ns1⟩ := x
    simp only
    cases quantF l a with
    | none => exact nz_ok _
    | some q =>
      cases q with
      | none => exact nz_err (by decide)
      | some q =>
        obtain ⟨m, h, a2⟩ := q
        simp only
        split
        · exact nz_err (by decide)
        · exact nz_ok _
theorem pieces_nz (hp : NzO l p) (ha : AdvO l p) (f : Nat) : ∀ (at_ : Nat) (ns : List Nd) (kids : List Int), at_ ≤ l.length → l.length < at_ + f → Nz (piecesF l p inner f at_ ns kids) := by
  induction f with
  | zero => intro at_ ns kids h1 h2; omega
  | succ f ih =>
    intro at_ ns kids h1 h2
    unfold piecesF
    by_cases hm : moreF l inner at_ = true
    · rw [if_pos hm]
      have hlt : at_ < l.length := by
        unfold moreF at hm
        cases hx : l[at_]? with
        | none => rw [hx] at hm; cases hm
        | some c => exact get_lt hx
      have h3 := piece_nz hp (ns := ns) hlt
      cases hr : pieceF l p at_ ns with
      | error e => exact nz_err (h3 e hr)
      | ok x =>
        obtain ⟨k, a, ns1⟩ := x
        have h4 := piece_adv ha hr
        simp only
        exact ih a ns1 _ h4.2.1 (by omega)
    · rw [if_neg hm]
      exact nz_ok _
theorem alt_nz (hp : NzO l p) (ha : AdvO l p) {at_ : Nat} {ns : List Nd} (hl : at_ ≤ l.length) : Nz (altF l p inner at_ ns) := by
  unfold altF
  have h1 := pieces_nz (inner := inner) hp ha (l.length + 1) at_ ns [] hl (by omega)
  cases hr : piecesF l p inner (l.length + 1) at_ ns [] with
  | error e => exact nz_err (h1 e hr)
  | ok x =>
    obtain ⟨kids, a, ns1⟩ := x
    rcases kids with _ | ⟨k0, _ | ⟨k1, r⟩⟩
    · exact nz_ok _
    · exact nz_ok _
    · exact nz_ok _
theorem alts_nz (hp : NzO l p) (ha : AdvO l p) (f : Nat) : ∀ (at_ : Nat) (ns : List Nd) (kids : List Int), at_ ≤ l.length → l.length < at_ + f → Nz (altsF l p inner f at_ ns kids) := by
  induction f with
  | zero => intro at_ ns kids h1 h2; omega
  | succ f ih =>
    intro at_ ns kids h1 h2
    unfold altsF
    by_cases hb : l[at_]? = some 124
    · rw [if_pos hb]
      have hlt := get_lt hb
      have h3 := alt_nz (inner := inner) hp ha (ns := ns) (show at_ + 1 ≤ l.length by omega)
      cases hr : altF l p inner (at_ + 1) ns with
      | error e => exact nz_err (h3 e hr)
      | ok x =>
        obtain ⟨k, a, ns1⟩ := x
        have h4 := alt_adv ha (by omega) hr
        simp only
        exact ih a ns1 _ h4.2.1 (by omega)
    · rw [if_neg hb]
      exact nz_ok _
theorem pat_nz (hp : NzO l p) (ha : AdvO l p) : NzF l (patF l p inner) := by
  intro at_ ns hl
  unfold patF
  have h1 := alt_nz (inner := inner) hp ha (ns := ns) hl
  cases hr : altF l p inner at_ ns with
  | error e => exact nz_err (h1 e hr)
  | ok x =>
    obtain ⟨k, a, ns1⟩ := x
    simp only
    have h2 := alt_adv ha hl hr
    have h3 := alts_nz (inner := inner) hp ha (l.length + 1) a ns1 [k] h2.2.1 (by omega)
    cases hr2 : altsF l p inner (l.length + 1) a ns1 [k] with
    | error e => exact nz_err (h3 e hr2)
    | ok x2 =>
      obtain ⟨kids, a2, ns2⟩ := x2
      rcases kids with _ | ⟨k0, _ | ⟨k1, r⟩⟩
      · exact nz_ok _
      · exact nz_ok _
      · exact nz_ok _
theorem group_nz (g : Nat) : NzF l (groupF l g) := by
  induction g with
  | zero => exact pat_nz (fun f h => by cases h) (fun f h => by cases h)
  | succ g ih => exact pat_nz (fun f h => by injection h with h; subst h; exact ih) (fun f h => by injection h with h; subst h; exact group_adv g)
theorem parse_nz : Nz (parseF l) := by
  unfold parseF
  split
  · exact nz_err (by decide)
  · have h1 := pat_nz (inner := false) (p := some (groupF l 49)) (l := l) (fun f h => by injection h with h; subst h; exact group_nz 49) (fun f h => by injection h with h; subst h; exact group_adv 49) 0 [] (by omega)
    cases hr : patF l (some (groupF l 49)) false 0 [] with
    | error e => exact nz_err (h1 e hr)
    | ok x =>
      obtain ⟨k, a, ns⟩ := x
      simp only
      split
      · exact nz_err (by decide)
      · exact nz_ok _
end
end Rx
end Go.Proofs.Ytebljjdhgepfkaa

/-
  Patterns, as plain mathematics: the parser goes forward, and makes few nodes. No program, no memory. No conditions.
-/
import Derived.Test.YtgadomcbaenodaaRegexMath
namespace Go.Proofs.Ytgadomcbaenodaa
namespace Rx
variable {l : List UInt8}
theorem get_lt {i : Nat} {c : UInt8} (h : l[i]? = some c) : i < l.length := by
  rcases Nat.lt_or_ge i l.length with h1 | h1
  · exact h1
  · rw [List.getElem?_eq_none h1] at h; cases h
theorem nameEnd_ge (f i : Nat) : i ≤ nameEnd l f i := by
  induction f generalizing i with
  | zero => exact Nat.le_refl _
  | succ f ih =>
    unfold nameEnd
    split
    · have := ih (i + 1); omega
    · exact Nat.le_refl _
theorem items_adv (f : Nat) : ∀ (first : Bool) (at_ : Nat) (m m' : Nat → Bool) (a : Nat), itemsF l f first at_ m = some (m', a) → at_ ≤ a ∧ a < l.length := by
  induction f with
  | zero => intro first at_ m m' a h; cases h
  | succ f ih =>
    intro first at_ m m' a h
    unfold itemsF at h
    split at h
    · rename_i h1
      simp only [Bool.and_eq_true, beq_iff_eq] at h1
      injection h with h
      injection h with _ h
      subst h
      exact ⟨Nat.le_refl _, get_lt h1.2⟩
    · split at h
      · cases h
      · split at h
        · simp only at h
          split at h
          · cases h
          · split at h
            · cases h
            · have h2 := ih _ _ _ _ _ h
              have h3 := nameEnd_ge (l := l) l.length (at_ + 2)
              exact ⟨by omega, h2.2⟩
        · split at h
          · simp only at h
            split at h
            · cases h
            · have h2 := ih _ _ _ _ _ h
              exact ⟨by omega, h2.2⟩
          · have h2 := ih _ _ _ _ _ h
            exact ⟨by omega, h2.2⟩
theorem class_adv {at_ : Nat} {m : Nat → Bool} {a : Nat} (h : classF l at_ = some (m, a)) : at_ < a ∧ a ≤ l.length := by
  unfold classF at h
  split at h
  · obtain ⟨⟨m', a'⟩, h1, h2⟩ := Option.map_eq_some_iff.1 h
    have h3 := items_adv _ _ _ _ _ _ h1
    injection h2 with _ h2
    omega
  · obtain ⟨⟨m', a'⟩, h1, h2⟩ := Option.map_eq_some_iff.1 h
    have h3 := items_adv _ _ _ _ _ _ h1
    injection h2 with _ h2
    omega
theorem num_adv {k : Int} {n e : Nat} (h : Sc.numF l k = some (n, e)) : k < e ∧ e ≤ l.length := by
  unfold Sc.numF at h
  split at h
  · cases h
  · have h2 := Sc.numAt_le l k.toNat (by omega) n e h
    omega
theorem fin_adv {m m' nx nx' : Nat} {h h' : Int} (e : finB l m h nx = some (m', h', nx')) : nx' = nx ∧ nx < l.length := by
  unfold finB at e
  split at e
  · rename_i h1
    injection e with e
    injection e with _ e
    injection e with _ e
    exact ⟨e.symm, get_lt h1.1⟩
  · cases e
theorem bounds_adv {a m nx : Nat} {h : Int} (e : boundsF l a = some (m, h, nx)) : a < nx ∧ nx < l.length := by
  unfold boundsF at e
  split at e
  · cases e
  · rename_i m0 n0 hn
    have h1 := num_adv hn
    split at e
    · split at e
      · split at e
        · cases e
        · rename_i hv n2 hn2
          have h2 := num_adv hn2
          have h3 := fin_adv e
          omega
      · have h3 := fin_adv e
        omega
    · have h3 := fin_adv e
      omega
/-- A pattern's reader goes forward, and makes few nodes. -/
def Adv (l : List UInt8) (f : Nat → List Nd → Res) : Prop := ∀ (at_ : Nat) (ns : List Nd), at_ ≤ l.length → ∀ k a ns2, f at_ ns = .ok (k, a, ns2) → at_ ≤ a ∧ a ≤ l.length ∧ ns2.length ≤ ns.length + 4 * (a - at_) + 2
def AdvO (l : List UInt8) (p : Option (Nat → List Nd → Res)) : Prop := ∀ f, p = some f → Adv l f
section
variable {p : Option (Nat → List Nd → Res)} {inner : Bool}
theorem ok_inj {α β : Type} {a b : β} (h : (Except.ok a : Except α β) = .ok b) : a = b := by injection h
theorem atom_adv (hp : AdvO l p) {at_ : Nat} {ns : List Nd} {k : Int} {a : Nat} {ns2 : List Nd} (h : atomF l p at_ ns = .ok (k, a, ns2)) : at_ < a ∧ a ≤ l.length ∧ ns2.length + 2 ≤ ns.length + 4 * (a - at_) := by
  have one : ∀ {n : Nd} {b : Nat}, (Except.ok ((ns.length : Int), b, ns ++ [n]) : Res) = .ok (k, a, ns2) → at_ < b → b ≤ l.length → at_ < a ∧ a ≤ l.length ∧ ns2.length + 2 ≤ ns.length + 4 * (a - at_) := by
    intro n b e h1 h2
    have e := ok_inj e
    injection e with _ e
    injection e with e1 e2
    subst e1
    subst e2
    rw [List.length_append, List.length_singleton]
    omega
  unfold atomF at h
  split at h
  · cases h
  · rename_i c hc
    have hl := get_lt hc
    split at h
    · split at h
      · cases h
      · rename_i f
        split at h
        · cases h
        · rename_i k1 a1 ns1 hf
          split at h
          · rename_i h41
            have h1 := hp f rfl (at_ + 1) ns (by omega) _ _ _ hf
            have h2 := get_lt h41
            have e := ok_inj h
            injection e with _ e
            injection e with e1 e2
            subst e1
            subst e2
            omega
          · cases h
    · split at h
      · split at h
        · cases h
        · rename_i m a1 hm
          have h1 := class_adv hm
          exact one h (by omega) h1.2
      · split at h
        · exact one h (by omega) (by omega)
        · split at h
          · exact one h (by omega) (by omega)
          · split at h
            · exact one h (by omega) (by omega)
            · split at h
              · cases h
              · split at h
                · split at h
                  · cases h
                  · rename_i b hb
                    have h1 := get_lt hb
                    exact one h (by omega) (by omega)
                · exact one h (by omega) (by omega)
theorem quant_adv {a m a2 : Nat} {h : Int} (e : quantF l a = some (some (m, h, a2))) : a ≤ a2 ∧ a2 < l.length := by
  unfold quantF at e
  split at e
  · cases e
  · rename_i c hc
    have hl := get_lt hc
    split at e
    · injection e with e; injection e with e; injection e with _ e; injection e with _ e; omega
    · split at e
      · injection e with e; injection e with e; injection e with _ e; injection e with _ e; omega
      · split at e
        · injection e with e; injection e with e; injection e with _ e; injection e with _ e; omega
        · split at e
          · injection e with e
            have := bounds_adv e
            omega
          · cases e
theorem piece_adv (hp : AdvO l p) {at_ : Nat} {ns : List Nd} {k : Int} {a : Nat} {ns2 : List Nd} (h : pieceF l p at_ ns = .ok (k, a, ns2)) : at_ < a ∧ a ≤ l.length ∧ ns2.length + 2 ≤ ns.length + 4 * (a - at_) := by
  unfold pieceF at h
  split at h
  · cases h
  · rename_i k1 a1 ns1 ha
    have h1 := atom_adv hp ha
    split at h
    · have e := ok_inj h
      injection e with _ e
      injection e with e1 e2
      subst e1
      subst e2
      exact h1
    · cases h
    · rename_i m hh a2 hq
      have h2 := quant_adv hq
      split at h
      · cases h
      · have e := ok_inj h
        injection e with _ e
        injection e with e1 e2
        subst e1
        subst e2
        rw [List.length_append, List.length_singleton]
        omega
theorem pieces_adv (hp : AdvO l p) (f : Nat) : ∀ (at_ : Nat) (ns : List Nd) (kids : List Int), at_ ≤ l.length → ∀ kids' a ns2, piecesF l p inner f at_ ns kids = .ok (kids', a, ns2) → at_ ≤ a ∧ a ≤ l.length ∧ ns2.length ≤ ns.length + 4 * (a - at_) := by
  induction f with
  | zero => intro at_ ns kids _ kids' a ns2 h; cases h
  | succ f ih =>
    intro at_ ns kids hl kids' a ns2 h
    unfold piecesF at h
    split at h
    · split at h
      · cases h
      · rename_i k1 a1 ns1 hpc
        have h1 := piece_adv hp hpc
        have h2 := ih _ _ _ h1.2.1 _ _ _ h
        omega
    · have e := ok_inj h
      injection e with _ e
      injection e with e1 e2
      subst e1
      subst e2
      omega
theorem alt_adv (hp : AdvO l p) {at_ : Nat} {ns : List Nd} {k : Int} {a : Nat} {ns2 : List Nd} (hl : at_ ≤ l.length) (h : altF l p inner at_ ns = .ok (k, a, ns2)) : at_ ≤ a ∧ a ≤ l.length ∧ ns2.length ≤ ns.length + 4 * (a - at_) + 1 := by
  unfold altF at h
  split at h
  · cases h
  all_goals
    rename_i hpc
    have h1 := pieces_adv hp _ _ _ _ hl _ _ _ hpc
    have e := ok_inj h
    injection e with _ e
    injection e with e1 e2
    subst e1
    subst e2
    try rw [List.length_append, List.length_singleton]
    omega
theorem alts_adv (hp : AdvO l p) (f : Nat) : ∀ (at_ : Nat) (ns : List Nd) (kids : List Int), at_ ≤ l.length → ∀ kids' a ns2, altsF l p inner f at_ ns kids = .ok (kids', a, ns2) → at_ ≤ a ∧ a ≤ l.length ∧ ns2.length ≤ ns.length + 4 * (a - at_) := by
  induction f with
  | zero => intro at_ ns kids _ kids' a ns2 h; cases h
  | succ f ih =>
    intro at_ ns kids hl kids' a ns2 h
    unfold altsF at h
    split at h
    · rename_i hbar
      have hb := get_lt hbar
      split at h
      · cases h
      · rename_i k1 a1 ns1 hpc
        have h1 := alt_adv hp (by omega) hpc
        have h2 := ih _ _ _ h1.2.1 _ _ _ h
        omega
    · have e := ok_inj h
      injection e with _ e
      injection e with e1 e2
      subst e1
      subst e2
      omega
theorem pat_adv (hp : AdvO l p) : Adv l (patF l p inner) := by
  intro at_ ns hl k a ns2 h
  unfold patF at h
  split at h
  · cases h
  · rename_i k1 a1 ns1 ha
    have h1 := alt_adv hp hl ha
    split at h
    · cases h
    all_goals
      rename_i hpc
      have h2 := alts_adv hp _ _ _ _ h1.2.1 _ _ _ hpc
      have e := ok_inj h
      injection e with _ e
      injection e with e1 e2
      subst e1
      subst e2
      try rw [List.length_append, List.length_singleton]
      omega
theorem group_adv (g : Nat) : Adv l (groupF l g) := by
  induction g with
  | zero => exact pat_adv (fun f h => by cases h)
  | succ g ih => exact pat_adv (fun f h => by injection h with h; subst h; exact ih)
end
end Rx
end Go.Proofs.Ytgadomcbaenodaa

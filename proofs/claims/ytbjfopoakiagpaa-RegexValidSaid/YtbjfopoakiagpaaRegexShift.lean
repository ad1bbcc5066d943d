/-
  Patterns, as plain mathematics: a pattern that is read is read in a group of its own, too, with the same nodes. Conditions: at most 254 bytes, at most 48 of them '('.
-/
import Derived.Test.YtbjfopoakiagpaaRegexAdv
namespace Go.Proofs.Ytbjfopoakiagpaa
namespace Rx
section
variable {l l' : List UInt8}
/-- l' is l in a group. -/
def Grp (l l' : List UInt8) : Prop := l' = 40 :: (l ++ [41])
theorem Grp.get (h : Grp l l') {i : Nat} (hi : i < l.length) : l'[i + 1]? = l[i]? := by
  unfold Grp at h
  rw [h, List.getElem?_cons_succ, List.getElem?_append_left hi]
theorem Grp.last (h : Grp l l') : l'[l.length + 1]? = some 41 := by
  unfold Grp at h
  rw [h, List.getElem?_cons_succ, List.getElem?_append_right (Nat.le_refl _), Nat.sub_self]; rfl
theorem Grp.len (h : Grp l l') : l'.length = l.length + 2 := by
  unfold Grp at h
  rw [h]; simp
theorem Grp.some' (h : Grp l l') {i : Nat} {c : UInt8} (hc : l[i]? = some c) : l'[i + 1]? = some c := by rw [h.get (get_lt hc), hc]
theorem Grp.iff (h : Grp l l') {i : Nat} {c : UInt8} (hi : i ≤ l.length) (hc : c ≠ 41) : l'[i + 1]? = some c ↔ l[i]? = some c := by
  rcases Nat.lt_or_ge i l.length with h1 | h1
  · rw [h.get h1]
  · have : i = l.length := by omega
    subst this
    rw [h.last, List.getElem?_eq_none (Nat.le_refl _)]
    constructor
    · intro e; injection e with e; exact absurd e.symm hc
    · intro e; cases e
theorem Grp.sub (h : Grp l l') {a k : Nat} (ha : a + k ≤ l.length) : (l'.drop (a + 1)).take k = (l.drop a).take k := by
  unfold Grp at h
  rw [h, List.drop_succ_cons, List.drop_append_of_le_length (by omega), List.take_append_of_le_length (by rw [List.length_drop]; omega)]
theorem name_grp (h : Grp l l') (f : Nat) : ∀ f' i, f ≤ f' → l.length ≤ i + f + 1 → nameEnd l f i + 1 < l.length → nameEnd l' f' (i + 1) = nameEnd l f i + 1 := by
  induction f with
  | zero =>
    intro f' i h1 h2 h3
    unfold nameEnd at h3
    omega
  | succ f ih =>
    intro f' i h1 h2 h3
    obtain ⟨f2, rfl⟩ : ∃ f2, f' = f2 + 1 := ⟨f' - 1, by omega⟩
    by_cases hc : i + 1 < l.length ∧ ¬ (l[i]? = some 58 ∧ l[i + 1]? = some 93)
    · have e : nameEnd l (f + 1) i = nameEnd l f (i + 1) := by conv => lhs; unfold nameEnd; rw [if_pos hc]
      rw [e] at h3 ⊢
      have e' : nameEnd l' (f2 + 1) (i + 1) = nameEnd l' f2 (i + 1 + 1) := by
        conv => lhs; unfold nameEnd
        rw [if_pos ⟨by rw [h.len]; omega, by rw [h.get (by omega), h.get (by omega)]; exact hc.2⟩]
      rw [e']
      exact ih f2 (i + 1) (by omega) (by omega) h3
    · have e : nameEnd l (f + 1) i = i := by conv => lhs; unfold nameEnd; rw [if_neg hc]
      rw [e] at h3 ⊢
      have hp : l[i]? = some 58 ∧ l[i + 1]? = some 93 := Classical.byContradiction fun hn => hc ⟨h3, hn⟩
      conv => lhs; unfold nameEnd
      rw [if_neg (fun hh => hh.2 ⟨h.some' hp.1, h.some' hp.2⟩)]
theorem items_end (f : Nat) : ∀ (first : Bool) (at_ : Nat) (m m' : Nat → Bool) (a : Nat), itemsF l f first at_ m = some (m', a) → l[a]? = some 93 := by
  induction f with
  | zero => intro first at_ m m' a h; cases h
  | succ f ih =>
    intro first at_ m m' a h
    unfold itemsF at h
    split at h
    · rename_i h1
      simp only [Bool.and_eq_true, beq_iff_eq] at h1
      injection h with h
      injection h with _ h
      subst h
      exact h1.2
    · split at h
      · cases h
      · split at h
        · simp only at h
          split at h
          · cases h
          · split at h
            · cases h
            · exact ih _ _ _ _ _ h
        · split at h
          · simp only at h
            split at h
            · cases h
            · exact ih _ _ _ _ _ h
          · exact ih _ _ _ _ _ h
theorem items_grp (h : Grp l l') (f : Nat) : ∀ (f' : Nat) (first : Bool) (at_ : Nat) (m m' : Nat → Bool) (a : Nat), f ≤ f' → itemsF l f first at_ m = some (m', a) → itemsF l' f' first (at_ + 1) m = some (m', a + 1) := by
  induction f with
  | zero => intro f' first at_ m m' a _ h; cases h
  | succ f ih =>
    intro f' first at_ m m' a hf e
    obtain ⟨f2, rfl⟩ : ∃ f2, f' = f2 + 1 := ⟨f' - 1, by omega⟩
    unfold itemsF at e ⊢
    cases hx : l[at_]? with
    | none =>
      rw [hx] at e
      have : (!first && (none : Option UInt8) == some 93) = false := by cases first <;> rfl
      rw [this] at e
      cases e
    | some c =>
      have hl := get_lt hx
      rw [h.some' hx]
      rw [hx] at e
      by_cases h1 : (!first && some c == some 93) = true
      · rw [if_pos h1] at e ⊢
        injection e with e
        injection e with e1 e2
        rw [e1, e2]
      · rw [if_neg h1] at e ⊢
        simp only at e ⊢
        have i58 : l'[at_ + 1 + 1]? = some 58 ↔ l[at_ + 1]? = some 58 := h.iff (by omega) (by decide)
        have i45 : l'[at_ + 1 + 1]? = some 45 ↔ l[at_ + 1]? = some 45 := h.iff (by omega) (by decide)
        by_cases h2 : c = 91 ∧ l[at_ + 1]? = some 58
        · rw [if_pos h2] at e
          rw [if_pos ⟨h2.1, i58.2 h2.2⟩]
          have hb := get_lt h2.2
          cases hcl : clsF ((l.drop (at_ + 2)).take (nameEnd l l.length (at_ + 2) - (at_ + 2))) with
          | none => rw [hcl] at e; cases e
          | some p =>
            rw [hcl] at e
            simp only at e
            by_cases h3 : l.length ≤ nameEnd l l.length (at_ + 2) + 1
            · rw [if_pos h3] at e; cases e
            · rw [if_neg h3] at e
              have hge := nameEnd_ge (l := l) l.length (at_ + 2)
              have hn : nameEnd l' l'.length (at_ + 1 + 2) = nameEnd l l.length (at_ + 2) + 1 := name_grp h l.length l'.length (at_ + 2) (by rw [h.len]; omega) (by omega) (by omega)
              have hs : (l'.drop (at_ + 1 + 2)).take (nameEnd l l.length (at_ + 2) + 1 - (at_ + 1 + 2)) = (l.drop (at_ + 2)).take (nameEnd l l.length (at_ + 2) - (at_ + 2)) := by
                rw [show nameEnd l l.length (at_ + 2) + 1 - (at_ + 1 + 2) = nameEnd l l.length (at_ + 2) - (at_ + 2) by omega]
                exact h.sub (a := at_ + 2) (by omega)
              rw [hn, hs, hcl]
              simp only
              rw [if_neg (by rw [h.len]; omega)]
              exact ih f2 false _ _ _ _ (by omega) e
        · rw [if_neg h2] at e
          rw [if_neg (fun hh => h2 ⟨hh.1, i58.1 hh.2⟩)]
          by_cases h3 : l[at_ + 1]? = some 45 ∧ at_ + 2 < l.length ∧ l[at_ + 2]? ≠ some 93
          · rw [if_pos h3] at e
            have hg : l'[at_ + 1 + 2]? = l[at_ + 2]? := h.get (i := at_ + 2) h3.2.1
            rw [if_pos ⟨i45.2 h3.1, by rw [h.len]; omega, by rw [hg]; exact h3.2.2⟩, hg]
            split at e
            · cases e
            · rename_i h4
              rw [if_neg h4]
              exact ih f2 false _ _ _ _ (by omega) e
          · rw [if_neg h3] at e
            have hadv := items_adv _ _ _ _ _ _ e
            have hend := items_end _ _ _ _ _ _ e
            rw [if_neg (fun hh => by
              have g1 := i45.1 hh.1
              have hb := get_lt g1
              rcases Nat.lt_or_ge (at_ + 2) l.length with h5 | h5
              · exact h3 ⟨g1, h5, by rw [← h.get h5]; exact hh.2.2⟩
              · have : a = at_ + 1 := by omega
                subst this
                rw [g1] at hend
                injection hend with hend
                exact absurd hend (by decide))]
            exact ih f2 false _ _ _ _ (by omega) e
theorem class_grp (h : Grp l l') {at_ : Nat} {m : Nat → Bool} {a : Nat} (ha : at_ ≤ l.length) (e : classF l at_ = some (m, a)) : classF l' (at_ + 1) = some (m, a + 1) := by
  unfold classF at e ⊢
  have hi : l'[at_ + 1]? = some 94 ↔ l[at_]? = some 94 := h.iff ha (by decide)
  by_cases h1 : l[at_]? = some 94
  · rw [if_pos h1] at e
    rw [if_pos (hi.2 h1)]
    obtain ⟨⟨m', a'⟩, h2, h3⟩ := Option.map_eq_some_iff.1 e
    rw [items_grp h (l.length + 1) (l'.length + 1) true (at_ + 1) noSet m' a' (by rw [h.len]; omega) h2]
    injection h3 with h4 h5
    rw [← h4, ← h5]; rfl
  · rw [if_neg h1] at e
    rw [if_neg (fun hh => h1 (hi.1 hh))]
    obtain ⟨⟨m', a'⟩, h2, h3⟩ := Option.map_eq_some_iff.1 e
    rw [items_grp h (l.length + 1) (l'.length + 1) true at_ noSet m' a' (by rw [h.len]; omega) h2]
    injection h3 with h4 h5
    rw [← h4, ← h5]; rfl
theorem run_app (r : List UInt8) : (r ++ [41]).takeWhile Sc.isDig = r.takeWhile Sc.isDig := by
  induction r with
  | nil => rfl
  | cons b r ih =>
    rw [List.cons_append, List.takeWhile_cons, List.takeWhile_cons, ih]
theorem num_grp (h : Grp l l') {k n e : Nat} (hn : Sc.numF l (k : Int) = some (n, e)) : Sc.numF l' ((k + 1 : Nat) : Int) = some (n, e + 1) := by
  unfold Sc.numF at hn ⊢
  split at hn
  · cases hn
  · rename_i h1
    have hk : k ≤ l.length := by omega
    rw [if_neg (by rw [h.len]; omega)]
    rw [show ((k : Int)).toNat = k by omega] at hn
    rw [show (((k + 1 : Nat) : Int)).toNat = k + 1 by omega]
    have hd : l'.drop (k + 1) = l.drop k ++ [41] := by
      unfold Grp at h
      rw [h, List.drop_succ_cons, List.drop_append_of_le_length hk]
    have he : Sc.endOf Sc.isDig l' (k + 1) = Sc.endOf Sc.isDig l k + 1 := by
      unfold Sc.endOf
      rw [hd, run_app]; omega
    have i48 : l'[k + 1]? = some 48 ↔ l[k]? = some 48 := h.iff hk (by decide)
    unfold Sc.numAt at hn ⊢
    rw [he]
    split at hn
    · cases hn
    · rename_i h2
      split at hn
      · cases hn
      · rename_i h3
        rw [if_neg (by omega), if_neg (fun hh => h3 ⟨i48.1 hh.1, by omega⟩)]
        rw [Sc.scanV_eq] at hn ⊢
        rw [hd, run_app]
        obtain ⟨v, h4, h5⟩ := Option.map_eq_some_iff.1 hn
        rw [h4]
        injection h5 with h5 h6
        subst h5 h6
        show some (v, k + 1 + _) = some (v, k + _ + 1)
        rw [show k + 1 + (List.takeWhile Sc.isDig (List.drop k l)).length = k + (List.takeWhile Sc.isDig (List.drop k l)).length + 1 by omega]
theorem fin_grp (h : Grp l l') {m m' nx nx' : Nat} {x x' : Int} (e : finB l m x nx = some (m', x', nx')) : finB l' m x (nx + 1) = some (m', x', nx' + 1) := by
  unfold finB at e ⊢
  split at e
  · rename_i h1
    rw [if_pos ⟨h.some' h1.1, h1.2⟩]
    injection e with e
    injection e with e1 e
    injection e with e2 e3
    rw [e1, e2, e3]
  · cases e
theorem bounds_grp (h : Grp l l') {a m nx : Nat} {x : Int} (e : boundsF l a = some (m, x, nx)) : boundsF l' (a + 1) = some (m, x, nx + 1) := by
  unfold boundsF at e ⊢
  cases hn : Sc.numF l ((a : Int) + 1) with
  | none => rw [hn] at e; cases e
  | some r =>
    obtain ⟨m0, n0⟩ := r
    rw [hn] at e
    have ha := num_adv hn
    have hn' : Sc.numF l' (((a + 1 : Nat) : Int) + 1) = some (m0, n0 + 1) := by
      have := num_grp h (k := a + 1) (by rw [show ((a + 1 : Nat) : Int) = (a : Int) + 1 by omega]; exact hn)
      rw [show (((a + 1 : Nat) : Int) + 1) = ((a + 1 + 1 : Nat) : Int) by omega]
      exact this
    rw [hn']
    simp only at e ⊢
    have i44 : l'[n0 + 1]? = some 44 ↔ l[n0]? = some 44 := h.iff ha.2 (by decide)
    by_cases h44 : l[n0]? = some 44
    · rw [if_pos h44] at e
      rw [if_pos (i44.2 h44)]
      have hlt := get_lt h44
      by_cases hc : n0 + 1 < l.length ∧ l[n0 + 1]? ≠ some 125
      · rw [if_pos hc] at e
        rw [if_pos ⟨by rw [h.len]; omega, by rw [h.get hc.1]; exact hc.2⟩]
        cases hn2 : Sc.numF l ((n0 : Int) + 1) with
        | none => rw [hn2] at e; cases e
        | some r2 =>
          obtain ⟨m2, n2⟩ := r2
          rw [hn2] at e
          have hn2' : Sc.numF l' (((n0 + 1 : Nat) : Int) + 1) = some (m2, n2 + 1) := by
            have := num_grp h (k := n0 + 1) (by rw [show ((n0 + 1 : Nat) : Int) = (n0 : Int) + 1 by omega]; exact hn2)
            rw [show (((n0 + 1 : Nat) : Int) + 1) = ((n0 + 1 + 1 : Nat) : Int) by omega]
            exact this
          rw [hn2']
          exact fin_grp h e
      · rw [if_neg hc] at e
        have h5 := fin_adv e
        have h6 : l[n0 + 1]? = some 125 := Classical.byContradiction fun hne => hc ⟨h5.2, hne⟩
        rw [if_neg (fun hh => hh.2 (h.some' h6))]
        exact fin_grp h e
    · rw [if_neg h44] at e
      rw [if_neg (fun hh => h44 (i44.1 hh))]
      exact fin_grp h e
theorem quant_grp (h : Grp l l') {a m a2 : Nat} {x : Int} (e : quantF l a = some (some (m, x, a2))) : quantF l' (a + 1) = some (some (m, x, a2 + 1)) := by
  unfold quantF at e ⊢
  cases hx : l[a]? with
  | none => rw [hx] at e; cases e
  | some c =>
    rw [hx] at e
    rw [h.some' hx]
    simp only at e ⊢
    split at e
    · rename_i hc
      rw [if_pos hc]
      injection e with e; injection e with e; injection e with e1 e; injection e with e2 e3
      rw [← e1, ← e2, ← e3]
    · rename_i hc
      rw [if_neg hc]
      split at e
      · rename_i hc
        rw [if_pos hc]
        injection e with e; injection e with e; injection e with e1 e; injection e with e2 e3
        rw [← e1, ← e2, ← e3]
      · rename_i hc
        rw [if_neg hc]
        split at e
        · rename_i hc
          rw [if_pos hc]
          injection e with e; injection e with e; injection e with e1 e; injection e with e2 e3
          rw [← e1, ← e2, ← e3]
        · rename_i hc
          rw [if_neg hc]
          split at e
          · rename_i hc
            rw [if_pos hc]
            injection e with e
            rw [bounds_grp h e]
          · cases e
theorem quant_none (h : Grp l l') {a : Nat} (ha : a ≤ l.length) (e : quantF l a = none) : quantF l' (a + 1) = none := by
  rcases Nat.lt_or_ge a l.length with h1 | h1
  · unfold quantF at e ⊢
    rw [h.get h1]
    cases hx : l[a]? with
    | none => rfl
    | some c =>
      rw [hx] at e
      simp only at e ⊢
      split at e
      · cases e
      · rename_i hc
        rw [if_neg hc]
        split at e
        · cases e
        · rename_i hc
          rw [if_neg hc]
          split at e
          · cases e
          · rename_i hc
            rw [if_neg hc]
            split at e
            · cases e
            · rename_i hc
              rw [if_neg hc]
  · have : a = l.length := by omega
    subst this
    unfold quantF
    rw [h.last]; rfl
/-- What f reads at a, f' reads one further. -/
def SimAt (f f' : Nat → List Nd → Res) (a : Nat) : Prop := ∀ ns k b ns2, f a ns = .ok (k, b, ns2) → f' (a + 1) ns = .ok (k, b + 1, ns2)
def SimO (l : List UInt8) (p p' : Option (Nat → List Nd → Res)) (lo : Nat) : Prop := ∀ a, lo ≤ a → l[a]? = some 40 → ∀ f, p = some f → ∃ f', p' = some f' ∧ SimAt f f' (a + 1)
theorem SimO.mono {p p' : Option (Nat → List Nd → Res)} {lo lo' : Nat} (h : SimO l p p' lo) (hl : lo ≤ lo') : SimO l p p' lo' := fun a ha => h a (by omega)
section
variable {p p' : Option (Nat → List Nd → Res)} {inner : Bool}
theorem ok_parts {k k' : Int} {a a' : Nat} {n n' : List Nd} (h : (Except.ok (k, a, n) : Res) = .ok (k', a', n')) : k = k' ∧ a = a' ∧ n = n' := by
  injection h with h; injection h with h1 h; injection h with h2 h3; exact ⟨h1, h2, h3⟩
theorem atom_grp (h : Grp l l') {at_ : Nat} (hp : SimO l p p' at_) {ns : List Nd} {k : Int} {b : Nat} {ns2 : List Nd} (e : atomF l p at_ ns = .ok (k, b, ns2)) : atomF l' p' (at_ + 1) ns = .ok (k, b + 1, ns2) := by
  unfold atomF at e ⊢
  cases hx : l[at_]? with
  | none => rw [hx] at e; cases e
  | some c =>
    have hl := get_lt hx
    rw [hx] at e
    rw [h.some' hx]
    simp only at e ⊢
    split at e
    · rename_i hc
      rw [if_pos hc]
      cases hpo : p with
      | none => rw [hpo] at e; cases e
      | some f =>
        rw [hpo] at e
        obtain ⟨f', hf', hs⟩ := hp at_ (Nat.le_refl _) (by rw [hx, hc]) f hpo
        rw [hf']
        simp only at e ⊢
        cases hr : f (at_ + 1) ns with
        | error c => rw [hr] at e; cases e
        | ok r =>
          obtain ⟨k1, a1, ns1⟩ := r
          rw [hr] at e
          rw [hs ns k1 a1 ns1 hr]
          simp only at e ⊢
          split at e
          · rename_i h41
            rw [if_pos (h.some' h41)]
            obtain ⟨e1, e2, e3⟩ := ok_parts e
            rw [e1, e2, e3]
          · cases e
    · rename_i hc
      rw [if_neg hc]
      split at e
      · rename_i hc
        rw [if_pos hc]
        cases hcl : classF l (at_ + 1) with
        | none => rw [hcl] at e; cases e
        | some r =>
          obtain ⟨m, a⟩ := r
          rw [hcl] at e
          rw [class_grp h (by omega) hcl]
          simp only at e ⊢
          obtain ⟨e1, e2, e3⟩ := ok_parts e
          rw [e1, e2, e3]
      · rename_i hc
        rw [if_neg hc]
        split at e
        · rename_i hc
          rw [if_pos hc]
          obtain ⟨e1, e2, e3⟩ := ok_parts e
          rw [e1, ← e2, e3]
        · rename_i hc
          rw [if_neg hc]
          split at e
          · rename_i hc
            rw [if_pos hc]
            obtain ⟨e1, e2, e3⟩ := ok_parts e
            rw [e1, ← e2, e3]
          · rename_i hc
            rw [if_neg hc]
            split at e
            · rename_i hc
              rw [if_pos hc]
              obtain ⟨e1, e2, e3⟩ := ok_parts e
              rw [e1, ← e2, e3]
            · rename_i hc
              rw [if_neg hc]
              split at e
              · cases e
              · rename_i hc
                rw [if_neg hc]
                split at e
                · rename_i hc
                  rw [if_pos hc]
                  cases hb : l[at_ + 1]? with
                  | none => rw [hb] at e; cases e
                  | some b2 =>
                    rw [hb] at e
                    rw [h.some' hb]
                    simp only at e ⊢
                    obtain ⟨e1, e2, e3⟩ := ok_parts e
                    rw [e1, ← e2, e3]
                · rename_i hc
                  rw [if_neg hc]
                  obtain ⟨e1, e2, e3⟩ := ok_parts e
                  rw [e1, ← e2, e3]
theorem piece_grp (h : Grp l l') (ha : AdvO l p) {at_ : Nat} (hp : SimO l p p' at_) (hat : at_ ≤ l.length) {ns : List Nd} {k : Int} {b : Nat} {ns2 : List Nd} (e : pieceF l p at_ ns = .ok (k, b, ns2)) : pieceF l' p' (at_ + 1) ns = .ok (k, b + 1, ns2) := by
  unfold pieceF at e ⊢
  cases hr : atomF l p at_ ns with
  | error c => rw [hr] at e; cases e
  | ok r =>
    obtain ⟨k1, a1, ns1⟩ := r
    rw [hr] at e
    rw [atom_grp h hp hr]
    have hadv := atom_adv ha hr
    simp only at e ⊢
    cases hq : quantF l a1 with
    | none =>
      rw [hq] at e
      rw [quant_none h hadv.2.1 hq]
      simp only at e ⊢
      obtain ⟨e1, e2, e3⟩ := ok_parts e
      rw [e1, e2, e3]
    | some q =>
      rw [hq] at e
      cases q with
      | none => cases e
      | some q =>
        obtain ⟨m, x, a2⟩ := q
        rw [quant_grp h hq]
        simp only at e ⊢
        split at e
        · cases e
        · rename_i hc
          have i94 : l'[at_ + 1]? = some 94 ↔ l[at_]? = some 94 := h.iff hat (by decide)
          have i36 : l'[at_ + 1]? = some 36 ↔ l[at_]? = some 36 := h.iff hat (by decide)
          rw [if_neg (fun hh => hc (hh.imp i94.1 i36.1))]
          obtain ⟨e1, e2, e3⟩ := ok_parts e
          rw [e1, ← e2, e3]
theorem piece_no41 {at_ : Nat} {ns : List Nd} {r : Int × Nat × List Nd} (e : pieceF l p at_ ns = .ok r) : l[at_]? ≠ some 41 := by
  intro hx
  unfold pieceF atomF at e
  rw [hx] at e
  cases e
theorem more_T (h : Grp l l') {a : Nat} (hm : moreF l inner a = true) (hx : l[a]? ≠ some 41) : moreF l' true (a + 1) = true := by
  unfold moreF at hm ⊢
  cases hc : l[a]? with
  | none => rw [hc] at hm; cases hm
  | some c =>
    rw [hc] at hm
    rw [h.some' hc]
    simp only at hm ⊢
    have hne : (c == 41) = false := by rw [beq_eq_false_iff_ne]; rintro rfl; exact hx hc
    rw [hne] at hm ⊢
    simpa using hm
theorem more_F (h : Grp l l') {a : Nat} (ha : a ≤ l.length) (hm : moreF l inner a = false) : moreF l' true (a + 1) = false := by
  rcases Nat.lt_or_ge a l.length with h1 | h1
  · unfold moreF at hm ⊢
    rw [h.get h1]
    cases hc : l[a]? with
    | none => rfl
    | some c =>
      rw [hc] at hm
      simp only at hm ⊢
      cases inner <;> simp at hm ⊢
      · intro hh; exact absurd hm hh
      · exact hm
  · have : a = l.length := by omega
    subst this
    unfold moreF
    rw [h.last]; rfl
theorem pieces_grp (h : Grp l l') (ha : AdvO l p) (f : Nat) : ∀ (f' at_ : Nat) (ns : List Nd) (kids : List Int), f ≤ f' → at_ ≤ l.length → SimO l p p' at_ → ∀ kids' b ns2, piecesF l p inner f at_ ns kids = .ok (kids', b, ns2) → piecesF l' p' true f' (at_ + 1) ns kids = .ok (kids', b + 1, ns2) := by
  induction f with
  | zero => intro f' at_ ns kids _ _ _ kids' b ns2 e; cases e
  | succ f ih =>
    intro f' at_ ns kids hf hl hp kids' b ns2 e
    obtain ⟨f2, rfl⟩ : ∃ f2, f' = f2 + 1 := ⟨f' - 1, by omega⟩
    unfold piecesF at e ⊢
    by_cases hm : moreF l inner at_ = true
    · rw [if_pos hm] at e
      cases hr : pieceF l p at_ ns with
      | error c => rw [hr] at e; cases e
      | ok r =>
        have h41 := piece_no41 hr
        obtain ⟨k1, a1, ns1⟩ := r
        rw [hr] at e
        rw [if_pos (more_T h hm h41), piece_grp h ha hp hl hr]
        simp only at e ⊢
        have hadv := piece_adv ha hr
        exact ih f2 a1 ns1 _ (by omega) hadv.2.1 (hp.mono (by omega)) _ _ _ e
    · rw [if_neg hm] at e
      have hm' : moreF l inner at_ = false := by cases hh : moreF l inner at_ with | true => exact absurd hh hm | false => rfl
      rw [if_neg (by rw [more_F h hl hm']; decide)]
      injection e with e; injection e with e1 e; injection e with e2 e3
      rw [e1, e2, e3]
theorem alt_grp (h : Grp l l') (ha : AdvO l p) {at_ : Nat} (hl : at_ ≤ l.length) (hp : SimO l p p' at_) {ns : List Nd} {k : Int} {b : Nat} {ns2 : List Nd} (e : altF l p inner at_ ns = .ok (k, b, ns2)) : altF l' p' true (at_ + 1) ns = .ok (k, b + 1, ns2) := by
  unfold altF at e ⊢
  cases hr : piecesF l p inner (l.length + 1) at_ ns [] with
  | error c => rw [hr] at e; cases e
  | ok r =>
    obtain ⟨kids, a1, ns1⟩ := r
    rw [hr] at e
    rw [pieces_grp h ha (l.length + 1) (l'.length + 1) at_ ns [] (by rw [h.len]; omega) hl hp _ _ _ hr]
    rcases kids with _ | ⟨k0, _ | ⟨k1, r⟩⟩
    · obtain ⟨e1, e2, e3⟩ := ok_parts e; simp only; rw [e1, e2, e3]
    · obtain ⟨e1, e2, e3⟩ := ok_parts e; simp only; rw [e1, e2, e3]
    · obtain ⟨e1, e2, e3⟩ := ok_parts e; simp only; rw [e1, e2, e3]
theorem alts_grp (h : Grp l l') (ha : AdvO l p) (f : Nat) : ∀ (f' at_ : Nat) (ns : List Nd) (kids : List Int), f ≤ f' → at_ ≤ l.length → SimO l p p' at_ → ∀ kids' b ns2, altsF l p inner f at_ ns kids = .ok (kids', b, ns2) → altsF l' p' true f' (at_ + 1) ns kids = .ok (kids', b + 1, ns2) := by
  induction f with
  | zero => intro f' at_ ns kids _ _ _ kids' b ns2 e; cases e
  | succ f ih =>
    intro f' at_ ns kids hf hl hp kids' b ns2 e
    obtain ⟨f2, rfl⟩ : ∃ f2, f' = f2 + 1 := ⟨f' - 1, by omega⟩
    unfold altsF at e ⊢
    have i124 : l'[at_ + 1]? = some 124 ↔ l[at_]? = some 124 := h.iff hl (by decide)
    by_cases hm : l[at_]? = some 124
    · have hlt := get_lt hm
      rw [if_pos hm] at e
      rw [if_pos (i124.2 hm)]
      cases hr : altF l p inner (at_ + 1) ns with
      | error c => rw [hr] at e; cases e
      | ok r =>
        obtain ⟨k1, a1, ns1⟩ := r
        rw [hr] at e
        rw [alt_grp h ha (by omega) (hp.mono (by omega)) hr]
        simp only at e ⊢
        have hadv := alt_adv ha (by omega) hr
        exact ih f2 a1 ns1 _ (by omega) hadv.2.1 (hp.mono (by omega)) _ _ _ e
    · rw [if_neg hm] at e
      rw [if_neg (fun hh => hm (i124.1 hh))]
      injection e with e; injection e with e1 e; injection e with e2 e3
      rw [e1, e2, e3]
theorem pat_grp (h : Grp l l') (ha : AdvO l p) {at_ : Nat} (hl : at_ ≤ l.length) (hp : SimO l p p' at_) : SimAt (patF l p inner) (patF l' p' true) at_ := by
  intro ns k b ns2 e
  unfold patF at e ⊢
  cases hr : altF l p inner at_ ns with
  | error c => rw [hr] at e; cases e
  | ok r =>
    obtain ⟨k1, a1, ns1⟩ := r
    rw [hr] at e
    have hadv := alt_adv ha hl hr
    rw [alt_grp h ha hl hp hr]
    simp only at e ⊢
    cases hr2 : altsF l p inner (l.length + 1) a1 ns1 [k1] with
    | error c => rw [hr2] at e; cases e
    | ok r2 =>
      obtain ⟨kids, a2, ns3⟩ := r2
      rw [hr2] at e
      rw [alts_grp h ha (l.length + 1) (l'.length + 1) a1 ns1 [k1] (by rw [h.len]; omega) hadv.2.1 (hp.mono (by omega)) _ _ _ hr2]
      rcases kids with _ | ⟨k0, _ | ⟨k1', r⟩⟩
      · obtain ⟨e1, e2, e3⟩ := ok_parts e; simp only; rw [e1, e2, e3]
      · obtain ⟨e1, e2, e3⟩ := ok_parts e; simp only; rw [e1, e2, e3]
      · obtain ⟨e1, e2, e3⟩ := ok_parts e; simp only; rw [e1, e2, e3]
end
theorem count_at {a : Nat} (h : l[a]? = some 40) : (l.drop a).count 40 = (l.drop (a + 1)).count 40 + 1 := by
  have hl := get_lt h
  rw [List.drop_eq_getElem_cons hl, List.count_cons]
  have : l[a] = 40 := by rw [List.getElem?_eq_getElem hl] at h; injection h
  rw [this]; rfl
theorem count_le {a b : Nat} (h : a ≤ b) : (l.drop b).count 40 ≤ (l.drop a).count 40 := by
  have : l.drop b = (l.drop a).drop (b - a) := by rw [List.drop_drop]; congr 1; omega
  rw [this]
  exact (List.drop_sublist _ _).count_le _
theorem group_grp (h : Grp l l') (g' : Nat) : ∀ (g a : Nat), a ≤ l.length → (l.drop a).count 40 ≤ g' → SimAt (groupF l g) (groupF l' g') a := by
  induction g' with
  | zero =>
    intro g a ha hc
    have hs : ∀ p, SimO l p none a := fun p a2 h2 h40 => by
      have := count_at h40
      have := count_le (l := l) h2
      omega
    cases g with
    | zero => exact pat_grp h (fun f e => by cases e) ha (hs _)
    | succ g => exact pat_grp h (fun f e => by injection e with e; subst e; exact group_adv g) ha (hs _)
  | succ g' ih =>
    intro g a ha hc
    cases g with
    | zero => exact pat_grp h (fun f e => by cases e) ha (fun a2 h2 h40 f e => by cases e)
    | succ g =>
      refine pat_grp h (fun f e => by injection e with e; subst e; exact group_adv g) ha (fun a2 h2 h40 f e => ?_)
      injection e with e
      subst e
      have h3 := count_at h40
      have h4 := count_le (l := l) h2
      have h5 := get_lt h40
      exact ⟨_, rfl, ih g (a2 + 1) (by omega) (by omega)⟩
theorem parse_grp {ns : List Nd} (e : parseF l = .ok ns) (hl : l.length + 2 ≤ 256) (hc : l.count 40 ≤ 48) : parseF (40 :: (l ++ [41])) = .ok ns := by
  obtain ⟨l', hl'⟩ : ∃ l', l' = 40 :: (l ++ [41]) := ⟨_, rfl⟩
  have h : Grp l l' := hl'
  have h0 : l'[0]? = some 40 := by rw [hl']; rfl
  rw [← hl']
  clear hl'
  have hlen := h.len
  unfold parseF at e
  rw [if_neg (by omega)] at e
  cases hr : patF l (some (groupF l 49)) false 0 [] with
  | error c => rw [hr] at e; cases e
  | ok r =>
    obtain ⟨k, a, ns1⟩ := r
    rw [hr] at e
    simp only at e
    split at e
    · cases e
    · rename_i hna
      injection e with e
      subst e
      have hadv := pat_adv (inner := false) (p := some (groupF l 49)) (fun f e => by injection e with e; subst e; exact group_adv 49) 0 [] (by omega) _ _ _ hr
      have ha : a = l.length := by omega
      subst ha
      have hsim : groupF l' 49 1 [] = .ok (k, l.length + 1, ns1) := by
        have := pat_grp (p := some (groupF l 49)) (p' := some (groupF l' 48)) (inner := false) h (fun f e => by injection e with e; subst e; exact group_adv 49) (at_ := 0) (by omega) (fun a2 h2 h40 f e => by
          injection e with e
          subst e
          have h3 := count_at h40
          have h4 := count_le (l := l) (Nat.zero_le a2)
          have h5 := get_lt h40
          rw [List.drop_zero] at h4
          exact ⟨_, rfl, group_grp h 48 49 (a2 + 1) (by omega) (by omega)⟩)
        exact this [] k _ ns1 hr
      have hat : atomF l' (some (groupF l' 49)) 0 [] = .ok (k, l.length + 2, ns1) := by
        unfold atomF
        rw [h0]
        simp only
        rw [if_pos trivial]
        simp only [Nat.zero_add]
        rw [hsim]
        simp only
        rw [if_pos h.last]
      have hnone : l'[l.length + 2]? = none := List.getElem?_eq_none (by omega)
      have hpc : pieceF l' (some (groupF l' 49)) 0 [] = .ok (k, l.length + 2, ns1) := by
        unfold pieceF
        rw [hat]
        simp only
        have : quantF l' (l.length + 2) = none := by unfold quantF; rw [hnone]
        rw [this]
      have hps : piecesF l' (some (groupF l' 49)) false (l'.length + 1) 0 [] [] = .ok ([k], l.length + 2, ns1) := by
        unfold piecesF
        rw [if_pos (by unfold moreF; rw [h0]; rfl), hpc]
        simp only
        rw [hlen]
        unfold piecesF
        rw [if_neg (by unfold moreF; rw [hnone]; decide)]
        rfl
      have halt : altF l' (some (groupF l' 49)) false 0 [] = .ok (k, l.length + 2, ns1) := by
        unfold altF
        rw [hps]
      have hpat : patF l' (some (groupF l' 49)) false 0 [] = .ok (k, l.length + 2, ns1) := by
        unfold patF
        rw [halt]
        simp only
        unfold altsF
        rw [if_neg (by rw [hnone]; decide)]
      unfold parseF
      rw [if_neg (by omega), hpat]
      simp only
      rw [if_neg (by omega)]
end
end Rx
end Go.Proofs.Ytbjfopoakiagpaa

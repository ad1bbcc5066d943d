/-
  Plain mathematics: what the parser makes of a row of at most 40 pieces and bars (the verifier's patterns) weighs at most 1000. No program, no memory. No conditions.
-/
import Derived.Test.YtgadomcbaenodaaRegexMath
import Derived.Test.YtgadomcbaenodaaRegexWeight
namespace Go.Proofs.Ytgadomcbaenodaa
open Go.RowKit
namespace Rx
/-- All weights are at most 1000. -/
def GW (ns : List Nd) : Prop := ∀ x ∈ weightsF ns, 0 ≤ x ∧ x ≤ 1000
def BdW (ns : List Nd) (k : Int) (b : Int) : Prop := ∃ j : Nat, k = (j : Int) ∧ j < ns.length ∧ (weightsF ns).getD j 0 ≤ b
theorem weights_snoc (ns : List Nd) (n : Nd) : weightsF (ns ++ [n]) = stepW (weightsF ns) n := by unfold weightsF; rw [List.foldl_append]; rfl
theorem weights_app (ns ex : List Nd) : ∃ ws, weightsF (ns ++ ex) = weightsF ns ++ ws := by
  induction ex generalizing ns with
  | nil => exact ⟨[], by simp⟩
  | cons n r ih =>
    obtain ⟨ws, h⟩ := ih (ns ++ [n])
    rw [weights_snoc] at h
    exact ⟨capW (weighF n (sumW (weightsF ns) n.kids)) :: ws, by rw [show ns ++ n :: r = ns ++ [n] ++ r by simp, h]; unfold stepW; simp⟩
theorem BdW.app {ns : List Nd} {k b : Int} (h : BdW ns k b) (ex : List Nd) : BdW (ns ++ ex) k b := by
  obtain ⟨j, rfl, hj, hb⟩ := h
  obtain ⟨ws, e⟩ := weights_app ns ex
  refine ⟨j, rfl, by rw [List.length_append]; omega, ?_⟩
  rw [e, List.getD_eq_getElem?_getD, List.getElem?_append_left (by rw [weights_len]; exact hj), ← List.getD_eq_getElem?_getD]; exact hb
theorem GW.get {ns : List Nd} (h : GW ns) (j : Nat) : 0 ≤ (weightsF ns).getD j 0 ∧ (weightsF ns).getD j 0 ≤ 1000 := by
  rw [List.getD_eq_getElem?_getD]
  cases hx : (weightsF ns)[j]? with
  | none => exact ⟨Int.le_refl _, by decide⟩
  | some x => exact h x (List.mem_of_getElem? hx)
theorem GW.push {ns : List Nd} (h : GW ns) (n : Nd) (b : Int) (h0 : 0 ≤ weighF n (sumW (weightsF ns) n.kids)) (h1 : weighF n (sumW (weightsF ns) n.kids) ≤ b) (h2 : b ≤ 1000) : GW (ns ++ [n]) ∧ BdW (ns ++ [n]) ns.length b := by
  constructor
  · intro x hx
    rw [weights_snoc] at hx
    unfold stepW at hx
    rcases List.mem_append.1 hx with hx | hx
    · exact h x hx
    · rw [List.mem_singleton] at hx; subst hx; unfold capW; omega
  · refine ⟨ns.length, rfl, by simp, ?_⟩
    rw [weights_snoc]; unfold stepW
    rw [List.getD_eq_getElem?_getD, List.getElem?_append_right (by rw [weights_len]; exact Nat.le_refl _), weights_len, Nat.sub_self]
    show capW _ ≤ b
    unfold capW; omega
theorem GW.leaf {ns : List Nd} (h : GW ns) (n : Nd) (h4 : n.kind < 4) : GW (ns ++ [n]) ∧ BdW (ns ++ [n]) ns.length 1 := by
  have e : ∀ S, weighF n S = 1 := fun S => by unfold weighF; rw [if_neg (by omega), if_neg (by omega), if_neg (by omega)]
  exact h.push n 1 (by rw [e]; decide) (by rw [e]; exact Int.le_refl _) (by decide)
/-- The kids' weights together. -/
def SumB (ns : List Nd) (kids : List Int) (S : Int) : Prop := 0 ≤ sumW (weightsF ns) kids ∧ sumW (weightsF ns) kids ≤ S ∧ ∀ k ∈ kids, ∃ j : Nat, k = (j : Int) ∧ j < ns.length
theorem SumB.nil (ns : List Nd) : SumB ns [] 0 := ⟨Int.le_refl _, Int.le_refl _, fun _ h => by cases h⟩
theorem SumB.app {ns : List Nd} {kids : List Int} {S : Int} (h : SumB ns kids S) (ex : List Nd) : SumB (ns ++ ex) kids S := by
  obtain ⟨ws, e⟩ := weights_app ns ex
  obtain ⟨h0, h1, h2⟩ := h
  have he : sumW (weightsF (ns ++ ex)) kids = sumW (weightsF ns) kids := by
    clear h0 h1
    induction kids with
    | nil => rfl
    | cons k r ih =>
      rw [sumW, sumW, ih (fun k hk => h2 k (List.mem_cons_of_mem _ hk))]
      obtain ⟨j, rfl, hj⟩ := h2 k (List.mem_cons_self ..)
      rw [show ((j : Int)).toNat = j from by omega, e, List.getD_eq_getElem?_getD, List.getElem?_append_left (by rw [weights_len]; exact hj), ← List.getD_eq_getElem?_getD]
  refine ⟨by rw [he]; exact h0, by rw [he]; exact h1, fun k hk => ?_⟩
  obtain ⟨j, e, hj⟩ := h2 k hk
  exact ⟨j, e, by rw [List.length_append]; omega⟩
theorem SumB.snoc {ns : List Nd} {kids : List Int} {S k b : Int} (h : SumB ns kids S) (hg : GW ns) (hk : BdW ns k b) : SumB ns (kids ++ [k]) (S + b) := by
  obtain ⟨j, rfl, hj, hb⟩ := hk
  obtain ⟨h0, h1, h2⟩ := h
  have := (hg.get j).1
  refine ⟨?_, ?_, fun x hx => ?_⟩
  · rw [sumW_snoc, show ((j : Int)).toNat = j from by omega]; omega
  · rw [sumW_snoc, show ((j : Int)).toNat = j from by omega]; omega
  · rcases List.mem_append.1 hx with hx | hx
    · exact h2 x hx
    · rw [List.mem_singleton] at hx; exact ⟨j, hx, hj⟩
theorem GW.cat {ns : List Nd} (h : GW ns) {kids : List Int} {S : Int} (hs : SumB ns kids S) (hS : S ≤ 1000) : GW (ns ++ [manyN 4 kids]) ∧ BdW (ns ++ [manyN 4 kids]) ns.length S := by
  have e : weighF (manyN 4 kids) (sumW (weightsF ns) kids) = sumW (weightsF ns) kids := by unfold weighF manyN; simp
  exact h.push _ S (by show 0 ≤ weighF (manyN 4 kids) (sumW (weightsF ns) kids); rw [e]; exact hs.1) (by show weighF (manyN 4 kids) (sumW (weightsF ns) kids) ≤ S; rw [e]; exact hs.2.1) hS
theorem GW.alt {ns : List Nd} (h : GW ns) {kids : List Int} {S : Int} (hs : SumB ns kids S) (h1 : 1 ≤ kids.length) (hS : S + (kids.length : Int) - 1 ≤ 1000) : GW (ns ++ [manyN 5 kids]) ∧ BdW (ns ++ [manyN 5 kids]) ns.length (S + (kids.length : Int) - 1) := by
  have e : weighF (manyN 5 kids) (sumW (weightsF ns) kids) = sumW (weightsF ns) kids + (kids.length : Int) - 1 := by unfold weighF manyN; simp
  have := hs.1
  have := hs.2.1
  exact h.push _ _ (by show 0 ≤ weighF (manyN 5 kids) (sumW (weightsF ns) kids); rw [e]; omega) (by show weighF (manyN 5 kids) (sumW (weightsF ns) kids) ≤ _; rw [e]; omega) hS
/-- The bounds of a mark. -/
def MarkB (m : Nat) (h : Int) : Prop := (m = 0 ∧ h = -1) ∨ (m = 1 ∧ h = -1) ∨ (m = 0 ∧ h = 1) ∨ (m = 2 ∧ h = 2) ∨ (m = 1 ∧ h = 2) ∨ (m = 2 ∧ h = -1)
theorem GW.rep {ns : List Nd} (hg : GW ns) {k b : Int} (hk : BdW ns k b) (hb : b ≤ 3) {m : Nat} {h : Int} (hm : MarkB m h) : GW (ns ++ [repN m h k]) ∧ BdW (ns ++ [repN m h k]) ns.length 10 := by
  obtain ⟨j, rfl, hj, hw⟩ := hk
  have h0 := (hg.get j).1
  have e : weighF (repN m h (j : Int)) (sumW (weightsF ns) [(j : Int)]) = (m : Int) * (weightsF ns).getD j 0 + optW m h * ((weightsF ns).getD j 0 + 1) := by
    unfold weighF repN; simp [sumW]
  have e2 : 0 ≤ weighF (repN m h (j : Int)) (sumW (weightsF ns) [(j : Int)]) ∧ weighF (repN m h (j : Int)) (sumW (weightsF ns) [(j : Int)]) ≤ 10 := by
    rw [e]
    generalize (weightsF ns).getD j 0 = x at hw h0
    rcases hm with ⟨rfl, rfl⟩ | ⟨rfl, rfl⟩ | ⟨rfl, rfl⟩ | ⟨rfl, rfl⟩ | ⟨rfl, rfl⟩ | ⟨rfl, rfl⟩ <;> simp [optW] <;> omega
  exact hg.push _ 10 e2.1 e2.2 (by decide)
end Rx
namespace Rx
def atomsL : List (List UInt8) := [[97], [98], [46], [91, 97, 98, 93], [91, 94, 97, 93], [40, 97, 124, 98, 41], [40, 97, 98, 41], [91, 91, 58, 97, 108, 112, 104, 97, 58, 93, 120, 93], [92, 43], [40, 41], [40, 98, 124, 41], [91, 97, 45, 99, 93], [93], [120], [94], [36]]
def marksL : List (List UInt8) := [[], [42], [43], [63], [123, 50, 125], [123, 49, 44, 50, 125], [123, 48, 44, 49, 125], [123, 50, 44, 125]]
theorem at_drop {l : List UInt8} {a : Nat} {t : List UInt8} (h : l.drop a = t) (i : Nat) : l[a + i]? = t[i]? := by rw [← h, List.getElem?_drop]
/-- What a reading at a place makes: it ends at e, it appends nodes, its root weighs at most b. -/
def Made (ns : List Nd) (e : Nat) (b : Int) (r : Res) : Prop := ∀ k a ns1, r = .ok (k, a, ns1) → a = e ∧ (∃ ex, ns1 = ns ++ ex) ∧ GW ns1 ∧ BdW ns1 k b
theorem Made.err (ns : List Nd) (e : Nat) (b : Int) (x : Int) : Made ns e b (.error x) := fun _ _ _ h => by cases h
theorem Made.leaf {ns : List Nd} (hg : GW ns) (n : Nd) (h4 : n.kind < 4) (e : Nat) (b : Int) (hb : 1 ≤ b) : Made ns e b (.ok (ns.length, e, ns ++ [n])) := fun k a ns1 h => by
  injection h with h; injection h with h1 h2; injection h2 with h2 h3
  subst h1 h2 h3
  obtain ⟨g, j, e, hj, hw⟩ := hg.leaf n h4
  exact ⟨rfl, ⟨_, rfl⟩, g, j, e, hj, by omega⟩
/-- A class: only where it ends matters. -/
theorem cls_made {l : List UInt8} {p : Option (Nat → List Nd → Res)} {at_ : Nat} {ns : List Nd} (hg : GW ns) (e : Nat) (h0 : l[at_]? = some 91) (hc : ∀ m a, classF l (at_ + 1) = some (m, a) → a = e) : Made ns e 3 (atomF l p at_ ns) := by
  unfold atomF
  rw [h0]
  simp only [show ¬ ((91 : UInt8) = 40) from by decide, if_false, if_true]
  cases hx : classF l (at_ + 1) with
  | none => exact Made.err ns e 3 _
  | some r =>
    obtain ⟨m, a⟩ := r
    have := hc m a hx
    subst this
    exact Made.leaf hg (setN m) (by show (1 : Int) < 4; decide) _ _ (by decide)
/-- A group: what its pattern makes. -/
theorem grp_made {l : List UInt8} {at_ : Nat} {ns : List Nd} (e : Nat) (h0 : l[at_]? = some 40) (h1 : l[e]? = some 41) (hp : ∀ p, Made ns e 3 (patF l p true (at_ + 1) ns)) : Made ns (e + 1) 3 (atomF l (some (groupF l 49)) at_ ns) := by
  have hq : Made ns e 3 (groupF l 49 (at_ + 1) ns) := hp _
  unfold atomF
  rw [h0]
  simp only [if_true]
  cases hx : groupF l 49 (at_ + 1) ns with
  | error x => exact Made.err ns _ 3 _
  | ok r =>
    obtain ⟨k, a, ns1⟩ := r
    obtain ⟨rfl, b⟩ := hq k a ns1 hx
    intro k2 a2 ns2 h2
    dsimp only at h2
    rw [h1, if_pos rfl] at h2
    injection h2 with h; injection h with h3 h4; injection h4 with h4 h5
    subst h3 h4 h5
    exact ⟨rfl, b⟩
end Rx
namespace Rx
theorem fuel_of {l t : List UInt8} {a : Nat} (h : l.drop a = t) (n : Nat) (hn : n ≤ t.length) : ∃ f, l.length = f + n := ⟨l.length - n, by have := congrArg List.length h; rw [List.length_drop] at this; omega⟩
theorem room_of {l t : List UInt8} {a : Nat} (h : l.drop a = t) (ht : t ≠ []) : l.length = a + t.length := by
  have h1 := congrArg List.length h
  rw [List.length_drop] at h1
  have h2 := List.length_pos_iff.2 ht
  omega
theorem nameP_step {l : List UInt8} {f i : Nat} {c : UInt8} (h : l[i]? = some c) (hc : c ≠ 58) (hi : i + 1 < l.length) : nameEnd l (f + 1) i = nameEnd l f (i + 1) := by
  rw [nameEnd, if_pos ⟨hi, by rw [h]; rintro ⟨e, _⟩; injection e with e; exact hc e⟩]
theorem nameP_stop {l : List UInt8} {f i : Nat} (h : l[i]? = some 58) (h2 : l[i + 1]? = some 93) : nameEnd l (f + 1) i = i := by
  rw [nameEnd, if_neg (by rintro ⟨_, h3⟩; exact h3 ⟨h, h2⟩)]
def one (c : Nat) : Nd := setN (putM noSet c)
theorem two_made {ns : List Nd} (hg : GW ns) (x y : Nd) (hx : x.kind < 4) (hy : y.kind < 4) (q : Int) (hq : q = 4 ∨ q = 5) (e : Nat) :
    Made ns e 3 (.ok ((ns.length : Int) + 2, e, ns ++ [x, y, manyN q [(ns.length : Int), (ns.length : Int) + 1]])) := fun k a ns1 h => by
  injection h with h; injection h with h1 h2; injection h2 with h2 h3
  subst h1 h2 h3
  obtain ⟨g1, b1⟩ := hg.leaf x hx
  obtain ⟨g2, b2⟩ := g1.leaf y hy
  have e2 : ((ns ++ [x]).length : Int) = (ns.length : Int) + 1 := by simp
  have e3 : ((ns ++ [x] ++ [y]).length : Int) = (ns.length : Int) + 2 := by simp
  rw [e2] at b2
  have s : SumB (ns ++ [x] ++ [y]) [(ns.length : Int), (ns.length : Int) + 1] (0 + 1 + 1) := ((SumB.nil _).snoc g2 (b1.app [y])).snoc g2 b2
  have el : ns ++ [x, y, manyN q [(ns.length : Int), (ns.length : Int) + 1]] = ns ++ [x] ++ [y] ++ [manyN q [(ns.length : Int), (ns.length : Int) + 1]] := by simp
  refine ⟨rfl, ⟨_, rfl⟩, ?_⟩
  rw [el]
  rcases hq with rfl | rfl
  · obtain ⟨g, j, e, hj, hw⟩ := g2.cat s (by decide)
    rw [e3] at e
    exact ⟨g, j, e, hj, by omega⟩
  · obtain ⟨g, j, e, hj, hw⟩ := g2.alt s (by simp) (by simp)
    rw [e3] at e
    rw [show (([(ns.length : Int), (ns.length : Int) + 1] : List Int).length : Int) = 2 from rfl] at hw
    exact ⟨g, j, e, hj, by omega⟩
theorem atom_0 {l : List UInt8} {at_ : Nat} {t : List UInt8} (h : l.drop at_ = [97] ++ t) {ns : List Nd} (hg : GW ns) : Made ns (at_ + 1) 3 (atomF l (some (groupF l 49)) at_ ns) := by
  have h0 : l[at_]? = some 97 := by have := at_drop h 0; rw [Nat.add_zero] at this; rw [this]; rfl
  simp only [atomF, h0, noAtom]
  simp
  exact Made.leaf hg _ (by first | exact (by decide : (1 : Int) < 4) | exact (by decide : (2 : Int) < 4) | exact (by decide : (3 : Int) < 4)) _ _ (by decide)
theorem atom_1 {l : List UInt8} {at_ : Nat} {t : List UInt8} (h : l.drop at_ = [98] ++ t) {ns : List Nd} (hg : GW ns) : Made ns (at_ + 1) 3 (atomF l (some (groupF l 49)) at_ ns) := by
  have h0 : l[at_]? = some 98 := by have := at_drop h 0; rw [Nat.add_zero] at this; rw [this]; rfl
  simp only [atomF, h0, noAtom]
  simp
  exact Made.leaf hg _ (by first | exact (by decide : (1 : Int) < 4) | exact (by decide : (2 : Int) < 4) | exact (by decide : (3 : Int) < 4)) _ _ (by decide)
theorem atom_2 {l : List UInt8} {at_ : Nat} {t : List UInt8} (h : l.drop at_ = [46] ++ t) {ns : List Nd} (hg : GW ns) : Made ns (at_ + 1) 3 (atomF l (some (groupF l 49)) at_ ns) := by
  have h0 : l[at_]? = some 46 := by have := at_drop h 0; rw [Nat.add_zero] at this; rw [this]; rfl
  simp only [atomF, h0, noAtom]
  simp
  exact Made.leaf hg _ (by first | exact (by decide : (1 : Int) < 4) | exact (by decide : (2 : Int) < 4) | exact (by decide : (3 : Int) < 4)) _ _ (by decide)
theorem atom_3 {l : List UInt8} {at_ : Nat} {t : List UInt8} (h : l.drop at_ = [91, 97, 98, 93] ++ t) {ns : List Nd} (hg : GW ns) : Made ns (at_ + 4) 3 (atomF l (some (groupF l 49)) at_ ns) := by
  have h1 : l[at_ + 1]? = some 97 := by rw [at_drop h]; rfl
  have h2 : l[at_ + 2]? = some 98 := by rw [at_drop h]; rfl
  have h3 : l[at_ + 3]? = some 93 := by rw [at_drop h]; rfl
  have h0 : l[at_]? = some 91 := by have := at_drop h 0; rw [Nat.add_zero] at this; rw [this]; rfl
  obtain ⟨f, hf⟩ := fuel_of h 4 (by simp)
  have hr := room_of h (by simp)
  simp only [List.length_append, List.length_cons, List.length_nil] at hr
  refine cls_made hg _ h0 (fun m a hc => ?_)
  simp only [classF, hf] at hc
  simp [itemsF, h1, h2, h3, hf, Nat.add_assoc] at hc
  omega
theorem atom_4 {l : List UInt8} {at_ : Nat} {t : List UInt8} (h : l.drop at_ = [91, 94, 97, 93] ++ t) {ns : List Nd} (hg : GW ns) : Made ns (at_ + 4) 3 (atomF l (some (groupF l 49)) at_ ns) := by
  have h1 : l[at_ + 1]? = some 94 := by rw [at_drop h]; rfl
  have h2 : l[at_ + 2]? = some 97 := by rw [at_drop h]; rfl
  have h3 : l[at_ + 3]? = some 93 := by rw [at_drop h]; rfl
  have h0 : l[at_]? = some 91 := by have := at_drop h 0; rw [Nat.add_zero] at this; rw [this]; rfl
  obtain ⟨f, hf⟩ := fuel_of h 4 (by simp)
  have hr := room_of h (by simp)
  simp only [List.length_append, List.length_cons, List.length_nil] at hr
  refine cls_made hg _ h0 (fun m a hc => ?_)
  simp only [classF, hf] at hc
  simp [itemsF, h1, h2, h3, hf, Nat.add_assoc] at hc
  omega
theorem atom_5 {l : List UInt8} {at_ : Nat} {t : List UInt8} (h : l.drop at_ = [40, 97, 124, 98, 41] ++ t) {ns : List Nd} (hg : GW ns) : Made ns (at_ + 5) 3 (atomF l (some (groupF l 49)) at_ ns) := by
  have h1 : l[at_ + 1]? = some 97 := by rw [at_drop h]; rfl
  have h2 : l[at_ + 2]? = some 124 := by rw [at_drop h]; rfl
  have h3 : l[at_ + 3]? = some 98 := by rw [at_drop h]; rfl
  have h4 : l[at_ + 4]? = some 41 := by rw [at_drop h]; rfl
  have h0 : l[at_]? = some 40 := by have := at_drop h 0; rw [Nat.add_zero] at this; rw [this]; rfl
  obtain ⟨f, hf⟩ := fuel_of h 5 (by simp)
  refine grp_made (at_ + 4) h0 h4 (fun p => ?_)
  have e : patF l p true (at_ + 1) ns = .ok ((ns.length : Int) + 2, at_ + 4, ns ++ [one 97, one 98, manyN 5 [(ns.length : Int), (ns.length : Int) + 1]]) := by
    simp [patF, altF, altsF, piecesF, pieceF, moreF, atomF, quantF, noAtom, h1, h2, h3, h4, hf, Nat.add_assoc, one]
  rw [e]
  exact two_made hg _ _ (by first | exact (by decide : (1 : Int) < 4) | exact (by decide : (0 : Int) < 4)) (by first | exact (by decide : (1 : Int) < 4) | exact (by decide : (0 : Int) < 4)) _ (by decide) _
theorem atom_6 {l : List UInt8} {at_ : Nat} {t : List UInt8} (h : l.drop at_ = [40, 97, 98, 41] ++ t) {ns : List Nd} (hg : GW ns) : Made ns (at_ + 4) 3 (atomF l (some (groupF l 49)) at_ ns) := by
  have h1 : l[at_ + 1]? = some 97 := by rw [at_drop h]; rfl
  have h2 : l[at_ + 2]? = some 98 := by rw [at_drop h]; rfl
  have h3 : l[at_ + 3]? = some 41 := by rw [at_drop h]; rfl
  have h0 : l[at_]? = some 40 := by have := at_drop h 0; rw [Nat.add_zero] at this; rw [this]; rfl
  obtain ⟨f, hf⟩ := fuel_of h 4 (by simp)
  refine grp_made (at_ + 3) h0 h3 (fun p => ?_)
  have e : patF l p true (at_ + 1) ns = .ok ((ns.length : Int) + 2, at_ + 3, ns ++ [one 97, one 98, manyN 4 [(ns.length : Int), (ns.length : Int) + 1]]) := by
    simp [patF, altF, altsF, piecesF, pieceF, moreF, atomF, quantF, noAtom, h1, h2, h3, hf, Nat.add_assoc, one]
  rw [e]
  exact two_made hg _ _ (by first | exact (by decide : (1 : Int) < 4) | exact (by decide : (0 : Int) < 4)) (by first | exact (by decide : (1 : Int) < 4) | exact (by decide : (0 : Int) < 4)) _ (by decide) _
theorem atom_7 {l : List UInt8} {at_ : Nat} {t : List UInt8} (h : l.drop at_ = [91, 91, 58, 97, 108, 112, 104, 97, 58, 93, 120, 93] ++ t) {ns : List Nd} (hg : GW ns) : Made ns (at_ + 12) 3 (atomF l (some (groupF l 49)) at_ ns) := by
  have h1 : l[at_ + 1]? = some 91 := by rw [at_drop h]; rfl
  have h2 : l[at_ + 2]? = some 58 := by rw [at_drop h]; rfl
  have h3 : l[at_ + 3]? = some 97 := by rw [at_drop h]; rfl
  have h4 : l[at_ + 4]? = some 108 := by rw [at_drop h]; rfl
  have h5 : l[at_ + 5]? = some 112 := by rw [at_drop h]; rfl
  have h6 : l[at_ + 6]? = some 104 := by rw [at_drop h]; rfl
  have h7 : l[at_ + 7]? = some 97 := by rw [at_drop h]; rfl
  have h8 : l[at_ + 8]? = some 58 := by rw [at_drop h]; rfl
  have h9 : l[at_ + 9]? = some 93 := by rw [at_drop h]; rfl
  have h10 : l[at_ + 10]? = some 120 := by rw [at_drop h]; rfl
  have h11 : l[at_ + 11]? = some 93 := by rw [at_drop h]; rfl
  have h0 : l[at_]? = some 91 := by have := at_drop h 0; rw [Nat.add_zero] at this; rw [this]; rfl
  obtain ⟨f, hf⟩ := fuel_of h 12 (by simp)
  have hr := room_of h (by simp)
  simp only [List.length_append, List.length_cons, List.length_nil] at hr
  refine cls_made hg _ h0 (fun m a hc => ?_)
  have hn : nameEnd l (f + 12) (at_ + 3) = at_ + 8 := by
    rw [nameP_step h3 (by decide) (by omega), nameP_step h4 (by decide) (by omega), nameP_step h5 (by decide) (by omega), nameP_step h6 (by decide) (by omega), nameP_step h7 (by decide) (by omega)]
    exact nameP_stop h8 h9
  have i3 : ¬ (f + 12 ≤ at_ + 9) := by omega
  simp only [classF, hf] at hc
  rw [h1, if_neg (by decide), itemsF, h1] at hc
  dsimp only at hc
  rw [if_neg (by simp), if_pos ⟨rfl, h2⟩] at hc
  rw [hf, show at_ + 1 + 2 = at_ + 3 from rfl, hn] at hc
  generalize clsF (List.take (at_ + 8 - (at_ + 3)) (List.drop (at_ + 3) l)) = q at hc
  cases q with
  | none => simp at hc
  | some q =>
    dsimp only at hc
    rw [if_neg (show ¬ (f + 12 ≤ at_ + 8 + 1) from i3)] at hc
    simp [itemsF, h10, h11, Nat.add_assoc] at hc
    omega
theorem atom_8 {l : List UInt8} {at_ : Nat} {t : List UInt8} (h : l.drop at_ = [92, 43] ++ t) {ns : List Nd} (hg : GW ns) : Made ns (at_ + 2) 3 (atomF l (some (groupF l 49)) at_ ns) := by
  have h1 : l[at_ + 1]? = some 43 := by rw [at_drop h]; rfl
  have h0 : l[at_]? = some 92 := by have := at_drop h 0; rw [Nat.add_zero] at this; rw [this]; rfl
  simp only [atomF, h0, h1, noAtom]
  simp
  exact Made.leaf hg _ (by first | exact (by decide : (1 : Int) < 4) | exact (by decide : (2 : Int) < 4) | exact (by decide : (3 : Int) < 4)) _ _ (by decide)
theorem atom_9 {l : List UInt8} {at_ : Nat} {t : List UInt8} (h : l.drop at_ = [40, 41] ++ t) {ns : List Nd} (hg : GW ns) : Made ns (at_ + 2) 3 (atomF l (some (groupF l 49)) at_ ns) := by
  have h1 : l[at_ + 1]? = some 41 := by rw [at_drop h]; rfl
  have h0 : l[at_]? = some 40 := by have := at_drop h 0; rw [Nat.add_zero] at this; rw [this]; rfl
  obtain ⟨f, hf⟩ := fuel_of h 2 (by simp)
  refine grp_made (at_ + 1) h0 h1 (fun p => ?_)
  have e : patF l p true (at_ + 1) ns = .ok ((ns.length : Int), at_ + 1, ns ++ [plainN 0]) := by
    simp [patF, altF, altsF, piecesF, moreF, h1]
  rw [e]
  exact Made.leaf hg (plainN 0) (by exact (by decide : (0 : Int) < 4)) _ _ (by decide)
theorem atom_10 {l : List UInt8} {at_ : Nat} {t : List UInt8} (h : l.drop at_ = [40, 98, 124, 41] ++ t) {ns : List Nd} (hg : GW ns) : Made ns (at_ + 4) 3 (atomF l (some (groupF l 49)) at_ ns) := by
  have h1 : l[at_ + 1]? = some 98 := by rw [at_drop h]; rfl
  have h2 : l[at_ + 2]? = some 124 := by rw [at_drop h]; rfl
  have h3 : l[at_ + 3]? = some 41 := by rw [at_drop h]; rfl
  have h0 : l[at_]? = some 40 := by have := at_drop h 0; rw [Nat.add_zero] at this; rw [this]; rfl
  obtain ⟨f, hf⟩ := fuel_of h 4 (by simp)
  refine grp_made (at_ + 3) h0 h3 (fun p => ?_)
  have e : patF l p true (at_ + 1) ns = .ok ((ns.length : Int) + 2, at_ + 3, ns ++ [one 98, plainN 0, manyN 5 [(ns.length : Int), (ns.length : Int) + 1]]) := by
    simp [patF, altF, altsF, piecesF, pieceF, moreF, atomF, quantF, noAtom, h1, h2, h3, hf, Nat.add_assoc, one]
  rw [e]
  exact two_made hg _ _ (by first | exact (by decide : (1 : Int) < 4) | exact (by decide : (0 : Int) < 4)) (by first | exact (by decide : (1 : Int) < 4) | exact (by decide : (0 : Int) < 4)) _ (by decide) _
theorem atom_11 {l : List UInt8} {at_ : Nat} {t : List UInt8} (h : l.drop at_ = [91, 97, 45, 99, 93] ++ t) {ns : List Nd} (hg : GW ns) : Made ns (at_ + 5) 3 (atomF l (some (groupF l 49)) at_ ns) := by
  have h1 : l[at_ + 1]? = some 97 := by rw [at_drop h]; rfl
  have h2 : l[at_ + 2]? = some 45 := by rw [at_drop h]; rfl
  have h3 : l[at_ + 3]? = some 99 := by rw [at_drop h]; rfl
  have h4 : l[at_ + 4]? = some 93 := by rw [at_drop h]; rfl
  have h0 : l[at_]? = some 91 := by have := at_drop h 0; rw [Nat.add_zero] at this; rw [this]; rfl
  obtain ⟨f, hf⟩ := fuel_of h 5 (by simp)
  have hr := room_of h (by simp)
  simp only [List.length_append, List.length_cons, List.length_nil] at hr
  refine cls_made hg _ h0 (fun m a hc => ?_)
  simp only [classF, hf] at hc
  have e : ∀ f m, itemsF l (f + 1) true (at_ + 1) m = itemsF l f false (at_ + 4) (fun x => m x || (decide ((97 : UInt8).toNat ≤ x) && decide (x ≤ (99 : UInt8).toNat))) := by
    intro f m
    rw [itemsF, h1]
    dsimp only
    rw [if_neg (by simp), if_neg (fun h => absurd h.1 (by decide)), if_pos ⟨h2, by omega, fun h => absurd (h3.symm.trans h) (by decide)⟩, h3]
    exact if_neg (by decide)
  rw [h1, if_neg (by decide), e] at hc
  simp [itemsF, h4] at hc
  omega
theorem atom_12 {l : List UInt8} {at_ : Nat} {t : List UInt8} (h : l.drop at_ = [93] ++ t) {ns : List Nd} (hg : GW ns) : Made ns (at_ + 1) 3 (atomF l (some (groupF l 49)) at_ ns) := by
  have h0 : l[at_]? = some 93 := by have := at_drop h 0; rw [Nat.add_zero] at this; rw [this]; rfl
  simp only [atomF, h0, noAtom]
  simp
  exact Made.leaf hg _ (by first | exact (by decide : (1 : Int) < 4) | exact (by decide : (2 : Int) < 4) | exact (by decide : (3 : Int) < 4)) _ _ (by decide)
theorem atom_13 {l : List UInt8} {at_ : Nat} {t : List UInt8} (h : l.drop at_ = [120] ++ t) {ns : List Nd} (hg : GW ns) : Made ns (at_ + 1) 3 (atomF l (some (groupF l 49)) at_ ns) := by
  have h0 : l[at_]? = some 120 := by have := at_drop h 0; rw [Nat.add_zero] at this; rw [this]; rfl
  simp only [atomF, h0, noAtom]
  simp
  exact Made.leaf hg _ (by first | exact (by decide : (1 : Int) < 4) | exact (by decide : (2 : Int) < 4) | exact (by decide : (3 : Int) < 4)) _ _ (by decide)
theorem atom_14 {l : List UInt8} {at_ : Nat} {t : List UInt8} (h : l.drop at_ = [94] ++ t) {ns : List Nd} (hg : GW ns) : Made ns (at_ + 1) 3 (atomF l (some (groupF l 49)) at_ ns) := by
  have h0 : l[at_]? = some 94 := by have := at_drop h 0; rw [Nat.add_zero] at this; rw [this]; rfl
  simp only [atomF, h0, noAtom]
  simp
  exact Made.leaf hg _ (by first | exact (by decide : (1 : Int) < 4) | exact (by decide : (2 : Int) < 4) | exact (by decide : (3 : Int) < 4)) _ _ (by decide)
theorem atom_15 {l : List UInt8} {at_ : Nat} {t : List UInt8} (h : l.drop at_ = [36] ++ t) {ns : List Nd} (hg : GW ns) : Made ns (at_ + 1) 3 (atomF l (some (groupF l 49)) at_ ns) := by
  have h0 : l[at_]? = some 36 := by have := at_drop h 0; rw [Nat.add_zero] at this; rw [this]; rfl
  simp only [atomF, h0, noAtom]
  simp
  exact Made.leaf hg _ (by first | exact (by decide : (1 : Int) < 4) | exact (by decide : (2 : Int) < 4) | exact (by decide : (3 : Int) < 4)) _ _ (by decide)
theorem atom_ok {l : List UInt8} {at_ : Nat} {a t : List UInt8} (ha : a ∈ atomsL) (h : l.drop at_ = a ++ t) {ns : List Nd} (hg : GW ns) : Made ns (at_ + a.length) 3 (atomF l (some (groupF l 49)) at_ ns) := by
  unfold atomsL at ha
  simp only [List.mem_cons, List.not_mem_nil, or_false] at ha
  rcases ha with rfl | rfl | rfl | rfl | rfl | rfl | rfl | rfl | rfl | rfl | rfl | rfl | rfl | rfl | rfl | rfl
  · exact atom_0 h hg
  · exact atom_1 h hg
  · exact atom_2 h hg
  · exact atom_3 h hg
  · exact atom_4 h hg
  · exact atom_5 h hg
  · exact atom_6 h hg
  · exact atom_7 h hg
  · exact atom_8 h hg
  · exact atom_9 h hg
  · exact atom_10 h hg
  · exact atom_11 h hg
  · exact atom_12 h hg
  · exact atom_13 h hg
  · exact atom_14 h hg
  · exact atom_15 h hg
end Rx
namespace Rx
theorem num_one {l : List UInt8} {k : Nat} {c d : UInt8} {t : List UInt8} (h : l.drop k = c :: d :: t) (hc : Sc.isDig c = true) (hd : Sc.isDig d = false) : Sc.numF l (k : Int) = some (Sc.dig c, k + 1) := by
  have hr := room_of h (by simp)
  have he : Sc.endOf Sc.isDig l k = k + 1 := by
    unfold Sc.endOf
    rw [h, List.takeWhile_cons, if_pos hc, List.takeWhile_cons, if_neg (by rw [hd]; decide)]
    rfl
  have hd2 := Sc.dig_lt c
  unfold Sc.numF
  rw [if_neg (by omega), show ((k : Int)).toNat = k from by omega]
  unfold Sc.numAt
  rw [he, if_neg (by omega), if_neg (by omega), h, Sc.scanV, if_pos hc, if_neg (by unfold Sc.maxNum; omega), Sc.scanV, if_neg (by rw [hd]; decide)]
  simp
/-- No mark begins here. -/
def NoMark (r : List UInt8) : Prop := ∀ c, r[0]? = some c → c ≠ 42 ∧ c ≠ 43 ∧ c ≠ 63 ∧ c ≠ 123
theorem mark_ok {l : List UInt8} {a : Nat} {m r : List UInt8} (hm : m ∈ marksL) (h : l.drop a = m ++ r) (hr : NoMark r) :
    (m = [] ∧ quantF l a = none) ∨ ∃ m' h' a2, quantF l a = some (some (m', h', a2)) ∧ a2 + 1 = a + m.length ∧ MarkB m' h' := by
  have h0 : l[a]? = (m ++ r)[0]? := by have := at_drop h 0; rw [Nat.add_zero] at this; exact this
  have h1 : l[a + 1]? = (m ++ r)[1]? := at_drop h 1
  have h2 : l[a + 2]? = (m ++ r)[2]? := at_drop h 2
  have h3 : l[a + 3]? = (m ++ r)[3]? := at_drop h 3
  have h4 : l[a + 4]? = (m ++ r)[4]? := at_drop h 4
  have d1 : l.drop (a + 1) = (m ++ r).drop 1 := by rw [← h, List.drop_drop]
  have d3 : l.drop (a + 3) = (m ++ r).drop 3 := by rw [← h, List.drop_drop]
  unfold marksL at hm
  simp only [List.mem_cons, List.not_mem_nil, or_false] at hm
  rcases hm with rfl | rfl | rfl | rfl | rfl | rfl | rfl | rfl
  · left
    refine ⟨rfl, ?_⟩
    unfold quantF
    rw [h0, List.nil_append]
    cases hx : r[0]? with
    | none => rfl
    | some c =>
      obtain ⟨c1, c2, c3, c4⟩ := hr c hx
      dsimp only
      rw [if_neg c1, if_neg c2, if_neg c3, if_neg c4]
  · right; exact ⟨0, -1, a, by unfold quantF; rw [h0]; rfl, by simp, by unfold MarkB; omega⟩
  · right; exact ⟨1, -1, a, by unfold quantF; rw [h0]; rfl, by simp, by unfold MarkB; omega⟩
  · right; exact ⟨0, 1, a, by unfold quantF; rw [h0]; rfl, by simp, by unfold MarkB; omega⟩
  · right
    have n1 := num_one (l := l) (k := a + 1) (c := 50) (d := 125) (t := r) d1 (by decide) (by decide)
    have e : boundsF l a = some (2, 2, a + 2) := by
      unfold boundsF
      rw [show (a : Int) + 1 = ((a + 1 : Nat) : Int) from by omega, n1]
      dsimp only
      rw [if_neg (by rw [show a + 1 + 1 = a + 2 from rfl, h2]; simp)]
      exact if_pos ⟨h2, by decide, by decide, fun _ => by decide⟩
    exact ⟨2, 2, a + 2, by unfold quantF; rw [h0]; exact congrArg some e, by simp, by unfold MarkB; omega⟩
  · right
    have n1 := num_one (l := l) (k := a + 1) (c := 49) (d := 44) (t := 50 :: 125 :: r) d1 (by decide) (by decide)
    have n3 := num_one (l := l) (k := a + 3) (c := 50) (d := 125) (t := r) d3 (by decide) (by decide)
    have hl := room_of h (by simp)
    simp only [List.length_append, List.length_cons, List.length_nil] at hl
    have e : boundsF l a = some (1, 2, a + 4) := by
      unfold boundsF
      rw [show (a : Int) + 1 = ((a + 1 : Nat) : Int) from by omega, n1]
      dsimp only
      rw [if_pos (show l[a + 1 + 1]? = some 44 from h2), if_pos (show a + 1 + 1 + 1 < l.length ∧ l[a + 1 + 1 + 1]? ≠ some 125 from ⟨by omega, fun hh => absurd (h3.symm.trans hh) (by simp)⟩), show ((a + 1 + 1 : Nat) : Int) + 1 = ((a + 3 : Nat) : Int) from by omega, n3]
      exact if_pos ⟨h4, by decide, by decide, fun _ => by decide⟩
    exact ⟨1, 2, a + 4, by unfold quantF; rw [h0]; exact congrArg some e, by simp, by unfold MarkB; omega⟩
  · right
    have n1 := num_one (l := l) (k := a + 1) (c := 48) (d := 44) (t := 49 :: 125 :: r) d1 (by decide) (by decide)
    have n3 := num_one (l := l) (k := a + 3) (c := 49) (d := 125) (t := r) d3 (by decide) (by decide)
    have hl := room_of h (by simp)
    simp only [List.length_append, List.length_cons, List.length_nil] at hl
    have e : boundsF l a = some (0, 1, a + 4) := by
      unfold boundsF
      rw [show (a : Int) + 1 = ((a + 1 : Nat) : Int) from by omega, n1]
      dsimp only
      rw [if_pos (show l[a + 1 + 1]? = some 44 from h2), if_pos (show a + 1 + 1 + 1 < l.length ∧ l[a + 1 + 1 + 1]? ≠ some 125 from ⟨by omega, fun hh => absurd (h3.symm.trans hh) (by simp)⟩), show ((a + 1 + 1 : Nat) : Int) + 1 = ((a + 3 : Nat) : Int) from by omega, n3]
      exact if_pos ⟨h4, by decide, by decide, fun _ => by decide⟩
    exact ⟨0, 1, a + 4, by unfold quantF; rw [h0]; exact congrArg some e, by simp, by unfold MarkB; omega⟩
  · right
    have n1 := num_one (l := l) (k := a + 1) (c := 50) (d := 44) (t := 125 :: r) d1 (by decide) (by decide)
    have e : boundsF l a = some (2, -1, a + 3) := by
      unfold boundsF
      rw [show (a : Int) + 1 = ((a + 1 : Nat) : Int) from by omega, n1]
      dsimp only
      rw [if_pos (show l[a + 1 + 1]? = some 44 from h2), if_neg (show ¬ (a + 1 + 1 + 1 < l.length ∧ l[a + 1 + 1 + 1]? ≠ some 125) from fun hh => hh.2 h3)]
      exact if_pos ⟨h3, by decide, by decide, fun hh => absurd hh (by decide)⟩
    exact ⟨2, -1, a + 3, by unfold quantF; rw [h0]; exact congrArg some e, by simp, by unfold MarkB; omega⟩
theorem Made.weak {ns : List Nd} {e : Nat} {b b' : Int} {r : Res} (h : Made ns e b r) (hb : b ≤ b') : Made ns e b' r := fun k a ns1 hr => by
  obtain ⟨h1, h2, h3, j, e, hj, hw⟩ := h k a ns1 hr
  exact ⟨h1, h2, h3, j, e, hj, by omega⟩
theorem piece_ok {l : List UInt8} {at_ : Nat} {a m r : List UInt8} (ha : a ∈ atomsL) (hm : m ∈ marksL) (h : l.drop at_ = a ++ (m ++ r)) (hr : NoMark r) {ns : List Nd} (hg : GW ns) : Made ns (at_ + a.length + m.length) 10 (pieceF l (some (groupF l 49)) at_ ns) := by
  have h1 := atom_ok ha h hg
  have d : l.drop (at_ + a.length) = m ++ r := by rw [← List.drop_drop, h]; simp
  have h2 := mark_ok hm d hr
  unfold pieceF
  generalize atomF l (some (groupF l 49)) at_ ns = x at h1 ⊢
  cases x with
  | error e => exact Made.err ns _ 10 _
  | ok x =>
    obtain ⟨k, a1, ns1⟩ := x
    obtain ⟨rfl, ⟨ex, rfl⟩, g, b⟩ := h1 k a1 ns1 rfl
    dsimp only
    rcases h2 with ⟨rfl, e⟩ | ⟨m', h', a2, e, he, hb⟩
    · rw [e]
      intro k2 a2 ns2 hx
      injection hx with hx; injection hx with h3 h4; injection h4 with h4 h5
      subst h3 h4 h5
      obtain ⟨j, e, hj, hw⟩ := b
      exact ⟨by simp, ⟨_, rfl⟩, g, j, e, hj, by omega⟩
    · rw [e]
      dsimp only
      split
      · exact Made.err ns _ 10 _
      · intro k2 a3 ns2 hx
        injection hx with hx; injection hx with h3 h4; injection h4 with h4 h5
        subst h3 h4 h5
        obtain ⟨g2, b2⟩ := g.rep b (by decide) hb
        exact ⟨by omega, ⟨_, List.append_assoc ..⟩, g2, b2⟩
end Rx
namespace Rx
/-- A row of n pieces and bars. -/
inductive Pt : List UInt8 → Nat → Prop
  | nil : Pt [] 0
  | bar {r : List UInt8} {n : Nat} : Pt r n → Pt (124 :: r) (n + 1)
  | piece {a m r : List UInt8} {n : Nat} : a ∈ atomsL → m ∈ marksL → Pt r n → Pt (a ++ (m ++ r)) (n + 1)
theorem Pt.app {x y : List UInt8} {n k : Nat} (h : Pt x n) (h2 : Pt y k) : Pt (x ++ y) (n + k) := by
  induction h with
  | nil => rw [List.nil_append, Nat.zero_add]; exact h2
  | bar _ ih => rw [Nat.add_right_comm]; exact .bar ih
  | piece ha hm _ ih => rw [Nat.add_right_comm, List.append_assoc, List.append_assoc]; exact .piece ha hm ih
theorem atom_head {a : List UInt8} (ha : a ∈ atomsL) : ∃ c r, a = c :: r ∧ c ≠ 124 ∧ c ≠ 42 ∧ c ≠ 43 ∧ c ≠ 63 ∧ c ≠ 123 := by
  unfold atomsL at ha
  simp only [List.mem_cons, List.not_mem_nil, or_false] at ha
  rcases ha with rfl | rfl | rfl | rfl | rfl | rfl | rfl | rfl | rfl | rfl | rfl | rfl | rfl | rfl | rfl | rfl <;> exact ⟨_, _, rfl, by decide, by decide, by decide, by decide, by decide⟩
theorem Pt.noMark {r : List UInt8} {n : Nat} (h : Pt r n) : NoMark r := by
  intro c hc
  cases h with
  | nil => cases hc
  | bar _ => injection hc with hc; subst hc; decide
  | piece ha _ _ =>
    obtain ⟨d, r, rfl, _, h⟩ := atom_head ha
    injection hc with hc
    subst hc
    exact h
theorem more_bar {l : List UInt8} {at_ : Nat} {t : List UInt8} (h : l.drop at_ = t) (ht : t = [] ∨ ∃ r, t = 124 :: r) : moreF l false at_ = false := by
  have h0 : l[at_]? = t[0]? := by have := at_drop h 0; rw [Nat.add_zero] at this; exact this
  unfold moreF
  rw [h0]
  rcases ht with rfl | ⟨r, rfl⟩ <;> rfl
theorem more_piece {l : List UInt8} {at_ : Nat} {a t : List UInt8} (ha : a ∈ atomsL) (h : l.drop at_ = a ++ t) : moreF l false at_ = true := by
  have h0 : l[at_]? = (a ++ t)[0]? := by have := at_drop h 0; rw [Nat.add_zero] at this; exact this
  obtain ⟨c, r, rfl, hc, _⟩ := atom_head ha
  unfold moreF
  rw [h0]
  show (c != 124 && !(c == 41 && false)) = true
  simp [hc]
theorem pieces_ok {l : List UInt8} : ∀ (f at_ n : Nat) (ns : List Nd) (kids : List Int) (S : Int), Pt (l.drop at_) n → GW ns → SumB ns kids S →
    ∀ kids' a ns', piecesF l (some (groupF l 49)) false f at_ ns kids = .ok (kids', a, ns') →
      ∃ n', Pt (l.drop a) n' ∧ n' ≤ n ∧ GW ns' ∧ SumB ns' kids' (S + 10 * ((n : Int) - n')) ∧ ∃ ex, ns' = ns ++ ex := by
  intro f
  induction f with
  | zero => intro at_ n ns kids S _ _ _ kids' a ns' h; cases h
  | succ f ih =>
    intro at_ n ns kids S hp hg hs kids' a ns' h
    rw [piecesF] at h
    by_cases hb : l.drop at_ = [] ∨ ∃ r, l.drop at_ = 124 :: r
    · rw [more_bar rfl hb, if_neg (by decide)] at h
      injection h with h; injection h with h1 h2; injection h2 with h2 h3
      subst h1 h2 h3
      exact ⟨n, hp, Nat.le_refl _, hg, by rw [show S + 10 * ((n : Int) - n) = S by omega]; exact hs, [], by simp⟩
    · generalize ht : l.drop at_ = t at hp hb
      cases hp with
      | nil => exact absurd (.inl rfl) hb
      | bar _ => exact absurd (.inr ⟨_, rfl⟩) hb
      | @piece a1 m1 r n ha hm hr =>
        rw [more_piece ha ht, if_pos rfl] at h
        have hq := piece_ok ha hm ht hr.noMark hg
        generalize pieceF l (some (groupF l 49)) at_ ns = x at h hq
        cases x with
        | error e => cases h
        | ok x =>
          obtain ⟨k, a2, ns1⟩ := x
          obtain ⟨rfl, ⟨ex, rfl⟩, g, b⟩ := hq k a2 ns1 rfl
          dsimp only at h
          have hd : l.drop (at_ + a1.length + m1.length) = r := by rw [← List.drop_drop, ← List.drop_drop, ht]; simp
          obtain ⟨n', h1, h2, h3, h4, ex2, h5⟩ := ih _ n _ _ _ (by rw [hd]; exact hr) g ((hs.app ex).snoc g b) _ _ _ h
          refine ⟨n', h1, by omega, h3, ?_, ex ++ ex2, by rw [h5, List.append_assoc]⟩
          rw [show S + 10 * (((n + 1 : Nat) : Int) - n') = S + 10 + 10 * ((n : Int) - n') by omega]
          exact h4
theorem alt_ok {l : List UInt8} {at_ n : Nat} {ns : List Nd} (hp : Pt (l.drop at_) n) (hn : n ≤ 40) (hg : GW ns) {k : Int} {a : Nat} {ns' : List Nd} (h : altF l (some (groupF l 49)) false at_ ns = .ok (k, a, ns')) :
    ∃ n', Pt (l.drop a) n' ∧ n' ≤ n ∧ GW ns' ∧ BdW ns' k (10 * ((n : Int) - n') + 1) ∧ ∃ ex, ns' = ns ++ ex := by
  unfold altF at h
  have hq := pieces_ok (l := l) (l.length + 1) at_ n ns [] 0 hp hg (SumB.nil _)
  generalize piecesF l (some (groupF l 49)) false (l.length + 1) at_ ns [] = x at h hq
  cases x with
  | error e => cases h
  | ok x =>
    obtain ⟨kids, a1, ns1⟩ := x
    obtain ⟨n', h1, h2, g, s, ex, h5⟩ := hq _ _ _ rfl
    match kids, h, s with
    | [], h, s =>
      injection h with h; injection h with h6 h7; injection h7 with h7 h8
      subst h6 h7 h8
      obtain ⟨g2, j, e, hj, hw⟩ := g.leaf (plainN 0) (by exact (by decide : (0 : Int) < 4))
      exact ⟨n', h1, h2, g2, ⟨j, e, hj, by omega⟩, _, by rw [h5, List.append_assoc]⟩
    | [k1], h, s =>
      injection h with h; injection h with h6 h7; injection h7 with h7 h8
      subst h6 h7 h8
      obtain ⟨s0, s1, s2⟩ := s
      obtain ⟨j, rfl, hj⟩ := s2 _ (List.mem_singleton.2 rfl)
      rw [sumW, sumW, show ((j : Int)).toNat = j from by omega] at s1
      exact ⟨n', h1, h2, g, ⟨j, rfl, hj, by omega⟩, ex, h5⟩
    | k1 :: k2 :: r, h, s =>
      injection h with h; injection h with h6 h7; injection h7 with h7 h8
      subst h6 h7 h8
      obtain ⟨g2, j, e, hj, hw⟩ := g.cat s (by omega)
      exact ⟨n', h1, h2, g2, ⟨j, e, hj, by omega⟩, _, by rw [h5, List.append_assoc]⟩
theorem alts_ok {l : List UInt8} : ∀ (f at_ n : Nat) (ns : List Nd) (kids : List Int) (S : Int), Pt (l.drop at_) n → n ≤ 40 → GW ns → SumB ns kids S →
    ∀ kids' a ns', altsF l (some (groupF l 49)) false f at_ ns kids = .ok (kids', a, ns') →
      ∃ n' : Nat, n' ≤ n ∧ GW ns' ∧ SumB ns' kids' (S + 11 * ((n : Int) - n')) ∧ kids.length ≤ kids'.length ∧ kids'.length ≤ kids.length + (n - n') := by
  intro f
  induction f with
  | zero => intro at_ n ns kids S _ _ _ _ kids' a ns' h; cases h
  | succ f ih =>
    intro at_ n ns kids S hp hn hg hs kids' a ns' h
    rw [altsF] at h
    by_cases hb : l[at_]? = some 124
    · rw [if_pos hb] at h
      have h0 : l[at_]? = (l.drop at_)[0]? := by have := at_drop (l := l) (a := at_) rfl 0; rw [Nat.add_zero] at this; exact this
      generalize ht : l.drop at_ = t at hp h0
      cases hp with
      | nil => rw [hb] at h0; cases h0
      | piece ha _ _ =>
        obtain ⟨c, r, rfl, hc, _⟩ := atom_head ha
        rw [hb] at h0; injection h0 with h0; exact absurd h0.symm hc
      | @bar r n hr =>
        have hd : l.drop (at_ + 1) = r := by rw [← List.drop_drop, ht]; rfl
        have hq := fun k a ns' => alt_ok (l := l) (at_ := at_ + 1) (n := n) (ns := ns) (by rw [hd]; exact hr) (by omega) hg (k := k) (a := a) (ns' := ns')
        generalize altF l (some (groupF l 49)) false (at_ + 1) ns = x at h hq
        cases x with
        | error e => cases h
        | ok x =>
          obtain ⟨k, a2, ns1⟩ := x
          obtain ⟨n1, h1, h2, g, b, ex, rfl⟩ := hq k a2 ns1 rfl
          dsimp only at h
          obtain ⟨n', h3, g2, ⟨s0, s1, s2⟩, l1, l2⟩ := ih _ n1 _ _ _ h1 (by omega) g ((hs.app ex).snoc g b) _ _ _ h
          rw [List.length_append, List.length_singleton] at l1 l2
          exact ⟨n', by omega, g2, ⟨s0, by omega, s2⟩, by omega, by omega⟩
    · rw [if_neg hb] at h
      injection h with h; injection h with h1 h2; injection h2 with h2 h3
      subst h1 h2 h3
      exact ⟨n, Nat.le_refl _, hg, by rw [show S + 11 * ((n : Int) - n) = S by omega]; exact hs, Nat.le_refl _, Nat.le_add_right _ _⟩
theorem pat_ok {l : List UInt8} {n : Nat} (hp : Pt l n) (hn : n ≤ 40) {k : Int} {a : Nat} {ns' : List Nd} (h : patF l (some (groupF l 49)) false 0 [] = .ok (k, a, ns')) : GW ns' := by
  unfold patF at h
  have hq := fun k a ns' => alt_ok (l := l) (at_ := 0) (n := n) (ns := []) hp hn (fun x hx => by cases hx) (k := k) (a := a) (ns' := ns')
  generalize altF l (some (groupF l 49)) false 0 [] = x at h hq
  cases x with
  | error e => cases h
  | ok x =>
    obtain ⟨k1, a1, ns1⟩ := x
    obtain ⟨n1, h1, h2, g, b, ex, h5⟩ := hq k1 a1 ns1 rfl
    dsimp only at h
    have hq2 := alts_ok (l := l) (l.length + 1) a1 n1 ns1 [k1] (0 + (10 * ((n : Int) - n1) + 1)) h1 (by omega) g ((SumB.nil _).snoc g b)
    generalize altsF l (some (groupF l 49)) false (l.length + 1) a1 ns1 [k1] = x at h hq2
    cases x with
    | error e => cases h
    | ok x =>
      obtain ⟨kids, a2, ns2⟩ := x
      obtain ⟨n', h3, g2, s, l1, l2⟩ := hq2 _ _ _ rfl
      rw [List.length_singleton] at l1 l2
      match kids, h, s, l1, l2 with
      | [], h, s, l1, l2 => simp at l1
      | [k2], h, s, l1, l2 =>
        injection h with h; injection h with h6 h7; injection h7 with h7 h8
        subst h8
        exact g2
      | k2 :: k3 :: r, h, s, l1, l2 =>
        injection h with h; injection h with h6 h7; injection h7 with h7 h8
        subst h8
        exact (g2.alt s (by omega) (by omega)).1
/-- What the parser makes of such a text weighs at most 1000. -/
theorem parse_light {l : List UInt8} {n : Nat} (hp : Pt l n) (hn : n ≤ 40) {ns : List Nd} (h : parseF l = .ok ns) : weightF ns ≤ 1000 := by
  unfold parseF at h
  split at h
  · cases h
  · have hq := fun k a ns' => pat_ok (l := l) hp hn (k := k) (a := a) (ns' := ns')
    generalize patF l (some (groupF l 49)) false 0 [] = x at h hq
    cases x with
    | error e => cases h
    | ok x =>
      obtain ⟨k, a, ns1⟩ := x
      dsimp only at h
      split at h
      · cases h
      · injection h with h
        subst h
        exact ((hq k a ns1 rfl).get _).2
theorem weightF_nn {ns : List Nd} (hv : Valid ns) : 0 ≤ weightF ns := by
  have h := weights_small (ns := ns) (fun n hn => by
    obtain ⟨k, hk, rfl⟩ := List.mem_iff_getElem.1 hn
    exact (hv.2.2 k hk).2)
  exact (h.get _).1
end Rx
end Go.Proofs.Ytgadomcbaenodaa

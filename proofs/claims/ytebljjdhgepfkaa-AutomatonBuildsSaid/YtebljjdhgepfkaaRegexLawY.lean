/-
  Patterns, as plain mathematics: what is read are valid nodes, and their lists of kids are short. Conditions: at most 256 bytes. The reference's Parse: it makes what the document says (parseF). Conditions: a class does what the document says. The reference's class. Conditions: short patterns. What the reference's Parse hands back, in one form for an error and for nodes. Condition: at most 256 bytes.
-/
import Derived.Test.YtebljjdhgepfkaaRegexAdv
import Derived.Test.YtebljjdhgepfkaaRegexCheck
import Derived.Test.YtebljjdhgepfkaaRegexPat
import Derived.Test.YtebljjdhgepfkaaRegexClsP
import Derived.Test.YtebljjdhgepfkaaRegexClsN
namespace Go.Proofs.Ytebljjdhgepfkaa
section
namespace Rx
section
variable {l : List UInt8}
def GoodAt (B i : Nat) (n : Nd) : Prop := NodeOk i n ∧ n.kids.length ≤ B
def Good (B : Nat) (ns : List Nd) : Prop := ∀ i (h : i < ns.length), GoodAt B i ns[i]
theorem Good.snoc {B : Nat} {ns : List Nd} {n : Nd} (h : Good B ns) (hn : GoodAt B ns.length n) : Good B (ns ++ [n]) := by
  intro i hi
  rw [List.length_append, List.length_singleton] at hi
  by_cases hlt : i < ns.length
  · rw [List.getElem_append_left hlt]; exact h i hlt
  · have : i = ns.length := by omega
    subst this
    rw [List.getElem_append_right (Nat.le_refl _)]
    simpa using hn
theorem good_set {B i : Nat} (m : Nat → Bool) : GoodAt B i (setN m) := ⟨⟨fun _ hx => (List.not_mem_nil hx).elim, rfl⟩, Nat.zero_le _⟩
theorem good_plain {B i : Nat} {k : Int} (hk : k = 0 ∨ k = 2 ∨ k = 3) : GoodAt B i (plainN k) := by
  refine ⟨⟨fun _ hx => (List.not_mem_nil hx).elim, ?_⟩, Nat.zero_le _⟩
  rcases hk with rfl | rfl | rfl <;> rfl
theorem good_rep {B i m : Nat} {h k : Int} (hB : 1 ≤ B) (hm : m ≤ 100) (hh : h = -1 ∨ ((m : Int) ≤ h ∧ h ≤ 100)) (h0 : 0 ≤ k) (h1 : k < (i : Int)) : GoodAt B i (repN m h k) := by
  refine ⟨⟨fun x hx => ?_, ?_⟩, hB⟩
  · have : x = k := by simpa [repN] using hx
    rw [this]; exact ⟨h0, h1⟩
  · rw [fine_iff]
    left
    exact ⟨rfl, rfl, by show (0 : Int) ≤ (m : Int); omega, by show (m : Int) ≤ 100; omega, hh⟩
theorem good_many {B i : Nat} {kind : Int} {kids : List Int} (hk : kind = 4 ∨ kind = 5) (h2 : 2 ≤ kids.length) (hB : kids.length ≤ B) (h : ∀ x ∈ kids, 0 ≤ x ∧ x < (i : Int)) : GoodAt B i (manyN kind kids) := by
  refine ⟨⟨h, ?_⟩, hB⟩
  rw [fine_iff]
  right; left
  exact ⟨hk, h2⟩
theorem fin_ok {m m' nx nx' : Nat} {h h' : Int} (hh : h = -1 ∨ 0 ≤ h) (e : finB l m h nx = some (m', h', nx')) : m' ≤ 100 ∧ (h' = -1 ∨ ((m' : Int) ≤ h' ∧ h' ≤ 100)) := by
  unfold finB at e
  split at e
  · rename_i h1
    injection e with e
    injection e with e1 e
    injection e with e2 e
    subst e1 e2
    obtain ⟨_, a, b, c⟩ := h1
    refine ⟨a, ?_⟩
    rcases hh with hh | hh
    · exact .inl hh
    · exact .inr ⟨c hh, b⟩
  · cases e
theorem bounds_ok {a m nx : Nat} {h : Int} (e : boundsF l a = some (m, h, nx)) : m ≤ 100 ∧ (h = -1 ∨ ((m : Int) ≤ h ∧ h ≤ 100)) := by
  unfold boundsF at e
  split at e
  · cases e
  · split at e
    · split at e
      · split at e
        · cases e
        · exact fin_ok (.inr (by omega)) e
      · exact fin_ok (.inl rfl) e
    · exact fin_ok (.inr (by omega)) e
theorem quant_ok {a m a2 : Nat} {h : Int} (e : quantF l a = some (some (m, h, a2))) : m ≤ 100 ∧ (h = -1 ∨ ((m : Int) ≤ h ∧ h ≤ 100)) := by
  unfold quantF at e
  split at e
  · cases e
  · split at e
    · injection e with e; injection e with e; injection e with e1 e; injection e with e2 e; subst e1 e2; exact ⟨by omega, .inl rfl⟩
    · split at e
      · injection e with e; injection e with e; injection e with e1 e; injection e with e2 e; subst e1 e2; exact ⟨by omega, .inl rfl⟩
      · split at e
        · injection e with e; injection e with e; injection e with e1 e; injection e with e2 e; subst e1 e2; exact ⟨by omega, .inr ⟨by omega, by omega⟩⟩
        · split at e
          · injection e with e
            exact bounds_ok e
          · cases e
/-- What a reader leaves: good nodes, and one of them. -/
def GoodTo (B : Nat) (ns : List Nd) (k : Int) (ns2 : List Nd) : Prop := Good B ns → Good B ns2 ∧ 0 ≤ k ∧ k < (ns2.length : Int) ∧ ns.length ≤ ns2.length
def GoodF (B : Nat) (f : Nat → List Nd → Res) (l : List UInt8) : Prop := ∀ (a : Nat) (ns : List Nd), a ≤ l.length → ∀ k b ns2, f a ns = .ok (k, b, ns2) → GoodTo B ns k ns2
def GoodO (B : Nat) (p : Option (Nat → List Nd → Res)) (l : List UInt8) : Prop := ∀ f, p = some f → GoodF B f l
section
variable {B : Nat} {p : Option (Nat → List Nd → Res)} {inner : Bool}
theorem good_one {ns : List Nd} {n : Nd} {k : Int} {ns2 : List Nd} (h1 : k = (ns.length : Int)) (h2 : ns2 = ns ++ [n]) (hn : GoodAt B ns.length n) : GoodTo B ns k ns2 := by
  subst h1 h2
  intro h
  refine ⟨h.snoc hn, by omega, ?_, ?_⟩ <;> rw [List.length_append, List.length_singleton] <;> omega
theorem ok3 {k k' : Int} {a a' : Nat} {n n' : List Nd} (h : (Except.ok (k, a, n) : Res) = .ok (k', a', n')) : k' = k ∧ a' = a ∧ n' = n := by
  injection h with h; injection h with h1 h; injection h with h2 h3; exact ⟨h1.symm, h2.symm, h3.symm⟩
theorem okL {k k' : List Int} {a a' : Nat} {n n' : List Nd} (h : (Except.ok (k, a, n) : Except Int (List Int × Nat × List Nd)) = .ok (k', a', n')) : k' = k ∧ a' = a ∧ n' = n := by
  injection h with h; injection h with h1 h; injection h with h2 h3; exact ⟨h1.symm, h2.symm, h3.symm⟩
theorem atom_good (hp : GoodO B p l) {at_ : Nat} {ns : List Nd} {k : Int} {a : Nat} {ns2 : List Nd} (e : atomF l p at_ ns = .ok (k, a, ns2)) : GoodTo B ns k ns2 := by
  unfold atomF at e
  split at e
  · cases e
  · rename_i c hc
    have hl := get_lt hc
    split at e
    · split at e
      · cases e
      · rename_i f
        split at e
        · cases e
        · rename_i k1 a1 ns1 hf
          split at e
          · obtain ⟨e1, _, e3⟩ := ok3 e
            subst e1 e3
            exact hp f rfl (at_ + 1) ns (by omega) _ _ _ hf
          · cases e
    · split at e
      · split at e
        · cases e
        · obtain ⟨e1, _, e3⟩ := ok3 e
          exact good_one e1 e3 (good_set _)
      · split at e
        · obtain ⟨e1, _, e3⟩ := ok3 e
          exact good_one e1 e3 (good_set _)
        · split at e
          · obtain ⟨e1, _, e3⟩ := ok3 e
            exact good_one e1 e3 (good_plain (by omega))
          · split at e
            · obtain ⟨e1, _, e3⟩ := ok3 e
              exact good_one e1 e3 (good_plain (by omega))
            · split at e
              · cases e
              · split at e
                · split at e
                  · cases e
                  · obtain ⟨e1, _, e3⟩ := ok3 e
                    exact good_one e1 e3 (good_set _)
                · obtain ⟨e1, _, e3⟩ := ok3 e
                  exact good_one e1 e3 (good_set _)
theorem piece_good (hB : 1 ≤ B) (hp : GoodO B p l) {at_ : Nat} {ns : List Nd} {k : Int} {a : Nat} {ns2 : List Nd} (e : pieceF l p at_ ns = .ok (k, a, ns2)) : GoodTo B ns k ns2 := by
  unfold pieceF at e
  split at e
  · cases e
  · rename_i k1 a1 ns1 ha
    have h1 := atom_good hp ha
    split at e
    · obtain ⟨e1, _, e3⟩ := ok3 e
      subst e1 e3
      exact h1
    · cases e
    · rename_i m hh a2 hq
      have h2 := quant_ok hq
      split at e
      · cases e
      · obtain ⟨e1, _, e3⟩ := ok3 e
        intro hg
        obtain ⟨g1, g2, g3, g4⟩ := h1 hg
        obtain ⟨q1, q2, q3, q4⟩ := good_one (B := B) e1 e3 (good_rep hB h2.1 h2.2 g2 g3) g1
        exact ⟨q1, q2, q3, by omega⟩
/-- What a list of readers leaves. -/
def GoodL (B : Nat) (ns : List Nd) (kids : List Int) (d : Nat) (kids' : List Int) (ns2 : List Nd) : Prop :=
  Good B ns → (∀ x ∈ kids, 0 ≤ x ∧ x < (ns.length : Int)) → Good B ns2 ∧ (∀ x ∈ kids', 0 ≤ x ∧ x < (ns2.length : Int)) ∧ ns.length ≤ ns2.length ∧ kids'.length ≤ kids.length + d
theorem kids_snoc {kids : List Int} {n n' : Nat} {k : Int} (h : ∀ x ∈ kids, 0 ≤ x ∧ x < (n : Int)) (hn : n ≤ n') (h0 : 0 ≤ k) (h1 : k < (n' : Int)) : ∀ x ∈ kids ++ [k], 0 ≤ x ∧ x < (n' : Int) := by
  intro x hx
  rcases List.mem_append.1 hx with hx | hx
  · have := h x hx; omega
  · rw [List.mem_singleton] at hx; subst hx; exact ⟨h0, h1⟩
theorem pieces_good (hB : 1 ≤ B) (hp : GoodO B p l) (ha : AdvO l p) (f : Nat) : ∀ (at_ : Nat) (ns : List Nd) (kids : List Int), at_ ≤ l.length → ∀ kids' a ns2, piecesF l p inner f at_ ns kids = .ok (kids', a, ns2) → GoodL B ns kids (a - at_) kids' ns2 := by
  induction f with
  | zero => intro at_ ns kids _ kids' a ns2 h; cases h
  | succ f ih =>
    intro at_ ns kids hl kids' a ns2 e
    unfold piecesF at e
    split at e
    · split at e
      · cases e
      · rename_i k1 a1 ns1 hpc
        have h1 := piece_adv ha hpc
        have h2 := piece_good hB hp hpc
        have h3 := ih _ _ _ h1.2.1 _ _ _ e
        have h4 := pieces_adv ha _ _ _ _ h1.2.1 _ _ _ e
        intro hg hk
        obtain ⟨g1, g2, g3, g4⟩ := h2 hg
        obtain ⟨q1, q2, q3, q4⟩ := h3 g1 (kids_snoc hk g4 g2 g3)
        rw [List.length_append, List.length_singleton] at q4
        exact ⟨q1, q2, by omega, by omega⟩
    · obtain ⟨e1, e2, e3⟩ := okL e
      subst e1 e2 e3
      intro hg hk
      exact ⟨hg, hk, Nat.le_refl _, by omega⟩
theorem alt_good (hB : l.length + 1 ≤ B) (hp : GoodO B p l) (ha : AdvO l p) {at_ : Nat} {ns : List Nd} {k : Int} {a : Nat} {ns2 : List Nd} (hl : at_ ≤ l.length) (e : altF l p inner at_ ns = .ok (k, a, ns2)) : GoodTo B ns k ns2 := by
  unfold altF at e
  cases hr : piecesF l p inner (l.length + 1) at_ ns [] with
  | error c => rw [hr] at e; cases e
  | ok r =>
    obtain ⟨kids, a1, ns1⟩ := r
    rw [hr] at e
    have h1 := pieces_good (by omega) hp ha _ _ _ _ hl _ _ _ hr
    have h2 := pieces_adv ha _ _ _ _ hl _ _ _ hr
    intro hg
    obtain ⟨q1, q2, q3, q4⟩ := h1 hg (fun x hx => by cases hx)
    rcases kids with _ | ⟨k0, _ | ⟨k1', r⟩⟩
    · obtain ⟨e1, _, e3⟩ := ok3 e
      obtain ⟨r1, r2, r3, r4⟩ := good_one (B := B) e1 e3 (good_plain (.inl rfl)) q1
      exact ⟨r1, r2, r3, by omega⟩
    · obtain ⟨e1, _, e3⟩ := ok3 e
      subst e1 e3
      have h3 := q2 _ (List.mem_singleton.2 rfl)
      exact ⟨q1, h3.1, h3.2, q3⟩
    · obtain ⟨e1, _, e3⟩ := ok3 e
      obtain ⟨r1, r2, r3, r4⟩ := good_one (B := B) e1 e3 (good_many (.inl rfl) (by simp) (by simp only [List.length_cons, List.length_nil] at q4 ⊢; omega) q2) q1
      exact ⟨r1, r2, r3, by omega⟩
theorem alts_good (hB : l.length + 1 ≤ B) (hp : GoodO B p l) (ha : AdvO l p) (f : Nat) : ∀ (at_ : Nat) (ns : List Nd) (kids : List Int), at_ ≤ l.length → ∀ kids' a ns2, altsF l p inner f at_ ns kids = .ok (kids', a, ns2) → GoodL B ns kids (a - at_) kids' ns2 := by
  induction f with
  | zero => intro at_ ns kids _ kids' a ns2 h; cases h
  | succ f ih =>
    intro at_ ns kids hl kids' a ns2 e
    unfold altsF at e
    split at e
    · rename_i hbar
      have hb := get_lt hbar
      split at e
      · cases e
      · rename_i k1 a1 ns1 hpc
        have h1 := alt_adv ha (by omega) hpc
        have h2 := alt_good hB hp ha (by omega) hpc
        have h3 := ih _ _ _ h1.2.1 _ _ _ e
        have h4 := alts_adv ha _ _ _ _ h1.2.1 _ _ _ e
        intro hg hk
        obtain ⟨g1, g2, g3, g4⟩ := h2 hg
        obtain ⟨q1, q2, q3, q4⟩ := h3 g1 (kids_snoc hk g4 g2 g3)
        rw [List.length_append, List.length_singleton] at q4
        exact ⟨q1, q2, by omega, by omega⟩
    · obtain ⟨e1, e2, e3⟩ := okL e
      subst e1 e2 e3
      intro hg hk
      exact ⟨hg, hk, Nat.le_refl _, by omega⟩
theorem alts_ge (f : Nat) : ∀ (at_ : Nat) (ns : List Nd) (kids kids' : List Int) (a : Nat) (ns2 : List Nd), altsF l p inner f at_ ns kids = .ok (kids', a, ns2) → kids.length ≤ kids'.length := by
  induction f with
  | zero => intro at_ ns kids kids' a ns2 h; cases h
  | succ f ih =>
    intro at_ ns kids kids' a ns2 e
    unfold altsF at e
    split at e
    · split at e
      · cases e
      · have h3 := ih _ _ _ _ _ _ e
        rw [List.length_append, List.length_singleton] at h3
        omega
    · obtain ⟨e1, _, _⟩ := okL e
      subst e1
      exact Nat.le_refl _
theorem pat_good (hB : l.length + 1 ≤ B) (hp : GoodO B p l) (ha : AdvO l p) : GoodF B (patF l p inner) l := by
  intro at_ ns hl k a ns2 e
  unfold patF at e
  cases hr : altF l p inner at_ ns with
  | error c => rw [hr] at e; cases e
  | ok r =>
    obtain ⟨k1, a1, ns1⟩ := r
    rw [hr] at e
    simp only at e
    have h1 := alt_adv ha hl hr
    have h2 := alt_good hB hp ha hl hr
    cases hr2 : altsF l p inner (l.length + 1) a1 ns1 [k1] with
    | error c => rw [hr2] at e; cases e
    | ok r2 =>
      obtain ⟨kids, a2, ns3⟩ := r2
      rw [hr2] at e
      have h3 := alts_good hB hp ha _ _ _ _ h1.2.1 _ _ _ hr2
      have h4 := alts_adv ha _ _ _ _ h1.2.1 _ _ _ hr2
      intro hg
      obtain ⟨g1, g2, g3, g4⟩ := h2 hg
      obtain ⟨q1, q2, q3, q4⟩ := h3 g1 (fun x hx => by rw [List.mem_singleton] at hx; subst hx; exact ⟨g2, g3⟩)
      have hge : 1 ≤ kids.length := alts_ge _ _ _ _ _ _ _ hr2
      rcases kids with _ | ⟨k0, _ | ⟨k1', r⟩⟩
      · simp at hge
      · obtain ⟨e1, _, e3⟩ := ok3 e
        subst e1 e3
        have h5 := q2 _ (List.mem_singleton.2 rfl)
        exact ⟨q1, h5.1, h5.2, by omega⟩
      · obtain ⟨e1, _, e3⟩ := ok3 e
        obtain ⟨r1, r2, r3, r4⟩ := good_one (B := B) e1 e3 (good_many (.inr rfl) (by simp) (by simp only [List.length_cons, List.length_nil] at q4 ⊢; omega) q2) q1
        exact ⟨r1, r2, r3, by omega⟩
theorem group_good (hB : l.length + 1 ≤ B) (g : Nat) : GoodF B (groupF l g) l := by
  induction g with
  | zero => exact pat_good hB (fun f h => by cases h) (fun f h => by cases h)
  | succ g ih => exact pat_good hB (fun f h => by injection h with h; subst h; exact ih) (fun f h => by injection h with h; subst h; exact group_adv g)
end
/-- What is read is valid. -/
theorem parse_good {ns : List Nd} (e : parseF l = .ok ns) : Valid ns ∧ ns.length ≤ 1100 ∧ ∀ n ∈ ns, n.kids.length ≤ 257 := by
  unfold parseF at e
  split at e
  · cases e
  · rename_i hl
    cases hr : patF l (some (groupF l 49)) false 0 [] with
    | error c => rw [hr] at e; cases e
    | ok r =>
      obtain ⟨k, a, ns1⟩ := r
      rw [hr] at e
      simp only at e
      split at e
      · cases e
      · injection e with e
        subst e
        have h1 := pat_adv (inner := false) (p := some (groupF l 49)) (fun f e => by injection e with e; subst e; exact group_adv 49) 0 [] (by omega) _ _ _ hr
        have h2 := pat_good (B := 257) (inner := false) (p := some (groupF l 49)) (by omega) (fun f e => by injection e with e; subst e; exact group_good (by omega) 49) (fun f e => by injection e with e; subst e; exact group_adv 49) 0 [] (by omega) _ _ _ hr (fun i hi => by cases hi)
        obtain ⟨g1, g2, g3, g4⟩ := h2
        have h3 := h1.2.2
        simp only [List.length_nil] at h3
        refine ⟨⟨by omega, by omega, fun i hi => (g1 i hi).1⟩, by omega, fun n hn => ?_⟩
        obtain ⟨j, hj, rfl⟩ := List.mem_iff_getElem.1 hn
        exact (g1 j hj).2
end
end Rx
end
section
open Go.RowKit
namespace Rx
open Cm
theorem group_ok (s : ByteArray) (hs : s.size ≤ 100000) (hC : ClassOk s) (g : Nat) : ∀ D : Int, D = 49 - (g : Int) → 0 ≤ D → POk s D (some (groupF (Tx.bs s) g)) := by
  induction g with
  | zero =>
    intro D hD h0
    refine ⟨by omega, fun w base rb at_ ns ks h1 h2 h3 => ?_, group_adv 0⟩
    have h := pat_any (p := none) h1 hs h2 (by omega) (show POk s (D + 1) none from by show D + 1 = 50; omega) (fun f e => by cases e) hC h3
    rw [show decide (0 < D + 1) = true from by rw [decide_eq_true_iff]; omega] at h
    exact h
  | succ g ih =>
    intro D hD h0
    refine ⟨by omega, fun w base rb at_ ns ks h1 h2 h3 => ?_, group_adv (g + 1)⟩
    have h := pat_any (p := some (groupF (Tx.bs s) g)) h1 hs h2 (by omega) (ih (D + 1) (by omega) (by omega)) (fun f e => by injection e with e; subst e; exact group_adv g) hC h3
    rw [show decide (0 < D + 1) = true from by rw [decide_eq_true_iff]; omega] at h
    exact h
/-- What a parser hands back. -/
def PPost (w : World) (r : Except Int (List Nd)) (e : Ending) (w' : World) : Prop :=
  match r with
  | .error c => e = .returned (.tuple #[.slice none 0 0, .int .i64 c]) ∧ Below w.heap.size w w'
  | .ok ns => ∃ v ks, e = .returned (.tuple #[v, .int .i64 0]) ∧ OwnN w' w.heap.size v ns ks ∧ Below w.heap.size w w'
set_option maxRecDepth 100000 in
set_option maxHeartbeats 4000000 in
theorem ParseR_any (s : ByteArray) (w : World) (hs : s.size ≤ 4611686018427387904) (hC : s.size ≤ 256 → ClassOk s) : Calls Try.prog 7 #[.string s] w (PPost w (parseF (Tx.bs s))) := by
  by_cases h256 : (256 : Int) < (s.size : Int)
  · have HA : Hid (parseF (Tx.bs s) = .error 1) := Lib.hid (by unfold parseF; rw [if_pos (by rw [Tx.bs_len]; omega)])
    go_enter Try.func7, Try.ntmps7
    go_wp2_with fail
    go_ret2
    rw [HA.out]
    exact ⟨rfl, Below.refl _ _⟩
  have hs2 : s.size ≤ 256 := by omega
  have HT : Hid (parseF (Tx.bs s) = match patF (Tx.bs s) (some (groupF (Tx.bs s) 49)) false 0 [] with | .error e => .error e | .ok (_, a, ns) => if a < s.size then .error 40 else .ok ns) := Lib.hid (by
    unfold parseF
    rw [if_neg (by rw [Tx.bs_len]; omega)]
    rfl)
  have HP : Hid (∀ C, C = #[Value.string s, .int .i64 0, .int .i64 0, .slice none 0 0, .int .i64 0] → Calls Try.prog 27 #[.pointer (some ⟨w.heap.size, 0, none⟩)] (w.alloc (.cells C tRd)) (RPost (w.alloc (.cells C tRd)) w.heap.size w.heap.size s 0 [] [] (patF (Tx.bs s) (some (groupF (Tx.bs s) 49)) false 0 []))) := Lib.hid (fun C hCe => by
    subst hCe
    have hR : Rdr (w.alloc (.cells #[Value.string s, .int .i64 0, .int .i64 0, .slice none 0 0, .int .i64 0] tRd)) w.heap.size w.heap.size s ((0 : Nat) : Int) 0 0 [] [] :=
      ⟨.slice none 0 0, Nat.le_refl _, heap_new w _, rfl, World.ownsRow_nil _ _ _ _, fun j h => absurd h (Nat.not_lt_zero _)⟩
    exact pat_any hR (by omega) (Nat.zero_le _) (by decide) (group_ok s (by omega) (hC hs2) 49 0 (by decide) (by decide)) (fun f e => by injection e with e; subst e; exact group_adv 49) (hC hs2) (by simp; omega))
  have hB0 := Lib.hid ((Below.refl w.heap.size w).alloc (Nat.le_refl _) (.cells #[Value.string s, .int .i64 0, .int .i64 0, .slice none 0 0, .int .i64 0] tRd))
  cases hr : patF (Tx.bs s) (some (groupF (Tx.bs s) 49)) false 0 [] with
  | error c =>
    have HA : Hid (parseF (Tx.bs s) = .error c) := Lib.hid (by rw [HT.out, hr])
    rw [hr] at HP
    clear hr
    go_enter Try.func7, Try.ntmps7
    go_wp2_with fail
    refine (HP.out _ rfl).mono ?_
    rintro e w2 ⟨⟨z, rfl⟩, hc0, ⟨aa, dd, x, hb, hh⟩, hB2, hK2⟩
    obtain ⟨c0, c1, c2, c3, c4, hf⟩ := rdr_cells hh
    have e1 : (c == 0) = false := by rw [beq_eq_false_iff_ne]; exact hc0
    have e2 : (c != 0) = true := by rw [bne, e1]; rfl
    have HB := Lib.hid (hB0.out.trans hB2)
    clear hh hf hB2 hK2 hc0 hb
    go_wp2_with fail
    go_quiet (fail)
    go_wp2_with fail
    go_ret2
    rw [HA.out]
    exact ⟨rfl, below_drewN HB.out _⟩
  | ok y =>
    obtain ⟨k, a, ns2⟩ := y
    rw [hr] at HP
    by_cases hlt : a < s.size
    · have HA : Hid (parseF (Tx.bs s) = .error 40) := Lib.hid (by rw [HT.out, hr]; simp only; rw [if_pos hlt])
      have k1 : (a : Int) < (s.size : Int) := by omega
      clear hr
      go_enter Try.func7, Try.ntmps7
      go_wp2_with fail
      refine (HP.out _ rfl).mono ?_
      rintro e w2 ⟨rfl, ⟨ks3, hR2, hL3⟩, hB2, hK2⟩
      have HFl := Lib.hid (fail_first hR2 40)
      have HB := Lib.hid (hB0.out.trans hB2)
      obtain ⟨x, hb, hh, _⟩ := hR2
      obtain ⟨c0, c1, c2, c3, c4, hf⟩ := rdr_cells hh
      clear hh hf hB2 hK2 hb hL3
      go_wp2_with fail
      refine HFl.out.mono ?_
      rintro e w3 ⟨rfl, hR3, hB3, _⟩
      have HB3 := Lib.hid (HB.out.trans hB3)
      obtain ⟨x3, hb3, hh3, _⟩ := hR3
      obtain ⟨d0, d1, d2, d3, d4, hf3⟩ := rdr_cells hh3
      clear hh3 hf3 hb3 hB3 c0 c1 c2 c3 c4
      go_wp2_with fail
      go_quiet (fail)
      go_wp2_with fail
      go_ret2
      rw [HA.out]
      exact ⟨rfl, below_drewN HB3.out _⟩
    · have HA : Hid (parseF (Tx.bs s) = .ok ns2) := Lib.hid (by rw [HT.out, hr]; simp only; rw [if_neg hlt])
      have d1 : decide ((a : Int) < (s.size : Int)) = false := by simp only [decide_eq_false_iff_not]; omega
      have d2 : decide (a < s.size) = false := by simp only [decide_eq_false_iff_not]; omega
      clear hr
      go_enter Try.func7, Try.ntmps7
      go_wp2_with fail
      refine (HP.out _ rfl).mono ?_
      rintro e w2 ⟨rfl, ⟨ks3, hR2, hL3⟩, hB2, hK2⟩
      have HB := Lib.hid (hB0.out.trans hB2)
      obtain ⟨x, hb, hh, hN⟩ := hR2
      obtain ⟨c0, c1, c2, c3, c4, hf⟩ := rdr_cells hh
      have HN := Lib.hid hN
      clear hh hf hB2 hK2 hb hL3 hN
      go_wp2_with fail
      go_ret2
      rw [HA.out]
      exact ⟨_, _, rfl, HN.out, HB.out⟩
end Rx
end
section
open Go.RowKit
namespace Rx
open Cm
section
variable {w : World} {base rb : Nat} {s : ByteArray} {at_ : Nat} {D : Int} {ns : List Nd} {ks : List Value}
theorem class_ok (s : ByteArray) (hs : s.size ≤ 1000000) : ClassOk s := by
  intro w base rb at_ D ns ks h ha hn
  by_cases hx : (Tx.bs s)[at_]? = some 94
  · have h1 := class_neg h hs ha hn hx
    unfold classF
    rw [if_pos hx]
    generalize itemsF (Tx.bs s) ((Tx.bs s).length + 1) true (at_ + 1) noSet = t at h1
    rcases t with _ | ⟨m, a⟩
    · exact h1
    · exact h1
  · have h1 := class_pos h hs ha hn hx
    unfold classF
    rw [if_neg hx]
    generalize itemsF (Tx.bs s) ((Tx.bs s).length + 1) true at_ noSet = t at h1
    rcases t with _ | ⟨m, a⟩
    · exact h1
    · exact h1
end
end Rx
end
section
open Go.RowKit
namespace Px
open Cm Rx
def codeR (r : Except Int (List Nd)) : Int := match r with | .error c => c | .ok _ => 0
def nodesR (r : Except Int (List Nd)) : List Nd := match r with | .error _ => [] | .ok ns => ns
theorem nodes_small (l : List UInt8) : (nodesR (parseF l)).length ≤ 1100 ∧ ∀ n ∈ nodesR (parseF l), n.kids.length ≤ 257 := by
  cases h : parseF l with
  | error c => exact ⟨Nat.zero_le _, fun n hn => by cases hn⟩
  | ok ns => exact ⟨(parse_good h).2.1, (parse_good h).2.2⟩
theorem below_tr {w w1 w2 : World} (h : Below w.heap.size w w1) (hb : Below w1.heap.size w1 w2) : Below w.heap.size w w2 := h.trans (hb.mono h.size)
theorem ParseR_rd (s : ByteArray) (w : World) (hs : s.size ≤ 256) : Calls Try.prog 7 #[.string s] w fun e w' =>
    ∃ v, e = .returned (.tuple #[v, .int .i64 (codeR (parseF (Tx.bs s)))]) ∧ RdN w' v (nodesR (parseF (Tx.bs s))) ∧ Below w.heap.size w w' :=
  (ParseR_any s w (by omega) (fun h => class_ok s (by omega))).mono fun e w' h => by
    cases hr : parseF (Tx.bs s) with
    | error c =>
      rw [hr] at h
      exact ⟨.slice none 0 0, h.1, RdN.nil _, h.2⟩
    | ok ns =>
      rw [hr] at h
      obtain ⟨v, ks, e1, e2, e3⟩ := h
      exact ⟨v, e1, RdN.of_own e2, e3⟩
end Px
end
end Go.Proofs.Ytebljjdhgepfkaa

/-
  Layer 15 as mathematics: a merged list, the merge along the partners and along the script, the projection. Plain mathematics, no conditions.
-/
import Derived.Test.YtechabkmepejaaaShoMath
namespace Go.Proofs.Ytechabkmepejaaa
namespace Lo
open Sc Sh
structure Mg where
  line : Int
  par : Nat
theorem Mg.eq {a b : Mg} (h1 : a.line = b.line) (h2 : a.par = b.par) : a = b := by
  cases a; cases b; simp at h1 h2; simp [h1, h2]
def lnM (l : List Mg) : List Int := l.map (·.line)
def news (b : Nat) (ys : List Int) : List Mg := ys.map fun y => ⟨y, b⟩
def shr (b : Nat) (xs : List Mg) : List Mg := xs.map fun x => ⟨x.line, x.par ||| b⟩
theorem lnM_len (l : List Mg) : (lnM l).length = l.length := by simp [lnM]
theorem news_len (b : Nat) (ys : List Int) : (news b ys).length = ys.length := by simp [news]
theorem shr_len (b : Nat) (xs : List Mg) : (shr b xs).length = xs.length := by simp [shr]
theorem shr_app (b : Nat) (xs ys : List Mg) : shr b (xs ++ ys) = shr b xs ++ shr b ys := by simp [shr]
theorem shr_snoc (b : Nat) (xs : List Mg) (x : Mg) : shr b (xs ++ [x]) = shr b xs ++ [⟨x.line, x.par ||| b⟩] := by simp [shr]
theorem news_snoc (b : Nat) (xs : List Int) (x : Int) : news b (xs ++ [x]) = news b xs ++ [⟨x, b⟩] := by simp [news]
/-- The elements from i to before j. -/
def cutI {α : Type} (l : List α) (i j : Int) : List α := (l.drop i.toNat).take (j - i).toNat
theorem cutI_nil {α : Type} (l : List α) (i : Int) : cutI l i i = [] := by unfold cutI; rw [Int.sub_self]; rfl
theorem cutI_app {α : Type} (l : List α) {i j k : Int} (h0 : 0 ≤ i) (h1 : i ≤ j) (h2 : j ≤ k) : cutI l i j ++ cutI l j k = cutI l i k := by
  obtain ⟨a, rfl⟩ : ∃ a : Nat, i = a := ⟨i.toNat, by omega⟩
  obtain ⟨b, rfl⟩ : ∃ b : Nat, j = (a + b : Nat) := ⟨(j - a).toNat, by omega⟩
  obtain ⟨c, rfl⟩ : ∃ c : Nat, k = (a + b + c : Nat) := ⟨(k - (a + b : Nat)).toNat, by omega⟩
  unfold cutI
  rw [show (a : Int).toNat = a from by omega, show ((a + b : Nat) : Int).toNat = a + b from by omega, show (((a + b : Nat) : Int) - (a : Int)).toNat = b from by omega, show (((a + b + c : Nat) : Int) - ((a + b : Nat) : Int)).toNat = c from by omega, show (((a + b + c : Nat) : Int) - (a : Int)).toNat = b + c from by omega]
  rw [List.take_add, List.drop_drop]
theorem cutI_drop {α : Type} (l : List α) {i j : Int} (h0 : 0 ≤ i) (h1 : i ≤ j) : cutI l i j ++ l.drop j.toNat = l.drop i.toNat := by
  unfold cutI
  have h := List.take_append_drop (j - i).toNat (l.drop i.toNat)
  rw [List.drop_drop, show i.toNat + (j - i).toNat = j.toNat from by omega] at h
  exact h
theorem cutI_end {α : Type} (l : List α) {i j : Int} (h0 : 0 ≤ i) (h1 : (l.length : Int) ≤ j) : cutI l i j = l.drop i.toNat := by
  unfold cutI
  rw [List.take_of_length_le]
  rw [List.length_drop]; omega
theorem cutI_len {α : Type} (l : List α) {i j : Int} (h0 : 0 ≤ i) (h1 : i ≤ j) (h2 : j ≤ l.length) : ((cutI l i j).length : Int) = j - i := by
  unfold cutI
  rw [List.length_take, List.length_drop]
  omega
theorem cutI_one {α : Type} (l : List α) {i : Nat} (h : i < l.length) : cutI l (i : Int) ((i : Int) + 1) = [l[i]] := by
  unfold cutI
  rw [show ((i : Int) + 1 - (i : Int)).toNat = 1 from by omega, show (i : Int).toNat = i from by omega, List.drop_eq_getElem_cons h]
  rfl
theorem cutI_mem {α : Type} {l : List α} {i j : Int} {x : α} (h : x ∈ cutI l i j) : x ∈ l := List.mem_of_mem_drop (List.mem_of_mem_take h)
theorem cutI_get {α : Type} (l : List α) {i j : Int} {k : Nat} (h : (k : Int) < j - i) : (cutI l i j)[k]? = l[i.toNat + k]? := by
  unfold cutI
  rw [List.getElem?_take, if_pos (by omega), List.getElem?_drop]
/-- The merge along the partners, from line i of the merged list and line j of the other one on. -/
def jnF (l : List Mg) (ys : List Int) (b : Nat) : Int → Int → List Sp → List Mg
  | i, j, [] => l.drop i.toNat ++ news b (ys.drop j.toNat)
  | i, j, s :: p => cutI l i s.frm ++ (news b (cutI ys j s.to) ++ (shr b (cutI l s.frm (s.frm + 1)) ++ jnF l ys b (s.frm + 1) (s.to + 1) p))
/-- The merge along the script. -/
def mgF (l : List Mg) (ys : List Int) (b : Nat) : Int → List Ch → List Mg
  | e, [] => shr b (l.drop e.toNat)
  | e, c :: r => shr b (cutI l e c.old) ++ (cutI l c.old (c.old + c.oldLen) ++ (news b (cutI ys c.new (c.new + c.newLen)) ++ mgF l ys b (c.old + c.oldLen) r))
theorem mg_fr (l : List Mg) (ys : List Int) (b : Nat) : ∀ (p : List Sp) (e i j : Int), 0 ≤ e → e ≤ i → i ≤ l.length → 0 ≤ j → j ≤ ys.length → OkP (l.length : Int) (ys.length : Int) i j p →
    mgF l ys b e (frF (l.length : Int) (ys.length : Int) i j p) = shr b (cutI l e i) ++ jnF l ys b i j p
  | [], e, i, j, h0, h1, h2, h3, h4, _ => by
    unfold frF jnF
    by_cases he : i = (l.length : Int) ∧ j = (ys.length : Int)
    · obtain ⟨rfl, rfl⟩ := he
      rw [btw_same]
      unfold mgF
      rw [List.drop_eq_nil_of_le (show l.length ≤ (l.length : Int).toNat by omega), List.drop_eq_nil_of_le (show ys.length ≤ (ys.length : Int).toNat by omega), cutI_end l h0 (Int.le_refl _)]
      simp [news]
    · rw [btw_new he]
      unfold mgF mgF
      simp only
      rw [show i + ((l.length : Int) - i) = l.length from by omega, show j + ((ys.length : Int) - j) = ys.length from by omega, cutI_end l (by omega) (Int.le_refl _), cutI_end ys h3 (Int.le_refl _), List.drop_eq_nil_of_le (show l.length ≤ (l.length : Int).toNat by omega)]
      simp [shr]
  | s :: p, e, i, j, h0, h1, h2, h3, h4, ⟨⟨g1, g2, g3, g4⟩, hp⟩ => by
    unfold frF jnF
    have ih := mg_fr l ys b p
    by_cases he : i = s.frm ∧ j = s.to
    · obtain ⟨e1, e2⟩ := he
      rw [← e1, ← e2, btw_same, List.nil_append, cutI_nil, cutI_nil]
      rw [← e1, ← e2] at hp
      rw [ih e (i + 1) (j + 1) h0 (by omega) (by omega) (by omega) (by omega) hp, ← cutI_app l h0 h1 (show i ≤ i + 1 by omega), shr_app]
      simp [news]
    · rw [btw_new he, List.singleton_append]
      unfold mgF
      simp only
      rw [show i + (s.frm - i) = s.frm from by omega, show j + (s.to - j) = s.to from by omega]
      rw [ih s.frm (s.frm + 1) (s.to + 1) (by omega) (by omega) (by omega) (by omega) (by omega) hp]
/-- The merge of a merged list and the list of one more parent. -/
def jn (l : List Mg) (ys : List Int) (b : Nat) : List Mg := jnF l ys b 0 0 (wkF 0 0 (lnM l) ys)
theorem wk_ok (l : List Mg) (ys : List Int) : OkP (l.length : Int) (ys.length : Int) 0 0 (wkF 0 0 (lnM l) ys) := by
  have h := wkF_okP 0 0 (lnM l) ys
  rw [Int.zero_add, Int.zero_add, lnM_len] at h
  exact h
theorem mg_jn (l : List Mg) (ys : List Int) (b : Nat) : mgF l ys b 0 (frF (l.length : Int) (ys.length : Int) 0 0 (wkF 0 0 (lnM l) ys)) = jn l ys b := by
  rw [mg_fr l ys b _ 0 0 0 (Int.le_refl _) (Int.le_refl _) (by omega) (Int.le_refl _) (by omega) (wk_ok l ys), cutI_nil]
  simp [shr, jn]
/-- All lists, one after the other, from parent k on. -/
def coF (k : Nat) : List Mg → List (List Int) → List Mg
  | l, [] => l
  | l, ys :: r => coF (k + 1) (jn l ys (2 ^ k)) r
/-- Whether a list becomes too long on the way. -/
def badF (k : Nat) : List Mg → List (List Int) → Bool
  | _, [] => false
  | l, ys :: r => (decide (4096 < l.length) || decide (4096 < ys.length)) || badF (k + 1) (jn l ys (2 ^ k)) r
def codeF (ls : List (List Int)) : Int := if 32 < ls.length ∨ badF 0 [] ls = true then 1 else 0
def colF (ls : List (List Int)) : List Mg := if 32 < ls.length ∨ badF 0 [] ls = true then [] else coF 0 [] ls
/-- The lines of a parent. -/
def prF (l : List Mg) (p : Int) : List Int := if 0 ≤ p ∧ p < 32 then lnM (l.filter fun m => m.par.testBit p.toNat) else []
/-! ### what the merge is -/
/-- The merge, told by its parts. -/
inductive Jn (b : Nat) : List Mg → List Int → List Mg → Prop
  | done (l : List Mg) (ys : List Int) : Jn b l ys (l ++ news b ys)
  | part (l1 l2 : List Mg) (y1 y2 : List Int) (x : Mg) (r : List Mg) (h : Jn b l2 y2 r) : Jn b (l1 ++ x :: l2) (y1 ++ x.line :: y2) (l1 ++ (news b y1 ++ (⟨x.line, x.par ||| b⟩ :: r)))
theorem jnF_rel (l : List Mg) (ys : List Int) (b : Nat) : ∀ (p : List Sp) (i j : Int), 0 ≤ i → 0 ≤ j → i ≤ l.length → j ≤ ys.length → OkP (l.length : Int) (ys.length : Int) i j p → (∀ s ∈ p, (lnM l)[s.frm.toNat]? = ys[s.to.toNat]?) →
    Jn b (l.drop i.toNat) (ys.drop j.toNat) (jnF l ys b i j p)
  | [], i, j, h0, h1, h2, h3, _, _ => Jn.done _ _
  | s :: p, i, j, h0, h1, h2, h3, ⟨⟨g1, g2, g3, g4⟩, hp⟩, he => by
    have ih := jnF_rel l ys b p (s.frm + 1) (s.to + 1) (by omega) (by omega) (by omega) (by omega) hp (fun t ht => he t (List.mem_cons_of_mem _ ht))
    have e := he s List.mem_cons_self
    unfold jnF
    obtain ⟨f, hf⟩ : ∃ f : Nat, s.frm = f := ⟨s.frm.toNat, by omega⟩
    obtain ⟨t, ht⟩ : ∃ t : Nat, s.to = t := ⟨s.to.toNat, by omega⟩
    have f1 : f < l.length := by omega
    have t1 : t < ys.length := by omega
    rw [← cutI_drop l h0 g1, ← cutI_drop ys h1 g3]
    rw [hf, ht] at ih e ⊢
    rw [show (f : Int).toNat = f from by omega, show (t : Int).toNat = t from by omega] at e ⊢
    rw [show ((f : Int) + 1).toNat = f + 1 from by omega, show ((t : Int) + 1).toNat = t + 1 from by omega] at ih
    rw [cutI_one l f1, List.drop_eq_getElem_cons f1, List.drop_eq_getElem_cons t1]
    have ex : ys[t] = l[f].line := by
      rw [List.getElem?_eq_getElem t1, List.getElem?_eq_getElem (by rw [lnM_len]; exact f1)] at e
      have := Option.some.inj e
      rw [← this]; simp [lnM]
    rw [ex]
    exact Jn.part _ _ _ _ _ _ ih
theorem wk_equal (i j : Nat) (a b : List Int) : ∀ s ∈ wkF i j a b, ∃ p q : Nat, s.frm = (i + p : Nat) ∧ s.to = (j + q : Nat) ∧ ∃ (h1 : p < a.length) (h2 : q < b.length), a[p] = b[q] := by
  suffices H : ∀ (n : Nat) (i j : Nat) (a b : List Int), a.length + b.length ≤ n → ∀ s ∈ wkF i j a b, ∃ p q : Nat, s.frm = (i + p : Nat) ∧ s.to = (j + q : Nat) ∧ ∃ (h1 : p < a.length) (h2 : q < b.length), a[p] = b[q] from H _ i j a b (Nat.le_refl _)
  intro n
  induction n with
  | zero =>
    intro i j a b h s hs
    obtain rfl : a = [] := List.eq_nil_of_length_eq_zero (by omega)
    rw [wkF_nil] at hs; cases hs
  | succ n ih =>
    intro i j a b h s hs
    cases a with
    | nil => rw [wkF_nil] at hs; cases hs
    | cons x a =>
      cases b with
      | nil => rw [wkF_nil'] at hs; cases hs
      | cons y b =>
        simp only [List.length_cons] at h
        by_cases e : x = y
        · subst e
          rw [wkF_eq] at hs
          rcases List.mem_cons.1 hs with rfl | hs
          · exact ⟨0, 0, rfl, rfl, by simp, by simp, rfl⟩
          · obtain ⟨p, q, h1, h2, h3, h4, h5⟩ := ih (i + 1) (j + 1) a b (by omega) s (by simpa using hs)
            exact ⟨p + 1, q + 1, by omega, by omega, by simp; omega, by simp; omega, by simpa using h5⟩
        · by_cases hl : lcs a (y :: b) = lcs (x :: a) (y :: b)
          · rw [wkF_old e hl] at hs
            obtain ⟨p, q, h1, h2, h3, h4, h5⟩ := ih (i + 1) j a (y :: b) (by simp only [List.length_cons]; omega) s (by simpa using hs)
            exact ⟨p + 1, q, by omega, by omega, by simp; omega, h4, by simpa using h5⟩
          · rw [wkF_new e hl] at hs
            obtain ⟨p, q, h1, h2, h3, h4, h5⟩ := ih i (j + 1) (x :: a) b (by simp only [List.length_cons]; omega) s (by simpa using hs)
            exact ⟨p, q + 1, by omega, by omega, h3, by simp; omega, by simpa using h5⟩
theorem jn_rel (l : List Mg) (ys : List Int) (b : Nat) : Jn b l ys (jn l ys b) := by
  refine jnF_rel l ys b _ 0 0 (Int.le_refl _) (Int.le_refl _) (by omega) (by omega) (wk_ok l ys) fun s hs => ?_
  obtain ⟨p, q, h1, h2, h3, h4, h5⟩ := wk_equal 0 0 (lnM l) ys s (by simpa using hs)
  rw [h1, h2, show (((0 + p : Nat) : Int)).toNat = p from by omega, show (((0 + q : Nat) : Int)).toNat = q from by omega, List.getElem?_eq_getElem h3, List.getElem?_eq_getElem h4, h5]
theorem Jn.len {b : Nat} {l : List Mg} {ys : List Int} {r : List Mg} (h : Jn b l ys r) : l.length ≤ r.length ∧ ys.length ≤ r.length ∧ r.length ≤ l.length + ys.length := by
  induction h with
  | done l ys => rw [List.length_append, news_len]; omega
  | part l1 l2 y1 y2 x r h ih => simp only [List.length_append, List.length_cons, news_len] at *; omega
/-- The lines of a parent: bit q. -/
def prN (l : List Mg) (q : Nat) : List Int := lnM (l.filter fun m => m.par.testBit q)
theorem prN_app (a b : List Mg) (q : Nat) : prN (a ++ b) q = prN a q ++ prN b q := by simp [prN, lnM]
theorem prN_cons_T {m : Mg} {q : Nat} (h : m.par.testBit q = true) (b : List Mg) : prN (m :: b) q = m.line :: prN b q := by simp [prN, lnM, h]
theorem prN_cons_F {m : Mg} {q : Nat} (h : m.par.testBit q = false) (b : List Mg) : prN (m :: b) q = prN b q := by simp [prN, lnM, h]
theorem prN_news_eq (k : Nat) (ys : List Int) : prN (news (2 ^ k) ys) k = ys := by
  induction ys with
  | nil => rfl
  | cons y r ih =>
    show prN (⟨y, 2 ^ k⟩ :: news (2 ^ k) r) k = _
    rw [prN_cons_T (by simp [Nat.testBit_two_pow_self]), ih]
theorem prN_news_ne {k q : Nat} (h : k ≠ q) (ys : List Int) : prN (news (2 ^ k) ys) q = [] := by
  induction ys with
  | nil => rfl
  | cons y r ih =>
    show prN (⟨y, 2 ^ k⟩ :: news (2 ^ k) r) q = _
    rw [prN_cons_F (by simp [Nat.testBit_two_pow_of_ne h]), ih]
theorem prN_small {l : List Mg} {k q : Nat} (h : ∀ m ∈ l, m.par < 2 ^ k) (hq : k ≤ q) : prN l q = [] := by
  induction l with
  | nil => rfl
  | cons m r ih =>
    rw [prN_cons_F, ih (fun x hx => h x (List.mem_cons_of_mem _ hx))]
    refine Nat.testBit_lt_two_pow (Nat.lt_of_lt_of_le (h m List.mem_cons_self) (Nat.pow_le_pow_right (by decide) hq))
theorem Jn.others {k q : Nat} (hq : k ≠ q) {l : List Mg} {ys : List Int} {r : List Mg} (h : Jn (2 ^ k) l ys r) : prN r q = prN l q := by
  induction h with
  | done l ys => rw [prN_app, prN_news_ne hq, List.append_nil]
  | part l1 l2 y1 y2 x r h ih =>
    rw [prN_app, prN_app, prN_news_ne hq, prN_app, List.nil_append]
    congr 1
    have e : (x.par ||| 2 ^ k).testBit q = x.par.testBit q := by rw [Nat.testBit_or, Nat.testBit_two_pow_of_ne hq, Bool.or_false]
    cases hx : x.par.testBit q with
    | true => rw [prN_cons_T hx, prN_cons_T (by simp only; rw [e, hx]), ih]
    | false => rw [prN_cons_F hx, prN_cons_F (by simp only; rw [e, hx]), ih]
theorem Jn.own {k : Nat} {l : List Mg} {ys : List Int} {r : List Mg} (h : Jn (2 ^ k) l ys r) (hs : ∀ m ∈ l, m.par < 2 ^ k) : prN r k = ys := by
  induction h with
  | done l ys => rw [prN_app, prN_news_eq, prN_small hs (Nat.le_refl _), List.nil_append]
  | part l1 l2 y1 y2 x r h ih =>
    rw [prN_app, prN_app, prN_news_eq, prN_small (fun m hm => hs m (List.mem_append_left _ hm)) (Nat.le_refl _), List.nil_append]
    rw [prN_cons_T (by simp only; rw [Nat.testBit_or, Nat.testBit_two_pow_self, Bool.or_true]), ih (fun m hm => hs m (List.mem_append_right _ (List.mem_cons_of_mem _ hm)))]
/-- Parents are there, and are below k. -/
def FewP (k : Nat) (l : List Mg) : Prop := ∀ m ∈ l, m.par < 2 ^ k ∧ m.par ≠ 0
theorem FewP.nil (k : Nat) : FewP k [] := fun _ h => by cases h
theorem Jn.few {k : Nat} {l : List Mg} {ys : List Int} {r : List Mg} (h : Jn (2 ^ k) l ys r) (hs : FewP k l) : FewP (k + 1) r := by
  have up : (2 : Nat) ^ k < 2 ^ (k + 1) := Nat.pow_lt_pow_right (by decide) (by omega)
  have pos : 0 < (2 : Nat) ^ k := Nat.two_pow_pos k
  have hn : ∀ ys : List Int, FewP (k + 1) (news (2 ^ k) ys) := fun ys m hm => by
    obtain ⟨y, _, rfl⟩ := List.mem_map.1 hm
    exact ⟨up, by simp only; omega⟩
  induction h with
  | done l ys =>
    intro m hm
    rcases List.mem_append.1 hm with h | h
    · have := hs m h; exact ⟨by omega, this.2⟩
    · exact hn ys m h
  | part l1 l2 y1 y2 x r h ih =>
    intro m hm
    rcases List.mem_append.1 hm with h | h
    · have := hs m (List.mem_append_left _ h); exact ⟨by omega, this.2⟩
    rcases List.mem_append.1 h with h | h
    · exact hn _ m h
    rcases List.mem_cons.1 h with rfl | h
    · have hx := hs x (List.mem_append_right _ List.mem_cons_self)
      refine ⟨Nat.or_lt_two_pow (by omega) up, fun e => ?_⟩
      have h2 : (x.par ||| 2 ^ k).testBit k = true := by rw [Nat.testBit_or, Nat.testBit_two_pow_self, Bool.or_true]
      rw [show x.par ||| 2 ^ k = 0 from e] at h2
      simp at h2
    · exact ih (fun m hm => hs m (List.mem_append_right _ (List.mem_cons_of_mem _ hm))) m h
/-- All lists merged: what the law asks. -/
theorem co_facts : ∀ (ls : List (List Int)) (k : Nat) (l : List Mg), FewP k l → FewP (k + ls.length) (coF k l ls) ∧ (∀ q, q < k → prN (coF k l ls) q = prN l q) ∧ (∀ q (h : q < ls.length), prN (coF k l ls) (k + q) = ls[q]) ∧
    l.length ≤ (coF k l ls).length ∧ (∀ q (h : q < ls.length), ls[q].length ≤ (coF k l ls).length) ∧ (coF k l ls).length ≤ l.length + (ls.map List.length).sum
  | [], k, l, h => ⟨h, fun _ _ => rfl, fun q h => absurd h (Nat.not_lt_zero _), Nat.le_refl _, fun q h => absurd h (Nat.not_lt_zero _), by simp [coF]⟩
  | ys :: r, k, l, h => by
    have hj := jn_rel l ys (2 ^ k)
    have hf := hj.few h
    have hl := hj.len
    have ih := co_facts r (k + 1) (jn l ys (2 ^ k)) hf
    obtain ⟨i1, i2, i3, i4, i5, i6⟩ := ih
    refine ⟨?_, fun q hq => ?_, fun q hq => ?_, ?_, fun q hq => ?_, ?_⟩
    · show FewP (k + (ys :: r).length) (coF (k + 1) _ r)
      rw [List.length_cons, show k + (r.length + 1) = k + 1 + r.length from by omega]; exact i1
    · show prN (coF (k + 1) _ r) q = _
      rw [i2 q (by omega), hj.others (by omega)]
    · show prN (coF (k + 1) _ r) (k + q) = _
      cases q with
      | zero =>
        show prN (coF (k + 1) _ r) k = ys
        rw [i2 k (by omega), hj.own (fun m hm => (h m hm).1)]
      | succ q =>
        rw [show k + (q + 1) = k + 1 + q from by omega, i3 q (by simpa using hq)]; rfl
    · show l.length ≤ (coF (k + 1) _ r).length
      omega
    · show _ ≤ (coF (k + 1) _ r).length
      cases q with
      | zero => show ys.length ≤ _; omega
      | succ q => exact i5 q (by simpa using hq)
    · show (coF (k + 1) _ r).length ≤ _
      simp only [List.map_cons, List.sum_cons]
      omega
/-! ### small lists, copies -/
theorem bad_small : ∀ (ls : List (List Int)) (k : Nat) (l : List Mg), l.length + (ls.map List.length).sum ≤ 4096 → badF k l ls = false
  | [], _, _, _ => rfl
  | ys :: r, k, l, h => by
    have hl := (jn_rel l ys (2 ^ k)).len
    simp only [List.map_cons, List.sum_cons] at h
    unfold badF
    rw [decide_eq_false (by omega), decide_eq_false (by omega), bad_small r (k + 1) _ (by omega)]
    rfl
theorem col_small {ls : List (List Int)} (h : ls.length ≤ 32) (hs : (ls.map List.length).sum ≤ 4096) : colF ls = coF 0 [] ls ∧ codeF ls = 0 := by
  have hb := bad_small ls 0 [] (by simpa using hs)
  unfold colF codeF
  rw [hb]
  simp [show ¬ 32 < ls.length by omega]
theorem wk_self : ∀ (i j : Int) (a : List Int), wkF i j a a = run i j a.length
  | i, j, [] => by rw [wkF_nil]; rfl
  | i, j, x :: a => by rw [wkF_eq, wk_self (i + 1) (j + 1) a, List.length_cons, run_cons]
theorem jn_nil (l : List Mg) (b : Nat) : jn l [] b = l := by
  unfold jn
  rw [wkF_nil']
  simp [jnF, news]
theorem jn_new (ys : List Int) (b : Nat) : jn [] ys b = news b ys := by
  unfold jn
  rw [show lnM [] = [] from rfl, wkF_nil]
  simp [jnF]
theorem jnF_run (l : List Mg) (ys : List Int) (b : Nat) (hl : l.length = ys.length) : ∀ (n i : Nat), i + n = l.length → jnF l ys b (i : Int) (i : Int) (run (i : Int) (i : Int) n) = shr b (l.drop i)
  | 0, i, h => by
    rw [run_zero]
    unfold jnF
    rw [show (i : Int).toNat = i from by omega, List.drop_eq_nil_of_le (by omega), List.drop_eq_nil_of_le (by omega)]
    rfl
  | n + 1, i, h => by
    have hi : i < l.length := by omega
    rw [run_cons]
    unfold jnF
    simp only
    have ih := jnF_run l ys b hl n (i + 1) (by omega)
    rw [show ((i + 1 : Nat) : Int) = (i : Int) + 1 from by omega] at ih
    rw [cutI_nil, cutI_nil, ih, cutI_one l hi, List.drop_eq_getElem_cons hi]
    rfl
theorem jn_same (l : List Mg) (b : Nat) : jn l (lnM l) b = shr b l := by
  unfold jn
  rw [wk_self, lnM_len]
  exact jnF_run l (lnM l) b (lnM_len l).symm l.length 0 (by omega)
theorem lnM_news (b : Nat) : ∀ ys : List Int, lnM (news b ys) = ys
  | [] => rfl
  | y :: r => by
    show y :: lnM (news b r) = y :: r
    rw [lnM_news b r]
/-- Copies of x: the state is x with the parents so far. -/
theorem jn_copy (x : List Int) (w b : Nat) : jn (news w x) x b = news (w ||| b) x := by
  have h := jn_same (news w x) b
  rw [lnM_news] at h
  rw [h]
  simp [shr, news]
end Lo
end Go.Proofs.Ytechabkmepejaaa

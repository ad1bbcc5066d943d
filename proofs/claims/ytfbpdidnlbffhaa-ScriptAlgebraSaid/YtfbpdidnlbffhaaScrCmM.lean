/-
  What composition of partners is, as a list: its order, associativity, neutral elements and inverse. No conditions.
-/
import Derived.Test.YtfbpdidnlbffhaaScrMath
namespace Go.Proofs.Ytfbpdidnlbffhaa
open Go.RowKit
namespace Sc
/-- Both fields ascend. -/
def Asc (p : List Sp) : Prop := p.Pairwise fun a b => a.frm < b.frm ∧ a.to < b.to
def InR (i m j n : Int) (p : List Sp) : Prop := ∀ s ∈ p, (i ≤ s.frm ∧ s.frm < m) ∧ j ≤ s.to ∧ s.to < n
theorem okP_asc {m n : Int} : ∀ {p : List Sp} {i j : Int}, OkP m n i j p → InR i m j n p ∧ Asc p
  | [], _, _, _ => ⟨fun s hs => (by cases hs), List.Pairwise.nil⟩
  | x :: p, i, j, ⟨⟨a, b, c, d⟩, e⟩ => by
    obtain ⟨h1, h2⟩ := okP_asc e
    refine ⟨fun s hs => ?_, List.Pairwise.cons (fun s hs => ?_) h2⟩
    · rcases List.mem_cons.1 hs with rfl | hs
      · exact ⟨⟨a, b⟩, c, d⟩
      · have := h1 s hs
        exact ⟨⟨by omega, this.1.2⟩, by omega, this.2.2⟩
    · have := h1 s hs
      exact ⟨by omega, by omega⟩
theorem okP_of {m n : Int} : ∀ {p : List Sp} {i j : Int}, InR i m j n p → Asc p → OkP m n i j p
  | [], _, _, _, _ => trivial
  | x :: p, i, j, h, h2 => by
    have hx := h x (by simp)
    obtain ⟨h3, h4⟩ := List.pairwise_cons.1 h2
    refine ⟨⟨hx.1.1, hx.1.2, hx.2.1, hx.2.2⟩, okP_of (fun s hs => ?_) h4⟩
    have h5 := h s (by simp [hs])
    have h6 := h3 s hs
    exact ⟨⟨by omega, h5.1.2⟩, by omega, h5.2.2⟩
theorem asc_ext : ∀ {p q : List Sp}, Asc p → Asc q → (∀ s, s ∈ p ↔ s ∈ q) → p = q
  | [], [], _, _, _ => rfl
  | [], y :: q, _, _, h => by have := (h y).2 (by simp); cases this
  | x :: p, [], _, _, h => by have := (h x).1 (by simp); cases this
  | x :: p, y :: q, h1, h2, h => by
    obtain ⟨a1, a2⟩ := List.pairwise_cons.1 h1
    obtain ⟨b1, b2⟩ := List.pairwise_cons.1 h2
    have hxy : x = y := by
      rcases List.mem_cons.1 ((h x).1 (by simp)) with e | e
      · exact e
      · rcases List.mem_cons.1 ((h y).2 (by simp)) with e2 | e2
        · exact e2.symm
        · have c1 := b1 x e
          have c2 := a1 y e2
          omega
    subst hxy
    refine congrArg _ (asc_ext a2 b2 fun s => ⟨fun hs => ?_, fun hs => ?_⟩)
    · rcases List.mem_cons.1 ((h s).1 (by simp [hs])) with e | e
      · subst e; have := a1 s hs; omega
      · exact e
    · rcases List.mem_cons.1 ((h s).2 (by simp [hs])) with e | e
      · subst e; have := b1 s hs; omega
      · exact e
theorem asc_lt {q : List Sp} (h : Asc q) {a b : Sp} (ha : a ∈ q) (hb : b ∈ q) (hlt : a.frm < b.frm) : a.to < b.to := by
  induction q with
  | nil => cases ha
  | cons x q ih =>
    obtain ⟨h1, h2⟩ := List.pairwise_cons.1 h
    rcases List.mem_cons.1 ha with ea | ea
    · rcases List.mem_cons.1 hb with eb | eb
      · rw [ea, eb] at hlt; omega
      · rw [ea]; exact (h1 b eb).2
    · rcases List.mem_cons.1 hb with eb | eb
      · have := (h1 a ea).1; rw [eb] at hlt; omega
      · exact ih h2 ea eb
theorem asc_gt {q : List Sp} (h : Asc q) {a b : Sp} (ha : a ∈ q) (hb : b ∈ q) (hlt : a.to < b.to) : a.frm < b.frm := by
  induction q with
  | nil => cases ha
  | cons x q ih =>
    obtain ⟨h1, h2⟩ := List.pairwise_cons.1 h
    rcases List.mem_cons.1 ha with ea | ea
    · rcases List.mem_cons.1 hb with eb | eb
      · rw [ea, eb] at hlt; omega
      · rw [ea]; exact (h1 b eb).1
    · rcases List.mem_cons.1 hb with eb | eb
      · have := (h1 a ea).2; rw [eb] at hlt; omega
      · exact ih h2 ea eb
/-- The partners of one line, over a list of partners. -/
def rowF (s : Sp) (q : List Sp) : List Sp := (q.filter fun t => decide (s.to = t.frm)).map fun t => ⟨s.frm, t.to⟩
def cmpF (p q : List Sp) : List Sp := p.flatMap fun s => rowF s q
theorem mem_row {s x : Sp} {q : List Sp} : x ∈ rowF s q ↔ ∃ t ∈ q, s.to = t.frm ∧ x = ⟨s.frm, t.to⟩ := by
  unfold rowF
  rw [List.mem_map]
  constructor
  · rintro ⟨t, h1, h2⟩
    obtain ⟨h3, h4⟩ := List.mem_filter.1 h1
    exact ⟨t, h3, of_decide_eq_true h4, h2.symm⟩
  · rintro ⟨t, h1, h2, h3⟩
    exact ⟨t, List.mem_filter.2 ⟨h1, decide_eq_true h2⟩, h3.symm⟩
theorem mem_cmp {p q : List Sp} {x : Sp} : x ∈ cmpF p q ↔ ∃ s ∈ p, ∃ t ∈ q, s.to = t.frm ∧ x = ⟨s.frm, t.to⟩ := by
  unfold cmpF
  rw [List.mem_flatMap]
  constructor
  · rintro ⟨s, h1, h2⟩
    exact ⟨s, h1, mem_row.1 h2⟩
  · rintro ⟨s, h1, h2⟩
    exact ⟨s, h1, mem_row.2 h2⟩
theorem cmp_asc {p q : List Sp} (hp : Asc p) (hq : Asc q) : Asc (cmpF p q) := by
  unfold cmpF Asc
  rw [List.pairwise_flatMap]
  refine ⟨fun s _ => ?_, ?_⟩
  · unfold rowF
    rw [List.pairwise_map]
    refine List.Pairwise.imp_of_mem ?_ (List.Pairwise.filter _ hq)
    intro a b ha hb hab
    have h1 := of_decide_eq_true (List.mem_filter.1 ha).2
    have h2 := of_decide_eq_true (List.mem_filter.1 hb).2
    omega
  · refine List.Pairwise.imp ?_ hp
    intro a b hab x hx y hy
    obtain ⟨t, h1, h2, rfl⟩ := mem_row.1 hx
    obtain ⟨u, h3, h4, rfl⟩ := mem_row.1 hy
    have h5 : t.frm < u.frm := by rw [← h2, ← h4]; exact hab.2
    exact ⟨hab.1, (asc_lt (a := t) (b := u) hq h1 h3 h5 :)⟩
theorem cmp_in {i m j n a b c d : Int} {p q : List Sp} (hp : InR i m a b p) (hq : InR c d j n q) : InR i m j n (cmpF p q) := by
  intro x hx
  obtain ⟨s, h1, t, h2, h3, rfl⟩ := mem_cmp.1 hx
  exact ⟨(hp s h1).1, (hq t h2).2⟩
theorem cmp_okP {m k n : Int} {p q : List Sp} (hp : OkP m k 0 0 p) (hq : OkP k n 0 0 q) : OkP m n 0 0 (cmpF p q) :=
  okP_of (cmp_in (okP_asc hp).1 (okP_asc hq).1) (cmp_asc (okP_asc hp).2 (okP_asc hq).2)
theorem cmp_assoc {p q r : List Sp} (hp : Asc p) (hq : Asc q) (hr : Asc r) : cmpF (cmpF p q) r = cmpF p (cmpF q r) := by
  refine asc_ext (cmp_asc (cmp_asc hp hq) hr) (cmp_asc hp (cmp_asc hq hr)) fun x => ⟨fun h => ?_, fun h => ?_⟩
  · obtain ⟨u, h1, t, h2, h3, rfl⟩ := mem_cmp.1 h
    obtain ⟨s, h4, v, h5, h6, rfl⟩ := mem_cmp.1 h1
    exact mem_cmp.2 ⟨s, h4, ⟨v.frm, t.to⟩, mem_cmp.2 ⟨v, h5, t, h2, h3, rfl⟩, h6, rfl⟩
  · obtain ⟨s, h1, u, h2, h3, rfl⟩ := mem_cmp.1 h
    obtain ⟨v, h4, t, h5, h6, rfl⟩ := mem_cmp.1 h2
    exact mem_cmp.2 ⟨⟨s.frm, v.to⟩, mem_cmp.2 ⟨s, h1, v, h4, h3, rfl⟩, t, h5, h6, rfl⟩
theorem mem_run {s : Sp} {k : Nat} : s ∈ run 0 0 k ↔ s.frm = s.to ∧ 0 ≤ s.frm ∧ s.frm < k := by
  unfold run
  rw [List.mem_map]
  constructor
  · rintro ⟨t, h1, rfl⟩
    have := List.mem_range.1 h1
    refine ⟨?_, ?_, ?_⟩ <;> simp only <;> omega
  · rintro ⟨h1, h2, h3⟩
    refine ⟨s.frm.toNat, List.mem_range.2 (by omega), ?_⟩
    obtain ⟨f, t⟩ := s
    simp only at h1 h2 h3 ⊢
    congr 1 <;> omega
theorem run_asc (k : Nat) : Asc (run 0 0 k) := by
  unfold Asc run
  rw [List.pairwise_map]
  refine List.Pairwise.imp ?_ List.pairwise_lt_range
  intro a b h
  exact ⟨by simp only; omega, by simp only; omega⟩
theorem cmp_runL {m n : Int} {p : List Sp} (hp : OkP m n 0 0 p) : cmpF (run 0 0 m.toNat) p = p := by
  obtain ⟨h1, h2⟩ := okP_asc hp
  refine asc_ext (cmp_asc (run_asc _) h2) h2 fun x => ⟨fun h => ?_, fun h => ?_⟩
  · obtain ⟨s, h3, t, h4, h5, rfl⟩ := mem_cmp.1 h
    have := (mem_run.1 h3).1
    rw [this, h5]; exact h4
  · have h3 := h1 x h
    exact mem_cmp.2 ⟨⟨x.frm, x.frm⟩, mem_run.2 ⟨rfl, h3.1.1, by simp only; omega⟩, x, h, rfl, rfl⟩
theorem cmp_runR {m n : Int} {p : List Sp} (hp : OkP m n 0 0 p) : cmpF p (run 0 0 n.toNat) = p := by
  obtain ⟨h1, h2⟩ := okP_asc hp
  refine asc_ext (cmp_asc h2 (run_asc _)) h2 fun x => ⟨fun h => ?_, fun h => ?_⟩
  · obtain ⟨s, h3, t, h4, h5, rfl⟩ := mem_cmp.1 h
    have := (mem_run.1 h4).1
    rw [← this, ← h5]; exact h3
  · have h3 := h1 x h
    exact mem_cmp.2 ⟨x, h, ⟨x.to, x.to⟩, mem_run.2 ⟨rfl, h3.2.1, by simp only; omega⟩, rfl, rfl⟩
theorem swp_asc {p : List Sp} (h : Asc p) : Asc (p.map swp) := by
  unfold Asc at *
  rw [List.pairwise_map]
  exact List.Pairwise.imp (fun h => ⟨h.2, h.1⟩) h
theorem mem_swp {p : List Sp} {x : Sp} : x ∈ p.map swp ↔ swp x ∈ p := by
  rw [List.mem_map]
  constructor
  · rintro ⟨s, h, rfl⟩; exact h
  · intro h; exact ⟨swp x, h, rfl⟩
theorem cmp_swp {p q : List Sp} (hp : Asc p) (hq : Asc q) : cmpF (q.map swp) (p.map swp) = (cmpF p q).map swp := by
  refine asc_ext (cmp_asc (swp_asc hq) (swp_asc hp)) (swp_asc (cmp_asc hp hq)) fun x => ⟨fun h => ?_, fun h => ?_⟩
  · obtain ⟨s, h3, t, h4, h5, rfl⟩ := mem_cmp.1 h
    exact mem_swp.2 (mem_cmp.2 ⟨swp t, mem_swp.1 h4, swp s, mem_swp.1 h3, h5.symm, rfl⟩)
  · obtain ⟨s, h3, t, h4, h5, h6⟩ := mem_cmp.1 (mem_swp.1 h)
    refine mem_cmp.2 ⟨swp t, mem_swp.2 h4, swp s, mem_swp.2 h3, h5.symm, ?_⟩
    obtain ⟨f, g⟩ := x
    simp only [swp, Sp.mk.injEq] at h6 ⊢
    exact ⟨h6.2, h6.1⟩
/-- The table of partners, by the line of the old text. -/
def ptF (q : List Sp) (i : Int) : Int := q.foldl (fun acc s => if s.frm = i then s.to else acc) (-1)
theorem ptF_snoc (q : List Sp) (s : Sp) (i : Int) : ptF (q ++ [s]) i = if s.frm = i then s.to else ptF q i := by unfold ptF; rw [List.foldl_append]; rfl
def ptL (k : Nat) (q : List Sp) : List Int := (List.range k).map fun i : Nat => ptF q (i : Int)
theorem ptL_len (k : Nat) (q : List Sp) : (ptL k q).length = k := by simp [ptL]
theorem ptL_nil (k : Nat) : ptL k [] = List.replicate k (-1) := by
  unfold ptL
  refine List.ext_getElem (by simp) fun i h1 h2 => ?_
  simp [ptF]
theorem ptL_get {k : Nat} {q : List Sp} {i : Nat} (h : i < (ptL k q).length) : (ptL k q)[i] = ptF q (i : Int) := by simp [ptL]
theorem ptL_snoc {k : Nat} {q : List Sp} {i : Nat} {t : Int} : (ptL k q).set i t = ptL k (q ++ [⟨(i : Int), t⟩]) := by
  refine List.ext_getElem (by simp [ptL]) fun j h1 h2 => ?_
  rw [ptL_get, ptF_snoc, List.getElem_set]
  simp only
  by_cases e : i = j
  · subst e; rw [if_pos rfl, if_pos rfl]
  · rw [if_neg e, if_neg (by omega), ptL_get]
theorem row_ge {m n : Int} : ∀ {q : List Sp} {i j k : Int} (acc : Int), OkP m n i j q → k < i → (q.filter fun t => decide (k = t.frm)) = [] ∧ q.foldl (fun acc s => if s.frm = k then s.to else acc) acc = acc
  | [], _, _, _, _, _, _ => ⟨rfl, rfl⟩
  | x :: q, i, j, k, acc, ⟨⟨a, b, c, d⟩, e⟩, h => by
    rw [List.filter_cons_of_neg (by simp only [decide_eq_true_eq]; omega), List.foldl_cons, if_neg (by omega)]
    exact row_ge acc e (by omega)
theorem row_pt {m n : Int} : ∀ {q : List Sp} {i j : Int} (k : Int), 0 ≤ j → OkP m n i j q → ((q.filter fun t => decide (k = t.frm)).map Sp.to = if ptF q k = -1 then [] else [ptF q k])
  | [], _, _, k, _, _ => rfl
  | x :: q, i, j, k, hj, ⟨⟨a, b, c, d⟩, e⟩ => by
    by_cases h : k = x.frm
    · obtain ⟨h1, h2⟩ := row_ge x.to e (k := k) (by omega)
      unfold ptF
      rw [List.filter_cons_of_pos (by simpa using h), List.foldl_cons, if_pos h.symm, h1, h2, if_neg (by omega)]
      rfl
    · have h1 : ptF (x :: q) k = ptF q k := by unfold ptF; rw [List.foldl_cons, if_neg (fun e => h e.symm)]
      rw [h1, List.filter_cons_of_neg (by simpa using h)]
      exact row_pt k (by omega) e
theorem rowF_pt {m n : Int} {q : List Sp} (h : OkP m n 0 0 q) (s : Sp) : rowF s q = if ptF q s.to = -1 then [] else [⟨s.frm, ptF q s.to⟩] := by
  have h1 := row_pt s.to (Int.le_refl 0) h
  unfold rowF
  have h2 : (q.filter fun t => decide (s.to = t.frm)).map (fun t => (⟨s.frm, t.to⟩ : Sp)) = ((q.filter fun t => decide (s.to = t.frm)).map Sp.to).map (fun t => (⟨s.frm, t⟩ : Sp)) := by rw [List.map_map]; rfl
  rw [h2, h1]
  split <;> rfl
theorem cmp_snoc (p q : List Sp) (s : Sp) : cmpF (p ++ [s]) q = cmpF p q ++ rowF s q := by unfold cmpF; rw [List.flatMap_append]; simp
theorem ptF_in {i m n : Int} {q : List Sp} (h : InR i m 0 n q) (k : Int) : ptF q k = -1 ∨ (0 ≤ ptF q k ∧ ptF q k < n) := by
  have : ∀ (q : List Sp) (acc : Int), InR i m 0 n q → (acc = -1 ∨ 0 ≤ acc ∧ acc < n) → (q.foldl (fun acc s => if s.frm = k then s.to else acc) acc = -1 ∨ 0 ≤ q.foldl (fun acc s => if s.frm = k then s.to else acc) acc ∧ q.foldl (fun acc s => if s.frm = k then s.to else acc) acc < n) := by
    intro q
    induction q with
    | nil => intro acc _ h; exact h
    | cons x q ih =>
      intro acc h h2
      rw [List.foldl_cons]
      refine ih _ (fun s hs => h s (by simp [hs])) ?_
      split
      · exact .inr (h x (by simp)).2
      · exact h2
  exact this q (-1) h (.inl rfl)
theorem cmp_pre_len {k n : Int} {q : List Sp} (h : OkP k n 0 0 q) : ∀ p : List Sp, (cmpF p q).length ≤ p.length
  | [] => Nat.le_refl _
  | s :: p => by
    have h1 := cmp_pre_len h p
    have h2 : cmpF (s :: p) q = rowF s q ++ cmpF p q := by unfold cmpF; rw [List.flatMap_cons]
    rw [h2, List.length_append, List.length_cons, rowF_pt h]
    split <;> simp only [List.length_nil, List.length_singleton] <;> omega
end Sc
end Go.Proofs.Ytfbpdidnlbffhaa

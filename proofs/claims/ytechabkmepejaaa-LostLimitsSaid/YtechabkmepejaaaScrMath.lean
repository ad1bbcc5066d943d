/-
  Edit scripts as data: validity, pairs, the script of pairs; a script comes back from its pairs. Plain mathematics, no conditions.
-/
import Derived.Test.YtechabkmepejaaaTextBase
namespace Go.Proofs.Ytechabkmepejaaa
namespace Sc
structure Ch where
  old : Int
  oldLen : Int
  new : Int
  newLen : Int
structure Sp where
  frm : Int
  to : Int
theorem Ch.eq {a b : Ch} (h1 : a.old = b.old) (h2 : a.oldLen = b.oldLen) (h3 : a.new = b.new) (h4 : a.newLen = b.newLen) : a = b := by
  cases a; cases b; simp at h1 h2 h3 h4; simp [h1, h2, h3, h4]
theorem Sp.eq {a b : Sp} (h1 : a.frm = b.frm) (h2 : a.to = b.to) : a = b := by
  cases a; cases b; simp at h1 h2; simp [h1, h2]
def inI (n : Int) : Prop := 0 ≤ n ∧ n ≤ 4096
def wiI (f l n : Int) : Prop := 0 ≤ f ∧ 0 ≤ l ∧ l ≤ n - f
/-- One change behind another one (or the first one) that ends at i and j. -/
def OkC (f : Bool) (i j : Int) (c : Ch) (m n : Int) : Prop :=
  (wiI c.old c.oldLen m ∧ wiI c.new c.newLen n ∧ ¬ (c.oldLen = 0 ∧ c.newLen = 0)) ∧ (c.old - i = c.new - j ∧ (f = false → 1 ≤ c.old - i))
def OkL (f : Bool) (i j : Int) : List Ch → Int → Int → Prop
  | [], m, n => m - i = n - j
  | c :: l, m, n => OkC f i j c m n ∧ OkL false (c.old + c.oldLen) (c.new + c.newLen) l m n
/-- The reference's way to say so. -/
def RfC (f : Bool) (i j : Int) (c : Ch) : Prop :=
  inI c.old ∧ inI c.oldLen ∧ inI c.new ∧ inI c.newLen ∧ c.oldLen + c.newLen ≠ 0 ∧ c.old - i = c.new - j ∧ i ≤ c.old ∧ (f = false → c.old ≠ i)
def RfL (f : Bool) (i j : Int) : List Ch → Int → Int → Prop
  | [], m, n => m - i = n - j ∧ i ≤ m
  | c :: l, m, n => RfC f i j c ∧ RfL false (c.old + c.oldLen) (c.new + c.newLen) l m n
theorem RfL.end {m n : Int} : ∀ {l : List Ch} {f : Bool} {i j : Int}, RfL f i j l m n → i ≤ m ∧ j ≤ n
  | [], _, _, _, h => by have := h.1; have := h.2; omega
  | c :: l, f, i, j, h => by
    obtain ⟨⟨⟨a0, a1⟩, ⟨b0, b1⟩, ⟨c0, c1⟩, ⟨d0, d1⟩, e, g, k, _⟩, hl⟩ := h
    have := RfL.end hl
    omega
theorem RfL.ok {m n : Int} : ∀ {l : List Ch} {f : Bool} {i j : Int}, RfL f i j l m n → OkL f i j l m n
  | [], _, _, _, h => h.1
  | c :: l, f, i, j, h => by
    obtain ⟨⟨⟨a0, a1⟩, ⟨b0, b1⟩, ⟨c0, c1⟩, ⟨d0, d1⟩, e, g, k, q⟩, hl⟩ := h
    have h2 := RfL.end hl
    refine ⟨⟨⟨⟨a0, b0, by omega⟩, ⟨c0, d0, by omega⟩, by omega⟩, g, fun hf => ?_⟩, RfL.ok hl⟩
    have := q hf
    omega
theorem OkL.rf {m n : Int} (hm : inI m) (hn : inI n) : ∀ {l : List Ch} {f : Bool} {i j : Int}, (f = true → i = 0) → i ≤ m → OkL f i j l m n → RfL f i j l m n
  | [], _, _, _, _, hi, h => ⟨h, hi⟩
  | c :: l, f, i, j, hf, hi, h => by
    obtain ⟨⟨⟨⟨a0, a1, a2⟩, ⟨b0, b1, b2⟩, e⟩, g, q⟩, hl⟩ := h
    have h2 := hm.2
    have h3 := hn.2
    refine ⟨⟨⟨a0, by omega⟩, ⟨a1, by omega⟩, ⟨b0, by omega⟩, ⟨b1, by omega⟩, by omega, g, ?_, fun hf => ?_⟩, OkL.rf hm hn (fun h => by cases h) (by omega) hl⟩
    · cases f with
      | true => have := hf rfl; omega
      | false => have := q rfl; omega
    · have := q hf; omega
theorem ok_iff {l : List Ch} {m n : Int} (hm : inI m) (hn : inI n) : OkL true 0 0 l m n ↔ RfL true 0 0 l m n :=
  ⟨OkL.rf hm hn (fun _ => rfl) hm.1, RfL.ok⟩
open Classical in
/-- The code of Check. -/
noncomputable def chkF (l : List Ch) (m n : Int) : Int := if inI m ∧ inI n ∧ OkL true 0 0 l m n then 0 else 80
theorem chkF_ok {l : List Ch} {m n : Int} (hm : inI m) (hn : inI n) (h : OkL true 0 0 l m n) : chkF l m n = 0 := by unfold chkF; rw [if_pos ⟨hm, hn, h⟩]
theorem chkF_no {l : List Ch} {m n : Int} (h : ¬ (inI m ∧ inI n ∧ OkL true 0 0 l m n)) : chkF l m n = 80 := by unfold chkF; rw [if_neg h]
/-- What Size counts. -/
def cntI (n : Int) : Int := if 0 ≤ n ∧ n ≤ 4096 then n else 0
def szO (l : List Ch) : Int := (l.map fun c => cntI c.oldLen).sum
def szN (l : List Ch) : Int := (l.map fun c => cntI c.newLen).sum
theorem cntI_bd (n : Int) : 0 ≤ cntI n ∧ cntI n ≤ 4096 := by unfold cntI; split <;> omega
theorem szO_bd : ∀ l : List Ch, 0 ≤ szO l ∧ szO l ≤ 4096 * l.length
  | [] => by simp [szO]
  | c :: l => by
    have h := szO_bd l
    have := cntI_bd c.oldLen
    unfold szO at *
    simp only [List.map_cons, List.sum_cons, List.length_cons]
    omega
theorem szN_bd : ∀ l : List Ch, 0 ≤ szN l ∧ szN l ≤ 4096 * l.length
  | [] => by simp [szN]
  | c :: l => by
    have h := szN_bd l
    have := cntI_bd c.newLen
    unfold szN at *
    simp only [List.map_cons, List.sum_cons, List.length_cons]
    omega
/-- Partners, one after the other. -/
def run (i j : Int) (k : Nat) : List Sp := (List.range k).map fun t : Nat => ⟨i + t, j + t⟩
theorem run_len (i j : Int) (k : Nat) : (run i j k).length = k := by simp [run]
theorem run_zero (i j : Int) : run i j 0 = [] := rfl
theorem run_snoc (i j : Int) (k : Nat) : run i j (k + 1) = run i j k ++ [⟨i + k, j + k⟩] := by simp [run, List.range_succ]
theorem run_cons (i j : Int) (k : Nat) : run i j (k + 1) = ⟨i, j⟩ :: run (i + 1) (j + 1) k := by
  unfold run
  rw [List.range_succ_eq_map, List.map_cons, List.map_map]
  refine congr (congrArg _ ?_) ?_
  · exact Sp.eq (by simp) (by simp)
  · refine List.map_congr_left fun t _ => Sp.eq ?_ ?_
    · show i + ((t + 1 : Nat) : Int) = i + 1 + t
      omega
    · show j + ((t + 1 : Nat) : Int) = j + 1 + t
      omega
def mtF (m : Int) : Int → Int → List Ch → List Sp
  | i, j, [] => run i j (m - i).toNat
  | i, j, c :: l => run i j (c.old - i).toNat ++ mtF m (c.old + c.oldLen) (c.new + c.newLen) l
def btw (i a j b : Int) : List Ch := if i = a ∧ j = b then [] else [⟨i, a - i, j, b - j⟩]
def frF (m n : Int) : Int → Int → List Sp → List Ch
  | i, j, [] => btw i m j n
  | i, j, s :: p => btw i s.frm j s.to ++ frF m n (s.frm + 1) (s.to + 1) p
def OkP (m n : Int) : Int → Int → List Sp → Prop
  | _, _, [] => True
  | i, j, s :: p => (i ≤ s.frm ∧ s.frm < m ∧ j ≤ s.to ∧ s.to < n) ∧ OkP m n (s.frm + 1) (s.to + 1) p
theorem btw_same (i j : Int) : btw i i j j = [] := by unfold btw; rw [if_pos ⟨rfl, rfl⟩]
theorem btw_new {i a j b : Int} (h : ¬ (i = a ∧ j = b)) : btw i a j b = [⟨i, a - i, j, b - j⟩] := by unfold btw; rw [if_neg h]
theorem btw_len (i a j b : Int) : (btw i a j b).length ≤ 1 := by unfold btw; split <;> simp
theorem frF_len (m n : Int) : ∀ (p : List Sp) (i j : Int), (frF m n i j p).length ≤ p.length + 1
  | [], i, j => by have := btw_len i m j n; simpa [frF] using this
  | s :: p, i, j => by
    have h1 := btw_len i s.frm j s.to
    have h2 := frF_len m n p (s.frm + 1) (s.to + 1)
    simp only [frF, List.length_append, List.length_cons]
    omega
theorem okC_new {f : Bool} {i j i0 j0 a b m n : Int} (h1 : i - i0 = j - j0) (h2 : f = false → 1 ≤ i - i0) (h3 : 0 ≤ i) (h4 : 0 ≤ j) (h5 : i ≤ a) (h6 : a ≤ m) (h7 : j ≤ b) (h8 : b ≤ n) (he : ¬ (i = a ∧ j = b)) : OkC f i0 j0 ⟨i, a - i, j, b - j⟩ m n := by
  refine ⟨⟨⟨h3, ?_, ?_⟩, ⟨h4, ?_, ?_⟩, ?_⟩, h1, h2⟩
  all_goals simp only
  all_goals omega
theorem frF_ok {m n : Int} : ∀ (p : List Sp) (f : Bool) (i j i0 j0 : Int), i - i0 = j - j0 → (f = false → 1 ≤ i - i0) → 0 ≤ i → 0 ≤ j → i ≤ m → j ≤ n → OkP m n i j p → OkL f i0 j0 (frF m n i j p) m n
  | [], f, i, j, i0, j0, h1, h2, h3, h4, h5, h6, _ => by
    simp only [frF]
    by_cases he : i = m ∧ j = n
    · obtain ⟨rfl, rfl⟩ := he
      rw [btw_same]
      exact h1
    · rw [btw_new he]
      exact ⟨okC_new h1 h2 h3 h4 h5 (Int.le_refl _) h6 (Int.le_refl _) he, by show m - (i + (m - i)) = n - (j + (n - j)); omega⟩
  | s :: p, f, i, j, i0, j0, h1, h2, h3, h4, h5, h6, ⟨⟨g1, g2, g3, g4⟩, hp⟩ => by
    simp only [frF]
    by_cases he : i = s.frm ∧ j = s.to
    · rw [← he.1, ← he.2, btw_same, List.nil_append]
      have h := frF_ok (m := m) (n := n) p f (i + 1) (j + 1) i0 j0 (by omega) (fun hf => by have := h2 hf; omega) (by omega) (by omega) (by omega) (by omega) (by rw [he.1, he.2]; exact hp)
      exact h
    · rw [btw_new he, List.singleton_append]
      refine ⟨okC_new h1 h2 h3 h4 g1 (by omega) g3 (by omega) he, ?_⟩
      have h := frF_ok (m := m) (n := n) p false (s.frm + 1) (s.to + 1) s.frm s.to (by omega) (fun _ => by omega) (by omega) (by omega) (by omega) (by omega) hp
      rw [show (⟨i, s.frm - i, j, s.to - j⟩ : Ch).old + (⟨i, s.frm - i, j, s.to - j⟩ : Ch).oldLen = s.frm from by show i + (s.frm - i) = s.frm; omega, show (⟨i, s.frm - i, j, s.to - j⟩ : Ch).new + (⟨i, s.frm - i, j, s.to - j⟩ : Ch).newLen = s.to from by show j + (s.to - j) = s.to; omega]
      exact h
theorem mt_fr {m n : Int} : ∀ (p : List Sp) (i j i0 j0 : Int), i - i0 = j - j0 → i0 ≤ i → i ≤ m → j ≤ n → OkP m n i j p → mtF m i0 j0 (frF m n i j p) = run i0 j0 (i - i0).toNat ++ p
  | [], i, j, i0, j0, h1, h2, h5, h6, _ => by
    simp only [frF]
    by_cases he : i = m ∧ j = n
    · obtain ⟨rfl, rfl⟩ := he
      rw [btw_same, List.append_nil]
      rfl
    · rw [btw_new he]
      simp only [mtF]
      rw [show (m - (i + (m - i))).toNat = 0 from by omega, run_zero]
  | s :: p, i, j, i0, j0, h1, h2, h5, h6, ⟨⟨g1, g2, g3, g4⟩, hp⟩ => by
    simp only [frF]
    by_cases he : i = s.frm ∧ j = s.to
    · obtain ⟨e1, e2⟩ := he
      rw [← e1, ← e2, btw_same, List.nil_append]
      have h := mt_fr (m := m) (n := n) p (i + 1) (j + 1) i0 j0 (by omega) (by omega) (by omega) (by omega) (by rw [e1, e2]; exact hp)
      rw [h, show (i + 1 - i0).toNat = (i - i0).toNat + 1 from by omega, run_snoc, List.append_assoc, List.singleton_append]
      refine congrArg _ (congrArg (· :: p) (Sp.eq ?_ ?_))
      · show i0 + ((i - i0).toNat : Int) = s.frm; omega
      · show j0 + ((i - i0).toNat : Int) = s.to; omega
    · rw [btw_new he, List.singleton_append]
      simp only [mtF]
      rw [show i + (s.frm - i) = s.frm from by omega, show j + (s.to - j) = s.to from by omega]
      rw [mt_fr (m := m) (n := n) p (s.frm + 1) (s.to + 1) s.frm s.to (by omega) (by omega) (by omega) (by omega) hp, show (s.frm + 1 - s.frm).toNat = 0 + 1 from by omega, run_cons, run_zero]
      rfl
theorem frF_run {m n : Int} (q : List Sp) : ∀ (k : Nat) (i j : Int), frF m n i j (run i j k ++ q) = frF m n (i + k) (j + k) q
  | 0, i, j => by simp [run_zero]
  | k + 1, i, j => by
    rw [run_cons, List.cons_append]
    simp only [frF]
    rw [btw_same, List.nil_append, frF_run q k (i + 1) (j + 1)]
    rw [show i + 1 + (k : Int) = i + ((k + 1 : Nat) : Int) from by omega, show j + 1 + (k : Int) = j + ((k + 1 : Nat) : Int) from by omega]
theorem mtF_head {m n : Int} {l : List Ch} {e g : Int} (h : OkL false e g l m n) (he : e ≤ m) : (l = [] ∧ e = m ∧ g = n ∧ mtF m e g l = []) ∨ ∃ rest, mtF m e g l = ⟨e, g⟩ :: rest := by
  cases l with
  | nil =>
    by_cases hz : e = m
    · subst hz
      have h1 : e - e = n - g := h
      exact .inl ⟨rfl, rfl, by omega, by simp only [mtF]; rw [show (e - e).toNat = 0 from by omega, run_zero]⟩
    · refine .inr ⟨run (e + 1) (g + 1) ((m - e).toNat - 1), ?_⟩
      simp only [mtF]
      rw [show (m - e).toNat = ((m - e).toNat - 1) + 1 from by omega, run_cons]
      simp
  | cons c l =>
    have hk := h.1.2.2 rfl
    refine .inr ⟨run (e + 1) (g + 1) ((c.old - e).toNat - 1) ++ mtF m (c.old + c.oldLen) (c.new + c.newLen) l, ?_⟩
    simp only [mtF]
    rw [show (c.old - e).toNat = ((c.old - e).toNat - 1) + 1 from by omega, run_cons]
    simp
theorem fr_mt {m n : Int} : ∀ (l : List Ch) (f : Bool) (i j : Int), i ≤ m → (f = true → i = 0) → OkL f i j l m n → frF m n i j (mtF m i j l) = l
  | [], f, i, j, hi, _, h => by
    have h1 : m - i = n - j := h
    simp only [mtF]
    have := frF_run (m := m) (n := n) [] (m - i).toNat i j
    rw [List.append_nil] at this
    rw [this]
    simp only [frF]
    rw [show i + ((m - i).toNat : Int) = m from by omega, show j + ((m - i).toNat : Int) = n from by omega, btw_same]
  | c :: l, f, i, j, hi, hf, h => by
    obtain ⟨⟨⟨⟨a0, a1, a2⟩, ⟨b0, b1, b2⟩, e⟩, g, q⟩, hl⟩ := h
    have hge : i ≤ c.old := by
      cases f with
      | true => have := hf rfl; omega
      | false => have := q rfl; omega
    simp only [mtF]
    rw [frF_run, show i + ((c.old - i).toNat : Int) = c.old from by omega, show j + ((c.old - i).toNat : Int) = c.new from by omega]
    have ih := fr_mt l false (c.old + c.oldLen) (c.new + c.newLen) (by omega) (fun h => by cases h) hl
    have hc : (⟨c.old, c.old + c.oldLen - c.old, c.new, c.new + c.newLen - c.new⟩ : Ch) = c := Ch.eq rfl (by show c.old + c.oldLen - c.old = c.oldLen; omega) rfl (by show c.new + c.newLen - c.new = c.newLen; omega)
    rcases mtF_head hl (by omega) with ⟨rfl, hm, hn, hmt⟩ | ⟨rest, hmt⟩
    · rw [hmt]
      simp only [frF]
      rw [← hm, ← hn, btw_new (by omega), hc]
    · rw [hmt] at ih ⊢
      simp only [frF] at ih ⊢
      rw [btw_same, List.nil_append] at ih
      rw [ih, btw_new (by omega), hc, List.singleton_append]
theorem OkP_run {m n : Int} (q : List Sp) : ∀ (k : Nat) (i j : Int), i + k ≤ m → j + k ≤ n → OkP m n (i + k) (j + k) q → OkP m n i j (run i j k ++ q)
  | 0, i, j, _, _, h => by simpa [run_zero] using h
  | k + 1, i, j, hi, hj, h => by
    rw [run_cons, List.cons_append]
    refine ⟨⟨Int.le_refl _, by show i < m; omega, Int.le_refl _, by show j < n; omega⟩, OkP_run q k (i + 1) (j + 1) (by omega) (by omega) ?_⟩
    rw [show i + 1 + (k : Int) = i + ((k + 1 : Nat) : Int) from by omega, show j + 1 + (k : Int) = j + ((k + 1 : Nat) : Int) from by omega]
    exact h
theorem OkP.mono {m n : Int} {i j i' j' : Int} {p : List Sp} (h : OkP m n i j p) (h1 : i' ≤ i) (h2 : j' ≤ j) : OkP m n i' j' p := by
  cases p with
  | nil => trivial
  | cons s p => obtain ⟨⟨a, b, c, d⟩, e⟩ := h; exact ⟨⟨by omega, b, by omega, d⟩, e⟩
theorem mt_okp {m n : Int} : ∀ (l : List Ch) (f : Bool) (i j : Int), i ≤ m → (f = true → i = 0) → OkL f i j l m n → OkP m n i j (mtF m i j l)
  | [], f, i, j, hi, _, h => by
    have h1 : m - i = n - j := h
    simp only [mtF]
    have := OkP_run (m := m) (n := n) [] (m - i).toNat i j (by omega) (by omega) trivial
    rwa [List.append_nil] at this
  | c :: l, f, i, j, hi, hf, h => by
    obtain ⟨⟨⟨⟨a0, a1, a2⟩, ⟨b0, b1, b2⟩, e⟩, g, q⟩, hl⟩ := h
    have hge : i ≤ c.old := by
      cases f with
      | true => have := hf rfl; omega
      | false => have := q rfl; omega
    simp only [mtF]
    refine OkP_run _ _ i j (by omega) (by omega) ?_
    exact (mt_okp l false (c.old + c.oldLen) (c.new + c.newLen) (by omega) (fun h => by cases h) hl).mono (by omega) (by omega)
/-- The old lines that have a partner are those that are not removed. -/
theorem mt_len {m n : Int} : ∀ (l : List Ch) (f : Bool) (i j : Int), inI m → inI n → i ≤ m → (f = true → i = 0) → OkL f i j l m n → ((mtF m i j l).length : Int) = m - i - szO l ∧ ((mtF m i j l).length : Int) = n - j - szN l
  | [], f, i, j, _, _, hi, _, h => by
    have h1 : m - i = n - j := h
    simp only [mtF, run_len, szO, szN, List.map_nil, List.sum_nil]
    omega
  | c :: l, f, i, j, hm, hn, hi, hf, h => by
    obtain ⟨⟨⟨⟨a0, a1, a2⟩, ⟨b0, b1, b2⟩, e⟩, g, q⟩, hl⟩ := h
    have hge : i ≤ c.old := by
      cases f with
      | true => have := hf rfl; omega
      | false => have := q rfl; omega
    have hm2 := hm.2
    have hn2 := hn.2
    have ih := mt_len l false (c.old + c.oldLen) (c.new + c.newLen) hm hn (by omega) (fun h => by cases h) hl
    have e1 : szO (c :: l) = c.oldLen + szO l := by unfold szO; rw [List.map_cons, List.sum_cons]; unfold cntI; rw [if_pos (by omega)]
    have e2 : szN (c :: l) = c.newLen + szN l := by unfold szN; rw [List.map_cons, List.sum_cons]; unfold cntI; rw [if_pos (by omega)]
    simp only [mtF, List.length_append, run_len]
    rw [e1, e2]
    omega
def inv (c : Ch) : Ch := ⟨c.new, c.newLen, c.old, c.oldLen⟩
def swp (s : Sp) : Sp := ⟨s.to, s.frm⟩
theorem inv_inv (l : List Ch) : (l.map inv).map inv = l := by
  rw [List.map_map]; exact List.map_id'' (fun c => rfl) l
theorem run_swp (i j : Int) (k : Nat) : (run i j k).map swp = run j i k := by unfold run; rw [List.map_map]; rfl
theorem inv_ok {m n : Int} : ∀ (l : List Ch) (f : Bool) (i j : Int), OkL f i j l m n → OkL f j i (l.map inv) n m
  | [], _, i, j, h => (show m - i = n - j from h).symm
  | c :: l, f, i, j, ⟨⟨⟨a, b, e⟩, g, q⟩, hl⟩ => ⟨⟨⟨b, a, fun h => e ⟨h.2, h.1⟩⟩, g.symm, fun hf => by have := q hf; show 1 ≤ c.new - j; omega⟩, inv_ok l false _ _ hl⟩
theorem mt_inv {m n : Int} : ∀ (l : List Ch) (f : Bool) (i j : Int), OkL f i j l m n → mtF n j i (l.map inv) = (mtF m i j l).map swp
  | [], _, i, j, h => by
    have h1 : m - i = n - j := h
    simp only [mtF, List.map_nil]
    rw [run_swp, h1]
  | c :: l, f, i, j, ⟨⟨_, g, _⟩, hl⟩ => by
    simp only [mtF, List.map_cons, List.map_append]
    rw [run_swp, ← mt_inv l false _ _ hl]
    rw [show ((inv c).old - j).toNat = (c.old - i).toNat from by show (c.new - j).toNat = _; rw [g]]
    rfl
/-- What of the pairs is good. -/
theorem frm_run {m n : Int} {p : List Sp} (h : OkP m n 0 0 p) (hm : 0 ≤ m) (hn : 0 ≤ n) : OkL true 0 0 (frF m n 0 0 p) m n ∧ mtF m 0 0 (frF m n 0 0 p) = p :=
  ⟨frF_ok p true 0 0 0 0 rfl (fun h => by cases h) (by omega) (by omega) hm hn h, by
    have := mt_fr p 0 0 0 0 rfl (by omega) hm hn h
    rw [show ((0 : Int) - 0).toNat = 0 from rfl, run_zero, List.nil_append] at this
    exact this⟩
end Sc
end Go.Proofs.Ytechabkmepejaaa

/-
  Hunks as data: the groups of a script's changes, the lines that they cover; plain mathematics of layer 11. No conditions.
-/
import Derived.Test.YtlckdacmeandmaaScrMath
namespace Go.Proofs.Ytlckdacmeandmaa
namespace Hn
open Sc
structure Hk where
  fst : Int
  lst : Int
  oF : Int
  oT : Int
  nF : Int
  nT : Int
/-- Ends of a change in both texts. -/
def endO (c : Ch) : Int := c.old + c.oldLen
def endN (c : Ch) : Int := c.new + c.newLen
/-- How many lines stand before and behind a hunk. -/
def bfr (ctx : Int) (b : Ch) : Int := if b.old < ctx then b.old else ctx
def aft (ctx m : Int) (e : Ch) : Int := if m - endO e < ctx then m - endO e else ctx
def mkH (ctx m : Int) (f k : Nat) (b e : Ch) : Hk := ⟨f, k, b.old - bfr ctx b, endO e + aft ctx m e, b.new - bfr ctx b, endN e + aft ctx m e⟩
/-- The hunks from the change f on, whose last change so far is k - 1. -/
def grp (ctx m : Int) : Nat → Nat → Ch → Ch → List Ch → List Hk
  | f, k, b, e, [] => [mkH ctx m f k b e]
  | f, k, b, e, c :: r => if 2 * ctx < c.old - endO e then mkH ctx m f k b e :: grp ctx m k (k + 1) c c r else grp ctx m f (k + 1) b c r
def group (ctx m : Int) : List Ch → List Hk
  | [] => []
  | c :: r => grp ctx m 0 1 c c r
theorem grp_len (ctx m : Int) : ∀ (r : List Ch) (f k : Nat) (b e : Ch), (grp ctx m f k b e r).length ≤ r.length + 1
  | [], _, _, _, _ => Nat.le_refl _
  | c :: r, f, k, b, e => by
    rw [grp]
    split
    · have := grp_len ctx m r k (k + 1) c c
      simp only [List.length_cons]; omega
    · have := grp_len ctx m r f (k + 1) b c
      simp only [List.length_cons]; omega
theorem group_len (ctx m : Int) : ∀ l : List Ch, (group ctx m l).length ≤ l.length
  | [] => Nat.le_refl _
  | c :: r => grp_len ctx m r 0 1 c c
/-- Is a line in one of the hunks? -/
def covB (hs : List Hk) (i : Int) : Bool := hs.any fun h => decide (h.oF ≤ i ∧ i < h.oT)
def covF (hs : List Hk) (m : Nat) : List Bool := (List.range m).map fun i : Nat => covB hs (i : Int)
theorem covF_len (hs : List Hk) (m : Nat) : (covF hs m).length = m := by simp [covF]
theorem covB_cons (h : Hk) (hs : List Hk) (i : Int) : covB (h :: hs) i = true ↔ (h.oF ≤ i ∧ i < h.oT) ∨ covB hs i = true := by
  unfold covB; rw [List.any_cons, Bool.or_eq_true, decide_eq_true_iff]
theorem covB_iff (hs : List Hk) (i : Int) : covB hs i = true ↔ ∃ h ∈ hs, h.oF ≤ i ∧ i < h.oT := by
  unfold covB; rw [List.any_eq_true]; simp
/-- Is a change at most ctx lines away? -/
def nearB (ctx : Int) (l : List Ch) (i : Int) : Bool := l.any fun c => decide (c.old - ctx ≤ i ∧ i < endO c + ctx)
theorem nearB_cons (ctx : Int) (c : Ch) (l : List Ch) (i : Int) : nearB ctx (c :: l) i = true ↔ (c.old - ctx ≤ i ∧ i < endO c + ctx) ∨ nearB ctx l i = true := by
  unfold nearB; rw [List.any_cons, Bool.or_eq_true, decide_eq_true_iff]
theorem grp_near {ctx m n : Int} (hc : 0 ≤ ctx) {i : Int} (h0 : 0 ≤ i) (hm : i < m) : ∀ (r : List Ch) (f k : Nat) (b e : Ch), OkL false (endO e) (endN e) r m n → b.old ≤ endO e → endO e ≤ m →
    (covB (grp ctx m f k b e r) i = true ↔ (b.old - ctx ≤ i ∧ i < endO e + ctx) ∨ nearB ctx r i = true)
  | [], f, k, b, e, _, h1, h2 => by
    rw [grp, covB_cons]
    have e1 : covB [] i = false := rfl
    have e2 : nearB ctx [] i = false := rfl
    rw [e1, e2]
    unfold mkH bfr aft
    simp only [Bool.false_eq_true, or_false]
    constructor
    · rintro ⟨g1, g2⟩; constructor
      · split at g1 <;> omega
      · split at g2 <;> omega
    · rintro ⟨g1, g2⟩; constructor
      · split <;> omega
      · split <;> omega
  | c :: r, f, k, b, e, ⟨⟨⟨⟨w0, w1, w2⟩, _, _⟩, _, hg⟩, hr⟩, h1, h2 => by
    have hg := hg rfl
    have hcc : c.old ≤ endO c ∧ endO c ≤ m := by unfold endO; omega
    rw [grp]
    split
    · rename_i hlt
      rw [covB_cons, grp_near hc h0 hm r k (k + 1) c c hr hcc.1 hcc.2, nearB_cons]
      unfold mkH bfr aft
      simp only
      constructor
      · rintro (⟨g1, g2⟩ | g)
        · left; constructor
          · split at g1 <;> omega
          · split at g2 <;> omega
        · exact .inr g
      · rintro (⟨g1, g2⟩ | g)
        · left; constructor
          · split <;> omega
          · split <;> omega
        · exact .inr g
    · rename_i hlt
      rw [grp_near hc h0 hm r f (k + 1) b c hr (by omega) hcc.2, nearB_cons]
      constructor
      · rintro (⟨g1, g2⟩ | g)
        · by_cases hh : i < endO e + ctx
          · exact .inl ⟨g1, hh⟩
          · exact .inr (.inl ⟨by omega, g2⟩)
        · exact .inr (.inr g)
      · rintro (⟨g1, g2⟩ | ⟨g1, g2⟩ | g)
        · exact .inl ⟨g1, by omega⟩
        · exact .inl ⟨by omega, g2⟩
        · exact .inr g
/-- A line of the old text is covered exactly if a change is near. -/
theorem group_near {ctx m n : Int} (hc : 0 ≤ ctx) {i : Int} (h0 : 0 ≤ i) (hm : i < m) {l : List Ch} (h : OkL true 0 0 l m n) : covB (group ctx m l) i = nearB ctx l i := by
  cases l with
  | nil => rfl
  | cons c r =>
    obtain ⟨⟨⟨⟨w0, w1, w2⟩, _, _⟩, _, _⟩, hr⟩ := h
    rw [Bool.eq_iff_iff]
    show covB (grp ctx m 0 1 c c r) i = true ↔ _
    rw [grp_near hc h0 hm r 0 1 c c hr (by unfold endO; omega) (by unfold endO; omega), nearB_cons]
theorem nearB_mono {ctx ctx' : Int} (h : ctx ≤ ctx') {l : List Ch} {i : Int} (hn : nearB ctx l i = true) : nearB ctx' l i = true := by
  induction l with
  | nil => exact hn
  | cons c r ih =>
    rw [nearB_cons] at hn ⊢
    rcases hn with ⟨g1, g2⟩ | g
    · exact .inl ⟨by omega, by omega⟩
    · exact .inr (ih g)
theorem grp_mono {ctx ctx' m : Int} (h : ctx ≤ ctx') : ∀ (r : List Ch) (f k f' k' : Nat) (b e b' : Ch), (grp ctx' m f' k' b' e r).length ≤ (grp ctx m f k b e r).length
  | [], _, _, _, _, _, _, _ => Nat.le_refl _
  | c :: r, f, k, f', k', b, e, b' => by
    rw [grp, grp]
    by_cases h1 : 2 * ctx' < c.old - endO e
    · rw [if_pos h1, if_pos (by omega), List.length_cons, List.length_cons]
      have := grp_mono (m := m) h r k (k + 1) k' (k' + 1) c c c
      omega
    · rw [if_neg h1]
      by_cases h2 : 2 * ctx < c.old - endO e
      · rw [if_pos h2, List.length_cons]
        have := grp_mono (m := m) h r k (k + 1) f' (k' + 1) c c b'
        omega
      · rw [if_neg h2]
        exact grp_mono h r f (k + 1) f' (k' + 1) b c b'
theorem group_mono {ctx ctx' m : Int} (h : ctx ≤ ctx') : ∀ l : List Ch, (group ctx' m l).length ≤ (group ctx m l).length
  | [] => Nat.le_refl _
  | c :: r => grp_mono h r 0 1 0 1 c c c
theorem grp_all {ctx m n : Int} (hc : m ≤ ctx) : ∀ (r : List Ch) (f k : Nat) (b e : Ch), OkL false (endO e) (endN e) r m n → 0 ≤ b.old → b.old ≤ m → 0 ≤ endO e → endO e ≤ m → grp ctx m f k b e r = [⟨f, (k + r.length : Nat), 0, m, b.new - b.old, n⟩]
  | [], f, k, b, e, hr, h0, h0m, h1, h2 => by
    have hr : m - endO e = n - endN e := hr
    rw [grp]
    unfold mkH bfr aft
    have e1 : (if b.old < ctx then b.old else ctx) = b.old := by split <;> omega
    have e2 : (if m - endO e < ctx then m - endO e else ctx) = m - endO e := by split <;> omega
    rw [e1, e2, show b.old - b.old = 0 from by omega, show endO e + (m - endO e) = m from by omega, show endN e + (m - endO e) = n from by omega]
    rfl
  | c :: r, f, k, b, e, ⟨⟨⟨⟨w0, w1, w2⟩, _, _⟩, _, hg⟩, hr⟩, h0, h0m, h1, h2 => by
    rw [grp, if_neg (by omega), grp_all hc r f (k + 1) b c hr h0 h0m (by unfold endO; omega) (by unfold endO; omega), List.length_cons, show k + 1 + r.length = k + (r.length + 1) from by omega]
theorem group_all {ctx m n : Int} (hc : m ≤ ctx) {c : Ch} {r : List Ch} (h : OkL true 0 0 (c :: r) m n) : group ctx m (c :: r) = [⟨0, ((1 + r.length : Nat) : Int), 0, m, 0, n⟩] := by
  obtain ⟨⟨⟨⟨w0, w1, w2⟩, _, _⟩, hd, _⟩, hr⟩ := h
  show grp ctx m 0 1 c c r = _
  rw [grp_all hc r 0 1 c c hr w0 (by omega) (by unfold endO; omega) (by unfold endO; omega), show c.new - c.old = 0 from by omega]
  rfl
/-- The sums of a script's parts. -/
theorem szO_app (a b : List Ch) : szO (a ++ b) = szO a + szO b := by unfold szO; rw [List.map_append, List.sum_append]
theorem szN_app (a b : List Ch) : szN (a ++ b) = szN a + szN b := by unfold szN; rw [List.map_append, List.sum_append]
theorem szO_one (c : Ch) : szO [c] = cntI c.oldLen := by simp [szO]
theorem szN_one (c : Ch) : szN [c] = cntI c.newLen := by simp [szN]
def seg (l : List Ch) (f k : Nat) : List Ch := (l.drop f).take (k - f)
theorem seg_snoc {l : List Ch} {f k : Nat} (hf : f ≤ k) (hk : k < l.length) : seg l f (k + 1) = seg l f k ++ [l[k]] := by
  unfold seg
  rw [show k + 1 - f = k - f + 1 from by omega, List.take_add_one, List.getElem?_drop, show f + (k - f) = k from by omega, List.getElem?_eq_getElem hk]
  rfl
/-- One hunk, behind another one or not. -/
structure OneH (l : List Ch) (m n : Int) (a : Nat) (p : Option Hk) (h : Hk) (t : Nat) : Prop where
  fst : h.fst = (a : Int)
  lst : h.lst = (t : Int)
  lt : a < t
  le : t ≤ l.length
  o0 : 0 ≤ h.oF
  o1 : h.oF ≤ h.oT
  o2 : h.oT ≤ m
  n0 : 0 ≤ h.nF
  n1 : h.nF ≤ h.nT
  n2 : h.nT ≤ n
  sz : h.oT - h.oF - szO (seg l a t) = h.nT - h.nF - szN (seg l a t)
  nx : ∀ q, p = some q → q.oT < h.oF ∧ h.nF - q.nT = h.oF - q.oT
def Apart (l : List Ch) (m n : Int) : Nat → Option Hk → List Hk → Prop
  | a, _, [] => a = l.length
  | a, p, h :: r => ∃ t, OneH l m n a p h t ∧ Apart l m n t (some h) r
theorem apart_grp {ctx m n : Int} (hc : 0 ≤ ctx) (hm : inI m) (hn : inI n) (l : List Ch) : ∀ (r : List Ch) (f k : Nat) (b e : Ch) (p : Option Hk), l.drop k = r → f < k → k ≤ l.length → OkL false (endO e) (endN e) r m n → 
    0 ≤ b.old → b.old ≤ endO e → endO e ≤ m → bfr ctx b ≤ b.new → b.new ≤ endN e → endN e ≤ n → endO e - b.old - szO (seg l f k) = endN e - b.new - szN (seg l f k) →
    (∀ q, p = some q → q.oT < b.old - bfr ctx b ∧ (b.new - bfr ctx b) - q.nT = (b.old - bfr ctx b) - q.oT) → Apart l m n f p (grp ctx m f k b e r)
  | [], f, k, b, e, p, hd, hfk, hk, hr, b0, b1, b2, c0, c1, c2, hs, hp => by
    have hr : m - endO e = n - endN e := hr
    have hkl : k = l.length := by
      have := List.drop_eq_nil_iff.1 hd
      omega
    rw [grp]
    refine ⟨k, ⟨rfl, rfl, hfk, hk, ?_, ?_, ?_, ?_, ?_, ?_, ?_, hp⟩, hkl⟩
    all_goals unfold mkH
    all_goals simp only
    · unfold bfr; split <;> omega
    · unfold bfr aft; split <;> split <;> omega
    · unfold aft; split <;> omega
    · omega
    · unfold bfr aft; split <;> split <;> omega
    · unfold aft; split <;> omega
    · omega
  | c :: r, f, k, b, e, p, hd, hfk, hk, ⟨⟨⟨⟨w0, w1, w2⟩, ⟨v0, v1, v2⟩, _⟩, hdd, hg⟩, hr⟩, b0, b1, b2, c0, c1, c2, hs, hp => by
    have hg := hg rfl
    have hkl : k < l.length := by
      rcases Nat.lt_or_ge k l.length with h | h
      · exact h
      · rw [List.drop_eq_nil_of_le h] at hd; cases hd
    have hd2 : l[k] = c ∧ l.drop (k + 1) = r := by
      rw [List.drop_eq_getElem_cons hkl] at hd
      exact List.cons.inj hd
    have i1 : cntI c.oldLen = c.oldLen := by unfold cntI; rw [if_pos ⟨w1, by have := hm.2; omega⟩]
    have i2 : cntI c.newLen = c.newLen := by unfold cntI; rw [if_pos ⟨v1, by have := hn.2; omega⟩]
    have i3 : 0 ≤ bfr ctx b := by unfold bfr; split <;> omega
    rw [grp]
    split
    · rename_i hlt
      refine ⟨k, ⟨rfl, rfl, hfk, hk, ?_, ?_, ?_, ?_, ?_, ?_, ?_, hp⟩, ?_⟩
      · unfold mkH bfr; simp only; split <;> omega
      · unfold mkH bfr aft; simp only; split <;> split <;> omega
      · unfold mkH aft; simp only; split <;> omega
      · unfold mkH; simp only; omega
      · unfold mkH bfr aft; simp only; split <;> split <;> omega
      · unfold mkH aft; simp only; split <;> omega
      · unfold mkH; simp only; omega
      · refine apart_grp hc hm hn l r k (k + 1) c c _ hd2.2 (Nat.lt_succ_self k) hkl hr w0 (by unfold endO; omega) (by unfold endO; omega) ?_ (by unfold endN; omega) (by unfold endN; omega) ?_ ?_
        · unfold bfr; split <;> omega
        · have e1 : seg l k (k + 1) = [c] := by
            rw [seg_snoc (Nat.le_refl k) hkl, hd2.1]
            unfold seg; rw [Nat.sub_self]; rfl
          rw [e1, szO_one, szN_one, i1, i2]
          unfold endO endN; omega
        · intro q hq
          cases hq
          unfold mkH bfr aft
          simp only
          have hx : ¬ (m - endO e < ctx) := by omega
          rw [if_neg hx]
          constructor <;> split <;> omega
    · rename_i hlt
      refine apart_grp hc hm hn l r f (k + 1) b c p hd2.2 (by omega) hkl hr b0 (by unfold endO at *; omega) (by unfold endO; omega) c0 (by unfold endN at *; omega) (by unfold endN; omega) ?_ hp
      rw [seg_snoc (Nat.le_of_lt hfk) hkl, hd2.1, szO_app, szN_app, szO_one, szN_one, i1, i2]
      unfold endO endN at *
      omega
theorem group_apart {ctx m n : Int} (hc : 0 ≤ ctx) (hm : inI m) (hn : inI n) {l : List Ch} (h : OkL true 0 0 l m n) : Apart l m n 0 none (group ctx m l) := by
  cases l with
  | nil => rfl
  | cons c r =>
    obtain ⟨⟨⟨⟨w0, w1, w2⟩, ⟨v0, v1, v2⟩, _⟩, hd, _⟩, hr⟩ := h
    have i1 : cntI c.oldLen = c.oldLen := by unfold cntI; rw [if_pos ⟨w1, by have := hm.2; omega⟩]
    have i2 : cntI c.newLen = c.newLen := by unfold cntI; rw [if_pos ⟨v1, by have := hn.2; omega⟩]
    refine apart_grp hc hm hn (c :: r) r 0 1 c c none rfl (by decide) (by simp) hr w0 (by unfold endO; omega) (by unfold endO; omega) (by unfold bfr; split <;> omega) (by unfold endN; omega) (by unfold endN; omega) ?_ (fun q hq => by cases hq)
    have e1 : seg (c :: r) 0 1 = [c] := rfl
    rw [e1, szO_one, szN_one, i1, i2]
    unfold endO endN; omega
/-- The farthest end of the hunks that begin at a line, in the program's way. -/
def Ends (hs : List Hk) (j t : Int) : Prop := t < 0 ∨ ∃ h ∈ hs, (if h.oF < 0 then 0 else h.oF) = j ∧ t < h.oT
def Upto (hs : List Hk) (i t : Int) : Prop := t < 0 ∨ ∃ h ∈ hs, (if h.oF < 0 then 0 else h.oF) < i ∧ t < h.oT
theorem upto_cov {hs : List Hk} {i : Int} (h0 : 0 ≤ i) : Upto hs (i + 1) i ↔ covB hs i = true := by
  rw [covB_iff]
  unfold Upto
  constructor
  · rintro (h | ⟨h, hm, h1, h2⟩)
    · omega
    · exact ⟨h, hm, by split at h1 <;> omega, h2⟩
  · rintro ⟨h, hm, h1, h2⟩
    exact .inr ⟨h, hm, by split <;> omega, h2⟩
theorem upto_zero {hs : List Hk} (t : Int) : Upto hs 0 t ↔ t < 0 := by
  unfold Upto
  constructor
  · rintro (h | ⟨h, hm, h1, h2⟩)
    · exact h
    · split at h1 <;> omega
  · exact .inl
theorem upto_succ {hs : List Hk} {i : Int} (t : Int) : Upto hs (i + 1) t ↔ Upto hs i t ∨ Ends hs i t := by
  unfold Upto Ends
  constructor
  · rintro (h | ⟨h, hm, h1, h2⟩)
    · exact .inl (.inl h)
    · by_cases hx : (if h.oF < 0 then 0 else h.oF) = i
      · exact .inr (.inr ⟨h, hm, hx, h2⟩)
      · exact .inl (.inr ⟨h, hm, by omega, h2⟩)
  · rintro ((h | ⟨h, hm, h1, h2⟩) | (h | ⟨h, hm, h1, h2⟩))
    · exact .inl h
    · exact .inr ⟨h, hm, by omega, h2⟩
    · exact .inl h
    · exact .inr ⟨h, hm, by omega, h2⟩
theorem ends_nil (j t : Int) : Ends [] j t ↔ t < 0 := by unfold Ends; simp
theorem ends_snoc (hs : List Hk) (h : Hk) (j t : Int) : Ends (hs ++ [h]) j t ↔ Ends hs j t ∨ ((if h.oF < 0 then 0 else h.oF) = j ∧ t < h.oT) := by
  unfold Ends
  constructor
  · rintro (g | ⟨x, hm, h1, h2⟩)
    · exact .inl (.inl g)
    · rcases List.mem_append.1 hm with hm | hm
      · exact .inl (.inr ⟨x, hm, h1, h2⟩)
      · simp only [List.mem_singleton] at hm; subst hm; exact .inr ⟨h1, h2⟩
  · rintro ((g | ⟨x, hm, h1, h2⟩) | ⟨h1, h2⟩)
    · exact .inl g
    · exact .inr ⟨x, List.mem_append_left _ hm, h1, h2⟩
    · exact .inr ⟨h, by simp, h1, h2⟩
end Hn
end Go.Proofs.Ytlckdacmeandmaa

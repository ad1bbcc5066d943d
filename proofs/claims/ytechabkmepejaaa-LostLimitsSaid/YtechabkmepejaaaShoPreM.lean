/-
  The shortest script behind a common beginning is moved: plain mathematics, no conditions.
-/
import Derived.Test.YtechabkmepejaaaShoMath
namespace Go.Proofs.Ytechabkmepejaaa
namespace Sh
open Sc
def shS (k : Int) (s : Sp) : Sp := ⟨s.frm + k, s.to + k⟩
def shC (k : Int) (c : Ch) : Ch := ⟨c.old + k, c.oldLen, c.new + k, c.newLen⟩
theorem wk_prefix (a b : List Int) : ∀ (p : List Int) (i j : Int), wkF i j (p ++ a) (p ++ b) = run i j p.length ++ wkF (i + p.length) (j + p.length) a b
  | [], i, j => by simp [run_zero]
  | x :: p, i, j => by
    rw [List.cons_append, List.cons_append, wkF_eq, wk_prefix a b p, List.length_cons, run_cons, List.cons_append]
    rw [show i + 1 + (p.length : Int) = i + ((p.length + 1 : Nat) : Int) from by omega, show j + 1 + (p.length : Int) = j + ((p.length + 1 : Nat) : Int) from by omega]
theorem wk_shift (k i j : Int) (a b : List Int) : wkF (i + k) (j + k) a b = (wkF i j a b).map (shS k) := by
  refine walk_ind (P := fun i j a b => wkF (i + k) (j + k) a b = (wkF i j a b).map (shS k)) ?_ ?_ ?_ ?_ ?_ _ i j a b (Nat.le_refl _)
  · intro i j b; rw [wkF_nil, wkF_nil]; rfl
  · intro i j a; rw [wkF_nil', wkF_nil']; rfl
  · intro i j x a b h
    rw [wkF_eq, wkF_eq, List.map_cons, ← h, show i + k + 1 = i + 1 + k from by omega, show j + k + 1 = j + 1 + k from by omega]
    rfl
  · intro i j x y a b e hl h
    rw [wkF_old e hl, wkF_old e hl, ← h, show i + k + 1 = i + 1 + k from by omega]
  · intro i j x y a b e hl _ h
    rw [wkF_new e hl, wkF_new e hl, ← h, show j + k + 1 = j + 1 + k from by omega]
theorem btw_shift (k i a j b : Int) : btw (i + k) (a + k) (j + k) (b + k) = (btw i a j b).map (shC k) := by
  by_cases h : i = a ∧ j = b
  · obtain ⟨rfl, rfl⟩ := h
    rw [btw_same, btw_same]; rfl
  · rw [btw_new h, btw_new (by omega)]
    show [_] = [_]
    rw [show a + k - (i + k) = a - i from by omega, show b + k - (j + k) = b - j from by omega]
    rfl
theorem fr_shift (k m n : Int) : ∀ (p : List Sp) (i j : Int), frF (m + k) (n + k) (i + k) (j + k) (p.map (shS k)) = (frF m n i j p).map (shC k)
  | [], i, j => by
    rw [List.map_nil]
    simp only [frF]
    exact btw_shift k i m j n
  | s :: p, i, j => by
    rw [List.map_cons]
    simp only [frF]
    rw [List.map_append, ← btw_shift]
    have h := fr_shift k m n p (s.frm + 1) (s.to + 1)
    rw [← h, show s.frm + 1 + k = s.frm + k + 1 from by omega, show s.to + 1 + k = s.to + k + 1 from by omega]
    rfl
theorem scr_pre (p a b : List Int) : frF ((p ++ a).length : Int) ((p ++ b).length : Int) 0 0 (wkF 0 0 (p ++ a) (p ++ b)) = (frF (a.length : Int) (b.length : Int) 0 0 (wkF 0 0 a b)).map (shC p.length) := by
  rw [wk_prefix, frF_run, wk_shift, ← fr_shift, List.length_append, List.length_append]
  rw [show ((p.length + a.length : Nat) : Int) = (a.length : Int) + p.length from by omega, show ((p.length + b.length : Nat) : Int) = (b.length : Int) + p.length from by omega]
theorem okL_bd {m n : Int} : ∀ {l : List Ch} {f : Bool} {i j : Int}, OkL f i j l m n → ∀ c ∈ l, (0 ≤ c.old ∧ c.old ≤ m) ∧ (0 ≤ c.oldLen ∧ c.oldLen ≤ m) ∧ (0 ≤ c.new ∧ c.new ≤ n) ∧ (0 ≤ c.newLen ∧ c.newLen ≤ n)
  | [], _, _, _, _, c, hc => by cases hc
  | c :: l, f, i, j, h, x, hx => by
    obtain ⟨⟨⟨⟨a0, a1, a2⟩, ⟨b0, b1, b2⟩, e⟩, g, q⟩, hl⟩ := h
    rcases List.mem_cons.1 hx with rfl | hx
    · exact ⟨⟨a0, by omega⟩, ⟨a1, by omega⟩, ⟨b0, by omega⟩, b1, by omega⟩
    · exact okL_bd hl x hx
end Sh
end Go.Proofs.Ytechabkmepejaaa

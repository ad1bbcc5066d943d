/-
  One change of a list is moved, line by line, as the reference does it. Plain mathematics, and a number read off a slice; no conditions.
-/
import Derived.Test.YtldommbelpcegaaSliRef
namespace Go.Proofs.Ytldommbelpcegaa
open Go.RowKit
namespace Sl
open Cm Sc
theorem fit_set_dn {a b : List Int} : ∀ (k : Nat) (l : List Ch) (f : Bool) (i j : Int) (hk : k < l.length), FitL a b f i j l → dnB a b l[k] = true → 0 < lowD a.length (l.drop (k + 1)) l[k] → FitL a b f i j (l.set k (sh l[k] 1))
  | _, [], _, _, _, hk, _, _, _ => absurd hk (Nat.not_lt_zero _)
  | 0, c :: l, f, i, j, _, h, hd, hL => fit_down h hd (by
    have h2 : 0 < (topE a.length l - (c.old + c.oldLen)).toNat := hL
    show c.old + c.oldLen < topE a.length l
    omega)
  | k + 1, c :: l, f, i, j, hk, h, hd, hL => fit_head h (fit_set_dn k l _ _ _ (by simpa using hk) (fit_tail h) hd hL)
theorem fit_set_up {a b : List Int} : ∀ (k : Nat) (l : List Ch) (f : Bool) (i j : Int) (hk : k < l.length), 0 ≤ i → 0 ≤ j → FitL a b f i j l → upB a b l[k] = true → (if k = 0 then firstI f i else prE l k) < l[k].old → FitL a b f i j (l.set k (sh l[k] (-1)))
  | _, [], _, _, _, hk, _, _, _, _, _ => absurd hk (Nat.not_lt_zero _)
  | 0, c :: l, f, i, j, _, hi, hj, h, hd, hL => fit_up hi hj h hd (by rw [if_pos rfl] at hL; exact hL)
  | k + 1, c :: l, f, i, j, hk, hi, hj, h, hd, hL => by
    have hp := fit_pos h
    refine fit_head h (fit_set_up k l _ _ _ (by simpa using hk) hp.1 hp.2 (fit_tail h) hd ?_)
    rw [if_neg (Nat.succ_ne_zero _)] at hL
    cases k with
    | zero => rw [if_pos rfl]; simpa [prE, firstI] using hL
    | succ q => rw [if_neg (Nat.succ_ne_zero _)]; simpa [prE] using hL
theorem low_sh (e : Int) (r : List Ch) (c : Ch) (d : Nat) : lowD e r (sh c (d : Int)) = lowD e r c - d := by
  unfold lowD sh
  simp only
  omega
theorem prE_set (l : List Ch) (k : Nat) (y : Ch) : prE (l.set k y) k = prE l k := by
  cases k with
  | zero => rfl
  | succ q =>
    simp only [prE, List.getD_eq_getElem?_getD]
    rw [List.getElem?_set_ne (by omega)]
structure InvD (a b : List Int) (X : List Ch) (k : Nat) (c : Ch) (D d : Nat) : Prop where
  fit : FitL a b true 0 0 (X.set k (sh c (d : Int)))
  eq : d + dnR a b (sh c (d : Int)) (lowD a.length (X.drop (k + 1)) c - d) = D
theorem InvD.start {a b : List Int} {X : List Ch} {k : Nat} (hk : k < X.length) (h : FitL a b true 0 0 X) : InvD a b X k X[k] (dnR a b X[k] (lowD a.length (X.drop (k + 1)) X[k])) 0 := by
  refine ⟨?_, ?_⟩
  · rw [show ((0 : Nat) : Int) = 0 from rfl, sh_zero, List.set_getElem_self]; exact h
  · rw [show ((0 : Nat) : Int) = 0 from rfl, sh_zero, Nat.zero_add, Nat.sub_zero]
theorem InvD.can {a b : List Int} {X : List Ch} {k : Nat} {c : Ch} (d : Nat) : canD a b (X.set k (sh c (d : Int))) k (sh c (d : Int)) = (dnB a b (sh c (d : Int)) && decide (0 < lowD a.length (X.drop (k + 1)) c - d)) := by
  unfold canD
  rw [List.drop_set_of_lt (Nat.lt_succ_self k), low_sh]
theorem InvD.step {a b : List Int} {X : List Ch} {k : Nat} {c : Ch} {D d : Nat} (hk : k < X.length) (h : InvD a b X k c D d) (hc : canD a b (X.set k (sh c (d : Int))) k (sh c (d : Int)) = true) : InvD a b X k c D (d + 1) ∧ d < D := by
  rw [InvD.can, Bool.and_eq_true] at hc
  have h2 := of_decide_eq_true hc.2
  have hk2 : k < (X.set k (sh c (d : Int))).length := by rw [List.length_set]; exact hk
  have hs := dn_step h.eq hc.1 (by omega)
  refine ⟨⟨?_, hs⟩, by omega⟩
  have e : (X.set k (sh c (d : Int)))[k] = sh c (d : Int) := List.getElem_set_self _
  have h3 := fit_set_dn k (X.set k (sh c (d : Int))) true 0 0 hk2 h.fit (by rw [e]; exact hc.1) (by rw [e, List.drop_set_of_lt (Nat.lt_succ_self k), low_sh]; exact h2)
  rw [e, List.set_set, sh_sh] at h3
  exact h3
theorem InvD.stop {a b : List Int} {X : List Ch} {k : Nat} {c : Ch} {D d : Nat} (h : InvD a b X k c D d) (hc : canD a b (X.set k (sh c (d : Int))) k (sh c (d : Int)) = false) : D = d := by
  rw [InvD.can, Bool.and_eq_false_iff] at hc
  exact dn_stop h.eq (hc.imp id (fun h => by have := of_decide_eq_false h; omega))
structure InvU (a b : List Int) (X : List Ch) (k : Nat) (c : Ch) (D d : Nat) : Prop where
  fit : FitL a b true 0 0 (X.set k (sh c (-(d : Int))))
  eq : d + upR a b (sh c (-(d : Int))) ((c.old - prE X k).toNat - d) = D
theorem InvU.start {a b : List Int} {X : List Ch} {k : Nat} (hk : k < X.length) (h : FitL a b true 0 0 X) : InvU a b X k X[k] (upR a b X[k] (X[k].old - prE X k).toNat) 0 := by
  refine ⟨?_, ?_⟩
  · rw [show (-((0 : Nat) : Int)) = 0 from rfl, sh_zero, List.set_getElem_self]; exact h
  · rw [show (-((0 : Nat) : Int)) = 0 from rfl, sh_zero, Nat.zero_add, Nat.sub_zero]
theorem InvU.can {a b : List Int} {X : List Ch} {k : Nat} {c : Ch} (d : Nat) : canU a b (X.set k (sh c (-(d : Int)))) k (sh c (-(d : Int))) = (upB a b (sh c (-(d : Int))) && decide (0 < (c.old - prE X k).toNat - d)) := by
  unfold canU
  rw [prE_set, show ((sh c (-(d : Int))).old - prE X k).toNat = (c.old - prE X k).toNat - d from by unfold sh; simp only; omega]
theorem InvU.step {a b : List Int} {X : List Ch} {k : Nat} {c : Ch} {D d : Nat} (hk : k < X.length) (h : InvU a b X k c D d) (hc : canU a b (X.set k (sh c (-(d : Int)))) k (sh c (-(d : Int))) = true) : InvU a b X k c D (d + 1) ∧ d < D := by
  rw [InvU.can, Bool.and_eq_true] at hc
  have h2 := of_decide_eq_true hc.2
  have hk2 : k < (X.set k (sh c (-(d : Int)))).length := by rw [List.length_set]; exact hk
  have hs := up_step h.eq hc.1 (by omega)
  refine ⟨⟨?_, hs⟩, by omega⟩
  have e : (X.set k (sh c (-(d : Int))))[k] = sh c (-(d : Int)) := List.getElem_set_self _
  have h3 := fit_set_up k (X.set k (sh c (-(d : Int)))) true 0 0 hk2 (Int.le_refl _) (Int.le_refl _) h.fit (by rw [e]; exact hc.1) (by
    rw [e, prE_set]
    have e2 : (if k = 0 then firstI true 0 else prE X k) = prE X k := by
      split
      · rename_i h0; subst h0; rfl
      · rfl
    rw [e2]
    unfold sh
    simp only
    omega)
  rw [e, List.set_set, sh_sh, show -(d : Int) + -1 = -((d + 1 : Nat) : Int) from by omega] at h3
  exact h3
theorem InvU.stop {a b : List Int} {X : List Ch} {k : Nat} {c : Ch} {D d : Nat} (h : InvU a b X k c D d) (hc : canU a b (X.set k (sh c (-(d : Int)))) k (sh c (-(d : Int))) = false) : D = d := by
  rw [InvU.can, Bool.and_eq_false_iff] at hc
  exact up_stop h.eq (hc.imp id (fun h => by have := of_decide_eq_false h; omega))
def oldAt (p : Nat) (v : Value) (w : World) : Int :=
  match v with
  | .slice (some a) _ _ => (match w.cell? ⟨a.block, a.off + p * 4, none⟩ with | some (.int _ z) => z | _ => 0)
  | _ => 0
theorem oldAt_rd {w : World} {v : Value} {Y : List Ch} (h : RdC w v Y) {p : Nat} (hp : p < Y.length) : oldAt p v w = Y[p].old := by
  obtain ⟨A, cp, rfl⟩ := h.form
  obtain ⟨b, off, rfl, c0, _⟩ := RdC_at h p hp
  unfold oldAt
  simp only [c0]
end Sl
end Go.Proofs.Ytldommbelpcegaa

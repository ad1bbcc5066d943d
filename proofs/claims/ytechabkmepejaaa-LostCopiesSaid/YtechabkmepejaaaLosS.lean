/-
  The reference's Coalesce of layer 15. Condition: few lines.
-/
import Derived.Test.YtechabkmepejaaaLosR
namespace Go.Proofs.Ytechabkmepejaaa
open Go.RowKit
namespace Lo
open Cm Sc
/-- What holds of the merged list before parent k, where all is small. -/
structure MidR (ls : List (List Int)) (k : Nat) (l : List Mg) : Prop where
  eq : coF k l (ls.drop k) = coF 0 [] ls
  len : l.length + ((ls.drop k).map List.length).sum ≤ 1000
  few : FewP k l
theorem MidR.next {ls : List (List Int)} {k : Nat} {l : List Mg} (h : MidR ls k l) (hk : k < ls.length) : MidR ls (k + 1) (jn l ls[k] (2 ^ k)) ∧ l.length ≤ 1000 ∧ ls[k].length ≤ 1000 := by
  have hj := jn_rel l ls[k] (2 ^ k)
  have e1 := h.eq
  have e2 := h.len
  rw [List.drop_eq_getElem_cons hk] at e1 e2
  simp only [List.map_cons, List.sum_cons] at e2
  have := hj.len
  exact ⟨⟨e1, by omega, hj.few h.few⟩, by omega, by omega⟩
theorem MidR.done {ls : List (List Int)} {l : List Mg} (h : MidR ls ls.length l) (hl : ls.length ≤ 32) (hs : (ls.map List.length).sum ≤ 1000) : codeF ls = 0 ∧ colF ls = l := by
  have e1 := h.eq
  rw [List.drop_eq_nil_of_le (Nat.le_refl _)] at e1
  obtain ⟨h1, h2⟩ := col_small hl (by omega)
  exact ⟨h2, by rw [h1, ← e1]; rfl⟩
set_option maxRecDepth 100000 in
set_option maxHeartbeats 8000000 in
theorem CoalesceR_any (v : Value) (ls : List (List Int)) (w : World) (h : RdLL w v (ls.map intsV)) (hl : ls.length ≤ 32) (hs : (ls.map List.length).sum ≤ 1000) :
    Calls Try.prog 11 #[v] w (CoPost ls w) := by
  obtain ⟨us, hr, hul, hus⟩ := h
  rw [List.length_map] at hul
  obtain ⟨A, c, rfl⟩ := hr.form
  have HAt : Hid (∀ w', Below w.heap.size w w' → ∀ k (h : k < ls.length), ∃ b off Ax cx, A = some ⟨b, off, none⟩ ∧ w'.cell? ⟨b, off + k, none⟩ = some (.slice Ax ls[k].length cx) ∧ RdV w' (.slice Ax ls[k].length cx) (intsV ls[k])) := Lib.hid (fun w' hb k hk => by
    obtain ⟨_, b, off, e, hc⟩ := (hr.below hb).at (by omega)
    have h3 := (hus k (by omega) (by rw [List.length_map]; exact hk)).below hb
    rw [List.getElem_map] at h3
    obtain ⟨Ax, cx, e2⟩ := h3.form
    rw [intsV_len] at e2
    exact ⟨b, off, Ax, cx, e, by rw [hc k (by omega), e2], by rw [← e2]; exact h3⟩)
  rw [hul]
  clear hr hus hul
  have HFin : Hid (∀ (l : List Mg) (v : Value) (w' : World), MidR ls ls.length l → OwnM w.heap.size w' v l → Below w.heap.size w w' → CoPost ls w (.returned (.tuple #[v, .int .i64 0])) w') := Lib.hid (fun l v w' h1 h2 h3 => by
    obtain ⟨e1, e2⟩ := h1.done hl hs
    exact ⟨v, by rw [e1], by rw [e2]; exact h2, h3⟩)
  have HS : Hid (MidR ls 0 []) := Lib.hid ⟨rfl, by simpa using hs, FewP.nil 0⟩
  clear hs
  obtain ⟨N, hN⟩ : ∃ N, N = ls.length := ⟨_, rfl⟩
  rw [← hN] at hl HFin ⊢
  have HN := Lib.hid hN
  clear hN
  have d1 : decide ((32 : Int) < (N : Int)) = false := decide_eq_false (by omega)
  go_enter Try.func11, Try.ntmps11
  go_wp2_with fail
  go_loopw [4, 5] (fun l' k' wr => ∃ (k : Nat) (l : List Mg), k ≤ N ∧ k' = .int .i64 (k : Int) ∧ Hid (OwnM w.heap.size wr l' l) ∧ Hid (Below w.heap.size w wr) ∧ Hid (MidR ls k l)) (fun _ k' _ => N - (intOf k').toNat)
  case atStart => exact ⟨0, [], Nat.zero_le _, rfl, Lib.hid (OwnM.nil _ _), Lib.hid (Below.refl _ _), HS⟩
  case round =>
    obtain ⟨k, l, hk, rfl, HO, HB, HM⟩ := hrel
    by_cases hlt : k < N
    · have hx : k < ls.length := by rw [← HN.out]; exact hlt
      obtain ⟨b, off, Ax, cx, rfl, c0, hry⟩ := HAt.out wr HB.out k hx
      have HRy := Lib.hid hry
      clear hry
      obtain ⟨hm1, hm2, hm3⟩ := HM.out.next hx
      have HM2 := Lib.hid hm1
      have i1 : (0 : Int) ≤ (k : Int) := by omega
      have i2 : (k : Int) < (N : Int) := by omega
      have hp : ∀ y ∈ l, y.par < 4294967296 := fun y hy => by
        have h1 := (HM.out.few y hy).1
        have h2 : 2 ^ k ≤ 2 ^ 32 := Nat.pow_le_pow_right (by omega) (by omega)
        omega
      have HJ := Lib.hid (joinR_any l ls[k] k _ (.slice Ax ls[k].length cx) wr HO.out.rd HRy.out hm2 hm3 (by omega) hp)
      clear hm1 hm2 hm3 hp
      generalize jn l ls[k] (2 ^ k) = lj at *
      generalize ls[k].length = M at *
      go_wp2_with (go_at_call 22; refine HJ.out.mono ?_; rintro e w3 ⟨v3, rfl, ho3, hb3⟩; have HO3 := Lib.hid (ho3.base HB.out.size); have HB3 := Lib.hid (HB.out.trans (hb3.mono HB.out.size)); clear ho3 hb3)
      go_roundw
      case rel => exact ⟨k + 1, lj, by omega, by go_num, HO3, HB3, HM2⟩
      case measure => simp [intOf]; omega
    · obtain rfl : k = N := by omega
      have HM2 : Hid (MidR ls k l) := HM
      go_wp2_with fail
      go_ret2
      exact HFin.out _ _ _ HM2.out HO.out HB.out
end Lo
end Go.Proofs.Ytechabkmepejaaa

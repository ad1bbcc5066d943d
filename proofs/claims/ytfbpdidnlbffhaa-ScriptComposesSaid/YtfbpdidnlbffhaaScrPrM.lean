/-
  What the law on pairs needs: append of a list that reads, a store of one span, the lists that are made to fit. No conditions beyond the lengths.
-/
import Derived.Test.YtfbpdidnlbffhaaScrGood
import Derived.StillTailTactics
namespace Go.Proofs.Ytfbpdidnlbffhaa
open Go.RowKit
namespace Sc
open Cm
section
variable {ops : Array Oper} {rest : List Oper} {o : Oper} {a : Act} {Q : Exit → Act → World → Prop} {w : World}
theorem flat_at {α : Type} {k : Nat} {enc : α → List Value} (he : ∀ x, (enc x).length = k) (hk : 0 < k) (xs : List α) (j : Nat) (u : Value) (h : (flatK enc xs)[j]? = some u) : ∃ (h1 : j / k < xs.length), (enc xs[j / k])[j % k]? = some u := by
  have h0 : j < (flatK enc xs).length := by
    rcases Nat.lt_or_ge j (flatK enc xs).length with h1 | h1
    · exact h1
    · rw [List.getElem?_eq_none h1] at h; cases h
  rw [flatK_len he] at h0
  have h1 : j / k < xs.length := Nat.div_lt_of_lt_mul h0
  have h2 : j % k < k := Nat.mod_lt _ hk
  refine ⟨h1, ?_⟩
  rw [← flatK_get he xs (j / k) h1 (j % k) h2, Nat.mul_comm, Nat.div_add_mod]
  exact h
theorem app_rdK {α : Type} {t e : TypeId} {z : Value} {k bytes : Nat} {enc : α → List Value} (hk : 0 < k) (he : ∀ x, (enc x).length = k) (hone : ∀ x, ∀ u ∈ enc x, u.oneCell' = true) (hg : Region.wanted o (yielded ops a.tmps) = true) (ht : Try.prog.underlying t = some (.slice e))
    (hinfo : (Try.prog.info? e).map (fun i => (i.zero, i.size, i.bytes)) = some (some z, k, bytes)) (hz : z.cells.size = k) (hby : bytes ≤ 64)
    (s x : Operand) (ho : o.op = .call { callee := .builtin .append, args := #[s, x], argTypes := #[t, t] })
    (base n : Nat) (l : List Value) (xs : List α) (v y : Value) (hs : a.eval s = v) (hown : w.ownsRow base e k v n l) (hx : a.eval x = y) (hr : RdK k enc w y xs)
    (hsz : n + xs.length ≤ 1000000) (hbase : base ≤ w.heap.size)
    (h : ∀ v' w', w'.ownsRow base e k v' (n + xs.length) (l ++ flatK enc xs) → Below base w w' → wpList Try.prog ops Q rest (a.put o.dst v') w') :
    wpList Try.prog ops Q (o :: rest) a w := by
  obtain ⟨i0, hi0, hz0, hz1, hz2⟩ := info_parts hinfo
  obtain ⟨A, c, rfl, ⟨_, hnone⟩, hc⟩ := hr
  refine wpList_wanted hg fun K hK => ?_
  cases A with
  | none =>
    have h0 : xs = [] := by
      rcases Nat.eq_zero_or_pos xs.length with h1 | h1
      · exact List.eq_nil_of_length_eq_zero h1
      · obtain ⟨b, off, e, _⟩ := hc h1; cases e
    subst h0
    obtain rfl := hnone rfl
    have hrun := run_append_owned_none (P := Try.prog) (w := w) base t o.type e i0 k ht hi0 v n l hown
    unfold Oper.wp
    simp [execOp, ho, resolve, invoke, builtin, hs, hx, hrun, Result.andThen]
    refine hK _ _ (h v w ?_ (Below.refl _ _))
    show w.ownsRow base e k v n (l ++ [])
    rw [List.append_nil]
    exact hown
  | some ad =>
    refine wp_append_own w s x _ ho base e i0 _ k bytes ht hi0 hz0 hz1 hz2 hz hk v n l hs hown ad xs.length c (flatK enc xs) hx (by rw [flatK_len he, Nat.mul_comm]) (fun j u hu => ?_) (fun u hu => ?_) (by unfold maxLen; omega) ?_ hbase ?_
    · obtain ⟨h1, h2⟩ := flat_at he hk xs j u hu
      obtain ⟨b, off, e, hcell⟩ := hc (Nat.lt_of_le_of_lt (Nat.zero_le _) h1)
      cases e
      have h3 : j % k < (enc xs[j / k]).length := by rw [he]; exact Nat.mod_lt _ hk
      have he2 : (Addr.mk b off none).add j = ⟨b, off + j, none⟩ := by
        unfold Addr.add; split
        · rename_i h0; rw [h0]; rfl
        · rfl
      have h4 := hcell (j / k) h1 (j % k) h3
      rw [Nat.add_assoc, Nat.mul_comm, Nat.div_add_mod] at h4
      rw [he2, h4, ← h2, List.getElem?_eq_getElem h3]
    · obtain ⟨x0, hx0, hu2⟩ := List.mem_flatMap.1 hu
      exact hone x0 u hu2
    · have := Nat.mul_le_mul_left (n + xs.length) hby
      omega
    · intro v' w' h1 h2 _
      exact hK _ _ (h v' w' h1 (below_grown hown h2 hbase))
end
theorem OwnS.empty (w : World) : OwnS w.heap.size (w.alloc (.cells #[] tSp)) (.slice (some ⟨w.heap.size, 0, none⟩) 0 0) [] :=
  ⟨rfl, .inr ⟨w.heap.size, 0, #[], rfl, Nat.le_refl _, heap_new w _, Nat.le_refl _, Nat.zero_le _, rfl, rfl⟩⟩
theorem OwnS.cells {base g N c : Nat} {w : World} {l : List Sp} (h : OwnS base w (.slice (some ⟨g, 0, none⟩) N c) l) (k : Nat) (hk : k < l.length) :
    (w.cell? ⟨g, k * 2, none⟩ = some (.int .i64 l[k].frm) ∧ w.cell? ⟨g, k * 2 + 1, none⟩ = some (.int .i64 l[k].to)) ∧ ∀ j, w.frozen? ⟨g, j, none⟩ = false := by
  have hN : N = l.length := by
    rcases h.2 with ⟨e, _⟩ | ⟨g', cap, cur, e, _⟩
    · cases e
    · injection e
  subst hN
  have h2 : w.ownsRow base tSp 2 (.slice (some ⟨g, 0, none⟩) l.length c) l.length (flatK spC l) := h
  have e : ∀ i, i < 2 → w.cell? ⟨g, k * 2 + i, none⟩ = (spC l[k])[i]? := fun i hi => by
    rw [h2.cellAt (k * 2 + i) (by omega), flatK_get spC_len l k hk i hi]
  exact ⟨⟨e 0 (by omega), e 1 (by omega)⟩, fun j => World.ownsRow.frozenAt h2 j⟩
theorem OwnS.put2 {base g N c : Nat} {w : World} {l : List Sp} (h : OwnS base w (.slice (some ⟨g, 0, none⟩) N c) l) (k : Nat) (hk : k < l.length) (y : Sp) :
    OwnS base ((w.setCell ⟨g, k * 2, none⟩ (.int .i64 y.frm)).setCell ⟨g, k * 2 + 1, none⟩ (.int .i64 y.to)) (.slice (some ⟨g, 0, none⟩) N c) (l.set k y) := by
  have hN : N = l.length := by
    rcases h.2 with ⟨e, _⟩ | ⟨g', cap, cur, e, _⟩
    · cases e
    · injection e
  subst hN
  have h2 : w.ownsRow base tSp 2 (.slice (some ⟨g, 0, none⟩) l.length c) l.length (flatK spC l) := h
  have h3 := (h2.stored (k * 2 + 0) (.int .i64 y.frm)).1
  rw [flat_set spC_len l k hk 0 (by decide) (.int .i64 y.frm) ⟨y.frm, l[k].to⟩ rfl] at h3
  have h4 := (h3.stored (k * 2 + 1) (.int .i64 y.to)).1
  rw [flat_set spC_len (l.set k ⟨y.frm, l[k].to⟩) k (by rw [List.length_set]; exact hk) 1 (by decide) (.int .i64 y.to) y (by rw [List.getElem_set_self]; rfl), List.set_set] at h4
  unfold OwnS
  rw [List.length_set]
  exact h4
/-- The pairs that are made to fit: the first k of them. -/
def fitS (p : List Sp) (i : Nat) : Sp := ⟨Tx.modF (p.getD i ⟨0, 0⟩).frm 3 + 2 * (i : Int), Tx.modF (p.getD i ⟨0, 0⟩).to 3 + 2 * (i : Int)⟩
def fitP (p : List Sp) (k : Nat) : List Sp := (List.range k).map (fitS p) ++ p.drop k
theorem fitP_zero (p : List Sp) : fitP p 0 = p := rfl
theorem fitP_len (p : List Sp) {k : Nat} (h : k ≤ p.length) : (fitP p k).length = p.length := by
  unfold fitP; rw [List.length_append, List.length_map, List.length_range, List.length_drop]; omega
theorem fitP_step {p : List Sp} {k : Nat} (h : k < p.length) : (fitP p k).set k (fitS p k) = fitP p (k + 1) := by
  unfold fitP
  have h1 : ((List.range k).map (fitS p)).length = k := by rw [List.length_map, List.length_range]
  rw [List.set_append_right _ _ (by omega), h1, Nat.sub_self, drop_at h, List.set_cons_zero, List.range_succ, List.map_append, List.append_assoc]
  rfl
theorem fitS_B (p : List Sp) {i : Nat} (hi : i ≤ 1000) : SpB (fitS p i) := by
  have a := Tx.modF_lo (p.getD i ⟨0, 0⟩).frm 3 (by decide)
  have b := Tx.modF_hi (p.getD i ⟨0, 0⟩).frm 3 (by decide)
  have c := Tx.modF_lo (p.getD i ⟨0, 0⟩).to 3 (by decide)
  have d := Tx.modF_hi (p.getD i ⟨0, 0⟩).to 3 (by decide)
  refine ⟨⟨?_, ?_⟩, ⟨?_, ?_⟩⟩
  all_goals simp only [fitS]
  all_goals omega
theorem fitP_B {p : List Sp} (hp : ∀ s ∈ p, SpB s) {k : Nat} (hk : k ≤ 1000) : ∀ s ∈ fitP p k, SpB s := by
  intro s hs
  unfold fitP at hs
  rcases List.mem_append.1 hs with h | h
  · obtain ⟨i, hi, rfl⟩ := List.mem_map.1 h
    exact fitS_B p (by have := List.mem_range.1 hi; omega)
  · exact hp s (List.mem_of_mem_drop h)
open Classical in
/-- FromPairs' results as a list that reads. -/
noncomputable def fpL (p : List Sp) (m n : Int) : List Ch := if fpF p m n = 0 then frF m n 0 0 p else []
def FpRd (p : List Sp) (m n : Int) (w : World) (e : Ending) (w' : World) : Prop := ∃ v, e = .returned (.tuple #[v, .int .i64 (fpF p m n)]) ∧ RdC w' v (fpL p m n) ∧ Below w.heap.size w w'
theorem FpPost.rd {p : List Sp} {m n : Int} {w : World} {e : Ending} {w' : World} (h : FpPost p m n w e w') : FpRd p m n w e w' := by
  obtain ⟨v, h1, h2, h3, h4⟩ := h
  refine ⟨v, h1, ?_, h4⟩
  unfold fpL
  by_cases hz : fpF p m n = 0
  · rw [if_pos hz]; exact (h2 hz).rd
  · rw [if_neg hz, h3 hz]; exact RdK.nil _
theorem fpL_len (p : List Sp) (m n : Int) : (fpL p m n).length ≤ p.length + 1 := by
  unfold fpL
  split
  · exact frF_len m n p 0 0
  · exact Nat.zero_le _
theorem OkL.off {m n : Int} : ∀ {l : List Ch} {f : Bool} {i j : Int}, OkL f i j l m n → ¬ OkL f i j l m (n + 1)
  | [], _, i, j, h, h2 => by
    have h1 : m - i = n - j := h
    have h3 : m - i = n + 1 - j := h2
    omega
  | c :: l, _, _, _, h, h2 => OkL.off h.2 h2.2
theorem GoodL.off {l : List Ch} {m n : Int} (h : GoodL l m n) : chkF l m (n + 1) = 80 := chkF_no (fun hh => h.ok.off hh.2.2)
theorem Pairs_off (v : Value) (l : List Ch) (m n : Int) (w : World) (h : RdC w v l) (hg : GoodL l m n) : Calls Try.prog 16 #[v, .int .i64 m, .int .i64 (n + 1)] w fun e w' => e = .returned (.tuple #[.slice none 0 0, .int .i64 80]) ∧ Below w.heap.size w w' :=
  (Pairs_any v l m (n + 1) w h (by have := hg.len; omega) hg.chB).mono fun e w' ⟨v', h1, _, h3, h4⟩ => ⟨by rw [h1, h3 (by rw [hg.off]; decide), hg.off], h4⟩
end Sc
end Go.Proofs.Ytfbpdidnlbffhaa

/-
  Slices of ints, of slices of ints and of merged lines that came in, read as lists. No conditions.
-/
import Derived.Test.YtechabkmepejaaaRows
import Derived.Test.YtechabkmepejaaaLosB
import Derived.Test.YtechabkmepejaaaComLL
import Derived.ProofKit
import Derived.OpenShut
import Derived.ShutString
import Derived.ChangeOld
import Derived.Deep.Slices
namespace Go.Proofs.Ytechabkmepejaaa
open Go.ChangeShapes Go.WideShapes Go.ChangeAt Go.RowKit
namespace Cm
section
variable {H : Type} {enc : TypeId × Value → H} {P : Program} {w : World} {base : Nat} {spare : Nat → Bool} {held : Bool}
/-- Five parameters. -/
theorem trodAll_five {t0 t1 t2 t3 t4 : TypeId} {args : Array Value} {ds : List (DataW H)} {ps : List MemPlace} (h : DataW.TrodAll enc P w base spare held [t0, t1, t2, t3, t4] args.toList ds ps) :
    ∃ v0 v1 v2 v3 v4 d0 d1 d2 d3 d4 p0 p1 p2 p3 p4, args = #[v0, v1, v2, v3, v4] ∧ ds = [d0, d1, d2, d3, d4] ∧ ps = p0 ++ p1 ++ p2 ++ p3 ++ p4 ∧ DataW.Trod enc P w base spare held t0 v0 d0 p0 ∧ DataW.Trod enc P w base spare held t1 v1 d1 p1 ∧
      DataW.Trod enc P w base spare held t2 v2 d2 p2 ∧ DataW.Trod enc P w base spare held t3 v3 d3 p3 ∧ DataW.Trod enc P w base spare held t4 v4 d4 p4 := by
  obtain ⟨v0, _, d0, _, p0, _, e0, rfl, rfl, h0, k0⟩ := trodAll_cons h
  obtain ⟨v1, _, d1, _, p1, _, rfl, rfl, rfl, h1, k1⟩ := trodAll_cons k0
  obtain ⟨v2, _, d2, _, p2, _, rfl, rfl, rfl, h2, k2⟩ := trodAll_cons k1
  obtain ⟨v3, _, d3, _, p3, _, rfl, rfl, rfl, h3, k3⟩ := trodAll_cons k2
  obtain ⟨v4, _, d4, _, p4, _, rfl, rfl, rfl, h4, k4⟩ := trodAll_cons k3
  obtain ⟨rfl, rfl, rfl⟩ := trodAll_nil k4
  exact ⟨v0, v1, v2, v3, v4, d0, d1, d2, d3, d4, p0, p1, p2, p3, p4, by cases args; simp_all, rfl, by simp, h0, h1, h2, h3, h4⟩
theorem trodAll_mk5 {t0 t1 t2 t3 t4 : TypeId} {v0 v1 v2 v3 v4 : Value} {d0 d1 d2 d3 d4 : DataW H} {p0 p1 p2 p3 p4 : List MemPlace} (h0 : DataW.Trod enc P w base spare held t0 v0 d0 p0) (h1 : DataW.Trod enc P w base spare held t1 v1 d1 p1)
    (h2 : DataW.Trod enc P w base spare held t2 v2 d2 p2) (h3 : DataW.Trod enc P w base spare held t3 v3 d3 p3) (h4 : DataW.Trod enc P w base spare held t4 v4 d4 p4) :
    DataW.TrodAll enc P w base spare held [t0, t1, t2, t3, t4] [v0, v1, v2, v3, v4] [d0, d1, d2, d3, d4] (p0 ++ (p1 ++ (p2 ++ (p3 ++ p4)))) := ⟨p0, _, h0, trodAll_mk4 h1 h2 h3 h4, rfl⟩
end
theorem own : ownKnob Try.prog.godebug = none := by kernel_rfl
theorem laidOut : laidOutB Try.prog = true := by kernel_rfl
theorem bounds_int {n : Int} (h : (Lit.int .i64 n).wf = true) : -9223372036854775808 ≤ n ∧ n ≤ 9223372036854775807 := by
  simp [Lit.wf] at h
  exact h
theorem addr_add {b off j : Nat} : (Addr.mk b off none).add j = ⟨b, off + j, none⟩ := by
  unfold Addr.add; split
  · rename_i h0; rw [h0]; rfl
  · rfl
/-- A slice whose cells lie behind its address. -/
theorem rdV_mk {w : World} {a : Addr} {len cap : Nat} {us : List Value} (hl : us.length = len) (hc : len ≤ cap) (h : ∀ i (hi : i < us.length), w.cell? (a.add i) = some us[i]) : RdV w (.slice (some a) len cap) us := by
  refine ⟨some a, cap, by rw [hl], ⟨by omega, fun e => by cases e⟩, fun hp => ?_⟩
  obtain ⟨b, off, spot⟩ := a
  have hc0 := h 0 hp
  have hspot : spot = none := by simpa [Addr.add] using World.cell?_spot hc0
  subst hspot
  exact ⟨b, off, rfl, fun j hj => by rw [← addr_add]; exact h j hj⟩
section
variable {H : Type} {enc : TypeId × Value → H} {W : World} {base : Nat} {spare : Nat → Bool} {held : Bool} {fuel : Nat} {u : Value} {x : DataW H × List MemPlace}
theorem open_intsV (h : DataW.trod enc Try.prog W base spare held fuel 22 [u] = some x) : ∃ l : List Int, RdV W u (intsV l) ∧ l.length ≤ maxLen ∧ ∀ z ∈ l, -9223372036854775808 ≤ z ∧ z ≤ 9223372036854775807 := by
  rcases open_ints Try.underlying22 Try.underlying3 (by kernel_rfl) h with ⟨hcs, _⟩ | ⟨a, l, c', zs, hcs, _, hl, hm, hlen, _, hcell, hwf⟩
  · obtain rfl : u = .slice none 0 0 := by simpa using hcs
    exact ⟨[], RdV.nil _, Nat.zero_le _, fun z hz => by cases hz⟩
  · obtain rfl : u = .slice (some a) l c' := by simpa using hcs
    have hsl : l ≤ zs.length := by rw [hlen]; split <;> omega
    have hmin : (zs.take l).length = l := by rw [List.length_take]; omega
    refine ⟨zs.take l, rdV_mk (by rw [intsV_len, hmin]) hl (fun i hi => ?_), by omega, fun z hz => bounds_int (hwf z (List.mem_of_mem_take hz))⟩
    rw [intsV_len, hmin] at hi
    rw [hcell i (by omega)]
    simp [intsV, List.getD, List.getElem?_eq_getElem (show i < zs.length by omega)]
theorem open_listsV (h : DataW.trod enc Try.prog W base spare held fuel 23 [u] = some x) : ∃ fs : List (List Int), RdLL W u (fs.map intsV) ∧ fs.length ≤ maxLen ∧ ∀ f ∈ fs, f.length ≤ maxLen ∧ ∀ z ∈ f, -9223372036854775808 ≤ z ∧ z ≤ 9223372036854775807 := by
  rcases Deep.open_slice1 Try.underlying23 (by kernel_rfl) h with ⟨hcs, _⟩ | ⟨a, len, cap, m, n, V, D, Pl, hcs, _, hl, hm, hmm, _, hx⟩
  · obtain rfl : u = .slice none 0 0 := by simpa using hcs
    exact ⟨[], ⟨[], RdV.nil _, rfl, fun j h => absurd h (Nat.not_lt_zero _)⟩, Nat.zero_le _, fun z hz => by cases hz⟩
  · obtain rfl : u = .slice (some a) len cap := by simpa using hcs
    have hlm : len ≤ m := by rw [hmm]; split <;> omega
    have each : ∀ i, i < len → ∃ l : List Int, RdV W (V i) (intsV l) ∧ l.length ≤ maxLen ∧ ∀ z ∈ l, -9223372036854775808 ≤ z ∧ z ≤ 9223372036854775807 := fun i hi => by
      obtain ⟨l, h1, h2, h3⟩ := open_intsV (hx i (by omega)).2
      exact ⟨l, h1, h2, h3⟩
    have hfs : ∀ k, k ≤ len → ∃ fs : List (List Int), fs.length = k ∧ (∀ i (hi : i < fs.length), RdV W (V i) (intsV fs[i])) ∧ ∀ f ∈ fs, f.length ≤ maxLen ∧ ∀ z ∈ f, -9223372036854775808 ≤ z ∧ z ≤ 9223372036854775807 := by
      intro k
      induction k with
      | zero => intro _; exact ⟨[], rfl, fun i hi => absurd hi (Nat.not_lt_zero _), fun f hf => by cases hf⟩
      | succ k ih =>
        intro hk
        obtain ⟨fs, h1, h2, h3⟩ := ih (by omega)
        obtain ⟨l, h4, h5⟩ := each k (by omega)
        refine ⟨fs ++ [l], by simp [h1], fun i hi => ?_, fun f hf => ?_⟩
        · by_cases hik : i < fs.length
          · rw [List.getElem_append_left hik]; exact h2 i hik
          · have hi2 : i = fs.length := by rw [List.length_append, List.length_singleton] at hi; omega
            subst hi2
            rw [← h1] at h4
            simpa using h4
        · rcases List.mem_append.1 hf with hf | hf
          · exact h3 f hf
          · rw [List.mem_singleton] at hf; subst hf; exact h5
    obtain ⟨fs, h1, h2, h3⟩ := hfs len (Nat.le_refl _)
    refine ⟨fs, ⟨(List.range len).map V, rdV_mk (by simp) hl (fun i hi => ?_), by simp [h1], fun i a b => ?_⟩, by omega, h3⟩
    · have hi2 : i < len := by simpa using hi
      rw [(hx i (by omega)).1]; simp
    · have hi2 : i < fs.length := by simpa using b
      rw [List.getElem_map, List.getElem_map]
      simpa using h2 i hi2
end
end Cm
namespace Sc
open Cm
section
variable {H : Type} {enc : TypeId × Value → H} {W : World} {base : Nat} {spare : Nat → Bool} {held : Bool} {fuel : Nat} {u : Value} {x : DataW H × List MemPlace}
open Classical in
theorem open_K {α : Type} {k : Nat} {tS tE : TypeId} {el : α → List Value} {B : α → Prop} (hu : Try.prog.underlying tS = some (.slice tE)) (hk : Try.prog.cellsOf tE = k) (hk0 : 0 < k) (he : ∀ x, (el x).length = k)
    (hopen : ∀ (n : Nat) (cs : List Value) (x : DataW H × List MemPlace), DataW.trod enc Try.prog W base spare held n tE cs = some x → ∃ a, cs = el a ∧ B a)
    (h : DataW.trod enc Try.prog W base spare held fuel tS [u] = some x) : ∃ xs : List α, RdK k el W u xs ∧ xs.length ≤ maxLen ∧ ∀ a ∈ xs, B a := by
  rcases Go.Deep.open_slice hu h with ⟨hcs, _⟩ | ⟨a, len, cap, m, n, D, Pl, hcs, _, hl, hm, hmm, _, hi⟩
  · obtain rfl : u = .slice none 0 0 := by simpa using hcs
    exact ⟨[], RdK.nil _, Nat.zero_le _, fun z hz => by cases hz⟩
  · obtain rfl : u = .slice (some a) len cap := by simpa using hcs
    have hlm : len ≤ m := by rw [hmm]; split <;> omega
    rw [hk] at hi
    by_cases hz : len = 0
    · subst hz
      exact ⟨[], ⟨some a, cap, rfl, ⟨Nat.zero_le _, fun e => by cases e⟩, fun hp => absurd hp (Nat.lt_irrefl 0)⟩, Nat.zero_le _, fun z hz => by cases hz⟩
    · obtain ⟨b, off, spot⟩ := a
      have hspot : spot = none := by
        obtain ⟨cs', hc, ht⟩ := hi 0 (by omega)
        obtain ⟨nd, rfl, _⟩ := hopen _ _ _ ht
        obtain ⟨_, _, hat⟩ := World.cells?_some hc
        have h0 := hat 0 (by first | exact hk0 | (rw [he]; exact hk0))
        rw [List.getElem?_eq_getElem (by rw [he]; exact hk0)] at h0
        have h1 := World.cell?_spot h0
        simpa [Addr.add] using h1
      subst hspot
      have hall : ∀ i, i < len → ∃ nd : α, (∀ j (hj : j < (el nd).length), W.cell? ⟨b, off + i * k + j, none⟩ = some (el nd)[j]) ∧ B nd := fun i hil => by
        obtain ⟨cs', hc, ht⟩ := hi i (by omega)
        obtain ⟨nd, rfl, hb⟩ := hopen _ _ _ ht
        obtain ⟨_, hcl, hat⟩ := World.cells?_some hc
        refine ⟨nd, fun j hj => ?_, hb⟩
        have h0 := hat j (by first | (rw [he] at hj; exact hj) | exact hj)
        rw [addr_add, addr_add] at h0
        rw [h0, List.getElem?_eq_getElem hj]
      have hf : ∃ f : Nat → α, ∀ i, i < len → (∀ j (hj : j < (el (f i)).length), W.cell? ⟨b, off + i * k + j, none⟩ = some (el (f i))[j]) ∧ B (f i) := by
        obtain ⟨d, _⟩ := hall 0 (by omega)
        refine ⟨fun i => if hk : i < len then Classical.choose (hall i hk) else d, fun i hk => ?_⟩
        simp only [dif_pos hk]
        exact Classical.choose_spec (hall i hk)
      obtain ⟨f, hf⟩ := hf
      refine ⟨(List.range len).map f, ⟨some ⟨b, off, none⟩, cap, by simp, ⟨by simp; omega, fun e => by cases e⟩, fun _ => ⟨b, off, rfl, fun j hj i hi => ?_⟩⟩, by simp; omega, fun z hz => ?_⟩
      · have h1 : j < len := by simpa using hj
        have h2 : ((List.range len).map f)[j] = f j := by simp
        have h3 : i < (el (f j)).length := by rw [he]; rw [he] at hi; exact hi
        have h4 := (hf j h1).1 i h3
        rw [h4]
        simp only [h2]
      · obtain ⟨i, hi2, rfl⟩ := List.mem_map.1 hz
        exact (hf i (by simpa using hi2)).2
end
end Sc
namespace Lo
open Cm Sc
section
variable {H : Type} {enc : TypeId × Value → H} {W : World} {base : Nat} {spare : Nat → Bool} {held : Bool} {fuel : Nat} {u : Value} {x : DataW H × List MemPlace}
set_option maxRecDepth 100000 in
theorem open_mg {cs : List Value} (h : DataW.trod enc Try.prog W base spare held fuel tMg cs = some x) : ∃ c : Mg, cs = mgC c ∧ MgB c := by
  obtain ⟨xs, n, _, _, hlen, _, hf⟩ := DataW.trod_struct Try.underlying38 h
  rw [show Try.prog.cellsOf tMg = 2 from by kernel_rfl] at hlen
  match cs, hlen with
  | [x0, x1], _ =>
    have ci : Try.prog.cellsOf 3 = 1 := by kernel_rfl
    have cu : Try.prog.cellsOf 36 = 1 := by kernel_rfl
    have f0 : DataW.trod enc Try.prog W base spare held n 3 (([x0, x1].drop 0).take (Try.prog.cellsOf 3)) = xs[0]? := hf 0 _ rfl
    have f1 : DataW.trod enc Try.prog W base spare held n 36 (([x0, x1].drop 1).take (Try.prog.cellsOf 36)) = xs[1]? := hf 1 _ rfl
    rw [ci] at f0
    rw [cu] at f1
    have g : ∀ {t : TypeId} {l : List Value} {i : Nat}, i < xs.length → DataW.trod enc Try.prog W base spare held n t l = xs[i]? → ∃ y, DataW.trod enc Try.prog W base spare held n t l = some y := fun hi e => by
      rw [List.getElem?_eq_getElem hi] at e; exact ⟨_, e⟩
    have hxl : xs.length = 2 := by assumption
    obtain ⟨y0, e0⟩ := g (by omega) f0
    obtain ⟨z0, h0, _, w0⟩ := DataW.trod_int Try.underlying3 e0
    have q0 : x0 = .int .i64 z0 := by simpa using h0
    obtain ⟨y1, e1⟩ := g (by omega) f1
    obtain ⟨z1, h1, _, w1⟩ := DataW.trod_int Try.underlying36 e1
    have q1 : x1 = .int .u32 z1 := by simpa using h1
    have b1 : 0 ≤ z1 ∧ z1 ≤ 4294967295 := by
      simp [Lit.wf] at w1
      exact w1
    obtain ⟨m, rfl⟩ : ∃ m : Nat, z1 = (m : Int) := ⟨z1.toNat, by omega⟩
    exact ⟨⟨z0, m⟩, by rw [q0, q1]; rfl, bounds_int w0, by show m < 4294967296; omega⟩
theorem open_mergedV (h : DataW.trod enc Try.prog W base spare held fuel 25 [u] = some x) : ∃ l : List Mg, RdM W u l ∧ l.length ≤ maxLen ∧ ∀ c ∈ l, MgB c :=
  open_K Try.underlying25 (by kernel_rfl) (by decide) mgC_len (fun _ _ _ h => open_mg h) h
end
end Lo
end Go.Proofs.Ytechabkmepejaaa

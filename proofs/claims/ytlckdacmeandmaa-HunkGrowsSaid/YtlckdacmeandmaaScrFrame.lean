/-
  Slices of ints, of changes and of spans that came in, read as lists; up to seven parameters. No conditions.
-/
import Derived.Test.YtlckdacmeandmaaRows
import Derived.Test.YtlckdacmeandmaaScrBase
import Derived.ProofKit
import Derived.OpenShut
import Derived.ShutString
import Derived.ChangeOld
import Derived.Deep.Slices
namespace Go.Proofs.Ytlckdacmeandmaa
open Go.ChangeShapes Go.WideShapes Go.ChangeAt Go.RowKit
namespace Cm
section
variable {H : Type} {enc : TypeId × Value → H} {P : Program} {w : World} {base : Nat} {spare : Nat → Bool} {held : Bool}
/-- Five parameters. -/
theorem trodAll_five {t0 t1 t2 t3 t4 : TypeId} {args : Array Value} {ds : List (DataW H)} {ps : List MemPlace} (h : DataW.TrodAll enc P w base spare held [t0, t1, t2, t3, t4] args.toList ds ps) :
    ∃ v0 v1 v2 v3 v4 d0 d1 d2 d3 d4 p0 p1 p2 p3 p4, args = #[v0, v1, v2, v3, v4] ∧ ds = [d0, d1, d2, d3, d4] ∧ ps = p0 ++ p1 ++ p2 ++ p3 ++ p4 ∧ DataW.Trod enc P w base spare held t0 v0 d0 p0 ∧ DataW.Trod enc P w base spare held t1 v1 d1 p1 ∧
      DataW.Trod enc P w base spare held t2 v2 d2 p2 ∧ DataW.Trod enc P w base spare held t3 v3 d3 p3 ∧ DataW.Trod enc P w base spare held t4 v4 d4 p4 := by
  obtain ⟨v0, _, d0, _, p0, _, e0, rfl, rfl, h0, k0⟩ := trodAll_cons h
  obtain ⟨v1, _, d1, _, p1, _, rfl, rfl, rfl, h1, k1⟩ := trodAll_cons k0
  obtain ⟨v2, _, d2, _, p2, _, rfl, rfl, rfl, h2, k2⟩ := trodAll_cons k1
  obtain ⟨v3, _, d3, _, p3, _, rfl, rfl, rfl, h3, k3⟩ := trodAll_cons k2
  obtain ⟨v4, _, d4, _, p4, _, rfl, rfl, rfl, h4, k4⟩ := trodAll_cons k3
  obtain ⟨rfl, rfl, rfl⟩ := trodAll_nil k4
  exact ⟨v0, v1, v2, v3, v4, d0, d1, d2, d3, d4, p0, p1, p2, p3, p4, by cases args; simp_all, rfl, by simp, h0, h1, h2, h3, h4⟩
theorem trodAll_mk5 {t0 t1 t2 t3 t4 : TypeId} {v0 v1 v2 v3 v4 : Value} {d0 d1 d2 d3 d4 : DataW H} {p0 p1 p2 p3 p4 : List MemPlace} (h0 : DataW.Trod enc P w base spare held t0 v0 d0 p0) (h1 : DataW.Trod enc P w base spare held t1 v1 d1 p1)
    (h2 : DataW.Trod enc P w base spare held t2 v2 d2 p2) (h3 : DataW.Trod enc P w base spare held t3 v3 d3 p3) (h4 : DataW.Trod enc P w base spare held t4 v4 d4 p4) :
    DataW.TrodAll enc P w base spare held [t0, t1, t2, t3, t4] [v0, v1, v2, v3, v4] [d0, d1, d2, d3, d4] (p0 ++ (p1 ++ (p2 ++ (p3 ++ p4)))) := ⟨p0, _, h0, trodAll_mk4 h1 h2 h3 h4, rfl⟩
end
theorem own : ownKnob Try.prog.godebug = none := by kernel_rfl
theorem laidOut : laidOutB Try.prog = true := by kernel_rfl
theorem bounds_int {n : Int} (h : (Lit.int .i64 n).wf = true) : -9223372036854775808 ≤ n ∧ n ≤ 9223372036854775807 := by
  simp [Lit.wf] at h
  exact h
theorem addr_add {b off j : Nat} : (Addr.mk b off none).add j = ⟨b, off + j, none⟩ := by
  unfold Addr.add; split
  · rename_i h0; rw [h0]; rfl
  · rfl
/-- A slice whose cells lie behind its address. -/
theorem rdV_mk {w : World} {a : Addr} {len cap : Nat} {us : List Value} (hl : us.length = len) (hc : len ≤ cap) (h : ∀ i (hi : i < us.length), w.cell? (a.add i) = some us[i]) : RdV w (.slice (some a) len cap) us := by
  refine ⟨some a, cap, by rw [hl], ⟨by omega, fun e => by cases e⟩, fun hp => ?_⟩
  obtain ⟨b, off, spot⟩ := a
  have hc0 := h 0 hp
  have hspot : spot = none := by simpa [Addr.add] using World.cell?_spot hc0
  subst hspot
  exact ⟨b, off, rfl, fun j hj => by rw [← addr_add]; exact h j hj⟩
section
variable {H : Type} {enc : TypeId × Value → H} {W : World} {base : Nat} {spare : Nat → Bool} {held : Bool} {fuel : Nat} {u : Value} {x : DataW H × List MemPlace}
theorem open_intsV (h : DataW.trod enc Try.prog W base spare held fuel 22 [u] = some x) : ∃ l : List Int, RdV W u (intsV l) ∧ l.length ≤ maxLen ∧ ∀ z ∈ l, -9223372036854775808 ≤ z ∧ z ≤ 9223372036854775807 := by
  rcases open_ints Try.underlying22 Try.underlying3 (by kernel_rfl) h with ⟨hcs, _⟩ | ⟨a, l, c', zs, hcs, _, hl, hm, hlen, _, hcell, hwf⟩
  · obtain rfl : u = .slice none 0 0 := by simpa using hcs
    exact ⟨[], RdV.nil _, Nat.zero_le _, fun z hz => by cases hz⟩
  · obtain rfl : u = .slice (some a) l c' := by simpa using hcs
    have hsl : l ≤ zs.length := by rw [hlen]; split <;> omega
    have hmin : (zs.take l).length = l := by rw [List.length_take]; omega
    refine ⟨zs.take l, rdV_mk (by rw [intsV_len, hmin]) hl (fun i hi => ?_), by omega, fun z hz => bounds_int (hwf z (List.mem_of_mem_take hz))⟩
    rw [intsV_len, hmin] at hi
    rw [hcell i (by omega)]
    simp [intsV, List.getD, List.getElem?_eq_getElem (show i < zs.length by omega)]
end
section
variable {H : Type} {enc : TypeId × Value → H} {P : Program} {w : World} {base : Nat} {spare : Nat → Bool} {held : Bool}
/-- Six parameters. -/
theorem trodAll_six {t0 t1 t2 t3 t4 t5 : TypeId} {args : Array Value} {ds : List (DataW H)} {ps : List MemPlace} (h : DataW.TrodAll enc P w base spare held [t0, t1, t2, t3, t4, t5] args.toList ds ps) :
    ∃ v0 v1 v2 v3 v4 v5 d0 d1 d2 d3 d4 d5 p0 p1 p2 p3 p4 p5, args = #[v0, v1, v2, v3, v4, v5] ∧ ds = [d0, d1, d2, d3, d4, d5] ∧ ps = p0 ++ p1 ++ p2 ++ p3 ++ p4 ++ p5 ∧ DataW.Trod enc P w base spare held t0 v0 d0 p0 ∧ DataW.Trod enc P w base spare held t1 v1 d1 p1 ∧
      DataW.Trod enc P w base spare held t2 v2 d2 p2 ∧ DataW.Trod enc P w base spare held t3 v3 d3 p3 ∧ DataW.Trod enc P w base spare held t4 v4 d4 p4 ∧ DataW.Trod enc P w base spare held t5 v5 d5 p5 := by
  obtain ⟨v0, _, d0, _, p0, _, e0, rfl, rfl, h0, k0⟩ := trodAll_cons h
  obtain ⟨v1, _, d1, _, p1, _, rfl, rfl, rfl, h1, k1⟩ := trodAll_cons k0
  obtain ⟨v2, _, d2, _, p2, _, rfl, rfl, rfl, h2, k2⟩ := trodAll_cons k1
  obtain ⟨v3, _, d3, _, p3, _, rfl, rfl, rfl, h3, k3⟩ := trodAll_cons k2
  obtain ⟨v4, _, d4, _, p4, _, rfl, rfl, rfl, h4, k4⟩ := trodAll_cons k3
  obtain ⟨v5, _, d5, _, p5, _, rfl, rfl, rfl, h5, k5⟩ := trodAll_cons k4
  obtain ⟨rfl, rfl, rfl⟩ := trodAll_nil k5
  exact ⟨v0, v1, v2, v3, v4, v5, d0, d1, d2, d3, d4, d5, p0, p1, p2, p3, p4, p5, by cases args; simp_all, rfl, by simp, h0, h1, h2, h3, h4, h5⟩
theorem trodAll_mk6 {t0 t1 t2 t3 t4 t5 : TypeId} {v0 v1 v2 v3 v4 v5 : Value} {d0 d1 d2 d3 d4 d5 : DataW H} {p0 p1 p2 p3 p4 p5 : List MemPlace} (h0 : DataW.Trod enc P w base spare held t0 v0 d0 p0) (h1 : DataW.Trod enc P w base spare held t1 v1 d1 p1)
    (h2 : DataW.Trod enc P w base spare held t2 v2 d2 p2) (h3 : DataW.Trod enc P w base spare held t3 v3 d3 p3) (h4 : DataW.Trod enc P w base spare held t4 v4 d4 p4) (h5 : DataW.Trod enc P w base spare held t5 v5 d5 p5) :
    DataW.TrodAll enc P w base spare held [t0, t1, t2, t3, t4, t5] [v0, v1, v2, v3, v4, v5] [d0, d1, d2, d3, d4, d5] (p0 ++ (p1 ++ (p2 ++ (p3 ++ (p4 ++ p5))))) := ⟨p0, _, h0, trodAll_mk5 h1 h2 h3 h4 h5, rfl⟩
/-- Seven parameters. -/
theorem trodAll_seven {t0 t1 t2 t3 t4 t5 t6 : TypeId} {args : Array Value} {ds : List (DataW H)} {ps : List MemPlace} (h : DataW.TrodAll enc P w base spare held [t0, t1, t2, t3, t4, t5, t6] args.toList ds ps) :
    ∃ v0 v1 v2 v3 v4 v5 v6 d0 d1 d2 d3 d4 d5 d6 p0 p1 p2 p3 p4 p5 p6, args = #[v0, v1, v2, v3, v4, v5, v6] ∧ ds = [d0, d1, d2, d3, d4, d5, d6] ∧ ps = p0 ++ p1 ++ p2 ++ p3 ++ p4 ++ p5 ++ p6 ∧ DataW.Trod enc P w base spare held t0 v0 d0 p0 ∧ DataW.Trod enc P w base spare held t1 v1 d1 p1 ∧ DataW.Trod enc P w base spare held t2 v2 d2 p2 ∧ DataW.Trod enc P w base spare held t3 v3 d3 p3 ∧ DataW.Trod enc P w base spare held t4 v4 d4 p4 ∧ DataW.Trod enc P w base spare held t5 v5 d5 p5 ∧ DataW.Trod enc P w base spare held t6 v6 d6 p6 := by
  obtain ⟨v0, _, d0, _, p0, _, e0, rfl, rfl, h0, k0⟩ := trodAll_cons h
  obtain ⟨v1, _, d1, _, p1, _, rfl, rfl, rfl, h1, k1⟩ := trodAll_cons k0
  obtain ⟨v2, _, d2, _, p2, _, rfl, rfl, rfl, h2, k2⟩ := trodAll_cons k1
  obtain ⟨v3, _, d3, _, p3, _, rfl, rfl, rfl, h3, k3⟩ := trodAll_cons k2
  obtain ⟨v4, _, d4, _, p4, _, rfl, rfl, rfl, h4, k4⟩ := trodAll_cons k3
  obtain ⟨v5, _, d5, _, p5, _, rfl, rfl, rfl, h5, k5⟩ := trodAll_cons k4
  obtain ⟨v6, _, d6, _, p6, _, rfl, rfl, rfl, h6, k6⟩ := trodAll_cons k5
  obtain ⟨rfl, rfl, rfl⟩ := trodAll_nil k6
  exact ⟨v0, v1, v2, v3, v4, v5, v6, d0, d1, d2, d3, d4, d5, d6, p0, p1, p2, p3, p4, p5, p6, by cases args; simp_all, rfl, by simp, h0, h1, h2, h3, h4, h5, h6⟩
theorem trodAll_mk7 {t0 t1 t2 t3 t4 t5 t6 : TypeId} {v0 v1 v2 v3 v4 v5 v6 : Value} {d0 d1 d2 d3 d4 d5 d6 : DataW H} {p0 p1 p2 p3 p4 p5 p6 : List MemPlace} (h0 : DataW.Trod enc P w base spare held t0 v0 d0 p0) (h1 : DataW.Trod enc P w base spare held t1 v1 d1 p1) (h2 : DataW.Trod enc P w base spare held t2 v2 d2 p2) (h3 : DataW.Trod enc P w base spare held t3 v3 d3 p3) (h4 : DataW.Trod enc P w base spare held t4 v4 d4 p4) (h5 : DataW.Trod enc P w base spare held t5 v5 d5 p5) (h6 : DataW.Trod enc P w base spare held t6 v6 d6 p6) :
    DataW.TrodAll enc P w base spare held [t0, t1, t2, t3, t4, t5, t6] [v0, v1, v2, v3, v4, v5, v6] [d0, d1, d2, d3, d4, d5, d6] (p0 ++ (p1 ++ (p2 ++ (p3 ++ (p4 ++ (p5 ++ p6)))))) := ⟨p0, _, h0, trodAll_mk6 h1 h2 h3 h4 h5 h6, rfl⟩
end
end Cm
namespace Sc
open Cm
section
variable {H : Type} {enc : TypeId × Value → H} {W : World} {base : Nat} {spare : Nat → Bool} {held : Bool} {fuel : Nat} {u : Value} {x : DataW H × List MemPlace}
open Classical in
theorem open_K {α : Type} {k : Nat} {tS tE : TypeId} {el : α → List Value} {B : α → Prop} (hu : Try.prog.underlying tS = some (.slice tE)) (hk : Try.prog.cellsOf tE = k) (hk0 : 0 < k) (he : ∀ x, (el x).length = k)
    (hopen : ∀ (n : Nat) (cs : List Value) (x : DataW H × List MemPlace), DataW.trod enc Try.prog W base spare held n tE cs = some x → ∃ a, cs = el a ∧ B a)
    (h : DataW.trod enc Try.prog W base spare held fuel tS [u] = some x) : ∃ xs : List α, RdK k el W u xs ∧ xs.length ≤ maxLen ∧ ∀ a ∈ xs, B a := by
  rcases Go.Deep.open_slice hu h with ⟨hcs, _⟩ | ⟨a, len, cap, m, n, D, Pl, hcs, _, hl, hm, hmm, _, hi⟩
  · obtain rfl : u = .slice none 0 0 := by simpa using hcs
    exact ⟨[], RdK.nil _, Nat.zero_le _, fun z hz => by cases hz⟩
  · obtain rfl : u = .slice (some a) len cap := by simpa using hcs
    have hlm : len ≤ m := by rw [hmm]; split <;> omega
    rw [hk] at hi
    by_cases hz : len = 0
    · subst hz
      exact ⟨[], ⟨some a, cap, rfl, ⟨Nat.zero_le _, fun e => by cases e⟩, fun hp => absurd hp (Nat.lt_irrefl 0)⟩, Nat.zero_le _, fun z hz => by cases hz⟩
    · obtain ⟨b, off, spot⟩ := a
      have hspot : spot = none := by
        obtain ⟨cs', hc, ht⟩ := hi 0 (by omega)
        obtain ⟨nd, rfl, _⟩ := hopen _ _ _ ht
        obtain ⟨_, _, hat⟩ := World.cells?_some hc
        have h0 := hat 0 (by first | exact hk0 | (rw [he]; exact hk0))
        rw [List.getElem?_eq_getElem (by rw [he]; exact hk0)] at h0
        have h1 := World.cell?_spot h0
        simpa [Addr.add] using h1
      subst hspot
      have hall : ∀ i, i < len → ∃ nd : α, (∀ j (hj : j < (el nd).length), W.cell? ⟨b, off + i * k + j, none⟩ = some (el nd)[j]) ∧ B nd := fun i hil => by
        obtain ⟨cs', hc, ht⟩ := hi i (by omega)
        obtain ⟨nd, rfl, hb⟩ := hopen _ _ _ ht
        obtain ⟨_, hcl, hat⟩ := World.cells?_some hc
        refine ⟨nd, fun j hj => ?_, hb⟩
        have h0 := hat j (by first | (rw [he] at hj; exact hj) | exact hj)
        rw [addr_add, addr_add] at h0
        rw [h0, List.getElem?_eq_getElem hj]
      have hf : ∃ f : Nat → α, ∀ i, i < len → (∀ j (hj : j < (el (f i)).length), W.cell? ⟨b, off + i * k + j, none⟩ = some (el (f i))[j]) ∧ B (f i) := by
        obtain ⟨d, _⟩ := hall 0 (by omega)
        refine ⟨fun i => if hk : i < len then Classical.choose (hall i hk) else d, fun i hk => ?_⟩
        simp only [dif_pos hk]
        exact Classical.choose_spec (hall i hk)
      obtain ⟨f, hf⟩ := hf
      refine ⟨(List.range len).map f, ⟨some ⟨b, off, none⟩, cap, by simp, ⟨by simp; omega, fun e => by cases e⟩, fun _ => ⟨b, off, rfl, fun j hj i hi => ?_⟩⟩, by simp; omega, fun z hz => ?_⟩
      · have h1 : j < len := by simpa using hj
        have h2 : ((List.range len).map f)[j] = f j := by simp
        have h3 : i < (el (f j)).length := by rw [he]; rw [he] at hi; exact hi
        have h4 := (hf j h1).1 i h3
        rw [h4]
        simp only [h2]
      · obtain ⟨i, hi2, rfl⟩ := List.mem_map.1 hz
        exact (hf i (by simpa using hi2)).2
set_option maxRecDepth 100000 in
theorem open_ch {cs : List Value} (h : DataW.trod enc Try.prog W base spare held fuel tCh cs = some x) : ∃ c : Ch, cs = chC c ∧ ChB c := by
  obtain ⟨xs, n, _, _, hlen, _, hf⟩ := DataW.trod_struct Try.underlying38 h
  rw [show Try.prog.cellsOf tCh = 4 from by kernel_rfl] at hlen
  match cs, hlen with
  | [x0, x1, x2, x3], _ =>
    have ci : Try.prog.cellsOf 3 = 1 := by kernel_rfl
    have f0 : DataW.trod enc Try.prog W base spare held n 3 (([x0, x1, x2, x3].drop 0).take (Try.prog.cellsOf 3)) = xs[0]? := hf 0 _ rfl
    have f1 : DataW.trod enc Try.prog W base spare held n 3 (([x0, x1, x2, x3].drop 1).take (Try.prog.cellsOf 3)) = xs[1]? := hf 1 _ rfl
    have f2 : DataW.trod enc Try.prog W base spare held n 3 (([x0, x1, x2, x3].drop 2).take (Try.prog.cellsOf 3)) = xs[2]? := hf 2 _ rfl
    have f3 : DataW.trod enc Try.prog W base spare held n 3 (([x0, x1, x2, x3].drop 3).take (Try.prog.cellsOf 3)) = xs[3]? := hf 3 _ rfl
    rw [ci] at f0 f1 f2 f3
    have g : ∀ {t : TypeId} {l : List Value} {i : Nat}, i < xs.length → DataW.trod enc Try.prog W base spare held n t l = xs[i]? → ∃ y, DataW.trod enc Try.prog W base spare held n t l = some y := fun hi e => by
      rw [List.getElem?_eq_getElem hi] at e; exact ⟨_, e⟩
    have hxl : xs.length = 4 := by assumption
    obtain ⟨y0, e0⟩ := g (by omega) f0
    obtain ⟨z0, h0, _, w0⟩ := DataW.trod_int Try.underlying3 e0
    have q0 : x0 = .int .i64 z0 := by simpa using h0
    obtain ⟨y1, e1⟩ := g (by omega) f1
    obtain ⟨z1, h1, _, w1⟩ := DataW.trod_int Try.underlying3 e1
    have q1 : x1 = .int .i64 z1 := by simpa using h1
    obtain ⟨y2, e2⟩ := g (by omega) f2
    obtain ⟨z2, h2, _, w2⟩ := DataW.trod_int Try.underlying3 e2
    have q2 : x2 = .int .i64 z2 := by simpa using h2
    obtain ⟨y3, e3⟩ := g (by omega) f3
    obtain ⟨z3, h3, _, w3⟩ := DataW.trod_int Try.underlying3 e3
    have q3 : x3 = .int .i64 z3 := by simpa using h3
    exact ⟨⟨z0, z1, z2, z3⟩, by rw [q0, q1, q2, q3]; rfl, bounds_int w0, bounds_int w1, bounds_int w2, bounds_int w3⟩
set_option maxRecDepth 100000 in
theorem open_sp {cs : List Value} (h : DataW.trod enc Try.prog W base spare held fuel tSp cs = some x) : ∃ c : Sp, cs = spC c ∧ SpB c := by
  obtain ⟨xs, n, _, _, hlen, _, hf⟩ := DataW.trod_struct Try.underlying41 h
  rw [show Try.prog.cellsOf tSp = 2 from by kernel_rfl] at hlen
  match cs, hlen with
  | [x0, x1], _ =>
    have ci : Try.prog.cellsOf 3 = 1 := by kernel_rfl
    have f0 : DataW.trod enc Try.prog W base spare held n 3 (([x0, x1].drop 0).take (Try.prog.cellsOf 3)) = xs[0]? := hf 0 _ rfl
    have f1 : DataW.trod enc Try.prog W base spare held n 3 (([x0, x1].drop 1).take (Try.prog.cellsOf 3)) = xs[1]? := hf 1 _ rfl
    rw [ci] at f0 f1
    have g : ∀ {t : TypeId} {l : List Value} {i : Nat}, i < xs.length → DataW.trod enc Try.prog W base spare held n t l = xs[i]? → ∃ y, DataW.trod enc Try.prog W base spare held n t l = some y := fun hi e => by
      rw [List.getElem?_eq_getElem hi] at e; exact ⟨_, e⟩
    have hxl : xs.length = 2 := by assumption
    obtain ⟨y0, e0⟩ := g (by omega) f0
    obtain ⟨z0, h0, _, w0⟩ := DataW.trod_int Try.underlying3 e0
    have q0 : x0 = .int .i64 z0 := by simpa using h0
    obtain ⟨y1, e1⟩ := g (by omega) f1
    obtain ⟨z1, h1, _, w1⟩ := DataW.trod_int Try.underlying3 e1
    have q1 : x1 = .int .i64 z1 := by simpa using h1
    exact ⟨⟨z0, z1⟩, by rw [q0, q1]; rfl, bounds_int w0, bounds_int w1⟩
theorem open_changesV (h : DataW.trod enc Try.prog W base spare held fuel 23 [u] = some x) : ∃ l : List Ch, RdC W u l ∧ l.length ≤ maxLen ∧ ∀ c ∈ l, ChB c :=
  open_K Try.underlying23 (by kernel_rfl) (by decide) chC_len (fun _ _ _ h => open_ch h) h
theorem open_spansV (h : DataW.trod enc Try.prog W base spare held fuel 48 [u] = some x) : ∃ l : List Sp, RdS W u l ∧ l.length ≤ maxLen ∧ ∀ s ∈ l, SpB s :=
  open_K Try.underlying48 (by kernel_rfl) (by decide) spC_len (fun _ _ _ h => open_sp h) h
end
end Sc
end Go.Proofs.Ytlckdacmeandmaa

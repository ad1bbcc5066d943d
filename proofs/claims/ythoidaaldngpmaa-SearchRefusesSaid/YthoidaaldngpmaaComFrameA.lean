/-
  A slice of states, and an automaton, that came in, read as data. No conditions.
-/
import Derived.Test.YthoidaaldngpmaaAutoB
import Derived.Test.YthoidaaldngpmaaComFrameI
import Derived.Test.YthoidaaldngpmaaRegexRead
import Derived.Test.YthoidaaldngpmaaRegexReaderB
import Derived.Laws.IdiomArrays
import Derived.Lib.SmallJoins
namespace Go.Proofs.Ythoidaaldngpmaa
open Go.ChangeShapes Go.WideShapes Go.ChangeAt Go.RowKit
namespace Au
open Cm Rx
/-- Four words are a set. -/
theorem words_set (x : Nat → Nat) (h : ∀ j, x j < 18446744073709551616) : ∃ m : Nat → Bool, ∀ j, word m j = x j := by
  refine ⟨fun b => (x (b / 64)).testBit (b % 64), fun j => ?_⟩
  apply Nat.eq_of_testBit_eq
  intro b
  rw [testBit_word]
  by_cases hb : b < 64
  · rw [decide_eq_true hb, Bool.true_and, show (64 * j + b) / 64 = j by omega, show (64 * j + b) % 64 = b by omega]
  · rw [decide_eq_false hb, Bool.false_and]
    exact (Nat.testBit_lt_two_pow (Nat.lt_of_lt_of_le (h j) (Nat.pow_le_pow_right (n := 2) (i := 64) (by omega) (by omega)))).symm
theorem bounds_u64 {n : Int} (h : (Lit.int .u64 n).wf = true) : 0 ≤ n ∧ n < 18446744073709551616 := by
  simp [Lit.wf, IntKind.min, IntKind.max, IntKind.signed, IntKind.bits] at h
  omega
theorem RdA_nil (w : World) : RdA w (.slice none 0 0) [] := ⟨none, 0, rfl, fun h => absurd h (Nat.lt_irrefl 0)⟩
def StB (s : St) : Prop := (-9223372036854775808 ≤ s.kind ∧ s.kind ≤ 9223372036854775807) ∧ (-9223372036854775808 ≤ s.next ∧ s.next ≤ 9223372036854775807) ∧ (-9223372036854775808 ≤ s.other ∧ s.other ≤ 9223372036854775807)
section
variable {H : Type} {enc : TypeId × Value → H} {W : World} {base : Nat} {spare : Nat → Bool} {held : Bool} {fuel : Nat} {u : Value} {x : DataW H × List MemPlace}
set_option maxRecDepth 100000 in
theorem open_st {cs : List Value} (h : DataW.trod enc Try.prog W base spare held fuel tSt cs = some x) :
    ∃ s : St, cs = stC s ∧ StB s := by
  obtain ⟨xs, n, _, _, hlen, _, hf⟩ := DataW.trod_struct Try.underlying103 h
  rw [show Try.prog.cellsOf tSt = 7 from by kernel_rfl] at hlen
  match cs, hlen with
  | [k, x0, x1, x2, x3, nx, ot], _ =>
    have ci : Try.prog.cellsOf 3 = 1 := by kernel_rfl
    have cs4 : Try.prog.cellsOf 72 = 4 := by kernel_rfl
    have f0 : DataW.trod enc Try.prog W base spare held n 3 (([k, x0, x1, x2, x3, nx, ot].drop 0).take (Try.prog.cellsOf 3)) = xs[0]? := hf 0 _ rfl
    have f1 : DataW.trod enc Try.prog W base spare held n 72 (([k, x0, x1, x2, x3, nx, ot].drop 1).take (Try.prog.cellsOf 72)) = xs[1]? := hf 1 _ rfl
    have f2 : DataW.trod enc Try.prog W base spare held n 3 (([k, x0, x1, x2, x3, nx, ot].drop 5).take (Try.prog.cellsOf 3)) = xs[2]? := hf 2 _ rfl
    have f3 : DataW.trod enc Try.prog W base spare held n 3 (([k, x0, x1, x2, x3, nx, ot].drop 6).take (Try.prog.cellsOf 3)) = xs[3]? := hf 3 _ rfl
    rw [ci] at f0 f2 f3
    rw [cs4] at f1
    have g : ∀ {t : TypeId} {l : List Value} {i : Nat}, i < xs.length → DataW.trod enc Try.prog W base spare held n t l = xs[i]? → ∃ y, DataW.trod enc Try.prog W base spare held n t l = some y := fun hi e => by
      rw [List.getElem?_eq_getElem hi] at e; exact ⟨_, e⟩
    have hxl : xs.length = 4 := by assumption
    obtain ⟨y0, e0⟩ := g (by omega) f0
    obtain ⟨y1, e1⟩ := g (by omega) f1
    obtain ⟨y2, e2⟩ := g (by omega) f2
    obtain ⟨y3, e3⟩ := g (by omega) f3
    obtain ⟨zk, hk, _, wk⟩ := DataW.trod_int Try.underlying3 e0
    obtain ⟨zm, hm, _, wm⟩ := DataW.trod_int Try.underlying3 e2
    obtain ⟨zx, hx, _, wx⟩ := DataW.trod_int Try.underlying3 e3
    obtain ⟨_, _, _, _, n', _, a0, a1, a2, a3⟩ := trod_array4 Try.underlying72 (by kernel_rfl) (show DataW.trod enc Try.prog W base spare held n _ [x0, x1, x2, x3] = some y1 from e1)
    obtain ⟨z0, h0, _, w0⟩ := DataW.trod_int Try.underlying71 a0
    obtain ⟨z1, h1, _, w1⟩ := DataW.trod_int Try.underlying71 a1
    obtain ⟨z2, h2, _, w2⟩ := DataW.trod_int Try.underlying71 a2
    obtain ⟨z3, h3, _, w3⟩ := DataW.trod_int Try.underlying71 a3
    have b0 := bounds_u64 w0
    have b1 := bounds_u64 w1
    have b2 := bounds_u64 w2
    have b3 := bounds_u64 w3
    obtain ⟨m, hmm⟩ := words_set (fun j => if j = 0 then z0.toNat else if j = 1 then z1.toNat else if j = 2 then z2.toNat else if j = 3 then z3.toNat else 0) (fun j => by
      show (if j = 0 then z0.toNat else if j = 1 then z1.toNat else if j = 2 then z2.toNat else if j = 3 then z3.toNat else 0) < 18446744073709551616
      repeat' split
      all_goals omega)
    have m0 : ((word m 0 : Nat) : Int) = z0 := by rw [hmm]; show (z0.toNat : Int) = z0; omega
    have m1 : ((word m 1 : Nat) : Int) = z1 := by rw [hmm]; show (z1.toNat : Int) = z1; omega
    have m2 : ((word m 2 : Nat) : Int) = z2 := by rw [hmm]; show (z2.toNat : Int) = z2; omega
    have m3 : ((word m 3 : Nat) : Int) = z3 := by rw [hmm]; show (z3.toNat : Int) = z3; omega
    refine ⟨⟨zk, m, zm, zx⟩, ?_, bounds_int wk, bounds_int wm, bounds_int wx⟩
    unfold stC
    simp only [m0, m1, m2, m3]
    have ek : k = .int .i64 zk := by simpa using hk
    have em : nx = .int .i64 zm := by simpa using hm
    have ex : ot = .int .i64 zx := by simpa using hx
    have e0 : x0 = .int .u64 z0 := by simpa using h0
    have e1 : x1 = .int .u64 z1 := by simpa using h1
    have e2 : x2 = .int .u64 z2 := by simpa using h2
    have e3 : x3 = .int .u64 z3 := by simpa using h3
    rw [ek, em, ex, e0, e1, e2, e3]
open Classical in
theorem open_statesV (h : DataW.trod enc Try.prog W base spare held fuel 38 [u] = some x) : ∃ ss : List St, RdA W u ss ∧ ss.length ≤ maxLen ∧ ∀ s ∈ ss, StB s := by
  rcases Go.Deep.open_slice Try.underlying38 h with ⟨hcs, _⟩ | ⟨a, len, cap, m, n, D, Pl, hcs, _, hl, hm, hmm, _, hi⟩
  · obtain rfl : u = .slice none 0 0 := by simpa using hcs
    exact ⟨[], RdA_nil _, Nat.zero_le _, fun z hz => by cases hz⟩
  · obtain rfl : u = .slice (some a) len cap := by simpa using hcs
    have hlm : len ≤ m := by rw [hmm]; split <;> omega
    rw [show Try.prog.cellsOf tSt = 7 from by kernel_rfl] at hi
    by_cases hz : len = 0
    · subst hz
      exact ⟨[], ⟨some a, cap, rfl, fun hp => absurd hp (Nat.lt_irrefl 0)⟩, Nat.zero_le _, fun z hz => by cases hz⟩
    · obtain ⟨b, off, spot⟩ := a
      have hspot : spot = none := by
        obtain ⟨cs', hc, ht⟩ := hi 0 (by omega)
        obtain ⟨nd, rfl, _⟩ := open_st ht
        obtain ⟨_, _, hat⟩ := World.cells?_some hc
        have h1 := World.cell?_spot (hat 0 (by decide))
        simpa [Addr.add] using h1
      subst hspot
      have hall : ∀ i, i < len → ∃ nd : St, StAt W b (off + i * 7) nd ∧ StB nd := fun i hil => by
        obtain ⟨cs', hc, ht⟩ := hi i (by omega)
        obtain ⟨nd, rfl, hb⟩ := open_st ht
        obtain ⟨_, hcl, hat⟩ := World.cells?_some hc
        have e : ∀ j (hj : j < 7), W.cell? ⟨b, off + i * 7 + j, none⟩ = (stC nd)[j]? := fun j hj => by
          have h0 := hat j hj
          rw [addr_add, addr_add] at h0
          exact h0
        exact ⟨nd, ⟨e 0 (by omega), e 1 (by omega), e 2 (by omega), e 3 (by omega), e 4 (by omega), e 5 (by omega), e 6 (by omega)⟩, hb⟩
      have hf : ∃ f : Nat → St, ∀ i, i < len → StAt W b (off + i * 7) (f i) ∧ StB (f i) := by
        obtain ⟨d, _⟩ := hall 0 (by omega)
        refine ⟨fun i => if hk : i < len then Classical.choose (hall i hk) else d, fun i hk => ?_⟩
        simp only [dif_pos hk]
        exact Classical.choose_spec (hall i hk)
      obtain ⟨f, hf⟩ := hf
      refine ⟨(List.range len).map f, ⟨some ⟨b, off, none⟩, cap, by simp, fun _ => ⟨b, off, rfl, fun j hj => ?_⟩⟩, by simp; omega, fun z hz => ?_⟩
      · have : j < len := by simpa using hj
        simpa using (hf j this).1
      · obtain ⟨i, hi2, rfl⟩ := List.mem_map.1 hz
        exact (hf i (by simpa using hi2)).2
end
end Au
end Go.Proofs.Ythoidaaldngpmaa

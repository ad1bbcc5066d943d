/-
  A slice of ints that came in, read as a list; the library's variable in a row's first world. No conditions. A slice of nodes that came in, read as a list; six parameters. No conditions. One cell of owned nodes is written: they read as nodes again. No conditions.
-/
import Derived.Test.YthoidaaldngpmaaRows
import Derived.Test.YthoidaaldngpmaaComInts
import Derived.Test.YthoidaaldngpmaaRegexPsE
import Derived.HandedShaped
import Derived.Shelf.Vars
import Derived.ProofKit
import Derived.OpenShut
import Derived.ShutString
import Derived.ChangeOld
import Derived.Deep.Slices
import Derived.Test.YthoidaaldngpmaaRegexRead
import Derived.Laws.IdiomArrays
import Derived.Test.YthoidaaldngpmaaRegexReaderB
namespace Go.Proofs.Ythoidaaldngpmaa
section
open Go.ChangeShapes Go.WideShapes Go.ChangeAt Go.RowKit
namespace Cm
section
variable {H : Type} {enc : TypeId × Value → H} {P : Program} {w : World} {base : Nat} {spare : Nat → Bool} {held : Bool}
/-- Five parameters. -/
theorem trodAll_five {t0 t1 t2 t3 t4 : TypeId} {args : Array Value} {ds : List (DataW H)} {ps : List MemPlace} (h : DataW.TrodAll enc P w base spare held [t0, t1, t2, t3, t4] args.toList ds ps) :
    ∃ v0 v1 v2 v3 v4 d0 d1 d2 d3 d4 p0 p1 p2 p3 p4, args = #[v0, v1, v2, v3, v4] ∧ ds = [d0, d1, d2, d3, d4] ∧ ps = p0 ++ p1 ++ p2 ++ p3 ++ p4 ∧ DataW.Trod enc P w base spare held t0 v0 d0 p0 ∧ DataW.Trod enc P w base spare held t1 v1 d1 p1 ∧
      DataW.Trod enc P w base spare held t2 v2 d2 p2 ∧ DataW.Trod enc P w base spare held t3 v3 d3 p3 ∧ DataW.Trod enc P w base spare held t4 v4 d4 p4 := by
  obtain ⟨v0, _, d0, _, p0, _, e0, rfl, rfl, h0, k0⟩ := trodAll_cons h
  obtain ⟨v1, _, d1, _, p1, _, rfl, rfl, rfl, h1, k1⟩ := trodAll_cons k0
  obtain ⟨v2, _, d2, _, p2, _, rfl, rfl, rfl, h2, k2⟩ := trodAll_cons k1
  obtain ⟨v3, _, d3, _, p3, _, rfl, rfl, rfl, h3, k3⟩ := trodAll_cons k2
  obtain ⟨v4, _, d4, _, p4, _, rfl, rfl, rfl, h4, k4⟩ := trodAll_cons k3
  obtain ⟨rfl, rfl, rfl⟩ := trodAll_nil k4
  exact ⟨v0, v1, v2, v3, v4, d0, d1, d2, d3, d4, p0, p1, p2, p3, p4, by cases args; simp_all, rfl, by simp, h0, h1, h2, h3, h4⟩
theorem trodAll_mk5 {t0 t1 t2 t3 t4 : TypeId} {v0 v1 v2 v3 v4 : Value} {d0 d1 d2 d3 d4 : DataW H} {p0 p1 p2 p3 p4 : List MemPlace} (h0 : DataW.Trod enc P w base spare held t0 v0 d0 p0) (h1 : DataW.Trod enc P w base spare held t1 v1 d1 p1)
    (h2 : DataW.Trod enc P w base spare held t2 v2 d2 p2) (h3 : DataW.Trod enc P w base spare held t3 v3 d3 p3) (h4 : DataW.Trod enc P w base spare held t4 v4 d4 p4) :
    DataW.TrodAll enc P w base spare held [t0, t1, t2, t3, t4] [v0, v1, v2, v3, v4] [d0, d1, d2, d3, d4] (p0 ++ (p1 ++ (p2 ++ (p3 ++ p4)))) := ⟨p0, _, h0, trodAll_mk4 h1 h2 h3 h4, rfl⟩
end
theorem own : ownKnob Try.prog.godebug = none := by kernel_rfl
theorem laidOut : laidOutB Try.prog = true := by kernel_rfl
theorem bounds_int {n : Int} (h : (Lit.int .i64 n).wf = true) : -9223372036854775808 ≤ n ∧ n ≤ 9223372036854775807 := by
  simp [Lit.wf] at h
  exact h
theorem addr_add {b off j : Nat} : (Addr.mk b off none).add j = ⟨b, off + j, none⟩ := by
  unfold Addr.add; split
  · rename_i h0; rw [h0]; rfl
  · rfl
/-- A slice whose cells lie behind its address. -/
theorem rdV_mk {w : World} {a : Addr} {len cap : Nat} {us : List Value} (hl : us.length = len) (hc : len ≤ cap) (h : ∀ i (hi : i < us.length), w.cell? (a.add i) = some us[i]) : RdV w (.slice (some a) len cap) us := by
  refine ⟨some a, cap, by rw [hl], ⟨by omega, fun e => by cases e⟩, fun hp => ?_⟩
  obtain ⟨b, off, spot⟩ := a
  have hc0 := h 0 hp
  have hspot : spot = none := by simpa [Addr.add] using World.cell?_spot hc0
  subst hspot
  exact ⟨b, off, rfl, fun j hj => by rw [← addr_add]; exact h j hj⟩
section
variable {H : Type} {enc : TypeId × Value → H} {W : World} {base : Nat} {spare : Nat → Bool} {held : Bool} {fuel : Nat} {u : Value} {x : DataW H × List MemPlace}
theorem open_intsV (h : DataW.trod enc Try.prog W base spare held fuel 30 [u] = some x) : ∃ l : List Int, RdV W u (intsV l) ∧ l.length ≤ maxLen ∧ ∀ z ∈ l, -9223372036854775808 ≤ z ∧ z ≤ 9223372036854775807 := by
  rcases open_ints Try.underlying30 Try.underlying3 (by kernel_rfl) h with ⟨hcs, _⟩ | ⟨a, l, c', zs, hcs, _, hl, hm, hlen, _, hcell, hwf⟩
  · obtain rfl : u = .slice none 0 0 := by simpa using hcs
    exact ⟨[], RdV.nil _, Nat.zero_le _, fun z hz => by cases hz⟩
  · obtain rfl : u = .slice (some a) l c' := by simpa using hcs
    have hsl : l ≤ zs.length := by rw [hlen]; split <;> omega
    have hmin : (zs.take l).length = l := by rw [List.length_take]; omega
    refine ⟨zs.take l, rdV_mk (by rw [intsV_len, hmin]) hl (fun i hi => ?_), by omega, fun z hz => bounds_int (hwf z (List.mem_of_mem_take hz))⟩
    rw [intsV_len, hmin] at hi
    rw [hcell i (by omega)]
    simp [intsV, List.getD, List.getElem?_eq_getElem (show i < zs.length by omega)]
end
end Cm
namespace Px
theorem glb_of {W : World} (h : W.ShapedOpen Try.prog) : Glb W.heap.size W := by
  obtain ⟨m, hm⟩ := cell_of_shapedOpen_int (P := Try.prog) (w := W) (g := 0) (t := 3) (k := .i64) (zero := #[.int .i64 0]) h (of_decide_eq_true (by kernel_rfl)) (by kernel_rfl) rfl (by kernel_rfl) (by kernel_rfl) Try.underlying3
  refine ⟨?_, m, hm⟩
  rcases Nat.eq_zero_or_pos W.heap.size with h0 | h0
  · unfold World.cell? at hm
    rw [Array.getElem?_eq_none (by omega)] at hm
    cases hm
  · exact h0
end Px
end
section
open Go.ChangeShapes Go.WideShapes Go.ChangeAt Go.RowKit
namespace Cm
section
variable {H : Type} {enc : TypeId × Value → H} {P : Program} {w : World} {base : Nat} {spare : Nat → Bool} {held : Bool}
/-- Six parameters. -/
theorem trodAll_six {t0 t1 t2 t3 t4 t5 : TypeId} {args : Array Value} {ds : List (DataW H)} {ps : List MemPlace} (h : DataW.TrodAll enc P w base spare held [t0, t1, t2, t3, t4, t5] args.toList ds ps) :
    ∃ v0 v1 v2 v3 v4 v5 d0 d1 d2 d3 d4 d5 p0 p1 p2 p3 p4 p5, args = #[v0, v1, v2, v3, v4, v5] ∧ ds = [d0, d1, d2, d3, d4, d5] ∧ ps = p0 ++ p1 ++ p2 ++ p3 ++ p4 ++ p5 ∧ DataW.Trod enc P w base spare held t0 v0 d0 p0 ∧ DataW.Trod enc P w base spare held t1 v1 d1 p1 ∧
      DataW.Trod enc P w base spare held t2 v2 d2 p2 ∧ DataW.Trod enc P w base spare held t3 v3 d3 p3 ∧ DataW.Trod enc P w base spare held t4 v4 d4 p4 ∧ DataW.Trod enc P w base spare held t5 v5 d5 p5 := by
  obtain ⟨v0, _, d0, _, p0, _, e0, rfl, rfl, h0, k0⟩ := trodAll_cons h
  obtain ⟨v1, _, d1, _, p1, _, rfl, rfl, rfl, h1, k1⟩ := trodAll_cons k0
  obtain ⟨v2, _, d2, _, p2, _, rfl, rfl, rfl, h2, k2⟩ := trodAll_cons k1
  obtain ⟨v3, _, d3, _, p3, _, rfl, rfl, rfl, h3, k3⟩ := trodAll_cons k2
  obtain ⟨v4, _, d4, _, p4, _, rfl, rfl, rfl, h4, k4⟩ := trodAll_cons k3
  obtain ⟨v5, _, d5, _, p5, _, rfl, rfl, rfl, h5, k5⟩ := trodAll_cons k4
  obtain ⟨rfl, rfl, rfl⟩ := trodAll_nil k5
  exact ⟨v0, v1, v2, v3, v4, v5, d0, d1, d2, d3, d4, d5, p0, p1, p2, p3, p4, p5, by cases args; simp_all, rfl, by simp, h0, h1, h2, h3, h4, h5⟩
theorem trodAll_mk6 {t0 t1 t2 t3 t4 t5 : TypeId} {v0 v1 v2 v3 v4 v5 : Value} {d0 d1 d2 d3 d4 d5 : DataW H} {p0 p1 p2 p3 p4 p5 : List MemPlace} (h0 : DataW.Trod enc P w base spare held t0 v0 d0 p0) (h1 : DataW.Trod enc P w base spare held t1 v1 d1 p1)
    (h2 : DataW.Trod enc P w base spare held t2 v2 d2 p2) (h3 : DataW.Trod enc P w base spare held t3 v3 d3 p3) (h4 : DataW.Trod enc P w base spare held t4 v4 d4 p4) (h5 : DataW.Trod enc P w base spare held t5 v5 d5 p5) :
    DataW.TrodAll enc P w base spare held [t0, t1, t2, t3, t4, t5] [v0, v1, v2, v3, v4, v5] [d0, d1, d2, d3, d4, d5] (p0 ++ (p1 ++ (p2 ++ (p3 ++ (p4 ++ p5))))) := ⟨p0, _, h0, trodAll_mk5 h1 h2 h3 h4 h5, rfl⟩
end
end Cm
namespace Rx
open Cm
/-- Four words are a set. -/
theorem words_set (x : Nat → Nat) (h : ∀ j, x j < 18446744073709551616) : ∃ m : Nat → Bool, ∀ j, word m j = x j := by
  refine ⟨fun b => (x (b / 64)).testBit (b % 64), fun j => ?_⟩
  apply Nat.eq_of_testBit_eq
  intro b
  rw [testBit_word]
  by_cases hb : b < 64
  · rw [decide_eq_true hb, Bool.true_and, show (64 * j + b) / 64 = j by omega, show (64 * j + b) % 64 = b by omega]
  · rw [decide_eq_false hb, Bool.false_and]
    exact (Nat.testBit_lt_two_pow (Nat.lt_of_lt_of_le (h j) (Nat.pow_le_pow_right (n := 2) (i := 64) (by omega) (by omega)))).symm
theorem bounds_u64 {n : Int} (h : (Lit.int .u64 n).wf = true) : 0 ≤ n ∧ n < 18446744073709551616 := by
  simp [Lit.wf, IntKind.min, IntKind.max, IntKind.signed, IntKind.bits] at h
  omega
/-- What the numbers of a node are. -/
def NdB (n : Nd) : Prop := (-9223372036854775808 ≤ n.kind ∧ n.kind ≤ 9223372036854775807) ∧ (-9223372036854775808 ≤ n.mn ∧ n.mn ≤ 9223372036854775807) ∧ (-9223372036854775808 ≤ n.mx ∧ n.mx ≤ 9223372036854775807) ∧ n.kids.length ≤ maxLen ∧ ∀ z ∈ n.kids, -9223372036854775808 ≤ z ∧ z ≤ 9223372036854775807
section
variable {H : Type} {enc : TypeId × Value → H} {W : World} {base : Nat} {spare : Nat → Bool} {held : Bool} {fuel : Nat} {u : Value} {x : DataW H × List MemPlace}
set_option maxRecDepth 100000 in
theorem open_node {cs : List Value} (h : DataW.trod enc Try.prog W base spare held fuel tNode cs = some x) :
    ∃ (nd : Nd) (kv : Value), cs = ndC nd kv ∧ RdV W kv (intsV nd.kids) ∧ NdB nd := by
  obtain ⟨xs, n, _, _, hlen, _, hf⟩ := DataW.trod_struct Try.underlying75 h
  rw [show Try.prog.cellsOf tNode = 8 from by kernel_rfl] at hlen
  match cs, hlen with
  | [k, x0, x1, x2, x3, mn, mx, kv], _ =>
    have ci : Try.prog.cellsOf 3 = 1 := by kernel_rfl
    have cs4 : Try.prog.cellsOf 72 = 4 := by kernel_rfl
    have csl : Try.prog.cellsOf 30 = 1 := by kernel_rfl
    have f0 : DataW.trod enc Try.prog W base spare held n 3 (([k, x0, x1, x2, x3, mn, mx, kv].drop 0).take (Try.prog.cellsOf 3)) = xs[0]? := hf 0 _ rfl
    have f1 : DataW.trod enc Try.prog W base spare held n 72 (([k, x0, x1, x2, x3, mn, mx, kv].drop 1).take (Try.prog.cellsOf 72)) = xs[1]? := hf 1 _ rfl
    have f2 : DataW.trod enc Try.prog W base spare held n 3 (([k, x0, x1, x2, x3, mn, mx, kv].drop 5).take (Try.prog.cellsOf 3)) = xs[2]? := hf 2 _ rfl
    have f3 : DataW.trod enc Try.prog W base spare held n 3 (([k, x0, x1, x2, x3, mn, mx, kv].drop 6).take (Try.prog.cellsOf 3)) = xs[3]? := hf 3 _ rfl
    have f4 : DataW.trod enc Try.prog W base spare held n 30 (([k, x0, x1, x2, x3, mn, mx, kv].drop 7).take (Try.prog.cellsOf 30)) = xs[4]? := hf 4 _ rfl
    rw [ci] at f0 f2 f3
    rw [cs4] at f1
    rw [csl] at f4
    have g : ∀ {t : TypeId} {l : List Value} {i : Nat}, i < xs.length → DataW.trod enc Try.prog W base spare held n t l = xs[i]? → ∃ y, DataW.trod enc Try.prog W base spare held n t l = some y := fun hi e => by
      rw [List.getElem?_eq_getElem hi] at e; exact ⟨_, e⟩
    have hxl : xs.length = 5 := by assumption
    obtain ⟨y0, e0⟩ := g (by omega) f0
    obtain ⟨y1, e1⟩ := g (by omega) f1
    obtain ⟨y2, e2⟩ := g (by omega) f2
    obtain ⟨y3, e3⟩ := g (by omega) f3
    obtain ⟨y4, e4⟩ := g (by omega) f4
    obtain ⟨zk, hk, _, wk⟩ := DataW.trod_int Try.underlying3 e0
    obtain ⟨zm, hm, _, wm⟩ := DataW.trod_int Try.underlying3 e2
    obtain ⟨zx, hx, _, wx⟩ := DataW.trod_int Try.underlying3 e3
    obtain ⟨_, _, _, _, n', _, a0, a1, a2, a3⟩ := trod_array4 Try.underlying72 (by kernel_rfl) (show DataW.trod enc Try.prog W base spare held n _ [x0, x1, x2, x3] = some y1 from e1)
    obtain ⟨z0, h0, _, w0⟩ := DataW.trod_int Try.underlying71 a0
    obtain ⟨z1, h1, _, w1⟩ := DataW.trod_int Try.underlying71 a1
    obtain ⟨z2, h2, _, w2⟩ := DataW.trod_int Try.underlying71 a2
    obtain ⟨z3, h3, _, w3⟩ := DataW.trod_int Try.underlying71 a3
    obtain ⟨l, hl, hll, hlb⟩ := open_intsV (u := kv) e4
    have b0 := bounds_u64 w0
    have b1 := bounds_u64 w1
    have b2 := bounds_u64 w2
    have b3 := bounds_u64 w3
    obtain ⟨m, hmm⟩ := words_set (fun j => if j = 0 then z0.toNat else if j = 1 then z1.toNat else if j = 2 then z2.toNat else if j = 3 then z3.toNat else 0) (fun j => by
      show (if j = 0 then z0.toNat else if j = 1 then z1.toNat else if j = 2 then z2.toNat else if j = 3 then z3.toNat else 0) < 18446744073709551616
      repeat' split
      all_goals omega)
    have m0 : ((word m 0 : Nat) : Int) = z0 := by rw [hmm]; show (z0.toNat : Int) = z0; omega
    have m1 : ((word m 1 : Nat) : Int) = z1 := by rw [hmm]; show (z1.toNat : Int) = z1; omega
    have m2 : ((word m 2 : Nat) : Int) = z2 := by rw [hmm]; show (z2.toNat : Int) = z2; omega
    have m3 : ((word m 3 : Nat) : Int) = z3 := by rw [hmm]; show (z3.toNat : Int) = z3; omega
    refine ⟨⟨zk, m, zm, zx, l⟩, kv, ?_, hl, bounds_int wk, bounds_int wm, bounds_int wx, hll, hlb⟩
    unfold ndC
    simp only [m0, m1, m2, m3]
    have ek : k = .int .i64 zk := by simpa using hk
    have em : mn = .int .i64 zm := by simpa using hm
    have ex : mx = .int .i64 zx := by simpa using hx
    have e0 : x0 = .int .u64 z0 := by simpa using h0
    have e1 : x1 = .int .u64 z1 := by simpa using h1
    have e2 : x2 = .int .u64 z2 := by simpa using h2
    have e3 : x3 = .int .u64 z3 := by simpa using h3
    rw [ek, em, ex, e0, e1, e2, e3]
open Classical in
theorem open_nodesV (h : DataW.trod enc Try.prog W base spare held fuel 23 [u] = some x) : ∃ ns : List Nd, RdN W u ns ∧ ns.length ≤ maxLen ∧ ∀ n ∈ ns, NdB n := by
  rcases Go.Deep.open_slice Try.underlying23 h with ⟨hcs, _⟩ | ⟨a, len, cap, m, n, D, Pl, hcs, _, hl, hm, hmm, _, hi⟩
  · obtain rfl : u = .slice none 0 0 := by simpa using hcs
    exact ⟨[], RdN.nil _, Nat.zero_le _, fun z hz => by cases hz⟩
  · obtain rfl : u = .slice (some a) len cap := by simpa using hcs
    have hlm : len ≤ m := by rw [hmm]; split <;> omega
    rw [show Try.prog.cellsOf tNode = 8 from by kernel_rfl] at hi
    by_cases hz : len = 0
    · subst hz
      exact ⟨[], ⟨some a, cap, rfl, fun hp => absurd hp (Nat.lt_irrefl 0)⟩, Nat.zero_le _, fun z hz => by cases hz⟩
    · obtain ⟨b, off, spot⟩ := a
      have hspot : spot = none := by
        obtain ⟨cs', hc, ht⟩ := hi 0 (by omega)
        obtain ⟨nd, kv, rfl, _, _⟩ := open_node ht
        obtain ⟨_, _, hat⟩ := World.cells?_some hc
        have h1 := World.cell?_spot (hat 0 (by decide))
        simpa [Addr.add] using h1
      subst hspot
      have hall : ∀ i, i < len → ∃ nd : Nd, NodeAt W b (off + i * 8) nd ∧ NdB nd := fun i hil => by
        obtain ⟨cs', hc, ht⟩ := hi i (by omega)
        obtain ⟨nd, kv, rfl, hk, hb⟩ := open_node ht
        obtain ⟨_, hcl, hat⟩ := World.cells?_some hc
        have e : ∀ j (hj : j < 8), W.cell? ⟨b, off + i * 8 + j, none⟩ = (ndC nd kv)[j]? := fun j hj => by
          have h0 := hat j hj
          rw [addr_add, addr_add] at h0
          exact h0
        exact ⟨nd, ⟨kv, e 0 (by omega), e 1 (by omega), e 2 (by omega), e 3 (by omega), e 4 (by omega), e 5 (by omega), e 6 (by omega), e 7 (by omega), hk⟩, hb⟩
      have hf : ∃ f : Nat → Nd, ∀ i, i < len → NodeAt W b (off + i * 8) (f i) ∧ NdB (f i) := by
        obtain ⟨d, _⟩ := hall 0 (by omega)
        refine ⟨fun i => if hk : i < len then Classical.choose (hall i hk) else d, fun i hk => ?_⟩
        simp only [dif_pos hk]
        exact Classical.choose_spec (hall i hk)
      obtain ⟨f, hf⟩ := hf
      refine ⟨(List.range len).map f, ⟨some ⟨b, off, none⟩, cap, by simp, fun _ => ⟨b, off, rfl, fun j hj => ?_⟩⟩, by simp; omega, fun z hz => ?_⟩
      · have : j < len := by simpa using hj
        simpa using (hf j this).1
      · obtain ⟨i, hi2, rfl⟩ := List.mem_map.1 hz
        exact (hf i (by simpa using hi2)).2
end
end Rx
end
section
open Go.RowKit
namespace Rx
open Cm
section
variable {w : World} {base : Nat} {v : Value} {ns : List Nd} {ks : List Value}
theorem own_block (h : OwnN w base v ns ks) (hp : 0 < ns.length) : ∃ g c cur, v = .slice (some ⟨g, 0, none⟩) ns.length c ∧ base ≤ g ∧ w.heap[g]? = some (.cells cur tNode (0, 0)) := by
  rcases h.2.1.2 with ⟨rfl, h0⟩ | ⟨g, cap, cur, rfl, hb, hh, _⟩
  · omega
  · exact ⟨g, cap, cur, rfl, hb, hh⟩
theorem own_cells {g c : Nat} (h : OwnN w base (.slice (some ⟨g, 0, none⟩) ns.length c) ns ks) {j : Nat} (hj : j < ns.length) (hk : j < ks.length) : ∀ i, i < 8 → w.cell? ⟨g, j * 8 + i, none⟩ = (ndC ns[j] ks[j])[i]? := fun i hi => by
  rw [h.2.1.cellAt (j * 8 + i) (by omega), flat_get ns ks h.1 j hj hk i hi]
theorem mut_any {g c : Nat} {cur : Array Value} (h : OwnN w base (.slice (some ⟨g, 0, none⟩) ns.length c) ns ks) (hh : w.heap[g]? = some (.cells cur tNode (0, 0))) {j : Nat} (hj : j < ns.length) (hjk : j < ks.length) (i : Nat) (hi : i < 8) (u kv : Value) (nd : Nd)
    (hnd : ndC nd kv = (ndC ns[j] ks[j]).set i u) (hkv : RdV (w.setCell ⟨g, j * 8 + i, none⟩ u) kv (intsV nd.kids)) : RdN (w.setCell ⟨g, j * 8 + i, none⟩ u) (.slice (some ⟨g, 0, none⟩) ns.length c) (ns.set j nd) := by
  have hc := own_cells h hj hjk
  have hw : ∀ q, w.cell? ⟨g, q, none⟩ = cur[q]? := fun q => by simp [World.cell?, hh]
  have hp : j * 8 + i < cur.size := by
    have h1 := hc i hi
    rw [hw, List.getElem?_eq_getElem (show i < (ndC ns[j] ks[j]).length from hi)] at h1
    rcases Nat.lt_or_ge (j * 8 + i) cur.size with h2 | h2
    · exact h2
    · rw [Array.getElem?_eq_none h2] at h1; cases h1
  have hs : ∀ q, (w.setCell ⟨g, j * 8 + i, none⟩ u).cell? ⟨g, q, none⟩ = if q = j * 8 + i then some u else w.cell? ⟨g, q, none⟩ := fun q => by
    have h1 := set_block (u := u) (o := j * 8 + i) hh
    have h2 : (w.setCell ⟨g, j * 8 + i, none⟩ u).cell? ⟨g, q, none⟩ = (cur.setIfInBounds (j * 8 + i) u)[q]? := by simp [World.cell?, h1]
    rw [h2, hw]
    by_cases e : q = j * 8 + i
    · subst e; rw [if_pos rfl, Array.getElem?_setIfInBounds_self_of_lt hp]
    · rw [if_neg e, Array.getElem?_setIfInBounds_ne (fun e2 => e e2.symm)]
  refine ⟨some ⟨g, 0, none⟩, c, by rw [List.length_set], fun _ => ⟨g, 0, rfl, fun k hk => ?_⟩⟩
  rw [List.length_set] at hk
  rw [Nat.zero_add]
  by_cases e : k = j
  · subst e
    rw [List.getElem_set_self]
    have e : ∀ i2, i2 < 8 → (w.setCell ⟨g, k * 8 + i, none⟩ u).cell? ⟨g, k * 8 + i2, none⟩ = (ndC nd kv)[i2]? := fun i2 h2 => by
      rw [hs, hnd]
      by_cases e2 : i2 = i
      · subst e2
        rw [if_pos rfl, List.getElem?_set_self (show i2 < (ndC ns[k] ks[k]).length from hi)]
      · rw [if_neg (by omega), List.getElem?_set_ne (fun e3 => e2 e3.symm), hc i2 h2]
    exact ⟨kv, e 0 (by omega), e 1 (by omega), e 2 (by omega), e 3 (by omega), e 4 (by omega), e 5 (by omega), e 6 (by omega), e 7 (by omega), hkv⟩
  · rw [List.getElem_set_ne (fun e2 => e e2.symm)]
    have hkk : k < ks.length := by rw [h.1]; exact hk
    have hc2 := own_cells h hk hkk
    have e : ∀ i2, i2 < 8 → (w.setCell ⟨g, j * 8 + i, none⟩ u).cell? ⟨g, k * 8 + i2, none⟩ = (ndC ns[k] ks[k])[i2]? := fun i2 h2 => by
      rw [hs, if_neg (by omega), hc2 i2 h2]
    have hr := h.2.2 k hkk hk
    have hne : ks[k].ownBlock ≠ some g := by
      rcases hr.2 with ⟨e1, _⟩ | ⟨g2, _, _, e1, _, hh2, _⟩
      · rw [e1]; simp [Value.ownBlock]
      · rw [e1]
        intro e2
        have : g2 = g := by simpa [Value.ownBlock] using e2
        subst this
        rw [hh] at hh2
        injection hh2 with hh2
        injection hh2 with _ ht
        exact absurd ht (by decide)
    exact ⟨ks[k], e 0 (by omega), e 1 (by omega), e 2 (by omega), e 3 (by omega), e 4 (by omega), e 5 (by omega), e 6 (by omega), e 7 (by omega), RdV.of_own (ownsRow_setCell_other (a := ⟨g, j * 8 + i, none⟩) hr hne u)⟩
end
end Rx
end
end Go.Proofs.Ythoidaaldngpmaa

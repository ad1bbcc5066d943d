/-
  The law's accepts: an automaton whose runs are a language's pairs accepts it, as the document's tables say. Conditions: a text of at most 100000 bytes.
-/
import Derived.Test.YtebljjdhgepfkaaPairsX
import Derived.Test.YtebljjdhgepfkaaAutoC
import Derived.Test.YtebljjdhgepfkaaAutoE
import Derived.Test.YtebljjdhgepfkaaSeaMath
namespace Go.Proofs.Ytebljjdhgepfkaa
open Go.RowKit
namespace Pr
open Cm Rx Au Se Th Tx
theorem ends_eq {ss : List St} {start : Nat} {bs : List UInt8} {i j : Nat} {l : List Bool} {T : Tb} (h : IsEnds ss start bs i l) (hs : start < ss.length) (hij : i ≤ j) (hj : j ≤ bs.length)
    (hacc : ∀ i e, Run ss bs i start e ↔ e ≤ bs.length ∧ T i e = true) : l.getD j false = T i j := by
  have h1 := h.2 j hj
  have h2 : (∃ d, j = i + d ∧ accAt ss start bs i d) ↔ Run ss bs i start j := by
    constructor
    · rintro ⟨d, rfl, h⟩
      exact (run_iff hs hj).1 h
    · intro h
      refine ⟨j - i, by omega, (run_iff hs (by omega)).2 ?_⟩
      rw [show i + (j - i) = j from by omega]
      exact h
  rw [Bool.eq_iff_iff]
  rw [h1, h2, hacc]
  exact ⟨fun h => h.2, fun h => ⟨hj, h⟩⟩
def AccPost (w : World) (e : Ending) (w' : World) : Prop := e = .returned (.bool true) ∧ Below w.heap.size w w'
set_option maxRecDepth 100000 in
set_option maxHeartbeats 8000000 in
theorem accepts_any (v va : Value) (ns : List Nd) (ss : List St) (st : Nat) (s : ByteArray) (w : World) (h : RdN w v ns) (hv : Valid ns) (hkl : ∀ n ∈ ns, n.kids.length ≤ 1000000) (hs : s.size ≤ 100000) (ha : RdA w va ss) (hva : ValidA ss (st : Int))
    (hacc : ∀ i e, Run ss (bs s) i st e ↔ e ≤ (bs s).length ∧ getB (langsB (bs s) ns) ((ns.length - 1 : Nat) : Int) i e = true) :
    Calls Try.prog 16 #[v, .agg #[va, .int .i64 (st : Int)], .string s] w (AccPost w) := by
  have HPs := Lib.hid (fun wq (hq : Below w.heap.size w wq) => Pairs_any v ns s wq (h.below hq) hv hkl hs)
  have hst : st < ss.length := by
    have := hva.2.1
    simp only [hasB, decide_eq_true_eq] at this
    omega
  obtain ⟨Aa, ca, rfl, hA⟩ := ha
  have HRa : Hid (RdA w (.slice Aa ss.length ca) ss) := Lib.hid ⟨Aa, ca, rfl, hA⟩
  clear hA
  have HEn : Hid (∀ (wq : World) (_ : Below w.heap.size w wq) (i : Nat) (_ : i ≤ s.size), Calls Try.prog 29 #[.agg #[.slice Aa ss.length ca, .int .i64 (st : Int)], .string s, .int .i64 (i : Int)] wq fun e w' => ∃ l : List Bool, (∀ j, i ≤ j → j ≤ s.size → l.getD j false = getB (langsB (bs s) ns) ((ns.length - 1 : Nat) : Int) i j) ∧ l.length = s.size + 1 ∧ BoolsOut wq (s.size + 1) l e w') := Lib.hid (fun wq hq i hi =>
    (EndsR_any ss st Aa ca s i (HRa.out.below hq) hva hs hi).mono fun e w' ⟨l, h1, h2⟩ => ⟨l, fun j hij hj => ends_eq h1 hst hij (by rw [bs_len]; exact hj) hacc, h1.1, h2⟩)
  clear hacc hva hv hkl h
  obtain ⟨n, hn⟩ : ∃ n, n = s.size := ⟨_, rfl⟩
  rw [← hn] at HPs HEn hs
  have HNn := Lib.hid hn
  clear hn
  have hsn : s.size = n := HNn.out.symm
  have HB1 := Lib.hid ((Below.refl w.heap.size w).alloc (Nat.le_refl _) (.cells #[.slice Aa ss.length ca, .int .i64 (st : Int)] 37))
  have HP1 := Lib.hid (HPs.out _ HB1.out)
  clear HPs hst
  go_enter Try.func16, Try.ntmps16
  go_wp2_with (go_at_call 23; refine HP1.out.mono ?_; rintro e w1 ⟨vt, rfl, hT, hb⟩; have HT := Lib.hid hT; have HBx := Lib.hid hb; have HB2 := Lib.hid (HB1.out.trans (hb.mono HB1.out.size)); clear hT hb HP1)
  have g0 : w1.cell? ⟨w.heap.size, 0, none⟩ = some (.slice Aa ss.length ca) := (HBx.out.cell (p := ⟨w.heap.size, 0, none⟩) (by simp)).trans (by simp)
  have g1 : w1.cell? ⟨w.heap.size, 1, none⟩ = some (.int .i64 (st : Int)) := (HBx.out.cell (p := ⟨w.heap.size, 1, none⟩) (by simp)).trans (by simp)
  have HG := Lib.hid (fun W (hb : Below w1.heap.size w1 W) => And.intro ((hb.cell (p := ⟨w.heap.size, 0, none⟩) (Tx.cell_lt g0)).trans g0) ((hb.cell (p := ⟨w.heap.size, 1, none⟩) (Tx.cell_lt g1)).trans g1))
  clear g0 g1 HBx HB1
  obtain ⟨bt, ot, ct, rfl, hTc⟩ := HT.out
  have HTc := Lib.hid hTc
  clear hTc HT
  go_loopw [8] (fun i' wr => ∃ i : Nat, i ≤ n + 1 ∧ i' = .int .i64 (i : Int) ∧ Hid (Below w1.heap.size w1 wr)) (fun i' _ => n + 1 - (intOf i').toNat)
  case atStart => exact ⟨0, Nat.zero_le _, rfl, Lib.hid (Below.refl _ _)⟩
  case round =>
    obtain ⟨i, hi, rfl, HB⟩ := hrel
    by_cases hlt : i ≤ n
    · have HE1 := Lib.hid (HEn.out wr (HB2.out.trans (HB.out.mono HB2.out.size)) i hlt)
      obtain ⟨g0, g1⟩ := HG.out wr HB.out
      have d0 : decide ((i : Int) ≤ (n : Int)) = true := decide_eq_true (by omega)
      have d1 : decide (i ≤ n) = true := decide_eq_true hlt
      go_wp2_with (go_at_call 29; refine HE1.out.mono ?_; rintro e w2 ⟨l, hl, hll, g, c2, rfl, hblk, hgb, hb2⟩; have HL := Lib.hid hl; have HLl := Lib.hid hll; have HBk := Lib.hid hblk; have HB3 := Lib.hid (HB.out.trans (hb2.mono HB.out.size)); clear hl hll hblk hgb hb2 HE1)
      obtain ⟨gi, hgi, hrow⟩ := HTc.out i hlt
      have q1 := (HB3.out.cell (p := ⟨bt, ot + i, none⟩) (Tx.cell_lt hgi)).trans hgi
      have HRow := Lib.hid (fun j hj => (HB3.out.cell (p := ⟨gi, j, none⟩) (Tx.cell_lt (hrow j hj))).trans (hrow j hj))
      have i1 : (0 : Int) ≤ (i : Int) := by omega
      have i2 : (i : Int) < (n : Int) + 1 := by omega
      clear hgi hrow g0 g1
      go_loopw [10] (fun j' wr2 => ∃ j : Nat, i ≤ j ∧ j ≤ n + 1 ∧ j' = .int .i64 (j : Int) ∧ ∃ q, wr2 = w2.drewN q) (fun j' _ => n + 1 - (intOf j').toNat)
      case atStart => exact ⟨i, Nat.le_refl _, hi, rfl, 0, rfl⟩
      case round =>
        obtain ⟨j, hij, hj, rfl, q, rfl⟩ := hrel
        by_cases hlj : j ≤ n
        · have x1 := HBk.out.bit (i := j) (by rw [HLl.out]; omega)
          have x2 := HRow.out j hlj
          rw [HL.out j hij hlj] at x1
          generalize getB (langsB (bs s) ns) ((ns.length - 1 : Nat) : Int) i j = x at x1 x2
          have d2 : decide ((j : Int) ≤ (n : Int)) = true := decide_eq_true (by omega)
          have d3 : decide (j ≤ n) = true := decide_eq_true hlj
          have i3 : (0 : Int) ≤ (j : Int) := by omega
          have i4 : (j : Int) < (n : Int) + 1 := by omega
          go_wp2_with fail
          go_quiet (fail)
          go_wp2_with fail
          go_roundw
          case rel => exact ⟨j + 1, by omega, by omega, by go_num, _, rfl⟩
          case measure => simp [intOf]; omega
        · have d2 : decide ((j : Int) ≤ (n : Int)) = false := decide_eq_false (by omega)
          have d3 : decide (j ≤ n) = false := decide_eq_false hlj
          go_wp2_with fail
          go_roundw
          case rel =>
            have HBn := Lib.hid (below_drewN HB3.out q)
            first | exact ⟨i + 1, by omega, by go_num, HBn⟩ | ((repeat apply Exists.intro); exact ⟨⟨i + 1, by omega, by go_num, HBn⟩, rfl⟩)
          case measure => simp [intOf]; omega
    · have d0 : decide ((i : Int) ≤ (n : Int)) = false := decide_eq_false (by omega)
      have d1 : decide (i ≤ n) = false := decide_eq_false hlt
      go_wp2_with fail
      go_ret
      exact ⟨rfl, HB2.out.trans (HB.out.mono HB2.out.size)⟩
end Pr
end Go.Proofs.Ytebljjdhgepfkaa

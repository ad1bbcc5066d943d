/-
  The walk of the law StrictCanonical of layer 13. Condition: the table of powers.
-/
import Derived.Test.YtlnghfmedkfkmaaDoorGStrMap
import Derived.Test.YtlnghfmedkfkmaaDoorGTextBase
import Derived.Test.YtlnghfmedkfkmaaDoorComFrameI
namespace Go.Proofs.YtlnghfmedkfkmaaDoor
open Go.RowKit
namespace Uf
end Uf
namespace Hn
end Hn
namespace St
open Uf Cm Hn
open Sc (Pow)
def l10 : List ByteArray := [⟨#[97]⟩, ⟨#[98]⟩, ⟨#[99]⟩, ⟨#[97, 98]⟩, ⟨#[98, 97]⟩, ⟨#[]⟩, ⟨#[97, 97]⟩, ⟨#[98, 32, 97]⟩, ⟨#[120, 43, 121]⟩, ⟨#[92]⟩]
def TenPost (w : World) (e : Ending) (w' : World) : Prop := ∃ s, s ∈ l10 ∧ e = .returned (.string s) ∧ Below w.heap.size w w'
set_option maxHeartbeats 1000000 in
theorem Line_ten (k : Int) (w : World) (h0 : -9223372036854775808 ≤ k) (h1 : k ≤ 9223372036854775807) :
    Calls Tryd.prog 4 #[.int .i64 k] w (TenPost w) := by
  have H := Lib.hid (fun w => Tx.Mod_any k 10 w (by omega) (by omega) h0 h1)
  have hlo := Tx.modF_lo k 10 (by omega)
  have hhi := Tx.modF_hi k 10 (by omega)
  generalize Tx.modF k 10 = m at H hlo hhi
  clear h0 h1
  have hm : m = 0 ∨ m = 1 ∨ m = 2 ∨ m = 3 ∨ m = 4 ∨ m = 5 ∨ m = 6 ∨ m = 7 ∨ m = 8 ∨ m = 9 := by omega
  clear hlo hhi
  rcases hm with rfl | rfl | rfl | rfl | rfl | rfl | rfl | rfl | rfl | rfl
  all_goals
    go_enter Tryd.func4, Tryd.ntmps4
    go_wp2_with (go_at_call 8; refine (H.out _).mono ?_; rintro e w1 ⟨rfl, rfl⟩)
    go_ret
    exact ⟨_, by unfold l10; simp, rfl, (Below.refl _ _).alloc (Nat.le_refl _) _⟩
def frm (h s : ByteArray) : ByteArray := h ++ s ++ ⟨#[10, 43]⟩ ++ s ++ ⟨#[122, 10]⟩
def gd (s : ByteArray) : ByteArray := frm ⟨#[45, 45, 45, 32, 97, 10, 43, 43, 43, 32, 98, 10, 64, 64, 32, 45, 49, 32, 43, 49, 32, 64, 64, 10, 45]⟩ s
def bad (s : ByteArray) : List ByteArray := [frm ⟨#[45, 45, 45, 32, 97, 10, 43, 43, 43, 32, 98, 10, 64, 64, 32, 45, 49, 44, 49, 32, 43, 49, 32, 64, 64, 10, 45]⟩ s, frm ⟨#[45, 45, 45, 32, 97, 10, 43, 43, 43, 32, 98, 10, 64, 64, 32, 45, 48, 49, 32, 43, 49, 32, 64, 64, 10, 45]⟩ s,
  frm ⟨#[45, 45, 45, 32, 34, 97, 34, 10, 43, 43, 43, 32, 98, 10, 64, 64, 32, 45, 49, 32, 43, 49, 32, 64, 64, 10, 45]⟩ s, (gd s).extract 0 ((gd s).size - 1), gd s ++ ⟨#[10]⟩]
def okS (s : ByteArray) : Bool := ((prsF (bs (gd s))).map fun p => p.hunks.length) == some 1 && (bad s).all fun t => (prsF (bs t)).isNone && decide (t.size ≤ 100)
set_option maxRecDepth 100000 in
theorem ok_all : l10.all okS = true := by kernel_rfl
structure CanF (s : ByteArray) : Prop where
  sz : s.size ≤ 3
  good : ∃ p, prsF (bs (gd s)) = some p ∧ p.hunks.length = 1
  gsz : (gd s).size ≤ 99
  bads : ∀ t ∈ bad s, prsF (bs t) = none ∧ t.size ≤ 100
theorem can_of {s : ByteArray} (h : s ∈ l10) : CanF s := by
  have hk := List.all_eq_true.1 ok_all s h
  have hz : s.size ≤ 3 := by
    have : l10.all (fun s => decide (s.size ≤ 3)) = true := by decide
    exact of_decide_eq_true (List.all_eq_true.1 this s h)
  unfold okS at hk
  rw [Bool.and_eq_true] at hk
  obtain ⟨h1, h2⟩ := hk
  have h3 : ∀ t ∈ bad s, prsF (bs t) = none ∧ t.size ≤ 100 := fun t ht => by
    have := List.all_eq_true.1 h2 t ht
    simp only [Bool.and_eq_true, Option.isNone_iff_eq_none, decide_eq_true_eq] at this
    exact this
  refine ⟨hz, ?_, ?_, h3⟩
  · cases hp : prsF (bs (gd s)) with
    | none => rw [hp] at h1; exact absurd h1 (by decide)
    | some p =>
      rw [hp] at h1
      exact ⟨p, rfl, by simpa using h1⟩
  · have := (h3 (gd s ++ ⟨#[10]⟩) (by unfold bad; exact .tail _ (.tail _ (.tail _ (.tail _ (.head _)))))).2
    rw [ByteArray.size_append] at this
    have e : (⟨#[10]⟩ : ByteArray).size = 1 := rfl
    omega
theorem cnt_le {t : ByteArray} (h : t.size ≤ 1000) : Lib.countByte t.data.toList 10 ≤ 16388 := by
  have h1 : Lib.countByte t.data.toList 10 ≤ t.data.toList.length := by unfold Lib.countByte; exact List.count_le_length
  have h2 : t.data.toList.length = t.size := Array.length_toList
  omega
theorem ps_none {t : ByteArray} (w : World) (ht : t.size ≤ 1000) (hw : Pow w) (h : prsF (bs t) = none) : Calls Tryd.prog 6 #[.string t] w fun e w' => e = .returned (.tuple #[.agg #[.string ⟨#[]⟩, .string ⟨#[]⟩, .slice none 0 0], .int .i64 4]) ∧ Below w.heap.size w w' :=
  (Parse_any t w (by omega) (cnt_le ht) hw).mono fun e w' hh => ⟨hh.2.1 h, hh.1⟩
theorem ps_some {t : ByteArray} {p : Pat} (w : World) (ht : t.size ≤ 1000) (hw : Pow w) (h : prsF (bs t) = some p) (hl : p.hunks.length = 1) : Calls Tryd.prog 6 #[.string t] w fun e w' => (∃ A c, e = .returned (.tuple #[.agg #[.string p.on, .string p.nn, .slice A 1 c], .int .i64 0])) ∧ Below w.heap.size w w' :=
  (Parse_any t w (by omega) (cnt_le ht) hw).mono fun e w' hh => by
    obtain ⟨v, e1, hr⟩ := hh.2.2 p h
    obtain ⟨A, c, rfl⟩ := hr.form
    rw [hl] at e1
    exact ⟨⟨A, c, e1⟩, hh.1⟩
set_option maxRecDepth 100000 in
set_option maxHeartbeats 8000000 in
theorem canonical_walk (v : Value) (us : List Int) (w : World) (h : RdV w v (intsV us)) (hu : us.length ≤ maxLen) (hub : ∀ z ∈ us, -9223372036854775808 ≤ z ∧ z ≤ 9223372036854775807) (hp : Pow w) :
    Calls Tryd.prog 3 #[v] w fun e w' => e = .returned (.bool true) ∧ Below w.heap.size w w' := by
  have HAw := Lib.hid (fun w' (hb : Below w.heap.size w w') => awake_any w' (hp.stays hb))
  have HAt := Lib.hid (Tx.At_any v us.length 1 w (Cm.rdI_of h hub) hu (by omega) (by omega))
  have HLn := Lib.hid (fun k w a b => Line_ten k w a b)
  have HPn := Lib.hid (fun (t : ByteArray) w' (hb : Below w.heap.size w w') ht hn => ps_none (t := t) w' ht (hp.stays hb) hn)
  have HPs := Lib.hid (fun (t : ByteArray) p w' (hb : Below w.heap.size w w') ht hn hl => ps_some (t := t) (p := p) w' ht (hp.stays hb) hn hl)
  unfold TenPost at HLn
  unfold Tx.SomeInt at HAt
  obtain ⟨A, c, rfl, -, -⟩ := h
  rw [intsV_len] at HAt ⊢
  clear hu hub hp
  go_enter Tryd.func3, Tryd.ntmps3
  go_wp2_with fail
  refine (HAt.out).mono ?_
  rintro e w1 ⟨z, z1, z2, rfl, rfl⟩
  go_wp2_with fail
  refine (HLn.out z _ z1 z2).mono ?_
  rintro e w1 ⟨s, hs, rfl, hb⟩
  have HB1 := Lib.hid hb
  have hc := can_of hs
  have hz := hc.sz
  have HC := Lib.hid hc
  clear hs hb hc HLn HAt z1 z2
  obtain ⟨p, hg, hl⟩ := HC.out.good
  have hgz := HC.out.gsz
  have HG := Lib.hid (HPs.out (gd s) p w1 HB1.out (by omega) hg hl)
  have HGe : Hid ((⟨#[45, 45, 45, 32, 97, 10, 43, 43, 43, 32, 98, 10, 64, 64, 32, 45, 49, 32, 43, 49, 32, 64, 64, 10, 45]⟩ : ByteArray) ++ s ++ ⟨#[10, 43]⟩ ++ s ++ ⟨#[122, 10]⟩ = gd s) := Lib.hid rfl
  have HBd : Hid (∀ t ∈ bad s, ∀ w', Below w.heap.size w w' → Calls Tryd.prog 6 #[.string t] w' fun e w'' => e = .returned (.tuple #[.agg #[.string ⟨#[]⟩, .string ⟨#[]⟩, .slice none 0 0], .int .i64 4]) ∧ Below w'.heap.size w' w'') := Lib.hid (fun t ht w' hb => HPn.out t w' hb (by have := (HC.out.bads t ht).2; omega) (HC.out.bads t ht).1)
  have HBe : Hid (bad s = [frm ⟨#[45, 45, 45, 32, 97, 10, 43, 43, 43, 32, 98, 10, 64, 64, 32, 45, 49, 44, 49, 32, 43, 49, 32, 64, 64, 10, 45]⟩ s, frm ⟨#[45, 45, 45, 32, 97, 10, 43, 43, 43, 32, 98, 10, 64, 64, 32, 45, 48, 49, 32, 43, 49, 32, 64, 64, 10, 45]⟩ s, frm ⟨#[45, 45, 45, 32, 34, 97, 34, 10, 43, 43, 43, 32, 98, 10, 64, 64, 32, 45, 49, 32, 43, 49, 32, 64, 64, 10, 45]⟩ s, (gd s).extract 0 ((gd s).size - 1), gd s ++ ⟨#[10]⟩]) := Lib.hid rfl
  unfold frm at HBe
  have hgp : 1 ≤ (gd s).size := by unfold gd frm; simp only [ByteArray.size_append]; have e : (⟨#[122, 10]⟩ : ByteArray).size = 2 := rfl; omega
  have hgp2 : (1 : Int) ≤ ((gd s).size : Int) := by omega
  clear hg hl HPs HPn HC
  go_upto_region 3 with fail
  rw [HGe.out]
  generalize gd s = G at *
  clear HGe
  go_wp2_with fail
  refine HG.out.mono ?_
  rintro e w2 ⟨⟨A2, c2, rfl⟩, hb⟩
  have HB2 := Lib.hid ((HB1.out.trans (hb.mono HB1.out.size)).alloc (HB1.out.trans (hb.mono HB1.out.size)).size (.cells #[.string p.on, .string p.nn, .slice A2 1 c2] tPat))
  have HX2 : Hid (Blk (w2.alloc (.cells #[.string p.on, .string p.nn, .slice A2 1 c2] tPat)) w2.heap.size tPat [.string p.on, .string p.nn, .slice A2 1 c2]) := Lib.hid (heap_new w2 _)
  clear hb HB1 HG
  go_upto_region 5 with fail
  generalize (⟨#[45, 45, 45, 32, 97, 10, 43, 43, 43, 32, 98, 10, 64, 64, 32, 45, 49, 44, 49, 32, 43, 49, 32, 64, 64, 10, 45]⟩ ++ s ++ ⟨#[10, 43]⟩ ++ s ++ ⟨#[122, 10]⟩ : ByteArray) = b1 at *
  generalize (⟨#[45, 45, 45, 32, 97, 10, 43, 43, 43, 32, 98, 10, 64, 64, 32, 45, 48, 49, 32, 43, 49, 32, 64, 64, 10, 45]⟩ ++ s ++ ⟨#[10, 43]⟩ ++ s ++ ⟨#[122, 10]⟩ : ByteArray) = b2 at *
  generalize (⟨#[45, 45, 45, 32, 34, 97, 34, 10, 43, 43, 43, 32, 98, 10, 64, 64, 32, 45, 49, 32, 43, 49, 32, 64, 64, 10, 45]⟩ ++ s ++ ⟨#[10, 43]⟩ ++ s ++ ⟨#[122, 10]⟩ : ByteArray) = b3 at *
  generalize G.extract 0 (G.size - 1) = b4 at *
  generalize G ++ ⟨#[10]⟩ = b5 at *
  have HR5 : Hid (Blk ((w2.alloc (.cells #[.string p.on, .string p.nn, .slice A2 1 c2] tPat)).alloc (.cells #[.string b1, .string b2, .string b3, .string b4, .string b5] 9)) (w2.heap.size + 1) 9 [.string b1, .string b2, .string b3, .string b4, .string b5]) := Lib.hid (by
    have h := heap_new (w2.alloc (.cells #[.string p.on, .string p.nn, .slice A2 1 c2] tPat)) (.cells #[.string b1, .string b2, .string b3, .string b4, .string b5] 9)
    have e : (w2.alloc (.cells #[.string p.on, .string p.nn, .slice A2 1 c2] tPat)).heap.size = w2.heap.size + 1 := by simp
    rw [e] at h
    exact h)
  have HB3 := Lib.hid (HB2.out.alloc HB2.out.size (.cells #[.string b1, .string b2, .string b3, .string b4, .string b5] 9))
  have HX3 := Lib.hid (HX2.out.alloc (.cells #[.string b1, .string b2, .string b3, .string b4, .string b5] 9))
  obtain ⟨W, hW⟩ : ∃ W, W = (w2.alloc (.cells #[.string p.on, .string p.nn, .slice A2 1 c2] tPat)).alloc (.cells #[.string b1, .string b2, .string b3, .string b4, .string b5] 9) := ⟨_, rfl⟩
  rw [← hW] at HR5 HB3 HX3 ⊢
  clear hW
  have HF5 : Hid (∀ V, Below W.heap.size W V → ∀ j, j < 5 → ∃ t, V.cell? ⟨w2.heap.size + 1, j, none⟩ = some (.string t) ∧ t ∈ bad s) := Lib.hid (fun V hV j hj => by
    have hk := HR5.out.below hV
    rw [HBe.out]
    have hj5 : j = 0 ∨ j = 1 ∨ j = 2 ∨ j = 3 ∨ j = 4 := by omega
    rcases hj5 with rfl | rfl | rfl | rfl | rfl
    · exact ⟨b1, hk.cell (k := 0) (show 0 < 5 by decide), .head _⟩
    · exact ⟨b2, hk.cell (k := 1) (show 1 < 5 by decide), .tail _ (.head _)⟩
    · exact ⟨b3, hk.cell (k := 2) (show 2 < 5 by decide), .tail _ (.tail _ (.head _))⟩
    · exact ⟨b4, hk.cell (k := 3) (show 3 < 5 by decide), .tail _ (.tail _ (.tail _ (.head _)))⟩
    · exact ⟨b5, hk.cell (k := 4) (show 4 < 5 by decide), .tail _ (.tail _ (.tail _ (.tail _ (.head _))))⟩)
  clear HBe HR5 HB2 HX2
  go_wp2_with fail
  go_loopw [8] (fun i wr => ∃ j : Nat, j ≤ 5 ∧ i = .int .i64 j ∧ Hid (Below W.heap.size W wr)) (fun i _ => 5 - (intOf i).toNat)
  case atStart => exact ⟨0, by omega, rfl, Lib.hid (Below.refl _ _)⟩
  case round =>
    obtain ⟨j, hj, rfl, HB⟩ := hrel
    have HBw := Lib.hid (HB3.out.trans (HB.out.mono HB3.out.size))
    by_cases hlt : j < 5
    · obtain ⟨t, hct, htm⟩ := HF5.out wr HB.out j hlt
      have HC := Lib.hid (HBd.out t htm wr HBw.out)
      have i1 : (0 : Int) ≤ (j : Int) := by omega
      have i2 : (j : Int) < 5 := by omega
      clear htm
      go_wp2_with fail
      refine HC.out.mono ?_
      rintro e wn ⟨rfl, hb⟩
      have HBn := Lib.hid ((HB.out.trans (hb.mono HB.out.size)).alloc (HB.out.trans (hb.mono HB.out.size)).size (.cells #[.string ⟨#[]⟩, .string ⟨#[]⟩, .slice none 0 0] tPat))
      clear hb HC hct
      go_wp2_with fail
      go_roundw
      case rel => exact ⟨j + 1, by omega, by go_num, HBn⟩
      case measure => simp [intOf]; omega
    · have hj5 : j = 5 := by omega
      subst hj5
      have hx := HX3.out.below HB.out
      have x2 := hx.cell (k := 2) (show 2 < 3 by decide)
      simp only [List.getElem_cons_succ, List.getElem_cons_zero] at x2
      have HA := Lib.hid (HAw.out wr HBw.out)
      clear hx HF5 HBd
      go_wp2_with fail
      refine HA.out.mono ?_
      rintro e wn ⟨rfl, hb⟩
      have HBn := Lib.hid (HBw.out.trans (hb.mono HBw.out.size))
      clear hb HA
      go_wp2_with fail
      go_ret
      exact ⟨rfl, HBn.out⟩
end St
end Go.Proofs.YtlnghfmedkfkmaaDoor

/-
  The program's items of classes. Conditions: short patterns; the library's variable holds a number.
-/
import Derived.Test.YtbjfopoakiagpaaRegexPsK
import Derived.Test.YtbjfopoakiagpaaShelf
import Derived.Deep.Cut
namespace Go.Proofs.Ytbjfopoakiagpaa
open Go.RowKit
namespace Px
open Cm Rx
/-- What an item leaves. -/
def ItemP (w0 : World) (base rb : Nat) (s : ByteArray) (D : Int) (ns : List Nd) (ks : List Value) (r : Option ((Nat → Bool) × Nat)) (e : Ending) (w' : World) : Prop :=
  match r with
  | none => e = pan 40 ∧ Below base w0 w'
  | some (p, a2) => ∃ m, e = .returned (setV m) ∧ (∀ x, x < 256 → m x = p x) ∧ St w0 base rb s a2 D ns ks w'
section
variable {w w0 : World} {base rb : Nat} {s : ByteArray} {a : Nat} {D : Int} {ns : List Nd} {ks : List Value}
/-- A cell of a set of the call's own is written. -/
theorem St_setS (h : St w0 base rb s a D ns ks w) {H j : Nat} {cs : Array Value} (hH : HasO w H (.cells cs tBs)) (h0 : w0.heap.size ≤ H) (hb : base ≤ H) (v : Value) : St w0 base rb s a D ns ks (w.setCell ⟨H, j, none⟩ v) := by
  obtain ⟨⟨x, hbr, hh, hn⟩, h2, h3⟩ := h
  refine ⟨⟨x, hbr, ?_, hn.setCell hH (by decide) (by decide)⟩, h2.setCell (p := ⟨H, j, none⟩) hb _, fun k cur e h4 h5 h6 => ?_⟩
  · rw [Below.heap_setCell _ _ _ _ (by
      show rb ≠ H
      rintro rfl
      unfold HasO at hH
      rw [hh] at hH
      injection hH with hH
      injection hH with _ ht
      exact absurd ht (by decide))]
    exact hh
  · rw [Below.heap_setCell _ _ _ _ (by show k ≠ H; have := lt_some h6; omega)]
    exact h3 k cur e h4 h5 h6
theorem St_copyS (h : St w0 base rb s a D ns ks w) {H : Nat} (hH : HasO w H zeroS) (h0 : w0.heap.size ≤ H) (hb : base ≤ H) (x y z u : Value) : St w0 base rb s a D ns ks ((((w.setCell ⟨H, 0, none⟩ x).setCell ⟨H, 1, none⟩ y).setCell ⟨H, 2, none⟩ z).setCell ⟨H, 3, none⟩ u) := by
  have h1 := St_setS h hH h0 hb x (j := 0)
  have k1 : HasO (w.setCell ⟨H, 0, none⟩ x) H (.cells _ tBs) := set_block hH
  have h2 := St_setS h1 k1 h0 hb y (j := 1)
  have k2 : HasO ((w.setCell ⟨H, 0, none⟩ x).setCell ⟨H, 1, none⟩ y) H (.cells _ tBs) := set_block k1
  have h3 := St_setS h2 k2 h0 hb z (j := 2)
  have k3 : HasO (((w.setCell ⟨H, 0, none⟩ x).setCell ⟨H, 1, none⟩ y).setCell ⟨H, 2, none⟩ z) H (.cells _ tBs) := set_block k2
  exact St_setS h3 k3 h0 hb u (j := 3)
theorem bs_mk (l : List UInt8) : Tx.bs ⟨l.toArray⟩ = l := by
  show l.toArray.toList = l
  simp
theorem cut_hit {L : List UInt8} {n : Nat} (h : Lib.index L [58, 93] = n) : Lib.cut L [58, 93] = (L.take n, L.drop (n + 2), true) := by
  unfold Lib.cut
  rw [h, if_pos (by omega)]
  rfl
theorem cut_miss {L : List UInt8} (h : Lib.index L [58, 93] = -1) : Lib.cut L [58, 93] = (L, [], false) := by
  unfold Lib.cut
  rw [h, if_neg (by omega)]
theorem ext_end (s : ByteArray) (k : Nat) : (s.extract k s.size).data.toList = (Tx.bs s).drop k := by
  have h := Tx.bs_extract s k s.size
  rw [List.take_of_length_le (by rw [List.length_drop, Tx.bs_len]; omega)] at h
  exact h
theorem named_list (N : List UInt8) (q : World) : Calls Try.prog 140 #[.string ⟨N.toArray⟩] q (NamedP q (clsF N)) := by
  have h := named_any ⟨N.toArray⟩ q
  rwa [show Tx.bs ⟨N.toArray⟩ = N from bs_mk N] at h
/-- strings.Cut at the rest of the text. -/
theorem cut_rest (s : ByteArray) (k n : Nat) (hn : Lib.index ((Tx.bs s).drop k) [58, 93] = n) (hs : s.size ≤ 1000000) (q : World) (m : Int) (hm : q.cell? ⟨0, 0, none⟩ = some (.int .i64 m)) :
    Calls Try.prog 139 #[.string (s.extract k s.size), .string ⟨#[58, 93]⟩] q fun e w' => e = .returned (.tuple #[.string ⟨(((Tx.bs s).drop k).take n).toArray⟩, .string ⟨(((Tx.bs s).drop k).drop (n + 2)).toArray⟩, .bool true]) ∧ ∃ n, w' = q.drewN n := by
  have h := Try.strings_Cut (s.extract k s.size) ⟨#[58, 93]⟩ m q (by have := ByteArray.size_extract (a := s) (b := k) (e := s.size); omega) hm
  rw [ext_end, show (⟨#[58, 93]⟩ : ByteArray).data.toList = [58, 93] from rfl, cut_hit hn] at h
  exact h
theorem cut_rest0 (s : ByteArray) (k : Nat) (hn : Lib.index ((Tx.bs s).drop k) [58, 93] = -1) (hs : s.size ≤ 1000000) (q : World) (m : Int) (hm : q.cell? ⟨0, 0, none⟩ = some (.int .i64 m)) :
    Calls Try.prog 139 #[.string (s.extract k s.size), .string ⟨#[58, 93]⟩] q fun e w' => e = .returned (.tuple #[.string ⟨((Tx.bs s).drop k).toArray⟩, .string ⟨#[]⟩, .bool false]) ∧ ∃ n, w' = q.drewN n := by
  have h := Try.strings_Cut (s.extract k s.size) ⟨#[58, 93]⟩ m q (by have := ByteArray.size_extract (a := s) (b := k) (e := s.size); omega) hm
  rw [ext_end, show (⟨#[58, 93]⟩ : ByteArray).data.toList = [58, 93] from rfl, cut_miss hn] at h
  exact h
set_option maxRecDepth 100000 in
set_option maxHeartbeats 4000000 in
theorem namedItem_hit (h : St w0 base rb s a D ns ks w) (hG : Glb base w) (hs : s.size ≤ 1000000) (ha : a + 2 ≤ s.size) (n : Nat) (hn : Lib.index ((Tx.bs s).drop (a + 2)) [58, 93] = n) (hle : a + 2 + n + 2 ≤ s.size) :
    Calls Try.prog 134 #[.pointer (some ⟨rb, 0, none⟩)] w (ItemP w0 base rb s D ns ks (match clsF (((Tx.bs s).drop (a + 2)).take n) with | none => none | some p => some (p, a + 2 + n + 2))) := by
  obtain ⟨hG0, mx, hmx⟩ := hG
  have hlt0 : 0 < w.heap.size := by
    have := h.1.size
    omega
  have HCut : Hid (∀ n, Calls Try.prog 139 #[.string (s.extract (a + 2) s.size), .string ⟨#[58, 93]⟩] ((w.alloc zeroS).drewN n) _) := Lib.hid (fun q => cut_rest s (a + 2) n hn hs ((w.alloc zeroS).drewN q) mx (by rw [World.cell?_drewN, World.cell?_alloc_past _ _ _ (by show 0 < w.heap.size; omega)]; exact hmx))
  have hBl := Lib.hid (fun q => h.2.1.trans (below_drewN (((Below.refl w.heap.size w).alloc (Nat.le_refl _) zeroS).mono h.1.size) q))
  have HSt := Lib.hid (fun q => ((h.below ((Below.refl _ _).alloc (Nat.le_refl _) zeroS)).drewN q))
  have HR := Lib.hid (HasO.new w zeroS)
  have hal := fun o => h.below ((Below.refl _ _).alloc (Nat.le_refl _) o)
  have c0 := fun o => (hal o).cells.1
  have c1 := fun o => (hal o).cells.2.1
  have c2 := fun o => (hal o).cells.2.2.1
  have f1 := fun o => (hal o).cells.2.2.2 1
  have i0 : (0 : Int) ≤ (a : Int) + 2 := by omega
  have i1 : (a : Int) + 2 ≤ (s.size : Int) := by omega
  have i2 : ((a : Int) + 2).toNat = a + 2 := by omega
  have hNl : (((Tx.bs s).drop (a + 2)).take n).length = n := by rw [List.length_take, List.length_drop, Tx.bs_len]; omega
  have HNm := Lib.hid (fun q => named_list (((Tx.bs s).drop (a + 2)).take n) q)
  have hbase := h.1.size
  have hw0 := h.2.1.size
  generalize ((Tx.bs s).drop (a + 2)).take n = N at HCut HNm hNl ⊢
  generalize hres : (match clsF N with | none => none | some p => some (p, a + 2 + n + 2) : Option ((Nat → Bool) × Nat)) = r
  clear hal hmx hn h
  go_enter Try.func134, Try.ntmps134
  go_wp2_with fail
  go_quiet ((go_at_call 139; exact Calls.quiet_of (HCut.out _)))
  go_wp2_with fail
  refine (HNm.out _).mono ?_
  intro e w2 hq
  cases hc : clsF N with
  | none =>
    rw [hc] at hq hres
    have HRes := Lib.hid hres
    obtain ⟨m, rfl, B2⟩ := hq
    have HS2 := (HSt.out _).below B2
    have HB2 := Lib.hid (And.intro HS2.2.1 HS2.1.size)
    unfold setV
    clear hc B2 hres HS2
    go_wp2_with fail
    refine ⟨rfl, ?_⟩
    rw [← HRes.out]
    exact ⟨rfl, HB2.out.1.alloc HB2.out.2 _⟩
  | some p =>
    rw [hc] at hq hres
    have HRes := Lib.hid hres
    obtain ⟨m, rfl, hm, B2⟩ := hq
    have HS2 := Lib.hid ((HSt.out _).below B2)
    have HR2 := Lib.hid (show HasO w2 w.heap.size zeroS from (B2.block _ (lt_some HR.out)).trans HR.out)
    have HM := Lib.hid hm
    have hrb : rb < w2.heap.size := by obtain ⟨⟨v, _, hh, _⟩, _⟩ := HS2.out; exact lt_some hh
    have HS3 := Lib.hid (HS2.out.below ((Below.refl _ _).alloc (Nat.le_refl _) (rowS m)))
    have HR3 := Lib.hid (HR2.out.alloc (rowS m))
    have HM3 := Lib.hid (HasO.new w2 (rowS m))
    generalize hH2 : w2.heap.size = H2 at HM3 hrb
    unfold setV
    clear hc B2 hm hres HS2 HR2
    go_upto_region 5 with fail
    generalize w2.alloc _ = w3 at HS3 HR3 HM3 ⊢
    obtain ⟨c0, c1, c2, hf⟩ := HS3.out.cells
    have f1 := hf 1
    have hrw : w.heap.size ≠ rb := by
      obtain ⟨⟨v, _, hh, _⟩, _⟩ := HS3.out
      intro e
      have h2 := HR3.out
      unfold HasO at h2
      rw [e, hh] at h2
      injection h2 with h2
      injection h2 with _ ht
      exact absurd ht (by decide)
    have HRz := Lib.hid (fun v => HR3.out.other (c := rb) (j := 1) (v := v) hrw)
    have HMz := Lib.hid (fun v => HM3.out.other (c := rb) (j := 1) (v := v) (by omega))
    have zz := fun v => (HRz.out v).zero
    have z0 := fun v => (zz v).1.1
    have z1 := fun v => (zz v).1.2.1
    have z2 := fun v => (zz v).1.2.2.1
    have z3 := fun v => (zz v).1.2.2.2
    have y0 := fun v => (zz v).2.1
    have y1 := fun v => (zz v).2.2.1
    have y2 := fun v => (zz v).2.2.2.1
    have y3 := fun v => (zz v).2.2.2.2
    have vv := fun v => (HMz.out v).row
    have v0 := fun v => (vv v).1.1
    have v1 := fun v => (vv v).1.2
    have v2 := fun v => (vv v).2.1
    have v3 := fun v => (vv v).2.2
    have HEnd := Lib.hid (fun x y z u => St_copyS (HS3.out.setAt (a + 2 + n + 2)) (HRz.out (.int .i64 ((a + 2 + n + 2 : Nat) : Int))) hw0 hbase x y z u)
    rw [show ((a + 2 + n + 2 : Nat) : Int) = (a : Int) + (2 + (n : Int) + 2) from by omega] at HEnd
    clear zz vv hf hrw
    go_wp2_with fail
    refine bodyPost_ret (results_cell_row (p := 2) rfl _ _ _ _ _ _ _ rfl (HRz.out _).copy Try.underlying152 rfl (by kernel_rfl)) rfl ?_
    rw [← HRes.out]
    exact ⟨m, rfl, HM.out, HEnd.out _ _ _ _⟩
set_option maxRecDepth 100000 in
set_option maxHeartbeats 4000000 in
theorem namedItem_miss (h : St w0 base rb s a D ns ks w) (hG : Glb base w) (hs : s.size ≤ 1000000) (ha : a + 2 ≤ s.size) (hn : Lib.index ((Tx.bs s).drop (a + 2)) [58, 93] = -1) :
    Calls Try.prog 134 #[.pointer (some ⟨rb, 0, none⟩)] w fun e w' => e = pan 40 ∧ Below base w0 w' := by
  obtain ⟨hG0, mx, hmx⟩ := hG
  have hlt0 : 0 < w.heap.size := by
    have := h.1.size
    omega
  have HCut : Hid (∀ n, Calls Try.prog 139 #[.string (s.extract (a + 2) s.size), .string ⟨#[58, 93]⟩] ((w.alloc zeroS).drewN n) _) := Lib.hid (fun q => cut_rest0 s (a + 2) hn hs ((w.alloc zeroS).drewN q) mx (by rw [World.cell?_drewN, World.cell?_alloc_past _ _ _ (by show 0 < w.heap.size; omega)]; exact hmx))
  have HSt := Lib.hid (fun q => ((h.below ((Below.refl _ _).alloc (Nat.le_refl _) zeroS)).drewN q))
  have hal := fun o => h.below ((Below.refl _ _).alloc (Nat.le_refl _) o)
  have c0 := fun o => (hal o).cells.1
  have c1 := fun o => (hal o).cells.2.1
  have i0 : (0 : Int) ≤ (a : Int) + 2 := by omega
  have i1 : (a : Int) + 2 ≤ (s.size : Int) := by omega
  have i2 : ((a : Int) + 2).toNat = a + 2 := by omega
  have HNm := Lib.hid (fun q => named_list ((Tx.bs s).drop (a + 2)) q)
  generalize (Tx.bs s).drop (a + 2) = N at HCut HNm
  clear hal hmx hn h
  go_enter Try.func134, Try.ntmps134
  go_wp2_with fail
  go_quiet ((go_at_call 139; exact Calls.quiet_of (HCut.out _)))
  go_wp2_with fail
  refine (HNm.out _).mono ?_
  intro e w2 hq
  cases hc : clsF N with
  | none =>
    rw [hc] at hq
    obtain ⟨m, rfl, B2⟩ := hq
    have HS2 := (HSt.out _).below B2
    have HB2 := Lib.hid (And.intro HS2.2.1 HS2.1.size)
    unfold setV
    clear hc B2 HS2
    go_wp2_with fail
    exact ⟨rfl, rfl, HB2.out.1.alloc HB2.out.2 _⟩
  | some p =>
    rw [hc] at hq
    obtain ⟨m, rfl, _, B2⟩ := hq
    have HS2 := (HSt.out _).below B2
    have HB2 := Lib.hid (And.intro HS2.2.1 HS2.1.size)
    unfold setV
    clear hc B2 HS2
    go_wp2_with fail
    exact ⟨rfl, rfl, HB2.out.1.alloc HB2.out.2 _⟩
/-- A name in brackets. -/
theorem namedItem_any (h : St w0 base rb s a D ns ks w) (hG : Glb base w) (hs : s.size ≤ 1000000) (h1 : (Tx.bs s)[a]? = some 91) (h2 : (Tx.bs s)[a + 1]? = some 58) :
    Calls Try.prog 134 #[.pointer (some ⟨rb, 0, none⟩)] w (ItemP w0 base rb s D ns ks (itemF (Tx.bs s) a)) := by
  have hl := get_lt h2
  have hlen := Tx.bs_len s
  have hge := Lib.index_ge ((Tx.bs s).drop (a + 2)) [58, 93]
  obtain ⟨i1, i2⟩ := nameEnd_index (l := Tx.bs s) (Tx.bs s).length (a + 2) (by omega) (by omega)
  have hI : itemF (Tx.bs s) a = match clsF (((Tx.bs s).drop (a + 2)).take (nameEnd (Tx.bs s) (Tx.bs s).length (a + 2) - (a + 2))) with | none => none | some p => if (Tx.bs s).length ≤ nameEnd (Tx.bs s) (Tx.bs s).length (a + 2) + 1 then none else some (fun x => decide (x < 256) && p x, nameEnd (Tx.bs s) (Tx.bs s).length (a + 2) + 2) := by
    unfold itemF
    rw [h1]
    simp only
    rw [if_pos ⟨trivial, h2⟩]
    generalize clsF (((Tx.bs s).drop (a + 2)).take (nameEnd (Tx.bs s) (Tx.bs s).length (a + 2) - (a + 2))) = q
    cases q <;> rfl
  rw [hI]
  by_cases hm : Lib.index ((Tx.bs s).drop (a + 2)) [58, 93] = -1
  · refine (namedItem_miss h hG hs (by omega) hm).mono fun e w' hp => ?_
    have h3 := i2 hm
    generalize clsF (((Tx.bs s).drop (a + 2)).take (nameEnd (Tx.bs s) (Tx.bs s).length (a + 2) - (a + 2))) = q
    cases q with
    | none => exact hp
    | some p =>
      simp only
      rw [if_pos h3]
      exact hp
  · obtain ⟨n, hn⟩ : ∃ n : Nat, Lib.index ((Tx.bs s).drop (a + 2)) [58, 93] = n := ⟨(Lib.index ((Tx.bs s).drop (a + 2)) [58, 93]).toNat, by omega⟩
    obtain ⟨e1, e2⟩ := i1 n hn
    refine (namedItem_hit h hG hs (by omega) n hn (by omega)).mono fun e w' hp => ?_
    rw [e1, show a + 2 + n - (a + 2) = n from by omega]
    cases hc : clsF (((Tx.bs s).drop (a + 2)).take n) with
    | none => rw [hc] at hp; exact hp
    | some p =>
      rw [hc] at hp
      simp only
      rw [if_neg (by omega)]
      obtain ⟨m, e3, e4, e5⟩ := hp
      exact ⟨m, e3, fun x hx => by simp only [decide_eq_true hx, Bool.true_and]; exact e4 x hx, e5⟩
end
end Px
end Go.Proofs.Ytbjfopoakiagpaa

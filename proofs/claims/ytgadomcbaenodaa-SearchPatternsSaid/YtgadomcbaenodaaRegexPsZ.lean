/-
  The program's items of classes. Conditions: short patterns; the library's variable holds a number. The program's items of classes: item. Conditions: short patterns; the library's variable holds a number. The program's classes. Conditions: short patterns; the library's variable holds a number. The law's sanity check of layer 4: it returns true. Conditions: the library's variable holds a number. Patterns, as plain mathematics: what is read are valid nodes, and their lists of kids are short. Conditions: at most 256 bytes. Patterns, as plain mathematics: an error of the parser has a number of its own. No conditions. What the program's Parse hands back, in one form for an error and for nodes. Conditions: the library's variable holds a number.
-/
import Derived.Test.YtgadomcbaenodaaRegexPsK
import Derived.Test.YtgadomcbaenodaaShelf
import Derived.Deep.Cut
import Derived.Deep.RegionLaw
import Derived.Test.YtgadomcbaenodaaRegexRead
import Derived.Test.YtgadomcbaenodaaRegexAdv
import Derived.Test.YtgadomcbaenodaaRegexCheck
namespace Go.Proofs.Ytgadomcbaenodaa
section
open Go.RowKit
namespace Px
open Cm Rx
/-- What an item leaves. -/
def ItemP (w0 : World) (base rb : Nat) (s : ByteArray) (D : Int) (ns : List Nd) (ks : List Value) (r : Option ((Nat → Bool) × Nat)) (e : Ending) (w' : World) : Prop :=
  match r with
  | none => e = pan 40 ∧ Below base w0 w'
  | some (p, a2) => ∃ m, e = .returned (setV m) ∧ (∀ x, x < 256 → m x = p x) ∧ St w0 base rb s a2 D ns ks w'
section
variable {w w0 : World} {base rb : Nat} {s : ByteArray} {a : Nat} {D : Int} {ns : List Nd} {ks : List Value}
/-- A cell of a set of the call's own is written. -/
theorem St_setS (h : St w0 base rb s a D ns ks w) {H j : Nat} {cs : Array Value} (hH : HasO w H (.cells cs tBs)) (h0 : w0.heap.size ≤ H) (hb : base ≤ H) (v : Value) : St w0 base rb s a D ns ks (w.setCell ⟨H, j, none⟩ v) := by
  obtain ⟨⟨x, hbr, hh, hn⟩, h2, h3⟩ := h
  refine ⟨⟨x, hbr, ?_, hn.setCell hH (by decide) (by decide)⟩, h2.setCell (p := ⟨H, j, none⟩) hb _, fun k cur e h4 h5 h6 => ?_⟩
  · rw [Below.heap_setCell _ _ _ _ (by
      show rb ≠ H
      rintro rfl
      unfold HasO at hH
      rw [hh] at hH
      injection hH with hH
      injection hH with _ ht
      exact absurd ht (by decide))]
    exact hh
  · rw [Below.heap_setCell _ _ _ _ (by show k ≠ H; have := lt_some h6; omega)]
    exact h3 k cur e h4 h5 h6
theorem St_copyS (h : St w0 base rb s a D ns ks w) {H : Nat} (hH : HasO w H zeroS) (h0 : w0.heap.size ≤ H) (hb : base ≤ H) (x y z u : Value) : St w0 base rb s a D ns ks ((((w.setCell ⟨H, 0, none⟩ x).setCell ⟨H, 1, none⟩ y).setCell ⟨H, 2, none⟩ z).setCell ⟨H, 3, none⟩ u) := by
  have h1 := St_setS h hH h0 hb x (j := 0)
  have k1 : HasO (w.setCell ⟨H, 0, none⟩ x) H (.cells _ tBs) := set_block hH
  have h2 := St_setS h1 k1 h0 hb y (j := 1)
  have k2 : HasO ((w.setCell ⟨H, 0, none⟩ x).setCell ⟨H, 1, none⟩ y) H (.cells _ tBs) := set_block k1
  have h3 := St_setS h2 k2 h0 hb z (j := 2)
  have k3 : HasO (((w.setCell ⟨H, 0, none⟩ x).setCell ⟨H, 1, none⟩ y).setCell ⟨H, 2, none⟩ z) H (.cells _ tBs) := set_block k2
  exact St_setS h3 k3 h0 hb u (j := 3)
theorem bs_mk (l : List UInt8) : Tx.bs ⟨l.toArray⟩ = l := by
  show l.toArray.toList = l
  simp
theorem cut_hit {L : List UInt8} {n : Nat} (h : Lib.index L [58, 93] = n) : Lib.cut L [58, 93] = (L.take n, L.drop (n + 2), true) := by
  unfold Lib.cut
  rw [h, if_pos (by omega)]
  rfl
theorem cut_miss {L : List UInt8} (h : Lib.index L [58, 93] = -1) : Lib.cut L [58, 93] = (L, [], false) := by
  unfold Lib.cut
  rw [h, if_neg (by omega)]
theorem ext_end (s : ByteArray) (k : Nat) : (s.extract k s.size).data.toList = (Tx.bs s).drop k := by
  have h := Tx.bs_extract s k s.size
  rw [List.take_of_length_le (by rw [List.length_drop, Tx.bs_len]; omega)] at h
  exact h
theorem named_list (N : List UInt8) (q : World) : Calls Try.prog 91 #[.string ⟨N.toArray⟩] q (NamedP q (clsF N)) := by
  have h := named_any ⟨N.toArray⟩ q
  rwa [show Tx.bs ⟨N.toArray⟩ = N from bs_mk N] at h
/-- strings.Cut at the rest of the text. -/
theorem cut_rest (s : ByteArray) (k n : Nat) (hn : Lib.index ((Tx.bs s).drop k) [58, 93] = n) (hs : s.size ≤ 1000000) (q : World) (m : Int) (hm : q.cell? ⟨0, 0, none⟩ = some (.int .i64 m)) :
    Calls Try.prog 90 #[.string (s.extract k s.size), .string ⟨#[58, 93]⟩] q fun e w' => e = .returned (.tuple #[.string ⟨(((Tx.bs s).drop k).take n).toArray⟩, .string ⟨(((Tx.bs s).drop k).drop (n + 2)).toArray⟩, .bool true]) ∧ ∃ n, w' = q.drewN n := by
  have h := Try.strings_Cut (s.extract k s.size) ⟨#[58, 93]⟩ m q (by have := ByteArray.size_extract (a := s) (b := k) (e := s.size); omega) hm
  rw [ext_end, show (⟨#[58, 93]⟩ : ByteArray).data.toList = [58, 93] from rfl, cut_hit hn] at h
  exact h
theorem cut_rest0 (s : ByteArray) (k : Nat) (hn : Lib.index ((Tx.bs s).drop k) [58, 93] = -1) (hs : s.size ≤ 1000000) (q : World) (m : Int) (hm : q.cell? ⟨0, 0, none⟩ = some (.int .i64 m)) :
    Calls Try.prog 90 #[.string (s.extract k s.size), .string ⟨#[58, 93]⟩] q fun e w' => e = .returned (.tuple #[.string ⟨((Tx.bs s).drop k).toArray⟩, .string ⟨#[]⟩, .bool false]) ∧ ∃ n, w' = q.drewN n := by
  have h := Try.strings_Cut (s.extract k s.size) ⟨#[58, 93]⟩ m q (by have := ByteArray.size_extract (a := s) (b := k) (e := s.size); omega) hm
  rw [ext_end, show (⟨#[58, 93]⟩ : ByteArray).data.toList = [58, 93] from rfl, cut_miss hn] at h
  exact h
set_option maxRecDepth 100000 in
set_option maxHeartbeats 4000000 in
theorem namedItem_hit (h : St w0 base rb s a D ns ks w) (hG : Glb base w) (hs : s.size ≤ 1000000) (ha : a + 2 ≤ s.size) (n : Nat) (hn : Lib.index ((Tx.bs s).drop (a + 2)) [58, 93] = n) (hle : a + 2 + n + 2 ≤ s.size) :
    Calls Try.prog 87 #[.pointer (some ⟨rb, 0, none⟩)] w (ItemP w0 base rb s D ns ks (match clsF (((Tx.bs s).drop (a + 2)).take n) with | none => none | some p => some (p, a + 2 + n + 2))) := by
  obtain ⟨hG0, mx, hmx⟩ := hG
  have hlt0 : 0 < w.heap.size := by
    have := h.1.size
    omega
  have HCut : Hid (∀ n, Calls Try.prog 90 #[.string (s.extract (a + 2) s.size), .string ⟨#[58, 93]⟩] ((w.alloc zeroS).drewN n) _) := Lib.hid (fun q => cut_rest s (a + 2) n hn hs ((w.alloc zeroS).drewN q) mx (by rw [World.cell?_drewN, World.cell?_alloc_past _ _ _ (by show 0 < w.heap.size; omega)]; exact hmx))
  have hBl := Lib.hid (fun q => h.2.1.trans (below_drewN (((Below.refl w.heap.size w).alloc (Nat.le_refl _) zeroS).mono h.1.size) q))
  have HSt := Lib.hid (fun q => ((h.below ((Below.refl _ _).alloc (Nat.le_refl _) zeroS)).drewN q))
  have HR := Lib.hid (HasO.new w zeroS)
  have hal := fun o => h.below ((Below.refl _ _).alloc (Nat.le_refl _) o)
  have c0 := fun o => (hal o).cells.1
  have c1 := fun o => (hal o).cells.2.1
  have c2 := fun o => (hal o).cells.2.2.1
  have f1 := fun o => (hal o).cells.2.2.2 1
  have i0 : (0 : Int) ≤ (a : Int) + 2 := by omega
  have i1 : (a : Int) + 2 ≤ (s.size : Int) := by omega
  have i2 : ((a : Int) + 2).toNat = a + 2 := by omega
  have hNl : (((Tx.bs s).drop (a + 2)).take n).length = n := by rw [List.length_take, List.length_drop, Tx.bs_len]; omega
  have HNm := Lib.hid (fun q => named_list (((Tx.bs s).drop (a + 2)).take n) q)
  have hbase := h.1.size
  have hw0 := h.2.1.size
  generalize ((Tx.bs s).drop (a + 2)).take n = N at HCut HNm hNl ⊢
  generalize hres : (match clsF N with | none => none | some p => some (p, a + 2 + n + 2) : Option ((Nat → Bool) × Nat)) = r
  clear hal hmx hn h
  go_enter Try.func87, Try.ntmps87
  go_wp2_with fail
  go_quiet ((go_at_call 90; exact Calls.quiet_of (HCut.out _)))
  go_wp2_with fail
  refine (HNm.out _).mono ?_
  intro e w2 hq
  cases hc : clsF N with
  | none =>
    rw [hc] at hq hres
    have HRes := Lib.hid hres
    obtain ⟨m, rfl, B2⟩ := hq
    have HS2 := (HSt.out _).below B2
    have HB2 := Lib.hid (And.intro HS2.2.1 HS2.1.size)
    unfold setV
    clear hc B2 hres HS2
    go_wp2_with fail
    refine ⟨rfl, ?_⟩
    rw [← HRes.out]
    exact ⟨rfl, HB2.out.1.alloc HB2.out.2 _⟩
  | some p =>
    rw [hc] at hq hres
    have HRes := Lib.hid hres
    obtain ⟨m, rfl, hm, B2⟩ := hq
    have HS2 := Lib.hid ((HSt.out _).below B2)
    have HR2 := Lib.hid (show HasO w2 w.heap.size zeroS from (B2.block _ (lt_some HR.out)).trans HR.out)
    have HM := Lib.hid hm
    have hrb : rb < w2.heap.size := by obtain ⟨⟨v, _, hh, _⟩, _⟩ := HS2.out; exact lt_some hh
    have HS3 := Lib.hid (HS2.out.below ((Below.refl _ _).alloc (Nat.le_refl _) (rowS m)))
    have HR3 := Lib.hid (HR2.out.alloc (rowS m))
    have HM3 := Lib.hid (HasO.new w2 (rowS m))
    generalize hH2 : w2.heap.size = H2 at HM3 hrb
    unfold setV
    clear hc B2 hm hres HS2 HR2
    go_upto_region 5 with fail
    generalize w2.alloc _ = w3 at HS3 HR3 HM3 ⊢
    obtain ⟨c0, c1, c2, hf⟩ := HS3.out.cells
    have f1 := hf 1
    have hrw : w.heap.size ≠ rb := by
      obtain ⟨⟨v, _, hh, _⟩, _⟩ := HS3.out
      intro e
      have h2 := HR3.out
      unfold HasO at h2
      rw [e, hh] at h2
      injection h2 with h2
      injection h2 with _ ht
      exact absurd ht (by decide)
    have HRz := Lib.hid (fun v => HR3.out.other (c := rb) (j := 1) (v := v) hrw)
    have HMz := Lib.hid (fun v => HM3.out.other (c := rb) (j := 1) (v := v) (by omega))
    have zz := fun v => (HRz.out v).zero
    have z0 := fun v => (zz v).1.1
    have z1 := fun v => (zz v).1.2.1
    have z2 := fun v => (zz v).1.2.2.1
    have z3 := fun v => (zz v).1.2.2.2
    have y0 := fun v => (zz v).2.1
    have y1 := fun v => (zz v).2.2.1
    have y2 := fun v => (zz v).2.2.2.1
    have y3 := fun v => (zz v).2.2.2.2
    have vv := fun v => (HMz.out v).row
    have v0 := fun v => (vv v).1.1
    have v1 := fun v => (vv v).1.2
    have v2 := fun v => (vv v).2.1
    have v3 := fun v => (vv v).2.2
    have HEnd := Lib.hid (fun x y z u => St_copyS (HS3.out.setAt (a + 2 + n + 2)) (HRz.out (.int .i64 ((a + 2 + n + 2 : Nat) : Int))) hw0 hbase x y z u)
    rw [show ((a + 2 + n + 2 : Nat) : Int) = (a : Int) + (2 + (n : Int) + 2) from by omega] at HEnd
    clear zz vv hf hrw
    go_wp2_with fail
    refine bodyPost_ret (results_cell_row (p := 2) rfl _ _ _ _ _ _ _ rfl (HRz.out _).copy Try.underlying128 rfl (by kernel_rfl)) rfl ?_
    rw [← HRes.out]
    exact ⟨m, rfl, HM.out, HEnd.out _ _ _ _⟩
set_option maxRecDepth 100000 in
set_option maxHeartbeats 4000000 in
theorem namedItem_miss (h : St w0 base rb s a D ns ks w) (hG : Glb base w) (hs : s.size ≤ 1000000) (ha : a + 2 ≤ s.size) (hn : Lib.index ((Tx.bs s).drop (a + 2)) [58, 93] = -1) :
    Calls Try.prog 87 #[.pointer (some ⟨rb, 0, none⟩)] w fun e w' => e = pan 40 ∧ Below base w0 w' := by
  obtain ⟨hG0, mx, hmx⟩ := hG
  have hlt0 : 0 < w.heap.size := by
    have := h.1.size
    omega
  have HCut : Hid (∀ n, Calls Try.prog 90 #[.string (s.extract (a + 2) s.size), .string ⟨#[58, 93]⟩] ((w.alloc zeroS).drewN n) _) := Lib.hid (fun q => cut_rest0 s (a + 2) hn hs ((w.alloc zeroS).drewN q) mx (by rw [World.cell?_drewN, World.cell?_alloc_past _ _ _ (by show 0 < w.heap.size; omega)]; exact hmx))
  have HSt := Lib.hid (fun q => ((h.below ((Below.refl _ _).alloc (Nat.le_refl _) zeroS)).drewN q))
  have hal := fun o => h.below ((Below.refl _ _).alloc (Nat.le_refl _) o)
  have c0 := fun o => (hal o).cells.1
  have c1 := fun o => (hal o).cells.2.1
  have i0 : (0 : Int) ≤ (a : Int) + 2 := by omega
  have i1 : (a : Int) + 2 ≤ (s.size : Int) := by omega
  have i2 : ((a : Int) + 2).toNat = a + 2 := by omega
  have HNm := Lib.hid (fun q => named_list ((Tx.bs s).drop (a + 2)) q)
  generalize (Tx.bs s).drop (a + 2) = N at HCut HNm
  clear hal hmx hn h
  go_enter Try.func87, Try.ntmps87
  go_wp2_with fail
  go_quiet ((go_at_call 90; exact Calls.quiet_of (HCut.out _)))
  go_wp2_with fail
  refine (HNm.out _).mono ?_
  intro e w2 hq
  cases hc : clsF N with
  | none =>
    rw [hc] at hq
    obtain ⟨m, rfl, B2⟩ := hq
    have HS2 := (HSt.out _).below B2
    have HB2 := Lib.hid (And.intro HS2.2.1 HS2.1.size)
    unfold setV
    clear hc B2 HS2
    go_wp2_with fail
    exact ⟨rfl, rfl, HB2.out.1.alloc HB2.out.2 _⟩
  | some p =>
    rw [hc] at hq
    obtain ⟨m, rfl, _, B2⟩ := hq
    have HS2 := (HSt.out _).below B2
    have HB2 := Lib.hid (And.intro HS2.2.1 HS2.1.size)
    unfold setV
    clear hc B2 HS2
    go_wp2_with fail
    exact ⟨rfl, rfl, HB2.out.1.alloc HB2.out.2 _⟩
/-- A name in brackets. -/
theorem namedItem_any (h : St w0 base rb s a D ns ks w) (hG : Glb base w) (hs : s.size ≤ 1000000) (h1 : (Tx.bs s)[a]? = some 91) (h2 : (Tx.bs s)[a + 1]? = some 58) :
    Calls Try.prog 87 #[.pointer (some ⟨rb, 0, none⟩)] w (ItemP w0 base rb s D ns ks (itemF (Tx.bs s) a)) := by
  have hl := get_lt h2
  have hlen := Tx.bs_len s
  have hge := Lib.index_ge ((Tx.bs s).drop (a + 2)) [58, 93]
  obtain ⟨i1, i2⟩ := nameEnd_index (l := Tx.bs s) (Tx.bs s).length (a + 2) (by omega) (by omega)
  have hI : itemF (Tx.bs s) a = match clsF (((Tx.bs s).drop (a + 2)).take (nameEnd (Tx.bs s) (Tx.bs s).length (a + 2) - (a + 2))) with | none => none | some p => if (Tx.bs s).length ≤ nameEnd (Tx.bs s) (Tx.bs s).length (a + 2) + 1 then none else some (fun x => decide (x < 256) && p x, nameEnd (Tx.bs s) (Tx.bs s).length (a + 2) + 2) := by
    unfold itemF
    rw [h1]
    simp only
    rw [if_pos ⟨trivial, h2⟩]
    generalize clsF (((Tx.bs s).drop (a + 2)).take (nameEnd (Tx.bs s) (Tx.bs s).length (a + 2) - (a + 2))) = q
    cases q <;> rfl
  rw [hI]
  by_cases hm : Lib.index ((Tx.bs s).drop (a + 2)) [58, 93] = -1
  · refine (namedItem_miss h hG hs (by omega) hm).mono fun e w' hp => ?_
    have h3 := i2 hm
    generalize clsF (((Tx.bs s).drop (a + 2)).take (nameEnd (Tx.bs s) (Tx.bs s).length (a + 2) - (a + 2))) = q
    cases q with
    | none => exact hp
    | some p =>
      simp only
      rw [if_pos h3]
      exact hp
  · obtain ⟨n, hn⟩ : ∃ n : Nat, Lib.index ((Tx.bs s).drop (a + 2)) [58, 93] = n := ⟨(Lib.index ((Tx.bs s).drop (a + 2)) [58, 93]).toNat, by omega⟩
    obtain ⟨e1, e2⟩ := i1 n hn
    refine (namedItem_hit h hG hs (by omega) n hn (by omega)).mono fun e w' hp => ?_
    rw [e1, show a + 2 + n - (a + 2) = n from by omega]
    cases hc : clsF (((Tx.bs s).drop (a + 2)).take n) with
    | none => rw [hc] at hp; exact hp
    | some p =>
      rw [hc] at hp
      simp only
      rw [if_neg (by omega)]
      obtain ⟨m, e3, e4, e5⟩ := hp
      exact ⟨m, e3, fun x hx => by simp only [decide_eq_true hx, Bool.true_and]; exact e4 x hx, e5⟩
end
end Px
end
section
open Go.RowKit
namespace Px
open Cm Rx
section
variable {w w0 : World} {base rb : Nat} {s : ByteArray} {a : Nat} {D : Int} {ns : List Nd} {ks : List Value}
theorem has_T (h1 : (Tx.bs s)[a]? = some 91) (h2 : (Tx.bs s)[a + 1]? = some 58) (q : World) : Calls Try.prog 86 #[.string (s.extract a s.size), .string ⟨#[91, 58]⟩] q fun e w' => e = .returned (.bool true) ∧ w' = q := by
  have h := Try.strings_HasPrefix (s.extract a s.size) ⟨#[91, 58]⟩ q
  rw [ext_end, show (⟨#[91, 58]⟩ : ByteArray).data.toList = [91, 58] from rfl, show Lib.hasPrefix ((Tx.bs s).drop a) [91, 58] = true from by
    have l1 := get_lt h2
    rw [List.drop_eq_getElem_cons (by omega), List.drop_eq_getElem_cons l1]
    rw [List.getElem?_eq_getElem (by omega)] at h1 h2
    rw [Option.some.inj h1, Option.some.inj h2]
    simp [Lib.hasPrefix, List.isPrefixOf]] at h
  exact h
theorem has_F (hx : ¬ ((Tx.bs s)[a]? = some 91 ∧ (Tx.bs s)[a + 1]? = some 58)) (q : World) : Calls Try.prog 86 #[.string (s.extract a s.size), .string ⟨#[91, 58]⟩] q fun e w' => e = .returned (.bool false) ∧ w' = q := by
  have h := Try.strings_HasPrefix (s.extract a s.size) ⟨#[91, 58]⟩ q
  rw [ext_end, show (⟨#[91, 58]⟩ : ByteArray).data.toList = [91, 58] from rfl, show Lib.hasPrefix ((Tx.bs s).drop a) [91, 58] = false from by
    rw [Bool.eq_false_iff]
    intro hp
    apply hx
    unfold Lib.hasPrefix at hp
    rw [List.isPrefixOf_iff_prefix] at hp
    obtain ⟨t, ht⟩ := hp
    have e0 : ((Tx.bs s).drop a)[0]? = some 91 := by rw [← ht]; rfl
    have e1 : ((Tx.bs s).drop a)[1]? = some 58 := by rw [← ht]; rfl
    rw [List.getElem?_drop] at e0 e1
    exact ⟨e0, e1⟩] at h
  exact h
set_option maxRecDepth 100000 in
set_option maxHeartbeats 4000000 in
theorem item_named (h : St w0 base rb s a D ns ks w) (hG : Glb base w) (hs : s.size ≤ 1000000) (h1 : (Tx.bs s)[a]? = some 91) (h2 : (Tx.bs s)[a + 1]? = some 58) :
    Calls Try.prog 79 #[.pointer (some ⟨rb, 0, none⟩)] w (ItemP w0 base rb s D ns ks (itemF (Tx.bs s) a)) := by
  have hl := get_lt h1
  rw [Tx.bs_len] at hl
  have HHas : Hid (∀ n, Calls Try.prog 86 #[.string (s.extract a s.size), .string ⟨#[91, 58]⟩] ((w.alloc zeroS).drewN n) _) := Lib.hid (fun q => has_T h1 h2 ((w.alloc zeroS).drewN q))
  have hal := fun o => h.below ((Below.refl _ _).alloc (Nat.le_refl _) o)
  have HNI := Lib.hid (fun q => namedItem_any (w0 := (w.alloc zeroS).drewN q) (St.start ((hal zeroS).1.drewN q)) (hG.below (below_drewN ((Below.refl _ _).alloc h.1.size zeroS) q)) hs h1 h2)
  have HSt := Lib.hid (fun q => (hal zeroS).drewN q)
  have HR := Lib.hid (HasO.new w zeroS)
  have hbase := h.1.size
  have hw0 := h.2.1.size
  have c0 := fun o => (hal o).cells.1
  have c1 := fun o => (hal o).cells.2.1
  have i0 : (0 : Int) ≤ (a : Int) := by omega
  have i1 : (a : Int) ≤ (s.size : Int) := by omega
  generalize itemF (Tx.bs s) a = r at HNI ⊢
  clear hal h h1 h2
  go_enter Try.func79, Try.ntmps79
  go_wp2_with fail
  go_quiet ((go_at_call 86; exact Calls.quiet_of_same (HHas.out _)))
  go_wp2_with fail
  refine (HNI.out _).mono ?_
  intro e w2 hq
  cases r with
  | none =>
    obtain ⟨rfl, B2⟩ := hq
    have HB2 := Lib.hid ((HSt.out _).2.1.trans B2)
    clear B2
    go_wp2_with fail
    exact ⟨rfl, rfl, HB2.out⟩
  | some p =>
    obtain ⟨p, a2⟩ := p
    obtain ⟨m, rfl, hm, S2⟩ := hq
    have R2 := Lib.hid (show HasO w2 w.heap.size zeroS from (S2.2.2 _ _ _ (by decide) (by decide) (show ((w.alloc zeroS).drewN _).heap[w.heap.size]? = some (.cells _ tBs (0, 0)) from HR.out)).trans HR.out)
    have HS2 := Lib.hid (show St w0 base rb s a2 D ns ks w2 from ⟨S2.1, (HSt.out _).2.1.trans S2.2.1, (HSt.out _).2.2.trans S2.2.2⟩)
    have HM := Lib.hid hm
    have zz := R2.out.zero
    obtain ⟨⟨z0, z1, z2, z3⟩, y0, y1, y2, y3⟩ := zz
    unfold setV
    clear S2 hm
    go_wp2_with fail
    refine bodyPost_ret (results_cell_row (p := 2) rfl _ _ _ _ _ _ _ rfl R2.out.copy Try.underlying128 rfl (by kernel_rfl)) rfl ?_
    exact ⟨m, rfl, HM.out, St_copyS HS2.out R2.out hw0 hbase _ _ _ _⟩
theorem ext_lt {k j : Nat} (h : k + j < s.size) : j < (s.extract k s.size).size := by rw [ByteArray.size_extract]; omega
theorem ext_at {k j : Nat} {x : UInt8} (hx : (Tx.bs s)[k + j]? = some x) (h : j < (s.extract k s.size).size) : (s.extract k s.size)[j].toNat = x.toNat := by
  have h1 := Tx.bs_get? (s.extract k s.size) j h
  have h2 : Tx.bs (s.extract k s.size) = (Tx.bs s).drop k := ext_end s k
  rw [h2, List.getElem?_drop, hx] at h1
  rw [Option.some.inj h1]
set_option maxRecDepth 100000 in
set_option maxHeartbeats 4000000 in
theorem item_range (h : St w0 base rb s a D ns ks w) (hs : s.size ≤ 1000000) (c c2 : UInt8) (hx : (Tx.bs s)[a]? = some c) (hn : ¬ ((Tx.bs s)[a]? = some 91 ∧ (Tx.bs s)[a + 1]? = some 58)) (h45 : (Tx.bs s)[a + 1]? = some 45) (hc2 : (Tx.bs s)[a + 2]? = some c2) (h93 : c2 ≠ 93) (hle : c.toNat ≤ c2.toNat) :
    Calls Try.prog 79 #[.pointer (some ⟨rb, 0, none⟩)] w (ItemP w0 base rb s D ns ks (some (spanM c.toNat c2.toNat, a + 3))) := by
  have hl := get_lt hc2
  rw [Tx.bs_len] at hl
  have hal := fun o => h.below ((Below.refl _ _).alloc (Nat.le_refl _) o)
  have HHas : Hid (∀ n, Calls Try.prog 86 #[.string (s.extract a s.size), .string ⟨#[91, 58]⟩] ((w.alloc zeroS).drewN n) _) := Lib.hid (fun q => has_F hn ((w.alloc zeroS).drewN q))
  have HNx := Lib.hid (fun q => next_T (w0 := (w.alloc zeroS).drewN q) (St.start ((hal zeroS).1.drewN q)) hs hx)
  have HSt := Lib.hid (fun q => (hal zeroS).drewN q)
  have HR := Lib.hid (HasO.new w zeroS)
  have hbase := h.1.size
  have hw0 := h.2.1.size
  have c0 := fun o => (hal o).cells.1
  have c1 := fun o => (hal o).cells.2.1
  have i0 : (0 : Int) ≤ (a : Int) := by omega
  have i1 : (a : Int) ≤ (s.size : Int) := by omega
  have i2 : (0 : Int) ≤ (a : Int) + 1 := by omega
  have i3 : (a : Int) + 1 ≤ (s.size : Int) := by omega
  have i4 : ((a : Int) + 1).toNat = a + 1 := by omega
  have g0 := ext_at (s := s) (k := a + 1) (j := 0) h45 (ext_lt (by omega))
  have g1 := ext_at (s := s) (k := a + 1) (j := 1) hc2 (ext_lt (by omega))
  rw [show (45 : UInt8).toNat = 45 from rfl] at g0
  have k1 : (1 : Int) < ((s.size - (a + 1) : Nat) : Int) := by omega
  have k0 : 0 < s.size - (a + 1) := by omega
  have k2 : 1 < s.size - (a + 1) := by omega
  have x1 : ((c2.toNat : Int) == 93) = false := by rw [beq_eq_false_iff_ne]; intro e; apply h93; apply UInt8.toNat_inj.1; show c2.toNat = 93; omega
  have x2 : ((c2.toNat : Int) != 93) = true := by rw [bne, x1]; rfl
  have x3 : ¬ c2.toNat < c.toNat := by omega
  have hb2 := c2.toNat_lt
  have HSp := Lib.hid (fun wq => span_any c.toNat c2.toNat hle hb2 wq)
  clear h45 hc2 h93
  clear hal h hx hn
  go_enter Try.func79, Try.ntmps79
  go_wp2_with fail
  go_quiet ((go_at_call 86; exact Calls.quiet_of_same (HHas.out _)))
  go_wp2_with fail
  refine (HNx.out _).mono ?_
  rintro e w2 ⟨rfl, S2⟩
  have R2 := Lib.hid (show HasO w2 w.heap.size zeroS from (S2.2.2 _ _ _ (by decide) (by decide) (show ((w.alloc zeroS).drewN _).heap[w.heap.size]? = some (.cells _ tBs (0, 0)) from HR.out)).trans HR.out)
  have HS2 := Lib.hid (show St w0 base rb s (a + 1) D ns ks w2 from ⟨S2.1, (HSt.out _).2.1.trans S2.2.1, (HSt.out _).2.2.trans S2.2.2⟩)
  obtain ⟨d0, d1, d2, hf⟩ := HS2.out.cells
  have f1 := hf 1
  rw [show (((a + 1 : Nat) : Int)) = (a : Int) + 1 from by omega] at d1
  clear S2 hf c0 c1
  have hrw : w.heap.size ≠ rb := by
    obtain ⟨⟨v, _, hh, _⟩, _⟩ := HS2.out
    intro e
    have h2 := R2.out
    unfold HasO at h2
    rw [e, hh] at h2
    injection h2 with h2
    injection h2 with _ ht
    exact absurd ht (by decide)
  have HS3 := Lib.hid (fun q => (HS2.out.drewN q).setAt (a + 3))
  rw [show ((a + 3 : Nat) : Int) = (a : Int) + 1 + 2 from by omega] at HS3
  have HR3 := Lib.hid (fun q v => HasO.other (W := w2.drewN q) (c := rb) (j := 1) (v := v) (show HasO (w2.drewN q) w.heap.size zeroS from R2.out) hrw)
  clear hrw
  go_wp2_with fail
  go_quiet (fail)
  go_wp2_with fail
  refine (HSp.out _).mono ?_
  rintro e w3 ⟨rfl, B3⟩
  have HS4 := Lib.hid ((HS3.out _).below B3)
  have R4 := Lib.hid ((HR3.out _ _).below B3)
  have zz := R4.out.zero
  obtain ⟨⟨z0, z1, z2, z3⟩, y0, y1, y2, y3⟩ := zz
  unfold setV
  clear B3
  go_wp2_with fail
  refine bodyPost_ret (results_cell_row (p := 2) rfl _ _ _ _ _ _ _ rfl R4.out.copy Try.underlying128 rfl (by kernel_rfl)) rfl ?_
  exact ⟨_, rfl, fun x _ => rfl, St_copyS HS4.out R4.out hw0 hbase _ _ _ _⟩
set_option maxRecDepth 100000 in
set_option maxHeartbeats 4000000 in
theorem item_turned (h : St w0 base rb s a D ns ks w) (hs : s.size ≤ 1000000) (c c2 : UInt8) (hx : (Tx.bs s)[a]? = some c) (hn : ¬ ((Tx.bs s)[a]? = some 91 ∧ (Tx.bs s)[a + 1]? = some 58)) (h45 : (Tx.bs s)[a + 1]? = some 45) (hc2 : (Tx.bs s)[a + 2]? = some c2) (h93 : c2 ≠ 93) (hle : c2.toNat < c.toNat) :
    Calls Try.prog 79 #[.pointer (some ⟨rb, 0, none⟩)] w (ItemP w0 base rb s D ns ks none) := by
  have hl := get_lt hc2
  rw [Tx.bs_len] at hl
  have hal := fun o => h.below ((Below.refl _ _).alloc (Nat.le_refl _) o)
  have HHas : Hid (∀ n, Calls Try.prog 86 #[.string (s.extract a s.size), .string ⟨#[91, 58]⟩] ((w.alloc zeroS).drewN n) _) := Lib.hid (fun q => has_F hn ((w.alloc zeroS).drewN q))
  have HNx := Lib.hid (fun q => next_T (w0 := (w.alloc zeroS).drewN q) (St.start ((hal zeroS).1.drewN q)) hs hx)
  have HSt := Lib.hid (fun q => (hal zeroS).drewN q)
  have HR := Lib.hid (HasO.new w zeroS)
  have hbase := h.1.size
  have hw0 := h.2.1.size
  have c0 := fun o => (hal o).cells.1
  have c1 := fun o => (hal o).cells.2.1
  have i0 : (0 : Int) ≤ (a : Int) := by omega
  have i1 : (a : Int) ≤ (s.size : Int) := by omega
  have i2 : (0 : Int) ≤ (a : Int) + 1 := by omega
  have i3 : (a : Int) + 1 ≤ (s.size : Int) := by omega
  have i4 : ((a : Int) + 1).toNat = a + 1 := by omega
  have g0 := ext_at (s := s) (k := a + 1) (j := 0) h45 (ext_lt (by omega))
  have g1 := ext_at (s := s) (k := a + 1) (j := 1) hc2 (ext_lt (by omega))
  rw [show (45 : UInt8).toNat = 45 from rfl] at g0
  have k1 : (1 : Int) < ((s.size - (a + 1) : Nat) : Int) := by omega
  have k0 : 0 < s.size - (a + 1) := by omega
  have k2 : 1 < s.size - (a + 1) := by omega
  have x1 : ((c2.toNat : Int) == 93) = false := by rw [beq_eq_false_iff_ne]; intro e; apply h93; apply UInt8.toNat_inj.1; show c2.toNat = 93; omega
  have x2 : ((c2.toNat : Int) != 93) = true := by rw [bne, x1]; rfl
  have x3 : (c2.toNat : Int) < (c.toNat : Int) := by omega
  clear h45 hc2 h93
  clear hal h hx hn
  go_enter Try.func79, Try.ntmps79
  go_wp2_with fail
  go_quiet ((go_at_call 86; exact Calls.quiet_of_same (HHas.out _)))
  go_wp2_with fail
  refine (HNx.out _).mono ?_
  rintro e w2 ⟨rfl, S2⟩
  have R2 := Lib.hid (show HasO w2 w.heap.size zeroS from (S2.2.2 _ _ _ (by decide) (by decide) (show ((w.alloc zeroS).drewN _).heap[w.heap.size]? = some (.cells _ tBs (0, 0)) from HR.out)).trans HR.out)
  have HS2 := Lib.hid (show St w0 base rb s (a + 1) D ns ks w2 from ⟨S2.1, (HSt.out _).2.1.trans S2.2.1, (HSt.out _).2.2.trans S2.2.2⟩)
  obtain ⟨d0, d1, d2, hf⟩ := HS2.out.cells
  have f1 := hf 1
  rw [show (((a + 1 : Nat) : Int)) = (a : Int) + 1 from by omega] at d1
  clear S2 hf c0 c1
  have hrw : w.heap.size ≠ rb := by
    obtain ⟨⟨v, _, hh, _⟩, _⟩ := HS2.out
    intro e
    have h2 := R2.out
    unfold HasO at h2
    rw [e, hh] at h2
    injection h2 with h2
    injection h2 with _ ht
    exact absurd ht (by decide)
  have HS3 := Lib.hid (fun q => (HS2.out.drewN q).setAt (a + 3))
  rw [show ((a + 3 : Nat) : Int) = (a : Int) + 1 + 2 from by omega] at HS3
  have HR3 := Lib.hid (fun q v => HasO.other (W := w2.drewN q) (c := rb) (j := 1) (v := v) (show HasO (w2.drewN q) w.heap.size zeroS from R2.out) hrw)
  clear hrw
  go_wp2_with fail
  go_quiet (fail)
  go_wp2_with fail
  exact ⟨rfl, rfl, (HS3.out _).2.1⟩
set_option maxRecDepth 100000 in
set_option maxHeartbeats 4000000 in
theorem item_short (h : St w0 base rb s a D ns ks w) (hs : s.size ≤ 1000000) (c : UInt8) (hx : (Tx.bs s)[a]? = some c) (hn : ¬ ((Tx.bs s)[a]? = some 91 ∧ (Tx.bs s)[a + 1]? = some 58)) (hsh : s.size ≤ a + 2) :
    Calls Try.prog 79 #[.pointer (some ⟨rb, 0, none⟩)] w (ItemP w0 base rb s D ns ks (some (spanM c.toNat c.toNat, a + 1))) := by
  have hl := get_lt hx
  rw [Tx.bs_len] at hl
  have hal := fun o => h.below ((Below.refl _ _).alloc (Nat.le_refl _) o)
  have HHas : Hid (∀ n, Calls Try.prog 86 #[.string (s.extract a s.size), .string ⟨#[91, 58]⟩] ((w.alloc zeroS).drewN n) _) := Lib.hid (fun q => has_F hn ((w.alloc zeroS).drewN q))
  have HNx := Lib.hid (fun q => next_T (w0 := (w.alloc zeroS).drewN q) (St.start ((hal zeroS).1.drewN q)) hs hx)
  have HSt := Lib.hid (fun q => (hal zeroS).drewN q)
  have HR := Lib.hid (HasO.new w zeroS)
  have hbase := h.1.size
  have hw0 := h.2.1.size
  have c0 := fun o => (hal o).cells.1
  have c1 := fun o => (hal o).cells.2.1
  have i0 : (0 : Int) ≤ (a : Int) := by omega
  have i1 : (a : Int) ≤ (s.size : Int) := by omega
  have i2 : (0 : Int) ≤ (a : Int) + 1 := by omega
  have i3 : (a : Int) + 1 ≤ (s.size : Int) := by omega
  have i4 : ((a : Int) + 1).toNat = a + 1 := by omega
  have k1 : ¬ (1 : Int) < ((s.size - (a + 1) : Nat) : Int) := by omega
  have hb2 := c.toNat_lt
  have HSp := Lib.hid (fun wq => span_any c.toNat c.toNat (Nat.le_refl _) hb2 wq)
  have x9 : ¬ (c.toNat : Int) < (c.toNat : Int) := by omega
  clear hal h hx hn
  go_enter Try.func79, Try.ntmps79
  go_wp2_with fail
  go_quiet ((go_at_call 86; exact Calls.quiet_of_same (HHas.out _)))
  go_wp2_with fail
  refine (HNx.out _).mono ?_
  rintro e w2 ⟨rfl, S2⟩
  have R2 := Lib.hid (show HasO w2 w.heap.size zeroS from (S2.2.2 _ _ _ (by decide) (by decide) (show ((w.alloc zeroS).drewN _).heap[w.heap.size]? = some (.cells _ tBs (0, 0)) from HR.out)).trans HR.out)
  have HS2 := Lib.hid (show St w0 base rb s (a + 1) D ns ks w2 from ⟨S2.1, (HSt.out _).2.1.trans S2.2.1, (HSt.out _).2.2.trans S2.2.2⟩)
  obtain ⟨d0, d1, d2, hf⟩ := HS2.out.cells
  have f1 := hf 1
  rw [show (((a + 1 : Nat) : Int)) = (a : Int) + 1 from by omega] at d1
  clear S2 hf c0 c1
  have HS3 := Lib.hid (fun q => HS2.out.drewN q)
  have HR3 := Lib.hid (fun q => show HasO (w2.drewN q) w.heap.size zeroS from R2.out)
  go_wp2_with fail
  go_quiet (fail)
  go_wp2_with fail
  refine (HSp.out _).mono ?_
  rintro e w3 ⟨rfl, B3⟩
  have HS4 := Lib.hid ((HS3.out _).below B3)
  have R4 := Lib.hid ((HR3.out _).below B3)
  have zz := R4.out.zero
  obtain ⟨⟨z0, z1, z2, z3⟩, y0, y1, y2, y3⟩ := zz
  unfold setV
  clear B3
  go_wp2_with fail
  refine bodyPost_ret (results_cell_row (p := 2) rfl _ _ _ _ _ _ _ rfl R4.out.copy Try.underlying128 rfl (by kernel_rfl)) rfl ?_
  exact ⟨_, rfl, fun x _ => rfl, St_copyS HS4.out R4.out hw0 hbase _ _ _ _⟩
set_option maxRecDepth 100000 in
set_option maxHeartbeats 4000000 in
theorem item_other (h : St w0 base rb s a D ns ks w) (hs : s.size ≤ 1000000) (c : UInt8) (hx : (Tx.bs s)[a]? = some c) (hn : ¬ ((Tx.bs s)[a]? = some 91 ∧ (Tx.bs s)[a + 1]? = some 58)) (b1 : UInt8) (h1 : (Tx.bs s)[a + 1]? = some b1) (h45 : b1 ≠ 45) (h2 : a + 2 < s.size) :
    Calls Try.prog 79 #[.pointer (some ⟨rb, 0, none⟩)] w (ItemP w0 base rb s D ns ks (some (spanM c.toNat c.toNat, a + 1))) := by
  have hl := get_lt hx
  rw [Tx.bs_len] at hl
  have hal := fun o => h.below ((Below.refl _ _).alloc (Nat.le_refl _) o)
  have HHas : Hid (∀ n, Calls Try.prog 86 #[.string (s.extract a s.size), .string ⟨#[91, 58]⟩] ((w.alloc zeroS).drewN n) _) := Lib.hid (fun q => has_F hn ((w.alloc zeroS).drewN q))
  have HNx := Lib.hid (fun q => next_T (w0 := (w.alloc zeroS).drewN q) (St.start ((hal zeroS).1.drewN q)) hs hx)
  have HSt := Lib.hid (fun q => (hal zeroS).drewN q)
  have HR := Lib.hid (HasO.new w zeroS)
  have hbase := h.1.size
  have hw0 := h.2.1.size
  have c0 := fun o => (hal o).cells.1
  have c1 := fun o => (hal o).cells.2.1
  have i0 : (0 : Int) ≤ (a : Int) := by omega
  have i1 : (a : Int) ≤ (s.size : Int) := by omega
  have i2 : (0 : Int) ≤ (a : Int) + 1 := by omega
  have i3 : (a : Int) + 1 ≤ (s.size : Int) := by omega
  have i4 : ((a : Int) + 1).toNat = a + 1 := by omega
  have g0 := ext_at (s := s) (k := a + 1) (j := 0) h1 (ext_lt (by omega))
  have k1 : (1 : Int) < ((s.size - (a + 1) : Nat) : Int) := by omega
  have k0 : 0 < s.size - (a + 1) := by omega
  have x1 : ((b1.toNat : Int) == 45) = false := by rw [beq_eq_false_iff_ne]; intro e; apply h45; apply UInt8.toNat_inj.1; show b1.toNat = 45; omega
  clear h1 h45
  have hb2 := c.toNat_lt
  have HSp := Lib.hid (fun wq => span_any c.toNat c.toNat (Nat.le_refl _) hb2 wq)
  have x9 : ¬ (c.toNat : Int) < (c.toNat : Int) := by omega
  clear hal h hx hn
  go_enter Try.func79, Try.ntmps79
  go_wp2_with fail
  go_quiet ((go_at_call 86; exact Calls.quiet_of_same (HHas.out _)))
  go_wp2_with fail
  refine (HNx.out _).mono ?_
  rintro e w2 ⟨rfl, S2⟩
  have R2 := Lib.hid (show HasO w2 w.heap.size zeroS from (S2.2.2 _ _ _ (by decide) (by decide) (show ((w.alloc zeroS).drewN _).heap[w.heap.size]? = some (.cells _ tBs (0, 0)) from HR.out)).trans HR.out)
  have HS2 := Lib.hid (show St w0 base rb s (a + 1) D ns ks w2 from ⟨S2.1, (HSt.out _).2.1.trans S2.2.1, (HSt.out _).2.2.trans S2.2.2⟩)
  obtain ⟨d0, d1, d2, hf⟩ := HS2.out.cells
  have f1 := hf 1
  rw [show (((a + 1 : Nat) : Int)) = (a : Int) + 1 from by omega] at d1
  clear S2 hf c0 c1
  have HS3 := Lib.hid (fun q => HS2.out.drewN q)
  have HR3 := Lib.hid (fun q => show HasO (w2.drewN q) w.heap.size zeroS from R2.out)
  go_wp2_with fail
  go_quiet (fail)
  go_wp2_with fail
  refine (HSp.out _).mono ?_
  rintro e w3 ⟨rfl, B3⟩
  have HS4 := Lib.hid ((HS3.out _).below B3)
  have R4 := Lib.hid ((HR3.out _).below B3)
  have zz := R4.out.zero
  obtain ⟨⟨z0, z1, z2, z3⟩, y0, y1, y2, y3⟩ := zz
  unfold setV
  clear B3
  go_wp2_with fail
  refine bodyPost_ret (results_cell_row (p := 2) rfl _ _ _ _ _ _ _ rfl R4.out.copy Try.underlying128 rfl (by kernel_rfl)) rfl ?_
  exact ⟨_, rfl, fun x _ => rfl, St_copyS HS4.out R4.out hw0 hbase _ _ _ _⟩
set_option maxRecDepth 100000 in
set_option maxHeartbeats 4000000 in
theorem item_close (h : St w0 base rb s a D ns ks w) (hs : s.size ≤ 1000000) (c : UInt8) (hx : (Tx.bs s)[a]? = some c) (hn : ¬ ((Tx.bs s)[a]? = some 91 ∧ (Tx.bs s)[a + 1]? = some 58)) (h45 : (Tx.bs s)[a + 1]? = some 45) (h93 : (Tx.bs s)[a + 2]? = some 93) :
    Calls Try.prog 79 #[.pointer (some ⟨rb, 0, none⟩)] w (ItemP w0 base rb s D ns ks (some (spanM c.toNat c.toNat, a + 1))) := by
  have hl := get_lt hx
  rw [Tx.bs_len] at hl
  have hal := fun o => h.below ((Below.refl _ _).alloc (Nat.le_refl _) o)
  have HHas : Hid (∀ n, Calls Try.prog 86 #[.string (s.extract a s.size), .string ⟨#[91, 58]⟩] ((w.alloc zeroS).drewN n) _) := Lib.hid (fun q => has_F hn ((w.alloc zeroS).drewN q))
  have HNx := Lib.hid (fun q => next_T (w0 := (w.alloc zeroS).drewN q) (St.start ((hal zeroS).1.drewN q)) hs hx)
  have HSt := Lib.hid (fun q => (hal zeroS).drewN q)
  have HR := Lib.hid (HasO.new w zeroS)
  have hbase := h.1.size
  have hw0 := h.2.1.size
  have c0 := fun o => (hal o).cells.1
  have c1 := fun o => (hal o).cells.2.1
  have i0 : (0 : Int) ≤ (a : Int) := by omega
  have i1 : (a : Int) ≤ (s.size : Int) := by omega
  have i2 : (0 : Int) ≤ (a : Int) + 1 := by omega
  have i3 : (a : Int) + 1 ≤ (s.size : Int) := by omega
  have i4 : ((a : Int) + 1).toNat = a + 1 := by omega
  have h2 := get_lt h93
  rw [Tx.bs_len] at h2
  have g0 := ext_at (s := s) (k := a + 1) (j := 0) h45 (ext_lt (by omega))
  have g1 := ext_at (s := s) (k := a + 1) (j := 1) h93 (ext_lt (by omega))
  rw [show (45 : UInt8).toNat = 45 from rfl] at g0
  rw [show (93 : UInt8).toNat = 93 from rfl] at g1
  have k1 : (1 : Int) < ((s.size - (a + 1) : Nat) : Int) := by omega
  have k0 : 0 < s.size - (a + 1) := by omega
  have k2 : 1 < s.size - (a + 1) := by omega
  clear h45 h93
  have hb2 := c.toNat_lt
  have HSp := Lib.hid (fun wq => span_any c.toNat c.toNat (Nat.le_refl _) hb2 wq)
  have x9 : ¬ (c.toNat : Int) < (c.toNat : Int) := by omega
  clear hal h hx hn
  go_enter Try.func79, Try.ntmps79
  go_wp2_with fail
  go_quiet ((go_at_call 86; exact Calls.quiet_of_same (HHas.out _)))
  go_wp2_with fail
  refine (HNx.out _).mono ?_
  rintro e w2 ⟨rfl, S2⟩
  have R2 := Lib.hid (show HasO w2 w.heap.size zeroS from (S2.2.2 _ _ _ (by decide) (by decide) (show ((w.alloc zeroS).drewN _).heap[w.heap.size]? = some (.cells _ tBs (0, 0)) from HR.out)).trans HR.out)
  have HS2 := Lib.hid (show St w0 base rb s (a + 1) D ns ks w2 from ⟨S2.1, (HSt.out _).2.1.trans S2.2.1, (HSt.out _).2.2.trans S2.2.2⟩)
  obtain ⟨d0, d1, d2, hf⟩ := HS2.out.cells
  have f1 := hf 1
  rw [show (((a + 1 : Nat) : Int)) = (a : Int) + 1 from by omega] at d1
  clear S2 hf c0 c1
  have HS3 := Lib.hid (fun q => HS2.out.drewN q)
  have HR3 := Lib.hid (fun q => show HasO (w2.drewN q) w.heap.size zeroS from R2.out)
  go_wp2_with fail
  go_quiet (fail)
  go_wp2_with fail
  refine (HSp.out _).mono ?_
  rintro e w3 ⟨rfl, B3⟩
  have HS4 := Lib.hid ((HS3.out _).below B3)
  have R4 := Lib.hid ((HR3.out _).below B3)
  have zz := R4.out.zero
  obtain ⟨⟨z0, z1, z2, z3⟩, y0, y1, y2, y3⟩ := zz
  unfold setV
  clear B3
  go_wp2_with fail
  refine bodyPost_ret (results_cell_row (p := 2) rfl _ _ _ _ _ _ _ rfl R4.out.copy Try.underlying128 rfl (by kernel_rfl)) rfl ?_
  exact ⟨_, rfl, fun x _ => rfl, St_copyS HS4.out R4.out hw0 hbase _ _ _ _⟩
set_option maxRecDepth 100000 in
set_option maxHeartbeats 4000000 in
theorem item_end (h : St w0 base rb s a D ns ks w) (hs : s.size ≤ 1000000) (ha : a ≤ s.size) (hx : (Tx.bs s)[a]? = none) :
    Calls Try.prog 79 #[.pointer (some ⟨rb, 0, none⟩)] w (ItemP w0 base rb s D ns ks none) := by
  have hal := fun o => h.below ((Below.refl _ _).alloc (Nat.le_refl _) o)
  have HHas : Hid (∀ n, Calls Try.prog 86 #[.string (s.extract a s.size), .string ⟨#[91, 58]⟩] ((w.alloc zeroS).drewN n) _) := Lib.hid (fun q => has_F (by rw [hx]; rintro ⟨h, _⟩; cases h) ((w.alloc zeroS).drewN q))
  have HNx := Lib.hid (fun q => next_F ((hal zeroS).drewN q) hs ha hx)
  have c0 := fun o => (hal o).cells.1
  have c1 := fun o => (hal o).cells.2.1
  have i0 : (0 : Int) ≤ (a : Int) := by omega
  have i1 : (a : Int) ≤ (s.size : Int) := by omega
  clear hal h hx
  go_enter Try.func79, Try.ntmps79
  go_wp2_with fail
  go_quiet ((go_at_call 86; exact Calls.quiet_of_same (HHas.out _)))
  go_wp2_with fail
  refine (HNx.out _).mono ?_
  rintro e w2 ⟨rfl, B2⟩
  have HB := Lib.hid B2
  clear B2
  go_wp2_with fail
  exact ⟨rfl, rfl, HB.out⟩
end
end Px
end
section
open Go.RowKit
namespace Px
open Cm Rx
section
variable {w w0 : World} {base rb : Nat} {s : ByteArray} {a : Nat} {D : Int} {ns : List Nd} {ks : List Value}
theorem ItemP_eq {p q : Nat → Bool} {a2 : Nat} {e : Ending} {w' : World} (h : ItemP w0 base rb s D ns ks (some (p, a2)) e w') (hpq : ∀ x, x < 256 → p x = q x) : ItemP w0 base rb s D ns ks (some (q, a2)) e w' := by
  obtain ⟨m, e1, e2, e3⟩ := h
  exact ⟨m, e1, fun x hx => by rw [e2 x hx, hpq x hx], e3⟩
theorem one_set (c : UInt8) (x : Nat) : spanM c.toNat c.toNat x = (x == c.toNat) := by
  unfold spanM
  rw [Bool.eq_iff_iff]
  simp only [Bool.and_eq_true, decide_eq_true_eq, beq_iff_eq]
  omega
/-- One item. -/
theorem item_any (h : St w0 base rb s a D ns ks w) (hG : Glb base w) (hs : s.size ≤ 1000000) (ha : a ≤ s.size) :
    Calls Try.prog 79 #[.pointer (some ⟨rb, 0, none⟩)] w (ItemP w0 base rb s D ns ks (itemF (Tx.bs s) a)) := by
  have hlen := Tx.bs_len s
  cases hx : (Tx.bs s)[a]? with
  | none =>
    rw [show itemF (Tx.bs s) a = none from by unfold itemF; rw [hx]]
    exact item_end h hs ha hx
  | some c =>
    by_cases hn : (Tx.bs s)[a]? = some 91 ∧ (Tx.bs s)[a + 1]? = some 58
    · exact item_named h hG hs hn.1 hn.2
    · have hn2 : ¬ (c = 91 ∧ (Tx.bs s)[a + 1]? = some 58) := fun hc => hn ⟨by rw [hx, hc.1], hc.2⟩
      by_cases hr : (Tx.bs s)[a + 1]? = some 45 ∧ a + 2 < (Tx.bs s).length ∧ (Tx.bs s)[a + 2]? ≠ some 93
      · obtain ⟨h45, hl2, h93⟩ := hr
        obtain ⟨c2, hc2⟩ : ∃ c2, (Tx.bs s)[a + 2]? = some c2 := ⟨_, List.getElem?_eq_getElem hl2⟩
        have hI : itemF (Tx.bs s) a = if c2 < c then none else some (fun x => decide (c.toNat ≤ x) && decide (x ≤ c2.toNat), a + 3) := by
          unfold itemF
          rw [hx]
          simp only
          rw [if_neg hn2, if_pos ⟨h45, hl2, h93⟩, hc2]
          rfl
        rw [hI]
        have hne : c2 ≠ 93 := fun e => h93 (by rw [hc2, e])
        by_cases hlt : c2 < c
        · rw [if_pos hlt]
          exact item_turned h hs c c2 hx hn h45 hc2 hne (UInt8.lt_iff_toNat_lt.1 hlt)
        · rw [if_neg hlt]
          exact item_range h hs c c2 hx hn h45 hc2 hne (by rcases Nat.lt_or_ge c2.toNat c.toNat with h4 | h4; exact absurd (UInt8.lt_iff_toNat_lt.2 h4) hlt; exact h4)
      · have hI : itemF (Tx.bs s) a = some (fun x => x == c.toNat, a + 1) := by
          unfold itemF
          rw [hx]
          simp only
          rw [if_neg hn2, if_neg hr]
        rw [hI]
        have hq : ∀ (e : Ending) (w' : World), ItemP w0 base rb s D ns ks (some (spanM c.toNat c.toNat, a + 1)) e w' → ItemP w0 base rb s D ns ks (some (fun x => x == c.toNat, a + 1)) e w' := fun e w' hp => ItemP_eq hp fun x _ => one_set c x
        by_cases hsh : s.size ≤ a + 2
        · exact (item_short h hs c hx hn hsh).mono hq
        · obtain ⟨b1, hb1⟩ : ∃ b1, (Tx.bs s)[a + 1]? = some b1 := ⟨_, List.getElem?_eq_getElem (by omega)⟩
          by_cases h45 : b1 = 45
          · subst h45
            have h93 : (Tx.bs s)[a + 2]? = some 93 := by
              apply Classical.byContradiction
              intro h3
              exact hr ⟨hb1, by omega, h3⟩
            exact (item_close h hs c hx hn hb1 h93).mono hq
          · exact (item_other h hs c hx hn b1 hb1 h45 (by omega)).mono hq
/-- Between two items. -/
def CRel (s : ByteArray) (total : Option ((Nat → Bool) × Nat)) (w0 : World) (base rb H : Nat) (D : Int) (ns : List Nd) (ks : List Value) (wr : World) : Prop :=
  ∃ (f a : Nat) (m mv : Nat → Bool), total = itemsF (Tx.bs s) f false a m ∧ s.size < a + f ∧ a ≤ s.size ∧ St w0 base rb s a D ns ks wr ∧ HasO wr H (rowS mv) ∧ (∀ x, x < 256 → mv x = m x) ∧ w0.heap.size ≤ H ∧ base ≤ H
theorem HasO.copyR {W : World} {b : Nat} {m0 m : Nat → Bool} (h : HasO W b (rowS m0)) : HasO ((((W.setCell ⟨b, 0, none⟩ (.int .u64 (word m 0 : Nat))).setCell ⟨b, 1, none⟩ (.int .u64 (word m 1 : Nat))).setCell ⟨b, 2, none⟩ (.int .u64 (word m 2 : Nat))).setCell ⟨b, 3, none⟩ (.int .u64 (word m 3 : Nat))) b (rowS m) := by
  unfold HasO at h ⊢
  rw [set_block (set_block (set_block (set_block h)))]
  rfl
theorem HasO.froz {W : World} {b : Nat} {m : Nat → Bool} (h : HasO W b (rowS m)) : (W.frozen? ⟨b, 0, none⟩ = false ∧ W.frozen? ⟨b, 1, none⟩ = false) ∧ W.frozen? ⟨b, 2, none⟩ = false ∧ W.frozen? ⟨b, 3, none⟩ = false := by
  unfold HasO at h
  simp [World.frozen?, h]
theorem St_copyR (h : St w0 base rb s a D ns ks w) {H : Nat} {m : Nat → Bool} (hH : HasO w H (rowS m)) (h0 : w0.heap.size ≤ H) (hb : base ≤ H) (x y z u : Value) : St w0 base rb s a D ns ks ((((w.setCell ⟨H, 0, none⟩ x).setCell ⟨H, 1, none⟩ y).setCell ⟨H, 2, none⟩ z).setCell ⟨H, 3, none⟩ u) := by
  have h1 := St_setS h hH h0 hb x (j := 0)
  have k1 : HasO (w.setCell ⟨H, 0, none⟩ x) H (.cells _ tBs) := set_block hH
  have h2 := St_setS h1 k1 h0 hb y (j := 1)
  have k2 : HasO ((w.setCell ⟨H, 0, none⟩ x).setCell ⟨H, 1, none⟩ y) H (.cells _ tBs) := set_block k1
  have h3 := St_setS h2 k2 h0 hb z (j := 2)
  have k3 : HasO (((w.setCell ⟨H, 0, none⟩ x).setCell ⟨H, 1, none⟩ y).setCell ⟨H, 2, none⟩ z) H (.cells _ tBs) := set_block k2
  exact St_setS h3 k3 h0 hb u (j := 3)
theorem items_go {l : List UInt8} {f a : Nat} {m : Nat → Bool} (h : ¬ l[a]? = some 93) : itemsF l (f + 1) false a m = match itemF l a with | none => none | some (p, a2) => itemsF l f false a2 (fun x => m x || p x) := by
  rw [items_step, if_neg (by rw [Bool.not_false, Bool.true_and, beq_iff_eq]; exact h)]
  generalize itemF l a = q
  rcases q with _ | ⟨_, _⟩ <;> rfl
/-- What is made of a class's items. -/
def clsP (ns : List Nd) (t : Option ((Nat → Bool) × Nat)) : Res :=
  match t with
  | none => .error 40
  | some (m, a) => .ok (ns.length, a + 1, ns ++ [setN m])
def clsN (ns : List Nd) (t : Option ((Nat → Bool) × Nat)) : Res :=
  match t with
  | none => .error 40
  | some (m, a) => .ok (ns.length, a + 1, ns ++ [setN (fun x => !m x)])
theorem crel_meas {a' : Nat} (h : St w0 base rb s a' D ns ks w) (ha : a' ≤ s.size) : meas s rb w = s.size + 1 - a' := meas_ok h ha
set_option maxRecDepth 100000 in
set_option maxHeartbeats 8000000 in
theorem class_plain (h : Prs w base rb s (a : Int) D ns ks) (hG : Glb base w) (hs : s.size ≤ 1000000) (ha : a < s.size) (hn : ns.length ≤ 1000000) (hx : ¬ (Tx.bs s)[a + 1]? = some 94) :
    Calls Try.prog 69 #[.pointer (some ⟨rb, 0, none⟩)] w (PPost w base rb s D ks (clsP ns (itemsF (Tx.bs s) ((Tx.bs s).length + 1) true (a + 1) noSet))) := by
  have S0 := (St.start h).setAt (a + 1)
  have HTk := Lib.hid (take_F S0 hs (by omega) hx 94 rfl)
  have HIt := Lib.hid (fun (b : Nat) (wq : World) (hq : St w base rb s b D ns ks wq) (hb : b ≤ s.size) => item_any (St.start hq.1) (hG.below hq.2.1) hs hb)
  have HTot : Hid (itemsF (Tx.bs s) ((Tx.bs s).length + 1) true (a + 1) noSet = match itemF (Tx.bs s) (a + 1) with | none => none | some (p, a2) => itemsF (Tx.bs s) (Tx.bs s).length false a2 (fun x => noSet x || p x)) := Lib.hid (by rw [items_step]; rfl)
  generalize itemsF (Tx.bs s) ((Tx.bs s).length + 1) true (a + 1) noSet = total at HTot ⊢
  generalize hres : clsP ns total = r
  obtain ⟨c0, c1, c2, hf⟩ := (St.start h).cells
  have f1 := hf 1
  have hbase := h.size
  have HI0 := Lib.hid (fun wq hq => HIt.out (a + 1) wq hq (by omega))
  cases hi : itemF (Tx.bs s) (a + 1) with
  | none =>
    rw [hi] at HTot HI0
    have HR : Hid (r = .error 40) := Lib.hid (by rw [← hres, HTot.out]; rfl)
    clear hf h S0 hi hres
    go_enter Try.func69, Try.ntmps69
    go_wp2_with fail
    refine HTk.out.mono ?_
    rintro en w1 ⟨rfl, S1⟩
    have HI1 := Lib.hid (HI0.out _ S1)
    have HB1 := Lib.hid S1.2.1
    clear S1
    go_wp2_with fail
    refine HI1.out.mono ?_
    rintro en w2 ⟨rfl, B2⟩
    have HB2 := Lib.hid (HB1.out.trans B2)
    clear B2
    go_wp2_with fail
    refine ⟨rfl, ?_⟩
    rw [HR.out]
    exact ⟨rfl, HB2.out⟩
  | some x =>
    obtain ⟨p, a2⟩ := x
    have hav := item_adv hi
    rw [Tx.bs_len] at hav
    rw [hi] at HTot HI0
    clear hf h S0 hi
    go_enter Try.func69, Try.ntmps69
    go_wp2_with fail
    refine HTk.out.mono ?_
    rintro en w1 ⟨rfl, S1⟩
    have HI1 := Lib.hid (HI0.out _ S1)
    have HS1 := Lib.hid S1
    clear S1
    go_wp2_with fail
    refine HI1.out.mono ?_
    rintro en w2 ⟨mv, rfl, hm, S2'⟩
    have S2 : St w base rb s a2 D ns ks w2 := ⟨S2'.1, HS1.out.2.1.trans S2'.2.1, HS1.out.2.2.trans S2'.2.2⟩
    have HStart := Lib.hid (show CRel s total w base rb w2.heap.size D ns ks (w2.alloc (rowS mv)) from
      ⟨(Tx.bs s).length, a2, fun x => noSet x || p x, mv, HTot.out, by rw [Tx.bs_len]; omega, hav.2, S2.below ((Below.refl _ _).alloc (Nat.le_refl _) _), HasO.new w2 (rowS mv), fun x hx => by rw [hm x hx]; rfl, S2.2.1.size, S2.1.size⟩)
    generalize hH2 : w2.heap.size = H at HStart
    unfold setV
    clear hm S2 S2'
    go_wp2_with fail
    go_loopw [] (fun wr => CRel s total w base rb H D ns ks wr) (fun wr => meas s rb wr)
    case atStart => exact HStart.out
    case round =>
      obtain ⟨f, a3, m3, mv3, ht, hfu, ha3, S3, A3, hm3, hw0, hbH⟩ := hrel
      obtain ⟨f', rfl⟩ : ∃ f', f = f' + 1 := ⟨f - 1, by omega⟩
      by_cases h93 : (Tx.bs s)[a3]? = some 93
      · have HT2 : Hid (total = some (m3, a3)) := Lib.hid (by rw [ht, items_step, h93]; rfl)
        have HR : Hid (r = .ok (ns.length, a3 + 1, ns ++ [setN m3])) := Lib.hid (by rw [← hres, HT2.out]; rfl)
        have HTk2 := Lib.hid (take_T (St.start S3.1) hs h93 93 rfl)
        have HS3 := Lib.hid S3
        have HA3 := Lib.hid A3
        clear ht hfu S3 A3 h93 hres
        go_wp2_with fail
        refine HTk2.out.mono ?_
        rintro en w4 ⟨rfl, S4'⟩
        have HS4 := Lib.hid (show St w base rb s (a3 + 1) D ns ks w4 from ⟨S4'.1, HS3.out.2.1.trans S4'.2.1, HS3.out.2.2.trans S4'.2.2⟩)
        have A4 := Lib.hid (show HasO w4 H (rowS mv3) from (S4'.2.2 _ _ _ (by decide) (by decide) (show wr.heap[H]? = some (.cells _ tBs (0, 0)) from HA3.out)).trans HA3.out)
        have vv := A4.out.row
        obtain ⟨⟨v0, v1⟩, v2, v3⟩ := vv
        clear S4'
        have HAdd := Lib.hid (addSet_St HS4.out mv3 m3 hm3 hn)
        unfold setV at HAdd
        clear hm3
        go_wp2_with fail
        refine HAdd.out.mono ?_
        rintro en w5 ⟨rfl, S5⟩
        have HS5 := Lib.hid S5
        clear S5
        go_wp2_with fail
        go_ret
        rw [HR.out]
        exact PPost_one HS5.out (late_nil _)
      · have HT2 : Hid (total = match itemF (Tx.bs s) a3 with | none => none | some (p, a2) => itemsF (Tx.bs s) f' false a2 (fun x => m3 x || p x)) := Lib.hid (by
          rw [ht, items_go h93])
        have HTk2 := Lib.hid (take_F (St.start S3.1) hs ha3 h93 93 rfl)
        have HS3 := Lib.hid S3
        have HA3 := Lib.hid A3
        have HM := Lib.hid (crel_meas S3 ha3)
        cases hi3 : itemF (Tx.bs s) a3 with
        | none =>
          rw [hi3] at HT2
          have HR : Hid (r = .error 40) := Lib.hid (by rw [← hres, HT2.out]; rfl)
          have hi3N := hi3
          clear ht hfu S3 A3 h93 hi3 hres
          go_wp2_with fail
          refine HTk2.out.mono ?_
          rintro en w4 ⟨rfl, S4'⟩
          have HS4 := Lib.hid (show St w base rb s a3 D ns ks w4 from ⟨S4'.1, HS3.out.2.1.trans S4'.2.1, HS3.out.2.2.trans S4'.2.2⟩)
          have HI := Lib.hid (fun q => HIt.out a3 (w4.drewN q) (HS4.out.drewN q) ha3)
          rw [hi3N] at HI
          have A4 := Lib.hid (show HasO w4 H (rowS mv3) from (S4'.2.2 _ _ _ (by decide) (by decide) (show wr.heap[H]? = some (.cells _ tBs (0, 0)) from HA3.out)).trans HA3.out)
          have vv := A4.out.row
          obtain ⟨⟨v0, v1⟩, v2, v3⟩ := vv
          have HB4 := Lib.hid HS4.out.2.1
          clear S4'
          go_wp2_with fail
          refine wp_region_any (by kernel_rfl) ?_
          change wpAny _ _ _ _ _ _ _ (World.drew _)
          refine wpAny_take (i := 1) (v := .pointer (some ⟨rb, 0, none⟩)) rfl (by kernel_rfl) (by kernel_rfl) (by kernel_rfl) (fun _ _ _ h => h) (Or.inl ⟨by rfl, ?_⟩) ?_
          · intro w
            go_simp
          refine wpAny_ready (rs := [0, 2]) (by kernel_rfl) (by simp) ?_
          refine AllReady.cons rfl (fun K hK => ?_) (AllReady.cons rfl (fun K hK => ?_) AllReady.nil)
          · go_simp
            refine hK _ _ ?_
            clear hK K
            refine wpAny_ready (rs := [2]) (by kernel_rfl) (by simp) ?_
            refine AllReady.cons rfl (fun K hK => ?_) AllReady.nil
            go_simp
            go_at_call 79
            refine (HI.out 1).mono ?_
            rintro en w5 ⟨rfl, B5⟩
            refine (show bodyPost Try.prog Try.f69 (PPost w base rb s D ks r) (Exit.panic [{ v := .iface 24 (.int .i64 40), recovered := false }]) _ w5 from ⟨rfl, ?_⟩)
            rw [HR.out]
            exact ⟨rfl, HB4.out.trans ((below_drewN (Below.refl _ _) 1).trans B5)⟩
          · go_simp
            go_at_call 79
            refine (HI.out 1).mono ?_
            rintro en w5 ⟨rfl, B5⟩
            refine (show bodyPost Try.prog Try.f69 (PPost w base rb s D ks r) (Exit.panic [{ v := .iface 24 (.int .i64 40), recovered := false }]) _ w5 from ⟨rfl, ?_⟩)
            rw [HR.out]
            exact ⟨rfl, HB4.out.trans ((below_drewN (Below.refl _ _) 1).trans B5)⟩
        | some x =>
          obtain ⟨p4, a4⟩ := x
          have hav4 := item_adv hi3
          rw [Tx.bs_len] at hav4
          rw [hi3] at HT2
          clear ht S3 A3 h93
          go_wp2_with fail
          refine HTk2.out.mono ?_
          rintro en w4 ⟨rfl, S4'⟩
          have HS4 := Lib.hid (show St w base rb s a3 D ns ks w4 from ⟨S4'.1, HS3.out.2.1.trans S4'.2.1, HS3.out.2.2.trans S4'.2.2⟩)
          have HI := Lib.hid (fun q => HIt.out a3 (w4.drewN q) (HS4.out.drewN q) ha3)
          rw [hi3] at HI
          have A4 := Lib.hid (show HasO w4 H (rowS mv3) from (S4'.2.2 _ _ _ (by decide) (by decide) (show wr.heap[H]? = some (.cells _ tBs (0, 0)) from HA3.out)).trans HA3.out)
          have vv := A4.out.row
          obtain ⟨⟨v0, v1⟩, v2, v3⟩ := vv
          have HW := Lib.hid (fun m wq => with_any mv3 m wq)
          unfold setV at HW
          clear S4' hi3
          go_wp2_with fail
          go_region_law (first
            | (go_simp; go_at_call 79; refine (HI.out 1).mono ?_; rintro en w5 ⟨mp, rfl, hmp, S5⟩; have HMp := Lib.hid hmp; have HS5 := Lib.hid (show St w base rb s a4 D ns ks w5 from ⟨S5.1, (HS4.out.drewN 1).2.1.trans S5.2.1, (HS4.out.drewN 1).2.2.trans S5.2.2⟩); have A5 := Lib.hid (show HasO w5 H (rowS mv3) from (S5.2.2 _ _ _ (by decide) (by decide) (show (w4.drewN 1).heap[H]? = some (.cells _ tBs (0, 0)) from A4.out)).trans A4.out); have xx := A5.out.row; obtain ⟨⟨x0, x1⟩, x2, x3⟩ := xx; unfold setV; clear hmp S5)
            | (go_simp; go_at_call 80; refine (HW.out mp _).mono ?_; rintro en w6 ⟨rfl, B6⟩; have HS6 := Lib.hid (HS5.out.below B6); have A6 := Lib.hid (A5.out.below B6); have zz := A6.out.row; obtain ⟨⟨z0, z1⟩, z2, z3⟩ := zz; have ff := A6.out.froz; obtain ⟨⟨y0, y1⟩, y2, y3⟩ := ff; clear B6))
          all_goals
            go_wp2_with fail
            go_roundw
            case rel => exact ⟨f', a4, fun x => m3 x || p4 x, fun x => mv3 x || mp x, HT2.out, by omega, hav4.2, St_copyR HS6.out A6.out hw0 hbH _ _ _ _, A6.out.copyR, fun x hx => by show (mv3 x || mp x) = (m3 x || p4 x); rw [hm3 x hx, HMp.out x hx], hw0, hbH⟩
            case measure => rw [crel_meas (St_copyR HS6.out A6.out hw0 hbH _ _ _ _) hav4.2, HM.out]; omega
set_option maxRecDepth 100000 in
set_option maxHeartbeats 8000000 in
theorem class_not (h : Prs w base rb s (a : Int) D ns ks) (hG : Glb base w) (hs : s.size ≤ 1000000) (_ha : a < s.size) (hn : ns.length ≤ 1000000) (hx : (Tx.bs s)[a + 1]? = some 94) :
    Calls Try.prog 69 #[.pointer (some ⟨rb, 0, none⟩)] w (PPost w base rb s D ks (clsN ns (itemsF (Tx.bs s) ((Tx.bs s).length + 1) true (a + 2) noSet))) := by
  have S0 := (St.start h).setAt (a + 1)
  have hlx := get_lt hx
  rw [Tx.bs_len] at hlx
  have HTk := Lib.hid (take_T S0 hs hx 94 rfl)
  have HIt := Lib.hid (fun (b : Nat) (wq : World) (hq : St w base rb s b D ns ks wq) (hb : b ≤ s.size) => item_any (St.start hq.1) (hG.below hq.2.1) hs hb)
  have HTot : Hid (itemsF (Tx.bs s) ((Tx.bs s).length + 1) true (a + 2) noSet = match itemF (Tx.bs s) (a + 2) with | none => none | some (p, a2) => itemsF (Tx.bs s) (Tx.bs s).length false a2 (fun x => noSet x || p x)) := Lib.hid (by rw [items_step]; rfl)
  generalize itemsF (Tx.bs s) ((Tx.bs s).length + 1) true (a + 2) noSet = total at HTot ⊢
  generalize hres : clsN ns total = r
  obtain ⟨c0, c1, c2, hf⟩ := (St.start h).cells
  have f1 := hf 1
  have hbase := h.size
  have HI0 := Lib.hid (fun wq hq => HIt.out (a + 2) wq hq (by omega))
  cases hi : itemF (Tx.bs s) (a + 2) with
  | none =>
    rw [hi] at HTot HI0
    have HR : Hid (r = .error 40) := Lib.hid (by rw [← hres, HTot.out]; rfl)
    clear hf h S0 hi hres
    go_enter Try.func69, Try.ntmps69
    go_wp2_with fail
    refine HTk.out.mono ?_
    rintro en w1 ⟨rfl, S1⟩
    have HI1 := Lib.hid (HI0.out _ S1)
    have HB1 := Lib.hid S1.2.1
    clear S1
    go_wp2_with fail
    refine HI1.out.mono ?_
    rintro en w2 ⟨rfl, B2⟩
    have HB2 := Lib.hid (HB1.out.trans B2)
    clear B2
    go_wp2_with fail
    refine ⟨rfl, ?_⟩
    rw [HR.out]
    exact ⟨rfl, HB2.out⟩
  | some x =>
    obtain ⟨p, a2⟩ := x
    have hav := item_adv hi
    rw [Tx.bs_len] at hav
    rw [hi] at HTot HI0
    clear hf h S0 hi
    go_enter Try.func69, Try.ntmps69
    go_wp2_with fail
    refine HTk.out.mono ?_
    rintro en w1 ⟨rfl, S1⟩
    have HI1 := Lib.hid (HI0.out _ S1)
    have HS1 := Lib.hid S1
    clear S1
    go_wp2_with fail
    refine HI1.out.mono ?_
    rintro en w2 ⟨mv, rfl, hm, S2'⟩
    have S2 : St w base rb s a2 D ns ks w2 := ⟨S2'.1, HS1.out.2.1.trans S2'.2.1, HS1.out.2.2.trans S2'.2.2⟩
    have HStart := Lib.hid (show CRel s total w base rb w2.heap.size D ns ks (w2.alloc (rowS mv)) from
      ⟨(Tx.bs s).length, a2, fun x => noSet x || p x, mv, HTot.out, by rw [Tx.bs_len]; omega, hav.2, S2.below ((Below.refl _ _).alloc (Nat.le_refl _) _), HasO.new w2 (rowS mv), fun x hx => by rw [hm x hx]; rfl, S2.2.1.size, S2.1.size⟩)
    generalize hH2 : w2.heap.size = H at HStart
    unfold setV
    clear hm S2 S2'
    go_wp2_with fail
    go_loopw [] (fun wr => CRel s total w base rb H D ns ks wr) (fun wr => meas s rb wr)
    case atStart => exact HStart.out
    case round =>
      obtain ⟨f, a3, m3, mv3, ht, hfu, ha3, S3, A3, hm3, hw0, hbH⟩ := hrel
      obtain ⟨f', rfl⟩ : ∃ f', f = f' + 1 := ⟨f - 1, by omega⟩
      by_cases h93 : (Tx.bs s)[a3]? = some 93
      · have HT2 : Hid (total = some (m3, a3)) := Lib.hid (by rw [ht, items_step, h93]; rfl)
        have HR : Hid (r = .ok (ns.length, a3 + 1, ns ++ [setN (fun x => !m3 x)])) := Lib.hid (by rw [← hres, HT2.out]; rfl)
        have HTk2 := Lib.hid (take_T (St.start S3.1) hs h93 93 rfl)
        have HS3 := Lib.hid S3
        have HA3 := Lib.hid A3
        clear ht hfu S3 A3 h93 hres
        go_wp2_with fail
        refine HTk2.out.mono ?_
        rintro en w4 ⟨rfl, S4'⟩
        have HS4 := Lib.hid (show St w base rb s (a3 + 1) D ns ks w4 from ⟨S4'.1, HS3.out.2.1.trans S4'.2.1, HS3.out.2.2.trans S4'.2.2⟩)
        have A4 := Lib.hid (show HasO w4 H (rowS mv3) from (S4'.2.2 _ _ _ (by decide) (by decide) (show wr.heap[H]? = some (.cells _ tBs (0, 0)) from HA3.out)).trans HA3.out)
        have vv := A4.out.row
        obtain ⟨⟨v0, v1⟩, v2, v3⟩ := vv
        clear S4'
        have HCo := Lib.hid (compl_any mv3 w4)
        unfold setV at HCo
        go_wp2_with fail
        refine HCo.out.mono ?_
        rintro en w5 ⟨rfl, B5⟩
        have HS5 := Lib.hid (HS4.out.below B5)
        have A5 := Lib.hid (A4.out.below B5)
        have xx := A5.out.row
        obtain ⟨⟨x0, x1⟩, x2, x3⟩ := xx
        have ff := A5.out.froz
        obtain ⟨⟨y0, y1⟩, y2, y3⟩ := ff
        have HS6 := Lib.hid (St_copyR HS5.out A5.out hw0 hbH (.int .u64 (word (fun x => !mv3 x) 0 : Nat)) (.int .u64 (word (fun x => !mv3 x) 1 : Nat)) (.int .u64 (word (fun x => !mv3 x) 2 : Nat)) (.int .u64 (word (fun x => !mv3 x) 3 : Nat)))
        have HAdd := Lib.hid (addSet_St HS6.out (fun x => !mv3 x) (fun x => !m3 x) (fun x hx => by rw [hm3 x hx]) hn)
        unfold setV at HAdd
        clear hm3 B5 v0 v1 v2 v3
        go_wp2_with fail
        refine HAdd.out.mono ?_
        rintro en w6 ⟨rfl, S6⟩
        have HS7 := Lib.hid S6
        clear S6
        go_wp2_with fail
        go_ret
        rw [HR.out]
        exact PPost_one HS7.out (late_nil _)
      · have HT2 : Hid (total = match itemF (Tx.bs s) a3 with | none => none | some (p, a2) => itemsF (Tx.bs s) f' false a2 (fun x => m3 x || p x)) := Lib.hid (by
          rw [ht, items_go h93])
        have HTk2 := Lib.hid (take_F (St.start S3.1) hs ha3 h93 93 rfl)
        have HS3 := Lib.hid S3
        have HA3 := Lib.hid A3
        have HM := Lib.hid (crel_meas S3 ha3)
        cases hi3 : itemF (Tx.bs s) a3 with
        | none =>
          rw [hi3] at HT2
          have HR : Hid (r = .error 40) := Lib.hid (by rw [← hres, HT2.out]; rfl)
          have hi3N := hi3
          clear ht hfu S3 A3 h93 hi3 hres
          go_wp2_with fail
          refine HTk2.out.mono ?_
          rintro en w4 ⟨rfl, S4'⟩
          have HS4 := Lib.hid (show St w base rb s a3 D ns ks w4 from ⟨S4'.1, HS3.out.2.1.trans S4'.2.1, HS3.out.2.2.trans S4'.2.2⟩)
          have HI := Lib.hid (fun q => HIt.out a3 (w4.drewN q) (HS4.out.drewN q) ha3)
          rw [hi3N] at HI
          have A4 := Lib.hid (show HasO w4 H (rowS mv3) from (S4'.2.2 _ _ _ (by decide) (by decide) (show wr.heap[H]? = some (.cells _ tBs (0, 0)) from HA3.out)).trans HA3.out)
          have vv := A4.out.row
          obtain ⟨⟨v0, v1⟩, v2, v3⟩ := vv
          have HB4 := Lib.hid HS4.out.2.1
          clear S4'
          go_wp2_with fail
          refine wp_region_any (by kernel_rfl) ?_
          change wpAny _ _ _ _ _ _ _ (World.drew _)
          refine wpAny_take (i := 1) (v := .pointer (some ⟨rb, 0, none⟩)) rfl (by kernel_rfl) (by kernel_rfl) (by kernel_rfl) (fun _ _ _ h => h) (Or.inl ⟨by rfl, ?_⟩) ?_
          · intro w
            go_simp
          refine wpAny_ready (rs := [0, 2]) (by kernel_rfl) (by simp) ?_
          refine AllReady.cons rfl (fun K hK => ?_) (AllReady.cons rfl (fun K hK => ?_) AllReady.nil)
          · go_simp
            refine hK _ _ ?_
            clear hK K
            refine wpAny_ready (rs := [2]) (by kernel_rfl) (by simp) ?_
            refine AllReady.cons rfl (fun K hK => ?_) AllReady.nil
            go_simp
            go_at_call 79
            refine (HI.out 1).mono ?_
            rintro en w5 ⟨rfl, B5⟩
            refine (show bodyPost Try.prog Try.f69 (PPost w base rb s D ks r) (Exit.panic [{ v := .iface 24 (.int .i64 40), recovered := false }]) _ w5 from ⟨rfl, ?_⟩)
            rw [HR.out]
            exact ⟨rfl, HB4.out.trans ((below_drewN (Below.refl _ _) 1).trans B5)⟩
          · go_simp
            go_at_call 79
            refine (HI.out 1).mono ?_
            rintro en w5 ⟨rfl, B5⟩
            refine (show bodyPost Try.prog Try.f69 (PPost w base rb s D ks r) (Exit.panic [{ v := .iface 24 (.int .i64 40), recovered := false }]) _ w5 from ⟨rfl, ?_⟩)
            rw [HR.out]
            exact ⟨rfl, HB4.out.trans ((below_drewN (Below.refl _ _) 1).trans B5)⟩
        | some x =>
          obtain ⟨p4, a4⟩ := x
          have hav4 := item_adv hi3
          rw [Tx.bs_len] at hav4
          rw [hi3] at HT2
          clear ht S3 A3 h93
          go_wp2_with fail
          refine HTk2.out.mono ?_
          rintro en w4 ⟨rfl, S4'⟩
          have HS4 := Lib.hid (show St w base rb s a3 D ns ks w4 from ⟨S4'.1, HS3.out.2.1.trans S4'.2.1, HS3.out.2.2.trans S4'.2.2⟩)
          have HI := Lib.hid (fun q => HIt.out a3 (w4.drewN q) (HS4.out.drewN q) ha3)
          rw [hi3] at HI
          have A4 := Lib.hid (show HasO w4 H (rowS mv3) from (S4'.2.2 _ _ _ (by decide) (by decide) (show wr.heap[H]? = some (.cells _ tBs (0, 0)) from HA3.out)).trans HA3.out)
          have vv := A4.out.row
          obtain ⟨⟨v0, v1⟩, v2, v3⟩ := vv
          have HW := Lib.hid (fun m wq => with_any mv3 m wq)
          unfold setV at HW
          clear S4' hi3
          go_wp2_with fail
          go_region_law (first
            | (go_simp; go_at_call 79; refine (HI.out 1).mono ?_; rintro en w5 ⟨mp, rfl, hmp, S5⟩; have HMp := Lib.hid hmp; have HS5 := Lib.hid (show St w base rb s a4 D ns ks w5 from ⟨S5.1, (HS4.out.drewN 1).2.1.trans S5.2.1, (HS4.out.drewN 1).2.2.trans S5.2.2⟩); have A5 := Lib.hid (show HasO w5 H (rowS mv3) from (S5.2.2 _ _ _ (by decide) (by decide) (show (w4.drewN 1).heap[H]? = some (.cells _ tBs (0, 0)) from A4.out)).trans A4.out); have xx := A5.out.row; obtain ⟨⟨x0, x1⟩, x2, x3⟩ := xx; unfold setV; clear hmp S5)
            | (go_simp; go_at_call 80; refine (HW.out mp _).mono ?_; rintro en w6 ⟨rfl, B6⟩; have HS6 := Lib.hid (HS5.out.below B6); have A6 := Lib.hid (A5.out.below B6); have zz := A6.out.row; obtain ⟨⟨z0, z1⟩, z2, z3⟩ := zz; have ff := A6.out.froz; obtain ⟨⟨y0, y1⟩, y2, y3⟩ := ff; clear B6))
          all_goals
            go_wp2_with fail
            go_roundw
            case rel => exact ⟨f', a4, fun x => m3 x || p4 x, fun x => mv3 x || mp x, HT2.out, by omega, hav4.2, St_copyR HS6.out A6.out hw0 hbH _ _ _ _, A6.out.copyR, fun x hx => by show (mv3 x || mp x) = (m3 x || p4 x); rw [hm3 x hx, HMp.out x hx], hw0, hbH⟩
            case measure => rw [crel_meas (St_copyR HS6.out A6.out hw0 hbH _ _ _ _) hav4.2, HM.out]; omega
end
/-- A class. -/
theorem class_all (s : ByteArray) (hs : s.size ≤ 1000000) : ClassP s := by
  intro w base rb a D ns ks hG h ha hn
  by_cases hx : (Tx.bs s)[a + 1]? = some 94
  · have h1 := class_not h hG hs ha hn hx
    refine h1.mono fun en w' hp => ?_
    unfold classF
    rw [if_pos hx, show a + 1 + 1 = a + 2 from rfl]
    revert hp
    unfold clsN
    generalize itemsF (Tx.bs s) ((Tx.bs s).length + 1) true (a + 2) noSet = q
    rcases q with _ | ⟨_, _⟩ <;> exact fun hp => hp
  · have h1 := class_plain h hG hs ha hn hx
    refine h1.mono fun en w' hp => ?_
    unfold classF
    rw [if_neg hx]
    revert hp
    unfold clsP
    generalize itemsF (Tx.bs s) ((Tx.bs s).length + 1) true (a + 1) noSet = q
    rcases q with _ | ⟨_, _⟩ <;> exact fun hp => hp
/-- Parse, whatever the text. -/
theorem Parse_all (s : ByteArray) (w : World) (hG : Glb w.heap.size w) : Calls Try.prog 5 #[.string s] w (ParseP w (parseF (Tx.bs s))) :=
  Parse_any s w hG fun h => class_all s (by omega)
end Px
end
section
open Go.RowKit
namespace Px
open Cm Rx
theorem own_nodes {w : World} {B : Nat} {v : Value} {ns : List Nd} {ks : List Value} (h : OwnN w B v ns ks) (hp : 0 < ns.length) : ∃ g c, v = .slice (some ⟨g, 0, none⟩) ns.length c ∧ ∀ j (hj : j < ns.length), NodeAt w g (j * 8) ns[j] := by
  obtain ⟨hl, hv, hk⟩ := h
  rcases hv.2 with ⟨rfl, h0⟩ | ⟨g, cap, cur, rfl, _, _, _, _⟩
  · omega
  · refine ⟨g, cap, rfl, fun j hj => ?_⟩
    have hjk : j < ks.length := by omega
    have e : ∀ i, i < 8 → w.cell? ⟨g, j * 8 + i, none⟩ = (ndC ns[j] ks[j])[i]? := fun i hi => by
      rw [hv.cellAt (j * 8 + i) (by omega), flat_get ns ks hl j hj hjk i hi]
    exact ⟨ks[j], e 0 (by omega), e 1 (by omega), e 2 (by omega), e 3 (by omega), e 4 (by omega), e 5 (by omega), e 6 (by omega), e 7 (by omega), RdV.of_own (hk j hjk hj)⟩
/-- What Parse hands back, to be read. -/
def ParseV (w : World) (r : Except Int (List Nd)) (e : Ending) (w' : World) : Prop :=
  match r with
  | .error c => e = .returned (.tuple #[.slice none 0 0, .int .i64 c]) ∧ Below w.heap.size w w'
  | .ok ns => ∃ g c, e = .returned (.tuple #[.slice (some ⟨g, 0, none⟩) ns.length c, .int .i64 0]) ∧ (∀ j (hj : j < ns.length), NodeAt w' g (j * 8) ns[j]) ∧ Below w.heap.size w w'
def nodes1 : List Nd := [setN (putM noSet 97), setN (putM noSet 98), repN 0 (-1) 1, manyN 5 [0, 2]]
theorem parse1 : parseF [97, 124, 98, 42] = .ok nodes1 := rfl
theorem parse2 : parseF [97, 42, 42] = .error 40 := rfl
theorem Parse_ok (s : ByteArray) (w : World) (hG : Glb w.heap.size w) {ns : List Nd} (hr : parseF (Tx.bs s) = .ok ns) (hp : 0 < ns.length) : Calls Try.prog 5 #[.string s] w fun e w' =>
    ∃ g c, e = .returned (.tuple #[.slice (some ⟨g, 0, none⟩) ns.length c, .int .i64 0]) ∧ (∀ j (hj : j < ns.length), NodeAt w' g (j * 8) ns[j]) ∧ Below w.heap.size w w' :=
  (Parse_all s w hG).mono fun e w' h => by
    rw [hr] at h
    obtain ⟨v, ks, e1, e2, e3⟩ := h
    obtain ⟨g, c, rfl, e4⟩ := own_nodes e2 hp
    exact ⟨g, c, e1, e4, e3⟩
theorem Parse_err (s : ByteArray) (w : World) (hG : Glb w.heap.size w) {c : Int} (hr : parseF (Tx.bs s) = .error c) : Calls Try.prog 5 #[.string s] w fun e w' =>
    e = .returned (.tuple #[.slice none 0 0, .int .i64 c]) ∧ Below w.heap.size w w' :=
  (Parse_all s w hG).mono fun e w' h => by
    rw [hr] at h
    exact h
theorem Glb.self {w w' : World} (h : Glb w.heap.size w) (hb : Below w.heap.size w w') : Glb w'.heap.size w' :=
  ⟨Nat.lt_of_lt_of_le h.1 hb.size, (h.below hb).2⟩
end Px
end
section
namespace Rx
section
variable {l : List UInt8}
def GoodAt (B i : Nat) (n : Nd) : Prop := NodeOk i n ∧ n.kids.length ≤ B
def Good (B : Nat) (ns : List Nd) : Prop := ∀ i (h : i < ns.length), GoodAt B i ns[i]
theorem Good.snoc {B : Nat} {ns : List Nd} {n : Nd} (h : Good B ns) (hn : GoodAt B ns.length n) : Good B (ns ++ [n]) := by
  intro i hi
  rw [List.length_append, List.length_singleton] at hi
  by_cases hlt : i < ns.length
  · rw [List.getElem_append_left hlt]; exact h i hlt
  · have : i = ns.length := by omega
    subst this
    rw [List.getElem_append_right (Nat.le_refl _)]
    simpa using hn
theorem good_set {B i : Nat} (m : Nat → Bool) : GoodAt B i (setN m) := ⟨⟨fun _ hx => (List.not_mem_nil hx).elim, rfl⟩, Nat.zero_le _⟩
theorem good_plain {B i : Nat} {k : Int} (hk : k = 0 ∨ k = 2 ∨ k = 3) : GoodAt B i (plainN k) := by
  refine ⟨⟨fun _ hx => (List.not_mem_nil hx).elim, ?_⟩, Nat.zero_le _⟩
  rcases hk with rfl | rfl | rfl <;> rfl
theorem good_rep {B i m : Nat} {h k : Int} (hB : 1 ≤ B) (hm : m ≤ 100) (hh : h = -1 ∨ ((m : Int) ≤ h ∧ h ≤ 100)) (h0 : 0 ≤ k) (h1 : k < (i : Int)) : GoodAt B i (repN m h k) := by
  refine ⟨⟨fun x hx => ?_, ?_⟩, hB⟩
  · have : x = k := by simpa [repN] using hx
    rw [this]; exact ⟨h0, h1⟩
  · rw [fine_iff]
    left
    exact ⟨rfl, rfl, by show (0 : Int) ≤ (m : Int); omega, by show (m : Int) ≤ 100; omega, hh⟩
theorem good_many {B i : Nat} {kind : Int} {kids : List Int} (hk : kind = 4 ∨ kind = 5) (h2 : 2 ≤ kids.length) (hB : kids.length ≤ B) (h : ∀ x ∈ kids, 0 ≤ x ∧ x < (i : Int)) : GoodAt B i (manyN kind kids) := by
  refine ⟨⟨h, ?_⟩, hB⟩
  rw [fine_iff]
  right; left
  exact ⟨hk, h2⟩
theorem fin_ok {m m' nx nx' : Nat} {h h' : Int} (hh : h = -1 ∨ 0 ≤ h) (e : finB l m h nx = some (m', h', nx')) : m' ≤ 100 ∧ (h' = -1 ∨ ((m' : Int) ≤ h' ∧ h' ≤ 100)) := by
  unfold finB at e
  split at e
  · rename_i h1
    injection e with e
    injection e with e1 e
    injection e with e2 e
    subst e1 e2
    obtain ⟨_, a, b, c⟩ := h1
    refine ⟨a, ?_⟩
    rcases hh with hh | hh
    · exact .inl hh
    · exact .inr ⟨c hh, b⟩
  · cases e
theorem bounds_ok {a m nx : Nat} {h : Int} (e : boundsF l a = some (m, h, nx)) : m ≤ 100 ∧ (h = -1 ∨ ((m : Int) ≤ h ∧ h ≤ 100)) := by
  unfold boundsF at e
  split at e
  · cases e
  · split at e
    · split at e
      · split at e
        · cases e
        · exact fin_ok (.inr (by omega)) e
      · exact fin_ok (.inl rfl) e
    · exact fin_ok (.inr (by omega)) e
theorem quant_ok {a m a2 : Nat} {h : Int} (e : quantF l a = some (some (m, h, a2))) : m ≤ 100 ∧ (h = -1 ∨ ((m : Int) ≤ h ∧ h ≤ 100)) := by
  unfold quantF at e
  split at e
  · cases e
  · split at e
    · injection e with e; injection e with e; injection e with e1 e; injection e with e2 e; subst e1 e2; exact ⟨by omega, .inl rfl⟩
    · split at e
      · injection e with e; injection e with e; injection e with e1 e; injection e with e2 e; subst e1 e2; exact ⟨by omega, .inl rfl⟩
      · split at e
        · injection e with e; injection e with e; injection e with e1 e; injection e with e2 e; subst e1 e2; exact ⟨by omega, .inr ⟨by omega, by omega⟩⟩
        · split at e
          · injection e with e
            exact bounds_ok e
          · cases e
/-- What a reader leaves: good nodes, and one of them. -/
def GoodTo (B : Nat) (ns : List Nd) (k : Int) (ns2 : List Nd) : Prop := Good B ns → Good B ns2 ∧ 0 ≤ k ∧ k < (ns2.length : Int) ∧ ns.length ≤ ns2.length
def GoodF (B : Nat) (f : Nat → List Nd → Res) (l : List UInt8) : Prop := ∀ (a : Nat) (ns : List Nd), a ≤ l.length → ∀ k b ns2, f a ns = .ok (k, b, ns2) → GoodTo B ns k ns2
def GoodO (B : Nat) (p : Option (Nat → List Nd → Res)) (l : List UInt8) : Prop := ∀ f, p = some f → GoodF B f l
section
variable {B : Nat} {p : Option (Nat → List Nd → Res)} {inner : Bool}
theorem good_one {ns : List Nd} {n : Nd} {k : Int} {ns2 : List Nd} (h1 : k = (ns.length : Int)) (h2 : ns2 = ns ++ [n]) (hn : GoodAt B ns.length n) : GoodTo B ns k ns2 := by
  subst h1 h2
  intro h
  refine ⟨h.snoc hn, by omega, ?_, ?_⟩ <;> rw [List.length_append, List.length_singleton] <;> omega
theorem ok3 {k k' : Int} {a a' : Nat} {n n' : List Nd} (h : (Except.ok (k, a, n) : Res) = .ok (k', a', n')) : k' = k ∧ a' = a ∧ n' = n := by
  injection h with h; injection h with h1 h; injection h with h2 h3; exact ⟨h1.symm, h2.symm, h3.symm⟩
theorem okL {k k' : List Int} {a a' : Nat} {n n' : List Nd} (h : (Except.ok (k, a, n) : Except Int (List Int × Nat × List Nd)) = .ok (k', a', n')) : k' = k ∧ a' = a ∧ n' = n := by
  injection h with h; injection h with h1 h; injection h with h2 h3; exact ⟨h1.symm, h2.symm, h3.symm⟩
theorem atom_good (hp : GoodO B p l) {at_ : Nat} {ns : List Nd} {k : Int} {a : Nat} {ns2 : List Nd} (e : atomF l p at_ ns = .ok (k, a, ns2)) : GoodTo B ns k ns2 := by
  unfold atomF at e
  split at e
  · cases e
  · rename_i c hc
    have hl := get_lt hc
    split at e
    · split at e
      · cases e
      · rename_i f
        split at e
        · cases e
        · rename_i k1 a1 ns1 hf
          split at e
          · obtain ⟨e1, _, e3⟩ := ok3 e
            subst e1 e3
            exact hp f rfl (at_ + 1) ns (by omega) _ _ _ hf
          · cases e
    · split at e
      · split at e
        · cases e
        · obtain ⟨e1, _, e3⟩ := ok3 e
          exact good_one e1 e3 (good_set _)
      · split at e
        · obtain ⟨e1, _, e3⟩ := ok3 e
          exact good_one e1 e3 (good_set _)
        · split at e
          · obtain ⟨e1, _, e3⟩ := ok3 e
            exact good_one e1 e3 (good_plain (by omega))
          · split at e
            · obtain ⟨e1, _, e3⟩ := ok3 e
              exact good_one e1 e3 (good_plain (by omega))
            · split at e
              · cases e
              · split at e
                · split at e
                  · cases e
                  · obtain ⟨e1, _, e3⟩ := ok3 e
                    exact good_one e1 e3 (good_set _)
                · obtain ⟨e1, _, e3⟩ := ok3 e
                  exact good_one e1 e3 (good_set _)
theorem piece_good (hB : 1 ≤ B) (hp : GoodO B p l) {at_ : Nat} {ns : List Nd} {k : Int} {a : Nat} {ns2 : List Nd} (e : pieceF l p at_ ns = .ok (k, a, ns2)) : GoodTo B ns k ns2 := by
  unfold pieceF at e
  split at e
  · cases e
  · rename_i k1 a1 ns1 ha
    have h1 := atom_good hp ha
    split at e
    · obtain ⟨e1, _, e3⟩ := ok3 e
      subst e1 e3
      exact h1
    · cases e
    · rename_i m hh a2 hq
      have h2 := quant_ok hq
      split at e
      · cases e
      · obtain ⟨e1, _, e3⟩ := ok3 e
        intro hg
        obtain ⟨g1, g2, g3, g4⟩ := h1 hg
        obtain ⟨q1, q2, q3, q4⟩ := good_one (B := B) e1 e3 (good_rep hB h2.1 h2.2 g2 g3) g1
        exact ⟨q1, q2, q3, by omega⟩
/-- What a list of readers leaves. -/
def GoodL (B : Nat) (ns : List Nd) (kids : List Int) (d : Nat) (kids' : List Int) (ns2 : List Nd) : Prop :=
  Good B ns → (∀ x ∈ kids, 0 ≤ x ∧ x < (ns.length : Int)) → Good B ns2 ∧ (∀ x ∈ kids', 0 ≤ x ∧ x < (ns2.length : Int)) ∧ ns.length ≤ ns2.length ∧ kids'.length ≤ kids.length + d
theorem kids_snoc {kids : List Int} {n n' : Nat} {k : Int} (h : ∀ x ∈ kids, 0 ≤ x ∧ x < (n : Int)) (hn : n ≤ n') (h0 : 0 ≤ k) (h1 : k < (n' : Int)) : ∀ x ∈ kids ++ [k], 0 ≤ x ∧ x < (n' : Int) := by
  intro x hx
  rcases List.mem_append.1 hx with hx | hx
  · have := h x hx; omega
  · rw [List.mem_singleton] at hx; subst hx; exact ⟨h0, h1⟩
theorem pieces_good (hB : 1 ≤ B) (hp : GoodO B p l) (ha : AdvO l p) (f : Nat) : ∀ (at_ : Nat) (ns : List Nd) (kids : List Int), at_ ≤ l.length → ∀ kids' a ns2, piecesF l p inner f at_ ns kids = .ok (kids', a, ns2) → GoodL B ns kids (a - at_) kids' ns2 := by
  induction f with
  | zero => intro at_ ns kids _ kids' a ns2 h; cases h
  | succ f ih =>
    intro at_ ns kids hl kids' a ns2 e
    unfold piecesF at e
    split at e
    · split at e
      · cases e
      · rename_i k1 a1 ns1 hpc
        have h1 := piece_adv ha hpc
        have h2 := piece_good hB hp hpc
        have h3 := ih _ _ _ h1.2.1 _ _ _ e
        have h4 := pieces_adv ha _ _ _ _ h1.2.1 _ _ _ e
        intro hg hk
        obtain ⟨g1, g2, g3, g4⟩ := h2 hg
        obtain ⟨q1, q2, q3, q4⟩ := h3 g1 (kids_snoc hk g4 g2 g3)
        rw [List.length_append, List.length_singleton] at q4
        exact ⟨q1, q2, by omega, by omega⟩
    · obtain ⟨e1, e2, e3⟩ := okL e
      subst e1 e2 e3
      intro hg hk
      exact ⟨hg, hk, Nat.le_refl _, by omega⟩
theorem alt_good (hB : l.length + 1 ≤ B) (hp : GoodO B p l) (ha : AdvO l p) {at_ : Nat} {ns : List Nd} {k : Int} {a : Nat} {ns2 : List Nd} (hl : at_ ≤ l.length) (e : altF l p inner at_ ns = .ok (k, a, ns2)) : GoodTo B ns k ns2 := by
  unfold altF at e
  cases hr : piecesF l p inner (l.length + 1) at_ ns [] with
  | error c => rw [hr] at e; cases e
  | ok r =>
    obtain ⟨kids, a1, ns1⟩ := r
    rw [hr] at e
    have h1 := pieces_good (by omega) hp ha _ _ _ _ hl _ _ _ hr
    have h2 := pieces_adv ha _ _ _ _ hl _ _ _ hr
    intro hg
    obtain ⟨q1, q2, q3, q4⟩ := h1 hg (fun x hx => by cases hx)
    rcases kids with _ | ⟨k0, _ | ⟨k1', r⟩⟩
    · obtain ⟨e1, _, e3⟩ := ok3 e
      obtain ⟨r1, r2, r3, r4⟩ := good_one (B := B) e1 e3 (good_plain (.inl rfl)) q1
      exact ⟨r1, r2, r3, by omega⟩
    · obtain ⟨e1, _, e3⟩ := ok3 e
      subst e1 e3
      have h3 := q2 _ (List.mem_singleton.2 rfl)
      exact ⟨q1, h3.1, h3.2, q3⟩
    · obtain ⟨e1, _, e3⟩ := ok3 e
      obtain ⟨r1, r2, r3, r4⟩ := good_one (B := B) e1 e3 (good_many (.inl rfl) (by simp) (by simp only [List.length_cons, List.length_nil] at q4 ⊢; omega) q2) q1
      exact ⟨r1, r2, r3, by omega⟩
theorem alts_good (hB : l.length + 1 ≤ B) (hp : GoodO B p l) (ha : AdvO l p) (f : Nat) : ∀ (at_ : Nat) (ns : List Nd) (kids : List Int), at_ ≤ l.length → ∀ kids' a ns2, altsF l p inner f at_ ns kids = .ok (kids', a, ns2) → GoodL B ns kids (a - at_) kids' ns2 := by
  induction f with
  | zero => intro at_ ns kids _ kids' a ns2 h; cases h
  | succ f ih =>
    intro at_ ns kids hl kids' a ns2 e
    unfold altsF at e
    split at e
    · rename_i hbar
      have hb := get_lt hbar
      split at e
      · cases e
      · rename_i k1 a1 ns1 hpc
        have h1 := alt_adv ha (by omega) hpc
        have h2 := alt_good hB hp ha (by omega) hpc
        have h3 := ih _ _ _ h1.2.1 _ _ _ e
        have h4 := alts_adv ha _ _ _ _ h1.2.1 _ _ _ e
        intro hg hk
        obtain ⟨g1, g2, g3, g4⟩ := h2 hg
        obtain ⟨q1, q2, q3, q4⟩ := h3 g1 (kids_snoc hk g4 g2 g3)
        rw [List.length_append, List.length_singleton] at q4
        exact ⟨q1, q2, by omega, by omega⟩
    · obtain ⟨e1, e2, e3⟩ := okL e
      subst e1 e2 e3
      intro hg hk
      exact ⟨hg, hk, Nat.le_refl _, by omega⟩
theorem alts_ge (f : Nat) : ∀ (at_ : Nat) (ns : List Nd) (kids kids' : List Int) (a : Nat) (ns2 : List Nd), altsF l p inner f at_ ns kids = .ok (kids', a, ns2) → kids.length ≤ kids'.length := by
  induction f with
  | zero => intro at_ ns kids kids' a ns2 h; cases h
  | succ f ih =>
    intro at_ ns kids kids' a ns2 e
    unfold altsF at e
    split at e
    · split at e
      · cases e
      · have h3 := ih _ _ _ _ _ _ e
        rw [List.length_append, List.length_singleton] at h3
        omega
    · obtain ⟨e1, _, _⟩ := okL e
      subst e1
      exact Nat.le_refl _
theorem pat_good (hB : l.length + 1 ≤ B) (hp : GoodO B p l) (ha : AdvO l p) : GoodF B (patF l p inner) l := by
  intro at_ ns hl k a ns2 e
  unfold patF at e
  cases hr : altF l p inner at_ ns with
  | error c => rw [hr] at e; cases e
  | ok r =>
    obtain ⟨k1, a1, ns1⟩ := r
    rw [hr] at e
    simp only at e
    have h1 := alt_adv ha hl hr
    have h2 := alt_good hB hp ha hl hr
    cases hr2 : altsF l p inner (l.length + 1) a1 ns1 [k1] with
    | error c => rw [hr2] at e; cases e
    | ok r2 =>
      obtain ⟨kids, a2, ns3⟩ := r2
      rw [hr2] at e
      have h3 := alts_good hB hp ha _ _ _ _ h1.2.1 _ _ _ hr2
      have h4 := alts_adv ha _ _ _ _ h1.2.1 _ _ _ hr2
      intro hg
      obtain ⟨g1, g2, g3, g4⟩ := h2 hg
      obtain ⟨q1, q2, q3, q4⟩ := h3 g1 (fun x hx => by rw [List.mem_singleton] at hx; subst hx; exact ⟨g2, g3⟩)
      have hge : 1 ≤ kids.length := alts_ge _ _ _ _ _ _ _ hr2
      rcases kids with _ | ⟨k0, _ | ⟨k1', r⟩⟩
      · simp at hge
      · obtain ⟨e1, _, e3⟩ := ok3 e
        subst e1 e3
        have h5 := q2 _ (List.mem_singleton.2 rfl)
        exact ⟨q1, h5.1, h5.2, by omega⟩
      · obtain ⟨e1, _, e3⟩ := ok3 e
        obtain ⟨r1, r2, r3, r4⟩ := good_one (B := B) e1 e3 (good_many (.inr rfl) (by simp) (by simp only [List.length_cons, List.length_nil] at q4 ⊢; omega) q2) q1
        exact ⟨r1, r2, r3, by omega⟩
theorem group_good (hB : l.length + 1 ≤ B) (g : Nat) : GoodF B (groupF l g) l := by
  induction g with
  | zero => exact pat_good hB (fun f h => by cases h) (fun f h => by cases h)
  | succ g ih => exact pat_good hB (fun f h => by injection h with h; subst h; exact ih) (fun f h => by injection h with h; subst h; exact group_adv g)
end
/-- What is read is valid. -/
theorem parse_good {ns : List Nd} (e : parseF l = .ok ns) : Valid ns ∧ ns.length ≤ 1100 ∧ ∀ n ∈ ns, n.kids.length ≤ 257 := by
  unfold parseF at e
  split at e
  · cases e
  · rename_i hl
    cases hr : patF l (some (groupF l 49)) false 0 [] with
    | error c => rw [hr] at e; cases e
    | ok r =>
      obtain ⟨k, a, ns1⟩ := r
      rw [hr] at e
      simp only at e
      split at e
      · cases e
      · injection e with e
        subst e
        have h1 := pat_adv (inner := false) (p := some (groupF l 49)) (fun f e => by injection e with e; subst e; exact group_adv 49) 0 [] (by omega) _ _ _ hr
        have h2 := pat_good (B := 257) (inner := false) (p := some (groupF l 49)) (by omega) (fun f e => by injection e with e; subst e; exact group_good (by omega) 49) (fun f e => by injection e with e; subst e; exact group_adv 49) 0 [] (by omega) _ _ _ hr (fun i hi => by cases hi)
        obtain ⟨g1, g2, g3, g4⟩ := h2
        have h3 := h1.2.2
        simp only [List.length_nil] at h3
        refine ⟨⟨by omega, by omega, fun i hi => (g1 i hi).1⟩, by omega, fun n hn => ?_⟩
        obtain ⟨j, hj, rfl⟩ := List.mem_iff_getElem.1 hn
        exact (g1 j hj).2
end
end Rx
end
section
namespace Rx
section
variable {l : List UInt8}
def Nz {α : Type} (r : Except Int α) : Prop := ∀ c, r = .error c → c ≠ 0
theorem nz_ok {α : Type} (a : α) : Nz (.ok a : Except Int α) := fun c h => by cases h
theorem nz_err {α : Type} {d : Int} (h : d ≠ 0) : Nz (.error d : Except Int α) := fun c e => by injection e with e; rw [← e]; exact h
def NzF (l : List UInt8) (f : Nat → List Nd → Res) : Prop := ∀ (a : Nat) (ns : List Nd), a ≤ l.length → Nz (f a ns)
def NzO (l : List UInt8) (p : Option (Nat → List Nd → Res)) : Prop := ∀ f, p = some f → NzF l f
variable {p : Option (Nat → List Nd → Res)} {inner : Bool}
theorem atom_nz (hp : NzO l p) {at_ : Nat} {ns : List Nd} (hl : at_ < l.length) : Nz (atomF l p at_ ns) := by
  unfold atomF
  rw [List.getElem?_eq_getElem hl]
  simp only
  split
  · cases hq : p with
    | none => exact nz_err (by decide)
    | some f =>
      simp only
      have h1 := hp f hq (at_ + 1) ns (by omega)
      cases hr : f (at_ + 1) ns with
      | error e => exact nz_err (h1 e hr)
      | ok x =>
        obtain ⟨k, a, ns2⟩ := x
        simp only
        split
        · exact nz_ok _
        · exact nz_err (by decide)
  · split
    · cases classF l (at_ + 1) with
      | none => exact nz_err (by decide)
      | some x => exact nz_ok _
    · split
      · exact nz_ok _
      · split
        · exact nz_ok _
        · split
          · exact nz_ok _
          · split
            · exact nz_err (by decide)
            · split
              · cases l[at_ + 1]? with
                | none => exact nz_err (by decide)
                | some b => exact nz_ok _
              · exact nz_ok _
theorem piece_nz (hp : NzO l p) {at_ : Nat} {ns : List Nd} (hl : at_ < l.length) : Nz (pieceF l p at_ ns) := by
  unfold pieceF
  have h1 := atom_nz hp (ns := ns) hl
  cases hr : atomF l p at_ ns with
  | error e => exact nz_err (h1 e hr)
  | ok x =>
    obtain ⟨k, a, ns1⟩ := x
    simp only
    cases quantF l a with
    | none => exact nz_ok _
    | some q =>
      cases q with
      | none => exact nz_err (by decide)
      | some q =>
        obtain ⟨m, h, a2⟩ := q
        simp only
        split
        · exact nz_err (by decide)
        · exact nz_ok _
theorem pieces_nz (hp : NzO l p) (ha : AdvO l p) (f : Nat) : ∀ (at_ : Nat) (ns : List Nd) (kids : List Int), at_ ≤ l.length → l.length < at_ + f → Nz (piecesF l p inner f at_ ns kids) := by
  induction f with
  | zero => intro at_ ns kids h1 h2; omega
  | succ f ih =>
    intro at_ ns kids h1 h2
    unfold piecesF
    by_cases hm : moreF l inner at_ = true
    · rw [if_pos hm]
      have hlt : at_ < l.length := by
        unfold moreF at hm
        cases hx : l[at_]? with
        | none => rw [hx] at hm; cases hm
        | some c => exact get_lt hx
      have h3 := piece_nz hp (ns := ns) hlt
      cases hr : pieceF l p at_ ns with
      | error e => exact nz_err (h3 e hr)
      | ok x =>
        obtain ⟨k, a, ns1⟩ := x
        have h4 := piece_adv ha hr
        simp only
        exact ih a ns1 _ h4.2.1 (by omega)
    · rw [if_neg hm]
      exact nz_ok _
theorem alt_nz (hp : NzO l p) (ha : AdvO l p) {at_ : Nat} {ns : List Nd} (hl : at_ ≤ l.length) : Nz (altF l p inner at_ ns) := by
  unfold altF
  have h1 := pieces_nz (inner := inner) hp ha (l.length + 1) at_ ns [] hl (by omega)
  cases hr : piecesF l p inner (l.length + 1) at_ ns [] with
  | error e => exact nz_err (h1 e hr)
  | ok x =>
    obtain ⟨kids, a, ns1⟩ := x
    rcases kids with _ | ⟨k0, _ | ⟨k1, r⟩⟩
    · exact nz_ok _
    · exact nz_ok _
    · exact nz_ok _
theorem alts_nz (hp : NzO l p) (ha : AdvO l p) (f : Nat) : ∀ (at_ : Nat) (ns : List Nd) (kids : List Int), at_ ≤ l.length → l.length < at_ + f → Nz (altsF l p inner f at_ ns kids) := by
  induction f with
  | zero => intro at_ ns kids h1 h2; omega
  | succ f ih =>
    intro at_ ns kids h1 h2
    unfold altsF
    by_cases hb : l[at_]? = some 124
    · rw [if_pos hb]
      have hlt := get_lt hb
      have h3 := alt_nz (inner := inner) hp ha (ns := ns) (show at_ + 1 ≤ l.length by omega)
      cases hr : altF l p inner (at_ + 1) ns with
      | error e => exact nz_err (h3 e hr)
      | ok x =>
        obtain ⟨k, a, ns1⟩ := x
        have h4 := alt_adv ha (by omega) hr
        simp only
        exact ih a ns1 _ h4.2.1 (by omega)
    · rw [if_neg hb]
      exact nz_ok _
theorem pat_nz (hp : NzO l p) (ha : AdvO l p) : NzF l (patF l p inner) := by
  intro at_ ns hl
  unfold patF
  have h1 := alt_nz (inner := inner) hp ha (ns := ns) hl
  cases hr : altF l p inner at_ ns with
  | error e => exact nz_err (h1 e hr)
  | ok x =>
    obtain ⟨k, a, ns1⟩ := x
    simp only
    have h2 := alt_adv ha hl hr
    have h3 := alts_nz (inner := inner) hp ha (l.length + 1) a ns1 [k] h2.2.1 (by omega)
    cases hr2 : altsF l p inner (l.length + 1) a ns1 [k] with
    | error e => exact nz_err (h3 e hr2)
    | ok x2 =>
      obtain ⟨kids, a2, ns2⟩ := x2
      rcases kids with _ | ⟨k0, _ | ⟨k1, r⟩⟩
      · exact nz_ok _
      · exact nz_ok _
      · exact nz_ok _
theorem group_nz (g : Nat) : NzF l (groupF l g) := by
  induction g with
  | zero => exact pat_nz (fun f h => by cases h) (fun f h => by cases h)
  | succ g ih => exact pat_nz (fun f h => by injection h with h; subst h; exact ih) (fun f h => by injection h with h; subst h; exact group_adv g)
theorem parse_nz : Nz (parseF l) := by
  unfold parseF
  split
  · exact nz_err (by decide)
  · have h1 := pat_nz (inner := false) (p := some (groupF l 49)) (l := l) (fun f h => by injection h with h; subst h; exact group_nz 49) (fun f h => by injection h with h; subst h; exact group_adv 49) 0 [] (by omega)
    cases hr : patF l (some (groupF l 49)) false 0 [] with
    | error e => exact nz_err (h1 e hr)
    | ok x =>
      obtain ⟨k, a, ns⟩ := x
      simp only
      split
      · exact nz_err (by decide)
      · exact nz_ok _
end
end Rx
end
section
open Go.RowKit
namespace Px
open Cm Rx
def codeR (r : Except Int (List Nd)) : Int := match r with | .error c => c | .ok _ => 0
def nodesR (r : Except Int (List Nd)) : List Nd := match r with | .error _ => [] | .ok ns => ns
theorem nodes_small (l : List UInt8) : (nodesR (parseF l)).length ≤ 1100 ∧ ∀ n ∈ nodesR (parseF l), n.kids.length ≤ 257 := by
  cases h : parseF l with
  | error c => exact ⟨Nat.zero_le _, fun n hn => by cases hn⟩
  | ok ns => exact ⟨(parse_good h).2.1, (parse_good h).2.2⟩
theorem ParseP_rd (s : ByteArray) (w : World) (hG : Glb w.heap.size w) : Calls Try.prog 5 #[.string s] w fun e w' =>
    ∃ v, e = .returned (.tuple #[v, .int .i64 (codeR (parseF (Tx.bs s)))]) ∧ RdN w' v (nodesR (parseF (Tx.bs s))) ∧ Below w.heap.size w w' :=
  (Parse_all s w hG).mono fun e w' h => by
    cases hr : parseF (Tx.bs s) with
    | error c =>
      rw [hr] at h
      exact ⟨.slice none 0 0, h.1, RdN.nil _, h.2⟩
    | ok ns =>
      rw [hr] at h
      obtain ⟨v, ks, e1, e2, e3⟩ := h
      exact ⟨v, e1, RdN.of_own e2, e3⟩
theorem below_tr {w w1 w2 : World} (h : Below w.heap.size w w1) (hb : Below w1.heap.size w1 w2) : Below w.heap.size w w2 := h.trans (hb.mono h.size)
end Px
end
end Go.Proofs.Ytgadomcbaenodaa

/-
  The program's items of classes: item. Conditions: short patterns; the library's variable holds a number.
-/
import Derived.Test.YtbjfopoakiagpaaRegexPsL
namespace Go.Proofs.Ytbjfopoakiagpaa
open Go.RowKit
namespace Px
open Cm Rx
section
variable {w w0 : World} {base rb : Nat} {s : ByteArray} {a : Nat} {D : Int} {ns : List Nd} {ks : List Value}
theorem has_T (h1 : (Tx.bs s)[a]? = some 91) (h2 : (Tx.bs s)[a + 1]? = some 58) (q : World) : Calls Try.prog 133 #[.string (s.extract a s.size), .string ⟨#[91, 58]⟩] q fun e w' => e = .returned (.bool true) ∧ w' = q := by
  have h := Try.strings_HasPrefix (s.extract a s.size) ⟨#[91, 58]⟩ q
  rw [ext_end, show (⟨#[91, 58]⟩ : ByteArray).data.toList = [91, 58] from rfl, show Lib.hasPrefix ((Tx.bs s).drop a) [91, 58] = true from by
    have l1 := get_lt h2
    rw [List.drop_eq_getElem_cons (by omega), List.drop_eq_getElem_cons l1]
    rw [List.getElem?_eq_getElem (by omega)] at h1 h2
    rw [Option.some.inj h1, Option.some.inj h2]
    simp [Lib.hasPrefix, List.isPrefixOf]] at h
  exact h
theorem has_F (hx : ¬ ((Tx.bs s)[a]? = some 91 ∧ (Tx.bs s)[a + 1]? = some 58)) (q : World) : Calls Try.prog 133 #[.string (s.extract a s.size), .string ⟨#[91, 58]⟩] q fun e w' => e = .returned (.bool false) ∧ w' = q := by
  have h := Try.strings_HasPrefix (s.extract a s.size) ⟨#[91, 58]⟩ q
  rw [ext_end, show (⟨#[91, 58]⟩ : ByteArray).data.toList = [91, 58] from rfl, show Lib.hasPrefix ((Tx.bs s).drop a) [91, 58] = false from by
    rw [Bool.eq_false_iff]
    intro hp
    apply hx
    unfold Lib.hasPrefix at hp
    rw [List.isPrefixOf_iff_prefix] at hp
    obtain ⟨t, ht⟩ := hp
    have e0 : ((Tx.bs s).drop a)[0]? = some 91 := by rw [← ht]; rfl
    have e1 : ((Tx.bs s).drop a)[1]? = some 58 := by rw [← ht]; rfl
    rw [List.getElem?_drop] at e0 e1
    exact ⟨e0, e1⟩] at h
  exact h
set_option maxRecDepth 100000 in
set_option maxHeartbeats 4000000 in
theorem item_named (h : St w0 base rb s a D ns ks w) (hG : Glb base w) (hs : s.size ≤ 1000000) (h1 : (Tx.bs s)[a]? = some 91) (h2 : (Tx.bs s)[a + 1]? = some 58) :
    Calls Try.prog 125 #[.pointer (some ⟨rb, 0, none⟩)] w (ItemP w0 base rb s D ns ks (itemF (Tx.bs s) a)) := by
  have hl := get_lt h1
  rw [Tx.bs_len] at hl
  have HHas : Hid (∀ n, Calls Try.prog 133 #[.string (s.extract a s.size), .string ⟨#[91, 58]⟩] ((w.alloc zeroS).drewN n) _) := Lib.hid (fun q => has_T h1 h2 ((w.alloc zeroS).drewN q))
  have hal := fun o => h.below ((Below.refl _ _).alloc (Nat.le_refl _) o)
  have HNI := Lib.hid (fun q => namedItem_any (w0 := (w.alloc zeroS).drewN q) (St.start ((hal zeroS).1.drewN q)) (hG.below (below_drewN ((Below.refl _ _).alloc h.1.size zeroS) q)) hs h1 h2)
  have HSt := Lib.hid (fun q => (hal zeroS).drewN q)
  have HR := Lib.hid (HasO.new w zeroS)
  have hbase := h.1.size
  have hw0 := h.2.1.size
  have c0 := fun o => (hal o).cells.1
  have c1 := fun o => (hal o).cells.2.1
  have i0 : (0 : Int) ≤ (a : Int) := by omega
  have i1 : (a : Int) ≤ (s.size : Int) := by omega
  generalize itemF (Tx.bs s) a = r at HNI ⊢
  clear hal h h1 h2
  go_enter Try.func125, Try.ntmps125
  go_wp2_with fail
  go_quiet ((go_at_call 133; exact Calls.quiet_of_same (HHas.out _)))
  go_wp2_with fail
  refine (HNI.out _).mono ?_
  intro e w2 hq
  cases r with
  | none =>
    obtain ⟨rfl, B2⟩ := hq
    have HB2 := Lib.hid ((HSt.out _).2.1.trans B2)
    clear B2
    go_wp2_with fail
    exact ⟨rfl, rfl, HB2.out⟩
  | some p =>
    obtain ⟨p, a2⟩ := p
    obtain ⟨m, rfl, hm, S2⟩ := hq
    have R2 := Lib.hid (show HasO w2 w.heap.size zeroS from (S2.2.2 _ _ _ (by decide) (by decide) (show ((w.alloc zeroS).drewN _).heap[w.heap.size]? = some (.cells _ tBs (0, 0)) from HR.out)).trans HR.out)
    have HS2 := Lib.hid (show St w0 base rb s a2 D ns ks w2 from ⟨S2.1, (HSt.out _).2.1.trans S2.2.1, (HSt.out _).2.2.trans S2.2.2⟩)
    have HM := Lib.hid hm
    have zz := R2.out.zero
    obtain ⟨⟨z0, z1, z2, z3⟩, y0, y1, y2, y3⟩ := zz
    unfold setV
    clear S2 hm
    go_wp2_with fail
    refine bodyPost_ret (results_cell_row (p := 2) rfl _ _ _ _ _ _ _ rfl R2.out.copy Try.underlying152 rfl (by kernel_rfl)) rfl ?_
    exact ⟨m, rfl, HM.out, St_copyS HS2.out R2.out hw0 hbase _ _ _ _⟩
theorem ext_lt {k j : Nat} (h : k + j < s.size) : j < (s.extract k s.size).size := by rw [ByteArray.size_extract]; omega
theorem ext_at {k j : Nat} {x : UInt8} (hx : (Tx.bs s)[k + j]? = some x) (h : j < (s.extract k s.size).size) : (s.extract k s.size)[j].toNat = x.toNat := by
  have h1 := Tx.bs_get? (s.extract k s.size) j h
  have h2 : Tx.bs (s.extract k s.size) = (Tx.bs s).drop k := ext_end s k
  rw [h2, List.getElem?_drop, hx] at h1
  rw [Option.some.inj h1]
set_option maxRecDepth 100000 in
set_option maxHeartbeats 4000000 in
theorem item_range (h : St w0 base rb s a D ns ks w) (hs : s.size ≤ 1000000) (c c2 : UInt8) (hx : (Tx.bs s)[a]? = some c) (hn : ¬ ((Tx.bs s)[a]? = some 91 ∧ (Tx.bs s)[a + 1]? = some 58)) (h45 : (Tx.bs s)[a + 1]? = some 45) (hc2 : (Tx.bs s)[a + 2]? = some c2) (h93 : c2 ≠ 93) (hle : c.toNat ≤ c2.toNat) :
    Calls Try.prog 125 #[.pointer (some ⟨rb, 0, none⟩)] w (ItemP w0 base rb s D ns ks (some (spanM c.toNat c2.toNat, a + 3))) := by
  have hl := get_lt hc2
  rw [Tx.bs_len] at hl
  have hal := fun o => h.below ((Below.refl _ _).alloc (Nat.le_refl _) o)
  have HHas : Hid (∀ n, Calls Try.prog 133 #[.string (s.extract a s.size), .string ⟨#[91, 58]⟩] ((w.alloc zeroS).drewN n) _) := Lib.hid (fun q => has_F hn ((w.alloc zeroS).drewN q))
  have HNx := Lib.hid (fun q => next_T (w0 := (w.alloc zeroS).drewN q) (St.start ((hal zeroS).1.drewN q)) hs hx)
  have HSt := Lib.hid (fun q => (hal zeroS).drewN q)
  have HR := Lib.hid (HasO.new w zeroS)
  have hbase := h.1.size
  have hw0 := h.2.1.size
  have c0 := fun o => (hal o).cells.1
  have c1 := fun o => (hal o).cells.2.1
  have i0 : (0 : Int) ≤ (a : Int) := by omega
  have i1 : (a : Int) ≤ (s.size : Int) := by omega
  have i2 : (0 : Int) ≤ (a : Int) + 1 := by omega
  have i3 : (a : Int) + 1 ≤ (s.size : Int) := by omega
  have i4 : ((a : Int) + 1).toNat = a + 1 := by omega
  have g0 := ext_at (s := s) (k := a + 1) (j := 0) h45 (ext_lt (by omega))
  have g1 := ext_at (s := s) (k := a + 1) (j := 1) hc2 (ext_lt (by omega))
  rw [show (45 : UInt8).toNat = 45 from rfl] at g0
  have k1 : (1 : Int) < ((s.size - (a + 1) : Nat) : Int) := by omega
  have k0 : 0 < s.size - (a + 1) := by omega
  have k2 : 1 < s.size - (a + 1) := by omega
  have x1 : ((c2.toNat : Int) == 93) = false := by rw [beq_eq_false_iff_ne]; intro e; apply h93; apply UInt8.toNat_inj.1; show c2.toNat = 93; omega
  have x2 : ((c2.toNat : Int) != 93) = true := by rw [bne, x1]; rfl
  have x3 : ¬ c2.toNat < c.toNat := by omega
  have hb2 := c2.toNat_lt
  have HSp := Lib.hid (fun wq => span_any c.toNat c2.toNat hle hb2 wq)
  clear h45 hc2 h93
  clear hal h hx hn
  go_enter Try.func125, Try.ntmps125
  go_wp2_with fail
  go_quiet ((go_at_call 133; exact Calls.quiet_of_same (HHas.out _)))
  go_wp2_with fail
  refine (HNx.out _).mono ?_
  rintro e w2 ⟨rfl, S2⟩
  have R2 := Lib.hid (show HasO w2 w.heap.size zeroS from (S2.2.2 _ _ _ (by decide) (by decide) (show ((w.alloc zeroS).drewN _).heap[w.heap.size]? = some (.cells _ tBs (0, 0)) from HR.out)).trans HR.out)
  have HS2 := Lib.hid (show St w0 base rb s (a + 1) D ns ks w2 from ⟨S2.1, (HSt.out _).2.1.trans S2.2.1, (HSt.out _).2.2.trans S2.2.2⟩)
  obtain ⟨d0, d1, d2, hf⟩ := HS2.out.cells
  have f1 := hf 1
  rw [show (((a + 1 : Nat) : Int)) = (a : Int) + 1 from by omega] at d1
  clear S2 hf c0 c1
  have hrw : w.heap.size ≠ rb := by
    obtain ⟨⟨v, _, hh, _⟩, _⟩ := HS2.out
    intro e
    have h2 := R2.out
    unfold HasO at h2
    rw [e, hh] at h2
    injection h2 with h2
    injection h2 with _ ht
    exact absurd ht (by decide)
  have HS3 := Lib.hid (fun q => (HS2.out.drewN q).setAt (a + 3))
  rw [show ((a + 3 : Nat) : Int) = (a : Int) + 1 + 2 from by omega] at HS3
  have HR3 := Lib.hid (fun q v => HasO.other (W := w2.drewN q) (c := rb) (j := 1) (v := v) (show HasO (w2.drewN q) w.heap.size zeroS from R2.out) hrw)
  clear hrw
  go_wp2_with fail
  go_quiet (fail)
  go_wp2_with fail
  refine (HSp.out _).mono ?_
  rintro e w3 ⟨rfl, B3⟩
  have HS4 := Lib.hid ((HS3.out _).below B3)
  have R4 := Lib.hid ((HR3.out _ _).below B3)
  have zz := R4.out.zero
  obtain ⟨⟨z0, z1, z2, z3⟩, y0, y1, y2, y3⟩ := zz
  unfold setV
  clear B3
  go_wp2_with fail
  refine bodyPost_ret (results_cell_row (p := 2) rfl _ _ _ _ _ _ _ rfl R4.out.copy Try.underlying152 rfl (by kernel_rfl)) rfl ?_
  exact ⟨_, rfl, fun x _ => rfl, St_copyS HS4.out R4.out hw0 hbase _ _ _ _⟩
set_option maxRecDepth 100000 in
set_option maxHeartbeats 4000000 in
theorem item_turned (h : St w0 base rb s a D ns ks w) (hs : s.size ≤ 1000000) (c c2 : UInt8) (hx : (Tx.bs s)[a]? = some c) (hn : ¬ ((Tx.bs s)[a]? = some 91 ∧ (Tx.bs s)[a + 1]? = some 58)) (h45 : (Tx.bs s)[a + 1]? = some 45) (hc2 : (Tx.bs s)[a + 2]? = some c2) (h93 : c2 ≠ 93) (hle : c2.toNat < c.toNat) :
    Calls Try.prog 125 #[.pointer (some ⟨rb, 0, none⟩)] w (ItemP w0 base rb s D ns ks none) := by
  have hl := get_lt hc2
  rw [Tx.bs_len] at hl
  have hal := fun o => h.below ((Below.refl _ _).alloc (Nat.le_refl _) o)
  have HHas : Hid (∀ n, Calls Try.prog 133 #[.string (s.extract a s.size), .string ⟨#[91, 58]⟩] ((w.alloc zeroS).drewN n) _) := Lib.hid (fun q => has_F hn ((w.alloc zeroS).drewN q))
  have HNx := Lib.hid (fun q => next_T (w0 := (w.alloc zeroS).drewN q) (St.start ((hal zeroS).1.drewN q)) hs hx)
  have HSt := Lib.hid (fun q => (hal zeroS).drewN q)
  have HR := Lib.hid (HasO.new w zeroS)
  have hbase := h.1.size
  have hw0 := h.2.1.size
  have c0 := fun o => (hal o).cells.1
  have c1 := fun o => (hal o).cells.2.1
  have i0 : (0 : Int) ≤ (a : Int) := by omega
  have i1 : (a : Int) ≤ (s.size : Int) := by omega
  have i2 : (0 : Int) ≤ (a : Int) + 1 := by omega
  have i3 : (a : Int) + 1 ≤ (s.size : Int) := by omega
  have i4 : ((a : Int) + 1).toNat = a + 1 := by omega
  have g0 := ext_at (s := s) (k := a + 1) (j := 0) h45 (ext_lt (by omega))
  have g1 := ext_at (s := s) (k := a + 1) (j := 1) hc2 (ext_lt (by omega))
  rw [show (45 : UInt8).toNat = 45 from rfl] at g0
  have k1 : (1 : Int) < ((s.size - (a + 1) : Nat) : Int) := by omega
  have k0 : 0 < s.size - (a + 1) := by omega
  have k2 : 1 < s.size - (a + 1) := by omega
  have x1 : ((c2.toNat : Int) == 93) = false := by rw [beq_eq_false_iff_ne]; intro e; apply h93; apply UInt8.toNat_inj.1; show c2.toNat = 93; omega
  have x2 : ((c2.toNat : Int) != 93) = true := by rw [bne, x1]; rfl
  have x3 : (c2.toNat : Int) < (c.toNat : Int) := by omega
  clear h45 hc2 h93
  clear hal h hx hn
  go_enter Try.func125, Try.ntmps125
  go_wp2_with fail
  go_quiet ((go_at_call 133; exact Calls.quiet_of_same (HHas.out _)))
  go_wp2_with fail
  refine (HNx.out _).mono ?_
  rintro e w2 ⟨rfl, S2⟩
  have R2 := Lib.hid (show HasO w2 w.heap.size zeroS from (S2.2.2 _ _ _ (by decide) (by decide) (show ((w.alloc zeroS).drewN _).heap[w.heap.size]? = some (.cells _ tBs (0, 0)) from HR.out)).trans HR.out)
  have HS2 := Lib.hid (show St w0 base rb s (a + 1) D ns ks w2 from ⟨S2.1, (HSt.out _).2.1.trans S2.2.1, (HSt.out _).2.2.trans S2.2.2⟩)
  obtain ⟨d0, d1, d2, hf⟩ := HS2.out.cells
  have f1 := hf 1
  rw [show (((a + 1 : Nat) : Int)) = (a : Int) + 1 from by omega] at d1
  clear S2 hf c0 c1
  have hrw : w.heap.size ≠ rb := by
    obtain ⟨⟨v, _, hh, _⟩, _⟩ := HS2.out
    intro e
    have h2 := R2.out
    unfold HasO at h2
    rw [e, hh] at h2
    injection h2 with h2
    injection h2 with _ ht
    exact absurd ht (by decide)
  have HS3 := Lib.hid (fun q => (HS2.out.drewN q).setAt (a + 3))
  rw [show ((a + 3 : Nat) : Int) = (a : Int) + 1 + 2 from by omega] at HS3
  have HR3 := Lib.hid (fun q v => HasO.other (W := w2.drewN q) (c := rb) (j := 1) (v := v) (show HasO (w2.drewN q) w.heap.size zeroS from R2.out) hrw)
  clear hrw
  go_wp2_with fail
  go_quiet (fail)
  go_wp2_with fail
  exact ⟨rfl, rfl, (HS3.out _).2.1⟩
set_option maxRecDepth 100000 in
set_option maxHeartbeats 4000000 in
theorem item_short (h : St w0 base rb s a D ns ks w) (hs : s.size ≤ 1000000) (c : UInt8) (hx : (Tx.bs s)[a]? = some c) (hn : ¬ ((Tx.bs s)[a]? = some 91 ∧ (Tx.bs s)[a + 1]? = some 58)) (hsh : s.size ≤ a + 2) :
    Calls Try.prog 125 #[.pointer (some ⟨rb, 0, none⟩)] w (ItemP w0 base rb s D ns ks (some (spanM c.toNat c.toNat, a + 1))) := by
  have hl := get_lt hx
  rw [Tx.bs_len] at hl
  have hal := fun o => h.below ((Below.refl _ _).alloc (Nat.le_refl _) o)
  have HHas : Hid (∀ n, Calls Try.prog 133 #[.string (s.extract a s.size), .string ⟨#[91, 58]⟩] ((w.alloc zeroS).drewN n) _) := Lib.hid (fun q => has_F hn ((w.alloc zeroS).drewN q))
  have HNx := Lib.hid (fun q => next_T (w0 := (w.alloc zeroS).drewN q) (St.start ((hal zeroS).1.drewN q)) hs hx)
  have HSt := Lib.hid (fun q => (hal zeroS).drewN q)
  have HR := Lib.hid (HasO.new w zeroS)
  have hbase := h.1.size
  have hw0 := h.2.1.size
  have c0 := fun o => (hal o).cells.1
  have c1 := fun o => (hal o).cells.2.1
  have i0 : (0 : Int) ≤ (a : Int) := by omega
  have i1 : (a : Int) ≤ (s.size : Int) := by omega
  have i2 : (0 : Int) ≤ (a : Int) + 1 := by omega
  have i3 : (a : Int) + 1 ≤ (s.size : Int) := by omega
  have i4 : ((a : Int) + 1).toNat = a + 1 := by omega
  have k1 : ¬ (1 : Int) < ((s.size - (a + 1) : Nat) : Int) := by omega
  have hb2 := c.toNat_lt
  have HSp := Lib.hid (fun wq => span_any c.toNat c.toNat (Nat.le_refl _) hb2 wq)
  have x9 : ¬ (c.toNat : Int) < (c.toNat : Int) := by omega
  clear hal h hx hn
  go_enter Try.func125, Try.ntmps125
  go_wp2_with fail
  go_quiet ((go_at_call 133; exact Calls.quiet_of_same (HHas.out _)))
  go_wp2_with fail
  refine (HNx.out _).mono ?_
  rintro e w2 ⟨rfl, S2⟩
  have R2 := Lib.hid (show HasO w2 w.heap.size zeroS from (S2.2.2 _ _ _ (by decide) (by decide) (show ((w.alloc zeroS).drewN _).heap[w.heap.size]? = some (.cells _ tBs (0, 0)) from HR.out)).trans HR.out)
  have HS2 := Lib.hid (show St w0 base rb s (a + 1) D ns ks w2 from ⟨S2.1, (HSt.out _).2.1.trans S2.2.1, (HSt.out _).2.2.trans S2.2.2⟩)
  obtain ⟨d0, d1, d2, hf⟩ := HS2.out.cells
  have f1 := hf 1
  rw [show (((a + 1 : Nat) : Int)) = (a : Int) + 1 from by omega] at d1
  clear S2 hf c0 c1
  have HS3 := Lib.hid (fun q => HS2.out.drewN q)
  have HR3 := Lib.hid (fun q => show HasO (w2.drewN q) w.heap.size zeroS from R2.out)
  go_wp2_with fail
  go_quiet (fail)
  go_wp2_with fail
  refine (HSp.out _).mono ?_
  rintro e w3 ⟨rfl, B3⟩
  have HS4 := Lib.hid ((HS3.out _).below B3)
  have R4 := Lib.hid ((HR3.out _).below B3)
  have zz := R4.out.zero
  obtain ⟨⟨z0, z1, z2, z3⟩, y0, y1, y2, y3⟩ := zz
  unfold setV
  clear B3
  go_wp2_with fail
  refine bodyPost_ret (results_cell_row (p := 2) rfl _ _ _ _ _ _ _ rfl R4.out.copy Try.underlying152 rfl (by kernel_rfl)) rfl ?_
  exact ⟨_, rfl, fun x _ => rfl, St_copyS HS4.out R4.out hw0 hbase _ _ _ _⟩
set_option maxRecDepth 100000 in
set_option maxHeartbeats 4000000 in
theorem item_other (h : St w0 base rb s a D ns ks w) (hs : s.size ≤ 1000000) (c : UInt8) (hx : (Tx.bs s)[a]? = some c) (hn : ¬ ((Tx.bs s)[a]? = some 91 ∧ (Tx.bs s)[a + 1]? = some 58)) (b1 : UInt8) (h1 : (Tx.bs s)[a + 1]? = some b1) (h45 : b1 ≠ 45) (h2 : a + 2 < s.size) :
    Calls Try.prog 125 #[.pointer (some ⟨rb, 0, none⟩)] w (ItemP w0 base rb s D ns ks (some (spanM c.toNat c.toNat, a + 1))) := by
  have hl := get_lt hx
  rw [Tx.bs_len] at hl
  have hal := fun o => h.below ((Below.refl _ _).alloc (Nat.le_refl _) o)
  have HHas : Hid (∀ n, Calls Try.prog 133 #[.string (s.extract a s.size), .string ⟨#[91, 58]⟩] ((w.alloc zeroS).drewN n) _) := Lib.hid (fun q => has_F hn ((w.alloc zeroS).drewN q))
  have HNx := Lib.hid (fun q => next_T (w0 := (w.alloc zeroS).drewN q) (St.start ((hal zeroS).1.drewN q)) hs hx)
  have HSt := Lib.hid (fun q => (hal zeroS).drewN q)
  have HR := Lib.hid (HasO.new w zeroS)
  have hbase := h.1.size
  have hw0 := h.2.1.size
  have c0 := fun o => (hal o).cells.1
  have c1 := fun o => (hal o).cells.2.1
  have i0 : (0 : Int) ≤ (a : Int) := by omega
  have i1 : (a : Int) ≤ (s.size : Int) := by omega
  have i2 : (0 : Int) ≤ (a : Int) + 1 := by omega
  have i3 : (a : Int) + 1 ≤ (s.size : Int) := by omega
  have i4 : ((a : Int) + 1).toNat = a + 1 := by omega
  have g0 := ext_at (s := s) (k := a + 1) (j := 0) h1 (ext_lt (by omega))
  have k1 : (1 : Int) < ((s.size - (a + 1) : Nat) : Int) := by omega
  have k0 : 0 < s.size - (a + 1) := by omega
  have x1 : ((b1.toNat : Int) == 45) = false := by rw [beq_eq_false_iff_ne]; intro e; apply h45; apply UInt8.toNat_inj.1; show b1.toNat = 45; omega
  clear h1 h45
  have hb2 := c.toNat_lt
  have HSp := Lib.hid (fun wq => span_any c.toNat c.toNat (Nat.le_refl _) hb2 wq)
  have x9 : ¬ (c.toNat : Int) < (c.toNat : Int) := by omega
  clear hal h hx hn
  go_enter Try.func125, Try.ntmps125
  go_wp2_with fail
  go_quiet ((go_at_call 133; exact Calls.quiet_of_same (HHas.out _)))
  go_wp2_with fail
  refine (HNx.out _).mono ?_
  rintro e w2 ⟨rfl, S2⟩
  have R2 := Lib.hid (show HasO w2 w.heap.size zeroS from (S2.2.2 _ _ _ (by decide) (by decide) (show ((w.alloc zeroS).drewN _).heap[w.heap.size]? = some (.cells _ tBs (0, 0)) from HR.out)).trans HR.out)
  have HS2 := Lib.hid (show St w0 base rb s (a + 1) D ns ks w2 from ⟨S2.1, (HSt.out _).2.1.trans S2.2.1, (HSt.out _).2.2.trans S2.2.2⟩)
  obtain ⟨d0, d1, d2, hf⟩ := HS2.out.cells
  have f1 := hf 1
  rw [show (((a + 1 : Nat) : Int)) = (a : Int) + 1 from by omega] at d1
  clear S2 hf c0 c1
  have HS3 := Lib.hid (fun q => HS2.out.drewN q)
  have HR3 := Lib.hid (fun q => show HasO (w2.drewN q) w.heap.size zeroS from R2.out)
  go_wp2_with fail
  go_quiet (fail)
  go_wp2_with fail
  refine (HSp.out _).mono ?_
  rintro e w3 ⟨rfl, B3⟩
  have HS4 := Lib.hid ((HS3.out _).below B3)
  have R4 := Lib.hid ((HR3.out _).below B3)
  have zz := R4.out.zero
  obtain ⟨⟨z0, z1, z2, z3⟩, y0, y1, y2, y3⟩ := zz
  unfold setV
  clear B3
  go_wp2_with fail
  refine bodyPost_ret (results_cell_row (p := 2) rfl _ _ _ _ _ _ _ rfl R4.out.copy Try.underlying152 rfl (by kernel_rfl)) rfl ?_
  exact ⟨_, rfl, fun x _ => rfl, St_copyS HS4.out R4.out hw0 hbase _ _ _ _⟩
set_option maxRecDepth 100000 in
set_option maxHeartbeats 4000000 in
theorem item_close (h : St w0 base rb s a D ns ks w) (hs : s.size ≤ 1000000) (c : UInt8) (hx : (Tx.bs s)[a]? = some c) (hn : ¬ ((Tx.bs s)[a]? = some 91 ∧ (Tx.bs s)[a + 1]? = some 58)) (h45 : (Tx.bs s)[a + 1]? = some 45) (h93 : (Tx.bs s)[a + 2]? = some 93) :
    Calls Try.prog 125 #[.pointer (some ⟨rb, 0, none⟩)] w (ItemP w0 base rb s D ns ks (some (spanM c.toNat c.toNat, a + 1))) := by
  have hl := get_lt hx
  rw [Tx.bs_len] at hl
  have hal := fun o => h.below ((Below.refl _ _).alloc (Nat.le_refl _) o)
  have HHas : Hid (∀ n, Calls Try.prog 133 #[.string (s.extract a s.size), .string ⟨#[91, 58]⟩] ((w.alloc zeroS).drewN n) _) := Lib.hid (fun q => has_F hn ((w.alloc zeroS).drewN q))
  have HNx := Lib.hid (fun q => next_T (w0 := (w.alloc zeroS).drewN q) (St.start ((hal zeroS).1.drewN q)) hs hx)
  have HSt := Lib.hid (fun q => (hal zeroS).drewN q)
  have HR := Lib.hid (HasO.new w zeroS)
  have hbase := h.1.size
  have hw0 := h.2.1.size
  have c0 := fun o => (hal o).cells.1
  have c1 := fun o => (hal o).cells.2.1
  have i0 : (0 : Int) ≤ (a : Int) := by omega
  have i1 : (a : Int) ≤ (s.size : Int) := by omega
  have i2 : (0 : Int) ≤ (a : Int) + 1 := by omega
  have i3 : (a : Int) + 1 ≤ (s.size : Int) := by omega
  have i4 : ((a : Int) + 1).toNat = a + 1 := by omega
  have h2 := get_lt h93
  rw [Tx.bs_len] at h2
  have g0 := ext_at (s := s) (k := a + 1) (j := 0) h45 (ext_lt (by omega))
  have g1 := ext_at (s := s) (k := a + 1) (j := 1) h93 (ext_lt (by omega))
  rw [show (45 : UInt8).toNat = 45 from rfl] at g0
  rw [show (93 : UInt8).toNat = 93 from rfl] at g1
  have k1 : (1 : Int) < ((s.size - (a + 1) : Nat) : Int) := by omega
  have k0 : 0 < s.size - (a + 1) := by omega
  have k2 : 1 < s.size - (a + 1) := by omega
  clear h45 h93
  have hb2 := c.toNat_lt
  have HSp := Lib.hid (fun wq => span_any c.toNat c.toNat (Nat.le_refl _) hb2 wq)
  have x9 : ¬ (c.toNat : Int) < (c.toNat : Int) := by omega
  clear hal h hx hn
  go_enter Try.func125, Try.ntmps125
  go_wp2_with fail
  go_quiet ((go_at_call 133; exact Calls.quiet_of_same (HHas.out _)))
  go_wp2_with fail
  refine (HNx.out _).mono ?_
  rintro e w2 ⟨rfl, S2⟩
  have R2 := Lib.hid (show HasO w2 w.heap.size zeroS from (S2.2.2 _ _ _ (by decide) (by decide) (show ((w.alloc zeroS).drewN _).heap[w.heap.size]? = some (.cells _ tBs (0, 0)) from HR.out)).trans HR.out)
  have HS2 := Lib.hid (show St w0 base rb s (a + 1) D ns ks w2 from ⟨S2.1, (HSt.out _).2.1.trans S2.2.1, (HSt.out _).2.2.trans S2.2.2⟩)
  obtain ⟨d0, d1, d2, hf⟩ := HS2.out.cells
  have f1 := hf 1
  rw [show (((a + 1 : Nat) : Int)) = (a : Int) + 1 from by omega] at d1
  clear S2 hf c0 c1
  have HS3 := Lib.hid (fun q => HS2.out.drewN q)
  have HR3 := Lib.hid (fun q => show HasO (w2.drewN q) w.heap.size zeroS from R2.out)
  go_wp2_with fail
  go_quiet (fail)
  go_wp2_with fail
  refine (HSp.out _).mono ?_
  rintro e w3 ⟨rfl, B3⟩
  have HS4 := Lib.hid ((HS3.out _).below B3)
  have R4 := Lib.hid ((HR3.out _).below B3)
  have zz := R4.out.zero
  obtain ⟨⟨z0, z1, z2, z3⟩, y0, y1, y2, y3⟩ := zz
  unfold setV
  clear B3
  go_wp2_with fail
  refine bodyPost_ret (results_cell_row (p := 2) rfl _ _ _ _ _ _ _ rfl R4.out.copy Try.underlying152 rfl (by kernel_rfl)) rfl ?_
  exact ⟨_, rfl, fun x _ => rfl, St_copyS HS4.out R4.out hw0 hbase _ _ _ _⟩
set_option maxRecDepth 100000 in
set_option maxHeartbeats 4000000 in
theorem item_end (h : St w0 base rb s a D ns ks w) (hs : s.size ≤ 1000000) (ha : a ≤ s.size) (hx : (Tx.bs s)[a]? = none) :
    Calls Try.prog 125 #[.pointer (some ⟨rb, 0, none⟩)] w (ItemP w0 base rb s D ns ks none) := by
  have hal := fun o => h.below ((Below.refl _ _).alloc (Nat.le_refl _) o)
  have HHas : Hid (∀ n, Calls Try.prog 133 #[.string (s.extract a s.size), .string ⟨#[91, 58]⟩] ((w.alloc zeroS).drewN n) _) := Lib.hid (fun q => has_F (by rw [hx]; rintro ⟨h, _⟩; cases h) ((w.alloc zeroS).drewN q))
  have HNx := Lib.hid (fun q => next_F ((hal zeroS).drewN q) hs ha hx)
  have c0 := fun o => (hal o).cells.1
  have c1 := fun o => (hal o).cells.2.1
  have i0 : (0 : Int) ≤ (a : Int) := by omega
  have i1 : (a : Int) ≤ (s.size : Int) := by omega
  clear hal h hx
  go_enter Try.func125, Try.ntmps125
  go_wp2_with fail
  go_quiet ((go_at_call 133; exact Calls.quiet_of_same (HHas.out _)))
  go_wp2_with fail
  refine (HNx.out _).mono ?_
  rintro e w2 ⟨rfl, B2⟩
  have HB := Lib.hid B2
  clear B2
  go_wp2_with fail
  exact ⟨rfl, rfl, HB.out⟩
end
end Px
end Go.Proofs.Ytbjfopoakiagpaa

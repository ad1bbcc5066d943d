/-
  The program's classes. Conditions: short patterns; the library's variable holds a number.
-/
import Derived.Test.YtbjfopoakiagpaaRegexPsO
import Derived.Deep.RegionLaw
namespace Go.Proofs.Ytbjfopoakiagpaa
open Go.RowKit
namespace Px
open Cm Rx
section
variable {w w0 : World} {base rb : Nat} {s : ByteArray} {a : Nat} {D : Int} {ns : List Nd} {ks : List Value}
theorem ItemP_eq {p q : Nat → Bool} {a2 : Nat} {e : Ending} {w' : World} (h : ItemP w0 base rb s D ns ks (some (p, a2)) e w') (hpq : ∀ x, x < 256 → p x = q x) : ItemP w0 base rb s D ns ks (some (q, a2)) e w' := by
  obtain ⟨m, e1, e2, e3⟩ := h
  exact ⟨m, e1, fun x hx => by rw [e2 x hx, hpq x hx], e3⟩
theorem one_set (c : UInt8) (x : Nat) : spanM c.toNat c.toNat x = (x == c.toNat) := by
  unfold spanM
  rw [Bool.eq_iff_iff]
  simp only [Bool.and_eq_true, decide_eq_true_eq, beq_iff_eq]
  omega
/-- One item. -/
theorem item_any (h : St w0 base rb s a D ns ks w) (hG : Glb base w) (hs : s.size ≤ 1000000) (ha : a ≤ s.size) :
    Calls Try.prog 125 #[.pointer (some ⟨rb, 0, none⟩)] w (ItemP w0 base rb s D ns ks (itemF (Tx.bs s) a)) := by
  have hlen := Tx.bs_len s
  cases hx : (Tx.bs s)[a]? with
  | none =>
    rw [show itemF (Tx.bs s) a = none from by unfold itemF; rw [hx]]
    exact item_end h hs ha hx
  | some c =>
    by_cases hn : (Tx.bs s)[a]? = some 91 ∧ (Tx.bs s)[a + 1]? = some 58
    · exact item_named h hG hs hn.1 hn.2
    · have hn2 : ¬ (c = 91 ∧ (Tx.bs s)[a + 1]? = some 58) := fun hc => hn ⟨by rw [hx, hc.1], hc.2⟩
      by_cases hr : (Tx.bs s)[a + 1]? = some 45 ∧ a + 2 < (Tx.bs s).length ∧ (Tx.bs s)[a + 2]? ≠ some 93
      · obtain ⟨h45, hl2, h93⟩ := hr
        obtain ⟨c2, hc2⟩ : ∃ c2, (Tx.bs s)[a + 2]? = some c2 := ⟨_, List.getElem?_eq_getElem hl2⟩
        have hI : itemF (Tx.bs s) a = if c2 < c then none else some (fun x => decide (c.toNat ≤ x) && decide (x ≤ c2.toNat), a + 3) := by
          unfold itemF
          rw [hx]
          simp only
          rw [if_neg hn2, if_pos ⟨h45, hl2, h93⟩, hc2]
          rfl
        rw [hI]
        have hne : c2 ≠ 93 := fun e => h93 (by rw [hc2, e])
        by_cases hlt : c2 < c
        · rw [if_pos hlt]
          exact item_turned h hs c c2 hx hn h45 hc2 hne (UInt8.lt_iff_toNat_lt.1 hlt)
        · rw [if_neg hlt]
          exact item_range h hs c c2 hx hn h45 hc2 hne (by rcases Nat.lt_or_ge c2.toNat c.toNat with h4 | h4; exact absurd (UInt8.lt_iff_toNat_lt.2 h4) hlt; exact h4)
      · have hI : itemF (Tx.bs s) a = some (fun x => x == c.toNat, a + 1) := by
          unfold itemF
          rw [hx]
          simp only
          rw [if_neg hn2, if_neg hr]
        rw [hI]
        have hq : ∀ (e : Ending) (w' : World), ItemP w0 base rb s D ns ks (some (spanM c.toNat c.toNat, a + 1)) e w' → ItemP w0 base rb s D ns ks (some (fun x => x == c.toNat, a + 1)) e w' := fun e w' hp => ItemP_eq hp fun x _ => one_set c x
        by_cases hsh : s.size ≤ a + 2
        · exact (item_short h hs c hx hn hsh).mono hq
        · obtain ⟨b1, hb1⟩ : ∃ b1, (Tx.bs s)[a + 1]? = some b1 := ⟨_, List.getElem?_eq_getElem (by omega)⟩
          by_cases h45 : b1 = 45
          · subst h45
            have h93 : (Tx.bs s)[a + 2]? = some 93 := by
              apply Classical.byContradiction
              intro h3
              exact hr ⟨hb1, by omega, h3⟩
            exact (item_close h hs c hx hn hb1 h93).mono hq
          · exact (item_other h hs c hx hn b1 hb1 h45 (by omega)).mono hq
/-- Between two items. -/
def CRel (s : ByteArray) (total : Option ((Nat → Bool) × Nat)) (w0 : World) (base rb H : Nat) (D : Int) (ns : List Nd) (ks : List Value) (wr : World) : Prop :=
  ∃ (f a : Nat) (m mv : Nat → Bool), total = itemsF (Tx.bs s) f false a m ∧ s.size < a + f ∧ a ≤ s.size ∧ St w0 base rb s a D ns ks wr ∧ HasO wr H (rowS mv) ∧ (∀ x, x < 256 → mv x = m x) ∧ w0.heap.size ≤ H ∧ base ≤ H
theorem HasO.copyR {W : World} {b : Nat} {m0 m : Nat → Bool} (h : HasO W b (rowS m0)) : HasO ((((W.setCell ⟨b, 0, none⟩ (.int .u64 (word m 0 : Nat))).setCell ⟨b, 1, none⟩ (.int .u64 (word m 1 : Nat))).setCell ⟨b, 2, none⟩ (.int .u64 (word m 2 : Nat))).setCell ⟨b, 3, none⟩ (.int .u64 (word m 3 : Nat))) b (rowS m) := by
  unfold HasO at h ⊢
  rw [set_block (set_block (set_block (set_block h)))]
  rfl
theorem HasO.froz {W : World} {b : Nat} {m : Nat → Bool} (h : HasO W b (rowS m)) : (W.frozen? ⟨b, 0, none⟩ = false ∧ W.frozen? ⟨b, 1, none⟩ = false) ∧ W.frozen? ⟨b, 2, none⟩ = false ∧ W.frozen? ⟨b, 3, none⟩ = false := by
  unfold HasO at h
  simp [World.frozen?, h]
theorem St_copyR (h : St w0 base rb s a D ns ks w) {H : Nat} {m : Nat → Bool} (hH : HasO w H (rowS m)) (h0 : w0.heap.size ≤ H) (hb : base ≤ H) (x y z u : Value) : St w0 base rb s a D ns ks ((((w.setCell ⟨H, 0, none⟩ x).setCell ⟨H, 1, none⟩ y).setCell ⟨H, 2, none⟩ z).setCell ⟨H, 3, none⟩ u) := by
  have h1 := St_setS h hH h0 hb x (j := 0)
  have k1 : HasO (w.setCell ⟨H, 0, none⟩ x) H (.cells _ tBs) := set_block hH
  have h2 := St_setS h1 k1 h0 hb y (j := 1)
  have k2 : HasO ((w.setCell ⟨H, 0, none⟩ x).setCell ⟨H, 1, none⟩ y) H (.cells _ tBs) := set_block k1
  have h3 := St_setS h2 k2 h0 hb z (j := 2)
  have k3 : HasO (((w.setCell ⟨H, 0, none⟩ x).setCell ⟨H, 1, none⟩ y).setCell ⟨H, 2, none⟩ z) H (.cells _ tBs) := set_block k2
  exact St_setS h3 k3 h0 hb u (j := 3)
theorem items_go {l : List UInt8} {f a : Nat} {m : Nat → Bool} (h : ¬ l[a]? = some 93) : itemsF l (f + 1) false a m = match itemF l a with | none => none | some (p, a2) => itemsF l f false a2 (fun x => m x || p x) := by
  rw [items_step, if_neg (by rw [Bool.not_false, Bool.true_and, beq_iff_eq]; exact h)]
  generalize itemF l a = q
  rcases q with _ | ⟨_, _⟩ <;> rfl
/-- What is made of a class's items. -/
def clsP (ns : List Nd) (t : Option ((Nat → Bool) × Nat)) : Res :=
  match t with
  | none => .error 40
  | some (m, a) => .ok (ns.length, a + 1, ns ++ [setN m])
def clsN (ns : List Nd) (t : Option ((Nat → Bool) × Nat)) : Res :=
  match t with
  | none => .error 40
  | some (m, a) => .ok (ns.length, a + 1, ns ++ [setN (fun x => !m x)])
theorem crel_meas {a' : Nat} (h : St w0 base rb s a' D ns ks w) (ha : a' ≤ s.size) : meas s rb w = s.size + 1 - a' := meas_ok h ha
set_option maxRecDepth 100000 in
set_option maxHeartbeats 8000000 in
theorem class_plain (h : Prs w base rb s (a : Int) D ns ks) (hG : Glb base w) (hs : s.size ≤ 1000000) (ha : a < s.size) (hn : ns.length ≤ 1000000) (hx : ¬ (Tx.bs s)[a + 1]? = some 94) :
    Calls Try.prog 113 #[.pointer (some ⟨rb, 0, none⟩)] w (PPost w base rb s D ks (clsP ns (itemsF (Tx.bs s) ((Tx.bs s).length + 1) true (a + 1) noSet))) := by
  have S0 := (St.start h).setAt (a + 1)
  have HTk := Lib.hid (take_F S0 hs (by omega) hx 94 rfl)
  have HIt := Lib.hid (fun (b : Nat) (wq : World) (hq : St w base rb s b D ns ks wq) (hb : b ≤ s.size) => item_any (St.start hq.1) (hG.below hq.2.1) hs hb)
  have HTot : Hid (itemsF (Tx.bs s) ((Tx.bs s).length + 1) true (a + 1) noSet = match itemF (Tx.bs s) (a + 1) with | none => none | some (p, a2) => itemsF (Tx.bs s) (Tx.bs s).length false a2 (fun x => noSet x || p x)) := Lib.hid (by rw [items_step]; rfl)
  generalize itemsF (Tx.bs s) ((Tx.bs s).length + 1) true (a + 1) noSet = total at HTot ⊢
  generalize hres : clsP ns total = r
  obtain ⟨c0, c1, c2, hf⟩ := (St.start h).cells
  have f1 := hf 1
  have hbase := h.size
  have HI0 := Lib.hid (fun wq hq => HIt.out (a + 1) wq hq (by omega))
  cases hi : itemF (Tx.bs s) (a + 1) with
  | none =>
    rw [hi] at HTot HI0
    have HR : Hid (r = .error 40) := Lib.hid (by rw [← hres, HTot.out]; rfl)
    clear hf h S0 hi hres
    go_enter Try.func113, Try.ntmps113
    go_wp2_with fail
    refine HTk.out.mono ?_
    rintro en w1 ⟨rfl, S1⟩
    have HI1 := Lib.hid (HI0.out _ S1)
    have HB1 := Lib.hid S1.2.1
    clear S1
    go_wp2_with fail
    refine HI1.out.mono ?_
    rintro en w2 ⟨rfl, B2⟩
    have HB2 := Lib.hid (HB1.out.trans B2)
    clear B2
    go_wp2_with fail
    refine ⟨rfl, ?_⟩
    rw [HR.out]
    exact ⟨rfl, HB2.out⟩
  | some x =>
    obtain ⟨p, a2⟩ := x
    have hav := item_adv hi
    rw [Tx.bs_len] at hav
    rw [hi] at HTot HI0
    clear hf h S0 hi
    go_enter Try.func113, Try.ntmps113
    go_wp2_with fail
    refine HTk.out.mono ?_
    rintro en w1 ⟨rfl, S1⟩
    have HI1 := Lib.hid (HI0.out _ S1)
    have HS1 := Lib.hid S1
    clear S1
    go_wp2_with fail
    refine HI1.out.mono ?_
    rintro en w2 ⟨mv, rfl, hm, S2'⟩
    have S2 : St w base rb s a2 D ns ks w2 := ⟨S2'.1, HS1.out.2.1.trans S2'.2.1, HS1.out.2.2.trans S2'.2.2⟩
    have HStart := Lib.hid (show CRel s total w base rb w2.heap.size D ns ks (w2.alloc (rowS mv)) from
      ⟨(Tx.bs s).length, a2, fun x => noSet x || p x, mv, HTot.out, by rw [Tx.bs_len]; omega, hav.2, S2.below ((Below.refl _ _).alloc (Nat.le_refl _) _), HasO.new w2 (rowS mv), fun x hx => by rw [hm x hx]; rfl, S2.2.1.size, S2.1.size⟩)
    generalize hH2 : w2.heap.size = H at HStart
    unfold setV
    clear hm S2 S2'
    go_wp2_with fail
    go_loopw [] (fun wr => CRel s total w base rb H D ns ks wr) (fun wr => meas s rb wr)
    case atStart => exact HStart.out
    case round =>
      obtain ⟨f, a3, m3, mv3, ht, hfu, ha3, S3, A3, hm3, hw0, hbH⟩ := hrel
      obtain ⟨f', rfl⟩ : ∃ f', f = f' + 1 := ⟨f - 1, by omega⟩
      by_cases h93 : (Tx.bs s)[a3]? = some 93
      · have HT2 : Hid (total = some (m3, a3)) := Lib.hid (by rw [ht, items_step, h93]; rfl)
        have HR : Hid (r = .ok (ns.length, a3 + 1, ns ++ [setN m3])) := Lib.hid (by rw [← hres, HT2.out]; rfl)
        have HTk2 := Lib.hid (take_T (St.start S3.1) hs h93 93 rfl)
        have HS3 := Lib.hid S3
        have HA3 := Lib.hid A3
        clear ht hfu S3 A3 h93 hres
        go_wp2_with fail
        refine HTk2.out.mono ?_
        rintro en w4 ⟨rfl, S4'⟩
        have HS4 := Lib.hid (show St w base rb s (a3 + 1) D ns ks w4 from ⟨S4'.1, HS3.out.2.1.trans S4'.2.1, HS3.out.2.2.trans S4'.2.2⟩)
        have A4 := Lib.hid (show HasO w4 H (rowS mv3) from (S4'.2.2 _ _ _ (by decide) (by decide) (show wr.heap[H]? = some (.cells _ tBs (0, 0)) from HA3.out)).trans HA3.out)
        have vv := A4.out.row
        obtain ⟨⟨v0, v1⟩, v2, v3⟩ := vv
        clear S4'
        have HAdd := Lib.hid (addSet_St HS4.out mv3 m3 hm3 hn)
        unfold setV at HAdd
        clear hm3
        go_wp2_with fail
        refine HAdd.out.mono ?_
        rintro en w5 ⟨rfl, S5⟩
        have HS5 := Lib.hid S5
        clear S5
        go_wp2_with fail
        go_ret
        rw [HR.out]
        exact PPost_one HS5.out (late_nil _)
      · have HT2 : Hid (total = match itemF (Tx.bs s) a3 with | none => none | some (p, a2) => itemsF (Tx.bs s) f' false a2 (fun x => m3 x || p x)) := Lib.hid (by
          rw [ht, items_go h93])
        have HTk2 := Lib.hid (take_F (St.start S3.1) hs ha3 h93 93 rfl)
        have HS3 := Lib.hid S3
        have HA3 := Lib.hid A3
        have HM := Lib.hid (crel_meas S3 ha3)
        cases hi3 : itemF (Tx.bs s) a3 with
        | none =>
          rw [hi3] at HT2
          have HR : Hid (r = .error 40) := Lib.hid (by rw [← hres, HT2.out]; rfl)
          have hi3N := hi3
          clear ht hfu S3 A3 h93 hi3 hres
          go_wp2_with fail
          refine HTk2.out.mono ?_
          rintro en w4 ⟨rfl, S4'⟩
          have HS4 := Lib.hid (show St w base rb s a3 D ns ks w4 from ⟨S4'.1, HS3.out.2.1.trans S4'.2.1, HS3.out.2.2.trans S4'.2.2⟩)
          have HI := Lib.hid (fun q => HIt.out a3 (w4.drewN q) (HS4.out.drewN q) ha3)
          rw [hi3N] at HI
          have A4 := Lib.hid (show HasO w4 H (rowS mv3) from (S4'.2.2 _ _ _ (by decide) (by decide) (show wr.heap[H]? = some (.cells _ tBs (0, 0)) from HA3.out)).trans HA3.out)
          have vv := A4.out.row
          obtain ⟨⟨v0, v1⟩, v2, v3⟩ := vv
          have HB4 := Lib.hid HS4.out.2.1
          clear S4'
          go_wp2_with fail
          refine wp_region_any (by kernel_rfl) ?_
          change wpAny _ _ _ _ _ _ _ (World.drew _)
          refine wpAny_take (i := 1) (v := .pointer (some ⟨rb, 0, none⟩)) rfl (by kernel_rfl) (by kernel_rfl) (by kernel_rfl) (fun _ _ _ h => h) (Or.inl ⟨by rfl, ?_⟩) ?_
          · intro w
            go_simp
          refine wpAny_ready (rs := [0, 2]) (by kernel_rfl) (by simp) ?_
          refine AllReady.cons rfl (fun K hK => ?_) (AllReady.cons rfl (fun K hK => ?_) AllReady.nil)
          · go_simp
            refine hK _ _ ?_
            clear hK K
            refine wpAny_ready (rs := [2]) (by kernel_rfl) (by simp) ?_
            refine AllReady.cons rfl (fun K hK => ?_) AllReady.nil
            go_simp
            go_at_call 125
            refine (HI.out 1).mono ?_
            rintro en w5 ⟨rfl, B5⟩
            refine (show bodyPost Try.prog Try.f113 (PPost w base rb s D ks r) (Exit.panic [{ v := .iface 26 (.int .i64 40), recovered := false }]) _ w5 from ⟨rfl, ?_⟩)
            rw [HR.out]
            exact ⟨rfl, HB4.out.trans ((below_drewN (Below.refl _ _) 1).trans B5)⟩
          · go_simp
            go_at_call 125
            refine (HI.out 1).mono ?_
            rintro en w5 ⟨rfl, B5⟩
            refine (show bodyPost Try.prog Try.f113 (PPost w base rb s D ks r) (Exit.panic [{ v := .iface 26 (.int .i64 40), recovered := false }]) _ w5 from ⟨rfl, ?_⟩)
            rw [HR.out]
            exact ⟨rfl, HB4.out.trans ((below_drewN (Below.refl _ _) 1).trans B5)⟩
        | some x =>
          obtain ⟨p4, a4⟩ := x
          have hav4 := item_adv hi3
          rw [Tx.bs_len] at hav4
          rw [hi3] at HT2
          clear ht S3 A3 h93
          go_wp2_with fail
          refine HTk2.out.mono ?_
          rintro en w4 ⟨rfl, S4'⟩
          have HS4 := Lib.hid (show St w base rb s a3 D ns ks w4 from ⟨S4'.1, HS3.out.2.1.trans S4'.2.1, HS3.out.2.2.trans S4'.2.2⟩)
          have HI := Lib.hid (fun q => HIt.out a3 (w4.drewN q) (HS4.out.drewN q) ha3)
          rw [hi3] at HI
          have A4 := Lib.hid (show HasO w4 H (rowS mv3) from (S4'.2.2 _ _ _ (by decide) (by decide) (show wr.heap[H]? = some (.cells _ tBs (0, 0)) from HA3.out)).trans HA3.out)
          have vv := A4.out.row
          obtain ⟨⟨v0, v1⟩, v2, v3⟩ := vv
          have HW := Lib.hid (fun m wq => with_any mv3 m wq)
          unfold setV at HW
          clear S4' hi3
          go_wp2_with fail
          go_region_law (first
            | (go_simp; go_at_call 125; refine (HI.out 1).mono ?_; rintro en w5 ⟨mp, rfl, hmp, S5⟩; have HMp := Lib.hid hmp; have HS5 := Lib.hid (show St w base rb s a4 D ns ks w5 from ⟨S5.1, (HS4.out.drewN 1).2.1.trans S5.2.1, (HS4.out.drewN 1).2.2.trans S5.2.2⟩); have A5 := Lib.hid (show HasO w5 H (rowS mv3) from (S5.2.2 _ _ _ (by decide) (by decide) (show (w4.drewN 1).heap[H]? = some (.cells _ tBs (0, 0)) from A4.out)).trans A4.out); have xx := A5.out.row; obtain ⟨⟨x0, x1⟩, x2, x3⟩ := xx; unfold setV; clear hmp S5)
            | (go_simp; go_at_call 126; refine (HW.out mp _).mono ?_; rintro en w6 ⟨rfl, B6⟩; have HS6 := Lib.hid (HS5.out.below B6); have A6 := Lib.hid (A5.out.below B6); have zz := A6.out.row; obtain ⟨⟨z0, z1⟩, z2, z3⟩ := zz; have ff := A6.out.froz; obtain ⟨⟨y0, y1⟩, y2, y3⟩ := ff; clear B6))
          all_goals
            go_wp2_with fail
            go_roundw
            case rel => exact ⟨f', a4, fun x => m3 x || p4 x, fun x => mv3 x || mp x, HT2.out, by omega, hav4.2, St_copyR HS6.out A6.out hw0 hbH _ _ _ _, A6.out.copyR, fun x hx => by show (mv3 x || mp x) = (m3 x || p4 x); rw [hm3 x hx, HMp.out x hx], hw0, hbH⟩
            case measure => rw [crel_meas (St_copyR HS6.out A6.out hw0 hbH _ _ _ _) hav4.2, HM.out]; omega
set_option maxRecDepth 100000 in
set_option maxHeartbeats 8000000 in
theorem class_not (h : Prs w base rb s (a : Int) D ns ks) (hG : Glb base w) (hs : s.size ≤ 1000000) (_ha : a < s.size) (hn : ns.length ≤ 1000000) (hx : (Tx.bs s)[a + 1]? = some 94) :
    Calls Try.prog 113 #[.pointer (some ⟨rb, 0, none⟩)] w (PPost w base rb s D ks (clsN ns (itemsF (Tx.bs s) ((Tx.bs s).length + 1) true (a + 2) noSet))) := by
  have S0 := (St.start h).setAt (a + 1)
  have hlx := get_lt hx
  rw [Tx.bs_len] at hlx
  have HTk := Lib.hid (take_T S0 hs hx 94 rfl)
  have HIt := Lib.hid (fun (b : Nat) (wq : World) (hq : St w base rb s b D ns ks wq) (hb : b ≤ s.size) => item_any (St.start hq.1) (hG.below hq.2.1) hs hb)
  have HTot : Hid (itemsF (Tx.bs s) ((Tx.bs s).length + 1) true (a + 2) noSet = match itemF (Tx.bs s) (a + 2) with | none => none | some (p, a2) => itemsF (Tx.bs s) (Tx.bs s).length false a2 (fun x => noSet x || p x)) := Lib.hid (by rw [items_step]; rfl)
  generalize itemsF (Tx.bs s) ((Tx.bs s).length + 1) true (a + 2) noSet = total at HTot ⊢
  generalize hres : clsN ns total = r
  obtain ⟨c0, c1, c2, hf⟩ := (St.start h).cells
  have f1 := hf 1
  have hbase := h.size
  have HI0 := Lib.hid (fun wq hq => HIt.out (a + 2) wq hq (by omega))
  cases hi : itemF (Tx.bs s) (a + 2) with
  | none =>
    rw [hi] at HTot HI0
    have HR : Hid (r = .error 40) := Lib.hid (by rw [← hres, HTot.out]; rfl)
    clear hf h S0 hi hres
    go_enter Try.func113, Try.ntmps113
    go_wp2_with fail
    refine HTk.out.mono ?_
    rintro en w1 ⟨rfl, S1⟩
    have HI1 := Lib.hid (HI0.out _ S1)
    have HB1 := Lib.hid S1.2.1
    clear S1
    go_wp2_with fail
    refine HI1.out.mono ?_
    rintro en w2 ⟨rfl, B2⟩
    have HB2 := Lib.hid (HB1.out.trans B2)
    clear B2
    go_wp2_with fail
    refine ⟨rfl, ?_⟩
    rw [HR.out]
    exact ⟨rfl, HB2.out⟩
  | some x =>
    obtain ⟨p, a2⟩ := x
    have hav := item_adv hi
    rw [Tx.bs_len] at hav
    rw [hi] at HTot HI0
    clear hf h S0 hi
    go_enter Try.func113, Try.ntmps113
    go_wp2_with fail
    refine HTk.out.mono ?_
    rintro en w1 ⟨rfl, S1⟩
    have HI1 := Lib.hid (HI0.out _ S1)
    have HS1 := Lib.hid S1
    clear S1
    go_wp2_with fail
    refine HI1.out.mono ?_
    rintro en w2 ⟨mv, rfl, hm, S2'⟩
    have S2 : St w base rb s a2 D ns ks w2 := ⟨S2'.1, HS1.out.2.1.trans S2'.2.1, HS1.out.2.2.trans S2'.2.2⟩
    have HStart := Lib.hid (show CRel s total w base rb w2.heap.size D ns ks (w2.alloc (rowS mv)) from
      ⟨(Tx.bs s).length, a2, fun x => noSet x || p x, mv, HTot.out, by rw [Tx.bs_len]; omega, hav.2, S2.below ((Below.refl _ _).alloc (Nat.le_refl _) _), HasO.new w2 (rowS mv), fun x hx => by rw [hm x hx]; rfl, S2.2.1.size, S2.1.size⟩)
    generalize hH2 : w2.heap.size = H at HStart
    unfold setV
    clear hm S2 S2'
    go_wp2_with fail
    go_loopw [] (fun wr => CRel s total w base rb H D ns ks wr) (fun wr => meas s rb wr)
    case atStart => exact HStart.out
    case round =>
      obtain ⟨f, a3, m3, mv3, ht, hfu, ha3, S3, A3, hm3, hw0, hbH⟩ := hrel
      obtain ⟨f', rfl⟩ : ∃ f', f = f' + 1 := ⟨f - 1, by omega⟩
      by_cases h93 : (Tx.bs s)[a3]? = some 93
      · have HT2 : Hid (total = some (m3, a3)) := Lib.hid (by rw [ht, items_step, h93]; rfl)
        have HR : Hid (r = .ok (ns.length, a3 + 1, ns ++ [setN (fun x => !m3 x)])) := Lib.hid (by rw [← hres, HT2.out]; rfl)
        have HTk2 := Lib.hid (take_T (St.start S3.1) hs h93 93 rfl)
        have HS3 := Lib.hid S3
        have HA3 := Lib.hid A3
        clear ht hfu S3 A3 h93 hres
        go_wp2_with fail
        refine HTk2.out.mono ?_
        rintro en w4 ⟨rfl, S4'⟩
        have HS4 := Lib.hid (show St w base rb s (a3 + 1) D ns ks w4 from ⟨S4'.1, HS3.out.2.1.trans S4'.2.1, HS3.out.2.2.trans S4'.2.2⟩)
        have A4 := Lib.hid (show HasO w4 H (rowS mv3) from (S4'.2.2 _ _ _ (by decide) (by decide) (show wr.heap[H]? = some (.cells _ tBs (0, 0)) from HA3.out)).trans HA3.out)
        have vv := A4.out.row
        obtain ⟨⟨v0, v1⟩, v2, v3⟩ := vv
        clear S4'
        have HCo := Lib.hid (compl_any mv3 w4)
        unfold setV at HCo
        go_wp2_with fail
        refine HCo.out.mono ?_
        rintro en w5 ⟨rfl, B5⟩
        have HS5 := Lib.hid (HS4.out.below B5)
        have A5 := Lib.hid (A4.out.below B5)
        have xx := A5.out.row
        obtain ⟨⟨x0, x1⟩, x2, x3⟩ := xx
        have ff := A5.out.froz
        obtain ⟨⟨y0, y1⟩, y2, y3⟩ := ff
        have HS6 := Lib.hid (St_copyR HS5.out A5.out hw0 hbH (.int .u64 (word (fun x => !mv3 x) 0 : Nat)) (.int .u64 (word (fun x => !mv3 x) 1 : Nat)) (.int .u64 (word (fun x => !mv3 x) 2 : Nat)) (.int .u64 (word (fun x => !mv3 x) 3 : Nat)))
        have HAdd := Lib.hid (addSet_St HS6.out (fun x => !mv3 x) (fun x => !m3 x) (fun x hx => by rw [hm3 x hx]) hn)
        unfold setV at HAdd
        clear hm3 B5 v0 v1 v2 v3
        go_wp2_with fail
        refine HAdd.out.mono ?_
        rintro en w6 ⟨rfl, S6⟩
        have HS7 := Lib.hid S6
        clear S6
        go_wp2_with fail
        go_ret
        rw [HR.out]
        exact PPost_one HS7.out (late_nil _)
      · have HT2 : Hid (total = match itemF (Tx.bs s) a3 with | none => none | some (p, a2) => itemsF (Tx.bs s) f' false a2 (fun x => m3 x || p x)) := Lib.hid (by
          rw [ht, items_go h93])
        have HTk2 := Lib.hid (take_F (St.start S3.1) hs ha3 h93 93 rfl)
        have HS3 := Lib.hid S3
        have HA3 := Lib.hid A3
        have HM := Lib.hid (crel_meas S3 ha3)
        cases hi3 : itemF (Tx.bs s) a3 with
        | none =>
          rw [hi3] at HT2
          have HR : Hid (r = .error 40) := Lib.hid (by rw [← hres, HT2.out]; rfl)
          have hi3N := hi3
          clear ht hfu S3 A3 h93 hi3 hres
          go_wp2_with fail
          refine HTk2.out.mono ?_
          rintro en w4 ⟨rfl, S4'⟩
          have HS4 := Lib.hid (show St w base rb s a3 D ns ks w4 from ⟨S4'.1, HS3.out.2.1.trans S4'.2.1, HS3.out.2.2.trans S4'.2.2⟩)
          have HI := Lib.hid (fun q => HIt.out a3 (w4.drewN q) (HS4.out.drewN q) ha3)
          rw [hi3N] at HI
          have A4 := Lib.hid (show HasO w4 H (rowS mv3) from (S4'.2.2 _ _ _ (by decide) (by decide) (show wr.heap[H]? = some (.cells _ tBs (0, 0)) from HA3.out)).trans HA3.out)
          have vv := A4.out.row
          obtain ⟨⟨v0, v1⟩, v2, v3⟩ := vv
          have HB4 := Lib.hid HS4.out.2.1
          clear S4'
          go_wp2_with fail
          refine wp_region_any (by kernel_rfl) ?_
          change wpAny _ _ _ _ _ _ _ (World.drew _)
          refine wpAny_take (i := 1) (v := .pointer (some ⟨rb, 0, none⟩)) rfl (by kernel_rfl) (by kernel_rfl) (by kernel_rfl) (fun _ _ _ h => h) (Or.inl ⟨by rfl, ?_⟩) ?_
          · intro w
            go_simp
          refine wpAny_ready (rs := [0, 2]) (by kernel_rfl) (by simp) ?_
          refine AllReady.cons rfl (fun K hK => ?_) (AllReady.cons rfl (fun K hK => ?_) AllReady.nil)
          · go_simp
            refine hK _ _ ?_
            clear hK K
            refine wpAny_ready (rs := [2]) (by kernel_rfl) (by simp) ?_
            refine AllReady.cons rfl (fun K hK => ?_) AllReady.nil
            go_simp
            go_at_call 125
            refine (HI.out 1).mono ?_
            rintro en w5 ⟨rfl, B5⟩
            refine (show bodyPost Try.prog Try.f113 (PPost w base rb s D ks r) (Exit.panic [{ v := .iface 26 (.int .i64 40), recovered := false }]) _ w5 from ⟨rfl, ?_⟩)
            rw [HR.out]
            exact ⟨rfl, HB4.out.trans ((below_drewN (Below.refl _ _) 1).trans B5)⟩
          · go_simp
            go_at_call 125
            refine (HI.out 1).mono ?_
            rintro en w5 ⟨rfl, B5⟩
            refine (show bodyPost Try.prog Try.f113 (PPost w base rb s D ks r) (Exit.panic [{ v := .iface 26 (.int .i64 40), recovered := false }]) _ w5 from ⟨rfl, ?_⟩)
            rw [HR.out]
            exact ⟨rfl, HB4.out.trans ((below_drewN (Below.refl _ _) 1).trans B5)⟩
        | some x =>
          obtain ⟨p4, a4⟩ := x
          have hav4 := item_adv hi3
          rw [Tx.bs_len] at hav4
          rw [hi3] at HT2
          clear ht S3 A3 h93
          go_wp2_with fail
          refine HTk2.out.mono ?_
          rintro en w4 ⟨rfl, S4'⟩
          have HS4 := Lib.hid (show St w base rb s a3 D ns ks w4 from ⟨S4'.1, HS3.out.2.1.trans S4'.2.1, HS3.out.2.2.trans S4'.2.2⟩)
          have HI := Lib.hid (fun q => HIt.out a3 (w4.drewN q) (HS4.out.drewN q) ha3)
          rw [hi3] at HI
          have A4 := Lib.hid (show HasO w4 H (rowS mv3) from (S4'.2.2 _ _ _ (by decide) (by decide) (show wr.heap[H]? = some (.cells _ tBs (0, 0)) from HA3.out)).trans HA3.out)
          have vv := A4.out.row
          obtain ⟨⟨v0, v1⟩, v2, v3⟩ := vv
          have HW := Lib.hid (fun m wq => with_any mv3 m wq)
          unfold setV at HW
          clear S4' hi3
          go_wp2_with fail
          go_region_law (first
            | (go_simp; go_at_call 125; refine (HI.out 1).mono ?_; rintro en w5 ⟨mp, rfl, hmp, S5⟩; have HMp := Lib.hid hmp; have HS5 := Lib.hid (show St w base rb s a4 D ns ks w5 from ⟨S5.1, (HS4.out.drewN 1).2.1.trans S5.2.1, (HS4.out.drewN 1).2.2.trans S5.2.2⟩); have A5 := Lib.hid (show HasO w5 H (rowS mv3) from (S5.2.2 _ _ _ (by decide) (by decide) (show (w4.drewN 1).heap[H]? = some (.cells _ tBs (0, 0)) from A4.out)).trans A4.out); have xx := A5.out.row; obtain ⟨⟨x0, x1⟩, x2, x3⟩ := xx; unfold setV; clear hmp S5)
            | (go_simp; go_at_call 126; refine (HW.out mp _).mono ?_; rintro en w6 ⟨rfl, B6⟩; have HS6 := Lib.hid (HS5.out.below B6); have A6 := Lib.hid (A5.out.below B6); have zz := A6.out.row; obtain ⟨⟨z0, z1⟩, z2, z3⟩ := zz; have ff := A6.out.froz; obtain ⟨⟨y0, y1⟩, y2, y3⟩ := ff; clear B6))
          all_goals
            go_wp2_with fail
            go_roundw
            case rel => exact ⟨f', a4, fun x => m3 x || p4 x, fun x => mv3 x || mp x, HT2.out, by omega, hav4.2, St_copyR HS6.out A6.out hw0 hbH _ _ _ _, A6.out.copyR, fun x hx => by show (mv3 x || mp x) = (m3 x || p4 x); rw [hm3 x hx, HMp.out x hx], hw0, hbH⟩
            case measure => rw [crel_meas (St_copyR HS6.out A6.out hw0 hbH _ _ _ _) hav4.2, HM.out]; omega
end
/-- A class. -/
theorem class_all (s : ByteArray) (hs : s.size ≤ 1000000) : ClassP s := by
  intro w base rb a D ns ks hG h ha hn
  by_cases hx : (Tx.bs s)[a + 1]? = some 94
  · have h1 := class_not h hG hs ha hn hx
    refine h1.mono fun en w' hp => ?_
    unfold classF
    rw [if_pos hx, show a + 1 + 1 = a + 2 from rfl]
    revert hp
    unfold clsN
    generalize itemsF (Tx.bs s) ((Tx.bs s).length + 1) true (a + 2) noSet = q
    rcases q with _ | ⟨_, _⟩ <;> exact fun hp => hp
  · have h1 := class_plain h hG hs ha hn hx
    refine h1.mono fun en w' hp => ?_
    unfold classF
    rw [if_neg hx]
    revert hp
    unfold clsP
    generalize itemsF (Tx.bs s) ((Tx.bs s).length + 1) true (a + 1) noSet = q
    rcases q with _ | ⟨_, _⟩ <;> exact fun hp => hp
/-- Parse, whatever the text. -/
theorem Parse_all (s : ByteArray) (w : World) (hG : Glb w.heap.size w) : Calls Try.prog 15 #[.string s] w (ParseP w (parseF (Tx.bs s))) :=
  Parse_any s w hG fun h => class_all s (by omega)
end Px
end Go.Proofs.Ytbjfopoakiagpaa

/-
  The reference's pattern: alternatives. Conditions: short patterns; what is called for a group does what the document says.
-/
import Derived.Test.YtebljjdhgepfkaaRegexAlt
namespace Go.Proofs.Ytebljjdhgepfkaa
open Go.RowKit
namespace Rx
open Cm
/-- What the end of 'pattern' makes of its kids. -/
def patEnd (x : KRes) : Res :=
  match x with
  | .error e => .error e
  | .ok ([k], a, ns1) => .ok (k, a, ns1)
  | .ok (kids, a, ns1) => .ok (ns1.length, a, ns1 ++ [manyN 5 kids])
def patTotal (l : List UInt8) (p : Option (Nat → List Nd → Res)) (inner : Bool) (at_ : Nat) (ns : List Nd) : KRes :=
  match altF l p inner at_ ns with
  | .error e => .error e
  | .ok (k, a, ns1) => altsF l p inner (l.length + 1) a ns1 [k]
theorem patF_eq {l : List UInt8} {p : Option (Nat → List Nd → Res)} {inner : Bool} {at_ : Nat} {ns : List Nd} : patF l p inner at_ ns = patEnd (patTotal l p inner at_ ns) := by
  unfold patF patTotal patEnd
  cases altF l p inner at_ ns with
  | error e => rfl
  | ok x => obtain ⟨k, a, ns1⟩ := x; rfl
section
variable {w : World} {base rb : Nat} {s : ByteArray} {at_ : Nat} {D : Int} {ns : List Nd} {ks : List Value}
theorem one_own {w : World} {B : Nat} (hb : B ≤ w.heap.size) (k : Int) : (w.alloc (.cells #[.int .i64 k] tInt)).ownsRow B tInt 1 (.slice (some ⟨w.heap.size, 0, none⟩) 1 1) ([k] : List Int).length (intsV [k]) := kids_one hb k
set_option maxRecDepth 100000 in
set_option maxHeartbeats 8000000 in
theorem pat_any {p : Option (Nat → List Nd → Res)} (h : Rdr w base rb s at_ D 0 ns ks) (hs : s.size ≤ 100000) (ha : at_ ≤ s.size) (hD0 : 0 ≤ D) (hp : POk s D p) (hadv : AdvO (Tx.bs s) p) (hC : ClassOk s) (hl : ns.length + 4 * (s.size - at_) ≤ 500000) :
    Calls Try.prog 27 #[.pointer (some ⟨rb, 0, none⟩)] w (RPost w base rb s D ns ks (patF (Tx.bs s) p (decide (0 < D)) at_ ns)) := by
  have hbase := h.size
  have HAlt : Hid (∀ (wr : World) (a : Nat) (nsx : List Nd) (ksx : List Value), Rdr wr base rb s (a : Int) D 0 nsx ksx → a ≤ s.size → nsx.length + 4 * (s.size - a) ≤ 500000 →
      Calls Try.prog 43 #[.pointer (some ⟨rb, 0, none⟩)] wr (RPost wr base rb s D nsx ksx (altF (Tx.bs s) p (decide (0 < D)) a nsx))) := Lib.hid (fun wr a nsx ksx h1 h2 h3 =>
    alt_any h1 hs h2 hD0 hp hadv hC h3)
  have HAdv : Hid (∀ (a : Nat) (nsx : List Nd) (k : Int) (a2 : Nat) (ns2 : List Nd), a ≤ s.size → altF (Tx.bs s) p (decide (0 < D)) a nsx = .ok (k, a2, ns2) → a ≤ a2 ∧ a2 ≤ s.size ∧ ns2.length ≤ nsx.length + 4 * (a2 - a) + 1) := Lib.hid (fun a nsx k a2 ns2 e0 e => by have := alt_adv hadv (by rw [Tx.bs_len]; exact e0) e; rwa [Tx.bs_len] at this)
  have HT : Hid (patF (Tx.bs s) p (decide (0 < D)) at_ ns = patEnd (patTotal (Tx.bs s) p (decide (0 < D)) at_ ns)) := Lib.hid patF_eq
  have HTot : Hid (patTotal (Tx.bs s) p (decide (0 < D)) at_ ns = match altF (Tx.bs s) p (decide (0 < D)) at_ ns with | .error e => .error e | .ok (k, a, ns1) => altsF (Tx.bs s) p (decide (0 < D)) ((Tx.bs s).length + 1) a ns1 [k]) := Lib.hid rfl
  generalize patTotal (Tx.bs s) p (decide (0 < D)) at_ ns = total at HT HTot
  have H0 := Lib.hid (HAlt.out w at_ ns ks h ha hl)
  -- behind the first alternative
  have HStart : Hid (∀ (e : Ending) (w2 : World), RPost w base rb s D ns ks (altF (Tx.bs s) p (decide (0 < D)) at_ ns) e w2 → ∃ z, e = .returned (.int .i64 z) ∧ GRel 1 s total (altsF (Tx.bs s) p (decide (0 < D))) w base rb D ks (.slice (some ⟨w2.heap.size, 0, none⟩) 1 1) (w2.alloc (.cells #[.int .i64 z] tInt))) := Lib.hid (fun e w2 hp2 => by
    cases hr : altF (Tx.bs s) p (decide (0 < D)) at_ ns with
    | error c =>
      have hT := HTot.out
      rw [hr] at hp2 hT
      obtain ⟨⟨z, rfl⟩, hc0, ⟨aa, dd, hE⟩, hB2, hK2⟩ := hp2
      have hsz := hB2.size
      obtain ⟨x, hb, hh⟩ := hE
      refine ⟨z, rfl, .inr ⟨c, [z], hT, hc0, ⟨aa, dd, x, hb, by rw [Below.heap_alloc _ _ _ (lt_some hh)]; exact hh⟩, one_own hsz z, by simp, by simp, hB2.alloc (by omega) _, hK2.trans (KeptX.alloc _ _)⟩⟩
    | ok y =>
      obtain ⟨k, a2, ns2⟩ := y
      have hav := HAdv.out at_ ns k a2 ns2 ha hr
      have hT := HTot.out
      rw [hr] at hp2 hT
      obtain ⟨rfl, ⟨ks3, hR2, hL3⟩, hB2, hK2⟩ := hp2
      have hsz := hB2.size
      have hal := Rdr_below (w := w) ⟨hR2, hB2, hK2⟩ ((Below.refl w2.heap.size w2).alloc (Nat.le_refl _) (.cells #[.int .i64 k] tInt))
      refine ⟨k, rfl, .inl ⟨s.size + 1, a2, ns2, [k], ks3, by rw [hT, Tx.bs_len], by omega, hav.2.1, by omega, by simp, by simp, hal.1, hL3, one_own hsz k, Apart_new hR2 (Nat.le_refl _), hal.2.1, hal.2.2⟩⟩)
  clear h hp hadv hC hl
  go_enter Try.func27, Try.ntmps27
  go_wp2_with fail
  refine H0.out.mono ?_
  intro e0 w0 hQ0
  obtain ⟨z0, rfl, hG⟩ := HStart.out e0 w0 hQ0
  have HG := Lib.hid hG
  clear hG hQ0
  go_wp2_with fail
  go_loopw [3] (fun v wr => GRel 1 s total (altsF (Tx.bs s) p (decide (0 < D))) w base rb D ks v wr) (fun _ wr => meas s rb wr)
  case atStart => exact HG.out
  case round =>
    rcases hrel with ⟨f, a, nsx, kids, ks2, ht, hfu, ha2, hn, hk, hlo, hR, hl2, hv, hap, hbw, hkw⟩ | ⟨c, zs, ht, hc, ⟨a, d, hR⟩, hv, hn, hz1, hbw, hkw⟩
    · have HIs := Lib.hid (is_any hR 124)
      by_cases hbar : (Tx.bs s)[a]? = some 124
      · have hlt : a < s.size := by have := get_lt hbar; rwa [Tx.bs_len] at this
        have HI : Hid (isF (Tx.bs s) a 124 = true) := Lib.hid (isF_T (k := 124) hbar)
        obtain ⟨f', rfl⟩ : ∃ f', f = f' + 1 := ⟨f - 1, by omega⟩
        have HStep : Hid (total = match altF (Tx.bs s) p (decide (0 < D)) (a + 1) nsx with | .error e => .error e | .ok (k, a2, ns2) => altsF (Tx.bs s) p (decide (0 < D)) f' a2 ns2 (kids ++ [k])) := Lib.hid (by
          rw [ht]
          conv => lhs; unfold altsF
          rw [if_pos hbar]
          rfl)
        have HSet : Hid (∀ q, Rdr ((wr.drewN q).setCell ⟨rb, 1, none⟩ (.int .i64 ((a : Int) + 1))) base rb s ((a + 1 : Nat) : Int) D 0 nsx (ks ++ ks2) ∧ Below base wr ((wr.drewN q).setCell ⟨rb, 1, none⟩ (.int .i64 ((a : Int) + 1))) ∧ KeptR wr ((wr.drewN q).setCell ⟨rb, 1, none⟩ (.int .i64 ((a : Int) + 1)))) := Lib.hid (fun q => by
          obtain ⟨r1, r2, r3⟩ := (hR.drewN q).setAt ((a : Int) + 1)
          exact ⟨r1, below_drewN' q r2, (KeptX.drewN _ _).trans r3⟩)
        have HP : Hid (∀ q, Calls Try.prog 43 #[.pointer (some ⟨rb, 0, none⟩)] ((wr.drewN q).setCell ⟨rb, 1, none⟩ (.int .i64 ((a : Int) + 1))) (RPost wr base rb s D nsx (ks ++ ks2) (altF (Tx.bs s) p (decide (0 < D)) (a + 1) nsx))) := Lib.hid (fun q =>
          (HAlt.out _ (a + 1) nsx (ks ++ ks2) (HSet.out q).1 (by omega) (by omega)).mono fun en w' hh => RPost.before' (HSet.out q).2.1 (HSet.out q).2.2 hh)
        have hsz := hbw.size
        have hms := meas_ok hR ha2
        obtain ⟨x, hb, hh, _⟩ := hR
        obtain ⟨c0, c1, c2, c3, c4, hf⟩ := rdr_cells hh
        have f1 := hf 1
        have k0 : (0 : Int) ≤ (a : Int) := by omega
        have k1 : (a : Int) < (s.size : Int) := by omega
        clear hh hf ht hbar
        obtain ⟨A, cc, rfl⟩ := own_form hv
        cases hr : altF (Tx.bs s) p (decide (0 < D)) (a + 1) nsx with
        | error c =>
          rw [hr] at HP HStep
          have HErr : Hid (∀ (w2 w3 : World) (C : Array Value) (g cap : Nat) (z aa dd : Int), c ≠ 0 → RdE w2 base rb s aa dd c → Below base wr w2 → KeptR wr w2 → w3.ownsRow w.heap.size tInt 1 (.slice (some ⟨g, 0, none⟩) (kids.length + 1) cap) (kids.length + 1) (intsV kids ++ [.int .i64 z]) → Below w.heap.size w2 w3 → (w2.alloc (.cells C tInt)).grownBy w3 (Value.slice A kids.length cc).ownBlock →
              GRel 1 s total (altsF (Tx.bs s) p (decide (0 < D))) w base rb D ks (.slice (some ⟨g, 0, none⟩) (kids.length + 1) cap) w3 ∧ meas s rb w3 = 0) := Lib.hid (fun w2 w3 C g cap z aa dd h1 h2 h3 h4 h5 h6 h7 =>
            grel_err HStep.out h1 h2 hbw hkw h3 h4 hsz hv (by omega) h5 h6 h7 hbase)
          have HV := Lib.hid hv
          have hkl : kids.length ≤ 100001 := by omega
          have HM := Lib.hid hms
          clear hv hap hbw hkw hl2 hr hms hlo
          go_wp2_with (go_at_call 44; refine HIs.out.mono ?_; rintro e w1 ⟨rfl, m1, rfl⟩; rw [HI.out])
          refine (HP.out _).mono ?_
          rintro e w2 ⟨⟨z, rfl⟩, hc0, ⟨aa, dd, hE⟩, hB2, hK2⟩
          have HE2 := Lib.hid hE
          have HC0 := Lib.hid hc0
          have HB2 := Lib.hid hB2
          have HK2 := Lib.hid hK2
          have hs2 := hB2.size
          clear hE hc0 hB2 hK2
          go_wp2_with (at_builtin; refine app_at rfl Try.underlying22 info_int rfl (by omega) (.tmp 23) (.tmp 26) rfl w.heap.size kids.length (intsV kids) (.int .i64 z) rfl _ _ rfl (KeptX.own HV.out HK2.out (by decide) (by decide)) rfl rfl (by omega) (by omega) ?_; intro g cap w3 ho3 hb3 hg3 _; have HO3 := Lib.hid (HErr.out w2 w3 _ g cap z aa dd HC0.out HE2.out HB2.out HK2.out ho3 hb3 hg3); clear ho3 hb3 hg3)
          go_roundw
          case rel => exact HO3.out.1
          case measure => rw [HO3.out.2, HM.out]; omega
        | ok y =>
          obtain ⟨k, a2, ns2⟩ := y
          have hav := HAdv.out (a + 1) nsx k a2 ns2 (by omega) hr
          rw [hr] at HP HStep
          have HOk : Hid (∀ (w2 w3 : World) (C : Array Value) (g cap : Nat) (ks3 : List Value), Rdr w2 base rb s (a2 : Int) D 0 ns2 (ks ++ ks2 ++ ks3) → (∀ kv ∈ ks3, Late wr.heap.size kv) → Below base wr w2 → KeptR wr w2 → w3.ownsRow w.heap.size tInt 1 (.slice (some ⟨g, 0, none⟩) (kids.length + 1) cap) (kids.length + 1) (intsV kids ++ [.int .i64 k]) → Below w.heap.size w2 w3 →
              (w2.alloc (.cells C tInt)).grownBy w3 (Value.slice A kids.length cc).ownBlock → ((Value.slice A kids.length cc).ownBlock = some g ∨ g = w2.heap.size + 1) →
              GRel 1 s total (altsF (Tx.bs s) p (decide (0 < D))) w base rb D ks (.slice (some ⟨g, 0, none⟩) (kids.length + 1) cap) w3 ∧ meas s rb w3 = s.size + 1 - a2) := Lib.hid (fun w2 w3 C g cap ks3 h1 h2 h3 h4 h5 h6 h7 h8 =>
            grel_ok (f := f') HStep.out (by omega) (by omega) (by omega) (by omega) hlo h1 hl2 h2 hbw hkw h3 h4 hsz hv hap h5 h6 h7 h8 hbase)
          have HV := Lib.hid hv
          have hkl : kids.length ≤ 100001 := by omega
          have HM := Lib.hid hms
          clear hv hap hbw hkw hl2 hr hms hlo
          go_wp2_with (go_at_call 44; refine HIs.out.mono ?_; rintro e w1 ⟨rfl, m1, rfl⟩; rw [HI.out])
          refine (HP.out _).mono ?_
          rintro e w2 ⟨rfl, ⟨ks3, hR2, hL3⟩, hB2, hK2⟩
          have HR2 := Lib.hid hR2
          have HL3 := Lib.hid hL3
          have HB2 := Lib.hid hB2
          have HK2 := Lib.hid hK2
          have hs2 := hB2.size
          clear hR2 hL3 hB2 hK2
          go_wp2_with (at_builtin; refine app_at rfl Try.underlying22 info_int rfl (by omega) (.tmp 23) (.tmp 26) rfl w.heap.size kids.length (intsV kids) (.int .i64 k) rfl _ _ rfl (KeptX.own HV.out HK2.out (by decide) (by decide)) rfl rfl (by omega) (by omega) ?_; intro g cap w3 ho3 hb3 hg3 hat3; have HO3 := Lib.hid (HOk.out w2 w3 _ g cap ks3 HR2.out HL3.out HB2.out HK2.out ho3 hb3 hg3 hat3); clear ho3 hb3 hg3 hat3)
          go_roundw
          case rel => exact HO3.out.1
          case measure => rw [HO3.out.2, HM.out]; omega
      · have HI : Hid (isF (Tx.bs s) a 124 = false) := Lib.hid (isF_F (k := 124) hbar)
        have HTt : Hid (total = .ok (kids, a, nsx)) := Lib.hid (by
          rw [ht]
          obtain ⟨f', rfl⟩ : ∃ f', f = f' + 1 := ⟨f - 1, by omega⟩
          unfold altsF
          rw [if_neg hbar])
        have HRd := Lib.hid (fun q => hR.drewN q)
        have HKN := Lib.hid (fun kind q => kids_node (ns := ns) kind hR hl2 hbw hkw hv hbase (by omega) q)
        have HPost := Lib.hid (fun q => And.intro (below_drewN hbw q) (hkw.trans (KeptX.drewN wr q)))
        have HL2 := Lib.hid hl2
        obtain ⟨x, hb, hh, _⟩ := hR
        obtain ⟨c0, c1, c2, c3, c4, hf⟩ := rdr_cells hh
        clear hh hf ht hfu hl2 hap hbw hkw hbar HAlt HAdv
        rcases kids with _ | ⟨k, _ | ⟨k2, kr⟩⟩
        · simp at hlo
        · obtain ⟨g, cc, cur, rfl, _, _⟩ := own_some hv (by simp)
          have HA : Hid (patF (Tx.bs s) p (decide (0 < D)) at_ ns = .ok (k, a, nsx)) := Lib.hid (by rw [HT.out, HTt.out]; rfl)
          have g0 := hv.cellAt 0 (by simp)
          simp only [intsV, List.map_cons, List.map_nil, List.getElem?_cons_zero] at g0
          clear hv
          go_wp2_with (go_at_call 44; refine HIs.out.mono ?_; rintro e w1 ⟨rfl, m1, rfl⟩; rw [HI.out])
          go_ret
          rw [HA.out]
          exact ⟨rfl, ⟨_, HRd.out _, HL2.out⟩, HPost.out _⟩
        · obtain ⟨A, cc, rfl⟩ := own_form hv
          have HA : Hid (patF (Tx.bs s) p (decide (0 < D)) at_ ns = .ok (nsx.length, a, nsx ++ [manyN 5 (k :: k2 :: kr)])) := Lib.hid (by rw [HT.out, HTt.out]; rfl)
          have HK5 := Lib.hid (HKN.out 5)
          obtain ⟨m, hm⟩ : ∃ m, (k :: k2 :: kr).length = m := ⟨_, rfl⟩
          have hm2 : 2 ≤ m := by rw [← hm]; simp
          rw [hm] at HK5 ⊢
          have e1 : ((m : Int) == 1) = false := by rw [beq_eq_false_iff_ne]; omega
          clear hv hm
          go_wp2_with (go_at_call 44; refine HIs.out.mono ?_; rintro e w1 ⟨rfl, m1, rfl⟩; rw [HI.out])
          refine (HK5.out _).mono ?_
          intro e w4 hQ
          obtain ⟨z, rfl⟩ := hQ.int
          have Q := Lib.hid hQ
          clear hQ
          go_wp2_with fail
          go_ret
          rw [HA.out]
          exact Q.out
    · obtain ⟨g, cc, cur, rfl, _, _⟩ := own_some hv (by omega)
      have HA : Hid (patF (Tx.bs s) p (decide (0 < D)) at_ ns = .error c) := Lib.hid (by rw [HT.out, ht]; rfl)
      have HPost := Lib.hid (fun q => And.intro (hR.drewN q) (And.intro (below_drewN hbw q) (hkw.trans (KeptX.drewN wr q))))
      obtain ⟨z1, zr, rfl⟩ : ∃ z1 zr, zs = z1 :: zr := by
        cases zs with
        | nil => simp at hz1
        | cons z1 zr => exact ⟨z1, zr, rfl⟩
      have g0 := hv.cellAt 0 (by simp)
      simp only [intsV, List.map_cons, List.getElem?_cons_zero] at g0
      obtain ⟨m, hm⟩ : ∃ m, (z1 :: zr).length = m := ⟨_, rfl⟩
      have hm1 : (0 : Int) < (m : Int) := by omega
      rw [hm]
      obtain ⟨x, hb, hh⟩ := hR
      obtain ⟨c0, c1, c2, c3, c4, hf⟩ := rdr_cells hh
      have e1 : (c == 0) = false := by rw [beq_eq_false_iff_ne]; exact hc
      have e2 : (c != 0) = true := by rw [bne, e1]; rfl
      have HC0 := Lib.hid hc
      clear hh hf ht hv hbw hkw hc hz1 hm hn HAlt HAdv
      go_wp2_with fail
      go_ret
      rw [HA.out]
      exact ⟨⟨_, rfl⟩, HC0.out, ⟨_, _, (HPost.out 0).1⟩, (HPost.out 0).2⟩
end
end Rx
end Go.Proofs.Ytebljjdhgepfkaa

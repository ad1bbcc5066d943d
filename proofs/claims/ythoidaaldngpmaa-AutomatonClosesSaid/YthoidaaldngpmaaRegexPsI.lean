/-
  The program's parser: pattern. Conditions: short patterns; what is called for a group, and for a class, does what the document says.
-/
import Derived.Test.YthoidaaldngpmaaRegexPsH
namespace Go.Proofs.Ythoidaaldngpmaa
open Go.RowKit
namespace Px
open Cm Rx
/-- What the end of 'pattern' makes of its kids. -/
def patEnd (x : KRes) : Res :=
  match x with
  | .error e => .error e
  | .ok (kids, a, ns1) => joinR 5 kids a ns1
def patTotal (l : List UInt8) (p : Option (Nat → List Nd → Res)) (at_ : Nat) (ns : List Nd) : KRes :=
  match altF l p true at_ ns with
  | .error e => .error e
  | .ok (k, a, ns1) => altsF l p true (l.length + 1) a ns1 [k]
theorem patF_eq {l : List UInt8} {p : Option (Nat → List Nd → Res)} {at_ : Nat} {ns : List Nd} : patF l p true at_ ns = patEnd (patTotal l p at_ ns) := by
  unfold patF patTotal patEnd joinR
  cases altF l p true at_ ns with
  | error e => rfl
  | ok x =>
    obtain ⟨k, a, ns1⟩ := x
    simp only
    generalize altsF l p true (l.length + 1) a ns1 [k] = q
    rcases q with _ | ⟨kids, a2, ns2⟩
    · rfl
    · rcases kids with _ | ⟨k, _ | ⟨k2, kr⟩⟩ <;> rfl
section
variable {w : World} {base rb : Nat} {s : ByteArray} {at_ : Nat} {D : Int} {ns : List Nd} {ks : List Value}
set_option maxRecDepth 100000 in
set_option maxHeartbeats 8000000 in
theorem pat_any {p : Option (Nat → List Nd → Res)} (h : Prs w base rb s (at_ : Int) D ns ks) (hG : Glb base w) (hs : s.size ≤ 100000) (ha : at_ ≤ s.size) (hp : POk s D p) (hadv : AdvO (Tx.bs s) p) (hC : ClassP s) (hl : ns.length + 4 * (s.size - at_) ≤ 500000) :
    Calls Try.prog 51 #[.pointer (some ⟨rb, 0, none⟩)] w (PPost w base rb s D ks (patF (Tx.bs s) p true at_ ns)) := by
  have hbase := h.size
  have HAlt : Hid (∀ (wr w0 : World) (a : Nat) (nsx : List Nd) (ksx : List Value), St w base rb s a D nsx ksx wr → Below base w0 wr → KeptP w0 wr → a ≤ s.size → nsx.length + 4 * (s.size - a) ≤ 500000 →
      Calls Try.prog 74 #[.pointer (some ⟨rb, 0, none⟩)] wr (PPost w0 base rb s D ksx (altF (Tx.bs s) p true a nsx))) := Lib.hid (fun wr w0 a nsx ksx h1 b1 k1 h2 h3 =>
    (alt_any h1.1 (hG.below h1.2.1) hs h2 hp hadv hC h3).mono fun _ _ hh => PPost.before' b1 k1 hh)
  have HAdv : Hid (∀ (a : Nat) (nsx : List Nd) (k : Int) (a2 : Nat) (ns2 : List Nd), a ≤ s.size → altF (Tx.bs s) p true a nsx = .ok (k, a2, ns2) → a ≤ a2 ∧ a2 ≤ s.size ∧ ns2.length ≤ nsx.length + 4 * (a2 - a) + 1) := Lib.hid (fun a nsx k a2 ns2 e0 e => by have := alt_adv hadv (by rw [Tx.bs_len]; exact e0) e; rwa [Tx.bs_len] at this)
  have HT : Hid (patF (Tx.bs s) p true at_ ns = patEnd (patTotal (Tx.bs s) p at_ ns)) := Lib.hid patF_eq
  have HTot : Hid (patTotal (Tx.bs s) p at_ ns = match altF (Tx.bs s) p true at_ ns with | .error e => .error e | .ok (k, a, ns1) => altsF (Tx.bs s) p true ((Tx.bs s).length + 1) a ns1 [k]) := Lib.hid rfl
  generalize patTotal (Tx.bs s) p at_ ns = total at HT HTot
  have H0 := Lib.hid (HAlt.out w w at_ ns ks (St.start h) (Below.refl _ _) (KeptX.refl _) ha hl)
  cases hr0 : altF (Tx.bs s) p true at_ ns with
  | error c =>
    rw [hr0] at H0 HTot
    have HA : Hid (patF (Tx.bs s) p true at_ ns = .error c) := Lib.hid (by rw [HT.out, HTot.out]; rfl)
    clear h hp hadv hC hl hr0
    go_enter Try.func51, Try.ntmps51
    go_wp2_with fail
    refine H0.out.mono ?_
    rintro en w1 ⟨rfl, B1⟩
    go_wp2_with fail
    refine ⟨rfl, ?_⟩
    rw [HA.out]
    exact ⟨rfl, B1⟩
  | ok y =>
    obtain ⟨kk, a0, ns0⟩ := y
    have hav0 := HAdv.out at_ ns kk a0 ns0 ha hr0
    rw [hr0] at H0 HTot
    have HStart : Hid (∀ (w1 : World) (ks1 : List Value), St w base rb s a0 D ns0 (ks ++ ks1) w1 → (∀ kv ∈ ks1, Late w.heap.size kv) → GRel 1 s total (altsF (Tx.bs s) p true) w base rb D ks (.slice (some ⟨w1.heap.size, 0, none⟩) 1 1) (w1.alloc (.cells #[.int .i64 kk] tInt))) := Lib.hid (fun w1 ks1 S1 L1 =>
      ⟨s.size + 1, a0, ns0, [kk], ks1, by rw [HTot.out, Tx.bs_len], by omega, hav0.2.1, by omega, by simp, by simp, S1.below ((Below.refl _ _).alloc (Nat.le_refl _) _), L1, one_own' S1.2.1.size kk, Apart_new S1.1 (Nat.le_refl _)⟩)
    clear h hp hadv hC hl hr0
    go_enter Try.func51, Try.ntmps51
    go_wp2_with fail
    refine H0.out.mono ?_
    rintro en w1 ⟨rfl, ks1, S1, L1⟩
    have HG := Lib.hid (HStart.out w1 ks1 S1 L1)
    clear S1 L1
    go_wp2_with fail
    go_loopw [3] (fun v wr => GRel 1 s total (altsF (Tx.bs s) p true) w base rb D ks v wr) (fun _ wr => meas s rb wr)
    case atStart => exact HG.out
    case round =>
      obtain ⟨f, a, nsx, kids, ks2, ht, hfu, ha2, hn, hk, hlo, hR, hl2, hv, hap⟩ := hrel
      have hsz := hR.2.1.size
      by_cases hbar : (Tx.bs s)[a]? = some 124
      · have hlt : a < s.size := by have := get_lt hbar; rwa [Tx.bs_len] at this
        obtain ⟨f', rfl⟩ : ∃ f', f = f' + 1 := ⟨f - 1, by omega⟩
        have HStep : Hid (total = match altF (Tx.bs s) p true (a + 1) nsx with | .error e => .error e | .ok (k, a2, ns2) => altsF (Tx.bs s) p true f' a2 ns2 (kids ++ [k])) := Lib.hid (by
          rw [ht]
          conv => lhs; unfold altsF
          rw [if_pos hbar]
          generalize altF (Tx.bs s) p true (a + 1) nsx = q
          rcases q with _ | ⟨_, _, _⟩ <;> rfl)
        have HTk := Lib.hid (take_T (St.start hR.1) (by omega) hbar 124 rfl)
        have HP : Hid (∀ wq, St wr base rb s (a + 1) D nsx (ks ++ ks2) wq → Calls Try.prog 74 #[.pointer (some ⟨rb, 0, none⟩)] wq (PPost wr base rb s D (ks ++ ks2) (altF (Tx.bs s) p true (a + 1) nsx))) := Lib.hid (fun wq hq =>
          HAlt.out wq wr (a + 1) nsx (ks ++ ks2) ⟨hq.1, hR.2.1.trans hq.2.1, hR.2.2.trans hq.2.2⟩ hq.2.1 hq.2.2 (by omega) (by omega))
        have hms := meas_ok hR ha2
        clear ht hbar
        obtain ⟨A, cc, rfl⟩ := own_form hv
        cases hr : altF (Tx.bs s) p true (a + 1) nsx with
        | error c =>
          rw [hr] at HP HStep
          have HA : Hid (patF (Tx.bs s) p true at_ ns = .error c) := Lib.hid (by rw [HT.out, HStep.out]; rfl)
          have HB := Lib.hid hR.2.1
          clear hv hap hl2 hr hms hR
          go_wp2_with fail
          refine HTk.out.mono ?_
          rintro en w2 ⟨rfl, S2⟩
          have HS2 := Lib.hid S2
          clear S2
          go_wp2_with fail
          refine (HP.out _ HS2.out).mono ?_
          rintro en w3 ⟨rfl, B3⟩
          have HB3 := Lib.hid (HB.out.trans B3)
          clear B3
          go_wp2_with fail
          refine ⟨rfl, ?_⟩
          rw [HA.out]
          exact ⟨rfl, HB3.out⟩
        | ok y =>
          obtain ⟨k, a2, ns2⟩ := y
          have hav := HAdv.out (a + 1) nsx k a2 ns2 (by omega) hr
          rw [hr] at HP HStep
          have HOk : Hid (∀ (w2 w3 : World) (C : Array Value) (g cap : Nat) (ks3 : List Value), St wr base rb s a2 D ns2 (ks ++ ks2 ++ ks3) w2 → (∀ kv ∈ ks3, Late wr.heap.size kv) → w3.ownsRow w.heap.size tInt 1 (.slice (some ⟨g, 0, none⟩) (kids.length + 1) cap) (kids.length + 1) (intsV kids ++ [.int .i64 k]) → Below w.heap.size w2 w3 →
              (w2.alloc (.cells C tInt)).grownBy w3 (Value.slice A kids.length cc).ownBlock → ((Value.slice A kids.length cc).ownBlock = some g ∨ g = w2.heap.size + 1) →
              GRel 1 s total (altsF (Tx.bs s) p true) w base rb D ks (.slice (some ⟨g, 0, none⟩) (kids.length + 1) cap) w3 ∧ meas s rb w3 = s.size + 1 - a2) := Lib.hid (fun w2 w3 C g cap ks3 h1 h2 h5 h6 h7 h8 =>
            grel_ok (f := f') HStep.out (by omega) (by omega) (by omega) (by omega) hlo ⟨h1.1, hR.2.1.trans h1.2.1, hR.2.2.trans h1.2.2⟩ hl2 h2 hsz hv h1.2.2 hap h5 h6 h7 h8 hbase)
          have HV := Lib.hid hv
          have hkl : kids.length ≤ 100001 := by omega
          have HM := Lib.hid hms
          clear hv hap hl2 hr hms hlo hR
          go_wp2_with fail
          refine HTk.out.mono ?_
          rintro en w2 ⟨rfl, S2⟩
          have HS2 := Lib.hid S2
          clear S2
          go_wp2_with fail
          refine (HP.out _ HS2.out).mono ?_
          rintro e w4 ⟨rfl, ks3, S4, L4⟩
          have HS4 := Lib.hid S4
          have HL4 := Lib.hid L4
          have hs4 := S4.2.1.size
          clear S4 L4
          go_wp2_with (at_builtin; refine app_at rfl Try.underlying30 info_int rfl (by omega) (.tmp 9) (.tmp 12) rfl w.heap.size kids.length (intsV kids) (.int .i64 k) rfl _ _ rfl (KeptX.own HV.out HS4.out.2.2 (by decide) (by decide)) rfl rfl (by omega) (by omega) ?_; intro g cap w5 ho3 hb3 hg3 hat3; have HO3 := Lib.hid (HOk.out w4 w5 _ g cap ks3 HS4.out HL4.out ho3 hb3 hg3 hat3); clear ho3 hb3 hg3 hat3)
          go_roundw
          case rel => exact HO3.out.1
          case measure => rw [HO3.out.2, HM.out]; omega
      · have HTot2 : Hid (total = .ok (kids, a, nsx)) := Lib.hid (by
          rw [ht]
          obtain ⟨f', rfl⟩ : ∃ f', f = f' + 1 := ⟨f - 1, by omega⟩
          unfold altsF
          rw [if_neg hbar])
        have HTk := Lib.hid (take_F (St.start hR.1) (by omega) ha2 hbar 124 rfl)
        have HA : Hid (patF (Tx.bs s) p true at_ ns = joinR 5 kids a nsx) := Lib.hid (by rw [HT.out, HTot2.out]; rfl)
        have hkl : nsx.length ≤ 1000000 := by omega
        have hkne : kids ≠ [] := by rintro rfl; simp at hlo
        have HJ : Hid (∀ wq, St wr base rb s a D nsx (ks ++ ks2) wq → Calls Try.prog 76 #[.pointer (some ⟨rb, 0, none⟩), .int .i64 5, _] wq (JPost w base rb s a D nsx (ks ++ ks2) 5 kids _)) := Lib.hid (fun wq hq =>
          join_any ⟨hq.1, hR.2.1.trans hq.2.1, hR.2.2.trans hq.2.2⟩ hbase hkl 5 kids hkne (KeptX.own (s := tPs) (t := tNode) hv hq.2.2 (by decide) (by decide)))
        have HL2 := Lib.hid hl2
        have HLv := Lib.hid (late_own hv)
        clear ht hfu hl2 hap hlo hR hbar hv hkne HAlt HAdv HStart
        go_wp2_with fail
        refine HTk.out.mono ?_
        rintro en w2 ⟨rfl, S2⟩
        have HS2 := Lib.hid S2
        clear S2
        go_wp2_with fail
        refine (HJ.out _ HS2.out).mono ?_
        intro e w4 hQ
        obtain ⟨z, rfl, hP⟩ := join_end hQ HL2.out HLv.out
        have Q := Lib.hid hP
        clear hQ hP
        go_wp2_with fail
        go_ret
        rw [HA.out]
        exact Q.out
end
end Px
end Go.Proofs.Ythoidaaldngpmaa

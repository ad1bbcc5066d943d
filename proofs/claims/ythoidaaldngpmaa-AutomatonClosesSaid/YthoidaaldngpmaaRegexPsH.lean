/-
  The program's parser: alternative. Conditions: short patterns; what is called for a group, and for a class, does what the document says.
-/
import Derived.Test.YthoidaaldngpmaaRegexPsG
namespace Go.Proofs.Ythoidaaldngpmaa
open Go.RowKit
namespace Px
open Cm Rx
abbrev KRes := Except Int (List Int × Nat × List Nd)
/-- Between two rounds of a loop that gathers kids. -/
def GRel (lo : Nat) (s : ByteArray) (total : KRes) (rest : Nat → Nat → List Nd → List Int → KRes) (w0 : World) (base rb : Nat) (D : Int) (ks : List Value) (v : Value) (wr : World) : Prop :=
  ∃ (f a : Nat) (nsx : List Nd) (kids : List Int) (ks2 : List Value), total = rest f a nsx kids ∧ s.size < a + f ∧ a ≤ s.size ∧ nsx.length + 4 * (s.size - a) ≤ 500000 + lo ∧ kids.length ≤ a + 1 ∧ lo ≤ kids.length ∧ St w0 base rb s a D nsx (ks ++ ks2) wr ∧ (∀ kv ∈ ks2, Late w0.heap.size kv) ∧
    wr.ownsRow w0.heap.size tInt 1 v kids.length (intsV kids) ∧ Apart v (ks ++ ks2)
/-- How much is still to read. -/
def meas (s : ByteArray) (rb : Nat) (w : World) : Nat :=
  match w.cell? ⟨rb, 1, none⟩ with
  | some (.int _ a) => ((s.size : Int) + 1 - a).toNat
  | _ => 0
section
variable {lo : Nat} {w wr w1 w2 w3 : World} {base rb : Nat} {s : ByteArray} {D : Int} {ns nsx ns2 : List Nd} {ks ks2 ks3 : List Value} {total : KRes} {rest : Nat → Nat → List Nd → List Int → KRes} {v : Value}
theorem meas_ok {a : Nat} (h : St w1 base rb s a D ns ks w) (ha : a ≤ s.size) : meas s rb w = s.size + 1 - a := by
  obtain ⟨_, c1, _⟩ := h.cells
  unfold meas
  rw [c1]
  simp only
  omega
/-- One kid more, and the row that holds it. -/
theorem grel_ok {f a2 : Nat} {kids : List Int} {k : Int} {C : Array Value} {g cap : Nat} (ht : total = rest f a2 ns2 (kids ++ [k])) (hf : s.size < a2 + f) (ha2 : a2 ≤ s.size) (hn : ns2.length + 4 * (s.size - a2) ≤ 500000 + lo) (hk : kids.length + 1 ≤ a2 + 1) (hlo : lo ≤ kids.length)
    (hR : St w base rb s a2 D ns2 (ks ++ ks2 ++ ks3) w2) (hl2 : ∀ kv ∈ ks2, Late w.heap.size kv) (hl3 : ∀ kv ∈ ks3, Late wr.heap.size kv) (hw : w.heap.size ≤ wr.heap.size)
    (hv0 : wr.ownsRow w.heap.size tInt 1 v kids.length (intsV kids)) (hk2 : KeptP wr w2) (hap : Apart v (ks ++ ks2))
    (ho3 : w3.ownsRow w.heap.size tInt 1 (.slice (some ⟨g, 0, none⟩) (kids.length + 1) cap) (kids.length + 1) (intsV kids ++ [.int .i64 k])) (hb3 : Below w.heap.size w2 w3) (hg3 : (w2.alloc (.cells C tInt)).grownBy w3 v.ownBlock) (hat : v.ownBlock = some g ∨ g = w2.heap.size + 1) (hbase : base ≤ w.heap.size) :
    GRel lo s total rest w base rb D ks (.slice (some ⟨g, 0, none⟩) (kids.length + 1) cap) w3 ∧ meas s rb w3 = s.size + 1 - a2 := by
  have hv2 : w2.ownsRow w.heap.size tInt 1 v kids.length (intsV kids) := KeptX.own hv0 hk2 (by decide) (by decide)
  have hap2 : Apart v (ks ++ ks2 ++ ks3) := Apart_more hap hv0 hl3
  have hR3 := St_app hR hbase hv2 hap2 hg3 hb3
  have hR3' : St w base rb s a2 D ns2 (ks ++ (ks2 ++ ks3)) w3 := by rw [← List.append_assoc]; exact hR3
  refine ⟨⟨f, a2, ns2, kids ++ [k], ks2 ++ ks3, ht, hf, ha2, hn, by simpa using hk, by rw [List.length_append]; omega, hR3', fun kv hkv => ?_, ?_, ?_⟩, meas_ok hR3 ha2⟩
  · rcases List.mem_append.1 hkv with hkv | hkv
    · exact hl2 kv hkv
    · exact (hl3 kv hkv).mono hw
  · rw [List.length_append, List.length_singleton, show intsV (kids ++ [k]) = intsV kids ++ [Value.int .i64 k] from by simp [intsV]]
    exact ho3
  · rw [← List.append_assoc]; exact Apart_app hR.1 hap2 hat
end
section
variable {w : World} {base rb : Nat} {s : ByteArray} {at_ : Nat} {D : Int} {ns : List Nd} {ks : List Value}
/-- What the end of 'alternative' makes of its kids. -/
def altEnd (x : KRes) : Res :=
  match x with
  | .error e => .error e
  | .ok ([], a, ns1) => .ok (ns1.length, a, ns1 ++ [plainN 0])
  | .ok ([k], a, ns1) => .ok (k, a, ns1)
  | .ok (kids, a, ns1) => .ok (ns1.length, a, ns1 ++ [manyN 4 kids])
theorem altF_eq {l : List UInt8} {p : Option (Nat → List Nd → Res)} (hp : AdvO l p) (ha : at_ ≤ l.length) : altF l p true at_ ns = altEnd (piecesG l p (l.length + 1) at_ ns []) := by
  rw [piecesG_eq _ _ _ _ (by omega) ha hp]
  unfold altF altEnd
  rfl
/-- What 'join' makes of kids. -/
def joinR (kind : Int) (kids : List Int) (a : Nat) (nsx : List Nd) : Res :=
  match kids with
  | [k] => .ok (k, a, nsx)
  | kids => .ok (nsx.length, a, nsx ++ [manyN kind kids])
/-- The end of 'join', in the whole's words. -/
theorem join_end {kind : Int} {kids : List Int} {a : Nat} {nsx : List Nd} {ks2 : List Value} {v : Value} {en : Ending} {w' : World} (hj : JPost w base rb s a D nsx (ks ++ ks2) kind kids v en w') (hl : ∀ kv ∈ ks2, Late w.heap.size kv) (hv : Late w.heap.size v) :
    ∃ z, en = .returned (.int .i64 z) ∧ PPost w base rb s D ks (joinR kind kids a nsx) en w' := by
  unfold JPost at hj
  rcases kids with _ | ⟨k, _ | ⟨k2, kr⟩⟩
  · refine ⟨_, hj.1, hj.1, ks2 ++ [v], by rw [← List.append_assoc]; exact hj.2, fun x hx => ?_⟩
    rcases List.mem_append.1 hx with hx | hx
    · exact hl x hx
    · rw [List.mem_singleton] at hx; rw [hx]; exact hv
  · exact ⟨_, hj.1, hj.1, ks2, hj.2, hl⟩
  · refine ⟨_, hj.1, hj.1, ks2 ++ [v], by rw [← List.append_assoc]; exact hj.2, fun x hx => ?_⟩
    rcases List.mem_append.1 hx with hx | hx
    · exact hl x hx
    · rw [List.mem_singleton] at hx; rw [hx]; exact hv
theorem late_own {B n : Nat} {v : Value} {xs : List Value} (h : w.ownsRow B tInt 1 v n xs) : Late B v := fun g hg => by
  rcases h.2 with ⟨rfl, _⟩ | ⟨g', cap, cur, rfl, hb, _⟩
  · cases hg
  · have : g' = g := by simpa [Value.ownBlock] using hg
    omega
set_option maxRecDepth 100000 in
set_option maxHeartbeats 8000000 in
theorem alt_any {p : Option (Nat → List Nd → Res)} (h : Prs w base rb s (at_ : Int) D ns ks) (hG : Glb base w) (hs : s.size ≤ 100000) (ha : at_ ≤ s.size) (hp : POk s D p) (hadv : AdvO (Tx.bs s) p) (hC : ClassP s) (hl : ns.length + 4 * (s.size - at_) ≤ 500000) :
    Calls Try.prog 74 #[.pointer (some ⟨rb, 0, none⟩)] w (PPost w base rb s D ks (altF (Tx.bs s) p true at_ ns)) := by
  have hbase := h.size
  have HStart : Hid (GRel 0 s (piecesG (Tx.bs s) p ((Tx.bs s).length + 1) at_ ns []) (piecesG (Tx.bs s) p) w base rb D ks (.slice none 0 0) w) := Lib.hid
    ⟨s.size + 1, at_, ns, [], [], by rw [Tx.bs_len], by omega, ha, hl, by simp, Nat.zero_le _, by rw [List.append_nil]; exact St.start h, fun kv hkv => (by cases hkv), World.ownsRow_nil _ _ _ _, apart_nil⟩
  have HT : Hid (altF (Tx.bs s) p true at_ ns = altEnd (piecesG (Tx.bs s) p ((Tx.bs s).length + 1) at_ ns [])) := Lib.hid (altF_eq hadv (by rw [Tx.bs_len]; exact ha))
  generalize piecesG (Tx.bs s) p ((Tx.bs s).length + 1) at_ ns [] = total at HStart HT
  have HPiece : Hid (∀ (wr : World) (a q : Nat) (nsx : List Nd) (ksx : List Value), St w base rb s a D nsx ksx wr → a < s.size → nsx.length + 4 * (s.size - a) ≤ 500000 → moreF (Tx.bs s) true a = true →
      Calls Try.prog 98 #[.pointer (some ⟨rb, 0, none⟩)] (wr.drewN q) (PPost wr base rb s D ksx (pieceG (Tx.bs s) p a nsx))) := Lib.hid (fun wr a q nsx ksx h1 h2 h3 h4 =>
    (piece_all (h1.1.drewN q) (hG.below (below_drewN h1.2.1 q)) hs h2 hp hadv hC h3 h4).mono fun en w' hh => PPost.before' (below_drewN (Below.refl _ _) q) (KeptX.drewN wr q) hh)
  have HAdv : Hid (∀ (a : Nat) (nsx : List Nd) (k : Int) (a2 : Nat) (ns2 : List Nd), a < s.size → pieceG (Tx.bs s) p a nsx = .ok (k, a2, ns2) → a < a2 ∧ a2 ≤ s.size ∧ ns2.length + 2 ≤ nsx.length + 4 * (a2 - a)) := Lib.hid (fun a nsx k a2 ns2 e1 e => by have := pieceG_adv hadv (by rw [Tx.bs_len]; exact e1) e; rwa [Tx.bs_len] at this)
  clear h hp hadv hC hl hG
  go_enter Try.func74, Try.ntmps74
  go_wp2_with fail
  go_loopw [3] (fun v wr => GRel 0 s total (piecesG (Tx.bs s) p) w base rb D ks v wr) (fun _ wr => meas s rb wr)
  case atStart => exact HStart.out
  case round =>
    obtain ⟨f, a, nsx, kids, ks2, ht, hfu, ha2, hn, hk, hlo, hR, hl2, hv, hap⟩ := hrel
    obtain ⟨c0, c1, c2, hf⟩ := hR.cells
    have hsz := hR.2.1.size
    by_cases hlt : a < s.size
    · have k0 : (0 : Int) ≤ (a : Int) := by omega
      have k1 : (a : Int) < (s.size : Int) := by omega
      by_cases hbar : s[a] = 124
      · have HTot : Hid (total = .ok (kids, a, nsx)) := Lib.hid (by
          rw [ht]
          obtain ⟨f', rfl⟩ : ∃ f', f = f' + 1 := ⟨f - 1, by omega⟩
          unfold piecesG
          rw [show moreF (Tx.bs s) true a = false from by unfold moreF; rw [Tx.bs_get? s a hlt, hbar]; rfl]
          rfl)
        have hkl : nsx.length ≤ 1000000 := by omega
        have HRq := Lib.hid (fun q => hR.drewN q)
        have HVq := Lib.hid (fun q => KeptX.own (s := tPs) (t := tNode) hv (KeptX.drewN wr q) (by decide) (by decide))
        have HL2 := Lib.hid hl2
        have HLv := Lib.hid (late_own hv)
        have e1 : s[a].toNat = 124 := by rw [hbar]; rfl
        clear hf ht hfu hl2 hap hlo hR hbar HPiece HAdv
        rcases kids with _ | ⟨k, kr⟩
        · obtain ⟨A, cc, rfl⟩ := own_form hv
          have HA : Hid (altF (Tx.bs s) p true at_ ns = .ok (nsx.length, a, nsx ++ [plainN 0])) := Lib.hid (by rw [HT.out, HTot.out]; rfl)
          have HAd := Lib.hid (fun q => add_St (HRq.out q) (plainN 0) (.slice none 0 0) nil_own hkl)
          unfold ndV at HAd
          simp only [plainN, show ∀ j, word noSet j = 0 from fun j => word_none j] at HAd
          clear hv
          go_wp2_with fail
          go_quiet (fail)
          go_wp2_with fail
          refine (HAd.out _).mono ?_
          rintro e w4 ⟨rfl, S4⟩
          have HS4 := Lib.hid S4
          clear S4
          go_wp2_with fail
          go_ret
          rw [HA.out]
          exact ⟨rfl, ks2 ++ [.slice none 0 0], by rw [← List.append_assoc]; exact HS4.out, fun x hx => by
            rcases List.mem_append.1 hx with hx | hx
            · exact HL2.out x hx
            · rw [List.mem_singleton] at hx; rw [hx]; exact late_nil _⟩
        · have HA : Hid (altF (Tx.bs s) p true at_ ns = joinR 4 (k :: kr) a nsx) := Lib.hid (by rw [HT.out, HTot.out]; cases kr <;> rfl)
          have HJ := Lib.hid (fun q => join_any (HRq.out q) hbase hkl 4 (k :: kr) (by simp) (HVq.out q))
          obtain ⟨A, cc, rfl⟩ := own_form hv
          obtain ⟨m, hm⟩ : ∃ m, (k :: kr).length = m := ⟨_, rfl⟩
          have hm2 : 1 ≤ m := by rw [← hm]; simp
          rw [hm] at HJ HLv ⊢
          have e0 : ((m : Int) == 0) = false := by rw [beq_eq_false_iff_ne]; omega
          clear hv hm
          go_wp2_with fail
          go_quiet (fail)
          go_wp2_with fail
          refine (HJ.out _).mono ?_
          intro e w4 hQ
          obtain ⟨z, rfl, hP⟩ := join_end hQ HL2.out HLv.out
          have Q := Lib.hid hP
          clear hQ hP
          go_wp2_with fail
          go_ret
          rw [HA.out]
          exact Q.out
      by_cases hpar : s[a] = 41
      · have HTot : Hid (total = .ok (kids, a, nsx)) := Lib.hid (by
          rw [ht]
          obtain ⟨f', rfl⟩ : ∃ f', f = f' + 1 := ⟨f - 1, by omega⟩
          unfold piecesG
          rw [show moreF (Tx.bs s) true a = false from by unfold moreF; rw [Tx.bs_get? s a hlt, hpar]; rfl]
          rfl)
        have hkl : nsx.length ≤ 1000000 := by omega
        have HRq := Lib.hid (fun q => hR.drewN q)
        have HVq := Lib.hid (fun q => KeptX.own (s := tPs) (t := tNode) hv (KeptX.drewN wr q) (by decide) (by decide))
        have HL2 := Lib.hid hl2
        have HLv := Lib.hid (late_own hv)
        have e1 : s[a].toNat = 41 := by rw [hpar]; rfl
        clear hf ht hfu hl2 hap hlo hR hpar hbar HPiece HAdv
        rcases kids with _ | ⟨k, kr⟩
        · obtain ⟨A, cc, rfl⟩ := own_form hv
          have HA : Hid (altF (Tx.bs s) p true at_ ns = .ok (nsx.length, a, nsx ++ [plainN 0])) := Lib.hid (by rw [HT.out, HTot.out]; rfl)
          have HAd := Lib.hid (fun q => add_St (HRq.out q) (plainN 0) (.slice none 0 0) nil_own hkl)
          unfold ndV at HAd
          simp only [plainN, show ∀ j, word noSet j = 0 from fun j => word_none j] at HAd
          clear hv
          go_wp2_with fail
          go_quiet (fail)
          go_wp2_with fail
          refine (HAd.out _).mono ?_
          rintro e w4 ⟨rfl, S4⟩
          have HS4 := Lib.hid S4
          clear S4
          go_wp2_with fail
          go_ret
          rw [HA.out]
          exact ⟨rfl, ks2 ++ [.slice none 0 0], by rw [← List.append_assoc]; exact HS4.out, fun x hx => by
            rcases List.mem_append.1 hx with hx | hx
            · exact HL2.out x hx
            · rw [List.mem_singleton] at hx; rw [hx]; exact late_nil _⟩
        · have HA : Hid (altF (Tx.bs s) p true at_ ns = joinR 4 (k :: kr) a nsx) := Lib.hid (by rw [HT.out, HTot.out]; cases kr <;> rfl)
          have HJ := Lib.hid (fun q => join_any (HRq.out q) hbase hkl 4 (k :: kr) (by simp) (HVq.out q))
          obtain ⟨A, cc, rfl⟩ := own_form hv
          obtain ⟨m, hm⟩ : ∃ m, (k :: kr).length = m := ⟨_, rfl⟩
          have hm2 : 1 ≤ m := by rw [← hm]; simp
          rw [hm] at HJ HLv ⊢
          have e0 : ((m : Int) == 0) = false := by rw [beq_eq_false_iff_ne]; omega
          clear hv hm
          go_wp2_with fail
          go_quiet (fail)
          go_wp2_with fail
          refine (HJ.out _).mono ?_
          intro e w4 hQ
          obtain ⟨z, rfl, hP⟩ := join_end hQ HL2.out HLv.out
          have Q := Lib.hid hP
          clear hQ hP
          go_wp2_with fail
          go_ret
          rw [HA.out]
          exact Q.out
      have hmore : moreF (Tx.bs s) true a = true := by unfold moreF; rw [Tx.bs_get? s a hlt]; simp [hpar, hbar]
      obtain ⟨f', rfl⟩ : ∃ f', f = f' + 1 := ⟨f - 1, by omega⟩
      have HP := Lib.hid (fun q => HPiece.out wr a q nsx (ks ++ ks2) hR hlt hn hmore)
      have HStep : Hid (total = match pieceG (Tx.bs s) p a nsx with | .error e => .error e | .ok (k, a2, ns2) => piecesG (Tx.bs s) p f' a2 ns2 (kids ++ [k])) := Lib.hid (by
        rw [ht]
        conv => lhs; unfold piecesG
        rw [if_pos hmore]
        generalize pieceG (Tx.bs s) p a nsx = q
        rcases q with _ | ⟨_, _, _⟩ <;> rfl)
      have hms := meas_ok hR ha2
      have x1 : ((s[a].toNat : Int) == 124) = false := by rw [beq_eq_false_iff_ne]; intro e; apply hbar; apply UInt8.toNat_inj.1; show s[a].toNat = 124; omega
      have x2 : ((s[a].toNat : Int) != 124) = true := by rw [bne, x1]; rfl
      have x3 : ((s[a].toNat : Int) == 41) = false := by rw [beq_eq_false_iff_ne]; intro e; apply hpar; apply UInt8.toNat_inj.1; show s[a].toNat = 41; omega
      have x4 : ((s[a].toNat : Int) != 41) = true := by rw [bne, x3]; rfl
      clear hf ht hmore hbar hpar
      obtain ⟨A, cc, rfl⟩ := own_form hv
      cases hr : pieceG (Tx.bs s) p a nsx with
      | error c =>
        rw [hr] at HP HStep
        have HA : Hid (altF (Tx.bs s) p true at_ ns = .error c) := Lib.hid (by rw [HT.out, HStep.out]; rfl)
        have HB := Lib.hid hR.2.1
        clear hv hap hl2 hr hms hR
        go_wp2_with fail
        go_quiet (fail)
        go_wp2_with fail
        refine (HP.out _).mono ?_
        rintro e w2 ⟨rfl, B2⟩
        have HB2 := Lib.hid (HB.out.trans B2)
        clear B2
        go_wp2_with fail
        refine ⟨rfl, ?_⟩
        rw [HA.out]
        exact ⟨rfl, HB2.out⟩
      | ok y =>
        obtain ⟨k, a2, ns2⟩ := y
        have hav := HAdv.out a nsx k a2 ns2 hlt hr
        rw [hr] at HP HStep
        have HOk : Hid (∀ (w2 w3 : World) (C : Array Value) (g cap : Nat) (ks3 : List Value), St wr base rb s a2 D ns2 (ks ++ ks2 ++ ks3) w2 → (∀ kv ∈ ks3, Late wr.heap.size kv) → w3.ownsRow w.heap.size tInt 1 (.slice (some ⟨g, 0, none⟩) (kids.length + 1) cap) (kids.length + 1) (intsV kids ++ [.int .i64 k]) → Below w.heap.size w2 w3 →
            (w2.alloc (.cells C tInt)).grownBy w3 (Value.slice A kids.length cc).ownBlock → ((Value.slice A kids.length cc).ownBlock = some g ∨ g = w2.heap.size + 1) →
            GRel 0 s total (piecesG (Tx.bs s) p) w base rb D ks (.slice (some ⟨g, 0, none⟩) (kids.length + 1) cap) w3 ∧ meas s rb w3 = s.size + 1 - a2) := Lib.hid (fun w2 w3 C g cap ks3 h1 h2 h5 h6 h7 h8 =>
          grel_ok (f := f') HStep.out (by omega) (by omega) (by omega) (by omega) (Nat.zero_le _) ⟨h1.1, hR.2.1.trans h1.2.1, hR.2.2.trans h1.2.2⟩ hl2 h2 hsz hv h1.2.2 hap h5 h6 h7 h8 hbase)
        have HV := Lib.hid hv
        have hkl : kids.length ≤ 100001 := by omega
        have HM := Lib.hid hms
        clear hv hap hl2 hr hms hlo hR
        go_wp2_with fail
        go_quiet (fail)
        go_wp2_with fail
        refine (HP.out _).mono ?_
        rintro e w2 ⟨rfl, ks3, S2, L3⟩
        have HS2 := Lib.hid S2
        have HL3 := Lib.hid L3
        have hs2 := S2.2.1.size
        clear S2 L3
        go_wp2_with (at_builtin; refine app_at rfl Try.underlying30 info_int rfl (by omega) (.tmp 38) (.tmp 41) rfl w.heap.size kids.length (intsV kids) (.int .i64 k) rfl _ _ rfl (KeptX.own HV.out HS2.out.2.2 (by decide) (by decide)) rfl rfl (by omega) (by omega) ?_; intro g cap w3 ho3 hb3 hg3 hat3; have HO3 := Lib.hid (HOk.out w2 w3 _ g cap ks3 HS2.out HL3.out ho3 hb3 hg3 hat3); clear ho3 hb3 hg3 hat3)
        go_roundw
        case rel => exact HO3.out.1
        case measure => rw [HO3.out.2, HM.out]; omega
    · have HTot : Hid (total = .ok (kids, a, nsx)) := Lib.hid (by
        rw [ht]
        obtain ⟨f', rfl⟩ : ∃ f', f = f' + 1 := ⟨f - 1, by omega⟩
        unfold piecesG
        rw [show moreF (Tx.bs s) true a = false from by unfold moreF; rw [List.getElem?_eq_none (by rw [Tx.bs_len]; omega)]]
        rfl)
      have hkl : nsx.length ≤ 1000000 := by omega
      have HRq := Lib.hid (fun q => hR.drewN q)
      have HVq := Lib.hid (fun q => KeptX.own (s := tPs) (t := tNode) hv (KeptX.drewN wr q) (by decide) (by decide))
      have HL2 := Lib.hid hl2
      have HLv := Lib.hid (late_own hv)
      have d1 : decide ((a : Int) < (s.size : Int)) = false := by simp only [decide_eq_false_iff_not]; omega
      have d2 : decide (a < s.size) = false := by simp only [decide_eq_false_iff_not]; omega
      clear hf ht hfu hl2 hap hlo hR hlt HPiece HAdv
      rcases kids with _ | ⟨k, kr⟩
      · obtain ⟨A, cc, rfl⟩ := own_form hv
        have HA : Hid (altF (Tx.bs s) p true at_ ns = .ok (nsx.length, a, nsx ++ [plainN 0])) := Lib.hid (by rw [HT.out, HTot.out]; rfl)
        have HAd := Lib.hid (fun q => add_St (HRq.out q) (plainN 0) (.slice none 0 0) nil_own hkl)
        unfold ndV at HAd
        simp only [plainN, show ∀ j, word noSet j = 0 from fun j => word_none j] at HAd
        clear hv
        go_wp2_with fail
        go_quiet (fail)
        go_wp2_with fail
        refine (HAd.out _).mono ?_
        rintro e w4 ⟨rfl, S4⟩
        have HS4 := Lib.hid S4
        clear S4
        go_wp2_with fail
        go_ret
        rw [HA.out]
        exact ⟨rfl, ks2 ++ [.slice none 0 0], by rw [← List.append_assoc]; exact HS4.out, fun x hx => by
          rcases List.mem_append.1 hx with hx | hx
          · exact HL2.out x hx
          · rw [List.mem_singleton] at hx; rw [hx]; exact late_nil _⟩
      · have HA : Hid (altF (Tx.bs s) p true at_ ns = joinR 4 (k :: kr) a nsx) := Lib.hid (by rw [HT.out, HTot.out]; cases kr <;> rfl)
        have HJ := Lib.hid (fun q => join_any (HRq.out q) hbase hkl 4 (k :: kr) (by simp) (HVq.out q))
        obtain ⟨A, cc, rfl⟩ := own_form hv
        obtain ⟨m, hm⟩ : ∃ m, (k :: kr).length = m := ⟨_, rfl⟩
        have hm2 : 1 ≤ m := by rw [← hm]; simp
        rw [hm] at HJ HLv ⊢
        have e0 : ((m : Int) == 0) = false := by rw [beq_eq_false_iff_ne]; omega
        clear hv hm
        go_wp2_with fail
        go_quiet (fail)
        go_wp2_with fail
        refine (HJ.out _).mono ?_
        intro e w4 hQ
        obtain ⟨z, rfl, hP⟩ := join_end hQ HL2.out HLv.out
        have Q := Lib.hid hP
        clear hQ hP
        go_wp2_with fail
        go_ret
        rw [HA.out]
        exact Q.out
end
end Px
end Go.Proofs.Ythoidaaldngpmaa

/-
  The reference's alternative: pieces. Conditions: short patterns; what is called for a group does what the document says.
-/
import Derived.Test.YtebljjdhgepfkaaRegexPiece
import Derived.Test.YtebljjdhgepfkaaRegexApp
namespace Go.Proofs.Ytebljjdhgepfkaa
open Go.RowKit
namespace Rx
open Cm
abbrev KRes := Except Int (List Int × Nat × List Nd)
/-- Between two rounds of a loop that gathers kids: all is well, and rest says what is still to do; or an error has come. -/
def GRel (lo : Nat) (s : ByteArray) (total : KRes) (rest : Nat → Nat → List Nd → List Int → KRes) (w0 : World) (base rb : Nat) (D : Int) (ks : List Value) (v : Value) (wr : World) : Prop :=
  (∃ (f a : Nat) (nsx : List Nd) (kids : List Int) (ks2 : List Value), total = rest f a nsx kids ∧ s.size < a + f ∧ a ≤ s.size ∧ nsx.length + 4 * (s.size - a) ≤ 500000 + lo ∧ kids.length ≤ a + 1 ∧ lo ≤ kids.length ∧ Rdr wr base rb s (a : Int) D 0 nsx (ks ++ ks2) ∧ (∀ kv ∈ ks2, Late w0.heap.size kv) ∧
    wr.ownsRow w0.heap.size tInt 1 v kids.length (intsV kids) ∧ Apart v (ks ++ ks2) ∧ Below base w0 wr ∧ KeptR w0 wr) ∨
  (∃ (c : Int) (zs : List Int), total = .error c ∧ c ≠ 0 ∧ (∃ a d, RdE wr base rb s a d c) ∧ wr.ownsRow w0.heap.size tInt 1 v zs.length (intsV zs) ∧ zs.length ≤ 1000002 ∧ 1 ≤ zs.length ∧ Below base w0 wr ∧ KeptR w0 wr)
/-- How much is still to read. -/
def meas (s : ByteArray) (rb : Nat) (w : World) : Nat :=
  match w.cell? ⟨rb, 4, none⟩, w.cell? ⟨rb, 1, none⟩ with
  | some (.int _ e), some (.int _ a) => if e = 0 then ((s.size : Int) + 1 - a).toNat else 0
  | _, _ => 0
section
variable {lo : Nat} {w wr w1 w2 w3 : World} {base rb : Nat} {s : ByteArray} {D : Int} {ns nsx ns2 : List Nd} {ks ks2 ks3 : List Value} {total : KRes} {rest : Nat → Nat → List Nd → List Int → KRes} {v : Value}
theorem meas_ok {a : Nat} (h : Rdr w base rb s (a : Int) D 0 ns ks) (ha : a ≤ s.size) : meas s rb w = s.size + 1 - a := by
  obtain ⟨x, hb, hh, _⟩ := h
  obtain ⟨_, c1, _, _, c4, _⟩ := rdr_cells hh
  unfold meas
  rw [c4, c1]
  simp only [if_true]
  omega
theorem meas_err {a d c : Int} (h : RdE w base rb s a d c) (hc : c ≠ 0) : meas s rb w = 0 := by
  obtain ⟨x, hb, hh⟩ := h
  obtain ⟨_, c1, _, _, c4, _⟩ := rdr_cells hh
  unfold meas
  rw [c4, c1]
  simp only
  rw [if_neg hc]
/-- One kid more, and the row that holds it. -/
theorem grel_ok {f a2 : Nat} {kids : List Int} {k : Int} {C : Array Value} {g cap : Nat} (ht : total = rest f a2 ns2 (kids ++ [k])) (hf : s.size < a2 + f) (ha2 : a2 ≤ s.size) (hn : ns2.length + 4 * (s.size - a2) ≤ 500000 + lo) (hk : kids.length + 1 ≤ a2 + 1) (hlo : lo ≤ kids.length)
    (hR : Rdr w2 base rb s (a2 : Int) D 0 ns2 (ks ++ ks2 ++ ks3)) (hl2 : ∀ kv ∈ ks2, Late w.heap.size kv) (hl3 : ∀ kv ∈ ks3, Late wr.heap.size kv) (hbw : Below base w wr) (hkw : KeptR w wr) (hb2 : Below base wr w2) (hk2 : KeptR wr w2) (hw : w.heap.size ≤ wr.heap.size)
    (hv : wr.ownsRow w.heap.size tInt 1 v kids.length (intsV kids)) (hap : Apart v (ks ++ ks2))
    (ho3 : w3.ownsRow w.heap.size tInt 1 (.slice (some ⟨g, 0, none⟩) (kids.length + 1) cap) (kids.length + 1) (intsV kids ++ [.int .i64 k])) (hb3 : Below w.heap.size w2 w3) (hg3 : (w2.alloc (.cells C tInt)).grownBy w3 v.ownBlock) (hat : v.ownBlock = some g ∨ g = w2.heap.size + 1) (hbase : base ≤ w.heap.size) :
    GRel lo s total rest w base rb D ks (.slice (some ⟨g, 0, none⟩) (kids.length + 1) cap) w3 ∧ meas s rb w3 = s.size + 1 - a2 := by
  have hv2 : w2.ownsRow w.heap.size tInt 1 v kids.length (intsV kids) := KeptX.own hv hk2 (by decide) (by decide)
  have hap2 : Apart v (ks ++ ks2 ++ ks3) := Apart_more hap hv hl3
  have hR3 := Rdr_app hR hv2 hap2 hg3
  have hR3' : Rdr w3 base rb s (a2 : Int) D 0 ns2 (ks ++ (ks2 ++ ks3)) := by rw [← List.append_assoc]; exact hR3
  refine ⟨.inl ⟨f, a2, ns2, kids ++ [k], ks2 ++ ks3, ht, hf, ha2, hn, by simpa using hk, by rw [List.length_append]; omega, hR3', fun kv hkv => ?_, ?_, ?_, (hbw.trans hb2).trans (hb3.mono hbase), ?_⟩, meas_ok hR3 ha2⟩
  · rcases List.mem_append.1 hkv with hkv | hkv
    · exact hl2 kv hkv
    · exact (hl3 kv hkv).mono hw
  · rw [List.length_append, List.length_singleton, show intsV (kids ++ [k]) = intsV kids ++ [Value.int .i64 k] from by simp [intsV]]
    exact ho3
  · rw [← List.append_assoc]; exact Apart_app hR hap2 hat
  · exact Kept_app (hkw.trans hk2) (by have := hb2.size; omega) hv2 hg3
theorem grel_err {c z : Int} {zs : List Int} {C : Array Value} {g cap : Nat} {a d : Int} (ht : total = .error c) (hc : c ≠ 0) (hR : RdE w2 base rb s a d c) (hbw : Below base w wr) (hkw : KeptR w wr) (hb2 : Below base wr w2) (hk2 : KeptR wr w2) (hw : w.heap.size ≤ wr.heap.size)
    (hv : wr.ownsRow w.heap.size tInt 1 v zs.length (intsV zs)) (hn : zs.length ≤ 1000001)
    (ho3 : w3.ownsRow w.heap.size tInt 1 (.slice (some ⟨g, 0, none⟩) (zs.length + 1) cap) (zs.length + 1) (intsV zs ++ [.int .i64 z])) (hb3 : Below w.heap.size w2 w3) (hg3 : (w2.alloc (.cells C tInt)).grownBy w3 v.ownBlock) (hbase : base ≤ w.heap.size) :
    GRel lo s total rest w base rb D ks (.slice (some ⟨g, 0, none⟩) (zs.length + 1) cap) w3 ∧ meas s rb w3 = 0 := by
  have hv2 : w2.ownsRow w.heap.size tInt 1 v zs.length (intsV zs) := KeptX.own hv hk2 (by decide) (by decide)
  have hR3 := RdE_app hR hv2 hg3
  exact ⟨.inr ⟨c, zs ++ [z], ht, hc, ⟨_, _, hR3⟩, by rw [List.length_append, List.length_singleton, show intsV (zs ++ [z]) = intsV zs ++ [Value.int .i64 z] from by simp [intsV]]; exact ho3, by rw [List.length_append, List.length_singleton]; omega, by simp, (hbw.trans hb2).trans (hb3.mono hbase), Kept_app (hkw.trans hk2) (by have := hb2.size; omega) hv2 hg3⟩, meas_err hR3 hc⟩
end
section
variable {w : World} {base rb : Nat} {s : ByteArray} {at_ : Nat} {D : Int} {ns : List Nd} {ks : List Value}
/-- What the end of 'alternative' makes of its kids. -/
def altEnd (x : KRes) : Res :=
  match x with
  | .error e => .error e
  | .ok ([], a, ns1) => .ok (ns1.length, a, ns1 ++ [plainN 0])
  | .ok ([k], a, ns1) => .ok (k, a, ns1)
  | .ok (kids, a, ns1) => .ok (ns1.length, a, ns1 ++ [manyN 4 kids])
theorem altF_eq {l : List UInt8} {p : Option (Nat → List Nd → Res)} {inner : Bool} : altF l p inner at_ ns = altEnd (piecesF l p inner (l.length + 1) at_ ns []) := by
  unfold altF altEnd
  rfl
/-- The node that gathers kids. -/
theorem kids_node {w wr : World} {base rb : Nat} {s : ByteArray} {D : Int} {ns nsx : List Nd} {ks ks2 : List Value} {a : Nat} {v : Value} {kids : List Int} (kind : Int) (hR : Rdr wr base rb s (a : Int) D 0 nsx (ks ++ ks2)) (hl2 : ∀ kv ∈ ks2, Late w.heap.size kv) (hbw : Below base w wr) (hkw : KeptR w wr) (hv : wr.ownsRow w.heap.size tInt 1 v kids.length (intsV kids)) (hbase : base ≤ w.heap.size) (hn : nsx.length ≤ 1000000) (q : Nat) :
    Calls Try.prog 45 #[.pointer (some ⟨rb, 0, none⟩), .agg #[.int .i64 kind, .int .u64 0, .int .u64 0, .int .u64 0, .int .u64 0, .int .i64 0, .int .i64 0, v]] (wr.drewN q) (RPost w base rb s D ns ks (.ok ((nsx.length : Int), a, nsx ++ [manyN kind kids]))) := by
  have hv2 : (wr.drewN q).ownsRow base tInt 1 v kids.length (intsV kids) := KeptX.own (s := tRd) (t := tNode) (own_base hv hbase) (KeptX.drewN wr q) (by decide) (by decide)
  have hN := node_any (hR.drewN q) (manyN kind kids) v hv2 hn
  unfold ndV at hN
  simp only [manyN, show ∀ j, word noSet j = 0 from fun j => word_none j] at hN
  refine hN.mono fun en w' ⟨e1, e2, e3, e4⟩ => ⟨e1, ⟨ks2 ++ [v], by rw [← List.append_assoc]; exact e2, fun kv hkv => ?_⟩, hbw.trans (below_drewN' q e3), hkw.trans ((KeptX.drewN wr q).trans e4)⟩
  rcases List.mem_append.1 hkv with hkv | hkv
  · exact hl2 kv hkv
  · rw [List.mem_singleton] at hkv
    subst hkv
    exact fun g hg => (hv.lt g hg).1
set_option maxRecDepth 100000 in
set_option maxHeartbeats 8000000 in
theorem alt_any {p : Option (Nat → List Nd → Res)} (h : Rdr w base rb s at_ D 0 ns ks) (hs : s.size ≤ 100000) (ha : at_ ≤ s.size) (hD0 : 0 ≤ D) (hp : POk s D p) (hadv : AdvO (Tx.bs s) p) (hC : ClassOk s) (hl : ns.length + 4 * (s.size - at_) ≤ 500000) :
    Calls Try.prog 43 #[.pointer (some ⟨rb, 0, none⟩)] w (RPost w base rb s D ns ks (altF (Tx.bs s) p (decide (0 < D)) at_ ns)) := by
  have hbase := h.size
  have HStart : Hid (GRel 0 s (piecesF (Tx.bs s) p (decide (0 < D)) ((Tx.bs s).length + 1) at_ ns []) (piecesF (Tx.bs s) p (decide (0 < D))) w base rb D ks (.slice none 0 0) w) := Lib.hid
    (.inl ⟨s.size + 1, at_, ns, [], [], by rw [Tx.bs_len], by omega, ha, hl, by simp, Nat.zero_le _, by rw [List.append_nil]; exact h, fun kv hkv => (by cases hkv), World.ownsRow_nil _ _ _ _, apart_nil, Below.refl _ _, KeptX.refl _⟩)
  have HT : Hid (altF (Tx.bs s) p (decide (0 < D)) at_ ns = altEnd (piecesF (Tx.bs s) p (decide (0 < D)) ((Tx.bs s).length + 1) at_ ns [])) := Lib.hid altF_eq
  generalize piecesF (Tx.bs s) p (decide (0 < D)) ((Tx.bs s).length + 1) at_ ns [] = total at HStart HT
  have HPiece : Hid (∀ (wr : World) (a q : Nat) (nsx : List Nd) (ksx : List Value), Rdr wr base rb s (a : Int) D 0 nsx ksx → a < s.size → nsx.length + 4 * (s.size - a) ≤ 500000 →
      Calls Try.prog 67 #[.pointer (some ⟨rb, 0, none⟩)] (wr.drewN q) (RPost wr base rb s D nsx ksx (pieceF (Tx.bs s) p a nsx))) := Lib.hid (fun wr a q nsx ksx h1 h2 h3 =>
    (piece_any (h1.drewN q) (by omega) h2 hD0 hp hadv hC h3).mono fun en w' hh => RPost.before' (below_drewN (Below.refl _ _) q) (KeptX.drewN wr q) hh)
  have HAdv : Hid (∀ (a : Nat) (nsx : List Nd) (k : Int) (a2 : Nat) (ns2 : List Nd), pieceF (Tx.bs s) p a nsx = .ok (k, a2, ns2) → a < a2 ∧ a2 ≤ s.size ∧ ns2.length + 2 ≤ nsx.length + 4 * (a2 - a)) := Lib.hid (fun a nsx k a2 ns2 e => by have := piece_adv hadv e; rwa [Tx.bs_len] at this)
  clear h hp hadv hC hl
  go_enter Try.func43, Try.ntmps43
  go_wp2_with fail
  go_loopw [3] (fun v wr => GRel 0 s total (piecesF (Tx.bs s) p (decide (0 < D))) w base rb D ks v wr) (fun _ wr => meas s rb wr)
  case atStart => exact HStart.out
  case round =>
    rcases hrel with ⟨f, a, nsx, kids, ks2, ht, hfu, ha2, hn, hk, hlo, hR, hl2, hv, hap, hbw, hkw⟩ | ⟨c, zs, ht, hc, ⟨a, d, hR⟩, hv, hn, hz1, hbw, hkw⟩
    · by_cases hlt : a < s.size
      · have k0 : (0 : Int) ≤ (a : Int) := by omega
        have k1 : (a : Int) < (s.size : Int) := by omega
        by_cases hbar : s[a] = 124
        · have HTot : Hid (total = .ok (kids, a, nsx)) := Lib.hid (by
            rw [ht]
            obtain ⟨f', rfl⟩ : ∃ f', f = f' + 1 := ⟨f - 1, by omega⟩
            unfold piecesF
            rw [show moreF (Tx.bs s) (decide (0 < D)) a = false from by unfold moreF; rw [gl hlt, hbar]; rfl]
            rfl)
          have HRd := Lib.hid (fun q => hR.drewN q)
          have HKN := Lib.hid (fun kind q => kids_node (ns := ns) kind hR hl2 hbw hkw hv hbase (by omega) q)
          have HPost := Lib.hid (fun q => And.intro (below_drewN hbw q) (hkw.trans (KeptX.drewN wr q)))
          have HL2 := Lib.hid hl2
          have HR9 := Lib.hid hR
          have HB9 := Lib.hid hbw
          have HK9 := Lib.hid hkw
          obtain ⟨x, hb, hh, _⟩ := hR
          obtain ⟨c0, c1, c2, c3, c4, hf⟩ := rdr_cells hh
          clear hh hf ht hfu hl2 hap hbw hkw hlo HPiece HAdv
          have e1 : s[a].toNat = 124 := by rw [hbar]; rfl
          clear hbar
          rcases kids with _ | ⟨k, _ | ⟨k2, kr⟩⟩
          · obtain ⟨A, cc, rfl⟩ := own_form hv
            have HA : Hid (altF (Tx.bs s) p (decide (0 < D)) at_ ns = .ok (nsx.length, a, nsx ++ [manyN 0 []])) := Lib.hid (by rw [HT.out, HTot.out]; rfl)
            have HK0 := Lib.hid (fun q => kids_node (ns := ns) (kids := []) 0 HR9.out HL2.out HB9.out HK9.out (World.ownsRow_nil _ _ _ _) hbase (by omega) q)
            clear hv
            go_wp2_with fail
            go_quiet (fail)
            go_wp2_with fail
            refine (HK0.out _).mono ?_
            intro e w4 hQ
            obtain ⟨z, rfl⟩ := hQ.int
            have Q := Lib.hid hQ
            clear hQ
            go_wp2_with fail
            go_ret
            rw [HA.out]
            exact Q.out
          · obtain ⟨g, cc, cur, rfl, _, _⟩ := own_some hv (by simp)
            have HA : Hid (altF (Tx.bs s) p (decide (0 < D)) at_ ns = .ok (k, a, nsx)) := Lib.hid (by rw [HT.out, HTot.out]; rfl)
            have g0 := hv.cellAt 0 (by simp)
            simp only [intsV, List.map_cons, List.map_nil, List.getElem?_cons_zero] at g0
            clear hv
            go_wp2_with fail
            go_quiet (fail)
            go_wp2_with fail
            go_ret
            rw [HA.out]
            exact ⟨rfl, ⟨_, HRd.out _, HL2.out⟩, HPost.out _⟩
          · obtain ⟨A, cc, rfl⟩ := own_form hv
            have HA : Hid (altF (Tx.bs s) p (decide (0 < D)) at_ ns = .ok (nsx.length, a, nsx ++ [manyN 4 (k :: k2 :: kr)])) := Lib.hid (by rw [HT.out, HTot.out]; rfl)
            have HK4 := Lib.hid (HKN.out 4)
            obtain ⟨m, hm⟩ : ∃ m, (k :: k2 :: kr).length = m := ⟨_, rfl⟩
            have hm2 : 2 ≤ m := by rw [← hm]; simp
            rw [hm] at HK4 ⊢
            have e0 : ((m : Int) == 0) = false := by rw [beq_eq_false_iff_ne]; omega
            have e1 : ((m : Int) == 1) = false := by rw [beq_eq_false_iff_ne]; omega
            clear hv hm
            go_wp2_with fail
            go_quiet (fail)
            go_wp2_with fail
            refine (HK4.out _).mono ?_
            intro e w4 hQ
            obtain ⟨z, rfl⟩ := hQ.int
            have Q := Lib.hid hQ
            clear hQ
            go_wp2_with fail
            go_ret
            rw [HA.out]
            exact Q.out
        by_cases hpar : s[a] = 41
        · by_cases hD : 0 < D
          · have HTot : Hid (total = .ok (kids, a, nsx)) := Lib.hid (by
              rw [ht]
              obtain ⟨f', rfl⟩ : ∃ f', f = f' + 1 := ⟨f - 1, by omega⟩
              unfold piecesF
              rw [show moreF (Tx.bs s) (decide (0 < D)) a = false from by unfold moreF; rw [gl hlt, hpar]; simp [hD]]
              rfl)
            have HRd := Lib.hid (fun q => hR.drewN q)
            have HKN := Lib.hid (fun kind q => kids_node (ns := ns) kind hR hl2 hbw hkw hv hbase (by omega) q)
            have HPost := Lib.hid (fun q => And.intro (below_drewN hbw q) (hkw.trans (KeptX.drewN wr q)))
            have HL2 := Lib.hid hl2
            have HR9 := Lib.hid hR
            have HB9 := Lib.hid hbw
            have HK9 := Lib.hid hkw
            obtain ⟨x, hb, hh, _⟩ := hR
            obtain ⟨c0, c1, c2, c3, c4, hf⟩ := rdr_cells hh
            clear hh hf ht hfu hl2 hap hbw hkw hlo HPiece HAdv
            have e1 : s[a].toNat = 41 := by rw [hpar]; rfl
            clear hpar hbar
            rcases kids with _ | ⟨k, _ | ⟨k2, kr⟩⟩
            · obtain ⟨A, cc, rfl⟩ := own_form hv
              have HA : Hid (altF (Tx.bs s) p (decide (0 < D)) at_ ns = .ok (nsx.length, a, nsx ++ [manyN 0 []])) := Lib.hid (by rw [HT.out, HTot.out]; rfl)
              have HK0 := Lib.hid (fun q => kids_node (ns := ns) (kids := []) 0 HR9.out HL2.out HB9.out HK9.out (World.ownsRow_nil _ _ _ _) hbase (by omega) q)
              clear hv
              go_wp2_with fail
              go_quiet (fail)
              go_wp2_with fail
              refine (HK0.out _).mono ?_
              intro e w4 hQ
              obtain ⟨z, rfl⟩ := hQ.int
              have Q := Lib.hid hQ
              clear hQ
              go_wp2_with fail
              go_ret
              rw [HA.out]
              exact Q.out
            · obtain ⟨g, cc, cur, rfl, _, _⟩ := own_some hv (by simp)
              have HA : Hid (altF (Tx.bs s) p (decide (0 < D)) at_ ns = .ok (k, a, nsx)) := Lib.hid (by rw [HT.out, HTot.out]; rfl)
              have g0 := hv.cellAt 0 (by simp)
              simp only [intsV, List.map_cons, List.map_nil, List.getElem?_cons_zero] at g0
              clear hv
              go_wp2_with fail
              go_quiet (fail)
              go_wp2_with fail
              go_ret
              rw [HA.out]
              exact ⟨rfl, ⟨_, HRd.out _, HL2.out⟩, HPost.out _⟩
            · obtain ⟨A, cc, rfl⟩ := own_form hv
              have HA : Hid (altF (Tx.bs s) p (decide (0 < D)) at_ ns = .ok (nsx.length, a, nsx ++ [manyN 4 (k :: k2 :: kr)])) := Lib.hid (by rw [HT.out, HTot.out]; rfl)
              have HK4 := Lib.hid (HKN.out 4)
              obtain ⟨m, hm⟩ : ∃ m, (k :: k2 :: kr).length = m := ⟨_, rfl⟩
              have hm2 : 2 ≤ m := by rw [← hm]; simp
              rw [hm] at HK4 ⊢
              have e0 : ((m : Int) == 0) = false := by rw [beq_eq_false_iff_ne]; omega
              have e1 : ((m : Int) == 1) = false := by rw [beq_eq_false_iff_ne]; omega
              clear hv hm
              go_wp2_with fail
              go_quiet (fail)
              go_wp2_with fail
              refine (HK4.out _).mono ?_
              intro e w4 hQ
              obtain ⟨z, rfl⟩ := hQ.int
              have Q := Lib.hid hQ
              clear hQ
              go_wp2_with fail
              go_ret
              rw [HA.out]
              exact Q.out
          · have hmore : moreF (Tx.bs s) (decide (0 < D)) a = true := by unfold moreF; rw [gl hlt, hpar]; simp [hD]
            obtain ⟨f', rfl⟩ : ∃ f', f = f' + 1 := ⟨f - 1, by omega⟩
            have HP := Lib.hid (fun q => HPiece.out wr a q nsx (ks ++ ks2) hR hlt hn)
            have hsz := hbw.size
            have HStep : Hid (total = match pieceF (Tx.bs s) p a nsx with | .error e => .error e | .ok (k, a2, ns2) => piecesF (Tx.bs s) p (decide (0 < D)) f' a2 ns2 (kids ++ [k])) := Lib.hid (by
              rw [ht]
              conv => lhs; unfold piecesF
              rw [hmore]
              rfl)
            have hms := meas_ok hR ha2
            obtain ⟨x, hb, hh, _⟩ := hR
            obtain ⟨c0, c1, c2, c3, c4, hf⟩ := rdr_cells hh
            clear hh hf ht hmore
            have e1 : s[a].toNat = 41 := by rw [hpar]; rfl
            have e2 : decide (0 < D) = false := by simpa using hD
            clear hpar hbar hD
            obtain ⟨A, cc, rfl⟩ := own_form hv
            cases hr : pieceF (Tx.bs s) p a nsx with
            | error c =>
              rw [hr] at HP HStep
              have HErr : Hid (∀ (w2 w3 : World) (C : Array Value) (g cap : Nat) (z aa dd : Int), c ≠ 0 → RdE w2 base rb s aa dd c → Below base wr w2 → KeptR wr w2 → w3.ownsRow w.heap.size tInt 1 (.slice (some ⟨g, 0, none⟩) (kids.length + 1) cap) (kids.length + 1) (intsV kids ++ [.int .i64 z]) → Below w.heap.size w2 w3 → (w2.alloc (.cells C tInt)).grownBy w3 (Value.slice A kids.length cc).ownBlock →
                  GRel 0 s total (piecesF (Tx.bs s) p (decide (0 < D))) w base rb D ks (.slice (some ⟨g, 0, none⟩) (kids.length + 1) cap) w3 ∧ meas s rb w3 = 0) := Lib.hid (fun w2 w3 C g cap z aa dd h1 h2 h3 h4 h5 h6 h7 =>
                grel_err HStep.out h1 h2 hbw hkw h3 h4 hsz hv (by omega) h5 h6 h7 hbase)
              have HV := Lib.hid hv
              have hkl : kids.length ≤ 100001 := by omega
              have HM := Lib.hid hms
              clear hv hap hbw hkw hl2 hr hms hlo
              go_wp2_with fail
              go_quiet (fail)
              go_wp2_with fail
              refine (HP.out _).mono ?_
              rintro e w2 ⟨⟨z, rfl⟩, hc0, ⟨aa, dd, hE⟩, hB2, hK2⟩
              have HE2 := Lib.hid hE
              have HC0 := Lib.hid hc0
              have HB2 := Lib.hid hB2
              have HK2 := Lib.hid hK2
              have hs2 := hB2.size
              clear hE hc0 hB2 hK2
              go_wp2_with (at_builtin; refine app_at rfl Try.underlying22 info_int rfl (by omega) (.tmp 53) (.tmp 56) rfl w.heap.size kids.length (intsV kids) (.int .i64 z) rfl _ _ rfl (KeptX.own HV.out HK2.out (by decide) (by decide)) rfl rfl (by omega) (by omega) ?_; intro g cap w3 ho3 hb3 hg3 _; have HO3 := Lib.hid (HErr.out w2 w3 _ g cap z aa dd HC0.out HE2.out HB2.out HK2.out ho3 hb3 hg3); clear ho3 hb3 hg3)
              go_roundw
              case rel => exact HO3.out.1
              case measure => rw [HO3.out.2, HM.out]; omega
            | ok y =>
              obtain ⟨k, a2, ns2⟩ := y
              have hav := HAdv.out a nsx k a2 ns2 hr
              rw [hr] at HP HStep
              have HOk : Hid (∀ (w2 w3 : World) (C : Array Value) (g cap : Nat) (ks3 : List Value), Rdr w2 base rb s (a2 : Int) D 0 ns2 (ks ++ ks2 ++ ks3) → (∀ kv ∈ ks3, Late wr.heap.size kv) → Below base wr w2 → KeptR wr w2 → w3.ownsRow w.heap.size tInt 1 (.slice (some ⟨g, 0, none⟩) (kids.length + 1) cap) (kids.length + 1) (intsV kids ++ [.int .i64 k]) → Below w.heap.size w2 w3 →
                  (w2.alloc (.cells C tInt)).grownBy w3 (Value.slice A kids.length cc).ownBlock → ((Value.slice A kids.length cc).ownBlock = some g ∨ g = w2.heap.size + 1) →
                  GRel 0 s total (piecesF (Tx.bs s) p (decide (0 < D))) w base rb D ks (.slice (some ⟨g, 0, none⟩) (kids.length + 1) cap) w3 ∧ meas s rb w3 = s.size + 1 - a2) := Lib.hid (fun w2 w3 C g cap ks3 h1 h2 h3 h4 h5 h6 h7 h8 =>
                grel_ok (f := f') HStep.out (by omega) (by omega) (by omega) (by omega) (Nat.zero_le _) h1 hl2 h2 hbw hkw h3 h4 hsz hv hap h5 h6 h7 h8 hbase)
              have HV := Lib.hid hv
              have hkl : kids.length ≤ 100001 := by omega
              have HM := Lib.hid hms
              clear hv hap hbw hkw hl2 hr hms hlo
              go_wp2_with fail
              go_quiet (fail)
              go_wp2_with fail
              refine (HP.out _).mono ?_
              rintro e w2 ⟨rfl, ⟨ks3, hR2, hL3⟩, hB2, hK2⟩
              have HR2 := Lib.hid hR2
              have HL3 := Lib.hid hL3
              have HB2 := Lib.hid hB2
              have HK2 := Lib.hid hK2
              have hs2 := hB2.size
              clear hR2 hL3 hB2 hK2
              go_wp2_with (at_builtin; refine app_at rfl Try.underlying22 info_int rfl (by omega) (.tmp 53) (.tmp 56) rfl w.heap.size kids.length (intsV kids) (.int .i64 k) rfl _ _ rfl (KeptX.own HV.out HK2.out (by decide) (by decide)) rfl rfl (by omega) (by omega) ?_; intro g cap w3 ho3 hb3 hg3 hat3; have HO3 := Lib.hid (HOk.out w2 w3 _ g cap ks3 HR2.out HL3.out HB2.out HK2.out ho3 hb3 hg3 hat3); clear ho3 hb3 hg3 hat3)
              go_roundw
              case rel => exact HO3.out.1
              case measure => rw [HO3.out.2, HM.out]; omega
        have hmore : moreF (Tx.bs s) (decide (0 < D)) a = true := by unfold moreF; rw [gl hlt]; simp [hpar, hbar]
        obtain ⟨f', rfl⟩ : ∃ f', f = f' + 1 := ⟨f - 1, by omega⟩
        have HP := Lib.hid (fun q => HPiece.out wr a q nsx (ks ++ ks2) hR hlt hn)
        have hsz := hbw.size
        have HStep : Hid (total = match pieceF (Tx.bs s) p a nsx with | .error e => .error e | .ok (k, a2, ns2) => piecesF (Tx.bs s) p (decide (0 < D)) f' a2 ns2 (kids ++ [k])) := Lib.hid (by
          rw [ht]
          conv => lhs; unfold piecesF
          rw [hmore]
          rfl)
        have hms := meas_ok hR ha2
        obtain ⟨x, hb, hh, _⟩ := hR
        obtain ⟨c0, c1, c2, c3, c4, hf⟩ := rdr_cells hh
        clear hh hf ht hmore
        have e1 : ((s[a].toNat : Int) != 124) = true := byte_N hbar
        have e2 : ((s[a].toNat : Int) == 41) = false := byte_F hpar
        clear hpar hbar
        obtain ⟨A, cc, rfl⟩ := own_form hv
        cases hr : pieceF (Tx.bs s) p a nsx with
        | error c =>
          rw [hr] at HP HStep
          have HErr : Hid (∀ (w2 w3 : World) (C : Array Value) (g cap : Nat) (z aa dd : Int), c ≠ 0 → RdE w2 base rb s aa dd c → Below base wr w2 → KeptR wr w2 → w3.ownsRow w.heap.size tInt 1 (.slice (some ⟨g, 0, none⟩) (kids.length + 1) cap) (kids.length + 1) (intsV kids ++ [.int .i64 z]) → Below w.heap.size w2 w3 → (w2.alloc (.cells C tInt)).grownBy w3 (Value.slice A kids.length cc).ownBlock →
              GRel 0 s total (piecesF (Tx.bs s) p (decide (0 < D))) w base rb D ks (.slice (some ⟨g, 0, none⟩) (kids.length + 1) cap) w3 ∧ meas s rb w3 = 0) := Lib.hid (fun w2 w3 C g cap z aa dd h1 h2 h3 h4 h5 h6 h7 =>
            grel_err HStep.out h1 h2 hbw hkw h3 h4 hsz hv (by omega) h5 h6 h7 hbase)
          have HV := Lib.hid hv
          have hkl : kids.length ≤ 100001 := by omega
          have HM := Lib.hid hms
          clear hv hap hbw hkw hl2 hr hms hlo
          go_wp2_with fail
          go_quiet (fail)
          go_wp2_with fail
          refine (HP.out _).mono ?_
          rintro e w2 ⟨⟨z, rfl⟩, hc0, ⟨aa, dd, hE⟩, hB2, hK2⟩
          have HE2 := Lib.hid hE
          have HC0 := Lib.hid hc0
          have HB2 := Lib.hid hB2
          have HK2 := Lib.hid hK2
          have hs2 := hB2.size
          clear hE hc0 hB2 hK2
          go_wp2_with (at_builtin; refine app_at rfl Try.underlying22 info_int rfl (by omega) (.tmp 53) (.tmp 56) rfl w.heap.size kids.length (intsV kids) (.int .i64 z) rfl _ _ rfl (KeptX.own HV.out HK2.out (by decide) (by decide)) rfl rfl (by omega) (by omega) ?_; intro g cap w3 ho3 hb3 hg3 _; have HO3 := Lib.hid (HErr.out w2 w3 _ g cap z aa dd HC0.out HE2.out HB2.out HK2.out ho3 hb3 hg3); clear ho3 hb3 hg3)
          go_roundw
          case rel => exact HO3.out.1
          case measure => rw [HO3.out.2, HM.out]; omega
        | ok y =>
          obtain ⟨k, a2, ns2⟩ := y
          have hav := HAdv.out a nsx k a2 ns2 hr
          rw [hr] at HP HStep
          have HOk : Hid (∀ (w2 w3 : World) (C : Array Value) (g cap : Nat) (ks3 : List Value), Rdr w2 base rb s (a2 : Int) D 0 ns2 (ks ++ ks2 ++ ks3) → (∀ kv ∈ ks3, Late wr.heap.size kv) → Below base wr w2 → KeptR wr w2 → w3.ownsRow w.heap.size tInt 1 (.slice (some ⟨g, 0, none⟩) (kids.length + 1) cap) (kids.length + 1) (intsV kids ++ [.int .i64 k]) → Below w.heap.size w2 w3 →
              (w2.alloc (.cells C tInt)).grownBy w3 (Value.slice A kids.length cc).ownBlock → ((Value.slice A kids.length cc).ownBlock = some g ∨ g = w2.heap.size + 1) →
              GRel 0 s total (piecesF (Tx.bs s) p (decide (0 < D))) w base rb D ks (.slice (some ⟨g, 0, none⟩) (kids.length + 1) cap) w3 ∧ meas s rb w3 = s.size + 1 - a2) := Lib.hid (fun w2 w3 C g cap ks3 h1 h2 h3 h4 h5 h6 h7 h8 =>
            grel_ok (f := f') HStep.out (by omega) (by omega) (by omega) (by omega) (Nat.zero_le _) h1 hl2 h2 hbw hkw h3 h4 hsz hv hap h5 h6 h7 h8 hbase)
          have HV := Lib.hid hv
          have hkl : kids.length ≤ 100001 := by omega
          have HM := Lib.hid hms
          clear hv hap hbw hkw hl2 hr hms hlo
          go_wp2_with fail
          go_quiet (fail)
          go_wp2_with fail
          refine (HP.out _).mono ?_
          rintro e w2 ⟨rfl, ⟨ks3, hR2, hL3⟩, hB2, hK2⟩
          have HR2 := Lib.hid hR2
          have HL3 := Lib.hid hL3
          have HB2 := Lib.hid hB2
          have HK2 := Lib.hid hK2
          have hs2 := hB2.size
          clear hR2 hL3 hB2 hK2
          go_wp2_with (at_builtin; refine app_at rfl Try.underlying22 info_int rfl (by omega) (.tmp 53) (.tmp 56) rfl w.heap.size kids.length (intsV kids) (.int .i64 k) rfl _ _ rfl (KeptX.own HV.out HK2.out (by decide) (by decide)) rfl rfl (by omega) (by omega) ?_; intro g cap w3 ho3 hb3 hg3 hat3; have HO3 := Lib.hid (HOk.out w2 w3 _ g cap ks3 HR2.out HL3.out HB2.out HK2.out ho3 hb3 hg3 hat3); clear ho3 hb3 hg3 hat3)
          go_roundw
          case rel => exact HO3.out.1
          case measure => rw [HO3.out.2, HM.out]; omega
      · have HTot : Hid (total = .ok (kids, a, nsx)) := Lib.hid (by
          rw [ht]
          obtain ⟨f', rfl⟩ : ∃ f', f = f' + 1 := ⟨f - 1, by omega⟩
          unfold piecesF
          rw [show moreF (Tx.bs s) (decide (0 < D)) a = false from by unfold moreF; rw [gn (by omega)]]
          rfl)
        have HRd := Lib.hid (fun q => hR.drewN q)
        have HKN := Lib.hid (fun kind q => kids_node (ns := ns) kind hR hl2 hbw hkw hv hbase (by omega) q)
        have HPost := Lib.hid (fun q => And.intro (below_drewN hbw q) (hkw.trans (KeptX.drewN wr q)))
        have HL2 := Lib.hid hl2
        have HR9 := Lib.hid hR
        have HB9 := Lib.hid hbw
        have HK9 := Lib.hid hkw
        obtain ⟨x, hb, hh, _⟩ := hR
        obtain ⟨c0, c1, c2, c3, c4, hf⟩ := rdr_cells hh
        clear hh hf ht hfu hl2 hap hbw hkw hlo HPiece HAdv
        have d1 : decide ((a : Int) < (s.size : Int)) = false := by simp only [decide_eq_false_iff_not]; omega
        have d2 : decide (a < s.size) = false := by simp only [decide_eq_false_iff_not]; omega
        rcases kids with _ | ⟨k, _ | ⟨k2, kr⟩⟩
        · obtain ⟨A, cc, rfl⟩ := own_form hv
          have HA : Hid (altF (Tx.bs s) p (decide (0 < D)) at_ ns = .ok (nsx.length, a, nsx ++ [manyN 0 []])) := Lib.hid (by rw [HT.out, HTot.out]; rfl)
          have HK0 := Lib.hid (fun q => kids_node (ns := ns) (kids := []) 0 HR9.out HL2.out HB9.out HK9.out (World.ownsRow_nil _ _ _ _) hbase (by omega) q)
          clear hv
          go_wp2_with fail
          go_quiet (fail)
          go_wp2_with fail
          refine (HK0.out _).mono ?_
          intro e w4 hQ
          obtain ⟨z, rfl⟩ := hQ.int
          have Q := Lib.hid hQ
          clear hQ
          go_wp2_with fail
          go_ret
          rw [HA.out]
          exact Q.out
        · obtain ⟨g, cc, cur, rfl, _, _⟩ := own_some hv (by simp)
          have HA : Hid (altF (Tx.bs s) p (decide (0 < D)) at_ ns = .ok (k, a, nsx)) := Lib.hid (by rw [HT.out, HTot.out]; rfl)
          have g0 := hv.cellAt 0 (by simp)
          simp only [intsV, List.map_cons, List.map_nil, List.getElem?_cons_zero] at g0
          clear hv
          go_wp2_with fail
          go_quiet (fail)
          go_wp2_with fail
          go_ret
          rw [HA.out]
          exact ⟨rfl, ⟨_, HRd.out _, HL2.out⟩, HPost.out _⟩
        · obtain ⟨A, cc, rfl⟩ := own_form hv
          have HA : Hid (altF (Tx.bs s) p (decide (0 < D)) at_ ns = .ok (nsx.length, a, nsx ++ [manyN 4 (k :: k2 :: kr)])) := Lib.hid (by rw [HT.out, HTot.out]; rfl)
          have HK4 := Lib.hid (HKN.out 4)
          obtain ⟨m, hm⟩ : ∃ m, (k :: k2 :: kr).length = m := ⟨_, rfl⟩
          have hm2 : 2 ≤ m := by rw [← hm]; simp
          rw [hm] at HK4 ⊢
          have e0 : ((m : Int) == 0) = false := by rw [beq_eq_false_iff_ne]; omega
          have e1 : ((m : Int) == 1) = false := by rw [beq_eq_false_iff_ne]; omega
          clear hv hm
          go_wp2_with fail
          go_quiet (fail)
          go_wp2_with fail
          refine (HK4.out _).mono ?_
          intro e w4 hQ
          obtain ⟨z, rfl⟩ := hQ.int
          have Q := Lib.hid hQ
          clear hQ
          go_wp2_with fail
          go_ret
          rw [HA.out]
          exact Q.out
    · obtain ⟨A, cc, rfl⟩ := own_form hv
      have HA : Hid (altF (Tx.bs s) p (decide (0 < D)) at_ ns = .error c) := Lib.hid (by rw [HT.out, ht]; rfl)
      have HPost := Lib.hid (fun q => And.intro (hR.drewN q) (And.intro (below_drewN hbw q) (hkw.trans (KeptX.drewN wr q))))
      obtain ⟨x, hb, hh⟩ := hR
      obtain ⟨c0, c1, c2, c3, c4, hf⟩ := rdr_cells hh
      have e1 : (c == 0) = false := by rw [beq_eq_false_iff_ne]; exact hc
      have e2 : (c != 0) = true := by rw [bne, e1]; rfl
      have HC0 := Lib.hid hc
      clear hh hf ht hv hbw hkw hc hz1 HPiece HAdv
      go_wp2_with fail
      go_quiet (fail)
      go_wp2_with fail
      go_ret
      rw [HA.out]
      exact ⟨⟨_, rfl⟩, HC0.out, ⟨_, _, (HPost.out _).1⟩, (HPost.out _).2⟩
end
end Rx
end Go.Proofs.Ytebljjdhgepfkaa

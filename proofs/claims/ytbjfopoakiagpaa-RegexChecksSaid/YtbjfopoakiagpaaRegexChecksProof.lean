/-
  Proved: the law RegexChecks of layer 4 returns true for every input, and its arguments read as before. No conditions.
-/
import Derived.Test.YtbjfopoakiagpaaRegexLawX
import Derived.Test.YtbjfopoakiagpaaRegexFrameX
import Derived.Test.YtbjfopoakiagpaaRegexPattern
import Derived.Test.YtbjfopoakiagpaaRegexWeight
import Derived.Deep.Cut
namespace Go.Proofs.Ytbjfopoakiagpaa
open Go.ChangeShapes Go.WideShapes Go.ChangeAt Go.RowKit
open Go.ChangeMaps (open_string shut_string)
namespace Px.RegexChecks
open Cm Rx
theorem rdI_of {w : World} {v : Value} {l : List Int} (h : RdV w v (intsV l)) (ht : ∀ z ∈ l, -9223372036854775808 ≤ z ∧ z ≤ 9223372036854775807) : Tx.RdI w v l.length := by
  obtain ⟨A, c, e, _, h⟩ := h
  rw [intsV_len] at e
  refine ⟨A, c, e, fun hp => ?_⟩
  obtain ⟨b, off, h1, h2⟩ := h (by rw [intsV_len]; exact hp)
  refine ⟨b, off, h1, fun j hj => ⟨l[j], ?_, ht _ (List.getElem_mem hj)⟩⟩
  rw [h2 j (by rw [intsV_len]; exact hj)]
  simp [intsV]
theorem ParseR_own (s : ByteArray) (w : World) (hs : s.size ≤ 256) : Calls Try.prog 16 #[.string s] w fun e w' =>
    ∃ v ks, e = .returned (.tuple #[v, .int .i64 (codeR (parseF (Tx.bs s)))]) ∧ OwnN w' w.heap.size v (nodesR (parseF (Tx.bs s))) ks ∧ Below w.heap.size w w' :=
  (ParseR_any s w (by omega) (fun h => class_ok s (by omega))).mono fun e w' h => by
    cases hr : parseF (Tx.bs s) with
    | error c =>
      rw [hr] at h
      exact ⟨.slice none 0 0, [], h.1, ⟨rfl, World.ownsRow_nil _ _ _ _, fun j h1 => by cases h1⟩, h.2⟩
    | ok ns =>
      rw [hr] at h
      obtain ⟨v, ks, e1, e2, e3⟩ := h
      exact ⟨v, ks, e1, e2, e3⟩
theorem ints_one (l : List Int) : ∀ u ∈ intsV l, u.oneCell' = true := fun u hu => by
  obtain ⟨z, _, rfl⟩ := List.mem_map.1 hu
  rfl
theorem own_form8 {w : World} {base : Nat} {v : Value} {ns : List Nd} {ks : List Value} (h : OwnN w base v ns ks) : ∃ A c, v = .slice A ns.length c := by
  rcases h.2.1.2 with ⟨rfl, h0⟩ | ⟨g, cap, cur, rfl, _⟩
  · exact ⟨none, 0, by rw [h0]⟩
  · exact ⟨_, _, rfl⟩
theorem OwnN_same {w w' : World} {base : Nat} {v : Value} {ns : List Nd} {ks : List Value} (h : OwnN w base v ns ks) (hs : ∀ k, k < w.heap.size → w'.heap[k]? = w.heap[k]?) : OwnN w' base v ns ks :=
  ⟨h.1, own_same h.2.1 hs, fun j h1 h2 => own_same (h.2.2 j h1 h2) hs⟩
theorem kid_end {w2 w5 : World} {base g c n : Nat} {nx : List Nd} {ks : List Value} {cur : Array Value} (hO : OwnN w2 base (.slice (some ⟨g, 0, none⟩) nx.length c) nx ks) (hh : w2.heap[g]? = some (.cells cur tNode (0, 0))) {j2 : Nat} (hjn : j2 < nx.length) (hjk : j2 < ks.length) (hB : Below w2.heap.size w2 w5) (v5 : Value) (zz : Int)
    (ho : w5.ownsRow w2.heap.size tInt 1 v5 n ([] ++ intsV nx[j2].kids ++ [.int .i64 zz])) : RdN (w5.setCell ⟨g, j2 * 8 + 7, none⟩ v5) (.slice (some ⟨g, 0, none⟩) nx.length c) (nx.set j2 { nx[j2] with kids := nx[j2].kids ++ [zz] }) := by
  have hg := lt_some hh
  refine mut_any (OwnN_same hO hB.block) ((hB.block g hg).trans hh) hjn hjk 7 (by omega) v5 v5 { nx[j2] with kids := nx[j2].kids ++ [zz] } rfl ?_
  have hne : v5.ownBlock ≠ some g := fun e => by
    have := (ho.lt g e).1
    omega
  have h1 := RdV.of_own (ownsRow_setCell_other (a := ⟨g, j2 * 8 + 7, none⟩) ho hne v5)
  rw [List.nil_append] at h1
  show RdV _ v5 (intsV (nx[j2].kids ++ [zz]))
  rw [intsV_snoc]
  exact h1
def FewK (B : Nat) (ns : List Nd) : Prop := ns.length ≤ 1100 ∧ ∀ n ∈ ns, n.kids.length ≤ B
theorem few_set {ns : List Nd} {j : Nat} {nd : Nd} (h : FewK 257 ns) (hn : nd.kids.length ≤ 258) : FewK 258 (ns.set j nd) := by
  refine ⟨by rw [List.length_set]; exact h.1, fun n hm => ?_⟩
  rcases List.mem_or_eq_of_mem_set hm with h1 | h1
  · have := h.2 n h1; omega
  · rw [h1]; exact hn
set_option maxRecDepth 100000 in
set_option maxHeartbeats 4000000 in
theorem walk_long (vl vr : Value) (ls : List Nd) (n at_ what by_ : Int) (w : World) (hG : Glb w.heap.size w) (hvl : RdN w vl ls) (hs : (12 : Int) < (ls.length : Int)) :
    Calls Try.prog 5 #[vl, vr, .int .i64 n, .int .i64 at_, .int .i64 what, .int .i64 by_] w fun e w' => e = .returned (.bool true) ∧ Below w.heap.size w w' := by
  have HAw := Lib.hid (fun (wq : World) (hb : Below w.heap.size w wq) => awake_any wq (hG.self hb))
  obtain ⟨A, c, rfl, _⟩ := hvl
  clear hG
  go_enter Try.func5, Try.ntmps5
  go_wp2_with (go_at_call 18; refine (HAw.out _ (Below.refl _ _)).mono ?_; rintro e w9 ⟨rfl, B9⟩; have HB9 := Lib.hid (below_tr (Below.refl _ _) B9); clear B9)
  go_ret
  exact ⟨rfl, HB9.out⟩
set_option maxRecDepth 100000 in
set_option maxHeartbeats 16000000 in
theorem walk_short (vl vr : Value) (ls : List Nd) (lr : List Int) (n at_ what by_ : Int) (w : World) (hG : Glb w.heap.size w) (hvl : RdN w vl ls) (hs : ls.length ≤ 12) (hr : RdV w vr (intsV lr)) (hrl : lr.length ≤ maxLen) (hrt : ∀ z ∈ lr, -9223372036854775808 ≤ z ∧ z ≤ 9223372036854775807)
    (bn : -9223372036854775808 ≤ n ∧ n ≤ 9223372036854775807) (ba : -9223372036854775808 ≤ at_ ∧ at_ ≤ 9223372036854775807) (bw : -9223372036854775808 ≤ what ∧ what ≤ 9223372036854775807) (bb : -9223372036854775808 ≤ by_ ∧ by_ ≤ 9223372036854775807) :
    Calls Try.prog 5 #[vl, vr, .int .i64 n, .int .i64 at_, .int .i64 what, .int .i64 by_] w fun e w' => e = .returned (.bool true) ∧ Below w.heap.size w w' := by
  have HAw := Lib.hid (fun (wq : World) (hb : Below w.heap.size w wq) => awake_any wq (hG.self hb))
  have HPat := Lib.hid (fun (wq : World) (hb : Below w.heap.size w wq) => Pattern_any vr lr.length n wq ((rdI_of hr hrt).below hb) hrl bn.1 bn.2)
  have HPar := Lib.hid (fun (x : ByteArray) (hx : x.size ≤ 128) wq => ParseR_own x wq (by omega))
  have HSm := Lib.hid (fun (x : ByteArray) => nodes_small (Tx.bs x))
  have HRl := Lib.hid hvl
  have b1 := bn.1
  have b2 := bn.2
  have b3 := ba.1
  have b4 := ba.2
  have b5 := bw.1
  have b6 := bw.2
  have b7 := bb.1
  have b8 := bb.2
  obtain ⟨A, c, rfl, hA⟩ := hvl
  have HA := Lib.hid hA
  obtain ⟨Ar, cr, hre⟩ := hr.form
  rw [intsV_len] at hre
  subst hre
  clear hG hr hrl hrt hA bn ba bw bb
  generalize hll : ls.length = m at hs ⊢
  have HM := Lib.hid hll
  clear hll
  generalize lr.length = nr at HPat ⊢
  have t12 : decide ((12 : Int) < (m : Int)) = false := by simp only [decide_eq_false_iff_not]; omega
  go_enter Try.func5, Try.ntmps5
  go_wp2_with fail
  go_loop [13] (fun i => ∃ j : Nat, j ≤ m ∧ i = .int .i64 (j : Int) ∧ Hid (∀ k (h : k < ls.length), k < j → ls[k].kids.length ≤ 5)) (fun i => m - (intOf i).toNat)
  case atStart => exact ⟨0, Nat.zero_le _, by go_num, Lib.hid (fun k _ h => absurd h (Nat.not_lt_zero _))⟩
  case round =>
    obtain ⟨j, hj, rfl, HO⟩ := hrel
    by_cases hlt : j < m
    · have hx : j < ls.length := by rw [HM.out]; exact hlt
      obtain ⟨b, off, rfl, hA1⟩ := HA.out (by rw [HM.out]; omega)
      obtain ⟨kv, _, _, _, _, _, _, _, p7, rk⟩ := hA1 j hx
      obtain ⟨Ak, ck, hke⟩ := rk.form
      rw [intsV_len] at hke
      subst hke
      have i1 : (0 : Int) ≤ (j : Int) := by omega
      have i2 : (j : Int) < (m : Int) := by omega
      generalize hkn : ls[j].kids.length = kn at p7
      by_cases h5 : (5 : Int) < (kn : Int)
      · clear hA1 rk hkn
        go_wp2_with (go_at_call 18; refine (HAw.out _ (Below.refl _ _)).mono ?_; rintro e w9 ⟨rfl, B9⟩; have HB9 := Lib.hid (below_tr (Below.refl _ _) B9); clear B9)
        go_ret
        exact ⟨rfl, HB9.out⟩
      · have HO2 : Hid (∀ k (h : k < ls.length), k < j + 1 → ls[k].kids.length ≤ 5) := Lib.hid (fun k hk1 hk2 => by
          by_cases hkj : k < j
          · exact HO.out k hk1 hkj
          · have : k = j := by omega
            subst this; omega)
        have t5 : decide ((5 : Int) < (kn : Int)) = false := by simp only [decide_eq_false_iff_not]; omega
        clear hA1 rk hkn
        go_wp2_with fail
        go_round
        case rel => exact ⟨j + 1, by omega, by go_num, HO2⟩
        case measure => simp [intOf]; omega
    · have hd : decide (j < m) = false := by simp only [decide_eq_false_iff_not]; omega
      have HK5 : Hid (∀ n ∈ ls, n.kids.length ≤ 1000000) := Lib.hid (fun nd hnd => by
        obtain ⟨k, hk, rfl⟩ := List.mem_iff_getElem.1 hnd
        have := HO.out k hk (by rw [HM.out] at hk; omega)
        omega)
      have HLl : Hid (ls.length ≤ 1000000) := Lib.hid (by rw [HM.out]; omega)
      clear HO HA
      go_wp2_with fail
      refine (HPat.out _ (Below.refl _ _)).mono ?_
      rintro e w1 ⟨x, hx, _, rfl, B1⟩
      have HP1 := Lib.hid (HPar.out x hx w1)
      have HS1 := Lib.hid (HSm.out x)
      have HB1 := Lib.hid B1
      generalize codeR (parseF (Tx.bs x)) = cx at HP1
      generalize nodesR (parseF (Tx.bs x)) = nx at HP1 HS1
      clear B1 hx
      go_wp2_with fail
      refine HP1.out.mono ?_
      rintro e w2 ⟨vm, ks, rfl, hO, B2⟩
      obtain ⟨Am, cm', rfl⟩ := own_form8 hO
      have HOw := Lib.hid hO
      have HB2 := Lib.hid (below_tr HB1.out B2)
      have hb12 := HB1.out.size
      clear B2 HP1 HPar HPat
      go_upto_if 53 with fail
      go_cut [14] from 26 (fun v wx => ∃ nm, Hid (RdN wx v nm) ∧ Hid (FewK 258 nm) ∧ Hid (Below w.heap.size w wx))
      case first =>
        by_cases hp : 0 < nx.length
        · obtain ⟨g, c2, cur, e1, hbg, hh⟩ := own_block HOw.out hp
          cases e1
          have hkl : ks.length = nx.length := HOw.out.1
          have d0 := Tx.modF_lo at_ (nx.length : Int) (by omega)
          have d1 := Tx.modF_hi at_ (nx.length : Int) (by omega)
          obtain ⟨j2, hj2⟩ : ∃ j2 : Nat, Tx.modF at_ (nx.length : Int) = (j2 : Int) := ⟨(Tx.modF at_ (nx.length : Int)).toNat, by omega⟩
          rw [hj2] at d0 d1
          have e0 := Tx.modF_lo by_ 9 (by omega)
          have e1 := Tx.modF_hi by_ 9 (by omega)
          have k0 := Tx.modF_lo what 5 (by omega)
          have k1 := Tx.modF_hi what 5 (by omega)
          have z0 := Tx.modF_lo by_ (nx.length : Int) (by omega)
          have z1 := Tx.modF_hi by_ (nx.length : Int) (by omega)
          have hjn : j2 < nx.length := by omega
          have hjk : j2 < ks.length := by omega
          have HMut := Lib.hid (fun i hi u kv nd => mut_any HOw.out hh (j := j2) hjn hjk i hi u kv nd)
          have HCell := Lib.hid (own_cells HOw.out hjn hjk)
          have hfz : ∀ q, w2.frozen? ⟨g, q, none⟩ = false := fun q => by simp [World.frozen?, hh]
          have hkids := HOw.out.2.2 j2 hjk hjn
          have HKd := Lib.hid hkids
          have HKv := Lib.hid (RdV.of_own hkids)
          have hnk := HS1.out.2 _ (List.getElem_mem hjn)
          have HFewS : Hid (∀ nd : Nd, nd.kids.length ≤ 258 → FewK 258 (nx.set j2 nd)) := Lib.hid (fun nd h => few_set HS1.out h)
          have hgb : w.heap.size ≤ g := Nat.le_trans HB1.out.size hbg
          have q0 : w2.cell? ⟨g, j2 * 8, none⟩ = some (.int .i64 nx[j2].kind) := HCell.out 0 (by omega)
          have q5 : w2.cell? ⟨g, j2 * 8 + 5, none⟩ = some (.int .i64 nx[j2].mn) := HCell.out 5 (by omega)
          have q6 : w2.cell? ⟨g, j2 * 8 + 6, none⟩ = some (.int .i64 nx[j2].mx) := HCell.out 6 (by omega)
          have q7 : w2.cell? ⟨g, j2 * 8 + 7, none⟩ = some ks[j2] := HCell.out 7 (by omega)
          have f0 := hfz (j2 * 8)
          have f5 := hfz (j2 * 8 + 5)
          have f6 := hfz (j2 * 8 + 6)
          have f7 := hfz (j2 * 8 + 7)
          have HKs : Hid (∀ i, i < 7 → ∀ u, RdV (w2.setCell ⟨g, j2 * 8 + i, none⟩ u) ks[j2] (intsV nx[j2].kids)) := Lib.hid (fun i _ u => by
            have hne : ks[j2].ownBlock ≠ some g := by
              rcases hkids.2 with ⟨e1, _⟩ | ⟨g2, _, _, e1, _, hh2, _⟩
              · rw [e1]; simp [Value.ownBlock]
              · rw [e1]
                intro e2
                have : g2 = g := by simpa [Value.ownBlock] using e2
                subst this
                rw [hh] at hh2
                injection hh2 with hh2
                injection hh2 with _ ht
                exact absurd ht (by decide)
            exact RdV.of_own (ownsRow_setCell_other (a := ⟨g, j2 * 8 + i, none⟩) hkids hne u))
          have HM0 : Hid (∀ Z, RdN (w2.setCell ⟨g, j2 * 8 + 0, none⟩ (.int .i64 Z)) (.slice (some ⟨g, 0, none⟩) nx.length cm') (nx.set j2 { nx[j2] with kind := Z })) := Lib.hid (fun Z => HMut.out 0 (by omega) (.int .i64 Z) ks[j2] { nx[j2] with kind := Z } rfl (HKs.out 0 (by omega) _))
          have HM5 : Hid (∀ Z, RdN (w2.setCell ⟨g, j2 * 8 + 5, none⟩ (.int .i64 Z)) (.slice (some ⟨g, 0, none⟩) nx.length cm') (nx.set j2 { nx[j2] with mn := Z })) := Lib.hid (fun Z => HMut.out 5 (by omega) (.int .i64 Z) ks[j2] { nx[j2] with mn := Z } rfl (HKs.out 5 (by omega) _))
          have HM6 : Hid (∀ Z, RdN (w2.setCell ⟨g, j2 * 8 + 6, none⟩ (.int .i64 Z)) (.slice (some ⟨g, 0, none⟩) nx.length cm') (nx.set j2 { nx[j2] with mx := Z })) := Lib.hid (fun Z => HMut.out 6 (by omega) (.int .i64 Z) ks[j2] { nx[j2] with mx := Z } rfl (HKs.out 6 (by omega) _))
          have HJ := Lib.hid hj2
          have i1 : (0 : Int) ≤ (j2 : Int) := by omega
          have i2 : (j2 : Int) < (nx.length : Int) := by omega
          have hlen : nx.length ≤ 1100 := HS1.out.1
          generalize hZ : Tx.modF by_ (nx.length : Int) = zz at z0 z1
          have HZ := Lib.hid hZ
          generalize hD : Tx.modF by_ 9 = dd at e0 e1
          have HD := Lib.hid hD
          generalize hK : Tx.modF what 5 = kk at k0 k1
          have hkk : kk = 0 ∨ kk = 1 ∨ kk = 2 ∨ kk = 3 ∨ kk = 4 := by omega
          clear hj2 hZ hD hfz hkids d0 d1 k0 k1 hkl HCell
          rcases hkk with rfl | rfl | rfl | rfl | rfl
          · have HK := Lib.hid hK
            clear hK
            go_wp2_with (go_at_call 21; refine (Tx.Mod_any _ _ _ (by omega) (by omega) (by omega) (by omega)).mono ?_; rintro e w7 ⟨rfl, rfl⟩; first | rw [HJ.out] | rw [HD.out] | rw [HK.out] | rw [HZ.out])
            go_meet
            case rel => exact ⟨_, Lib.hid (HM0.out _), Lib.hid (HFewS.out _ (by show nx[j2].kids.length ≤ 258; omega)), Lib.hid (HB2.out.setCell (p := ⟨g, j2 * 8, none⟩) hgb _)⟩
          · have HK := Lib.hid hK
            clear hK
            go_wp2_with (go_at_call 21; refine (Tx.Mod_any _ _ _ (by omega) (by omega) (by omega) (by omega)).mono ?_; rintro e w7 ⟨rfl, rfl⟩; first | rw [HJ.out] | rw [HD.out] | rw [HK.out] | rw [HZ.out])
            go_meet
            case rel => exact ⟨_, Lib.hid (HM5.out _), Lib.hid (HFewS.out _ (by show nx[j2].kids.length ≤ 258; omega)), Lib.hid (HB2.out.setCell (p := ⟨g, j2 * 8 + 5, none⟩) hgb _)⟩
          · have HK := Lib.hid hK
            clear hK
            go_wp2_with (go_at_call 21; refine (Tx.Mod_any _ _ _ (by omega) (by omega) (by omega) (by omega)).mono ?_; rintro e w7 ⟨rfl, rfl⟩; first | rw [HJ.out] | rw [HD.out] | rw [HK.out] | rw [HZ.out])
            go_meet
            case rel => exact ⟨_, Lib.hid (HM6.out _), Lib.hid (HFewS.out _ (by show nx[j2].kids.length ≤ 258; omega)), Lib.hid (HB2.out.setCell (p := ⟨g, j2 * 8 + 6, none⟩) hgb _)⟩
          · have HK := Lib.hid hK
            clear hK
            have hw2 := HB2.out.size
            generalize hkv : ks[j2] = kv at HKv HKd q7
            obtain ⟨Ak, ck, hke⟩ := HKv.out.form
            rw [intsV_len] at hke
            subst hke
            have hHg : g < w2.heap.size := lt_some hh
            generalize hkn : nx[j2].kids.length = kn at hnk HKv q7
            go_wp2_with (first | (go_at_call 21; refine (Tx.Mod_any _ _ _ (by omega) (by omega) (by omega) (by omega)).mono ?_; rintro e w7 ⟨rfl, rfl⟩; first | rw [HJ.out] | rw [HD.out] | rw [HK.out] | rw [HZ.out]) | (at_builtin; refine app_rd rfl Try.underlying22 info_intW rfl (by omega) (.tmp 99) (.tmp 103) rfl w2.heap.size 0 [] (intsV nx[j2].kids) _ _ rfl (own_empty w2 tInt) rfl (HKv.out.below ((Below.refl _ _).alloc (Nat.le_refl _) _)) (ints_one _) (by rw [intsV_len]; omega) (by simp) ?_; intro v4 w4 ho4 hb4 hg4; have HO4 := Lib.hid ho4; have HB4 := Lib.hid (((Below.refl w2.heap.size w2).alloc (Nat.le_refl _) _).trans hb4); have hsz4 := HB4.out.size; clear ho4 hb4 hg4) | (at_builtin; refine app_one rfl Try.underlying22 info_intW rfl (by omega) (.tmp 104) (.tmp 109) rfl w2.heap.size _ _ (.int .i64 zz) rfl _ _ rfl HO4.out rfl rfl (by rw [intsV_len]; omega) hsz4 ?_; intro v5 w5 ho5 hb5 hg5; obtain ⟨A5, c5, rfl⟩ := own_form ho5; have HB5 := Lib.hid (HB4.out.trans hb5); have HFin := Lib.hid (kid_end HOw.out hh hjn hjk HB5.out _ zz ho5); have q8 := (HB5.out.cell (p := ⟨g, j2 * 8 + 7, none⟩) hHg).trans q7; have f8 := (HB5.out.frozen (p := ⟨g, j2 * 8 + 7, none⟩) hHg).trans f7; clear ho5 hb5 hg5))
            go_meet
            case rel => exact ⟨nx.set j2 { nx[j2] with kids := nx[j2].kids ++ [zz] }, Lib.hid (by have h := HFin.out; simp only [Nat.zero_add] at h ⊢; exact h), Lib.hid (HFewS.out _ (by show (nx[j2].kids ++ [zz]).length ≤ 258; rw [List.length_append, List.length_singleton]; omega)), Lib.hid ((HB2.out.trans (HB5.out.mono hw2)).setCell (p := ⟨g, j2 * 8 + 7, none⟩) hgb _)⟩
          · have HK := Lib.hid hK
            clear hK
            go_wp2_with (go_at_call 21; refine (Tx.Mod_any _ _ _ (by omega) (by omega) (by omega) (by omega)).mono ?_; rintro e w7 ⟨rfl, rfl⟩; first | rw [HJ.out] | rw [HD.out] | rw [HK.out] | rw [HZ.out])
            go_meet
            case rel => exact ⟨nx, Lib.hid (RdN.of_own HOw.out), Lib.hid ⟨HS1.out.1, fun n hn => Nat.le_trans (HS1.out.2 n hn) (by decide)⟩, HB2⟩
        · have t1 : decide ((0 : Int) < (nx.length : Int)) = false := by simp only [decide_eq_false_iff_not]; omega
          have t2 : decide (0 < nx.length) = false := by simp only [decide_eq_false_iff_not]; omega
          go_wp2_with fail
          go_meet
          case rel => exact ⟨nx, Lib.hid (RdN.of_own HOw.out), Lib.hid ⟨HS1.out.1, fun n hn => Nat.le_trans (HS1.out.2 n hn) (by decide)⟩, HB2⟩
      case rest =>
        obtain ⟨nm, HRm, HFew, HB3⟩ := hcut
        have HLm : Hid (nm.length ≤ 1000000 ∧ ∀ n ∈ nm, n.kids.length ≤ 1000000) := Lib.hid ⟨Nat.le_trans HFew.out.1 (by decide), fun k hk => Nat.le_trans (HFew.out.2 k hk) (by decide)⟩
        have HLc : Hid (nm.length ≤ 4611686018427387904 ∧ ∀ n ∈ nm, n.kids.length ≤ 4611686018427387904) := Lib.hid ⟨Nat.le_trans HLm.out.1 (by decide), fun k hk => Nat.le_trans (HLm.out.2 k hk) (by decide)⟩
        have HKc : Hid (ls.length ≤ 4611686018427387904 ∧ ∀ n ∈ ls, n.kids.length ≤ 4611686018427387904) := Lib.hid ⟨Nat.le_trans HLl.out (by decide), fun k hk => Nat.le_trans (HK5.out k hk) (by decide)⟩
        have HR3 := Lib.hid (HRl.out.below HB3.out)
        rw [HM.out] at HR3
        have HPl := Lib.hid (fun W (hb : Below wc.heap.size wc W) => Weight_any _ ls W (HR3.out.below hb) HLl.out HK5.out)
        have HQl := Lib.hid (fun W (hb : Below wc.heap.size wc W) => WeightR_any _ ls W (HR3.out.below hb) HLl.out HK5.out)
        have HCl := Lib.hid (fun W (hb : Below wc.heap.size wc W) => Check_any _ ls W (HR3.out.below hb) HKc.out.1 HKc.out.2)
        have HDl := Lib.hid (fun W (hb : Below wc.heap.size wc W) => CheckR_any _ ls W (HR3.out.below hb) HKc.out.1 HKc.out.2)
        have HPm := Lib.hid (fun W (hb : Below wc.heap.size wc W) => Weight_any _ nm W (HRm.out.below hb) HLm.out.1 HLm.out.2)
        have HQm := Lib.hid (fun W (hb : Below wc.heap.size wc W) => WeightR_any _ nm W (HRm.out.below hb) HLm.out.1 HLm.out.2)
        have HCm := Lib.hid (fun W (hb : Below wc.heap.size wc W) => Check_any _ nm W (HRm.out.below hb) HLc.out.1 HLc.out.2)
        have HDm := Lib.hid (fun W (hb : Below wc.heap.size wc W) => CheckR_any _ nm W (HRm.out.below hb) HLc.out.1 HLc.out.2)
        generalize weightR ls = wl at HPl HQl
        generalize checkF ls = cl at HPl HQl HCl HDl
        generalize weightR nm = wm at HPm HQm
        generalize checkF nm = cm at HPm HQm HCm HDm
        have HX0 : Hid (Below wc.heap.size wc wc) := Lib.hid (Below.refl _ _)
        clear HRl HRm HR3
        go_wp2_with fail
        refine (HPl.out _ HX0.out).mono ?_
        rintro e x1 ⟨rfl, BX⟩
        have HX1 := Lib.hid (below_tr HX0.out BX)
        clear BX
        go_wp2_with fail
        refine (HQl.out _ HX1.out).mono ?_
        rintro e x2 ⟨rfl, BX⟩
        have HX2 := Lib.hid (below_tr HX1.out BX)
        clear BX
        go_wp2_with fail
        refine (HPm.out _ HX2.out).mono ?_
        rintro e x3 ⟨rfl, BX⟩
        have HX3 := Lib.hid (below_tr HX2.out BX)
        clear BX
        go_wp2_with fail
        refine (HQm.out _ HX3.out).mono ?_
        rintro e x4 ⟨rfl, BX⟩
        have HX4 := Lib.hid (below_tr HX3.out BX)
        clear BX
        go_wp2_with fail
        refine (HCl.out _ HX4.out).mono ?_
        rintro e x5 ⟨rfl, BX⟩
        have HX5 := Lib.hid (below_tr HX4.out BX)
        clear BX
        go_wp2_with fail
        refine (HDl.out _ HX5.out).mono ?_
        rintro e x6 ⟨rfl, BX⟩
        have HX6 := Lib.hid (below_tr HX5.out BX)
        clear BX
        go_wp2_with fail
        refine (HCm.out _ HX6.out).mono ?_
        rintro e x7 ⟨rfl, BX⟩
        have HX7 := Lib.hid (below_tr HX6.out BX)
        clear BX
        go_wp2_with fail
        refine (HDm.out _ HX7.out).mono ?_
        rintro e x8 ⟨rfl, BX⟩
        have HX8 := Lib.hid (below_tr HX7.out BX)
        clear BX
        go_wp2_with (go_at_call 18; refine (HAw.out _ (below_tr HB3.out HX8.out)).mono ?_; rintro e w9 ⟨rfl, B9⟩; have HB9 := Lib.hid (below_tr (below_tr HB3.out HX8.out) B9); clear B9)
        go_ret
        exact ⟨rfl, HB9.out⟩
theorem walk (vl vr : Value) (ls : List Nd) (lr : List Int) (n at_ what by_ : Int) (w : World) (hG : Glb w.heap.size w) (hvl : RdN w vl ls) (hr : RdV w vr (intsV lr)) (hrl : lr.length ≤ maxLen) (hrt : ∀ z ∈ lr, -9223372036854775808 ≤ z ∧ z ≤ 9223372036854775807)
    (bn : -9223372036854775808 ≤ n ∧ n ≤ 9223372036854775807) (ba : -9223372036854775808 ≤ at_ ∧ at_ ≤ 9223372036854775807) (bw : -9223372036854775808 ≤ what ∧ what ≤ 9223372036854775807) (bb : -9223372036854775808 ≤ by_ ∧ by_ ≤ 9223372036854775807) :
    Calls Try.prog 5 #[vl, vr, .int .i64 n, .int .i64 at_, .int .i64 what, .int .i64 by_] w fun e w' => e = .returned (.bool true) ∧ Below w.heap.size w w' := by
  by_cases h : ls.length ≤ 12
  · exact walk_short vl vr ls lr n at_ what by_ w hG hvl h hr hrl hrt bn ba bw bb
  · exact walk_long vl vr ls n at_ what by_ w hG hvl (by omega)
set_option maxRecDepth 100000 in
theorem lifted (os : Os) (started : os.Started) (H : Type) (enc : TypeId × Value → H) :
    ReturnsInHanded {} Try.checked os 5 .any (Rows.regexChecksSpec.pre6 enc Try.prog Try.f5 Rows.regexChecksRow.domain false) (Rows.regexChecksSpec.post enc Try.prog Try.f5 false true false false) := by
  refine returnsInHanded_of_change_shaped (C := Try.checked) own started (by kernel_rfl) Try.func5
    (ChangeSpec.witness6 (enc := enc) (C := Try.checked) false ⟨#[], #[.slice none 0 0, .slice none 0 0, .int .i64 0, .int .i64 0, .int .i64 0, .int .i64 0], []⟩ 8 (by kernel_rfl) (by kernel_rfl) (by kernel_rfl) (by kernel_rfl)) ?_
  intro W base args ds gs before hval0 hW _ _ hsh _
  have hval : ∀ (j : Nat) t v, Try.f5.params[j]? = some t → args[j]? = some v → Value.okWide Try.prog W .any base t v := hval0
  have hW' := hW
  obtain ⟨p, q, hA0, hV, rfl, hfz, hnd⟩ := hW
  have hA : DataW.TrodAll enc Try.prog W 0 (fun _ => true) true Try.f5.params.toList args.toList ds p := hA0
  rw [Try.params5] at hA hval
  obtain ⟨v0, v1, v2, v3, v4, v5, d0, d1, d2, d3, d4, d5, p0, p1, p2, p3, p4, p5, rfl, rfl, rfl, h0, h1, h2, h3, h4, h5⟩ := trodAll_six hA
  obtain ⟨rfl, rfl⟩ := trodVars_none hV
  obtain ⟨A0, n0, c0, rfl⟩ := okWide_slice Try.underlying25 (hval 0 25 v0 rfl rfl)
  have k0 := h0
  have lt0 : ∀ x ∈ p0, x.block < W.heap.size := by obtain ⟨m, hm⟩ := k0; exact DataW.trod_lt m _ _ _ hm
  obtain ⟨l, r0, s0, t0⟩ : ∃ l : List Nd, RdN W (.slice A0 n0 c0) l ∧ l.length ≤ maxLen ∧ ∀ z ∈ l, NdB z := by obtain ⟨fuel, hf⟩ := h0; exact open_nodesV hf
  obtain ⟨A1, n1, c1, rfl⟩ := okWide_slice Try.underlying22 (hval 1 22 v1 rfl rfl)
  have k1 := h1
  have lt1 : ∀ x ∈ p1, x.block < W.heap.size := by obtain ⟨m, hm⟩ := k1; exact DataW.trod_lt m _ _ _ hm
  obtain ⟨raw, r1, s1, t1⟩ : ∃ l : List Int, RdV W (.slice A1 n1 c1) (intsV l) ∧ l.length ≤ maxLen ∧ ∀ z ∈ l, -9223372036854775808 ≤ z ∧ z ≤ 9223372036854775807 := by obtain ⟨fuel, hf⟩ := h1; exact open_intsV hf
  obtain ⟨n, rfl, rfl, rfl, wn⟩ := open_int Try.underlying3 (hval 2 3 v2 rfl rfl) h2
  have bn := bounds_int wn
  obtain ⟨at_, rfl, rfl, rfl, wat_⟩ := open_int Try.underlying3 (hval 3 3 v3 rfl rfl) h3
  have bat_ := bounds_int wat_
  obtain ⟨what, rfl, rfl, rfl, wwhat⟩ := open_int Try.underlying3 (hval 4 3 v4 rfl rfl) h4
  have bwhat := bounds_int wwhat
  obtain ⟨by_, rfl, rfl, rfl, wby_⟩ := open_int Try.underlying3 (hval 5 3 v5 rfl rfl) h5
  have bby_ := bounds_int wby_
  clear hA0 hval0
  simp only [List.append_nil] at hW'
  refine (walk _ _ l raw n at_ what by_ W (glb_of hsh) r0 r1 s1 t1 bn bat_ bwhat bby_).mono fun e W' ⟨he, hbel⟩ => ?_
  subst he
  exact ⟨_, rfl, _, _, _, [], _, [], hW', trodAll_mk1 (shut_bool Try.underlying4 _), trodAll_mk6 (Below.trod laidOut (by kernel_rfl) (of_decide_eq_true (by kernel_rfl)) k0 hbel lt0) (Below.trod laidOut (by kernel_rfl) (of_decide_eq_true (by kernel_rfl)) k1 hbel lt1) (shut_int Try.underlying3 wn) (shut_int Try.underlying3 wat_) (shut_int Try.underlying3 wwhat) (shut_int Try.underlying3 wby_), rfl, hbel.frame _, fun h => by cases h⟩
theorem row_holds : Rows.RegexChecksSaid :=
  OpenClaim.holds_of_wide 5 Try.f5 rfl rfl rfl rfl rfl rfl rfl ⟨rfl, rfl, rfl, rfl, rfl⟩ rfl rfl rfl rfl rfl (by kernel_rfl) Try.func5 (by kernel_rfl)
    (of_decide_eq_true (by kernel_rfl)) (by unfold Func.isWrapper; first | (rw [if_pos (by decide +kernel)]; kernel_rfl) | (rw [if_neg (by decide +kernel)]; exact ⟨rfl, rfl⟩))
    (fun os started H enc _ => lifted os started H enc)
end Px.RegexChecks
end Go.Proofs.Ytbjfopoakiagpaa

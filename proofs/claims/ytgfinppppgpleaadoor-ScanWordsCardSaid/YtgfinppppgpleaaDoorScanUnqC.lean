/-
  Walks of layer 1, reading words: quoted, Unquote. Conditions: the text has at most 2^20 bytes.
-/
import Derived.Test.YtgfinppppgpleaaDoorScanUnqB
namespace Go.Proofs.YtgfinppppgpleaaDoor
open Go.RowKit
namespace Sc
theorem b34 (b : UInt8) (h : b = 34) : ((b.toNat : Int) != 34) = false := by rw [h]; rfl
theorem n34 (b : UInt8) (h : b ≠ 34) : ((b.toNat : Int) != 34) = true := by
  have h2 : ((b.toNat : Int) == 34) = false := bne_of _ 34 h
  rw [bne, h2]; rfl
theorem own_below {w w' : World} {base : Nat} {v : Value} {n : Nat} {xs : List Value} (h : w.ownsRow base 5 1 v n xs) (hb : Below w.heap.size w w') : w'.ownsRow base 5 1 v n xs :=
  h.kept (row := none) ⟨hb.os, hb.tape, hb.output, hb.size, fun k hk _ => hb.block k hk⟩ (by cases v.ownBlock <;> simp)
set_option maxRecDepth 100000 in
set_option maxHeartbeats 2000000 in
theorem quoted_any (s : ByteArray) (k : Nat) (w : World) (hs : s.size ≤ 1048576) (hk : k < s.size) :
    Calls Tryd.prog 30 #[.string s, .int .i64 k] w fun e w' => e = .returned (unqV (quotedAt (bs s) k)) ∧ Below w.heap.size w w' := by
  go_enter Tryd.func30, Tryd.ntmps30
  go_wp2_with fail
  go_loopw [7, 8] (fun v i wr => ∃ (j f : Nat) (acc : List UInt8), k < j ∧ j ≤ s.size ∧ i = .int .i64 j ∧ s.size < j + f ∧ acc.length ≤ j ∧ Hid (wr.ownsRow w.heap.size 5 1 v acc.length (bytesV acc)) ∧
      Hid (runQ f ((bs s).drop j) acc j = runQ ((bs s).length + 1) ((bs s).drop (k + 1)) [] (k + 1)) ∧ Below w.heap.size w wr) (fun _ i _ => s.size - (intOf i).toNat)
  case atStart => exact ⟨k + 1, (bs s).length + 1, [], by omega, by omega, rfl, by rw [bs_len]; omega, Nat.zero_le _, Lib.hid (World.ownsRow_nil _ _ _ _), Lib.hid rfl, Below.refl _ _⟩
  case round =>
    obtain ⟨j, f, acc, hkj, hj, rfl, hf, hacc, HO, HR, hnx⟩ := hrel
    by_cases hlt : j < s.size
    · obtain ⟨f, rfl⟩ : ∃ f', f = f' + 1 := ⟨f - 1, by omega⟩
      by_cases hq : s[j] = 34
      · have e1 := b34 _ hq
        have HR2 : Hid (runQ ((bs s).length + 1) ((bs s).drop (k + 1)) [] (k + 1) = some (acc, j + 1)) := Lib.hid (by rw [← HR.out]; exact runQ_stop s f acc j hlt hq)
        have hcv := own_conv HO.out
        have hz : (ByteArray.mk acc.toArray).size ≤ 1048576 := by
          show acc.toArray.size ≤ _
          simp; omega
        have HQ : Hid (∀ w, Calls Tryd.prog 22 #[.string ⟨acc.toArray⟩] w fun e w' => e = .returned (.string ⟨(quoteF acc).toArray⟩) ∧ Below w.heap.size w w') := Lib.hid (fun w => Quote_any ⟨acc.toArray⟩ w hz)
        have i0 : (0 : Int) ≤ (k : Int) := by omega
        have i1 : (k : Int) ≤ (j : Int) + 1 := by omega
        have i2 : (j : Int) + 1 ≤ (s.size : Int) := by omega
        clear hq hz
        go_wp2_with fail
        go_region_held3 (fun _ => True) (trivial) (first | (go_at_call 22; refine (HQ.out _).mono ?_; rintro en w1 ⟨rfl, hbel⟩))
        go_wp2_with fail
        · go_ret3
          exact ⟨by rw [quoted_no s k (j + 1) acc HR2.out (by assumption)]; rfl, hnx.trans (((Below.refl _ _).drew.trans hbel).mono hnx.size)⟩
        · go_ret3
          exact ⟨by rw [quoted_yes s k (j + 1) acc HR2.out (by assumption)]; rfl, hnx.trans (((Below.refl _ _).drew.trans hbel).mono hnx.size)⟩
      · have e1 := n34 _ hq
        have HC := Lib.hid (fun w => quotedByte_any s j w (by omega) hlt)
        cases hd : decB ((bs s).drop j) with
        | none =>
          have HR2 : Hid (runQ ((bs s).length + 1) ((bs s).drop (k + 1)) [] (k + 1) = none) := Lib.hid (by rw [← HR.out]; exact runQ_bad s f acc j hlt hq hd)
          have HN := Lib.hid (quoted_none _ _ HR2.out)
          rw [hd] at HC
          clear hq hd
          go_wp2_with (go_at_call 37; refine (HC.out _).mono ?_; rintro e w1 ⟨rfl, hb⟩; unfold decV)
          go_ret3
          exact ⟨by rw [HN.out]; rfl, hnx.trans (hb.mono hnx.size)⟩
        | some p =>
          obtain ⟨b, n⟩ := p
          have HS := Lib.hid (runQ_step s f acc j hlt hq b n hd)
          obtain ⟨hn1, hn2⟩ := decB_le _ _ _ hd
          rw [List.length_drop, bs_len] at hn2
          rw [hd] at HC
          clear hq hd
          go_wp2_with (first
            | (go_at_call 37; refine (HC.out _).mono ?_; rintro e w1 ⟨rfl, hb⟩; unfold decV; have HO1 := Lib.hid (own_below HO.out hb); have hnx1 := hnx.trans (hb.mono hnx.size); clear hb)
            | (at_builtin; refine app_new rfl (.tmp 35) (.tmp 37) rfl w.heap.size acc [b] _ rfl HO1.out 1 rfl rfl rfl (by omega) hnx1.size ?_; intro v2 w2 ho2 hb2; have HO2 := Lib.hid ho2; clear ho2))
          go_roundw
          case rel => exact ⟨j + n, f, acc ++ [b], by omega, by omega, by go_num, by omega, by simp; omega, HO2, Lib.hid (HS.out.symm.trans HR.out), hnx1.trans hb2⟩
          case measure => simp [intOf]; omega
    · have HR2 : Hid (runQ ((bs s).length + 1) ((bs s).drop (k + 1)) [] (k + 1) = none) := Lib.hid (by rw [← HR.out]; exact runQ_end s f acc j (by omega))
      have HN := Lib.hid (quoted_none _ _ HR2.out)
      have hd : decide ((j : Int) < (s.size : Int)) = false := by simp only [decide_eq_false_iff_not]; omega
      go_wp2_with fail
      go_ret3
      exact ⟨by rw [HN.out]; rfl, hnx⟩
theorem unqF_out (l : List UInt8) (k : Int) (h : k < 0 ∨ (l.length : Int) ≤ k) : unqF l k = none := by unfold unqF; rw [if_pos h]
theorem unqF_in (l : List UInt8) (k : Nat) (h : k < l.length) : unqF l k = unqAt l k := by unfold unqF; rw [if_neg (by omega)]; rfl
theorem unqAt_q (l : List UInt8) (k : Nat) (h : l[k]? = some 34) : unqAt l k = quotedAt l k := by unfold unqAt; rw [if_pos h]
theorem unqAt_no (l : List UInt8) (k : Nat) (h : ¬ l[k]? = some 34) (h2 : endOf isPlain l k = k) : unqAt l k = none := by unfold unqAt; rw [if_neg h, if_pos h2]
theorem unqAt_yes (l : List UInt8) (k : Nat) (h : ¬ l[k]? = some 34) (h2 : ¬ endOf isPlain l k = k) : unqAt l k = some ((l.drop k).take (endOf isPlain l k - k), endOf isPlain l k) := by unfold unqAt; rw [if_neg h, if_neg h2]
set_option maxRecDepth 100000 in
set_option maxHeartbeats 1000000 in
theorem Unquote_any (s : ByteArray) (k : Int) (w : World) (hs : s.size ≤ 1048576) :
    Calls Tryd.prog 20 #[.string s, .int .i64 k] w fun e w' => e = .returned (unqV (unqF (bs s) k)) ∧ Below w.heap.size w w' := by
  by_cases h0 : k < 0
  · have HV := Lib.hid (unqF_out (bs s) k (.inl h0))
    go_enter Tryd.func20, Tryd.ntmps20
    go_wp2_with fail
    go_ret3
    exact ⟨by rw [HV.out]; rfl, Below.refl _ _⟩
  by_cases h1 : (s.size : Int) ≤ k
  · have HV := Lib.hid (unqF_out (bs s) k (.inr h1))
    go_enter Tryd.func20, Tryd.ntmps20
    go_wp2_with fail
    go_ret3
    exact ⟨by rw [HV.out]; rfl, Below.refl _ _⟩
  obtain ⟨k, rfl⟩ := Int.eq_ofNat_of_zero_le (Int.not_lt.1 h0)
  have hk : k < s.size := by omega
  have HV := Lib.hid (unqF_in (bs s) k hk)
  have d0 : decide ((k : Int) < 0) = false := by simp only [decide_eq_false_iff_not]; omega
  have d1 : decide ((s.size : Int) ≤ (k : Int)) = false := by simp only [decide_eq_false_iff_not]; omega
  clear h0 h1
  by_cases hq : s[k] = 34
  · have e1 : ((s[k].toNat : Int) == 34) = true := beq_of _ 34 hq
    have HX : Hid (unqF (bs s) k = quotedAt (bs s) k) := Lib.hid (by rw [HV.out, unqAt_q _ _ (by rw [bs_get? s k hk, hq])])
    have HC := Lib.hid (fun w => quoted_any s k w hs hk)
    clear hq
    cases hQ : quotedAt (bs s) k with
    | none =>
      rw [hQ] at HX HC
      clear hQ
      go_enter Tryd.func20, Tryd.ntmps20
      go_wp2_with (go_at_call 30; refine (HC.out _).mono ?_; rintro e w1 ⟨rfl, hb⟩; unfold unqV)
      go_ret3
      exact ⟨by rw [HX.out]; rfl, hb⟩
    | some p =>
      obtain ⟨t, e⟩ := p
      rw [hQ] at HX HC
      clear hQ
      go_enter Tryd.func20, Tryd.ntmps20
      go_wp2_with (go_at_call 30; refine (HC.out _).mono ?_; rintro en w1 ⟨rfl, hb⟩; unfold unqV)
      go_ret3
      exact ⟨by rw [HX.out]; rfl, hb⟩
  · have e1 : ((s[k].toNat : Int) == 34) = false := bne_of _ 34 hq
    have hq2 : ¬ (bs s)[k]? = some 34 := by rw [bs_get? s k hk]; intro h; exact hq (Option.some.inj h)
    have HC := Lib.hid (fun w => plainEnd_any s k w (by omega) (by omega))
    have hge := endOf_ge isPlain (bs s) k
    have hle := endOf_le isPlain (bs s) k (by rw [bs_len]; omega)
    rw [bs_len] at hle
    have HY := Lib.hid (unqAt_yes (bs s) k hq2)
    have HN := Lib.hid (unqAt_no (bs s) k hq2)
    generalize endOf isPlain (bs s) k = E at hge hle HC HY HN
    clear hq hq2
    by_cases he : E = k
    · have HX : Hid (unqF (bs s) k = none) := Lib.hid (by rw [HV.out, HN.out he])
      have e2 : ((E : Int) == (k : Int)) = true := by simp only [beq_iff_eq]; omega
      clear he
      go_enter Tryd.func20, Tryd.ntmps20
      go_wp2_with (go_at_call 31; refine (HC.out _).mono ?_; rintro en w1 ⟨rfl, rfl⟩)
      go_ret3
      exact ⟨by rw [HX.out]; rfl, Below.refl _ _⟩
    · have HX : Hid (unqF (bs s) k = some (bs (s.extract k E), E)) := Lib.hid (by rw [HV.out, HY.out he, bs_extract])
      have e2 : ((E : Int) == (k : Int)) = false := by simp only [beq_eq_false_iff_ne, ne_eq]; omega
      clear he
      go_enter Tryd.func20, Tryd.ntmps20
      go_wp2_with (go_at_call 31; refine (HC.out _).mono ?_; rintro en w1 ⟨rfl, rfl⟩)
      go_ret3
      exact ⟨by rw [HX.out]; rfl, Below.refl _ _⟩
end Sc
end Go.Proofs.YtgfinppppgpleaaDoor

/-
  Walks of layer 1: the reference's Words, and the verifier's Strings on equal lists. Condition: the text has at most 2^20 bytes.
-/
import Derived.Test.YtgfinppppgpleaaDoorScanWordsB
import Derived.Test.YtgfinppppgpleaaDoorScanUnqS
namespace Go.Proofs.YtgfinppppgpleaaDoor
open Go.RowKit
namespace Sc
set_option maxRecDepth 100000 in
set_option maxHeartbeats 2000000 in
theorem WordsR_any (s : ByteArray) (w : World) (hs : s.size ≤ 1048576) : Calls Tryd.prog 25 #[.string s] w (WordsPost w (wordsF (bs s))) := by
  by_cases h0 : s.size = 0
  · have HW : Hid (wordsF (bs s) = some []) := Lib.hid (by unfold wordsF; rw [if_pos (List.eq_nil_of_length_eq_zero h0)])
    rw [HW.out]
    go_enter Tryd.func25, Tryd.ntmps25
    go_wp2_with fail
    refine wp_loop_rounds 1 ?_
    rw [rounds_succ]
    go_wp2_with fail
    go_ret2
    exact ⟨_, rfl, World.ownsRow_nil _ _ _ _, Below.refl _ _⟩
  · have HW : Hid (wordsF (bs s) = wordsRun ((bs s).length + 1) (bs s) 0 []) := Lib.hid (by unfold wordsF; rw [if_neg (fun e => h0 (by have := congrArg List.length e; rw [bs_len] at this; exact this))])
    go_enter Tryd.func25, Tryd.ntmps25
    go_wp2_with fail
    go_loopw [4, 5] (fun v i wr => ∃ (k f : Nat) (acc : List (List UInt8)), k ≤ s.size ∧ (k < s.size ∨ 0 < acc.length) ∧ s.size < k + f ∧ acc.length ≤ k ∧ i = .int .i64 k ∧ Hid (wr.ownsRow w.heap.size 9 1 v acc.length (strsV acc)) ∧
        Hid (wordsRun f (bs s) k acc = wordsRun ((bs s).length + 1) (bs s) 0 []) ∧ Below w.heap.size w wr) (fun _ i _ => s.size + 1 - (intOf i).toNat)
    case atStart => exact ⟨0, (bs s).length + 1, [], Nat.zero_le _, .inl (by omega), by rw [bs_len]; omega, Nat.zero_le _, rfl, Lib.hid (World.ownsRow_nil _ _ _ _), Lib.hid rfl, Below.refl _ _⟩
    case round =>
      obtain ⟨k, f, acc, hk, hgo, hf, hacc, rfl, HO, HR, hnx⟩ := hrel
      obtain ⟨A, cp, rfl⟩ := own_form HO.out
      have hsz := hnx.size
      have HC := Lib.hid (fun w => UnquoteR_any s k w hs)
      cases hu : unqF (bs s) k with
      | none =>
        have HN : Hid (wordsF (bs s) = none) := Lib.hid (by rw [HW.out, ← HR.out]; exact wr_none f _ k acc hu)
        rw [HN.out]
        rw [hu] at HC
        clear hu
        by_cases hk2 : k < s.size
        · clear hgo
          go_wp2_with (go_at_call 21; refine (HC.out _).mono ?_; rintro e w1 ⟨rfl, hb⟩; unfold unqV)
          go_ret2
          exact ⟨rfl, hnx.trans (hb.mono hsz)⟩
        · have hk3 : decide (k < s.size) = false := by simp only [decide_eq_false_iff_not]; omega
          have hk4 : 0 < acc.length := by omega
          clear hgo
          go_wp2_with (go_at_call 21; refine (HC.out _).mono ?_; rintro e w1 ⟨rfl, hb⟩; unfold unqV)
          go_ret2
          exact ⟨rfl, hnx.trans (hb.mono hsz)⟩
      | some p =>
        obtain ⟨t, e⟩ := p
        obtain ⟨hke, hes⟩ := unqF_le _ _ _ _ hu
        rw [bs_len] at hes
        have hk2 : k < s.size := by omega
        obtain ⟨f, rfl⟩ : ∃ f', f = f' + 1 := ⟨f - 1, by omega⟩
        rw [hu] at HC
        clear hgo
        by_cases hend : e = s.size
        · have HS := Lib.hid (wr_end f _ k e t acc hu (by rw [bs_len]; exact hend))
          have HN : Hid (wordsF (bs s) = some (acc ++ [t])) := Lib.hid (by rw [HW.out, ← HR.out]; exact HS.out)
          have e2 : ((e : Int) == (s.size : Int)) = true := by simp only [beq_iff_eq]; omega
          rw [HN.out]
          clear hu hend
          go_wp2_with (first
            | (go_at_call 21; refine (HC.out _).mono ?_; rintro en w2 ⟨rfl, hb⟩; unfold unqV; have HO2 := Lib.hid (own_belowS HO.out hb); have hb2 := hnx.trans (hb.mono hsz); have hsz2 := hb2.size; clear hb)
            | (at_builtin; refine app_newS rfl (.tmp 27) (.tmp 29) rfl w.heap.size acc t _ rfl HO2.out rfl rfl (by omega) hsz2 ?_; intro v3 w3 ho3 hb3 hg3; have HO3 := Lib.hid ho3; clear ho3 hg3))
          go_ret2
          exact ⟨v3, rfl, HO3.out, hb2.trans hb3⟩
        · have e2 : ((e : Int) == (s.size : Int)) = false := by simp only [beq_eq_false_iff_ne, ne_eq]; omega
          have hlt : e < s.size := by omega
          have hge : (bs s)[e]? = some s[e] := bs_get? s e hlt
          by_cases h32 : s[e] = 32
          · have e3 : ((s[e].toNat : Int) != 32) = false := by rw [h32]; rfl
            have HS := Lib.hid (wr_step f _ k e t acc hu (by rw [bs_len]; exact hend) (by rw [hge, h32]))
            clear hu hend hge h32
            go_wp2_with (first
              | (go_at_call 21; refine (HC.out _).mono ?_; rintro en w2 ⟨rfl, hb⟩; unfold unqV; have HO2 := Lib.hid (own_belowS HO.out hb); have hb2 := hnx.trans (hb.mono hsz); have hsz2 := hb2.size; clear hb)
              | (at_builtin; refine app_newS rfl (.tmp 27) (.tmp 29) rfl w.heap.size acc t _ rfl HO2.out rfl rfl (by omega) hsz2 ?_; intro v3 w3 ho3 hb3 hg3; have HO3 := Lib.hid ho3; clear ho3 hg3))
            go_roundw
            case rel => exact ⟨e + 1, f, acc ++ [t], by omega, .inr (by simp), by omega, by simp; omega, by go_num, HO3, Lib.hid (HS.out.symm.trans HR.out), hb2.trans hb3⟩
            case measure => simp [intOf]; omega
          · have e3 : ((s[e].toNat : Int) != 32) = true := by
              have h2 : ((s[e].toNat : Int) == 32) = false := bne_of _ 32 h32
              rw [bne, h2]; rfl
            have HS := Lib.hid (wr_bad f _ k e t acc hu (by rw [bs_len]; exact hend) (by rw [hge]; intro h; exact h32 (Option.some.inj h)))
            have HN : Hid (wordsF (bs s) = none) := Lib.hid (by rw [HW.out, ← HR.out]; exact HS.out)
            rw [HN.out]
            clear hu hend hge h32
            go_wp2_with (first
              | (go_at_call 21; refine (HC.out _).mono ?_; rintro en w2 ⟨rfl, hb⟩; unfold unqV; have HO2 := Lib.hid (own_belowS HO.out hb); have hb2 := hnx.trans (hb.mono hsz); have hsz2 := hb2.size; clear hb)
              | (at_builtin; refine app_newS rfl (.tmp 27) (.tmp 29) rfl w.heap.size acc t _ rfl HO2.out rfl rfl (by omega) hsz2 ?_; intro v3 w3 ho3 hb3 hg3; have HO3 := Lib.hid ho3; clear ho3 hg3))
            go_ret2
            exact ⟨rfl, hb2.trans hb3⟩
/-- A slice of strings that reads as a list. -/
def RdS (w : World) (v : Value) (xs : List ByteArray) : Prop :=
  ∃ A c, v = .slice A xs.length c ∧ (0 < xs.length → ∃ b off, A = some ⟨b, off, none⟩ ∧ ∀ j (h : j < xs.length), w.cell? ⟨b, off + j, none⟩ = some (.string xs[j]))
theorem RdS.same {w w' : World} {v : Value} {xs : List ByteArray} (h : RdS w v xs) (hk : ∀ b off, (∃ u, w.cell? ⟨b, off, none⟩ = some u) → b < w.heap.size → w'.cell? ⟨b, off, none⟩ = w.cell? ⟨b, off, none⟩) : RdS w' v xs := by
  obtain ⟨A, c, rfl, hc⟩ := h
  refine ⟨A, c, rfl, fun hp => ?_⟩
  obtain ⟨b, off, rfl, hcell⟩ := hc hp
  refine ⟨b, off, rfl, fun j hj => ?_⟩
  have h1 := hcell j hj
  have hlt : b < w.heap.size := by
    rcases Nat.lt_or_ge b w.heap.size with h2 | h2
    · exact h2
    · unfold World.cell? at h1
      rw [Array.getElem?_eq_none (by simpa using h2)] at h1
      cases h1
  rw [hk b (off + j) ⟨_, h1⟩ hlt, h1]
theorem RdS.below {w w' : World} {v : Value} {xs : List ByteArray} (h : RdS w v xs) (hb : Below w.heap.size w w') : RdS w' v xs :=
  h.same fun b off _ hlt => hb.cell (p := ⟨b, off, none⟩) hlt
theorem RdS.of_own {w : World} {base : Nat} {v : Value} {ws : List (List UInt8)} (h : w.ownsRow base 9 1 v ws.length (strsV ws)) : RdS w v (ws.map fun l => ⟨l.toArray⟩) := by
  rcases h.2 with ⟨rfl, h0⟩ | ⟨g, cap, cur, rfl, _⟩
  · exact ⟨none, 0, by rw [List.length_map, h0], fun hp => by rw [List.length_map] at hp; omega⟩
  · refine ⟨_, cap, by rw [List.length_map], fun _ => ⟨g, 0, rfl, fun j hj => ?_⟩⟩
    rw [List.length_map] at hj
    have hc := h.cellAt j (by omega)
    rw [Nat.zero_add, hc]
    simp [strsV, List.getElem?_eq_getElem hj]
set_option maxRecDepth 100000 in
set_option maxHeartbeats 800000 in
theorem Strings_same (a b : Value) (xs : List ByteArray) (w : World) (hl : xs.length ≤ 4611686018427387904) (ha : RdS w a xs) (hb : RdS w b xs) :
    Calls Tryd.prog 26 #[a, b] w fun e w' => e = .returned (.bool true) ∧ Below w.heap.size w w' := by
  obtain ⟨A, c, rfl, hA⟩ := ha
  obtain ⟨B, d, rfl, hB⟩ := hb
  by_cases h0 : xs.length = 0
  · have e1 : ((xs.length : Int) != (xs.length : Int)) = false := by simp
    clear hA hB
    go_enter Tryd.func26, Tryd.ntmps26
    go_wp2_with fail
    refine wp_loop_rounds 1 ?_
    rw [rounds_succ]
    go_wp2_with fail
    go_ret
    exact ⟨rfl, Below.refl _ _⟩
  · obtain ⟨b1, o1, rfl, hA2⟩ := hA (by omega)
    obtain ⟨b2, o2, rfl, hB2⟩ := hB (by omega)
    have HA := Lib.hid hA2
    have HB := Lib.hid hB2
    clear hA hB hA2 hB2 h0
    generalize hn : xs.length = n at hl
    have HN := Lib.hid hn
    clear hn
    go_enter Tryd.func26, Tryd.ntmps26
    go_wp2_with fail
    go_loopw [5] (fun i wr => ∃ j : Nat, j ≤ n ∧ i = .int .i64 j ∧ ∃ m, wr = w.drewN m) (fun i _ => n - (intOf i).toNat)
    case atStart => exact ⟨0, Nat.zero_le _, rfl, 0, rfl⟩
    case round =>
      obtain ⟨j, hj, rfl, m, rfl⟩ := hrel
      by_cases hlt : j < n
      · have hx : j < xs.length := by rw [HN.out]; exact hlt
        have c1 : w.cell? ⟨b1, o1 + j, none⟩ = some (.string xs[j]) := HA.out j hx
        have c2 : w.cell? ⟨b2, o2 + j, none⟩ = some (.string xs[j]) := HB.out j hx
        generalize xs[j] = x at c1 c2
        have i1 : (0 : Int) ≤ (j : Int) := by omega
        have i2 : (j : Int) < (n : Int) := by omega
        go_wp2_with fail
        go_quiet (fail)
        go_wp2_with fail
        go_roundw
        case rel => exact ⟨j + 1, by omega, by go_num, _, rfl⟩
        case measure => simp [intOf]; omega
      · have hd : decide (j < n) = false := by simp only [decide_eq_false_iff_not]; omega
        go_wp2_with fail
        go_ret
        exact ⟨rfl, below_drewN (Below.refl _ _) _⟩
end Sc
end Go.Proofs.YtgfinppppgpleaaDoor

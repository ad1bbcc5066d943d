/-
  Proved: the law ScanWords of layer 1 returns true for every text and every list of texts, and its arguments read as before. Conditions: the package variables hold what the program's text lays (the card ties that).
-/
import Derived.Test.YtgfinppppgpleaaDoorScanWordsR
import Derived.Test.YtgfinppppgpleaaDoorScanFrame
import Derived.Test.YtgfinppppgpleaaDoorScanAwake
import Derived.Test.YtgfinppppgpleaaDoorCards
import Derived.Test.YtgfinppppgpleaaDoorTie
import Derived.SevenTiedAt
namespace Go.Proofs.YtgfinppppgpleaaDoor
open Go.ChangeShapes Go.WideShapes Go.ChangeAt Go.RowKit
open Go.ChangeMaps (open_string shut_string)
namespace Sc.Words
theorem mk_bs (s : ByteArray) : (ByteArray.mk (bs s).toArray) = s := by cases s; simp [bs]
def mks (l : List (List UInt8)) : List ByteArray := l.map fun l => ⟨l.toArray⟩
theorem mks_bs (xs : List ByteArray) : mks (xs.map bs) = xs := by
  unfold mks; rw [List.map_map]
  conv => rhs; rw [← List.map_id xs]
  exact List.map_congr_left fun x _ => mk_bs x
/-- What Words leaves, in one form. -/
def WP (w : World) (z : Bool) (ys : List ByteArray) (e : Ending) (w' : World) : Prop := ∃ v, e = .returned (.tuple #[v, .bool z]) ∧ RdS w' v ys ∧ Below w.heap.size w w'
theorem wp_of (w : World) (r : Option (List (List UInt8))) (e : Ending) (w' : World) (h : WordsPost w r e w') : WP w r.isSome (mks (r.getD [])) e w' := by
  cases r with
  | none => exact ⟨_, h.1, ⟨none, 0, rfl, fun hp => absurd hp (by decide)⟩, h.2⟩
  | some ws =>
    obtain ⟨v, h1, h2, h3⟩ := h
    exact ⟨v, h1, RdS.of_own h2, h3⟩
theorem quoteF_len (l : List UInt8) : (quoteF l).length ≤ 4 * l.length + 2 := by
  have := flat_len l
  unfold quoteF; split
  · omega
  · simp only [List.length_cons, List.length_append, List.length_nil]; omega
/-- The joined words as far as word j. -/
def jn (xs : List ByteArray) (j : Nat) : List UInt8 := J ((xs.take j).map bs)
theorem jn_one (xs : List ByteArray) (h : 0 < xs.length) : jn xs (0 + 1) = quoteF (bs xs[0]) := by
  unfold jn
  rw [List.take_succ_eq_append_getElem h]
  simp [J_one]
theorem jn_step (xs : List ByteArray) (j : Nat) (h : j < xs.length) (hj : 0 < j) : jn xs (j + 1) = jn xs j ++ 32 :: quoteF (bs xs[j]) := by
  unfold jn
  rw [List.take_succ_eq_append_getElem h, List.map_append]
  refine J_snoc _ _ ?_
  intro e
  have := congrArg List.length e
  simp at this
  rcases this with h1 | h1
  · omega
  · rw [h1] at h; exact absurd h (by simp)
theorem wr_len : ∀ (f : Nat) (l : List UInt8) (k : Nat) (acc ws : List (List UInt8)), wordsRun f l k acc = some ws → ws.length ≤ acc.length + f := by
  intro f
  induction f with
  | zero => intro l k acc ws h; cases h
  | succ f ih =>
    intro l k acc ws h
    rw [wordsRun] at h
    split at h
    · cases h
    · split at h
      · simp only [Option.some.injEq] at h; subst h; rw [List.length_append, List.length_singleton]; omega
      · split at h
        · have := ih _ _ _ _ h
          rw [List.length_append, List.length_singleton] at this; omega
        · cases h
theorem words_len (l : List UInt8) (ws : List (List UInt8)) (h : wordsF l = some ws) : ws.length ≤ l.length + 1 := by
  unfold wordsF at h
  split at h
  · simp only [Option.some.injEq] at h; subst h; simp
  · have := wr_len _ _ _ _ _ h; simp at this; omega
set_option maxRecDepth 100000 in
set_option maxHeartbeats 2000000 in
theorem walk (s : ByteArray) (A : Option Addr) (n c : Nat) (xs : List ByteArray) (w : World) (hs : s.size ≤ maxLen) (hn : n ≤ maxLen) (hx : RdS w (.slice A n c) xs) (hp : Pow w) :
    Calls Tryd.prog 9 #[.string s, .slice A n c] w fun e w' => e = .returned (.bool true) ∧ Below w.heap.size w w' := by
  unfold maxLen at hs hn
  have HP := Lib.hid hp
  have HA := Lib.hid (fun w (h : Pow w) => awake_any w h)
  clear hp
  by_cases hs6 : (60 : Int) < (s.size : Int)
  · go_enter Tryd.func9, Tryd.ntmps9
    go_wp2_with (go_at_call 10; refine (HA.out _ HP.out).mono ?_; rintro e w1 ⟨rfl, hb⟩)
    go_ret
    exact ⟨rfl, by assumption⟩
  by_cases hn5 : (5 : Int) < (n : Int)
  · go_enter Tryd.func9, Tryd.ntmps9
    go_wp2_with (go_at_call 10; refine (HA.out _ HP.out).mono ?_; rintro e w1 ⟨rfl, hb⟩)
    go_ret
    exact ⟨rfl, by assumption⟩
  have hs' : s.size ≤ 60 := by omega
  have hn' : n ≤ 5 := by omega
  have hnx0 : xs.length = n := by obtain ⟨A', c', e, _⟩ := hx; injection e with _ e2 _; exact e2.symm
  have HNX := Lib.hid hnx0
  have HX := Lib.hid hx
  have HC : Hid (∀ j (h : j < n), ∃ b off x, A = some ⟨b, off, none⟩ ∧ xs[j]? = some x ∧ w.cell? ⟨b, off + j, none⟩ = some (.string x) ∧ b < w.heap.size) := Lib.hid (fun j h => by
    obtain ⟨A', c', e, hc⟩ := hx
    injection e with e1 e2 _
    subst e1
    obtain ⟨b, off, rfl, hcell⟩ := hc (by omega)
    have hj : j < xs.length := by omega
    refine ⟨b, off, xs[j], rfl, List.getElem?_eq_getElem hj, hcell j hj, ?_⟩
    have h1 := hcell j hj
    rcases Nat.lt_or_ge b w.heap.size with h2 | h2
    · exact h2
    · unfold World.cell? at h1
      rw [Array.getElem?_eq_none (by simpa using h2)] at h1
      cases h1)
  obtain ⟨ys, hys⟩ : ∃ ys, ys = mks ((wordsF (bs s)).getD []) := ⟨_, rfl⟩
  obtain ⟨z, hz⟩ : ∃ z, z = (wordsF (bs s)).isSome := ⟨_, rfl⟩
  have W1 : Hid (∀ w, Calls Tryd.prog 24 #[.string s] w (WP w z ys)) := Lib.hid (fun w => by
    rw [hys, hz]; exact (Words_any s w (by omega)).mono fun e w' h => wp_of _ _ _ _ h)
  have W2 : Hid (∀ w, Calls Tryd.prog 25 #[.string s] w (WP w z ys)) := Lib.hid (fun w => by
    rw [hys, hz]; exact (WordsR_any s w (by omega)).mono fun e w' h => wp_of _ _ _ _ h)
  have hyl : ys.length ≤ 61 := by
    rw [hys]
    cases hw : wordsF (bs s) with
    | none => exact Nat.zero_le _
    | some ws =>
      show (mks ws).length ≤ 61
      unfold mks; rw [List.length_map]
      have := words_len _ _ hw
      rw [bs_len] at this; omega
  clear hys hz hx hnx0
  go_enter Tryd.func9, Tryd.ntmps9
  go_wp2_with fail
  go_loopw [5, 6] (fun t i wr => ∃ (j : Nat) (o : ByteArray), j ≤ n ∧ i = .int .i64 j ∧ t = .string o ∧ o.size ≤ 130 * j ∧ Hid (bs o = jn xs j) ∧ Below w.heap.size w wr) (fun _ i _ => n - (intOf i).toNat)
  case atStart => exact ⟨0, ⟨#[]⟩, Nat.zero_le _, rfl, rfl, Nat.zero_le _, Lib.hid rfl, Below.refl _ _⟩
  case round =>
    obtain ⟨j, o, hj, rfl, rfl, ho, HO, hnx⟩ := hrel
    by_cases hlt : j < n
    · obtain ⟨b, off, x, rfl, hxj, hc, hbl⟩ := HC.out j hlt
      have hcr : wr.cell? ⟨b, off + j, none⟩ = some (.string x) := (hnx.cell (p := ⟨b, off + j, none⟩) hbl).trans hc
      clear hc
      by_cases h30 : (30 : Int) < (x.size : Int)
      · have HP2 := Lib.hid (HP.out.stays hnx)
        clear hxj
        go_wp2_with (go_at_call 10; refine (HA.out _ HP2.out).mono ?_; rintro e w1 ⟨rfl, hb1⟩)
        go_ret
        exact ⟨rfl, hnx.trans (hb1.mono hnx.size)⟩
      · obtain ⟨q, hq⟩ : ∃ q : ByteArray, q = ⟨(quoteF (bs x)).toArray⟩ := ⟨_, rfl⟩
        have hqs : q.size ≤ 122 := by rw [hq, size_mk]; have := quoteF_len (bs x); rw [bs_len] at this; omega
        have HQ : Hid (∀ w, Calls Tryd.prog 23 #[.string x] w fun e w' => e = .returned (.string q) ∧ Below w.heap.size w w') := Lib.hid (by rw [hq]; exact fun w => QuoteR_any x w (by omega))
        have hjx : j < xs.length := by rw [HNX.out]; exact hlt
        have hxe : xs[j] = x := by rw [List.getElem?_eq_getElem hjx] at hxj; exact Option.some.inj hxj
        by_cases hj0 : 0 < j
        · have HS : Hid (bs (o ++ ⟨#[32]⟩ ++ q) = jn xs (j + 1)) := Lib.hid (by rw [bs_append', bs_append', HO.out, jn_step xs j hjx hj0, hxe, hq, List.append_assoc]; rfl)
          have hsz : (o ++ ⟨#[32]⟩ ++ q).size ≤ 130 * (j + 1) := by
            have : (ByteArray.mk #[32]).size = 1 := rfl
            simp only [ByteArray.size_append, this]; omega
          have HSZ := Lib.hid hsz
          clear hq hxj hxe hsz
          go_wp2_with (go_at_call 23; refine (HQ.out _).mono ?_; rintro e w1 ⟨rfl, hb1⟩)
          go_roundw
          case rel => exact ⟨j + 1, _, by omega, by go_num, rfl, HSZ.out, HS, hnx.trans (hb1.mono hnx.size)⟩
          case measure => simp [intOf]; omega
        · have hjz : j = 0 := by omega
          have HS : Hid (bs (o ++ q) = jn xs (j + 1)) := Lib.hid (by
            subst hjz
            rw [bs_append', HO.out, jn_one xs hjx, hxe, hq]; rfl)
          have hsz : (o ++ q).size ≤ 130 * (j + 1) := by simp only [ByteArray.size_append]; omega
          have HSZ := Lib.hid hsz
          clear hq hxj hxe hsz hjz
          go_wp2_with (go_at_call 23; refine (HQ.out _).mono ?_; rintro e w1 ⟨rfl, hb1⟩)
          go_roundw
          case rel => exact ⟨j + 1, _, by omega, by go_num, rfl, HSZ.out, HS, hnx.trans (hb1.mono hnx.size)⟩
          case measure => simp [intOf]; omega
    · have hd : decide (j < n) = false := by simp only [decide_eq_false_iff_not]; omega
      have W3 : Hid (∀ w, Calls Tryd.prog 24 #[.string o] w (WP w true xs)) := Lib.hid (fun w => by
        have hr : wordsF (bs o) = some (xs.map bs) := by
          rw [HO.out]; unfold jn
          rw [List.take_of_length_le (by rw [HNX.out]; omega)]
          exact words_reads _
        have h := (Words_any o w (by omega)).mono fun e w' h => wp_of _ _ _ _ h
        rw [hr] at h
        have e2 : mks ((some (xs.map bs)).getD []) = xs := mks_bs xs
        rw [e2] at h
        exact h)
      go_wp2_with fail
      refine (W1.out _).mono ?_
      rintro e w1 ⟨v1, rfl, r1, hb1⟩
      have b1 := hnx.trans (hb1.mono hnx.size)
      have R1 := Lib.hid r1
      clear r1 hb1
      go_wp2_with fail
      refine (W2.out _).mono ?_
      rintro e w2 ⟨v2, rfl, r2, hb2⟩
      have R1b := Lib.hid (R1.out.below hb2)
      have b2 := b1.trans (hb2.mono b1.size)
      have R2 := Lib.hid r2
      clear r2 hb2 R1 b1
      go_wp2_with fail
      refine (W3.out _).mono ?_
      rintro e w3 ⟨v3, rfl, r3, hb3⟩
      have R1c := Lib.hid (R1b.out.below hb3)
      have R2c := Lib.hid (R2.out.below hb3)
      have b3 := b2.trans (hb3.mono b2.size)
      have R3 := Lib.hid r3
      clear r3 hb3 R1b R2 b2
      go_wp2_with fail
      refine (Strings_same v1 v2 ys _ (by omega) R1c.out R2c.out).mono ?_
      rintro e w4 ⟨rfl, hb4⟩
      have R3b := Lib.hid (R3.out.below hb4)
      have b4 := b3.trans (hb4.mono b3.size)
      have RL := Lib.hid (HX.out.below b4)
      clear hb4 b3 R3 R1c R2c
      go_wp2_with fail
      refine (Strings_same v3 (.slice A n c) xs _ (by rw [HNX.out]; omega) R3b.out RL.out).mono ?_
      rintro e w5 ⟨rfl, hb5⟩
      have b5 := b4.trans (hb5.mono b4.size)
      have HP5 := Lib.hid (HP.out.stays b5)
      clear hb5 b4 R3b RL
      go_wp2_with (go_at_call 10; refine (HA.out _ HP5.out).mono ?_; rintro e w6 ⟨rfl, hb6⟩)
      go_ret
      exact ⟨rfl, b5.trans (hb6.mono b5.size)⟩
theorem laidOut : laidOutB Tryd.prog = true := by kernel_rfl
set_option maxRecDepth 100000 in
theorem lifted (os : Os) (started : os.Started) (H : Type) (enc : TypeId × Value → H) :
    ReturnsInHanded {} Tryd.checked os 9 .any (fun w args => (Rows.scanWordsSpec.pre enc Tryd.prog Tryd.f9 [] false w args ∧ laidMetH Tryd.prog laid3 w) ∧ sizedMet enc Tryd.prog Tryd.f9 (OpenSpec.ofChange Rows.scanWordsSpec) false w args)
      (Rows.scanWordsSpec.post enc Tryd.prog Tryd.f9 false true false false) := by
  refine returnsInHanded_of_change_and (C := Tryd.checked) (X := fun w _ => laidMetH Tryd.prog laid3 w) (fun _ _ _ hh h => h.of_heap hh) own started (by kernel_rfl) Tryd.func9
    (ChangeSpec.witness_shaped (enc := enc) (C := Tryd.checked) (os := os) (X := fun w _ => laidMetH Tryd.prog laid3 w) false (World.doorLaid Tryd.prog 600 os) #[.string ⟨#[]⟩, .slice none 0 0] 8 rfl (World.shaped_of_RefB (by kernel_rfl) (by kernel_rfl)) (by kernel_rfl) (by kernel_rfl) (by kernel_rfl) (door_met os _)) ?_
  intro W base args ds gs before hval0 hW _ _ hL _
  have hval : ∀ (j : Nat) t v, Tryd.f9.params[j]? = some t → args[j]? = some v → Value.okWide Tryd.prog W .any base t v := hval0
  have hW' := hW
  obtain ⟨p, q, hA0, hV, rfl, hfz, hnd⟩ := hW
  have hA : DataW.TrodAll enc Tryd.prog W 0 (fun _ => true) true Tryd.f9.params.toList args.toList ds p := hA0
  rw [Tryd.params9] at hA hval
  obtain ⟨v0, v1, d0, d1, p0, p1, rfl, rfl, rfl, h0, h1⟩ := trodAll_two hA
  obtain ⟨rfl, rfl⟩ := trodVars_none hV
  obtain ⟨s, rfl, rfl, rfl, hs⟩ := open_string Tryd.underlying9 (hval 0 9 v0 rfl rfl) h0
  obtain ⟨A, n, c, rfl⟩ := okWide_slice Tryd.underlying39 (hval 1 39 v1 rfl rfl)
  have k1 := h1
  have lt1 : ∀ x ∈ p1, x.block < W.heap.size := by obtain ⟨m, hm⟩ := k1; exact DataW.trod_lt m _ _ _ hm
  obtain ⟨xs, hx, hn⟩ : ∃ xs, RdS W (.slice A n c) xs ∧ n ≤ maxLen := by
    obtain ⟨fuel, hf⟩ := h1
    rcases open_strings Tryd.underlying39 Tryd.underlying9 (by kernel_rfl) hf with ⟨hcs, _⟩ | ⟨a, l, c', ss, hcs, _, hl, hm, hlen, _, hcell, _⟩
    · simp [Value.cells] at hcs
      obtain ⟨rfl, rfl, rfl⟩ := hcs
      exact ⟨[], ⟨none, 0, rfl, fun hp => absurd hp (by decide)⟩, Nat.zero_le _⟩
    · simp [Value.cells] at hcs
      obtain ⟨rfl, rfl, rfl⟩ := hcs
      have hsl : n ≤ ss.length := by rw [hlen]; simp; omega
      refine ⟨ss.take n, ⟨_, c, by rw [List.length_take, Nat.min_eq_left hsl], fun hp => ?_⟩, by omega⟩
      rw [List.length_take, Nat.min_eq_left hsl] at hp
      obtain ⟨b, off, spot⟩ := a
      have hc0 := hcell 0 (by omega)
      have hspot : spot = none := by simpa [Addr.add] using World.cell?_spot hc0
      subst hspot
      refine ⟨b, off, rfl, fun j hj => ?_⟩
      rw [List.length_take, Nat.min_eq_left hsl] at hj
      have hc := hcell j (by omega)
      have he : (Addr.mk b off none).add j = ⟨b, off + j, none⟩ := by
        unfold Addr.add; split
        · rename_i h0; rw [h0]; rfl
        · rfl
      rw [he] at hc
      rw [hc, List.getElem_take]
      simp [List.getD, List.getElem?_eq_getElem (show j < ss.length by omega)]
  have hp := pow_of_laid hL
  clear hA0 hval0
  simp only [List.append_nil] at hW'
  refine (walk s A n c xs W hs hn hx hp).mono fun e W' ⟨he, hbel⟩ => ?_
  subst he
  exact ⟨_, rfl, _, _, _, [], _, [], hW', trodAll_mk1 (shut_bool Tryd.underlying4 _), trodAll_mk2 (shut_string Tryd.underlying9 hs) (Below.trod laidOut (by kernel_rfl) (of_decide_eq_true (by kernel_rfl)) k1 hbel lt1), rfl, hbel.frame _, fun h => by cases h⟩
theorem row_holds : Rows.ScanWordsSaid :=
  OpenClaim.holds_of_wide 9 Tryd.f9 rfl rfl rfl rfl rfl rfl rfl ⟨rfl, rfl, rfl, rfl, rfl⟩ rfl rfl rfl rfl rfl (by kernel_rfl) Tryd.func9 (by kernel_rfl)
    (of_decide_eq_true (by kernel_rfl)) (by unfold Func.isWrapper; first | (rw [if_pos (by decide +kernel)]; kernel_rfl) | (rw [if_neg (by decide +kernel)]; exact ⟨rfl, rfl⟩))
    (fun os started H enc _ => lifted os started H enc)
theorem card_holds : Rows.ScanWordsCardSaid :=
  Claim7.holds_tied_plain_at .later [] Rows.scanWordsCard.laidKinds true Rows.scanWordsCard.stood.harness false
    row_holds (fun _ h => by cases h) (by kernel_rfl) (fun _ h => by cases h) scanWords_row_tie rfl ⟨rfl, rfl⟩ (by kernel_rfl) rfl
    (fun f fn hf hfn => by
      obtain rfl : f = 9 := Option.some.inj ((show Tryd.prog.funcNamed Rows.scanWordsRow.func = some 9 by kernel_rfl).symm.trans hf) |>.symm
      obtain rfl : fn = Tryd.f9 := (Option.some.inj (Tryd.func9.symm.trans hfn)).symm
      exact ⟨by kernel_rfl, fun j t ht => by
        have hm : t ∈ Tryd.f9.params.toList := by simpa using Array.mem_of_getElem? ht
        have hall : (Tryd.f9.params.toList.all fun u => !Tryd.prog.wantsStandIn u) = true := by kernel_rfl
        show Tryd.prog.wantsStandIn t = false
        simpa using List.all_eq_true.1 hall t hm⟩)
    (by kernel_rfl)
end Sc.Words
end Go.Proofs.YtgfinppppgpleaaDoor

/-
  The program's parser: bound and bounds of a quantifier in braces: they are boundsF's. Conditions: short patterns. The program's parser: sets, single bytes, anchors, quantifiers. Conditions: short patterns, at most a million nodes. The program's parser: quantifiers. Conditions: short patterns, at most a million nodes. Patterns, as plain mathematics: the program reads an anchor without a look at what follows, and stops at every closing parenthesis: the answer is parseF's all the same. No conditions.
-/
import Derived.Test.YtgadomcbaenodaaRegexSet
import Derived.Test.YtgadomcbaenodaaRegexAdv
import Derived.Test.YtgadomcbaenodaaScanNum
namespace Go.Proofs.Ytgadomcbaenodaa
section
open Go.RowKit
namespace Rx
open Cm
/-- The parser as it stands, and what has been touched since w. -/
def St (w : World) (base rb : Nat) (s : ByteArray) (a : Nat) (D : Int) (ns : List Nd) (ks : List Value) (w' : World) : Prop := Prs w' base rb s (a : Int) D ns ks ∧ Below base w w' ∧ KeptP w w'
section
variable {w w0 : World} {base rb : Nat} {s : ByteArray} {a : Nat} {D : Int} {ns : List Nd} {ks : List Value}
theorem St.start (h : Prs w base rb s (a : Int) D ns ks) : St w base rb s a D ns ks w := ⟨h, Below.refl _ _, KeptX.refl _⟩
theorem St.drewN (h : St w0 base rb s a D ns ks w) (m : Nat) : St w0 base rb s a D ns ks (w.drewN m) := ⟨h.1.drewN m, below_drewN h.2.1 m, h.2.2.trans (KeptX.drewN _ _)⟩
theorem St.setAt (h : St w0 base rb s a D ns ks w) (b : Nat) : St w0 base rb s b D ns ks (w.setCell ⟨rb, 1, none⟩ (.int .i64 (b : Int))) := by
  obtain ⟨r1, r2, r3⟩ := h.1.setAt (b : Int)
  exact ⟨r1, h.2.1.trans r2, h.2.2.trans r3⟩
theorem St.setDepth (h : St w0 base rb s a D ns ks w) (E : Int) : St w0 base rb s a E ns ks (w.setCell ⟨rb, 2, none⟩ (.int .i64 E)) := by
  obtain ⟨r1, r2, r3⟩ := h.1.setDepth E
  exact ⟨r1, h.2.1.trans r2, h.2.2.trans r3⟩
theorem St.below {w1 : World} (h : St w0 base rb s a D ns ks w) (hb : Below w.heap.size w w1) : St w0 base rb s a D ns ks w1 := Prs.below h hb
theorem St.cells (h : St w0 base rb s a D ns ks w) : w.cell? ⟨rb, 0, none⟩ = some (.string s) ∧ w.cell? ⟨rb, 1, none⟩ = some (.int .i64 (a : Int)) ∧ w.cell? ⟨rb, 2, none⟩ = some (.int .i64 D) ∧ ∀ j, w.frozen? ⟨rb, j, none⟩ = false := by
  obtain ⟨⟨v, hb, hh, _⟩, _⟩ := h
  obtain ⟨c0, c1, c2, c3, hf⟩ := prs_cells hh
  exact ⟨c0, c1, c2, hf⟩
theorem take_T (h : St w0 base rb s a D ns ks w) (hs : s.size ≤ 1000000) {c : UInt8} (hx : (Tx.bs s)[a]? = some c) (n : Nat) (hc : c.toNat = n) :
    Calls Try.prog 31 #[.pointer (some ⟨rb, 0, none⟩), .int .u8 (n : Int)] w fun e w' => e = .returned (.bool true) ∧ St w0 base rb s (a + 1) D ns ks w' := by
  have hl := get_lt hx
  rw [Tx.bs_len] at hl
  refine (take_any h.1 (by omega) hs c n hc).mono fun e w' hp => ?_
  unfold TakeP at hp
  rw [if_pos hx] at hp
  exact ⟨hp.1, hp.2.1, h.2.1.trans hp.2.2.1, h.2.2.trans hp.2.2.2⟩
theorem take_F (h : St w0 base rb s a D ns ks w) (hs : s.size ≤ 1000000) (ha : a ≤ s.size) {c : UInt8} (hx : ¬ (Tx.bs s)[a]? = some c) (n : Nat) (hc : c.toNat = n) :
    Calls Try.prog 31 #[.pointer (some ⟨rb, 0, none⟩), .int .u8 (n : Int)] w fun e w' => e = .returned (.bool false) ∧ St w0 base rb s a D ns ks w' := by
  refine (take_any h.1 ha hs c n hc).mono fun e w' hp => ?_
  unfold TakeP at hp
  rw [if_neg hx] at hp
  obtain ⟨e1, m, rfl⟩ := hp
  exact ⟨e1, h.drewN m⟩
theorem next_T (h : St w0 base rb s a D ns ks w) (hs : s.size ≤ 1000000) {c : UInt8} (hx : (Tx.bs s)[a]? = some c) :
    Calls Try.prog 84 #[.pointer (some ⟨rb, 0, none⟩)] w fun e w' => e = .returned (.int .u8 (c.toNat : Int)) ∧ St w0 base rb s (a + 1) D ns ks w' := by
  have hl := get_lt hx
  rw [Tx.bs_len] at hl
  refine (next_any h.1 (by omega) hs).mono fun e w' hp => ?_
  unfold NextP at hp
  rw [hx] at hp
  exact ⟨hp.1, hp.2.1, h.2.1.trans hp.2.2.1, h.2.2.trans hp.2.2.2⟩
theorem next_F (h : St w0 base rb s a D ns ks w) (hs : s.size ≤ 1000000) (ha : a ≤ s.size) (hx : (Tx.bs s)[a]? = none) :
    Calls Try.prog 84 #[.pointer (some ⟨rb, 0, none⟩)] w fun e w' => e = pan 40 ∧ Below base w0 w' := by
  refine (next_any h.1 ha hs).mono fun e w' hp => ?_
  unfold NextP at hp
  rw [hx] at hp
  exact ⟨hp.1, h.2.1.trans hp.2⟩
set_option maxRecDepth 100000 in
theorem bound_T (h : St w0 base rb s a D ns ks w) (hs : s.size ≤ 1000000) {n e : Nat} (hn : Sc.numF (Tx.bs s) (a : Int) = some (n, e)) (h100 : n ≤ 100) :
    Calls Try.prog 85 #[.pointer (some ⟨rb, 0, none⟩)] w fun en w' => en = .returned (.int .i64 (n : Int)) ∧ St w0 base rb s e D ns ks w' := by
  have HN : Hid (∀ q, Calls Try.prog 88 #[.string s, .int .i64 (a : Int)] q fun en w' => en = .returned (.tuple #[.int .i64 (n : Int), .int .i64 (e : Int), .bool true]) ∧ q = w') := Lib.hid (fun q => by
    have := Sc.Number_any s (a : Int) q (by omega)
    rw [show Sc.bs s = Tx.bs s from rfl, hn] at this
    exact this)
  have HE := Lib.hid (fun q => ((h.drewN q).setAt e))
  obtain ⟨c0, c1, c2, hf⟩ := h.cells
  have f1 := hf 1
  have i1 : ¬ (100 : Int) < (n : Int) := by omega
  clear hf hn
  go_enter Try.func85, Try.ntmps85
  go_wp2_with fail
  go_quiet ((go_at_call 88; exact Calls.quiet_of_same ((HN.out _).mono fun _ _ h => ⟨h.1, h.2.symm⟩)))
  go_wp2_with fail
  go_ret
  exact ⟨rfl, HE.out _⟩
set_option maxRecDepth 100000 in
theorem bound_F (h : St w0 base rb s a D ns ks w) (hs : s.size ≤ 1000000) (hn : ∀ n e, Sc.numF (Tx.bs s) (a : Int) = some (n, e) → 100 < n) :
    Calls Try.prog 85 #[.pointer (some ⟨rb, 0, none⟩)] w fun en w' => en = pan 40 ∧ Below base w0 w' := by
  obtain ⟨c0, c1, c2, hf⟩ := h.cells
  have HB := Lib.hid (fun q => (h.drewN q).2.1)
  cases hv : Sc.numF (Tx.bs s) (a : Int) with
  | none =>
    have HN : Hid (∀ q, Calls Try.prog 88 #[.string s, .int .i64 (a : Int)] q fun en w' => en = .returned (.tuple #[.int .i64 0, .int .i64 0, .bool false]) ∧ q = w') := Lib.hid (fun q => by
      have := Sc.Number_any s (a : Int) q (by omega)
      rw [show Sc.bs s = Tx.bs s from rfl, hv] at this
      exact this)
    clear hf hn hv
    go_enter Try.func85, Try.ntmps85
    go_wp2_with fail
    go_quiet ((go_at_call 88; exact Calls.quiet_of_same ((HN.out _).mono fun _ _ h => ⟨h.1, h.2.symm⟩)))
    go_wp2_with fail
    exact ⟨rfl, rfl, HB.out _⟩
  | some p =>
    obtain ⟨n, e⟩ := p
    have h100 := hn n e hv
    have HN : Hid (∀ q, Calls Try.prog 88 #[.string s, .int .i64 (a : Int)] q fun en w' => en = .returned (.tuple #[.int .i64 (n : Int), .int .i64 (e : Int), .bool true]) ∧ q = w') := Lib.hid (fun q => by
      have := Sc.Number_any s (a : Int) q (by omega)
      rw [show Sc.bs s = Tx.bs s from rfl, hv] at this
      exact this)
    have i1 : (100 : Int) < (n : Int) := by omega
    clear hf hn hv
    go_enter Try.func85, Try.ntmps85
    go_wp2_with fail
    go_quiet ((go_at_call 88; exact Calls.quiet_of_same ((HN.out _).mono fun _ _ h => ⟨h.1, h.2.symm⟩)))
    go_wp2_with fail
    exact ⟨rfl, rfl, HB.out _⟩
/-- What 'bounds' leaves: at_ is the brace's place. -/
def PBPost (w0 : World) (base rb : Nat) (s : ByteArray) (D : Int) (ns : List Nd) (ks : List Value) (r : Option (Nat × Int × Nat)) (en : Ending) (w' : World) : Prop :=
  match r with
  | none => en = pan 40 ∧ Below base w0 w'
  | some (m, h, nx) => en = .returned (.tuple #[.int .i64 (m : Int), .int .i64 h]) ∧ St w0 base rb s (nx + 1) D ns ks w'
theorem finB_T {l : List UInt8} {m nx : Nat} {h : Int} (h1 : l[nx]? = some 125) (h2 : m ≤ 100) (h3 : h ≤ 100) (h4 : 0 ≤ h → (m : Int) ≤ h) : finB l m h nx = some (m, h, nx) := by unfold finB; rw [if_pos ⟨h1, h2, h3, h4⟩]
theorem finB_F {l : List UInt8} {m nx : Nat} {h : Int} (h1 : ¬ (l[nx]? = some 125 ∧ m ≤ 100 ∧ h ≤ 100 ∧ (0 ≤ h → (m : Int) ≤ h))) : finB l m h nx = none := by unfold finB; rw [if_neg h1]
theorem numF_le {l : List UInt8} {k : Nat} {n e : Nat} (h : Sc.numF l (k : Int) = some (n, e)) : k < e ∧ e ≤ l.length := by
  have := num_adv h; omega
theorem numF_past {l : List UInt8} {k : Nat} (h : l.length ≤ k) : Sc.numF l (k : Int) = none := by
  cases hv : Sc.numF l (k : Int) with
  | none => rfl
  | some p =>
    obtain ⟨n, e⟩ := p
    have := numF_le hv
    omega
set_option maxRecDepth 100000 in
set_option maxHeartbeats 2000000 in
theorem boundsP_any (h : St w0 base rb s (a + 1) D ns ks w) (hs : s.size ≤ 1000000) :
    Calls Try.prog 76 #[.pointer (some ⟨rb, 0, none⟩)] w (PBPost w0 base rb s D ns ks (boundsF (Tx.bs s) a)) := by
  have ec : ((a + 1 : Nat) : Int) = (a : Int) + 1 := by omega
  have hlen := Tx.bs_len s
  by_cases hbig : ∀ n e, Sc.numF (Tx.bs s) ((a + 1 : Nat) : Int) = some (n, e) → 100 < n
  · have HR : Hid (boundsF (Tx.bs s) a = none) := Lib.hid (by
      unfold boundsF
      rw [← ec]
      cases hv : Sc.numF (Tx.bs s) ((a + 1 : Nat) : Int) with
      | none => rfl
      | some p =>
        obtain ⟨n, e⟩ := p
        have h1 := hbig n e hv
        simp only
        split
        · split
          · split
            · rfl
            · exact finB_F (by omega)
          · exact finB_F (by omega)
        · exact finB_F (by omega))
    have HBd := Lib.hid (bound_F h hs hbig)
    clear h hbig
    go_enter Try.func76, Try.ntmps76
    go_wp2_with (go_at_call 85; refine HBd.out.mono ?_; rintro en w1 ⟨rfl, hb1⟩)
    refine ⟨rfl, ?_⟩
    rw [HR.out]
    exact ⟨rfl, hb1⟩
  · obtain ⟨n, e, hv, hn⟩ : ∃ n e, Sc.numF (Tx.bs s) ((a + 1 : Nat) : Int) = some (n, e) ∧ n ≤ 100 := by
      apply Classical.byContradiction
      intro hno
      apply hbig
      intro n e hv
      apply Classical.byContradiction
      intro h2
      exact hno ⟨n, e, hv, by omega⟩
    have hle := numF_le hv
    rw [hlen] at hle
    have HBd := Lib.hid (bound_T h hs hv hn)
    clear hbig h
    by_cases hcom : (Tx.bs s)[e]? = some 44
    · have he2 := get_lt hcom
      rw [hlen] at he2
      by_cases hcl : (Tx.bs s)[e + 1]? = some 125
      · have HR : Hid (boundsF (Tx.bs s) a = some (n, -1, e + 1)) := Lib.hid (by
          unfold boundsF
          rw [← ec, hv]
          simp only
          rw [if_pos hcom, if_neg (by rw [hcl]; simp)]
          exact finB_T hcl hn (by omega) (by omega))
        go_enter Try.func76, Try.ntmps76
        go_wp2_with (go_at_call 85; refine HBd.out.mono ?_; rintro en w1 ⟨rfl, S1⟩; have T1 := Lib.hid (take_T S1 hs hcom 44 rfl); clear S1)
        refine T1.out.mono ?_
        rintro en w2 ⟨rfl, S2⟩
        have T2 := Lib.hid (take_T S2 hs hcl 125 rfl)
        clear S2
        go_wp2_with fail
        refine T2.out.mono ?_
        rintro en w3 ⟨rfl, S3⟩
        have HS := Lib.hid S3
        clear S3
        go_wp2_with fail
        go_ret2
        rw [HR.out]
        exact ⟨rfl, HS.out⟩
      · by_cases hbig : ∀ n e', Sc.numF (Tx.bs s) ((e + 1 : Nat) : Int) = some (n, e') → 100 < n
        · have HR : Hid (boundsF (Tx.bs s) a = none) := Lib.hid (by
            unfold boundsF
            rw [← ec, hv]
            simp only
            rw [if_pos hcom]
            split
            · rw [show (e : Int) + 1 = ((e + 1 : Nat) : Int) from by omega]
              cases hv2 : Sc.numF (Tx.bs s) ((e + 1 : Nat) : Int) with
              | none => rfl
              | some p =>
                obtain ⟨n2, e2⟩ := p
                have := hbig n2 e2 hv2
                exact finB_F (by omega)
            · exact finB_F (by intro hx; exact hcl hx.1))
          go_enter Try.func76, Try.ntmps76
          go_wp2_with (go_at_call 85; refine HBd.out.mono ?_; rintro en w1 ⟨rfl, S1⟩; have T1 := Lib.hid (take_T S1 hs hcom 44 rfl); clear S1)
          refine T1.out.mono ?_
          rintro en w2 ⟨rfl, S2⟩
          have T2 := Lib.hid (take_F S2 hs (by omega) hcl 125 rfl)
          clear S2
          go_wp2_with fail
          refine T2.out.mono ?_
          rintro en w3 ⟨rfl, S3⟩
          have T3 := Lib.hid (bound_F S3 hs hbig)
          clear S3
          go_wp2_with fail
          refine T3.out.mono ?_
          rintro en w4 ⟨rfl, hb1⟩
          go_wp2_with fail
          refine ⟨rfl, ?_⟩
          rw [HR.out]
          exact ⟨rfl, hb1⟩
        · obtain ⟨n2, e2, hv2, hn2⟩ : ∃ n2 e2, Sc.numF (Tx.bs s) ((e + 1 : Nat) : Int) = some (n2, e2) ∧ n2 ≤ 100 := by
            apply Classical.byContradiction
            intro hno
            apply hbig
            intro n e hv
            apply Classical.byContradiction
            intro h2
            exact hno ⟨n, e, hv, by omega⟩
          have hle2 := numF_le hv2
          rw [hlen] at hle2
          have HF : Hid (boundsF (Tx.bs s) a = finB (Tx.bs s) n n2 e2) := Lib.hid (by
            unfold boundsF
            rw [← ec, hv]
            simp only
            rw [if_pos hcom, if_pos ⟨by rw [hlen]; omega, hcl⟩, show (e : Int) + 1 = ((e + 1 : Nat) : Int) from by omega, hv2])
          clear hbig
          by_cases hm : n ≤ n2
          · have i1 : ¬ (n2 : Int) < (n : Int) := by omega
            by_cases hend : (Tx.bs s)[e2]? = some 125
            · have HR : Hid (boundsF (Tx.bs s) a = some (n, (n2 : Int), e2)) := Lib.hid (by rw [HF.out]; exact finB_T hend hn (by omega) (by omega))
              go_enter Try.func76, Try.ntmps76
              go_wp2_with (go_at_call 85; refine HBd.out.mono ?_; rintro en w1 ⟨rfl, S1⟩; have T1 := Lib.hid (take_T S1 hs hcom 44 rfl); clear S1)
              refine T1.out.mono ?_
              rintro en w2 ⟨rfl, S2⟩
              have T2 := Lib.hid (take_F S2 hs (by omega) hcl 125 rfl)
              clear S2
              go_wp2_with fail
              refine T2.out.mono ?_
              rintro en w3 ⟨rfl, S3⟩
              have T3 := Lib.hid (bound_T S3 hs hv2 hn2)
              clear S3
              go_wp2_with fail
              refine T3.out.mono ?_
              rintro en w4 ⟨rfl, S4⟩
              have T4 := Lib.hid (take_T S4 hs hend 125 rfl)
              clear S4
              go_wp2_with fail
              refine T4.out.mono ?_
              rintro en w5 ⟨rfl, S5⟩
              have HS := Lib.hid S5
              clear S5
              go_wp2_with fail
              go_ret2
              rw [HR.out]
              exact ⟨rfl, HS.out⟩
            · have HR : Hid (boundsF (Tx.bs s) a = none) := Lib.hid (by rw [HF.out]; exact finB_F (by intro hx; exact hend hx.1))
              go_enter Try.func76, Try.ntmps76
              go_wp2_with (go_at_call 85; refine HBd.out.mono ?_; rintro en w1 ⟨rfl, S1⟩; have T1 := Lib.hid (take_T S1 hs hcom 44 rfl); clear S1)
              refine T1.out.mono ?_
              rintro en w2 ⟨rfl, S2⟩
              have T2 := Lib.hid (take_F S2 hs (by omega) hcl 125 rfl)
              clear S2
              go_wp2_with fail
              refine T2.out.mono ?_
              rintro en w3 ⟨rfl, S3⟩
              have T3 := Lib.hid (bound_T S3 hs hv2 hn2)
              clear S3
              go_wp2_with fail
              refine T3.out.mono ?_
              rintro en w4 ⟨rfl, S4⟩
              have T4 := Lib.hid (take_F S4 hs (by omega) hend 125 rfl)
              clear S4
              go_wp2_with fail
              refine T4.out.mono ?_
              rintro en w5 ⟨rfl, S5⟩
              have HS := Lib.hid S5
              clear S5
              go_wp2_with fail
              refine ⟨rfl, ?_⟩
              rw [HR.out]
              exact ⟨rfl, HS.out.2.1⟩
          · have i1 : (n2 : Int) < (n : Int) := by omega
            have HR : Hid (boundsF (Tx.bs s) a = none) := Lib.hid (by rw [HF.out]; exact finB_F (by omega))
            go_enter Try.func76, Try.ntmps76
            go_wp2_with (go_at_call 85; refine HBd.out.mono ?_; rintro en w1 ⟨rfl, S1⟩; have T1 := Lib.hid (take_T S1 hs hcom 44 rfl); clear S1)
            refine T1.out.mono ?_
            rintro en w2 ⟨rfl, S2⟩
            have T2 := Lib.hid (take_F S2 hs (by omega) hcl 125 rfl)
            clear S2
            go_wp2_with fail
            refine T2.out.mono ?_
            rintro en w3 ⟨rfl, S3⟩
            have T3 := Lib.hid (bound_T S3 hs hv2 hn2)
            clear S3
            go_wp2_with fail
            refine T3.out.mono ?_
            rintro en w4 ⟨rfl, S4⟩
            have HS := Lib.hid S4
            clear S4
            go_wp2_with fail
            refine ⟨rfl, ?_⟩
            rw [HR.out]
            exact ⟨rfl, HS.out.2.1⟩
    · have HF : Hid (boundsF (Tx.bs s) a = finB (Tx.bs s) n n e) := Lib.hid (by
        unfold boundsF
        rw [← ec, hv]
        simp only
        rw [if_neg hcom])
      have i1 : ¬ (n : Int) < (n : Int) := by omega
      by_cases hend : (Tx.bs s)[e]? = some 125
      · have HR : Hid (boundsF (Tx.bs s) a = some (n, (n : Int), e)) := Lib.hid (by rw [HF.out]; exact finB_T hend hn (by omega) (by omega))
        go_enter Try.func76, Try.ntmps76
        go_wp2_with (go_at_call 85; refine HBd.out.mono ?_; rintro en w1 ⟨rfl, S1⟩; have T1 := Lib.hid (take_F S1 hs (by omega) hcom 44 rfl); clear S1)
        refine T1.out.mono ?_
        rintro en w2 ⟨rfl, S2⟩
        have T2 := Lib.hid (take_T S2 hs hend 125 rfl)
        clear S2
        go_wp2_with fail
        refine T2.out.mono ?_
        rintro en w3 ⟨rfl, S3⟩
        have HS := Lib.hid S3
        clear S3
        go_wp2_with fail
        go_ret2
        rw [HR.out]
        exact ⟨rfl, HS.out⟩
      · have HR : Hid (boundsF (Tx.bs s) a = none) := Lib.hid (by rw [HF.out]; exact finB_F (by intro hx; exact hend hx.1))
        go_enter Try.func76, Try.ntmps76
        go_wp2_with (go_at_call 85; refine HBd.out.mono ?_; rintro en w1 ⟨rfl, S1⟩; have T1 := Lib.hid (take_F S1 hs (by omega) hcom 44 rfl); clear S1)
        refine T1.out.mono ?_
        rintro en w2 ⟨rfl, S2⟩
        have T2 := Lib.hid (take_F S2 hs (by omega) hend 125 rfl)
        clear S2
        go_wp2_with fail
        refine T2.out.mono ?_
        rintro en w3 ⟨rfl, S3⟩
        have HS := Lib.hid S3
        clear S3
        go_wp2_with fail
        refine ⟨rfl, ?_⟩
        rw [HR.out]
        exact ⟨rfl, HS.out.2.1⟩
end
end Rx
end
section
open Go.RowKit
namespace Px
open Cm Rx
/-- A value's block is none of the first n. -/
def Late (n : Nat) (kv : Value) : Prop := ∀ g, kv.ownBlock = some g → n ≤ g
theorem Late.mono {n n' : Nat} {kv : Value} (h : Late n kv) (hn : n' ≤ n) : Late n' kv := fun g hg => Nat.le_trans hn (h g hg)
theorem late_nil (n : Nat) : Late n (.slice none 0 0) := fun g h => by cases h
theorem late_at {n g : Nat} (h : n ≤ g) (o : Nat) (sp : Option Nat) (l c : Nat) : Late n (.slice (some ⟨g, o, sp⟩) l c) := fun k hk => by
  have : g = k := by simpa [Value.ownBlock] using hk
  omega
/-- What a step of the parser leaves. -/
def PPost (w : World) (base rb : Nat) (s : ByteArray) (D : Int) (ks : List Value) (r : Res) (en : Ending) (w' : World) : Prop :=
  match r with
  | .ok (k, a, ns2) => en = .returned (.int .i64 k) ∧ ∃ ks2, St w base rb s a D ns2 (ks ++ ks2) w' ∧ ∀ kv ∈ ks2, Late w.heap.size kv
  | .error c => en = pan c ∧ Below base w w'
section
variable {w w0 w1 w2 : World} {base rb : Nat} {s : ByteArray} {a : Nat} {D : Int} {ns : List Nd} {ks : List Value}
/-- A step before, in the same call. -/
theorem PPost.before {r : Res} {en : Ending} {ks1 : List Value} (hb : Below base w w1) (hk : KeptP w w1) (h1 : ∀ kv ∈ ks1, Late w.heap.size kv) (h : PPost w1 base rb s D (ks ++ ks1) r en w2) : PPost w base rb s D ks r en w2 := by
  cases r with
  | error c => exact ⟨h.1, hb.trans h.2⟩
  | ok x =>
    obtain ⟨k, a, ns3⟩ := x
    obtain ⟨h2, ks2, ⟨h3, h5, h6⟩, h4⟩ := h
    refine ⟨h2, ks1 ++ ks2, ⟨by rw [← List.append_assoc]; exact h3, hb.trans h5, hk.trans h6⟩, fun kv hkv => ?_⟩
    rcases List.mem_append.1 hkv with hkv | hkv
    · exact h1 kv hkv
    · exact (h4 kv hkv).mono hb.size
theorem PPost.before' {r : Res} {en : Ending} (hb : Below base w w1) (hk : KeptP w w1) (h : PPost w1 base rb s D ks r en w2) : PPost w base rb s D ks r en w2 :=
  PPost.before (ks1 := []) hb hk (fun kv h => by cases h) (by rw [List.append_nil]; exact h)
theorem PPost_one {n : Nd} {k : Value} (h : St w base rb s a D (ns ++ [n]) (ks ++ [k]) w2) (hk : Late w.heap.size k) : PPost w base rb s D ks (.ok (ns.length, a, ns ++ [n])) (.returned (.int .i64 (ns.length : Int))) w2 :=
  ⟨rfl, [k], h, fun kv hkv => by rw [List.mem_singleton] at hkv; subst hkv; exact hk⟩
theorem add_St (h : St w0 base rb s a D ns ks w) (n : Nd) (k : Value) (hk : w.ownsRow base tInt 1 k n.kids.length (intsV n.kids)) (hl : ns.length ≤ 1000000) :
    Calls Try.prog 51 #[.pointer (some ⟨rb, 0, none⟩), ndV n k] w fun en w' => en = .returned (.int .i64 (ns.length : Int)) ∧ St w0 base rb s a D (ns ++ [n]) (ks ++ [k]) w' :=
  (add_any h.1 n k hk hl).mono fun _ _ hp => ⟨hp.1, hp.2.1, h.2.1.trans hp.2.2.1, h.2.2.trans hp.2.2.2⟩
theorem nil_own {B : Nat} : w.ownsRow B tInt 1 (.slice none 0 0) ([] : List Int).length (intsV []) := World.ownsRow_nil _ _ _ _
theorem setV_congr {m m' : Nat → Bool} (h : ∀ x, x < 256 → m x = m' x) : word m 0 = word m' 0 ∧ word m 1 = word m' 1 ∧ word m 2 = word m' 2 ∧ word m 3 = word m' 3 :=
  ⟨word_congr fun b hb => h _ (by omega), word_congr fun b hb => h _ (by omega), word_congr fun b hb => h _ (by omega), word_congr fun b hb => h _ (by omega)⟩
set_option maxRecDepth 100000 in
theorem addSet_St (h : St w0 base rb s a D ns ks w) (m m' : Nat → Bool) (hm : ∀ x, x < 256 → m x = m' x) (hl : ns.length ≤ 1000000) :
    Calls Try.prog 82 #[.pointer (some ⟨rb, 0, none⟩), setV m] w fun en w' => en = .returned (.int .i64 (ns.length : Int)) ∧ St w0 base rb s a D (ns ++ [setN m']) (ks ++ [.slice none 0 0]) w' := by
  have HA := Lib.hid (fun wq (hq : St w0 base rb s a D ns ks wq) => add_St hq (setN m') (.slice none 0 0) nil_own hl)
  have HS := Lib.hid (fun o => h.below ((Below.refl _ _).alloc (Nat.le_refl _) o))
  obtain ⟨e0, e1, e2, e3⟩ := setV_congr hm
  unfold setV
  rw [e0, e1, e2, e3]
  unfold ndV at HA
  simp only [setN] at HA
  clear h hm e0 e1 e2 e3
  generalize word m' 0 = x0 at HA ⊢
  generalize word m' 1 = x1 at HA ⊢
  generalize word m' 2 = x2 at HA ⊢
  generalize word m' 3 = x3 at HA ⊢
  go_enter Try.func82, Try.ntmps82
  go_wp2_with (go_at_call 51; refine (HA.out _ (HS.out _)).mono ?_; rintro en w1 ⟨rfl, S1⟩; have HS1 := Lib.hid S1; clear S1)
  go_ret
  exact ⟨rfl, HS1.out⟩
end
theorem one_own' {w : World} {B : Nat} (hb : B ≤ w.heap.size) (k : Int) : (w.alloc (.cells #[.int .i64 k] tInt)).ownsRow B tInt 1 (.slice (some ⟨w.heap.size, 0, none⟩) 1 1) ([k] : List Int).length (intsV [k]) :=
  ⟨rfl, .inr ⟨w.heap.size, 1, #[.int .i64 k], rfl, hb, heap_new w _, Nat.le_refl _, by unfold maxLen; omega, rfl, rfl⟩⟩
section
variable {w w0 : World} {base rb : Nat} {s : ByteArray} {a : Nat} {D : Int} {ns : List Nd} {ks : List Value}
/-- The byte of a single one. -/
theorem span_one (c : Nat) : spanM c c = putM noSet c := by
  funext x
  unfold spanM putM noSet
  rw [Bool.eq_iff_iff]
  simp only [Bool.or_eq_true, Bool.and_eq_true, decide_eq_true_eq, beq_iff_eq, Bool.false_eq_true, or_false]
  omega
set_option maxRecDepth 100000 in
theorem plain_T (h : St w0 base rb s a D ns ks w) (hs : s.size ≤ 1000000) {c : UInt8} (hx : (Tx.bs s)[a]? = some c) (hl : ns.length ≤ 1000000) :
    Calls Try.prog 75 #[.pointer (some ⟨rb, 0, none⟩)] w fun en w' => en = .returned (.int .i64 (ns.length : Int)) ∧ St w0 base rb s (a + 1) D (ns ++ [setN (putM noSet c.toNat)]) (ks ++ [.slice none 0 0]) w' := by
  have HN := Lib.hid (next_T h hs hx)
  have hc := c.toNat_lt
  have HSp := Lib.hid (fun wq => span_any c.toNat c.toNat (Nat.le_refl _) hc wq)
  have HA := Lib.hid (fun wq (hq : St w0 base rb s (a + 1) D ns ks wq) => addSet_St hq (spanM c.toNat c.toNat) (putM noSet c.toNat) (fun x _ => by rw [span_one]) hl)
  clear h hx
  go_enter Try.func75, Try.ntmps75
  go_wp2_with (go_at_call 84; refine HN.out.mono ?_; rintro en w1 ⟨rfl, S1⟩; have HS1 := Lib.hid S1; clear S1)
  go_wp2_with (go_at_call 83; refine (HSp.out _).mono ?_; rintro en w2 ⟨rfl, B2⟩; have HS2 := Lib.hid (HS1.out.below B2); clear B2)
  refine (HA.out _ HS2.out).mono ?_
  rintro en w3 ⟨rfl, S3⟩
  have HS3 := Lib.hid S3
  clear S3
  go_wp2_with fail
  go_ret
  exact ⟨rfl, HS3.out⟩
set_option maxRecDepth 100000 in
theorem plain_F (h : St w0 base rb s a D ns ks w) (hs : s.size ≤ 1000000) (ha : a ≤ s.size) (hx : (Tx.bs s)[a]? = none) :
    Calls Try.prog 75 #[.pointer (some ⟨rb, 0, none⟩)] w fun en w' => en = pan 40 ∧ Below base w0 w' := by
  have HN := Lib.hid (next_F h hs ha hx)
  clear h hx
  go_enter Try.func75, Try.ntmps75
  go_wp2_with (go_at_call 84; refine HN.out.mono ?_; rintro en w1 ⟨rfl, B1⟩)
  exact ⟨rfl, rfl, B1⟩
end
section
variable {w : World} {base rb : Nat} {s : ByteArray} {a : Nat} {D : Int} {ns : List Nd} {ks : List Value}
theorem atom_at {l : List UInt8} {p : Option (Nat → List Nd → Res)} {c : UInt8} (h : l[a]? = some c) (h40 : c ≠ 40) (h91 : c ≠ 91) (h46 : c ≠ 46) (h94 : c ≠ 94) (h36 : c ≠ 36) (hno : noAtom c = false) (h92 : c ≠ 92) : atomF l p a ns = .ok (ns.length, a + 1, ns ++ [setN (putM noSet c.toNat)]) := by
  unfold atomF
  rw [h]
  simp only
  rw [if_neg h40, if_neg h91, if_neg h46, if_neg h94, if_neg h36, hno, if_neg (by simp), if_neg h92]
set_option maxRecDepth 100000 in
theorem start_any (h : Prs w base rb s (a : Int) D ns ks) (hs : s.size ≤ 1000000) (ha : a ≤ s.size) (hl : ns.length ≤ 1000000) :
    Calls Try.prog 71 #[.pointer (some ⟨rb, 0, none⟩)] w (PPost w base rb s D ks (.ok (ns.length, a + 1, ns ++ [plainN 2]))) := by
  have HS := Lib.hid (fun q => ((St.start h).drewN q).setAt (a + 1))
  have HA := Lib.hid (fun wq (hq : St w base rb s (a + 1) D ns ks wq) => add_St hq (plainN 2) (.slice none 0 0) nil_own hl)
  unfold ndV at HA
  simp only [plainN, show ∀ j, word noSet j = 0 from fun j => word_none j] at HA
  obtain ⟨c0, c1, c2, hf⟩ := (St.start h).cells
  have f1 := hf 1
  clear h hf
  go_enter Try.func71, Try.ntmps71
  go_wp2_with (go_at_call 51; refine (HA.out _ (HS.out 0)).mono ?_; rintro en w1 ⟨rfl, S1⟩; have HS1 := Lib.hid S1; clear S1)
  go_ret
  exact PPost_one HS1.out (late_nil _)
set_option maxRecDepth 100000 in
theorem end_any (h : Prs w base rb s (a : Int) D ns ks) (hs : s.size ≤ 1000000) (ha : a ≤ s.size) (hl : ns.length ≤ 1000000) :
    Calls Try.prog 72 #[.pointer (some ⟨rb, 0, none⟩)] w (PPost w base rb s D ks (.ok (ns.length, a + 1, ns ++ [plainN 3]))) := by
  have HS := Lib.hid (fun q => ((St.start h).drewN q).setAt (a + 1))
  have HA := Lib.hid (fun wq (hq : St w base rb s (a + 1) D ns ks wq) => add_St hq (plainN 3) (.slice none 0 0) nil_own hl)
  unfold ndV at HA
  simp only [plainN, show ∀ j, word noSet j = 0 from fun j => word_none j] at HA
  obtain ⟨c0, c1, c2, hf⟩ := (St.start h).cells
  have f1 := hf 1
  clear h hf
  go_enter Try.func72, Try.ntmps72
  go_wp2_with (go_at_call 51; refine (HA.out _ (HS.out 0)).mono ?_; rintro en w1 ⟨rfl, S1⟩; have HS1 := Lib.hid S1; clear S1)
  go_ret
  exact PPost_one HS1.out (late_nil _)
theorem dot_set (x : Nat) (h : x < 256) : spanM 0 255 x = allSet x := by
  unfold spanM allSet noSet
  simp only [Bool.not_false, Bool.and_eq_true, decide_eq_true_eq]
  omega
set_option maxRecDepth 100000 in
theorem dot_any (h : Prs w base rb s (a : Int) D ns ks) (hs : s.size ≤ 1000000) (ha : a ≤ s.size) (hl : ns.length ≤ 1000000) :
    Calls Try.prog 70 #[.pointer (some ⟨rb, 0, none⟩)] w (PPost w base rb s D ks (.ok (ns.length, a + 1, ns ++ [setN allSet]))) := by
  have HS := Lib.hid (fun q => ((St.start h).drewN q).setAt (a + 1))
  have HSp := Lib.hid (fun wq => span_any 0 255 (by omega) (by omega) wq)
  have HA := Lib.hid (fun wq (hq : St w base rb s (a + 1) D ns ks wq) => addSet_St hq (spanM 0 255) allSet dot_set hl)
  obtain ⟨c0, c1, c2, hf⟩ := (St.start h).cells
  have f1 := hf 1
  clear h hf
  go_enter Try.func70, Try.ntmps70
  go_wp2_with (go_at_call 83; refine (HSp.out _).mono ?_; rintro en w2 ⟨rfl, B2⟩; have HS2 := Lib.hid ((HS.out 0).below B2); clear B2)
  refine (HA.out _ HS2.out).mono ?_
  rintro en w3 ⟨rfl, S3⟩
  have HS3 := Lib.hid S3
  clear S3
  go_wp2_with fail
  go_ret
  exact PPost_one HS3.out (late_nil _)
set_option maxRecDepth 100000 in
theorem escape_any (h : Prs w base rb s (a : Int) D ns ks) (hs : s.size ≤ 1000000) (ha : a < s.size) (hl : ns.length ≤ 1000000) :
    Calls Try.prog 73 #[.pointer (some ⟨rb, 0, none⟩)] w (PPost w base rb s D ks (match (Tx.bs s)[a + 1]? with | none => .error 40 | some b => .ok (ns.length, a + 2, ns ++ [setN (putM noSet b.toNat)]))) := by
  have HS := Lib.hid (fun q => ((St.start h).drewN q).setAt (a + 1))
  obtain ⟨c0, c1, c2, hf⟩ := (St.start h).cells
  have f1 := hf 1
  cases hx : (Tx.bs s)[a + 1]? with
  | none =>
    have HP := Lib.hid (fun q => plain_F (HS.out q) hs (by omega) hx)
    clear h hf hx
    go_enter Try.func73, Try.ntmps73
    go_wp2_with (go_at_call 75; refine (HP.out 0).mono ?_; rintro en w1 ⟨rfl, B1⟩)
    exact ⟨rfl, rfl, B1⟩
  | some b =>
    have HP := Lib.hid (fun q => plain_T (HS.out q) hs hx hl)
    clear h hf hx
    go_enter Try.func73, Try.ntmps73
    go_wp2_with (go_at_call 75; refine (HP.out 0).mono ?_; rintro en w1 ⟨rfl, S1⟩; have HS1 := Lib.hid S1; clear S1)
    go_ret
    exact PPost_one HS1.out (late_nil _)
set_option maxRecDepth 100000 in
theorem refuse_any (_h : Prs w base rb s (a : Int) D ns ks) :
    Calls Try.prog 74 #[.pointer (some ⟨rb, 0, none⟩)] w (PPost w base rb s D ks (.error 40)) := by
  clear _h
  go_enter Try.func74, Try.ntmps74
  go_wp2_with fail
  exact ⟨rfl, rfl, Below.refl _ _⟩
end
end Px
end
section
open Go.RowKit
namespace Px
open Cm Rx
section
variable {w w0 : World} {base rb : Nat} {s : ByteArray} {a : Nat} {D : Int} {ns : List Nd} {ks : List Value}
/-- What 'quantified' leaves. -/
def QPost (w0 : World) (n : Nat) (base rb : Nat) (s : ByteArray) (a : Nat) (D : Int) (ns : List Nd) (ks : List Value) (k : Int) (r : Option (Option (Nat × Int × Nat))) (en : Ending) (w' : World) : Prop :=
  match r with
  | none => en = .returned (.int .i64 k) ∧ St w0 base rb s a D ns ks w'
  | some none => en = pan 40 ∧ Below base w0 w'
  | some (some (m, h, a2)) => en = .returned (.int .i64 (ns.length : Int)) ∧ ∃ kv, St w0 base rb s (a2 + 1) D (ns ++ [repN m h k]) (ks ++ [kv]) w' ∧ Late n kv
theorem rep_St (h : St w0 base rb s a D ns ks w) (hl : ns.length ≤ 1000000) (mn mx k : Int) (n : Nat) (hn : n ≤ w.heap.size) :
    Calls Try.prog 51 #[.pointer (some ⟨rb, 0, none⟩), .agg #[.int .i64 6, .int .u64 0, .int .u64 0, .int .u64 0, .int .u64 0, .int .i64 mn, .int .i64 mx, .slice (some ⟨w.heap.size, 0, none⟩) 1 1]] (w.alloc (.cells #[.int .i64 k] tInt))
      fun en w' => en = .returned (.int .i64 (ns.length : Int)) ∧ ∃ kv, St w0 base rb s a D (ns ++ [repN mn mx k]) (ks ++ [kv]) w' ∧ Late n kv := by
  have hb := h.1.size
  have := add_St (h.below ((Below.refl _ _).alloc (Nat.le_refl _) (.cells #[.int .i64 k] tInt))) (repN mn mx k) (.slice (some ⟨w.heap.size, 0, none⟩) 1 1) (one_own' hb k) hl
  unfold ndV at this
  simp only [repN, show ∀ j, word noSet j = 0 from fun j => word_none j] at this
  exact this.mono fun en w' hp => ⟨hp.1, _, hp.2, late_at hn _ _ _ _⟩
theorem St.le (h : St w0 base rb s a D ns ks w) : w0.heap.size ≤ w.heap.size := h.2.1.size
set_option maxRecDepth 100000 in
set_option maxHeartbeats 2000000 in
theorem quant_any (h : St w0 base rb s a D ns ks w) (hs : s.size ≤ 1000000) (ha : a ≤ s.size) (hl : ns.length ≤ 1000000) (k : Int) :
    Calls Try.prog 63 #[.pointer (some ⟨rb, 0, none⟩), .int .i64 k] w (QPost w0 w0.heap.size base rb s a D ns ks k (quantF (Tx.bs s) a)) := by
  by_cases h42 : (Tx.bs s)[a]? = some 42
  · have HR : Hid (quantF (Tx.bs s) a = some (some (0, -1, a))) := Lib.hid (by unfold quantF; rw [h42]; rfl)
    have T1 := Lib.hid (take_T h hs h42 42 rfl)
    have HA := Lib.hid (fun wq (hq : St w0 base rb s (a + 1) D ns ks wq) => rep_St hq hl 0 (-1) k w0.heap.size (St.le hq))
    clear h h42
    go_enter Try.func63, Try.ntmps63
    go_wp2_with fail
    refine T1.out.mono ?_
    rintro en w1 ⟨rfl, S1⟩
    have HS1 := Lib.hid S1
    clear S1
    go_wp2_with fail
    refine (HA.out _ HS1.out).mono ?_
    rintro en w2 ⟨rfl, S2⟩
    have HS2 := Lib.hid S2
    clear S2
    go_wp2_with fail
    go_ret
    rw [HR.out]
    exact ⟨rfl, HS2.out⟩
  by_cases h43 : (Tx.bs s)[a]? = some 43
  · have HR : Hid (quantF (Tx.bs s) a = some (some (1, -1, a))) := Lib.hid (by unfold quantF; rw [h43]; rfl)
    have T1 := Lib.hid (take_F h hs ha h42 42 rfl)
    have T2 := Lib.hid (fun wq (hq : St w0 base rb s a D ns ks wq) => take_T hq hs h43 43 rfl)
    have HA := Lib.hid (fun wq (hq : St w0 base rb s (a + 1) D ns ks wq) => rep_St hq hl 1 (-1) k w0.heap.size (St.le hq))
    clear h h42 h43
    go_enter Try.func63, Try.ntmps63
    go_wp2_with fail
    refine T1.out.mono ?_
    rintro en w1 ⟨rfl, S1⟩
    have HS1 := Lib.hid S1
    clear S1
    go_wp2_with fail
    refine (T2.out _ HS1.out).mono ?_
    rintro en w2 ⟨rfl, S2⟩
    have HS2 := Lib.hid S2
    clear S2
    go_wp2_with fail
    refine (HA.out _ HS2.out).mono ?_
    rintro en w3 ⟨rfl, S3⟩
    have HS3 := Lib.hid S3
    clear S3
    go_wp2_with fail
    go_ret
    rw [HR.out]
    exact ⟨rfl, HS3.out⟩
  by_cases h63 : (Tx.bs s)[a]? = some 63
  · have HR : Hid (quantF (Tx.bs s) a = some (some (0, 1, a))) := Lib.hid (by unfold quantF; rw [h63]; rfl)
    have T1 := Lib.hid (take_F h hs ha h42 42 rfl)
    have T2 := Lib.hid (fun wq (hq : St w0 base rb s a D ns ks wq) => take_F hq hs ha h43 43 rfl)
    have T3 := Lib.hid (fun wq (hq : St w0 base rb s a D ns ks wq) => take_T hq hs h63 63 rfl)
    have HA := Lib.hid (fun wq (hq : St w0 base rb s (a + 1) D ns ks wq) => rep_St hq hl 0 1 k w0.heap.size (St.le hq))
    clear h h42 h43 h63
    go_enter Try.func63, Try.ntmps63
    go_wp2_with fail
    refine T1.out.mono ?_
    rintro en w1 ⟨rfl, S1⟩
    have HS1 := Lib.hid S1
    clear S1
    go_wp2_with fail
    refine (T2.out _ HS1.out).mono ?_
    rintro en w2 ⟨rfl, S2⟩
    have HS2 := Lib.hid S2
    clear S2
    go_wp2_with fail
    refine (T3.out _ HS2.out).mono ?_
    rintro en w3 ⟨rfl, S3⟩
    have HS3 := Lib.hid S3
    clear S3
    go_wp2_with fail
    refine (HA.out _ HS3.out).mono ?_
    rintro en w4 ⟨rfl, S4⟩
    have HS4 := Lib.hid S4
    clear S4
    go_wp2_with fail
    go_ret
    rw [HR.out]
    exact ⟨rfl, HS4.out⟩
  have T1 := Lib.hid (take_F h hs ha h42 42 rfl)
  have T2 := Lib.hid (fun wq (hq : St w0 base rb s a D ns ks wq) => take_F hq hs ha h43 43 rfl)
  have T3 := Lib.hid (fun wq (hq : St w0 base rb s a D ns ks wq) => take_F hq hs ha h63 63 rfl)
  by_cases h123 : (Tx.bs s)[a]? = some 123
  · have HR : Hid (quantF (Tx.bs s) a = some (boundsF (Tx.bs s) a)) := Lib.hid (by unfold quantF; rw [h123]; rfl)
    have T4 := Lib.hid (fun wq (hq : St w0 base rb s a D ns ks wq) => take_T hq hs h123 123 rfl)
    have HB := Lib.hid (fun wq (hq : St w0 base rb s (a + 1) D ns ks wq) => boundsP_any hq hs)
    clear h h42 h43 h63 h123
    cases hbd : boundsF (Tx.bs s) a with
    | none =>
      rw [hbd] at HR HB
      clear hbd
      go_enter Try.func63, Try.ntmps63
      go_wp2_with fail
      refine T1.out.mono ?_
      rintro en w1 ⟨rfl, S1⟩
      have HS1 := Lib.hid S1
      clear S1
      go_wp2_with fail
      refine (T2.out _ HS1.out).mono ?_
      rintro en w2 ⟨rfl, S2⟩
      have HS2 := Lib.hid S2
      clear S2
      go_wp2_with fail
      refine (T3.out _ HS2.out).mono ?_
      rintro en w3 ⟨rfl, S3⟩
      have HS3 := Lib.hid S3
      clear S3
      go_wp2_with fail
      refine (T4.out _ HS3.out).mono ?_
      rintro en w4 ⟨rfl, S4⟩
      have HS4 := Lib.hid S4
      clear S4
      go_wp2_with fail
      refine (HB.out _ HS4.out).mono ?_
      rintro en w5 ⟨rfl, B5⟩
      go_wp2_with fail
      refine ⟨rfl, ?_⟩
      rw [HR.out]
      exact ⟨rfl, B5⟩
    | some x =>
      obtain ⟨m, hi, nx⟩ := x
      rw [hbd] at HR HB
      have HA := Lib.hid (fun wq (hq : St w0 base rb s (nx + 1) D ns ks wq) => rep_St hq hl (m : Int) hi k w0.heap.size (St.le hq))
      clear hbd
      go_enter Try.func63, Try.ntmps63
      go_wp2_with fail
      refine T1.out.mono ?_
      rintro en w1 ⟨rfl, S1⟩
      have HS1 := Lib.hid S1
      clear S1
      go_wp2_with fail
      refine (T2.out _ HS1.out).mono ?_
      rintro en w2 ⟨rfl, S2⟩
      have HS2 := Lib.hid S2
      clear S2
      go_wp2_with fail
      refine (T3.out _ HS2.out).mono ?_
      rintro en w3 ⟨rfl, S3⟩
      have HS3 := Lib.hid S3
      clear S3
      go_wp2_with fail
      refine (T4.out _ HS3.out).mono ?_
      rintro en w4 ⟨rfl, S4⟩
      have HS4 := Lib.hid S4
      clear S4
      go_wp2_with fail
      refine (HB.out _ HS4.out).mono ?_
      rintro en w5 ⟨rfl, S5⟩
      have HS5 := Lib.hid S5
      clear S5
      go_wp2_with fail
      refine (HA.out _ HS5.out).mono ?_
      rintro en w6 ⟨rfl, S6⟩
      have HS6 := Lib.hid S6
      clear S6
      go_wp2_with fail
      go_ret
      rw [HR.out]
      exact ⟨rfl, HS6.out⟩
  have T4 := Lib.hid (fun wq (hq : St w0 base rb s a D ns ks wq) => take_F hq hs ha h123 123 rfl)
  have HR : Hid (quantF (Tx.bs s) a = none) := Lib.hid (by
    unfold quantF
    cases hx : (Tx.bs s)[a]? with
    | none => rfl
    | some c =>
      simp only
      rw [hx] at h42 h43 h63 h123
      rw [if_neg (fun e => h42 (by rw [e])), if_neg (fun e => h43 (by rw [e])), if_neg (fun e => h63 (by rw [e])), if_neg (fun e => h123 (by rw [e]))])
  clear h h42 h43 h63 h123
  go_enter Try.func63, Try.ntmps63
  go_wp2_with fail
  refine T1.out.mono ?_
  rintro en w1 ⟨rfl, S1⟩
  have HS1 := Lib.hid S1
  clear S1
  go_wp2_with fail
  refine (T2.out _ HS1.out).mono ?_
  rintro en w2 ⟨rfl, S2⟩
  have HS2 := Lib.hid S2
  clear S2
  go_wp2_with fail
  refine (T3.out _ HS2.out).mono ?_
  rintro en w3 ⟨rfl, S3⟩
  have HS3 := Lib.hid S3
  clear S3
  go_wp2_with fail
  refine (T4.out _ HS3.out).mono ?_
  rintro en w4 ⟨rfl, S4⟩
  have HS4 := Lib.hid S4
  clear S4
  go_wp2_with fail
  go_ret
  rw [HR.out]
  exact ⟨rfl, HS4.out⟩
end
end Px
end
section
open Go.RowKit
namespace Px
open Cm Rx
section
variable {l : List UInt8} {p : Option (Nat → List Nd → Res)}
/-- A piece, as the program reads it. -/
def pieceG (l : List UInt8) (p : Option (Nat → List Nd → Res)) (at_ : Nat) (ns : List Nd) : Res :=
  match atomF l p at_ ns with
  | .error e => .error e
  | .ok (k, a, ns1) =>
    if l[at_]? = some 94 ∨ l[at_]? = some 36 then .ok (k, a, ns1)
    else match quantF l a with
    | none => .ok (k, a, ns1)
    | some none => .error 40
    | some (some (m, h, a2)) => .ok (ns1.length, a2 + 1, ns1 ++ [repN m h k])
def piecesG (l : List UInt8) (p : Option (Nat → List Nd → Res)) : Nat → Nat → List Nd → List Int → Except Int (List Int × Nat × List Nd)
  | 0, _, _, _ => .error 0
  | f + 1, at_, ns, kids =>
    if moreF l true at_ then
      match pieceG l p at_ ns with
      | .error e => .error e
      | .ok (k, a, ns1) => piecesG l p f a ns1 (kids ++ [k])
    else .ok (kids, at_, ns)
theorem pieceG_eq {at_ : Nat} {ns : List Nd} (h : ¬ (l[at_]? = some 94 ∨ l[at_]? = some 36)) : pieceG l p at_ ns = pieceF l p at_ ns := by
  unfold pieceG pieceF
  cases atomF l p at_ ns with
  | error e => rfl
  | ok x =>
    obtain ⟨k, a, ns1⟩ := x
    simp only
    rw [if_neg h]
    cases quantF l a with
    | none => rfl
    | some y =>
      cases y with
      | none => rfl
      | some z =>
        obtain ⟨m, hh, a2⟩ := z
        simp only
        rw [if_neg h]
theorem pieceG_anchor {at_ : Nat} {ns : List Nd} (h : l[at_]? = some 94 ∨ l[at_]? = some 36) : ∃ n, pieceG l p at_ ns = .ok ((ns.length : Int), at_ + 1, ns ++ [n]) ∧ (quantF l (at_ + 1) = none → pieceF l p at_ ns = .ok ((ns.length : Int), at_ + 1, ns ++ [n])) ∧ (quantF l (at_ + 1) ≠ none → pieceF l p at_ ns = .error 40) := by
  rcases h with h | h
  · have ha : atomF l p at_ ns = .ok ((ns.length : Int), at_ + 1, ns ++ [plainN 2]) := by unfold atomF; rw [h]; rfl
    refine ⟨plainN 2, ?_, fun hq => ?_, fun hq => ?_⟩
    · unfold pieceG
      rw [ha]
      simp only
      rw [if_pos (.inl h)]
    · unfold pieceF
      rw [ha]
      simp only
      rw [hq]
    · unfold pieceF
      rw [ha]
      simp only
      cases hv : quantF l (at_ + 1) with
      | none => exact absurd hv hq
      | some y =>
        cases y with
        | none => rfl
        | some z =>
          obtain ⟨m, hh, a2⟩ := z
          simp only
          rw [if_pos (.inl h)]
  · have ha : atomF l p at_ ns = .ok ((ns.length : Int), at_ + 1, ns ++ [plainN 3]) := by unfold atomF; rw [h]; rfl
    refine ⟨plainN 3, ?_, fun hq => ?_, fun hq => ?_⟩
    · unfold pieceG
      rw [ha]
      simp only
      rw [if_pos (.inr h)]
    · unfold pieceF
      rw [ha]
      simp only
      rw [hq]
    · unfold pieceF
      rw [ha]
      simp only
      cases hv : quantF l (at_ + 1) with
      | none => exact absurd hv hq
      | some y =>
        cases y with
        | none => rfl
        | some z =>
          obtain ⟨m, hh, a2⟩ := z
          simp only
          rw [if_pos (.inr h)]
/-- Where a quantifier begins no atom does. -/
theorem quant_noAtom {a : Nat} (h : quantF l a ≠ none) : ∃ c, l[a]? = some c ∧ (c = 42 ∨ c = 43 ∨ c = 63 ∨ c = 123) := by
  unfold quantF at h
  cases hx : l[a]? with
  | none => rw [hx] at h; exact absurd rfl h
  | some c =>
    refine ⟨c, rfl, ?_⟩
    rw [hx] at h
    simp only at h
    by_cases h1 : c = 42
    · exact .inl h1
    by_cases h2 : c = 43
    · exact .inr (.inl h2)
    by_cases h3 : c = 63
    · exact .inr (.inr (.inl h3))
    by_cases h4 : c = 123
    · exact .inr (.inr (.inr h4))
    rw [if_neg h1, if_neg h2, if_neg h3, if_neg h4] at h
    exact absurd rfl h
theorem atom_no {a : Nat} {ns : List Nd} {c : UInt8} (h : l[a]? = some c) (hc : c = 42 ∨ c = 43 ∨ c = 63 ∨ c = 123) : atomF l p a ns = .error 40 := by
  unfold atomF
  rw [h]
  rcases hc with rfl | rfl | rfl | rfl <;> rfl
theorem atom_close {a : Nat} {ns : List Nd} (h : l[a]? = some 41) : atomF l p a ns = .error 40 := by
  unfold atomF
  rw [h]
  rfl
theorem piecesG_eq (f : Nat) : ∀ (at_ : Nat) (ns : List Nd) (kids : List Int), l.length < at_ + f → at_ ≤ l.length → AdvO l p → piecesG l p f at_ ns kids = piecesF l p true f at_ ns kids := by
  induction f with
  | zero => intro at_ ns kids h h2; omega
  | succ f ih =>
    intro at_ ns kids h h2 hp
    unfold piecesG piecesF
    by_cases hm : moreF l true at_ = true
    · rw [if_pos hm, if_pos hm]
      have hlt : at_ < l.length := by
        unfold moreF at hm
        cases hx : l[at_]? with
        | none => rw [hx] at hm; cases hm
        | some c => exact get_lt hx
      by_cases han : l[at_]? = some 94 ∨ l[at_]? = some 36
      · obtain ⟨n, h3, h4, h5⟩ := pieceG_anchor (p := p) (ns := ns) han
        rw [h3]
        simp only
        by_cases hq : quantF l (at_ + 1) = none
        · rw [h4 hq]
          simp only
          exact ih _ _ _ (by omega) (by omega) hp
        · rw [h5 hq]
          obtain ⟨c, hc, hc4⟩ := quant_noAtom hq
          obtain ⟨f', rfl⟩ : ∃ f', f = f' + 1 := ⟨f - 1, by omega⟩
          unfold piecesG
          have hmore : moreF l true (at_ + 1) = true := by
            unfold moreF
            rw [hc]
            rcases hc4 with rfl | rfl | rfl | rfl <;> rfl
          rw [if_pos hmore]
          unfold pieceG
          rw [atom_no hc hc4]
      · rw [pieceG_eq han]
        cases hr : pieceF l p at_ ns with
        | error e => rfl
        | ok x =>
          obtain ⟨k, a, ns1⟩ := x
          have hav := piece_adv hp hr
          simp only
          exact ih _ _ _ (by omega) hav.2.1 hp
    · rw [if_neg hm, if_neg hm]
theorem pieceG_adv (hp : AdvO l p) {at_ : Nat} {ns : List Nd} {k : Int} {a : Nat} {ns2 : List Nd} (hl : at_ < l.length) (h : pieceG l p at_ ns = .ok (k, a, ns2)) : at_ < a ∧ a ≤ l.length ∧ ns2.length + 2 ≤ ns.length + 4 * (a - at_) := by
  by_cases han : l[at_]? = some 94 ∨ l[at_]? = some 36
  · obtain ⟨n, h3, h4, h5⟩ := pieceG_anchor (p := p) (ns := ns) han
    rw [h3] at h
    injection h with h
    injection h with h1 h2
    injection h2 with h2 h6
    subst h2 h6
    refine ⟨by omega, by omega, ?_⟩
    rw [List.length_append, List.length_singleton]
    omega
  · rw [pieceG_eq han] at h
    exact piece_adv hp h
/-- The same, but an error where a closing parenthesis stands. -/
def shutK {α : Type} (l : List UInt8) (r : Except Int (α × Nat × List Nd)) : Except Int (α × Nat × List Nd) :=
  match r with
  | .error e => .error e
  | .ok (k, a, ns) => if l[a]? = some 41 then .error 40 else .ok (k, a, ns)
theorem pieces_outer (f : Nat) : ∀ (at_ : Nat) (ns : List Nd) (kids : List Int), piecesF l p false f at_ ns kids = shutK l (piecesF l p true f at_ ns kids) := by
  induction f with
  | zero => intro at_ ns kids; rfl
  | succ f ih =>
    intro at_ ns kids
    unfold piecesF
    cases hx : l[at_]? with
    | none =>
      have h1 : ∀ b, moreF l b at_ = false := fun b => by unfold moreF; rw [hx]
      rw [h1, h1]
      simp only [Bool.false_eq_true, if_false]
      unfold shutK
      simp only
      rw [if_neg (by rw [hx]; simp)]
    | some c =>
      by_cases h124 : c = 124
      · have h1 : ∀ b, moreF l b at_ = false := fun b => by unfold moreF; rw [hx, h124]; rfl
        rw [h1, h1]
        simp only [Bool.false_eq_true, if_false]
        unfold shutK
        simp only
        rw [if_neg (by rw [hx, h124]; simp)]
      · by_cases h41 : c = 41
        · have h1 : moreF l true at_ = false := by unfold moreF; rw [hx, h41]; rfl
          have h2 : moreF l false at_ = true := by unfold moreF; rw [hx, h41]; rfl
          rw [h1, h2]
          simp only [Bool.false_eq_true, if_false, if_true]
          unfold pieceF
          rw [atom_close (by rw [hx, h41])]
          unfold shutK
          simp only
          rw [if_pos (by rw [hx, h41])]
        · have h1 : ∀ b, moreF l b at_ = true := fun b => by
            unfold moreF; rw [hx]
            simp [h124, h41]
          rw [h1, h1]
          simp only [if_true]
          cases hr : pieceF l p at_ ns with
          | error e => rfl
          | ok x =>
            obtain ⟨k, a, ns1⟩ := x
            simp only
            exact ih _ _ _
theorem alt_outer (at_ : Nat) (ns : List Nd) : altF l p false at_ ns = shutK l (altF l p true at_ ns) := by
  unfold altF
  rw [pieces_outer]
  cases piecesF l p true (l.length + 1) at_ ns [] with
  | error e => rfl
  | ok x =>
    obtain ⟨kids, a, ns1⟩ := x
    unfold shutK
    simp only
    by_cases h : l[a]? = some 41
    · rcases kids with _ | ⟨k, _ | ⟨k2, kr⟩⟩ <;> simp [h]
    · rcases kids with _ | ⟨k, _ | ⟨k2, kr⟩⟩ <;> simp [h]
theorem alts_outer (hp : AdvO l p) (f : Nat) : ∀ (at_ : Nat) (ns : List Nd) (kids : List Int), l.length < at_ + f → at_ ≤ l.length → l[at_]? ≠ some 41 → altsF l p false f at_ ns kids = shutK l (altsF l p true f at_ ns kids) := by
  induction f with
  | zero => intro at_ ns kids _ _ _; rfl
  | succ f ih =>
    intro at_ ns kids hf hl h0
    unfold altsF
    by_cases h : l[at_]? = some 124
    · rw [if_pos h, if_pos h, alt_outer]
      have hlt := get_lt h
      cases hr : altF l p true (at_ + 1) ns with
      | error e => rfl
      | ok x =>
        obtain ⟨k, a, ns1⟩ := x
        have hav := alt_adv hp (by omega) hr
        by_cases h41 : l[a]? = some 41
        · rw [show shutK l (.ok (k, a, ns1) : Res) = .error 40 from by unfold shutK; simp only; rw [if_pos h41]]
          simp only
          have hla := get_lt h41
          cases f with
          | zero => omega
          | succ f =>
            unfold altsF
            rw [if_neg (by rw [h41]; simp)]
            unfold shutK
            simp only
            rw [if_pos h41]
        · rw [show shutK l (.ok (k, a, ns1) : Res) = .ok (k, a, ns1) from by unfold shutK; simp only; rw [if_neg h41]]
          simp only
          exact ih _ _ _ (by omega) hav.2.1 h41
    · rw [if_neg h, if_neg h]
      unfold shutK
      simp only
      rw [if_neg h0]
theorem pat_outer (hp : AdvO l p) (ns : List Nd) : patF l p false 0 ns = shutK l (patF l p true 0 ns) := by
  unfold patF
  rw [alt_outer]
  cases hr : altF l p true 0 ns with
  | error e => rfl
  | ok x =>
    obtain ⟨k, a, ns1⟩ := x
    have hav := alt_adv hp (Nat.zero_le _) hr
    by_cases h41 : l[a]? = some 41
    · rw [show shutK l (.ok (k, a, ns1) : Res) = .error 40 from by unfold shutK; simp only; rw [if_pos h41]]
      simp only
      unfold altsF
      rw [if_neg (by rw [h41]; simp)]
      unfold shutK
      simp only
      rw [if_pos h41]
    · rw [show shutK l (.ok (k, a, ns1) : Res) = .ok (k, a, ns1) from by unfold shutK; simp only; rw [if_neg h41]]
      simp only
      rw [alts_outer hp (l.length + 1) a ns1 [k] (by omega) hav.2.1 h41]
      cases altsF l p true (l.length + 1) a ns1 [k] with
      | error e => rfl
      | ok y =>
        obtain ⟨kids, a2, ns2⟩ := y
        unfold shutK
        simp only
        by_cases h : l[a2]? = some 41
        · rcases kids with _ | ⟨k, _ | ⟨k2, kr⟩⟩ <;> simp [h]
        · rcases kids with _ | ⟨k, _ | ⟨k2, kr⟩⟩ <;> simp [h]
/-- The whole of a pattern, as the program reads it. -/
def parseG (l : List UInt8) : Except Int (List Nd) :=
  if 256 < l.length then .error 1
  else match patF l (some (groupF l 49)) true 0 [] with
  | .error e => .error e
  | .ok (_, a, ns) => if a < l.length then .error 40 else .ok ns
theorem parseG_eq (l : List UInt8) : parseG l = parseF l := by
  unfold parseG parseF
  have hp : AdvO l (some (groupF l 49)) := fun f hf => by cases hf; exact group_adv 49
  rw [pat_outer hp]
  cases patF l (some (groupF l 49)) true 0 [] with
  | error e => rfl
  | ok x =>
    obtain ⟨k, a, ns1⟩ := x
    by_cases h : l[a]? = some 41
    · have hl := get_lt h
      rw [show shutK l (.ok (k, a, ns1) : Res) = .error 40 from by unfold shutK; simp only; rw [if_pos h]]
      simp only
      rw [if_pos hl]
    · rw [show shutK l (.ok (k, a, ns1) : Res) = .ok (k, a, ns1) from by unfold shutK; simp only; rw [if_neg h]]
end
end Px
end
end Go.Proofs.Ytgadomcbaenodaa

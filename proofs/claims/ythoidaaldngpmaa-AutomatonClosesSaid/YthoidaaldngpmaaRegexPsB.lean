/-
  The program's parser: bound and bounds of a quantifier in braces: they are boundsF's. Conditions: short patterns.
-/
import Derived.Test.YthoidaaldngpmaaRegexSet
import Derived.Test.YthoidaaldngpmaaRegexAdv
import Derived.Test.YthoidaaldngpmaaScanNum
namespace Go.Proofs.Ythoidaaldngpmaa
open Go.RowKit
namespace Rx
open Cm
/-- The parser as it stands, and what has been touched since w. -/
def St (w : World) (base rb : Nat) (s : ByteArray) (a : Nat) (D : Int) (ns : List Nd) (ks : List Value) (w' : World) : Prop := Prs w' base rb s (a : Int) D ns ks ∧ Below base w w' ∧ KeptP w w'
section
variable {w w0 : World} {base rb : Nat} {s : ByteArray} {a : Nat} {D : Int} {ns : List Nd} {ks : List Value}
theorem St.start (h : Prs w base rb s (a : Int) D ns ks) : St w base rb s a D ns ks w := ⟨h, Below.refl _ _, KeptX.refl _⟩
theorem St.drewN (h : St w0 base rb s a D ns ks w) (m : Nat) : St w0 base rb s a D ns ks (w.drewN m) := ⟨h.1.drewN m, below_drewN h.2.1 m, h.2.2.trans (KeptX.drewN _ _)⟩
theorem St.setAt (h : St w0 base rb s a D ns ks w) (b : Nat) : St w0 base rb s b D ns ks (w.setCell ⟨rb, 1, none⟩ (.int .i64 (b : Int))) := by
  obtain ⟨r1, r2, r3⟩ := h.1.setAt (b : Int)
  exact ⟨r1, h.2.1.trans r2, h.2.2.trans r3⟩
theorem St.setDepth (h : St w0 base rb s a D ns ks w) (E : Int) : St w0 base rb s a E ns ks (w.setCell ⟨rb, 2, none⟩ (.int .i64 E)) := by
  obtain ⟨r1, r2, r3⟩ := h.1.setDepth E
  exact ⟨r1, h.2.1.trans r2, h.2.2.trans r3⟩
theorem St.below {w1 : World} (h : St w0 base rb s a D ns ks w) (hb : Below w.heap.size w w1) : St w0 base rb s a D ns ks w1 := Prs.below h hb
theorem St.cells (h : St w0 base rb s a D ns ks w) : w.cell? ⟨rb, 0, none⟩ = some (.string s) ∧ w.cell? ⟨rb, 1, none⟩ = some (.int .i64 (a : Int)) ∧ w.cell? ⟨rb, 2, none⟩ = some (.int .i64 D) ∧ ∀ j, w.frozen? ⟨rb, j, none⟩ = false := by
  obtain ⟨⟨v, hb, hh, _⟩, _⟩ := h
  obtain ⟨c0, c1, c2, c3, hf⟩ := prs_cells hh
  exact ⟨c0, c1, c2, hf⟩
theorem take_T (h : St w0 base rb s a D ns ks w) (hs : s.size ≤ 1000000) {c : UInt8} (hx : (Tx.bs s)[a]? = some c) (n : Nat) (hc : c.toNat = n) :
    Calls Try.prog 75 #[.pointer (some ⟨rb, 0, none⟩), .int .u8 (n : Int)] w fun e w' => e = .returned (.bool true) ∧ St w0 base rb s (a + 1) D ns ks w' := by
  have hl := get_lt hx
  rw [Tx.bs_len] at hl
  refine (take_any h.1 (by omega) hs c n hc).mono fun e w' hp => ?_
  unfold TakeP at hp
  rw [if_pos hx] at hp
  exact ⟨hp.1, hp.2.1, h.2.1.trans hp.2.2.1, h.2.2.trans hp.2.2.2⟩
theorem take_F (h : St w0 base rb s a D ns ks w) (hs : s.size ≤ 1000000) (ha : a ≤ s.size) {c : UInt8} (hx : ¬ (Tx.bs s)[a]? = some c) (n : Nat) (hc : c.toNat = n) :
    Calls Try.prog 75 #[.pointer (some ⟨rb, 0, none⟩), .int .u8 (n : Int)] w fun e w' => e = .returned (.bool false) ∧ St w0 base rb s a D ns ks w' := by
  refine (take_any h.1 ha hs c n hc).mono fun e w' hp => ?_
  unfold TakeP at hp
  rw [if_neg hx] at hp
  obtain ⟨e1, m, rfl⟩ := hp
  exact ⟨e1, h.drewN m⟩
theorem next_T (h : St w0 base rb s a D ns ks w) (hs : s.size ≤ 1000000) {c : UInt8} (hx : (Tx.bs s)[a]? = some c) :
    Calls Try.prog 158 #[.pointer (some ⟨rb, 0, none⟩)] w fun e w' => e = .returned (.int .u8 (c.toNat : Int)) ∧ St w0 base rb s (a + 1) D ns ks w' := by
  have hl := get_lt hx
  rw [Tx.bs_len] at hl
  refine (next_any h.1 (by omega) hs).mono fun e w' hp => ?_
  unfold NextP at hp
  rw [hx] at hp
  exact ⟨hp.1, hp.2.1, h.2.1.trans hp.2.2.1, h.2.2.trans hp.2.2.2⟩
theorem next_F (h : St w0 base rb s a D ns ks w) (hs : s.size ≤ 1000000) (ha : a ≤ s.size) (hx : (Tx.bs s)[a]? = none) :
    Calls Try.prog 158 #[.pointer (some ⟨rb, 0, none⟩)] w fun e w' => e = pan 40 ∧ Below base w0 w' := by
  refine (next_any h.1 ha hs).mono fun e w' hp => ?_
  unfold NextP at hp
  rw [hx] at hp
  exact ⟨hp.1, h.2.1.trans hp.2⟩
set_option maxRecDepth 100000 in
theorem bound_T (h : St w0 base rb s a D ns ks w) (hs : s.size ≤ 1000000) {n e : Nat} (hn : Sc.numF (Tx.bs s) (a : Int) = some (n, e)) (h100 : n ≤ 100) :
    Calls Try.prog 159 #[.pointer (some ⟨rb, 0, none⟩)] w fun en w' => en = .returned (.int .i64 (n : Int)) ∧ St w0 base rb s e D ns ks w' := by
  have HN : Hid (∀ q, Calls Try.prog 163 #[.string s, .int .i64 (a : Int)] q fun en w' => en = .returned (.tuple #[.int .i64 (n : Int), .int .i64 (e : Int), .bool true]) ∧ q = w') := Lib.hid (fun q => by
    have := Sc.Number_any s (a : Int) q (by omega)
    rw [show Sc.bs s = Tx.bs s from rfl, hn] at this
    exact this)
  have HE := Lib.hid (fun q => ((h.drewN q).setAt e))
  obtain ⟨c0, c1, c2, hf⟩ := h.cells
  have f1 := hf 1
  have i1 : ¬ (100 : Int) < (n : Int) := by omega
  clear hf hn
  go_enter Try.func159, Try.ntmps159
  go_wp2_with fail
  go_quiet ((go_at_call 163; exact Calls.quiet_of_same ((HN.out _).mono fun _ _ h => ⟨h.1, h.2.symm⟩)))
  go_wp2_with fail
  go_ret
  exact ⟨rfl, HE.out _⟩
set_option maxRecDepth 100000 in
theorem bound_F (h : St w0 base rb s a D ns ks w) (hs : s.size ≤ 1000000) (hn : ∀ n e, Sc.numF (Tx.bs s) (a : Int) = some (n, e) → 100 < n) :
    Calls Try.prog 159 #[.pointer (some ⟨rb, 0, none⟩)] w fun en w' => en = pan 40 ∧ Below base w0 w' := by
  obtain ⟨c0, c1, c2, hf⟩ := h.cells
  have HB := Lib.hid (fun q => (h.drewN q).2.1)
  cases hv : Sc.numF (Tx.bs s) (a : Int) with
  | none =>
    have HN : Hid (∀ q, Calls Try.prog 163 #[.string s, .int .i64 (a : Int)] q fun en w' => en = .returned (.tuple #[.int .i64 0, .int .i64 0, .bool false]) ∧ q = w') := Lib.hid (fun q => by
      have := Sc.Number_any s (a : Int) q (by omega)
      rw [show Sc.bs s = Tx.bs s from rfl, hv] at this
      exact this)
    clear hf hn hv
    go_enter Try.func159, Try.ntmps159
    go_wp2_with fail
    go_quiet ((go_at_call 163; exact Calls.quiet_of_same ((HN.out _).mono fun _ _ h => ⟨h.1, h.2.symm⟩)))
    go_wp2_with fail
    exact ⟨rfl, rfl, HB.out _⟩
  | some p =>
    obtain ⟨n, e⟩ := p
    have h100 := hn n e hv
    have HN : Hid (∀ q, Calls Try.prog 163 #[.string s, .int .i64 (a : Int)] q fun en w' => en = .returned (.tuple #[.int .i64 (n : Int), .int .i64 (e : Int), .bool true]) ∧ q = w') := Lib.hid (fun q => by
      have := Sc.Number_any s (a : Int) q (by omega)
      rw [show Sc.bs s = Tx.bs s from rfl, hv] at this
      exact this)
    have i1 : (100 : Int) < (n : Int) := by omega
    clear hf hn hv
    go_enter Try.func159, Try.ntmps159
    go_wp2_with fail
    go_quiet ((go_at_call 163; exact Calls.quiet_of_same ((HN.out _).mono fun _ _ h => ⟨h.1, h.2.symm⟩)))
    go_wp2_with fail
    exact ⟨rfl, rfl, HB.out _⟩
/-- What 'bounds' leaves: at_ is the brace's place. -/
def PBPost (w0 : World) (base rb : Nat) (s : ByteArray) (D : Int) (ns : List Nd) (ks : List Value) (r : Option (Nat × Int × Nat)) (en : Ending) (w' : World) : Prop :=
  match r with
  | none => en = pan 40 ∧ Below base w0 w'
  | some (m, h, nx) => en = .returned (.tuple #[.int .i64 (m : Int), .int .i64 h]) ∧ St w0 base rb s (nx + 1) D ns ks w'
theorem finB_T {l : List UInt8} {m nx : Nat} {h : Int} (h1 : l[nx]? = some 125) (h2 : m ≤ 100) (h3 : h ≤ 100) (h4 : 0 ≤ h → (m : Int) ≤ h) : finB l m h nx = some (m, h, nx) := by unfold finB; rw [if_pos ⟨h1, h2, h3, h4⟩]
theorem finB_F {l : List UInt8} {m nx : Nat} {h : Int} (h1 : ¬ (l[nx]? = some 125 ∧ m ≤ 100 ∧ h ≤ 100 ∧ (0 ≤ h → (m : Int) ≤ h))) : finB l m h nx = none := by unfold finB; rw [if_neg h1]
theorem numF_le {l : List UInt8} {k : Nat} {n e : Nat} (h : Sc.numF l (k : Int) = some (n, e)) : k < e ∧ e ≤ l.length := by
  have := num_adv h; omega
theorem numF_past {l : List UInt8} {k : Nat} (h : l.length ≤ k) : Sc.numF l (k : Int) = none := by
  cases hv : Sc.numF l (k : Int) with
  | none => rfl
  | some p =>
    obtain ⟨n, e⟩ := p
    have := numF_le hv
    omega
set_option maxRecDepth 100000 in
set_option maxHeartbeats 2000000 in
theorem boundsP_any (h : St w0 base rb s (a + 1) D ns ks w) (hs : s.size ≤ 1000000) :
    Calls Try.prog 146 #[.pointer (some ⟨rb, 0, none⟩)] w (PBPost w0 base rb s D ns ks (boundsF (Tx.bs s) a)) := by
  have ec : ((a + 1 : Nat) : Int) = (a : Int) + 1 := by omega
  have hlen := Tx.bs_len s
  by_cases hbig : ∀ n e, Sc.numF (Tx.bs s) ((a + 1 : Nat) : Int) = some (n, e) → 100 < n
  · have HR : Hid (boundsF (Tx.bs s) a = none) := Lib.hid (by
      unfold boundsF
      rw [← ec]
      cases hv : Sc.numF (Tx.bs s) ((a + 1 : Nat) : Int) with
      | none => rfl
      | some p =>
        obtain ⟨n, e⟩ := p
        have h1 := hbig n e hv
        simp only
        split
        · split
          · split
            · rfl
            · exact finB_F (by omega)
          · exact finB_F (by omega)
        · exact finB_F (by omega))
    have HBd := Lib.hid (bound_F h hs hbig)
    clear h hbig
    go_enter Try.func146, Try.ntmps146
    go_wp2_with (go_at_call 159; refine HBd.out.mono ?_; rintro en w1 ⟨rfl, hb1⟩)
    refine ⟨rfl, ?_⟩
    rw [HR.out]
    exact ⟨rfl, hb1⟩
  · obtain ⟨n, e, hv, hn⟩ : ∃ n e, Sc.numF (Tx.bs s) ((a + 1 : Nat) : Int) = some (n, e) ∧ n ≤ 100 := by
      apply Classical.byContradiction
      intro hno
      apply hbig
      intro n e hv
      apply Classical.byContradiction
      intro h2
      exact hno ⟨n, e, hv, by omega⟩
    have hle := numF_le hv
    rw [hlen] at hle
    have HBd := Lib.hid (bound_T h hs hv hn)
    clear hbig h
    by_cases hcom : (Tx.bs s)[e]? = some 44
    · have he2 := get_lt hcom
      rw [hlen] at he2
      by_cases hcl : (Tx.bs s)[e + 1]? = some 125
      · have HR : Hid (boundsF (Tx.bs s) a = some (n, -1, e + 1)) := Lib.hid (by
          unfold boundsF
          rw [← ec, hv]
          simp only
          rw [if_pos hcom, if_neg (by rw [hcl]; simp)]
          exact finB_T hcl hn (by omega) (by omega))
        go_enter Try.func146, Try.ntmps146
        go_wp2_with (go_at_call 159; refine HBd.out.mono ?_; rintro en w1 ⟨rfl, S1⟩; have T1 := Lib.hid (take_T S1 hs hcom 44 rfl); clear S1)
        refine T1.out.mono ?_
        rintro en w2 ⟨rfl, S2⟩
        have T2 := Lib.hid (take_T S2 hs hcl 125 rfl)
        clear S2
        go_wp2_with fail
        refine T2.out.mono ?_
        rintro en w3 ⟨rfl, S3⟩
        have HS := Lib.hid S3
        clear S3
        go_wp2_with fail
        go_ret2
        rw [HR.out]
        exact ⟨rfl, HS.out⟩
      · by_cases hbig : ∀ n e', Sc.numF (Tx.bs s) ((e + 1 : Nat) : Int) = some (n, e') → 100 < n
        · have HR : Hid (boundsF (Tx.bs s) a = none) := Lib.hid (by
            unfold boundsF
            rw [← ec, hv]
            simp only
            rw [if_pos hcom]
            split
            · rw [show (e : Int) + 1 = ((e + 1 : Nat) : Int) from by omega]
              cases hv2 : Sc.numF (Tx.bs s) ((e + 1 : Nat) : Int) with
              | none => rfl
              | some p =>
                obtain ⟨n2, e2⟩ := p
                have := hbig n2 e2 hv2
                exact finB_F (by omega)
            · exact finB_F (by intro hx; exact hcl hx.1))
          go_enter Try.func146, Try.ntmps146
          go_wp2_with (go_at_call 159; refine HBd.out.mono ?_; rintro en w1 ⟨rfl, S1⟩; have T1 := Lib.hid (take_T S1 hs hcom 44 rfl); clear S1)
          refine T1.out.mono ?_
          rintro en w2 ⟨rfl, S2⟩
          have T2 := Lib.hid (take_F S2 hs (by omega) hcl 125 rfl)
          clear S2
          go_wp2_with fail
          refine T2.out.mono ?_
          rintro en w3 ⟨rfl, S3⟩
          have T3 := Lib.hid (bound_F S3 hs hbig)
          clear S3
          go_wp2_with fail
          refine T3.out.mono ?_
          rintro en w4 ⟨rfl, hb1⟩
          go_wp2_with fail
          refine ⟨rfl, ?_⟩
          rw [HR.out]
          exact ⟨rfl, hb1⟩
        · obtain ⟨n2, e2, hv2, hn2⟩ : ∃ n2 e2, Sc.numF (Tx.bs s) ((e + 1 : Nat) : Int) = some (n2, e2) ∧ n2 ≤ 100 := by
            apply Classical.byContradiction
            intro hno
            apply hbig
            intro n e hv
            apply Classical.byContradiction
            intro h2
            exact hno ⟨n, e, hv, by omega⟩
          have hle2 := numF_le hv2
          rw [hlen] at hle2
          have HF : Hid (boundsF (Tx.bs s) a = finB (Tx.bs s) n n2 e2) := Lib.hid (by
            unfold boundsF
            rw [← ec, hv]
            simp only
            rw [if_pos hcom, if_pos ⟨by rw [hlen]; omega, hcl⟩, show (e : Int) + 1 = ((e + 1 : Nat) : Int) from by omega, hv2])
          clear hbig
          by_cases hm : n ≤ n2
          · have i1 : ¬ (n2 : Int) < (n : Int) := by omega
            by_cases hend : (Tx.bs s)[e2]? = some 125
            · have HR : Hid (boundsF (Tx.bs s) a = some (n, (n2 : Int), e2)) := Lib.hid (by rw [HF.out]; exact finB_T hend hn (by omega) (by omega))
              go_enter Try.func146, Try.ntmps146
              go_wp2_with (go_at_call 159; refine HBd.out.mono ?_; rintro en w1 ⟨rfl, S1⟩; have T1 := Lib.hid (take_T S1 hs hcom 44 rfl); clear S1)
              refine T1.out.mono ?_
              rintro en w2 ⟨rfl, S2⟩
              have T2 := Lib.hid (take_F S2 hs (by omega) hcl 125 rfl)
              clear S2
              go_wp2_with fail
              refine T2.out.mono ?_
              rintro en w3 ⟨rfl, S3⟩
              have T3 := Lib.hid (bound_T S3 hs hv2 hn2)
              clear S3
              go_wp2_with fail
              refine T3.out.mono ?_
              rintro en w4 ⟨rfl, S4⟩
              have T4 := Lib.hid (take_T S4 hs hend 125 rfl)
              clear S4
              go_wp2_with fail
              refine T4.out.mono ?_
              rintro en w5 ⟨rfl, S5⟩
              have HS := Lib.hid S5
              clear S5
              go_wp2_with fail
              go_ret2
              rw [HR.out]
              exact ⟨rfl, HS.out⟩
            · have HR : Hid (boundsF (Tx.bs s) a = none) := Lib.hid (by rw [HF.out]; exact finB_F (by intro hx; exact hend hx.1))
              go_enter Try.func146, Try.ntmps146
              go_wp2_with (go_at_call 159; refine HBd.out.mono ?_; rintro en w1 ⟨rfl, S1⟩; have T1 := Lib.hid (take_T S1 hs hcom 44 rfl); clear S1)
              refine T1.out.mono ?_
              rintro en w2 ⟨rfl, S2⟩
              have T2 := Lib.hid (take_F S2 hs (by omega) hcl 125 rfl)
              clear S2
              go_wp2_with fail
              refine T2.out.mono ?_
              rintro en w3 ⟨rfl, S3⟩
              have T3 := Lib.hid (bound_T S3 hs hv2 hn2)
              clear S3
              go_wp2_with fail
              refine T3.out.mono ?_
              rintro en w4 ⟨rfl, S4⟩
              have T4 := Lib.hid (take_F S4 hs (by omega) hend 125 rfl)
              clear S4
              go_wp2_with fail
              refine T4.out.mono ?_
              rintro en w5 ⟨rfl, S5⟩
              have HS := Lib.hid S5
              clear S5
              go_wp2_with fail
              refine ⟨rfl, ?_⟩
              rw [HR.out]
              exact ⟨rfl, HS.out.2.1⟩
          · have i1 : (n2 : Int) < (n : Int) := by omega
            have HR : Hid (boundsF (Tx.bs s) a = none) := Lib.hid (by rw [HF.out]; exact finB_F (by omega))
            go_enter Try.func146, Try.ntmps146
            go_wp2_with (go_at_call 159; refine HBd.out.mono ?_; rintro en w1 ⟨rfl, S1⟩; have T1 := Lib.hid (take_T S1 hs hcom 44 rfl); clear S1)
            refine T1.out.mono ?_
            rintro en w2 ⟨rfl, S2⟩
            have T2 := Lib.hid (take_F S2 hs (by omega) hcl 125 rfl)
            clear S2
            go_wp2_with fail
            refine T2.out.mono ?_
            rintro en w3 ⟨rfl, S3⟩
            have T3 := Lib.hid (bound_T S3 hs hv2 hn2)
            clear S3
            go_wp2_with fail
            refine T3.out.mono ?_
            rintro en w4 ⟨rfl, S4⟩
            have HS := Lib.hid S4
            clear S4
            go_wp2_with fail
            refine ⟨rfl, ?_⟩
            rw [HR.out]
            exact ⟨rfl, HS.out.2.1⟩
    · have HF : Hid (boundsF (Tx.bs s) a = finB (Tx.bs s) n n e) := Lib.hid (by
        unfold boundsF
        rw [← ec, hv]
        simp only
        rw [if_neg hcom])
      have i1 : ¬ (n : Int) < (n : Int) := by omega
      by_cases hend : (Tx.bs s)[e]? = some 125
      · have HR : Hid (boundsF (Tx.bs s) a = some (n, (n : Int), e)) := Lib.hid (by rw [HF.out]; exact finB_T hend hn (by omega) (by omega))
        go_enter Try.func146, Try.ntmps146
        go_wp2_with (go_at_call 159; refine HBd.out.mono ?_; rintro en w1 ⟨rfl, S1⟩; have T1 := Lib.hid (take_F S1 hs (by omega) hcom 44 rfl); clear S1)
        refine T1.out.mono ?_
        rintro en w2 ⟨rfl, S2⟩
        have T2 := Lib.hid (take_T S2 hs hend 125 rfl)
        clear S2
        go_wp2_with fail
        refine T2.out.mono ?_
        rintro en w3 ⟨rfl, S3⟩
        have HS := Lib.hid S3
        clear S3
        go_wp2_with fail
        go_ret2
        rw [HR.out]
        exact ⟨rfl, HS.out⟩
      · have HR : Hid (boundsF (Tx.bs s) a = none) := Lib.hid (by rw [HF.out]; exact finB_F (by intro hx; exact hend hx.1))
        go_enter Try.func146, Try.ntmps146
        go_wp2_with (go_at_call 159; refine HBd.out.mono ?_; rintro en w1 ⟨rfl, S1⟩; have T1 := Lib.hid (take_F S1 hs (by omega) hcom 44 rfl); clear S1)
        refine T1.out.mono ?_
        rintro en w2 ⟨rfl, S2⟩
        have T2 := Lib.hid (take_F S2 hs (by omega) hend 125 rfl)
        clear S2
        go_wp2_with fail
        refine T2.out.mono ?_
        rintro en w3 ⟨rfl, S3⟩
        have HS := Lib.hid S3
        clear S3
        go_wp2_with fail
        refine ⟨rfl, ?_⟩
        rw [HR.out]
        exact ⟨rfl, HS.out.2.1⟩
end
end Rx
end Go.Proofs.Ythoidaaldngpmaa

/-
  The iterator over the partners of a script, whole. Conditions: the fields of the changes are numbers of lines.
-/
import Derived.Test.YtldommbelpcegaaScrIter
namespace Go.Proofs.Ytldommbelpcegaa
open Go.RowKit
attribute [local go_sem] Oper.semAt_some
namespace Sc
open Cm
def ChN (c : Ch) : Prop := (0 ≤ c.old ∧ c.old ≤ 4096) ∧ (0 ≤ c.oldLen ∧ c.oldLen ≤ 4096) ∧ (0 ≤ c.new ∧ c.new ≤ 4096) ∧ (0 ≤ c.newLen ∧ c.newLen ≤ 4096)
abbrev befV (X Y : Nat) : Value := .func (.func 49) #[] #[.pointer (some ⟨X, 0, none⟩), .pointer (some ⟨Y, 0, none⟩)]
/-- The iterator's state between two changes. -/
structure ItS (J : List Sp → List Nat → World → Prop) (PL : List Sp) (l : List Ch) (m : Int) (B : Nat) (A : Option Addr) (N c lp X Y n0 : Nat) (k : Nat) (i j : Int) (pre : List Sp) (O : List Nat) (W : World) : Prop where
  jj : J pre O W
  cap : Cap W B A N c l m
  x : W.heap[X]? = some (.cells #[.int .i64 i, .int .i64 j] tSp (0, 0))
  y : W.heap[Y]? = some (.cells #[yldV lp] tYld (0, 0))
  xo : X ∉ O ∧ Y ∉ O
  sz : n0 ≤ W.heap.size
  pl : pre ++ mtF m i j (l.drop k) = PL
theorem Cap.sepX {W : World} {B : Nat} {A : Option Addr} {N c : Nat} {l : List Ch} {m : Int} (h : Cap W B A N c l m) {n0 X : Nat} (hn : n0 = W.heap.size) (hX : n0 ≤ X) : Sep B A N X := h.sep (by omega)
theorem ItS.alloc {J : List Sp → List Nat → World → Prop} {PL : List Sp} {l : List Ch} {m : Int} {B : Nat} {A : Option Addr} {N c lp X Y n0 k : Nat} {i j : Int} {pre : List Sp} {O : List Nat} {W : World} (h : ItS J PL l m B A N c lp X Y n0 k i j pre O W)
    (hJ : ∀ pre O W W', J pre O W → Eff O n0 W W' → J pre O W') (hJl : ∀ pre O W, J pre O W → ∀ k ∈ O, k < W.heap.size ∧ Sep B A N k) (o : Obj) : ItS J PL l m B A N c lp X Y n0 k i j pre O (W.alloc o) := by
  have hk : KeptO [] W (W.alloc o) := (KeptO.refl _ _).alloc o
  have lx : X < W.heap.size := (Array.getElem?_eq_some_iff.1 h.x).1
  have ly : Y < W.heap.size := (Array.getElem?_eq_some_iff.1 h.y).1
  refine ⟨hJ _ _ _ _ h.jj (Eff.of_kept hk h.sz (fun k hk => (hJl _ _ _ h.jj k hk).1) (fun k hk => by cases hk)), h.cap.kept hk (fun k hk => by cases hk), (hk.block X lx (by simp)).trans h.x, (hk.block Y ly (by simp)).trans h.y, h.xo, Nat.le_trans h.sz hk.size, h.pl⟩
set_option maxRecDepth 100000 in
set_option maxHeartbeats 4000000 in
theorem matched1_in (f : Nat) (hf : 2 ≤ f) (lp B : Nat) (A : Option Addr) (N c : Nat) (l : List Ch) (m : Int) (hN : l.length = N) (hNb : N ≤ 1000000) (hb : ∀ c ∈ l, ChN c) (hm : 0 ≤ m ∧ m ≤ 4096)
    (J : List Sp → List Nat → World → Prop) (Jx : List Sp → World → Prop) (W : World) (hY : Yld (f - 1 - 1) lp J Jx (mtF m 0 0 l))
    (hJ : ∀ pre O W1 W', J pre O W1 → Eff O W.heap.size W1 W' → J pre O W') (hJl : ∀ pre O W, J pre O W → ∀ k ∈ O, k < W.heap.size ∧ Sep B A N k)
    (hc : Cap W B A N c l m) (O0 : List Nat) (h0 : J [] O0 W) :
    CallsIn Fence.wide f Try.prog 48 #[yldV lp, .pointer (some ⟨B, 0, none⟩), .pointer (some ⟨B + 1, 0, none⟩)] W (ItPost J Jx (mtF m 0 0 l)) := by
  have HB := Lib.hid hb
  obtain ⟨m0, m1⟩ := hm
  have hf1 : 1 ≤ f - 1 := by omega
  have hf0 : 1 ≤ f := by omega
  have HBef := Lib.hid (fun pre O i j old W1 a b c d e g1 g2 h k => before_in (f - 1) hf1 lp J Jx (mtF m 0 0 l) W.heap.size (W.heap.size + 1) W.heap.size hY hJ (fun pre O W h k hk => (hJl pre O W h k hk).1) pre O i j old W1 a b c d e g1 g2 h k)
  have hk2 : KeptO [] W ((W.alloc (.cells #[yldV lp] tYld)).alloc (.cells #[.int .i64 0, .int .i64 0] tSp)) := ((KeptO.refl _ _).alloc _).alloc _
  have HS0 : Hid (ItS J (mtF m 0 0 l) l m B A N c lp (W.heap.size + 1) W.heap.size W.heap.size 0 0 0 [] O0 ((W.alloc (.cells #[yldV lp] tYld)).alloc (.cells #[.int .i64 0, .int .i64 0] tSp))) := Lib.hid (by
    have a1 := heap_new W (.cells #[yldV lp] tYld)
    have a2 := heap_new (W.alloc (.cells #[yldV lp] tYld)) (.cells #[.int .i64 0, .int .i64 0] tSp)
    have s1 : (W.alloc (.cells #[yldV lp] tYld)).heap.size = W.heap.size + 1 := by simp
    rw [s1] at a2
    refine ⟨hJ _ _ _ _ h0 (Eff.of_kept hk2 (Nat.le_refl _) (fun k hk => (hJl _ _ _ h0 k hk).1) (fun k hk => by cases hk)), hc.kept hk2 (fun k hk => by cases hk), a2, (Below.heap_alloc _ _ _ (by rw [s1]; omega)).trans a1, ⟨fun hm => ?_, fun hm => ?_⟩, hk2.size, rfl⟩
    · have := (hJl _ _ _ h0 _ hm).1; omega
    · have := (hJl _ _ _ h0 _ hm).1; omega)
  have HCs := Lib.hid (fun k (hk : W.heap.size ≤ k) => hc.sep hk)
  have HJ := Lib.hid hJ
  have HJl := Lib.hid hJl
  have HN := Lib.hid hN
  have hcB := HS0.out.cap.b0
  have hcM := hc.b0
  clear hY hJ hJl h0 hc hb hN hk2
  refine callsIn_of_wp Try.func48 rfl trivial ?_ rfl
  simp only [Try.ntmps48, List.size_toArray, List.length_cons, List.length_nil, Nat.reduceAdd, Nat.reduceSub, Array.replicate_succ, Array.replicate_zero, List.push_toArray, List.append_toArray, List.nil_append, List.cons_append]
  gi_wp2
  generalize ((W.alloc (.cells #[yldV lp] tYld)).alloc (.cells #[.int .i64 0, .int .i64 0] tSp)) = W2 at HS0 hcB ⊢
  clear hcM
  generalize W.heap.size = n0 at *
  gi_loopw [11] (fun k' wr => ∃ (k : Nat) (i j : Int) (pre : List Sp) (O : List Nat), k' = .int .i64 (k : Int) ∧ k ≤ N ∧ (0 ≤ i ∧ i ≤ 10000) ∧ (0 ≤ j ∧ j ≤ 10000) ∧ Hid (ItS J (mtF m 0 0 l) l m B A N c lp (n0 + 1) n0 n0 k i j pre O wr)) (fun k' _ => N - (intOf k').toNat)
  case atStart => exact ⟨0, 0, 0, [], O0, rfl, Nat.zero_le _, ⟨by omega, by omega⟩, ⟨by omega, by omega⟩, HS0⟩
  case round =>
    obtain ⟨k, i, j, pre, O, rfl, hk, ⟨i0, i1⟩, ⟨j0, j1⟩, HS⟩ := hrel
    clear HS0 hcB
    by_cases hlt : k < N
    · have hx : k < l.length := by rw [HN.out]; exact hlt
      obtain ⟨b, off, rfl, c0, c1, c2, c3⟩ := RdC_at HS.out.cap.rd k hx
      obtain ⟨⟨o0, o1⟩, ⟨l0, l1⟩, ⟨w0, w1⟩, ⟨v0, v1⟩⟩ := HB.out _ (List.getElem_mem hx)
      have HPl : Hid (pre ++ (run i j (l[k].old - i).toNat ++ mtF m (l[k].old + l[k].oldLen) (l[k].new + l[k].newLen) (l.drop (k + 1))) = mtF m 0 0 l) := Lib.hid (by have := HS.out.pl; rw [drop_at hx] at this; exact this)
      have HSa := Lib.hid (HS.out.alloc HJ.out HJl.out (.cells #[.int .i64 l[k].old, .int .i64 l[k].oldLen, .int .i64 l[k].new, .int .i64 l[k].newLen] tCh))
      generalize l[k] = ch at *
      obtain ⟨o, ol, nw, nl⟩ := ch
      simp only at c0 c1 c2 c3 o0 o1 l0 l1 w0 w1 v0 v1
      have hdk : decide (k < N) = true := decide_eq_true hlt
      have q1 : (0 : Int) ≤ (k : Int) := by omega
      have q2 : (k : Int) < (N : Int) := by omega
      have HC : Hid (∀ kk, kk < (n0 + 1) + 1 → True) := Lib.hid (fun _ _ => trivial)
      have HCb : Hid ((wr.alloc (.cells #[.int .i64 o, .int .i64 ol, .int .i64 nw, .int .i64 nl] tCh)).heap[wr.heap.size]? = some (.cells #[.int .i64 o, .int .i64 ol, .int .i64 nw, .int .i64 nl] tCh (0, 0))) := Lib.hid (heap_new wr _)
      have HCo : Hid (wr.heap.size ∉ (n0 + 1) :: O) := Lib.hid (fun hm => by
        have lx : n0 + 1 < wr.heap.size := (Array.getElem?_eq_some_iff.1 HS.out.x).1
        rcases List.mem_cons.1 hm with h | h
        · omega
        · have := (HJl.out _ _ _ HS.out.jj _ h).1; omega)
      have hpre : pre ++ run i j (o - i).toNat <+: mtF m 0 0 l := by
        rw [← HPl.out, ← List.append_assoc]; exact List.prefix_append _ _
      have hbf := HBef.out pre O i j o (wr.alloc (.cells #[.int .i64 o, .int .i64 ol, .int .i64 nw, .int .i64 nl] tCh)) ⟨i0, by omega⟩ ⟨j0, by omega⟩ o1 hpre HSa.out.jj HSa.out.x HSa.out.y ⟨by omega, by omega, by omega, HSa.out.xo.1, HSa.out.xo.2⟩ HSa.out.sz
      have HBf := Lib.hid hbf
      clear hbf hpre HC
      gi_wp2_with (refine ⟨(trivial : Fence.wide.fn 49), ?_⟩; gi_at_call 49; refine HBf.out.mono ?_; clear HBf)
      · rintro e W3 (⟨rfl, O3, hJ3, hK3, hO3, hX3⟩ | ⟨rfl, pre', hp1, hp2, hp3⟩)
        · have hC3 : W3.heap[wr.heap.size]? = some (.cells #[.int .i64 o, .int .i64 ol, .int .i64 nw, .int .i64 nl] tCh (0, 0)) := (hK3.block _ (by simp) HCo.out).trans HCb.out
          have d0 : W3.cell? ⟨wr.heap.size, 0, none⟩ = some (.int .i64 o) := by simp [World.cell?, hC3]
          have d1 : W3.cell? ⟨wr.heap.size, 1, none⟩ = some (.int .i64 ol) := by simp [World.cell?, hC3]
          have d2 : W3.cell? ⟨wr.heap.size, 2, none⟩ = some (.int .i64 nw) := by simp [World.cell?, hC3]
          have d3 : W3.cell? ⟨wr.heap.size, 3, none⟩ = some (.int .i64 nl) := by simp [World.cell?, hC3]
          obtain ⟨⟨x0, x1⟩, xf⟩ := cells2 hX3
          have HNx : Hid (ItS J (mtF m 0 0 l) l m B (some ⟨b, off, none⟩) N c lp (n0 + 1) n0 n0 (k + 1) (o + ol) (nw + nl) (pre ++ run i j (o - i).toNat) O3 ((W3.setCell ⟨n0 + 1, 0, none⟩ (.int .i64 (o + ol))).setCell ⟨n0 + 1, 1, none⟩ (.int .i64 (nw + nl)))) := Lib.hid (by
            have lx : n0 + 1 < wr.heap.size := (Array.getElem?_eq_some_iff.1 HS.out.x).1
            have sa : (wr.alloc (.cells #[.int .i64 o, .int .i64 ol, .int .i64 nw, .int .i64 nl] tCh)).heap.size = wr.heap.size + 1 := by simp
            have s3 := hK3.size
            have hXn : n0 + 1 ∉ O3 := fun hm => by
              rcases hO3 _ hm with h | h
              · exact HSa.out.xo.1 h
              · omega
            have hYn : n0 ∉ O3 := fun hm => by
              rcases hO3 _ hm with h | h
              · exact HSa.out.xo.2 h
              · omega
            have hs : KeptO [n0 + 1] W3 ((W3.setCell ⟨n0 + 1, 0, none⟩ (.int .i64 (o + ol))).setCell ⟨n0 + 1, 1, none⟩ (.int .i64 (nw + nl))) := ((KeptO.refl [n0 + 1] W3).setCell (p := ⟨n0 + 1, 0, none⟩) (.inl (by simp)) _).setCell (p := ⟨n0 + 1, 1, none⟩) (.inl (by simp)) _
            have hall : KeptO ((n0 + 1) :: O) (wr.alloc (.cells #[.int .i64 o, .int .i64 ol, .int .i64 nw, .int .i64 nl] tCh)) ((W3.setCell ⟨n0 + 1, 0, none⟩ (.int .i64 (o + ol))).setCell ⟨n0 + 1, 1, none⟩ (.int .i64 (nw + nl))) := hK3.trans hs (fun k hk => by
              obtain rfl : k = n0 + 1 := by simpa using hk
              exact .inl (by simp))
            refine ⟨HJ.out _ _ _ _ hJ3 (Eff.of_kept hs (by have := HS.out.sz; omega) (fun k hk => (HJl.out _ _ _ hJ3 k hk).1) (fun k hk => ?_)), HSa.out.cap.kept hall (fun k hk => ?_), set2 hX3, ?_, ⟨hXn, hYn⟩, ?_, by rw [List.append_assoc]; exact HPl.out⟩
            · obtain rfl : k = n0 + 1 := by simpa using hk
              exact ⟨by omega, hXn⟩
            · rcases List.mem_cons.1 hk with h | h
              · subst h
                exact HCs.out _ (by omega)
              · exact (HJl.out _ _ _ HSa.out.jj k h).2
            · refine (hall.block n0 (by omega) (fun hm => ?_)).trans HSa.out.y
              rcases List.mem_cons.1 hm with h | h
              · omega
              · exact HSa.out.xo.2 h
            · have := hall.size
              have := HSa.out.sz
              omega)
          clear hC3 hX3 hJ3 hK3 hO3 HS HSa HCb HCo HPl c0 c1 c2 c3
          generalize wr.heap.size = cb at *
          gi_wp2
          go_roundw
          case rel => exact ⟨k + 1, o + ol, nw + nl, _, O3, by go_num, by omega, ⟨by omega, by omega⟩, ⟨by omega, by omega⟩, HNx⟩
          case measure => simp [intOf]; omega
        · have HQ := Lib.hid (And.intro hp1 (And.intro hp2 hp3))
          clear hp1 hp2 hp3
          gi_wp2
          go_end0
          exact ⟨⟨_, rfl⟩, .inr ⟨pre', HQ.out⟩⟩
    · have hdk : decide (k < N) = false := decide_eq_false hlt
      have hcm := HS.out.cap.b1
      have HPl : Hid (pre ++ run i j (m - i).toNat = mtF m 0 0 l) := Lib.hid (by
        have h := HS.out.pl
        rw [List.drop_eq_nil_of_le (by rw [HN.out]; omega)] at h
        exact h)
      have hbf := HBef.out pre O i j m wr ⟨i0, by omega⟩ ⟨j0, by omega⟩ m1 (by rw [HPl.out]; exact List.prefix_refl _) HS.out.jj HS.out.x HS.out.y ⟨by omega, by omega, by omega, HS.out.xo.1, HS.out.xo.2⟩ HS.out.sz
      have HBf := Lib.hid hbf
      clear hbf
      gi_wp2_with (refine ⟨(trivial : Fence.wide.fn 49), ?_⟩; gi_at_call 49; refine HBf.out.mono ?_; clear HBf)
      rintro e W3 (⟨rfl, O3, hJ3, hK3, hO3, hX3⟩ | ⟨rfl, pre', hp1, hp2, hp3⟩)
      · have HQ := Lib.hid hJ3
        clear hJ3 hK3 hO3 hX3
        gi_wp2
        go_end0
        exact ⟨⟨_, rfl⟩, .inl ⟨O3, by rw [← HPl.out]; exact HQ.out⟩⟩
      · have HQ := Lib.hid (And.intro hp1 (And.intro hp2 hp3))
        clear hp1 hp2 hp3
        gi_wp2
        go_end0
        exact ⟨⟨_, rfl⟩, .inr ⟨pre', HQ.out⟩⟩
end Sc
end Go.Proofs.Ytldommbelpcegaa

/-
  The verifier's made of layer 6: a valid automaton of raw numbers, as a function. Conditions: numbers that an int holds.
-/
import Derived.Test.YthoidaaldngpmaaAutoB
import Derived.Test.YthoidaaldngpmaaAutoAt
import Derived.Deep.RegionHeld3
import Derived.Deep.RegionLaw
import Derived.Deep.Cut
import Derived.Deep.CutRange
import Derived.Deep.QuietTactic
import Derived.BigQuiet
import Derived.BigRegion
import Derived.Deep.Onto
namespace Go.Proofs.Ythoidaaldngpmaa
open Go.RowKit
namespace Mk6
open Cm Rx Au
section
variable {ops : Array Oper} {rest : List Oper} {o : Oper} {a : Act} {Q : Exit → Act → World → Prop} {w : World}
/-- append of one new state onto states that the call owns. -/
theorem app_st (hg : Region.wanted o (yielded ops a.tmps) = true)
    (s x : Operand) (ho : o.op = .call { callee := .builtin .append, args := #[s, x], argTypes := #[tSts, tSts] })
    (base : Nat) (ss : List St) (st : St) (v : Value) (C : Array Value) (hs : a.eval s = v) (hown : w.ownsRow base tSt 7 v ss.length (flatS ss))
    (hx : a.eval x = .slice (some ⟨w.heap.size, 0, none⟩) 1 1) (hC : C.toList = stC st)
    (hsz : ss.length + 1 ≤ 1000000) (hbase : base ≤ w.heap.size)
    (h : ∀ v' w', w'.ownsRow base tSt 7 v' (ss.length + 1) (flatS (ss ++ [st])) → Below base w w' → (w.alloc (.cells C tSt)).grownBy w' v.ownBlock → wpList Try.prog ops Q rest (a.put o.dst v') w') :
    wpList Try.prog ops Q (o :: rest) a (w.alloc (.cells C tSt)) := by
  obtain ⟨i0, hi0, hz0, hz1, hz2⟩ := info_parts info_st
  have hsize : (w.alloc (.cells C tSt)).heap.size = w.heap.size + 1 := by simp
  refine wpList_wanted hg fun K hK => ?_
  refine wp_append_own _ s x _ ho base tSt i0 _ 7 56 Try.underlying38 hi0 hz0 hz1 hz2 rfl (by omega) v ss.length (flatS ss) hs (hown.alloc _) ⟨w.heap.size, 0, none⟩ 1 1 (stC st) hx
    rfl (fun j y hy => ?_) ?_ (by unfold maxLen; omega) ?_ (by omega) ?_
  · have he : (Addr.mk w.heap.size 0 none).add j = ⟨w.heap.size, j, none⟩ := by
      unfold Addr.add; split
      · rename_i h0; rw [h0]
      · simp
    rw [he, World.cell?_alloc_mark, ← hy, ← hC]; simp
  · intro y hy
    unfold stC at hy
    simp only [List.mem_cons, List.not_mem_nil, or_false] at hy
    rcases hy with rfl | rfl | rfl | rfl | rfl | rfl | rfl
    all_goals rfl
  · omega
  · intro v' w' h1 h2 _
    rw [← flatS_snoc] at h1
    exact hK _ _ (h v' w' h1 (((Below.refl base w).alloc hbase _).trans ((Below.refl base _).grown h2 (by omega) (fun k hk => (hown.lt k hk).1))) h2)
end
/-- The state i of the automaton of raw numbers. -/
def stF (us : List Int) (N : Int) (i : Nat) : St := ⟨Tx.modF (atF us (1 + 4 * (i : Int))) 5, putM noSet (97 + Tx.modF (atF us (4 + 4 * (i : Int))) 2).toNat, Tx.modF (atF us (2 + 4 * (i : Int))) N, Tx.modF (atF us (3 + 4 * (i : Int))) N⟩
def madeN (n : Int) : Int := 1 + Tx.modF n 6
def madeS (us : List Int) (n : Int) : List St := (List.range (madeN n).toNat).map (stF us (madeN n))
def madeT (us : List Int) (n : Int) : Int := Tx.modF (atF us 0) (madeN n)
theorem madeN_bd (n : Int) : 1 ≤ madeN n ∧ madeN n ≤ 6 := by
  have h1 := Tx.modF_lo n 6 (by decide)
  have h2 := Tx.modF_hi n 6 (by decide)
  unfold madeN
  omega
theorem madeS_len (us : List Int) (n : Int) : (madeS us n).length = (madeN n).toNat := by unfold madeS; rw [List.length_map, List.length_range]
theorem madeS_get (us : List Int) (n : Int) {k : Nat} (h : k < (madeS us n).length) : (madeS us n)[k] = stF us (madeN n) k := by
  simp [madeS]
theorem made_valid (us : List Int) (n : Int) : ValidA (madeS us n) (madeT us n) := by
  have hN := madeN_bd n
  have hl := madeS_len us n
  refine ⟨by omega, ?_, fun k h => ?_⟩
  · have h1 := Tx.modF_lo (atF us 0) (madeN n) (by omega)
    have h2 := Tx.modF_hi (atF us 0) (madeN n) (by omega)
    unfold hasB madeT
    exact decide_eq_true (by omega)
  · rw [madeS_get us n h]
    have a1 := Tx.modF_lo (atF us (1 + 4 * (k : Int))) 5 (by decide)
    have a2 := Tx.modF_hi (atF us (1 + 4 * (k : Int))) 5 (by decide)
    have b1 := Tx.modF_lo (atF us (2 + 4 * (k : Int))) (madeN n) (by omega)
    have b2 := Tx.modF_hi (atF us (2 + 4 * (k : Int))) (madeN n) (by omega)
    have c1 := Tx.modF_lo (atF us (3 + 4 * (k : Int))) (madeN n) (by omega)
    have c2 := Tx.modF_hi (atF us (3 + 4 * (k : Int))) (madeN n) (by omega)
    have e1 : (stF us (madeN n) k).next = Tx.modF (atF us (2 + 4 * (k : Int))) (madeN n) := rfl
    have e2 : (stF us (madeN n) k).other = Tx.modF (atF us (3 + 4 * (k : Int))) (madeN n) := rfl
    have hb : hasB (madeS us n).length (stF us (madeN n) k).next = true := decide_eq_true (by rw [hl, e1]; omega)
    have hc : hasB (madeS us n).length (stF us (madeN n) k).other = true := decide_eq_true (by rw [hl, e2]; omega)
    unfold okS
    rw [hb, hc]
    have hk : (stF us (madeN n) k).kind = Tx.modF (atF us (1 + 4 * (k : Int))) 5 := rfl
    rw [hk]
    split
    · rfl
    · split
      · rfl
      · exact decide_eq_true (by omega)
theorem words_at {w : World} {H : Nat} {k x0 x1 x2 x3 nx ox : Value} (h : w.heap[H]? = some (.cells #[k, x0, x1, x2, x3, nx, ox] tSt (0, 0))) : w.cell? ⟨H, 1, none⟩ = some x0 ∧ w.cell? ⟨H, 2, none⟩ = some x1 ∧ w.cell? ⟨H, 3, none⟩ = some x2 ∧ w.cell? ⟨H, 4, none⟩ = some x3 ∧ ∀ j, w.frozen? ⟨H, j, none⟩ = false := by
  refine ⟨?_, ?_, ?_, ?_, fun j => ?_⟩
  · simp [World.cell?, h]
  · simp [World.cell?, h]
  · simp [World.cell?, h]
  · simp [World.cell?, h]
  · simp [World.frozen?, h]
abbrev tAuM : TypeId := 40
abbrev zeroAu : Obj := .cells #[.slice none 0 0, .int .i64 0] tAuM
/-- The automaton under way: its variable, and its states so far. -/
structure MadeI (w wr : World) (base : Nat) (v : Value) (st : Int) (ss : List St) : Prop where
  b : Below w.heap.size w wr
  r4 : wr.heap[w.heap.size]? = some zeroAu
  r5 : wr.heap[w.heap.size + 1]? = some (.cells #[v, .int .i64 st] tAuM (0, 0))
  own : wr.ownsRow base tSt 7 v ss.length (flatS ss)
  lt : w.heap.size + 1 < base ∧ base ≤ wr.heap.size
theorem MadeI.below {w wr wx : World} {base : Nat} {v : Value} {st : Int} {ss : List St} (h : MadeI w wr base v st ss) (hb : Below wr.heap.size wr wx) : MadeI w wx base v st ss :=
  ⟨h.b.trans (hb.mono h.b.size), (hb.block _ (lt_some h.r4)).trans h.r4, (hb.block _ (lt_some h.r5)).trans h.r5, own_same h.own (fun k hk => hb.block k hk), h.lt.1, by have := hb.size; have := h.lt.2; omega⟩
theorem MadeI.grow {w wr w1 : World} {base : Nat} {v v1 : Value} {st : Int} {ss : List St} {x : St} (h : MadeI w wr base v st ss) (hb : Below base wr w1) (ho : w1.ownsRow base tSt 7 v1 (ss.length + 1) (flatS (ss ++ [x]))) : MadeI w (w1.setCell ⟨w.heap.size + 1, 0, none⟩ v1) base v1 st (ss ++ [x]) := by
  have h5 := (hb.block _ h.lt.1).trans h.r5
  have h4 := (hb.block _ (by have := h.lt.1; omega)).trans h.r4
  have hs := set_block (o := 0) (u := v1) h5
  refine ⟨(h.b.trans (hb.mono (by have := h.lt.1; omega))).setCell (p := ⟨w.heap.size + 1, 0, none⟩) (by show w.heap.size ≤ w.heap.size + 1; omega) _, (Below.heap_setCell _ _ _ _ (by show w.heap.size ≠ w.heap.size + 1; omega)).trans h4, hs, ?_, h.lt.1, by have := hb.size; have := h.lt.2; simp [World.setCell]; omega⟩
  rw [List.length_append, List.length_singleton]
  exact ownsRow_setCell_below ho (a := ⟨w.heap.size + 1, 0, none⟩) h.lt.1 _
set_option maxRecDepth 100000 in
set_option maxHeartbeats 1000000 in
theorem made_any (v : Value) (us : List Int) (n : Int) (w : World) (h : RdV w v (intsV us)) (hu : us.length ≤ maxLen) (hn : -9223372036854775808 ≤ n ∧ n ≤ 9223372036854775807) :
    Calls Try.prog 34 #[v, .int .i64 n] w fun e w' => ∃ vS, e = .returned (.agg #[vS, .int .i64 (madeT us n)]) ∧ w'.ownsRow w.heap.size tSt 7 vS (madeS us n).length (flatS (madeS us n)) ∧ Below w.heap.size w w' := by
  have HAt := Lib.hid (fun (wq : World) (k : Int) (hb : Below w.heap.size w wq) (h0 : 0 ≤ k) (h1 : k ≤ 1000000) => At_fn v us k wq (h.below hb) hu h0 h1)
  have HR := Lib.hid h
  have n1 := hn.1
  have n2 := hn.2
  have hN := madeN_bd n
  have HDef : Hid (madeN n = 1 + Tx.modF n 6) := Lib.hid rfl
  have HT : Hid (madeT us n = Tx.modF (atF us 0) (madeN n)) := Lib.hid rfl
  have HSl := Lib.hid (madeS_len us n)
  have HSg : Hid (∀ q, (hq : q < (madeS us n).length) → (madeS us n).take (q + 1) = (madeS us n).take q ++ [stF us (madeN n) q]) := Lib.hid (fun q hq => by
    rw [List.take_succ_eq_append_getElem hq, madeS_get us n hq])
  have HSa : Hid ((madeS us n).take (madeS us n).length = madeS us n) := Lib.hid (List.take_length ..)
  generalize madeS us n = sS at *
  generalize madeT us n = sT at *
  generalize madeN n = N at *
  obtain ⟨A, c, rfl⟩ := HR.out.form
  rw [intsV_len] at HAt ⊢
  generalize us.length = nu at HAt ⊢
  clear h hu hn HR
  have m7lo := Tx.modF_lo n 6 (by decide)
  have m7hi := Tx.modF_hi n 6 (by decide)
  go_enter Try.func34, Try.ntmps34
  have HB1 : Hid (Below w.heap.size w (w.alloc zeroAu)) := Lib.hid ((Below.refl _ _).alloc (Nat.le_refl _) _)
  go_upto_region 3 with (first | (go_at_call 22; refine (Tx.Mod_any _ _ _ (by omega) (by omega) (by first | exact atF_lo _ _ | omega) (by first | exact atF_hi _ _ | omega)).mono ?_; rintro e w7 ⟨rfl, rfl⟩) | (go_at_call 23; refine (HAt.out _ _ HB1.out (by omega) (by omega)).mono ?_; rintro e w7 ⟨rfl, rfl⟩))
  have HI0 : Hid (MadeI w ((w.alloc zeroAu).alloc (.cells #[.slice none 0 0, .int .i64 (Tx.modF (atF us 0) (1 + Tx.modF n 6))] tAuM)) (w.heap.size + 1 + 1) (.slice none 0 0) (Tx.modF (atF us 0) (1 + Tx.modF n 6)) (sS.take 0)) := Lib.hid (by
    have s1 : (w.alloc zeroAu).heap.size = w.heap.size + 1 := by simp
    have a1 := heap_new w zeroAu
    have a2 := heap_new (w.alloc zeroAu) (.cells #[.slice none 0 0, .int .i64 (Tx.modF (atF us 0) (1 + Tx.modF n 6))] tAuM)
    rw [s1] at a2
    exact ⟨HB1.out.alloc (by rw [s1]; omega) _, (Below.heap_alloc _ _ _ (by rw [s1]; omega)).trans a1, a2, World.ownsRow_nil _ _ _ _, by omega, by simp⟩)
  rw [HDef.out] at HT HSl HSg
  generalize Tx.modF n 6 = m7 at *
  rw [← HT.out] at HI0 ⊢
  generalize (w.alloc zeroAu).alloc (.cells #[.slice none 0 0, .int .i64 sT] tAuM) = w2 at HI0 ⊢
  obtain ⟨base, hbase⟩ : ∃ base, base = w.heap.size + 1 + 1 := ⟨_, rfl⟩
  rw [← hbase] at HI0
  clear hbase HB1 HDef HT
  go_wp2_with fail
  go_loopw [6] (fun i wr => ∃ (q : Nat) (v : Value), q ≤ (1 + m7).toNat ∧ i = .int .i64 (q : Int) ∧ Hid (MadeI w wr base v sT (sS.take q))) (fun i _ => (1 + m7).toNat - (intOf i).toNat)
  case atStart => exact ⟨0, _, Nat.zero_le _, by go_num, HI0⟩
  case round =>
    obtain ⟨q, v, hq, rfl, HI⟩ := hrel
    by_cases hlt : (q : Int) < 1 + m7
    · have HSgq := Lib.hid (HSg.out q (by rw [HSl.out]; omega))
      have hlq : (sS.take q).length = q := by rw [List.length_take, HSl.out]; omega
      have HLq := Lib.hid hlq
      have HSd : Hid (stF us (1 + m7) q = ⟨Tx.modF (atF us (1 + 4 * (q : Int))) 5, putM noSet (97 + Tx.modF (atF us (4 + 4 * (q : Int))) 2).toNat, Tx.modF (atF us (2 + 4 * (q : Int))) (1 + m7), Tx.modF (atF us (3 + 4 * (q : Int))) (1 + m7)⟩) := Lib.hid rfl
      generalize stF us (1 + m7) q = x at HSgq HSd
      clear hlq
      generalize sS.take q = sq at HSgq HLq HI
      go_upto_region 7 with (first | (go_at_call 22; refine (Tx.Mod_any _ _ _ (by omega) (by omega) (by first | exact atF_lo _ _ | omega) (by first | exact atF_hi _ _ | omega)).mono ?_; rintro e w7 ⟨rfl, rfl⟩) | (go_at_call 23; refine (HAt.out _ _ HI.out.b (by omega) (by omega)).mono ?_; rintro e w7 ⟨rfl, rfl⟩))
      have r1 := Tx.modF_lo (atF us (4 + 4 * (q : Int))) 2 (by decide)
      have r2 := Tx.modF_hi (atF us (4 + 4 * (q : Int))) 2 (by decide)
      have HR2 : Hid (∀ W : World, Calls Try.prog 48 #[.agg #[.int .u64 0, .int .u64 0, .int .u64 0, .int .u64 0], .int .u8 (97 + Tx.modF (atF us (4 + 4 * (q : Int))) 2)] W fun e w' => e = .returned (setV (putM noSet (97 + Tx.modF (atF us (4 + 4 * (q : Int))) 2).toNat)) ∧ Below W.heap.size W w') := Lib.hid (fun W => by
        have h := Put_any noSet (UInt8.ofNat (97 + Tx.modF (atF us (4 + 4 * (q : Int))) 2).toNat) W
        have e1 : (UInt8.ofNat (97 + Tx.modF (atF us (4 + 4 * (q : Int))) 2).toNat).toNat = (97 + Tx.modF (atF us (4 + 4 * (q : Int))) 2).toNat := by
          rw [UInt8.toNat_ofNat']; exact Nat.mod_eq_of_lt (by omega)
        rw [e1, show (((97 + Tx.modF (atF us (4 + 4 * (q : Int))) 2).toNat : Nat) : Int) = 97 + Tx.modF (atF us (4 + 4 * (q : Int))) 2 from by omega] at h
        unfold setV at h
        simp only [show ∀ j, word noSet j = 0 from fun j => word_none j] at h
        exact h)
      have HXs : Hid (x.set = putM noSet (97 + Tx.modF (atF us (4 + 4 * (q : Int))) 2).toNat) := Lib.hid (by rw [HSd.out])
      have HPut := HR2
      rw [← HXs.out] at HPut
      unfold setV at HPut
      clear HR2 HXs
      have HSx : Hid (stC x = [.int .i64 (Tx.modF (atF us (1 + 4 * (q : Int))) 5), .int .u64 (word x.set 0 : Nat), .int .u64 (word x.set 1 : Nat), .int .u64 (word x.set 2 : Nat), .int .u64 (word x.set 3 : Nat), .int .i64 (Tx.modF (atF us (2 + 4 * (q : Int))) (1 + m7)), .int .i64 (Tx.modF (atF us (3 + 4 * (q : Int))) (1 + m7))]) := Lib.hid (by unfold stC; rw [HSd.out])
      clear HSd
      have HX0 : Hid ((wr.alloc (.cells #[.int .i64 (Tx.modF (atF us (1 + 4 * (q : Int))) 5), .int .u64 0, .int .u64 0, .int .u64 0, .int .u64 0, .int .i64 (Tx.modF (atF us (2 + 4 * (q : Int))) (1 + m7)), .int .i64 (Tx.modF (atF us (3 + 4 * (q : Int))) (1 + m7))] tSt)).heap[wr.heap.size]? = some (.cells #[.int .i64 (Tx.modF (atF us (1 + 4 * (q : Int))) 5), .int .u64 0, .int .u64 0, .int .u64 0, .int .u64 0, .int .i64 (Tx.modF (atF us (2 + 4 * (q : Int))) (1 + m7)), .int .i64 (Tx.modF (atF us (3 + 4 * (q : Int))) (1 + m7))] tSt (0, 0))) := Lib.hid (heap_new wr _)
      have HBx : Hid (Below wr.heap.size wr (wr.alloc (.cells #[.int .i64 (Tx.modF (atF us (1 + 4 * (q : Int))) 5), .int .u64 0, .int .u64 0, .int .u64 0, .int .u64 0, .int .i64 (Tx.modF (atF us (2 + 4 * (q : Int))) (1 + m7)), .int .i64 (Tx.modF (atF us (3 + 4 * (q : Int))) (1 + m7))] tSt))) := Lib.hid ((Below.refl _ _).alloc (Nat.le_refl _) _)
      generalize Tx.modF (atF us (1 + 4 * (q : Int))) 5 = kx at *
      generalize Tx.modF (atF us (2 + 4 * (q : Int))) (1 + m7) = nx at *
      generalize Tx.modF (atF us (3 + 4 * (q : Int))) (1 + m7) = ox at *
      generalize word x.set 0 = x0 at HPut HSx
      generalize word x.set 1 = x1 at HPut HSx
      generalize word x.set 2 = x2 at HPut HSx
      generalize word x.set 3 = x3 at HPut HSx
      generalize wr.alloc (.cells #[.int .i64 kx, .int .u64 0, .int .u64 0, .int .u64 0, .int .u64 0, .int .i64 nx, .int .i64 ox] tSt) = wx at HX0 HBx ⊢
      have HAtX := Lib.hid (HAt.out wx.drew (4 + 4 * (q : Int)) ((HI.out.b.trans (HBx.out.mono HI.out.b.size)).drew) (by omega) (by omega))
      have z1 := atF_lo us (4 + 4 * (q : Int))
      have z2 := atF_hi us (4 + 4 * (q : Int))
      generalize atF us (4 + 4 * (q : Int)) = z4 at *
      have HMd := Lib.hid (fun W => Tx.Mod_any z4 2 W (by decide) (by decide) z1 z2)
      generalize Tx.modF z4 2 = r4 at *
      clear z1 z2
      have hw1 : IntKind.i64.wrap (4 * (q : Int)) = 4 * (q : Int) := IntWalk.i64_in _ (by omega)
      have hw2 : IntKind.i64.wrap (4 + 4 * (q : Int)) = 4 + 4 * (q : Int) := IntWalk.i64_in _ (by omega)
      have hw3 : IntKind.u8.wrap r4 = r4 := by rw [IntKind.wrap_u8]; omega
      have hw4 : IntKind.u8.wrap (97 + r4) = 97 + r4 := by rw [IntKind.wrap_u8]; omega
      obtain ⟨g1, g2, g3, g4, g5⟩ := words_at HX0.out
      go_cut [6] from 16 to 59 (fun tq wy => tq = .int .i64 (q : Int) ∧ Hid (Below wr.heap.size wr wy) ∧ Hid (wy.heap[wr.heap.size]? = some (.cells #[.int .i64 kx, .int .u64 x0, .int .u64 x1, .int .u64 x2, .int .u64 x3, .int .i64 nx, .int .i64 ox] tSt (0, 0))))
      case first =>
        go_region_with (first | (go_at_call 23; (try rw [hw1, hw2]); refine HAtX.out.mono ?_; rintro e w7 ⟨rfl, rfl⟩) | (go_at_call 22; refine (HMd.out _).mono ?_; rintro e w7 ⟨rfl, rfl⟩) | (go_at_call 48; (try rw [hw3, hw4]); refine (HPut.out _).mono ?_; rintro e w8 ⟨rfl, B8⟩; have h8 := (B8.block _ (lt_some HX0.out)).trans HX0.out; have HB8 := Lib.hid (HBx.out.drew.trans (B8.mono HBx.out.size)); have HH8 := Lib.hid h8; obtain ⟨e1, e2, e3, e4, e5⟩ := words_at h8; clear h8 B8))
        all_goals
          go_wp2_with fail
          go_meet
          case rel =>
            refine ⟨rfl, Lib.hid ((((HB8.out.setCell (p := ⟨wr.heap.size, 1, none⟩) (Nat.le_refl _) _).setCell (p := ⟨wr.heap.size, 2, none⟩) (Nat.le_refl _) _).setCell (p := ⟨wr.heap.size, 3, none⟩) (Nat.le_refl _) _).setCell (p := ⟨wr.heap.size, 4, none⟩) (Nat.le_refl _) _), Lib.hid ?_⟩
            exact set_block (o := 4) (set_block (o := 3) (set_block (o := 2) (set_block (o := 1) HH8.out)))
      case rest =>
        obtain ⟨rfl, HBy, HHy⟩ := hcut
        clear HAtX HMd HPut HX0 HBx g1 g2 g3 g4 g5 hw1 hw2 hw3 hw4 r1 r2
        have HIy := Lib.hid (HI.out.below HBy.out)
        clear HI
        obtain ⟨_, h4, h5, ho, hl⟩ := HIy.out
        obtain ⟨Av, cv, hvs, _⟩ := RdA.of_own ho
        subst hvs
        have HOy := Lib.hid ho
        have c0 : wc.cell? ⟨w.heap.size + 1, 0, none⟩ = some (.slice Av sq.length cv) := by simp [World.cell?, h5]
        have f0 : wc.frozen? ⟨w.heap.size + 1, 0, none⟩ = false := by simp [World.frozen?, h5]
        have k0 : wc.cell? ⟨wr.heap.size, 0, none⟩ = some (.int .i64 kx) := by simp [World.cell?, HHy.out]
        have k1 : wc.cell? ⟨wr.heap.size, 1, none⟩ = some (.int .u64 x0) := by simp [World.cell?, HHy.out]
        have k2 : wc.cell? ⟨wr.heap.size, 2, none⟩ = some (.int .u64 x1) := by simp [World.cell?, HHy.out]
        have k3 : wc.cell? ⟨wr.heap.size, 3, none⟩ = some (.int .u64 x2) := by simp [World.cell?, HHy.out]
        have k4 : wc.cell? ⟨wr.heap.size, 4, none⟩ = some (.int .u64 x3) := by simp [World.cell?, HHy.out]
        have k5 : wc.cell? ⟨wr.heap.size, 5, none⟩ = some (.int .i64 nx) := by simp [World.cell?, HHy.out]
        have k6 : wc.cell? ⟨wr.heap.size, 6, none⟩ = some (.int .i64 ox) := by simp [World.cell?, HHy.out]
        have hlb := hl.2
        have hR5 := hl.1
        have HR5 := Lib.hid hl.1
        clear h4 h5 ho hl hR5
        have HLk := Lib.hid HLq.out
        have HCl : Hid ((#[Value.int .i64 kx, .int .u64 (x0 : Int), .int .u64 (x1 : Int), .int .u64 (x2 : Int), .int .u64 (x3 : Int), .int .i64 nx, .int .i64 ox] : Array Value).toList = stC x) := Lib.hid (by rw [HSx.out])
        clear HSx HHy HBy
        generalize wr.heap.size = H at *
        go_upto_region 8 with fail
        go_wp2_with (at_builtin; refine app_st rfl (.tmp 55) (.tmp 57) rfl base sq x (.slice Av sq.length cv) _ rfl HOy.out rfl HCl.out (by rw [HLk.out]; omega) hlb ?_; intro v1 w1 ho1 hb1 _; have HG1 := Lib.hid (HIy.out.grow hb1 ho1); have ho2 : w1.ownsRow base tSt 7 v1 (sq ++ [x]).length (flatS (sq ++ [x])) := (by rw [List.length_append, List.length_singleton]; exact ho1); obtain ⟨A1, c1, hv1, _⟩ := RdA.of_own ho2; subst hv1; rw [List.length_append, List.length_singleton] at HG1; have d0 := (hb1.cell (p := ⟨w.heap.size + 1, 0, none⟩) HR5.out).trans c0; have e0 := (hb1.frozen (p := ⟨w.heap.size + 1, 0, none⟩) HR5.out).trans f0; clear ho1 hb1 ho2)
        go_roundw
        case rel => exact ⟨q + 1, _, by omega, by go_num, by rw [HSgq.out]; exact HG1⟩
        case measure => simp [intOf]; omega
    · have hd : decide ((q : Int) < 1 + m7) = false := decide_eq_false hlt
      have HEq : Hid (sS.take q = sS) := Lib.hid (by
        have : q = sS.length := by rw [HSl.out]; omega
        rw [this]; exact HSa.out)
      rw [HEq.out] at HI
      obtain ⟨_, h4, h5, ho, hl⟩ := HI.out
      obtain ⟨Av, cv, hvs, _⟩ := RdA.of_own ho
      subst hvs
      have c0 : wr.cell? ⟨w.heap.size + 1, 0, none⟩ = some (.slice Av sS.length cv) := by simp [World.cell?, h5]
      have c1 : wr.cell? ⟨w.heap.size + 1, 1, none⟩ = some (.int .i64 sT) := by simp [World.cell?, h5]
      have d0 : wr.cell? ⟨w.heap.size, 0, none⟩ = some (.slice none 0 0) := by simp [World.cell?, h4]
      have d1 : wr.cell? ⟨w.heap.size, 1, none⟩ = some (.int .i64 0) := by simp [World.cell?, h4]
      have f0 : ∀ j, wr.frozen? ⟨w.heap.size, j, none⟩ = false := fun j => by simp [World.frozen?, h4]
      have HT6 : Hid (∀ u1 u2, ((wr.setCell ⟨w.heap.size, 0, none⟩ u1).setCell ⟨w.heap.size, 1, none⟩ u2).heap[w.heap.size]? = some (.cells #[u1, u2] tAuM (0, 0))) := Lib.hid (fun u1 u2 => set_block (o := 1) (u := u2) (set_block (o := 0) (u := u1) h4))
      have HO6 : Hid (∀ u1 u2, ((wr.setCell ⟨w.heap.size, 0, none⟩ u1).setCell ⟨w.heap.size, 1, none⟩ u2).ownsRow w.heap.size tSt 7 (.slice Av sS.length cv) sS.length (flatS sS)) := Lib.hid (fun u1 u2 => World.ownsRow.mono (ownsRow_setCell_below (ownsRow_setCell_below ho (a := ⟨w.heap.size, 0, none⟩) (by show w.heap.size < base; omega) u1) (a := ⟨w.heap.size, 1, none⟩) (by show w.heap.size < base; omega) u2) (by omega))
      have HB6 : Hid (∀ u1 u2, Below w.heap.size w ((wr.setCell ⟨w.heap.size, 0, none⟩ u1).setCell ⟨w.heap.size, 1, none⟩ u2)) := Lib.hid (fun u1 u2 => (HI.out.b.setCell (p := ⟨w.heap.size, 0, none⟩) (Nat.le_refl _) u1).setCell (p := ⟨w.heap.size, 1, none⟩) (Nat.le_refl _) u2)
      clear h4 h5 ho hl HI
      go_wp2_with fail
      refine bodyPost_ret (results_cell_row (p := 4) rfl _ _ _ _ _ _ _ rfl (HT6.out _ _) Try.underlying40 rfl (by kernel_rfl)) rfl ?_
      exact ⟨_, rfl, HO6.out _ _, HB6.out _ _⟩
end Mk6
end Go.Proofs.Ythoidaaldngpmaa

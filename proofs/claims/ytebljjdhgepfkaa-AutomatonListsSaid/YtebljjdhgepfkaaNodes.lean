/-
  The law's lists of nodes: what they give, whatever the raw numbers are. No conditions beyond the lengths.
-/
import Derived.Test.YtebljjdhgepfkaaAutoAt
import Derived.Test.YtebljjdhgepfkaaRegexReaderB
import Derived.Test.YtebljjdhgepfkaaRegexMath
import Derived.Test.YtebljjdhgepfkaaRegexRead
import Derived.Deep.Cut
import Derived.Deep.RegionWith
namespace Go.Proofs.Ytebljjdhgepfkaa
open Go.RowKit
namespace No
open Cm Rx Au Tx
/-- A node at place i, as the law makes it. -/
def Small (i : Nat) (x : Nd) : Prop :=
  (x.kids = [] ∧ 0 ≤ x.kind ∧ x.kind ≤ 3) ∨ (x.kind = 6 ∧ (∃ k : Int, x.kids = [k] ∧ 0 ≤ k ∧ k < i) ∧ 0 ≤ x.mn ∧ x.mn ≤ 2 ∧ (x.mx = -1 ∨ (x.mn ≤ x.mx ∧ x.mx ≤ x.mn + 2))) ∨ ((x.kind = 4 ∨ x.kind = 5) ∧ ∃ k m : Int, x.kids = [k, m] ∧ 0 ≤ k ∧ k < i ∧ 0 ≤ m ∧ m < i)
structure MkI (w wr : World) (v : Value) (q : Nat) (ns : List Nd) (ks : List Value) : Prop where
  own : OwnN wr w.heap.size v ns ks
  len : ns.length = q
  small : ∀ k (h : k < ns.length), Small k ns[k]
  b : Below w.heap.size w wr
/-- The node of a round, in its block. -/
structure XAt (w wy : World) (X : Nat) (i : Nat) (x : Nd) (kv : Value) : Prop where
  heap : wy.heap[X]? = some (.cells (ndC x kv).toArray tNode (0, 0))
  kids : wy.ownsRow w.heap.size tInt 1 kv x.kids.length (intsV x.kids)
  small : Small i x
section
variable {ops : Array Oper} {rest : List Oper} {o : Oper} {a : Act} {Q : Exit → Act → World → Prop} {w : World}
theorem app_k {t e : TypeId} {z : Value} {k bytes : Nat} (hk : 0 < k) (hg : Region.wanted o (yielded ops a.tmps) = true) (ht : Try.prog.underlying t = some (.slice e)) (hinfo : (Try.prog.info? e).map (fun i => (i.zero, i.size, i.bytes)) = some (some z, k, bytes)) (hz : z.cells.size = k) (hby : bytes ≤ 100)
    (s x : Operand) (ho : o.op = .call { callee := .builtin .append, args := #[s, x], argTypes := #[t, t] })
    (base n : Nat) (xs us : List Value) (hus : us.length = k) (hone : ∀ u ∈ us, u.oneCell' = true) (v : Value) (C : Array Value) (hs : a.eval s = v) (hown : w.ownsRow base e k v n xs)
    (hx : a.eval x = .slice (some ⟨w.heap.size, 0, none⟩) 1 1) (hC : C.toList = us)
    (hsz : n + 1 ≤ 1000000) (hbase : base ≤ w.heap.size)
    (h : ∀ v' w', w'.ownsRow base e k v' (n + 1) (xs ++ us) → Below base w w' → (w.alloc (.cells C e)).grownBy w' v.ownBlock → wpList Try.prog ops Q rest (a.put o.dst v') w') :
    wpList Try.prog ops Q (o :: rest) a (w.alloc (.cells C e)) := by
  obtain ⟨i0, hi0, hz0, hz1, hz2⟩ := info_parts hinfo
  have hsize : (w.alloc (.cells C e)).heap.size = w.heap.size + 1 := by simp
  refine wpList_wanted hg fun K hK => ?_
  refine wp_append_own _ s x _ ho base e i0 _ k bytes ht hi0 hz0 hz1 hz2 hz hk v n xs hs (hown.alloc _) ⟨w.heap.size, 0, none⟩ 1 1 us hx
    (by rw [hus, Nat.one_mul]) (fun j y hy => ?_) hone (by unfold maxLen; omega) ?_ (by omega) ?_
  · have he : (Addr.mk w.heap.size 0 none).add j = ⟨w.heap.size, j, none⟩ := by
      unfold Addr.add; split
      · rename_i h0; rw [h0]
      · simp
    rw [he, World.cell?_alloc_mark, ← hy, ← hC]; simp
  · have := Nat.mul_le_mul_left (n + 1) hby
    omega
  · intro v' w' h1 h2 _
    exact hK _ _ (h v' w' h1 (((Below.refl base w).alloc hbase _).trans ((Below.refl base _).grown h2 (by omega) (fun k hk => (hown.lt k hk).1))) h2)
end
theorem OwnN.belowK {w w' : World} {base : Nat} {v : Value} {ns : List Nd} {ks : List Value} (h : OwnN w base v ns ks) (hb : Below w.heap.size w w') : OwnN w' base v ns ks :=
  ⟨h.1, h.2.1.kept (row := none) ⟨hb.os, hb.tape, hb.output, hb.size, fun k hk _ => hb.block k hk⟩ (by cases v.ownBlock <;> simp), fun j h1 h2 => own_below (h.2.2 j h1 h2) hb⟩
theorem one_nd (x : Nd) (kv : Value) (hk : kv.oneCell' = true) : ∀ u ∈ ndC x kv, u.oneCell' = true := by
  intro u hu
  unfold ndC at hu
  simp only [List.mem_cons, List.not_mem_nil, or_false] at hu
  rcases hu with rfl | rfl | rfl | rfl | rfl | rfl | rfl | rfl
  all_goals first | rfl | exact hk
theorem MkI.more {w wr wy w' : World} {v v' kv : Value} {q : Nat} {ns : List Nd} {ks : List Value} {x : Nd} {C : Array Value} (h : MkI w wr v q ns ks) (hb : Below wr.heap.size wr wy) (hkv : wy.ownsRow w.heap.size tInt 1 kv x.kids.length (intsV x.kids)) (hs : Small q x)
    (ho : w'.ownsRow w.heap.size tNode 8 v' (ns.length + 1) (flatC ns ks ++ ndC x kv)) (hb' : Below w.heap.size wy w') (hg : (wy.alloc (.cells C tNode)).grownBy w' v.ownBlock) : MkI w w' v' (q + 1) (ns ++ [x]) (ks ++ [kv]) := by
  have hO := OwnN.belowK h.own hb
  have hO2 := OwnN.belowK hO ((Below.refl wy.heap.size wy).alloc (Nat.le_refl _) (.cells C tNode))
  have hk : KeptX tNode tNode wy w' := (KeptX.alloc wy (.cells C tNode)).trans (KeptX.grown hO2.2.1 hg)
  have hl := h.own.1
  refine ⟨⟨by simp [hl], ?_, fun j h1 h2 => ?_⟩, by rw [List.length_append, h.len]; rfl, fun k hk => ?_, h.b.trans ((hb.mono h.b.size).trans hb')⟩
  · rw [flatC_snoc _ _ _ _ hl, List.length_append, List.length_singleton]
    exact ho
  · by_cases hj : j < ns.length
    · rw [List.getElem_append_left (by omega)]
      have e : (ns ++ [x])[j] = ns[j] := List.getElem_append_left hj
      rw [e]
      exact KeptX.own (hO.2.2 j (by omega) hj) hk (by decide) (by decide)
    · have e : j = ns.length := by rw [List.length_append] at h2; simp at h2; omega
      subst e
      rw [List.getElem_append_right (by omega)]
      have e : (ns ++ [x])[ns.length] = x := by rw [List.getElem_append_right (Nat.le_refl _)]; simp
      rw [e]
      simp only [hl, Nat.sub_self, List.getElem_cons_zero]
      exact KeptX.own hkv hk (by decide) (by decide)
  · by_cases hj : k < ns.length
    · rw [List.getElem_append_left hj]
      exact h.small k hj
    · have e : k = ns.length := by rw [List.length_append] at hk; simp at hk; omega
      subst e
      rw [List.getElem_append_right (Nat.le_refl _)]
      simp only [Nat.sub_self, List.getElem_cons_zero]
      rw [h.len]
      exact hs
theorem tdiv8 (b : Int) (h1 : -9223372036854775808 ≤ b) (h2 : b ≤ 9223372036854775807) : -9223372036854775808 ≤ b.tdiv 8 ∧ b.tdiv 8 ≤ 9223372036854775807 := by
  rcases Int.le_total 0 b with h | h
  · rw [Int.tdiv_eq_ediv_of_nonneg h]; omega
  · have e : b.tdiv 8 = -((-b) / 8) := by rw [← Int.tdiv_eq_ediv_of_nonneg (show (0 : Int) ≤ -b by omega), Int.neg_tdiv]; omega
    rw [e]; omega
theorem own_two {W : World} {base : Nat} (hb : base ≤ W.heap.size) (x y : Int) : (W.alloc (.cells #[.int .i64 x, .int .i64 y] tInt)).ownsRow base tInt 1 (.slice (some ⟨W.heap.size, 0, none⟩) 2 2) 2 (intsV [x, y]) :=
  ⟨rfl, .inr ⟨W.heap.size, 2, #[.int .i64 x, .int .i64 y], rfl, hb, heap_new W _, Nat.le_refl _, by unfold maxLen; decide, rfl, rfl⟩⟩
theorem own_one {W : World} {base : Nat} (hb : base ≤ W.heap.size) (x : Int) : (W.alloc (.cells #[.int .i64 x] tInt)).ownsRow base tInt 1 (.slice (some ⟨W.heap.size, 0, none⟩) 1 1) 1 (intsV [x]) :=
  ⟨rfl, .inr ⟨W.heap.size, 1, #[.int .i64 x], rfl, hb, heap_new W _, Nat.le_refl _, by unfold maxLen; decide, rfl, rfl⟩⟩
theorem cells8 {w : World} {X : Nat} {c0 c1 c2 c3 c4 c5 c6 c7 : Value} {t : TypeId} (h : w.heap[X]? = some (.cells #[c0, c1, c2, c3, c4, c5, c6, c7] t (0, 0))) : w.cell? ⟨X, 0, none⟩ = some c0 ∧ w.cell? ⟨X, 1, none⟩ = some c1 ∧ w.cell? ⟨X, 2, none⟩ = some c2 ∧ w.cell? ⟨X, 3, none⟩ = some c3 ∧ w.cell? ⟨X, 4, none⟩ = some c4 ∧ w.cell? ⟨X, 5, none⟩ = some c5 ∧ w.cell? ⟨X, 6, none⟩ = some c6 ∧ w.cell? ⟨X, 7, none⟩ = some c7 := by
  refine ⟨?_, ?_, ?_, ?_, ?_, ?_, ?_, ?_⟩ <;> simp [World.cell?, h]
def NsPost (w : World) (e : Ending) (w' : World) : Prop := ∃ v ns, e = .returned v ∧ RdN w' v ns ∧ 0 < ns.length ∧ ns.length ≤ 6 ∧ (∀ k (h : k < ns.length), Small k ns[k]) ∧ Below w.heap.size w w'
set_option maxRecDepth 100000 in
set_option maxHeartbeats 8000000 in
theorem nodes_any (v : Value) (us : List Int) (n : Int) (w : World) (h : RdV w v (intsV us)) (hu : us.length ≤ maxLen) (hn : -9223372036854775808 ≤ n ∧ n ≤ 9223372036854775807) :
    Calls Try.prog 17 #[v, .int .i64 n] w (NsPost w) := by
  have HAt := Lib.hid (fun (wq : World) (k : Int) (hb : Below w.heap.size w wq) (h0 : 0 ≤ k) (h1 : k ≤ 1000000) => At_fn v us k wq (h.below hb) hu h0 h1)
  have HMn := Lib.hid (fun wq => Tx.Mod_any n 6 wq (by decide) (by decide) hn.1 hn.2)
  have m1 := Tx.modF_lo n 6 (by decide)
  have m2 := Tx.modF_hi n 6 (by decide)
  obtain ⟨A, c, rfl⟩ := h.form
  clear h hu hn
  rw [intsV_len] at HAt ⊢
  generalize us.length = nu at HAt ⊢
  generalize Tx.modF n 6 = z at *
  obtain ⟨N, rfl⟩ : ∃ N : Nat, z = (N : Int) := ⟨z.toNat, by omega⟩
  go_enter Try.func17, Try.ntmps17
  go_wp2_with fail
  go_loopw [5, 6] (fun v' i' wr => ∃ (q : Nat) (ns : List Nd) (ks : List Value), q ≤ N + 1 ∧ i' = .int .i64 (q : Int) ∧ Hid (MkI w wr v' q ns ks)) (fun _ i' _ => N + 1 - (intOf i').toNat)
  case atStart => exact ⟨0, [], [], Nat.zero_le _, rfl, Lib.hid ⟨⟨rfl, World.ownsRow_nil _ _ _ _, fun j h => absurd h (Nat.not_lt_zero _)⟩, rfl, fun k h => absurd h (Nat.not_lt_zero _), Below.refl _ _⟩⟩
  case round =>
    obtain ⟨q, ns, ks, hq, rfl, HI⟩ := hrel
    by_cases hlt : q ≤ N
    · have d0 : decide ((q : Int) ≤ (N : Int)) = true := decide_eq_true (by omega)
      have i1 : (0 : Int) ≤ (q : Int) := by omega
      have i2 : (q : Int) ≤ 6 := by omega
      go_upto_region 8 with (first
        | (go_at_call 12; refine (HAt.out _ _ (by first | exact HI.out.b | exact HI.out.b.alloc HI.out.b.size _) (by omega) (by omega)).mono ?_; rintro e w7 ⟨rfl, rfl⟩)
        | (go_at_call 11; with_reducible refine (HMn.out _).mono ?_; rintro e w7 ⟨rfl, rfl⟩)
        | (go_at_call 11; refine (Tx.Mod_any _ _ _ (by omega) (by omega) (atF_lo _ _) (atF_hi _ _)).mono ?_; rintro e w7 ⟨rfl, rfl⟩))
      have ka := Tx.modF_lo (atF us (10 * (q : Int))) 7 (by decide)
      have kb := Tx.modF_hi (atF us (10 * (q : Int))) 7 (by decide)
      have z1 := atF_lo us (10 * (q : Int) + 1)
      have z2 := atF_hi us (10 * (q : Int) + 1)
      have y1 := atF_lo us (10 * (q : Int) + 2)
      have y2 := atF_hi us (10 * (q : Int) + 2)
      generalize Tx.modF (atF us (10 * (q : Int))) 7 = kd at *
      generalize atF us (10 * (q : Int)) = x0 at *
      generalize atF us (10 * (q : Int) + 1) = a at *
      generalize atF us (10 * (q : Int) + 2) = b at *
      by_cases hsw : q = 0
      · have e1 : ((q : Int) == 0) = true := by rw [beq_iff_eq]; omega
        clear hsw
        have s1 := Tx.modF_lo kd 4 (by decide)
        have s2 := Tx.modF_hi kd 4 (by decide)
        have HM4 := Lib.hid (fun wq => Tx.Mod_any kd 4 wq (by decide) (by decide) (by omega) (by omega))
        generalize Tx.modF kd 4 = s4 at *
        by_cases hs1 : s4 = 1
        · subst hs1
          go_upto_region 11 with (go_at_call 11; refine (HM4.out _).mono ?_; rintro e w7 ⟨rfl, rfl⟩)
          have HX0 : Hid ((wr.alloc (.cells #[.int .i64 1, .int .u64 0, .int .u64 0, .int .u64 0, .int .u64 0, .int .i64 0, .int .i64 0, .slice none 0 0] tNode)).heap[wr.heap.size]? = some (.cells #[.int .i64 1, .int .u64 0, .int .u64 0, .int .u64 0, .int .u64 0, .int .i64 0, .int .i64 0, .slice none 0 0] tNode (0, 0))) := Lib.hid (heap_new wr _)
          have HBx : Hid (Below wr.heap.size wr (wr.alloc (.cells #[.int .i64 1, .int .u64 0, .int .u64 0, .int .u64 0, .int .u64 0, .int .i64 0, .int .i64 0, .slice none 0 0] tNode))) := Lib.hid ((Below.refl _ _).alloc (Nat.le_refl _) _)
          generalize (wr.alloc (.cells #[.int .i64 1, .int .u64 0, .int .u64 0, .int .u64 0, .int .u64 0, .int .i64 0, .int .i64 0, .slice none 0 0] tNode)) = wx at *
          have r1 := Tx.modF_lo a 2 (by decide)
          have r2 := Tx.modF_hi a 2 (by decide)
          have HMa := Lib.hid (fun wq => Tx.Mod_any a 2 wq (by decide) (by decide) z1 z2)
          have HP1 : Hid (∀ W : World, Calls Try.prog 24 #[.agg #[.int .u64 0, .int .u64 0, .int .u64 0, .int .u64 0], .int .u8 (97 + Tx.modF a 2)] W fun e w' => e = .returned (setV (putM noSet (97 + Tx.modF a 2).toNat)) ∧ Below W.heap.size W w') := Lib.hid (fun W => by
            have h := Put_any noSet (UInt8.ofNat (97 + Tx.modF a 2).toNat) W
            have e1 : (UInt8.ofNat (97 + Tx.modF a 2).toNat).toNat = (97 + Tx.modF a 2).toNat := by
              rw [UInt8.toNat_ofNat']; exact Nat.mod_eq_of_lt (by omega)
            rw [e1, show (((97 + Tx.modF a 2).toNat : Nat) : Int) = 97 + Tx.modF a 2 from by omega] at h
            unfold setV at h
            simp only [show ∀ j, word noSet j = 0 from fun j => word_none j] at h
            exact h)
          have HP2 : Hid (∀ W : World, Calls Try.prog 24 #[setV (putM noSet (97 + Tx.modF a 2).toNat), .int .u8 120] W fun e w' => e = .returned (setV (putM (putM noSet (97 + Tx.modF a 2).toNat) 120)) ∧ Below W.heap.size W w') := Lib.hid (fun W => Put_any _ 120 W)
          generalize putM noSet (97 + Tx.modF a 2).toNat = st1 at HP1 HP2
          generalize putM st1 120 = st2 at HP2
          unfold setV at HP1 HP2
          obtain ⟨p0, hp0⟩ : ∃ p0 : Nat, word st1 0 = p0 := ⟨_, rfl⟩
          obtain ⟨p1, hp1⟩ : ∃ p1 : Nat, word st1 1 = p1 := ⟨_, rfl⟩
          obtain ⟨p2, hp2⟩ : ∃ p2 : Nat, word st1 2 = p2 := ⟨_, rfl⟩
          obtain ⟨p3, hp3⟩ : ∃ p3 : Nat, word st1 3 = p3 := ⟨_, rfl⟩
          rw [hp0, hp1, hp2, hp3] at HP1 HP2
          clear hp0 hp1 hp2 hp3
          obtain ⟨f0, hf0⟩ : ∃ f0 : Nat, word st2 0 = f0 := ⟨_, rfl⟩
          obtain ⟨f1, hf1⟩ : ∃ f1 : Nat, word st2 1 = f1 := ⟨_, rfl⟩
          obtain ⟨f2, hf2⟩ : ∃ f2 : Nat, word st2 2 = f2 := ⟨_, rfl⟩
          obtain ⟨f3, hf3⟩ : ∃ f3 : Nat, word st2 3 = f3 := ⟨_, rfl⟩
          have HF := Lib.hid (And.intro hf0 (And.intro hf1 (And.intro hf2 hf3)))
          rw [hf0, hf1, hf2, hf3] at HP2
          clear hf0 hf1 hf2 hf3
          generalize Tx.modF a 2 = ra at *
          have hw3 : IntKind.u8.wrap ra = ra := by rw [IntKind.wrap_u8]; omega
          have hw4 : IntKind.u8.wrap (97 + ra) = 97 + ra := by rw [IntKind.wrap_u8]; omega
          obtain ⟨g0, g1, g2, g3, g4, g5, g6, g7⟩ := cells8 HX0.out
          have hfz : ∀ j, wx.frozen? ⟨wr.heap.size, j, none⟩ = false := fun j => by simp [World.frozen?, HX0.out]
          go_region_with (first
            | (go_at_call 11; refine (HMa.out _).mono ?_; rintro e w7 ⟨rfl, rfl⟩)
            | (go_at_call 24; (try rw [hw3, hw4]); (with_reducible refine (HP1.out _).mono ?_); rintro e w8 ⟨rfl, B8⟩; have h8 := (B8.block _ (lt_some HX0.out)).trans HX0.out; have HB8 := Lib.hid (HBx.out.drew.trans (B8.mono HBx.out.size)); have HH8 := Lib.hid h8; obtain ⟨e80, e81, e82, e83, e84, e85, e86, e87⟩ := cells8 h8; clear h8 B8)
            | (go_at_call 24; (with_reducible refine (HP2.out _).mono ?_); rintro e w9 ⟨rfl, B9⟩; have h9 := (B9.block _ (lt_some HH8.out)).trans HH8.out; have HB9 := Lib.hid (HB8.out.trans (B9.mono HB8.out.size)); have HH9 := Lib.hid h9; obtain ⟨e90, e91, e92, e93, e94, e95, e96, e97⟩ := cells8 h9; have hf9 : ∀ j, w9.frozen? ⟨wr.heap.size, j, none⟩ = false := (fun j => by simp [World.frozen?, h9]); clear h9 B9))
          all_goals
            go_upto_region 16 with fail
            have hX : ((((w9.setCell ⟨wr.heap.size, 1, none⟩ (.int .u64 (f0 : Int))).setCell ⟨wr.heap.size, 2, none⟩ (.int .u64 (f1 : Int))).setCell ⟨wr.heap.size, 3, none⟩ (.int .u64 (f2 : Int))).setCell ⟨wr.heap.size, 4, none⟩ (.int .u64 (f3 : Int))).heap[wr.heap.size]? = some (.cells #[.int .i64 1, .int .u64 (f0 : Int), .int .u64 (f1 : Int), .int .u64 (f2 : Int), .int .u64 (f3 : Int), .int .i64 0, .int .i64 0, .slice none 0 0] tNode (0, 0)) := set_block (o := 4) (set_block (o := 3) (set_block (o := 2) (set_block (o := 1) HH9.out)))
            have hB : Below wr.heap.size wr ((((w9.setCell ⟨wr.heap.size, 1, none⟩ (.int .u64 (f0 : Int))).setCell ⟨wr.heap.size, 2, none⟩ (.int .u64 (f1 : Int))).setCell ⟨wr.heap.size, 3, none⟩ (.int .u64 (f2 : Int))).setCell ⟨wr.heap.size, 4, none⟩ (.int .u64 (f3 : Int))) := (((HB9.out.setCell (p := ⟨wr.heap.size, 1, none⟩) (Nat.le_refl _) _).setCell (p := ⟨wr.heap.size, 2, none⟩) (Nat.le_refl _) _).setCell (p := ⟨wr.heap.size, 3, none⟩) (Nat.le_refl _) _).setCell (p := ⟨wr.heap.size, 4, none⟩) (Nat.le_refl _) _
            clear HH9 HB9 HH8 HB8 HX0 HBx e80 e81 e82 e83 e84 e85 e86 e87 e90 e91 e92 e93 e94 e95 e96 e97 g0 g1 g2 g3 g4 g5 g6 g7 hf9 hfz HP1 HP2 HMa
            generalize ((((w9.setCell ⟨wr.heap.size, 1, none⟩ (.int .u64 (f0 : Int))).setCell ⟨wr.heap.size, 2, none⟩ (.int .u64 (f1 : Int))).setCell ⟨wr.heap.size, 3, none⟩ (.int .u64 (f2 : Int))).setCell ⟨wr.heap.size, 4, none⟩ (.int .u64 (f3 : Int))) = wy at *
            have hK0 : wy.ownsRow w.heap.size tInt 1 (.slice none 0 0) 0 (intsV []) := World.ownsRow_nil _ _ _ _
            have hS : Small q ⟨1, st2, 0, 0, []⟩ := .inl ⟨rfl, by show (0 : Int) ≤ 1; decide, by show (1 : Int) ≤ 3; decide⟩
            have HC : Hid ((#[.int .i64 1, .int .u64 (f0 : Int), .int .u64 (f1 : Int), .int .u64 (f2 : Int), .int .u64 (f3 : Int), .int .i64 0, .int .i64 0, .slice none 0 0] : Array Value).toList = ndC ⟨1, st2, 0, 0, []⟩ (.slice none 0 0)) := Lib.hid (by unfold ndC; simp only [HF.out.1, HF.out.2.1, HF.out.2.2.1, HF.out.2.2.2])
            have hK : wy.ownsRow w.heap.size tInt 1 (.slice none 0 0) (⟨1, st2, 0, 0, []⟩ : Nd).kids.length (intsV (⟨1, st2, 0, 0, []⟩ : Nd).kids) := hK0
            clear hK0
            have HO := Lib.hid (OwnN.belowK HI.out.own hB).2.1
            obtain ⟨x, hx⟩ : ∃ x : Nd, x = ⟨1, st2, 0, 0, []⟩ := ⟨_, rfl⟩
            rw [← hx] at hS HC hK
            clear hx
            have HMore := Lib.hid (fun v' w' ho hb' hg => HI.out.more (C := #[.int .i64 1, .int .u64 (f0 : Int), .int .u64 (f1 : Int), .int .u64 (f2 : Int), .int .u64 (f3 : Int), .int .i64 0, .int .i64 0, .slice none 0 0]) (v' := v') (w' := w') hB hK hS ho hb' hg)
            have hsz := (HI.out.b.trans (hB.mono HI.out.b.size)).size
            have hnl : ns.length + 1 ≤ 1000000 := by rw [HI.out.len]; omega
            obtain ⟨g0, g1, g2, g3, g4, g5, g6, g7⟩ := cells8 hX
            clear hX hB hK hS HI
            go_wp2_with (at_builtin; refine app_k (by decide) rfl Try.underlying23 info_node rfl (by decide) (.tmp 87) (.tmp 89) rfl w.heap.size ns.length (flatC ns ks) (ndC x (.slice none 0 0)) rfl (one_nd x _ rfl) u5 _ rfl HO.out rfl HC.out hnl hsz ?_; intro v1 w1 ho1 hb1 hg1; have HM := Lib.hid (HMore.out v1 w1 ho1 hb1 hg1); clear ho1 hb1 hg1)
            go_roundw
            case rel => exact ⟨q + 1, _, _, by omega, by go_num, HM⟩
            case measure => simp [intOf]; omega
        · have e4 : ((s4 : Int) == 1) = false := by rw [beq_eq_false_iff_ne]; exact hs1
          go_upto_region 16 with (go_at_call 11; refine (HM4.out _).mono ?_; rintro e w7 ⟨rfl, rfl⟩)
          have hX : (wr.alloc (.cells #[.int .i64 s4, .int .u64 0, .int .u64 0, .int .u64 0, .int .u64 0, .int .i64 0, .int .i64 0, .slice none 0 0] tNode)).heap[wr.heap.size]? = some (.cells #[.int .i64 s4, .int .u64 0, .int .u64 0, .int .u64 0, .int .u64 0, .int .i64 0, .int .i64 0, .slice none 0 0] tNode (0, 0)) := heap_new wr _
          have hB : Below wr.heap.size wr (wr.alloc (.cells #[.int .i64 s4, .int .u64 0, .int .u64 0, .int .u64 0, .int .u64 0, .int .i64 0, .int .i64 0, .slice none 0 0] tNode)) := (Below.refl _ wr).alloc (Nat.le_refl _) _
          generalize (wr.alloc (.cells #[.int .i64 s4, .int .u64 0, .int .u64 0, .int .u64 0, .int .u64 0, .int .i64 0, .int .i64 0, .slice none 0 0] tNode)) = wy at *
          have hK0 : wy.ownsRow w.heap.size tInt 1 (.slice none 0 0) 0 (intsV []) := World.ownsRow_nil _ _ _ _
          have hS : Small q ⟨s4, noSet, 0, 0, []⟩ := .inl ⟨rfl, s1, by show s4 ≤ 3; omega⟩
          have HC : Hid ((#[.int .i64 s4, .int .u64 0, .int .u64 0, .int .u64 0, .int .u64 0, .int .i64 0, .int .i64 0, .slice none 0 0] : Array Value).toList = ndC ⟨s4, noSet, 0, 0, []⟩ (.slice none 0 0)) := Lib.hid (by unfold ndC noSet; simp [word_none])
          have hK : wy.ownsRow w.heap.size tInt 1 (.slice none 0 0) (⟨s4, noSet, 0, 0, []⟩ : Nd).kids.length (intsV (⟨s4, noSet, 0, 0, []⟩ : Nd).kids) := hK0
          clear hK0
          have HO := Lib.hid (OwnN.belowK HI.out.own hB).2.1
          obtain ⟨x, hx⟩ : ∃ x : Nd, x = ⟨s4, noSet, 0, 0, []⟩ := ⟨_, rfl⟩
          rw [← hx] at hS HC hK
          clear hx
          have HMore := Lib.hid (fun v' w' ho hb' hg => HI.out.more (C := #[.int .i64 s4, .int .u64 0, .int .u64 0, .int .u64 0, .int .u64 0, .int .i64 0, .int .i64 0, .slice none 0 0]) (v' := v') (w' := w') hB hK hS ho hb' hg)
          have hsz := (HI.out.b.trans (hB.mono HI.out.b.size)).size
          have hnl : ns.length + 1 ≤ 1000000 := by rw [HI.out.len]; omega
          obtain ⟨g0, g1, g2, g3, g4, g5, g6, g7⟩ := cells8 hX
          clear hX hB hK hS HI
          go_wp2_with (at_builtin; refine app_k (by decide) rfl Try.underlying23 info_node rfl (by decide) (.tmp 87) (.tmp 89) rfl w.heap.size ns.length (flatC ns ks) (ndC x (.slice none 0 0)) rfl (one_nd x _ rfl) u5 _ rfl HO.out rfl HC.out hnl hsz ?_; intro v1 w1 ho1 hb1 hg1; have HM := Lib.hid (HMore.out v1 w1 ho1 hb1 hg1); clear ho1 hb1 hg1)
          go_roundw
          case rel => exact ⟨q + 1, _, _, by omega, by go_num, HM⟩
          case measure => simp [intOf]; omega
      · have hq0 : 0 < q := by omega
        have e1 : ((q : Int) == 0) = false := by rw [beq_eq_false_iff_ne]; omega
        clear hsw
        by_cases hk4 : kd < 4
        · have e2 : decide (kd < 4) = true := decide_eq_true hk4
          have s1 := Tx.modF_lo kd 4 (by decide)
          have s2 := Tx.modF_hi kd 4 (by decide)
          have HM4 := Lib.hid (fun wq => Tx.Mod_any kd 4 wq (by decide) (by decide) (by omega) (by omega))
          generalize Tx.modF kd 4 = s4 at *
          by_cases hs1 : s4 = 1
          · subst hs1
            go_upto_region 11 with (go_at_call 11; refine (HM4.out _).mono ?_; rintro e w7 ⟨rfl, rfl⟩)
            have HX0 : Hid ((wr.alloc (.cells #[.int .i64 1, .int .u64 0, .int .u64 0, .int .u64 0, .int .u64 0, .int .i64 0, .int .i64 0, .slice none 0 0] tNode)).heap[wr.heap.size]? = some (.cells #[.int .i64 1, .int .u64 0, .int .u64 0, .int .u64 0, .int .u64 0, .int .i64 0, .int .i64 0, .slice none 0 0] tNode (0, 0))) := Lib.hid (heap_new wr _)
            have HBx : Hid (Below wr.heap.size wr (wr.alloc (.cells #[.int .i64 1, .int .u64 0, .int .u64 0, .int .u64 0, .int .u64 0, .int .i64 0, .int .i64 0, .slice none 0 0] tNode))) := Lib.hid ((Below.refl _ _).alloc (Nat.le_refl _) _)
            generalize (wr.alloc (.cells #[.int .i64 1, .int .u64 0, .int .u64 0, .int .u64 0, .int .u64 0, .int .i64 0, .int .i64 0, .slice none 0 0] tNode)) = wx at *
            have r1 := Tx.modF_lo a 2 (by decide)
            have r2 := Tx.modF_hi a 2 (by decide)
            have HMa := Lib.hid (fun wq => Tx.Mod_any a 2 wq (by decide) (by decide) z1 z2)
            have HP1 : Hid (∀ W : World, Calls Try.prog 24 #[.agg #[.int .u64 0, .int .u64 0, .int .u64 0, .int .u64 0], .int .u8 (97 + Tx.modF a 2)] W fun e w' => e = .returned (setV (putM noSet (97 + Tx.modF a 2).toNat)) ∧ Below W.heap.size W w') := Lib.hid (fun W => by
              have h := Put_any noSet (UInt8.ofNat (97 + Tx.modF a 2).toNat) W
              have e1 : (UInt8.ofNat (97 + Tx.modF a 2).toNat).toNat = (97 + Tx.modF a 2).toNat := by
                rw [UInt8.toNat_ofNat']; exact Nat.mod_eq_of_lt (by omega)
              rw [e1, show (((97 + Tx.modF a 2).toNat : Nat) : Int) = 97 + Tx.modF a 2 from by omega] at h
              unfold setV at h
              simp only [show ∀ j, word noSet j = 0 from fun j => word_none j] at h
              exact h)
            have HP2 : Hid (∀ W : World, Calls Try.prog 24 #[setV (putM noSet (97 + Tx.modF a 2).toNat), .int .u8 120] W fun e w' => e = .returned (setV (putM (putM noSet (97 + Tx.modF a 2).toNat) 120)) ∧ Below W.heap.size W w') := Lib.hid (fun W => Put_any _ 120 W)
            generalize putM noSet (97 + Tx.modF a 2).toNat = st1 at HP1 HP2
            generalize putM st1 120 = st2 at HP2
            unfold setV at HP1 HP2
            obtain ⟨p0, hp0⟩ : ∃ p0 : Nat, word st1 0 = p0 := ⟨_, rfl⟩
            obtain ⟨p1, hp1⟩ : ∃ p1 : Nat, word st1 1 = p1 := ⟨_, rfl⟩
            obtain ⟨p2, hp2⟩ : ∃ p2 : Nat, word st1 2 = p2 := ⟨_, rfl⟩
            obtain ⟨p3, hp3⟩ : ∃ p3 : Nat, word st1 3 = p3 := ⟨_, rfl⟩
            rw [hp0, hp1, hp2, hp3] at HP1 HP2
            clear hp0 hp1 hp2 hp3
            obtain ⟨f0, hf0⟩ : ∃ f0 : Nat, word st2 0 = f0 := ⟨_, rfl⟩
            obtain ⟨f1, hf1⟩ : ∃ f1 : Nat, word st2 1 = f1 := ⟨_, rfl⟩
            obtain ⟨f2, hf2⟩ : ∃ f2 : Nat, word st2 2 = f2 := ⟨_, rfl⟩
            obtain ⟨f3, hf3⟩ : ∃ f3 : Nat, word st2 3 = f3 := ⟨_, rfl⟩
            have HF := Lib.hid (And.intro hf0 (And.intro hf1 (And.intro hf2 hf3)))
            rw [hf0, hf1, hf2, hf3] at HP2
            clear hf0 hf1 hf2 hf3
            generalize Tx.modF a 2 = ra at *
            have hw3 : IntKind.u8.wrap ra = ra := by rw [IntKind.wrap_u8]; omega
            have hw4 : IntKind.u8.wrap (97 + ra) = 97 + ra := by rw [IntKind.wrap_u8]; omega
            obtain ⟨g0, g1, g2, g3, g4, g5, g6, g7⟩ := cells8 HX0.out
            have hfz : ∀ j, wx.frozen? ⟨wr.heap.size, j, none⟩ = false := fun j => by simp [World.frozen?, HX0.out]
            go_region_with (first
              | (go_at_call 11; refine (HMa.out _).mono ?_; rintro e w7 ⟨rfl, rfl⟩)
              | (go_at_call 24; (try rw [hw3, hw4]); (with_reducible refine (HP1.out _).mono ?_); rintro e w8 ⟨rfl, B8⟩; have h8 := (B8.block _ (lt_some HX0.out)).trans HX0.out; have HB8 := Lib.hid (HBx.out.drew.trans (B8.mono HBx.out.size)); have HH8 := Lib.hid h8; obtain ⟨e80, e81, e82, e83, e84, e85, e86, e87⟩ := cells8 h8; clear h8 B8)
              | (go_at_call 24; (with_reducible refine (HP2.out _).mono ?_); rintro e w9 ⟨rfl, B9⟩; have h9 := (B9.block _ (lt_some HH8.out)).trans HH8.out; have HB9 := Lib.hid (HB8.out.trans (B9.mono HB8.out.size)); have HH9 := Lib.hid h9; obtain ⟨e90, e91, e92, e93, e94, e95, e96, e97⟩ := cells8 h9; have hf9 : ∀ j, w9.frozen? ⟨wr.heap.size, j, none⟩ = false := (fun j => by simp [World.frozen?, h9]); clear h9 B9))
            all_goals
              go_upto_region 16 with fail
              have hX : ((((w9.setCell ⟨wr.heap.size, 1, none⟩ (.int .u64 (f0 : Int))).setCell ⟨wr.heap.size, 2, none⟩ (.int .u64 (f1 : Int))).setCell ⟨wr.heap.size, 3, none⟩ (.int .u64 (f2 : Int))).setCell ⟨wr.heap.size, 4, none⟩ (.int .u64 (f3 : Int))).heap[wr.heap.size]? = some (.cells #[.int .i64 1, .int .u64 (f0 : Int), .int .u64 (f1 : Int), .int .u64 (f2 : Int), .int .u64 (f3 : Int), .int .i64 0, .int .i64 0, .slice none 0 0] tNode (0, 0)) := set_block (o := 4) (set_block (o := 3) (set_block (o := 2) (set_block (o := 1) HH9.out)))
              have hB : Below wr.heap.size wr ((((w9.setCell ⟨wr.heap.size, 1, none⟩ (.int .u64 (f0 : Int))).setCell ⟨wr.heap.size, 2, none⟩ (.int .u64 (f1 : Int))).setCell ⟨wr.heap.size, 3, none⟩ (.int .u64 (f2 : Int))).setCell ⟨wr.heap.size, 4, none⟩ (.int .u64 (f3 : Int))) := (((HB9.out.setCell (p := ⟨wr.heap.size, 1, none⟩) (Nat.le_refl _) _).setCell (p := ⟨wr.heap.size, 2, none⟩) (Nat.le_refl _) _).setCell (p := ⟨wr.heap.size, 3, none⟩) (Nat.le_refl _) _).setCell (p := ⟨wr.heap.size, 4, none⟩) (Nat.le_refl _) _
              clear HH9 HB9 HH8 HB8 HX0 HBx e80 e81 e82 e83 e84 e85 e86 e87 e90 e91 e92 e93 e94 e95 e96 e97 g0 g1 g2 g3 g4 g5 g6 g7 hf9 hfz HP1 HP2 HMa
              generalize ((((w9.setCell ⟨wr.heap.size, 1, none⟩ (.int .u64 (f0 : Int))).setCell ⟨wr.heap.size, 2, none⟩ (.int .u64 (f1 : Int))).setCell ⟨wr.heap.size, 3, none⟩ (.int .u64 (f2 : Int))).setCell ⟨wr.heap.size, 4, none⟩ (.int .u64 (f3 : Int))) = wy at *
              have hK0 : wy.ownsRow w.heap.size tInt 1 (.slice none 0 0) 0 (intsV []) := World.ownsRow_nil _ _ _ _
              have hS : Small q ⟨1, st2, 0, 0, []⟩ := .inl ⟨rfl, by show (0 : Int) ≤ 1; decide, by show (1 : Int) ≤ 3; decide⟩
              have HC : Hid ((#[.int .i64 1, .int .u64 (f0 : Int), .int .u64 (f1 : Int), .int .u64 (f2 : Int), .int .u64 (f3 : Int), .int .i64 0, .int .i64 0, .slice none 0 0] : Array Value).toList = ndC ⟨1, st2, 0, 0, []⟩ (.slice none 0 0)) := Lib.hid (by unfold ndC; simp only [HF.out.1, HF.out.2.1, HF.out.2.2.1, HF.out.2.2.2])
              have hK : wy.ownsRow w.heap.size tInt 1 (.slice none 0 0) (⟨1, st2, 0, 0, []⟩ : Nd).kids.length (intsV (⟨1, st2, 0, 0, []⟩ : Nd).kids) := hK0
              clear hK0
              have HO := Lib.hid (OwnN.belowK HI.out.own hB).2.1
              obtain ⟨x, hx⟩ : ∃ x : Nd, x = ⟨1, st2, 0, 0, []⟩ := ⟨_, rfl⟩
              rw [← hx] at hS HC hK
              clear hx
              have HMore := Lib.hid (fun v' w' ho hb' hg => HI.out.more (C := #[.int .i64 1, .int .u64 (f0 : Int), .int .u64 (f1 : Int), .int .u64 (f2 : Int), .int .u64 (f3 : Int), .int .i64 0, .int .i64 0, .slice none 0 0]) (v' := v') (w' := w') hB hK hS ho hb' hg)
              have hsz := (HI.out.b.trans (hB.mono HI.out.b.size)).size
              have hnl : ns.length + 1 ≤ 1000000 := by rw [HI.out.len]; omega
              obtain ⟨g0, g1, g2, g3, g4, g5, g6, g7⟩ := cells8 hX
              clear hX hB hK hS HI
              go_wp2_with (at_builtin; refine app_k (by decide) rfl Try.underlying23 info_node rfl (by decide) (.tmp 87) (.tmp 89) rfl w.heap.size ns.length (flatC ns ks) (ndC x (.slice none 0 0)) rfl (one_nd x _ rfl) u5 _ rfl HO.out rfl HC.out hnl hsz ?_; intro v1 w1 ho1 hb1 hg1; have HM := Lib.hid (HMore.out v1 w1 ho1 hb1 hg1); clear ho1 hb1 hg1)
              go_roundw
              case rel => exact ⟨q + 1, _, _, by omega, by go_num, HM⟩
              case measure => simp [intOf]; omega
          · have e4 : ((s4 : Int) == 1) = false := by rw [beq_eq_false_iff_ne]; exact hs1
            go_upto_region 16 with (go_at_call 11; refine (HM4.out _).mono ?_; rintro e w7 ⟨rfl, rfl⟩)
            have hX : (wr.alloc (.cells #[.int .i64 s4, .int .u64 0, .int .u64 0, .int .u64 0, .int .u64 0, .int .i64 0, .int .i64 0, .slice none 0 0] tNode)).heap[wr.heap.size]? = some (.cells #[.int .i64 s4, .int .u64 0, .int .u64 0, .int .u64 0, .int .u64 0, .int .i64 0, .int .i64 0, .slice none 0 0] tNode (0, 0)) := heap_new wr _
            have hB : Below wr.heap.size wr (wr.alloc (.cells #[.int .i64 s4, .int .u64 0, .int .u64 0, .int .u64 0, .int .u64 0, .int .i64 0, .int .i64 0, .slice none 0 0] tNode)) := (Below.refl _ wr).alloc (Nat.le_refl _) _
            generalize (wr.alloc (.cells #[.int .i64 s4, .int .u64 0, .int .u64 0, .int .u64 0, .int .u64 0, .int .i64 0, .int .i64 0, .slice none 0 0] tNode)) = wy at *
            have hK0 : wy.ownsRow w.heap.size tInt 1 (.slice none 0 0) 0 (intsV []) := World.ownsRow_nil _ _ _ _
            have hS : Small q ⟨s4, noSet, 0, 0, []⟩ := .inl ⟨rfl, s1, by show s4 ≤ 3; omega⟩
            have HC : Hid ((#[.int .i64 s4, .int .u64 0, .int .u64 0, .int .u64 0, .int .u64 0, .int .i64 0, .int .i64 0, .slice none 0 0] : Array Value).toList = ndC ⟨s4, noSet, 0, 0, []⟩ (.slice none 0 0)) := Lib.hid (by unfold ndC noSet; simp [word_none])
            have hK : wy.ownsRow w.heap.size tInt 1 (.slice none 0 0) (⟨s4, noSet, 0, 0, []⟩ : Nd).kids.length (intsV (⟨s4, noSet, 0, 0, []⟩ : Nd).kids) := hK0
            clear hK0
            have HO := Lib.hid (OwnN.belowK HI.out.own hB).2.1
            obtain ⟨x, hx⟩ : ∃ x : Nd, x = ⟨s4, noSet, 0, 0, []⟩ := ⟨_, rfl⟩
            rw [← hx] at hS HC hK
            clear hx
            have HMore := Lib.hid (fun v' w' ho hb' hg => HI.out.more (C := #[.int .i64 s4, .int .u64 0, .int .u64 0, .int .u64 0, .int .u64 0, .int .i64 0, .int .i64 0, .slice none 0 0]) (v' := v') (w' := w') hB hK hS ho hb' hg)
            have hsz := (HI.out.b.trans (hB.mono HI.out.b.size)).size
            have hnl : ns.length + 1 ≤ 1000000 := by rw [HI.out.len]; omega
            obtain ⟨g0, g1, g2, g3, g4, g5, g6, g7⟩ := cells8 hX
            clear hX hB hK hS HI
            go_wp2_with (at_builtin; refine app_k (by decide) rfl Try.underlying23 info_node rfl (by decide) (.tmp 87) (.tmp 89) rfl w.heap.size ns.length (flatC ns ks) (ndC x (.slice none 0 0)) rfl (one_nd x _ rfl) u5 _ rfl HO.out rfl HC.out hnl hsz ?_; intro v1 w1 ho1 hb1 hg1; have HM := Lib.hid (HMore.out v1 w1 ho1 hb1 hg1); clear ho1 hb1 hg1)
            go_roundw
            case rel => exact ⟨q + 1, _, _, by omega, by go_num, HM⟩
            case measure => simp [intOf]; omega
        · have e2 : decide (kd < 4) = false := decide_eq_false hk4
          by_cases hk6 : kd = 6
          · subst hk6
            have p1 := Tx.modF_lo a q (by omega)
            have p2 := Tx.modF_hi a q (by omega)
            have p3 := Tx.modF_lo b 3 (by decide)
            have p4 := Tx.modF_hi b 3 (by decide)
            have HMq := Lib.hid (fun wq => Tx.Mod_any a q wq (by omega) (by omega) z1 z2)
            have HMb := Lib.hid (fun wq => Tx.Mod_any b 3 wq (by decide) (by decide) y1 y2)
            have t8 := tdiv8 b y1 y2
            have HM8 := Lib.hid (fun wq => Tx.Mod_any (b.tdiv 8) 3 wq (by decide) (by decide) t8.1 t8.2)
            have p5 := Tx.modF_lo (b.tdiv 8) 3 (by decide)
            have p6 := Tx.modF_hi (b.tdiv 8) 3 (by decide)
            generalize Tx.modF a q = ma at *
            generalize Tx.modF b 3 = mb at *
            generalize Tx.modF (b.tdiv 8) 3 = md at *
            have hwm : IntKind.i64.wrap (mb + md) = mb + md := IntWalk.i64_in _ (by omega)
            have hw8 : IntKind.i64.wrap (b.tdiv 8) = b.tdiv 8 := IntWalk.i64_in _ t8
            clear t8
            by_cases hev : (b.tmod 2 == 0) = true
            · go_upto_region 15 with (first | (go_at_call 11; (with_reducible refine (HMq.out _).mono ?_); rintro e w7 ⟨rfl, rfl⟩) | (go_at_call 11; (with_reducible refine (HMb.out _).mono ?_); rintro e w7 ⟨rfl, rfl⟩))
              go_region_with (go_at_call 11; (try rw [hw8]); (with_reducible refine (HM8.out _).mono ?_); rintro e w7 ⟨rfl, rfl⟩)
              all_goals
                go_upto_region 16 with fail
                have hX : (((wr.alloc (.cells #[.int .i64 6, .int .u64 0, .int .u64 0, .int .u64 0, .int .u64 0, .int .i64 mb, .int .i64 (mb + md), .slice (some ⟨wr.heap.size + 1, 0, none⟩) 1 1] tNode)).alloc (.cells #[.int .i64 ma] tInt)).drew).heap[wr.heap.size]? = some (.cells #[.int .i64 6, .int .u64 0, .int .u64 0, .int .u64 0, .int .u64 0, .int .i64 mb, .int .i64 (mb + md), .slice (some ⟨wr.heap.size + 1, 0, none⟩) 1 1] tNode (0, 0)) := (Below.heap_alloc _ _ _ (by simp)).trans (heap_new wr _)
                have hB : Below wr.heap.size wr (((wr.alloc (.cells #[.int .i64 6, .int .u64 0, .int .u64 0, .int .u64 0, .int .u64 0, .int .i64 mb, .int .i64 (mb + md), .slice (some ⟨wr.heap.size + 1, 0, none⟩) 1 1] tNode)).alloc (.cells #[.int .i64 ma] tInt)).drew) := (((Below.refl _ wr).alloc (Nat.le_refl _) _).alloc (by simp) _).drew
                have hK0 := own_one (W := (wr.alloc (.cells #[.int .i64 6, .int .u64 0, .int .u64 0, .int .u64 0, .int .u64 0, .int .i64 mb, .int .i64 (mb + md), .slice (some ⟨wr.heap.size + 1, 0, none⟩) 1 1] tNode))) (base := w.heap.size) (by have := HI.out.b.size; simp; omega) ma
                rw [show (wr.alloc (.cells #[.int .i64 6, .int .u64 0, .int .u64 0, .int .u64 0, .int .u64 0, .int .i64 mb, .int .i64 (mb + md), .slice (some ⟨wr.heap.size + 1, 0, none⟩) 1 1] tNode)).heap.size = wr.heap.size + 1 from by simp] at hK0
                replace hK0 : (((wr.alloc (.cells #[.int .i64 6, .int .u64 0, .int .u64 0, .int .u64 0, .int .u64 0, .int .i64 mb, .int .i64 (mb + md), .slice (some ⟨wr.heap.size + 1, 0, none⟩) 1 1] tNode)).alloc (.cells #[.int .i64 ma] tInt)).drew).ownsRow w.heap.size tInt 1 (.slice (some ⟨wr.heap.size + 1, 0, none⟩) 1 1) 1 (intsV [ma]) := own_below hK0 (Below.refl _ _).drew
                generalize (((wr.alloc (.cells #[.int .i64 6, .int .u64 0, .int .u64 0, .int .u64 0, .int .u64 0, .int .i64 mb, .int .i64 (mb + md), .slice (some ⟨wr.heap.size + 1, 0, none⟩) 1 1] tNode)).alloc (.cells #[.int .i64 ma] tInt)).drew) = wy at *
                have hS : Small q ⟨6, noSet, mb, mb + md, [ma]⟩ := .inr (.inl ⟨rfl, ⟨ma, rfl, p1, p2⟩, p3, by show mb ≤ 2; omega, .inr ⟨by show mb ≤ mb + md; omega, by show mb + md ≤ mb + 2; omega⟩⟩)
                have HC : Hid ((#[.int .i64 6, .int .u64 0, .int .u64 0, .int .u64 0, .int .u64 0, .int .i64 mb, .int .i64 (mb + md), .slice (some ⟨wr.heap.size + 1, 0, none⟩) 1 1] : Array Value).toList = ndC ⟨6, noSet, mb, mb + md, [ma]⟩ (.slice (some ⟨wr.heap.size + 1, 0, none⟩) 1 1)) := Lib.hid (by unfold ndC noSet; simp [word_none])
                have hK : wy.ownsRow w.heap.size tInt 1 (.slice (some ⟨wr.heap.size + 1, 0, none⟩) 1 1) (⟨6, noSet, mb, mb + md, [ma]⟩ : Nd).kids.length (intsV (⟨6, noSet, mb, mb + md, [ma]⟩ : Nd).kids) := hK0
                clear hK0
                have HO := Lib.hid (OwnN.belowK HI.out.own hB).2.1
                obtain ⟨x, hx⟩ : ∃ x : Nd, x = ⟨6, noSet, mb, mb + md, [ma]⟩ := ⟨_, rfl⟩
                rw [← hx] at hS HC hK
                clear hx
                have HMore := Lib.hid (fun v' w' ho hb' hg => HI.out.more (C := #[.int .i64 6, .int .u64 0, .int .u64 0, .int .u64 0, .int .u64 0, .int .i64 mb, .int .i64 (mb + md), .slice (some ⟨wr.heap.size + 1, 0, none⟩) 1 1]) (v' := v') (w' := w') hB hK hS ho hb' hg)
                have hsz := (HI.out.b.trans (hB.mono HI.out.b.size)).size
                have hnl : ns.length + 1 ≤ 1000000 := by rw [HI.out.len]; omega
                obtain ⟨g0, g1, g2, g3, g4, g5, g6, g7⟩ := cells8 hX
                clear hX hB hK hS HI
                go_wp2_with (at_builtin; refine app_k (by decide) rfl Try.underlying23 info_node rfl (by decide) (.tmp 87) (.tmp 89) rfl w.heap.size ns.length (flatC ns ks) (ndC x (.slice (some ⟨wr.heap.size + 1, 0, none⟩) 1 1)) rfl (one_nd x _ rfl) u5 _ rfl HO.out rfl HC.out hnl hsz ?_; intro v1 w1 ho1 hb1 hg1; have HM := Lib.hid (HMore.out v1 w1 ho1 hb1 hg1); clear ho1 hb1 hg1)
                go_roundw
                case rel => exact ⟨q + 1, _, _, by omega, by go_num, HM⟩
                case measure => simp [intOf]; omega
            · simp only [Bool.not_eq_true] at hev
              go_upto_region 16 with (first | (go_at_call 11; (with_reducible refine (HMq.out _).mono ?_); rintro e w7 ⟨rfl, rfl⟩) | (go_at_call 11; (with_reducible refine (HMb.out _).mono ?_); rintro e w7 ⟨rfl, rfl⟩))
              have hX : ((wr.alloc (.cells #[.int .i64 6, .int .u64 0, .int .u64 0, .int .u64 0, .int .u64 0, .int .i64 mb, .int .i64 (-1), .slice (some ⟨wr.heap.size + 1, 0, none⟩) 1 1] tNode)).alloc (.cells #[.int .i64 ma] tInt)).heap[wr.heap.size]? = some (.cells #[.int .i64 6, .int .u64 0, .int .u64 0, .int .u64 0, .int .u64 0, .int .i64 mb, .int .i64 (-1), .slice (some ⟨wr.heap.size + 1, 0, none⟩) 1 1] tNode (0, 0)) := (Below.heap_alloc _ _ _ (by simp)).trans (heap_new wr _)
              have hB : Below wr.heap.size wr ((wr.alloc (.cells #[.int .i64 6, .int .u64 0, .int .u64 0, .int .u64 0, .int .u64 0, .int .i64 mb, .int .i64 (-1), .slice (some ⟨wr.heap.size + 1, 0, none⟩) 1 1] tNode)).alloc (.cells #[.int .i64 ma] tInt)) := (((Below.refl _ wr).alloc (Nat.le_refl _) _).alloc (by simp) _)
              have hK0 := own_one (W := (wr.alloc (.cells #[.int .i64 6, .int .u64 0, .int .u64 0, .int .u64 0, .int .u64 0, .int .i64 mb, .int .i64 (-1), .slice (some ⟨wr.heap.size + 1, 0, none⟩) 1 1] tNode))) (base := w.heap.size) (by have := HI.out.b.size; simp; omega) ma
              rw [show (wr.alloc (.cells #[.int .i64 6, .int .u64 0, .int .u64 0, .int .u64 0, .int .u64 0, .int .i64 mb, .int .i64 (-1), .slice (some ⟨wr.heap.size + 1, 0, none⟩) 1 1] tNode)).heap.size = wr.heap.size + 1 from by simp] at hK0
              generalize ((wr.alloc (.cells #[.int .i64 6, .int .u64 0, .int .u64 0, .int .u64 0, .int .u64 0, .int .i64 mb, .int .i64 (-1), .slice (some ⟨wr.heap.size + 1, 0, none⟩) 1 1] tNode)).alloc (.cells #[.int .i64 ma] tInt)) = wy at *
              have hS : Small q ⟨6, noSet, mb, -1, [ma]⟩ := .inr (.inl ⟨rfl, ⟨ma, rfl, p1, p2⟩, p3, by show mb ≤ 2; omega, .inl rfl⟩)
              have HC : Hid ((#[.int .i64 6, .int .u64 0, .int .u64 0, .int .u64 0, .int .u64 0, .int .i64 mb, .int .i64 (-1), .slice (some ⟨wr.heap.size + 1, 0, none⟩) 1 1] : Array Value).toList = ndC ⟨6, noSet, mb, -1, [ma]⟩ (.slice (some ⟨wr.heap.size + 1, 0, none⟩) 1 1)) := Lib.hid (by unfold ndC noSet; simp [word_none])
              have hK : wy.ownsRow w.heap.size tInt 1 (.slice (some ⟨wr.heap.size + 1, 0, none⟩) 1 1) (⟨6, noSet, mb, -1, [ma]⟩ : Nd).kids.length (intsV (⟨6, noSet, mb, -1, [ma]⟩ : Nd).kids) := hK0
              clear hK0
              have HO := Lib.hid (OwnN.belowK HI.out.own hB).2.1
              obtain ⟨x, hx⟩ : ∃ x : Nd, x = ⟨6, noSet, mb, -1, [ma]⟩ := ⟨_, rfl⟩
              rw [← hx] at hS HC hK
              clear hx
              have HMore := Lib.hid (fun v' w' ho hb' hg => HI.out.more (C := #[.int .i64 6, .int .u64 0, .int .u64 0, .int .u64 0, .int .u64 0, .int .i64 mb, .int .i64 (-1), .slice (some ⟨wr.heap.size + 1, 0, none⟩) 1 1]) (v' := v') (w' := w') hB hK hS ho hb' hg)
              have hsz := (HI.out.b.trans (hB.mono HI.out.b.size)).size
              have hnl : ns.length + 1 ≤ 1000000 := by rw [HI.out.len]; omega
              obtain ⟨g0, g1, g2, g3, g4, g5, g6, g7⟩ := cells8 hX
              clear hX hB hK hS HI
              go_wp2_with (at_builtin; refine app_k (by decide) rfl Try.underlying23 info_node rfl (by decide) (.tmp 87) (.tmp 89) rfl w.heap.size ns.length (flatC ns ks) (ndC x (.slice (some ⟨wr.heap.size + 1, 0, none⟩) 1 1)) rfl (one_nd x _ rfl) u5 _ rfl HO.out rfl HC.out hnl hsz ?_; intro v1 w1 ho1 hb1 hg1; have HM := Lib.hid (HMore.out v1 w1 ho1 hb1 hg1); clear ho1 hb1 hg1)
              go_roundw
              case rel => exact ⟨q + 1, _, _, by omega, by go_num, HM⟩
              case measure => simp [intOf]; omega
          · have e3 : ((kd : Int) == 6) = false := by rw [beq_eq_false_iff_ne]; exact hk6
            go_upto_region 16 with (go_at_call 11; refine (Tx.Mod_any _ _ _ (by omega) (by omega) (by omega) (by omega)).mono ?_; rintro e w7 ⟨rfl, rfl⟩)
            have hX : ((wr.alloc (.cells #[.int .i64 kd, .int .u64 0, .int .u64 0, .int .u64 0, .int .u64 0, .int .i64 0, .int .i64 0, .slice (some ⟨wr.heap.size + 1, 0, none⟩) 2 2] tNode)).alloc (.cells #[.int .i64 (Tx.modF a q), .int .i64 (Tx.modF b q)] tInt)).heap[wr.heap.size]? = some (.cells #[.int .i64 kd, .int .u64 0, .int .u64 0, .int .u64 0, .int .u64 0, .int .i64 0, .int .i64 0, .slice (some ⟨wr.heap.size + 1, 0, none⟩) 2 2] tNode (0, 0)) := (Below.heap_alloc _ _ _ (by simp)).trans (heap_new wr _)
            have hB : Below wr.heap.size wr ((wr.alloc (.cells #[.int .i64 kd, .int .u64 0, .int .u64 0, .int .u64 0, .int .u64 0, .int .i64 0, .int .i64 0, .slice (some ⟨wr.heap.size + 1, 0, none⟩) 2 2] tNode)).alloc (.cells #[.int .i64 (Tx.modF a q), .int .i64 (Tx.modF b q)] tInt)) := ((Below.refl _ wr).alloc (Nat.le_refl _) _).alloc (by simp) _
            have hK0 := own_two (W := (wr.alloc (.cells #[.int .i64 kd, .int .u64 0, .int .u64 0, .int .u64 0, .int .u64 0, .int .i64 0, .int .i64 0, .slice (some ⟨wr.heap.size + 1, 0, none⟩) 2 2] tNode))) (base := w.heap.size) (by have := HI.out.b.size; simp; omega) (Tx.modF a q) (Tx.modF b q)
            rw [show (wr.alloc (.cells #[.int .i64 kd, .int .u64 0, .int .u64 0, .int .u64 0, .int .u64 0, .int .i64 0, .int .i64 0, .slice (some ⟨wr.heap.size + 1, 0, none⟩) 2 2] tNode)).heap.size = wr.heap.size + 1 from by simp] at hK0
            generalize ((wr.alloc (.cells #[.int .i64 kd, .int .u64 0, .int .u64 0, .int .u64 0, .int .u64 0, .int .i64 0, .int .i64 0, .slice (some ⟨wr.heap.size + 1, 0, none⟩) 2 2] tNode)).alloc (.cells #[.int .i64 (Tx.modF a q), .int .i64 (Tx.modF b q)] tInt)) = wy at *
            have p1 := Tx.modF_lo a q (by omega)
            have p2 := Tx.modF_hi a q (by omega)
            have p3 := Tx.modF_lo b q (by omega)
            have p4 := Tx.modF_hi b q (by omega)
            have hS : Small q ⟨kd, noSet, 0, 0, [Tx.modF a q, Tx.modF b q]⟩ := .inr (.inr ⟨by show kd = 4 ∨ kd = 5; omega, _, _, rfl, p1, p2, p3, p4⟩)
            have HC : Hid ((#[.int .i64 kd, .int .u64 0, .int .u64 0, .int .u64 0, .int .u64 0, .int .i64 0, .int .i64 0, .slice (some ⟨wr.heap.size + 1, 0, none⟩) 2 2] : Array Value).toList = ndC ⟨kd, noSet, 0, 0, [Tx.modF a q, Tx.modF b q]⟩ (.slice (some ⟨wr.heap.size + 1, 0, none⟩) 2 2)) := Lib.hid (by unfold ndC noSet; simp [word_none])
            have hK : wy.ownsRow w.heap.size tInt 1 (.slice (some ⟨wr.heap.size + 1, 0, none⟩) 2 2) (⟨kd, noSet, 0, 0, [Tx.modF a q, Tx.modF b q]⟩ : Nd).kids.length (intsV (⟨kd, noSet, 0, 0, [Tx.modF a q, Tx.modF b q]⟩ : Nd).kids) := hK0
            clear hK0
            have HO := Lib.hid (OwnN.belowK HI.out.own hB).2.1
            obtain ⟨x, hx⟩ : ∃ x : Nd, x = ⟨kd, noSet, 0, 0, [Tx.modF a q, Tx.modF b q]⟩ := ⟨_, rfl⟩
            rw [← hx] at hS HC hK
            clear hx
            have HMore := Lib.hid (fun v' w' ho hb' hg => HI.out.more (C := #[.int .i64 kd, .int .u64 0, .int .u64 0, .int .u64 0, .int .u64 0, .int .i64 0, .int .i64 0, .slice (some ⟨wr.heap.size + 1, 0, none⟩) 2 2]) (v' := v') (w' := w') hB hK hS ho hb' hg)
            have hsz := (HI.out.b.trans (hB.mono HI.out.b.size)).size
            have hnl : ns.length + 1 ≤ 1000000 := by rw [HI.out.len]; omega
            obtain ⟨g0, g1, g2, g3, g4, g5, g6, g7⟩ := cells8 hX
            clear hX hB hK hS HI
            go_wp2_with (at_builtin; refine app_k (by decide) rfl Try.underlying23 info_node rfl (by decide) (.tmp 87) (.tmp 89) rfl w.heap.size ns.length (flatC ns ks) (ndC x (.slice (some ⟨wr.heap.size + 1, 0, none⟩) 2 2)) rfl (one_nd x _ rfl) u5 _ rfl HO.out rfl HC.out hnl hsz ?_; intro v1 w1 ho1 hb1 hg1; have HM := Lib.hid (HMore.out v1 w1 ho1 hb1 hg1); clear ho1 hb1 hg1)
            go_roundw
            case rel => exact ⟨q + 1, _, _, by omega, by go_num, HM⟩
            case measure => simp [intOf]; omega
    · have d0 : decide ((q : Int) ≤ (N : Int)) = false := decide_eq_false (by omega)
      have hql : q = N + 1 := by omega
      have hRd := RdN.of_own HI.out.own
      have HEnd : Hid (RdN wr u5 ns ∧ 0 < ns.length ∧ ns.length ≤ 6 ∧ (∀ k (h : k < ns.length), Small k ns[k]) ∧ Below w.heap.size w wr) := Lib.hid ⟨hRd, by rw [HI.out.len]; omega, by rw [HI.out.len]; omega, HI.out.small, HI.out.b⟩
      clear hql hRd HI HAt
      go_wp2_with (go_at_call 11; refine (HMn.out _).mono ?_; rintro e w7 ⟨rfl, rfl⟩)
      go_ret
      exact ⟨_, ns, rfl, HEnd.out⟩
end No
end Go.Proofs.Ytebljjdhgepfkaa

/-
  Walks of layer 6: the program's reads, passes and visit. Condition: a valid automaton.
-/
import Derived.Test.YthoidaaldngpmaaSeaWk
import Derived.Maps.AppendAt
namespace Go.Proofs.Ythoidaaldngpmaa
open Go.RowKit
namespace Se
open Cm Rx Au
set_option maxRecDepth 100000 in
set_option maxHeartbeats 1000000 in
theorem reads_any (b o : Nat) (x : St) (y : UInt8) (w : World) (h : StAt w b o x) :
    Calls Try.prog 122 #[.pointer (some ⟨b, o, none⟩), .int .u8 (y.toNat : Int)] w fun e w' => e = .returned (.bool (x.set y.toNat)) ∧ w' = w := by
  obtain ⟨-, p0, p1, p2, p3, -, -⟩ := h
  generalize x.set = m at p0 p1 p2 p3 ⊢
  have hx := y.toNat_lt
  have hbit := has_bit m (y.toNat / 64) y.toNat rfl
  generalize y.toNat = n at hx hbit
  have hx2 : (n : Int) < 256 := by omega
  have h0 : (0 : Int) ≤ (n : Int) := by omega
  have hwl := fun j => word_lt m j
  have hc : n / 64 = 0 ∨ n / 64 = 1 ∨ n / 64 = 2 ∨ n / 64 = 3 := by omega
  rcases hc with h | h | h | h
  · rw [h] at hbit
    have HBit := Lib.hid hbit
    have HWl := Lib.hid (hwl 0)
    have e1 : (n : Int) / 64 = 0 := by omega
    clear h hx hbit hwl
    generalize word m 0 = a0 at p0 HBit HWl
    generalize word m 1 = a1 at p1
    generalize word m 2 = a2 at p2
    generalize word m 3 = a3 at p3
    go_enter Try.func122, Try.ntmps122
    go_wp2_with fail
    go_ret
    exact ⟨ret_bool (has_walk HWl.out HBit.out), rfl⟩
  · rw [h] at hbit
    have HBit := Lib.hid hbit
    have HWl := Lib.hid (hwl 1)
    have e1 : (n : Int) / 64 = 1 := by omega
    clear h hx hbit hwl
    generalize word m 0 = a0 at p0
    generalize word m 1 = a1 at p1 HBit HWl
    generalize word m 2 = a2 at p2
    generalize word m 3 = a3 at p3
    go_enter Try.func122, Try.ntmps122
    go_wp2_with fail
    go_ret
    exact ⟨ret_bool (has_walk HWl.out HBit.out), rfl⟩
  · rw [h] at hbit
    have HBit := Lib.hid hbit
    have HWl := Lib.hid (hwl 2)
    have e1 : (n : Int) / 64 = 2 := by omega
    clear h hx hbit hwl
    generalize word m 0 = a0 at p0
    generalize word m 1 = a1 at p1
    generalize word m 2 = a2 at p2 HBit HWl
    generalize word m 3 = a3 at p3
    go_enter Try.func122, Try.ntmps122
    go_wp2_with fail
    go_ret
    exact ⟨ret_bool (has_walk HWl.out HBit.out), rfl⟩
  · rw [h] at hbit
    have HBit := Lib.hid hbit
    have HWl := Lib.hid (hwl 3)
    have e1 : (n : Int) / 64 = 3 := by omega
    clear h hx hbit hwl
    generalize word m 0 = a0 at p0
    generalize word m 1 = a1 at p1
    generalize word m 2 = a2 at p2
    generalize word m 3 = a3 at p3 HBit HWl
    go_enter Try.func122, Try.ntmps122
    go_wp2_with fail
    go_ret
    exact ⟨ret_bool (has_walk HWl.out HBit.out), rfl⟩
set_option maxRecDepth 100000 in
set_option maxHeartbeats 1000000 in
theorem passes_any {st : Nat} {w0 w1 w : World} {P : Parts} {D : Dyn} {vL vM : Value} (ss : List St) (hS : WkS ss w1 P) (h : Wk ss.length st w0 w1 w P D vL vM) (q i : Nat) (hq : q < ss.length) (hi : D.at_ = (i : Int)) :
    Calls Try.prog 137 #[.pointer (some ⟨P.B, 0, none⟩), .int .i64 (q : Int)] w fun e w' => e = .returned (.bool (passX ss[q] P.s.size i)) ∧ ∃ m, w' = w.drewN m := by
  have c0 : w.cell? ⟨P.B, 0, none⟩ = some (.slice (some ⟨P.bA, P.oA, none⟩) ss.length P.c) := h.own 0 rfl
  have c2 : w.cell? ⟨P.B, 2, none⟩ = some (.string P.s) := h.own 2 rfl
  have c8 : w.cell? ⟨P.B, 8, none⟩ = some (.int .i64 D.at_) := h.own 8 rfl
  have hk := h.cell hS.na.1 hS.na.2 (hS.st q hq).1
  rw [hi] at c8
  have HPx : Hid (passX ss[q] P.s.size i = if ss[q].kind = 2 then decide (i = 0) else if ss[q].kind = 3 then decide (i = P.s.size) else true) := Lib.hid rfl
  generalize passX ss[q] P.s.size i = R at HPx ⊢
  generalize ss[q].kind = k at hk HPx
  have i0 : (0 : Int) ≤ (q : Int) := by omega
  have i1 : (q : Int) < (ss.length : Int) := by omega
  clear h hS hi
  generalize ss.length = nn at *
  by_cases k2 : k = 2
  · subst k2
    have HR : Hid (R = decide (i = 0)) := Lib.hid (by rw [HPx.out, if_pos rfl])
    clear HPx
    go_enter Try.func137, Try.ntmps137
    go_wp2_with fail
    go_ret
    exact ⟨ret_bool (by rw [HR.out]; first | rfl | (rw [Bool.eq_iff_iff]; simp; done) | (rw [Bool.eq_iff_iff]; simp; omega)), 0, rfl⟩
  by_cases k3 : k = 3
  · subst k3
    have HR : Hid (R = decide (i = P.s.size)) := Lib.hid (by rw [HPx.out, if_neg (by omega), if_pos rfl])
    clear HPx k2
    go_enter Try.func137, Try.ntmps137
    go_upto_region 5 with fail
    go_quiet (fail)
    go_wp2_with fail
    go_ret
    exact ⟨ret_bool (by rw [HR.out]; first | rfl | (rw [Bool.eq_iff_iff]; simp; done) | (rw [Bool.eq_iff_iff]; simp; omega)), _, rfl⟩
  · have HR : Hid (R = true) := Lib.hid (by rw [HPx.out, if_neg k2, if_neg k3])
    have e2 : (k == 2) = false := by rw [beq_eq_false_iff_ne]; exact k2
    have e3 : (k == 3) = false := by rw [beq_eq_false_iff_ne]; exact k3
    clear HPx k2 k3
    go_enter Try.func137, Try.ntmps137
    go_wp2_with fail
    go_ret
    exact ⟨ret_bool HR.out.symm, 0, rfl⟩
section
variable {ops : Array Oper} {rest : List Oper} {o : Oper} {a : Act} {Q : Exit → Act → World → Prop} {w : World}
theorem info_pl : (Try.prog.info? tPl).map (fun i => (i.zero, i.size, i.bytes)) = some (some (.agg #[.int .i64 0, .int .i64 0]), 2, 16) := by kernel_rfl
theorem app_pl (hg : o.guard = none)
    (s x : Operand) (ho : o.op = .call { callee := .builtin .append, args := #[s, x], argTypes := #[tPls, tPls] })
    (base : Nat) (L : List (Nat × Nat)) (q e : Nat) (v : Value) (C : Array Value) (hs : a.eval s = v) (hown : w.ownsRow base tPl 2 v L.length (flatP L))
    (hx : a.eval x = .slice (some ⟨w.heap.size, 0, none⟩) 1 1) (hC : C.toList = [.int .i64 (q : Int), .int .i64 (e : Int)])
    (hsz : L.length + 1 ≤ 1000000) (hbase : base ≤ w.heap.size)
    (h : ∀ v' w', w'.ownsRow base tPl 2 v' (L ++ [(q, e)]).length (flatP (L ++ [(q, e)])) → (w.alloc (.cells C tPl)).grownBy w' v.ownBlock → (v'.ownBlock = v.ownBlock ∨ v'.ownBlock = some (w.heap.size + 1)) → wpList Try.prog ops Q rest (a.put o.dst v') w') :
    wpList Try.prog ops Q (o :: rest) a (w.alloc (.cells C tPl)) := by
  obtain ⟨i0, hi0, hz0, hz1, hz2⟩ := info_parts info_pl
  have hsize : (w.alloc (.cells C tPl)).heap.size = w.heap.size + 1 := by simp
  refine wpList_append_own_at _ hg s x _ ho base tPl i0 _ 2 16 Try.underlying136 hi0 hz0 hz1 hz2 rfl (by omega) v L.length (flatP L) hs (hown.alloc _) ⟨w.heap.size, 0, none⟩ 1 1 [.int .i64 (q : Int), .int .i64 (e : Int)] hx
    rfl (fun j y hy => ?_) ?_ (by unfold maxLen; omega) ?_ (by omega) ?_
  · have he : (Addr.mk w.heap.size 0 none).add j = ⟨w.heap.size, j, none⟩ := by
      unfold Addr.add; split
      · rename_i h0; rw [h0]
      · simp
    rw [he, World.cell?_alloc_mark, ← hy, ← hC]; simp
  · intro y hy
    simp only [List.mem_cons, List.not_mem_nil, or_false] at hy
    rcases hy with rfl | rfl
    all_goals rfl
  · omega
  · intro v' w' h1 h2 _ h4
    rw [hsize] at h4
    exact h v' w' (by rw [flatP_snoc, List.length_append, List.length_singleton]; exact h1) h2 h4
end
/-- What visit and reach leave as it was: all but the walker, seen and the live list's block. -/
structure Keep (w w' : World) (P : Parts) (vL vL' : Value) : Prop where
  size : w.heap.size ≤ w'.heap.size
  same : ∀ k, k < w.heap.size → k ≠ P.B → k ≠ P.gs → vL.ownBlock ≠ some k → w'.heap[k]? = w.heap[k]?
  blk : ∀ k, vL'.ownBlock = some k → vL.ownBlock = some k ∨ w.heap.size ≤ k
theorem Keep.trans {w w' w'' : World} {P : Parts} {v v' v'' : Value} (h : Keep w w' P v v') (h' : Keep w' w'' P v' v'') : Keep w w'' P v v'' := by
  refine ⟨Nat.le_trans h.size h'.size, fun k h1 h2 h3 h4 => ?_, fun k hk => ?_⟩
  · refine (h'.same k (Nat.lt_of_lt_of_le h1 h.size) h2 h3 (fun e => ?_)).trans (h.same k h1 h2 h3 h4)
    rcases h.blk k e with e | e
    · exact h4 e
    · omega
  · rcases h'.blk k hk with e | e
    · exact h.blk k e
    · exact .inr (Nat.le_trans h.size e)
theorem Keep.below {w w' : World} (P : Parts) (v : Value) (hb : Below w.heap.size w w') : Keep w w' P v v :=
  ⟨hb.size, fun k h1 _ _ _ => hb.block k h1, fun _ hk => .inl hk⟩
theorem Keep.setCell {w w' : World} {P : Parts} {v v' : Value} (h : Keep w w' P v v') {g : Nat} (hg : g = P.B ∨ g = P.gs) (i : Nat) (u : Value) : Keep w (w'.setCell ⟨g, i, none⟩ u) P v v' := by
  refine ⟨by simp [World.setCell]; exact h.size, fun k h1 h2 h3 h4 => ?_, h.blk⟩
  have hne : k ≠ g := by rcases hg with e | e <;> subst e <;> assumption
  exact (Below.heap_setCell _ _ _ k hne).trans (h.same k h1 h2 h3 h4)
theorem Keep.push {w w3 w4 : World} {P : Parts} {v v3 v4 : Value} (h : Keep w w3 P v v3) {C : Array Value} (h2 : (w3.alloc (.cells C tPl)).grownBy w4 v3.ownBlock) (h3 : v4.ownBlock = v3.ownBlock ∨ v4.ownBlock = some (w3.heap.size + 1)) : Keep w w4 P v v4 := by
  have hz : (w3.alloc (.cells C tPl)).heap.size = w3.heap.size + 1 := by simp
  have hs := h.size
  refine ⟨by have := h2.size; omega, fun k k1 k2 k3 k4 => ?_, fun k hk => ?_⟩
  · refine (h2.block k (by omega) (fun e => ?_)).trans ((Below.heap_alloc w3 _ k (by omega)).trans (h.same k k1 k2 k3 k4))
    rcases h.blk k e.symm with e | e
    · exact k4 e
    · omega
  · rcases h3 with e | e
    · exact h.blk k (by rw [← e]; exact hk)
    · rw [e] at hk; injection hk with hk; exact .inr (by omega)
/-- What visit leaves. -/
def visitD (st : Nat) (D : Dyn) (q e : Nat) : Dyn := if D.seen[q]? = some D.at_ then D else { D with L := D.L ++ [(q, e)], seen := D.seen.set q D.at_, fin := if q = st then (e : Int) else D.fin }
variable {n st : Nat} {w0 w1 w : World} {P : Parts} {D : Dyn} {vL vM : Value}
/-- A place more in the walker's list. -/
theorem Wk.push (h : Wk n st w0 w1 w P D vL vM) (hgs : P.B ≠ P.gs) (q e : Nat) (C : Array Value) {v' : Value} {w' : World} (h1 : w'.ownsRow w1.heap.size tPl 2 v' (D.L ++ [(q, e)]).length (flatP (D.L ++ [(q, e)]))) (h2 : (w.alloc (.cells C tPl)).grownBy w' vL.ownBlock) (h3 : v'.ownBlock = vL.ownBlock ∨ v'.ownBlock = some (w.heap.size + 1)) :
    Wk n st w0 w1 (w'.setCell ⟨P.B, 9, none⟩ v') P { D with L := D.L ++ [(q, e)] } v' vM := by
  have hz : (w.alloc (.cells C tPl)).heap.size = w.heap.size + 1 := by simp
  have hlo := h.lo
  have hsz := h.size
  have hk : ∀ k, k < w.heap.size → vL.ownBlock ≠ some k → w'.heap[k]? = w.heap[k]? := fun k hk hne => (h2.block k (by omega) (fun e => hne e.symm)).trans (Below.heap_alloc w _ k hk)
  have hL : ∀ k, k < w1.heap.size → vL.ownBlock ≠ some k := fun k hk => own_hi h.lv hk
  have hB : w'.heap[P.B]? = some (.cells (cellsK n st P D vL vM) tWk (0, 0)) := (hk _ (by omega) (hL _ (by omega))).trans h.blk
  have ho : ∀ k, k ≠ P.B → (w'.setCell ⟨P.B, 9, none⟩ v').heap[k]? = w'.heap[k]? := fun k e => Below.heap_setCell _ _ _ k e
  have hsz' : w1.heap.size ≤ w'.heap.size := by have := h2.size; omega
  refine ⟨?_, ?_, h.sl, own_setP h1 (by omega), own_setP ?_ (by omega), ?_, ?_, ?_, ?_, h.lo⟩
  · have := set_block (o := 9) (u := v') hB
    rw [this]; rfl
  · exact (ho _ (Ne.symm hgs)).trans ((hk _ (by omega) (hL _ (by omega))).trans h.seen)
  · rcases h.fm with ⟨e1, hh⟩
    refine ⟨e1, ?_⟩
    rcases hh with hn | ⟨g, cap, cur, hv, hb, hg, hr⟩
    · exact .inl hn
    · refine .inr ⟨g, cap, cur, hv, hb, (hk g (lt_some hg) (fun e => ?_)).trans hg, hr⟩
      exact h.ne g e (by rw [hv]; rfl)
  · intro k hk1 hk2
    rcases h3 with h3 | h3
    · rw [h3] at hk1; exact h.ne k hk1 hk2
    · rw [h3] at hk1
      injection hk1 with hk1
      have := (h.fm.lt k hk2).2
      omega
  · intro k k1 k2 k3
    exact (ho k k2).trans ((hk k (by omega) (hL k k1)).trans (h.chg k k1 k2 k3))
  · simp [World.setCell]; exact hsz'
  · refine Below.setCell ?_ (p := ⟨P.B, 9, none⟩) hlo.1 v'
    exact (h.bel.alloc (by have := h.bel.size; omega) _).grown h2 (by have := h.bel.size; omega) (fun k hk => by have := (h.lv.lt k hk).1; omega)
theorem own_formP {base m : Nat} {v : Value} {xs : List Value} (h : w.ownsRow base tPl 2 v m xs) : ∃ A c, v = .slice A m c := by
  rcases h.2 with ⟨e1, e2⟩ | ⟨g, cap, cur, e1, _⟩
  · exact ⟨none, 0, by rw [e1, e2]⟩
  · exact ⟨_, _, e1⟩
theorem Wk.blk4 (h : Wk n st w0 w1 w P D vL vM) {C : Array Value} {w' : World} (h2 : (w.alloc (.cells C tPl)).grownBy w' vL.ownBlock) : w'.heap[P.B]? = some (.cells (cellsK n st P D vL vM) tWk (0, 0)) := by
  have hz : (w.alloc (.cells C tPl)).heap.size = w.heap.size + 1 := by simp
  have hlo := h.lo
  have hsz := h.size
  exact (h2.block _ (by omega) (fun e => own_hi h.lv (by omega : P.B < w1.heap.size) e.symm)).trans ((Below.heap_alloc w _ _ (by omega)).trans h.blk)
set_option maxRecDepth 100000 in
set_option maxHeartbeats 2000000 in
theorem visit_any (h : Wk n st w0 w1 w P D vL vM) (hgs : P.B ≠ P.gs) (q e : Nat) (hq : q < n) (hL : D.L.length ≤ 10000) (_hst : st < n) (_hn : n ≤ 8000) :
    Calls Try.prog 136 #[.pointer (some ⟨P.B, 0, none⟩), .int .i64 (q : Int), .int .i64 (e : Int)] w fun x w' => x = .returned (.tuple #[]) ∧ ∃ vL', Wk n st w0 w1 w' P (visitD st D q e) vL' vM ∧ Keep w w' P vL vL' := by
  have HK := Lib.hid h
  have hqs : q < D.seen.length := by rw [h.sl]; exact hq
  have c11 : w.cell? ⟨P.B, 11, none⟩ = some (.slice (some ⟨P.gs, 0, none⟩) n n) := h.own 11 rfl
  have c8 : w.cell? ⟨P.B, 8, none⟩ = some (.int .i64 D.at_) := h.own 8 rfl
  have cs : w.cell? ⟨P.gs, q, none⟩ = some (.int .i64 D.seen[q]) := by
    simp only [World.cell?, h.seen]
    simp [intsV, hqs]
  have HSq : Hid (D.seen[q]? = some D.seen[q]) := Lib.hid (List.getElem?_eq_getElem hqs)
  have i0 : (0 : Int) ≤ (q : Int) := by omega
  have i1 : (q : Int) < (n : Int) := by omega
  generalize D.seen[q] = sq at cs HSq
  obtain ⟨at_, hat⟩ : ∃ x, x = D.at_ := ⟨_, rfl⟩
  have HAt := Lib.hid hat
  rw [← hat] at c8
  clear hat
  by_cases hse : sq = at_
  · have e1 : (sq == at_) = true := by rw [hse]; exact beq_self_eq_true _
    have HV : Hid (visitD st D q e = D) := Lib.hid (by unfold visitD; rw [if_pos (by rw [HSq.out, hse, HAt.out])])
    clear h hse
    go_enter Try.func136, Try.ntmps136
    go_upto_region 0 with fail
    go_quiet (fail)
    go_wp2_with fail
    refine bodyPost_ret (results_none rfl _ _ _) rfl ?_
    exact ⟨rfl, vL, by rw [HV.out]; exact HK.out.drewN nq, Keep.below P vL (below_drewN (Below.refl _ _) nq)⟩
  · have e1 : (sq == at_) = false := by rw [beq_eq_false_iff_ne]; exact hse
    have HV : Hid (visitD st D q e = { D with L := D.L ++ [(q, e)], seen := D.seen.set q at_, fin := if q = st then (e : Int) else D.fin }) := Lib.hid (by
      unfold visitD
      rw [if_neg (by rw [HSq.out, ← HAt.out]; intro h; injection h with h; exact hse h), HAt.out])
    clear h hse
    go_enter Try.func136, Try.ntmps136
    go_upto_region 0 with fail
    go_quiet (fail)
    have HK2 := Lib.hid (HK.out.drewN nq)
    have HP2 := Lib.hid (Keep.below P vL (below_drewN (Below.refl w.heap.size w) nq))
    generalize w.drewN nq = w2 at HK2 HP2 ⊢
    clear HK c11 c8 cs
    have c11 : w2.cell? ⟨P.B, 11, none⟩ = some (.slice (some ⟨P.gs, 0, none⟩) n n) := HK2.out.own 11 rfl
    have c8 : w2.cell? ⟨P.B, 8, none⟩ = some (.int .i64 at_) := by rw [HAt.out]; exact HK2.out.own 8 rfl
    go_upto_region 1 with fail
    have HK3 := Lib.hid ((HK2.out.drewN 1).setS q at_ hgs)
    have HP3 : Hid (Keep w (w2.drew.setCell ⟨P.gs, q, none⟩ (.int .i64 at_)) P vL vL) := Lib.hid ((HP2.out.trans (Keep.below P vL (Below.refl w2.heap.size w2).drew)).setCell (.inr rfl) q _)
    clear HP2
    have f0 := HK2.out.sfree q
    have cs : w2.drew.cell? ⟨P.gs, q, none⟩ = some (.int .i64 sq) := by
      rw [World.cell?_drew]
      simp only [World.cell?, HK2.out.seen]
      obtain ⟨h1, h2⟩ := List.getElem?_eq_some_iff.1 HSq.out
      simp [intsV, h1, h2]
    go_still_tail 10, (by kernel_rfl)
    repeat still_step
    change wpList _ _ _ _ _ w2.drew
    go_upto_region 2 with fail
    change Code.wp _ _ _ _ (w2.drew.setCell ⟨P.gs, q, none⟩ (.int .i64 at_))
    change Hid (Wk n st w0 w1 (w2.drew.setCell ⟨P.gs, q, none⟩ (.int .i64 at_)) P _ vL vM) at HK3
    generalize w2.drew.setCell ⟨P.gs, q, none⟩ (.int .i64 at_) = w3 at HK3 HP3 ⊢
    clear HK2 c11 c8 cs f0
    have c9 : w3.cell? ⟨P.B, 9, none⟩ = some vL := HK3.out.own 9 rfl
    have hb3 : w1.heap.size ≤ w3.heap.size := HK3.out.size
    have HO3 : Hid (w3.ownsRow w1.heap.size tPl 2 vL D.L.length (flatP D.L)) := Lib.hid HK3.out.lv
    by_cases hqst : q = st
    · have e2 : ((q : Int) == (st : Int)) = true := by rw [hqst]; exact beq_self_eq_true _
      have hw2 : (if q = st then (e : Int) else D.fin) = (e : Int) := if_pos hqst
      rw [hw2] at HV
      have HQ := Lib.hid hqst
      clear hqst hw2
      go_wp2_with (at_builtin; refine app_pl rfl (.tmp 32) (.tmp 36) rfl w1.heap.size D.L q e vL _ rfl HO3.out rfl rfl (by omega) hb3 ?_; intro v4 w4 ho4 hg4 hat4; obtain ⟨A4, c4, hv4⟩ := own_formP ho4; subst hv4; have HK5 := Lib.hid (HK3.out.push hgs q e _ ho4 hg4 hat4); have HP5 := Lib.hid ((HP3.out.push hg4 hat4).setCell (.inl rfl) 9 (.slice A4 (D.L.length + 1) c4)); have HB4 := Lib.hid (HK3.out.blk4 hg4); have d9 : w4.cell? ⟨P.B, 9, none⟩ = some vL := (by simp only [World.cell?, HB4.out]; rfl); have f9 : w4.frozen? ⟨P.B, 9, none⟩ = false := (by simp [World.frozen?, HB4.out]); have d1 : w4.cell? ⟨P.B, 1, none⟩ = some (.int .i64 (st : Int)) := (by simp only [World.cell?, HB4.out]; rfl); have d12 : w4.cell? ⟨P.B, 12, none⟩ = some (.int .i64 D.fin) := (by simp only [World.cell?, HB4.out]; rfl); have f12 : w4.frozen? ⟨P.B, 12, none⟩ = false := (by simp [World.frozen?, HB4.out]); rw [List.length_append, List.length_singleton] at HK5 HP5; clear ho4 hg4 hat4)
      go_end0
      exact ⟨rfl, _, by rw [HV.out]; exact HK5.out.setB 12 _ { D with L := D.L ++ [(q, e)], seen := D.seen.set q at_, fin := (e : Int) } rfl rfl rfl hgs rfl, HP5.out.setCell (.inl rfl) 12 _⟩
    · have e2 : ((q : Int) == (st : Int)) = false := by rw [beq_eq_false_iff_ne]; omega
      rw [if_neg hqst] at HV
      clear hqst
      go_wp2_with (at_builtin; refine app_pl rfl (.tmp 32) (.tmp 36) rfl w1.heap.size D.L q e vL _ rfl HO3.out rfl rfl (by omega) hb3 ?_; intro v4 w4 ho4 hg4 hat4; obtain ⟨A4, c4, hv4⟩ := own_formP ho4; subst hv4; have HK5 := Lib.hid (HK3.out.push hgs q e _ ho4 hg4 hat4); have HP5 := Lib.hid ((HP3.out.push hg4 hat4).setCell (.inl rfl) 9 (.slice A4 (D.L.length + 1) c4)); have HB4 := Lib.hid (HK3.out.blk4 hg4); have d9 : w4.cell? ⟨P.B, 9, none⟩ = some vL := (by simp only [World.cell?, HB4.out]; rfl); have f9 : w4.frozen? ⟨P.B, 9, none⟩ = false := (by simp [World.frozen?, HB4.out]); have d1 : w4.cell? ⟨P.B, 1, none⟩ = some (.int .i64 (st : Int)) := (by simp only [World.cell?, HB4.out]; rfl); have d12 : w4.cell? ⟨P.B, 12, none⟩ = some (.int .i64 D.fin) := (by simp only [World.cell?, HB4.out]; rfl); have f12 : w4.frozen? ⟨P.B, 12, none⟩ = false := (by simp [World.frozen?, HB4.out]); rw [List.length_append, List.length_singleton] at HK5 HP5; clear ho4 hg4 hat4)
      go_end0
      exact ⟨rfl, _, by rw [HV.out]; exact HK5.out, HP5.out⟩
end Se
end Go.Proofs.Ythoidaaldngpmaa

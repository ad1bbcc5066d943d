/-
  Slices of merged lines: how they read, slices that the call owns, append of one and of a read slice; parts of slices. Conditions: fewer than a million elements.
-/
import Derived.Test.YtechabkmepejaaaLosM
import Derived.Test.YtechabkmepejaaaScrMade
import Derived.Laws.AppendOwnNone
import Derived.Lib.SliceRun
namespace Go.Proofs.Ytechabkmepejaaa
open Go.RowKit
namespace Lo
open Cm Sc
abbrev tMg : TypeId := 38
abbrev tMgs : TypeId := 25
abbrev tI : TypeId := 3
abbrev tIs : TypeId := 22
def mgC (m : Mg) : List Value := [.int .i64 m.line, .int .u32 (m.par : Int)]
def MgB (m : Mg) : Prop := zB m.line ∧ m.par < 4294967296
abbrev zeroMg : Value := .agg #[.int .i64 0, .int .u32 0]
theorem info_mg : (Try.prog.info? tMg).map (fun i => (i.zero, i.size, i.bytes)) = some (some zeroMg, 2, 16) := by kernel_rfl
abbrev RdM := RdK 2 mgC
theorem mgC_len (m : Mg) : (mgC m).length = 2 := rfl
theorem RdM_at {w : World} {A : Option Addr} {n c : Nat} {l : List Mg} (h : RdM w (.slice A n c) l) (k : Nat) (hk : k < l.length) : ∃ b off, A = some ⟨b, off, none⟩ ∧
    w.cell? ⟨b, off + k * 2, none⟩ = some (.int .i64 l[k].line) ∧ w.cell? ⟨b, off + k * 2 + 1, none⟩ = some (.int .u32 (l[k].par : Int)) := by
  obtain ⟨b, off, e, hc⟩ := h.at k hk
  exact ⟨b, off, e, hc 0 (show 0 < 2 by decide), hc 1 (show 1 < 2 by decide)⟩
def OwnM (base : Nat) (w : World) (v : Value) (l : List Mg) : Prop := w.ownsRow base tMg 2 v l.length (flatK mgC l)
theorem OwnM.rd {base : Nat} {w : World} {v : Value} {l : List Mg} (h : OwnM base w v l) : RdM w v l := RdK.of_own mgC_len h
theorem OwnM.below {base : Nat} {w w' : World} {v : Value} {l : List Mg} (h : OwnM base w v l) (hb : Below w.heap.size w w') : OwnM base w' v l := ownK_below h hb
theorem OwnM.nil (base : Nat) (w : World) : OwnM base w (.slice none 0 0) [] := World.ownsRow_nil _ _ _ _
theorem OwnM.base {base base' : Nat} {w : World} {v : Value} {l : List Mg} (h : OwnM base w v l) (hb : base' ≤ base) : OwnM base' w v l := ownK_base h hb
theorem OwnM.drewN {base : Nat} {w : World} {v : Value} {l : List Mg} (h : OwnM base w v l) (m : Nat) : OwnM base (w.drewN m) v l := h.below (below_drewN (Below.refl _ _) m)
theorem one_mg (m : Mg) : ∀ u ∈ mgC m, u.oneCell' = true := by
  intro u hu
  unfold mgC at hu
  simp only [List.mem_cons, List.not_mem_nil, or_false] at hu
  rcases hu with rfl | rfl
  all_goals rfl
theorem app_mg {ops : Array Oper} {rest : List Oper} {o : Oper} {a : Act} {Q : Exit → Act → World → Prop} {w : World} (hg : Region.wanted o (yielded ops a.tmps) = true)
    (s x : Operand) (ho : o.op = .call { callee := .builtin .append, args := #[s, x], argTypes := #[tMgs, tMgs] })
    (base : Nat) (l : List Mg) (c : Mg) (v : Value) (C : Array Value) (hs : a.eval s = v) (hown : OwnM base w v l)
    {g : Nat} (hz : w.heap.size = g) (hx : a.eval x = .slice (some ⟨g, 0, none⟩) 1 1) (hC : C.toList = mgC c)
    (hsz : l.length + 1 ≤ 1000000) (hbase : base ≤ w.heap.size)
    (h : ∀ v' w', OwnM base w' v' (l ++ [c]) → Below base w w' → (w.alloc (.cells C tMg)).grownBy w' v.ownBlock → wpList Try.prog ops Q rest (a.put o.dst v') w') :
    wpList Try.prog ops Q (o :: rest) a (w.alloc (.cells C tMg)) :=
  app_k (by decide) hg Try.underlying25 info_mg rfl (by decide) s x ho base l.length (flatK mgC l) (mgC c) rfl (one_mg c) v C hs hown (by rw [hz]; exact hx) hC hsz hbase
    (fun v' w' h1 h2 h3 => h v' w' (by unfold OwnM; rw [List.length_append, List.length_singleton, flatK_snoc]; exact h1) h2 h3)
theorem flat_atM {l : List Mg} {j : Nat} {y : Value} (h : (flatK mgC l)[j]? = some y) : ∃ (hj : j / 2 < l.length) (hi : j % 2 < (mgC l[j / 2]).length), y = (mgC l[j / 2])[j % 2] := by
  have hlt : j < (flatK mgC l).length := by
    rcases Nat.lt_or_ge j (flatK mgC l).length with h1 | h1
    · exact h1
    · rw [List.getElem?_eq_none h1] at h; cases h
  rw [flatK_len mgC_len] at hlt
  have hj : j / 2 < l.length := by omega
  have hi : j % 2 < 2 := Nat.mod_lt _ (by decide)
  refine ⟨hj, hi, ?_⟩
  have := flatK_get mgC_len l (j / 2) hj (j % 2) hi
  rw [show j / 2 * 2 + j % 2 = j from by omega, h] at this
  rw [List.getElem?_eq_getElem (show j % 2 < (mgC l[j / 2]).length from hi)] at this
  exact Option.some.inj this
theorem flat_oneM (l : List Mg) : ∀ u ∈ flatK mgC l, u.oneCell' = true := by
  intro u hu
  unfold flatK at hu
  obtain ⟨c, _, hc⟩ := List.mem_flatMap.1 hu
  exact one_mg c u hc
theorem flatM_app (l xs : List Mg) : flatK mgC (l ++ xs) = flatK mgC l ++ flatK mgC xs := by simp [flatK]
theorem app_mgs {ops : Array Oper} {rest : List Oper} {o : Oper} {a : Act} {Q : Exit → Act → World → Prop} {w : World} (hg : Region.wanted o (yielded ops a.tmps) = true) (s x : Operand)
    (ho : o.op = .call { callee := .builtin .append, args := #[s, x], argTypes := #[tMgs, tMgs] })
    (base : Nat) (l xs : List Mg) (v u : Value) (hs : a.eval s = v) (hown : OwnM base w v l)
    (hx : a.eval x = u) (hr : RdM w u xs) (hsz : l.length + xs.length ≤ 1000000) (hbase : base ≤ w.heap.size)
    (h : ∀ v' w', OwnM base w' v' (l ++ xs) → Below base w w' → w.grownBy w' v.ownBlock → wpList Try.prog ops Q rest (a.put o.dst v') w') :
    wpList Try.prog ops Q (o :: rest) a w := by
  obtain ⟨i0, hi0, hz0, hz1, hz2⟩ := info_parts info_mg
  obtain ⟨A, c, rfl, ⟨_, hnone⟩, hc⟩ := hr
  refine wpList_wanted hg fun K hK => ?_
  cases A with
  | none =>
    have h0 : xs = [] := by
      rcases Nat.eq_zero_or_pos xs.length with h1 | h1
      · exact List.eq_nil_of_length_eq_zero h1
      · obtain ⟨b, off, e, _⟩ := hc h1; cases e
    subst h0
    obtain rfl := hnone rfl
    have hrun := run_append_owned_none (P := Try.prog) (w := w) base tMgs o.type tMg i0 2 Try.underlying25 hi0 v l.length (flatK mgC l) hown
    unfold Oper.wp
    simp [execOp, ho, resolve, invoke, builtin, hs, hx, hrun, Result.andThen]
    exact hK _ _ (h v w (by rw [show l ++ [] = l from List.append_nil _]; exact hown) (Below.refl _ _) ⟨rfl, rfl, rfl, Nat.le_refl _, fun _ _ _ => rfl⟩)
  | some ad =>
    refine wp_append_own w s x _ ho base tMg i0 _ 2 16 Try.underlying25 hi0 hz0 hz1 hz2 rfl (by omega) v l.length (flatK mgC l) hs hown ad xs.length c (flatK mgC xs) hx (by rw [flatK_len mgC_len, Nat.mul_comm]) (fun j y hy => ?_) (flat_oneM xs) (by unfold maxLen; omega) (by omega) hbase ?_
    · obtain ⟨hj, hi, rfl⟩ := flat_atM hy
      obtain ⟨b, off, e, hcell⟩ := hc (by omega)
      cases e
      have he : (Addr.mk b off none).add j = ⟨b, off + j, none⟩ := by
        unfold Addr.add; split
        · rename_i h0; rw [h0]; rfl
        · rfl
      rw [he]
      have := hcell (j / 2) hj (j % 2) hi
      rw [show off + j / 2 * 2 + j % 2 = off + j from by omega] at this
      exact this
    · intro v' w' h1 h2 _
      refine hK _ _ (h v' w' ?_ ((Below.refl base w).grown h2 hbase (fun k hk => (World.ownsRow.lt hown k hk).1)) h2)
      unfold OwnM
      rw [flatM_app, List.length_append]
      exact h1
/-! ### parts of slices -/
theorem cutN_len {α : Type} (l : List α) {a b : Nat} (hb : b ≤ l.length) : (cutI l (a : Int) (b : Int)).length = b - a := by
  unfold cutI
  rw [List.length_take, List.length_drop]
  omega
theorem cutN_get {α : Type} (l : List α) {a b j : Nat} (hb : b ≤ l.length) (hj : j < b - a) (h1 : j < (cutI l (a : Int) (b : Int)).length) : (cutI l (a : Int) (b : Int))[j] = l[a + j]'(by omega) := by
  have h := cutI_get l (i := (a : Int)) (j := (b : Int)) (k := j) (by omega)
  rw [List.getElem?_eq_getElem h1, Int.toNat_natCast, List.getElem?_eq_getElem (by omega)] at h
  exact Option.some.inj h
theorem cutN_rest {α : Type} (l : List α) (a : Nat) : cutI l (a : Int) (l.length : Int) = l.drop a := by
  rw [cutI_end l (by omega) (Int.le_refl _), Int.toNat_natCast]
theorem rdM_parts {w : World} {A : Option Addr} {n c : Nat} {l : List Mg} (h : RdM w (.slice A n c) l) : n = l.length ∧ n ≤ c ∧ (A = none → c = 0) := by
  obtain ⟨A', c', e, hc, _⟩ := h
  injection e with e1 e2 e3
  subst e1 e3
  rw [e2]
  exact ⟨rfl, hc⟩
theorem rdM_cut {w : World} {A : Option Addr} {n c : Nat} {l : List Mg} (h : RdM w (.slice A n c) l) (a b : Nat) (hab : a ≤ b) (hb : b ≤ l.length) :
    RdM w (.slice (if c = a then A else A.map (·.add (a * 2))) (b - a) (c - a)) (cutI l (a : Int) (b : Int)) := by
  obtain ⟨hn, hcap⟩ := rdM_parts h
  refine ⟨_, _, by rw [cutN_len l hb], ⟨by rw [cutN_len l hb]; omega, fun e => ?_⟩, fun hp => ?_⟩
  · split at e
    · have := hcap.2 e; omega
    · cases A with
      | none => have := hcap.2 rfl; omega
      | some a => simp at e
  · rw [cutN_len l hb] at hp
    obtain ⟨A2, c2, e, _, hc0⟩ := h
    injection e with e1 e2 e3
    subst e1 e3
    obtain ⟨bl, off, rfl, hc1⟩ := hc0 (by omega)
    refine ⟨bl, off + a * 2, ?_, fun j hj i hi => ?_⟩
    · rw [if_neg (by omega)]
      simp only [Option.map_some, Addr.add]
      split
      · rename_i h0; rw [h0]; rfl
      · rfl
    · have hj2 : j < b - a := by rw [cutN_len l hb] at hj; exact hj
      have hg := cutN_get l hb hj2 hj
      have h5 := hc1 (a + j) (by omega) i (by rw [mgC_len]; exact hi)
      rw [show off + a * 2 + j * 2 + i = off + (a + j) * 2 + i from by omega, h5]
      simp only [hg]
/-- A part of a slice of merged lines. -/
theorem slice_mgs {A : Option Addr} {n c : Nat} {l : List Mg} (w : World) (h : RdM w (.slice A n c) l) (a b : Nat) (hab : a ≤ b) (hb : b ≤ l.length) :
    ∃ A', (∀ W : World, Sem.run Try.prog (Instr.slice tMgs (.slice A n c) (some (.int .i64 (a : Int))) (some (.int .i64 (b : Int))) none) W = .ok (.slice A' (b - a) (c - a)) W) ∧ ∀ w', RdM w' (.slice A n c) l → RdM w' (.slice A' (b - a) (c - a)) (cutI l (a : Int) (b : Int)) := by
  obtain ⟨hn, hcap⟩ := rdM_parts h
  refine ⟨_, fun W => ?_, fun w' h => rdM_cut h a b hab hb⟩
  have h1 := run_slice_lh (P := Try.prog) (w := W) tMgs A n c (by kernel_rfl) .i64 .i64 (a : Int) (b : Int) (by omega) (by omega) (by omega)
  rw [h1, show (Go.sizeOf (Try.prog.elem tMgs)).run Try.prog W = .ok 2 W from by kernel_rfl]
  simp only [Result.andThen, sliced, Int.toNat_natCast]
theorem slice_mgr {A : Option Addr} {n c : Nat} {l : List Mg} (w : World) (h : RdM w (.slice A n c) l) (a : Nat) (ha : a ≤ l.length) :
    ∃ A', (∀ W : World, Sem.run Try.prog (Instr.slice tMgs (.slice A n c) (some (.int .i64 (a : Int))) none none) W = .ok (.slice A' (n - a) (c - a)) W) ∧ ∀ w', RdM w' (.slice A n c) l → RdM w' (.slice A' (n - a) (c - a)) (l.drop a) := by
  obtain ⟨hn, hcap⟩ := rdM_parts h
  refine ⟨if c = a then A else A.map (·.add (a * 2)), fun W => ?_, fun w' h => by rw [← cutN_rest, hn]; exact rdM_cut h a l.length ha (Nat.le_refl _)⟩
  have h1 := run_slice_l (P := Try.prog) (w := W) tMgs A n c (by kernel_rfl) .i64 (a : Int) (by omega) (by omega)
  rw [h1, show (Go.sizeOf (Try.prog.elem tMgs)).run Try.prog W = .ok 2 W from by kernel_rfl]
  simp only [Result.andThen, sliced, Int.toNat_natCast]
/-- A part of a slice of ints. -/
theorem slice_is {A : Option Addr} {n c : Nat} {l : List Int} (w : World) (h : RdV w (.slice A n c) (intsV l)) (a b : Nat) (hab : a ≤ b) (hb : b ≤ l.length) :
    ∃ A', (∀ W : World, Sem.run Try.prog (Instr.slice tIs (.slice A n c) (some (.int .i64 (a : Int))) (some (.int .i64 (b : Int))) none) W = .ok (.slice A' (b - a) (c - a)) W) ∧ ∀ w', RdV w' (.slice A n c) (intsV l) → RdV w' (.slice A' (b - a) (c - a)) (intsV (cutI l (a : Int) (b : Int))) := by
  have hn : n = l.length := by have := h.len; rw [intsV_len] at this; exact this
  have hcap : n ≤ c ∧ (A = none → c = 0) := by
    obtain ⟨A', c', e, hc, _⟩ := h
    injection e with e1 e2 e3
    subst e1 e3
    rw [e2]; exact hc
  refine ⟨if c = a then A else A.map (·.add (a * 1)), fun W => ?_, fun w' h => ?_⟩
  · have h1 := run_slice_lh (P := Try.prog) (w := W) tIs A n c (by kernel_rfl) .i64 .i64 (a : Int) (b : Int) (by omega) (by omega) (by omega)
    rw [h1, show (Go.sizeOf (Try.prog.elem tIs)).run Try.prog W = .ok 1 W from by kernel_rfl]
    simp only [Result.andThen, sliced, Int.toNat_natCast]
  · refine ⟨_, _, by rw [intsV_len, cutN_len l hb], ⟨by rw [intsV_len, cutN_len l hb]; omega, fun e => ?_⟩, fun hp => ?_⟩
    · split at e
      · have := hcap.2 e; omega
      · cases A with
        | none => have := hcap.2 rfl; omega
        | some a => simp at e
    · rw [intsV_len, cutN_len l hb] at hp
      obtain ⟨_, bl, off, rfl, hc⟩ := h.at (by rw [intsV_len]; omega)
      refine ⟨bl, off + a, ?_, fun j hj => ?_⟩
      · rw [if_neg (by omega)]
        simp only [Option.map_some, Nat.mul_one, Addr.add]
        split
        · rename_i h0; simp [h0]
        · rfl
      · rw [intsV_len] at hj
        have hj2 : j < b - a := by rw [cutN_len l hb] at hj; exact hj
        rw [show off + a + j = off + (a + j) from by omega, hc (a + j) (by rw [intsV_len]; omega)]
        have hg := cutN_get l hb hj2 hj
        simp only [intsV, List.getElem_map]
        rw [hg]
/-! ### what an append leaves alone -/
/-- Blocks of other things than merged lines are as they were. -/
def KeptM (w w' : World) : Prop := ∀ (k : Nat) (cur : Array Value) (e : TypeId) (fz : Nat × Nat), e ≠ tMg → w.heap[k]? = some (Obj.cells cur e fz) → w'.heap[k]? = w.heap[k]?
theorem KeptM.refl (w : World) : KeptM w w := fun _ _ _ _ _ _ => rfl
theorem KeptM.trans {w w' w'' : World} (h : KeptM w w') (h' : KeptM w' w'') : KeptM w w'' := fun k cur e fz h1 h3 => by
  have h4 := h k cur e fz h1 h3
  exact (h' k cur e fz h1 (h4.trans h3)).trans h4
theorem lt_blk {w : World} {k : Nat} {o : Obj} (h : w.heap[k]? = some o) : k < w.heap.size := (Array.getElem?_eq_some_iff.1 h).1
theorem KeptM.of_below {w w' : World} (h : Below w.heap.size w w') : KeptM w w' := fun k _ _ _ _ h3 => h.block k (lt_blk h3)
theorem KeptM.grown {base : Nat} {w w1 w' : World} {v : Value} {l : List Mg} (ho : OwnM base w v l) (h0 : Below w.heap.size w w1) (h : w1.grownBy w' v.ownBlock) : KeptM w w' := fun k cur e fz h1 h3 => by
  have hlt := lt_blk h3
  have e1 := h0.block k hlt
  refine (h.block k (Nat.lt_of_lt_of_le hlt h0.size) ?_).trans e1
  rcases ho.2 with ⟨rfl, _⟩ | ⟨g, cap, cur', rfl, _, hh, _⟩
  · simp [Value.ownBlock]
  · intro e2
    have : k = g := by simpa [Value.ownBlock] using e2
    subst this
    rw [h3] at hh
    injection hh with hh
    injection hh with _ ht
    exact h1 ht
theorem KeptM.cells {w w' : World} (h : KeptM w w') {G : Nat} {cur : Array Value} {t : TypeId} {fz : Nat × Nat} (hb : w.heap[G]? = some (.cells cur t fz)) (ht : t ≠ tMg) : w'.heap[G]? = some (.cells cur t fz) := (h G _ _ _ ht hb).trans hb
def MpPost (base : Nat) (ls : List Mg) (w : World) (e : Ending) (w' : World) : Prop := ∃ v, e = .returned v ∧ OwnM base w' v ls ∧ Below base w w' ∧ KeptM w w'
/-- A bit of 32. -/
theorem wrap_u32 (x : Nat) (h : x < 4294967296) : IntKind.u32.wrap (x : Int) = (x : Int) := by
  rw [IntKind.wrap_u32]; exact Int.emod_eq_of_lt (Int.natCast_nonneg _) (Int.ofNat_lt.2 h)
theorem ofInt_u32 (a : Nat) (ha : a < 4294967296) : (BitVec.ofInt 32 (a : Int)).toNat = a := by
  rw [BitVec.ofInt_natCast, BitVec.toNat_ofNat]; exact Nat.mod_eq_of_lt (by omega)
theorem or_u32 (a b : Nat) (ha : a < 4294967296) (hb : b < 4294967296) : bits .or .u32 (a : Int) (b : Int) = ((a ||| b : Nat) : Int) := by
  show IntKind.u32.wrap ((BitVec.ofInt 32 (a : Int) ||| BitVec.ofInt 32 (b : Int)).toNat : Int) = _
  rw [BitVec.toNat_or, ofInt_u32 a ha, ofInt_u32 b hb]
  exact wrap_u32 _ (Nat.or_lt_two_pow (n := 32) ha hb)
end Lo
end Go.Proofs.Ytechabkmepejaaa

/-
  The program's placesOf: the map of the places. Conditions: at most 4096 lines, numbers that an int holds.
-/
import Derived.Test.YtechabkmepejaaaShoBef
import Derived.Maps.OwnSet
import Derived.Carry
namespace Go.Proofs.Ytechabkmepejaaa
open Go.RowKit Go.Maps
namespace Sh
open Cm Sc
abbrev tMp : TypeId := 69
theorem lawI : Keyed Try.prog tI := int_keyed Try.underlying3
theorem zeroS (w : World) : (zeroValue tSet).run Try.prog w = .ok (.slice none 0 0) w := by kernel_rfl
/-- How an element reads: as the number of its block. -/
def rowR (W : Nat) : Value → Option (DataW Unit × List MemPlace)
  | .slice none 0 0 => some (.nil, [])
  | .slice (some ⟨g, 0, none⟩) n c => if n = W ∧ c = W then some (.lit (.int .i64 (g : Int)), []) else none
  | _ => none
theorem rowR_nil (W : Nat) : rowR W (.slice none 0 0) = some (.nil, []) := rfl
theorem rowR_mk (W g : Nat) : rowR W (.slice (some ⟨g, 0, none⟩) W W) = some (.lit (.int .i64 (g : Int)), []) := by simp [rowR]
theorem rowR_inv_nil {W : Nat} {v : Value} {ps : List MemPlace} (h : rowR W v = some (.nil, ps)) : v = .slice none 0 0 := by
  unfold rowR at h
  split at h
  · rfl
  · split at h
    · simp at h
    · cases h
  · cases h
theorem rowR_inv {W g : Nat} {v : Value} {ps : List MemPlace} (h : rowR W v = some (.lit (.int .i64 (g : Int)), ps)) : v = .slice (some ⟨g, 0, none⟩) W W := by
  unfold rowR at h
  split at h
  · simp at h
  · rename_i g' n c
    split at h
    · rename_i hc
      obtain ⟨rfl, rfl⟩ := hc
      simp at h
      have : g' = g := by omega
      rw [this]
    · cases h
  · cases h
abbrev ik (z : Int) : Lit := .int .i64 z
theorem ik_wf {z : Int} (h : zB z) : (ik z).wf = true := by
  have h' := h
  unfold zB at h'
  exact WalkArith.wf_i64 (by omega)
/-- The map of the places: which numbers it holds (K), and their sets (S). -/
def Pls (w : World) (base W mb cnt : Nat) (K : Int → Prop) (S : Int → Nat → Bool) : Prop :=
  ∃ D : DataW Unit, w.ownsMap Try.prog tI (rowR W) mb cnt D ∧ base ≤ mb ∧ (∀ z, ¬ K z → Maps.has D (ik z) = false ∧ D.atKey (ik z) .nil = .nil) ∧
    (∀ z, K z → Maps.has D (ik z) = true ∧ ∃ g : Nat, D.atKey (ik z) .nil = .lit (.int .i64 (g : Int)) ∧ base ≤ g ∧ Blk w g tU (wordsV (S z) W)) ∧
    ∀ z z', K z → K z' → z ≠ z' → D.atKey (ik z) .nil ≠ D.atKey (ik z') .nil
theorem ownsMap_below {w w' : World} {P : Program} {k : TypeId} {R : Value → Option (DataW Unit × List MemPlace)} {b n : Nat} {D : DataW Unit} (h : w.ownsMap P k R b n D) (hb : Below w.heap.size w w') : w'.ownsMap P k R b n D :=
  h.kept (row := none) ⟨hb.os, hb.tape, hb.output, hb.size, fun k hk _ => hb.block k hk⟩ (by simp)
theorem Pls.below {w w' : World} {base W mb cnt : Nat} {K : Int → Prop} {S : Int → Nat → Bool} (h : Pls w base W mb cnt K S) (hb : Below w.heap.size w w') : Pls w' base W mb cnt K S := by
  obtain ⟨D, h1, h2, h3, h4, h5⟩ := h
  exact ⟨D, ownsMap_below h1 hb, h2, h3, fun z hz => by obtain ⟨a, g, b, c, d⟩ := h4 z hz; exact ⟨a, g, b, c, d.below hb⟩, h5⟩
theorem Pls.congr {w : World} {base W mb cnt : Nat} {K K' : Int → Prop} {S S' : Int → Nat → Bool} (h : Pls w base W mb cnt K S) (hk : ∀ z, K z ↔ K' z) (hs : ∀ z, K z → S z = S' z) : Pls w base W mb cnt K' S' := by
  obtain ⟨D, h1, h2, h3, h4, h5⟩ := h
  exact ⟨D, h1, h2, fun z hz => h3 z (fun hh => hz ((hk z).1 hh)), fun z hz => by
    obtain ⟨a, g, b, c, d⟩ := h4 z ((hk z).2 hz)
    exact ⟨a, g, b, c, by rw [← hs z ((hk z).2 hz)]; exact d⟩, fun z z' hz hz' => h5 z z' ((hk z).2 hz) ((hk z').2 hz')⟩
theorem Pls.made (w : World) (W : Nat) (S : Int → Nat → Bool) : Pls (w.alloc (.map #[] 0)) w.heap.size W w.heap.size 0 (fun _ => False) S :=
  ⟨.map [], World.ownsMap_made _ _ _ _, Nat.le_refl _, fun _ _ => ⟨rfl, rfl⟩, fun _ h => h.elim, fun _ _ h => h.elim⟩
theorem key_ik {z : Int} (h : zB z) : keyOf Try.prog tI (.int .i64 z) = some (ik z) := keyOf_int_mk Try.underlying3 (ik_wf h)
theorem ik_ne {z z' : Int} (h : z ≠ z') : ik z ≠ ik z' := fun e => h (by injection e)
/-- A number that is not there. -/
theorem Pls.absent {w : World} {base W mb cnt : Nat} {K : Int → Prop} {S : Int → Nat → Bool} (h : Pls w base W mb cnt K S) {z : Int} (hz : ¬ K z) (hb : zB z) :
    (Instr.lookup tMp (.map (some mb)) (.int .i64 z) false).run Try.prog w = .ok (.slice none 0 0) w ∧ (Instr.lookup tMp (.map (some mb)) (.int .i64 z) true).run Try.prog w = .ok (.tuple #[.slice none 0 0, .bool false]) w := by
  obtain ⟨D, h1, h2, h3, h4, h5⟩ := h
  obtain ⟨e1, e2⟩ := h3 z hz
  constructor
  · obtain ⟨v, ps, hr, hv⟩ := h1.lookup lawI Try.underlying69 (zeroS w) (rowR_nil W) (key_ik hb)
    rw [e2] at hv
    rw [hr, rowR_inv_nil hv]
  · obtain ⟨v, ps, hr, hv⟩ := h1.look_ok lawI Try.underlying69 (zeroS w) (rowR_nil W) (key_ik hb)
    rw [e2] at hv
    rw [hr, rowR_inv_nil hv, e1]
open Classical in
/-- The sets with one line more at z. -/
noncomputable def upS (S : Int → Nat → Bool) (z : Int) (c : Nat) : Int → Nat → Bool := fun z' => if z' = z then putM (S z) c else S z'
/-- A number that is there: its set, and one line more in it. -/
theorem Pls.get {w : World} {base W mb cnt : Nat} {K : Int → Prop} {S : Int → Nat → Bool} (h : Pls w base W mb cnt K S) {z : Int} (hz : K z) (hb : zB z) :
    ∃ g, base ≤ g ∧ Blk w g tU (wordsV (S z) W) ∧ (Instr.lookup tMp (.map (some mb)) (.int .i64 z) false).run Try.prog w = .ok (.slice (some ⟨g, 0, none⟩) W W) w ∧ (Instr.lookup tMp (.map (some mb)) (.int .i64 z) true).run Try.prog w = .ok (.tuple #[.slice (some ⟨g, 0, none⟩) W W, .bool true]) w ∧
      ∀ c, Pls (w.setCell ⟨g, c / 64, none⟩ (.int .u64 ((word (S z) (c / 64) ||| 2 ^ (c % 64) : Nat) : Int))) base W mb cnt K (upS S z c) := by
  obtain ⟨D, h1, h2, h3, h4, h5⟩ := h
  obtain ⟨e1, g, e2, hg, hB⟩ := h4 z hz
  refine ⟨g, hg, hB, ?_, ?_, fun c => ⟨D, ?_, h2, h3, fun z' hz' => ?_, h5⟩⟩
  · obtain ⟨v, ps, hr, hv⟩ := h1.lookup lawI Try.underlying69 (zeroS w) (rowR_nil W) (key_ik hb)
    rw [e2] at hv
    rw [hr, rowR_inv hv]
  · obtain ⟨v, ps, hr, hv⟩ := h1.look_ok lawI Try.underlying69 (zeroS w) (rowR_nil W) (key_ik hb)
    rw [e2] at hv
    rw [hr, rowR_inv hv, e1]
  · refine h1.setCell (a := ⟨g, c / 64, none⟩) ?_ _
    rintro rfl
    obtain ⟨es, clock, hm, _⟩ := h1
    rw [hB] at hm; cases hm
  · obtain ⟨a1, g', a2, a3, a4⟩ := h4 z' hz'
    refine ⟨a1, g', a2, a3, ?_⟩
    unfold upS
    by_cases e : z' = z
    · subst e
      rw [if_pos rfl]
      have : g' = g := by
        rw [a2] at e2
        injection e2 with e2
        injection e2 with _ e2
        omega
      subst this
      rw [wordsV_put]
      exact Blk.set a4 (c / 64) (.int .u64 ((word (S z') (c / 64) ||| 2 ^ (c % 64) : Nat) : Int))
    · rw [if_neg e]
      have hne : g' ≠ g := by
        rintro rfl
        exact h5 z' z hz' hz e (a2.trans e2.symm)
      exact a4.set_ne hne _ _
set_option maxHeartbeats 1000000 in
/-- A number is added. -/
theorem Pls.add {w w1 : World} {base W mb cnt g : Nat} {K : Int → Prop} {S : Int → Nat → Bool} (h : Pls w base W mb cnt K S) {z : Int} (hz : ¬ K z) (hb : zB z) (hS : S z = fun _ => false) (hn : cnt < maxLen) (hg : w.heap.size ≤ g) (hB : Blk w1 g tU (List.replicate W (.int .u64 0))) (hbl : Below w.heap.size w w1) :
    ∃ w2, (Instr.mapUpdate tMp (.map (some mb)) (.int .i64 z) (.slice (some ⟨g, 0, none⟩) W W)).run Try.prog w1 = .ok () w2 ∧ Pls w2 base W mb (cnt + 1) (fun z' => z' = z ∨ K z') S ∧ Below base w1 w2 := by
  obtain ⟨D, h1, h2, h3, h4, h5⟩ := h
  have h1' := ownsMap_below h1 hbl
  obtain ⟨w2, hr, ho, hgr⟩ := h1'.update lawI Try.underlying69 hn (key_ik hb) (rowR_mk W g)
  have hmlt := h1.lt
  have hD := h1.isMap
  have hk : ∀ k, k < w1.heap.size → k ≠ mb → w2.heap[k]? = w1.heap[k]? := fun k hk hne => hgr.block k hk (by simpa using hne)
  have hne : ∀ g' l, Blk w1 g' tU l → g' ≠ mb := fun g' l hb' => by
    rintro rfl
    obtain ⟨es, clock, hm, _⟩ := h1'
    rw [hb'] at hm; cases hm
  have hkeep : ∀ g' l, Blk w1 g' tU l → Blk w2 g' tU l := fun g' l hb' => (hk g' hb'.lt (hne g' l hb')).trans hb'
  refine ⟨w2, hr, ⟨_, ho, h2, fun z' hz' => ?_, fun z' hz' => ?_, fun x y hx hy hxy => ?_⟩, ?_⟩
  · have hne' : z' ≠ z := fun e => hz' (.inl e)
    have hK : ¬ K z' := fun e => hz' (.inr e)
    rw [has_put_other (ik_ne hne'), atKey_put_other (ik_ne hne')]
    exact h3 z' hK
  · by_cases e : z' = z
    · subst e
      rw [has_put_same hD (by trivial), atKey_put_same hD (by trivial)]
      refine ⟨rfl, g, rfl, by omega, ?_⟩
      rw [hS, wordsV_none]
      exact hkeep g _ hB
    · have hK : K z' := hz'.resolve_left e
      rw [has_put_other (ik_ne e), atKey_put_other (ik_ne e)]
      obtain ⟨a1, g', a2, a3, a4⟩ := h4 z' hK
      exact ⟨a1, g', a2, a3, hkeep g' _ (a4.below hbl)⟩
  · have old : ∀ x, K x → x ≠ z → (D.put (ik z) (.lit (.int .i64 (g : Int)))).atKey (ik x) .nil ≠ (D.put (ik z) (.lit (.int .i64 (g : Int)))).atKey (ik z) .nil := fun x hx hxz e => by
      rw [atKey_put_other (ik_ne hxz), atKey_put_same hD (by trivial)] at e
      obtain ⟨a1, g', a2, a3, a4⟩ := h4 x hx
      rw [a2] at e
      injection e with e
      injection e with _ e
      have := a4.lt
      omega
    by_cases e1 : x = z
    · subst e1
      have hyK : K y := hy.resolve_left (fun e => hxy e.symm)
      exact fun e => old y hyK (fun e => hxy e.symm) e.symm
    · have hxK : K x := hx.resolve_left e1
      by_cases e2 : y = z
      · subst e2
        exact old x hxK e1
      · rw [atKey_put_other (ik_ne e1), atKey_put_other (ik_ne e2)]
        exact h5 x y hxK (hy.resolve_left e2) hxy
  · exact (Below.refl _ _).grown hgr (by have := hbl.size; omega) (fun k hk => by cases hk; exact h2)
theorem or_int (a k : Nat) (ha : a < 18446744073709551616) (hk : k < 64) : bits .or .u64 (a : Int) ((2 : Int) ^ k) = ((a ||| 2 ^ k : Nat) : Int) := by
  rw [show (2 : Int) ^ k = ((2 ^ k : Nat) : Int) from by simp]
  exact or_walk a k ha hk
theorem step_look {ops : Array Oper} {rest : List Oper} {o : Oper} {a : Act} {Q : Exit → Act → World → Prop} {w : World} (hg : o.guard = none) (m x : Operand) (t : TypeId) (c : Bool) (hop : o.op = Op.lookup t m x c) (vm key v : Value) (hm : a.eval m = vm) (hx : a.eval x = key)
    (hrun : (Instr.lookup t vm key c).run Try.prog w = .ok v w) (hK : wpList Try.prog ops Q rest (a.put o.dst v) w) : wpList Try.prog ops Q (o :: rest) a w := by
  refine wpList_plain hg fun K' hK' => ?_
  unfold Oper.wp
  simp [execOp, hop, hm, hx, hrun, Result.andThen]
  exact hK' _ _ hK
theorem step_upd {ops : Array Oper} {rest : List Oper} {o : Oper} {a : Act} {Q : Exit → Act → World → Prop} {w w2 : World} (hg : o.guard = none) (m x v : Operand) (t : TypeId) (hop : o.op = Op.mapUpdate t m x v) (vm key val : Value) (hm : a.eval m = vm) (hx : a.eval x = key) (hv : a.eval v = val)
    (hrun : (Instr.mapUpdate t vm key val).run Try.prog w = .ok () w2) (hK : wpList Try.prog ops Q rest (a.put o.dst undef) w2) : wpList Try.prog ops Q (o :: rest) a w := by
  refine wpList_plain hg fun K' hK' => ?_
  unfold Oper.wp
  simp [execOp, hop, hm, hx, hv, hrun, Result.andThen]
  exact hK' _ _ hK
/-- The places of the first j lines. -/
def setB (a : List Int) (j : Nat) (z : Int) (p : Nat) : Bool := decide (p < a.length ∧ a.length - 1 - p < j ∧ a[a.length - 1 - p]? = some z)
theorem setB_all (a : List Int) (z : Int) : setB a a.length z = eqB a z := by
  funext p
  unfold setB eqB
  rw [decide_eq_decide]
  exact ⟨fun h => ⟨h.1, h.2.2⟩, fun h => ⟨h.1, by omega, h.2⟩⟩
theorem setB_new {a : List Int} {j : Nat} {z : Int} (h : z ∉ a.take j) : setB a j z = fun _ => false := by
  funext p
  unfold setB
  rw [decide_eq_false_iff_not]
  rintro ⟨h1, h2, h3⟩
  exact h (List.mem_iff_getElem?.2 ⟨a.length - 1 - p, by rw [List.getElem?_take, if_pos h2]; exact h3⟩)
theorem setB_put {a : List Int} {j : Nat} (h : j < a.length) : setB a (j + 1) a[j] = putM (setB a j a[j]) (a.length - 1 - j) := by
  funext p
  unfold setB putM
  rw [Bool.eq_iff_iff, Bool.or_eq_true, decide_eq_true_iff, decide_eq_true_iff, beq_iff_eq]
  constructor
  · rintro ⟨h1, h2, h3⟩
    by_cases e : p = a.length - 1 - j
    · exact .inl e
    · exact .inr ⟨h1, by omega, h3⟩
  · rintro (e | ⟨h1, h2, h3⟩)
    · subst e
      have e2 : a.length - 1 - (a.length - 1 - j) = j := by omega
      rw [e2]
      exact ⟨by omega, by omega, List.getElem?_eq_getElem h⟩
    · exact ⟨h1, by omega, h3⟩
theorem setB_keep {a : List Int} {j : Nat} (h : j < a.length) {z : Int} (hz : z ≠ a[j]) : setB a (j + 1) z = setB a j z := by
  funext p
  unfold setB
  rw [decide_eq_decide]
  constructor
  · rintro ⟨h1, h2, h3⟩
    refine ⟨h1, ?_, h3⟩
    by_cases e : a.length - 1 - p = j
    · rw [e, List.getElem?_eq_getElem h] at h3
      exact absurd (Option.some.inj h3).symm hz
    · omega
  · rintro ⟨h1, h2, h3⟩; exact ⟨h1, by omega, h3⟩
theorem upS_setB {a : List Int} {j : Nat} (h : j < a.length) (z : Int) : upS (setB a j) a[j] (a.length - 1 - j) z = setB a (j + 1) z := by
  unfold upS
  by_cases e : z = a[j]
  · rw [if_pos e, e, setB_put h]
  · rw [if_neg e, setB_keep h e]
theorem mem_take_succ {a : List Int} {j : Nat} (h : j < a.length) (z : Int) : z ∈ a.take (j + 1) ↔ z = a[j] ∨ z ∈ a.take j := by
  rw [List.take_succ_eq_append_getElem h, List.mem_append, List.mem_singleton, Or.comm]
def PlsPost (a : List Int) (W : Nat) (w : World) (e : Ending) (w' : World) : Prop := ∃ mb, e = .returned (.map (some mb)) ∧ Pls w' w.heap.size W mb 5000 (· ∈ a) (eqB a) ∧ Below w.heap.size w w'
theorem Pls.mono {w : World} {base W mb cnt cnt' : Nat} {K : Int → Prop} {S : Int → Nat → Bool} (h : Pls w base W mb cnt K S) (hc : cnt ≤ cnt') : Pls w base W mb cnt' K S := by
  obtain ⟨D, h1, h2, h3, h4, h5⟩ := h
  exact ⟨D, h1.mono hc, h2, h3, h4, h5⟩
set_option maxRecDepth 100000 in
set_option maxHeartbeats 8000000 in
theorem places_at (A : Option Addr) (c n W : Nat) (a : List Int) (w : World) (HA : Hid (RdV w (.slice A n c) (intsV a))) (hn : n ≤ 4096) (HN : Hid (n = a.length)) (hB : Hid (∀ z ∈ a, zB z)) (HW : Hid (W = (n + 63) / 64)) :
    Calls Try.prog 37 #[.slice A n c] w (PlsPost a W w) := by
  have hmm := @run_makeMap Try.prog
  have HWf := Lib.hid (fun w => wordsFor_any n hn w)
  rw [← HW.out] at HWf
  have hW64 : W ≤ 64 := by rw [HW.out]; omega
  go_enter Try.func37, Try.ntmps37
  go_wp2_with fail
  go_loopw [11] (fun i wr => ∃ j : Nat, j ≤ n ∧ i = .int .i64 j ∧ Hid (Pls wr w.heap.size W w.heap.size j (· ∈ a.take j) (setB a j)) ∧ Hid (Below w.heap.size w wr)) (fun i _ => n - (intOf i).toNat)
  case atStart => exact ⟨0, Nat.zero_le _, rfl, Lib.hid ((Pls.made w W (setB a 0)).congr (fun z => by simp) (fun _ _ => rfl)), Lib.hid ((Below.refl _ _).alloc (Nat.le_refl _) _)⟩
  case round =>
    clear hmm
    obtain ⟨j, hj, rfl, HP, HBl⟩ := hrel
    by_cases hlt : j < n
    · have hx : j < a.length := by rw [← HN.out]; exact hlt
      obtain ⟨b1, o1, rfl, c1⟩ := int_at (HA.out.below HBl.out) j hx
      have hzb := hB.out _ (List.getElem_mem hx)
      have HPl := Lib.hid (fun w => place_any j n (n - 1 - j) hlt hn rfl w)
      have hWp : (n - 1 - j) / 64 < W := by rw [HW.out]; omega
      have HU := Lib.hid (fun z => upS_setB hx z)
      rw [← HN.out] at HU
      have HMem := Lib.hid (fun z => mem_take_succ hx z)
      have HNone : Hid (a[j] ∉ a.take j → setB a j a[j] = fun _ => false) := Lib.hid setB_new
      generalize a[j] = z at c1 hzb HU HMem HNone
      generalize n - 1 - j = p at HPl hWp HU
      have i0 : (0 : Int) ≤ (j : Int) := by omega
      have i1 : (j : Int) < (n : Int) := by omega
      have i2 : (0 : Int) ≤ ((p / 64 : Nat) : Int) := by omega
      have i3 : ((p / 64 : Nat) : Int) < (W : Int) := by omega
      by_cases hold : z ∈ a.take j
      · obtain ⟨g, hg, hBk, hr1, _, _⟩ := HP.out.get hold hzb
        have HR1 := Lib.hid hr1
        have HP3 := Lib.hid (fun q => HP.out.below (below_drewN (Below.refl _ wr) q))
        have HB3 := Lib.hid (fun q => HBl.out.trans ((below_drewN (Below.refl _ wr) q).mono HBl.out.size))
        have HEnd : Hid (∀ z', (z' ∈ a.take j ↔ z' ∈ a.take (j + 1))) := Lib.hid (fun z' => by
          rw [HMem.out z']
          exact ⟨.inr, fun h => h.elim (fun e => e ▸ hold) id⟩)
        clear hr1 HMem HNone hBk hg HP
        go_wp2_with (at_lookup; refine step_look rfl (.tmp 16) (.tmp 17) tMp false rfl _ _ _ rfl rfl HR1.out ?_)
        apply_assumption
        go_upto_region 8 with ((go_at_call 41; refine (HPl.out _).mono ?_; rintro e w3 ⟨rfl, q, rfl⟩))
        obtain ⟨g, hg, hBk, hr2, _, hput⟩ := (HP3.out q).get hold hzb
        have HR2 := Lib.hid hr2
        have HPut := Lib.hid (hput p)
        have hc := hBk.cell (k := p / 64) (by rw [wordsV_len]; exact hWp)
        rw [wordsV_get] at hc
        have hf := hBk.free (p / 64)
        have ho := or_int (word (setB a j z) (p / 64)) (p % 64) (word_lt _ _) (by omega)
        have HBs : Hid (Below w.heap.size w ((wr.drewN q).setCell ⟨g, p / 64, none⟩ (.int .u64 ((word (setB a j z) (p / 64) ||| 2 ^ (p % 64) : Nat) : Int)))) := Lib.hid ((HB3.out q).setCell hg _)
        have HPn := Lib.hid ((HPut.out.congr HEnd.out (fun z' _ => funext fun x => congrFun (HU.out z') x)).mono (Nat.le_succ j))
        clear hr2 hput hBk HPut HEnd HU HP3 HB3 HBl
        generalize (word (setB a j z) (p / 64) ||| 2 ^ (p % 64)) = xy at *
        generalize word (setB a j z) (p / 64) = x at *
        generalize (2 : Int) ^ (p % 64) = y at *
        generalize wr.drewN q = w3 at *
        go_wp2_with (at_lookup; refine step_look rfl (.tmp 33) (.tmp 34) tMp false rfl _ _ _ rfl rfl HR2.out ?_)
        go_roundw
        case rel => exact ⟨j + 1, by omega, by go_num, HPn, HBs⟩
        case measure => simp [intOf]; omega
      · obtain ⟨hr1, _⟩ := HP.out.absent hold hzb
        have HR1 := Lib.hid hr1
        have HAdd := Lib.hid (fun (w1 : World) hB hbl => HP.out.add (w1 := w1) (g := wr.heap.size) hold hzb (HNone.out hold) (by unfold maxLen; omega) (Nat.le_refl _) hB hbl)
        have HEnd : Hid (∀ z', (z' = z ∨ z' ∈ a.take j ↔ z' ∈ a.take (j + 1))) := Lib.hid (fun z' => (HMem.out z').symm)
        clear hr1 HMem HNone
        go_wp2_with (at_lookup; refine step_look rfl (.tmp 16) (.tmp 17) tMp false rfl _ _ _ rfl rfl HR1.out ?_)
        apply_assumption
        go_upto_region 7 with (first
          | (go_at_call 39; refine (HWf.out _).mono ?_; rintro e w0 ⟨rfl, rfl⟩)
          | (refine mk_row rfl (.tmp 24) (.tmp 24) rfl Try.underlying72 info_u rfl (by omega) W rfl rfl (by omega) ?_; intro w1 HB1 _ hb1; obtain ⟨w2, hr3, hp3, hb3⟩ := HAdd.out w1 HB1.out hb1; have HR3 := Lib.hid hr3; have HP2 := Lib.hid hp3; have HB2 := Lib.hid ((HBl.out.trans (hb1.mono HBl.out.size)).trans hb3); clear hr3 hp3 hb3 hb1 HAdd HB1)
          | (at_mapUpdate; refine step_upd rfl (.tmp 20) (.tmp 21) (.tmp 25) tMp rfl _ _ _ rfl rfl rfl HR3.out ?_))
        have HP3 := Lib.hid (fun q => HP2.out.below (below_drewN (Below.refl _ w2) q))
        have HB3 := Lib.hid (fun q => HB2.out.trans ((below_drewN (Below.refl _ w2) q).mono HB2.out.size))
        clear HP2 HB2 HP HBl
        go_upto_region 8 with (go_at_call 41; refine (HPl.out _).mono ?_; rintro e w3 ⟨rfl, q, rfl⟩)
        obtain ⟨g, hg, hBk, hr2, _, hput⟩ := (HP3.out q).get (.inl rfl) hzb
        have HR2 := Lib.hid hr2
        have HPut := Lib.hid (hput p)
        have hc := hBk.cell (k := p / 64) (by rw [wordsV_len]; exact hWp)
        rw [wordsV_get] at hc
        have hf := hBk.free (p / 64)
        have ho := or_int (word (setB a j z) (p / 64)) (p % 64) (word_lt _ _) (by omega)
        have HBs : Hid (Below w.heap.size w ((w2.drewN q).setCell ⟨g, p / 64, none⟩ (.int .u64 ((word (setB a j z) (p / 64) ||| 2 ^ (p % 64) : Nat) : Int)))) := Lib.hid ((HB3.out q).setCell hg _)
        have HPn := Lib.hid (HPut.out.congr HEnd.out (fun z' _ => funext fun x => congrFun (HU.out z') x))
        clear hr2 hput hBk HPut HEnd HU HP3 HB3
        generalize (word (setB a j z) (p / 64) ||| 2 ^ (p % 64)) = xy at *
        generalize word (setB a j z) (p / 64) = x at *
        generalize (2 : Int) ^ (p % 64) = y at *
        generalize w2.drewN q = w3 at *
        go_wp2_with (at_lookup; refine step_look rfl (.tmp 33) (.tmp 34) tMp false rfl _ _ _ rfl rfl HR2.out ?_)
        go_roundw
        case rel => exact ⟨j + 1, by omega, by go_num, HPn, HBs⟩
        case measure => simp [intOf]; omega
    · obtain rfl : j = n := by omega
      have hd : decide (j < j) = false := by simp
      have HF : Hid (PlsPost a W w (.returned (.map (some w.heap.size))) wr) := Lib.hid ⟨_, rfl, (HP.out.congr (fun z => by rw [HN.out, List.take_length]) (fun z _ => by rw [HN.out, setB_all])).mono (by omega), HBl.out⟩
      clear HP
      go_wp2_with fail
      go_ret
      exact HF.out
end Sh
end Go.Proofs.Ytechabkmepejaaa

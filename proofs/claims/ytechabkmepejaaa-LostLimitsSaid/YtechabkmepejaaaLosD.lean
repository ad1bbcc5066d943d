/-
  The program's and the reference's Project. Conditions: fewer than a million elements, sets of 32 parents.
-/
import Derived.Test.YtechabkmepejaaaLosB
import Derived.Test.YtechabkmepejaaaLosI
namespace Go.Proofs.Ytechabkmepejaaa
open Go.RowKit
namespace Lo
open Cm Sc
/-- A new slice of ints. -/
def NwPost (xs : List Int) (w : World) (e : Ending) (w' : World) : Prop := ∃ v, e = .returned v ∧ w'.ownsRow w.heap.size tI 1 v xs.length (intsV xs) ∧ Below w.heap.size w w'
theorem infoI : (Try.prog.info? tI).map (fun i => (i.zero, i.size, i.bytes)) = some (some (.int .i64 0), 1, 8) := by kernel_rfl
/-- A parent's bit. -/
def bitI (x p : Nat) : Int := if x.testBit p = true then 1 else 0
theorem bit_at (x p : Nat) (hx : x < 4294967296) : bits .and .u32 ((x : Int) / 2 ^ p) 1 = bitI x p := by
  have e : (x : Int) / 2 ^ p = ((x / 2 ^ p : Nat) : Int) := by simp
  have h1 : x / 2 ^ p < 4294967296 := Nat.lt_of_le_of_lt (Nat.div_le_self _ _) hx
  rw [e]
  show IntKind.u32.wrap ((BitVec.ofInt 32 ((x / 2 ^ p : Nat) : Int) &&& BitVec.ofInt 32 ((1 : Nat) : Int)).toNat : Int) = _
  rw [BitVec.toNat_and, ofInt_u32 _ h1, ofInt_u32 1 (by omega), Nat.and_one_is_mod, wrap_u32 _ (by omega)]
  unfold bitI
  rw [Nat.testBit_eq_decide_div_mod_eq]
  have h2 : x / 2 ^ p % 2 < 2 := Nat.mod_lt _ (by omega)
  by_cases h : x / 2 ^ p % 2 = 1
  · simp [h]
  · have h3 : x / 2 ^ p % 2 = 0 := by omega
    simp [h3]
theorem intsV_snoc (l : List Int) (x : Int) : intsV l ++ [.int .i64 x] = intsV (l ++ [x]) := by simp [intsV]
/-- The lines of the first k elements. -/
theorem prN_take_T {l : List Mg} {k p : Nat} (h : k < l.length) (hb : l[k].par.testBit p = true) : prN (l.take (k + 1)) p = prN (l.take k) p ++ [l[k].line] := by
  rw [List.take_succ_eq_append_getElem h, prN_app]
  simp [prN, lnM, hb]
theorem prN_take_F {l : List Mg} {k p : Nat} (h : k < l.length) (hb : l[k].par.testBit p = false) : prN (l.take (k + 1)) p = prN (l.take k) p := by
  rw [List.take_succ_eq_append_getElem h, prN_app]
  simp [prN, lnM, hb]
theorem prN_len (l : List Mg) (p : Nat) : (prN l p).length ≤ l.length := by
  unfold prN lnM
  rw [List.length_map]
  exact List.length_filter_le _ _
theorem prF_in {l : List Mg} {p : Nat} (h : p < 32) : prF l (p : Int) = prN l p := by
  unfold prF
  rw [if_pos ⟨by omega, by omega⟩, Int.toNat_natCast]
  rfl
theorem prF_out {l : List Mg} {p : Int} (h : p < 0 ∨ 32 ≤ p) : prF l p = [] := by
  unfold prF
  rw [if_neg (by omega)]
theorem app_i {ops : Array Oper} {rest : List Oper} {o : Oper} {a : Act} {Q : Exit → Act → World → Prop} {w : World} (hg : Region.wanted o (yielded ops a.tmps) = true)
    (s x : Operand) (ho : o.op = .call { callee := .builtin .append, args := #[s, x], argTypes := #[tIs, tIs] })
    (base n : Nat) (l : List Value) (u : Value) (hu : u.oneCell' = true) (v : Value) (C : Array Value) (hs : a.eval s = v) (hown : w.ownsRow base tI 1 v n l)
    {g : Nat} (hz : w.heap.size = g) (hx : a.eval x = .slice (some ⟨g, 0, none⟩) 1 1) (hC : C.toList = [u])
    (hsz : n + 1 ≤ 100000000) (hbase : base ≤ w.heap.size)
    (h : ∀ v' w', w'.ownsRow base tI 1 v' (n + 1) (l ++ [u]) → Below base w w' → (w.alloc (.cells C tI)).grownBy w' v.ownBlock → wpList Try.prog ops Q rest (a.put o.dst v') w') :
    wpList Try.prog ops Q (o :: rest) a (w.alloc (.cells C tI)) :=
  app_one hg Try.underlying22 infoI rfl (by decide) s x ho base n l u hu v C hs hown (by rw [hz]; exact hx) hC hsz hbase h
set_option maxRecDepth 100000 in
set_option maxHeartbeats 4000000 in
theorem Project_in (v : Value) (l : List Mg) (p : Nat) (w : World) (h : RdM w v l) (hl : l.length ≤ 100000) (hp : p < 32) (hb : ∀ m ∈ l, m.par < 4294967296) :
    Calls Try.prog 14 #[v, .int .i64 (p : Int)] w (NwPost (prN l p) w) := by
  obtain ⟨A, c, rfl⟩ := h.form
  have HR := Lib.hid h
  have HP := Lib.hid (fun k (hk : k < l.length) => hb _ (List.getElem_mem hk))
  clear h hb
  generalize hN : l.length = N at hl ⊢
  have HN := Lib.hid hN
  clear hN
  have p0 : (0 : Int) ≤ (p : Int) := by omega
  have p1 : (p : Int) < 32 := by omega
  have q1 : decide ((p : Int) < 0) = false := decide_eq_false (by omega)
  have q2 : decide ((32 : Int) ≤ (p : Int)) = false := decide_eq_false (by omega)
  go_enter Try.func14, Try.ntmps14
  go_wp2_with fail
  go_loopw [5, 16] (fun v' k' wr => ∃ k : Nat, k ≤ N ∧ k' = .int .i64 (k : Int) ∧ Hid (wr.ownsRow w.heap.size tI 1 v' (prN (l.take k) p).length (intsV (prN (l.take k) p))) ∧ Hid (Below w.heap.size w wr)) (fun _ k' _ => N - (intOf k').toNat)
  case atStart => exact ⟨0, Nat.zero_le _, rfl, Lib.hid (World.ownsRow_nil _ _ _ _), Lib.hid (Below.refl _ _)⟩
  case round =>
    obtain ⟨k, hk, rfl, HO, HB⟩ := hrel
    by_cases hlt : k < N
    · have hx : k < l.length := by rw [HN.out]; exact hlt
      obtain ⟨b, off, rfl, c0, c1⟩ := RdM_at (HR.out.below HB.out) k hx
      have i1 : (0 : Int) ≤ (k : Int) := by omega
      have i2 : (k : Int) < (N : Int) := by omega
      have hbt := bit_at l[k].par p (HP.out k hx)
      have hln := prN_len (l.take k) p
      rw [List.length_take] at hln
      have hlb : (prN (l.take k) p).length ≤ 100000 := by omega
      by_cases hbit : l[k].par.testBit p = true
      · have HT := Lib.hid (prN_take_T hx hbit)
        have e : bitI l[k].par p = 1 := by unfold bitI; rw [if_pos hbit]
        rw [e] at hbt
        clear e hbit hln
        generalize l[k].line = ln at *
        generalize l[k].par = pr at *
        generalize prN (l.take k) p = q at *
        have hbs := HB.out.size
        go_wp2_with (at_builtin; refine app_i rfl (.tmp 26) (.tmp 29) rfl w.heap.size q.length (intsV q) (.int .i64 ln) rfl _ _ rfl (World.ownsRow.alloc HO.out _) (by simp) rfl rfl (by omega) (by simp; omega) ?_; intro v3 w3 ho3 hb3 _; rw [intsV_snoc] at ho3; have HO3 := Lib.hid ho3; have HB3 := Lib.hid ((HB.out.alloc hbs _).trans hb3); clear ho3 hb3)
        go_roundw
        case rel => exact ⟨k + 1, by omega, by go_num, by rw [HT.out, List.length_append, List.length_singleton]; exact HO3, HB3⟩
        case measure => simp [intOf]; omega
      · have HT := Lib.hid (prN_take_F hx (by simpa using hbit))
        have e : bitI l[k].par p = 0 := by unfold bitI; rw [if_neg hbit]
        rw [e] at hbt
        clear e hbit hln
        generalize l[k].line = ln at *
        generalize l[k].par = pr at *
        generalize prN (l.take k) p = q at *
        have hbs := HB.out.size
        go_wp2_with fail
        go_roundw
        case rel => exact ⟨k + 1, by omega, by go_num, by rw [HT.out]; exact Lib.hid (World.ownsRow.alloc HO.out _), Lib.hid (HB.out.alloc hbs _)⟩
        case measure => simp [intOf]; omega
    · obtain rfl : k = N := by omega
      go_wp2_with fail
      go_ret
      have h1 := HO.out
      rw [← HN.out, List.take_length] at h1
      exact ⟨_, rfl, h1, HB.out⟩
end Lo
end Go.Proofs.Ytechabkmepejaaa

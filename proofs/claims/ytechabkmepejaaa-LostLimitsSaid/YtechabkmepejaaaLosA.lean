/-
  The program's lines and appendShared. Conditions: fewer than a million elements.
-/
import Derived.Test.YtechabkmepejaaaLosB
import Derived.Test.YtechabkmepejaaaShoScr
namespace Go.Proofs.Ytechabkmepejaaa
open Go.RowKit
namespace Lo
open Cm Sc
theorem info_i : (Try.prog.info? tI).map (fun i => (i.zero, i.size, i.bytes)) = some (some (.int .i64 0), 1, 8) := by kernel_rfl
set_option maxRecDepth 100000 in
set_option maxHeartbeats 2000000 in
theorem appendShared_any (base : Nat) (ls ys : List Mg) (bit : Nat) (v u : Value) (w : World) (ho : OwnM base w v ls) (hr : ∀ w', Below base w w' → RdM w' u ys) (hb : base ≤ w.heap.size) (hl : ls.length + ys.length ≤ 999999) (hp : ∀ y ∈ ys, y.par < 4294967296) (hbit : bit < 4294967296) :
    Calls Try.prog 26 #[v, u, .int .u32 (bit : Int)] w (MpPost base (ls ++ shr bit ys) w) := by
  obtain ⟨A, c, rfl⟩ := (hr w (Below.refl _ _)).form
  have HA : Hid (∀ w', Below base w w' → ∀ j (h : j < ys.length), ∃ b off, A = some ⟨b, off, none⟩ ∧ w'.cell? ⟨b, off + j * 2, none⟩ = some (.int .i64 ys[j].line) ∧ w'.cell? ⟨b, off + j * 2 + 1, none⟩ = some (.int .u32 (ys[j].par : Int))) := Lib.hid (fun w' hg j h => RdM_at (hr w' hg) j h)
  have HTk : Hid (∀ j (h : j < ys.length), ls ++ shr bit (ys.take (j + 1)) = (ls ++ shr bit (ys.take j)) ++ [⟨ys[j].line, ys[j].par ||| bit⟩]) := Lib.hid (fun j h => by
    rw [List.take_succ_eq_append_getElem h, shr_snoc, List.append_assoc])
  have HLn : Hid (∀ j, j ≤ ys.length → (ls ++ shr bit (ys.take j)).length = ls.length + j) := Lib.hid (fun j h => by
    rw [List.length_append, shr_len, List.length_take]; omega)
  have HO := Lib.hid ho
  have HEnd : Hid (∀ v w', OwnM base w' v (ls ++ shr bit (ys.take ys.length)) → Below base w w' → KeptM w w' → MpPost base (ls ++ shr bit ys) w (.returned v) w') := Lib.hid (fun v w' h1 h2 h3 => ⟨v, rfl, by rw [List.take_length] at h1; exact h1, h2, h3⟩)
  have HPy : Hid (∀ j (h : j < ys.length), ys[j].par < 4294967296) := Lib.hid (fun j h => hp _ (List.getElem_mem h))
  clear hr ho hp
  generalize hL : ls.length = L at *
  generalize hN : ys.length = N at hl HLn HEnd ⊢
  have HN := Lib.hid hN
  clear hL hN
  have HS : Hid (OwnM base w v (ls ++ shr bit (ys.take 0))) := Lib.hid (by
    have : ls ++ shr bit (ys.take 0) = ls := by simp [shr]
    rw [this]; exact HO.out)
  go_enter Try.func26, Try.ntmps26
  go_wp2_with fail
  go_loopw [0, 11] (fun v' i wr => ∃ j : Nat, j ≤ N ∧ i = .int .i64 j ∧ Hid (OwnM base wr v' (ls ++ shr bit (ys.take j))) ∧ Hid (Below base w wr) ∧ Hid (KeptM w wr)) (fun _ i _ => N - (intOf i).toNat)
  case atStart => exact ⟨0, Nat.zero_le _, rfl, HS, Lib.hid (Below.refl _ _), Lib.hid (KeptM.refl _)⟩
  case round =>
    obtain ⟨j, hj, rfl, HOj, HB, HK⟩ := hrel
    by_cases hlt : j < N
    · have hx : j < ys.length := by rw [HN.out]; exact hlt
      obtain ⟨b, off, rfl, c0, c1⟩ := HA.out wr HB.out j hx
      have HTj := Lib.hid (HTk.out j hx)
      have hlj := HLn.out j hj
      have hpy := HPy.out j hx
      have hor := or_u32 ys[j].par bit hpy hbit
      generalize ys[j].line = ln at *
      generalize ys[j].par = pr at *
      generalize ls ++ shr bit (ys.take j) = lj at HOj HTj hlj
      have i1 : (0 : Int) ≤ (j : Int) := by omega
      have i2 : (j : Int) < (N : Int) := by omega
      have hbw : base ≤ wr.heap.size := Nat.le_trans hb HB.out.size
      have hlj2 : lj.length + 1 ≤ 1000000 := by omega
      clear hlj
      go_wp2_with (at_builtin; refine app_mg rfl (.tmp 20) (.tmp 22) rfl base lj ⟨ln, pr ||| bit⟩ _ _ rfl (World.ownsRow.alloc HOj.out _) (by simp) rfl rfl hlj2 (by simp; omega) ?_; intro v3 w3 ho3 hb3 hg3; have HO3 := Lib.hid ho3; have HB3 := Lib.hid ((HB.out.alloc hbw _).trans hb3); have HK3 := Lib.hid (HK.out.trans (KeptM.grown HOj.out (((Below.refl _ _).alloc (Nat.le_refl _) _).alloc (by simp) _) hg3)); clear ho3 hb3 hg3)
      go_roundw
      case rel => exact ⟨j + 1, by omega, by go_num, by rw [HTj.out]; exact HO3, HB3, HK3⟩
      case measure => simp [intOf]; omega
    · obtain rfl : j = N := by omega
      go_wp2_with fail
      go_ret
      exact HEnd.out _ _ HOj.out HB.out HK.out
/-- A new slice of ints, in a block of its own. -/
def LnPost (xs : List Int) (w : World) (e : Ending) (w' : World) : Prop := e = .returned (.slice (some ⟨w.heap.size, 0, none⟩) xs.length xs.length) ∧ Sh.Blk w' w.heap.size tI (intsV xs) ∧ Below w.heap.size w w'
def midL (l : List Mg) (N k : Nat) : List Value := intsV (lnM (l.take k)) ++ List.replicate (N - k) (.int .i64 0)
theorem midL_len {l : List Mg} {N k : Nat} (hN : l.length = N) (hk : k ≤ N) : (midL l N k).length = N := by
  unfold midL
  rw [List.length_append, intsV_len, lnM_len, List.length_take, List.length_replicate]; omega
theorem midL_end {l : List Mg} {N : Nat} (hN : l.length = N) : midL l N N = intsV (lnM l) := by
  unfold midL
  rw [Nat.sub_self, List.replicate_zero, List.append_nil, ← hN, List.take_length]
theorem midL_set {l : List Mg} {N k : Nat} (hN : l.length = N) (h : k < l.length) : (midL l N k).set k (.int .i64 l[k].line) = midL l N (k + 1) := by
  unfold midL
  have hl : (intsV (lnM (l.take k))).length = k := by rw [intsV_len, lnM_len, List.length_take]; omega
  rw [List.set_append_right _ _ (by rw [hl]; exact Nat.le_refl _), hl, Nat.sub_self, List.take_succ_eq_append_getElem h]
  rw [show N - k = (N - (k + 1)) + 1 from by omega, List.replicate_succ, List.set_cons_zero]
  have e : intsV (lnM (l.take k ++ [l[k]])) = intsV (lnM (l.take k)) ++ [.int .i64 l[k].line] := by
    rw [show lnM (l.take k ++ [l[k]]) = lnM (l.take k) ++ [l[k].line] from by unfold lnM; rw [List.map_append]; rfl]
    unfold intsV
    rw [List.map_append]; rfl
  rw [e, List.append_assoc]
  rfl
set_option maxRecDepth 100000 in
set_option maxHeartbeats 2000000 in
theorem lines_any (v : Value) (l : List Mg) (w : World) (h : RdM w v l) (hl : l.length ≤ 100000) :
    Calls Try.prog 20 #[v] w (LnPost (lnM l) w) := by
  obtain ⟨A, c, rfl⟩ := h.form
  have HR := Lib.hid h
  clear h
  generalize hN : l.length = N at hl ⊢
  have HN := Lib.hid hN
  clear hN
  have HM0 : Hid (List.replicate N (.int .i64 0) = midL l N 0) := Lib.hid rfl
  have HMs : Hid (∀ k (h : k < l.length), (midL l N k).set k (.int .i64 l[k].line) = midL l N (k + 1)) := Lib.hid (fun k h => midL_set (HN.out) h)
  have HMl : Hid (∀ k, k ≤ N → (midL l N k).length = N) := Lib.hid (fun k h => midL_len HN.out h)
  have HEnd : Hid (midL l N N = intsV (lnM l)) := Lib.hid (midL_end HN.out)
  go_enter Try.func20, Try.ntmps20
  go_wp2_with (refine Sh.mk_row rfl (.tmp 7) (.tmp 7) rfl Try.underlying22 info_i rfl (by omega) N rfl rfl (by omega) ?_; intro w1 HB1 _ hb1; rw [HM0.out] at HB1; have HBl1 := Lib.hid hb1; clear hb1)
  clear HM0
  have hg0 := HBl1.out.size
  obtain ⟨g, hg⟩ : ∃ g, g = w.heap.size := ⟨_, rfl⟩
  rw [← hg] at HB1 ⊢
  have HG := Lib.hid hg
  clear hg
  go_loopw [11] (fun k' wr => ∃ k : Nat, k ≤ N ∧ k' = .int .i64 (k : Int) ∧ Hid (Sh.Blk wr g tI (midL l N k)) ∧ Hid (Below w.heap.size w wr)) (fun k' _ => N - (intOf k').toNat)
  case atStart => exact ⟨0, Nat.zero_le _, rfl, HB1, HBl1⟩
  case round =>
    obtain ⟨k, hk, rfl, HB, HBl⟩ := hrel
    clear HB1 HBl1 hg0
    by_cases hlt : k < N
    · have hx : k < l.length := by rw [HN.out]; exact hlt
      obtain ⟨b, off, rfl, c0, c1⟩ := RdM_at (HR.out.below HBl.out) k hx
      have HSk := Lib.hid (HMs.out k hx)
      have hlk := HMl.out k hk
      generalize l[k].line = ln at *
      generalize l[k].par = pr at *
      have i1 : (0 : Int) ≤ (k : Int) := by omega
      have i2 : (k : Int) < (N : Int) := by omega
      have hgs := HB.out.lt
      have hbs := HBl.out.size
      go_upto_region 5 with fail
      obtain ⟨W1, hW1⟩ : ∃ W1, W1 = wr.alloc (.cells #[.int .i64 ln, .int .u32 (pr : Int)] tMg) := ⟨_, rfl⟩
      have hbx : W1.cell? ⟨wr.heap.size, 0, none⟩ = some (.int .i64 ln) := by rw [hW1]; rw [World.cell?_alloc_mark]; rfl
      have HB1 : Hid (Sh.Blk W1 g tI (midL l N k)) := Lib.hid (by rw [hW1]; exact HB.out.alloc _)
      have HBl1 : Hid (Below w.heap.size w W1) := Lib.hid (by rw [hW1]; exact HBl.out.alloc hbs _)
      rw [← hW1]
      clear hW1 HB HBl c0 c1
      generalize wr.heap.size = G at *
      have hcl := HB1.out.cell (k := k) (by omega)
      have hf := HB1.out.free k
      generalize (midL l N k)[k]'(by omega) = old at hcl
      have HB2 : Hid (Sh.Blk (W1.setCell ⟨g, k, none⟩ (.int .i64 ln)) g tI (midL l N (k + 1))) := Lib.hid (by rw [← HSk.out]; exact HB1.out.set k _)
      have HBl2 : Hid (Below w.heap.size w (W1.setCell ⟨g, k, none⟩ (.int .i64 ln))) := Lib.hid (HBl1.out.setCell (by rw [HG.out]; exact Nat.le_refl _) _)
      go_wp2_with fail
      go_roundw
      case rel => exact ⟨k + 1, by omega, by go_num, HB2, HBl2⟩
      case measure => simp [intOf]; omega
    · obtain rfl : k = N := by omega
      have dk : decide ((k : Int) < (k : Int)) = false := decide_eq_false (by omega)
      go_wp2_with fail
      go_ret
      refine ⟨by rw [HG.out, lnM_len, HN.out]; rfl, ?_, HBl.out⟩
      have h1 := HB.out
      rw [HEnd.out, HG.out] at h1
      exact h1
end Lo
end Go.Proofs.Ytechabkmepejaaa

/-
  Plain mathematics of weights. No program, no memory. No conditions. The program's weigh: the weight of a node. Conditions: the node is as Check asks; its kids have weights. The program's Weight. Conditions: at most a million nodes, and a million kids each. The reference's Weight. Conditions: at most a million nodes, and a million kids each.
-/
import Derived.Test.YtgadomcbaenodaaRegexCheck
import Derived.Test.YtgadomcbaenodaaRegexCk
import Derived.Deep.OwnRows
import Derived.Test.YtgadomcbaenodaaComInts
import Derived.IntWalk
namespace Go.Proofs.Ytgadomcbaenodaa
section
namespace Rx
def sumW (ws : List Int) : List Int → Int
  | [] => 0
  | k :: r => ws.getD k.toNat 0 + sumW ws r
theorem sumW_snoc (ws : List Int) (a : List Int) (k : Int) : sumW ws (a ++ [k]) = sumW ws a + ws.getD k.toNat 0 := by
  induction a with
  | nil => simp [sumW]
  | cons b r ih => rw [List.cons_append, sumW, sumW, ih]; omega
theorem sumW_take {ws kids : List Int} {q : Nat} (h : q < kids.length) : sumW ws (kids.take (q + 1)) = sumW ws (kids.take q) + ws.getD kids[q].toNat 0 := by
  rw [List.take_succ_eq_append_getElem h, sumW_snoc]
/-- The numbers of a list of weights. -/
def Small (ws : List Int) : Prop := ∀ x ∈ ws, 0 ≤ x ∧ x ≤ 4001
theorem Small.get {ws : List Int} (h : Small ws) (j : Nat) : 0 ≤ ws.getD j 0 ∧ ws.getD j 0 ≤ 4001 := by
  rw [List.getD_eq_getElem?_getD]
  cases hx : ws[j]? with
  | none => exact ⟨Int.le_refl _, by decide⟩
  | some x => exact h x (List.mem_of_getElem? hx)
theorem sumW_bd {ws : List Int} (h : Small ws) (kids : List Int) : 0 ≤ sumW ws kids ∧ sumW ws kids ≤ 4001 * (kids.length : Int) := by
  induction kids with
  | nil => exact ⟨Int.le_refl _, Int.le_refl _⟩
  | cons k r ih =>
    have := h.get k.toNat
    rw [sumW, List.length_cons]
    omega
def optW (mn mx : Int) : Int := if mx = -1 then 1 else mx - mn
/-- The weight of a node whose kids' weights are S together. -/
def weighF (n : Nd) (S : Int) : Int :=
  if n.kind = 4 then S else if n.kind = 5 then S + (n.kids.length : Int) - 1 else if n.kind = 6 then n.mn * S + optW n.mn n.mx * (S + 1) else 1
def capW (x : Int) : Int := min x 4001
def stepW (ws : List Int) (n : Nd) : List Int := ws ++ [capW (weighF n (sumW ws n.kids))]
def weightsF (ns : List Nd) : List Int := ns.foldl stepW []
theorem weights_take {ns : List Nd} {j : Nat} (h : j < ns.length) : weightsF (ns.take (j + 1)) = stepW (weightsF (ns.take j)) ns[j] := by
  unfold weightsF
  rw [List.take_succ_eq_append_getElem h, List.foldl_append]; rfl
theorem weights_len (ns : List Nd) : (weightsF ns).length = ns.length := by
  suffices h : ∀ (ns : List Nd) (ws : List Int), (ns.foldl stepW ws).length = ws.length + ns.length by
    have := h ns []; simpa [weightsF] using this
  intro ns
  induction ns with
  | nil => intro ws; rfl
  | cons n r ih => intro ws; rw [List.foldl_cons, ih]; unfold stepW; simp; omega
/-- What Check asks of a node, for its weight. -/
theorem opt_bd {n : Nd} (hf : fineF n = true) (h6 : n.kind = 6) : 0 ≤ n.mn ∧ n.mn ≤ 100 ∧ 0 ≤ optW n.mn n.mx ∧ optW n.mn n.mx ≤ 100 ∧ n.kids.length = 1 := by
  rw [fine_iff] at hf
  unfold FineP at hf
  unfold optW
  split <;> omega
theorem mul_bd {a b : Int} (A B : Int) (h0 : 0 ≤ a) (h1 : a ≤ A) (h2 : 0 ≤ b) (h3 : b ≤ B) : 0 ≤ a * b ∧ a * b ≤ A * B :=
  ⟨Int.mul_nonneg h0 h2, Int.le_trans (Int.mul_le_mul_of_nonneg_right h1 h2) (Int.mul_le_mul_of_nonneg_left h3 (Int.le_trans h0 h1))⟩
theorem weigh_bd {n : Nd} {ws : List Int} (hf : fineF n = true) (h : Small ws) : 0 ≤ weighF n (sumW ws n.kids) := by
  have hs := sumW_bd h n.kids
  unfold weighF
  split
  · omega
  · split
    · rename_i h5
      have hf' := hf
      rw [fine_iff] at hf'
      unfold FineP at hf'
      omega
    · split
      · rename_i h6
        obtain ⟨a, b, c, d, e⟩ := opt_bd hf h6
        have m1 := mul_bd 100 4001 a b hs.1 (by omega)
        have m2 := mul_bd (b := sumW ws n.kids + 1) 100 4002 c d (by omega) (by omega)
        omega
      · decide
theorem cap_bd {x : Int} (h : 0 ≤ x) : 0 ≤ capW x ∧ capW x ≤ 4001 := by unfold capW; omega
theorem weights_small {ns : List Nd} (hv : ∀ n ∈ ns, fineF n = true) : Small (weightsF ns) := by
  suffices h : ∀ (ns : List Nd) (ws : List Int), (∀ n ∈ ns, fineF n = true) → Small ws → Small (ns.foldl stepW ws) from h ns [] hv (fun x hx => by cases hx)
  intro ns
  induction ns with
  | nil => intro ws _ h; exact h
  | cons n r ih =>
    intro ws hv h
    rw [List.foldl_cons]
    refine ih _ (fun m hm => hv m (List.mem_cons_of_mem _ hm)) ?_
    intro x hx
    unfold stepW at hx
    rcases List.mem_append.1 hx with hx | hx
    · exact h x hx
    · rw [List.mem_singleton] at hx
      subst hx
      exact cap_bd (weigh_bd (hv n (List.mem_cons_self ..)) h)
/-- Partial sums that are capped. -/
def capSum (ws : List Int) (kids : List Int) : Int := capW (sumW ws kids)
theorem capSum_take {ws kids : List Int} {q : Nat} (h : Small ws) (hq : q < kids.length) : capSum ws (kids.take (q + 1)) = capW (capSum ws (kids.take q) + ws.getD kids[q].toNat 0) := by
  unfold capSum
  rw [sumW_take hq]
  have h1 := sumW_bd h (kids.take q)
  have h2 := h.get kids[q].toNat
  unfold capW
  omega
/-- A capped sum gives the same capped weight. -/
theorem capW_weigh {n : Nd} {ws : List Int} (hf : fineF n = true) (h : Small ws) : capW (weighF n (capSum ws n.kids)) = capW (weighF n (sumW ws n.kids)) := by
  have hs := sumW_bd h n.kids
  unfold weighF
  split
  · unfold capSum capW; omega
  · split
    · rename_i h5
      have hf' := hf
      rw [fine_iff] at hf'
      unfold FineP at hf'
      unfold capSum capW; omega
    · split
      · rename_i h6
        obtain ⟨a, b, c, d, e⟩ := opt_bd hf h6
        have : capSum ws n.kids = sumW ws n.kids := by unfold capSum capW; rw [e] at hs; omega
        rw [this]
      · rfl
def weightF (ns : List Nd) : Int := (weightsF ns).getD (ns.length - 1) 0
/-- What Weight hands back. -/
noncomputable def weightR (ns : List Nd) : Int := if checkF ns = 0 then weightF ns else 0
end Rx
end
section
open Go.RowKit
namespace Px
open Cm Rx
set_option maxRecDepth 100000 in
set_option maxHeartbeats 8000000 in
theorem weigh_any (nd : Nd) (Ak : Option Addr) (ck kn N cN g : Nat) (ws : List Int) (w : World) (hkn : nd.kids.length = kn) (hk : RdV w (.slice Ak kn ck) (intsV nd.kids)) (hlen : kn ≤ 1000000) (hws : ∀ k ∈ nd.kids, 0 ≤ k ∧ k < (ws.length : Int)) (hN : ws.length ≤ N)
    (hsm : Small ws) (hf : fineF nd = true) (hc : ∀ j (h : j < ws.length), w.cell? ⟨g, j, none⟩ = some (.int .i64 ws[j])) :
    Calls Try.prog 36 #[ndV nd (.slice Ak kn ck), .slice (some ⟨g, 0, none⟩) N cN] w fun e w' => e = .returned (.int .i64 (weighF nd (sumW ws nd.kids))) ∧ Below w.heap.size w w' := by
  have HKids : Hid (∀ q (h : q < nd.kids.length), ∃ b2 o2, Ak = some ⟨b2, o2, none⟩ ∧ b2 < w.heap.size ∧ w.cell? ⟨b2, o2 + q, none⟩ = some (.int .i64 nd.kids[q])) := Lib.hid (fun q hq => by
    obtain ⟨_, b2, o2, e, hc⟩ := hk.at (by rw [intsV_len]; omega)
    have h2 := hc q (by rw [intsV_len]; exact hq)
    exact ⟨b2, o2, e, Tx.cell_lt h2, by rw [h2]; simp [intsV]⟩)
  have HC := Lib.hid hc
  have HW := Lib.hid hws
  have HKn := Lib.hid hkn
  have HS := Lib.hid (fun q => sumW_bd hsm (nd.kids.take q))
  have HG := Lib.hid (fun j => hsm.get j)
  have HT := Lib.hid (fun q (h : q < nd.kids.length) => sumW_take (ws := ws) h)
  have HF := Lib.hid hf
  have HWF : Hid (∀ S, weighF nd S = if nd.kind = 4 then S else if nd.kind = 5 then S + (nd.kids.length : Int) - 1 else if nd.kind = 6 then nd.mn * S + optW nd.mn nd.mx * (S + 1) else 1) := Lib.hid (fun S => rfl)
  have HO := Lib.hid (fun h6 => opt_bd hf h6)
  clear hk hc hws hkn hsm hf
  unfold ndV
  generalize word nd.set 0 = x0
  generalize word nd.set 1 = x1
  generalize word nd.set 2 = x2
  generalize word nd.set 3 = x3
  go_enter Try.func36, Try.ntmps36
  have m0 := any_new w #[Value.int .i64 nd.kind, .int .u64 x0, .int .u64 x1, .int .u64 x2, .int .u64 x3, .int .i64 nd.mn, .int .i64 nd.mx, .slice Ak kn ck] tNode
  have HB : Hid (Below w.heap.size w (w.alloc (Obj.cells #[Value.int .i64 nd.kind, .int .u64 x0, .int .u64 x1, .int .u64 x2, .int .u64 x3, .int .i64 nd.mn, .int .i64 nd.mx, .slice Ak kn ck] tNode))) := Lib.hid ((Below.refl _ _).alloc (Nat.le_refl _) _)
  go_wp2_with fail
  have HKids2 : Hid (∀ q (h : q < nd.kids.length), ∃ b2 o2, Ak = some ⟨b2, o2, none⟩ ∧ (w.alloc (Obj.cells #[Value.int .i64 nd.kind, .int .u64 x0, .int .u64 x1, .int .u64 x2, .int .u64 x3, .int .i64 nd.mn, .int .i64 nd.mx, .slice Ak kn ck] tNode)).cell? ⟨b2, o2 + q, none⟩ = some (.int .i64 nd.kids[q])) := Lib.hid (fun q hq => by
    obtain ⟨b2, o2, e, h1, h2⟩ := HKids.out q hq
    exact ⟨b2, o2, e, by rw [← h2]; exact World.cell?_of_block (Below.heap_alloc w _ b2 h1)⟩)
  have HC2 : Hid (∀ j (h : j < ws.length), (w.alloc (Obj.cells #[Value.int .i64 nd.kind, .int .u64 x0, .int .u64 x1, .int .u64 x2, .int .u64 x3, .int .i64 nd.mn, .int .i64 nd.mx, .slice Ak kn ck] tNode)).cell? ⟨g, j, none⟩ = some (.int .i64 ws[j])) := Lib.hid (fun j hj => by
    rw [← HC.out j hj]; exact World.cell?_of_block (Below.heap_alloc w _ g (Tx.cell_lt (HC.out j hj))))
  generalize (w.alloc (Obj.cells #[Value.int .i64 nd.kind, .int .u64 x0, .int .u64 x1, .int .u64 x2, .int .u64 x3, .int .i64 nd.mn, .int .i64 nd.mx, .slice Ak kn ck] tNode)) = W at m0 HKids2 HC2 HB ⊢
  have HBw := HB
  generalize hH : w.heap.size = H at m0 HB ⊢
  have r0 : W.cell? ⟨H, 0, none⟩ = some (.int .i64 nd.kind) := m0 0 _ rfl
  have r5 : W.cell? ⟨H, 5, none⟩ = some (.int .i64 nd.mn) := m0 5 _ rfl
  have r6 : W.cell? ⟨H, 6, none⟩ = some (.int .i64 nd.mx) := m0 6 _ rfl
  have r7 : W.cell? ⟨H, 7, none⟩ = some (.slice Ak kn ck) := m0 7 _ rfl
  clear m0 HKids HC hH
  go_loop [5, 12] (fun s i => ∃ q : Nat, q ≤ kn ∧ i = .int .i64 (q : Int) ∧ s = .int .i64 (sumW ws (nd.kids.take q))) (fun _ i => kn - (intOf i).toNat)
  case atStart => exact ⟨0, Nat.zero_le _, by go_num, by rw [List.take_zero]; rfl⟩
  case round =>
    obtain ⟨q, hq, rfl, rfl⟩ := hrel
    have s1 := (HS.out q).1
    have s2 := (HS.out q).2
    have s3 : ((nd.kids.take q).length : Int) ≤ 1000000 := by have := List.length_take_le q nd.kids; omega
    by_cases hlt : q < kn
    · have hx : q < nd.kids.length := by rw [HKn.out]; exact hlt
      obtain ⟨b2, o2, rfl, hc2⟩ := HKids2.out q hx
      have hk2 := HW.out _ (List.getElem_mem hx)
      have HT2 := Lib.hid (HT.out q hx)
      have g1 := HG.out nd.kids[q].toNat
      generalize hkq : nd.kids[q] = kq at hc2 hk2 HT2 g1
      obtain ⟨kz, rfl⟩ : ∃ kz : Nat, kq = (kz : Int) := ⟨kq.toNat, by omega⟩
      rw [show ((kz : Int)).toNat = kz from by omega] at HT2 g1
      have hkz : kz < ws.length := by omega
      have hcz := HC2.out kz hkz
      have hgd : ws.getD kz 0 = ws[kz] := by rw [List.getD_eq_getElem?_getD, List.getElem?_eq_getElem hkz]; rfl
      rw [hgd] at HT2 g1
      generalize sumW ws (nd.kids.take q) = S at s1 s2 HT2 ⊢
      generalize ws[kz] = z at hcz HT2 g1
      have g2 := g1.1
      have g3 := g1.2
      have i1 : (0 : Int) ≤ (q : Int) := by omega
      have i2 : (q : Int) < (kn : Int) := by omega
      have i3 : (0 : Int) ≤ (kz : Int) := by omega
      have i4 : (kz : Int) < (N : Int) := by omega
      clear g1 hgd hkq
      go_wp2_with fail
      go_round
      case rel => exact ⟨q + 1, by omega, by go_num, by rw [HT2.out]⟩
      case measure => simp [intOf]; omega
    · obtain rfl : q = kn := by omega
      have HTk : Hid (nd.kids.take q = nd.kids) := Lib.hid (List.take_of_length_le (by rw [HKn.out]; omega))
      rw [HTk.out] at s1 s2 s3 ⊢
      obtain ⟨R, hR⟩ : ∃ R, R = weighF nd (sumW ws nd.kids) := ⟨_, rfl⟩
      have HRR := Lib.hid hR
      have HWS := Lib.hid (HWF.out (sumW ws nd.kids))
      rw [← hR] at HWS
      clear hR
      generalize sumW ws nd.kids = S at s1 s2 HWS ⊢
      rw [HKn.out] at HWS s2 s3
      by_cases k4 : nd.kind = 4
      · have HR : Hid (R = S) := Lib.hid (by rw [HWS.out, if_pos k4])
        have e4 : (nd.kind == 4) = true := by rw [k4]; rfl
        clear k4
        go_wp2_with fail
        go_ret
        exact ⟨by rw [← HRR.out, HR.out]; rfl, HBw.out⟩
      have e4 : (nd.kind == 4) = false := by rw [beq_eq_false_iff_ne]; exact k4
      by_cases k5 : nd.kind = 5
      · have HR : Hid (R = S + (q : Int) - 1) := Lib.hid (by rw [HWS.out, if_neg k4, if_pos k5])
        have e5 : (nd.kind == 5) = true := by rw [k5]; rfl
        clear k4 k5
        go_wp2_with fail
        go_ret
        exact ⟨by rw [← HRR.out, HR.out]; rfl, HBw.out⟩
      have e5 : (nd.kind == 5) = false := by rw [beq_eq_false_iff_ne]; exact k5
      by_cases k6 : nd.kind = 6
      · have e6 : (nd.kind == 6) = true := by rw [k6]; rfl
        obtain ⟨o1, o2, o3, o4, o5⟩ := HO.out k6
        rw [HKn.out] at o5
        have S2 : S ≤ 4001 := by omega
        have m1 := mul_bd 100 4001 o1 o2 s1 S2
        have m2 := mul_bd (b := S + 1) 100 4002 o3 o4 (by omega) (by omega)
        by_cases hmx : nd.mx = -1
        · have HR : Hid (R = nd.mn * S + (S + 1)) := Lib.hid (by rw [HWS.out, if_neg k4, if_neg k5, if_pos k6]; unfold optW; rw [if_pos hmx, Int.one_mul])
          have ex : (nd.mx == -1) = true := by rw [hmx]; rfl
          have ex2 : (nd.mx != -1) = false := by rw [hmx]; rfl
          have m3 := m1.1
          have m4 := m1.2
          clear k4 k5 k6 hmx m1 m2 o3 o4 o5
          go_wp2_with fail
          go_ret
          exact ⟨by rw [← HRR.out, HR.out]; rfl, HBw.out⟩
        · have HR : Hid (R = nd.mn * S + (nd.mx - nd.mn) * (S + 1)) := Lib.hid (by rw [HWS.out, if_neg k4, if_neg k5, if_pos k6]; unfold optW; rw [if_neg hmx])
          have ex : (nd.mx == -1) = false := by rw [beq_eq_false_iff_ne]; exact hmx
          have ex2 : (nd.mx != -1) = true := by rw [bne, ex]; rfl
          unfold optW at o3 o4 m2
          rw [if_neg hmx] at o3 o4 m2
          have m3 := m1.1
          have m4 := m1.2
          have m5 := m2.1
          have m6 := m2.2
          clear k4 k5 k6 hmx m1 m2 o5
          go_wp2_with fail
          go_ret
          exact ⟨by rw [← HRR.out, HR.out]; rfl, HBw.out⟩
      · have HR : Hid (R = 1) := Lib.hid (by rw [HWS.out, if_neg k4, if_neg k5, if_neg k6])
        have e6 : (nd.kind == 6) = false := by rw [beq_eq_false_iff_ne]; exact k6
        clear k4 k5 k6
        go_wp2_with fail
        go_ret
        exact ⟨by rw [← HRR.out, HR.out]; rfl, HBw.out⟩
end Px
end
section
open Go.RowKit
namespace Px
open Cm Rx
/-- make of ints. -/
theorem mk_ints {ops : Array Oper} {rest : List Oper} {o : Oper} {a : Act} {Q : Exit → Act → World → Prop} {w : World} (hgd : o.guard = none) (l c : Operand) (ho : o.op = Op.makeSlice 22 l c)
    (n : Nat) (hl : a.eval l = .int .i64 (n : Int)) (hc : a.eval c = .int .i64 (n : Int)) (hn : n ≤ 2097152)
    (h : ∀ w', w'.rowIs w.heap.size tInt n (fun _ => .int .i64 0) → Below w.heap.size w w' → wpList Try.prog ops Q rest (a.put o.dst (.slice (some ⟨w.heap.size, 0, none⟩) n n)) w') : wpList Try.prog ops Q (o :: rest) a w := by
  obtain ⟨i0, hi0, hz0, hz1, hz2⟩ := info_parts info_int
  exact wpList_make_row w hgd l c _ ho tInt i0 (.int .i64 0) Try.underlying22 hi0 hz0 hz1 rfl .i64 .i64 n hl hc (by rw [hz2]; omega) (by omega) (h _ (World.rowIs_made w _ n _) ((Below.refl _ w).alloc (Nat.le_refl _) _))
theorem getD_snoc (l : List Int) (x : Int) (i : Nat) : (l ++ [x]).getD i 0 = if i = l.length then x else l.getD i 0 := by
  rw [List.getD_eq_getElem?_getD, List.getD_eq_getElem?_getD]
  by_cases h : i = l.length
  · subst h; rw [if_pos rfl]; simp
  · rw [if_neg h]
    rcases Nat.lt_or_ge i l.length with h2 | h2
    · rw [List.getElem?_append_left h2]
    · rw [List.getElem?_eq_none (by simp; omega), List.getElem?_eq_none h2]
abbrev rowW (ws : List Int) : Nat → Value := fun i => .int .i64 (ws.getD i 0)
theorem weights_get {ns : List Nd} : (weightsF ns).getD (ns.length - 1) 0 = weightF ns := rfl
set_option maxRecDepth 100000 in
set_option maxHeartbeats 8000000 in
theorem Weight_any (v : Value) (ns : List Nd) (w : World) (h : RdN w v ns) (hl : ns.length ≤ 1000000) (hk : ∀ n ∈ ns, n.kids.length ≤ 1000000) :
    Calls Try.prog 23 #[v] w fun e w' => e = .returned (.tuple #[.int .i64 (weightR ns), .int .i64 (checkF ns)]) ∧ Below w.heap.size w w' := by
  have HCk := Lib.hid (Check_any v ns w h (by omega) (fun n hn => Nat.le_trans (hk n hn) (by decide)))
  have HR0 := Lib.hid h
  have HK := Lib.hid hk
  obtain ⟨A, c, rfl, hA⟩ := h
  have HA := Lib.hid hA
  clear hA hk
  by_cases hv : Valid ns
  · have hck : checkF ns = 0 := check_T hv
    have HWR : Hid (weightR ns = (weightsF ns).getD (ns.length - 1) 0) := Lib.hid (by unfold weightR; rw [if_pos hck]; rfl)
    have HCk0 := Lib.hid hck
    rw [hck] at HCk
    obtain ⟨hp, h4000, hno⟩ := hv
    have HOk := Lib.hid hno
    have HSm : Hid (∀ j, Small (weightsF (ns.take j))) := Lib.hid (fun j => weights_small (fun n hn => by
      obtain ⟨k, hk, rfl⟩ := List.mem_iff_getElem.1 (List.mem_of_mem_take hn)
      exact (hno k hk).2))
    have HLn : Hid (∀ j, j ≤ ns.length → (weightsF (ns.take j)).length = j) := Lib.hid (fun j hj => by rw [weights_len, List.length_take]; omega)
    have HSt := Lib.hid (fun j (h : j < ns.length) => weights_take h)
    clear hck hno
    generalize hn : ns.length = n at hl hp h4000 HWR HLn ⊢
    have HN := Lib.hid hn
    clear hn
    rw [HN.out] at HCk
    go_enter Try.func23, Try.ntmps23
    go_wp2_with fail
    refine HCk.out.mono ?_
    rintro e w1 ⟨rfl, B1⟩
    have HB1 := Lib.hid B1
    clear B1
    go_wp2_with (refine mk_ints rfl (.tmp 14) (.tmp 14) rfl n rfl rfl (by omega) ?_; intro w4 hr4 hb4; have HR4 := Lib.hid hr4; have HB4 := Lib.hid (HB1.out.trans (hb4.mono HB1.out.size)); clear hr4 hb4)
    go_loopw [18] (fun i wr => ∃ j : Nat, j ≤ n ∧ i = .int .i64 (j : Int) ∧ Hid (wr.rowIs w1.heap.size tInt n (rowW (weightsF (ns.take j)))) ∧ Hid (Below w.heap.size w wr)) (fun i _ => n - (intOf i).toNat)
    case atStart => exact ⟨0, Nat.zero_le _, by go_num, Lib.hid (HR4.out.congr (fun j _ => by rw [List.take_zero]; rfl)), HB4⟩
    case round =>
      obtain ⟨j, hj, rfl, HRow, HB⟩ := hrel
      by_cases hlt : j < n
      · have hx : j < ns.length := by rw [HN.out]; exact hlt
        obtain ⟨b, off, rfl, hA1⟩ := HA.out (by omega)
        have hat := (hA1 j hx).below HB.out
        have hkl := HK.out _ (List.getElem_mem hx)
        have hok := HOk.out j hx
        have HStj := Lib.hid (HSt.out j hx)
        clear hA1
        generalize ns[j] = nd at hat hkl hok HStj
        obtain ⟨kv, p0, p1, p2, p3, p4, p5, p6, p7, rk⟩ := hat
        have HRk := Lib.hid rk
        obtain ⟨Ak, ck, hke⟩ := rk.form
        rw [intsV_len] at hke
        subst hke
        generalize hkn : nd.kids.length = kn at p7 hkl HRk
        have hlj := HLn.out j (by omega)
        have HGet : Hid (∀ i (h : i < (weightsF (ns.take j)).length), (weightsF (ns.take j)).getD i 0 = (weightsF (ns.take j))[i]) := Lib.hid (fun i h => by rw [List.getD_eq_getElem?_getD, List.getElem?_eq_getElem h]; rfl)
        have HWg := Lib.hid (fun (W : World) (hb : Below wr.heap.size wr W) => weigh_any nd Ak ck kn n n w1.heap.size (weightsF (ns.take j)) W hkn (HRk.out.below hb) hkl (fun k hk => by rw [hlj]; exact hok.1 k hk) (by omega) (HSm.out j) hok.2
          (fun i hi => by
            have h1 := (HRow.out.of_block (hb.block _ HRow.out.lt)).cell (i := i) (by omega)
            rw [h1]
            show some (Value.int .i64 ((weightsF (ns.take j)).getD i 0)) = _
            rw [HGet.out i hi]))
        have HRow2 : Hid (∀ (W : World), W.rowIs w1.heap.size tInt n (rowW (weightsF (ns.take j))) → (W.setCell ⟨w1.heap.size, j, none⟩ (.int .i64 (capW (weighF nd (sumW (weightsF (ns.take j)) nd.kids))))).rowIs w1.heap.size tInt n (rowW (weightsF (ns.take (j + 1))))) := Lib.hid (fun W hW => (hW.set j _).congr (fun i _ => by
          rw [HStj.out]
          unfold stepW rowW
          rw [getD_snoc, hlj]
          by_cases e : i = j
          · rw [if_pos e, if_pos e]
          · rw [if_neg e, if_neg e]))
        have i1 : (0 : Int) ≤ (j : Int) := by omega
        have i2 : (j : Int) < (n : Int) := by omega
        clear rk hkn hok HStj hlj
        unfold ndV at HWg
        generalize word nd.set 0 = x0 at p1 HWg
        generalize word nd.set 1 = x1 at p2 HWg
        generalize word nd.set 2 = x2 at p3 HWg
        generalize word nd.set 3 = x3 at p4 HWg
        have HCapD : Hid (∀ z, capW z = min z 4001) := Lib.hid (fun _ => rfl)
        generalize weighF nd (sumW (weightsF (ns.take j)) nd.kids) = z at HWg HRow2
        go_wp2_with fail
        refine (HWg.out _ ((Below.refl _ _).alloc (Nat.le_refl _) _)).mono ?_
        rintro e w5 ⟨rfl, B5⟩
        have HB5 := Lib.hid (below_al2 HB.out B5)
        have HR5 := Lib.hid ((HRow.out.alloc _).of_block (B5.block _ (HRow.out.alloc _).lt))
        have c5 := HR5.out.cell (i := j) hlt
        have f5 := HR5.out.frozen j
        have hg := HB1.out.size
        clear B5 HCapD
        go_wp2_with fail
        go_roundw
        case rel => exact ⟨j + 1, by omega, by go_num, Lib.hid (by have h := HRow2.out _ HR5.out; rw [show capW z = if (4001 : Int) < z then 4001 else z from by unfold capW; split <;> omega] at h; exact h), Lib.hid (HB5.out.setCell (p := ⟨w1.heap.size, j, none⟩) hg _)⟩
        case measure => simp [intOf]; omega
      · obtain rfl : j = n := by omega
        have hd : decide (j < j) = false := by simp only [decide_eq_false_iff_not]; omega
        have c5 := HRow.out.cell (i := j - 1) (by omega)
        have HTk : Hid (ns.take j = ns) := Lib.hid (List.take_of_length_le (by rw [HN.out]; omega))
        rw [HTk.out] at c5
        have HW2 := Lib.hid (show (weightsF ns).getD (j - 1) 0 = weightR ns from HWR.out.symm)
        have c6 : wr.cell? ⟨w1.heap.size, j - 1, none⟩ = some (.int .i64 (weightR ns)) := by rw [c5, ← HW2.out]
        have i1 : (0 : Int) ≤ (j : Int) - 1 := by omega
        have i2 : (j : Int) - 1 < (j : Int) := by omega
        have i3 : ((j : Int) - 1).toNat = j - 1 := by omega
        have i4 : (1 : Int) ≤ (j : Int) := by omega
        clear c5
        go_wp2_with fail
        go_ret2
        exact ⟨by rw [HCk0.out]; rfl, HB.out⟩
  · have hck : checkF ns = 2 := check_F hv
    have HCk0 := Lib.hid hck
    have HWR : Hid (weightR ns = 0) := Lib.hid (by unfold weightR; rw [if_neg (by rw [hck]; decide)])
    rw [hck] at HCk
    clear hv hck
    generalize ns.length = n at hl HCk ⊢
    go_enter Try.func23, Try.ntmps23
    go_wp2_with fail
    refine HCk.out.mono ?_
    rintro e w1 ⟨rfl, B1⟩
    have HB1 := Lib.hid B1
    clear B1
    go_wp2_with fail
    go_ret2
    exact ⟨by rw [HCk0.out, HWR.out]; rfl, HB1.out⟩
end Px
end
section
open Go.RowKit
namespace Rx
open Cm
theorem info_intW : (Try.prog.info? 3).map (fun i => (i.zero, i.size, i.bytes)) = some (some (.int .i64 0), 1, 8) := by kernel_rfl
theorem intsV_snoc (l : List Int) (z : Int) : intsV (l ++ [z]) = intsV l ++ [.int .i64 z] := by simp [intsV]
theorem own_drewW {w : World} {base n : Nat} {e : TypeId} {v : Value} {xs : List Value} (h : w.ownsRow base e 1 v n xs) (m : Nat) : (w.drewN m).ownsRow base e 1 v n xs := by
  induction m generalizing w with
  | zero => exact h
  | succ m ih => exact ih (w := w.drew) h
theorem size_drewW (w : World) (m : Nat) : (w.drewN m).heap.size = w.heap.size := by
  induction m generalizing w with
  | zero => rfl
  | succ m ih => exact ih (w := w.drew)
end Rx
end
end Go.Proofs.Ytgadomcbaenodaa

/-
  The verifier's back and turned: lists and scripts turned round. Conditions: at most 4096 lines.
-/
import Derived.Test.YtldommbelpcegaaSliAwake
namespace Go.Proofs.Ytldommbelpcegaa
open Go.RowKit
namespace Sl
open Cm Sc Au Sh
def NewA (l : List Int) (w : World) (e : Ending) (w' : World) : Prop := ∃ v, e = .returned v ∧ RdV w' v (intsV l) ∧ Below w.heap.size w w'
theorem back_step {a : List Int} {p : Nat} (h : p < a.length) : intsV (a.drop p).reverse = intsV (a.drop (p + 1)).reverse ++ [.int .i64 a[p]] := by
  rw [List.drop_eq_getElem_cons h, List.reverse_cons]
  simp [intsV]
set_option maxRecDepth 100000 in
set_option maxHeartbeats 4000000 in
theorem back_any (v : Value) (a : List Int) (w : World) (h : RdV w v (intsV a)) (hl : a.length ≤ 4096) :
    Calls Try.prog 22 #[v] w (NewA a.reverse w) := by
  obtain ⟨A, cp, rfl⟩ := h.form
  rw [intsV_len] at h ⊢
  have HR := Lib.hid (fun wq (hq : Below w.heap.size w wq) => h.below hq)
  have HStep := Lib.hid (fun (p : Nat) (hp : p < a.length) => back_step hp)
  have HAll : Hid ((a.drop a.length).reverse = []) := Lib.hid (by rw [List.drop_length]; rfl)
  clear h
  obtain ⟨N, hN⟩ : ∃ N, N = a.length := ⟨_, rfl⟩
  rw [← hN] at HR HAll hl ⊢
  have HN := Lib.hid hN
  clear hN
  go_enter Try.func22, Try.ntmps22
  go_wp2_with fail
  go_loopw [3, 4] (fun o' k' wr => ∃ (k n : Nat), k + n = N ∧ k' = .int .i64 ((k : Int) - 1) ∧ Hid (wr.ownsRow w.heap.size tI 1 o' n (intsV (a.drop k).reverse)) ∧ Hid (Below w.heap.size w wr)) (fun _ k' _ => (intOf k' + 1).toNat)
  case atStart => exact ⟨N, 0, by omega, rfl, Lib.hid (by rw [HAll.out]; exact World.ownsRow_nil _ _ _ _), Lib.hid (Below.refl _ _)⟩
  case round =>
    obtain ⟨k, n, hkn, rfl, HO, HB⟩ := hrel
    by_cases h0 : 0 < k
    · obtain ⟨p, rfl⟩ : ∃ p, k = p + 1 := ⟨k - 1, by omega⟩
      have hp : p < a.length := by rw [← HN.out]; omega
      obtain ⟨b, off, rfl, c0⟩ := int_at (HR.out wr HB.out) p hp
      have HS := Lib.hid (HStep.out p hp)
      generalize a[p] = x at *
      rw [show (((p + 1 : Nat) : Int) - 1) = (p : Int) from by omega]
      have i1 : (0 : Int) ≤ (p : Int) := by omega
      have i2 : (p : Int) < (N : Int) := by omega
      have HBs := Lib.hid HB.out.size
      have hn : n + 1 ≤ 1000000 := by omega
      go_wp2_with (at_builtin; refine app_one rfl Try.underlying22 info_i rfl (by omega) (.tmp 12) (.tmp 17) rfl w.heap.size n (intsV (a.drop (p + 1)).reverse) (.int .i64 x) rfl _ _ rfl HO.out rfl rfl (by omega) HBs.out ?_; intro v3 w3 ho3 hb3 _; rw [← HS.out] at ho3; have HO3 := Lib.hid ho3; have HB3 := Lib.hid (HB.out.trans (hb3.mono (Nat.le_refl _))); clear ho3 hb3)
      go_roundw
      case rel => exact ⟨p, n + 1, by omega, rfl, HO3, HB3⟩
      case measure => simp [intOf]
    · obtain rfl : k = 0 := by omega
      rw [show (((0 : Nat) : Int) - 1) = -1 from rfl]
      go_wp2_with fail
      go_ret
      exact ⟨_, rfl, RdV.of_own HO.out, HB.out⟩
theorem turn_step (m n : Int) {l : List Ch} {p : Nat} (h : p < l.length) : turnL m n (l.drop p) = turnL m n (l.drop (p + 1)) ++ [tn m n l[p]] := by
  rw [List.drop_eq_getElem_cons h, turn_cons]
set_option maxRecDepth 100000 in
set_option maxHeartbeats 8000000 in
theorem turned_any (v : Value) (l : List Ch) (m n : Int) (w : World) (h : RdC w v l) (hl : l.length ≤ 100000) (hb : ∀ c ∈ l, ChN c) (hm : 0 ≤ m ∧ m ≤ 4096) (hn : 0 ≤ n ∧ n ≤ 4096) :
    Calls Try.prog 21 #[v, .int .i64 m, .int .i64 n] w (NewC (turnL m n l) w) := by
  obtain ⟨A, cp, rfl⟩ := h.form
  have HR := Lib.hid h
  have HSt := Lib.hid (fun (p : Nat) (hp : p < l.length) => turn_step m n hp)
  have HNb := Lib.hid hb
  have HZ : Hid (turnL m n (l.drop l.length) = []) := Lib.hid (by rw [List.drop_length]; rfl)
  have HTl : Hid (∀ k, (turnL m n (l.drop k)).length ≤ 100000) := Lib.hid (fun k => by rw [turn_len, List.length_drop]; omega)
  obtain ⟨m0, m1⟩ := hm
  obtain ⟨n0, n1⟩ := hn
  clear h hb
  generalize hN : l.length = N at hl HZ ⊢
  have HN := Lib.hid hN
  clear hN
  go_enter Try.func21, Try.ntmps21
  go_wp2_with fail
  go_loopw [7, 8] (fun s' k' wr => ∃ (k : Nat) (s : Value), s' = s ∧ k ≤ N ∧ k' = .int .i64 ((k : Int) - 1) ∧ Hid (OwnC w.heap.size wr s (turnL m n (l.drop k))) ∧ Hid (Below w.heap.size w wr)) (fun _ k' _ => (intOf k' + 1).toNat)
  case atStart => exact ⟨N, _, rfl, Nat.le_refl _, rfl, Lib.hid (by rw [HZ.out]; exact OwnC.nil _ _), Lib.hid (Below.refl _ _)⟩
  case round =>
    obtain ⟨k, s, hs, hk, rfl, HO1, HB1⟩ := hrel
    subst hs
    by_cases hlt : 0 < k
    · obtain ⟨p, rfl⟩ : ∃ p, k = p + 1 := ⟨k - 1, by omega⟩
      have hx : p < l.length := by rw [HN.out]; omega
      obtain ⟨b, off, rfl, c0, c1, c2, c3⟩ := RdC_at (HR.out.below HB1.out) p hx
      have HSk := Lib.hid (HSt.out p hx)
      have hbd := HNb.out _ (List.getElem_mem hx)
      have hln := HTl.out (p + 1)
      generalize hcl : l[p] = c at c0 c1 c2 c3 HSk hbd
      generalize turnL m n (l.drop (p + 1)) = dn at HSk HO1 hln
      obtain ⟨o, ol, nw, nl⟩ := c
      obtain ⟨⟨o0, o1⟩, ⟨l0, l1⟩, ⟨w0, w1⟩, v0, v1⟩ := hbd
      simp only at c0 c1 c2 c3 o0 o1 l0 l1 w0 w1 v0 v1
      have HCe := Lib.hid hcl
      clear hcl
      have HOw : Hid (wr.ownsRow w.heap.size tCh 4 u7 dn.length (flatK chC dn)) := HO1
      have hsz := HB1.out.size
      have HKp : Hid (∀ V, Below w.heap.size w V → V.cell? ⟨b, off + p * 4, none⟩ = some (.int .i64 o) ∧ V.cell? ⟨b, off + p * 4 + 1, none⟩ = some (.int .i64 ol) ∧ V.cell? ⟨b, off + p * 4 + 2, none⟩ = some (.int .i64 nw) ∧ V.cell? ⟨b, off + p * 4 + 3, none⟩ = some (.int .i64 nl)) := Lib.hid (fun V hV => by
        obtain ⟨b2, off2, e, d0, d1, d2, d3⟩ := RdC_at (HR.out.below hV) p hx
        injection e with e
        injection e with e1 e2 _
        subst e1
        subst e2
        rw [HCe.out] at d0 d1 d2 d3
        exact ⟨d0, d1, d2, d3⟩)
      have i1 : (0 : Int) ≤ (p : Int) := by omega
      have i2 : (p : Int) < (N : Int) := by omega
      obtain ⟨i0, hi0, hz0, hz1, hz2⟩ := info_parts info_ch
      rw [show (((p + 1 : Nat) : Int) - 1) = (p : Int) from by omega]
      have s1 : IntKind.i64.wrap (m - o) = m - o := IntWalk.i64_in _ (by omega)
      have s2 : IntKind.i64.wrap (m - o - ol) = m - o - ol := IntWalk.i64_in _ (by omega)
      have s3 : IntKind.i64.wrap (n - nw) = n - nw := IntWalk.i64_in _ (by omega)
      have s4 : IntKind.i64.wrap (n - nw - nl) = n - nw - nl := IntWalk.i64_in _ (by omega)
      have hrm : (p : Int) - 1 + 1 < (p : Int) + 1 := by omega
      clear HO1 hrm
      go_wp2_with fail
      go_region_held3 (fun V => V.cell? ⟨b, off + p * 4, none⟩ = some (.int .i64 o) ∧ V.cell? ⟨b, off + p * 4 + 1, none⟩ = some (.int .i64 ol) ∧ V.cell? ⟨b, off + p * 4 + 2, none⟩ = some (.int .i64 nw) ∧ V.cell? ⟨b, off + p * 4 + 3, none⟩ = some (.int .i64 nl))
        (first | go_keep | exact HKp.out _ HBq.out)
        ((refine step_append_lies _ (by rfl) (.tmp 16) (.tmp 54) tChs (by rfl) w.heap.size tCh i0 zeroCh 4 32 Try.underlying23 hi0 hz0 hz1 hz2 rfl (by omega) u7 dn.length (flatK chC dn) (by rfl) ((HOw.out.alloc _).drew) ⟨wr.heap.size, 0, none⟩ 1 1 (chC ⟨m - o - ol, ol, n - nw - nl, nl⟩) (by rfl) (by rfl) (World.news_of_block (cs := #[.int .i64 (m - o - ol), .int .i64 ol, .int .i64 (n - nw - nl), .int .i64 nl]) (t := tCh) (fr := (0, 0)) (heap_alloc_new wr _)) (one_ch _) (by omega) (by unfold maxLen; omega) (by omega) (by simp; omega) (wr.heap.size + 1) (by simp) ?_; intro gg cap w3 ho3 hg3 hat hlt; have HBq := Lib.hid (((HB1.out.alloc hsz (.cells #[.int .i64 (m - o - ol), .int .i64 ol, .int .i64 (n - nw - nl), .int .i64 nl] tCh)).drew).grown hg3 (by simp; omega) (fun k hk => (HOw.out.lt k hk).1)); have HO3 : Hid (OwnC w.heap.size w3 (.slice (some ⟨gg, 0, none⟩) (dn.length + 1) cap) (dn ++ [⟨m - o - ol, ol, n - nw - nl, nl⟩])) := Lib.hid (by unfold OwnC; rw [List.length_append, List.length_singleton, flatK_snoc]; exact ho3); clear ho3 hg3 hat hlt))
      clear s1 s2 s3 s4
      go_wp2_with fail
      go_roundw
      case rel => exact ⟨p, _, rfl, by omega, rfl, Lib.hid (by rw [HSk.out]; exact HO3.out), HBq⟩
      case measure => simp [intOf]
    · obtain rfl : k = 0 := by omega
      rw [show (((0 : Nat) : Int) - 1) = -1 from rfl]
      go_wp2_with fail
      go_ret
      exact ⟨_, rfl, HO1.out, HB1.out⟩
end Sl
end Go.Proofs.Ytldommbelpcegaa

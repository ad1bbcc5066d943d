/-
  The reference's reader of patterns: node. Conditions: short patterns, at most a million nodes.
-/
import Derived.Test.YtebljjdhgepfkaaRegexReader
namespace Go.Proofs.Ytebljjdhgepfkaa
open Go.RowKit
namespace Rx
open Cm
abbrev tNodes : TypeId := 23
/-- A row stays where all old blocks stay. -/
theorem own_same {w W : World} {base n size : Nat} {e : TypeId} {v : Value} {xs : List Value} (h : w.ownsRow base e size v n xs) (hs : ∀ k, k < w.heap.size → W.heap[k]? = w.heap[k]?) : W.ownsRow base e size v n xs := by
  refine ⟨h.1, ?_⟩
  rcases h.2 with hn | ⟨g, cap, cur, hv, hbg, hh, r⟩
  · exact .inl hn
  · exact .inr ⟨g, cap, cur, hv, hbg, (hs g (lt_some hh)).trans hh, r⟩
theorem own_ne' {w : World} {base base' n n' z z' : Nat} {t e : TypeId} {v v' : Value} {xs xs' : List Value} (h : w.ownsRow base e z v n xs) (h' : w.ownsRow base' t z' v' n' xs') (hne : e ≠ t) : v.ownBlock = none ∨ v.ownBlock ≠ v'.ownBlock := by
  rcases h.2 with ⟨rfl, _⟩ | ⟨g, cap, cur, rfl, _, hh, _⟩
  · exact .inl rfl
  · right
    rcases h'.2 with ⟨rfl, _⟩ | ⟨g', cap', cur', rfl, _, hh', _⟩
    · simp [Value.ownBlock]
    · intro hg
      have : g = g' := by simpa [Value.ownBlock] using hg
      subst this
      rw [hh] at hh'
      injection hh' with hh'
      injection hh' with _ ht
      exact hne ht
/-- What 'node' leaves. -/
theorem node_step {w W w1 : World} {base rb : Nat} {s : ByteArray} {a d e : Int} {v v1 : Value} {ns : List Nd} {ks : List Value} (hb : base ≤ rb) (hh : w.heap[rb]? = some (.cells #[.string s, .int .i64 a, .int .i64 d, v, .int .i64 e] tRd (0, 0))) (hn : OwnN w base v ns ks)
    (hs : ∀ k, k < w.heap.size → W.heap[k]? = w.heap[k]?) (hB : Below base w W) (n : Nd) (k : Value) (hk : w.ownsRow base tInt 1 k n.kids.length (intsV n.kids))
    (hv1 : w1.ownsRow base tNode 8 v1 (ns.length + 1) (flatC ns ks ++ ndC n k)) (hg : W.grownBy w1 v.ownBlock) :
    Rdr (w1.setCell ⟨rb, 3, none⟩ v1) base rb s a d e (ns ++ [n]) (ks ++ [k]) ∧ Below base w (w1.setCell ⟨rb, 3, none⟩ v1) ∧ KeptR w (w1.setCell ⟨rb, 3, none⟩ v1) ∧ w1.frozen? ⟨rb, 3, none⟩ = false ∧ w1.cell? ⟨rb, 3, none⟩ = some v := by
  have hsz : w.heap.size ≤ W.heap.size := hB.size
  have hrl := lt_some hh
  have hvW := own_same hn.2.1 hs
  have hrv : some rb ≠ v.ownBlock := by
    intro hkv
    rcases hn.2.1.2 with ⟨rfl, _⟩ | ⟨g, cap, cur, rfl, _, hh', _⟩
    · simp [Value.ownBlock] at hkv
    · have : rb = g := by simpa [Value.ownBlock] using hkv
      subst this
      rw [hh] at hh'
      injection hh' with hh'
      injection hh' with _ ht
      exact absurd ht (by decide)
  have hh1 : w1.heap[rb]? = some (.cells #[.string s, .int .i64 a, .int .i64 d, v, .int .i64 e] tRd (0, 0)) := (hg.block rb (by omega) hrv).trans ((hs rb hrl).trans hh)
  have hK1 : KeptR w w1 := fun k cur e' h1 h2 h3 => by
    have h4 : W.heap[k]? = w.heap[k]? := hs k (lt_some h3)
    rw [(KeptX.grown (s := tRd) hvW hg) k cur e' h1 h2 (h4.trans h3), h4]
  have hsn : flatC (ns ++ [n]) (ks ++ [k]) = flatC ns ks ++ ndC n k := flatC_snoc ns ks n k hn.1
  have hO : OwnN w1 base v1 (ns ++ [n]) (ks ++ [k]) := by
    refine ⟨by simp [hn.1], by rw [List.length_append, List.length_singleton, hsn]; exact hv1, fun j c1 c2 => ?_⟩
    by_cases hj : j < ks.length
    · have e1 : (ks ++ [k])[j] = ks[j] := List.getElem_append_left hj
      have e2 : (ns ++ [n])[j] = ns[j]'(by rw [← hn.1]; exact hj) := List.getElem_append_left (by rw [← hn.1]; exact hj)
      rw [e1, e2]
      exact KeptX.own (hn.2.2 j hj (by rw [← hn.1]; exact hj)) hK1 (by decide) (by decide)
    · have hj2 : j = ks.length := by rw [List.length_append, List.length_singleton] at c1; omega
      subst hj2
      have e1 : (ks ++ [k])[ks.length] = k := by simp
      have e2 : (ns ++ [n])[ks.length] = n := by simp [hn.1]
      rw [e1, e2]
      exact KeptX.own hk hK1 (by decide) (by decide)
  have hB1 : Below base w w1 := hB.grown hg (by omega) (fun k hk => (hn.2.1.lt k hk).1)
  refine ⟨⟨v1, hb, set_block hh1, hO.setCell hh1 (by decide) (by decide)⟩, hB1.setCell (p := ⟨rb, 3, none⟩) hb _, hK1.trans (KeptX.store hh1), (rdr_cells hh1).2.2.2.2.2 3, (rdr_cells hh1).2.2.2.1⟩
set_option maxRecDepth 100000 in
set_option maxHeartbeats 1000000 in
theorem node_any {w : World} {base rb : Nat} {s : ByteArray} {a d e : Int} {ns : List Nd} {ks : List Value} (h : Rdr w base rb s a d e ns ks) (n : Nd) (k : Value) (hk : w.ownsRow base tInt 1 k n.kids.length (intsV n.kids)) (hl : ns.length ≤ 1000000) :
    Calls Try.prog 45 #[.pointer (some ⟨rb, 0, none⟩), ndV n k] w fun en w' => en = .returned (.int .i64 (ns.length : Int)) ∧ Rdr w' base rb s a d e (ns ++ [n]) (ks ++ [k]) ∧ Below base w w' ∧ KeptR w w' := by
  obtain ⟨v, hb, hh, hn⟩ := h
  have hrl := lt_some hh
  obtain ⟨c0, c1, c2, c3, c4, hf⟩ := rdr_cells hh
  obtain ⟨i0, hi, hz0, hz1, hz2⟩ := info_parts info_node
  have HI := Lib.hid (And.intro hi (And.intro hz0 (And.intro hz1 hz2)))
  clear hi hz0 hz1 hz2 hf c0 c1 c2 c4
  have HStep : Hid (∀ (wb : World) (C : Array Value) (v1 : Value) (w1 : World), (∀ k, k < w.heap.size → wb.heap[k]? = w.heap[k]?) → Below base w wb → w1.ownsRow base tNode 8 v1 (ns.length + 1) (flatC ns ks ++ ndC n k) → ((wb.drew).alloc (.cells C tNode)).grownBy w1 v.ownBlock →
      (Rdr (w1.setCell ⟨rb, 3, none⟩ v1) base rb s a d e (ns ++ [n]) (ks ++ [k]) ∧ Below base w (w1.setCell ⟨rb, 3, none⟩ v1) ∧ KeptR w (w1.setCell ⟨rb, 3, none⟩ v1)) ∧ w1.frozen? ⟨rb, 3, none⟩ = false ∧ w1.cell? ⟨rb, 3, none⟩ = some v) := Lib.hid (fun wb C v1 w1 h1 h2 h3 h4 => by
    have hsz := h2.size
    have hbw : base ≤ w.heap.size := by omega
    obtain ⟨r1, r2, r3, r4, r5⟩ := node_step hb hh hn (W := (wb.drew).alloc (.cells C tNode)) (fun j hj => (Below.heap_alloc wb.drew _ j (by show j < wb.heap.size; omega)).trans (h1 j hj)) (h2.drew.alloc (by show base ≤ wb.heap.size; omega) _) n k hk h3 h4
    exact ⟨⟨r1, r2, r3⟩, r4, r5⟩)
  have HOwn : Hid (∀ (wb : World) (C : Array Value), (∀ k, k < w.heap.size → wb.heap[k]? = w.heap[k]?) → w.heap.size ≤ wb.heap.size → ((wb.drew).alloc (.cells C tNode)).ownsRow base tNode 8 v ns.length (flatC ns ks)) := Lib.hid (fun wb C h1 h2 =>
    own_same hn.2.1 (fun j hj => (Below.heap_alloc wb.drew _ j (by show j < wb.heap.size; omega)).trans (h1 j hj)))
  have hfl := flatC_len ns ks hn.1
  have hbw : base ≤ w.heap.size := by omega
  have HForm : Hid (∃ A c, v = .slice A ns.length c) := Lib.hid (by
    rcases hn.2.1.2 with ⟨rfl, h0⟩ | ⟨g, cap, cur, rfl, _⟩
    · exact ⟨none, 0, by rw [h0]⟩
    · exact ⟨_, cap, rfl⟩)
  have HOne : Hid (k.oneCell' = true) := Lib.hid (by obtain ⟨A, c, e⟩ := own_form hk; rw [e]; rfl)
  clear hh hn hk
  obtain ⟨A, c, rfl⟩ := HForm.out
  unfold ndV
  unfold ndC at HStep
  generalize (word n.set 0 : Nat) = x0 at HStep ⊢
  generalize (word n.set 1 : Nat) = x1 at HStep ⊢
  generalize (word n.set 2 : Nat) = x2 at HStep ⊢
  generalize (word n.set 3 : Nat) = x3 at HStep ⊢
  generalize flatC ns ks = xs at HStep HOwn hfl
  go_enter Try.func45, Try.ntmps45
  go_wp2_with fail
  have hwb1 : ∀ C, (w.alloc (Obj.cells C tNode)).heap[w.heap.size]? = some (Obj.cells C tNode) := fun C => heap_new w _
  have hwb2 : ∀ (C : Array Value) (j : Nat), j < w.heap.size → (w.alloc (Obj.cells C tNode)).heap[j]? = w.heap[j]? := fun C j hj => Below.heap_alloc w _ j hj
  have hwb3 : ∀ C, Below base w (w.alloc (Obj.cells C tNode)) := fun C => (Below.refl _ _).alloc hbw _
  have hwb4 : ∀ C, (w.alloc (Obj.cells C tNode)).heap.size = w.heap.size + 1 := fun C => by simp
  have k1 := hwb1 #[.int .i64 n.kind, .int .u64 x0, .int .u64 x1, .int .u64 x2, .int .u64 x3, .int .i64 n.mn, .int .i64 n.mx, k]
  have K2 := Lib.hid (hwb2 #[.int .i64 n.kind, .int .u64 x0, .int .u64 x1, .int .u64 x2, .int .u64 x3, .int .i64 n.mn, .int .i64 n.mx, k])
  have K3 := Lib.hid (hwb3 #[.int .i64 n.kind, .int .u64 x0, .int .u64 x1, .int .u64 x2, .int .u64 x3, .int .i64 n.mn, .int .i64 n.mx, k])
  have k4 := hwb4 #[.int .i64 n.kind, .int .u64 x0, .int .u64 x1, .int .u64 x2, .int .u64 x3, .int .i64 n.mn, .int .i64 n.mx, k]
  clear hwb1 hwb2 hwb3 hwb4
  generalize w.alloc (Obj.cells #[Value.int .i64 n.kind, .int .u64 x0, .int .u64 x1, .int .u64 x2, .int .u64 x3, .int .i64 n.mn, .int .i64 n.mx, k] tNode) = wb at k1 K2 K3 k4 ⊢
  generalize hH : w.heap.size = H at k1 K2 hrl hbw k4 HOwn HStep ⊢
  have b3 : wb.cell? ⟨rb, 3, none⟩ = some (.slice A ns.length c) := by rw [World.cell?_of_block (w := w) (K2.out rb hrl)]; exact c3
  have d0 : wb.cell? ⟨H, 0, none⟩ = some (.int .i64 n.kind) := by simp [World.cell?, k1]
  have d1 : wb.cell? ⟨H, 1, none⟩ = some (.int .u64 x0) := by simp [World.cell?, k1]
  have d2 : wb.cell? ⟨H, 2, none⟩ = some (.int .u64 x1) := by simp [World.cell?, k1]
  have d3 : wb.cell? ⟨H, 3, none⟩ = some (.int .u64 x2) := by simp [World.cell?, k1]
  have d4 : wb.cell? ⟨H, 4, none⟩ = some (.int .u64 x3) := by simp [World.cell?, k1]
  have d5 : wb.cell? ⟨H, 5, none⟩ = some (.int .i64 n.mn) := by simp [World.cell?, k1]
  have d6 : wb.cell? ⟨H, 6, none⟩ = some (.int .i64 n.mx) := by simp [World.cell?, k1]
  have d7 : wb.cell? ⟨H, 7, none⟩ = some k := by simp [World.cell?, k1]
  have r1 : rb < wb.heap.size := by omega
  have r2 : H < wb.heap.size := by omega
  have HNews : Hid (∀ (C : Array Value) (j : Nat) (u : Value), C.toList[j]? = some u → ((wb.drew).alloc (.cells C tNode)).cell? ((⟨H + 1, 0, none⟩ : Addr).add j) = some u) := Lib.hid (fun C j u h => by
    have h2 := World.news_of_block (heap_new wb.drew (.cells C tNode)) j u h
    rw [show (wb.drew).heap.size = H + 1 from k4] at h2
    exact h2)
  have HOnes : Hid (∀ u ∈ [Value.int .i64 n.kind, .int .u64 x0, .int .u64 x1, .int .u64 x2, .int .u64 x3, .int .i64 n.mn, .int .i64 n.mx, k], u.oneCell' = true) := Lib.hid (fun u hu => by
    simp only [List.mem_cons, List.not_mem_nil, or_false] at hu
    rcases hu with rfl | rfl | rfl | rfl | rfl | rfl | rfl | rfl
    all_goals first | rfl | exact HOne.out)
  clear k1 c3 HForm
  go_region_law ((refine step_append_lies _ (by rfl) (.tmp 9) (.tmp 11) tNodes (by rfl) base tNode i0 zeroN 8 80 Try.underlying23 HI.out.1 HI.out.2.1 HI.out.2.2.1 HI.out.2.2.2 (by decide) (by decide) (.slice A ns.length c) ns.length xs (by rfl) (HOwn.out wb _ K2.out (by omega)) ⟨H + 1, 0, none⟩ 1 1 [.int .i64 n.kind, .int .u64 x0, .int .u64 x1, .int .u64 x2, .int .u64 x3, .int .i64 n.mn, .int .i64 n.mx, k] (by rfl) (by rfl) (HNews.out _) HOnes.out (by decide) (by unfold maxLen; omega) (by omega) (by simp; omega) _ rfl ?_; intro g cap w1 hown1 hgrow hat hlt; obtain ⟨q1, q2, q3⟩ := HStep.out wb _ _ _ K2.out K3.out hown1 hgrow; have Q := Lib.hid q1; clear q1 hown1 hgrow hat hlt))
  all_goals
    go_wp2_with fail
    go_ret
    exact ⟨rfl, Q.out⟩
end Rx
end Go.Proofs.Ytebljjdhgepfkaa

/-
  Walk of layer 6: the program's apart, in the memory of its argument. Condition: at most 1000000 spans, which the call owns.
-/
import Derived.Test.YthoidaaldngpmaaSeaRev
import Derived.Test.YthoidaaldngpmaaSeaLong
import Derived.Laws.CopyOwn
namespace Go.Proofs.Ythoidaaldngpmaa
open Go.RowKit
namespace Se
open Cm Rx Au
theorem info_sp : (Try.prog.info? tSp).map (fun i => (i.zero, i.size, i.bytes)) = some (some (.agg #[.int .i64 0, .int .i64 0]), 2, 16) := by kernel_rfl
theorem flatP_append (L M : List (Nat × Nat)) : flatP (L ++ M) = flatP L ++ flatP M := by simp [flatP]
theorem flatP_splice {L : List (Nat × Nat)} {m : Nat} (hm : m < L.length) (x : Nat × Nat) : (flatP L).take (m * 2) ++ [.int .i64 (x.1 : Int), .int .i64 (x.2 : Int)] ++ (flatP L).drop (m * 2 + 2) = flatP (L.set m x) := by
  rw [← flatP_set]
  refine List.ext_getElem? fun i => ?_
  have hl := flatP_len L
  simp only [List.getElem?_append, List.length_append, List.length_take, List.length_cons, List.length_nil, List.getElem?_set, List.length_set, List.getElem?_take, List.getElem?_drop]
  by_cases h1 : i < m * 2
  · rw [if_pos (by omega), if_pos (by omega), if_pos h1, if_neg (by omega), if_neg (by omega)]
  · by_cases h2 : i = m * 2
    · subst h2
      rw [if_pos (by omega), if_neg (by omega), if_neg (by omega), if_pos rfl, if_pos (by omega)]
      rw [show m * 2 - min (m * 2) (flatP L).length = 0 by omega]
      rfl
    · by_cases h3 : i = m * 2 + 1
      · subst h3
        rw [if_pos (by omega), if_neg (by omega), if_pos rfl, if_pos (by omega)]
        rw [show m * 2 + 1 - min (m * 2) (flatP L).length = 1 by omega]
        rfl
      · rw [if_neg (by omega), if_neg (by omega), if_neg (by omega)]
        congr 1
        omega
theorem KS.setRow {w : World} {g : Nat} {cur : Array Value} {fr : Nat × Nat} (hh : w.heap[g]? = some (.cells cur tSp fr)) (cs : Array Value) : KS w (w.setRow g cs) := by
  refine ⟨by rw [setRow_size]; exact Nat.le_refl _, fun k o hk ho => ?_⟩
  by_cases e : k = g
  · subst e
    rw [hh] at hk
    injection hk with hk
    exact absurd hk.symm (fun e => ho _ _ e)
  · exact (setRow_other _ g k _ e).trans hk
theorem take_splice {X : List Value} {n m : Nat} (hm : m < n) (hX : n * 2 ≤ X.length) (a b : Value) : (X.take (m * 2) ++ [a, b] ++ X.drop (m * 2 + 2)).take (n * 2) = (X.take (n * 2)).take (m * 2) ++ [a, b] ++ (X.take (n * 2)).drop (m * 2 + 2) := by
  have hl : (X.take (m * 2) ++ [a, b]).length = m * 2 + 2 := by simp; omega
  rw [List.take_append, List.take_of_length_le (by rw [hl]; omega), hl, List.take_take, Nat.min_eq_left (by omega), List.drop_take]
section
variable {ops : Array Oper} {rest : List Oper} {o : Oper} {a : Act} {Q : Exit → Act → World → Prop} {w : World}
/-- append of one span where there is room: the element behind the kept ones is written over. -/
theorem app_over (hg : o.guard = none) (s x : Operand) (ho : o.op = .call { callee := .builtin .append, args := #[s, x], argTypes := #[tSps, tSps] })
    (base g m n c : Nat) (L : List (Nat × Nat)) (y : Nat × Nat) (hn : n = L.length) (hm : m < n) (hs : a.eval s = .slice (some ⟨g, 0, none⟩) m c) (hown : w.ownsRow base tSp 2 (.slice (some ⟨g, 0, none⟩) n c) n (flatP L))
    (H : Nat) (hx : a.eval x = .slice (some ⟨H, 0, none⟩) 1 1) (hH : H = w.heap.size) (hbase : base ≤ w.heap.size)
    (h : ∀ w', w'.ownsRow base tSp 2 (.slice (some ⟨g, 0, none⟩) n c) n (flatP (L.set m y)) → Below base w w' → (∀ k, k ≠ g → w'.heap[k]? = (w.alloc (.cells #[.int .i64 (y.1 : Int), .int .i64 (y.2 : Int)] tSp)).heap[k]?) → KS (w.alloc (.cells #[.int .i64 (y.1 : Int), .int .i64 (y.2 : Int)] tSp)) w' → wpList Try.prog ops Q rest (a.put o.dst (.slice (some ⟨g, 0, none⟩) (m + 1 : Nat) c)) w') :
    wpList Try.prog ops Q (o :: rest) a (w.alloc (.cells #[.int .i64 (y.1 : Int), .int .i64 (y.2 : Int)] tSp)) := by
  subst hn
  subst hH
  obtain ⟨i0, hi0, hz0, hz1, hz2⟩ := info_parts info_sp
  have h0 := hown.alloc (.cells #[.int .i64 (y.1 : Int), .int .i64 (y.2 : Int)] tSp)
  obtain ⟨hlen, hor⟩ := h0
  rcases hor with ⟨e, _⟩ | ⟨g', cap, cur, e, hb, hh, hle, hmx, hsz, htk⟩
  · cases e
  injection e with e2 _ e3
  injection e2 with e2
  injection e2 with e2
  subst e2 e3
  have hfl := flatP_len L
  refine wpList_plain hg fun K hK => ?_
  have hrun := run_append_room (P := Try.prog) (w.alloc (.cells #[.int .i64 (y.1 : Int), .int .i64 (y.2 : Int)] tSp)) tSps o.type tSp i0 Try.underlying61 hi0 g m c cur hh ⟨w.heap.size, 0, none⟩ 1 1 [.int .i64 (y.1 : Int), .int .i64 (y.2 : Int)] (by rw [hz1]; rfl) (fun j u hu => by
    have he : (Addr.mk w.heap.size 0 none).add j = ⟨w.heap.size, j, none⟩ := by
      unfold Addr.add; split
      · rename_i h0; rw [h0]
      · simp
    rw [he, World.cell?_alloc_mark, ← hu]; simp) (fun u hu => by
    simp only [List.mem_cons, List.not_mem_nil, or_false] at hu
    rcases hu with rfl | rfl <;> rfl) (by omega) (by rw [hz1, hsz]; simp; omega)
  unfold Oper.wp
  simp [execOp, ho, resolve, invoke, builtin, hs, hx, hrun, Result.andThen]
  refine hK _ _ (h _ ?_ ?_ (fun k hk => setRow_other _ g k _ hk) (KS.setRow hh _))
  · refine ⟨by rw [flatP_len, List.length_set], .inr ⟨g, c, _, rfl, hb, setRow_heap _ g _ _ tSp _ hh, hle, hmx, ?_, ?_⟩⟩
    · rw [hz1]
      simp
      omega
    · rw [hz1, ← flatP_splice hm y, ← htk]
      have h5 := take_splice (X := cur.toList) hm (by have hcs : cur.toList.length = cur.size := Array.length_toList (xs := cur); rw [hcs, hsz]; exact Nat.mul_le_mul_right _ hle) (.int .i64 (y.1 : Int)) (.int .i64 (y.2 : Int))
      rw [← h5, List.append_assoc]
      rfl
  · exact below_setRow ((Below.refl base w).alloc hbase _) hb _
end
/-- What apart leaves. -/
def ApPost (base : Nat) (L : List (Nat × Nat)) (w : World) (e : Ending) (w' : World) : Prop :=
  ∃ v, e = .returned v ∧ w'.ownsRow base tSp 2 v (apartL 0 L).length (flatP (apartL 0 L)) ∧ Below base w w' ∧ KS w w'
theorem own_pre {w : World} {base n c : Nat} {A : Option Addr} {L K : List (Nat × Nat)} (h : w.ownsRow base tSp 2 (.slice A n c) n (flatP L)) (hn : n = L.length) (hK : L.take K.length = K) : w.ownsRow base tSp 2 (.slice A K.length c) K.length (flatP K) := by
  refine ⟨flatP_len K, ?_⟩
  have hle : K.length ≤ L.length := by
    have := congrArg List.length hK
    rw [List.length_take] at this
    omega
  rcases h.2 with ⟨e, e2⟩ | ⟨g, cap, cur, e, hb, hh, h1, h2, h3, h4⟩
  · injection e with e1 _ e3
    subst e1 e3
    have hk : K = [] := List.eq_nil_of_length_eq_zero (by omega)
    subst hk
    exact .inl ⟨rfl, rfl⟩
  · injection e with e1 _ e3
    subst e1 e3
    refine .inr ⟨g, c, cur, rfl, hb, hh, by omega, h2, h3, ?_⟩
    have h5 : L = K ++ L.drop K.length := by
      conv => lhs; rw [← List.take_append_drop K.length L, hK]
    have h6 : flatP L = flatP K ++ flatP (L.drop K.length) := by
      conv => lhs; rw [h5]
      exact flatP_append _ _
    have h7 : (cur.toList.take (n * 2)).take (K.length * 2) = flatP K := by
      rw [h4, h6, List.take_append_of_le_length (by rw [flatP_len]; exact Nat.le_refl _), List.take_of_length_le (by rw [flatP_len]; exact Nat.le_refl _)]
    rw [List.take_take, Nat.min_eq_left (by omega)] at h7
    exact h7
set_option maxRecDepth 100000 in
set_option maxHeartbeats 2000000 in
theorem apart_any (base : Nat) (v : Value) (L : List (Nat × Nat)) (w : World) (h : w.ownsRow base tSp 2 v L.length (flatP L)) (hl : L.length ≤ 1000000) (hbw : base ≤ w.heap.size) :
    Calls Try.prog 72 #[v] w (ApPost base L w) := by
  obtain ⟨A, c, hv⟩ := own_formP2 h
  have hc0 : A = none → c = 0 := by
    rcases h.2 with ⟨e, _⟩ | ⟨g, cap, cur, e, _⟩
    · rw [e] at hv; injection hv with e1 _ e3; exact fun _ => e3.symm
    · rw [e] at hv; injection hv with e1 _ e3; subst e1; exact fun h => by cases h
  subst hv
  have HC0 := Lib.hid hc0
  obtain ⟨n, hn⟩ : ∃ n, n = L.length := ⟨_, rfl⟩
  have HN := Lib.hid hn
  rw [← hn] at hl h ⊢
  have HR := Lib.hid h
  have HAp : Hid (apartL 0 L = [] ++ apartL 0 (L.drop 0)) := Lib.hid rfl
  clear hn h hc0
  go_enter Try.func72, Try.ntmps72
  go_wp2_with fail
  go_loopw [3, 4, 11] (fun kv pv a wr => ∃ (i p : Nat) (K X : List (Nat × Nat)), a = .int .i64 (i : Int) ∧ pv = .int .i64 (p : Int) ∧ kv = .slice A (K.length : Nat) c ∧ i ≤ n ∧ K.length ≤ i ∧ Hid (X.length = n) ∧ Hid (wr.ownsRow base tSp 2 (.slice A n c) n (flatP X)) ∧ Hid (X.take K.length = K) ∧ Hid (X.drop i = L.drop i) ∧ Hid (apartL 0 L = K ++ apartL p (L.drop i)) ∧ Hid (Below base w wr) ∧ Hid (KS w wr)) (fun _ _ a _ => n - (intOf a).toNat)
  case atStart => exact ⟨0, 0, [], L, by go_num, by go_num, rfl, Nat.zero_le _, Nat.le_refl _, Lib.hid HN.out.symm, HR, Lib.hid rfl, Lib.hid rfl, HAp, Lib.hid (Below.refl _ _), Lib.hid (KS.refl _)⟩
  case round =>
    clear HR HAp
    obtain ⟨i, p, K, X, rfl, rfl, rfl, hi, hKi, HXl, HR, HTk, HDr, HAp, HB, HKo⟩ := hrel
    by_cases hlt : i < n
    · obtain ⟨g, hA⟩ : ∃ g, A = some ⟨g, 0, none⟩ := by
        rcases HR.out.2 with ⟨_, e⟩ | ⟨g, cap, cur, e, _⟩
        · omega
        · injection e with e _ _; exact ⟨g, e⟩
      subst hA
      have hiX : i < X.length := by rw [HXl.out]; exact hlt
      have hiL : i < L.length := by rw [← HN.out]; exact hlt
      have hxe : X[i] = L[i] := by
        have h1 := congrArg List.head? HDr.out
        rw [List.head?_drop, List.head?_drop, List.getElem?_eq_getElem hiX, List.getElem?_eq_getElem hiL] at h1
        exact Option.some.inj h1
      have HDc : Hid (L.drop i = L[i] :: L.drop (i + 1)) := Lib.hid (List.drop_eq_getElem_cons hiL)
      obtain ⟨m0, m1⟩ := own_at HR.out hiX HXl.out.symm
      rw [hxe] at m0 m1
      have HDr2 : Hid (X.drop (i + 1) = L.drop (i + 1)) := Lib.hid (by
        have h1 := congrArg List.tail HDr.out
        rwa [List.tail_drop, List.tail_drop] at h1)
      generalize L[i] = x at m0 m1 HDc
      have hm : K.length < n := by omega
      have i0 : (0 : Int) ≤ (i : Int) := by omega
      have i1 : (i : Int) < (n : Int) := by omega
      have i2 : decide (i < n) = true := by simpa using hlt
      have hbz := HB.out.size
      by_cases hxp : x.1 < p
      · have t0 : decide (x.1 < p) = true := by simpa using hxp
        have HAp2 : Hid (apartL 0 L = K ++ apartL p (L.drop (i + 1))) := Lib.hid (by
          rw [HAp.out, HDc.out]
          show K ++ (if x.1 < p then _ else _) = _
          rw [if_pos hxp])
        clear hiX hiL hxe HDc HDr HAp hxp
        go_wp2_with fail
        go_roundw
        case rel => exact ⟨i + 1, p, K, X, by go_num, rfl, rfl, by omega, by omega, HXl, Lib.hid (HR.out.alloc _), HTk, HDr2, HAp2, Lib.hid (HB.out.alloc (by omega) _), Lib.hid (HKo.out.trans (KS.alloc _ _))⟩
        case measure => simp [intOf]; omega
      · have t0 : decide (x.1 < p) = false := by simpa using hxp
        have HAp2 : Hid (apartL 0 L = (K ++ [x]) ++ apartL x.2 (L.drop (i + 1))) := Lib.hid (by
          rw [HAp.out, HDc.out, List.append_assoc]
          show K ++ (if x.1 < p then _ else _) = _
          rw [if_neg hxp]
          rfl)
        have HTk2 : Hid ((X.set K.length x).take (K ++ [x]).length = K ++ [x]) := Lib.hid (by
          rw [List.length_append, List.length_singleton, List.take_set, List.take_succ_eq_append_getElem (by omega), HTk.out]
          rw [List.set_append_right _ _ (by omega), Nat.sub_self]
          rfl)
        have HDr3 : Hid ((X.set K.length x).drop (i + 1) = L.drop (i + 1)) := Lib.hid (by
          rw [List.drop_set, if_pos (by omega)]; exact HDr2.out)
        have HXl2 : Hid ((X.set K.length x).length = n) := Lib.hid (by rw [List.length_set]; exact HXl.out)
        have hKl : (K ++ [x]).length = K.length + 1 := by simp
        have HKl := Lib.hid hKl
        obtain ⟨m, hmk⟩ : ∃ m, m = K.length := ⟨_, rfl⟩
        have HMk := Lib.hid hmk
        rw [← hmk] at hm hKi
        have hgn : wr.heap.size ≠ g := by have := Tx.cell_lt m0; omega
        clear hiX hiL hxe HDc HDr HDr2 HAp hxp hKl
        rw [← hmk]
        clear hmk
        go_upto_region 7 with fail
        go_wp2_with (at_builtin; refine app_over rfl (.tmp 19) (.tmp 21) rfl base g m n c X x HXl.out.symm hm rfl (HR.out.alloc _) (wr.heap.size + 1) rfl (by simp) (by simp; omega) ?_; intro w4 ho4 hb4 ho5 hko; have c4 : w4.cell? ⟨wr.heap.size, 1, none⟩ = some (.int .i64 (x.2 : Int)) := (by have h9 := (ho5 wr.heap.size hgn).trans ((Below.heap_alloc _ _ _ (by simp)).trans (heap_new wr _)); simp only [World.cell?, h9]; rfl); have HO4 := Lib.hid ho4; have HK4 := Lib.hid (((HKo.out.trans (KS.alloc _ _)).trans (KS.alloc _ _)).trans hko); have HB4 := Lib.hid ((HB.out.alloc (by omega) _).trans hb4); clear ho4 hb4 ho5 hko)
        go_wp2_with fail
        go_roundw
        case rel => exact ⟨i + 1, x.2, K ++ [x], X.set K.length x, by go_num, rfl, by rw [HKl.out, ← HMk.out], by omega, by rw [HKl.out, ← HMk.out]; omega, HXl2, by rw [← HMk.out]; exact HO4, HTk2, HDr3, HAp2, HB4, HK4⟩
        case measure => simp [intOf]; omega
    · obtain rfl : i = n := by omega
      have i2 : decide (i < i) = false := by simp
      have HF : Hid (apartL 0 L = K) := Lib.hid (by
        rw [HAp.out, HN.out, List.drop_length]
        simp [apartL])
      have HO := Lib.hid (own_pre HR.out HXl.out.symm HTk.out)
      go_wp2_with fail
      go_ret
      exact ⟨_, rfl, by rw [HF.out]; exact HO.out, HB.out, HKo.out⟩
end Se
end Go.Proofs.Ythoidaaldngpmaa

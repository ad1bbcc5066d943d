/- Facts; each states its conditions. -/
import Derived.Test.YtjecfmbecgpbmaaGreatDoorGTextBase
import Derived.Laws.AppendOwnNone
import Derived.Test.YtjecfmbecgpbmaaGreatDoorScanMathB
namespace Go.Proofs.YtjecfmbecgpbmaaGreatDoor
section
open Go.RowKit
namespace Cm
def RdV (w : World) (v : Value) (us : List Value) : Prop :=
 ∃ A c, v = .slice A us.length c ∧ (us.length ≤ c ∧ (A = none → c = 0)) ∧ (0 < us.length → ∃ b off, A = some ⟨b, off, none⟩ ∧ ∀ j (h : j < us.length), w.cell? ⟨b, off + j, none⟩ = some us[j])
theorem RdV.below {w w' : World} {v : Value} {us : List Value} (h : RdV w v us) (hb : Below w.heap.size w w') : RdV w' v us := by
 obtain ⟨A, c, rfl, hcap, hc⟩ := h
 refine ⟨A, c, rfl, hcap, fun hp => ?_⟩
 obtain ⟨b, off, rfl, hcell⟩ := hc hp
 exact ⟨b, off, rfl, fun j hj => (hb.cell (p := ⟨b, off + j, none⟩) (Tx.cell_lt (hcell j hj))).trans (hcell j hj)⟩
theorem RdV.nil (w : World) : RdV w (.slice none 0 0) [] := ⟨none, 0, rfl, ⟨Nat.le_refl _, fun _ => rfl⟩, fun hp => absurd hp (by decide)⟩
theorem RdV.form {w : World} {v : Value} {us : List Value} (h : RdV w v us) : ∃ A c, v = .slice A us.length c := by
 obtain ⟨A, c, rfl, _⟩ := h; exact ⟨A, c, rfl⟩
theorem RdV.at {w : World} {A : Option Addr} {n c : Nat} {us : List Value} (h : RdV w (.slice A n c) us) (hp : 0 < us.length) : n = us.length ∧ ∃ b off, A = some ⟨b, off, none⟩ ∧ ∀ j (hj : j < us.length), w.cell? ⟨b, off + j, none⟩ = some us[j] := by
 obtain ⟨A', c', e, _, hc⟩ := h
 injection e with e1 e2 _
 subst e1
 exact ⟨e2, hc hp⟩
theorem RdV.len {w : World} {A : Option Addr} {n c : Nat} {us : List Value} (h : RdV w (.slice A n c) us) : n = us.length := by
 obtain ⟨A', c', e, _⟩ := h
 injection e
theorem RdV.lit (w : World) (t : TypeId) (us : List Value) (C : Array Value) (hC : C.toList = us) : RdV (w.alloc (.cells C t)) (.slice (some ⟨w.heap.size, 0, none⟩) us.length us.length) us := by
 refine ⟨_, _, rfl, ⟨Nat.le_refl _, fun e => by cases e⟩, fun _ => ⟨_, 0, rfl, fun j hj => ?_⟩⟩
 subst hC
 rw [Nat.zero_add, World.cell?_alloc_mark, ← Array.getElem?_toList, List.getElem?_eq_getElem hj]
section
variable {t e : TypeId}
theorem own_form {w : World} {base n : Nat} {v : Value} {xs : List Value} (h : w.ownsRow base e 1 v n xs) : ∃ A c, v = .slice A n c := by
 rcases h.2 with ⟨rfl, rfl⟩ | ⟨g, cap, cur, rfl, _⟩
 · exact ⟨none, 0, rfl⟩
 · exact ⟨_, cap, rfl⟩
theorem own_some {w : World} {base n : Nat} {v : Value} {xs : List Value} (h : w.ownsRow base e 1 v n xs) (hp : 0 < n) : ∃ g c cur, v = .slice (some ⟨g, 0, none⟩) n c ∧ base ≤ g ∧ w.heap[g]? = some (.cells cur e (0, 0)) := by
 rcases h.2 with ⟨_, h0⟩ | ⟨g, cap, cur, rfl, hb, hh, _⟩
 · omega
 · exact ⟨g, cap, cur, rfl, hb, hh⟩
theorem own_len {w : World} {base n : Nat} {v : Value} {xs : List Value} (h : w.ownsRow base e 1 v n xs) : xs.length = n := by
 have := h.1; omega
theorem RdV.of_own {w : World} {base n : Nat} {v : Value} {us : List Value} (h : w.ownsRow base e 1 v n us) : RdV w v us := by
 have hl := own_len h
 rcases h.2 with ⟨rfl, h0⟩ | ⟨g, cap, cur, rfl, _, _, hcap, _⟩
 · exact ⟨none, 0, by rw [hl, h0], ⟨by omega, fun _ => rfl⟩, fun hp => by omega⟩
 · refine ⟨_, cap, by rw [hl], ⟨by omega, fun e => by cases e⟩, fun _ => ⟨g, 0, rfl, fun j hj => ?_⟩⟩
   have hc := h.cellAt j (by omega)
   rw [Nat.zero_add, hc, List.getElem?_eq_getElem hj]
theorem own_below {w w' : World} {base n : Nat} {v : Value} {xs : List Value} (h : w.ownsRow base e 1 v n xs) (hb : Below w.heap.size w w') : w'.ownsRow base e 1 v n xs :=
 h.kept (row := none) ⟨hb.os, hb.tape, hb.output, hb.size, fun k hk _ => hb.block k hk⟩ (by cases v.ownBlock <;> simp)
theorem own_base {w : World} {base base' n : Nat} {v : Value} {xs : List Value} (h : w.ownsRow base e 1 v n xs) (hb : base' ≤ base) : w.ownsRow base' e 1 v n xs := by
 refine ⟨h.1, ?_⟩
 rcases h.2 with hn | ⟨g, cap, cur, hv, hbg, rest⟩
 · exact .inl hn
 · exact .inr ⟨g, cap, cur, hv, Nat.le_trans hb hbg, rest⟩
theorem own_ne {w : World} {base n n' base' : Nat} {v v' : Value} {xs xs' : List Value} (h : w.ownsRow base e 1 v n xs) (h' : w.ownsRow base' t 1 v' n' xs') (hne : e ≠ t) : v.ownBlock = none ∨ v.ownBlock ≠ v'.ownBlock := by
 rcases h.2 with ⟨rfl, _⟩ | ⟨g, cap, cur, rfl, _, hh, _⟩
 · exact .inl rfl
 · right
   rcases h'.2 with ⟨rfl, _⟩ | ⟨g', cap', cur', rfl, _, hh', _⟩
   · simp [Value.ownBlock]
   · intro hg
     have : g = g' := by simpa [Value.ownBlock] using hg
     subst this
     rw [hh] at hh'
     injection hh' with hh'
     injection hh' with _ ht
     exact hne ht
theorem below_app {w w' : World} {base n : Nat} {v : Value} {xs : List Value} (hown : w.ownsRow base e 1 v n xs) (hg : w.grownBy w' v.ownBlock) (hb : base ≤ w.heap.size) : Below base w w' :=
 (Below.refl _ _).grown hg hb (fun k hk => (hown.lt k hk).1)
theorem heap_new (w : World) (o : Obj) : (w.alloc o).heap[w.heap.size]? = some o := by
 show (w.heap.push o)[w.heap.size]? = some o
 simp
theorem own_empty (w : World) (e : TypeId) : (w.alloc (.cells #[] e)).ownsRow w.heap.size e 1 (.slice (some ⟨w.heap.size, 0, none⟩) 0 0) 0 [] :=
 ⟨rfl, .inr ⟨w.heap.size, 0, #[], rfl, Nat.le_refl _, heap_new w _, Nat.le_refl _, Nat.zero_le _, rfl, rfl⟩⟩
theorem below_drewN {n : Nat} {w w' : World} (h : Below n w w') (m : Nat) : Below n w (w'.drewN m) := by
 induction m with
 | zero => exact h
 | succ m ih => exact ih.drew
end
section
variable {P : Program} {ops : Array Oper} {rest : List Oper} {o : Oper} {a : Act} {Q : Exit → Act → World → Prop} {w : World} {t e : TypeId} {z : Value} {bytes : Nat}
theorem wpList_wanted (hg : Region.wanted o (yielded ops a.tmps) = true)
 (h : ∀ K : Act → World → Prop, (∀ a w, wpList P ops Q rest a w → K a w) → o.wp P a w K Q) : wpList P ops Q (o :: rest) a w :=
 wpList_step fun K hK => by rw [if_pos hg]; exact h K hK
theorem app_one (hg : Region.wanted o (yielded ops a.tmps) = true) (ht : P.underlying t = some (.slice e)) (hinfo : (P.info? e).map (fun i => (i.zero, i.size, i.bytes)) = some (some z, 1, bytes)) (hz : z.cells.size = 1) (hby : bytes ≤ 24)
 (s x : Operand) (ho : o.op = .call { callee := .builtin .append, args := #[s, x], argTypes := #[t, t] })
 (base n : Nat) (l : List Value) (u : Value) (hu : u.oneCell' = true) (v : Value) (C : Array Value) (hs : a.eval s = v) (hown : w.ownsRow base e 1 v n l)
 (hx : a.eval x = .slice (some ⟨w.heap.size, 0, none⟩) 1 1) (hC : C.toList = [u])
 (hsz : n + 1 ≤ 100000000) (hbase : base ≤ w.heap.size)
 (h : ∀ v' w', w'.ownsRow base e 1 v' (n + 1) (l ++ [u]) → Below base w w' → (w.alloc (.cells C e)).grownBy w' v.ownBlock → wpList P ops Q rest (a.put o.dst v') w') :
 wpList P ops Q (o :: rest) a (w.alloc (.cells C e)) := by
 obtain ⟨i0, hi0, hz0, hz1, hz2⟩ := info_parts hinfo
 have hsize : (w.alloc (.cells C e)).heap.size = w.heap.size + 1 := by simp
 refine wpList_wanted hg fun K hK => ?_
 refine wp_append_own _ s x _ ho base e i0 _ 1 bytes ht hi0 hz0 hz1 hz2 hz (by omega) v n l hs (hown.alloc _) ⟨w.heap.size, 0, none⟩ 1 1 [u] hx
  rfl (fun j y hy => ?_) ?_ (by unfold maxLen; omega) ?_ (by omega) ?_
 · have he : (Addr.mk w.heap.size 0 none).add j = ⟨w.heap.size, j, none⟩ := by
    unfold Addr.add; split
    · rename_i h0; rw [h0]
    · simp
   rw [he, World.cell?_alloc_mark, ← hy, ← hC]; simp
 · intro y hy
   simp only [List.mem_singleton] at hy
   subst hy
   exact hu
 · have := Nat.mul_le_mul_left (n + 1) hby
   omega
 · intro v' w' h1 h2 _
   exact hK _ _ (h v' w' h1 (((Below.refl base w).alloc hbase _).trans (below_app (hown.alloc _) h2 (by omega))) h2)
end
end Cm
end
section
open Go.RowKit
namespace Cm
def intsV (l : List Int) : List Value := l.map fun z => .int .i64 z
def stringsV (l : List ByteArray) : List Value := l.map Value.string
theorem intsV_len (l : List Int) : (intsV l).length = l.length := by simp [intsV]
theorem stringsV_len (l : List ByteArray) : (stringsV l).length = l.length := by simp [stringsV]
def RdLL (w : World) (v : Value) (uss : List (List Value)) : Prop :=
 ∃ us, RdV w v us ∧ us.length = uss.length ∧ ∀ j (h1 : j < us.length) (h2 : j < uss.length), RdV w us[j] uss[j]
end Cm
end
section
namespace Cm
end Cm
open Go.RowKit
namespace Au
open Cm
def mixY (x : Int) : Int := IntKind.u64.wrap (bits .xor .u64 x (x / 2147483648) * 13787848793156543929)
def mixF (x : Int) : Int := wrap64 (bits .xor .u64 (mixY x) (mixY x / 536870912) / 2)
def seedF (k : Int) : Int := IntKind.u64.wrap ((k + 1) * 11400714819323198485)
def atF (us : List Int) (k : Int) : Int := if 0 < us.length then mixF (bits .xor .u64 (seedF k) (IntKind.u64.wrap (us.getD (k % (us.length : Int)).toNat 0))) else mixF (seedF k)
theorem atF_lo (us : List Int) (k : Int) : -9223372036854775808 ≤ atF us k := by unfold atF mixF; split <;> exact Tx.w64_lo _
theorem atF_hi (us : List Int) (k : Int) : atF us k ≤ 9223372036854775807 := by unfold atF mixF; split <;> exact Tx.w64_hi _
set_option maxHeartbeats 1000000 in
theorem At_fn (v : Value) (us : List Int) (k : Int) (w : World) (h : RdV w v (intsV us)) (hn : us.length ≤ maxLen) (h0 : 0 ≤ k) (h1 : k ≤ 1000000) :
 Calls Tryz.prog 23 #[v, .int .i64 k] w fun e w' => e = .returned (.int .i64 (atF us k)) ∧ w = w' := by
 obtain ⟨A, c, rfl, _, hc⟩ := h
 unfold maxLen at hn
 have HAt : Hid (atF us k = if 0 < us.length then mixF (bits .xor .u64 (seedF k) (IntKind.u64.wrap (us.getD (k % (us.length : Int)).toNat 0))) else mixF (seedF k)) := Lib.hid rfl
 rw [intsV_len]
 by_cases hz : 0 < us.length
 · obtain ⟨b, off, rfl, hcell⟩ := hc (by rw [intsV_len]; exact hz)
   clear hc
   have hm0 : 0 ≤ k % (us.length : Int) := Int.emod_nonneg _ (by omega)
   have hm1 : k % (us.length : Int) < us.length := Int.emod_lt_of_pos _ (by omega)
   obtain ⟨j, hj⟩ : ∃ j : Nat, k % (us.length : Int) = j := ⟨(k % (us.length : Int)).toNat, by omega⟩
   have hz1 := hcell j (by rw [intsV_len]; omega)
   have hgd : us.getD (k % (us.length : Int)).toNat 0 = us[j]'(by omega) := by
    rw [hj, Int.toNat_natCast, List.getD_eq_getElem?_getD, List.getElem?_eq_getElem (by omega)]; rfl
   have hcj : w.cell? ⟨b, off + (k % (us.length : Int)).toNat, none⟩ = some (.int .i64 (us[j]'(by omega))) := by rw [hj]; rw [Int.toNat_natCast, hz1]; simp [intsV]
   rw [if_pos hz, hgd] at HAt
   clear hcell hz1 hgd
   generalize us[j]'(by omega) = z at HAt hcj
   clear hj
   generalize us.length = n at *
   go_enter Tryz.func23, Tryz.ntmps23
   go_wp2_with fail
   go_ret
   rw [HAt.out]
   exact ⟨rfl, rfl⟩
 · clear hc
   rw [if_neg hz] at HAt
   generalize us.length = n at *
   go_enter Tryz.func23, Tryz.ntmps23
   go_wp2_with fail
   go_ret
   rw [HAt.out]
   exact ⟨rfl, rfl⟩
end Au
end
section
open Go.RowKit
namespace Nt
open Cm
theorem eqT {x y : ByteArray} (h : x = y) : (x.toList == y.toList) = true := by rw [h]; exact beq_self_eq_true _
theorem eqF {x y : ByteArray} (h : x ≠ y) : (x.toList == y.toList) = false := by
 rw [beq_eq_false_iff_ne]
 intro e
 apply h
 rw [ByteArray.toList_eq, ByteArray.toList_eq] at e
 cases x; cases y
 simp only at e
 congr
 exact Array.toList_inj.1 e
set_option maxRecDepth 100000 in
set_option maxHeartbeats 1000000 in
theorem place_any (v : Value) (l : List ByteArray) (s : ByteArray) (w : World) (hr : RdV w v (stringsV l)) (hl : l.length ≤ 1099511627776) :
 Calls Tryz.prog 93 #[v, .string s] w fun e w' => e = .returned (.int .i64 (placeI l s)) ∧ w = w' := by
 obtain ⟨A, c, rfl, _, hA⟩ := hr
 rw [stringsV_len]
 have HA : Hid (0 < l.length → ∃ b off, A = some ⟨b, off, none⟩ ∧ ∀ j (h : j < l.length), w.cell? ⟨b, off + j, none⟩ = some (.string l[j])) := Lib.hid (fun hp => by
  obtain ⟨b, off, e, hc⟩ := hA (by rw [stringsV_len]; exact hp)
  exact ⟨b, off, e, fun j h => by rw [hc j (by rw [stringsV_len]; exact h)]; simp [stringsV]⟩)
 clear hA
 generalize hn : l.length = n at hl
 have HN := Lib.hid hn
 clear hn
 go_enter Tryz.func93, Tryz.ntmps93
 go_wp2_with fail
 go_loop [5] (fun i => ∃ j : Nat, j ≤ n ∧ i = .int .i64 j ∧ Hid (∀ k, k < j → l[k]? ≠ some s)) (fun i => n - (intOf i).toNat)
 case atStart => exact ⟨0, Nat.zero_le _, rfl, Lib.hid (fun k hk => absurd hk (by omega))⟩
 case round =>
  obtain ⟨j, hj, rfl, HB⟩ := hrel
  by_cases hlt : j < n
  · have hx : j < l.length := by rw [HN.out]; exact hlt
    obtain ⟨b, off, rfl, hcell⟩ := HA.out (by rw [HN.out]; omega)
    have hc : w.cell? ⟨b, off + j, none⟩ = some (.string l[j]) := hcell j hx
    have hg : l[j]? = some l[j] := List.getElem?_eq_getElem hx
    have i1 : (0 : Int) ≤ (j : Int) := by omega
    have i2 : (j : Int) < (n : Int) := by omega
    by_cases he : l[j] = s
    · have HP : Hid (placeI l s = (j : Int)) := Lib.hid (placeI_at (by rw [hg, he]) HB.out)
      have e1 := eqT he
      generalize l[j] = x at hc e1
      clear hcell hg he
      go_wp2_with fail
      go_ret
      exact ⟨by rw [HP.out]; rfl, rfl⟩
    · have HB2 : Hid (∀ k, k < j + 1 → l[k]? ≠ some s) := Lib.hid (fun k hk => by
       by_cases hkj : k < j
       · exact HB.out k hkj
       · have : k = j := by omega
         subst this
         rw [hg]; intro e; exact he (Option.some.inj e))
      have e1 := eqF he
      generalize l[j] = x at hc e1
      clear hcell hg he
      go_wp2_with fail
      go_round
      case rel => exact ⟨j + 1, by omega, by go_num, HB2⟩
      case measure => simp [intOf]; omega
  · have HP : Hid (placeI l s = -1) := Lib.hid (placeI_none (fun k hk => HB.out k (by rw [HN.out] at hk; omega)))
    have hd : decide (j < n) = false := by simp only [decide_eq_false_iff_not]; omega
    go_wp2_with fail
    go_ret
    exact ⟨by rw [HP.out]; rfl, rfl⟩
theorem info_str : (Tryz.prog.info? 9).map (fun i => (i.zero, i.size, i.bytes)) = some (some (.string ⟨#[]⟩), 1, 16) := by kernel_rfl
theorem files_at {w : World} {v : Value} {fs : List (List ByteArray)} (h : RdLL w v (fs.map stringsV)) :
 ∃ A c, v = .slice A fs.length c ∧ Hid (∀ j (hj : j < fs.length), ∃ b off A' c', A = some ⟨b, off, none⟩ ∧ w.cell? ⟨b, off + j, none⟩ = some (.slice A' fs[j].length c') ∧
   (∀ k (hk : k < fs[j].length), ∃ b' off', A' = some ⟨b', off', none⟩ ∧ w.cell? ⟨b', off' + k, none⟩ = some (.string (fs[j][k])))) := by
 obtain ⟨us, ⟨A, c, rfl, _, hA⟩, hl, he⟩ := h
 rw [List.length_map] at hl
 refine ⟨A, c, by rw [hl], Lib.hid (fun j hj => ?_)⟩
 obtain ⟨b, off, rfl, hcell⟩ := hA (by omega)
 have h2 := he j (by omega) (by rw [List.length_map]; exact hj)
 rw [List.getElem_map] at h2
 have hc := hcell j (by omega)
 obtain ⟨A', c', e, _, hA'⟩ := h2
 rw [stringsV_len] at e
 refine ⟨b, off, A', c', rfl, by rw [hc, e], fun k hk => ?_⟩
 obtain ⟨b', off', rfl, hcell'⟩ := hA' (by rw [stringsV_len]; omega)
 refine ⟨b', off', rfl, ?_⟩
 rw [hcell' k (by rw [stringsV_len]; exact hk)]
 simp [stringsV]
theorem flat_succ {β : Type} (fs : List (List β)) (j : Nat) (h : j < fs.length) : (fs.take (j + 1)).flatten = (fs.take j).flatten ++ fs[j] := by
 rw [List.take_succ_eq_append_getElem h, List.flatten_append]; simp
theorem flat_bound {β : Type} (fs : List (List β)) (B : Nat) (h : ∀ f ∈ fs, f.length ≤ B) : fs.flatten.length ≤ B * fs.length := by
 induction fs with
 | nil => exact Nat.zero_le _
 | cons f r ih =>
   have h1 := ih (fun g hg => h g (List.mem_cons_of_mem _ hg))
   have h2 := h f (List.mem_cons_self ..)
   rw [List.flatten_cons, List.length_append, List.length_cons, Nat.mul_add]; omega
def NewStrs (w : World) (l : List ByteArray) (e : Ending) (w' : World) : Prop := ∃ v, e = .returned v ∧ w'.ownsRow w.heap.size 9 1 v l.length (stringsV l) ∧ Below w.heap.size w w'
set_option maxRecDepth 100000 in
set_option maxHeartbeats 2000000 in
theorem NamesR_any (v : Value) (fs : List (List ByteArray)) (w : World) (hr : RdLL w v (fs.map stringsV)) (hl : fs.length ≤ 1000) (hll : ∀ f ∈ fs, f.length ≤ 1000) :
 Calls Tryz.prog 92 #[v] w (NewStrs w (namesF fs)) := by
 obtain ⟨A, c, rfl, HF⟩ := files_at hr
 have HLL := Lib.hid hll
 have hbound : ∀ j, (fs.take j).flatten.length ≤ 1000000 := fun j => by
  have h2 := flat_bound (fs.take j) 1000 (fun f hf => hll f (List.mem_of_mem_take hf))
  have h3 : (fs.take j).length ≤ fs.length := List.length_take_le' ..
  omega
 have HBd := Lib.hid hbound
 clear hll hr hbound
 generalize hn : fs.length = n at hl
 have HN := Lib.hid hn
 clear hn
 go_enter Tryz.func92, Tryz.ntmps92
 go_wp2_with fail
 go_loopw [3, 4] (fun v i wr => ∃ j : Nat, j ≤ n ∧ i = .int .i64 j ∧ Hid (wr.ownsRow w.heap.size 9 1 v (namesA [] (fs.take j).flatten).length (stringsV (namesA [] (fs.take j).flatten))) ∧ Below w.heap.size w wr) (fun _ i _ => n - (intOf i).toNat)
 case atStart => exact ⟨0, Nat.zero_le _, rfl, Lib.hid (World.ownsRow_nil _ _ _ _), Below.refl _ _⟩
 case round =>
  obtain ⟨j, hj, rfl, HO, hnx⟩ := hrel
  obtain ⟨B, d, rfl⟩ := own_form HO.out
  by_cases hlt : j < n
  · have hx : j < fs.length := by rw [HN.out]; exact hlt
    obtain ⟨b, off, A', c', rfl, hc0, hin⟩ := HF.out j hx
    have hml := HLL.out _ (List.getElem_mem hx)
    have HS := Lib.hid (flat_succ fs j hx)
    have HBd0 := HBd.out j
    generalize fs[j] = f at hc0 hin hml HS
    have HIn := Lib.hid hin
    clear hin
    have i1 : (0 : Int) ≤ (j : Int) := by omega
    have i2 : (j : Int) < (n : Int) := by omega
    generalize (fs.take j).flatten = done at HO HS HBd0
    generalize hm : f.length = m at hc0 hml
    have HM := Lib.hid hm
    clear hm
    have HC := Lib.hid hc0
    have hbl := Tx.cell_lt hc0
    clear hc0
    go_wp2_with fail
    go_loopw [3, 5] (fun v q wr => ∃ k : Nat, k ≤ m ∧ q = .int .i64 k ∧ Hid (wr.ownsRow w.heap.size 9 1 v (namesA [] (done ++ f.take k)).length (stringsV (namesA [] (done ++ f.take k)))) ∧ Below w.heap.size w wr) (fun _ q _ => m - (intOf q).toNat)
    case atStart => exact ⟨0, Nat.zero_le _, rfl, by rw [List.take_zero, List.append_nil]; exact HO, hnx⟩
    case round =>
     obtain ⟨k, hk, rfl, HO1, hnx1⟩ := hrel
     obtain ⟨B1, d1, rfl⟩ := own_form HO1.out
     have hc : wr.cell? ⟨b, off + j, none⟩ = some (.slice A' m c') := (hnx1.cell (p := ⟨b, off + j, none⟩) hbl).trans HC.out
     have hsz1 := hnx1.size
     by_cases hlt1 : k < m
     · have hx1 : k < f.length := by rw [HM.out]; exact hlt1
       obtain ⟨b', off', rfl, hci0⟩ := HIn.out k hx1
       have hci : wr.cell? ⟨b', off' + k, none⟩ = some (.string f[k]) := (hnx1.cell (p := ⟨b', off' + k, none⟩) (Tx.cell_lt hci0)).trans hci0
       have HT : Hid (namesA [] (done ++ f.take (k + 1)) = add (namesA [] (done ++ f.take k)) f[k]) := Lib.hid (by
        rw [List.take_succ_eq_append_getElem hx1, ← List.append_assoc, namesA_snoc])
       have hbd1 : (namesA [] (done ++ f.take k)).length ≤ 1001000 := by
        have h1 := namesA_len (done ++ f.take k) ([] : List ByteArray)
        rw [List.length_append] at h1
        have h2 : (f.take k).length ≤ k := List.length_take_le ..
        simp only [List.length_nil] at h1; omega
       clear hci0
       generalize f[k] = x at hci HT
       generalize namesA [] (done ++ f.take k) = acc at HO1 HT hbd1
       have j1 : (0 : Int) ≤ (k : Int) := by omega
       have j2 : (k : Int) < (m : Int) := by omega
       have HP := Lib.hid (place_any (.slice B1 acc.length d1) acc x wr (RdV.of_own HO1.out) (by omega))
       by_cases hmem : x ∈ acc
       · have HT2 : Hid (namesA [] (done ++ f.take (k + 1)) = acc) := Lib.hid (by rw [HT.out]; unfold add; rw [if_pos hmem])
         have hz : ¬ placeI acc x < 0 := fun h => (placeI_neg acc x).1 h hmem
         generalize placeI acc x = z at HP hz
         clear hmem HT
         go_wp2_with (go_at_call 93; refine HP.out.mono ?_; rintro e w1 ⟨rfl, rfl⟩)
         go_roundw
         case rel => exact ⟨k + 1, by omega, by go_num, by rw [HT2.out]; exact HO1, hnx1⟩
         case measure => simp [intOf]; omega
       · have HT2 : Hid (namesA [] (done ++ f.take (k + 1)) = acc ++ [x]) := Lib.hid (by rw [HT.out]; unfold add; rw [if_neg hmem])
         have HZ : Hid (placeI acc x = -1) := Lib.hid (by unfold placeI; rw [if_neg hmem])
         rw [HZ.out] at HP
         clear hmem HT HZ
         go_wp2_with (first
          | (go_at_call 93; refine HP.out.mono ?_; rintro e w1 ⟨rfl, rfl⟩)
          | (at_builtin; refine app_one rfl Tryz.underlying30 info_str rfl (by omega) (.tmp 31) (.tmp 39) rfl w.heap.size acc.length (stringsV acc) (.string x) rfl _ _ rfl HO1.out rfl rfl (by omega) hsz1 ?_; intro v3 w3 ho3 hb3 _; have HO3 := Lib.hid ho3; clear ho3))
         go_roundw
         case rel => exact ⟨k + 1, by omega, by go_num, by rw [HT2.out, List.length_append, show stringsV (acc ++ [x]) = stringsV acc ++ [Value.string x] from by simp [stringsV]]; exact HO3, hnx1.trans hb3⟩
         case measure => simp [intOf]; omega
     · have HE : Hid (namesA [] (done ++ f.take k) = namesA [] (fs.take (j + 1)).flatten) := Lib.hid (by rw [HS.out, List.take_of_length_le (by rw [HM.out]; omega)])
       have hd : decide (k < m) = false := by simp only [decide_eq_false_iff_not]; omega
       go_wp2_with fail
       go_roundw
       case rel => exact ⟨j + 1, by omega, by go_num, by rw [← HE.out]; exact HO1, hnx1⟩
       case measure => simp [intOf]; omega
  · have HE : Hid (namesA [] (fs.take j).flatten = namesF fs) := Lib.hid (by unfold namesF; rw [List.take_of_length_le (by rw [HN.out]; omega)])
    have hd : decide (j < n) = false := by simp only [decide_eq_false_iff_not]; omega
    go_wp2_with fail
    go_ret
    exact ⟨_, rfl, by rw [← HE.out]; exact HO.out, hnx⟩
end Nt
end
section
open Go.RowKit
namespace Cm
theorem info_int : (Tryz.prog.info? 3).map (fun i => (i.zero, i.size, i.bytes)) = some (some (.int .i64 0), 1, 8) := by kernel_rfl
theorem info_ints : (Tryz.prog.info? 22).map (fun i => (i.zero, i.size, i.bytes)) = some (some (.slice none 0 0), 1, 24) := by kernel_rfl
def OwnLL (w : World) (base : Nat) (v : Value) (lss : List (List Int)) : Prop :=
 ∃ us : List Value, us.length = lss.length ∧ w.ownsRow base 22 1 v us.length us ∧ ∀ j (h1 : j < us.length) (h2 : j < lss.length), w.ownsRow base 3 1 us[j] lss[j].length (intsV lss[j])
theorem OwnLL.nil (w : World) (base : Nat) : OwnLL w base (.slice none 0 0) [] := ⟨[], rfl, World.ownsRow_nil _ _ _ _, fun _ h => absurd h (Nat.not_lt_zero _)⟩
theorem OwnLL.below {w w' : World} {base : Nat} {v : Value} {lss : List (List Int)} (h : OwnLL w base v lss) (hb : Below w.heap.size w w') : OwnLL w' base v lss := by
 obtain ⟨us, h1, h2, h3⟩ := h
 exact ⟨us, h1, own_below h2 hb, fun j a b => own_below (h3 j a b) hb⟩
theorem OwnLL.form {w : World} {base : Nat} {v : Value} {lss : List (List Int)} (h : OwnLL w base v lss) : ∃ A c, v = .slice A lss.length c := by
 obtain ⟨us, h1, h2, _⟩ := h
 rw [← h1]; exact own_form h2
theorem OwnLL.rd {w : World} {base : Nat} {v : Value} {lss : List (List Int)} (h : OwnLL w base v lss) : RdLL w v (lss.map intsV) := by
 obtain ⟨us, h1, h2, h3⟩ := h
 refine ⟨us, RdV.of_own h2, by rw [List.length_map]; exact h1, fun j a b => ?_⟩
 rw [List.getElem_map]
 refine RdV.of_own (n := (lss[j]'(by omega)).length) (e := 3) (base := base) ?_
 exact h3 j a (by omega)
theorem OwnLL.base {w : World} {base base' : Nat} {v : Value} {lss : List (List Int)} (h : OwnLL w base v lss) (hb : base' ≤ base) : OwnLL w base' v lss := by
 obtain ⟨us, h1, h2, h3⟩ := h
 exact ⟨us, h1, own_base h2 hb, fun j a b => own_base (h3 j a b) hb⟩
theorem OwnLL.out {w : World} {base : Nat} {v : Value} {lss : List (List Int)} (h : OwnLL w base v lss) : ∃ us : List Value, us.length = lss.length ∧ w.ownsRow base 22 1 v lss.length us ∧
 (∀ (u : Value) (l : List Int) (C : Array Value) (v' : Value) (w' : World), w.ownsRow base 3 1 u l.length (intsV l) → w'.ownsRow base 22 1 v' (lss.length + 1) (us ++ [u]) → (w.alloc (.cells C 22)).grownBy w' v.ownBlock → OwnLL w' base v' (lss ++ [l])) := by
 obtain ⟨us, h1, h2, h3⟩ := h
 refine ⟨us, h1, by rw [← h1]; exact h2, fun u l C v' w' hu hv hg => ⟨us ++ [u], by simp [h1], by rw [List.length_append, h1]; exact hv, fun j a b => ?_⟩⟩
 have hv0 := (h2.alloc (.cells C 22))
 by_cases hj : j < us.length
 · rw [List.getElem_append_left hj]
   have e : (lss ++ [l])[j] = lss[j]'(by omega) := List.getElem_append_left (by omega)
   rw [e]
   have hr := (h3 j hj (by omega)).alloc (.cells C 22)
   exact hr.kept hg (own_ne hr hv0 (by decide))
 · have hj2 : j = us.length := by rw [List.length_append, List.length_singleton] at a; omega
   subst hj2
   have e1 : (us ++ [u])[us.length] = u := by simp
   have e2 : (lss ++ [l])[us.length] = l := by simp [h1]
   rw [e1, e2]
   have hr := hu.alloc (.cells C 22)
   exact hr.kept hg (own_ne hr hv0 (by decide))
end Cm
end
section
open Go.RowKit
namespace Nt
open Cm
def NewLL (w : World) (lss : List (List Int)) (e : Ending) (w' : World) : Prop := ∃ v, e = .returned v ∧ OwnLL w' w.heap.size v lss ∧ Below w.heap.size w w'
set_option maxRecDepth 100000 in
set_option maxHeartbeats 4000000 in
theorem IdsR_any (v : Value) (fs : List (List ByteArray)) (w : World) (hr : RdLL w v (fs.map stringsV)) (hl : fs.length ≤ 1000) (hll : ∀ f ∈ fs, f.length ≤ 1000) :
 Calls Tryz.prog 55 #[v] w (NewLL w (idsF fs)) := by
 have HNm := Lib.hid (NamesR_any v fs w hr hl hll)
 obtain ⟨A, c, rfl, HF⟩ := files_at hr
 have HLL := Lib.hid hll
 have hnl : (namesF fs).length ≤ 1000000 := by
  have h1 := namesA_len fs.flatten ([] : List ByteArray)
  have h2 := flat_bound fs 1000 hll
  unfold namesF
  simp only [List.length_nil] at h1; omega
 have HId : Hid (idsF fs = fs.map fun f => f.map (placeI (namesF fs))) := Lib.hid rfl
 have HEnd : Hid (∀ v e w', e = .returned v → OwnLL w' w.heap.size v (fs.map fun f => f.map (placeI (namesF fs))) → Below w.heap.size w w' → NewLL w (idsF fs) e w') := Lib.hid (fun v e w' h1 h2 h3 => ⟨v, h1, by rw [HId.out]; exact h2, h3⟩)
 clear hll hr HId
 generalize namesF fs = names at HNm hnl HEnd
 generalize hn : fs.length = n at hl HNm
 have HN := Lib.hid hn
 clear hn
 go_enter Tryz.func55, Tryz.ntmps55
 go_wp2_with (go_at_call 92; refine HNm.out.mono ?_; rintro e w1 ⟨vn, rfl, ho, hb1⟩)
 have HNa := Lib.hid (RdV.of_own ho)
 have hsz0 := hb1.size
 clear ho HNm
 go_loopw [4, 5] (fun v i wr => ∃ j : Nat, j ≤ n ∧ i = .int .i64 j ∧ Hid (OwnLL wr w1.heap.size v ((fs.take j).map fun f => f.map (placeI names))) ∧ Below w1.heap.size w1 wr) (fun _ i _ => n - (intOf i).toNat)
 case atStart => exact ⟨0, Nat.zero_le _, rfl, Lib.hid (OwnLL.nil _ _), Below.refl _ _⟩
 case round =>
  obtain ⟨wo, rfl⟩ : ∃ wo, wo = wr := ⟨wr, rfl⟩
  obtain ⟨j, hj, rfl, HO, hnx⟩ := hrel
  obtain ⟨B, d, rfl⟩ := HO.out.form
  have hsz := hnx.size
  by_cases hlt : j < n
  · have hx : j < fs.length := by rw [HN.out]; exact hlt
    obtain ⟨b, off, A', c', rfl, hc0, hin⟩ := HF.out j hx
    have hml := HLL.out _ (List.getElem_mem hx)
    have HS : Hid ((fs.take (j + 1)).map (fun f => f.map (placeI names)) = (fs.take j).map (fun f => f.map (placeI names)) ++ [fs[j].map (placeI names)]) := Lib.hid (by
     rw [List.take_succ_eq_append_getElem hx, List.map_append]; rfl)
    have HLt : Hid (((fs.take j).map (fun f => f.map (placeI names))).length = j) := Lib.hid (by rw [List.length_map, List.length_take]; omega)
    generalize (fs.take j).map (fun f => f.map (placeI names)) = acc at HO HS HLt
    generalize fs[j] = f at hc0 hin hml HS
    have HIn := Lib.hid hin
    clear hin
    have i1 : (0 : Int) ≤ (j : Int) := by omega
    have i2 : (j : Int) < (n : Int) := by omega
    generalize hm : f.length = m at hc0 hml
    have HM := Lib.hid hm
    clear hm
    have HC := Lib.hid hc0
    have hbl := Tx.cell_lt hc0
    clear hc0
    have HE0 := Lib.hid (own_empty wo 3)
    have HB2 := Lib.hid ((Below.refl wo.heap.size wo).alloc (Nat.le_refl _) (.cells #[] 3))
    go_wp2_with fail
    go_loopw [6, 7] (fun u q wr => ∃ k : Nat, k ≤ m ∧ q = .int .i64 k ∧ Hid (wr.ownsRow wo.heap.size 3 1 u k (intsV ((f.take k).map (placeI names)))) ∧ Below wo.heap.size wo wr) (fun _ q _ => m - (intOf q).toNat)
    case atStart => exact ⟨0, Nat.zero_le _, rfl, HE0, HB2.out⟩
    case round =>
     obtain ⟨k, hk, rfl, HO1, hnx1⟩ := hrel
     obtain ⟨B1, d1, rfl⟩ := own_form HO1.out
     have hsz1 := hnx1.size
     have b1 : Below w1.heap.size w1 wr := hnx.trans (hnx1.mono hsz)
     have b0 : Below w.heap.size w wr := hb1.trans (b1.mono hsz0)
     have hc : wr.cell? ⟨b, off + j, none⟩ = some (.slice A' m c') := (b0.cell (p := ⟨b, off + j, none⟩) hbl).trans HC.out
     by_cases hlt1 : k < m
     · have hx1 : k < f.length := by rw [HM.out]; exact hlt1
       obtain ⟨b', off', rfl, hci0⟩ := HIn.out k hx1
       have hci : wr.cell? ⟨b', off' + k, none⟩ = some (.string f[k]) := (b0.cell (p := ⟨b', off' + k, none⟩) (Tx.cell_lt hci0)).trans hci0
       have HT : Hid (intsV ((f.take (k + 1)).map (placeI names)) = intsV ((f.take k).map (placeI names)) ++ [.int .i64 (placeI names f[k])]) := Lib.hid (by
        rw [List.take_succ_eq_append_getElem hx1, List.map_append]; simp [intsV])
       have HP := Lib.hid (place_any vn names f[k] wr (HNa.out.below b1) (by omega))
       clear hci0
       generalize f[k] = x at hci HT HP
       generalize intsV ((f.take k).map (placeI names)) = done at HO1 HT
       generalize placeI names x = z at HP HT
       have j1 : (0 : Int) ≤ (k : Int) := by omega
       have j2 : (k : Int) < (m : Int) := by omega
       go_wp2_with (first
        | (go_at_call 93; refine HP.out.mono ?_; rintro e w2 ⟨rfl, rfl⟩)
        | (at_builtin; refine app_one rfl Tryz.underlying22 info_int rfl (by omega) (.tmp 26) (.tmp 36) rfl wo.heap.size k done (.int .i64 z) rfl _ _ rfl HO1.out rfl rfl (by omega) hsz1 ?_; intro v3 w3 ho3 hb3 _; have HO3 := Lib.hid ho3; clear ho3))
       go_roundw
       case rel => exact ⟨k + 1, by omega, by go_num, by rw [HT.out]; exact HO3, hnx1.trans hb3⟩
       case measure => simp [intOf]; omega
     · have HE : Hid ((f.take k).map (placeI names) = f.map (placeI names)) := Lib.hid (by rw [List.take_of_length_le (by rw [HM.out]; omega)])
       have hkm : k = m := by omega
       have HFl : Hid ((f.map (placeI names)).length = k) := Lib.hid (by rw [List.length_map, HM.out, hkm])
       have hd : decide (k < m) = false := by simp only [decide_eq_false_iff_not]; omega
       obtain ⟨us, husl, hus, happ⟩ := (HO.out.below hnx1).out
       have HUs := Lib.hid hus
       have HU : Hid (wr.ownsRow w1.heap.size 3 1 (.slice B1 k d1) (f.map (placeI names)).length (intsV (f.map (placeI names)))) := Lib.hid (by
        rw [HFl.out, ← HE.out]; exact own_base HO1.out (by omega))
       have HApp := Lib.hid happ
       have hacc : acc.length ≤ 1000 := by rw [HLt.out]; omega
       clear hkm husl hus happ
       go_wp2_with (at_builtin; refine app_one rfl Tryz.underlying105 info_ints rfl (by omega) (.tmp 38) (.tmp 40) rfl w1.heap.size acc.length us (.slice B1 k d1) rfl _ _ rfl HUs.out rfl rfl (by omega) (by omega) ?_; intro v3 w3 ho3 hb3 hg3; have HO3 := Lib.hid (HApp.out _ _ _ _ _ HU.out ho3 hg3); clear ho3 hg3)
       go_roundw
       case rel => exact ⟨j + 1, by omega, by go_num, by rw [HS.out]; exact HO3, b1.trans hb3⟩
       case measure => simp [intOf]; omega
  · have HE : Hid ((fs.take j).map (fun f => f.map (placeI names)) = fs.map fun f => f.map (placeI names)) := Lib.hid (by rw [List.take_of_length_le (by rw [HN.out]; omega)])
    have hd : decide (j < n) = false := by simp only [decide_eq_false_iff_not]; omega
    go_wp2_with fail
    go_ret
    exact HEnd.out _ _ _ rfl (by rw [← HE.out]; exact HO.out.base hsz0) (hb1.trans (hnx.mono hsz0))
end Nt
end
end Go.Proofs.YtjecfmbecgpbmaaGreatDoor

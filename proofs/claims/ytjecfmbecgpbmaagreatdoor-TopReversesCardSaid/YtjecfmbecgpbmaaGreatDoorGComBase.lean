/-
  Slices of one-cell elements that read as lists, slices that the call owns, and appending: for every element type. No conditions. Lists of numbers and strings as values; slices of slices. No conditions. The verifier's At, as a function of the raw numbers. Conditions: few numbers, at a small place. Walks of the reference of layer 3: place, Names, Ids, Spell. Conditions: short lists. A slice of slices of ints that the call owns. No conditions. Walks of the reference of layer 3: Ids, Spell. Conditions: short lists.
-/
import Derived.Test.YtjecfmbecgpbmaaGreatDoorGTextBase
import Derived.Laws.AppendOwnNone
import Derived.Test.YtjecfmbecgpbmaaGreatDoorScanMathB
namespace Go.Proofs.YtjecfmbecgpbmaaGreatDoor
section
open Go.RowKit
namespace Cm
/-- A slice that reads as a list of values. -/
def RdV (w : World) (v : Value) (us : List Value) : Prop :=
  ∃ A c, v = .slice A us.length c ∧ (us.length ≤ c ∧ (A = none → c = 0)) ∧ (0 < us.length → ∃ b off, A = some ⟨b, off, none⟩ ∧ ∀ j (h : j < us.length), w.cell? ⟨b, off + j, none⟩ = some us[j])
theorem RdV.below {w w' : World} {v : Value} {us : List Value} (h : RdV w v us) (hb : Below w.heap.size w w') : RdV w' v us := by
  obtain ⟨A, c, rfl, hcap, hc⟩ := h
  refine ⟨A, c, rfl, hcap, fun hp => ?_⟩
  obtain ⟨b, off, rfl, hcell⟩ := hc hp
  exact ⟨b, off, rfl, fun j hj => (hb.cell (p := ⟨b, off + j, none⟩) (Tx.cell_lt (hcell j hj))).trans (hcell j hj)⟩
theorem RdV.nil (w : World) : RdV w (.slice none 0 0) [] := ⟨none, 0, rfl, ⟨Nat.le_refl _, fun _ => rfl⟩, fun hp => absurd hp (by decide)⟩
theorem RdV.form {w : World} {v : Value} {us : List Value} (h : RdV w v us) : ∃ A c, v = .slice A us.length c := by
  obtain ⟨A, c, rfl, _⟩ := h; exact ⟨A, c, rfl⟩
/-- Its cells, where it is not empty. -/
theorem RdV.at {w : World} {A : Option Addr} {n c : Nat} {us : List Value} (h : RdV w (.slice A n c) us) (hp : 0 < us.length) : n = us.length ∧ ∃ b off, A = some ⟨b, off, none⟩ ∧ ∀ j (hj : j < us.length), w.cell? ⟨b, off + j, none⟩ = some us[j] := by
  obtain ⟨A', c', e, _, hc⟩ := h
  injection e with e1 e2 _
  subst e1
  exact ⟨e2, hc hp⟩
theorem RdV.len {w : World} {A : Option Addr} {n c : Nat} {us : List Value} (h : RdV w (.slice A n c) us) : n = us.length := by
  obtain ⟨A', c', e, _⟩ := h
  injection e
theorem RdV.lit (w : World) (t : TypeId) (us : List Value) (C : Array Value) (hC : C.toList = us) : RdV (w.alloc (.cells C t)) (.slice (some ⟨w.heap.size, 0, none⟩) us.length us.length) us := by
  refine ⟨_, _, rfl, ⟨Nat.le_refl _, fun e => by cases e⟩, fun _ => ⟨_, 0, rfl, fun j hj => ?_⟩⟩
  subst hC
  rw [Nat.zero_add, World.cell?_alloc_mark, ← Array.getElem?_toList, List.getElem?_eq_getElem hj]
section
variable {t e : TypeId}
theorem own_form {w : World} {base n : Nat} {v : Value} {xs : List Value} (h : w.ownsRow base e 1 v n xs) : ∃ A c, v = .slice A n c := by
  rcases h.2 with ⟨rfl, rfl⟩ | ⟨g, cap, cur, rfl, _⟩
  · exact ⟨none, 0, rfl⟩
  · exact ⟨_, cap, rfl⟩
theorem own_some {w : World} {base n : Nat} {v : Value} {xs : List Value} (h : w.ownsRow base e 1 v n xs) (hp : 0 < n) : ∃ g c cur, v = .slice (some ⟨g, 0, none⟩) n c ∧ base ≤ g ∧ w.heap[g]? = some (.cells cur e (0, 0)) := by
  rcases h.2 with ⟨_, h0⟩ | ⟨g, cap, cur, rfl, hb, hh, _⟩
  · omega
  · exact ⟨g, cap, cur, rfl, hb, hh⟩
theorem own_len {w : World} {base n : Nat} {v : Value} {xs : List Value} (h : w.ownsRow base e 1 v n xs) : xs.length = n := by
  have := h.1; omega
theorem RdV.of_own {w : World} {base n : Nat} {v : Value} {us : List Value} (h : w.ownsRow base e 1 v n us) : RdV w v us := by
  have hl := own_len h
  rcases h.2 with ⟨rfl, h0⟩ | ⟨g, cap, cur, rfl, _, _, hcap, _⟩
  · exact ⟨none, 0, by rw [hl, h0], ⟨by omega, fun _ => rfl⟩, fun hp => by omega⟩
  · refine ⟨_, cap, by rw [hl], ⟨by omega, fun e => by cases e⟩, fun _ => ⟨g, 0, rfl, fun j hj => ?_⟩⟩
    have hc := h.cellAt j (by omega)
    rw [Nat.zero_add, hc, List.getElem?_eq_getElem hj]
theorem own_below {w w' : World} {base n : Nat} {v : Value} {xs : List Value} (h : w.ownsRow base e 1 v n xs) (hb : Below w.heap.size w w') : w'.ownsRow base e 1 v n xs :=
  h.kept (row := none) ⟨hb.os, hb.tape, hb.output, hb.size, fun k hk _ => hb.block k hk⟩ (by cases v.ownBlock <;> simp)
theorem below_app {w w' : World} {base n : Nat} {v : Value} {xs : List Value} (hown : w.ownsRow base e 1 v n xs) (hg : w.grownBy w' v.ownBlock) (hb : base ≤ w.heap.size) : Below base w w' :=
  (Below.refl _ _).grown hg hb (fun k hk => (hown.lt k hk).1)
theorem heap_new (w : World) (o : Obj) : (w.alloc o).heap[w.heap.size]? = some o := by
  show (w.heap.push o)[w.heap.size]? = some o
  simp
theorem below_drewN {n : Nat} {w w' : World} (h : Below n w w') (m : Nat) : Below n w (w'.drewN m) := by
  induction m with
  | zero => exact h
  | succ m ih => exact ih.drew
end
section
variable {P : Program} {ops : Array Oper} {rest : List Oper} {o : Oper} {a : Act} {Q : Exit → Act → World → Prop} {w : World} {t e : TypeId} {z : Value} {bytes : Nat}
theorem wpList_wanted (hg : Region.wanted o (yielded ops a.tmps) = true)
    (h : ∀ K : Act → World → Prop, (∀ a w, wpList P ops Q rest a w → K a w) → o.wp P a w K Q) : wpList P ops Q (o :: rest) a w :=
  wpList_step fun K hK => by rw [if_pos hg]; exact h K hK
/-- append of one new element onto a row that the call owns. -/
theorem app_one (hg : Region.wanted o (yielded ops a.tmps) = true) (ht : P.underlying t = some (.slice e)) (hinfo : (P.info? e).map (fun i => (i.zero, i.size, i.bytes)) = some (some z, 1, bytes)) (hz : z.cells.size = 1) (hby : bytes ≤ 24)
    (s x : Operand) (ho : o.op = .call { callee := .builtin .append, args := #[s, x], argTypes := #[t, t] })
    (base n : Nat) (l : List Value) (u : Value) (hu : u.oneCell' = true) (v : Value) (C : Array Value) (hs : a.eval s = v) (hown : w.ownsRow base e 1 v n l)
    (hx : a.eval x = .slice (some ⟨w.heap.size, 0, none⟩) 1 1) (hC : C.toList = [u])
    (hsz : n + 1 ≤ 100000000) (hbase : base ≤ w.heap.size)
    (h : ∀ v' w', w'.ownsRow base e 1 v' (n + 1) (l ++ [u]) → Below base w w' → (w.alloc (.cells C e)).grownBy w' v.ownBlock → wpList P ops Q rest (a.put o.dst v') w') :
    wpList P ops Q (o :: rest) a (w.alloc (.cells C e)) := by
  obtain ⟨i0, hi0, hz0, hz1, hz2⟩ := info_parts hinfo
  have hsize : (w.alloc (.cells C e)).heap.size = w.heap.size + 1 := by simp
  refine wpList_wanted hg fun K hK => ?_
  refine wp_append_own _ s x _ ho base e i0 _ 1 bytes ht hi0 hz0 hz1 hz2 hz (by omega) v n l hs (hown.alloc _) ⟨w.heap.size, 0, none⟩ 1 1 [u] hx
    rfl (fun j y hy => ?_) ?_ (by unfold maxLen; omega) ?_ (by omega) ?_
  · have he : (Addr.mk w.heap.size 0 none).add j = ⟨w.heap.size, j, none⟩ := by
      unfold Addr.add; split
      · rename_i h0; rw [h0]
      · simp
    rw [he, World.cell?_alloc_mark, ← hy, ← hC]; simp
  · intro y hy
    simp only [List.mem_singleton] at hy
    subst hy
    exact hu
  · have := Nat.mul_le_mul_left (n + 1) hby
    omega
  · intro v' w' h1 h2 _
    exact hK _ _ (h v' w' h1 (((Below.refl base w).alloc hbase _).trans (below_app (hown.alloc _) h2 (by omega))) h2)
end
end Cm
end
section
open Go.RowKit
namespace Cm
def intsV (l : List Int) : List Value := l.map fun z => .int .i64 z
def stringsV (l : List ByteArray) : List Value := l.map Value.string
theorem intsV_len (l : List Int) : (intsV l).length = l.length := by simp [intsV]
theorem stringsV_len (l : List ByteArray) : (stringsV l).length = l.length := by simp [stringsV]
/-- A slice of slices that reads as a list of lists. -/
def RdLL (w : World) (v : Value) (uss : List (List Value)) : Prop :=
  ∃ us, RdV w v us ∧ us.length = uss.length ∧ ∀ j (h1 : j < us.length) (h2 : j < uss.length), RdV w us[j] uss[j]
end Cm
end
section
namespace Cm
end Cm
open Go.RowKit
namespace Au
open Cm
def mixY (x : Int) : Int := IntKind.u64.wrap (bits .xor .u64 x (x / 2147483648) * 13787848793156543929)
def mixF (x : Int) : Int := wrap64 (bits .xor .u64 (mixY x) (mixY x / 536870912) / 2)
def seedF (k : Int) : Int := IntKind.u64.wrap ((k + 1) * 11400714819323198485)
def atF (us : List Int) (k : Int) : Int := if 0 < us.length then mixF (bits .xor .u64 (seedF k) (IntKind.u64.wrap (us.getD (k % (us.length : Int)).toNat 0))) else mixF (seedF k)
theorem atF_lo (us : List Int) (k : Int) : -9223372036854775808 ≤ atF us k := by unfold atF mixF; split <;> exact Tx.w64_lo _
theorem atF_hi (us : List Int) (k : Int) : atF us k ≤ 9223372036854775807 := by unfold atF mixF; split <;> exact Tx.w64_hi _
set_option maxHeartbeats 1000000 in
theorem At_fn (v : Value) (us : List Int) (k : Int) (w : World) (h : RdV w v (intsV us)) (hn : us.length ≤ maxLen) (h0 : 0 ≤ k) (h1 : k ≤ 1000000) :
    Calls Tryz.prog 23 #[v, .int .i64 k] w fun e w' => e = .returned (.int .i64 (atF us k)) ∧ w = w' := by
  obtain ⟨A, c, rfl, _, hc⟩ := h
  unfold maxLen at hn
  have HAt : Hid (atF us k = if 0 < us.length then mixF (bits .xor .u64 (seedF k) (IntKind.u64.wrap (us.getD (k % (us.length : Int)).toNat 0))) else mixF (seedF k)) := Lib.hid rfl
  rw [intsV_len]
  by_cases hz : 0 < us.length
  · obtain ⟨b, off, rfl, hcell⟩ := hc (by rw [intsV_len]; exact hz)
    clear hc
    have hm0 : 0 ≤ k % (us.length : Int) := Int.emod_nonneg _ (by omega)
    have hm1 : k % (us.length : Int) < us.length := Int.emod_lt_of_pos _ (by omega)
    obtain ⟨j, hj⟩ : ∃ j : Nat, k % (us.length : Int) = j := ⟨(k % (us.length : Int)).toNat, by omega⟩
    have hz1 := hcell j (by rw [intsV_len]; omega)
    have hgd : us.getD (k % (us.length : Int)).toNat 0 = us[j]'(by omega) := by
      rw [hj, Int.toNat_natCast, List.getD_eq_getElem?_getD, List.getElem?_eq_getElem (by omega)]; rfl
    have hcj : w.cell? ⟨b, off + (k % (us.length : Int)).toNat, none⟩ = some (.int .i64 (us[j]'(by omega))) := by rw [hj]; rw [Int.toNat_natCast, hz1]; simp [intsV]
    rw [if_pos hz, hgd] at HAt
    clear hcell hz1 hgd
    generalize us[j]'(by omega) = z at HAt hcj
    clear hj
    generalize us.length = n at *
    go_enter Tryz.func23, Tryz.ntmps23
    go_wp2_with fail
    go_ret
    rw [HAt.out]
    exact ⟨rfl, rfl⟩
  · clear hc
    rw [if_neg hz] at HAt
    generalize us.length = n at *
    go_enter Tryz.func23, Tryz.ntmps23
    go_wp2_with fail
    go_ret
    rw [HAt.out]
    exact ⟨rfl, rfl⟩
end Au
end
section
namespace Cm
end Cm
open Go.RowKit
namespace Nt
open Cm
theorem eqF {x y : ByteArray} (h : x ≠ y) : (x.toList == y.toList) = false := by
  rw [beq_eq_false_iff_ne]
  intro e
  apply h
  rw [ByteArray.toList_eq, ByteArray.toList_eq] at e
  cases x; cases y
  simp only at e
  congr
  exact Array.toList_inj.1 e
theorem info_str : (Tryz.prog.info? 9).map (fun i => (i.zero, i.size, i.bytes)) = some (some (.string ⟨#[]⟩), 1, 16) := by kernel_rfl
theorem flat_succ {β : Type} (fs : List (List β)) (j : Nat) (h : j < fs.length) : (fs.take (j + 1)).flatten = (fs.take j).flatten ++ fs[j] := by
  rw [List.take_succ_eq_append_getElem h, List.flatten_append]; simp
theorem flat_bound {β : Type} (fs : List (List β)) (B : Nat) (h : ∀ f ∈ fs, f.length ≤ B) : fs.flatten.length ≤ B * fs.length := by
  induction fs with
  | nil => exact Nat.zero_le _
  | cons f r ih =>
    have h1 := ih (fun g hg => h g (List.mem_cons_of_mem _ hg))
    have h2 := h f (List.mem_cons_self ..)
    rw [List.flatten_cons, List.length_append, List.length_cons, Nat.mul_add]; omega
end Nt
end
section
open Go.RowKit
namespace Cm
theorem info_int : (Tryz.prog.info? 3).map (fun i => (i.zero, i.size, i.bytes)) = some (some (.int .i64 0), 1, 8) := by kernel_rfl
theorem info_ints : (Tryz.prog.info? 22).map (fun i => (i.zero, i.size, i.bytes)) = some (some (.slice none 0 0), 1, 24) := by kernel_rfl
def OwnLL (w : World) (base : Nat) (v : Value) (lss : List (List Int)) : Prop :=
  ∃ us : List Value, us.length = lss.length ∧ w.ownsRow base 22 1 v us.length us ∧ ∀ j (h1 : j < us.length) (h2 : j < lss.length), w.ownsRow base 3 1 us[j] lss[j].length (intsV lss[j])
theorem OwnLL.rd {w : World} {base : Nat} {v : Value} {lss : List (List Int)} (h : OwnLL w base v lss) : RdLL w v (lss.map intsV) := by
  obtain ⟨us, h1, h2, h3⟩ := h
  refine ⟨us, RdV.of_own h2, by rw [List.length_map]; exact h1, fun j a b => ?_⟩
  rw [List.getElem_map]
  refine RdV.of_own (n := (lss[j]'(by omega)).length) (e := 3) (base := base) ?_
  exact h3 j a (by omega)
end Cm
end
section
namespace Cm
end Cm
open Go.RowKit
namespace Nt
open Cm
/-- A new list of lists of numbers. -/
def NewLL (w : World) (lss : List (List Int)) (e : Ending) (w' : World) : Prop := ∃ v, e = .returned v ∧ OwnLL w' w.heap.size v lss ∧ Below w.heap.size w w'
end Nt
end
end Go.Proofs.YtjecfmbecgpbmaaGreatDoor

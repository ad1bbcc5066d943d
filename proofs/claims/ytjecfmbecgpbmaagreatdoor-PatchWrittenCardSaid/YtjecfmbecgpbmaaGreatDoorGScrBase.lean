/- Facts; each states its conditions. -/
import Derived.Test.YtjecfmbecgpbmaaGreatDoorGTextBase
import Derived.Test.YtjecfmbecgpbmaaGreatDoorGComBase
import Derived.WalkLawsBesides
import Derived.Deep.RegionHeld3
import Derived.Deep.RegionLaw
import Derived.Deep.Cut
import Derived.Deep.CutRange
import Derived.Deep.QuietTactic
import Derived.BigQuiet
import Derived.BigRegion
import Derived.Deep.Onto
import Derived.IntWalk
namespace Go.Proofs.YtjecfmbecgpbmaaGreatDoor
section
namespace Cm
end Cm
open Go.RowKit
namespace Sc
open Cm
abbrev tCh : TypeId := 112
abbrev tChs : TypeId := 77
abbrev tSp : TypeId := 86
abbrev tSps : TypeId := 178
def chC (c : Ch) : List Value := [.int .i64 c.old, .int .i64 c.oldLen, .int .i64 c.new, .int .i64 c.newLen]
def spC (s : Sp) : List Value := [.int .i64 s.frm, .int .i64 s.to]
def zB (z : Int) : Prop := -9223372036854775808 ≤ z ∧ z ≤ 9223372036854775807
def ChB (c : Ch) : Prop := zB c.old ∧ zB c.oldLen ∧ zB c.new ∧ zB c.newLen
def SpB (s : Sp) : Prop := zB s.frm ∧ zB s.to
abbrev zeroCh : Value := .agg #[.int .i64 0, .int .i64 0, .int .i64 0, .int .i64 0]
abbrev zeroSp : Value := .agg #[.int .i64 0, .int .i64 0]
theorem info_ch : (Tryz.prog.info? tCh).map (fun i => (i.zero, i.size, i.bytes)) = some (some zeroCh, 4, 32) := by kernel_rfl
theorem info_sp : (Tryz.prog.info? tSp).map (fun i => (i.zero, i.size, i.bytes)) = some (some zeroSp, 2, 16) := by kernel_rfl
section
variable {α : Type} {k : Nat} {enc : α → List Value}
def RdK (k : Nat) (enc : α → List Value) (w : World) (v : Value) (xs : List α) : Prop :=
 ∃ A c, v = .slice A xs.length c ∧ (xs.length ≤ c ∧ (A = none → c = 0)) ∧ (0 < xs.length → ∃ b off, A = some ⟨b, off, none⟩ ∧ ∀ j (h : j < xs.length) i (hi : i < (enc xs[j]).length), w.cell? ⟨b, off + j * k + i, none⟩ = some (enc xs[j])[i])
def flatK (enc : α → List Value) (xs : List α) : List Value := xs.flatMap enc
theorem flatK_len (he : ∀ x, (enc x).length = k) (xs : List α) : (flatK enc xs).length = k * xs.length := by
 induction xs with
 | nil => rfl
 | cons s r ih =>
   show (enc s ++ flatK enc r).length = _
   rw [List.length_append, ih, List.length_cons, he, Nat.mul_succ]
   omega
theorem flatK_snoc (xs : List α) (s : α) : flatK enc (xs ++ [s]) = flatK enc xs ++ enc s := by simp [flatK]
theorem flatK_get (he : ∀ x, (enc x).length = k) : ∀ (xs : List α) (j : Nat) (hj : j < xs.length) (i : Nat), i < k → (flatK enc xs)[j * k + i]? = (enc xs[j])[i]?
 | [], j, h, _, _ => absurd h (Nat.not_lt_zero _)
 | s :: ss, 0, _, i, hi => by
   show (enc s ++ flatK enc ss)[0 * k + i]? = _
   rw [List.getElem?_append_left (by rw [he]; omega)]
   simp
 | s :: ss, j + 1, h, i, hi => by
   show (enc s ++ flatK enc ss)[(j + 1) * k + i]? = _
   rw [List.getElem?_append_right (by rw [he, Nat.succ_mul]; omega), he, show (j + 1) * k + i - k = j * k + i by rw [Nat.succ_mul]; omega, flatK_get he ss j (by simpa using h) i hi]
   rfl
theorem RdK.below {w w' : World} {v : Value} {xs : List α} (h : RdK k enc w v xs) (hb : Below w.heap.size w w') : RdK k enc w' v xs := by
 obtain ⟨A, c, rfl, hcap, hc⟩ := h
 refine ⟨A, c, rfl, hcap, fun hp => ?_⟩
 obtain ⟨b, off, rfl, hcell⟩ := hc hp
 exact ⟨b, off, rfl, fun j hj i hi => (hb.cell (p := ⟨b, off + j * k + i, none⟩) (Tx.cell_lt (hcell j hj i hi))).trans (hcell j hj i hi)⟩
theorem RdK.form {w : World} {v : Value} {xs : List α} (h : RdK k enc w v xs) : ∃ A c, v = .slice A xs.length c := by
 obtain ⟨A, c, rfl, _⟩ := h; exact ⟨A, c, rfl⟩
theorem RdK.at {w : World} {A : Option Addr} {n c : Nat} {xs : List α} (h : RdK k enc w (.slice A n c) xs) (j : Nat) (hj : j < xs.length) : ∃ b off, A = some ⟨b, off, none⟩ ∧ ∀ i (hi : i < (enc xs[j]).length), w.cell? ⟨b, off + j * k + i, none⟩ = some (enc xs[j])[i] := by
 obtain ⟨A', c', e, _, hc⟩ := h
 injection e with e1 e2 _
 subst e1
 obtain ⟨b, off, e3, hcell⟩ := hc (by omega)
 exact ⟨b, off, e3, fun i hi => hcell j hj i hi⟩
theorem RdK.len {w : World} {A : Option Addr} {n c : Nat} {xs : List α} (h : RdK k enc w (.slice A n c) xs) : n = xs.length := by
 obtain ⟨A', c', e, _⟩ := h
 injection e
theorem RdK.of_own {w : World} {base : Nat} {e : TypeId} {v : Value} {xs : List α} (he : ∀ x, (enc x).length = k) (h : w.ownsRow base e k v xs.length (flatK enc xs)) : RdK k enc w v xs := by
 rcases h.2 with ⟨rfl, h0⟩ | ⟨g, cap, cur, rfl, _, _, hcap, _⟩
 · exact ⟨none, 0, by rw [h0], ⟨by omega, fun _ => rfl⟩, fun hp => by omega⟩
 · refine ⟨some ⟨g, 0, none⟩, cap, rfl, ⟨by omega, fun e => by cases e⟩, fun _ => ⟨g, 0, rfl, fun j hj i hi => ?_⟩⟩
   have hik : i < k := by rw [he] at hi; exact hi
   have hjk : j * k + i < k * xs.length := by
    have := Nat.mul_le_mul_right k (Nat.succ_le_of_lt hj)
    rw [Nat.succ_mul, Nat.mul_comm xs.length] at this
    omega
   rw [Nat.zero_add, h.cellAt (j * k + i) (by rw [Nat.mul_comm k] at hjk; exact hjk), flatK_get he xs j hj i hik, List.getElem?_eq_getElem hi]
theorem ownK_below {w w' : World} {base n : Nat} {e : TypeId} {v : Value} {xs : List Value} (h : w.ownsRow base e k v n xs) (hb : Below w.heap.size w w') : w'.ownsRow base e k v n xs :=
 h.kept (row := none) ⟨hb.os, hb.tape, hb.output, hb.size, fun k hk _ => hb.block k hk⟩ (by cases v.ownBlock <;> simp)
theorem ownK_base {w : World} {base base' n : Nat} {e : TypeId} {v : Value} {xs : List Value} (h : w.ownsRow base e k v n xs) (hb : base' ≤ base) : w.ownsRow base' e k v n xs := by
 refine ⟨h.1, ?_⟩
 rcases h.2 with hn | ⟨g, cap, cur, hv, hbg, rest⟩
 · exact .inl hn
 · exact .inr ⟨g, cap, cur, hv, Nat.le_trans hb hbg, rest⟩
end
abbrev RdC := RdK 4 chC
abbrev RdS := RdK 2 spC
theorem chC_len (c : Ch) : (chC c).length = 4 := rfl
theorem spC_len (s : Sp) : (spC s).length = 2 := rfl
theorem RdC_at {w : World} {A : Option Addr} {n c : Nat} {l : List Ch} (h : RdC w (.slice A n c) l) (k : Nat) (hk : k < l.length) : ∃ b off, A = some ⟨b, off, none⟩ ∧
 w.cell? ⟨b, off + k * 4, none⟩ = some (.int .i64 l[k].old) ∧ w.cell? ⟨b, off + k * 4 + 1, none⟩ = some (.int .i64 l[k].oldLen) ∧ w.cell? ⟨b, off + k * 4 + 2, none⟩ = some (.int .i64 l[k].new) ∧ w.cell? ⟨b, off + k * 4 + 3, none⟩ = some (.int .i64 l[k].newLen) := by
 obtain ⟨b, off, e, hc⟩ := h.at k hk
 exact ⟨b, off, e, hc 0 (show 0 < 4 by decide), hc 1 (show 1 < 4 by decide), hc 2 (show 2 < 4 by decide), hc 3 (show 3 < 4 by decide)⟩
theorem RdS_at {w : World} {A : Option Addr} {n c : Nat} {l : List Sp} (h : RdS w (.slice A n c) l) (k : Nat) (hk : k < l.length) : ∃ b off, A = some ⟨b, off, none⟩ ∧
 w.cell? ⟨b, off + k * 2, none⟩ = some (.int .i64 l[k].frm) ∧ w.cell? ⟨b, off + k * 2 + 1, none⟩ = some (.int .i64 l[k].to) := by
 obtain ⟨b, off, e, hc⟩ := h.at k hk
 exact ⟨b, off, e, hc 0 (show 0 < 2 by decide), hc 1 (show 1 < 2 by decide)⟩
def OwnC (base : Nat) (w : World) (v : Value) (l : List Ch) : Prop := w.ownsRow base tCh 4 v l.length (flatK chC l)
def OwnS (base : Nat) (w : World) (v : Value) (l : List Sp) : Prop := w.ownsRow base tSp 2 v l.length (flatK spC l)
theorem OwnC.rd {base : Nat} {w : World} {v : Value} {l : List Ch} (h : OwnC base w v l) : RdC w v l := RdK.of_own chC_len h
theorem OwnS.rd {base : Nat} {w : World} {v : Value} {l : List Sp} (h : OwnS base w v l) : RdS w v l := RdK.of_own spC_len h
theorem OwnC.below {base : Nat} {w w' : World} {v : Value} {l : List Ch} (h : OwnC base w v l) (hb : Below w.heap.size w w') : OwnC base w' v l := ownK_below h hb
theorem OwnS.below {base : Nat} {w w' : World} {v : Value} {l : List Sp} (h : OwnS base w v l) (hb : Below w.heap.size w w') : OwnS base w' v l := ownK_below h hb
theorem OwnC.nil (base : Nat) (w : World) : OwnC base w (.slice none 0 0) [] := World.ownsRow_nil _ _ _ _
theorem OwnS.nil (base : Nat) (w : World) : OwnS base w (.slice none 0 0) [] := World.ownsRow_nil _ _ _ _
theorem OwnC.base {base base' : Nat} {w : World} {v : Value} {l : List Ch} (h : OwnC base w v l) (hb : base' ≤ base) : OwnC base' w v l := ownK_base h hb
theorem OwnS.base {base base' : Nat} {w : World} {v : Value} {l : List Sp} (h : OwnS base w v l) (hb : base' ≤ base) : OwnS base' w v l := ownK_base h hb
section
variable {ops : Array Oper} {rest : List Oper} {o : Oper} {a : Act} {Q : Exit → Act → World → Prop} {w : World}
theorem app_k {t e : TypeId} {z : Value} {k bytes : Nat} (hk : 0 < k) (hg : Region.wanted o (yielded ops a.tmps) = true) (ht : Tryz.prog.underlying t = some (.slice e)) (hinfo : (Tryz.prog.info? e).map (fun i => (i.zero, i.size, i.bytes)) = some (some z, k, bytes)) (hz : z.cells.size = k) (hby : bytes ≤ 64)
 (s x : Operand) (ho : o.op = .call { callee := .builtin .append, args := #[s, x], argTypes := #[t, t] })
 (base n : Nat) (xs us : List Value) (hus : us.length = k) (hone : ∀ u ∈ us, u.oneCell' = true) (v : Value) (C : Array Value) (hs : a.eval s = v) (hown : w.ownsRow base e k v n xs)
 (hx : a.eval x = .slice (some ⟨w.heap.size, 0, none⟩) 1 1) (hC : C.toList = us)
 (hsz : n + 1 ≤ 1000000) (hbase : base ≤ w.heap.size)
 (h : ∀ v' w', w'.ownsRow base e k v' (n + 1) (xs ++ us) → Below base w w' → (w.alloc (.cells C e)).grownBy w' v.ownBlock → wpList Tryz.prog ops Q rest (a.put o.dst v') w') :
 wpList Tryz.prog ops Q (o :: rest) a (w.alloc (.cells C e)) := by
 obtain ⟨i0, hi0, hz0, hz1, hz2⟩ := info_parts hinfo
 have hsize : (w.alloc (.cells C e)).heap.size = w.heap.size + 1 := by simp
 refine wpList_wanted hg fun K hK => ?_
 refine wp_append_own _ s x _ ho base e i0 _ k bytes ht hi0 hz0 hz1 hz2 hz hk v n xs hs (hown.alloc _) ⟨w.heap.size, 0, none⟩ 1 1 us hx
  (by rw [hus, Nat.one_mul]) (fun j y hy => ?_) hone (by unfold maxLen; omega) ?_ (by omega) ?_
 · have he : (Addr.mk w.heap.size 0 none).add j = ⟨w.heap.size, j, none⟩ := by
    unfold Addr.add; split
    · rename_i h0; rw [h0]
    · simp
   rw [he, World.cell?_alloc_mark, ← hy, ← hC]; simp
 · have := Nat.mul_le_mul_left (n + 1) hby
   omega
 · intro v' w' h1 h2 _
   exact hK _ _ (h v' w' h1 (((Below.refl base w).alloc hbase _).trans ((Below.refl base _).grown h2 (by omega) (fun k hk => (hown.lt k hk).1))) h2)
theorem one_ch (c : Ch) : ∀ u ∈ chC c, u.oneCell' = true := by
 intro u hu
 unfold chC at hu
 simp only [List.mem_cons, List.not_mem_nil, or_false] at hu
 rcases hu with rfl | rfl | rfl | rfl
 all_goals rfl
theorem one_sp (c : Sp) : ∀ u ∈ spC c, u.oneCell' = true := by
 intro u hu
 unfold spC at hu
 simp only [List.mem_cons, List.not_mem_nil, or_false] at hu
 rcases hu with rfl | rfl
 all_goals rfl
theorem app_ch (hg : Region.wanted o (yielded ops a.tmps) = true)
 (s x : Operand) (ho : o.op = .call { callee := .builtin .append, args := #[s, x], argTypes := #[tChs, tChs] })
 (base : Nat) (l : List Ch) (c : Ch) (v : Value) (C : Array Value) (hs : a.eval s = v) (hown : OwnC base w v l)
 {g : Nat} (hz : w.heap.size = g) (hx : a.eval x = .slice (some ⟨g, 0, none⟩) 1 1) (hC : C.toList = chC c)
 (hsz : l.length + 1 ≤ 1000000) (hbase : base ≤ w.heap.size)
 (h : ∀ v' w', OwnC base w' v' (l ++ [c]) → Below base w w' → (w.alloc (.cells C tCh)).grownBy w' v.ownBlock → wpList Tryz.prog ops Q rest (a.put o.dst v') w') :
 wpList Tryz.prog ops Q (o :: rest) a (w.alloc (.cells C tCh)) :=
 app_k (by decide) hg Tryz.underlying77 info_ch rfl (by decide) s x ho base l.length (flatK chC l) (chC c) rfl (one_ch c) v C hs hown (by rw [hz]; exact hx) hC hsz hbase
  (fun v' w' h1 h2 h3 => h v' w' (by unfold OwnC; rw [List.length_append, List.length_singleton, flatK_snoc]; exact h1) h2 h3)
theorem app_sp (hg : Region.wanted o (yielded ops a.tmps) = true)
 (s x : Operand) (ho : o.op = .call { callee := .builtin .append, args := #[s, x], argTypes := #[tSps, tSps] })
 (base : Nat) (l : List Sp) (c : Sp) (v : Value) (C : Array Value) (hs : a.eval s = v) (hown : OwnS base w v l)
 {g : Nat} (hz : w.heap.size = g) (hx : a.eval x = .slice (some ⟨g, 0, none⟩) 1 1) (hC : C.toList = spC c)
 (hsz : l.length + 1 ≤ 1000000) (hbase : base ≤ w.heap.size)
 (h : ∀ v' w', OwnS base w' v' (l ++ [c]) → Below base w w' → (w.alloc (.cells C tSp)).grownBy w' v.ownBlock → wpList Tryz.prog ops Q rest (a.put o.dst v') w') :
 wpList Tryz.prog ops Q (o :: rest) a (w.alloc (.cells C tSp)) :=
 app_k (by decide) hg Tryz.underlying178 info_sp rfl (by decide) s x ho base l.length (flatK spC l) (spC c) rfl (one_sp c) v C hs hown (by rw [hz]; exact hx) hC hsz hbase
  (fun v' w' h1 h2 h3 => h v' w' (by unfold OwnS; rw [List.length_append, List.length_singleton, flatK_snoc]; exact h1) h2 h3)
end
end Sc
end
section
open Go.RowKit
namespace Sc
open Cm
def inB (n : Int) : Bool := decide (0 ≤ n ∧ n ≤ 4096)
def wiB (f l n : Int) : Bool := decide (0 ≤ f ∧ 0 ≤ l ∧ l ≤ n - f)
theorem inB_T {n : Int} (h : inI n) : inB n = true := decide_eq_true h
theorem inB_F {n : Int} (h : ¬ inI n) : inB n = false := decide_eq_false h
theorem wiB_T {f l n : Int} (h : wiI f l n) : wiB f l n = true := decide_eq_true h
theorem wiB_F {f l n : Int} (h : ¬ wiI f l n) : wiB f l n = false := decide_eq_false h
theorem isLength_any (n : Int) (w : World) : Calls Tryz.prog 116 #[.int .i64 n] w fun e w' => e = .returned (.bool (inB n)) ∧ w = w' := by
 by_cases h0 : 0 ≤ n
 · by_cases h1 : n ≤ 4096
   · have h : inB n = true := inB_T ⟨h0, h1⟩
     go_enter Tryz.func116, Tryz.ntmps116
     go_wp2_with fail
     go_ret
     first | exact ⟨rfl, rfl⟩ | exact ⟨by rw [h]; rfl, rfl⟩
   · have h : inB n = false := inB_F (fun h => h1 h.2)
     have d1 : decide (n ≤ 4096) = false := decide_eq_false h1
     go_enter Tryz.func116, Tryz.ntmps116
     go_wp2_with fail
     go_ret
     first | exact ⟨rfl, rfl⟩ | exact ⟨by rw [h]; rfl, rfl⟩
 · have h : inB n = false := inB_F (fun h => h0 h.1)
   have d1 : decide (0 ≤ n) = false := decide_eq_false h0
   go_enter Tryz.func116, Tryz.ntmps116
   go_wp2_with fail
   go_ret
   first | exact ⟨rfl, rfl⟩ | exact ⟨by rw [h]; rfl, rfl⟩
theorem in_any (n : Int) (w : World) : Calls Tryz.prog 135 #[.int .i64 n] w fun e w' => e = .returned (.bool (inB n)) ∧ w = w' := by
 by_cases h0 : 0 ≤ n
 · by_cases h1 : n ≤ 4096
   · have h : inB n = true := inB_T ⟨h0, h1⟩
     go_enter Tryz.func135, Tryz.ntmps135
     go_wp2_with fail
     go_ret
     first | exact ⟨rfl, rfl⟩ | exact ⟨by rw [h]; rfl, rfl⟩
   · have h : inB n = false := inB_F (fun h => h1 h.2)
     have d1 : decide (n ≤ 4096) = false := decide_eq_false h1
     go_enter Tryz.func135, Tryz.ntmps135
     go_wp2_with fail
     go_ret
     first | exact ⟨rfl, rfl⟩ | exact ⟨by rw [h]; rfl, rfl⟩
 · have h : inB n = false := inB_F (fun h => h0 h.1)
   have d1 : decide (0 ≤ n) = false := decide_eq_false h0
   go_enter Tryz.func135, Tryz.ntmps135
   go_wp2_with fail
   go_ret
   first | exact ⟨rfl, rfl⟩ | exact ⟨by rw [h]; rfl, rfl⟩
theorem within_any (f l n : Int) (w : World) (hf : f ≤ 9223372036854775807) (hn : inI n) : Calls Tryz.prog 117 #[.int .i64 f, .int .i64 l, .int .i64 n] w fun e w' => e = .returned (.bool (wiB f l n)) ∧ w = w' := by
 obtain ⟨n0, n1⟩ := hn
 by_cases h0 : 0 ≤ f
 · by_cases h1 : 0 ≤ l
   · by_cases h2 : l ≤ n - f
     · have h : wiB f l n = true := wiB_T ⟨h0, h1, h2⟩
       have d2 : decide (l ≤ n - f) = true := decide_eq_true h2
       go_enter Tryz.func117, Tryz.ntmps117
       go_wp2_with fail
       go_ret
       first | exact ⟨rfl, rfl⟩ | exact ⟨by rw [h]; rfl, rfl⟩
     · have h : wiB f l n = false := wiB_F (fun h => h2 h.2.2)
       have d2 : decide (l ≤ n - f) = false := decide_eq_false h2
       go_enter Tryz.func117, Tryz.ntmps117
       go_wp2_with fail
       go_ret
       first | exact ⟨rfl, rfl⟩ | exact ⟨by rw [h]; rfl, rfl⟩
   · have h : wiB f l n = false := wiB_F (fun h => h1 h.2.1)
     have d1 : decide (0 ≤ l) = false := decide_eq_false h1
     go_enter Tryz.func117, Tryz.ntmps117
     go_wp2_with fail
     go_ret
     first | exact ⟨rfl, rfl⟩ | exact ⟨by rw [h]; rfl, rfl⟩
 · have h : wiB f l n = false := wiB_F (fun h => h0 h.1)
   have d1 : decide (0 ≤ f) = false := decide_eq_false h0
   go_enter Tryz.func117, Tryz.ntmps117
   go_wp2_with fail
   go_ret
   first | exact ⟨rfl, rfl⟩ | exact ⟨by rw [h]; rfl, rfl⟩
theorem drop_at {α : Type} {l : List α} {k : Nat} (h : k < l.length) : l.drop k = l[k] :: l.drop (k + 1) := List.drop_eq_getElem_cons h
def CkPost (l : List Ch) (m n : Int) (w : World) (e : Ending) (w' : World) : Prop := e = .returned (.int .i64 (chkF l m n)) ∧ Below w.heap.size w w'
theorem ck_ret {l : List Ch} {m n z : Int} {w w' : World} (h : chkF l m n = z) (hb : Below w.heap.size w w') : CkPost l m n w (.returned (.int .i64 z)) w' := ⟨by rw [h], hb⟩
set_option maxRecDepth 100000 in
set_option maxHeartbeats 4000000 in
theorem Check_any (v : Value) (l : List Ch) (m n : Int) (w : World) (h : RdC w v l) (hl : l.length ≤ 4611686018427387904) (hb : ∀ c ∈ l, ChB c) :
 Calls Tryz.prog 75 #[v, .int .i64 m, .int .i64 n] w (CkPost l m n w) := by
 obtain ⟨A, cp, rfl⟩ := h.form
 have HR := Lib.hid h
 have HB := Lib.hid hb
 clear h hb
 generalize hN : l.length = N at hl ⊢
 have HN := Lib.hid hN
 clear hN
 by_cases hm : inI m
 · by_cases hn : inI n
   · have bm := inB_T hm
     have bn := inB_T hn
     have HT : Hid (OkL true 0 0 l m n → chkF l m n = 0) := Lib.hid (chkF_ok hm hn)
     have HF : Hid (¬ OkL true 0 0 l m n → chkF l m n = 80) := Lib.hid (fun h => chkF_no (fun hh => h hh.2.2))
     have hm2 := hm.2
     have hn2 := hn.2
     have hm1 := hm.1
     have hn1 := hn.1
     go_enter Tryz.func75, Tryz.ntmps75
     go_wp2_with (go_at_call 116; refine (isLength_any _ _).mono ?_; rintro e w' ⟨rfl, rfl⟩)
     go_loopw [7, 8, 22] (fun i' j' k' wr => ∃ (k : Nat) (i j : Int), k ≤ N ∧ k' = .int .i64 (k : Int) ∧ i' = .int .i64 i ∧ j' = .int .i64 j ∧ 0 ≤ i ∧ i ≤ m ∧ 0 ≤ j ∧ j ≤ n ∧ Hid (OkL true 0 0 l m n ↔ OkL (k == 0) i j (l.drop k) m n) ∧ Hid (Below w.heap.size w wr)) (fun _ _ k' _ => N - (intOf k').toNat)
     case atStart => exact ⟨0, 0, 0, Nat.zero_le _, rfl, rfl, rfl, Int.le_refl _, hm1, Int.le_refl _, hn1, Lib.hid Iff.rfl, Lib.hid (Below.refl _ _)⟩
     case round =>
      obtain ⟨k, i, j, hk, rfl, rfl, rfl, hi0, hi1, hj0, hj1, HO, HBl⟩ := hrel
      by_cases hlt : k < N
      · have hx : k < l.length := by rw [HN.out]; exact hlt
        obtain ⟨b, off, rfl, c0, c1, c2, c3⟩ := RdC_at (HR.out.below HBl.out) k hx
        obtain ⟨⟨bo0, bo1⟩, ⟨bl0, bl1⟩, ⟨bn0, bn1⟩, ⟨bm0, bm1⟩⟩ := HB.out _ (List.getElem_mem hx)
        have HO2 : Hid (OkL true 0 0 l m n ↔ OkC (k == 0) i j l[k] m n ∧ OkL false (l[k].old + l[k].oldLen) (l[k].new + l[k].newLen) (l.drop (k + 1)) m n) := Lib.hid (by rw [HO.out, drop_at hx]; exact Iff.rfl)
        clear HO
        generalize l[k] = c at c0 c1 c2 c3 bo0 bo1 bl0 bl1 bn0 bn1 bm0 bm1 HO2
        obtain ⟨o, ol, nw, nl⟩ := c
        simp only at c0 c1 c2 c3 bo0 bo1 bl0 bl1 bn0 bn1 bm0 bm1
        have HNo : Hid (¬ OkC (k == 0) i j ⟨o, ol, nw, nl⟩ m n → chkF l m n = 80) := Lib.hid (fun h => HF.out (fun hh => h (HO2.out.1 hh).1))
        have i1 : (0 : Int) ≤ (k : Int) := by omega
        have i2 : (k : Int) < (N : Int) := by omega
        by_cases h1 : wiI o ol m
        · have w1 := wiB_T h1
          by_cases h2 : wiI nw nl n
          · have w2 := wiB_T h2
            by_cases h3 : ol = 0 ∧ nl = 0
            · have HE := Lib.hid (HNo.out (fun hh => hh.1.2.2 h3))
              obtain ⟨rfl, rfl⟩ := h3
              clear h1 h2
              go_wp2_with (go_at_call 117; refine (within_any _ _ _ _ (by omega) ⟨by omega, by omega⟩).mono ?_; rintro e w' ⟨rfl, rfl⟩)
              go_ret
              exact ck_ret HE.out (HBl.out.alloc HBl.out.size _)
            · obtain ⟨a0, a1, a2⟩ := h1
              obtain ⟨b0, b1, b2⟩ := h2
              have hz : (ol == 0) = false ∨ ((ol == 0) = true ∧ (nl == 0) = false) := by
               by_cases e : ol = 0
               · exact .inr ⟨by simpa using e, by simpa using fun h => h3 ⟨e, h⟩⟩
               · exact .inl (by simpa using e)
              have HOk : Hid (o - i = nw - j → ((k == 0) = false → 1 ≤ o - i) → (OkL true 0 0 l m n ↔ OkL false (o + ol) (nw + nl) (l.drop (k + 1)) m n)) := Lib.hid (fun h4 h5 => by
               rw [HO2.out]
               exact ⟨fun h => h.2, fun h => ⟨⟨⟨⟨a0, a1, a2⟩, ⟨b0, b1, b2⟩, h3⟩, h4, h5⟩, h⟩⟩)
              have HN4 : Hid (¬ o - i = nw - j → chkF l m n = 80) := Lib.hid (fun h => HNo.out (fun hh => h hh.2.1))
              have HN5 : Hid (¬ ((k == 0) = false → 1 ≤ o - i) → chkF l m n = 80) := Lib.hid (fun h => HNo.out (fun hh => h hh.2.2))
              have HBl2 := Lib.hid (HBl.out.alloc HBl.out.size (.cells #[.int .i64 o, .int .i64 ol, .int .i64 nw, .int .i64 nl] tCh))
              clear h3 HNo HO2 HBl
              by_cases h4 : o - i = nw - j
              · have HOk2 := Lib.hid (HOk.out h4)
                have q4 : ((o - i) != (nw - j)) = false := by rw [bne_eq_false_iff_eq]; exact h4
                clear h4 HOk HN4
                by_cases h5 : 0 < k
                · have q5 : decide (0 < k) = true := decide_eq_true h5
                  by_cases h6 : 1 ≤ o - i
                  · have q6 : decide (o - i < 1) = false := decide_eq_false (by omega)
                    have HOk3 := Lib.hid (HOk2.out (fun _ => h6))
                    clear HOk2 HN5
                    rcases hz with z1 | ⟨z1, z2⟩
                    all_goals
                     go_wp2_with (go_at_call 117; refine (within_any _ _ _ _ (by omega) ⟨by omega, by omega⟩).mono ?_; rintro e w' ⟨rfl, rfl⟩)
                     go_quiet (fail)
                     go_wp2_with fail
                     go_roundw
                     case rel => exact ⟨k + 1, o + ol, nw + nl, by omega, by go_num, rfl, rfl, by omega, by omega, by omega, by omega, HOk3, Lib.hid (below_drewN HBl2.out _)⟩
                     case measure => simp [intOf]; omega
                  · have q6 : decide (o - i < 1) = true := decide_eq_true (by omega)
                    have HE := Lib.hid (HN5.out (fun h => h6 (h (by simp; omega))))
                    clear HOk2 HN5
                    rcases hz with z1 | ⟨z1, z2⟩
                    all_goals
                     go_wp2_with (go_at_call 117; refine (within_any _ _ _ _ (by omega) ⟨by omega, by omega⟩).mono ?_; rintro e w' ⟨rfl, rfl⟩)
                     go_ret
                     exact ck_ret HE.out HBl2.out
                · have q5 : decide (0 < k) = false := decide_eq_false h5
                  have HOk3 := Lib.hid (HOk2.out (fun h => absurd h (by
                   have e : k = 0 := by omega
                   rw [e]; decide)))
                  clear HOk2 HN5
                  rcases hz with z1 | ⟨z1, z2⟩
                  all_goals
                   go_wp2_with (go_at_call 117; refine (within_any _ _ _ _ (by omega) ⟨by omega, by omega⟩).mono ?_; rintro e w' ⟨rfl, rfl⟩)
                   go_quiet (fail)
                   go_wp2_with fail
                   go_roundw
                   case rel => exact ⟨k + 1, o + ol, nw + nl, by omega, by go_num, rfl, rfl, by omega, by omega, by omega, by omega, HOk3, Lib.hid (below_drewN HBl2.out _)⟩
                   case measure => simp [intOf]; omega
              · have HE := Lib.hid (HN4.out h4)
                have q4 : ((o - i) != (nw - j)) = true := by rw [bne_iff_ne]; exact h4
                clear h4 HOk HN4 HN5
                rcases hz with z1 | ⟨z1, z2⟩
                all_goals
                 go_wp2_with (go_at_call 117; refine (within_any _ _ _ _ (by omega) ⟨by omega, by omega⟩).mono ?_; rintro e w' ⟨rfl, rfl⟩)
                 go_ret
                 exact ck_ret HE.out HBl2.out
          · have w2 := wiB_F h2
            have HE := Lib.hid (HNo.out (fun hh => h2 hh.1.2.1))
            clear h1 h2
            go_wp2_with (go_at_call 117; refine (within_any _ _ _ _ (by omega) ⟨by omega, by omega⟩).mono ?_; rintro e w' ⟨rfl, rfl⟩)
            go_ret
            exact ck_ret HE.out (HBl.out.alloc HBl.out.size _)
        · have w1 := wiB_F h1
          have HE := Lib.hid (HNo.out (fun hh => h1 hh.1.1))
          clear h1
          go_wp2_with (go_at_call 117; refine (within_any _ _ _ _ (by omega) ⟨by omega, by omega⟩).mono ?_; rintro e w' ⟨rfl, rfl⟩)
          go_ret
          exact ck_ret HE.out (HBl.out.alloc HBl.out.size _)
      · have HD : Hid (OkL true 0 0 l m n ↔ m - i = n - j) := Lib.hid (by
         have e : l.drop k = [] := List.drop_eq_nil_of_le (by rw [HN.out]; omega)
         rw [HO.out, e]; exact Iff.rfl)
        have hd : decide (k < N) = false := decide_eq_false hlt
        clear HO
        by_cases h7 : m - i = n - j
        · have HE := Lib.hid (HT.out (HD.out.2 h7))
          have q7 : ((m - i) != (n - j)) = false := by rw [bne_eq_false_iff_eq]; exact h7
          clear h7
          go_wp2_with fail
          go_ret
          exact ck_ret HE.out HBl.out
        · have HE := Lib.hid (HF.out (fun h => h7 (HD.out.1 h)))
          have q7 : ((m - i) != (n - j)) = true := by rw [bne_iff_ne]; exact h7
          clear h7
          go_wp2_with fail
          go_ret
          exact ck_ret HE.out HBl.out
   · have bm := inB_T hm
     have bn := inB_F hn
     have HE := Lib.hid (chkF_no (l := l) (m := m) (n := n) (fun h => hn h.2.1))
     clear hm hn
     go_enter Tryz.func75, Tryz.ntmps75
     go_wp2_with (go_at_call 116; refine (isLength_any _ _).mono ?_; rintro e w' ⟨rfl, rfl⟩)
     go_ret
     exact ck_ret HE.out (Below.refl _ _)
 · have bm := inB_F hm
   have HE := Lib.hid (chkF_no (l := l) (m := m) (n := n) (fun h => hm h.1))
   clear hm
   go_enter Tryz.func75, Tryz.ntmps75
   go_wp2_with (go_at_call 116; refine (isLength_any _ _).mono ?_; rintro e w' ⟨rfl, rfl⟩)
   go_ret
   exact ck_ret HE.out (Below.refl _ _)
end Sc
end
section
open Go.RowKit
namespace Sc
open Cm
def NewC (l : List Ch) (w : World) (e : Ending) (w' : World) : Prop := ∃ v, e = .returned v ∧ OwnC w.heap.size w' v l ∧ Below w.heap.size w w'
def NewS (l : List Sp) (w : World) (e : Ending) (w' : World) : Prop := ∃ v, e = .returned v ∧ OwnS w.heap.size w' v l ∧ Below w.heap.size w w'
theorem box_kept {wr w1 : World} {base : Nat} {v : Value} {dn : List Ch} {a b : Value} {C : Array Value} (ho : OwnC base (wr.alloc (.cells #[a, b] tSp)) v dn) (hg : ((wr.alloc (.cells #[a, b] tSp)).alloc (.cells C tCh)).grownBy w1 v.ownBlock) :
 w1.cell? ⟨wr.heap.size, 0, none⟩ = some a ∧ w1.cell? ⟨wr.heap.size, 1, none⟩ = some b := by
 have hH : (wr.alloc (.cells #[a, b] tSp)).heap[wr.heap.size]? = some (.cells #[a, b] tSp (0, 0)) := heap_new wr _
 have hH2 : ((wr.alloc (.cells #[a, b] tSp)).alloc (.cells C tCh)).heap[wr.heap.size]? = some (.cells #[a, b] tSp (0, 0)) := (Below.heap_alloc _ _ _ (by simp)).trans hH
 have hne : some wr.heap.size ≠ v.ownBlock := by
  intro e
  rcases ho.2 with ⟨rfl, _⟩ | ⟨g, cap, cur, rfl, _, hh, _⟩
  · simp [Value.ownBlock] at e
  · have : wr.heap.size = g := by simpa [Value.ownBlock] using e
    subst this
    rw [hH] at hh
    injection hh with hh
    injection hh with _ ht
    exact absurd ht (by decide)
 have h1 := (hg.block wr.heap.size (by simp; omega) hne).trans hH2
 exact ⟨by simp [World.cell?, h1], by simp [World.cell?, h1]⟩
theorem OwnC.drewN {base : Nat} {w : World} {v : Value} {l : List Ch} (h : OwnC base w v l) (m : Nat) : OwnC base (w.drewN m) v l := h.below (below_drewN (Below.refl _ _) m)
theorem OwnS.drewN {base : Nat} {w : World} {v : Value} {l : List Sp} (h : OwnS base w v l) (m : Nat) : OwnS base (w.drewN m) v l := h.below (below_drewN (Below.refl _ _) m)
theorem btw_gt1 {i a j b : Int} (h : i < a) : btw i a j b = [⟨i, a - i, j, b - j⟩] := btw_new (by omega)
theorem btw_gt2 {i a j b : Int} (h : j < b) : btw i a j b = [⟨i, a - i, j, b - j⟩] := btw_new (by omega)
set_option maxRecDepth 100000 in
set_option maxHeartbeats 8000000 in
theorem Made_any (v : Value) (p : List Sp) (m n : Int) (w : World) (h : RdS w v p) (hl : p.length ≤ 100000) (hm : 0 ≤ m ∧ m ≤ 4096) (hn : 0 ≤ n ∧ n ≤ 4096) (hp : OkP m n 0 0 p) :
 Calls Tryz.prog 132 #[v, .int .i64 m, .int .i64 n] w (NewC (frF m n 0 0 p) w) := by
 obtain ⟨A, cp, rfl⟩ := h.form
 have HR := Lib.hid h
 have HFl := Lib.hid (frF_len m n p 0 0)
 obtain ⟨m0, m1⟩ := hm
 obtain ⟨n0, n1⟩ := hn
 have HP := Lib.hid hp
 clear h hp
 generalize hN : p.length = N at hl HFl ⊢
 have HN := Lib.hid hN
 clear hN
 go_enter Tryz.func132, Tryz.ntmps132
 go_wp2_with fail
 go_loopw [7, 8, 9, 10] (fun s' i' j' k' wr => ∃ (k : Nat) (i j : Int) (dn : List Ch), k ≤ N + 1 ∧ k' = .int .i64 (k : Int) ∧ i' = .int .i64 i ∧ j' = .int .i64 j ∧ (0 ≤ i ∧ i ≤ 4097) ∧ (0 ≤ j ∧ j ≤ 4097) ∧ dn.length ≤ N + 1 ∧ Hid (OwnC w.heap.size wr s' dn) ∧ Hid (Below w.heap.size w wr) ∧ Hid ((k ≤ N ∧ i ≤ m ∧ j ≤ n ∧ OkP m n i j (p.drop k) ∧ dn ++ frF m n i j (p.drop k) = frF m n 0 0 p) ∨ (k = N + 1 ∧ dn = frF m n 0 0 p))) (fun _ _ _ k' _ => N + 1 - (intOf k').toNat)
 case atStart => exact ⟨0, 0, 0, [], by omega, rfl, rfl, rfl, ⟨by omega, by omega⟩, ⟨by omega, by omega⟩, Nat.zero_le _, Lib.hid (OwnC.nil _ _), Lib.hid (Below.refl _ _), Lib.hid (.inl ⟨Nat.zero_le _, m0, n0, HP.out, rfl⟩)⟩
 case round =>
  obtain ⟨k, i, j, dn, hk, rfl, rfl, rfl, ⟨hi0, hi1⟩, ⟨hj0, hj1⟩, hdn, HO, HB, HC⟩ := hrel
  by_cases hlt : k ≤ N
  · obtain ⟨him, hjn, hok, hT⟩ : i ≤ m ∧ j ≤ n ∧ OkP m n i j (p.drop k) ∧ dn ++ frF m n i j (p.drop k) = frF m n 0 0 p := by
     rcases HC.out with h | h
     · exact h.2
     · omega
    have HOk := Lib.hid hok
    have HT := Lib.hid hT
    clear HC hok hT
    by_cases hlt2 : k < N
    · have hx : k < p.length := by rw [HN.out]; exact hlt2
      obtain ⟨b0, off, rfl, c0, c1⟩ := RdS_at ((HR.out.below HB.out).below ((Below.refl _ _).alloc (Nat.le_refl _) (.cells #[.int .i64 m, .int .i64 n] tSp))) k hx
      have hq : OkP m n i j (p[k] :: p.drop (k + 1)) := by rw [← drop_at hx]; exact HOk.out
      obtain ⟨⟨g1, g2, g3, g4⟩, hq2⟩ := hq
      have HT2 : Hid (dn ++ (btw i p[k].frm j p[k].to ++ frF m n (p[k].frm + 1) (p[k].to + 1) (p.drop (k + 1))) = frF m n 0 0 p) := Lib.hid (by have := HT.out; rw [drop_at hx] at this; exact this)
      have HQ2 := Lib.hid hq2
      have HLen : Hid (∀ x : Ch, btw i p[k].frm j p[k].to = [x] → (dn ++ [x]).length ≤ N + 1) := Lib.hid (fun x hx => by
       have := HFl.out
       rw [← HT2.out, hx] at this
       simp only [List.length_append, List.length_singleton] at this ⊢
       omega)
      clear hq2 HOk HT
      generalize p[k] = s at c0 c1 g1 g2 g3 g4 HT2 HQ2 HLen
      obtain ⟨a, b⟩ := s
      simp only at c0 c1 g1 g2 g3 g4
      have HNx : Hid (∀ d : List Ch, d = dn ++ btw i a j b → (k + 1 ≤ N ∧ a + 1 ≤ m ∧ b + 1 ≤ n ∧ OkP m n (a + 1) (b + 1) (p.drop (k + 1)) ∧ d ++ frF m n (a + 1) (b + 1) (p.drop (k + 1)) = frF m n 0 0 p) ∨ (k + 1 = N + 1 ∧ d = frF m n 0 0 p)) := Lib.hid (fun d hd => .inl ⟨hlt2, by omega, by omega, HQ2.out, by rw [hd, List.append_assoc]; exact HT2.out⟩)
      have a0 : 0 ≤ a := by omega
      have b0' : 0 ≤ b := by omega
      have dk : decide (k < N) = true := decide_eq_true hlt2
      clear HT2 HQ2
      have HOx := Lib.hid (HO.out.below ((Below.refl _ _).alloc (Nat.le_refl _) (.cells #[.int .i64 a, .int .i64 b] tSp)))
      have HBx := Lib.hid (HB.out.alloc HB.out.size (.cells #[.int .i64 a, .int .i64 b] tSp))
      have HZx : Hid ((wr.alloc (.cells #[.int .i64 a, .int .i64 b] tSp)).heap.size = wr.heap.size + 1) := Lib.hid (by simp)
      have hdx : dn.length + 1 ≤ 1000000 := by omega
      have hbx : w.heap.size ≤ (wr.alloc (.cells #[.int .i64 a, .int .i64 b] tSp)).heap.size := HBx.out.size
      have HHx := Lib.hid hbx
      clear hbx
      by_cases h1 : i < a
      · have q1 : decide (i < a) = true := decide_eq_true h1
        have HN2 := Lib.hid (HNx.out (dn ++ [⟨i, a - i, j, b - j⟩]) (by rw [btw_gt1 h1]))
        have HL2 := Lib.hid (HLen.out ⟨i, a - i, j, b - j⟩ (btw_gt1 h1))
        clear HNx HLen HO HB
        go_wp2_with (at_builtin; refine app_ch rfl (.tmp 39) (.tmp 51) rfl w.heap.size dn ⟨i, a - i, j, b - j⟩ _ _ rfl HOx.out HZx.out rfl rfl hdx HHx.out ?_; intro v1 w1 ho1 hb1 hg1; obtain ⟨d0, d1⟩ := box_kept HOx.out hg1; have HO1 := Lib.hid ho1; have HB1 := Lib.hid (HBx.out.trans hb1); clear ho1 hb1 hg1)
        go_quiet (fail)
        go_wp2_with fail
        go_roundw
        case rel => exact ⟨k + 1, a + 1, b + 1, _, by omega, by go_num, rfl, rfl, ⟨by omega, by omega⟩, ⟨by omega, by omega⟩, HL2.out, Lib.hid (HO1.out.drewN _), Lib.hid (below_drewN HB1.out _), HN2⟩
        case measure => simp [intOf]; omega
      · have q1 : decide (i < a) = false := decide_eq_false h1
        by_cases h2 : j < b
        · have q2 : decide (j < b) = true := decide_eq_true h2
          have HN2 := Lib.hid (HNx.out (dn ++ [⟨i, a - i, j, b - j⟩]) (by rw [btw_gt2 h2]))
          have HL2 := Lib.hid (HLen.out ⟨i, a - i, j, b - j⟩ (btw_gt2 h2))
          clear HNx HLen HO HB
          go_wp2_with (at_builtin; refine app_ch rfl (.tmp 39) (.tmp 51) rfl w.heap.size dn ⟨i, a - i, j, b - j⟩ _ _ rfl HOx.out HZx.out rfl rfl hdx HHx.out ?_; intro v1 w1 ho1 hb1 hg1; obtain ⟨d0, d1⟩ := box_kept HOx.out hg1; have HO1 := Lib.hid ho1; have HB1 := Lib.hid (HBx.out.trans hb1); clear ho1 hb1 hg1)
          go_quiet (fail)
          go_wp2_with fail
          go_roundw
          case rel => exact ⟨k + 1, a + 1, b + 1, _, by omega, by go_num, rfl, rfl, ⟨by omega, by omega⟩, ⟨by omega, by omega⟩, HL2.out, Lib.hid (HO1.out.drewN _), Lib.hid (below_drewN HB1.out _), HN2⟩
          case measure => simp [intOf]; omega
        · have q2 : decide (j < b) = false := decide_eq_false h2
          have HN2 := Lib.hid (HNx.out dn (by rw [show a = i from by omega, show b = j from by omega, btw_same, List.append_nil]))
          clear HNx HLen HO HB
          go_wp2_with fail
          go_quiet (fail)
          go_wp2_with fail
          go_roundw
          case rel => exact ⟨k + 1, a + 1, b + 1, _, by omega, by go_num, rfl, rfl, ⟨by omega, by omega⟩, ⟨by omega, by omega⟩, hdn, Lib.hid (HOx.out.drewN _), Lib.hid (below_drewN HBx.out _), HN2⟩
          case measure => simp [intOf]; omega
    · have hkN : k = N := by omega
      have HNx : Hid (∀ d : List Ch, d = dn ++ btw i m j n → (k + 1 ≤ N ∧ m + 1 ≤ m ∧ n + 1 ≤ n ∧ OkP m n (m + 1) (n + 1) (p.drop (k + 1)) ∧ d ++ frF m n (m + 1) (n + 1) (p.drop (k + 1)) = frF m n 0 0 p) ∨ (k + 1 = N + 1 ∧ d = frF m n 0 0 p)) := Lib.hid (fun d hd => .inr ⟨by omega, by
       have e : p.drop k = [] := List.drop_eq_nil_of_le (by rw [HN.out]; omega)
       have := HT.out
       rw [e] at this
       rw [hd, ← this]; rfl⟩)
      have HLen : Hid (∀ x : Ch, btw i m j n = [x] → (dn ++ [x]).length ≤ N + 1) := Lib.hid (fun x hx => by
       have e : p.drop k = [] := List.drop_eq_nil_of_le (by rw [HN.out]; omega)
       have h2 := HT.out
       rw [e] at h2
       have := HFl.out
       rw [← h2] at this
       simp only [frF, hx, List.length_append, List.length_singleton] at this ⊢
       omega)
      have dk : decide (k < N) = false := decide_eq_false hlt2
      clear HOk HT hkN
      have HOx := Lib.hid (HO.out.below ((Below.refl _ _).alloc (Nat.le_refl _) (.cells #[.int .i64 m, .int .i64 n] tSp)))
      have HBx := Lib.hid (HB.out.alloc HB.out.size (.cells #[.int .i64 m, .int .i64 n] tSp))
      have HZx : Hid ((wr.alloc (.cells #[.int .i64 m, .int .i64 n] tSp)).heap.size = wr.heap.size + 1) := Lib.hid (by simp)
      have hdx : dn.length + 1 ≤ 1000000 := by omega
      have hbx : w.heap.size ≤ (wr.alloc (.cells #[.int .i64 m, .int .i64 n] tSp)).heap.size := HBx.out.size
      have HHx := Lib.hid hbx
      clear hbx
      by_cases h1 : i < m
      · have q1 : decide (i < m) = true := decide_eq_true h1
        have HN2 := Lib.hid (HNx.out (dn ++ [⟨i, m - i, j, n - j⟩]) (by rw [btw_gt1 h1]))
        have HL2 := Lib.hid (HLen.out ⟨i, m - i, j, n - j⟩ (btw_gt1 h1))
        clear HNx HLen HO HB
        go_wp2_with (at_builtin; refine app_ch rfl (.tmp 39) (.tmp 51) rfl w.heap.size dn ⟨i, m - i, j, n - j⟩ _ _ rfl HOx.out HZx.out rfl rfl hdx HHx.out ?_; intro v1 w1 ho1 hb1 hg1; obtain ⟨d0, d1⟩ := box_kept HOx.out hg1; have HO1 := Lib.hid ho1; have HB1 := Lib.hid (HBx.out.trans hb1); clear ho1 hb1 hg1)
        go_quiet (fail)
        go_wp2_with fail
        go_roundw
        case rel => exact ⟨k + 1, m + 1, n + 1, _, by omega, by go_num, rfl, rfl, ⟨by omega, by omega⟩, ⟨by omega, by omega⟩, HL2.out, Lib.hid (HO1.out.drewN _), Lib.hid (below_drewN HB1.out _), HN2⟩
        case measure => simp [intOf]; omega
      · have q1 : decide (i < m) = false := decide_eq_false h1
        by_cases h2 : j < n
        · have q2 : decide (j < n) = true := decide_eq_true h2
          have HN2 := Lib.hid (HNx.out (dn ++ [⟨i, m - i, j, n - j⟩]) (by rw [btw_gt2 h2]))
          have HL2 := Lib.hid (HLen.out ⟨i, m - i, j, n - j⟩ (btw_gt2 h2))
          clear HNx HLen HO HB
          go_wp2_with (at_builtin; refine app_ch rfl (.tmp 39) (.tmp 51) rfl w.heap.size dn ⟨i, m - i, j, n - j⟩ _ _ rfl HOx.out HZx.out rfl rfl hdx HHx.out ?_; intro v1 w1 ho1 hb1 hg1; obtain ⟨d0, d1⟩ := box_kept HOx.out hg1; have HO1 := Lib.hid ho1; have HB1 := Lib.hid (HBx.out.trans hb1); clear ho1 hb1 hg1)
          go_quiet (fail)
          go_wp2_with fail
          go_roundw
          case rel => exact ⟨k + 1, m + 1, n + 1, _, by omega, by go_num, rfl, rfl, ⟨by omega, by omega⟩, ⟨by omega, by omega⟩, HL2.out, Lib.hid (HO1.out.drewN _), Lib.hid (below_drewN HB1.out _), HN2⟩
          case measure => simp [intOf]; omega
        · have q2 : decide (j < n) = false := decide_eq_false h2
          have HN2 := Lib.hid (HNx.out dn (by rw [show m = i from by omega, show n = j from by omega, btw_same, List.append_nil]))
          clear HNx HLen HO HB
          go_wp2_with fail
          go_quiet (fail)
          go_wp2_with fail
          go_roundw
          case rel => exact ⟨k + 1, m + 1, n + 1, _, by omega, by go_num, rfl, rfl, ⟨by omega, by omega⟩, ⟨by omega, by omega⟩, hdn, Lib.hid (HOx.out.drewN _), Lib.hid (below_drewN HBx.out _), HN2⟩
          case measure => simp [intOf]; omega
  · have hd : decide (k ≤ N) = false := decide_eq_false hlt
    have HE : Hid (dn = frF m n 0 0 p) := Lib.hid (by
     rcases HC.out with h | h
     · omega
     · exact h.2)
    clear HC
    go_wp2_with fail
    go_ret
    exact ⟨_, rfl, by rw [← HE.out]; exact HO.out, HB.out⟩
end Sc
end
section
open Go.RowKit
namespace Sc
open Cm
def BtPost (base : Nat) (l : List Ch) (w : World) (v : Value) (e : Ending) (w' : World) : Prop := ∃ v', e = .returned v' ∧ OwnC base w' v' l ∧ Below base w w' ∧ ∀ k, k < w.heap.size → some k ≠ v.ownBlock → w'.heap[k]? = w.heap[k]?
set_option maxRecDepth 100000 in
set_option maxHeartbeats 2000000 in
theorem btw_any (base : Nat) (v : Value) (l : List Ch) (i a j b : Int) (w : World) (h : OwnC base w v l) (hb : base ≤ w.heap.size) (hl : l.length ≤ 200000) (hi : 0 ≤ i ∧ i ≤ 4096) (ha : 0 ≤ a ∧ a ≤ 4096) (hj : 0 ≤ j ∧ j ≤ 4096) (hbb : 0 ≤ b ∧ b ≤ 4096) :
 Calls Tryz.prog 166 #[v, .int .i64 i, .int .i64 a, .int .i64 j, .int .i64 b] w (BtPost base (l ++ btw i a j b) w v) := by
 obtain ⟨i0, i1⟩ := hi
 obtain ⟨a0, a1⟩ := ha
 obtain ⟨j0, j1⟩ := hj
 obtain ⟨b0, b1⟩ := hbb
 have HO := Lib.hid h
 have HB := Lib.hid hb
 clear h hb
 by_cases h1 : i = a ∧ j = b
 · obtain ⟨rfl, rfl⟩ := h1
   rw [btw_same, List.append_nil]
   go_enter Tryz.func166, Tryz.ntmps166
   go_wp2_with fail
   go_ret
   exact ⟨_, rfl, HO.out, Below.refl _ _, fun _ _ _ => rfl⟩
 · have HE := Lib.hid (btw_new h1)
   have hz : (i == a) = false ∨ ((i == a) = true ∧ (j == b) = false) := by
    by_cases e : i = a
    · exact .inr ⟨by simpa using e, by simpa using fun h => h1 ⟨e, h⟩⟩
    · exact .inl (by simpa using e)
   rw [HE.out]
   clear h1 HE
   have hln : l.length + 1 ≤ 1000000 := by omega
   rcases hz with z1 | ⟨z1, z2⟩
   all_goals
    go_enter Tryz.func166, Tryz.ntmps166
    go_wp2_with (at_builtin; refine app_ch rfl (.tmp 20) (.tmp 30) rfl base l ⟨i, a - i, j, b - j⟩ v _ rfl HO.out rfl rfl rfl hln HB.out ?_; intro v1 w1 ho1 hb1 hg1; have HO1 := Lib.hid ho1; have HB1 := Lib.hid hb1; have HG1 := Lib.hid hg1; clear ho1 hb1 hg1)
    go_ret
    exact ⟨_, rfl, HO1.out, HB1.out, fun k hk hne => (HG1.out.block k (by simp; omega) hne).trans (Below.heap_alloc _ _ _ hk)⟩
open Classical in
noncomputable def fpF (p : List Sp) (m n : Int) : Int := if inI m ∧ inI n then (if OkP m n 0 0 p then 0 else 3) else 80
def FpPost (p : List Sp) (m n : Int) (w : World) (e : Ending) (w' : World) : Prop :=
 ∃ v, e = .returned (.tuple #[v, .int .i64 (fpF p m n)]) ∧ (fpF p m n = 0 → OwnC w.heap.size w' v (frF m n 0 0 p)) ∧ (fpF p m n ≠ 0 → v = .slice none 0 0) ∧ Below w.heap.size w w'
theorem fpF_out {p : List Sp} {m n : Int} (h : ¬ (inI m ∧ inI n)) : fpF p m n = 80 := by unfold fpF; rw [if_neg h]
theorem fpF_ok {p : List Sp} {m n : Int} (hm : inI m) (hn : inI n) (h : OkP m n 0 0 p) : fpF p m n = 0 := by unfold fpF; rw [if_pos ⟨hm, hn⟩, if_pos h]
theorem fpF_no {p : List Sp} {m n : Int} (hm : inI m) (hn : inI n) (h : ¬ OkP m n 0 0 p) : fpF p m n = 3 := by unfold fpF; rw [if_pos ⟨hm, hn⟩, if_neg h]
theorem fp_err {p : List Sp} {m n z : Int} {w w' : World} (h : fpF p m n = z) (hz : z ≠ 0) (hb : Below w.heap.size w w') : FpPost p m n w (.returned (.tuple #[.slice none 0 0, .int .i64 z])) w' :=
 ⟨_, by rw [h], fun h0 => absurd (h ▸ h0) hz, fun _ => rfl, hb⟩
theorem fp_good {p : List Sp} {m n : Int} {v : Value} {w w' : World} (h : fpF p m n = 0) (ho : OwnC w.heap.size w' v (frF m n 0 0 p)) (hb : Below w.heap.size w w') : FpPost p m n w (.returned (.tuple #[v, .int .i64 0])) w' :=
 ⟨_, by rw [h], fun _ => ho, fun h0 => absurd h h0, hb⟩
end Sc
end
section
open Go.RowKit
namespace Sc
open Cm
theorem box_bt {wr w1 : World} {base : Nat} {v : Value} {dn : List Ch} {a b : Value} (ho : OwnC base (wr.alloc (.cells #[a, b] tSp)) v dn) (hg : ∀ k, k < (wr.alloc (.cells #[a, b] tSp)).heap.size → some k ≠ v.ownBlock → w1.heap[k]? = (wr.alloc (.cells #[a, b] tSp)).heap[k]?) :
 w1.cell? ⟨wr.heap.size, 0, none⟩ = some a ∧ w1.cell? ⟨wr.heap.size, 1, none⟩ = some b := by
 have hH : (wr.alloc (.cells #[a, b] tSp)).heap[wr.heap.size]? = some (.cells #[a, b] tSp (0, 0)) := heap_new wr _
 have hne : some wr.heap.size ≠ v.ownBlock := by
  intro e
  rcases ho.2 with ⟨rfl, _⟩ | ⟨g, cap, cur, rfl, _, hh, _⟩
  · simp [Value.ownBlock] at e
  · have : wr.heap.size = g := by simpa [Value.ownBlock] using e
    subst this
    rw [hH] at hh
    injection hh with hh
    injection hh with _ ht
    exact absurd ht (by decide)
 have h1 := (hg wr.heap.size (by simp) hne).trans hH
 exact ⟨by simp [World.cell?, h1], by simp [World.cell?, h1]⟩
set_option maxRecDepth 100000 in
set_option maxHeartbeats 4000000 in
theorem FromPairs_any (v : Value) (p : List Sp) (m n : Int) (w : World) (h : RdS w v p) (hl : p.length ≤ 100000) (hb : ∀ s ∈ p, SpB s) :
 Calls Tryz.prog 148 #[v, .int .i64 m, .int .i64 n] w (FpPost p m n w) := by
 obtain ⟨A, cp, rfl⟩ := h.form
 have HR := Lib.hid h
 have HB := Lib.hid hb
 clear h hb
 generalize hN : p.length = N at hl ⊢
 have HN := Lib.hid hN
 clear hN
 by_cases hm : inI m
 · by_cases hn : inI n
   · have bm := inB_T hm
     have bn := inB_T hn
     have HT : Hid (OkP m n 0 0 p → fpF p m n = 0) := Lib.hid (fpF_ok hm hn)
     have HF : Hid (¬ OkP m n 0 0 p → fpF p m n = 3) := Lib.hid (fpF_no hm hn)
     have hm2 := hm.2
     have hn2 := hn.2
     have hm1 := hm.1
     have hn1 := hn.1
     go_enter Tryz.func148, Tryz.ntmps148
     go_wp2_with (go_at_call 116; refine (isLength_any _ _).mono ?_; rintro e w' ⟨rfl, rfl⟩)
     go_loopw [8, 9, 10, 23] (fun s' i' j' k' wr => ∃ (k : Nat) (i j : Int) (dn : List Ch), k ≤ N ∧ k' = .int .i64 (k : Int) ∧ i' = .int .i64 i ∧ j' = .int .i64 j ∧ (0 ≤ i ∧ i ≤ m) ∧ (0 ≤ j ∧ j ≤ n) ∧ dn.length ≤ k ∧ Hid (OwnC w.heap.size wr s' dn) ∧ Hid (Below w.heap.size w wr) ∧ Hid ((OkP m n 0 0 p ↔ OkP m n i j (p.drop k)) ∧ dn ++ frF m n i j (p.drop k) = frF m n 0 0 p)) (fun _ _ _ k' _ => N - (intOf k').toNat)
     case atStart => exact ⟨0, 0, 0, [], Nat.zero_le _, rfl, rfl, rfl, ⟨Int.le_refl _, hm1⟩, ⟨Int.le_refl _, hn1⟩, Nat.zero_le _, Lib.hid (OwnC.nil _ _), Lib.hid (Below.refl _ _), Lib.hid ⟨Iff.rfl, rfl⟩⟩
     case round =>
      obtain ⟨k, i, j, dn, hk, rfl, rfl, rfl, ⟨hi0, hi1⟩, ⟨hj0, hj1⟩, hdn, HO, HBl, HC⟩ := hrel
      by_cases hlt : k < N
      · have hx : k < p.length := by rw [HN.out]; exact hlt
        obtain ⟨b0, off, rfl, c0, c1⟩ := RdS_at (HR.out.below HBl.out) k hx
        obtain ⟨⟨ba0, ba1⟩, ⟨bb0, bb1⟩⟩ := HB.out _ (List.getElem_mem hx)
        have HC2 : Hid ((OkP m n 0 0 p ↔ (i ≤ p[k].frm ∧ p[k].frm < m ∧ j ≤ p[k].to ∧ p[k].to < n) ∧ OkP m n (p[k].frm + 1) (p[k].to + 1) (p.drop (k + 1))) ∧ dn ++ (btw i p[k].frm j p[k].to ++ frF m n (p[k].frm + 1) (p[k].to + 1) (p.drop (k + 1))) = frF m n 0 0 p) := Lib.hid (by have := HC.out; rw [drop_at hx] at this; exact this)
        clear HC
        generalize p[k] = s at c0 c1 ba0 ba1 bb0 bb1 HC2
        obtain ⟨a, b⟩ := s
        simp only at c0 c1 ba0 ba1 bb0 bb1
        have HNo : Hid (¬ (i ≤ a ∧ a < m ∧ j ≤ b ∧ b < n) → fpF p m n = 3) := Lib.hid (fun h => HF.out (fun hh => h (HC2.out.1.1 hh).1))
        have HBx := Lib.hid (HBl.out.alloc HBl.out.size (.cells #[.int .i64 a, .int .i64 b] tSp))
        have HOx := Lib.hid (HO.out.below ((Below.refl _ _).alloc (Nat.le_refl _) (.cells #[.int .i64 a, .int .i64 b] tSp)))
        have i1 : (0 : Int) ≤ (k : Int) := by omega
        have i2 : (k : Int) < (N : Int) := by omega
        clear HBl HO
        by_cases h1 : a < i
        · have q1 : decide (a < i) = true := decide_eq_true h1
          have HE := Lib.hid (HNo.out (fun hh => by obtain ⟨_, _, _, _⟩ := hh; omega))
          clear HNo HC2
          go_wp2_with fail
          go_ret2
          exact fp_err HE.out (by decide) HBx.out
        · have q1 : decide (a < i) = false := decide_eq_false h1
          by_cases h2 : m ≤ a
          · have q2 : decide (m ≤ a) = true := decide_eq_true h2
            have HE := Lib.hid (HNo.out (fun hh => by obtain ⟨_, _, _, _⟩ := hh; omega))
            clear HNo HC2
            go_wp2_with fail
            go_ret2
            exact fp_err HE.out (by decide) HBx.out
          · have q2 : decide (m ≤ a) = false := decide_eq_false h2
            by_cases h3 : b < j
            · have q3 : decide (b < j) = true := decide_eq_true h3
              have HE := Lib.hid (HNo.out (fun hh => by obtain ⟨_, _, _, _⟩ := hh; omega))
              clear HNo HC2
              go_wp2_with fail
              go_ret2
              exact fp_err HE.out (by decide) HBx.out
            · have q3 : decide (b < j) = false := decide_eq_false h3
              by_cases h4 : n ≤ b
              · have q4 : decide (n ≤ b) = true := decide_eq_true h4
                have HE := Lib.hid (HNo.out (fun hh => by obtain ⟨_, _, _, _⟩ := hh; omega))
                clear HNo HC2
                go_wp2_with fail
                go_ret2
                exact fp_err HE.out (by decide) HBx.out
              · have q4 : decide (n ≤ b) = false := decide_eq_false h4
                have HC3 : Hid ((OkP m n 0 0 p ↔ OkP m n (a + 1) (b + 1) (p.drop (k + 1))) ∧ dn ++ btw i a j b ++ frF m n (a + 1) (b + 1) (p.drop (k + 1)) = frF m n 0 0 p) := Lib.hid ⟨by
                 have hg : i ≤ a ∧ a < m ∧ j ≤ b ∧ b < n := ⟨by omega, by omega, by omega, by omega⟩
                 rw [HC2.out.1]
                 exact ⟨fun h => h.2, fun h => ⟨hg, h⟩⟩, by rw [List.append_assoc]; exact HC2.out.2⟩
                have hdx : dn.length ≤ 200000 := by omega
                have HLn : Hid ((dn ++ btw i a j b).length ≤ k + 1) := Lib.hid (by
                 have := btw_len i a j b
                 rw [List.length_append]; omega)
                have hb0 : 0 ≤ b := by omega
                have ha0 : 0 ≤ a := by omega
                have HBt := Lib.hid (btw_any w.heap.size _ dn i a j b _ HOx.out HBx.out.size hdx ⟨hi0, by omega⟩ ⟨by omega, by omega⟩ ⟨hj0, by omega⟩ ⟨by omega, by omega⟩)
                clear HNo HC2
                go_wp2_with (go_at_call 166; refine HBt.out.mono ?_; rintro e w1 ⟨v1, rfl, ho1, hb1, hg1⟩; obtain ⟨d0, d1⟩ := box_bt HOx.out hg1; have HO1 := Lib.hid ho1; have HB1 := Lib.hid (HBx.out.trans hb1); clear ho1 hb1 hg1 HBt)
                go_quiet (fail)
                go_wp2_with fail
                go_roundw
                case rel => exact ⟨k + 1, a + 1, b + 1, _, by omega, by go_num, rfl, rfl, ⟨by omega, by omega⟩, ⟨by omega, by omega⟩, HLn.out, Lib.hid (HO1.out.drewN _), Lib.hid (below_drewN HB1.out _), HC3⟩
                case measure => simp [intOf]; omega
      · have hd : decide (k < N) = false := decide_eq_false hlt
        have e : p.drop k = [] := List.drop_eq_nil_of_le (by rw [HN.out]; omega)
        have HE : Hid (fpF p m n = 0 ∧ dn ++ btw i m j n = frF m n 0 0 p) := Lib.hid (by
         have h := HC.out
         rw [e] at h
         exact ⟨HT.out (h.1.2 trivial), h.2⟩)
        have HBt := Lib.hid (btw_any w.heap.size _ dn i m j n _ HO.out HBl.out.size (by omega) ⟨hi0, by omega⟩ ⟨by omega, by omega⟩ ⟨hj0, by omega⟩ ⟨by omega, by omega⟩)
        clear HC e
        go_wp2_with (go_at_call 166; refine HBt.out.mono ?_; rintro e w1 ⟨v1, rfl, ho1, hb1, hg1⟩; have HO1 := Lib.hid ho1; have HB1 := Lib.hid (HBl.out.trans hb1); clear ho1 hb1 hg1 HBt)
        go_ret2
        exact fp_good HE.out.1 (by rw [← HE.out.2]; exact HO1.out) HB1.out
   · have bm := inB_T hm
     have bn := inB_F hn
     have HE := Lib.hid (fpF_out (p := p) (m := m) (n := n) (fun h => hn h.2))
     clear hm hn
     go_enter Tryz.func148, Tryz.ntmps148
     go_wp2_with (go_at_call 116; refine (isLength_any _ _).mono ?_; rintro e w' ⟨rfl, rfl⟩)
     go_ret2
     exact fp_err HE.out (by decide) (Below.refl _ _)
 · have bm := inB_F hm
   have HE := Lib.hid (fpF_out (p := p) (m := m) (n := n) (fun h => hm h.1))
   clear hm
   go_enter Tryz.func148, Tryz.ntmps148
   go_wp2_with (go_at_call 116; refine (isLength_any _ _).mono ?_; rintro e w' ⟨rfl, rfl⟩)
   go_ret2
   exact fp_err HE.out (by decide) (Below.refl _ _)
end Sc
end
section
open Go.RowKit
namespace Sc
open Cm
set_option maxRecDepth 100000 in
set_option maxHeartbeats 4000000 in
theorem CheckR_any (v : Value) (l : List Ch) (m n : Int) (w : World) (h : RdC w v l) (hl : l.length ≤ 4611686018427387904) :
 Calls Tryz.prog 97 #[v, .int .i64 m, .int .i64 n] w (CkPost l m n w) := by
 obtain ⟨A, cp, rfl⟩ := h.form
 have HR := Lib.hid h
 clear h
 generalize hN : l.length = N at hl ⊢
 have HN := Lib.hid hN
 clear hN
 by_cases hm : inI m
 · by_cases hn : inI n
   · have bm := inB_T hm
     have bn := inB_T hn
     have HT : Hid (RfL true 0 0 l m n → chkF l m n = 0) := Lib.hid (fun h => chkF_ok hm hn ((ok_iff hm hn).2 h))
     have HF : Hid (¬ RfL true 0 0 l m n → chkF l m n = 80) := Lib.hid (fun h => chkF_no (fun hh => h ((ok_iff hm hn).1 hh.2.2)))
     have hm2 := hm.2
     have hn2 := hn.2
     have hm1 := hm.1
     have hn1 := hn.1
     go_enter Tryz.func97, Tryz.ntmps97
     go_wp2_with (go_at_call 135; refine (in_any _ _).mono ?_; rintro e w' ⟨rfl, rfl⟩)
     go_loopw [7, 8, 9] (fun i' j' k' wr => ∃ (k : Nat) (i j : Int), k ≤ N ∧ k' = .int .i64 (k : Int) ∧ i' = .int .i64 i ∧ j' = .int .i64 j ∧ 0 ≤ i ∧ i ≤ 8192 ∧ 0 ≤ j ∧ j ≤ 8192 ∧ Hid (RfL true 0 0 l m n ↔ RfL (k == 0) i j (l.drop k) m n) ∧ Hid (Below w.heap.size w wr)) (fun _ _ k' _ => N - (intOf k').toNat)
     case atStart => exact ⟨0, 0, 0, Nat.zero_le _, rfl, rfl, rfl, Int.le_refl _, by omega, Int.le_refl _, by omega, Lib.hid Iff.rfl, Lib.hid (Below.refl _ _)⟩
     case round =>
      obtain ⟨k, i, j, hk, rfl, rfl, rfl, hi0, hi1, hj0, hj1, HO, HBl⟩ := hrel
      by_cases hlt : k < N
      · have hx : k < l.length := by rw [HN.out]; exact hlt
        obtain ⟨b, off, rfl, c0, c1, c2, c3⟩ := RdC_at (HR.out.below HBl.out) k hx
        have HO2 : Hid (RfL true 0 0 l m n ↔ RfC (k == 0) i j l[k] ∧ RfL false (l[k].old + l[k].oldLen) (l[k].new + l[k].newLen) (l.drop (k + 1)) m n) := Lib.hid (by rw [HO.out, drop_at hx]; exact Iff.rfl)
        clear HO
        generalize l[k] = c at c0 c1 c2 c3 HO2
        obtain ⟨o, ol, nw, nl⟩ := c
        simp only at c0 c1 c2 c3
        have HNo : Hid (¬ RfC (k == 0) i j ⟨o, ol, nw, nl⟩ → chkF l m n = 80) := Lib.hid (fun h => HF.out (fun hh => h (HO2.out.1 hh).1))
        have HBl2 := Lib.hid (HBl.out.alloc HBl.out.size (.cells #[.int .i64 o, .int .i64 ol, .int .i64 nw, .int .i64 nl] tCh))
        have i1 : (0 : Int) ≤ (k : Int) := by omega
        have i2 : (k : Int) < (N : Int) := by omega
        clear HBl
        by_cases h0 : inI o
        · have b0 := inB_T h0
          by_cases h1 : inI ol
          · have b1 := inB_T h1
            by_cases h2 : inI nw
            · have b2 := inB_T h2
              by_cases h3 : inI nl
              · have b3 := inB_T h3
                obtain ⟨a0, a1⟩ := h0
                obtain ⟨a2, a3⟩ := h1
                obtain ⟨a4, a5⟩ := h2
                obtain ⟨a6, a7⟩ := h3
                by_cases h5 : ol + nl = 0
                · have q5 : ((ol + nl) == 0) = true := by rw [beq_iff_eq]; exact h5
                  have HE := Lib.hid (HNo.out (fun hh => hh.2.2.2.2.1 h5))
                  clear HNo HO2 h5
                  go_wp2_with (go_at_call 135; refine (in_any _ _).mono ?_; rintro e w' ⟨rfl, rfl⟩)
                  go_ret
                  exact ck_ret HE.out HBl2.out
                · have q5 : ((ol + nl) == 0) = false := by rw [Bool.eq_false_iff]; intro hh; rw [beq_iff_eq] at hh; exact h5 hh
                  by_cases h6 : o - i = nw - j
                  · have q6 : ((o - i) != (nw - j)) = false := by rw [bne_eq_false_iff_eq]; exact h6
                    by_cases h7 : o < i
                    · have q7 : decide (o < i) = true := decide_eq_true h7
                      have HE := Lib.hid (HNo.out (fun hh => absurd (show i ≤ o from hh.2.2.2.2.2.2.1) (by omega)))
                      clear HNo HO2 h6 h5
                      go_wp2_with (go_at_call 135; refine (in_any _ _).mono ?_; rintro e w' ⟨rfl, rfl⟩)
                      go_ret
                      exact ck_ret HE.out HBl2.out
                    · have q7 : decide (o < i) = false := decide_eq_false h7
                      by_cases h8 : 0 < k
                      · have q8 : decide (0 < k) = true := decide_eq_true h8
                        by_cases h9 : o = i
                        · have q9 : (o == i) = true := by rw [beq_iff_eq]; exact h9
                          have HE := Lib.hid (HNo.out (fun hh => hh.2.2.2.2.2.2.2 (by simp; omega) h9))
                          clear HNo HO2 h9 h6 h5
                          go_wp2_with (go_at_call 135; refine (in_any _ _).mono ?_; rintro e w' ⟨rfl, rfl⟩)
                          go_ret
                          exact ck_ret HE.out HBl2.out
                        · have q9 : (o == i) = false := by rw [Bool.eq_false_iff]; intro hh; rw [beq_iff_eq] at hh; exact h9 hh
                          have HOk : Hid (RfL true 0 0 l m n ↔ RfL false (o + ol) (nw + nl) (l.drop (k + 1)) m n) := Lib.hid (by
                           rw [HO2.out]
                           exact ⟨fun h => h.2, fun h => ⟨⟨⟨a0, a1⟩, ⟨a2, a3⟩, ⟨a4, a5⟩, ⟨a6, a7⟩, h5, h6, by show i ≤ o; omega, fun _ => h9⟩, h⟩⟩)
                          clear HNo HO2 h5 h6
                          go_wp2_with (go_at_call 135; refine (in_any _ _).mono ?_; rintro e w' ⟨rfl, rfl⟩)
                          go_quiet (fail)
                          go_wp2_with fail
                          go_roundw
                          case rel => exact ⟨k + 1, o + ol, nw + nl, by omega, by go_num, rfl, rfl, by omega, by omega, by omega, by omega, HOk, Lib.hid (below_drewN HBl2.out _)⟩
                          case measure => simp [intOf]; omega
                      · have q8 : decide (0 < k) = false := decide_eq_false h8
                        have HOk : Hid (RfL true 0 0 l m n ↔ RfL false (o + ol) (nw + nl) (l.drop (k + 1)) m n) := Lib.hid (by
                         rw [HO2.out]
                         exact ⟨fun h => h.2, fun h => ⟨⟨⟨a0, a1⟩, ⟨a2, a3⟩, ⟨a4, a5⟩, ⟨a6, a7⟩, h5, h6, by show i ≤ o; omega, fun hk => absurd hk (show ¬ ((k == 0) = false) from (by rw [Nat.eq_zero_of_not_pos h8]; decide))⟩, h⟩⟩)
                        clear HNo HO2 h5 h6
                        go_wp2_with (go_at_call 135; refine (in_any _ _).mono ?_; rintro e w' ⟨rfl, rfl⟩)
                        go_quiet (fail)
                        go_wp2_with fail
                        go_roundw
                        case rel => exact ⟨k + 1, o + ol, nw + nl, by omega, by go_num, rfl, rfl, by omega, by omega, by omega, by omega, HOk, Lib.hid (below_drewN HBl2.out _)⟩
                        case measure => simp [intOf]; omega
                  · have q6 : ((o - i) != (nw - j)) = true := by rw [bne_iff_ne]; exact h6
                    have HE := Lib.hid (HNo.out (fun hh => h6 hh.2.2.2.2.2.1))
                    clear HNo HO2 h6 h5
                    go_wp2_with (go_at_call 135; refine (in_any _ _).mono ?_; rintro e w' ⟨rfl, rfl⟩)
                    go_ret
                    exact ck_ret HE.out HBl2.out
              · have b3 := inB_F h3
                have HE := Lib.hid (HNo.out (fun hh => h3 hh.2.2.2.1))
                clear HNo HO2 h0 h1 h2 h3
                go_wp2_with (go_at_call 135; refine (in_any _ _).mono ?_; rintro e w' ⟨rfl, rfl⟩)
                go_ret
                exact ck_ret HE.out HBl2.out
            · have b2 := inB_F h2
              have HE := Lib.hid (HNo.out (fun hh => h2 hh.2.2.1))
              clear HNo HO2 h0 h1 h2
              go_wp2_with (go_at_call 135; refine (in_any _ _).mono ?_; rintro e w' ⟨rfl, rfl⟩)
              go_ret
              exact ck_ret HE.out HBl2.out
          · have b1 := inB_F h1
            have HE := Lib.hid (HNo.out (fun hh => h1 hh.2.1))
            clear HNo HO2 h0 h1
            go_wp2_with (go_at_call 135; refine (in_any _ _).mono ?_; rintro e w' ⟨rfl, rfl⟩)
            go_ret
            exact ck_ret HE.out HBl2.out
        · have b0 := inB_F h0
          have HE := Lib.hid (HNo.out (fun hh => h0 hh.1))
          clear HNo HO2 h0
          go_wp2_with (go_at_call 135; refine (in_any _ _).mono ?_; rintro e w' ⟨rfl, rfl⟩)
          go_ret
          exact ck_ret HE.out HBl2.out
      · have HD : Hid (RfL true 0 0 l m n ↔ (m - i = n - j ∧ i ≤ m)) := Lib.hid (by
         have e : l.drop k = [] := List.drop_eq_nil_of_le (by rw [HN.out]; omega)
         rw [HO.out, e]; exact Iff.rfl)
        have hd : decide (k < N) = false := decide_eq_false hlt
        clear HO
        by_cases h7 : m - i = n - j
        · have q7 : ((m - i) != (n - j)) = false := by rw [bne_eq_false_iff_eq]; exact h7
          by_cases h8 : m < i
          · have q8 : decide (m < i) = true := decide_eq_true h8
            have HE := Lib.hid (HF.out (fun h => by have := (HD.out.1 h).2; omega))
            clear h7
            go_wp2_with fail
            go_ret
            exact ck_ret HE.out HBl.out
          · have q8 : decide (m < i) = false := decide_eq_false h8
            have HE := Lib.hid (HT.out (HD.out.2 ⟨h7, by omega⟩))
            clear h7
            go_wp2_with fail
            go_ret
            exact ck_ret HE.out HBl.out
        · have HE := Lib.hid (HF.out (fun h => h7 (HD.out.1 h).1))
          have q7 : ((m - i) != (n - j)) = true := by rw [bne_iff_ne]; exact h7
          clear h7
          go_wp2_with fail
          go_ret
          exact ck_ret HE.out HBl.out
   · have bm := inB_T hm
     have bn := inB_F hn
     have HE := Lib.hid (chkF_no (l := l) (m := m) (n := n) (fun h => hn h.2.1))
     clear hm hn
     go_enter Tryz.func97, Tryz.ntmps97
     go_wp2_with (go_at_call 135; refine (in_any _ _).mono ?_; rintro e w' ⟨rfl, rfl⟩)
     go_ret
     exact ck_ret HE.out (Below.refl _ _)
 · have bm := inB_F hm
   have HE := Lib.hid (chkF_no (l := l) (m := m) (n := n) (fun h => hm h.1))
   clear hm
   go_enter Tryz.func97, Tryz.ntmps97
   go_wp2_with (go_at_call 135; refine (in_any _ _).mono ?_; rintro e w' ⟨rfl, rfl⟩)
   go_ret
   exact ck_ret HE.out (Below.refl _ _)
end Sc
end
end Go.Proofs.YtjecfmbecgpbmaaGreatDoor

/- Facts; each states its conditions. -/
import Derived.Test.YtjecfmbecgpbmaaGreatDoorGTextBase
import Derived.Test.YtjecfmbecgpbmaaGreatDoorGScrBase
import Derived.Deep.OwnRows
import Derived.StillTailTactics
import Derived.WalkSpells
namespace Go.Proofs.YtjecfmbecgpbmaaGreatDoor
section
namespace Cm
end Cm
namespace Sc
end Sc
open Go.RowKit
namespace Hn
open Cm Sc
abbrev tHk : TypeId := 88
abbrev tHks : TypeId := 82
abbrev tI : TypeId := 3
def hkC (h : Hk) : List Value := [.int .i64 h.fst, .int .i64 h.lst, .int .i64 h.oF, .int .i64 h.oT, .int .i64 h.nF, .int .i64 h.nT]
abbrev hkA (h : Hk) : Value := .agg #[.int .i64 h.fst, .int .i64 h.lst, .int .i64 h.oF, .int .i64 h.oT, .int .i64 h.nF, .int .i64 h.nT]
abbrev zeroHk : Value := .agg #[.int .i64 0, .int .i64 0, .int .i64 0, .int .i64 0, .int .i64 0, .int .i64 0]
theorem info_hk : (Tryz.prog.info? tHk).map (fun i => (i.zero, i.size, i.bytes)) = some (some zeroHk, 6, 48) := by kernel_rfl
theorem info_i : (Tryz.prog.info? tI).map (fun i => (i.zero, i.size, i.bytes)) = some (some (.int .i64 0), 1, 8) := by kernel_rfl
abbrev RdH := RdK 6 hkC
theorem hkC_len (h : Hk) : (hkC h).length = 6 := rfl
theorem RdH_at {w : World} {A : Option Addr} {n c : Nat} {l : List Hk} (h : RdH w (.slice A n c) l) (k : Nat) (hk : k < l.length) : ∃ b off, A = some ⟨b, off, none⟩ ∧
 w.cell? ⟨b, off + k * 6, none⟩ = some (.int .i64 l[k].fst) ∧ w.cell? ⟨b, off + k * 6 + 1, none⟩ = some (.int .i64 l[k].lst) ∧ w.cell? ⟨b, off + k * 6 + 2, none⟩ = some (.int .i64 l[k].oF) ∧ w.cell? ⟨b, off + k * 6 + 3, none⟩ = some (.int .i64 l[k].oT) ∧ w.cell? ⟨b, off + k * 6 + 4, none⟩ = some (.int .i64 l[k].nF) ∧ w.cell? ⟨b, off + k * 6 + 5, none⟩ = some (.int .i64 l[k].nT) := by
 obtain ⟨b, off, e, hc⟩ := h.at k hk
 exact ⟨b, off, e, hc 0 (show 0 < 6 by decide), hc 1 (show 1 < 6 by decide), hc 2 (show 2 < 6 by decide), hc 3 (show 3 < 6 by decide), hc 4 (show 4 < 6 by decide), hc 5 (show 5 < 6 by decide)⟩
def OwnH (base : Nat) (w : World) (v : Value) (l : List Hk) : Prop := w.ownsRow base tHk 6 v l.length (flatK hkC l)
theorem OwnH.rd {base : Nat} {w : World} {v : Value} {l : List Hk} (h : OwnH base w v l) : RdH w v l := RdK.of_own hkC_len h
theorem OwnH.below {base : Nat} {w w' : World} {v : Value} {l : List Hk} (h : OwnH base w v l) (hb : Below w.heap.size w w') : OwnH base w' v l := ownK_below h hb
theorem OwnH.nil (base : Nat) (w : World) : OwnH base w (.slice none 0 0) [] := World.ownsRow_nil _ _ _ _
theorem OwnH.base {base base' : Nat} {w : World} {v : Value} {l : List Hk} (h : OwnH base w v l) (hb : base' ≤ base) : OwnH base' w v l := ownK_base h hb
theorem OwnH.drewN {base : Nat} {w : World} {v : Value} {l : List Hk} (h : OwnH base w v l) (m : Nat) : OwnH base (w.drewN m) v l := h.below (below_drewN (Below.refl _ _) m)
theorem one_hk (h : Hk) : ∀ u ∈ hkC h, u.oneCell' = true := by
 intro u hu
 unfold hkC at hu
 simp only [List.mem_cons, List.not_mem_nil, or_false] at hu
 rcases hu with rfl | rfl | rfl | rfl | rfl | rfl
 all_goals rfl
theorem app_hk {ops : Array Oper} {rest : List Oper} {o : Oper} {a : Act} {Q : Exit → Act → World → Prop} {w : World} (hg : Region.wanted o (yielded ops a.tmps) = true)
 (s x : Operand) (ho : o.op = .call { callee := .builtin .append, args := #[s, x], argTypes := #[tHks, tHks] })
 (base : Nat) (l : List Hk) (c : Hk) (v : Value) (C : Array Value) (hs : a.eval s = v) (hown : OwnH base w v l)
 {g : Nat} (hz : w.heap.size = g) (hx : a.eval x = .slice (some ⟨g, 0, none⟩) 1 1) (hC : C.toList = hkC c)
 (hsz : l.length + 1 ≤ 1000000) (hbase : base ≤ w.heap.size)
 (h : ∀ v' w', OwnH base w' v' (l ++ [c]) → Below base w w' → (w.alloc (.cells C tHk)).grownBy w' v.ownBlock → wpList Tryz.prog ops Q rest (a.put o.dst v') w') :
 wpList Tryz.prog ops Q (o :: rest) a (w.alloc (.cells C tHk)) :=
 app_k (by decide) hg Tryz.underlying82 info_hk rfl (by decide) s x ho base l.length (flatK hkC l) (hkC c) rfl (one_hk c) v C hs hown (by rw [hz]; exact hx) hC hsz hbase
  (fun v' w' h1 h2 h3 => h v' w' (by unfold OwnH; rw [List.length_append, List.length_singleton, flatK_snoc]; exact h1) h2 h3)
def Blk (w : World) (G : Nat) (t : TypeId) (l : List Value) : Prop := w.heap[G]? = some (.cells l.toArray t (0, 0))
theorem Blk.lt {w : World} {G : Nat} {t : TypeId} {l : List Value} (h : Blk w G t l) : G < w.heap.size := lt_of_block h
theorem Blk.cell {w : World} {G : Nat} {t : TypeId} {l : List Value} (h : Blk w G t l) {k : Nat} (hk : k < l.length) : w.cell? ⟨G, k, none⟩ = some l[k] := by
 unfold Blk at h
 simp only [World.cell?, h]
 simp [hk]
theorem Blk.free {w : World} {G : Nat} {t : TypeId} {l : List Value} (h : Blk w G t l) (k : Nat) : w.frozen? ⟨G, k, none⟩ = false := by
 unfold Blk at h
 simp [World.frozen?, h]
theorem Blk.below {w w' : World} {G : Nat} {t : TypeId} {l : List Value} (h : Blk w G t l) (hb : Below w.heap.size w w') : Blk w' G t l := (hb.block G h.lt).trans h
theorem Blk.set {w : World} {G : Nat} {t : TypeId} {l : List Value} (h : Blk w G t l) (k : Nat) (v : Value) : Blk (w.setCell ⟨G, k, none⟩ v) G t (l.set k v) := by
 have hlt := h.lt
 unfold Blk at h
 have h' : w.heap[G] = .cells l.toArray t (0, 0) := by simpa [Array.getElem?_eq_getElem hlt] using h
 show (w.heap.modify G _)[G]? = _
 rw [Array.getElem?_eq_getElem (by simpa using hlt), Array.getElem_modify_self, h']
 simp
theorem Blk.alloc {w : World} {G : Nat} {t : TypeId} {l : List Value} (h : Blk w G t l) (o : Obj) : Blk (w.alloc o) G t l := (Below.heap_alloc w o G h.lt).trans h
theorem Blk.drewN {w : World} {G : Nat} {t : TypeId} {l : List Value} (h : Blk w G t l) (m : Nat) : Blk (w.drewN m) G t l := h.below (below_drewN (Below.refl _ _) m)
theorem Blk.rd {w : World} {G : Nat} {t : TypeId} {l : List Value} (h : Blk w G t l) : RdV w (.slice (some ⟨G, 0, none⟩) l.length l.length) l :=
 ⟨_, _, rfl, ⟨Nat.le_refl _, fun e => by cases e⟩, fun _ => ⟨G, 0, rfl, fun j hj => by rw [Nat.zero_add]; exact h.cell hj⟩⟩
def ChN (c : Ch) : Prop := (0 ≤ c.old ∧ c.old ≤ 4096) ∧ (0 ≤ c.oldLen ∧ c.oldLen ≤ 4096) ∧ (0 ≤ c.new ∧ c.new ≤ 4096) ∧ (0 ≤ c.newLen ∧ c.newLen ≤ 4096)
theorem ok_chN {m n : Int} (hm : inI m) (hn : inI n) : ∀ {l : List Ch} {f : Bool} {i j : Int}, OkL f i j l m n → ∀ c ∈ l, ChN c ∧ endO c ≤ m ∧ endN c ≤ n
 | [], _, _, _, _, c, hc => by cases hc
 | x :: l, f, i, j, ⟨⟨⟨⟨a0, a1, a2⟩, ⟨b0, b1, b2⟩, _⟩, _⟩, hl⟩, c, hc => by
   rcases List.mem_cons.1 hc with rfl | hc
   · have := hm.2; have := hn.2
     exact ⟨⟨⟨a0, by omega⟩, ⟨a1, by omega⟩, ⟨b0, by omega⟩, ⟨b1, by omega⟩⟩, by unfold endO; omega, by unfold endN; omega⟩
   · exact ok_chN hm hn hl c hc
end Hn
end
section
namespace Hn
end Hn
open Go.RowKit
namespace Uf
open Cm Sc Hn
abbrev tLn : TypeId := 44
abbrev tLns : TypeId := 37
abbrev tPh : TypeId := 39
abbrev tPhs : TypeId := 24
abbrev tPat : TypeId := 26
abbrev tStr : TypeId := 9
abbrev tStrs : TypeId := 30
def lineC (l : Ln) : List Value := [.int .u8 l.kind, .string l.text]
structure HV where
 old : Int
 new : Int
 u : Value
def hunkC (h : HV) : List Value := [.int .i64 h.old, .int .i64 h.new, h.u]
theorem lineC_len (l : Ln) : (lineC l).length = 2 := rfl
theorem hunkC_len (h : HV) : (hunkC h).length = 3 := rfl
abbrev zeroLn : Value := .agg #[.int .u8 0, .string ⟨#[]⟩]
abbrev zeroPh : Value := .agg #[.int .i64 0, .int .i64 0, .slice none 0 0]
theorem info_ln : (Tryz.prog.info? tLn).map (fun i => (i.zero, i.size, i.bytes)) = some (some zeroLn, 2, 24) := by kernel_rfl
theorem info_ph : (Tryz.prog.info? tPh).map (fun i => (i.zero, i.size, i.bytes)) = some (some zeroPh, 3, 40) := by kernel_rfl
abbrev RdL := RdK 2 lineC
theorem RdL_at {w : World} {A : Option Addr} {n c : Nat} {l : List Ln} (h : RdL w (.slice A n c) l) (k : Nat) (hk : k < l.length) : ∃ b off, A = some ⟨b, off, none⟩ ∧
 w.cell? ⟨b, off + k * 2, none⟩ = some (.int .u8 l[k].kind) ∧ w.cell? ⟨b, off + k * 2 + 1, none⟩ = some (.string l[k].text) := by
 obtain ⟨b, off, e, hc⟩ := h.at k hk
 exact ⟨b, off, e, hc 0 (show 0 < 2 by decide), hc 1 (show 1 < 2 by decide)⟩
def OwnL (base : Nat) (w : World) (v : Value) (l : List Ln) : Prop := w.ownsRow base tLn 2 v l.length (flatK lineC l)
theorem OwnL.rd {base : Nat} {w : World} {v : Value} {l : List Ln} (h : OwnL base w v l) : RdL w v l := RdK.of_own lineC_len h
theorem OwnL.below {base : Nat} {w w' : World} {v : Value} {l : List Ln} (h : OwnL base w v l) (hb : Below w.heap.size w w') : OwnL base w' v l := ownK_below h hb
theorem OwnL.nil (base : Nat) (w : World) : OwnL base w (.slice none 0 0) [] := World.ownsRow_nil _ _ _ _
theorem OwnL.base {base base' : Nat} {w : World} {v : Value} {l : List Ln} (h : OwnL base w v l) (hb : base' ≤ base) : OwnL base' w v l := ownK_base h hb
theorem OwnL.form {base : Nat} {w : World} {v : Value} {l : List Ln} (h : OwnL base w v l) : ∃ A c, v = .slice A l.length c := h.rd.form
theorem one_ln (l : Ln) : ∀ u ∈ lineC l, u.oneCell' = true := by
 intro u hu
 unfold lineC at hu
 simp only [List.mem_cons, List.not_mem_nil, or_false] at hu
 rcases hu with rfl | rfl
 all_goals rfl
theorem one_hv (h : HV) (A : Option Addr) (n c : Nat) (e : h.u = .slice A n c) : ∀ u ∈ hunkC h, u.oneCell' = true := by
 intro u hu
 unfold hunkC at hu
 simp only [List.mem_cons, List.not_mem_nil, or_false] at hu
 rcases hu with rfl | rfl | rfl
 · rfl
 · rfl
 · rw [e]; rfl
theorem app_ln {ops : Array Oper} {rest : List Oper} {o : Oper} {a : Act} {Q : Exit → Act → World → Prop} {w : World} (hg : Region.wanted o (yielded ops a.tmps) = true)
 (s x : Operand) (ho : o.op = .call { callee := .builtin .append, args := #[s, x], argTypes := #[tLns, tLns] })
 (base : Nat) (l : List Ln) (c : Ln) (v : Value) (C : Array Value) (hs : a.eval s = v) (hown : OwnL base w v l)
 {g : Nat} (hz : w.heap.size = g) (hx : a.eval x = .slice (some ⟨g, 0, none⟩) 1 1) (hC : C.toList = lineC c)
 (hsz : l.length + 1 ≤ 1000000) (hbase : base ≤ w.heap.size)
 (h : ∀ v' w', OwnL base w' v' (l ++ [c]) → Below base w w' → (w.alloc (.cells C tLn)).grownBy w' v.ownBlock → wpList Tryz.prog ops Q rest (a.put o.dst v') w') :
 wpList Tryz.prog ops Q (o :: rest) a (w.alloc (.cells C tLn)) :=
 app_k (by decide) hg Tryz.underlying37 info_ln rfl (by decide) s x ho base l.length (flatK lineC l) (lineC c) rfl (one_ln c) v C hs hown (by rw [hz]; exact hx) hC hsz hbase
  (fun v' w' h1 h2 h3 => h v' w' (by unfold OwnL; rw [List.length_append, List.length_singleton, flatK_snoc]; exact h1) h2 h3)
def RdP (w : World) (v : Value) (hs : List PH) : Prop :=
 ∃ zs : List HV, RdK 3 hunkC w v zs ∧ zs.length = hs.length ∧ ∀ j (a : j < zs.length) (b : j < hs.length), zs[j].old = hs[j].old ∧ zs[j].new = hs[j].new ∧ RdL w zs[j].u hs[j].lines
theorem RdP.below {w w' : World} {v : Value} {hs : List PH} (h : RdP w v hs) (hb : Below w.heap.size w w') : RdP w' v hs := by
 obtain ⟨zs, h1, h2, h3⟩ := h
 exact ⟨zs, h1.below hb, h2, fun j a b => ⟨(h3 j a b).1, (h3 j a b).2.1, (h3 j a b).2.2.below hb⟩⟩
theorem RdP.form {w : World} {v : Value} {hs : List PH} (h : RdP w v hs) : ∃ A c, v = .slice A hs.length c := by
 obtain ⟨zs, h1, h2, _⟩ := h
 rw [← h2]; exact h1.form
theorem RdP_at {w : World} {A : Option Addr} {n c : Nat} {hs : List PH} (h : RdP w (.slice A n c) hs) (k : Nat) (hk : k < hs.length) : ∃ b off Al cl, A = some ⟨b, off, none⟩ ∧
 w.cell? ⟨b, off + k * 3, none⟩ = some (.int .i64 hs[k].old) ∧ w.cell? ⟨b, off + k * 3 + 1, none⟩ = some (.int .i64 hs[k].new) ∧ w.cell? ⟨b, off + k * 3 + 2, none⟩ = some (.slice Al hs[k].lines.length cl) ∧ RdL w (.slice Al hs[k].lines.length cl) hs[k].lines := by
 obtain ⟨zs, h1, h2, h3⟩ := h
 obtain ⟨b, off, e, hc⟩ := h1.at k (by omega)
 obtain ⟨g1, g2, g3⟩ := h3 k (by omega) hk
 obtain ⟨Al, cl, eu⟩ := g3.form
 have c0 := hc 0 (show 0 < 3 by decide)
 have c1 := hc 1 (show 1 < 3 by decide)
 have c2 := hc 2 (show 2 < 3 by decide)
 simp only [hunkC, List.getElem_cons_zero, List.getElem_cons_succ] at c0 c1 c2
 rw [g1] at c0
 rw [g2] at c1
 rw [eu] at c2 g3
 exact ⟨b, off, Al, cl, e, c0, c1, c2, g3⟩
def OwnP (base : Nat) (w : World) (v : Value) (hs : List PH) : Prop :=
 ∃ zs : List HV, w.ownsRow base tPh 3 v zs.length (flatK hunkC zs) ∧ zs.length = hs.length ∧ ∀ j (a : j < zs.length) (b : j < hs.length), zs[j].old = hs[j].old ∧ zs[j].new = hs[j].new ∧ OwnL base w zs[j].u hs[j].lines
theorem OwnP.rd {base : Nat} {w : World} {v : Value} {hs : List PH} (h : OwnP base w v hs) : RdP w v hs := by
 obtain ⟨zs, h1, h2, h3⟩ := h
 exact ⟨zs, RdK.of_own hunkC_len h1, h2, fun j a b => ⟨(h3 j a b).1, (h3 j a b).2.1, (h3 j a b).2.2.rd⟩⟩
theorem OwnP.below {base : Nat} {w w' : World} {v : Value} {hs : List PH} (h : OwnP base w v hs) (hb : Below w.heap.size w w') : OwnP base w' v hs := by
 obtain ⟨zs, h1, h2, h3⟩ := h
 exact ⟨zs, ownK_below h1 hb, h2, fun j a b => ⟨(h3 j a b).1, (h3 j a b).2.1, (h3 j a b).2.2.below hb⟩⟩
theorem OwnP.base {base base' : Nat} {w : World} {v : Value} {hs : List PH} (h : OwnP base w v hs) (hb : base' ≤ base) : OwnP base' w v hs := by
 obtain ⟨zs, h1, h2, h3⟩ := h
 exact ⟨zs, ownK_base h1 hb, h2, fun j a b => ⟨(h3 j a b).1, (h3 j a b).2.1, (h3 j a b).2.2.base hb⟩⟩
theorem OwnP.nil (base : Nat) (w : World) : OwnP base w (.slice none 0 0) [] := ⟨[], World.ownsRow_nil _ _ _ _, rfl, fun _ a => absurd a (Nat.not_lt_zero _)⟩
theorem OwnP.form {base : Nat} {w : World} {v : Value} {hs : List PH} (h : OwnP base w v hs) : ∃ A c, v = .slice A hs.length c := h.rd.form
theorem ownK_ne {w : World} {base n n' base' k k' : Nat} {t e : TypeId} {v v' : Value} {xs xs' : List Value} (h : w.ownsRow base e k v n xs) (h' : w.ownsRow base' t k' v' n' xs') (hne : e ≠ t) : v.ownBlock = none ∨ v.ownBlock ≠ v'.ownBlock := by
 rcases h.2 with ⟨rfl, _⟩ | ⟨g, cap, cur, rfl, _, hh, _⟩
 · exact .inl rfl
 · right
   rcases h'.2 with ⟨rfl, _⟩ | ⟨g', cap', cur', rfl, _, hh', _⟩
   · simp [Value.ownBlock]
   · intro hg
     have : g = g' := by simpa [Value.ownBlock] using hg
     subst this
     rw [hh] at hh'
     injection hh' with hh'
     injection hh' with _ ht
     exact hne ht
theorem app_ph {ops : Array Oper} {rest : List Oper} {o : Oper} {a : Act} {Q : Exit → Act → World → Prop} {w : World} (hg : Region.wanted o (yielded ops a.tmps) = true)
 (s x : Operand) (ho : o.op = .call { callee := .builtin .append, args := #[s, x], argTypes := #[tPhs, tPhs] })
 (base : Nat) (hs : List PH) (c : PH) (u : Value) (v : Value) (C : Array Value) (hsv : a.eval s = v) (hown : OwnP base w v hs) (hu : OwnL base w u c.lines)
 {g : Nat} (hz : w.heap.size = g) (hx : a.eval x = .slice (some ⟨g, 0, none⟩) 1 1) (hC : C.toList = [.int .i64 c.old, .int .i64 c.new, u])
 (hsz : hs.length + 1 ≤ 1000000) (hbase : base ≤ w.heap.size)
 (h : ∀ v' w', OwnP base w' v' (hs ++ [c]) → Below base w w' → (w.alloc (.cells C tPh)).grownBy w' v.ownBlock → wpList Tryz.prog ops Q rest (a.put o.dst v') w') :
 wpList Tryz.prog ops Q (o :: rest) a (w.alloc (.cells C tPh)) := by
 obtain ⟨zs, h1, h2, h3⟩ := hown
 obtain ⟨Au, cu, eu⟩ := hu.form
 have hv0 := h1.alloc (.cells C tPh)
 refine app_k (by decide) hg Tryz.underlying24 info_ph rfl (by decide) s x ho base zs.length (flatK hunkC zs) (hunkC ⟨c.old, c.new, u⟩) rfl (one_hv ⟨c.old, c.new, u⟩ _ _ _ eu) v C hsv h1 (by rw [hz]; exact hx) hC (by omega) hbase
  (fun v' w' g1 g2 g3 => h v' w' ⟨zs ++ [⟨c.old, c.new, u⟩], by rw [List.length_append, List.length_singleton, flatK_snoc]; exact g1, by simp [h2], fun j a b => ?_⟩ g2 g3)
 by_cases hj : j < zs.length
 · rw [List.getElem_append_left hj]
   have e : (hs ++ [c])[j] = hs[j]'(by omega) := List.getElem_append_left (by omega)
   rw [e]
   obtain ⟨k1, k2, k3⟩ := h3 j hj (by omega)
   have hr := World.ownsRow.alloc k3 (.cells C tPh)
   exact ⟨k1, k2, hr.kept g3 (ownK_ne hr hv0 (by decide))⟩
 · have hj2 : j = zs.length := by rw [List.length_append, List.length_singleton] at a; omega
   subst hj2
   have e1 : (zs ++ [(⟨c.old, c.new, u⟩ : HV)])[zs.length] = ⟨c.old, c.new, u⟩ := by simp
   have e2 : (hs ++ [c])[zs.length] = c := by simp [h2]
   rw [e1, e2]
   have hr := World.ownsRow.alloc hu (.cells C tPh)
   exact ⟨rfl, rfl, hr.kept g3 (ownK_ne hr hv0 (by decide))⟩
end Uf
end
section
open Go.RowKit
namespace Uf
open Cm Sc Hn
def KeptL (w w' : World) : Prop := ∀ (k : Nat) (cur : Array Value) (e : TypeId) (fz : Nat × Nat), e ≠ tLn → w.heap[k]? = some (Obj.cells cur e fz) → w'.heap[k]? = w.heap[k]?
theorem KeptL.refl (w : World) : KeptL w w := fun _ _ _ _ _ _ => rfl
theorem KeptL.trans {w w' w'' : World} (h : KeptL w w') (h' : KeptL w' w'') : KeptL w w'' := fun k cur e fz h1 h3 => by
 have h4 := h k cur e fz h1 h3
 exact (h' k cur e fz h1 (h4.trans h3)).trans h4
theorem KeptL.of_below {w w' : World} (h : Below w.heap.size w w') : KeptL w w' := fun k _ _ _ _ h3 => h.block k (lt_of_block h3)
theorem KeptL.grown {base : Nat} {w w1 w' : World} {v : Value} {l : List Ln} (ho : OwnL base w v l) (h0 : Below w.heap.size w w1) (h : w1.grownBy w' v.ownBlock) : KeptL w w' := fun k cur e fz h1 h3 => by
 have hlt := lt_of_block h3
 have e1 := h0.block k hlt
 refine (h.block k (Nat.lt_of_lt_of_le hlt h0.size) ?_).trans e1
 rcases ho.2 with ⟨rfl, _⟩ | ⟨g, cap, cur', rfl, _, hh, _⟩
 · simp [Value.ownBlock]
 · intro e2
   have : k = g := by simpa [Value.ownBlock] using e2
   subst this
   rw [h3] at hh
   injection hh with hh
   injection hh with _ ht
   exact h1 ht
def ApPost (base : Nat) (ls : List Ln) (w : World) (e : Ending) (w' : World) : Prop := ∃ v, e = .returned v ∧ OwnL base w' v ls ∧ Below base w w' ∧ KeptL w w'
theorem lnsK_snoc (k : Int) (xs : List ByteArray) (x : ByteArray) : lnsK k (xs ++ [x]) = lnsK k xs ++ [⟨k, x⟩] := by simp [lnsK]
set_option maxRecDepth 100000 in
set_option maxHeartbeats 2000000 in
theorem appendLines_any (base : Nat) (ls : List Ln) (k : Int) (xs : List ByteArray) (v u : Value) (w : World) (ho : OwnL base w v ls) (hr : ∀ w', Below base w w' → RdV w' u (stringsV xs)) (hb : base ≤ w.heap.size) (hl : ls.length + xs.length ≤ 999999) :
 Calls Tryz.prog 78 #[v, .int .u8 k, u] w (ApPost base (ls ++ lnsK k xs) w) := by
 obtain ⟨A, c, rfl⟩ := (hr w (Below.refl _ _)).form
 rw [stringsV_len] at hr ⊢
 have HA : Hid (∀ w', Below base w w' → ∀ j (h : j < xs.length), ∃ b off, A = some ⟨b, off, none⟩ ∧ w'.cell? ⟨b, off + j, none⟩ = some (.string xs[j])) := Lib.hid (fun w' hg j h => by
  obtain ⟨_, b, off, e, hc⟩ := (hr w' hg).at (by rw [stringsV_len]; omega)
  exact ⟨b, off, e, by rw [hc j (by rw [stringsV_len]; exact h)]; simp [stringsV]⟩)
 have HTk : Hid (∀ j (h : j < xs.length), ls ++ lnsK k (xs.take (j + 1)) = (ls ++ lnsK k (xs.take j)) ++ [⟨k, xs[j]⟩]) := Lib.hid (fun j h => by
  rw [List.take_succ_eq_append_getElem h, lnsK_snoc, List.append_assoc])
 have HLn : Hid (∀ j, j ≤ xs.length → (ls ++ lnsK k (xs.take j)).length = ls.length + j) := Lib.hid (fun j h => by
  rw [List.length_append, lnsK_len, List.length_take]; omega)
 have HO := Lib.hid ho
 have HEnd : Hid (∀ v w', OwnL base w' v (ls ++ lnsK k (xs.take xs.length)) → Below base w w' → KeptL w w' → ApPost base (ls ++ lnsK k xs) w (.returned v) w') := Lib.hid (fun v w' h1 h2 h3 => ⟨v, rfl, by rw [List.take_length] at h1; exact h1, h2, h3⟩)
 clear hr ho
 generalize hL : ls.length = L at *
 generalize hN : xs.length = N at hl HLn HEnd ⊢
 have HN := Lib.hid hN
 clear hL hN
 have HS : Hid (OwnL base w v (ls ++ lnsK k (xs.take 0))) := Lib.hid (by
  have : ls ++ lnsK k (xs.take 0) = ls := by simp [lnsK]
  rw [this]; exact HO.out)
 go_enter Tryz.func78, Tryz.ntmps78
 go_wp2_with fail
 go_loopw [0, 11] (fun v' i wr => ∃ j : Nat, j ≤ N ∧ i = .int .i64 j ∧ Hid (OwnL base wr v' (ls ++ lnsK k (xs.take j))) ∧ Hid (Below base w wr) ∧ Hid (KeptL w wr)) (fun _ i _ => N - (intOf i).toNat)
 case atStart => exact ⟨0, Nat.zero_le _, rfl, HS, Lib.hid (Below.refl _ _), Lib.hid (KeptL.refl _)⟩
 case round =>
  obtain ⟨j, hj, rfl, HOj, HB, HK⟩ := hrel
  by_cases hlt : j < N
  · have hx : j < xs.length := by rw [HN.out]; exact hlt
    obtain ⟨b, off, rfl, hc⟩ := HA.out wr HB.out j hx
    have HTj := Lib.hid (HTk.out j hx)
    have hlj := HLn.out j hj
    generalize xs[j] = x at hc HTj
    generalize ls ++ lnsK k (xs.take j) = lj at HOj HTj hlj
    have i1 : (0 : Int) ≤ (j : Int) := by omega
    have i2 : (j : Int) < (N : Int) := by omega
    have hbw : base ≤ wr.heap.size := Nat.le_trans hb HB.out.size
    have hlj2 : lj.length + 1 ≤ 1000000 := by omega
    clear hlj
    go_wp2_with (at_builtin; refine app_ln rfl (.tmp 15) (.tmp 19) rfl base lj ⟨k, x⟩ _ _ rfl HOj.out rfl rfl rfl hlj2 hbw ?_; intro v3 w3 ho3 hb3 hg3; have HO3 := Lib.hid ho3; have HB3 := Lib.hid (HB.out.trans hb3); have HK3 := Lib.hid (HK.out.trans (KeptL.grown HOj.out ((Below.refl _ _).alloc (Nat.le_refl _) _) hg3)); clear ho3 hb3 hg3)
    go_roundw
    case rel => exact ⟨j + 1, by omega, by go_num, by rw [HTj.out]; exact HO3, HB3, HK3⟩
    case measure => simp [intOf]; omega
  · obtain rfl : j = N := by omega
    go_wp2_with fail
    go_ret
    exact HEnd.out _ _ HOj.out HB.out HK.out
set_option maxRecDepth 100000 in
set_option maxHeartbeats 2000000 in
theorem put_any (base : Nat) (ls : List Ln) (k : Int) (xs : List ByteArray) (v u : Value) (w : World) (ho : OwnL base w v ls) (hr : ∀ w', Below base w w' → RdV w' u (stringsV xs)) (hb : base ≤ w.heap.size) (hl : ls.length + xs.length ≤ 999999) :
 Calls Tryz.prog 58 #[v, .int .u8 k, u] w (ApPost base (ls ++ lnsK k xs) w) := by
 obtain ⟨A, c, rfl⟩ := (hr w (Below.refl _ _)).form
 rw [stringsV_len] at hr ⊢
 have HA : Hid (∀ w', Below base w w' → ∀ j (h : j < xs.length), ∃ b off, A = some ⟨b, off, none⟩ ∧ w'.cell? ⟨b, off + j, none⟩ = some (.string xs[j])) := Lib.hid (fun w' hg j h => by
  obtain ⟨_, b, off, e, hc⟩ := (hr w' hg).at (by rw [stringsV_len]; omega)
  exact ⟨b, off, e, by rw [hc j (by rw [stringsV_len]; exact h)]; simp [stringsV]⟩)
 have HTk : Hid (∀ j (h : j < xs.length), ls ++ lnsK k (xs.take (j + 1)) = (ls ++ lnsK k (xs.take j)) ++ [⟨k, xs[j]⟩]) := Lib.hid (fun j h => by
  rw [List.take_succ_eq_append_getElem h, lnsK_snoc, List.append_assoc])
 have HLn : Hid (∀ j, j ≤ xs.length → (ls ++ lnsK k (xs.take j)).length = ls.length + j) := Lib.hid (fun j h => by
  rw [List.length_append, lnsK_len, List.length_take]; omega)
 have HO := Lib.hid ho
 have HEnd : Hid (∀ v w', OwnL base w' v (ls ++ lnsK k (xs.take xs.length)) → Below base w w' → KeptL w w' → ApPost base (ls ++ lnsK k xs) w (.returned v) w') := Lib.hid (fun v w' h1 h2 h3 => ⟨v, rfl, by rw [List.take_length] at h1; exact h1, h2, h3⟩)
 clear hr ho
 generalize hL : ls.length = L at *
 generalize hN : xs.length = N at hl HLn HEnd ⊢
 have HN := Lib.hid hN
 clear hL hN
 have HS : Hid (OwnL base w v (ls ++ lnsK k (xs.take 0))) := Lib.hid (by
  have : ls ++ lnsK k (xs.take 0) = ls := by simp [lnsK]
  rw [this]; exact HO.out)
 go_enter Tryz.func58, Tryz.ntmps58
 go_wp2_with fail
 go_loopw [0, 7] (fun v' i wr => ∃ j : Nat, j ≤ N ∧ i = .int .i64 j ∧ Hid (OwnL base wr v' (ls ++ lnsK k (xs.take j))) ∧ Hid (Below base w wr) ∧ Hid (KeptL w wr)) (fun _ i _ => N - (intOf i).toNat)
 case atStart => exact ⟨0, Nat.zero_le _, rfl, HS, Lib.hid (Below.refl _ _), Lib.hid (KeptL.refl _)⟩
 case round =>
  obtain ⟨j, hj, rfl, HOj, HB, HK⟩ := hrel
  by_cases hlt : j < N
  · have hx : j < xs.length := by rw [HN.out]; exact hlt
    obtain ⟨b, off, rfl, hc⟩ := HA.out wr HB.out j hx
    have HTj := Lib.hid (HTk.out j hx)
    have hlj := HLn.out j hj
    generalize xs[j] = x at hc HTj
    generalize ls ++ lnsK k (xs.take j) = lj at HOj HTj hlj
    have i1 : (0 : Int) ≤ (j : Int) := by omega
    have i2 : (j : Int) < (N : Int) := by omega
    have hbw : base ≤ wr.heap.size := Nat.le_trans hb HB.out.size
    have hlj2 : lj.length + 1 ≤ 1000000 := by omega
    clear hlj
    go_wp2_with (at_builtin; refine app_ln rfl (.tmp 14) (.tmp 21) rfl base lj ⟨k, x⟩ _ _ rfl HOj.out rfl rfl rfl hlj2 hbw ?_; intro v3 w3 ho3 hb3 hg3; have HO3 := Lib.hid ho3; have HB3 := Lib.hid (HB.out.trans hb3); have HK3 := Lib.hid (HK.out.trans (KeptL.grown HOj.out ((Below.refl _ _).alloc (Nat.le_refl _) _) hg3)); clear ho3 hb3 hg3)
    go_roundw
    case rel => exact ⟨j + 1, by omega, by go_num, by rw [HTj.out]; exact HO3, HB3, HK3⟩
    case measure => simp [intOf]; omega
  · obtain rfl : j = N := by omega
    go_wp2_with fail
    go_ret
    exact HEnd.out _ _ HOj.out HB.out HK.out
end Uf
end
section
open Go.RowKit
namespace Uf
open Cm Sc Hn
theorem KeptL.blk {w w' : World} (h : KeptL w w') {G : Nat} {t : TypeId} {l : List Value} (hb : Blk w G t l) (ht : t ≠ tLn) : Blk w' G t l := (h G _ _ _ ht hb).trans hb
theorem blk3 {W : World} {G : Nat} {t : TypeId} {a b c : Value} (h : Blk W G t [a, b, c]) : W.cell? ⟨G, 0, none⟩ = some a ∧ W.cell? ⟨G, 1, none⟩ = some b ∧ W.cell? ⟨G, 2, none⟩ = some c ∧ (∀ k, W.frozen? ⟨G, k, none⟩ = false) ∧ G < W.heap.size :=
 ⟨h.cell (k := 0) (show 0 < 3 by decide), h.cell (k := 1) (show 1 < 3 by decide), h.cell (k := 2) (show 2 < 3 by decide), h.free, h.lt⟩
theorem slice_strs {A : Option Addr} {n c : Nat} {l : List ByteArray} (w : World) (h : RdV w (.slice A n c) (stringsV l)) (a b : Nat) (hab : a ≤ b) (hb : b ≤ l.length) :
 ∃ A', (∀ W : World, Sem.run Tryz.prog (Instr.slice tStrs (.slice A n c) (some (.int .i64 (a : Int))) (some (.int .i64 (b : Int))) none) W = .ok (.slice A' (b - a) (c - a)) W) ∧ ∀ w', RdV w' (.slice A n c) (stringsV l) → RdV w' (.slice A' (b - a) (c - a)) (stringsV (cut l a b)) := by
 have hn : n = l.length := by have := h.len; rw [stringsV_len] at this; exact this
 have hcap : n ≤ c ∧ (A = none → c = 0) := by
  obtain ⟨A', c', e, hc, _⟩ := h
  injection e with e1 e2 e3
  subst e1 e3
  rw [e2]; exact hc
 refine ⟨if c = a then A else A.map (·.add (a * 1)), fun W => ?_, fun w' h => ?_⟩
 · have h1 := run_slice_lh (P := Tryz.prog) (w := W) tStrs A n c (by kernel_rfl) .i64 .i64 (a : Int) (b : Int) (by omega) (by omega) (by omega)
   rw [h1, show (Go.sizeOf (Tryz.prog.elem tStrs)).run Tryz.prog W = .ok 1 W from by kernel_rfl]
   simp only [Result.andThen, sliced, Int.toNat_natCast]
 · refine ⟨_, _, by rw [stringsV_len, cut_len l hb], ⟨by rw [stringsV_len, cut_len l hb]; omega, fun e => ?_⟩, fun hp => ?_⟩
   · split at e
     · have := hcap.2 e; omega
     · cases A with
       | none => have := hcap.2 rfl; omega
       | some a => simp at e
   · rw [stringsV_len, cut_len l hb] at hp
     obtain ⟨_, bl, off, rfl, hc⟩ := h.at (by rw [stringsV_len]; omega)
     refine ⟨bl, off + a, ?_, fun j hj => ?_⟩
     · rw [if_neg (by omega)]
       simp only [Option.map_some, Nat.mul_one, Addr.add]
       split
       · rename_i h0; simp [h0]
       · rfl
     · rw [stringsV_len, cut_len l hb] at hj
       rw [show off + a + j = off + (a + j) from by omega, hc (a + j) (by rw [stringsV_len]; omega)]
       have hg := cut_get l (i := a) (j := b) (k := j) (by omega)
       rw [List.getElem?_eq_getElem (by rw [cut_len l hb]; omega), List.getElem?_eq_getElem (by omega)] at hg
       simp only [stringsV, List.getElem_map]
       rw [Option.some.inj hg]
theorem slice_chs {A : Option Addr} {n c : Nat} {l : List Ch} (w : World) (h : RdC w (.slice A n c) l) (a b : Nat) (hab : a ≤ b) (hb : b ≤ l.length) :
 ∃ A', (∀ W : World, Sem.run Tryz.prog (Instr.slice tChs (.slice A n c) (some (.int .i64 (a : Int))) (some (.int .i64 (b : Int))) none) W = .ok (.slice A' (b - a) (c - a)) W) ∧ ∀ w', RdC w' (.slice A n c) l → RdC w' (.slice A' (b - a) (c - a)) (cut l a b) := by
 have hn : n = l.length := h.len
 have hcap : n ≤ c ∧ (A = none → c = 0) := by
  obtain ⟨A', c', e, hc, _⟩ := h
  injection e with e1 e2 e3
  subst e1 e3
  rw [e2]; exact hc
 refine ⟨if c = a then A else A.map (·.add (a * 4)), fun W => ?_, fun w' h => ?_⟩
 · have h1 := run_slice_lh (P := Tryz.prog) (w := W) tChs A n c (by kernel_rfl) .i64 .i64 (a : Int) (b : Int) (by omega) (by omega) (by omega)
   rw [h1, show (Go.sizeOf (Tryz.prog.elem tChs)).run Tryz.prog W = .ok 4 W from by kernel_rfl]
   simp only [Result.andThen, sliced, Int.toNat_natCast]
 · refine ⟨_, _, by rw [cut_len l hb], ⟨by rw [cut_len l hb]; omega, fun e => ?_⟩, fun hp => ?_⟩
   · split at e
     · have := hcap.2 e; omega
     · cases A with
       | none => have := hcap.2 rfl; omega
       | some a => simp at e
   · rw [cut_len l hb] at hp
     obtain ⟨A2, c2, e, _, hc0⟩ := h
     injection e with e1 e2 e3
     subst e1 e3
     obtain ⟨bl, off, rfl, hc1⟩ := hc0 (by omega)
     refine ⟨bl, off + a * 4, ?_, fun j hj i hi => ?_⟩
     · rw [if_neg (by omega)]
       simp only [Option.map_some, Addr.add]
       split
       · rename_i h0; rw [h0]; rfl
       · rfl
     · rw [cut_len l hb] at hj
       have hg := cut_get l (i := a) (j := b) (k := j) (by omega)
       rw [List.getElem?_eq_getElem (by rw [cut_len l hb]; omega), List.getElem?_eq_getElem (by omega)] at hg
       have hg := Option.some.inj hg
       have h5 := hc1 (a + j) (by omega) i (by rw [chC_len]; exact hi)
       rw [show off + a * 4 + j * 4 + i = off + (a + j) * 4 + i from by omega, h5]
       simp only [hg]
abbrev tDf : TypeId := 79
set_option maxRecDepth 100000 in
set_option maxHeartbeats 4000000 in
theorem lines_any (x y : List ByteArray) (l : List Ch) (vx vy vl : Value) (p q oF nF oT nT : Nat) (w : World) (hx : RdV w vx (stringsV x)) (hy : RdV w vy (stringsV y)) (hl : RdC w vl l) (hlx : x.length ≤ 5000) (hly : y.length ≤ 5000) (hll : l.length ≤ 100000)
 (hpq : p ≤ q) (hq : q ≤ l.length) (hf : Lf x y oF nF (cut l p q) oT nT) :
 Calls Tryz.prog 48 #[.agg #[vx, vy, vl], hkA ⟨p, q, oF, oT, nF, nT⟩] w (ApPost w.heap.size (lnsF x y oF (cut l p q) oT) w) := by
 have HX := Lib.hid (fun w' (hb : Below w.heap.size w w') => hx.below hb)
 have HY := Lib.hid (fun w' (hb : Below w.heap.size w w') => hy.below hb)
 obtain ⟨Ax, cx, rfl⟩ := hx.form
 obtain ⟨Ay, cy, rfl⟩ := hy.form
 obtain ⟨Al, cl, rfl⟩ := hl.form
 rw [stringsV_len] at HX HY hx hy ⊢
 rw [stringsV_len]
 obtain ⟨A2, hs2, hr2⟩ := slice_chs w hl p q hpq hq
 have HC := Lib.hid (fun w' (hb : Below w.heap.size w w') => hr2 w' (hl.below hb))
 have HSx := Lib.hid (fun a b h1 h2 => slice_strs w hx a b h1 h2)
 have HSy := Lib.hid (fun a b h1 h2 => slice_strs w hy a b h1 h2)
 have hcl := cut_len l (i := p) hq
 have HF := Lib.hid hf
 have HAp := Lib.hid (fun (base : Nat) (ls : List Ln) (k : Int) (xs : List ByteArray) (v u : Value) (wq : World) (ho : OwnL base wq v ls) (hr : ∀ w', Below base wq w' → RdV w' u (stringsV xs)) (hb : base ≤ wq.heap.size) (hl : ls.length + xs.length ≤ 999999) =>
  appendLines_any base ls k xs v u wq ho hr hb hl)
 clear hx hy hl hf hr2
 obtain ⟨N, hN⟩ : ∃ N, N = q - p := ⟨_, rfl⟩
 rw [← hN] at hs2 HC hcl
 have hp0 : (0 : Int) ≤ (p : Int) := by omega
 generalize hcs : cut l p q = cs at *
 generalize l.length = L at *
 have HNl := Lib.hid hcl
 have hNb : N ≤ 100000 := by omega
 clear hcl hN hcs
 have HRnd : Hid (∀ j (h : j < cs.length), ∃ o ol nw nl nx : Nat, cs[j] = ⟨o, ol, nw, nl⟩ ∧ nx = lstO oF (cs.take j) ∧ nx ≤ o ∧ o + ol ≤ x.length ∧ nw + nl ≤ y.length ∧ lstO oF (cs.take (j + 1)) = o + ol ∧
  lnsP x y oF (cs.take (j + 1)) = lnsP x y oF (cs.take j) ++ lnsK 32 (cut x nx o) ++ lnsK 45 (cut x o (o + ol)) ++ lnsK 43 (cut y nw (nw + nl))) := Lib.hid (fun j h => by
  have e : cs = cs.take j ++ cs[j] :: cs.drop (j + 1) := by rw [← List.drop_eq_getElem_cons h, List.take_append_drop]
  have hR : Lf x y oF nF (cs.take j ++ cs[j] :: cs.drop (j + 1)) oT nT := by rw [← e]; exact HF.out
  have hR := Lf.rest hR
  obtain ⟨o, ol, nw, nl, ec, g1, g2, g3, g4, g5, g6⟩ := hR
  have hl6 := g6.le
  refine ⟨o, ol, nw, nl, lstO oF (cs.take j), ec, rfl, g1, by omega, by omega, ?_, ?_⟩
  · rw [List.take_succ_eq_append_getElem h, (lst_snoc _ _ oF 0).1, ec]; exact nat_add o ol
  · rw [List.take_succ_eq_append_getElem h, lnsP_snoc, ec]
    simp only [nat_add, Int.toNat_natCast])
 have HLen : Hid (∀ j, (lnsP x y oF (cs.take j)).length ≤ 10000) := Lib.hid (fun j => by
  have h1 := HF.out.lenP
  have h2 := HF.out.le
  have h3 := lnsP_app (x := x) (y := y) (cs.take j) (cs.drop j) oF
  rw [List.take_append_drop] at h3
  rw [h3, List.length_append] at h1
  omega)
 have HFin : Hid (lstO oF cs ≤ oT ∧ oT ≤ x.length ∧ (lnsP x y oF cs).length ≤ 10000 ∧ lnsF x y oF cs oT = lnsP x y oF cs ++ lnsK 32 (cut x (lstO oF cs) oT)) := Lib.hid (by
  have h1 := HLen.out cs.length
  rw [List.take_length] at h1
  have hR : Lf x y oF nF (cs ++ []) oT nT := by rw [List.append_nil]; exact HF.out
  have h2 := (Lf.rest hR).le
  exact ⟨h2.1, HF.out.le.2.2.1, h1, lnsF_P _ _ _⟩)
 have HEnd : Hid (∀ (W : World) v w', Below w.heap.size w W → OwnL W.heap.size w' v (lnsP x y oF cs ++ lnsK 32 (cut x (lstO oF cs) oT)) → Below W.heap.size W w' → KeptL W w' → ApPost w.heap.size (lnsF x y oF cs oT) w (.returned v) w') := Lib.hid (fun W v w' h0 h1 h2 h3 => ⟨v, rfl, by rw [HFin.out.2.2.2]; exact h1.base h0.size, h0.trans (h2.mono h0.size), (KeptL.of_below h0).trans h3⟩)
 have HW0 : Hid (Below w.heap.size w ((w.alloc (.cells #[.slice Ax x.length cx, .slice Ay y.length cy, .slice Al L cl] tDf)).alloc (.cells #[.int .i64 p, .int .i64 q, .int .i64 oF, .int .i64 oT, .int .i64 nF, .int .i64 nT] tHk)) ∧
  Blk ((w.alloc (.cells #[.slice Ax x.length cx, .slice Ay y.length cy, .slice Al L cl] tDf)).alloc (.cells #[.int .i64 p, .int .i64 q, .int .i64 oF, .int .i64 oT, .int .i64 nF, .int .i64 nT] tHk)) w.heap.size tDf [.slice Ax x.length cx, .slice Ay y.length cy, .slice Al L cl] ∧
  Blk ((w.alloc (.cells #[.slice Ax x.length cx, .slice Ay y.length cy, .slice Al L cl] tDf)).alloc (.cells #[.int .i64 p, .int .i64 q, .int .i64 oF, .int .i64 oT, .int .i64 nF, .int .i64 nT] tHk)) (w.heap.size + 1) tHk [.int .i64 p, .int .i64 q, .int .i64 oF, .int .i64 oT, .int .i64 nF, .int .i64 nT]) := Lib.hid (by
  refine ⟨((Below.refl _ _).alloc (Nat.le_refl _) _).alloc (by simp) _, ?_, ?_⟩
  · exact Blk.alloc (heap_new w _) _
  · have h := heap_new (w.alloc (.cells #[.slice Ax x.length cx, .slice Ay y.length cy, .slice Al L cl] tDf)) (.cells #[.int .i64 p, .int .i64 q, .int .i64 oF, .int .i64 oT, .int .i64 nF, .int .i64 nT] tHk)
    have e : (w.alloc (.cells #[.slice Ax x.length cx, .slice Ay y.length cy, .slice Al L cl] tDf)).heap.size = w.heap.size + 1 := by simp
    rw [e] at h
    exact h)
 generalize x.length = X at *
 generalize y.length = Y at *
 go_enter Tryz.func48, Tryz.ntmps48
 go_wp2_with fail
 obtain ⟨W, hW⟩ : ∃ W, W = (w.alloc (.cells #[.slice Ax X cx, .slice Ay Y cy, .slice Al L cl] tDf)).alloc (.cells #[.int .i64 p, .int .i64 q, .int .i64 oF, .int .i64 oT, .int .i64 nF, .int .i64 nT] tHk) := ⟨_, rfl⟩
 rw [← hW] at HW0 ⊢
 clear hW hs2
 obtain ⟨hw1, hw2, hw3⟩ := HW0.out
 have HB0 := Lib.hid hw1
 have HD0 := Lib.hid hw2
 have HH0 := Lib.hid hw3
 clear hw1 hw2 hw3 HW0
 go_loopw [5, 6, 20] (fun v' nx' i wr => ∃ j : Nat, j ≤ N ∧ i = .int .i64 j ∧ nx' = .int .i64 (lstO oF (cs.take j) : Nat) ∧ Hid (OwnL W.heap.size wr v' (lnsP x y oF (cs.take j))) ∧ Hid (Below W.heap.size W wr) ∧ Hid (KeptL W wr)) (fun _ _ i _ => N - (intOf i).toNat)
 case atStart => exact ⟨0, Nat.zero_le _, rfl, rfl, Lib.hid (OwnL.nil _ _), Lib.hid (Below.refl _ _), Lib.hid (KeptL.refl _)⟩
 case round =>
  obtain ⟨j, hj, rfl, rfl, HO, HB, HK⟩ := hrel
  have HDr := Lib.hid (HK.out.blk HD0.out (by decide))
  have HHr := Lib.hid (HK.out.blk HH0.out (by decide))
  have HBw := Lib.hid (HB0.out.trans (HB.out.mono HB0.out.size))
  have d0 := HDr.out.cell (k := 0) (show 0 < 3 by decide)
  have d1 := HDr.out.cell (k := 1) (show 1 < 3 by decide)
  simp only [List.getElem_cons_zero, List.getElem_cons_succ] at d0 d1
  by_cases hlt : j < N
  · have hx : j < cs.length := by rw [HNl.out]; exact hlt
    obtain ⟨o, ol, nw, nl, nx, ec, hnx, h1, h2, h3, hn1, hP⟩ := HRnd.out j hx
    have HP := Lib.hid hP
    have HN1 := Lib.hid hn1
    have hlen := HLen.out (j + 1)
    rw [hP] at hlen
    simp only [List.length_append, lnsK_len] at hlen
    rw [← hnx]
    obtain ⟨bl, off, rfl, c0, c1, c2, c3⟩ := RdC_at (HC.out wr HBw.out) j hx
    rw [ec] at c0 c1 c2 c3
    simp only at c0 c1 c2 c3
    obtain ⟨B1, s1, r1⟩ := HSx.out nx o h1 (by omega)
    obtain ⟨B2, s2, r2⟩ := HSx.out o (o + ol) (by omega) h2
    obtain ⟨B3, s3, r3⟩ := HSy.out nw (nw + nl) (by omega) h3
    have i1 : (0 : Int) ≤ (j : Int) := by omega
    have i2 : (j : Int) < (N : Int) := by omega
    rw [Int.natCast_add] at s2 s3
    rw [Nat.add_sub_cancel_left] at s2 s3 r2 r3
    have HX1 := Lib.hid (fun w' (hb : Below w.heap.size w w') => r1 w' (HX.out w' hb))
    have HX2 := Lib.hid (fun w' (hb : Below w.heap.size w w') => r2 w' (HX.out w' hb))
    have HY3 := Lib.hid (fun w' (hb : Below w.heap.size w w') => r3 w' (HY.out w' hb))
    clear r1 r2 r3 ec hnx hP hn1
    generalize lnsP x y oF (cs.take j) = P0 at HO HP hlen
    generalize cut x nx o = X1 at HX1 HP hlen
    generalize cut x o (o + ol) = X2 at HX2 HP hlen
    generalize cut y nw (nw + nl) = Y3 at HY3 HP hlen
    have hxb : o + ol ≤ 5000 := by omega
    have hyb : nw + nl ≤ 5000 := by omega
    have hw1 : IntKind.i64.wrap ((o : Int) + (ol : Int)) = (o : Int) + (ol : Int) := IntWalk.i64_in _ (by omega)
    have hw2 : IntKind.i64.wrap ((nw : Int) + (nl : Int)) = (nw : Int) + (nl : Int) := IntWalk.i64_in _ (by omega)
    go_upto_region 6 with fail
    have HB1 := Lib.hid (HB.out.alloc HB.out.size (.cells #[.int .i64 (o : Int), .int .i64 (ol : Int), .int .i64 (nw : Int), .int .i64 (nl : Int)] tCh))
    have HK1 := Lib.hid (HK.out.trans (KeptL.of_below ((Below.refl _ wr).alloc (Nat.le_refl _) (.cells #[.int .i64 (o : Int), .int .i64 (ol : Int), .int .i64 (nw : Int), .int .i64 (nl : Int)] tCh))))
    have HC1 : Hid (Blk (wr.alloc (.cells #[.int .i64 (o : Int), .int .i64 (ol : Int), .int .i64 (nw : Int), .int .i64 (nl : Int)] tCh)) wr.heap.size tCh [.int .i64 (o : Int), .int .i64 (ol : Int), .int .i64 (nw : Int), .int .i64 (nl : Int)]) := Lib.hid (heap_new wr _)
    have HO1 := Lib.hid (World.ownsRow.alloc HO.out (.cells #[.int .i64 (o : Int), .int .i64 (ol : Int), .int .i64 (nw : Int), .int .i64 (nl : Int)] tCh))
    obtain ⟨W1, hW1⟩ : ∃ W1, W1 = wr.alloc (.cells #[.int .i64 (o : Int), .int .i64 (ol : Int), .int .i64 (nw : Int), .int .i64 (nl : Int)] tCh) := ⟨_, rfl⟩
    rw [← hW1] at HB1 HK1 HC1 HO1 ⊢
    clear hW1 HO HB HK HDr HHr HBw c0 c1 c2 c3 d0 d1
    have hsz1 : wr.heap.size < W1.heap.size := HC1.out.lt
    have HD1 := Lib.hid (HK1.out.blk HD0.out (by decide))
    have HB1w := Lib.hid (HB0.out.trans (HB1.out.mono HB0.out.size))
    have d0 := HD1.out.cell (k := 0) (show 0 < 3 by decide)
    have c0 := HC1.out.cell (k := 0) (show 0 < 4 by decide)
    have c1 := HC1.out.cell (k := 1) (show 1 < 4 by decide)
    simp only [List.getElem_cons_zero, List.getElem_cons_succ] at d0 c0 c1
    generalize wr.heap.size = G at *
    go_upto_region 7 with (go_at_call 78; refine (HAp.out W.heap.size P0 32 X1 _ _ W1 HO1.out (fun w' hb => HX1.out w' (HB1w.out.trans (hb.mono HB0.out.size))) HB1.out.size (by omega)).mono ?_; rintro e W2 ⟨v2, rfl, ho2, hb2, hk2⟩; have HO2 := Lib.hid ho2; have HB2 := Lib.hid (HB1.out.trans hb2); have HK2 := Lib.hid (HK1.out.trans hk2); have HC2 := Lib.hid (hk2.blk HC1.out (by decide)); clear ho2 hb2 hk2)
    clear HO1 HB1 HK1 HC1 HD1 HB1w d0 c0 c1
    have HD2 := Lib.hid (HK2.out.blk HD0.out (by decide))
    have HB2w := Lib.hid (HB0.out.trans (HB2.out.mono HB0.out.size))
    have d0 := HD2.out.cell (k := 0) (show 0 < 3 by decide)
    have c0 := HC2.out.cell (k := 0) (show 0 < 4 by decide)
    have c1 := HC2.out.cell (k := 1) (show 1 < 4 by decide)
    simp only [List.getElem_cons_zero, List.getElem_cons_succ] at d0 c0 c1
    go_upto_region 9 with (go_at_call 78; refine (HAp.out W.heap.size (P0 ++ lnsK 32 X1) 45 X2 _ _ W2 HO2.out (fun w' hb => HX2.out w' (HB2w.out.trans (hb.mono HB0.out.size))) HB2.out.size (by rw [List.length_append, lnsK_len]; omega)).mono ?_; rintro e W3 ⟨v3, rfl, ho3, hb3, hk3⟩; have HO3 := Lib.hid ho3; have HB3 := Lib.hid (HB2.out.trans hb3); have HK3 := Lib.hid (HK2.out.trans hk3); have HC3 := Lib.hid (hk3.blk HC2.out (by decide)); clear ho3 hb3 hk3)
    clear HO2 HB2 HK2 HC2 HD2 HB2w d0 c0 c1
    have HD3 := Lib.hid (HK3.out.blk HD0.out (by decide))
    have HB3w := Lib.hid (HB0.out.trans (HB3.out.mono HB0.out.size))
    have d1 := HD3.out.cell (k := 1) (show 1 < 3 by decide)
    have c2 := HC3.out.cell (k := 2) (show 2 < 4 by decide)
    have c3 := HC3.out.cell (k := 3) (show 3 < 4 by decide)
    simp only [List.getElem_cons_zero, List.getElem_cons_succ] at d1 c2 c3
    go_upto_region 10 with (go_at_call 78; refine (HAp.out W.heap.size (P0 ++ lnsK 32 X1 ++ lnsK 45 X2) 43 Y3 _ _ W3 HO3.out (fun w' hb => HY3.out w' (HB3w.out.trans (hb.mono HB0.out.size))) HB3.out.size (by rw [List.length_append, List.length_append, lnsK_len, lnsK_len]; omega)).mono ?_; rintro e W4 ⟨v4, rfl, ho4, hb4, hk4⟩; have HO4 := Lib.hid ho4; have HB4 := Lib.hid (HB3.out.trans hb4); have HK4 := Lib.hid (HK3.out.trans hk4); clear ho4 hb4 hk4)
    go_wp2_with fail
    go_roundw
    case rel => exact ⟨j + 1, by omega, by go_num, by rw [HN1.out]; go_num, by rw [HP.out]; exact HO4, HB4, HK4⟩
    case measure => simp [intOf]; omega
  · obtain rfl : j = N := by omega
    have hh3 := HHr.out.cell (k := 3) (show 3 < 6 by decide)
    simp only [List.getElem_cons_zero, List.getElem_cons_succ] at hh3
    have hjj : cs.take j = cs := by rw [← HNl.out, List.take_length]
    rw [hjj] at HO ⊢
    obtain ⟨f1, f2, f3, f4⟩ := HFin.out
    obtain ⟨B5, s5, r5⟩ := HSx.out (lstO oF cs) oT f1 (by omega)
    have HX5 := Lib.hid (fun w' (hb : Below w.heap.size w w') => r5 w' (HX.out w' hb))
    have hbw : W.heap.size ≤ wr.heap.size := HB.out.size
    have hl5 : (lnsP x y oF cs).length + (cut x (lstO oF cs) oT).length ≤ 999999 := by
     have : (cut x (lstO oF cs) oT).length ≤ oT - lstO oF cs := by unfold cut; rw [List.length_take]; omega
     omega
    clear r5 f4 hjj
    go_wp2_with (go_at_call 78; refine (HAp.out W.heap.size _ 32 _ _ _ wr HO.out (fun w' hb => HX5.out w' (HBw.out.trans (hb.mono HB0.out.size))) hbw hl5).mono ?_; rintro e W2 ⟨v2, rfl, ho2, hb2, hk2⟩; have HO2 := Lib.hid ho2; have HB2 := Lib.hid (HB.out.trans hb2); have HK2 := Lib.hid (HK.out.trans hk2); clear ho2 hb2 hk2)
    go_ret
    exact HEnd.out W _ _ HB0.out HO2.out HB2.out HK2.out
end Uf
end
end Go.Proofs.YtjecfmbecgpbmaaGreatDoor

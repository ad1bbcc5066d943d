/-
  Walk of layer 1: Words. Condition: the text has at most 2^20 bytes.
-/
import Derived.Test.YtgfinppppgpleaaDoorScanWords
namespace Go.Proofs.YtgfinppppgpleaaDoor
open Go.RowKit
namespace Sc
abbrev strV (l : List UInt8) : Value := .string ⟨l.toArray⟩
def strsV (l : List (List UInt8)) : List Value := l.map strV
theorem strsV_append (a b : List (List UInt8)) : strsV (a ++ b) = strsV a ++ strsV b := by simp [strsV]
theorem strsV_len (a : List (List UInt8)) : (strsV a).length = a.length := by simp [strsV]
theorem info_str : (Tryd.prog.info? 9).map (fun i => (i.zero, i.size, i.bytes)) = some (some (.string ⟨#[]⟩), 1, 16) := by kernel_rfl
theorem below_of_appendS {w w' : World} {base : Nat} {v : Value} {n : Nat} {xs : List Value} (hown : w.ownsRow base 9 1 v n xs) (hg : w.grownBy w' v.ownBlock) (hb : base ≤ w.heap.size) : Below base w w' :=
  (Below.refl _ _).grown hg hb (fun k hk => by
    rcases hown.2 with ⟨rfl, _⟩ | ⟨g, cap, cur, rfl, hg', _⟩
    · simp [Value.ownBlock] at hk
    · simp [Value.ownBlock] at hk; omega)
/-- The row that a slice of strings owns is none of another element type. -/
theorem own_ne {w : World} {base g : Nat} {t : TypeId} {cs : Array Value} {v : Value} {n : Nat} {xs : List Value} (h : w.ownsRow base 9 1 v n xs) (hg : Blk w g t cs) (hne : 9 ≠ t) : v.ownBlock ≠ some g := by
  rcases h.2 with ⟨rfl, _⟩ | ⟨g', cap, cur, rfl, _, hh, _⟩
  · simp [Value.ownBlock]
  · intro he
    have : g' = g := by simpa [Value.ownBlock] using he
    subst this
    unfold Blk at hg
    rw [hh] at hg
    injection hg with hg
    injection hg with _ ht
    exact hne ht
theorem app_newS {ops : Array Oper} {rest : List Oper} {o : Oper} {a : Act} {Q : Exit → Act → World → Prop} {w : World} {C : Array Value} (hgd : o.guard = none) (s x : Operand)
    (ho : o.op = .call { callee := .builtin .append, args := #[s, x], argTypes := #[39, 39] })
    (base : Nat) (l : List (List UInt8)) (m : List UInt8) (v : Value) (hs : a.eval s = v) (hown : w.ownsRow base 9 1 v l.length (strsV l))
    (hx : a.eval x = .slice (some ⟨w.heap.size, 0, none⟩) 1 1) (hC : C.toList = [strV m])
    (hsz : l.length + 1 ≤ 100000000) (hbase : base ≤ w.heap.size)
    (h : ∀ v' w', w'.ownsRow base 9 1 v' (l ++ [m]).length (strsV (l ++ [m])) → Below base w w' → (w.alloc (.cells C 9)).grownBy w' v.ownBlock → wpList Tryd.prog ops Q rest (a.put o.dst v') w') :
    wpList Tryd.prog ops Q (o :: rest) a (w.alloc (.cells C 9)) := by
  obtain ⟨i0, hi0, hz0, hz1, hz2⟩ := info_parts info_str
  have hsize : (w.alloc (.cells C 9)).heap.size = w.heap.size + 1 := by simp
  refine wpList_append_own _ hgd s x _ ho base 9 i0 _ 1 16 Tryd.underlying39 hi0 hz0 hz1 hz2 rfl (by omega) v l.length (strsV l) hs (hown.alloc _) ⟨w.heap.size, 0, none⟩ 1 1 [strV m] hx
    rfl (fun j u hu => ?_) ?_ (by unfold maxLen; omega) (by omega) (by omega) ?_
  · have he : (Addr.mk w.heap.size 0 none).add j = ⟨w.heap.size, j, none⟩ := by
      unfold Addr.add; split
      · rename_i h0; rw [h0]
      · simp
    rw [he, World.cell?_alloc_mark, ← hu, ← hC]; simp
  · intro u hu
    simp only [List.mem_singleton] at hu
    subst hu
    rfl
  · intro v' w' h1 h2 _
    exact h v' w' (by rw [strsV_append, List.length_append]; exact h1) (((Below.refl base w).alloc hbase _).trans (below_of_appendS (hown.alloc _) h2 (by omega))) h2
theorem own_belowS {w w' : World} {base : Nat} {v : Value} {n : Nat} {xs : List Value} (h : w.ownsRow base 9 1 v n xs) (hb : Below w.heap.size w w') : w'.ownsRow base 9 1 v n xs :=
  h.kept (row := none) ⟨hb.os, hb.tape, hb.output, hb.size, fun k hk _ => hb.block k hk⟩ (by cases v.ownBlock <;> simp)
theorem own_setCell {w : World} {base g : Nat} {v : Value} {n : Nat} {xs : List Value} (h : w.ownsRow base 9 1 v n xs) (hne : v.ownBlock ≠ some g) (u : Value) (i : Nat) : (w.setCell ⟨g, i, none⟩ u).ownsRow base 9 1 v n xs :=
  h.kept (row := some g) ⟨rfl, rfl, rfl, by simp [World.setCell], fun k hk hk2 => Below.heap_setCell _ _ _ _ (by intro e; apply hk2; rw [e])⟩ (.inr hne)
theorem own_form {w : World} {base : Nat} {v : Value} {n : Nat} {xs : List Value} (h : w.ownsRow base 9 1 v n xs) : ∃ A c, v = .slice A n c := by
  rcases h.2 with ⟨rfl, rfl⟩ | ⟨g, cap, cur, rfl, _⟩
  · exact ⟨none, 0, rfl⟩
  · exact ⟨_, cap, rfl⟩
/-- How far the reader is, as its memory says. -/
def kOf (w : World) (g : Nat) : Nat := match w.cell? ⟨g, 1, none⟩ with | some v => (intOf v).toNat | none => 0
theorem kOf_rdr {w : World} {g : Nat} {s : ByteArray} {k : Nat} (h : Rdr w g s k) : kOf w g = k := by
  have : w.cell? ⟨g, 1, none⟩ = some (.int .i64 (k : Int)) := h.cell 1
  unfold kOf; rw [this]; simp [intOf]
/-- What Words leaves. -/
def WordsPost (w : World) (r : Option (List (List UInt8))) (e : Ending) (w' : World) : Prop :=
  match r with
  | none => e = .returned (.tuple #[.slice none 0 0, .bool false]) ∧ Below w.heap.size w w'
  | some ws => ∃ v, e = .returned (.tuple #[v, .bool true]) ∧ w'.ownsRow w.heap.size 9 1 v ws.length (strsV ws) ∧ Below w.heap.size w w'
theorem after_word {w wr w1 w2 : World} {s : ByteArray} {k e : Nat} {v : Value} {n : Nat} {xs : List Value} (ho : wr.ownsRow w.heap.size 9 1 v n xs) (hr : Rdr wr w.heap.size s k) (hnx : Below w.heap.size w wr) (hb : Below wr.heap.size wr w1)
    (hw : w2 = w1.setCell ⟨w.heap.size, 1, none⟩ (.int .i64 (e : Int))) : Hid (w2.ownsRow w.heap.size 9 1 v n xs) ∧ Hid (Rdr w2 w.heap.size s e) ∧ Below w.heap.size w w2 := by
  subst hw
  have hr1 : Rdr w1 w.heap.size s k := Blk.below hr hb
  have ho1 := own_belowS ho hb
  exact ⟨Lib.hid (own_setCell ho1 (own_ne ho1 hr1 (by decide)) _ _), Lib.hid (hr1.set e), (hnx.trans (hb.mono hnx.size)).setCell (Nat.le_refl _) _⟩
theorem rdr_app {w2 w3 : World} {base g : Nat} {C : Array Value} {s : ByteArray} {e : Nat} {v : Value} {n : Nat} {xs : List Value} (ho : w2.ownsRow base 9 1 v n xs) (hr : Rdr w2 g s e) (hg : (w2.alloc (.cells C 9)).grownBy w3 v.ownBlock) : Hid (Rdr w3 g s e) := by
  have hne := own_ne ho hr (by decide)
  have hlt := hr.lt
  refine Lib.hid ((hg.block g (by simp; omega) (fun h => hne h.symm)).trans ?_)
  exact (Below.heap_alloc _ _ _ hlt).trans hr
set_option maxRecDepth 100000 in
set_option maxHeartbeats 2000000 in
theorem Words_any (s : ByteArray) (w : World) (hs : s.size ≤ 1048576) : Calls Tryd.prog 24 #[.string s] w (WordsPost w (wordsF (bs s))) := by
  by_cases h0 : bs s = []
  · have HW : Hid (wordsF (bs s) = some []) := Lib.hid (by unfold wordsF; rw [if_pos h0])
    have e0 : s.toList = [] := by rw [ByteArray.toList_eq]; exact h0
    have e1 : s.toList.isEmpty = true := by rw [e0]; rfl
    clear h0
    rw [HW.out]
    go_enter Tryd.func24, Tryd.ntmps24
    go_wp2_with fail
    go_ret2
    exact ⟨_, rfl, World.ownsRow_nil _ _ _ _, Below.refl _ _⟩
  · have HW : Hid (wordsF (bs s) = wordsRun ((bs s).length + 1) (bs s) 0 []) := Lib.hid (by unfold wordsF; rw [if_neg h0])
    have e0 : ¬ s.toList = [] := by rw [ByteArray.toList_eq]; exact h0
    have e1 : s.toList.isEmpty = false := by simpa using e0
    clear h0
    go_enter Tryd.func24, Tryd.ntmps24
    go_wp2_with fail
    go_loopw [6] (fun v wr => ∃ (k f : Nat) (acc : List (List UInt8)), k ≤ s.size ∧ s.size < k + f ∧ acc.length ≤ k ∧ Hid (wr.ownsRow w.heap.size 9 1 v acc.length (strsV acc)) ∧ Hid (Rdr wr w.heap.size s k) ∧
        Hid (wordsRun f (bs s) k acc = wordsRun ((bs s).length + 1) (bs s) 0 []) ∧ Below w.heap.size w wr) (fun _ wr => s.size + 1 - kOf wr w.heap.size)
    case atStart => exact ⟨0, (bs s).length + 1, [], Nat.zero_le _, by rw [bs_len]; omega, Nat.zero_le _, Lib.hid (World.ownsRow_nil _ _ _ _), Lib.hid (heap_alloc_new w _), Lib.hid rfl, (Below.refl _ _).alloc (Nat.le_refl _) _⟩
    case round =>
      obtain ⟨k, f, acc, hk, hf, hacc, HO, HRd, HR, hnx⟩ := hrel
      have hsz := hnx.size
      cases hu : unqF (bs s) k with
      | none =>
        have HN : Hid (wordsF (bs s) = none) := Lib.hid (by rw [HW.out, ← HR.out]; exact wr_none f _ k acc hu)
        have HC := Lib.hid (word_no s k w.heap.size wr hs HRd.out hu)
        rw [HN.out]
        clear hu
        go_wp2_with (go_at_call 35; refine HC.out.mono ?_; rintro e w1 ⟨rfl, hb⟩)
        go_ret2
        exact ⟨rfl, hnx.trans (hb.mono hsz)⟩
      | some p =>
        obtain ⟨t, e⟩ := p
        obtain ⟨hke, hes⟩ := unqF_le _ _ _ _ hu
        rw [bs_len] at hes
        obtain ⟨f, rfl⟩ : ∃ f', f = f' + 1 := ⟨f - 1, by omega⟩
        have HC := Lib.hid (word_yes s k w.heap.size e t wr hs HRd.out hu)
        by_cases hend : e = s.size
        · have HS := Lib.hid (wr_end f _ k e t acc hu (by rw [bs_len]; exact hend))
          have HN : Hid (wordsF (bs s) = some (acc ++ [t])) := Lib.hid (by rw [HW.out, ← HR.out]; exact HS.out)
          have e2 : ((e : Int) == (s.size : Int)) = true := by simp only [beq_iff_eq]; omega
          rw [HN.out]
          clear hu hend
          go_wp2_with (first
            | (go_at_call 35; refine HC.out.mono ?_; rintro en w2 ⟨w1, hb, rfl, hw2⟩; obtain ⟨HO2, HR2, hb2⟩ := after_word HO.out HRd.out hnx hb hw2; clear hw2 hb; have hsz2 := hb2.size)
            | (at_builtin; refine app_newS rfl (.tmp 23) (.tmp 25) rfl w.heap.size acc t _ rfl HO2.out rfl rfl (by omega) hsz2 ?_; intro v3 w3 ho3 hb3 hg3; have HO3 := Lib.hid ho3; have HR3 := rdr_app HO2.out HR2.out hg3; clear ho3 hg3; have hc3 : w3.cell? ⟨w.heap.size, 1, none⟩ = some (.int .i64 (e : Int)) := HR3.out.cell 1; have hz3 := HR3.out.frozen 1))
          go_ret2
          exact ⟨v3, rfl, HO3.out, hb2.trans hb3⟩
        · have e2 : ((e : Int) == (s.size : Int)) = false := by simp only [beq_eq_false_iff_ne, ne_eq]; omega
          have hlt : e < s.size := by omega
          have hge : (bs s)[e]? = some s[e] := bs_get? s e hlt
          by_cases h32 : s[e] = 32
          · have e3 : ((s[e].toNat : Int) != 32) = false := by rw [h32]; rfl
            have HS := Lib.hid (wr_step f _ k e t acc hu (by rw [bs_len]; exact hend) (by rw [hge, h32]))
            clear hu hend hge h32
            go_wp2_with (first
              | (go_at_call 35; refine HC.out.mono ?_; rintro en w2 ⟨w1, hb, rfl, hw2⟩; obtain ⟨HO2, HR2, hb2⟩ := after_word HO.out HRd.out hnx hb hw2; clear hw2 hb; have hsz2 := hb2.size)
              | (at_builtin; refine app_newS rfl (.tmp 23) (.tmp 25) rfl w.heap.size acc t _ rfl HO2.out rfl rfl (by omega) hsz2 ?_; intro v3 w3 ho3 hb3 hg3; have HO3 := Lib.hid ho3; have HR3 := rdr_app HO2.out HR2.out hg3; clear ho3 hg3; have hc3 : w3.cell? ⟨w.heap.size, 1, none⟩ = some (.int .i64 (e : Int)) := HR3.out.cell 1; have hz3 := HR3.out.frozen 1))
            go_roundw
            case rel => exact ⟨e + 1, f, acc ++ [t], by omega, by omega, by simp; omega, Lib.hid (own_setCell HO3.out (own_ne HO3.out HR3.out (by decide)) _ _), Lib.hid (HR3.out.set (e + 1)), Lib.hid (HS.out.symm.trans HR.out), (hb2.trans hb3).setCell (Nat.le_refl _) _⟩
            case measure =>
              have hkk := kOf_rdr (HR3.out.set (e + 1))
              rw [kOf_rdr HRd.out]
              show s.size + 1 - kOf (w3.setCell ⟨w.heap.size, 1, none⟩ (.int .i64 ((e + 1 : Nat) : Int))) w.heap.size < _
              rw [hkk]; omega
          · have e3 : ((s[e].toNat : Int) != 32) = true := by
              have h2 : ((s[e].toNat : Int) == 32) = false := bne_of _ 32 h32
              rw [bne, h2]; rfl
            have HS := Lib.hid (wr_bad f _ k e t acc hu (by rw [bs_len]; exact hend) (by rw [hge]; intro h; exact h32 (Option.some.inj h)))
            have HN : Hid (wordsF (bs s) = none) := Lib.hid (by rw [HW.out, ← HR.out]; exact HS.out)
            rw [HN.out]
            clear hu hend hge h32
            go_wp2_with (first
              | (go_at_call 35; refine HC.out.mono ?_; rintro en w2 ⟨w1, hb, rfl, hw2⟩; obtain ⟨HO2, HR2, hb2⟩ := after_word HO.out HRd.out hnx hb hw2; clear hw2 hb; have hsz2 := hb2.size)
              | (at_builtin; refine app_newS rfl (.tmp 23) (.tmp 25) rfl w.heap.size acc t _ rfl HO2.out rfl rfl (by omega) hsz2 ?_; intro v3 w3 ho3 hb3 hg3; have HO3 := Lib.hid ho3; have HR3 := rdr_app HO2.out HR2.out hg3; clear ho3 hg3; have hc3 : w3.cell? ⟨w.heap.size, 1, none⟩ = some (.int .i64 (e : Int)) := HR3.out.cell 1; have hz3 := HR3.out.frozen 1))
            go_ret2
            exact ⟨rfl, hb2.trans hb3⟩
end Sc
end Go.Proofs.YtgfinppppgpleaaDoor

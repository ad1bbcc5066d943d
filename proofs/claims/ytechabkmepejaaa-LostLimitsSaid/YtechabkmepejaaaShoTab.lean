/-
  The program's newTable and spare. Conditions: at most 4096 lines, numbers that an int holds.
-/
import Derived.Test.YtechabkmepejaaaShoPls
import Derived.Test.YtechabkmepejaaaShoRep
namespace Go.Proofs.Ytechabkmepejaaa
open Go.RowKit Go.Maps
namespace Sh
open Cm Sc
abbrev tTb : TypeId := 65
/-- A set in a block of its own. -/
def IsSet (w : World) (m : Nat → Bool) (W : Nat) (v : Value) : Prop := ∃ g, v = .slice (some ⟨g, 0, none⟩) W W ∧ Blk w g tU (wordsV m W)
theorem IsSet.below {w w' : World} {m : Nat → Bool} {W : Nat} {v : Value} (h : IsSet w m W v) (hb : Below w.heap.size w w') : IsSet w' m W v := by
  obtain ⟨g, e, hB⟩ := h; exact ⟨g, e, hB.below hb⟩
theorem Blk.ne {w : World} {G H : Nat} {t t' : TypeId} {l l' : List Value} (h : Blk w G t l) (h' : Blk w H t' l') (ht : t ≠ t') : G ≠ H := by
  rintro rfl
  unfold Blk at h h'
  rw [h] at h'
  injection h' with h'
  injection h' with _ e
  exact ht e
theorem IsSet.put {w : World} {m : Nat → Bool} {W G : Nat} {v : Value} {t : TypeId} {l : List Value} (h : IsSet w m W v) (hG : Blk w G t l) (ht : tU ≠ t) (k : Nat) (u : Value) : IsSet (w.setCell ⟨G, k, none⟩ u) m W v := by
  obtain ⟨g, e, hB⟩ := h
  exact ⟨g, e, hB.set_ne (hB.ne hG ht) k u⟩
theorem IsSet.rd {w : World} {m : Nat → Bool} {W : Nat} {v : Value} (h : IsSet w m W v) : RdV w v (wordsV m W) := by
  obtain ⟨g, rfl, hB⟩ := h
  have := hB.rd
  rwa [wordsV_len] at this
/-- The columns from r on. -/
def Cols (w : World) (G W r : Nat) (a b : List Int) (us : List Value) : Prop := Blk w G tSet (List.replicate r (.slice none 0 0) ++ us) ∧ us.length = b.length + 1 - r ∧ ∀ i (h : i < us.length), IsSet w (colB a (b.drop (r + i))) W us[i]
theorem Cols.below {w w' : World} {G W r : Nat} {a b : List Int} {us : List Value} (h : Cols w G W r a b us) (hb : Below w.heap.size w w') : Cols w' G W r a b us :=
  ⟨h.1.below hb, h.2.1, fun i hi => (h.2.2 i hi).below hb⟩
theorem set_last (r : Nat) (us : List Value) (z u : Value) : (List.replicate (r + 1) z ++ us).set r u = List.replicate r z ++ (u :: us) := by
  rw [List.replicate_succ', List.append_assoc, List.singleton_append, List.set_append]
  simp
theorem Cols.put {w : World} {G W r : Nat} {a b : List Int} {us : List Value} {u : Value} (h : Cols w G W (r + 1) a b us) (hr : r ≤ b.length) (hu : IsSet w (colB a (b.drop r)) W u) : Cols (w.setCell ⟨G, r, none⟩ u) G W r a b (u :: us) := by
  obtain ⟨h1, h2, h3⟩ := h
  refine ⟨?_, by rw [List.length_cons]; omega, fun i hi => ?_⟩
  · rw [← set_last r us (.slice none 0 0) u]; exact h1.set r u
  · cases i with
    | zero => exact hu.put h1 (by decide) r u
    | succ i =>
      have := (h3 i (by rw [List.length_cons] at hi; omega)).put h1 (by decide) r u
      rw [show r + (i + 1) = r + 1 + i from by omega]
      exact this
/-- A table. -/
def Tb (w : World) (v : Value) (W : Nat) (a b : List Int) : Prop := ∃ G us, v = .agg #[.int .i64 (a.length : Int), .slice (some ⟨G, 0, none⟩) (b.length + 1) (b.length + 1)] ∧ Cols w G W 0 a b us
theorem Tb.below {w w' : World} {v : Value} {W : Nat} {a b : List Int} (h : Tb w v W a b) (hb : Below w.heap.size w w') : Tb w' v W a b := by
  obtain ⟨G, us, e, hc⟩ := h; exact ⟨G, us, e, hc.below hb⟩
def TbPost (W : Nat) (a b : List Int) (w : World) (e : Ending) (w' : World) : Prop := ∃ v, e = .returned v ∧ Tb w' v W a b ∧ Below w.heap.size w w'
def SpPost (x : Bool) (w : World) (e : Ending) (w' : World) : Prop := e = .returned (.bool x) ∧ Below w.heap.size w w'
set_option maxRecDepth 100000 in
set_option maxHeartbeats 4000000 in
theorem spare_at (v : Value) (W n i j : Nat) (a b : List Int) (w : World) (HT : Hid (Tb w v W a b)) (HN : Hid (n = a.length)) (hn : n ≤ 4096) (HW : Hid (W = (n + 63) / 64)) (hi : i < n) (HJ : Hid (j < b.length)) (hj : j < 4096) :
    Calls Try.prog 34 #[v, .int .i64 (i : Int), .int .i64 (j : Int)] w (SpPost (colB a (b.drop j) (n - 1 - i)) w) := by
  obtain ⟨G, us, rfl, hC⟩ := HT.out
  obtain ⟨h1, h2, h3⟩ := hC
  rw [List.replicate_zero, List.nil_append] at h1
  have hj2 := HJ.out
  have hjl : j < us.length := by omega
  obtain ⟨g, e1, hB⟩ := h3 j hjl
  rw [Nat.zero_add] at hB
  have HC1 := Lib.hid ((h1.cell hjl).trans (congrArg some e1))
  have HBk := Lib.hid hB
  have HPl := Lib.hid (fun w => place_any i n (n - 1 - i) hi hn rfl w)
  have hWp : (n - 1 - i) / 64 < W := by rw [HW.out]; omega
  have HL : Hid (j < b.length + 1) := Lib.hid (by omega)
  rw [← HN.out]
  clear h1 h2 h3 e1 hB hj2 HJ hjl HT HW HN
  generalize colB a (b.drop j) = m at *
  generalize n - 1 - i = p at *
  have hcell := HBk.out.cell (k := p / 64) (by rw [wordsV_len]; exact hWp)
  rw [wordsV_get] at hcell
  have HCell := Lib.hid hcell
  have hbit := spare_bit m p
  rw [show ((2 ^ (p % 64) : Nat) : Int) = (2 : Int) ^ (p % 64) from by simp] at hbit
  have HBit := Lib.hid hbit
  obtain ⟨l, hl⟩ : ∃ l, l = b.length := ⟨_, rfl⟩
  rw [← hl] at HL ⊢
  have hjl := HL.out
  have i0 : (0 : Int) ≤ (j : Int) := by omega
  have i1 : (j : Int) < ((l + 1 : Nat) : Int) := by omega
  have i2 : (0 : Int) ≤ ((p / 64 : Nat) : Int) := by omega
  have i3 : ((p / 64 : Nat) : Int) < (W : Int) := by omega
  clear hcell hbit hl HL
  have HB0 := Lib.hid (fun C q => below_drewN ((Below.refl w.heap.size w).alloc (Nat.le_refl _) (.cells C tTb)) q)
  go_enter Try.func34, Try.ntmps34
  go_upto_region 2 with (go_at_call 41; refine (HPl.out _).mono ?_; rintro e w3 ⟨rfl, q, rfl⟩)
  have c1 := ((HB0.out #[.int .i64 (n : Int), .slice (some ⟨G, 0, none⟩) (l + 1) (l + 1)] q).cell (p := ⟨G, j, none⟩) (Tx.cell_lt HC1.out)).trans HC1.out
  have c2 := ((HB0.out #[.int .i64 (n : Int), .slice (some ⟨G, 0, none⟩) (l + 1) (l + 1)] q).cell (p := ⟨g, p / 64, none⟩) (Tx.cell_lt HCell.out)).trans HCell.out
  have hb := HBit.out
  go_wp2_with fail
  go_ret
  exact ⟨rfl, HB0.out _ _⟩
theorem Cols.other {w : World} {G W r H : Nat} {a b : List Int} {us l : List Value} (h : Cols w G W r a b us) (hH : Blk w H tTb l) (k : Nat) (u : Value) : Cols (w.setCell ⟨H, k, none⟩ u) G W r a b us :=
  ⟨h.1.set_ne (h.1.ne hH (by decide)) k u, h.2.1, fun i hi => (h.2.2 i hi).put hH (by decide) k u⟩
set_option maxRecDepth 100000 in
set_option maxHeartbeats 8000000 in
theorem newTable_at (A B : Option Addr) (c d n m W : Nat) (a b : List Int) (w : World) (HA : Hid (RdV w (.slice A n c) (intsV a))) (HB : Hid (RdV w (.slice B m d) (intsV b))) (hn : n ≤ 4096) (hm : m ≤ 4096) (HN : Hid (n = a.length)) (HM : Hid (m = b.length)) (hBa : Hid (∀ z ∈ a, zB z)) (hBb : Hid (∀ z ∈ b, zB z)) (HW : Hid (W = (n + 63) / 64)) :
    Calls Try.prog 33 #[.slice A n c, .slice B m d] w (TbPost W a b w) := by
  have hW64 : W ≤ 64 := by rw [HW.out]; omega
  have HWf := Lib.hid (fun w => wordsFor_any n hn w)
  rw [← HW.out] at HWf
  have HB0 := Lib.hid (fun C => (Below.refl w.heap.size w).alloc (Nat.le_refl _) (.cells C tTb))
  have HA0 := Lib.hid (fun C => HA.out.below (HB0.out C))
  have HT0 : Hid (∀ x y : Value, Blk (w.alloc (.cells #[x, y] tTb)) w.heap.size tTb [x, y]) := Lib.hid (fun x y => heap_new w _)
  have HZ0 : Hid (∀ o : Obj, (w.alloc o).heap.size = w.heap.size + 1) := Lib.hid (fun o => by simp)
  go_enter Try.func33, Try.ntmps33
  go_upto_region 2 with ((go_at_call 37; refine (places_at A c n W a _ (Lib.hid (HA0.out _)) hn HN hBa HW).mono ?_; rintro e w1 ⟨mb, rfl, hp, hb⟩; have HP1 := Lib.hid hp; have HT1 := Lib.hid ((HT0.out _ _).below hb); have HB1 := Lib.hid ((HB0.out _).trans (hb.mono (by rw [HZ0.out]; omega))); clear hp hb))
  have HB1w := HB1
  clear HA0 HB0 HT0 HZ0
  have HLit : Hid (∀ x : Value, (w1.alloc (.cells #[x] tU)).cell? ⟨w1.heap.size, 0, none⟩ = some x) := Lib.hid (fun x => World.cell?_alloc_mark ..)
  have HLb := Lib.hid (fun x : Value => (Below.refl w1.heap.size w1).alloc (Nat.le_refl _) (.cells #[x] tU))
  have HLz : Hid (∀ o : Obj, (w1.alloc o).heap.size = w1.heap.size + 1) := Lib.hid (fun o => by simp)
  go_upto_region 3 with (first
    | (go_at_call 39; refine (HWf.out _).mono ?_; rintro e w0 ⟨rfl, rfl⟩)
    | (go_at_call 38; refine (Repeat_le w1.heap.size _ W 18446744073709551615 _ (HLit.out _) (by omega)).mono ?_; rintro e w2 ⟨G0, rfl, hg0, hr0, hb2⟩; have HR2 : Hid (Blk w2 G0 tU (wordsV (fun _ => true) W)) := Lib.hid (by rw [wordsV_all]; exact hr0); have HB2 := Lib.hid ((HLb.out _).trans (hb2.mono (by rw [HLz.out]; omega))); clear hr0 hb2 hg0))
  clear HLit HLb HLz HWf
  have HP2 := Lib.hid (HP1.out.below HB2.out)
  have HT2 := Lib.hid (HT1.out.below HB2.out)
  have HW2 := Lib.hid (HB1.out.trans (HB2.out.mono HB1.out.size))
  clear HP1 HT1 HB1 HB1w HB2
  have HS3 : Hid (∀ w3 : World, Blk w3 w2.heap.size tSet (List.replicate (m + 1) (.slice none 0 0)) → Below w2.heap.size w2 w3 → Cols w3 w2.heap.size W (m + 1) a b []) := Lib.hid (fun w3 h hb => ⟨by rw [List.append_nil]; exact h, by rw [← HM.out]; simp, fun i hi => absurd hi (Nat.not_lt_zero _)⟩)
  have hml : ((m + 1 : Nat) : Int) = (m : Int) + 1 := by omega
  go_upto_region 4 with (refine mk_row rfl (.tmp 20) (.tmp 20) rfl Try.underlying63 info_set rfl (by omega) (m + 1) (by simp [go_sem]) (by simp [go_sem]) (by omega) ?_; intro w3 hB3 _ hb3; have HC3 := Lib.hid (HS3.out w3 hB3.out hb3); have HB3 := Lib.hid hb3; have HI3 : Hid (IsSet w3 (colB a (b.drop m)) W (.slice (some ⟨G0, 0, none⟩) W W)) := Lib.hid ⟨G0, rfl, by rw [HM.out, List.drop_length]; exact HR2.out.below hb3⟩; clear hb3 hB3)
  clear HS3 HR2 hml
  have hc4 := HC3.out.1.cell (k := m) (by simp)
  have hf4 := HC3.out.1.free m
  generalize (List.replicate (m + 1) (Value.slice none 0 0) ++ [])[m]'(by simp) = z4 at hc4
  have HC4 := Lib.hid (HC3.out.put (r := m) (by rw [HM.out]; omega) HI3.out)
  have HI4 := Lib.hid (HI3.out.put HC3.out.1 (by decide) m (.slice (some ⟨G0, 0, none⟩) W W))
  have HB4 := Lib.hid (HB3.out.setCell (p := ⟨w2.heap.size, m, none⟩) (Nat.le_refl _) (.slice (some ⟨G0, 0, none⟩) W W))
  clear HC3 HI3 HB3
  have HWF := Lib.hid (fun (wr : World) (hb : Below w2.heap.size w2 wr) => HW2.out.trans (hb.mono HW2.out.size))
  go_wp2_with fail
  go_loopw [6, 8] (fun col jv wr => ∃ (r : Nat) (us : List Value), r ≤ m ∧ jv = .int .i64 ((r : Int) - 1) ∧ Hid (Cols wr w2.heap.size W r a b us) ∧ Hid (IsSet wr (colB a (b.drop r)) W col) ∧ Hid (Below w2.heap.size w2 wr)) (fun _ jv _ => (intOf jv + 1).toNat)
  case atStart => exact ⟨m, _, Nat.le_refl _, rfl, HC4, HI4, HB4⟩
  case round =>
    clear HC4 HI4 HB4 hc4 hf4
    obtain ⟨r, us, hr, rfl, HC, HI, HBl⟩ := hrel
    cases r with
    | succ s =>
      have es : ((s + 1 : Nat) : Int) - 1 = (s : Int) := by omega
      rw [es]
      have hx : s < b.length := by rw [← HM.out]; omega
      obtain ⟨b1, o1, rfl, c1⟩ := int_at (HB.out.below (HWF.out wr HBl.out)) s hx
      have hzb := hBb.out _ (List.getElem_mem hx)
      have HNext : Hid (colB a (b.drop s) = nx (colB a (b.drop (s + 1))) (eqB a b[s])) := Lib.hid (by rw [List.drop_eq_getElem_cons hx]; rfl)
      have HSkip : Hid (b[s] ∉ a → colB a (b.drop s) = colB a (b.drop (s + 1))) := Lib.hid (fun h => by rw [List.drop_eq_getElem_cons hx]; exact colB_skip h)
      generalize b[s] = z at c1 hzb HNext HSkip
      have hsl : s ≤ b.length := by omega
      have HSl := Lib.hid hsl
      have i0 : (0 : Int) ≤ (s : Int) := by omega
      have i1 : (s : Int) < (m : Int) := by omega
      have i2 : (s : Int) < (m : Int) + 1 := by omega
      clear hx hsl es
      by_cases hin : z ∈ a
      · obtain ⟨g, hg, hBk, _, hr2, _⟩ := (HP2.out.below HBl.out).get hin hzb
        have HR2 := Lib.hid hr2
        obtain ⟨gc, rfl, hBc⟩ := HI.out
        have HBf := Lib.hid (before_at (some ⟨gc, 0, none⟩) (some ⟨g, 0, none⟩) W W W (colB a (b.drop (s + 1))) (eqB a z) wr (Lib.hid (by have := hBc.rd; rwa [wordsV_len] at this)) (Lib.hid (by have := hBk.rd; rwa [wordsV_len] at this)) (by omega))
        rw [← HNext.out] at HBf
        clear hr2 hBk hBc hg HNext HSkip HI
        go_upto_region 11 with (first
          | (at_lookup; refine step_look rfl (.tmp 35) (.tmp 39) tMp true rfl _ _ _ rfl rfl HR2.out ?_)
          | (go_at_call 40; refine HBf.out.mono ?_; rintro e w5 ⟨g5, rfl, hg5, hB5, hb5⟩; have HC5 := Lib.hid (HC.out.below hb5); have HI5 : Hid (IsSet w5 (colB a (b.drop s)) W (.slice (some ⟨g5, 0, none⟩) W W)) := Lib.hid ⟨g5, rfl, hB5⟩; have HB5 := Lib.hid (HBl.out.trans (hb5.mono HBl.out.size)); clear hg5 hB5 hb5 HC HBl HBf))
        have hc6 := HC5.out.1.cell (k := s) (by rw [List.length_append, List.length_replicate]; omega)
        have hf6 := HC5.out.1.free s
        generalize (List.replicate (s + 1) (Value.slice none 0 0) ++ us)[s]'(by rw [List.length_append, List.length_replicate]; omega) = z6 at hc6
        have HC6 := Lib.hid (HC5.out.put (r := s) HSl.out HI5.out)
        have HI6 := Lib.hid (HI5.out.put HC5.out.1 (by decide) s (.slice (some ⟨g5, 0, none⟩) W W))
        have HB6 := Lib.hid (HB5.out.setCell (p := ⟨w2.heap.size, s, none⟩) (Nat.le_refl _) (.slice (some ⟨g5, 0, none⟩) W W))
        clear HC5 HI5 HB5
        go_wp2_with fail
        go_roundw
        case rel => exact ⟨s, _, by omega, rfl, HC6, HI6, HB6⟩
        case measure => simp [intOf]
      · obtain ⟨_, hr2⟩ := (HP2.out.below HBl.out).absent hin hzb
        have HR2 := Lib.hid hr2
        have hI := HI.out
        rw [← HSkip.out hin] at hI
        obtain ⟨gc, rfl, hBc⟩ := hI
        have HI5 : Hid (IsSet wr (colB a (b.drop s)) W (.slice (some ⟨gc, 0, none⟩) W W)) := Lib.hid ⟨gc, rfl, hBc⟩
        have hc6 := HC.out.1.cell (k := s) (by rw [List.length_append, List.length_replicate]; omega)
        have hf6 := HC.out.1.free s
        generalize (List.replicate (s + 1) (Value.slice none 0 0) ++ us)[s]'(by rw [List.length_append, List.length_replicate]; omega) = z6 at hc6
        have HC6 := Lib.hid (HC.out.put (r := s) HSl.out HI5.out)
        have HI6 := Lib.hid (HI5.out.put HC.out.1 (by decide) s (.slice (some ⟨gc, 0, none⟩) W W))
        have HB6 := Lib.hid (HBl.out.setCell (p := ⟨w2.heap.size, s, none⟩) (Nat.le_refl _) (.slice (some ⟨gc, 0, none⟩) W W))
        clear HC HI5 HBl HI hBc hr2 HNext HSkip
        go_wp2_with (at_lookup; refine step_look rfl (.tmp 35) (.tmp 39) tMp true rfl _ _ _ rfl rfl HR2.out ?_)
        go_roundw
        case rel => exact ⟨s, _, by omega, rfl, HC6, HI6, HB6⟩
        case measure => simp [intOf]
    | zero =>
      have es : ((0 : Nat) : Int) - 1 = -1 := rfl
      rw [es]
      have HT := Lib.hid (HT2.out.below HBl.out)
      have c0 := HT.out.cell (k := 0) (by decide)
      have c1 := HT.out.cell (k := 1) (by decide)
      have f0 : ∀ k, wr.frozen? ⟨w.heap.size, k, none⟩ = false := fun k => HT.out.free k
      simp only [List.getElem_cons_zero, List.getElem_cons_succ] at c0 c1
      have HTx : Hid (∀ u1 u2, Blk ((wr.setCell ⟨w.heap.size, 0, none⟩ u1).setCell ⟨w.heap.size, 1, none⟩ u2) w.heap.size tTb [u1, u2]) := Lib.hid (fun u1 u2 => (HT.out.set 0 u1).set 1 u2)
      have HCx : Hid (∀ u1 u2, Cols ((wr.setCell ⟨w.heap.size, 0, none⟩ u1).setCell ⟨w.heap.size, 1, none⟩ u2) w2.heap.size W 0 a b us) := Lib.hid (fun u1 u2 => (HC.out.other HT.out 0 u1).other (HT.out.set 0 u1) 1 u2)
      have HBx : Hid (∀ u1 u2, Below w.heap.size w ((wr.setCell ⟨w.heap.size, 0, none⟩ u1).setCell ⟨w.heap.size, 1, none⟩ u2)) := Lib.hid (fun u1 u2 => ((HWF.out wr HBl.out).setCell (p := ⟨w.heap.size, 0, none⟩) (Nat.le_refl _) u1).setCell (p := ⟨w.heap.size, 1, none⟩) (Nat.le_refl _) u2)
      clear HC HI HBl HT
      go_wp2_with fail
      refine bodyPost_ret (results_cell_row (p := 4) rfl _ _ _ _ _ _ _ rfl (HTx.out _ _) Try.underlying65 rfl (by kernel_rfl)) rfl ?_
      exact ⟨_, rfl, ⟨w2.heap.size, us, by rw [← HN.out, ← HM.out], HCx.out _ _⟩, HBx.out _ _⟩
end Sh
end Go.Proofs.Ytechabkmepejaaa

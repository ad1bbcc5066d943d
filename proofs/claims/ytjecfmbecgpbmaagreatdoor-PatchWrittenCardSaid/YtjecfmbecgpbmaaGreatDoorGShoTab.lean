/- Facts; each states its conditions. -/
import Derived.Test.YtjecfmbecgpbmaaGreatDoorShoPls
import Derived.Test.YtjecfmbecgpbmaaGreatDoorShoRep
import Derived.Test.YtjecfmbecgpbmaaGreatDoorGScrBase
import Derived.WalkSpells
import Derived.StillTailTactics
import Derived.Test.YtjecfmbecgpbmaaGreatDoorGTextBase
namespace Go.Proofs.YtjecfmbecgpbmaaGreatDoor
section
namespace Cm
end Cm
namespace Sc
end Sc
open Go.RowKit Go.Maps
namespace Sh
open Cm Sc
abbrev tTb : TypeId := 212
def IsSet (w : World) (m : Nat → Bool) (W : Nat) (v : Value) : Prop := ∃ g, v = .slice (some ⟨g, 0, none⟩) W W ∧ Blk w g tU (wordsV m W)
theorem IsSet.below {w w' : World} {m : Nat → Bool} {W : Nat} {v : Value} (h : IsSet w m W v) (hb : Below w.heap.size w w') : IsSet w' m W v := by
 obtain ⟨g, e, hB⟩ := h; exact ⟨g, e, hB.below hb⟩
theorem Blk.ne {w : World} {G H : Nat} {t t' : TypeId} {l l' : List Value} (h : Blk w G t l) (h' : Blk w H t' l') (ht : t ≠ t') : G ≠ H := by
 rintro rfl
 unfold Blk at h h'
 rw [h] at h'
 injection h' with h'
 injection h' with _ e
 exact ht e
theorem IsSet.put {w : World} {m : Nat → Bool} {W G : Nat} {v : Value} {t : TypeId} {l : List Value} (h : IsSet w m W v) (hG : Blk w G t l) (ht : tU ≠ t) (k : Nat) (u : Value) : IsSet (w.setCell ⟨G, k, none⟩ u) m W v := by
 obtain ⟨g, e, hB⟩ := h
 exact ⟨g, e, hB.set_ne (hB.ne hG ht) k u⟩
def Cols (w : World) (G W r : Nat) (a b : List Int) (us : List Value) : Prop := Blk w G tSet (List.replicate r (.slice none 0 0) ++ us) ∧ us.length = b.length + 1 - r ∧ ∀ i (h : i < us.length), IsSet w (colB a (b.drop (r + i))) W us[i]
theorem Cols.below {w w' : World} {G W r : Nat} {a b : List Int} {us : List Value} (h : Cols w G W r a b us) (hb : Below w.heap.size w w') : Cols w' G W r a b us :=
 ⟨h.1.below hb, h.2.1, fun i hi => (h.2.2 i hi).below hb⟩
theorem set_last (r : Nat) (us : List Value) (z u : Value) : (List.replicate (r + 1) z ++ us).set r u = List.replicate r z ++ (u :: us) := by
 rw [List.replicate_succ', List.append_assoc, List.singleton_append, List.set_append]
 simp
theorem Cols.put {w : World} {G W r : Nat} {a b : List Int} {us : List Value} {u : Value} (h : Cols w G W (r + 1) a b us) (hr : r ≤ b.length) (hu : IsSet w (colB a (b.drop r)) W u) : Cols (w.setCell ⟨G, r, none⟩ u) G W r a b (u :: us) := by
 obtain ⟨h1, h2, h3⟩ := h
 refine ⟨?_, by rw [List.length_cons]; omega, fun i hi => ?_⟩
 · rw [← set_last r us (.slice none 0 0) u]; exact h1.set r u
 · cases i with
   | zero => exact hu.put h1 (by decide) r u
   | succ i =>
     have := (h3 i (by rw [List.length_cons] at hi; omega)).put h1 (by decide) r u
     rw [show r + (i + 1) = r + 1 + i from by omega]
     exact this
def Tb (w : World) (v : Value) (W : Nat) (a b : List Int) : Prop := ∃ G us, v = .agg #[.int .i64 (a.length : Int), .slice (some ⟨G, 0, none⟩) (b.length + 1) (b.length + 1)] ∧ Cols w G W 0 a b us
def TbPost (W : Nat) (a b : List Int) (w : World) (e : Ending) (w' : World) : Prop := ∃ v, e = .returned v ∧ Tb w' v W a b ∧ Below w.heap.size w w'
def SpPost (x : Bool) (w : World) (e : Ending) (w' : World) : Prop := e = .returned (.bool x) ∧ Below w.heap.size w w'
set_option maxRecDepth 100000 in
set_option maxHeartbeats 4000000 in
theorem spare_at (v : Value) (W n i j : Nat) (a b : List Int) (w : World) (HT : Hid (Tb w v W a b)) (HN : Hid (n = a.length)) (hn : n ≤ 4096) (HW : Hid (W = (n + 63) / 64)) (hi : i < n) (HJ : Hid (j < b.length)) (hj : j < 4096) :
 Calls Tryz.prog 169 #[v, .int .i64 (i : Int), .int .i64 (j : Int)] w (SpPost (colB a (b.drop j) (n - 1 - i)) w) := by
 obtain ⟨G, us, rfl, hC⟩ := HT.out
 obtain ⟨h1, h2, h3⟩ := hC
 rw [List.replicate_zero, List.nil_append] at h1
 have hj2 := HJ.out
 have hjl : j < us.length := by omega
 obtain ⟨g, e1, hB⟩ := h3 j hjl
 rw [Nat.zero_add] at hB
 have HC1 := Lib.hid ((h1.cell hjl).trans (congrArg some e1))
 have HBk := Lib.hid hB
 have HPl := Lib.hid (fun w => place_any i n (n - 1 - i) hi hn rfl w)
 have hWp : (n - 1 - i) / 64 < W := by rw [HW.out]; omega
 have HL : Hid (j < b.length + 1) := Lib.hid (by omega)
 rw [← HN.out]
 clear h1 h2 h3 e1 hB hj2 HJ hjl HT HW HN
 generalize colB a (b.drop j) = m at *
 generalize n - 1 - i = p at *
 have hcell := HBk.out.cell (k := p / 64) (by rw [wordsV_len]; exact hWp)
 rw [wordsV_get] at hcell
 have HCell := Lib.hid hcell
 have hbit := spare_bit m p
 rw [show ((2 ^ (p % 64) : Nat) : Int) = (2 : Int) ^ (p % 64) from by simp] at hbit
 have HBit := Lib.hid hbit
 obtain ⟨l, hl⟩ : ∃ l, l = b.length := ⟨_, rfl⟩
 rw [← hl] at HL ⊢
 have hjl := HL.out
 have i0 : (0 : Int) ≤ (j : Int) := by omega
 have i1 : (j : Int) < ((l + 1 : Nat) : Int) := by omega
 have i2 : (0 : Int) ≤ ((p / 64 : Nat) : Int) := by omega
 have i3 : ((p / 64 : Nat) : Int) < (W : Int) := by omega
 clear hcell hbit hl HL
 have HB0 := Lib.hid (fun C q => below_drewN ((Below.refl w.heap.size w).alloc (Nat.le_refl _) (.cells C tTb)) q)
 go_enter Tryz.func169, Tryz.ntmps169
 go_upto_region 2 with (go_at_call 185; refine (HPl.out _).mono ?_; rintro e w3 ⟨rfl, q, rfl⟩)
 have c1 := ((HB0.out #[.int .i64 (n : Int), .slice (some ⟨G, 0, none⟩) (l + 1) (l + 1)] q).cell (p := ⟨G, j, none⟩) (Tx.cell_lt HC1.out)).trans HC1.out
 have c2 := ((HB0.out #[.int .i64 (n : Int), .slice (some ⟨G, 0, none⟩) (l + 1) (l + 1)] q).cell (p := ⟨g, p / 64, none⟩) (Tx.cell_lt HCell.out)).trans HCell.out
 have hb := HBit.out
 go_wp2_with fail
 go_ret
 exact ⟨rfl, HB0.out _ _⟩
theorem Cols.other {w : World} {G W r H : Nat} {a b : List Int} {us l : List Value} (h : Cols w G W r a b us) (hH : Blk w H tTb l) (k : Nat) (u : Value) : Cols (w.setCell ⟨H, k, none⟩ u) G W r a b us :=
 ⟨h.1.set_ne (h.1.ne hH (by decide)) k u, h.2.1, fun i hi => (h.2.2 i hi).put hH (by decide) k u⟩
set_option maxRecDepth 100000 in
set_option maxHeartbeats 8000000 in
theorem newTable_at (A B : Option Addr) (c d n m W : Nat) (a b : List Int) (w : World) (HA : Hid (RdV w (.slice A n c) (intsV a))) (HB : Hid (RdV w (.slice B m d) (intsV b))) (hn : n ≤ 4096) (hm : m ≤ 4096) (HN : Hid (n = a.length)) (HM : Hid (m = b.length)) (hBa : Hid (∀ z ∈ a, zB z)) (hBb : Hid (∀ z ∈ b, zB z)) (HW : Hid (W = (n + 63) / 64)) :
 Calls Tryz.prog 168 #[.slice A n c, .slice B m d] w (TbPost W a b w) := by
 have hW64 : W ≤ 64 := by rw [HW.out]; omega
 have HWf := Lib.hid (fun w => wordsFor_any n hn w)
 rw [← HW.out] at HWf
 have HB0 := Lib.hid (fun C => (Below.refl w.heap.size w).alloc (Nat.le_refl _) (.cells C tTb))
 have HA0 := Lib.hid (fun C => HA.out.below (HB0.out C))
 have HT0 : Hid (∀ x y : Value, Blk (w.alloc (.cells #[x, y] tTb)) w.heap.size tTb [x, y]) := Lib.hid (fun x y => heap_new w _)
 have HZ0 : Hid (∀ o : Obj, (w.alloc o).heap.size = w.heap.size + 1) := Lib.hid (fun o => by simp)
 go_enter Tryz.func168, Tryz.ntmps168
 go_upto_region 2 with ((go_at_call 181; refine (places_at A c n W a _ (Lib.hid (HA0.out _)) hn HN hBa HW).mono ?_; rintro e w1 ⟨mb, rfl, hp, hb⟩; have HP1 := Lib.hid hp; have HT1 := Lib.hid ((HT0.out _ _).below hb); have HB1 := Lib.hid ((HB0.out _).trans (hb.mono (by rw [HZ0.out]; omega))); clear hp hb))
 have HB1w := HB1
 clear HA0 HB0 HT0 HZ0
 have HLit : Hid (∀ x : Value, (w1.alloc (.cells #[x] tU)).cell? ⟨w1.heap.size, 0, none⟩ = some x) := Lib.hid (fun x => World.cell?_alloc_mark ..)
 have HLb := Lib.hid (fun x : Value => (Below.refl w1.heap.size w1).alloc (Nat.le_refl _) (.cells #[x] tU))
 have HLz : Hid (∀ o : Obj, (w1.alloc o).heap.size = w1.heap.size + 1) := Lib.hid (fun o => by simp)
 go_upto_region 3 with (first
  | (go_at_call 183; refine (HWf.out _).mono ?_; rintro e w0 ⟨rfl, rfl⟩)
  | (go_at_call 182; refine (Repeat_le w1.heap.size _ W 18446744073709551615 _ (HLit.out _) (by omega)).mono ?_; rintro e w2 ⟨G0, rfl, hg0, hr0, hb2⟩; have HR2 : Hid (Blk w2 G0 tU (wordsV (fun _ => true) W)) := Lib.hid (by rw [wordsV_all]; exact hr0); have HB2 := Lib.hid ((HLb.out _).trans (hb2.mono (by rw [HLz.out]; omega))); clear hr0 hb2 hg0))
 clear HLit HLb HLz HWf
 have HP2 := Lib.hid (HP1.out.below HB2.out)
 have HT2 := Lib.hid (HT1.out.below HB2.out)
 have HW2 := Lib.hid (HB1.out.trans (HB2.out.mono HB1.out.size))
 clear HP1 HT1 HB1 HB1w HB2
 have HS3 : Hid (∀ w3 : World, Blk w3 w2.heap.size tSet (List.replicate (m + 1) (.slice none 0 0)) → Below w2.heap.size w2 w3 → Cols w3 w2.heap.size W (m + 1) a b []) := Lib.hid (fun w3 h hb => ⟨by rw [List.append_nil]; exact h, by rw [← HM.out]; simp, fun i hi => absurd hi (Nat.not_lt_zero _)⟩)
 have hml : ((m + 1 : Nat) : Int) = (m : Int) + 1 := by omega
 go_upto_region 4 with (refine mk_row rfl (.tmp 20) (.tmp 20) rfl Tryz.underlying210 info_set rfl (by omega) (m + 1) (by simp [go_sem]) (by simp [go_sem]) (by omega) ?_; intro w3 hB3 _ hb3; have HC3 := Lib.hid (HS3.out w3 hB3.out hb3); have HB3 := Lib.hid hb3; have HI3 : Hid (IsSet w3 (colB a (b.drop m)) W (.slice (some ⟨G0, 0, none⟩) W W)) := Lib.hid ⟨G0, rfl, by rw [HM.out, List.drop_length]; exact HR2.out.below hb3⟩; clear hb3 hB3)
 clear HS3 HR2 hml
 have hc4 := HC3.out.1.cell (k := m) (by simp)
 have hf4 := HC3.out.1.free m
 generalize (List.replicate (m + 1) (Value.slice none 0 0) ++ [])[m]'(by simp) = z4 at hc4
 have HC4 := Lib.hid (HC3.out.put (r := m) (by rw [HM.out]; omega) HI3.out)
 have HI4 := Lib.hid (HI3.out.put HC3.out.1 (by decide) m (.slice (some ⟨G0, 0, none⟩) W W))
 have HB4 := Lib.hid (HB3.out.setCell (p := ⟨w2.heap.size, m, none⟩) (Nat.le_refl _) (.slice (some ⟨G0, 0, none⟩) W W))
 clear HC3 HI3 HB3
 have HWF := Lib.hid (fun (wr : World) (hb : Below w2.heap.size w2 wr) => HW2.out.trans (hb.mono HW2.out.size))
 go_wp2_with fail
 go_loopw [6, 8] (fun col jv wr => ∃ (r : Nat) (us : List Value), r ≤ m ∧ jv = .int .i64 ((r : Int) - 1) ∧ Hid (Cols wr w2.heap.size W r a b us) ∧ Hid (IsSet wr (colB a (b.drop r)) W col) ∧ Hid (Below w2.heap.size w2 wr)) (fun _ jv _ => (intOf jv + 1).toNat)
 case atStart => exact ⟨m, _, Nat.le_refl _, rfl, HC4, HI4, HB4⟩
 case round =>
  clear HC4 HI4 HB4 hc4 hf4
  obtain ⟨r, us, hr, rfl, HC, HI, HBl⟩ := hrel
  cases r with
  | succ s =>
    have es : ((s + 1 : Nat) : Int) - 1 = (s : Int) := by omega
    rw [es]
    have hx : s < b.length := by rw [← HM.out]; omega
    obtain ⟨b1, o1, rfl, c1⟩ := int_at (HB.out.below (HWF.out wr HBl.out)) s hx
    have hzb := hBb.out _ (List.getElem_mem hx)
    have HNext : Hid (colB a (b.drop s) = nx (colB a (b.drop (s + 1))) (eqB a b[s])) := Lib.hid (by rw [List.drop_eq_getElem_cons hx]; rfl)
    have HSkip : Hid (b[s] ∉ a → colB a (b.drop s) = colB a (b.drop (s + 1))) := Lib.hid (fun h => by rw [List.drop_eq_getElem_cons hx]; exact colB_skip h)
    generalize b[s] = z at c1 hzb HNext HSkip
    have hsl : s ≤ b.length := by omega
    have HSl := Lib.hid hsl
    have i0 : (0 : Int) ≤ (s : Int) := by omega
    have i1 : (s : Int) < (m : Int) := by omega
    have i2 : (s : Int) < (m : Int) + 1 := by omega
    clear hx hsl es
    by_cases hin : z ∈ a
    · obtain ⟨g, hg, hBk, _, hr2, _⟩ := (HP2.out.below HBl.out).get hin hzb
      have HR2 := Lib.hid hr2
      obtain ⟨gc, rfl, hBc⟩ := HI.out
      have HBf := Lib.hid (before_at (some ⟨gc, 0, none⟩) (some ⟨g, 0, none⟩) W W W (colB a (b.drop (s + 1))) (eqB a z) wr (Lib.hid (by have := hBc.rd; rwa [wordsV_len] at this)) (Lib.hid (by have := hBk.rd; rwa [wordsV_len] at this)) (by omega))
      rw [← HNext.out] at HBf
      clear hr2 hBk hBc hg HNext HSkip HI
      go_upto_region 11 with (first
       | (at_lookup; refine step_look rfl (.tmp 35) (.tmp 39) tMp true rfl _ _ _ rfl rfl HR2.out ?_)
       | (go_at_call 184; refine HBf.out.mono ?_; rintro e w5 ⟨g5, rfl, hg5, hB5, hb5⟩; have HC5 := Lib.hid (HC.out.below hb5); have HI5 : Hid (IsSet w5 (colB a (b.drop s)) W (.slice (some ⟨g5, 0, none⟩) W W)) := Lib.hid ⟨g5, rfl, hB5⟩; have HB5 := Lib.hid (HBl.out.trans (hb5.mono HBl.out.size)); clear hg5 hB5 hb5 HC HBl HBf))
      have hc6 := HC5.out.1.cell (k := s) (by rw [List.length_append, List.length_replicate]; omega)
      have hf6 := HC5.out.1.free s
      generalize (List.replicate (s + 1) (Value.slice none 0 0) ++ us)[s]'(by rw [List.length_append, List.length_replicate]; omega) = z6 at hc6
      have HC6 := Lib.hid (HC5.out.put (r := s) HSl.out HI5.out)
      have HI6 := Lib.hid (HI5.out.put HC5.out.1 (by decide) s (.slice (some ⟨g5, 0, none⟩) W W))
      have HB6 := Lib.hid (HB5.out.setCell (p := ⟨w2.heap.size, s, none⟩) (Nat.le_refl _) (.slice (some ⟨g5, 0, none⟩) W W))
      clear HC5 HI5 HB5
      go_wp2_with fail
      go_roundw
      case rel => exact ⟨s, _, by omega, rfl, HC6, HI6, HB6⟩
      case measure => simp [intOf]
    · obtain ⟨_, hr2⟩ := (HP2.out.below HBl.out).absent hin hzb
      have HR2 := Lib.hid hr2
      have hI := HI.out
      rw [← HSkip.out hin] at hI
      obtain ⟨gc, rfl, hBc⟩ := hI
      have HI5 : Hid (IsSet wr (colB a (b.drop s)) W (.slice (some ⟨gc, 0, none⟩) W W)) := Lib.hid ⟨gc, rfl, hBc⟩
      have hc6 := HC.out.1.cell (k := s) (by rw [List.length_append, List.length_replicate]; omega)
      have hf6 := HC.out.1.free s
      generalize (List.replicate (s + 1) (Value.slice none 0 0) ++ us)[s]'(by rw [List.length_append, List.length_replicate]; omega) = z6 at hc6
      have HC6 := Lib.hid (HC.out.put (r := s) HSl.out HI5.out)
      have HI6 := Lib.hid (HI5.out.put HC.out.1 (by decide) s (.slice (some ⟨gc, 0, none⟩) W W))
      have HB6 := Lib.hid (HBl.out.setCell (p := ⟨w2.heap.size, s, none⟩) (Nat.le_refl _) (.slice (some ⟨gc, 0, none⟩) W W))
      clear HC HI5 HBl HI hBc hr2 HNext HSkip
      go_wp2_with (at_lookup; refine step_look rfl (.tmp 35) (.tmp 39) tMp true rfl _ _ _ rfl rfl HR2.out ?_)
      go_roundw
      case rel => exact ⟨s, _, by omega, rfl, HC6, HI6, HB6⟩
      case measure => simp [intOf]
  | zero =>
    have es : ((0 : Nat) : Int) - 1 = -1 := rfl
    rw [es]
    have HT := Lib.hid (HT2.out.below HBl.out)
    have c0 := HT.out.cell (k := 0) (by decide)
    have c1 := HT.out.cell (k := 1) (by decide)
    have f0 : ∀ k, wr.frozen? ⟨w.heap.size, k, none⟩ = false := fun k => HT.out.free k
    simp only [List.getElem_cons_zero, List.getElem_cons_succ] at c0 c1
    have HTx : Hid (∀ u1 u2, Blk ((wr.setCell ⟨w.heap.size, 0, none⟩ u1).setCell ⟨w.heap.size, 1, none⟩ u2) w.heap.size tTb [u1, u2]) := Lib.hid (fun u1 u2 => (HT.out.set 0 u1).set 1 u2)
    have HCx : Hid (∀ u1 u2, Cols ((wr.setCell ⟨w.heap.size, 0, none⟩ u1).setCell ⟨w.heap.size, 1, none⟩ u2) w2.heap.size W 0 a b us) := Lib.hid (fun u1 u2 => (HC.out.other HT.out 0 u1).other (HT.out.set 0 u1) 1 u2)
    have HBx : Hid (∀ u1 u2, Below w.heap.size w ((wr.setCell ⟨w.heap.size, 0, none⟩ u1).setCell ⟨w.heap.size, 1, none⟩ u2)) := Lib.hid (fun u1 u2 => ((HWF.out wr HBl.out).setCell (p := ⟨w.heap.size, 0, none⟩) (Nat.le_refl _) u1).setCell (p := ⟨w.heap.size, 1, none⟩) (Nat.le_refl _) u2)
    clear HC HI HBl HT
    go_wp2_with fail
    refine bodyPost_ret (results_cell_row (p := 4) rfl _ _ _ _ _ _ _ rfl (HTx.out _ _) Tryz.underlying212 rfl (by kernel_rfl)) rfl ?_
    exact ⟨_, rfl, ⟨w2.heap.size, us, by rw [← HN.out, ← HM.out], HCx.out _ _⟩, HBx.out _ _⟩
end Sh
end
section
open Go.RowKit Go.Maps
namespace Sh
open Cm Sc
theorem slice_from {w : World} {A : Option Addr} {n c : Nat} {l : List Int} (h : RdV w (.slice A n c) (intsV l)) (k : Nat) (hk : k ≤ l.length) :
 ∃ A', (∀ W : World, Sem.run Tryz.prog (Instr.slice 22 (.slice A n c) (some (.int .i64 (k : Int))) none none) W = .ok (.slice A' (n - k) (c - k)) W) ∧ RdV w (.slice A' (n - k) (c - k)) (intsV (l.drop k)) := by
 have hn : n = l.length := by have := h.len; rw [intsV_len] at this; exact this
 have hcap : n ≤ c ∧ (A = none → c = 0) := by
  obtain ⟨A', c', e, hc, _⟩ := h
  injection e with e1 e2 e3
  subst e1 e3
  rw [e2]; exact hc
 refine ⟨if c = k then A else A.map (·.add (k * 1)), fun W => ?_, ?_⟩
 · have h1 := run_slice_l (P := Tryz.prog) (w := W) 22 A n c (by kernel_rfl) .i64 (k : Int) (by omega) (by omega)
   rw [h1, show (Go.sizeOf (Tryz.prog.elem 22)).run Tryz.prog W = .ok 1 W from by kernel_rfl]
   simp only [Result.andThen, sliced, Int.toNat_natCast]
 · refine ⟨_, _, by rw [intsV_len, List.length_drop, ← hn], ⟨by rw [intsV_len, List.length_drop]; omega, fun e => ?_⟩, fun hp => ?_⟩
   · split at e
     · have := hcap.2 e; omega
     · cases A with
       | none => have := hcap.2 rfl; omega
       | some a => simp at e
   · rw [intsV_len, List.length_drop] at hp
     obtain ⟨_, b, off, rfl, hc⟩ := h.at (by rw [intsV_len]; omega)
     refine ⟨b, off + k, ?_, fun j hj => ?_⟩
     · rw [if_neg (by omega)]
       simp only [Option.map_some, Nat.mul_one, Addr.add]
       split
       · rename_i h0; simp [h0]
       · rfl
     · rw [intsV_len, List.length_drop] at hj
       rw [show off + k + j = off + (k + j) from by omega, hc (k + j) (by rw [intsV_len]; omega)]
       simp [intsV]
def PtS (base W t : Nat) (a b : List Int) (w : World) (p : Value) (w' : World) : Prop := ∃ tb G us, p = .pointer (some ⟨tb, 0, none⟩) ∧ base ≤ tb ∧ Blk w' tb tTb [.int .i64 ((a.drop t).length : Int), .slice (some ⟨G, 0, none⟩) ((b.drop t).length + 1) ((b.drop t).length + 1)] ∧ Cols w' G W 0 (a.drop t) (b.drop t) us ∧ Below base w w'
theorem ptA {base W t : Nat} {a b : List Int} {w w5 : World} {G : Nat} {us : List Value} (hc : Cols w5 G W 0 (a.drop t) (b.drop t) us) (hb : Below base w w5) (hbw : base ≤ w.heap.size) :
 PtS base W t a b w (.pointer (some ⟨w5.heap.size, 0, none⟩)) (w5.alloc (.cells #[.int .i64 ((a.drop t).length : Int), .slice (some ⟨G, 0, none⟩) ((b.drop t).length + 1) ((b.drop t).length + 1)] tTb)) := by
 have hs := hb.size
 have hs5 : base ≤ w5.heap.size := by omega
 exact ⟨_, G, us, rfl, hs5, heap_new w5 _, hc.below ((Below.refl _ _).alloc (Nat.le_refl _) _), hb.alloc hs5 _⟩
theorem ptB {base W t tb : Nat} {a b : List Int} {w w5 : World} {G : Nat} {us : List Value} {x y : Value} (hB : Blk w5 tb tTb [x, y]) (hc : Cols w5 G W 0 (a.drop t) (b.drop t) us) (hb : Below base w w5) (hbt : base ≤ tb) :
 PtS base W t a b w (.pointer (some ⟨tb, 0, none⟩)) ((w5.setCell ⟨tb, 0, none⟩ (.int .i64 ((a.drop t).length : Int))).setCell ⟨tb, 1, none⟩ (.slice (some ⟨G, 0, none⟩) ((b.drop t).length + 1) ((b.drop t).length + 1))) :=
 ⟨_, G, us, rfl, hbt, (hB.set 0 _).set 1 _, (hc.other hB 0 _).other (hB.set 0 _) 1 _, (hb.setCell (p := ⟨tb, 0, none⟩) hbt _).setCell (p := ⟨tb, 1, none⟩) hbt _⟩
def PrPost (a b : List Int) (w : World) (e : Ending) (w' : World) : Prop := ∃ v, e = .returned v ∧ OwnS w.heap.size w' v (wkF 0 0 a b) ∧ Below w.heap.size w w'
set_option maxRecDepth 100000 in
set_option maxHeartbeats 8000000 in
theorem partners_at (A B : Option Addr) (c d n m : Nat) (a b : List Int) (w : World) (HA : Hid (RdV w (.slice A n c) (intsV a))) (HB : Hid (RdV w (.slice B m d) (intsV b))) (hn : n ≤ 4096) (hm : m ≤ 4096) (HN : Hid (n = a.length)) (HM : Hid (m = b.length)) (hBa : Hid (∀ z ∈ a, zB z)) (hBb : Hid (∀ z ∈ b, zB z)) :
 Calls Tryz.prog 149 #[.slice A n c, .slice B m d] w (PrPost a b w) := by
 obtain ⟨t, ht⟩ : ∃ t, t = eqN a b := ⟨_, rfl⟩
 have HT := Lib.hid ht
 have htn : t ≤ n := by rw [ht, HN.out]; exact (eqN_le a b).1
 have htm : t ≤ m := by rw [ht, HM.out]; exact (eqN_le a b).2
 obtain ⟨A1, hs1, hr1⟩ := slice_from HA.out t (by rw [← HN.out]; exact htn)
 obtain ⟨B1, hs2, hr2⟩ := slice_from HB.out t (by rw [← HM.out]; exact htm)
 have HR1 := Lib.hid hr1
 have HR2 := Lib.hid hr2
 have HTab : Hid (∀ w1 : World, Below w.heap.size w w1 → Calls Tryz.prog 168 #[.slice A1 (n - t) (c - t), .slice B1 (m - t) (d - t)] w1 (TbPost ((n - t + 63) / 64) (a.drop t) (b.drop t) w1)) := Lib.hid (fun w1 hb => newTable_at A1 B1 (c - t) (d - t) (n - t) (m - t) _ (a.drop t) (b.drop t) w1 (Lib.hid (HR1.out.below hb)) (Lib.hid (HR2.out.below hb)) (by omega) (by omega) (Lib.hid (by rw [List.length_drop, HN.out])) (Lib.hid (by rw [List.length_drop, HM.out])) (Lib.hid (fun z hz => hBa.out z (List.mem_of_mem_drop hz))) (Lib.hid (fun z hz => hBb.out z (List.mem_of_mem_drop hz))) (Lib.hid rfl))
 have HEq := Lib.hid (equalLines_at A B c d n m t a b w HA HB hn hm HN HM HT htn htm)
 clear ht hr1 hr2
 have HD := Lib.hid (fun q => below_drewN (Below.refl w.heap.size w) q)
 go_enter Tryz.func149, Tryz.ntmps149
 go_upto_region 2 with (go_at_call 167; refine HEq.out.mono ?_; rintro e w1 ⟨rfl, q, rfl⟩)
 have t0 : (0 : Int) ≤ (t : Int) := by omega
 have t1 : (t : Int) ≤ (n : Int) := by omega
 have t2 : (t : Int) ≤ (m : Int) := by omega
 go_cut [6] from 13 to 20 (fun p wx => PtS w.heap.size ((n - t + 63) / 64) t a b w p wx)
 case first =>
  have hd1 := HD.out q
  generalize World.drewN w q = w1 at *
  have HdA : Hid (Below w.heap.size w w1.drew) := Lib.hid hd1.drew
  have HdB : Hid (Below w.heap.size w (w1.alloc (.cells #[.int .i64 0, .slice none 0 0] tTb)).drew ∧ Blk (w1.alloc (.cells #[.int .i64 0, .slice none 0 0] tTb)).drew w1.heap.size tTb [.int .i64 0, .slice none 0 0] ∧ w.heap.size ≤ w1.heap.size) := Lib.hid ⟨(hd1.alloc hd1.size _).drew, heap_new w1 _, hd1.size⟩
  clear hd1
  obtain ⟨la, hla⟩ : ∃ la, la = (a.drop t).length := ⟨_, rfl⟩
  obtain ⟨lb, hlb⟩ : ∃ lb, lb = (b.drop t).length := ⟨_, rfl⟩
  have HLa := Lib.hid hla
  have HLb := Lib.hid hlb
  clear hla hlb
  unfold TbPost Tb at HTab
  rw [← HLa.out, ← HLb.out] at HTab
  go_region_with (first
   | (go_at_call 168; with_reducible refine (HTab.out _ HdA.out).mono ?_; rintro e w5 ⟨v5, rfl, ⟨G5, us5, rfl, hc5⟩, hb5⟩; have HF5 : Hid (PtS w.heap.size ((n - t + 63) / 64) t a b w (.pointer (some ⟨w5.heap.size, 0, none⟩)) (w5.alloc (.cells #[.int .i64 (la : Int), .slice (some ⟨G5, 0, none⟩) (lb + 1) (lb + 1)] tTb))) := Lib.hid (by rw [HLa.out, HLb.out]; exact ptA hc5 (HdA.out.trans (hb5.mono HdA.out.size)) (Nat.le_refl _)); clear hc5 hb5 HdB)
   | (go_at_call 168; with_reducible refine (HTab.out _ HdB.out.1).mono ?_; rintro e w5 ⟨v5, rfl, ⟨G5, us5, rfl, hc5⟩, hb5⟩; have HT5 := HdB.out.2.1.below hb5; have HF6 : Hid (PtS w.heap.size ((n - t + 63) / 64) t a b w (.pointer (some ⟨w1.heap.size, 0, none⟩)) ((w5.setCell ⟨w1.heap.size, 0, none⟩ (.int .i64 (la : Int))).setCell ⟨w1.heap.size, 1, none⟩ (.slice (some ⟨G5, 0, none⟩) (lb + 1) (lb + 1)))) := Lib.hid (by rw [HLa.out, HLb.out]; exact ptB HT5 hc5 (HdB.out.1.trans (hb5.mono HdB.out.1.size)) HdB.out.2.2); have qc0 := HT5.cell (k := 0) (by decide); have qc1 := HT5.cell (k := 1) (by decide); have qf : ∀ k, w5.frozen? ⟨w1.heap.size, k, none⟩ = false := (fun k => HT5.free k); simp only [List.getElem_cons_zero, List.getElem_cons_succ] at qc0 qc1; clear hc5 hb5 HT5 HdA))
  all_goals
   go_wp2_with fail
   go_meet
   case rel => first | exact HF5.out | exact HF6.out
 case rest =>
  obtain ⟨tb, G, us, rfl, hbt, hBk, hC, hbw⟩ := hcut
  have HTb := Lib.hid hBk
  have HC := Lib.hid hC
  have HBw := Lib.hid hbw
  have HEqN := Lib.hid (fun k hk => eqN_at a b k hk)
  clear hs1 hs2 HTab HEq HD hBk hC hbw HR1 HR2 t0 t1 t2
  go_wp2_with fail
  go_loopw [7, 8, 9] (fun p i' j' wr => ∃ (i j : Nat) (dn : List Sp), i ≤ n ∧ j ≤ m ∧ dn.length ≤ i ∧ i' = .int .i64 (i : Int) ∧ j' = .int .i64 (j : Int) ∧ Hid ((t ≤ i ∧ t ≤ j) ∨ (i = j ∧ i < t)) ∧ Hid (OwnS wc.heap.size wr p dn) ∧ Hid (Below wc.heap.size wc wr) ∧ Hid (dn ++ wkF i j (a.drop i) (b.drop j) = wkF 0 0 a b)) (fun _ i' j' _ => (n - (intOf i').toNat) + (m - (intOf j').toNat))
  case atStart => exact ⟨0, 0, [], Nat.zero_le _, Nat.zero_le _, Nat.zero_le _, rfl, rfl, Lib.hid (by omega), Lib.hid (OwnS.nil _ _), Lib.hid (Below.refl _ _), Lib.hid rfl⟩
  case round =>
   obtain ⟨i, j, dn, hi, hj, hdn, rfl, rfl, HIn, HO, HBl, HE⟩ := hrel
   by_cases hlt : i < n ∧ j < m
   · obtain ⟨h1, h2⟩ := hlt
     have x1 : i < a.length := by rw [← HN.out]; exact h1
     have x2 : j < b.length := by rw [← HM.out]; exact h2
     obtain ⟨b1, o1, rfl, c1⟩ := int_at (HA.out.below (HBw.out.trans (HBl.out.mono HBw.out.size))) i x1
     obtain ⟨b2, o2, rfl, c2⟩ := int_at (HB.out.below (HBw.out.trans (HBl.out.mono HBw.out.size))) j x2
     have HE2 : Hid (dn ++ wkF i j (a[i] :: a.drop (i + 1)) (b[j] :: b.drop (j + 1)) = wkF 0 0 a b) := Lib.hid (by rw [← List.drop_eq_getElem_cons x1, ← List.drop_eq_getElem_cons x2]; exact HE.out)
     have i0 : (0 : Int) ≤ (i : Int) := by omega
     have i1 : (i : Int) < (n : Int) := by omega
     have j0 : (0 : Int) ≤ (j : Int) := by omega
     have j1 : (j : Int) < (m : Int) := by omega
     by_cases he : a[i] = b[j]
     · have HIn2 : Hid ((t ≤ i + 1 ∧ t ≤ j + 1) ∨ (i + 1 = j + 1 ∧ i + 1 < t)) := Lib.hid (by have := HIn.out; omega)
       rw [he] at c1 HE2
       have HE3 : Hid ((dn ++ [⟨i, j⟩]) ++ wkF ((i + 1 : Nat) : Int) ((j + 1 : Nat) : Int) (a.drop (i + 1)) (b.drop (j + 1)) = wkF 0 0 a b) := Lib.hid (by
        have := HE2.out
        rw [wkF_eq] at this
        rw [← this, List.append_assoc]; rfl)
       clear HE HE2 HIn he
       generalize b[j] = z at c1 c2
       have hdx : dn.length + 1 ≤ 1000000 := by omega
       have HHx := Lib.hid (HBl.out.drew.size)
       have HOd := Lib.hid (HO.out.drewN)
       go_wp2_with fail
       go_quiet (fail)
       have HOq := Lib.hid (HOd.out nq)
       have HBq := Lib.hid (below_drewN HBl.out nq)
       have HHq := Lib.hid HBq.out.size
       clear HO HBl HOd HHx
       generalize World.drewN wr nq = wq at *
       go_wp2_with (at_builtin; refine app_sp rfl (.tmp 42) (.tmp 46) rfl wc.heap.size dn ⟨i, j⟩ _ _ rfl HOq.out rfl rfl rfl hdx HHq.out ?_; intro v1 w1 ho1 hb1 _; have HO1 := Lib.hid ho1; have HB1 := Lib.hid (HBq.out.trans hb1); clear ho1 hb1)
       go_roundw
       case rel => exact ⟨i + 1, j + 1, _, by omega, by omega, by rw [List.length_append, List.length_singleton]; omega, by go_num, by go_num, HIn2, HO1, HB1, HE3⟩
       case measure => simp [intOf]; omega
     · obtain ⟨y1, y2⟩ : t ≤ i ∧ t ≤ j := by
        rcases HIn.out with h | ⟨h, h3⟩
        · exact h
        · subst h
          obtain ⟨_, _, e⟩ := (HEqN.out i (by rw [← HT.out]; omega)).1 (by rw [← HT.out]; exact h3)
          exact absurd e he
       have hx : (a[i] == b[j]) = false := by simpa using he
       have HEo : Hid (lcs (a.drop (i + 1)) (b[j] :: b.drop (j + 1)) = lcs (a[i] :: a.drop (i + 1)) (b[j] :: b.drop (j + 1)) → dn ++ wkF ((i + 1 : Nat) : Int) j (a.drop (i + 1)) (b.drop j) = wkF 0 0 a b) := Lib.hid (fun h => by
        have := HE2.out
        rw [wkF_old he h] at this
        rw [← this, List.drop_eq_getElem_cons x2]; rfl)
       have HEn : Hid (lcs (a.drop (i + 1)) (b[j] :: b.drop (j + 1)) ≠ lcs (a[i] :: a.drop (i + 1)) (b[j] :: b.drop (j + 1)) → dn ++ wkF i ((j + 1 : Nat) : Int) (a.drop i) (b.drop (j + 1)) = wkF 0 0 a b) := Lib.hid (fun h => by
        have := HE2.out
        rw [wkF_new he h] at this
        rw [← this, List.drop_eq_getElem_cons x1]; rfl)
       have HBit : Hid (colB (a.drop t) ((b.drop t).drop (j - t)) (n - t - 1 - (i - t)) = decide (lcs (a.drop (i + 1)) (b[j] :: b.drop (j + 1)) = lcs (a[i] :: a.drop (i + 1)) (b[j] :: b.drop (j + 1)))) := Lib.hid (by
        have h := colB_at (a := a.drop t) (bs := (b.drop t).drop (j - t)) (i := i - t) (by rw [List.length_drop]; omega)
        rw [List.length_drop, ← HN.out] at h
        rw [h, List.drop_drop, List.drop_drop, List.drop_drop, show t + (j - t) = j from by omega, show t + (i - t) = i from by omega, show t + (i - t + 1) = i + 1 from by omega, List.drop_eq_getElem_cons x1, List.drop_eq_getElem_cons x2, decide_eq_decide]
        exact eq_comm)
       have HIn2 : Hid ((t ≤ i + 1 ∧ t ≤ j) ∨ (i + 1 = j ∧ i + 1 < t)) := Lib.hid (.inl ⟨by omega, y2⟩)
       have HIn3 : Hid ((t ≤ i ∧ t ≤ j + 1) ∨ (i = j + 1 ∧ i < t)) := Lib.hid (.inl ⟨y1, by omega⟩)
       clear HE HE2 HIn he
       generalize a[i] = y at *
       generalize b[j] = z at *
       generalize hq : decide (lcs (a.drop (i + 1)) (z :: b.drop (j + 1)) = lcs (y :: a.drop (i + 1)) (z :: b.drop (j + 1))) = q at HBit
       have HQ := Lib.hid hq
       have HSp : Hid (∀ nq, Calls Tryz.prog 169 #[.agg #[.int .i64 ((a.drop t).length : Int), .slice (some ⟨G, 0, none⟩) ((b.drop t).length + 1) ((b.drop t).length + 1)], .int .i64 ((i - t : Nat) : Int), .int .i64 ((j - t : Nat) : Int)] (wr.drewN nq) (SpPost q (wr.drewN nq))) := Lib.hid (fun nq => by
        have h := spare_at _ ((n - t + 63) / 64) (n - t) (i - t) (j - t) (a.drop t) (b.drop t) (wr.drewN nq) (Lib.hid ⟨G, us, rfl, HC.out.below (below_drewN HBl.out nq)⟩) (Lib.hid (by rw [List.length_drop, HN.out])) (by omega) (Lib.hid rfl) (by omega) (Lib.hid (by rw [List.length_drop, ← HM.out]; omega)) (by omega)
        rw [HBit.out] at h
        exact h)
       have HTw := Lib.hid (fun nq => HTb.out.below (below_drewN HBl.out nq))
       have e1 : (i : Int) - (t : Int) = ((i - t : Nat) : Int) := by omega
       have e2 : (j : Int) - (t : Int) = ((j - t : Nat) : Int) := by omega
       have E1 := Lib.hid e1
       have E2 := Lib.hid e2
       have k0 : (t : Int) ≤ (i : Int) := by omega
       have k1 : (t : Int) ≤ (j : Int) := by omega
       clear hq HBit e1 e2 x1 x2
       generalize (a.drop t).length = la at *
       generalize (b.drop t).length = lb at *
       go_wp2_with fail
       go_quiet (fail)
       have HOq := Lib.hid (HO.out.drewN nq)
       have HBq := Lib.hid (below_drewN HBl.out nq)
       have HSq := Lib.hid (HSp.out nq)
       have HTq := Lib.hid (HTw.out nq)
       clear HO HBl HSp HTw
       generalize World.drewN wr nq = wq at *
       have q0 := HTq.out.cell (k := 0) (by simp)
       have q1 := HTq.out.cell (k := 1) (by simp)
       simp only [List.getElem_cons_zero, List.getElem_cons_succ] at q0 q1
       cases q with
       | true =>
         have HEx := Lib.hid (HEo.out (by simpa using HQ.out))
         clear HEo HEn HQ
         go_wp2_with (go_at_call 169; rw [E1.out, E2.out]; refine HSq.out.mono ?_; rintro e w5 ⟨rfl, hb5⟩; have HO5 := Lib.hid (HOq.out.below hb5); have HB5 := Lib.hid (HBq.out.trans (hb5.mono HBq.out.size)); clear hb5)
         go_roundw
         case rel => exact ⟨i + 1, j, _, by omega, by omega, by omega, by go_num, rfl, HIn2, HO5, HB5, HEx⟩
         case measure => simp [intOf]; omega
       | false =>
         have HEx := Lib.hid (HEn.out (by simpa using HQ.out))
         clear HEo HEn HQ
         go_wp2_with (go_at_call 169; rw [E1.out, E2.out]; refine HSq.out.mono ?_; rintro e w5 ⟨rfl, hb5⟩; have HO5 := Lib.hid (HOq.out.below hb5); have HB5 := Lib.hid (HBq.out.trans (hb5.mono HBq.out.size)); clear hb5)
         go_roundw
         case rel => exact ⟨i, j + 1, _, by omega, by omega, by omega, rfl, by go_num, HIn3, HO5, HB5, HEx⟩
         case measure => simp [intOf]; omega
   · have HF : Hid (dn = wkF 0 0 a b) := Lib.hid (by
      have h := HE.out
      by_cases h1 : i < n
      · have h2 : b.drop j = [] := List.drop_eq_nil_of_le (by rw [← HM.out]; omega)
        rw [h2, wkF_nil', List.append_nil] at h
        exact h
      · have h2 : a.drop i = [] := List.drop_eq_nil_of_le (by rw [← HN.out]; omega)
        rw [h2, wkF_nil, List.append_nil] at h
        exact h)
     have HFin : Hid (OwnS w.heap.size wr u7 dn ∧ Below w.heap.size w wr) := Lib.hid ⟨HO.out.base HBw.out.size, HBw.out.trans (HBl.out.mono HBw.out.size)⟩
     by_cases h1 : i < n
     · have h2 : decide (j < m) = false := by rw [decide_eq_false_iff_not]; omega
       clear HE hlt HIn
       go_wp2_with fail
       go_ret
       exact ⟨_, rfl, by rw [← HF.out]; exact HFin.out.1, HFin.out.2⟩
     · have h2 : decide (i < n) = false := by rw [decide_eq_false_iff_not]; omega
       clear HE hlt HIn
       go_wp2_with fail
       go_ret
       exact ⟨_, rfl, by rw [← HF.out]; exact HFin.out.1, HFin.out.2⟩
end Sh
end
section
open Go.RowKit Go.Maps
namespace Sh
open Cm Sc
def scrF (a b : List Int) : List Ch := frF (a.length : Int) (b.length : Int) 0 0 (wkF 0 0 a b)
theorem wk_okP (a b : List Int) : OkP (a.length : Int) (b.length : Int) 0 0 (wkF 0 0 a b) := by
 have h := wkF_okP 0 0 a b
 rw [Int.zero_add, Int.zero_add] at h
 exact h
theorem lcs_le : ∀ (a b : List Int), lcs a b ≤ a.length ∧ lcs a b ≤ b.length := by
 have h : ∀ (n : Nat) (a b : List Int), a.length + b.length ≤ n → lcs a b ≤ a.length ∧ lcs a b ≤ b.length := by
  intro n
  induction n with
  | zero =>
    intro a b h
    obtain rfl : a = [] := List.eq_nil_of_length_eq_zero (by omega)
    simp [lcs_nil]
  | succ n ih =>
    intro a b h
    cases a with
    | nil => simp [lcs_nil]
    | cons x a =>
      cases b with
      | nil => simp [lcs_nil']
      | cons y b =>
        simp only [List.length_cons] at h ⊢
        have h1 := ih a b (by omega)
        have h2 := ih a (y :: b) (by simp only [List.length_cons]; omega)
        have h3 := ih (x :: a) b (by simp only [List.length_cons]; omega)
        simp only [List.length_cons] at h2 h3
        by_cases e : x = y
        · subst e; rw [lcs_eq]; omega
        · rw [lcs_ne e]; omega
 exact fun a b => h _ a b (Nat.le_refl _)
theorem okP_B {m n : Int} (hm : m ≤ 4096) (hn : n ≤ 4096) : ∀ {p : List Sp} {i j : Int}, 0 ≤ i → 0 ≤ j → OkP m n i j p → ∀ s ∈ p, SpB s
 | [], _, _, _, _, _, s, hs => by cases hs
 | s :: p, i, j, hi, hj, ⟨⟨a, b, c, d⟩, h⟩, x, hx => by
   rcases List.mem_cons.1 hx with rfl | hx
   · exact ⟨⟨by omega, by omega⟩, ⟨by omega, by omega⟩⟩
   · exact okP_B hm hn (by omega) (by omega) h x hx
def ScPost (l : List Ch) (w : World) (e : Ending) (w' : World) : Prop := ∃ v, e = .returned (.tuple #[v, .int .i64 0]) ∧ OwnC w.heap.size w' v l ∧ Below w.heap.size w w'
theorem longB_F {m n : Nat} (h1 : m ≤ 4096) (h2 : n ≤ 4096) : longB m n = false := by unfold longB; rw [decide_eq_false_iff_not]; omega
set_option maxRecDepth 100000 in
set_option maxHeartbeats 2000000 in
theorem Script_at (A B : Option Addr) (c d n m : Nat) (a b : List Int) (w : World) (HA : Hid (RdV w (.slice A n c) (intsV a))) (HB : Hid (RdV w (.slice B m d) (intsV b))) (hn : n ≤ 4096) (hm : m ≤ 4096) (HN : Hid (n = a.length)) (HM : Hid (m = b.length)) (hBa : Hid (∀ z ∈ a, zB z)) (hBb : Hid (∀ z ∈ b, zB z)) :
 Calls Tryz.prog 111 #[.slice A n c, .slice B m d] w (ScPost (scrF a b) w) := by
 have HP := Lib.hid (partners_at A B c d n m a b w HA HB hn hm HN HM hBa hBb)
 have HTl : Hid (∀ w : World, Calls Tryz.prog 147 #[.slice A n c, .slice B m d] w fun e w' => e = .returned (.bool false) ∧ w = w') := Lib.hid (fun w => by
  have h := tooLong_any A B n m c d w
  rw [longB_F hn hm] at h
  exact h)
 have HFp : Hid (∀ (v : Value) (w1 : World), OwnS w.heap.size w1 v (wkF 0 0 a b) → Calls Tryz.prog 148 #[v, .int .i64 (n : Int), .int .i64 (m : Int)] w1 fun e w' => ∃ v', e = .returned (.tuple #[v', .int .i64 0]) ∧ OwnC w1.heap.size w' v' (scrF a b) ∧ Below w1.heap.size w1 w') := Lib.hid (fun v w1 ho => by
  have hl := wkF_len 0 0 a b
  have hle := lcs_le a b
  have hna := HN.out
  have hmb := HM.out
  have hok := wk_okP a b
  have h := FromPairs_any v (wkF 0 0 a b) (n : Int) (m : Int) w1 ho.rd (by omega) (okP_B (m := (a.length : Int)) (n := (b.length : Int)) (by omega) (by omega) (Int.le_refl _) (Int.le_refl _) hok)
  have h0 : fpF (wkF 0 0 a b) (n : Int) (m : Int) = 0 := fpF_ok ⟨by omega, by omega⟩ ⟨by omega, by omega⟩ (by rw [hna, hmb]; exact hok)
  refine h.mono ?_
  rintro e w' ⟨v', rfl, h1, _, h3⟩
  refine ⟨v', by rw [h0], ?_, h3⟩
  have h4 := h1 h0
  unfold scrF
  rw [← hna, ← hmb]
  exact h4)
 go_enter Tryz.func111, Tryz.ntmps111
 go_wp2_with (first
  | (go_at_call 147; refine (HTl.out _).mono ?_; rintro e w' ⟨rfl, rfl⟩)
  | (go_at_call 149; refine HP.out.mono ?_; rintro e w1 ⟨v1, rfl, ho1, hb1⟩; obtain ⟨A1, c1, rfl⟩ := ho1.rd.form; have HO1 := Lib.hid ho1; have HB1 := Lib.hid hb1; clear ho1 hb1)
  | (go_at_call 148; refine (HFp.out _ _ HO1.out).mono ?_; rintro e w2 ⟨v2, rfl, ho2, hb2⟩; have HO2 := Lib.hid (ho2.base HB1.out.size); have HB2 := Lib.hid (HB1.out.trans (hb2.mono HB1.out.size)); clear ho2 hb2))
 go_ret2
 exact ⟨_, rfl, HO2.out, HB2.out⟩
def NumPost (z : Int) (w : World) (e : Ending) (w' : World) : Prop := e = .returned (.tuple #[.int .i64 z, .int .i64 0]) ∧ Below w.heap.size w w'
end Sh
end
section
open Go.RowKit
namespace Sh
open Cm Sc
abbrev tIs : TypeId := 22
theorem info_is : (Tryz.prog.info? tIs).map (fun i => (i.zero, i.size, i.bytes)) = some (some (.slice none 0 0), 1, 24) := by kernel_rfl
def dI (a b : List Int) (i j : Nat) : Int := dist (a.drop i) (b.drop j)
theorem dist_rng (a b : List Int) : 0 ≤ dist a b ∧ dist a b ≤ a.length + b.length := by
 have := lcs_le a b
 unfold dist; omega
theorem dI_rng (a b : List Int) (i j : Nat) : 0 ≤ dI a b i j ∧ dI a b i j ≤ a.length + b.length := by
 have h := dist_rng (a.drop i) (b.drop j)
 rw [List.length_drop, List.length_drop] at h
 unfold dI; omega
theorem dI_endA {a b : List Int} {j : Nat} (hj : j ≤ b.length) : dI a b a.length j = (b.length : Int) - j := by
 unfold dI dist
 rw [List.drop_length, lcs_nil, List.length_drop]
 simp only [List.length_nil]; omega
theorem dI_endB {a b : List Int} {i : Nat} (hi : i ≤ a.length) : dI a b i b.length = (a.length : Int) - i := by
 unfold dI dist
 rw [List.drop_length, lcs_nil', List.length_drop]
 simp only [List.length_nil]; omega
theorem dI_eq {a b : List Int} {i j : Nat} (hi : i < a.length) (hj : j < b.length) (h : a[i] = b[j]) : dI a b i j = dI a b (i + 1) (j + 1) := by
 unfold dI dist
 rw [List.drop_eq_getElem_cons hi, List.drop_eq_getElem_cons hj, h, lcs_eq, List.length_cons, List.length_cons]
 omega
theorem dI_ne {a b : List Int} {i j : Nat} (hi : i < a.length) (hj : j < b.length) (h : a[i] ≠ b[j]) : dI a b i j = 1 + min (dI a b (i + 1) j) (dI a b i (j + 1)) := by
 unfold dI dist
 rw [List.drop_eq_getElem_cons hi, List.drop_eq_getElem_cons hj, lcs_ne h, List.length_cons, List.length_cons]
 omega
theorem dI_old {a b : List Int} {i j : Nat} (hi : i < a.length) (_hj : j ≤ b.length) : (dI a b (i + 1) j + 1 = dI a b i j) ↔ lcs (a.drop (i + 1)) (b.drop j) = lcs (a.drop i) (b.drop j) := by
 unfold dI dist
 rw [List.length_drop, List.length_drop, List.length_drop]
 omega
def rowV (a b : List Int) (i : Nat) : List Value := (List.range (b.length + 1)).map fun j => .int .i64 (dI a b i j)
theorem rowV_len (a b : List Int) (i : Nat) : (rowV a b i).length = b.length + 1 := by simp [rowV]
theorem rowV_get {a b : List Int} {i j : Nat} (h : j < (rowV a b i).length) : (rowV a b i)[j] = .int .i64 (dI a b i j) := by simp [rowV]
def halfR (a b : List Int) (i s : Nat) : List Value := List.replicate s (.int .i64 0) ++ (rowV a b i).drop s
theorem halfR_len {a b : List Int} {i s : Nat} (h : s ≤ b.length + 1) : (halfR a b i s).length = b.length + 1 := by simp [halfR, rowV_len]; omega
theorem halfR_all (a b : List Int) (i : Nat) : halfR a b i (b.length + 1) = List.replicate (b.length + 1) (.int .i64 0) := by
 unfold halfR
 rw [List.drop_of_length_le (by rw [rowV_len]; exact Nat.le_refl _), List.append_nil]
theorem halfR_zero (a b : List Int) (i : Nat) : halfR a b i 0 = rowV a b i := by simp [halfR]
theorem halfR_set {a b : List Int} {i s : Nat} (h : s ≤ b.length) : (halfR a b i (s + 1)).set s (.int .i64 (dI a b i s)) = halfR a b i s := by
 unfold halfR
 rw [List.replicate_succ', List.append_assoc, List.singleton_append, List.set_append]
 simp only [List.length_replicate, Nat.lt_irrefl, if_false, Nat.sub_self, List.set_cons_zero]
 rw [List.drop_eq_getElem_cons (show s < (rowV a b i).length from by rw [rowV_len]; omega), rowV_get]
theorem halfR_get {a b : List Int} {i s j : Nat} (h1 : s ≤ j) (h3 : j ≤ b.length) : (halfR a b i s)[j]? = some (.int .i64 (dI a b i j)) := by
 unfold halfR
 rw [List.getElem?_append_right (by rw [List.length_replicate]; exact h1), List.length_replicate, List.getElem?_drop, show s + (j - s) = j from by omega, List.getElem?_eq_getElem (by rw [rowV_len]; omega), rowV_get]
theorem cell_dn {w : World} {b o : Nat} {v : Value} (h : w.cell? ⟨b, o, none⟩ = some v) (q : Nat) : (w.drewN q).cell? ⟨b, o, none⟩ = some v := ((below_drewN (Below.refl w.heap.size w) q).cell (p := ⟨b, o, none⟩) (Tx.cell_lt h)).trans h
theorem Blk.cellq {w : World} {G : Nat} {t : TypeId} {l : List Value} (h : Blk w G t l) {k : Nat} {v : Value} (hk : l[k]? = some v) : w.cell? ⟨G, k, none⟩ = some v := by
 obtain ⟨hl, e⟩ := List.getElem?_eq_some_iff.1 hk
 rw [h.cell hl, e]
def Rws (w : World) (D r : Nat) (a b : List Int) (us : List Value) : Prop := Blk w D tIs (List.replicate r (.slice none 0 0) ++ us) ∧ us.length = a.length + 1 - r ∧ ∀ k (h : k < us.length), ∃ g, us[k] = .slice (some ⟨g, 0, none⟩) (b.length + 1) (b.length + 1) ∧ Blk w g tI (rowV a b (r + k))
theorem Rws.below {w w' : World} {D r : Nat} {a b : List Int} {us : List Value} (h : Rws w D r a b us) (hb : Below w.heap.size w w') : Rws w' D r a b us :=
 ⟨h.1.below hb, h.2.1, fun k hk => by obtain ⟨g, e, hB⟩ := h.2.2 k hk; exact ⟨g, e, hB.below hb⟩⟩
theorem set_last2 (r : Nat) (us : List Value) (z u : Value) : (List.replicate (r + 1) z ++ us).set r u = List.replicate r z ++ (u :: us) := by
 rw [List.replicate_succ', List.append_assoc, List.singleton_append, List.set_append]
 simp
theorem Rws.lay {w0 w : World} {D r g : Nat} {a b : List Int} {us l : List Value} {u : Value} (h0 : Rws w0 D (r + 1) a b us) (hbl : Below w0.heap.size w0 w) (hg0 : w0.heap.size = g) (hg : Blk w g tI l) :
 Blk (w.setCell ⟨D, r, none⟩ u) D tIs (List.replicate r (.slice none 0 0) ++ (u :: us)) ∧ Blk (w.setCell ⟨D, r, none⟩ u) g tI l ∧ ∀ k (hk : k < us.length), ∃ g', us[k] = .slice (some ⟨g', 0, none⟩) (b.length + 1) (b.length + 1) ∧ g' < g ∧ Blk (w.setCell ⟨D, r, none⟩ u) g' tI (rowV a b (r + 1 + k)) := by
 obtain ⟨h1, h2, h3⟩ := h0.below hbl
 refine ⟨by rw [← set_last2]; exact h1.set r u, ?_, fun k hk => ?_⟩
 · exact hg.set_ne (hg.ne h1 (by decide)) r u
 · obtain ⟨g', e, hB⟩ := h0.2.2 k hk
   have hB2 := hB.below hbl
   exact ⟨g', e, by rw [← hg0]; exact hB.lt, hB2.set_ne (hB2.ne h1 (by decide)) r u⟩
def TbR (w : World) (v : Value) (a b : List Int) : Prop := ∃ D us, v = .slice (some ⟨D, 0, none⟩) (a.length + 1) (a.length + 1) ∧ Rws w D 0 a b us
theorem Rws.at {w : World} {D : Nat} {a b : List Int} {us : List Value} (h : Rws w D 0 a b us) {i j : Nat} (hi : i ≤ a.length) (hj : j ≤ b.length) :
 ∃ g, w.cell? ⟨D, i, none⟩ = some (.slice (some ⟨g, 0, none⟩) (b.length + 1) (b.length + 1)) ∧ w.cell? ⟨g, j, none⟩ = some (.int .i64 (dI a b i j)) := by
 obtain ⟨h1, h2, h3⟩ := h
 rw [List.replicate_zero, List.nil_append] at h1
 have hl : i < us.length := by omega
 obtain ⟨g, e, hB⟩ := h3 i hl
 rw [Nat.zero_add] at hB
 refine ⟨g, by rw [h1.cell hl, e], ?_⟩
 rw [hB.cell (k := j) (by rw [rowV_len]; omega), rowV_get]
def TrPost (a b : List Int) (w : World) (e : Ending) (w' : World) : Prop := ∃ v, e = .returned v ∧ TbR w' v a b ∧ Below w.heap.size w w'
set_option maxRecDepth 100000 in
set_option maxHeartbeats 16000000 in
theorem TableR_at (A B : Option Addr) (c d n m : Nat) (a b : List Int) (w : World) (HA : Hid (RdV w (.slice A n c) (intsV a))) (HB : Hid (RdV w (.slice B m d) (intsV b))) (hn : n ≤ 1000) (hm : m ≤ 1000) (HN : Hid (n = a.length)) (HM : Hid (m = b.length)) :
 Calls Tryz.prog 131 #[.slice A n c, .slice B m d] w (TrPost a b w) := by
 have HRng : Hid (∀ i j, 0 ≤ dI a b i j ∧ dI a b i j ≤ n + m) := Lib.hid (fun i j => by rw [HN.out, HM.out]; exact dI_rng a b i j)
 go_enter Tryz.func131, Tryz.ntmps131
 go_upto_region 2 with (refine mk_row rfl (.tmp 10) (.tmp 10) rfl Tryz.underlying105 info_is rfl (by omega) (n + 1) (by simp [go_sem]) (by simp [go_sem]) (by omega) ?_; intro w1 HR1 _ hb1; have HB1 := Lib.hid hb1; have HC1 : Hid (Rws w1 w.heap.size (n + 1) a b []) := Lib.hid ⟨by rw [List.append_nil]; exact HR1.out, by rw [← HN.out]; simp, fun k hk => absurd hk (Nat.not_lt_zero _)⟩; clear hb1 HR1)
 go_wp2_with fail
 go_loopw [6] (fun i' wr => ∃ (r : Nat) (us : List Value), r ≤ n + 1 ∧ i' = .int .i64 ((r : Int) - 1) ∧ Hid (Rws wr w.heap.size r a b us) ∧ Hid (Below w.heap.size w wr)) (fun i' _ => (intOf i' + 1).toNat)
 case atStart => exact ⟨n + 1, [], Nat.le_refl _, by go_num, HC1, HB1⟩
 case round =>
  clear HC1 HB1
  obtain ⟨wo, rfl⟩ : ∃ wo, wo = wr := ⟨wr, rfl⟩
  obtain ⟨r, us, hr, rfl, HC, HBl⟩ := hrel
  cases r with
  | zero =>
    have es : ((0 : Nat) : Int) - 1 = -1 := rfl
    rw [es]
    go_wp2_with fail
    go_ret
    exact ⟨_, rfl, ⟨w.heap.size, us, by rw [← HN.out]; rfl, HC.out⟩, HBl.out⟩
  | succ i =>
    have es : ((i + 1 : Nat) : Int) - 1 = (i : Int) := by omega
    rw [es]
    have i0 : (0 : Int) ≤ (i : Int) := by omega
    have i1 : (i : Int) < (n : Int) + 1 := by omega
    have i2 : i ≤ n := by omega
    clear es
    go_upto_region 6 with (refine mk_row rfl (.tmp 22) (.tmp 22) rfl Tryz.underlying22 info_i rfl (by omega) (m + 1) (by simp [go_sem]) (by simp [go_sem]) (by omega) ?_; intro w2 HR2 HZ2 hb2; have HB2 := Lib.hid hb2; have HC2 := Lib.hid (HC.out.below hb2); have qc := HC2.out.1.cell (k := i) (by rw [List.length_append, List.length_replicate]; omega); have qf := HC2.out.1.free i; generalize (List.replicate (i + 1) (Value.slice none 0 0) ++ us)[i]'(by rw [List.length_append, List.length_replicate]; omega) = z6 at qc; clear hb2)
    obtain ⟨k1, k2, k3⟩ := Rws.lay (r := i) (u := .slice (some ⟨wo.heap.size, 0, none⟩) (m + 1) (m + 1)) HC.out HB2.out rfl HR2.out
    have hUs := HC.out.2.1
    have hUi : us.length = n - i := by rw [hUs, ← HN.out]; omega
    have HUs := Lib.hid hUi
    have hDg : w.heap.size < wo.heap.size := HC.out.1.lt
    have HB3 : Hid (Below w.heap.size w (w2.setCell ⟨w.heap.size, i, none⟩ (.slice (some ⟨wo.heap.size, 0, none⟩) (m + 1) (m + 1)))) := Lib.hid ((HBl.out.trans (HB2.out.mono HBl.out.size)).setCell (Nat.le_refl _) _)
    have HK1 := Lib.hid k1
    have HK2 : Hid (Blk (w2.setCell ⟨w.heap.size, i, none⟩ (.slice (some ⟨wo.heap.size, 0, none⟩) (m + 1) (m + 1))) wo.heap.size tI (halfR a b i (m + 1))) := Lib.hid (by
     have h := halfR_all a b i
     rw [← HM.out] at h
     rw [h]; exact k2)
    have HK3 := Lib.hid k3
    clear k1 k2 k3 HC2 HR2 HC HZ2 qc qf hUs hUi HB2 HBl
    generalize wo.heap.size = g at *
    generalize w2.setCell ⟨w.heap.size, i, none⟩ (.slice (some ⟨g, 0, none⟩) (m + 1) (m + 1)) = w3 at *
    go_wp2_with fail
    go_loopw [7] (fun j' wr => ∃ s : Nat, s ≤ m + 1 ∧ j' = .int .i64 ((s : Int) - 1) ∧ Hid (Blk wr g tI (halfR a b i s)) ∧ Hid (Below g w3 wr)) (fun j' _ => (intOf j' + 1).toNat)
    case atStart => exact ⟨m + 1, Nat.le_refl _, by go_num, HK2, Lib.hid (Below.refl _ _)⟩
    case round =>
     clear HK2
     obtain ⟨s, hs, rfl, HR, HBq⟩ := hrel
     cases s with
     | zero =>
       have es : ((0 : Nat) : Int) - 1 = -1 := rfl
       rw [es]
       have HNew : Hid (Rws wr w.heap.size i a b (.slice (some ⟨g, 0, none⟩) (m + 1) (m + 1) :: us)) := Lib.hid (by
        refine ⟨(HBq.out.block _ hDg).trans HK1.out, by rw [List.length_cons, HUs.out, ← HN.out]; omega, fun k hk => ?_⟩
        cases k with
        | zero => exact ⟨g, by rw [← HM.out]; rfl, by have := HR.out; rw [halfR_zero] at this; exact this⟩
        | succ k =>
          obtain ⟨g', e, hlt, hB⟩ := HK3.out k (by simpa using hk)
          exact ⟨g', e, by rw [show i + (k + 1) = i + 1 + k from by omega]; exact (HBq.out.block _ hlt).trans hB⟩)
       have HBn := Lib.hid (HB3.out.trans (HBq.out.mono (Nat.le_of_lt hDg)))
       clear HR HBq HK1 HK3 HB3
       go_wp2_with fail
       go_roundw
       case rel => exact ⟨i, _, by omega, rfl, HNew, HBn⟩
       case measure => simp [intOf]
     | succ j =>
       have es : ((j + 1 : Nat) : Int) - 1 = (j : Int) := by omega
       rw [es]
       have j0 : (0 : Int) ≤ (j : Int) := by omega
       have j1 : (j : Int) < (m : Int) + 1 := by omega
       have hjm : j ≤ m := by omega
       have q5 := HR.out.cell (k := j) (by rw [halfR_len (by rw [← HM.out]; omega), ← HM.out]; omega)
       have f5 := HR.out.free j
       generalize (halfR a b i (j + 1))[j]'(by rw [halfR_len (by rw [← HM.out]; omega), ← HM.out]; omega) = z5 at q5
       have qD : wr.cell? ⟨w.heap.size, i, none⟩ = some (.slice (some ⟨g, 0, none⟩) (m + 1) (m + 1)) := Blk.cellq ((HBq.out.block _ hDg).trans HK1.out) (by simp)
       have HRn : Hid (Blk (wr.setCell ⟨g, j, none⟩ (.int .i64 (dI a b i j))) g tI (halfR a b i j)) := Lib.hid (by rw [← halfR_set (by rw [← HM.out]; exact hjm)]; exact HR.out.set j _)
       have HBn : Hid (Below g w3 (wr.setCell ⟨g, j, none⟩ (.int .i64 (dI a b i j)))) := Lib.hid (HBq.out.setCell (Nat.le_refl _) _)
       have HRg : Hid (∀ q, Blk ((wr.drewN q).setCell ⟨g, j, none⟩ (.int .i64 (dI a b i j))) g tI (halfR a b i j)) := Lib.hid (fun q => by rw [← halfR_set (by rw [← HM.out]; exact hjm)]; exact (HR.out.drewN q).set j _)
       have HBg : Hid (∀ q, Below g w3 ((wr.drewN q).setCell ⟨g, j, none⟩ (.int .i64 (dI a b i j)))) := Lib.hid (fun q => (below_drewN HBq.out q).setCell (Nat.le_refl _) _)
       have HFr : Hid (∀ q, (wr.drewN q).frozen? ⟨g, j, none⟩ = false) := Lib.hid (fun q => (HR.out.drewN q).free j)
       clear es
       by_cases hin : i = n
       · have hd : ((i : Int) == (n : Int)) = true := by rw [beq_iff_eq, hin]
         have HV : Hid ((m : Int) - (j : Int) = dI a b i j) := Lib.hid (by rw [hin, HN.out, dI_endA (by rw [← HM.out]; exact hjm), HM.out])
         clear hin HR HBq
         go_wp2_with fail
         go_roundw
         case rel => exact ⟨j, by omega, rfl, Lib.hid (by rw [HV.out]; exact HRn.out), Lib.hid (by rw [HV.out]; exact HBn.out)⟩
         case measure => simp [intOf]
       · have hd : ((i : Int) == (n : Int)) = false := by rw [beq_eq_false_iff_ne]; omega
         have x1 : i < a.length := by rw [← HN.out]; omega
         by_cases hjn : j = m
         · have hd2 : ((j : Int) == (m : Int)) = true := by rw [beq_iff_eq, hjn]
           have HV : Hid ((n : Int) - (i : Int) = dI a b i j) := Lib.hid (by rw [hjn, HM.out, dI_endB (Nat.le_of_lt x1), HN.out])
           clear hin hjn HR HBq x1
           go_wp2_with fail
           go_roundw
           case rel => exact ⟨j, by omega, rfl, Lib.hid (by rw [HV.out]; exact HRn.out), Lib.hid (by rw [HV.out]; exact HBn.out)⟩
           case measure => simp [intOf]
         · have hd2 : ((j : Int) == (m : Int)) = false := by rw [beq_eq_false_iff_ne]; omega
           have x2 : j < b.length := by rw [← HM.out]; omega
           obtain ⟨g1, e1, hg1, hB1⟩ := HK3.out 0 (by rw [HUs.out]; omega)
           have hB1q : Blk wr g1 tI (rowV a b (i + 1)) := (HBq.out.block _ hg1).trans hB1
           have qE : wr.cell? ⟨w.heap.size, i + 1, none⟩ = some (.slice (some ⟨g1, 0, none⟩) (m + 1) (m + 1)) := Blk.cellq ((HBq.out.block _ hDg).trans HK1.out) (by
            rw [List.getElem?_append_right (by rw [List.length_replicate]; omega), List.length_replicate, show i + 1 - i = 1 from by omega, List.getElem?_cons_succ, List.getElem?_eq_getElem (by rw [HUs.out]; omega), e1, HM.out])
           have q2 := hB1q.cell (k := j) (by rw [rowV_len]; omega)
           have q3 := hB1q.cell (k := j + 1) (by rw [rowV_len]; omega)
           rw [rowV_get] at q2 q3
           have q4 : wr.cell? ⟨g, j + 1, none⟩ = some (.int .i64 (dI a b i (j + 1))) := HR.out.cellq (halfR_get (Nat.le_refl _) (by omega))
           have hra := HA.out.below (HB3.out.trans (HBq.out.mono (Nat.le_of_lt hDg)))
           have hrb := HB.out.below (HB3.out.trans (HBq.out.mono (Nat.le_of_lt hDg)))
           obtain ⟨ba, oa, rfl, r1⟩ := int_at hra i x1
           obtain ⟨bb, ob, rfl, r2⟩ := int_at hrb j x2
           have y1 := HRng.out i j
           have y2 := HRng.out (i + 1) j
           have y3 := HRng.out i (j + 1)
           have y4 := HRng.out (i + 1) (j + 1)
           have i3 : (i : Int) < (n : Int) := by omega
           have j3 : (j : Int) < (m : Int) := by omega
           have i4 : (i : Int) + 1 < (n : Int) + 1 := by omega
           have j4 : (j : Int) + 1 < (m : Int) + 1 := by omega
           have i5 : (0 : Int) ≤ (i : Int) + 1 := by omega
           have j5 : (0 : Int) ≤ (j : Int) + 1 := by omega
           have hEq := fun h => dI_eq (a := a) (b := b) x1 x2 h
           have hNe := fun h => dI_ne (a := a) (b := b) x1 x2 h
           have HEq := Lib.hid hEq
           have HNe := Lib.hid hNe
           clear hra hrb hB1 hB1q hg1 e1 hEq hNe
           by_cases he : a[i] = b[j]
           · have HV := Lib.hid (HEq.out he)
             rw [he] at r1
             clear he HEq HNe HR HBq
             generalize b[j] = z at r1 r2
             clear x1 x2
             generalize dI a b (i + 1) (j + 1) = v4 at *
             go_wp2_with fail
             go_quiet (fail)
             have HRd := Lib.hid (HRg.out nq).drew
             have HBd := Lib.hid (HBg.out nq).drew
             rw [HV.out] at HRd HBd
             have qf := HFr.out nq
             replace qD := cell_dn qD nq
             replace qE := cell_dn qE nq
             replace q2 := cell_dn q2 nq
             replace q3 := cell_dn q3 nq
             replace q4 := cell_dn q4 nq
             replace q5 := cell_dn q5 nq
             clear HRg HBg HFr HRn HBn f5 r1 r2
             generalize World.drewN wr nq = wn at *
             go_wp2_with fail
             have s0 : IntKind.i64.wrap ((i : Int) + 1) = (i : Int) + 1 := by rw [IntWalk.i64_in _ (by omega)]
             have s1 : IntKind.i64.wrap ((j : Int) + 1) = (j : Int) + 1 := by rw [IntWalk.i64_in _ (by omega)]
             have s3 : ((i : Int) + 1).toNat = i + 1 := by omega
             have s4 : ((j : Int) + 1).toNat = j + 1 := by omega
             go_still_tail 15, (by kernel_rfl)
             change wpList _ _ _ _ _ wn.drew
             clear s0 s1 s3 s4
             go_wp2_with fail
             go_roundw
             case rel => exact ⟨j, by omega, rfl, HRd, HBd⟩
             case measure => simp [intOf]
           · have hx : (a[i] == b[j]) = false := by simpa using he
             have HV := Lib.hid (HNe.out he)
             clear he HEq HNe HR HBq
             generalize a[i] = y at r1 hx
             generalize b[j] = z at r2 hx
             clear x1 x2
             generalize hx1 : dI a b (i + 1) j = v1 at *
             generalize hx2 : dI a b i (j + 1) = v2 at *
             have k0 : (0 : Int) ≤ v1 := y2.1
             have k1 : v1 ≤ (n : Int) + m := y2.2
             have k2 : (0 : Int) ≤ v2 := y3.1
             have k3 : v2 ≤ (n : Int) + m := y3.2
             have HX1 := Lib.hid hx1
             have HX2 := Lib.hid hx2
             clear hx1 hx2 y1 y2 y3 y4
             go_wp2_with fail
             go_quiet (fail)
             have HRd := Lib.hid (HRg.out nq).drew
             have HBd := Lib.hid (HBg.out nq).drew
             rw [HV.out] at HRd HBd
             have qf := HFr.out nq
             replace qD := cell_dn qD nq
             replace qE := cell_dn qE nq
             replace q2 := cell_dn q2 nq
             replace q3 := cell_dn q3 nq
             replace q4 := cell_dn q4 nq
             replace q5 := cell_dn q5 nq
             clear HRg HBg HFr HRn HBn f5 r1 r2
             generalize World.drewN wr nq = wn at *
             go_wp2_with fail
             have s0 : IntKind.i64.wrap ((i : Int) + 1) = (i : Int) + 1 := by rw [IntWalk.i64_in _ (by omega)]
             have s1 : IntKind.i64.wrap ((j : Int) + 1) = (j : Int) + 1 := by rw [IntWalk.i64_in _ (by omega)]
             have s2 : IntKind.i64.wrap (1 + min v1 v2) = 1 + min v1 v2 := by rw [IntWalk.i64_in _ (by omega)]
             have s3 : ((i : Int) + 1).toNat = i + 1 := by omega
             have s4 : ((j : Int) + 1).toNat = j + 1 := by omega
             go_still_tail 24, (by kernel_rfl)
             change wpList _ _ _ _ _ wn.drew
             clear s0 s1 s2 s3 s4
             go_wp2_with fail
             go_roundw
             case rel => exact ⟨j, by omega, rfl, HRd, HBd⟩
             case measure => simp [intOf]
end Sh
end
section
open Go.RowKit
namespace Sh
open Cm Sc
set_option maxRecDepth 100000 in
set_option maxHeartbeats 16000000 in
theorem WalkR_at (A B : Option Addr) (c d n m : Nat) (a b : List Int) (w : World) (HA : Hid (RdV w (.slice A n c) (intsV a))) (HB : Hid (RdV w (.slice B m d) (intsV b))) (hn : n ≤ 1000) (hm : m ≤ 1000) (HN : Hid (n = a.length)) (HM : Hid (m = b.length)) :
 Calls Tryz.prog 91 #[.slice A n c, .slice B m d] w (NewC (scrF a b) w) := by
 have HT := Lib.hid (TableR_at A B c d n m a b w HA HB hn hm HN HM)
 have HRng : Hid (∀ i j, 0 ≤ dI a b i j ∧ dI a b i j ≤ n + m) := Lib.hid (fun i j => by rw [HN.out, HM.out]; exact dI_rng a b i j)
 have HMd : Hid (∀ (v : Value) (w1 : World), OwnS w1.heap.size w1 v (wkF 0 0 a b) ∨ (∃ base, OwnS base w1 v (wkF 0 0 a b)) → Calls Tryz.prog 132 #[v, .int .i64 (n : Int), .int .i64 (m : Int)] w1 (NewC (scrF a b) w1)) := Lib.hid (fun v w1 ho => by
  have hl := wkF_len 0 0 a b
  have hle := lcs_le a b
  have hna := HN.out
  have hmb := HM.out
  have hok := wk_okP a b
  have hrd : RdS w1 v (wkF 0 0 a b) := by
   rcases ho with h | ⟨_, h⟩
   · exact h.rd
   · exact h.rd
  have h := Made_any v (wkF 0 0 a b) (n : Int) (m : Int) w1 hrd (by omega) ⟨by omega, by omega⟩ ⟨by omega, by omega⟩ (by rw [hna, hmb]; exact hok)
  unfold scrF
  rw [← hna, ← hmb]
  exact h)
 go_enter Tryz.func91, Tryz.ntmps91
 go_wp2_with (go_at_call 131; refine HT.out.mono ?_; rintro e w1 ⟨vt, rfl, ⟨D, us, rfl, hr⟩, hb1⟩; have HR1 := Lib.hid hr; have HB1 := Lib.hid hb1; clear hr hb1 HT)
 have HAt : Hid (∀ i j, i ≤ n → j ≤ m → ∀ wq, Below w1.heap.size w1 wq → ∃ g, wq.cell? ⟨D, i, none⟩ = some (.slice (some ⟨g, 0, none⟩) (m + 1) (m + 1)) ∧ wq.cell? ⟨g, j, none⟩ = some (.int .i64 (dI a b i j))) := Lib.hid (fun i j hi hj wq hb => by
  have h := (HR1.out.below hb).at (i := i) (j := j) (by rw [← HN.out]; exact hi) (by rw [← HM.out]; exact hj)
  rw [← HM.out] at h
  exact h)
 rw [← HN.out]
 go_loopw [6, 7, 8] (fun p' i' j' wr => ∃ (i j : Nat) (dn : List Sp), i ≤ n ∧ j ≤ m ∧ dn.length ≤ i ∧ i' = .int .i64 (i : Int) ∧ j' = .int .i64 (j : Int) ∧ Hid (OwnS w1.heap.size wr p' dn) ∧ Hid (Below w1.heap.size w1 wr) ∧ Hid (dn ++ wkF i j (a.drop i) (b.drop j) = wkF 0 0 a b)) (fun _ i' j' _ => (n - (intOf i').toNat) + (m - (intOf j').toNat))
 case atStart => exact ⟨0, 0, [], Nat.zero_le _, Nat.zero_le _, Nat.zero_le _, rfl, rfl, Lib.hid (OwnS.nil _ _), Lib.hid (Below.refl _ _), Lib.hid rfl⟩
 case round =>
  obtain ⟨i, j, dn, hi, hj, hdn, rfl, rfl, HO, HBl, HE⟩ := hrel
  have i0 : (0 : Int) ≤ (i : Int) := by omega
  have j0 : (0 : Int) ≤ (j : Int) := by omega
  by_cases h1 : i < n
  · have x1 : i < a.length := by rw [← HN.out]; exact h1
    have i1 : (i : Int) < (n : Int) := by omega
    have dd1 : decide (i < n) = true := decide_eq_true h1
    have s0 : IntKind.i64.wrap ((i : Int) + 1) = (i : Int) + 1 := by rw [IntWalk.i64_in _ (by omega)]
    have s3 : ((i : Int) + 1).toNat = i + 1 := by omega
    have i2 : (i : Int) + 1 < (n : Int) + 1 := by omega
    have i3 : (0 : Int) ≤ (i : Int) + 1 := by omega
    have i4 : (i : Int) < (n : Int) + 1 := by omega
    have j4 : (j : Int) < (m : Int) + 1 := by omega
    obtain ⟨g1, q1, q2⟩ := HAt.out i j hi hj wr HBl.out
    obtain ⟨g2, q3, q4⟩ := HAt.out (i + 1) j h1 hj wr HBl.out
    have y1 := HRng.out i j
    have y2 := HRng.out (i + 1) j
    obtain ⟨y11, y12⟩ := y1
    obtain ⟨y21, y22⟩ := y2
    have HOld := Lib.hid (dI_old (a := a) (b := b) (i := i) (j := j) x1 (by rw [← HM.out]; exact hj))
    obtain ⟨b1, o1, rfl, r1⟩ := int_at (HA.out.below (HB1.out.trans (HBl.out.mono HB1.out.size))) i x1
    by_cases h2 : j < m
    · have x2 : j < b.length := by rw [← HM.out]; exact h2
      have j1 : (j : Int) < (m : Int) := by omega
      have dd2 : decide (j < m) = true := decide_eq_true h2
      obtain ⟨b2, o2, rfl, r2⟩ := int_at (HB.out.below (HB1.out.trans (HBl.out.mono HB1.out.size))) j x2
      have HE2 : Hid (dn ++ wkF i j (a[i] :: a.drop (i + 1)) (b[j] :: b.drop (j + 1)) = wkF 0 0 a b) := Lib.hid (by rw [← List.drop_eq_getElem_cons x1, ← List.drop_eq_getElem_cons x2]; exact HE.out)
      by_cases he : a[i] = b[j]
      · rw [he] at r1 HE2
        have HE3 : Hid ((dn ++ [⟨i, j⟩]) ++ wkF ((i + 1 : Nat) : Int) ((j + 1 : Nat) : Int) (a.drop (i + 1)) (b.drop (j + 1)) = wkF 0 0 a b) := Lib.hid (by
         have := HE2.out
         rw [wkF_eq] at this
         rw [← this, List.append_assoc]; rfl)
        clear HE HE2 he HOld q1 q2 q3 q4 y11 y12 y21 y22
        generalize b[j] = z at r1 r2
        clear x1 x2
        have hdx : dn.length + 1 ≤ 1000000 := by omega
        have HOd := Lib.hid (HO.out.drewN)
        go_wp2_with fail
        go_quiet (fail)
        have HOq := Lib.hid (HOd.out nq)
        have HBq := Lib.hid (below_drewN HBl.out nq)
        have HHq := Lib.hid HBq.out.size
        clear HO HBl HOd
        generalize World.drewN wr nq = wq at *
        go_wp2_with (at_builtin; refine app_sp rfl (.tmp 46) (.tmp 50) rfl w1.heap.size dn ⟨i, j⟩ _ _ rfl HOq.out rfl rfl rfl hdx HHq.out ?_; intro v5 w5 ho5 hb5 _; have HO5 := Lib.hid ho5; have HB5 := Lib.hid (HBq.out.trans hb5); clear ho5 hb5)
        go_roundw
        case rel => exact ⟨i + 1, j + 1, _, by omega, by omega, by rw [List.length_append, List.length_singleton]; omega, by go_num, by go_num, HO5, HB5, HE3⟩
        case measure => simp [intOf]; omega
      · have hx : (a[i] == b[j]) = false := by simpa using he
        have HEo : Hid (lcs (a.drop (i + 1)) (b.drop j) = lcs (a.drop i) (b.drop j) → dn ++ wkF ((i + 1 : Nat) : Int) j (a.drop (i + 1)) (b.drop j) = wkF 0 0 a b) := Lib.hid (fun h => by
         rw [List.drop_eq_getElem_cons x1, List.drop_eq_getElem_cons x2] at h
         have := HE2.out
         rw [wkF_old he h] at this
         rw [← this, List.drop_eq_getElem_cons x2]; rfl)
        have HEn : Hid (lcs (a.drop (i + 1)) (b.drop j) ≠ lcs (a.drop i) (b.drop j) → dn ++ wkF i ((j + 1 : Nat) : Int) (a.drop i) (b.drop (j + 1)) = wkF 0 0 a b) := Lib.hid (fun h => by
         rw [List.drop_eq_getElem_cons x1, List.drop_eq_getElem_cons x2] at h
         have := HE2.out
         rw [wkF_new he h] at this
         rw [← this, List.drop_eq_getElem_cons x1]; rfl)
        clear HE HE2 he
        generalize a[i] = y at *
        generalize b[j] = z at *
        clear x1 x2
        have s5 : IntKind.i64.wrap (dI a b (i + 1) j + 1) = dI a b (i + 1) j + 1 := by rw [IntWalk.i64_in _ (by omega)]
        by_cases hl : lcs (a.drop (i + 1)) (b.drop j) = lcs (a.drop i) (b.drop j)
        · have hv : (dI a b (i + 1) j + 1 == dI a b i j) = true := by rw [beq_iff_eq]; exact HOld.out.2 hl
          have HEx := Lib.hid (HEo.out hl)
          clear HEo HEn HOld hl
          generalize dI a b (i + 1) j = v2 at *
          generalize dI a b i j = v1 at *
          go_wp2_with fail
          go_quiet (fail)
          have HOq := Lib.hid (HO.out.drewN nq)
          have HBq := Lib.hid (below_drewN HBl.out nq)
          have t1 := cell_dn q1 nq
          have t2 := cell_dn q2 nq
          have t3 := cell_dn q3 nq
          have t4 := cell_dn q4 nq
          clear q1 q2 q3 q4 r1 r2 HO HBl
          generalize World.drewN wr nq = wq at *
          go_wp2_with fail
          go_quiet (fail)
          have HO5 := Lib.hid (HOq.out.drewN nq)
          have HB5 := Lib.hid (below_drewN HBq.out nq)
          go_wp2_with fail
          go_roundw
          case rel => exact ⟨i + 1, j, _, by omega, by omega, by omega, by go_num, rfl, HO5, HB5, HEx⟩
          case measure => simp [intOf]; omega
        · have hv : (dI a b (i + 1) j + 1 == dI a b i j) = false := by rw [beq_eq_false_iff_ne]; exact fun h => hl (HOld.out.1 h)
          have HEx := Lib.hid (HEn.out hl)
          clear HEo HEn HOld hl
          generalize dI a b (i + 1) j = v2 at *
          generalize dI a b i j = v1 at *
          go_wp2_with fail
          go_quiet (fail)
          have HOq := Lib.hid (HO.out.drewN nq)
          have HBq := Lib.hid (below_drewN HBl.out nq)
          have t1 := cell_dn q1 nq
          have t2 := cell_dn q2 nq
          have t3 := cell_dn q3 nq
          have t4 := cell_dn q4 nq
          clear q1 q2 q3 q4 r1 r2 HO HBl
          generalize World.drewN wr nq = wq at *
          go_wp2_with fail
          go_quiet (fail)
          have HO5 := Lib.hid (HOq.out.drewN nq)
          have HB5 := Lib.hid (below_drewN HBq.out nq)
          go_wp2_with fail
          go_roundw
          case rel => exact ⟨i, j + 1, _, by omega, by omega, by omega, rfl, by go_num, HO5, HB5, HEx⟩
          case measure => simp [intOf]; omega
    · have dd2 : decide (j < m) = false := decide_eq_false h2
      have hjm : j = m := by omega
      have hl : lcs (a.drop (i + 1)) (b.drop j) = lcs (a.drop i) (b.drop j) := by
       rw [List.drop_of_length_le (l := b) (by rw [← HM.out]; omega), lcs_nil', lcs_nil']
      have hv : (dI a b (i + 1) j + 1 == dI a b i j) = true := by rw [beq_iff_eq]; exact HOld.out.2 hl
      have s5 : IntKind.i64.wrap (dI a b (i + 1) j + 1) = dI a b (i + 1) j + 1 := by rw [IntWalk.i64_in _ (by omega)]
      have HEx : Hid (dn ++ wkF ((i + 1 : Nat) : Int) j (a.drop (i + 1)) (b.drop j) = wkF 0 0 a b) := Lib.hid (by
       have h := HE.out
       rw [List.drop_of_length_le (l := b) (by rw [← HM.out]; omega), wkF_nil'] at h ⊢
       exact h)
      clear HE HOld hl hjm r1 x1
      generalize dI a b (i + 1) j = v2 at *
      generalize dI a b i j = v1 at *
      go_wp2_with fail
      go_quiet (fail)
      have HOq := Lib.hid (HO.out.drewN nq)
      have HBq := Lib.hid (below_drewN HBl.out nq)
      have t1 := cell_dn q1 nq
      have t2 := cell_dn q2 nq
      have t3 := cell_dn q3 nq
      have t4 := cell_dn q4 nq
      clear q1 q2 q3 q4 HO HBl
      generalize World.drewN wr nq = wq at *
      go_wp2_with fail
      go_quiet (fail)
      have HO5 := Lib.hid (HOq.out.drewN nq)
      have HB5 := Lib.hid (below_drewN HBq.out nq)
      go_wp2_with fail
      go_roundw
      case rel => exact ⟨i + 1, j, _, by omega, by omega, by omega, by go_num, rfl, HO5, HB5, HEx⟩
      case measure => simp [intOf]; omega
  · have dd1 : decide (i < n) = false := decide_eq_false h1
    have hnil : a.drop i = [] := List.drop_of_length_le (by rw [← HN.out]; omega)
    by_cases h2 : j < m
    · have dd2 : decide (j < m) = true := decide_eq_true h2
      have HEx : Hid (dn ++ wkF i ((j + 1 : Nat) : Int) (a.drop i) (b.drop (j + 1)) = wkF 0 0 a b) := Lib.hid (by
       have h := HE.out
       rw [hnil, wkF_nil] at h ⊢
       exact h)
      clear HE hnil
      go_wp2_with fail
      go_quiet (fail)
      have HOq := Lib.hid (HO.out.drewN nq)
      have HBq := Lib.hid (below_drewN HBl.out nq)
      clear HO HBl
      generalize World.drewN wr nq = wq at *
      go_wp2_with fail
      go_quiet (fail)
      have HO5 := Lib.hid (HOq.out.drewN nq)
      have HB5 := Lib.hid (below_drewN HBq.out nq)
      go_wp2_with fail
      go_roundw
      case rel => exact ⟨i, j + 1, _, by omega, by omega, by omega, rfl, by go_num, HO5, HB5, HEx⟩
      case measure => simp [intOf]; omega
    · have dd2 : decide (j < m) = false := decide_eq_false h2
      have HF : Hid (dn = wkF 0 0 a b) := Lib.hid (by
       have h := HE.out
       rw [hnil, wkF_nil, List.append_nil] at h
       exact h)
      have HMx := Lib.hid (HMd.out _ wr (.inr ⟨_, by rw [← HF.out]; exact HO.out⟩))
      have HBf := Lib.hid (HB1.out.trans (HBl.out.mono HB1.out.size))
      clear HE hnil
      go_wp2_with (go_at_call 132; refine HMx.out.mono ?_; rintro e w5 ⟨v5, rfl, ho5, hb5⟩; have HO5 := Lib.hid (ho5.base HBf.out.size); have HB5 := Lib.hid (HBf.out.trans (hb5.mono HBf.out.size)); clear ho5 hb5)
      go_ret
      exact ⟨_, rfl, HO5.out, HB5.out⟩
end Sh
end
section
namespace Au
end Au
open Go.RowKit
namespace Sh
open Cm Sc Au
def AwPost (w : World) (e : Ending) (w' : World) : Prop := e = .returned (.bool true) ∧ Below w.heap.size w w'
end Sh
end
section
open Go.RowKit
namespace Sh
open Cm Sc Au
theorem Scr_rd (va vb : Value) (a b : List Int) (w : World) (ha : RdV w va (intsV a)) (hb : RdV w vb (intsV b)) (hla : a.length ≤ 4096) (hlb : b.length ≤ 4096) (hza : ∀ z ∈ a, zB z) (hzb : ∀ z ∈ b, zB z) :
 Calls Tryz.prog 111 #[va, vb] w (ScPost (scrF a b) w) := by
 obtain ⟨A, c, rfl⟩ := ha.form
 obtain ⟨B, d, rfl⟩ := hb.form
 rw [intsV_len] at ha hb ⊢
 rw [intsV_len]
 exact Script_at A B c d _ _ a b w (Lib.hid ha) (Lib.hid hb) hla hlb (Lib.hid rfl) (Lib.hid rfl) (Lib.hid hza) (Lib.hid hzb)
theorem scr_ok (a b : List Int) : OkL true 0 0 (scrF a b) (a.length : Int) (b.length : Int) :=
 frF_ok (wkF 0 0 a b) true 0 0 0 0 rfl (fun h => by cases h) (Int.le_refl _) (Int.le_refl _) (by omega) (by omega) (wk_okP a b)
end Sh
end
end Go.Proofs.YtjecfmbecgpbmaaGreatDoor

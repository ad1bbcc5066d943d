/- Facts; each states its conditions. -/
import Derived.Test.YtjecfmbecgpbmaaGreatDoorStrLn
import Derived.Test.YtjecfmbecgpbmaaGreatDoorUniMake
import Derived.Test.YtjecfmbecgpbmaaGreatDoorGScanUnq
import Derived.Deep.AppendLies
import Derived.Test.YtjecfmbecgpbmaaGreatDoorTextJoin
namespace Go.Proofs.YtjecfmbecgpbmaaGreatDoor
section
namespace Cm
end Cm
namespace Hn
end Hn
namespace Sc
end Sc
namespace Uf
end Uf
open Go.RowKit
namespace St
open Uf Cm Hn
open Sc (flatK ownK_below app_k flatK_snoc)
abbrev tRdr : TypeId := 136
def HksI (base : Nat) (w : World) (v : Value) (hs : List PH) : Prop :=
 ∃ zs : List HV, w.ownsRow base tPh 3 v zs.length (flatK hunkC zs) ∧ zs.length = hs.length ∧ (∀ j (a : j < zs.length) (b : j < hs.length), zs[j].old = hs[j].old ∧ zs[j].new = hs[j].new ∧ OwnL base w zs[j].u hs[j].lines) ∧
   ∀ i j (_ : i < j) (b : j < zs.length), (zs[i]'(by omega)).u.ownBlock = none ∨ (zs[i]'(by omega)).u.ownBlock ≠ zs[j].u.ownBlock
theorem HksI.own {base : Nat} {w : World} {v : Value} {hs : List PH} (h : HksI base w v hs) : OwnP base w v hs := by
 obtain ⟨zs, h1, h2, h3, -⟩ := h
 exact ⟨zs, h1, h2, h3⟩
theorem HksI.below {base : Nat} {w w' : World} {v : Value} {hs : List PH} (h : HksI base w v hs) (hb : Below w.heap.size w w') : HksI base w' v hs := by
 obtain ⟨zs, h1, h2, h3, h4⟩ := h
 exact ⟨zs, ownK_below h1 hb, h2, fun j a b => ⟨(h3 j a b).1, (h3 j a b).2.1, (h3 j a b).2.2.below hb⟩, h4⟩
theorem HksI.nil (base : Nat) (w : World) : HksI base w (.slice none 0 0) [] := ⟨[], World.ownsRow_nil _ _ _ _, rfl, fun _ a => absurd a (Nat.not_lt_zero _), fun _ _ _ b => absurd b (Nat.not_lt_zero _)⟩
theorem HksI.box {base g o : Nat} {w : World} {v u : Value} {hs : List PH} (h : HksI base w v hs) (hg : g < base) : HksI base (w.setCell ⟨g, o, none⟩ u) v hs := by
 obtain ⟨zs, h1, h2, h3, h4⟩ := h
 exact ⟨zs, own_box h1 hg, h2, fun j a b => ⟨(h3 j a b).1, (h3 j a b).2.1, own_box (h3 j a b).2.2 hg⟩, h4⟩
theorem HksI.form {base : Nat} {w : World} {v : Value} {hs : List PH} (h : HksI base w v hs) : ∃ A c, v = .slice A hs.length c := h.own.form
theorem app_hks {ops : Array Oper} {rest : List Oper} {o : Oper} {a : Act} {Q : Exit → Act → World → Prop} {w : World} (hg : Region.wanted o (yielded ops a.tmps) = true)
 (s x : Operand) (ho : o.op = .call { callee := .builtin .append, args := #[s, x], argTypes := #[tPhs, tPhs] })
 (base : Nat) (hs : List PH) (old new : Int) (v : Value) (C : Array Value) (hsv : a.eval s = v) (hown : HksI base w v hs)
 {g : Nat} (hz : w.heap.size = g) (hx : a.eval x = .slice (some ⟨g, 0, none⟩) 1 1) (hC : C.toList = [.int .i64 old, .int .i64 new, .slice none 0 0])
 (hsz : hs.length + 1 ≤ 1000000) (hbase : base ≤ w.heap.size)
 (h : ∀ v' w', HksI base w' v' (hs ++ [⟨old, new, []⟩]) → Below base w w' → wpList Tryz.prog ops Q rest (a.put o.dst v') w') :
 wpList Tryz.prog ops Q (o :: rest) a (w.alloc (.cells C tPh)) := by
 obtain ⟨zs, h1, h2, h3, h4⟩ := hown
 have hv0 := h1.alloc (.cells C tPh)
 refine app_k (by decide) hg Tryz.underlying24 info_ph rfl (by decide) s x ho base zs.length (flatK hunkC zs) (hunkC ⟨old, new, .slice none 0 0⟩) rfl (one_hv ⟨old, new, .slice none 0 0⟩ _ _ _ rfl) v C hsv h1 (by rw [hz]; exact hx) hC (by omega) hbase
  (fun v' w' g1 g2 g3 => h v' w' ⟨zs ++ [⟨old, new, .slice none 0 0⟩], by rw [List.length_append, List.length_singleton, flatK_snoc]; exact g1, by simp [h2], fun j a b => ?_, fun i j hij b => ?_⟩ g2)
 · by_cases hj : j < zs.length
   · rw [List.getElem_append_left hj]
     have e : (hs ++ [⟨old, new, []⟩])[j] = hs[j]'(by omega) := List.getElem_append_left (by omega)
     rw [e]
     obtain ⟨k1, k2, k3⟩ := h3 j hj (by omega)
     have hr := World.ownsRow.alloc k3 (.cells C tPh)
     exact ⟨k1, k2, hr.kept g3 (ownK_ne hr hv0 (by decide))⟩
   · have hj2 : j = zs.length := by rw [List.length_append, List.length_singleton] at a; omega
     subst hj2
     have e1 : (zs ++ [(⟨old, new, .slice none 0 0⟩ : HV)])[zs.length] = ⟨old, new, .slice none 0 0⟩ := by simp
     have e2 : (hs ++ [(⟨old, new, []⟩ : PH)])[zs.length] = ⟨old, new, []⟩ := by simp [h2]
     rw [e1, e2]
     exact ⟨rfl, rfl, OwnL.nil _ _⟩
 · rw [List.length_append, List.length_singleton] at b
   have hi : i < zs.length := by omega
   rw [List.getElem_append_left hi]
   by_cases hj : j < zs.length
   · rw [List.getElem_append_left hj]
     exact h4 i j hij hj
   · have hj2 : j = zs.length := by omega
     subst hj2
     have e1 : (zs ++ [(⟨old, new, .slice none 0 0⟩ : HV)])[zs.length] = ⟨old, new, .slice none 0 0⟩ := by simp
     rw [e1]
     show zs[i].u.ownBlock = none ∨ zs[i].u.ownBlock ≠ none
     cases zs[i].u.ownBlock with
     | none => exact .inl rfl
     | some g => exact .inr (by simp)
structure RdI (w0 wr : World) (p : Pat) : Prop where
 bel : Below w0.heap.size w0 wr
 box : ∃ v, Blk wr w0.heap.size tRdr [.string p.on, .string p.nn, v] ∧ HksI (w0.heap.size + 1) wr v p.hunks
def StPost (w0 : World) (r : Option Pat) (e : Ending) (w' : World) : Prop := e = .returned (.bool r.isSome) ∧ Below w0.heap.size w0 w' ∧ ∀ q, r = some q → RdI w0 w' q
theorem StPost.no {w0 w' : World} (hb : Below w0.heap.size w0 w') : StPost w0 none (.returned (.bool false)) w' := ⟨rfl, hb, fun q h => by cases h⟩
theorem StPost.yes {w0 w' : World} {q : Pat} (h : RdI w0 w' q) : StPost w0 (some q) (.returned (.bool true)) w' := ⟨rfl, h.bel, fun q' e => by cases e; exact h⟩
theorem RdI.below {w0 wr w' : World} {p : Pat} (h : RdI w0 wr p) (hb : Below wr.heap.size wr w') : RdI w0 w' p := by
 obtain ⟨v, h1, h2⟩ := h.box
 exact ⟨h.bel.trans (hb.mono h.bel.size), v, h1.below hb, h2.below hb⟩
set_option maxRecDepth 100000 in
set_option maxHeartbeats 2000000 in
theorem readName_on (w0 wr : World) (p : Pat) (s : ByteArray) (h : RdI w0 wr p) (hs : s.size ≤ 1048576) : Calls Tryz.prog 128 #[.string s, .pointer (some ⟨w0.heap.size, 0, none⟩)] wr (StPost w0 ((Sc.unqF (bs s) 4).map fun r => ⟨⟨r.1.toArray⟩, p.nn, p.hunks⟩)) := by
 obtain ⟨v, hk, ho⟩ := h.box
 have HU := Lib.hid (Sc.Unquote_any s 4 wr hs)
 have HB := Lib.hid h.bel
 have HK := Lib.hid hk
 have HO := Lib.hid ho
 have HS : Hid (Sc.unqF (Sc.bs s) 4 = Sc.unqF (bs s) 4) := Lib.hid rfl
 rw [HS.out] at HU
 cases hq : Sc.unqF (bs s) 4 with
 | none =>
   rw [hq] at HU
   unfold Sc.unqV at HU
   have HF : Hid (∀ w', Below w0.heap.size w0 w' → StPost w0 (none.map fun r : List UInt8 × Nat => (⟨⟨r.1.toArray⟩, p.nn, p.hunks⟩ : Pat)) (.returned (.bool false)) w') := Lib.hid (fun w' hb => StPost.no hb)
   clear hk ho h hq HS
   go_enter Tryz.func128, Tryz.ntmps128
   go_wp2_with fail
   refine HU.out.mono ?_
   rintro e w1 ⟨rfl, hb⟩
   have HB1 := Lib.hid (HB.out.trans (hb.mono HB.out.size))
   obtain ⟨k0, k1, k2, kf, klt⟩ := blk3 (HK.out.below hb)
   have HB2 := Lib.hid (HB1.out.setCell (p := ⟨w0.heap.size, 0, none⟩) (Nat.le_refl _) (.string ⟨#[]⟩))
   clear hb
   go_wp2_with fail
   go_ret
   exact HF.out _ HB2.out
 | some r =>
   obtain ⟨t, e⟩ := r
   rw [hq] at HU
   unfold Sc.unqV at HU
   have HF : Hid (∀ w', Below wr.heap.size wr w' → StPost w0 ((some (t, e)).map fun r : List UInt8 × Nat => (⟨⟨r.1.toArray⟩, p.nn, p.hunks⟩ : Pat)) (.returned (.bool true)) (w'.setCell ⟨w0.heap.size, 0, none⟩ (.string ⟨t.toArray⟩))) := Lib.hid (fun w' hb => StPost.yes
    ⟨(HB.out.trans (hb.mono HB.out.size)).setCell (p := ⟨w0.heap.size, 0, none⟩) (Nat.le_refl _) _, v, (HK.out.below hb).set 0 _, (HO.out.below hb).box (Nat.lt_succ_self _)⟩)
   clear hk ho h hq HS
   go_enter Tryz.func128, Tryz.ntmps128
   go_wp2_with fail
   refine HU.out.mono ?_
   rintro e' w1 ⟨rfl, hb⟩
   obtain ⟨k0, k1, k2, kf, klt⟩ := blk3 (HK.out.below hb)
   have HF2 := Lib.hid (HF.out _ hb)
   clear hb HF
   go_wp2_with fail
   go_ret
   exact HF2.out
set_option maxRecDepth 100000 in
set_option maxHeartbeats 2000000 in
theorem readName_nn (w0 wr : World) (p : Pat) (s : ByteArray) (h : RdI w0 wr p) (hs : s.size ≤ 1048576) : Calls Tryz.prog 128 #[.string s, .pointer (some ⟨w0.heap.size, 1, none⟩)] wr (StPost w0 ((Sc.unqF (bs s) 4).map fun r => ⟨p.on, ⟨r.1.toArray⟩, p.hunks⟩)) := by
 obtain ⟨v, hk, ho⟩ := h.box
 have HU := Lib.hid (Sc.Unquote_any s 4 wr hs)
 have HB := Lib.hid h.bel
 have HK := Lib.hid hk
 have HO := Lib.hid ho
 have HS : Hid (Sc.unqF (Sc.bs s) 4 = Sc.unqF (bs s) 4) := Lib.hid rfl
 rw [HS.out] at HU
 cases hq : Sc.unqF (bs s) 4 with
 | none =>
   rw [hq] at HU
   unfold Sc.unqV at HU
   have HF : Hid (∀ w', Below w0.heap.size w0 w' → StPost w0 (none.map fun r : List UInt8 × Nat => (⟨p.on, ⟨r.1.toArray⟩, p.hunks⟩ : Pat)) (.returned (.bool false)) w') := Lib.hid (fun w' hb => StPost.no hb)
   clear hk ho h hq HS
   go_enter Tryz.func128, Tryz.ntmps128
   go_wp2_with fail
   refine HU.out.mono ?_
   rintro e w1 ⟨rfl, hb⟩
   have HB1 := Lib.hid (HB.out.trans (hb.mono HB.out.size))
   obtain ⟨k0, k1, k2, kf, klt⟩ := blk3 (HK.out.below hb)
   have HB2 := Lib.hid (HB1.out.setCell (p := ⟨w0.heap.size, 1, none⟩) (Nat.le_refl _) (.string ⟨#[]⟩))
   clear hb
   go_wp2_with fail
   go_ret
   exact HF.out _ HB2.out
 | some r =>
   obtain ⟨t, e⟩ := r
   rw [hq] at HU
   unfold Sc.unqV at HU
   have HF : Hid (∀ w', Below wr.heap.size wr w' → StPost w0 ((some (t, e)).map fun r : List UInt8 × Nat => (⟨p.on, ⟨r.1.toArray⟩, p.hunks⟩ : Pat)) (.returned (.bool true)) (w'.setCell ⟨w0.heap.size, 1, none⟩ (.string ⟨t.toArray⟩))) := Lib.hid (fun w' hb => StPost.yes
    ⟨(HB.out.trans (hb.mono HB.out.size)).setCell (p := ⟨w0.heap.size, 1, none⟩) (Nat.le_refl _) _, v, (HK.out.below hb).set 1 _, (HO.out.below hb).box (Nat.lt_succ_self _)⟩)
   clear hk ho h hq HS
   go_enter Tryz.func128, Tryz.ntmps128
   go_wp2_with fail
   refine HU.out.mono ?_
   rintro e' w1 ⟨rfl, hb⟩
   obtain ⟨k0, k1, k2, kf, klt⟩ := blk3 (HK.out.below hb)
   have HF2 := Lib.hid (HF.out _ hb)
   clear hb HF
   go_wp2_with fail
   go_ret
   exact HF2.out
end St
end
section
open Go.RowKit
namespace St
open Uf Cm Hn
open Sc (flatK ownK_below app_k flatK_snoc Pow rngF rngAt chkR numAt)
theorem chkR_e {l : List UInt8} {k first c e : Nat} {r : Int × Nat × Nat} (h : chkR l k first c e = some r) : r.2.2 = e := by
 unfold chkR at h
 generalize (if 0 < c then (first : Int) - 1 else (first : Int)) = a at h
 by_cases hc : Sc.fmtR a c = (l.drop k).take (e - k)
 · rw [if_pos hc] at h
   injection h with h
   rw [← h]
 · rw [if_neg hc] at h
   cases h
theorem rng_le {l : List UInt8} {k : Nat} {r : Int × Nat × Nat} (hk : k ≤ l.length) (h : rngF l k = some r) : r.2.2 ≤ l.length := by
 rw [rngF_in l k hk] at h
 unfold rngAt at h
 cases h1 : numAt l k with
 | none => rw [h1] at h; cases h
 | some q =>
   obtain ⟨first, e⟩ := q
   rw [h1] at h
   have he := (Sc.numAt_le l k hk _ _ h1).2.2
   simp only at h
   split at h
   · rename_i h44
     have hlt : e < l.length := by
      rcases Nat.lt_or_ge e l.length with h3 | h3
      · exact h3
      · rw [List.getElem?_eq_none h3] at h44; cases h44
     cases h2 : numAt l (e + 1) with
     | none => rw [h2] at h; cases h
     | some q2 =>
       obtain ⟨c, e2⟩ := q2
       rw [h2] at h
       have he2 := (Sc.numAt_le l (e + 1) hlt _ _ h2).2.2
       rw [chkR_e h]
       exact he2
   · rw [chkR_e h]
     exact he
theorem rngF_short (l : List UInt8) (k : Nat) (h : l.length < k) : rngF l k = none := by
 unfold rngF
 rw [if_pos (by omega)]
set_option maxRecDepth 100000 in
set_option maxHeartbeats 4000000 in
theorem header_any (w0 wr : World) (p : Pat) (s : ByteArray) (h : RdI w0 wr p) (hs : s.size ≤ 1048576) (hp : Pow w0) (hl : p.hunks.length + 1 ≤ 1000000) : Calls Tryz.prog 88 #[.pointer (some ⟨w0.heap.size, 0, none⟩), .string s] wr (StPost w0 (headF p (bs s))) := by
 have hbl : (bs s).length = s.size := Tx.bs_len s
 have HR := Lib.hid (fun (k : Int) (w' : World) (hb : Below w0.heap.size w0 w') => Sc.Range_any s k w' (by omega) (hp.stays hb))
 have HS : Hid (∀ k, rngF (Sc.bs s) k = rngF (bs s) k) := Lib.hid (fun _ => rfl)
 have HI := Lib.hid h
 have HB := Lib.hid h.bel
 cases hq : rngF (bs s) 4 with
 | none =>
   have HC := Lib.hid (HR.out 4 wr HB.out)
   rw [HS.out, hq] at HC
   unfold Sc.rngV at HC
   have HF : Hid (∀ w', Below w0.heap.size w0 w' → StPost w0 (headF p (bs s)) (.returned (.bool false)) w') := Lib.hid (fun w' hb => by
    have e : headF p (bs s) = none := by unfold headF; rw [hq]
    rw [e]; exact StPost.no hb)
   clear hq HR HS h
   go_enter Tryz.func88, Tryz.ntmps88
   go_wp2_with fail
   refine HC.out.mono ?_
   rintro e w1 ⟨rfl, hb⟩
   have HB1 := Lib.hid (HB.out.trans (hb.mono HB.out.size))
   clear hb
   go_wp2_with fail
   go_ret
   exact HF.out _ HB1.out
 | some q =>
   obtain ⟨o, c1, e1⟩ := q
   have h4 : 4 ≤ (bs s).length := by
    rcases Nat.lt_or_ge (bs s).length 4 with h4 | h4
    · have := rngF_short (bs s) 4 h4
      rw [show ((4 : Nat) : Int) = 4 from rfl] at this
      rw [this] at hq; cases hq
    · exact h4
   have he1 : e1 ≤ (bs s).length := rng_le (k := 4) h4 hq
   have hz : e1 ≤ 1048576 := by omega
   have HC := Lib.hid (HR.out 4 wr HB.out)
   rw [HS.out, hq] at HC
   unfold Sc.rngV at HC
   cases hq2 : rngF (bs s) ((e1 : Int) + 2) with
   | none =>
     have HC2 := Lib.hid (fun w' hb => HR.out ((e1 : Int) + 2) w' hb)
     rw [HS.out, hq2] at HC2
     unfold Sc.rngV at HC2
     have HF : Hid (∀ w', Below w0.heap.size w0 w' → StPost w0 (headF p (bs s)) (.returned (.bool false)) w') := Lib.hid (fun w' hb => by
      have e : headF p (bs s) = none := by unfold headF; rw [hq]; simp only; rw [hq2]
      rw [e]; exact StPost.no hb)
     clear hq hq2 HR HS h hbl h4 he1
     go_enter Tryz.func88, Tryz.ntmps88
     go_wp2_with fail
     refine HC.out.mono ?_
     rintro e w1 ⟨rfl, hb⟩
     have HB1 := Lib.hid (HB.out.trans (hb.mono HB.out.size))
     clear hb HC
     go_wp2_with fail
     refine (HC2.out _ HB1.out).mono ?_
     rintro e w2 ⟨rfl, hb⟩
     have HB2 := Lib.hid (HB1.out.trans (hb.mono HB1.out.size))
     clear hb HC2
     go_wp2_with fail
     go_ret
     exact HF.out _ HB2.out
   | some q2 =>
     obtain ⟨n, c2, e2⟩ := q2
     have HC2 := Lib.hid (fun w' hb => HR.out ((e1 : Int) + 2) w' hb)
     rw [HS.out, hq2] at HC2
     unfold Sc.rngV at HC2
     have HF : Hid (∀ w', RdI w0 w' ⟨p.on, p.nn, p.hunks ++ [⟨o, n, []⟩]⟩ → StPost w0 (headF p (bs s)) (.returned (.bool true)) w') := Lib.hid (fun w' hb => by
      have e : headF p (bs s) = some ⟨p.on, p.nn, p.hunks ++ [⟨o, n, []⟩]⟩ := by unfold headF; rw [hq]; simp only; rw [hq2]
      rw [e]; exact StPost.yes hb)
     clear hq hq2 HR HS h hbl h4 he1
     go_enter Tryz.func88, Tryz.ntmps88
     go_wp2_with fail
     refine HC.out.mono ?_
     rintro e w1 ⟨rfl, hb⟩
     have HI1 := Lib.hid (HI.out.below hb)
     have HB1 := Lib.hid (HB.out.trans (hb.mono HB.out.size))
     clear hb HC HI HB
     go_wp2_with fail
     refine (HC2.out _ HB1.out).mono ?_
     rintro e w2 ⟨rfl, hb⟩
     have HI2 := Lib.hid (HI1.out.below hb)
     clear hb HC2 HI1 HB1
     obtain ⟨v, hk, ho⟩ := HI2.out.box
     obtain ⟨A, cv, rfl⟩ := ho.form
     obtain ⟨k0, k1, k2, kf, klt⟩ := blk3 hk
     have HO := Lib.hid ho
     have HK := Lib.hid hk
     have HN : Hid (∀ v' w', HksI (w0.heap.size + 1) w' v' (p.hunks ++ [⟨o, n, []⟩]) → Below (w0.heap.size + 1) w2 w' → RdI w0 (w'.setCell ⟨w0.heap.size, 2, none⟩ v') ⟨p.on, p.nn, p.hunks ++ [⟨o, n, []⟩]⟩ ∧ Blk w' w0.heap.size tRdr [.string p.on, .string p.nn, .slice A p.hunks.length cv]) := Lib.hid (fun v' w' h1 h2 => by
      have b : Blk w' w0.heap.size tRdr [.string p.on, .string p.nn, .slice A p.hunks.length cv] := (h2.block _ (Nat.lt_succ_self _)).trans HK.out
      exact ⟨⟨(HI2.out.bel.trans (h2.mono (Nat.le_succ _))).setCell (p := ⟨w0.heap.size, 2, none⟩) (Nat.le_refl _) _, v', b.set 2 v', h1.box (Nat.lt_succ_self _)⟩, b⟩)
     have hbase : w0.heap.size + 1 ≤ w2.heap.size := klt
     clear hk ho HK HI2
     go_wp2_with (at_builtin; refine app_hks rfl (.tmp 37) (.tmp 41) rfl (w0.heap.size + 1) p.hunks o n _ _ rfl HO.out rfl rfl rfl hl hbase ?_; intro v7 w7 ho7 hb7; obtain ⟨A7, cv7, rfl⟩ := ho7.form; obtain ⟨hm7, hk7⟩ := HN.out _ _ ho7 hb7; rw [List.length_append, List.length_singleton] at hm7; have HM7 := Lib.hid hm7; obtain ⟨x0, x1, x2, xf, xlt⟩ := blk3 hk7; clear ho7 hb7 hm7 hk7)
     go_ret
     exact HF.out _ HM7.out
end St
end
section
open Go.RowKit
namespace St
open Uf Cm Hn
open Sc (flatK ownK_below app_k flatK_snoc Pow flat_set)
theorem step_app_ln {ops : Array Oper} {o : Oper} {a : Act} {K : Act → World → Prop} {Q : Exit → Act → World → Prop} {E : Prop} {w : World} (hgd : o.guard = none) (s x : Operand)
 (ho : o.op = .call { callee := .builtin .append, args := #[s, x], argTypes := #[tLns, tLns] })
 (base : Nat) (l : List Ln) (c : Ln) (v : Value) (hsv : a.eval s = v) (hown : OwnL base w v l)
 (ad : Addr) (hx : a.eval x = .slice (some ad) 1 1) (hnews : ∀ (j : Nat) (z : Value), (lineC c)[j]? = some z → w.cell? (ad.add j) = some z)
 (hsz : l.length + 1 ≤ 1000000) (hbase : base ≤ w.heap.size)
 (h : ∀ g cap w', OwnL base w' (.slice (some ⟨g, 0, none⟩) (l.length + 1) cap) (l ++ [c]) → w.grownBy w' v.ownBlock → (v.ownBlock = some g ∨ g = w.heap.size) → K (a.put o.dst (.slice (some ⟨g, 0, none⟩) (l.length + 1) cap)) w') :
 if Region.wanted o (yielded ops a.tmps) = true then Oper.wp Tryz.prog o a w K Q else E := by
 obtain ⟨i0, hi0, hz0, hz1, hz2⟩ := info_parts info_ln
 refine step_append_lies w hgd s x tLns ho base tLn i0 zeroLn 2 24 Tryz.underlying37 hi0 hz0 hz1 hz2 rfl (by omega) v l.length (flatK lineC l) hsv hown ad 1 1 (lineC c) hx rfl hnews (one_ln c) (by omega) (by unfold maxLen; omega) (by omega) hbase w.heap.size rfl ?_
 intro g cap w' g1 g2 g3 g4
 exact h g cap w' (by unfold OwnL; rw [List.length_append, List.length_singleton, flatK_snoc]; exact g1) g2 g3
theorem frz {w : World} {g k : Nat} {cur : Array Value} {t : TypeId} (h : w.heap[g]? = some (.cells cur t (0, 0))) : w.frozen? ⟨g, k, none⟩ = false := by simp [World.frozen?, h]
theorem HksI.last {base : Nat} {w : World} {A : Option Addr} {n c : Nat} {hs : List PH} {h : PH} (hI : HksI base w (.slice A n c) (hs ++ [h])) :
 ∃ g A1 c1, A = some ⟨g, 0, none⟩ ∧ n = hs.length + 1 ∧ base ≤ g ∧ w.cell? ⟨g, hs.length * 3 + 2, none⟩ = some (.slice A1 h.lines.length c1) ∧ (∀ k, w.frozen? ⟨g, k, none⟩ = false) ∧ OwnL base w (.slice A1 h.lines.length c1) h.lines ∧
   (∀ w1, Below w.heap.size w w1 → w1.cell? ⟨g, hs.length * 3 + 2, none⟩ = some (.slice A1 h.lines.length c1) ∧ (∀ k, w1.frozen? ⟨g, k, none⟩ = false)) ∧
   ∀ w1 w' u' (h' : PH), Below w.heap.size w w1 → OwnL base w' u' h'.lines → h'.old = h.old → h'.new = h.new → w1.grownBy w' (Value.slice A1 h.lines.length c1).ownBlock → (u'.ownBlock = (Value.slice A1 h.lines.length c1).ownBlock ∨ ∃ G, u'.ownBlock = some G ∧ w1.heap.size ≤ G) →
     (w'.cell? ⟨g, hs.length * 3 + 2, none⟩ = some (.slice A1 h.lines.length c1) ∧ w'.frozen? ⟨g, hs.length * 3 + 2, none⟩ = false) ∧ HksI base (w'.setCell ⟨g, hs.length * 3 + 2, none⟩ u') (.slice A n c) (hs ++ [h']) := by
 obtain ⟨zs, h1, h2, h3, h4⟩ := hI
 rw [List.length_append, List.length_singleton] at h2
 have hn : n = hs.length + 1 := by
  rcases h1.2 with ⟨e, h0⟩ | ⟨g', cap, cur, e, _⟩
  · injection e with e1 e2 e3
    omega
  · injection e with e1 e2 e3
    omega
 obtain ⟨g, hA, hg, hfz⟩ : ∃ g, A = some ⟨g, 0, none⟩ ∧ base ≤ g ∧ ∃ cur, w.heap[g]? = some (.cells cur tPh (0, 0)) := by
  rcases h1.2 with ⟨e, h0⟩ | ⟨g', cap, cur, e, hb, hh, _⟩
  · omega
  · injection e with e1 e2 e3
    exact ⟨g', e1, hb, cur, hh⟩
 subst hA
 have hK : hs.length < zs.length := by omega
 obtain ⟨k1, k2, k3⟩ := h3 hs.length hK (by simp)
 have e2 : (hs ++ [h])[hs.length] = h := by simp
 simp only [e2] at k1 k2 k3
 obtain ⟨A1, c1, eu⟩ := k3.form
 have hcell : ∀ w1, Below w.heap.size w w1 → w1.cell? ⟨g, hs.length * 3 + 2, none⟩ = some (.slice A1 h.lines.length c1) := by
  intro w1 hb
  obtain ⟨b, off, e, hc⟩ := (Sc.RdK.of_own hunkC_len (ownK_below h1 hb)).at hs.length hK
  injection e with e
  injection e with e5 e6
  subst e5 e6
  have := hc 2 (show 2 < 3 by decide)
  simp only [hunkC, List.getElem_cons_succ, List.getElem_cons_zero, Nat.zero_add] at this
  rw [← eu]
  exact this
 have hfro : ∀ w1, Below w.heap.size w w1 → ∀ k, w1.frozen? ⟨g, k, none⟩ = false := by
  intro w1 hb k
  obtain ⟨cur, hh⟩ := hfz
  have hlt : g < w.heap.size := (Array.getElem?_eq_some_iff.1 hh).1
  have hh1 : w1.heap[g]? = some (.cells cur tPh (0, 0)) := (hb.block g hlt).trans hh
  exact frz hh1
 rw [eu] at k3
 refine ⟨g, A1, c1, rfl, hn, hg, hcell w (Below.refl _ _), hfro w (Below.refl _ _), k3, fun w1 hb => ⟨hcell w1 hb, hfro w1 hb⟩, ?_⟩
 intro w1 w' u' h' hb1 ho' eo en hgr hblk
 have h1' := ownK_below h1 hb1
 have k3' := k3.below hb1
 have hrow : w'.ownsRow base tPh 3 (.slice (some ⟨g, 0, none⟩) n c) zs.length (flatK hunkC zs) := h1'.kept hgr (ownK_ne h1' k3' (by decide))
 have hzn : zs.length = n := by omega
 have hst := (hzn ▸ hrow : w'.ownsRow base tPh 3 (.slice (some ⟨g, 0, none⟩) n c) n (flatK hunkC zs)).stored (hs.length * 3 + 2) u'
 have hset := Sc.flat_set hunkC_len zs hs.length hK 2 (by decide) u' ⟨h'.old, h'.new, u'⟩ (by
  rw [show hunkC zs[hs.length] = [.int .i64 zs[hs.length].old, .int .i64 zs[hs.length].new, zs[hs.length].u] from rfl, k1, k2, eo, en]
  rfl)
 rw [hset] at hst
 refine ⟨?_, zs.set hs.length ⟨h'.old, h'.new, u'⟩, by rw [List.length_set, hzn]; exact hst.1, by rw [List.length_set, h2]; simp, fun j a b => ?_, fun i j hij b => ?_⟩
 · obtain ⟨b, off, e, hc⟩ := (Sc.RdK.of_own hunkC_len hrow).at hs.length hK
   injection e with e
   injection e with e5 e6
   subst e5 e6
   have := hc 2 (show 2 < 3 by decide)
   simp only [hunkC, List.getElem_cons_succ, List.getElem_cons_zero, Nat.zero_add] at this
   refine ⟨by rw [← eu]; exact this, ?_⟩
   rcases hrow.2 with ⟨e, _⟩ | ⟨g', cap, cur, e, _, hh, _⟩
   · cases e
   · injection e with e1 _ _
     injection e1 with e1
     injection e1 with e1
     subst e1
     exact frz hh
 · rw [List.length_set] at a
   by_cases hj : j = hs.length
   · subst hj
     have e4 : (zs.set hs.length ⟨h'.old, h'.new, u'⟩)[hs.length]'(by rw [List.length_set]; exact hK) = ⟨h'.old, h'.new, u'⟩ := by simp
     have e3 : (hs ++ [h'])[hs.length] = h' := by simp
     rw [e4]
     simp only [e3]
     exact ⟨trivial, trivial, World.ownsRow.kept ho' hst.2 (ownK_ne ho' hrow (by decide))⟩
   · have hj2 : j < hs.length := by
      rw [List.length_append, List.length_singleton] at b
      omega
     have e4 : (zs.set hs.length ⟨h'.old, h'.new, u'⟩)[j]'(by rw [List.length_set]; exact a) = zs[j] := List.getElem_set_ne (Ne.symm hj) _
     have e3 : (hs ++ [h'])[j] = (hs ++ [h])[j]'(by simp; omega) := by rw [List.getElem_append_left hj2, List.getElem_append_left hj2]
     rw [e4, e3]
     obtain ⟨m1, m2, m3⟩ := h3 j a (by simp; omega)
     refine ⟨m1, m2, ?_⟩
     have m3' := m3.below hb1
     have hne := h4 j hs.length hj2 hK
     rw [eu] at hne
     have m4 : OwnL base w' zs[j].u ((hs ++ [h])[j]'(by simp; omega)).lines := World.ownsRow.kept m3' hgr hne
     exact World.ownsRow.kept m4 hst.2 (ownK_ne m4 hrow (by decide))
 · rw [List.length_set] at b
   have hi : i ≠ hs.length := by omega
   have e4 : (zs.set hs.length ⟨h'.old, h'.new, u'⟩)[i]'(by rw [List.length_set]; omega) = zs[i]'(by omega) := List.getElem_set_ne (Ne.symm hi) _
   rw [e4]
   by_cases hj : j = hs.length
   · subst hj
     have e5 : (zs.set hs.length ⟨h'.old, h'.new, u'⟩)[hs.length]'(by rw [List.length_set]; exact hK) = ⟨h'.old, h'.new, u'⟩ := by simp
     rw [e5]
     simp only
     rcases hblk with hb | ⟨G, hG, hG2⟩
     · rw [hb]
       have := h4 i hs.length hij hK
       rw [eu] at this
       exact this
     · obtain ⟨m1, m2, m3⟩ := h3 i (by omega) (by simp; omega)
       rcases m3.2 with ⟨e, _⟩ | ⟨g', cap, cur, e, _, hh, _⟩
       · left; rw [e]; rfl
       · right
         rw [e, hG]
         intro hc
         have : g' = G := by simpa [Value.ownBlock] using hc
         have hlt : g' < w.heap.size := (Array.getElem?_eq_some_iff.1 hh).1
         have := hb1.size
         omega
   · have e5 : (zs.set hs.length ⟨h'.old, h'.new, u'⟩)[j]'(by rw [List.length_set]; exact b) = zs[j] := List.getElem_set_ne (Ne.symm hj) _
     rw [e5]
     exact h4 i j hij b
end St
end
section
open Go.RowKit
namespace St
open Uf Cm Hn
open Sc (flatK ownK_below app_k flatK_snoc Pow)
theorem body_next {w0 wr : World} {p : Pat} {hs : List PH} {h : PH} {A : Option Addr} {n cv g c1 : Nat} {A1 : Option Addr} {x : Ln} (hb : Below w0.heap.size w0 wr) (hk : Blk wr w0.heap.size tRdr [.string p.on, .string p.nn, .slice A n cv])
 (hg : w0.heap.size + 1 ≤ g) (ho : OwnL (w0.heap.size + 1) wr (.slice A1 h.lines.length c1) h.lines)
 (hL : ∀ w1 w' u' (h' : PH), Below wr.heap.size wr w1 → OwnL (w0.heap.size + 1) w' u' h'.lines → h'.old = h.old → h'.new = h.new → w1.grownBy w' (Value.slice A1 h.lines.length c1).ownBlock → (u'.ownBlock = (Value.slice A1 h.lines.length c1).ownBlock ∨ ∃ G, u'.ownBlock = some G ∧ w1.heap.size ≤ G) →
     (w'.cell? ⟨g, hs.length * 3 + 2, none⟩ = some (.slice A1 h.lines.length c1) ∧ w'.frozen? ⟨g, hs.length * 3 + 2, none⟩ = false) ∧ HksI (w0.heap.size + 1) (w'.setCell ⟨g, hs.length * 3 + 2, none⟩ u') (.slice A n cv) (hs ++ [h']))
 (w1 : World) (hw1 : Below wr.heap.size wr w1) (G cap : Nat) (w' : World) (ho' : OwnL (w0.heap.size + 1) w' (.slice (some ⟨G, 0, none⟩) (h.lines.length + 1) cap) (h.lines ++ [x])) (hgr : w1.grownBy w' (Value.slice A1 h.lines.length c1).ownBlock) (hG : (Value.slice A1 h.lines.length c1).ownBlock = some G ∨ G = w1.heap.size) :
 (w'.cell? ⟨g, hs.length * 3 + 2, none⟩ = some (.slice A1 h.lines.length c1) ∧ w'.frozen? ⟨g, hs.length * 3 + 2, none⟩ = false) ∧
  RdI w0 (w'.setCell ⟨g, hs.length * 3 + 2, none⟩ (.slice (some ⟨G, 0, none⟩) (h.lines.length + 1) cap)) ⟨p.on, p.nn, hs ++ [⟨h.old, h.new, h.lines ++ [x]⟩]⟩ := by
 obtain ⟨e1, e2⟩ := hL w1 w' _ ⟨h.old, h.new, h.lines ++ [x]⟩ hw1 ho' rfl rfl hgr (by
  rcases hG with hG | hG
  · exact .inl hG.symm
  · exact .inr ⟨G, rfl, by omega⟩)
 have hbase : w0.heap.size + 1 ≤ wr.heap.size := hk.lt
 have hB : Below (w0.heap.size + 1) wr w' := (hw1.mono hbase).grown hgr (Nat.le_trans hbase hw1.size) (fun k hk => (ho.lt k hk).1)
 have hB2 : Below (w0.heap.size + 1) wr (w'.setCell ⟨g, hs.length * 3 + 2, none⟩ (.slice (some ⟨G, 0, none⟩) (h.lines.length + 1) cap)) := hB.setCell (p := ⟨g, hs.length * 3 + 2, none⟩) hg _
 exact ⟨e1, hb.trans (hB2.mono (Nat.le_succ _)), _, (hB2.block _ (Nat.lt_succ_self _)).trans hk, e2⟩
end St
end
section
open Go.RowKit
namespace St
open Uf Cm Hn
open Sc (flatK ownK_below app_k flatK_snoc Pow)
theorem lf_add (s : ByteArray) (k : UInt8) (t : List UInt8) (h : bs s = k :: t) : s.extract 1 s.size ++ ⟨#[10]⟩ = ⟨(t ++ [10]).toArray⟩ := by
 rw [← Tx.mk_bs (s.extract 1 s.size ++ ⟨#[10]⟩), Tx.bs_append]
 have e : Tx.bs (s.extract 1 s.size) = t := by
  have := Sc.bs_extract s 1 s.size
  rw [show Sc.bs (s.extract 1 s.size) = Tx.bs (s.extract 1 s.size) from rfl, show Sc.bs s = bs s from rfl, h] at this
  rw [this]
  have hz : s.size = t.length + 1 := by rw [← Tx.bs_len s, show Tx.bs s = k :: t from h]; rfl
  rw [hz]
  simp
 rw [e]
theorem size_of {s : ByteArray} {k : UInt8} {t : List UInt8} (h : bs s = k :: t) : 1 ≤ s.size := by
 rw [← Tx.bs_len s, show Tx.bs s = k :: t from h]; simp
theorem get_of {s : ByteArray} {k : UInt8} {t : List UInt8} (h : bs s = k :: t) : s[0]'(size_of h) = k := by
 have h1 : (bs s)[0]? = some k := by rw [h]; rfl
 have h0 := size_of h
 have h2 : s.data.toList[0]? = some k := h1
 have h3 : s.data[0]? = some k := by rw [← Array.getElem?_toList]; exact h2
 have h4 := Array.getElem?_eq_some_iff.1 h3
 exact h4.2
set_option maxRecDepth 100000 in
set_option maxHeartbeats 8000000 in
theorem body_any (w0 wr : World) (p : Pat) (s : ByteArray) (k : UInt8) (t : List UInt8) (hk : bs s = k :: t) (h : RdI w0 wr p) (hs : s.size ≤ 1048576) (hn : p.hunks.length ≤ 1000000) (hl : ∀ h ∈ p.hunks, h.lines.length + 1 ≤ 1000000) : Calls Tryz.prog 89 #[.pointer (some ⟨w0.heap.size, 0, none⟩), .string s] wr (StPost w0 (bodyF p k t)) := by
 have hx := lf_add s k t hk
 have h1 := size_of hk
 have h1' : 0 < s.size := h1
 have hsz : s.size ≤ 9223372036854775807 := by omega
 have h1z : ¬ (s.size : Int) < 1 := by omega
 have hg0 := get_of hk
 obtain ⟨v, hb, ho⟩ := h.box
 have hbel := h.bel
 clear h
 generalize hq : p.hunks = H at *
 rcases List.eq_nil_or_concat H with hp | ⟨hs0, h0, hp⟩
 · subst hp
   have HF : Hid (StPost w0 (bodyF p k t) (.returned (.bool false)) wr) := Lib.hid (by
    have e : bodyF p k t = none := by unfold bodyF; rw [hq]; rfl
    rw [e]; exact StPost.no hbel)
   obtain ⟨A, cv, rfl⟩ := ho.form
   obtain ⟨k0, k1, k2, kf, klt⟩ := blk3 hb
   clear ho hb hbel hx hg0 hk hq
   simp only [List.length_nil] at *
   go_enter Tryz.func89, Tryz.ntmps89
   go_wp2_with fail
   go_ret
   exact HF.out
 · rw [List.concat_eq_append] at hp
   subst hp
   have HF : Hid (∀ w', RdI w0 w' ⟨p.on, p.nn, hs0 ++ [⟨h0.old, h0.new, h0.lines ++ [⟨k.toNat, ⟨(t ++ [10]).toArray⟩⟩]⟩]⟩ → StPost w0 (bodyF p k t) (.returned (.bool true)) w') := Lib.hid (fun w' hb => by
    have e : bodyF p k t = some ⟨p.on, p.nn, hs0 ++ [⟨h0.old, h0.new, h0.lines ++ [⟨k.toNat, ⟨(t ++ [10]).toArray⟩⟩]⟩]⟩ := by unfold bodyF; rw [hq, addLn_snoc]; rfl
    rw [e]; exact StPost.yes hb)
   obtain ⟨A, cv, rfl⟩ := ho.form
   obtain ⟨g, A1, c1, rfl, hn1, hg, hc0, hfz, hol, hst, hlast⟩ := HksI.last ho
   have hll := hl h0 (by simp)
   have hlt : w0.heap.size + 1 ≤ wr.heap.size := hb.lt
   have HNx := Lib.hid (fun (x : Ln) w1 hw1 G cap w' ho' hgr hG => body_next (x := x) hbel hb hg hol hlast w1 hw1 G cap w' ho' hgr hG)
   rw [List.length_append, List.length_singleton] at *
   obtain ⟨k0, k1, k2, kf, klt⟩ := blk3 hb
   have HSt := Lib.hid hst
   have HOl := Lib.hid hol
   clear hlast hst hbel hb ho hc0 hfz hol hq hn1 hl
   generalize h0.lines = L at *
   generalize hM : hs0.length = M at *
   rw [← hx] at HF
   generalize hX : s.extract 1 s.size ++ ⟨#[10]⟩ = x at *
   clear hx
   go_enter Tryz.func89, Tryz.ntmps89
   go_upto_region 3 with fail
   go_region
   have HB1 := Lib.hid (Below.refl wr.heap.size wr).drew
   obtain ⟨We, hWe⟩ : ∃ We, We = wr.drew := ⟨_, rfl⟩
   rw [← hWe] at HB1 ⊢
   clear hWe k0 k1 k2 kf klt
   go_upto_region 4 with fail
   have HBd := Lib.hid HB1.out.drew
   have HBa := Lib.hid (HBd.out.alloc HBd.out.size (.cells #[.int .u8 (k.toNat : Int), .string x] tLn))
   have hbd : w0.heap.size + 1 ≤ (We.drew.alloc (.cells #[.int .u8 (k.toNat : Int), .string x] tLn)).heap.size := Nat.le_trans hlt HBa.out.size
   have HOd := Lib.hid (HOl.out.below HBa.out)
   have HN := Lib.hid (HNx.out ⟨k.toNat, x⟩ _ HBa.out)
   obtain ⟨d0, df⟩ := HSt.out _ HBd.out
   obtain ⟨a0, af⟩ := HSt.out _ HBa.out
   clear HSt HNx HOl HB1
   refine wp_region_held_drew (S := (fun _ => True)) (by kernel_rfl) trivial (fun hHeld => ?_)
   generalize We.drew = Wd at *
   refine wpAnyH_take (i := 0) (v := .pointer (some ⟨g, M * 3, none⟩)) rfl (by kernel_rfl) (by kernel_rfl) (by kernel_rfl) (fun _ _ _ h => h) (Or.inl ⟨by kernel_rfl, ?_⟩) (by assumption) ?_
   · intro V _
     go_simp
   change wpAnyH _ _ _ _ _ _ _ (Act.put _ (some 26) _) _
   simp only [Act.put, List.setIfInBounds_toArray, List.set_cons_zero, List.set_cons_succ]
   refine wpAnyH_take (i := 1) (v := .pointer (some ⟨g, M * 3, none⟩)) rfl (by kernel_rfl) (by kernel_rfl) (by kernel_rfl) (fun _ _ _ h => h) (Or.inl ⟨by kernel_rfl, ?_⟩) (by assumption) ?_
   · intro V _
     go_simp
   change wpAnyH _ _ _ _ _ _ _ (Act.put _ (some 27) _) _
   simp only [Act.put, List.setIfInBounds_toArray, List.set_cons_zero, List.set_cons_succ]
   refine wpAnyH_take (i := 2) (v := .pointer (some ⟨g, M * 3, none⟩)) rfl (by kernel_rfl) (by kernel_rfl) (by kernel_rfl) (fun _ _ _ h => h) (Or.inl ⟨by kernel_rfl, ?_⟩) (by assumption) ?_
   · intro V _
     go_simp
   change wpAnyH _ _ _ _ _ _ _ (Act.put _ (some 28) _) _
   simp only [Act.put, List.setIfInBounds_toArray, List.set_cons_zero, List.set_cons_succ]
   refine wpAnyH_take (i := 3) (v := .pointer (some ⟨g, M * 3 + 2, none⟩)) rfl (by kernel_rfl) (by kernel_rfl) (by kernel_rfl) (fun _ _ _ h => h) (Or.inl ⟨by kernel_rfl, ?_⟩) (by assumption) ?_
   · intro V _
     go_simp
   change wpAnyH _ _ _ _ _ _ _ (Act.put _ (some 29) _) _
   simp only [Act.put, List.setIfInBounds_toArray, List.set_cons_zero, List.set_cons_succ]
   refine wpAnyH_take (i := 5) (v := .string s) rfl (by kernel_rfl) (by kernel_rfl) (by kernel_rfl) (fun _ _ _ h => h) (Or.inl ⟨by kernel_rfl, ?_⟩) (by assumption) ?_
   · intro V _
     go_simp
   change wpAnyH _ _ _ _ _ _ _ (Act.put _ (some 31) _) _
   simp only [Act.put, List.setIfInBounds_toArray, List.set_cons_zero, List.set_cons_succ]
   refine wpAnyH_take (i := 6) (v := .int .u8 (k.toNat : Int)) rfl (by kernel_rfl) (by kernel_rfl) (by kernel_rfl) (fun _ _ _ h => h) (Or.inl ⟨by kernel_rfl, ?_⟩) (by assumption) ?_
   · intro V _
     go_simp
   change wpAnyH _ _ _ _ _ _ _ (Act.put _ (some 32) _) _
   simp only [Act.put, List.setIfInBounds_toArray, List.set_cons_zero, List.set_cons_succ]
   refine wpAnyH_take (i := 7) (v := .string s) rfl (by kernel_rfl) (by kernel_rfl) (by kernel_rfl) (fun _ _ _ h => h) (Or.inl ⟨by kernel_rfl, ?_⟩) (by assumption) ?_
   · intro V _
     go_simp
   change wpAnyH _ _ _ _ _ _ _ (Act.put _ (some 33) _) _
   simp only [Act.put, List.setIfInBounds_toArray, List.set_cons_zero, List.set_cons_succ]
   refine wpAnyH_take (i := 8) (v := .string (s.extract 1 s.size)) rfl (by kernel_rfl) (by kernel_rfl) (by kernel_rfl) (fun _ _ _ h => h) (Or.inl ⟨by kernel_rfl, ?_⟩) (by assumption) ?_
   · intro V _
     go_simp
   change wpAnyH _ _ _ _ _ _ _ (Act.put _ (some 34) _) _
   simp only [Act.put, List.setIfInBounds_toArray, List.set_cons_zero, List.set_cons_succ]
   refine wpAnyH_take (i := 9) (v := .string x) rfl (by kernel_rfl) (by kernel_rfl) (by kernel_rfl) (fun _ _ _ h => h) (Or.inl ⟨by kernel_rfl, ?_⟩) (by assumption) ?_
   · intro V _
     go_simp
   change wpAnyH _ _ _ _ _ _ _ (Act.put _ (some 35) _) _
   simp only [Act.put, List.setIfInBounds_toArray, List.set_cons_zero, List.set_cons_succ]
   refine wpAnyH_take (i := 10) (v := .agg #[.int .u8 (k.toNat : Int), .string x]) rfl (by kernel_rfl) (by kernel_rfl) (by kernel_rfl) (fun _ _ _ h => h) (Or.inl ⟨by kernel_rfl, ?_⟩) (by assumption) ?_
   · intro V _
     go_simp
   change wpAnyH _ _ _ _ _ _ _ (Act.put _ (some 36) _) _
   simp only [Act.put, List.setIfInBounds_toArray, List.set_cons_zero, List.set_cons_succ]
   refine wpAnyH_ready (rs := [4, 11]) (by kernel_rfl) (by simp) ?_
   refine AllReadyH.cons rfl (fun K hK => ?_) (AllReadyH.cons rfl (fun K hK => ?_) AllReadyH.nil)
   · skip
     go_simp
     refine hK.out _ _ trivial (fun hHeld => ?_)
     clear hK K
     refine wpAnyH_ready (rs := [11]) (by kernel_rfl) (by simp) ?_
     refine AllReadyH.cons rfl (fun K hK => ?_) AllReadyH.nil
     go_simp
     refine hK.out _ _ trivial (fun hHeld => ?_)
     clear hK K
     refine wpAnyH_ready (rs := [12]) (by kernel_rfl) (by simp) ?_
     refine AllReadyH.cons rfl (fun K hK => ?_) AllReadyH.nil
     refine step_app_ln (by rfl) (.tmp 30) (.tmp 37) (by rfl) (w0.heap.size + 1) L ⟨k.toNat, x⟩ _ (by rfl) HOd.out ⟨Wd.heap.size, 0, none⟩ (by rfl) (World.news_of_block (cs := #[.int .u8 (k.toNat : Int), .string x]) (t := tLn) (fr := (0, 0)) (heap_new Wd _)) hll hbd ?_
     intro G cap w7 ho7 hg7 hG7
     obtain ⟨⟨y0, yf⟩, hI7⟩ := HN.out G cap w7 ho7 hg7 hG7
     have HI7 := Lib.hid hI7
     clear ho7 hg7 hG7 hI7
     refine hK.out _ _ trivial (fun hHeld => ?_)
     clear hK K
     simp only [Act.put, List.setIfInBounds_toArray]
     refine wpAnyH_take (i := 13) (v := .pointer (some ⟨g, M * 3, none⟩)) rfl (by kernel_rfl) (by kernel_rfl) (by kernel_rfl) (fun _ _ _ h => h) (Or.inl ⟨by kernel_rfl, ?_⟩) (by assumption) ?_
     · intro V _
       go_simp
     change wpAnyH _ _ _ _ _ _ _ (Act.put _ (some 39) _) _
     simp only [Act.put]
     refine wpAnyH_take (i := 14) (v := .pointer (some ⟨g, M * 3 + 2, none⟩)) rfl (by kernel_rfl) (by kernel_rfl) (by kernel_rfl) (fun _ _ _ h => h) (Or.inl ⟨by kernel_rfl, ?_⟩) (by assumption) ?_
     · intro V _
       go_simp
     change wpAnyH _ _ _ _ _ _ _ (Act.put _ (some 40) _) _
     simp only [Act.put]
     refine wpAnyH_ready (rs := [15]) (by kernel_rfl) (by simp) ?_
     refine AllReadyH.cons rfl (fun K hK => ?_) AllReadyH.nil
     go_simp
     refine hK.out _ _ trivial (fun hHeld => ?_)
     clear hK K
     refine wpAnyH_done (by kernel_rfl) ?_ _
     go_wp2_with fail
     go_ret
     exact HF.out _ HI7.out
   · skip
     go_simp
     refine hK.out _ _ trivial (fun hHeld => ?_)
     clear hK K
     refine wpAnyH_ready (rs := [4]) (by kernel_rfl) (by simp) ?_
     refine AllReadyH.cons rfl (fun K hK => ?_) AllReadyH.nil
     go_simp
     refine hK.out _ _ trivial (fun hHeld => ?_)
     clear hK K
     refine wpAnyH_ready (rs := [12]) (by kernel_rfl) (by simp) ?_
     refine AllReadyH.cons rfl (fun K hK => ?_) AllReadyH.nil
     refine step_app_ln (by rfl) (.tmp 30) (.tmp 37) (by rfl) (w0.heap.size + 1) L ⟨k.toNat, x⟩ _ (by rfl) HOd.out ⟨Wd.heap.size, 0, none⟩ (by rfl) (World.news_of_block (cs := #[.int .u8 (k.toNat : Int), .string x]) (t := tLn) (fr := (0, 0)) (heap_new Wd _)) hll hbd ?_
     intro G cap w7 ho7 hg7 hG7
     obtain ⟨⟨y0, yf⟩, hI7⟩ := HN.out G cap w7 ho7 hg7 hG7
     have HI7 := Lib.hid hI7
     clear ho7 hg7 hG7 hI7
     refine hK.out _ _ trivial (fun hHeld => ?_)
     clear hK K
     simp only [Act.put, List.setIfInBounds_toArray]
     refine wpAnyH_take (i := 13) (v := .pointer (some ⟨g, M * 3, none⟩)) rfl (by kernel_rfl) (by kernel_rfl) (by kernel_rfl) (fun _ _ _ h => h) (Or.inl ⟨by kernel_rfl, ?_⟩) (by assumption) ?_
     · intro V _
       go_simp
     change wpAnyH _ _ _ _ _ _ _ (Act.put _ (some 39) _) _
     simp only [Act.put]
     refine wpAnyH_take (i := 14) (v := .pointer (some ⟨g, M * 3 + 2, none⟩)) rfl (by kernel_rfl) (by kernel_rfl) (by kernel_rfl) (fun _ _ _ h => h) (Or.inl ⟨by kernel_rfl, ?_⟩) (by assumption) ?_
     · intro V _
       go_simp
     change wpAnyH _ _ _ _ _ _ _ (Act.put _ (some 40) _) _
     simp only [Act.put]
     refine wpAnyH_ready (rs := [15]) (by kernel_rfl) (by simp) ?_
     refine AllReadyH.cons rfl (fun K hK => ?_) AllReadyH.nil
     go_simp
     refine hK.out _ _ trivial (fun hHeld => ?_)
     clear hK K
     refine wpAnyH_done (by kernel_rfl) ?_ _
     go_wp2_with fail
     go_ret
     exact HF.out _ HI7.out
end St
end
section
open Go.RowKit
namespace St
open Uf Cm Hn
open Sc (flatK ownK_below app_k flatK_snoc Pow)
theorem HksI.tail {base : Nat} {w : World} {g n c : Nat} {hs : List PH} {h : PH} {ls : List Ln} {x : Ln} (hI : HksI base w (.slice (some ⟨g, 0, none⟩) n c) (hs ++ [h])) (ex : h.lines = ls ++ [x]) {A1 : Option Addr} {N c1 : Nat} (hcell : w.cell? ⟨g, hs.length * 3 + 2, none⟩ = some (.slice A1 N c1)) :
 ∃ G1, A1 = some ⟨G1, 0, none⟩ ∧ base ≤ G1 ∧ ∀ w1, Below w.heap.size w w1 → w1.cell? ⟨G1, ls.length * 2 + 1, none⟩ = some (.string x.text) ∧ (∀ k, w1.frozen? ⟨G1, k, none⟩ = false) ∧
   ∀ tx : ByteArray, HksI base (w1.setCell ⟨G1, ls.length * 2 + 1, none⟩ (.string tx)) (.slice (some ⟨g, 0, none⟩) n c) (hs ++ [⟨h.old, h.new, ls ++ [⟨x.kind, tx⟩]⟩]) := by
 obtain ⟨zs, h1, h2, h3, h4⟩ := hI
 rw [List.length_append, List.length_singleton] at h2
 have hK : hs.length < zs.length := by omega
 obtain ⟨k1, k2, k3⟩ := h3 hs.length hK (by simp)
 have e2 : (hs ++ [h])[hs.length] = h := by simp
 simp only [e2] at k1 k2 k3
 have eu : zs[hs.length].u = .slice A1 N c1 := by
  obtain ⟨b, off, e, hc⟩ := (Sc.RdK.of_own hunkC_len h1).at hs.length hK
  injection e with e
  injection e with e5 e6
  subst e5 e6
  have := hc 2 (show 2 < 3 by decide)
  simp only [hunkC, List.getElem_cons_succ, List.getElem_cons_zero, Nat.zero_add] at this
  exact Option.some.inj (this.symm.trans hcell)
 rw [eu, ex] at k3
 have hN : 0 < (ls ++ [x]).length := by simp
 obtain ⟨G1, hA, hG, hNn, hfz⟩ : ∃ G1, A1 = some ⟨G1, 0, none⟩ ∧ base ≤ G1 ∧ N = (ls ++ [x]).length ∧ ∃ cur, w.heap[G1]? = some (.cells cur tLn (0, 0)) := by
  rcases k3.2 with ⟨e, h0⟩ | ⟨g', cap, cur, e, hb, hh, _⟩
  · omega
  · injection e with e1 e2 e3
    exact ⟨g', e1, hb, e2, cur, hh⟩
 subst hA
 subst hNn
 refine ⟨G1, rfl, hG, fun w1 hb1 => ?_⟩
 have h1' := ownK_below h1 hb1
 have k3' := k3.below hb1
 have hj : ls.length < (ls ++ [x]).length := by simp
 refine ⟨?_, ?_, fun tx => ?_⟩
 · obtain ⟨b, off, e, hc⟩ := (Sc.RdK.of_own lineC_len k3').at ls.length hj
   injection e with e
   injection e with e5 e6
   subst e5 e6
   have := hc 1 (show 1 < 2 by decide)
   simp only [Nat.zero_add] at this
   rw [this]
   simp [lineC]
 · obtain ⟨cur, hh⟩ := hfz
   have hlt : G1 < w.heap.size := (Array.getElem?_eq_some_iff.1 hh).1
   exact fun k => frz ((hb1.block G1 hlt).trans hh)
 · have hst := World.ownsRow.stored (g := G1) k3' (ls.length * 2 + 1) (.string tx)
   have hset := Sc.flat_set lineC_len (ls ++ [x]) ls.length hj 1 (by decide) (.string tx) ⟨x.kind, tx⟩ (by simp [lineC])
   have hls : (ls ++ [x]).set ls.length ⟨x.kind, tx⟩ = ls ++ [⟨x.kind, tx⟩] := by simp
   rw [hset, hls] at hst
   have hne := ownK_ne h1' k3' (by decide)
   refine ⟨zs, h1'.kept hst.2 hne, by simp [h2], fun j a b => ?_, h4⟩
   by_cases hjj : j = hs.length
   · subst hjj
     have e3 : (hs ++ [(⟨h.old, h.new, ls ++ [⟨x.kind, tx⟩]⟩ : PH)])[hs.length] = ⟨h.old, h.new, ls ++ [⟨x.kind, tx⟩]⟩ := by simp
     rw [e3, eu]
     refine ⟨k1, k2, ?_⟩
     have := hst.1
     simp only [List.length_append, List.length_singleton] at this ⊢
     unfold OwnL
     simp only [List.length_append, List.length_singleton]
     exact this
   · have hj2 : j < hs.length := by
      rw [List.length_append, List.length_singleton] at b
      omega
     have e3 : (hs ++ [(⟨h.old, h.new, ls ++ [⟨x.kind, tx⟩]⟩ : PH)])[j] = (hs ++ [h])[j]'(by simp; omega) := by rw [List.getElem_append_left hj2, List.getElem_append_left hj2]
     rw [e3]
     obtain ⟨m1, m2, m3⟩ := h3 j a (by simp; omega)
     have hne2 := h4 j hs.length hj2 hK
     rw [eu] at hne2
     exact ⟨m1, m2, World.ownsRow.kept (m3.below hb1) hst.2 hne2⟩
theorem un_next {w0 wr : World} {p : Pat} {hs : List PH} {h : PH} {g n cv G1 : Nat} {ls : List Ln} {x : Ln} (hb : Below w0.heap.size w0 wr) (hk : Blk wr w0.heap.size tRdr [.string p.on, .string p.nn, .slice (some ⟨g, 0, none⟩) n cv])
 (hg : w0.heap.size + 1 ≤ G1)
 (hT : ∀ w1, Below wr.heap.size wr w1 → w1.cell? ⟨G1, ls.length * 2 + 1, none⟩ = some (.string x.text) ∧ (∀ k, w1.frozen? ⟨G1, k, none⟩ = false) ∧
  ∀ tx : ByteArray, HksI (w0.heap.size + 1) (w1.setCell ⟨G1, ls.length * 2 + 1, none⟩ (.string tx)) (.slice (some ⟨g, 0, none⟩) n cv) (hs ++ [⟨h.old, h.new, ls ++ [⟨x.kind, tx⟩]⟩]))
 (w1 : World) (hw1 : Below wr.heap.size wr w1) (tx : ByteArray) :
  RdI w0 (w1.setCell ⟨G1, ls.length * 2 + 1, none⟩ (.string tx)) ⟨p.on, p.nn, hs ++ [⟨h.old, h.new, ls ++ [⟨x.kind, tx⟩]⟩]⟩ := by
 have hbase : w0.heap.size + 1 ≤ wr.heap.size := hk.lt
 have hB2 : Below (w0.heap.size + 1) wr (w1.setCell ⟨G1, ls.length * 2 + 1, none⟩ (.string tx)) := (hw1.mono hbase).setCell (p := ⟨G1, ls.length * 2 + 1, none⟩) hg _
 exact ⟨hb.trans (hB2.mono (Nat.le_succ _)), _, (hB2.block _ (Nat.lt_succ_self _)).trans hk, (hT w1 hw1).2.2 tx⟩
set_option maxRecDepth 100000 in
set_option maxHeartbeats 8000000 in
theorem unended_any (w0 wr : World) (p : Pat) (s : ByteArray) (h : RdI w0 wr p) (hn : p.hunks.length ≤ 1000000) (hl : ∀ h ∈ p.hunks, h.lines.length ≤ 1000000 ∧ ∀ l ∈ h.lines, l.text.size ≤ 9223372036854775807) : Calls Tryz.prog 90 #[.pointer (some ⟨w0.heap.size, 0, none⟩), .string s] wr (StPost w0 (unF p)) := by
 obtain ⟨v, hb, ho⟩ := h.box
 have hbel := h.bel
 clear h
 generalize hq : p.hunks = H at *
 rcases List.eq_nil_or_concat H with hp | ⟨hs0, h0, hp⟩
 · subst hp
   have HF : Hid (StPost w0 (unF p) (.returned (.bool false)) wr) := Lib.hid (by
    have e : unF p = none := by unfold unF; rw [hq]; rfl
    rw [e]; exact StPost.no hbel)
   obtain ⟨A, cv, rfl⟩ := ho.form
   obtain ⟨k0, k1, k2, kf, klt⟩ := blk3 hb
   clear ho hb hbel hq
   simp only [List.length_nil] at *
   go_enter Tryz.func90, Tryz.ntmps90
   go_wp2_with fail
   go_ret
   exact HF.out
 · rw [List.concat_eq_append] at hp
   subst hp
   obtain ⟨A, cv, rfl⟩ := ho.form
   obtain ⟨g, A1, c1, rfl, hn1, hg, hc0, hfz, hol, hst, hlast⟩ := HksI.last ho
   have hll := hl h0 (by simp)
   have hlt : w0.heap.size + 1 ≤ wr.heap.size := hb.lt
   rw [List.length_append, List.length_singleton] at *
   obtain ⟨k0, k1, k2, kf, klt⟩ := blk3 hb
   have HSt := Lib.hid hst
   rcases List.eq_nil_or_concat h0.lines with hx | ⟨ls, x, hx⟩
   · have HF : Hid (∀ w', Below w0.heap.size w0 w' → StPost w0 (unF p) (.returned (.bool false)) w') := Lib.hid (fun w' hb => by
      have e : unF p = none := by unfold unF; rw [hq, unLn_snoc, hx]; rfl
      rw [e]; exact StPost.no hb)
     have HB := Lib.hid hbel
     rw [hx, List.length_nil] at hc0 HSt
     have HB1 := Lib.hid (Below.refl wr.heap.size wr).drew
     clear hlast hst hbel hb ho hol hq hn1 hl hll hfz hx
     generalize hM : hs0.length = M at *
     go_enter Tryz.func90, Tryz.ntmps90
     go_upto_region 3 with fail
     go_region
     have HBz := Lib.hid (HB.out.trans (HB1.out.mono HB.out.size))
     obtain ⟨d0, df⟩ := HSt.out _ HB1.out
     clear HSt HB1 hc0
     go_wp2_with fail
     go_ret
     exact HF.out _ HBz.out
   · rw [List.concat_eq_append] at hx
     obtain ⟨G1, rfl, hG1, hT⟩ := HksI.tail ho hx hc0
     have HT := Lib.hid hT
     have HN := Lib.hid (fun w1 hw1 tx => un_next (h := h0) hbel hb hG1 hT w1 hw1 tx)
     have htx := hll.2 x (by rw [hx]; simp)
     have hll := hll.1
     rw [hx, List.length_append, List.length_singleton] at hc0 HSt hll
     have HF : Hid (∀ w', RdI w0 w' ⟨p.on, p.nn, hs0 ++ [⟨h0.old, h0.new, ls ++ [⟨x.kind, Tx.bareB x.text⟩]⟩]⟩ → StPost w0 (unF p) (.returned (.bool true)) w') := Lib.hid (fun w' hb => by
      have eb : Tx.bareB x.text = bareB x.text := by
       unfold bareB
       rw [← Tx.mk_bs (Tx.bareB x.text), Tx.bareB_bs]
      have e : unF p = some ⟨p.on, p.nn, hs0 ++ [⟨h0.old, h0.new, ls ++ [⟨x.kind, Tx.bareB x.text⟩]⟩]⟩ := by unfold unF; rw [hq, unLn_snoc, hx, bareLs_snoc, eb]; rfl
      rw [e]; exact StPost.yes hb)
     have HB1 := Lib.hid (Below.refl wr.heap.size wr).drew
     clear hT hlast hst hbel hb ho hol hq hn1 hl hfz hx
     generalize hM : hs0.length = M at *
     generalize hK : ls.length = K at *
     go_enter Tryz.func90, Tryz.ntmps90
     go_upto_region 3 with fail
     go_region
     obtain ⟨We, hWe⟩ : ∃ We, We = wr.drew := ⟨_, rfl⟩
     rw [← hWe] at HB1 ⊢
     clear hWe
     obtain ⟨d0, df⟩ := HSt.out _ HB1.out
     clear hc0 k0 k1 k2 kf
     go_upto_region 6 with fail
     go_region
     have HB2 := Lib.hid HB1.out.drew
     obtain ⟨Wf, hWf⟩ : ∃ Wf, Wf = We.drew := ⟨_, rfl⟩
     rw [← hWf] at HB2 ⊢
     clear hWf d0 df HB1
     obtain ⟨t0, tf, -⟩ := HT.out _ HB2.out
     have HZ := Lib.hid (HN.out _ HB2.out (Tx.bareB x.text))
     clear HT HN HSt
     go_wp2_with (go_at_call 130; refine (Tx.TrimSuffix_lf x.text _ htx).mono ?_; rintro e w1 ⟨rfl, rfl⟩)
     go_ret
     exact HF.out _ HZ.out
end St
end
section
open Go.RowKit
namespace St
open Uf Cm Hn
theorem size_nil {s : ByteArray} (h : s.size = 0) : s = ⟨#[]⟩ := by
 obtain ⟨d⟩ := s
 have : d.size = 0 := h
 rw [Array.size_eq_zero_iff.1 this]
theorem toList_ne {s : ByteArray} (h : ¬ s = ⟨#[]⟩) : s.toList.isEmpty = false := by
 rw [Sc.toList_bs]
 cases he : Sc.bs s with
 | nil =>
   refine absurd (size_nil ?_) h
   rw [← Tx.bs_len s]
   show (Sc.bs s).length = 0
   rw [he]
   rfl
 | cons a b => rfl
set_option maxRecDepth 100000 in
set_option maxHeartbeats 4000000 in
theorem minus_any (w0 wr : World) (p : Pat) (s : ByteArray) (t : List UInt8) (hk : bs s = 45 :: t) (h : RdI w0 wr p) (hs : s.size ≤ 1048576) (hn : p.hunks.length ≤ 1000000) (hl : ∀ h ∈ p.hunks, h.lines.length + 1 ≤ 1000000) : Calls Tryz.prog 86 #[.pointer (some ⟨w0.heap.size, 0, none⟩), .string s] wr (StPost w0 (stepF p (45 :: t))) := by
 obtain ⟨v, hb, ho⟩ := h.box
 obtain ⟨k0, k1, k2, kf, klt⟩ := blk3 hb
 by_cases hz : p.on = ⟨#[]⟩
 · have HC : Hid (Calls Tryz.prog 128 #[.string s, .pointer (some ⟨w0.heap.size, 0, none⟩)] wr (StPost w0 (stepF p (45 :: t)))) := Lib.hid (by
    have e : stepF p (45 :: t) = (Sc.unqF (bs s) 4).map fun r => (⟨⟨r.1.toArray⟩, p.nn, p.hunks⟩ : Pat) := by
     rw [stepF, if_pos rfl, if_pos (by rw [hz]; rfl), hk]
    rw [e]
    exact readName_on w0 wr p s h hs)
   have hz2 := hz
   rw [hz] at k0
   clear h hb ho hk
   generalize stepF p (45 :: t) = R at *
   go_enter Tryz.func86, Tryz.ntmps86
   go_wp2_with fail
   refine HC.out.mono ?_
   rintro e w1 ⟨rfl, h1⟩
   have HP : Hid (StPost w0 R (.returned (.bool R.isSome)) w1) := Lib.hid ⟨rfl, h1⟩
   clear h1
   go_wp2_with fail
   go_ret
   exact HP.out
 · have HC : Hid (Calls Tryz.prog 89 #[.pointer (some ⟨w0.heap.size, 0, none⟩), .string s] wr (StPost w0 (stepF p (45 :: t)))) := Lib.hid (by
    have e : stepF p (45 :: t) = bodyF p 45 t := by
     rw [stepF, if_pos rfl, if_neg (fun hc => hz (size_nil hc))]
    rw [e]
    exact body_any w0 wr p s 45 t hk h hs hn hl)
   have hz1 : p.on.toList.isEmpty = false := toList_ne hz
   clear h hb ho hk hz
   generalize stepF p (45 :: t) = R at *
   go_enter Tryz.func86, Tryz.ntmps86
   go_wp2_with fail
   refine HC.out.mono ?_
   rintro e w1 ⟨rfl, h1⟩
   have HP : Hid (StPost w0 R (.returned (.bool R.isSome)) w1) := Lib.hid ⟨rfl, h1⟩
   clear h1
   go_wp2_with fail
   go_ret
   exact HP.out
set_option maxRecDepth 100000 in
set_option maxHeartbeats 4000000 in
theorem plus_any (w0 wr : World) (p : Pat) (s : ByteArray) (t : List UInt8) (hk : bs s = 43 :: t) (h : RdI w0 wr p) (hs : s.size ≤ 1048576) (hn : p.hunks.length ≤ 1000000) (hl : ∀ h ∈ p.hunks, h.lines.length + 1 ≤ 1000000) : Calls Tryz.prog 87 #[.pointer (some ⟨w0.heap.size, 0, none⟩), .string s] wr (StPost w0 (stepF p (43 :: t))) := by
 obtain ⟨v, hb, ho⟩ := h.box
 obtain ⟨k0, k1, k2, kf, klt⟩ := blk3 hb
 by_cases hz : p.nn = ⟨#[]⟩
 · have HC : Hid (Calls Tryz.prog 128 #[.string s, .pointer (some ⟨w0.heap.size, 1, none⟩)] wr (StPost w0 (stepF p (43 :: t)))) := Lib.hid (by
    have e : stepF p (43 :: t) = (Sc.unqF (bs s) 4).map fun r => (⟨p.on, ⟨r.1.toArray⟩, p.hunks⟩ : Pat) := by
     rw [stepF, if_neg (by decide), if_pos rfl, if_pos (by rw [hz]; rfl), hk]
    rw [e]
    exact readName_nn w0 wr p s h hs)
   have hz2 := hz
   rw [hz] at k1
   clear h hb ho hk
   generalize stepF p (43 :: t) = R at *
   go_enter Tryz.func87, Tryz.ntmps87
   go_wp2_with fail
   refine HC.out.mono ?_
   rintro e w1 ⟨rfl, h1⟩
   have HP : Hid (StPost w0 R (.returned (.bool R.isSome)) w1) := Lib.hid ⟨rfl, h1⟩
   clear h1
   go_wp2_with fail
   go_ret
   exact HP.out
 · have HC : Hid (Calls Tryz.prog 89 #[.pointer (some ⟨w0.heap.size, 0, none⟩), .string s] wr (StPost w0 (stepF p (43 :: t)))) := Lib.hid (by
    have e : stepF p (43 :: t) = bodyF p 43 t := by
     rw [stepF, if_neg (by decide), if_pos rfl, if_neg (fun hc => hz (size_nil hc))]
    rw [e]
    exact body_any w0 wr p s 43 t hk h hs hn hl)
   have hz1 : p.nn.toList.isEmpty = false := toList_ne hz
   clear h hb ho hk hz
   generalize stepF p (43 :: t) = R at *
   go_enter Tryz.func87, Tryz.ntmps87
   go_wp2_with fail
   refine HC.out.mono ?_
   rintro e w1 ⟨rfl, h1⟩
   have HP : Hid (StPost w0 R (.returned (.bool R.isSome)) w1) := Lib.hid ⟨rfl, h1⟩
   clear h1
   go_wp2_with fail
   go_ret
   exact HP.out
end St
end
section
open Go.RowKit
namespace St
open Uf Cm Hn
open Sc (rngF rngAt chkR numAt)
def FewL (j : Nat) (l : Ln) : Prop := l.text.size ≤ j
def FewH (j k : Nat) (h : PH) : Prop := h.lines.length ≤ j ∧ (-1 ≤ h.old ∧ h.old ≤ 2147483647) ∧ (-1 ≤ h.new ∧ h.new ≤ 2147483647) ∧ ∀ l ∈ h.lines, FewL k l
structure Few (j k : Nat) (p : Pat) : Prop where
 len : p.hunks.length ≤ j
 hk : ∀ h ∈ p.hunks, FewH j k h
theorem FewH.mono {j j' k : Nat} {h : PH} (hf : FewH j k h) (hj : j ≤ j') : FewH j' k h := ⟨Nat.le_trans hf.1 hj, hf.2⟩
theorem Few.mono {j j' k : Nat} {p : Pat} (h : Few j k p) (hj : j ≤ j') : Few j' k p := ⟨Nat.le_trans h.len hj, fun x hx => (h.hk x hx).mono hj⟩
theorem few0 (k : Nat) : Few 0 k p0 := ⟨Nat.le_refl _, fun h hh => by cases hh⟩
theorem chkR_a {l : List UInt8} {k first c e : Nat} {r : Int × Nat × Nat} (h : chkR l k first c e = some r) (hf : first ≤ 2147483647) : -1 ≤ r.1 ∧ r.1 ≤ 2147483647 := by
 unfold chkR at h
 generalize ha : (if 0 < c then (first : Int) - 1 else (first : Int)) = a at h
 by_cases hc : Sc.fmtR a c = (l.drop k).take (e - k)
 · rw [if_pos hc] at h
   injection h with h
   rw [← h]
   simp only
   split at ha <;> omega
 · rw [if_neg hc] at h
   cases h
theorem rng_small {l : List UInt8} {k : Nat} {r : Int × Nat × Nat} (h : rngF l k = some r) : -1 ≤ r.1 ∧ r.1 ≤ 2147483647 := by
 rcases Nat.lt_or_ge l.length k with hk | hk
 · rw [rngF_short l k hk] at h; cases h
 rw [rngF_in l k hk] at h
 unfold rngAt at h
 cases h1 : numAt l k with
 | none => rw [h1] at h; cases h
 | some q =>
   obtain ⟨first, e⟩ := q
   rw [h1] at h
   have hm := (Sc.numAt_le l k hk _ _ h1).1
   have hm : first ≤ 2147483647 := hm
   simp only at h
   split at h
   · cases h2 : numAt l (e + 1) with
     | none => rw [h2] at h; cases h
     | some q2 =>
       obtain ⟨c, e2⟩ := q2
       rw [h2] at h
       exact chkR_a h hm
   · exact chkR_a h hm
theorem addLn_few {j k : Nat} {x : Ln} (hx : FewL k x) {hs gs : List PH} (h : addLn hs x = some gs) (hf : ∀ h ∈ hs, FewH j k h) : gs.length = hs.length ∧ ∀ h ∈ gs, FewH (j + 1) k h := by
 rcases List.eq_nil_or_concat hs with e | ⟨hs0, h0, e⟩
 · subst e; cases h
 · rw [List.concat_eq_append] at e
   subst e
   rw [addLn_snoc] at h
   cases h
   refine ⟨by simp, fun y hy => ?_⟩
   rcases List.mem_append.1 hy with hy | hy
   · exact (hf y (by simp [hy])).mono (Nat.le_succ _)
   · rw [List.mem_singleton] at hy
     subst hy
     obtain ⟨f1, f2, f3, f4⟩ := hf h0 (by simp)
     refine ⟨by simp; omega, f2, f3, fun l hl => ?_⟩
     rcases List.mem_append.1 hl with hl | hl
     · exact f4 l hl
     · rw [List.mem_singleton] at hl
       rw [hl]; exact hx
theorem bareF_le (l : List UInt8) : (Tx.bareF l).length ≤ l.length := by
 unfold Tx.bareF
 split
 · rw [List.length_dropLast]; omega
 · exact Nat.le_refl _
theorem mk_size (l : List UInt8) : (⟨l.toArray⟩ : ByteArray).size = l.length := by simp [ByteArray.size]
theorem unLn_few {j k : Nat} {hs gs : List PH} (h : unLn hs = some gs) (hf : ∀ h ∈ hs, FewH j k h) : gs.length = hs.length ∧ ∀ h ∈ gs, FewH (j + 1) k h := by
 rcases List.eq_nil_or_concat hs with e | ⟨hs0, h0, e⟩
 · subst e; cases h
 · rw [List.concat_eq_append] at e
   subst e
   rw [unLn_snoc] at h
   rcases List.eq_nil_or_concat h0.lines with e | ⟨ls, x, e⟩
   · rw [e] at h; cases h
   · rw [List.concat_eq_append] at e
     rw [e, bareLs_snoc] at h
     cases h
     refine ⟨by simp, fun y hy => ?_⟩
     rcases List.mem_append.1 hy with hy | hy
     · exact (hf y (by simp [hy])).mono (Nat.le_succ _)
     · rw [List.mem_singleton] at hy
       subst hy
       obtain ⟨f1, f2, f3, f4⟩ := hf h0 (by simp)
       rw [e] at f1 f4
       refine ⟨by simp at f1 ⊢; omega, f2, f3, fun l hl => ?_⟩
       rcases List.mem_append.1 hl with hl | hl
       · exact f4 l (List.mem_append_left _ hl)
       · rw [List.mem_singleton] at hl
         rw [hl]
         have hx : x.text.size ≤ k := f4 x (by simp)
         show (bareB x.text).size ≤ k
         unfold bareB
         rw [mk_size]
         have := bareF_le (bs x.text)
         have hb : (bs x.text).length = x.text.size := Tx.bs_len _
         omega
theorem body_few {j k : Nat} {p q : Pat} {b : UInt8} {t : List UInt8} (h : bodyF p b t = some q) (ht : t.length + 1 ≤ k) (hf : Few j k p) : Few (j + 1) k q := by
 unfold bodyF at h
 cases e : addLn p.hunks ⟨b.toNat, ⟨(t ++ [10]).toArray⟩⟩ with
 | none => rw [e] at h; cases h
 | some gs =>
   rw [e] at h
   cases h
   obtain ⟨h1, h2⟩ := addLn_few (j := j) (k := k) (by show ByteArray.size _ ≤ k; rw [mk_size]; simpa using ht) e hf.hk
   exact ⟨by rw [h1]; exact Nat.le_succ_of_le hf.len, h2⟩
theorem step_few {j k : Nat} {p q : Pat} {l : List UInt8} (h : stepF p l = some q) (hl : l.length ≤ k) (hf : Few j k p) : Few (j + 1) k q := by
 cases l with
 | nil => cases h
 | cons b t =>
   have ht : t.length + 1 ≤ k := by simpa using hl
   rw [stepF] at h
   split at h
   · split at h
     · cases e : Sc.unqF (b :: t) 4 with
       | none => rw [e] at h; cases h
       | some r => rw [e] at h; cases h; exact ⟨(hf.mono (Nat.le_succ _)).len, (hf.mono (Nat.le_succ _)).hk⟩
     · exact body_few h ht hf
   · split at h
     · split at h
       · cases e : Sc.unqF (b :: t) 4 with
         | none => rw [e] at h; cases h
         | some r => rw [e] at h; cases h; exact ⟨(hf.mono (Nat.le_succ _)).len, (hf.mono (Nat.le_succ _)).hk⟩
       · exact body_few h ht hf
     · split at h
       · unfold headF at h
         cases e : rngF (b :: t) 4 with
         | none => rw [e] at h; cases h
         | some r =>
           obtain ⟨o, c, e1⟩ := r
           rw [e] at h
           simp only at h
           cases e2 : rngF (b :: t) ((e1 : Int) + 2) with
           | none => rw [e2] at h; cases h
           | some r2 =>
             obtain ⟨n, c2, e3⟩ := r2
             rw [e2] at h
             cases h
             refine ⟨by simp; exact hf.len, fun y hy => ?_⟩
             rcases List.mem_append.1 hy with hy | hy
             · exact (hf.hk y hy).mono (Nat.le_succ _)
             · rw [List.mem_singleton] at hy
               subst hy
               exact ⟨by simp, rng_small (k := 4) e, rng_small (k := e1 + 2) e2, fun l hl => by cases hl⟩
       · split at h
         · exact body_few h ht hf
         · split at h
           · unfold unF at h
             cases e : unLn p.hunks with
             | none => rw [e] at h; cases h
             | some gs =>
               rw [e] at h
               cases h
               obtain ⟨h1, h2⟩ := unLn_few e hf.hk
               exact ⟨by rw [h1]; exact Nat.le_succ_of_le hf.len, h2⟩
           · cases h
theorem Few.sm {j k : Nat} {p : Pat} (h : Few j k p) (hj : j ≤ 1000000) (hk : k ≤ 4194304) : PatSm p.hunks := ⟨Nat.le_trans h.len hj, fun x hx => by
 obtain ⟨f1, f2, f3, f4⟩ := h.hk x hx
 exact ⟨Nat.le_trans f1 hj, ⟨by omega, by omega⟩, ⟨by omega, by omega⟩, fun l hl => Nat.le_trans (f4 l hl) hk⟩⟩
theorem run_few {k : Nat} : ∀ (ls : List (List UInt8)) (p q : Pat) (j : Nat), runF p ls = some q → (∀ l ∈ ls, l.length ≤ k) → Few j k p → Few (j + ls.length) k q
 | [], p, q, j, h, _, hf => by cases h; exact hf
 | l :: ls, p, q, j, h, hl, hf => by
   rw [runF] at h
   cases e : stepF p l with
   | none => rw [e] at h; cases h
   | some r =>
     rw [e] at h
     have := run_few ls r q (j + 1) h (fun x hx => hl x (List.mem_cons_of_mem _ hx)) (step_few e (hl l List.mem_cons_self) hf)
     rw [List.length_cons]
     rw [show j + (ls.length + 1) = j + 1 + ls.length by omega]
     exact this
end St
end
end Go.Proofs.YtjecfmbecgpbmaaGreatDoor

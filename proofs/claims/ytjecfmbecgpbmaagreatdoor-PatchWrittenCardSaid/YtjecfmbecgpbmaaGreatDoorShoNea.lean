/- Facts; each states its conditions. -/
import Derived.Test.YtjecfmbecgpbmaaGreatDoorGShoTab
import Derived.Test.YtjecfmbecgpbmaaGreatDoorGInternVisitAll
import Derived.Test.YtjecfmbecgpbmaaGreatDoorGTextCollect
import Derived.Test.YtjecfmbecgpbmaaGreatDoorGTextBase
namespace Go.Proofs.YtjecfmbecgpbmaaGreatDoor
section
namespace Cm
end Cm
namespace Sc
end Sc
open Go.RowKit
namespace Sh
open Cm Sc
abbrev tStrs : TypeId := 30
def lnB (s : ByteArray) : List ByteArray := Tx.mks (Tx.linesF (Tx.bs s))
theorem lnB_len (s : ByteArray) : (lnB s).length ≤ s.size := by
 unfold lnB
 rw [Tx.mks_len]
 exact Tx.linesF_le (Tx.bs s)
theorem lnB_size (s : ByteArray) : ∀ x ∈ lnB s, x.size ≤ s.size := by
 intro x hx
 obtain ⟨l, hl, rfl⟩ := List.mem_map.1 hx
 rw [Tx.size_mk]
 exact Tx.mem_len hl
theorem rdS_V {w : World} {v : Value} {xs : List ByteArray} (h : Tx.RdS w v xs) : RdV w v (stringsV xs) := by
 obtain ⟨A, c, rfl, hc, hA⟩ := h
 refine ⟨A, c, by rw [stringsV_len], ⟨by rw [stringsV_len]; exact hc.1, hc.2⟩, fun hp => ?_⟩
 rw [stringsV_len] at hp
 obtain ⟨b, off, e, hcell⟩ := hA hp
 exact ⟨b, off, e, fun j hj => by rw [hcell j (by rw [stringsV_len] at hj; exact hj)]; simp [stringsV]⟩
def idA (s t : ByteArray) : List Int := (lnB s).map (Nt.placeI (Nt.namesF [lnB s, lnB t]))
def idB (s t : ByteArray) : List Int := (lnB t).map (Nt.placeI (Nt.namesF [lnB s, lnB t]))
theorem idA_len (s t : ByteArray) : (idA s t).length ≤ s.size := by unfold idA; rw [List.length_map]; exact lnB_len s
theorem idB_len (s t : ByteArray) : (idB s t).length ≤ t.size := by unfold idB; rw [List.length_map]; exact lnB_len t
theorem names_len (s t : ByteArray) : (Nt.namesF [lnB s, lnB t]).length ≤ s.size + t.size := by
 have h := Nt.namesA_len ([lnB s, lnB t] : List (List ByteArray)).flatten []
 have h1 := lnB_len s
 have h2 := lnB_len t
 unfold Nt.namesF
 simp only [List.flatten_cons, List.flatten_nil, List.append_nil, List.length_append, List.length_nil] at h ⊢
 omega
theorem idA_zB {s t : ByteArray} (hs : s.size ≤ 100000) (ht : t.size ≤ 100000) : ∀ z ∈ idA s t, zB z := by
 intro z hz
 obtain ⟨x, _, rfl⟩ := List.mem_map.1 hz
 have h1 := Nt.placeI_lo (Nt.namesF [lnB s, lnB t]) x
 have h2 := Nt.placeI_hi (Nt.namesF [lnB s, lnB t]) x
 have h3 := names_len s t
 unfold zB; omega
theorem idB_zB {s t : ByteArray} (hs : s.size ≤ 100000) (ht : t.size ≤ 100000) : ∀ z ∈ idB s t, zB z := by
 intro z hz
 obtain ⟨x, _, rfl⟩ := List.mem_map.1 hz
 have h1 := Nt.placeI_lo (Nt.namesF [lnB s, lnB t]) x
 have h2 := Nt.placeI_hi (Nt.namesF [lnB s, lnB t]) x
 have h3 := names_len s t
 unfold zB; omega
theorem ll_lit {w : World} {v1 v2 : Value} {x y : List Value} (h1 : RdV w v1 x) (h2 : RdV w v2 y) (t : TypeId) : RdLL (w.alloc (.cells #[v1, v2] t)) (.slice (some ⟨w.heap.size, 0, none⟩) 2 2) [x, y] := by
 have hb := (Below.refl w.heap.size w).alloc (Nat.le_refl _) (.cells #[v1, v2] t)
 refine ⟨[v1, v2], RdV.lit w t [v1, v2] #[v1, v2] rfl, rfl, fun j a b => ?_⟩
 match j, a, b with
 | 0, _, _ => exact h1.below hb
 | 1, _, _ => exact h2.below hb
theorem ll_two {w : World} {v : Value} {x y : List Value} (h : RdLL w v [x, y]) : ∃ b off c u0 u1, v = .slice (some ⟨b, off, none⟩) 2 c ∧ w.cell? ⟨b, off, none⟩ = some u0 ∧ w.cell? ⟨b, off + 1, none⟩ = some u1 ∧ RdV w u0 x ∧ RdV w u1 y := by
 obtain ⟨us, ⟨A, c, rfl, _, hc⟩, hl, hr⟩ := h
 have hl2 : us.length = 2 := hl
 obtain ⟨b, off, rfl, hcell⟩ := hc (by omega)
 exact ⟨b, off, c, us[0]'(by omega), us[1]'(by omega), by rw [hl2], hcell 0 (by omega), hcell 1 (by omega), hr 0 (by omega) (by simp), hr 1 (by omega) (by simp)⟩
theorem split_small {s : ByteArray} (hs : s.size ≤ 1000) : Tx.checkF (Tx.bs s) = 0 := Tx.checkF_small _ (by rw [Tx.bs_len]; omega)
def SpPost2 (s : ByteArray) (w : World) (e : Ending) (w' : World) : Prop := ∃ v, e = .returned (.tuple #[v, .int .i64 0]) ∧ RdV w' v (stringsV (lnB s)) ∧ Below w.heap.size w w'
theorem Spl_any (s : ByteArray) (hs : s.size ≤ 1000) (w : World) : Calls Tryz.prog 59 #[.string s] w (SpPost2 s w) :=
 (Tx.Split_any s w (by omega)).mono fun e w' ⟨v, h1, h2, h3⟩ => ⟨v, by rw [h1, split_small hs], by rw [split_small hs, if_pos rfl] at h2; exact rdS_V h2, h3⟩
theorem SplR_any (s : ByteArray) (hs : s.size ≤ 1000) (w : World) : Calls Tryz.prog 41 #[.string s] w (SpPost2 s w) :=
 (Tx.SplitR_any s w (by omega)).mono fun e w' ⟨v, h1, h2, h3⟩ => ⟨v, by rw [h1, split_small hs], by rw [split_small hs, if_pos rfl] at h2; exact rdS_V h2, h3⟩
def IdPost (s t : ByteArray) (w : World) (e : Ending) (w' : World) : Prop := ∃ v, e = .returned v ∧ RdLL w' v [intsV (idA s t), intsV (idB s t)] ∧ Below w.heap.size w w'
theorem Ids_two (s t : ByteArray) (hs : s.size ≤ 1000) (ht : t.size ≤ 1000) (u : Value) (w : World) (h : RdLL w u [stringsV (lnB s), stringsV (lnB t)]) : Calls Tryz.prog 110 #[u] w (IdPost s t w) := by
 have l1 := lnB_len s
 have l2 := lnB_len t
 refine (Nt.Ids_any u [lnB s, lnB t] w h (by simp) (fun f hf => ?_) (fun f hf x hx => ?_)).mono ?_
 · simp only [List.mem_cons, List.not_mem_nil, or_false] at hf
   rcases hf with rfl | rfl <;> omega
 · simp only [List.mem_cons, List.not_mem_nil, or_false] at hf
   unfold maxLen
   rcases hf with rfl | rfl
   · have := lnB_size s x hx; omega
   · have := lnB_size t x hx; omega
 · rintro e w' ⟨v, rfl, ho, hb⟩
   exact ⟨v, rfl, ho.rd, hb⟩
theorem IdsR_two (s t : ByteArray) (hs : s.size ≤ 1000) (ht : t.size ≤ 1000) (u : Value) (w : World) (h : RdLL w u [stringsV (lnB s), stringsV (lnB t)]) : Calls Tryz.prog 55 #[u] w (IdPost s t w) := by
 have l1 := lnB_len s
 have l2 := lnB_len t
 refine (Nt.IdsR_any u [lnB s, lnB t] w h (by simp) (fun f hf => ?_)).mono ?_
 · simp only [List.mem_cons, List.not_mem_nil, or_false] at hf
   rcases hf with rfl | rfl <;> omega
 · rintro e w' ⟨v, rfl, ho, hb⟩
   exact ⟨v, rfl, ho.rd, hb⟩
def blbF (s t : ByteArray) : List Ch := scrF (idA s t) (idB s t)
set_option maxRecDepth 100000 in
set_option maxHeartbeats 4000000 in
theorem Blobs_any (s t : ByteArray) (hs : s.size ≤ 1000) (ht : t.size ≤ 1000) (w : World) : Calls Tryz.prog 72 #[.string s, .string t] w (ScPost (blbF s t) w) := by
 have HS1 := Lib.hid (fun w => Spl_any s hs w)
 have HS2 := Lib.hid (fun w => Spl_any t ht w)
 have HI := Lib.hid (fun u w h => Ids_two s t hs ht u w h)
 have l1 := idA_len s t
 have l2 := idB_len s t
 have HSc : Hid (∀ va vb w, RdV w va (intsV (idA s t)) → RdV w vb (intsV (idB s t)) → Calls Tryz.prog 111 #[va, vb] w (ScPost (blbF s t) w)) := Lib.hid (fun va vb w h1 h2 => Scr_rd va vb _ _ w h1 h2 (by omega) (by omega) (idA_zB (by omega) (by omega)) (idB_zB (by omega) (by omega)))
 clear l1 l2
 generalize blbF s t = l at *
 unfold SpPost2 at HS1 HS2
 unfold IdPost at HI
 generalize intsV (idA s t) = ia at *
 generalize intsV (idB s t) = ib at *
 generalize stringsV (lnB s) = sa at *
 generalize stringsV (lnB t) = sb at *
 go_enter Tryz.func72, Tryz.ntmps72
 go_wp2_with fail
 refine (HS1.out _).mono ?_
 rintro e w1 ⟨v1, rfl, hr1, hb1⟩
 obtain ⟨A1, c1, rfl⟩ := hr1.form
 have HR1 := Lib.hid hr1
 have HB1 := Lib.hid hb1
 clear hr1 hb1 HS1
 go_wp2_with fail
 refine (HS2.out _).mono ?_
 rintro e w2 ⟨v2, rfl, hr2, hb2⟩
 obtain ⟨A2, c2, rfl⟩ := hr2.form
 have HR1 := Lib.hid (HR1.out.below hb2)
 have HR2 := Lib.hid hr2
 have HB2 := Lib.hid (HB1.out.trans (hb2.mono HB1.out.size))
 clear hr2 hb2 HS2 HB1
 have HL := Lib.hid (ll_lit HR1.out HR2.out tStrs)
 have HBl := Lib.hid (HB2.out.alloc HB2.out.size (.cells #[.slice A1 sa.length c1, .slice A2 sb.length c2] tStrs))
 clear HR1 HR2 HB2
 go_wp2_with fail
 refine (HI.out _ _ HL.out).mono ?_
 rintro e w3 ⟨v3, rfl, hr3, hb3⟩
 obtain ⟨b, off, c, u0, u1, rfl, q0, q1, r0, r1⟩ := ll_two hr3
 have HB3 := Lib.hid (HBl.out.trans (hb3.mono HBl.out.size))
 have HR0 := Lib.hid (r0.below (Below.refl w3.heap.size w3).drew)
 have HR1 := Lib.hid (r1.below (Below.refl w3.heap.size w3).drew)
 clear hr3 hb3 HI HL HBl r0 r1
 have HB3d := Lib.hid HB3.out.drew
 go_upto_region 8 with fail
 go_region_with (first | (go_at_call 111; refine (HSc.out _ _ _ HR0.out HR1.out).mono ?_; rintro e w4 ⟨v4, rfl, ho4, hb4⟩; have HO4 := Lib.hid (ho4.base HB3d.out.size); have HB4 := Lib.hid (HB3d.out.trans (hb4.mono HB3d.out.size)); clear ho4 hb4))
 all_goals
  go_wp2_with fail
  go_ret2
  exact ⟨_, rfl, HO4.out, HB4.out⟩
set_option maxRecDepth 100000 in
set_option maxHeartbeats 4000000 in
theorem LinesR_two (s t : ByteArray) (hs : s.size ≤ 1000) (ht : t.size ≤ 1000) (v1 v2 : Value) (w : World) (h1 : RdV w v1 (stringsV (lnB s))) (h2 : RdV w v2 (stringsV (lnB t))) : Calls Tryz.prog 54 #[v1, v2] w (NewC (blbF s t) w) := by
 have HI := Lib.hid (fun u w h => IdsR_two s t hs ht u w h)
 have l1 := idA_len s t
 have l2 := idB_len s t
 have HSc : Hid (∀ va vb w, RdV w va (intsV (idA s t)) → RdV w vb (intsV (idB s t)) → Calls Tryz.prog 91 #[va, vb] w (NewC (blbF s t) w)) := Lib.hid (fun va vb w h1 h2 => by
  obtain ⟨A, c, rfl⟩ := h1.form
  obtain ⟨B, d, rfl⟩ := h2.form
  rw [intsV_len] at h1 h2 ⊢
  rw [intsV_len]
  exact WalkR_at A B c d _ _ _ _ w (Lib.hid h1) (Lib.hid h2) (by omega) (by omega) (Lib.hid rfl) (Lib.hid rfl))
 clear l1 l2
 generalize blbF s t = l at *
 unfold IdPost at HI
 generalize intsV (idA s t) = ia at *
 generalize intsV (idB s t) = ib at *
 generalize stringsV (lnB s) = sa at *
 generalize stringsV (lnB t) = sb at *
 obtain ⟨A1, c1, rfl⟩ := h1.form
 obtain ⟨A2, c2, rfl⟩ := h2.form
 have HL := Lib.hid (ll_lit h1 h2 tStrs)
 have HBl := Lib.hid ((Below.refl w.heap.size w).alloc (Nat.le_refl _) (.cells #[.slice A1 sa.length c1, .slice A2 sb.length c2] tStrs))
 clear h1 h2
 go_enter Tryz.func54, Tryz.ntmps54
 go_wp2_with fail
 refine (HI.out _ _ HL.out).mono ?_
 rintro e w3 ⟨v3, rfl, hr3, hb3⟩
 obtain ⟨b, off, c, u0, u1, rfl, q0, q1, r0, r1⟩ := ll_two hr3
 have HB3 := Lib.hid (HBl.out.trans (hb3.mono HBl.out.size))
 have HR0 := Lib.hid (r0.below (Below.refl w3.heap.size w3).drew)
 have HR1 := Lib.hid (r1.below (Below.refl w3.heap.size w3).drew)
 clear hr3 hb3 HI HL HBl r0 r1
 have HB3d := Lib.hid HB3.out.drew
 go_upto_region 2 with fail
 go_region_with (first | (go_at_call 91; refine (HSc.out _ _ _ HR0.out HR1.out).mono ?_; rintro e w4 ⟨v4, rfl, ho4, hb4⟩; have HO4 := Lib.hid (ho4.base HB3d.out.size); have HB4 := Lib.hid (HB3d.out.trans (hb4.mono HB3d.out.size)); clear ho4 hb4))
 all_goals
  go_wp2_with fail
  go_ret
  exact ⟨_, rfl, HO4.out, HB4.out⟩
end Sh
end
section
namespace Au
end Au
open Go.RowKit
namespace Sh
open Cm Sc Au
theorem lns_take {l : List (List UInt8)} {i : Nat} (h : i < l.length) : (l.take (i + 1)).flatten.length = (l.take i).flatten.length + l[i].length := by
 rw [List.take_succ_eq_append_getElem h, List.flatten_append]
 simp
theorem lns_all (L : List UInt8) (i : Nat) : ((Tx.linesF L).take i).flatten.length ≤ L.length := by
 have h := congrArg List.length (Tx.linesF_flatten L)
 have h2 : ((Tx.linesF L).take i).flatten.length + ((Tx.linesF L).drop i).flatten.length = (Tx.linesF L).flatten.length := by
  rw [← List.length_append, ← List.flatten_append, List.take_append_drop]
 omega
set_option maxRecDepth 100000 in
set_option maxHeartbeats 8000000 in
theorem Near_any (s : ByteArray) (v : Value) (us : List Int) (fr : Int) (w : World) (h : RdV w v (intsV us)) (hu : us.length ≤ maxLen) (hs : s.size ≤ 1000) (hf : 0 ≤ fr ∧ fr ≤ 1000) :
 Calls Tryz.prog 13 #[.string s, v, .int .i64 fr] w (Tx.SomeStr (5 * s.size) w) := by
 have HAt := Lib.hid (fun (wq : World) (k : Int) (hb : Below w.heap.size w wq) (h0 : 0 ≤ k) (h1 : k ≤ 1000000) => At_fn v us k wq (h.below hb) hu h0 h1)
 have HLi := Lib.hid (fun w => Tx.LinesR_any s w (by omega))
 obtain ⟨f0, f1⟩ := hf
 obtain ⟨A, c, rfl⟩ := h.form
 clear h hu
 rw [intsV_len] at HAt ⊢
 generalize us.length = nu at *
 have HF : Hid (∀ k, -9223372036854775808 ≤ atF us k ∧ atF us k ≤ 9223372036854775807) := Lib.hid (fun k => ⟨atF_lo us k, atF_hi us k⟩)
 generalize atF us = F at *
 have hN := Tx.linesF_le (Tx.bs s)
 rw [Tx.bs_len] at hN
 have HTk := Lib.hid (fun i h => lns_take (l := Tx.linesF (Tx.bs s)) (i := i) h)
 have HAl := Lib.hid (lns_all (Tx.bs s))
 rw [Tx.bs_len] at HAl
 go_enter Tryz.func13, Tryz.ntmps13
 go_wp2_with fail
 refine (HLi.out _).mono ?_
 rintro e w1 ⟨vl, rfl, hol, hb1⟩
 have HB1 := Lib.hid hb1
 have HR1 := Lib.hid (RdV.of_own (us := Tx.strsV (Tx.linesF (Tx.bs s))) hol)
 obtain ⟨Al, cl, rfl⟩ := own_form hol
 clear hb1 hol HLi
 generalize Tx.linesF (Tx.bs s) = ls at *
 obtain ⟨N, hNn⟩ : ∃ N, N = ls.length := ⟨_, rfl⟩
 have HNn := Lib.hid hNn
 rw [← hNn] at hN HR1 ⊢
 clear hNn
 go_wp2_with fail
 go_loopw [8, 9] (fun s' i' wr => ∃ (i : Nat) (acc : ByteArray), i ≤ N ∧ s' = .string acc ∧ i' = .int .i64 (i : Int) ∧ Hid (acc.size ≤ 4 * i + (ls.take i).flatten.length) ∧ Hid (Below w1.heap.size w1 wr)) (fun _ i' _ => N - (intOf i').toNat)
 case atStart => exact ⟨0, ⟨#[]⟩, Nat.zero_le _, rfl, rfl, Lib.hid (Nat.zero_le _), Lib.hid (Below.refl _ _)⟩
 case round =>
  obtain ⟨i, acc, hi, rfl, rfl, HSz, HBl⟩ := hrel
  have HBw := Lib.hid (HB1.out.trans (HBl.out.mono HB1.out.size))
  by_cases hlt : i < N
  · have hx : i < ls.length := by rw [← HNn.out]; exact hlt
    have i0 : (0 : Int) ≤ (i : Int) := by omega
    have i1 : (i : Int) < (N : Int) := by omega
    have htk := HTk.out i hx
    have hal := HAl.out i
    have hal2 := HAl.out (i + 1)
    have hsz := HSz.out
    obtain ⟨li, hli⟩ : ∃ li : ByteArray, li = ByteArray.mk ls[i].toArray := ⟨_, rfl⟩
    have hls : li.size = ls[i].length := by rw [hli]; exact Tx.size_mk _
    have HCl : Hid (∀ wq, Below w1.heap.size w1 wq → ∃ b off, Al = some ⟨b, off, none⟩ ∧ wq.cell? ⟨b, off + i, none⟩ = some (.string li)) := Lib.hid (fun wq hb => by
     obtain ⟨q1, b, off, e, hc⟩ := (HR1.out.below hb).at (by rw [Tx.strsV_len]; omega)
     refine ⟨b, off, e, ?_⟩
     rw [hc i (by rw [Tx.strsV_len]; exact hx), hli]
     simp [Tx.strsV])
    have z1 := HF.out (fr + i)
    have y1 := HF.out (fr + 40 + i)
    have HLn := Lib.hid (fun w => Tx.Line_any (F (fr + 40 + i)) w y1.1 y1.2)
    have HSk : Hid (acc.size ≤ 4 * (i + 1) + (ls.take (i + 1)).flatten.length) := Lib.hid (by omega)
    have HS2 : Hid (∀ xx : ByteArray, xx.size ≤ 3 → (acc ++ xx ++ ByteArray.mk #[10] ++ li).size ≤ 4 * (i + 1) + (ls.take (i + 1)).flatten.length) := Lib.hid (fun xx hxx => by
     simp only [ByteArray.size_append]
     have : (ByteArray.mk #[10]).size = 1 := rfl
     omega)
    have HS3 : Hid ((acc ++ li).size ≤ 4 * (i + 1) + (ls.take (i + 1)).flatten.length) := Lib.hid (by
     simp only [ByteArray.size_append]
     omega)
    have hb0 : acc.size ≤ 10000 := by omega
    have hb1 : li.size ≤ 10000 := by omega
    clear htk hal hal2 hsz hls hli hx y1
    obtain ⟨z2, z3⟩ := z1
    by_cases h3 : (F (fr + i)).tmod 6 = 0
    · have q3 : ((F (fr + i)).tmod 6 == 0) = true := by rw [beq_iff_eq]; exact h3
      clear h3
      go_wp2_with (go_at_call 23; refine (HAt.out _ _ HBw.out (by omega) (by omega)).mono ?_; rintro e w7 ⟨rfl, rfl⟩)
      go_roundw
      case rel => exact ⟨i + 1, acc, by omega, rfl, by go_num, HSk, HBl⟩
      case measure => simp [intOf]; omega
    · have q3 : ((F (fr + i)).tmod 6 == 0) = false := by rw [Bool.eq_false_iff]; intro hh; rw [beq_iff_eq] at hh; exact h3 hh
      by_cases h4 : (F (fr + i)).tmod 6 = 1
      · have q4 : ((F (fr + i)).tmod 6 == 1) = true := by rw [beq_iff_eq]; exact h4
        clear h3 h4
        go_wp2_with (first
         | (go_at_call 23; refine (HAt.out _ _ HBw.out (by omega) (by omega)).mono ?_; rintro e w7 ⟨rfl, rfl⟩)
         | (go_at_call 22; refine (HLn.out _).mono ?_; rintro e w2 ⟨xx, hxx, rfl, hb⟩; have HB2 := Lib.hid (HBl.out.trans (hb.mono HBl.out.size)); have HS4 := Lib.hid (HS2.out xx hxx); obtain ⟨b2, o2, rfl, c2⟩ := HCl.out _ HB2.out; clear hb))
        go_roundw
        case rel => exact ⟨i + 1, _, by omega, rfl, by go_num, HS4, HB2⟩
        case measure => simp [intOf]; omega
      · have q4 : ((F (fr + i)).tmod 6 == 1) = false := by rw [Bool.eq_false_iff]; intro hh; rw [beq_iff_eq] at hh; exact h4 hh
        clear h3 h4
        obtain ⟨b2, o2, rfl, c2⟩ := HCl.out _ HBl.out
        go_wp2_with (go_at_call 23; refine (HAt.out _ _ HBw.out (by omega) (by omega)).mono ?_; rintro e w7 ⟨rfl, rfl⟩)
        go_roundw
        case rel => exact ⟨i + 1, _, by omega, rfl, by go_num, HS3, HBl⟩
        case measure => simp [intOf]; omega
  · have hd : decide (i < N) = false := by rw [decide_eq_false_iff_not]; omega
    have hal := HAl.out i
    have hsz := HSz.out
    have HFn : Hid (acc.size ≤ 5 * s.size) := Lib.hid (by omega)
    clear hal hsz
    go_wp2_with fail
    go_ret
    exact ⟨acc, HFn.out, rfl, HBw.out⟩
end Sh
end
end Go.Proofs.YtjecfmbecgpbmaaGreatDoor

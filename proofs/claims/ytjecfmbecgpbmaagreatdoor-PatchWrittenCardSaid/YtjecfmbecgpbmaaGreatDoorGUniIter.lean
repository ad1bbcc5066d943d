/- Facts; each states its conditions. -/
import Derived.Test.YtjecfmbecgpbmaaGreatDoorUniHead
import Derived.Test.YtjecfmbecgpbmaaGreatDoorGTextBase
import Derived.Test.YtjecfmbecgpbmaaGreatDoorTextJoin
import Derived.RangeFuncGives
import Derived.RangeFuncOwn
import Derived.RangeFuncCalls
import Derived.RangeFuncLeaves
import Derived.RangeFuncBound
import Derived.RangeFuncBox
import Derived.RangeFuncNested
import Derived.RangeFuncWrites
import Derived.Shelf.AbstractIn
import Derived.Shelf.RegionOpen
import Derived.OwnWalkIn
import Derived.TacticsIn
import Derived.TacticsInMore
import Derived.RegionIn
import Derived.LoopNIn
import Derived.LoopIn
import Derived.Sort.QuietIn
import Derived.Sort.CutIn
import Derived.Test.YtjecfmbecgpbmaaGreatDoorTextRefJ
namespace Go.Proofs.YtjecfmbecgpbmaaGreatDoor
section
namespace Cm
end Cm
namespace Hn
end Hn
namespace Sc
end Sc
namespace Tx
end Tx
open Go.RowKit
attribute [local go_sem] Oper.semAt_some
namespace Uf
open Cm Hn
open Sc (fmtR Pow RdK)
open Tx (bs)
def kB (k : Int) : ByteArray := ⟨#[k.toNat.toUInt8]⟩
def unB : ByteArray := ⟨#[10, 92, 32, 78, 111, 32, 110, 101, 119, 108, 105, 110, 101, 32, 97, 116, 32, 101, 110, 100, 32, 111, 102, 32, 102, 105, 108, 101, 10]⟩
def qB (s : ByteArray) : ByteArray := ⟨(Sc.quoteF (bs s)).toArray⟩
def lnPt (l : Ln) : List ByteArray := kB l.kind :: l.text :: (if Tx.endedF (bs l.text) = true then [] else [unB])
def lnsPt (ls : List Ln) : List ByteArray := ls.flatMap lnPt
def hkB (h : PH) : ByteArray := ⟨(hdrF h.old h.new h.lines).toArray⟩
def hkPt (h : PH) : List ByteArray := hkB h :: lnsPt h.lines
def hdPt (on nn : ByteArray) : ByteArray := (⟨#[45, 45, 45, 32]⟩ : ByteArray) ++ qB on ++ ⟨#[10, 43, 43, 43, 32]⟩ ++ qB nn ++ ⟨#[10]⟩
def partsF (p : Pat) : List ByteArray := hdPt p.on p.nn :: p.hunks.flatMap hkPt
def kindOk (k : Int) : Prop := k = 32 ∨ k = 45 ∨ k = 43
structure PatOk (p : Pat) : Prop where
 on : p.on.size ≤ 1048576
 nn : p.nn.size ≤ 1048576
 few : p.hunks.length ≤ 1000000
 hk : ∀ h ∈ p.hunks, h.lines.length ≤ 1000000 ∧ (-9223372036854775808 ≤ h.old ∧ h.old ≤ 9223372036854775807) ∧ (-9223372036854775808 ≤ h.new ∧ h.new ≤ 9223372036854775807) ∧ ∀ l ∈ h.lines, kindOk l.kind ∧ l.text.size ≤ 9223372036854775807
def RdZ (w : World) (v : Value) (zs : List HV) (hs : List PH) : Prop := RdK 3 hunkC w v zs ∧ zs.length = hs.length ∧ ∀ j (a : j < zs.length) (b : j < hs.length), zs[j].old = hs[j].old ∧ zs[j].new = hs[j].new ∧ RdL w zs[j].u hs[j].lines
theorem RdZ.below {w w' : World} {v : Value} {zs : List HV} {hs : List PH} (h : RdZ w v zs hs) (hb : Below w.heap.size w w') : RdZ w' v zs hs :=
 ⟨h.1.below hb, h.2.1, fun j a b => ⟨(h.2.2 j a b).1, (h.2.2 j a b).2.1, (h.2.2 j a b).2.2.below hb⟩⟩
theorem RdP.z {w : World} {v : Value} {hs : List PH} (h : RdP w v hs) : ∃ zs, RdZ w v zs hs := h
theorem RdZ.form {w : World} {v : Value} {zs : List HV} {hs : List PH} (h : RdZ w v zs hs) : ∃ A c, v = .slice A hs.length c := RdP.form ⟨zs, h⟩
theorem RdZ.at {w : World} {A : Option Addr} {n c : Nat} {zs : List HV} {hs : List PH} (h : RdZ w (.slice A n c) zs hs) (k : Nat) (hk : k < hs.length) (hz : k < zs.length) : ∃ b off Al cl, A = some ⟨b, off, none⟩ ∧ zs[k].u = .slice Al hs[k].lines.length cl ∧
 w.cell? ⟨b, off + k * 3, none⟩ = some (.int .i64 hs[k].old) ∧ w.cell? ⟨b, off + k * 3 + 1, none⟩ = some (.int .i64 hs[k].new) ∧ w.cell? ⟨b, off + k * 3 + 2, none⟩ = some zs[k].u := by
 obtain ⟨h1, h2, h3⟩ := h
 obtain ⟨b, off, e, hc⟩ := h1.at k hz
 obtain ⟨g1, g2, g3⟩ := h3 k hz hk
 obtain ⟨Al, cl, eu⟩ := g3.form
 have c0 := hc 0 (show 0 < 3 by decide)
 have c1 := hc 1 (show 1 < 3 by decide)
 have c2 := hc 2 (show 2 < 3 by decide)
 simp only [hunkC, List.getElem_cons_zero, List.getElem_cons_succ] at c0 c1 c2
 rw [g1] at c0
 rw [g2] at c1
 exact ⟨b, off, Al, cl, e, eu, c0, c1, c2⟩
def Pb (W : World) (B : Nat) (p : Pat) (vp : Value) (zs : List HV) : Prop := Blk W B tPat [.string p.on, .string p.nn, vp] ∧ RdZ W vp zs p.hunks
def KT (W W' : World) : Prop := ∀ (G : Nat) (t : TypeId) (l : List Value), (t = tPh ∨ t = tLn) → Blk W G t l → Blk W' G t l
theorem KT.trans {a b c : World} (h : KT a b) (k : KT b c) : KT a c := fun G t l ht hb => k G t l ht (h G t l ht hb)
theorem qB_size (s : ByteArray) : (qB s).size ≤ 4 * s.size + 2 := by
 unfold qB
 rw [Tx.size_mk]
 unfold Sc.quoteF
 split
 · show s.size ≤ _; omega
 · simp only [List.length_cons, List.length_append, List.length_nil]
   have h : ∀ l : List UInt8, (l.flatMap Sc.quoteB).length ≤ 4 * l.length := by
    intro l
    induction l with
    | nil => exact Nat.zero_le _
    | cons a l ih =>
      rw [List.flatMap_cons, List.length_append, List.length_cons]
      have : (Sc.quoteB a).length ≤ 4 := by
       unfold Sc.quoteB
       repeat' split
       all_goals simp
      omega
   have := h (bs s)
   rw [Tx.bs_len] at this
   omega
def ItPost (p : Pat) (J Jx : List ByteArray → World → Prop) (e : Ending) (W' : World) : Prop := (∃ v, e = .returned v) ∧ (J (partsF p) W' ∨ ∃ pre, pre ≠ [] ∧ pre <+: partsF p ∧ Jx pre W')
theorem parts_at {p : Pat} {j : Nat} (h : j < p.hunks.length) : partsF p = (hdPt p.on p.nn :: (p.hunks.take j).flatMap hkPt) ++ hkB p.hunks[j] :: (lnsPt p.hunks[j].lines ++ (p.hunks.drop (j + 1)).flatMap hkPt) := by
 have e : p.hunks = p.hunks.take j ++ p.hunks[j] :: p.hunks.drop (j + 1) := by rw [← List.drop_eq_getElem_cons h, List.take_append_drop]
 have e2 : p.hunks.flatMap hkPt = (p.hunks.take j).flatMap hkPt ++ (hkPt p.hunks[j] ++ (p.hunks.drop (j + 1)).flatMap hkPt) := by
  have h2 := congrArg (List.flatMap hkPt) e
  rw [List.flatMap_append, List.flatMap_cons] at h2
  exact h2
 unfold partsF
 rw [e2]
 simp [hkPt]
theorem lnsPt_at {ls : List Ln} {i : Nat} (h : i < ls.length) : lnsPt ls = lnsPt (ls.take i) ++ (lnPt ls[i] ++ lnsPt (ls.drop (i + 1))) := by
 have e : ls = ls.take i ++ ls[i] :: ls.drop (i + 1) := by rw [← List.drop_eq_getElem_cons h, List.take_append_drop]
 have h2 := congrArg lnsPt e
 unfold lnsPt at h2 ⊢
 rw [List.flatMap_append, List.flatMap_cons] at h2
 exact h2
def YdPost (J Jx : List ByteArray → World → Prop) (pre : List ByteArray) (W : World) (e : Ending) (W' : World) : Prop := ∃ b : Bool, e = .returned (.bool b) ∧ (b = true → J pre W' ∧ KT W W') ∧ (b = false → Jx pre W')
set_option maxRecDepth 100000 in
set_option maxHeartbeats 8000000 in
theorem parts1_in (f : Nat) (hf : 1 ≤ f) (l B : Nat) (p : Pat) (vp : Value) (zs : List HV) (hp : PatOk p) (J Jx : List ByteArray → World → Prop)
 (hJ : ∀ pre W, J pre W → Pb W B p vp zs ∧ Pow W) (hJb : ∀ pre W W', J pre W → Below W.heap.size W W' → J pre W')
 (hY : ∀ pre x W, J pre W → pre ++ [x] <+: partsF p → YieldAt Fence.wide (f - 1) Tryz.prog l #[.string x] W (YdPost J Jx (pre ++ [x]) W))
 (W : World) (h0 : J [] W) :
 CallsIn Fence.wide f Tryz.prog 79 #[.func (.yield l) #[] #[], .pointer (some ⟨B, 0, none⟩)] W (ItPost p J Jx) := by
 have HJ := Lib.hid hJ
 have HJb := Lib.hid hJb
 have HY := Lib.hid hY
 have H0 := Lib.hid h0
 have HOk := Lib.hid hp
 have HQ := Lib.hid (fun (s : ByteArray) (w : World) (h : s.size ≤ 1048576) => (show Calls Tryz.prog 80 #[.string s] w fun e w' => e = .returned (.string (qB s)) ∧ Below w.heap.size w w' from Sc.Quote_any s w h))
 have HA := Lib.hid (fun j h => parts_at (p := p) (j := j) h)
 have q1 := qB_size p.on
 have q2 := qB_size p.nn
 have hon := hp.on
 have hnn := hp.nn
 have hfew := hp.few
 have HHd : Hid ((⟨#[45, 45, 45, 32]⟩ : ByteArray) ++ qB p.on ++ ⟨#[10, 43, 43, 43, 32]⟩ ++ qB p.nn ++ ⟨#[10]⟩ = hdPt p.on p.nn) := Lib.hid rfl
 obtain ⟨⟨hblk, hz⟩, _⟩ := hJ _ _ h0
 obtain ⟨A, cp, rfl⟩ := hz.form
 clear hJ hJb hY h0 hp hblk hz
 generalize hon' : p.on = on at *
 generalize hnn' : p.nn = nn at *
 have b1 : ¬ (9223372036854775807 < 4 + (qB on).size) := by omega
 have b2 : ¬ (9223372036854775807 < 4 + (qB on).size + 5) := by omega
 have b3 : ¬ (9223372036854775807 < 4 + (qB on).size + 5 + (qB nn).size) := by omega
 have b4 : ¬ (9223372036854775807 < 4 + (qB on).size + 5 + (qB nn).size + 1) := by omega
 refine callsIn_of_wp Tryz.func79 rfl trivial ?_ rfl
 simp only [Tryz.ntmps79, List.size_toArray, List.length_cons, List.length_nil, Nat.reduceAdd, Nat.reduceSub, Array.replicate_succ, Array.replicate_zero, List.push_toArray, List.append_toArray, List.nil_append, List.cons_append]
 have HP : Hid (∀ V, Below W.heap.size W V → V.cell? ⟨B, 0, none⟩ = some (.string on) ∧ V.cell? ⟨B, 1, none⟩ = some (.string nn)) := Lib.hid (fun V hV => by
  have h := (HJ.out _ _ (HJb.out _ _ _ H0.out hV)).1.1
  rw [hon', hnn'] at h
  exact ⟨h.cell (k := 0) (show 0 < 3 by decide), h.cell (k := 1) (show 1 < 3 by decide)⟩)
 obtain ⟨c0, c1⟩ := HP.out W (Below.refl _ _)
 have HB0 := Lib.hid ((Below.refl W.heap.size W).drew)
 have HY1 : Hid (∀ V, Below W.heap.size W V → YieldAt Fence.wide (f - 1) Tryz.prog l #[.string ((⟨#[45, 45, 45, 32]⟩ : ByteArray) ++ qB on ++ ⟨#[10, 43, 43, 43, 32]⟩ ++ qB nn ++ ⟨#[10]⟩)] V (YdPost J Jx [hdPt on nn] V)) := Lib.hid (fun V hV => by
  have h := HY.out [] (hdPt on nn) V (HJb.out _ _ _ H0.out hV) ⟨p.hunks.flatMap hkPt, by unfold partsF; rw [hon', hnn']; rfl⟩
  exact h)
 have hfol : Tryz.prog.follows .mixedOrders = true := by kernel_rfl
 gi_upto_region 0 with fail
 gi_cut [19] from 7 (fun c wx => ∃ b : Bool, c = .bool (!b) ∧ Hid (b = true → J [hdPt on nn] wx) ∧ Hid (b = false → Jx [hdPt on nn] wx))
 case first =>
  gi_region_with_o (first
   | (refine ⟨trivial, ?_⟩; gi_at_call 80; refine (callsIn_wide.2 (HQ.out _ _ (by first | exact hon | exact hnn))).mono ?_; rintro e W4 ⟨rfl, hb4⟩; have HB0 := Lib.hid (HB0.out.trans (hb4.mono HB0.out.size)); obtain ⟨c0, c1⟩ := HP.out _ HB0.out; obtain ⟨fn, tmps, assign, body, hy, hR⟩ := HY1.out _ HB0.out; clear hb4)
   | (refine hR.mono ?_; rintro e W5 ⟨b, rfl, hT, hF⟩))
  all_goals
   gi_wp2_with fail
   gi_meet
   case rel => exact ⟨b, rfl, Lib.hid (fun h => (hT h).1), Lib.hid hF⟩
 case rest =>
  obtain ⟨b, rfl, HT, HF⟩ := hcut
  clear HB0 HP HY1 H0 HQ b1 b2 b3 b4 q1 q2 hon hnn HHd c0 c1
  cases b with
  | false =>
    have HE := Lib.hid (HF.out rfl)
    clear HT HF
    simp only [Bool.not_false]
    gi_wp2
    go_end0
    exact ⟨⟨_, rfl⟩, .inr ⟨_, by simp, ⟨p.hunks.flatMap hkPt, by unfold partsF; rw [hon', hnn']; rfl⟩, HE.out⟩⟩
  | true =>
    have HJ0 := Lib.hid (HT.out rfl)
    clear HT HF
    have hh0 := (HJ.out _ _ HJ0.out).1.1.cell (k := 2) (show 2 < 3 by decide)
    simp only [List.getElem_cons_zero, List.getElem_cons_succ] at hh0
    obtain ⟨N, hN⟩ : ∃ N, N = p.hunks.length := ⟨_, rfl⟩
    have HN := Lib.hid hN.symm
    have hlz : zs.length = p.hunks.length := (HJ.out _ _ HJ0.out).1.2.2.1
    have HLz := Lib.hid hlz
    rw [← hN] at hfew HJ
    rw [← hN] at hh0
    have HA2 : Hid (∀ j (h : j < p.hunks.length), partsF p = (hdPt on nn :: (p.hunks.take j).flatMap hkPt) ++ hkB p.hunks[j] :: (lnsPt p.hunks[j].lines ++ (p.hunks.drop (j + 1)).flatMap hkPt)) := HA
    have HFull : Hid (partsF p = hdPt on nn :: (p.hunks.take p.hunks.length).flatMap hkPt) := Lib.hid (by rw [List.take_length]; unfold partsF; rw [hon', hnn'])
    have HTk : Hid (∀ j (h : j < p.hunks.length), hdPt on nn :: (p.hunks.take (j + 1)).flatMap hkPt = (hdPt on nn :: (p.hunks.take j).flatMap hkPt) ++ hkB p.hunks[j] :: lnsPt p.hunks[j].lines) := Lib.hid (fun j h => by
     rw [List.take_succ_eq_append_getElem h, List.flatMap_append]
     simp [hkPt])
    clear HA hN hlz hon' hnn'
    generalize hdPt on nn = hd at *
    simp only [Bool.not_true]
    gi_wp2
    gi_loopw [23] (fun iv wr => ∃ j : Nat, j ≤ N ∧ iv = .int .i64 (j : Int) ∧ Hid (J (hd :: (p.hunks.take j).flatMap hkPt) wr)) (fun iv _ => N - (intOf iv).toNat)
    case atStart => exact ⟨0, Nat.zero_le _, rfl, HJ0⟩
    case round =>
     obtain ⟨j, hj, rfl, HJj⟩ := hrel
     by_cases hlt : j < N
     · have hx : j < p.hunks.length := by rw [HN.out]; exact hlt
       have hxz : j < zs.length := by rw [HLz.out]; exact hx
       obtain ⟨bh, off, Al, cl, eA, eu, c0, c1, c2⟩ := (HJ.out _ _ HJj.out).1.2.at j hx hxz
       obtain rfl := eA
       rw [eu] at c2
       have hrl := ((HJ.out _ _ HJj.out).1.2.2.2 j hxz hx).2.2
       rw [eu] at hrl
       have hok := HOk.out.hk _ (List.getElem_mem hx)
       have HAj := Lib.hid (HA2.out j hx)
       have HTj := Lib.hid (HTk.out j hx)
       have HRl : Hid (∀ V pre, J pre V → RdL V (.slice Al p.hunks[j].lines.length cl) p.hunks[j].lines) := Lib.hid (fun V pre hV => by
        have h := ((HJ.out _ _ hV).1.2.2.2 j hxz hx).2.2
        rw [eu] at h
        exact h)
       clear eu
       generalize (p.hunks.drop (j + 1)).flatMap hkPt = aft at HAj
       generalize hd :: (p.hunks.take j).flatMap hkPt = pre at *
       unfold hkB at HAj HTj
       generalize p.hunks[j] = h at *
       obtain ⟨ho, hn, ls⟩ := h
       simp only at c0 c1 c2 hrl hok HAj HTj HRl
       obtain ⟨hls, hbo, hbn, hkind⟩ := hok
       have HKd := Lib.hid hkind
       have i1 : (0 : Int) ≤ (j : Int) := by omega
       have i2 : (j : Int) < (N : Int) := by omega
       obtain ⟨M, hM⟩ : ∃ M, M = ls.length := ⟨_, rfl⟩
       have HM := Lib.hid hM.symm
       rw [← hM] at c2 hrl hls HRl
       clear hM hkind hx hxz
       have HAl := Lib.hid ((Below.refl wr.heap.size wr).alloc (Nat.le_refl _) (.cells #[.int .i64 ho, .int .i64 hn, .slice Al M cl] tPh))
       have HHb : Hid (Blk (wr.alloc (.cells #[.int .i64 ho, .int .i64 hn, .slice Al M cl] tPh)) wr.heap.size tPh [.int .i64 ho, .int .i64 hn, .slice Al M cl]) := Lib.hid (heap_new wr _)
       have HJ1 := Lib.hid (HJb.out _ _ _ HJj.out HAl.out)
       have HHe := Lib.hid (header_any ho hn (.slice Al M cl) ls (wr.alloc (.cells #[.int .i64 ho, .int .i64 hn, .slice Al M cl] tPh)) (HRl.out _ _ HJ1.out) (by rw [HM.out]; exact hls) hbo hbn (HJ.out _ _ HJ1.out).2)
       gi_wp2_with (refine ⟨trivial, ?_⟩; gi_at_call 81; refine (callsIn_wide.2 HHe.out).mono ?_; rintro e W2 ⟨rfl, hb2⟩; have HJ2 := Lib.hid (HJb.out _ _ _ HJ1.out hb2); have HH2 := Lib.hid (HHb.out.below hb2); clear hb2; obtain ⟨fn, tmps, assign, body, hy, hR⟩ := HY.out _ ⟨(hdrF ho hn ls).toArray⟩ _ HJ2.out ⟨lnsPt ls ++ aft, by rw [HAj.out]; simp⟩)
       refine hR.mono ?_
       rintro e W3 ⟨b, rfl, hT, hF⟩
       clear hR hy
       cases b with
       | false =>
         have HE := Lib.hid (hF rfl)
         clear hT hF
         gi_wp2
         go_end0
         exact ⟨⟨_, rfl⟩, .inr ⟨_, by simp, ⟨lnsPt ls ++ aft, by rw [HAj.out]; simp⟩, HE.out⟩⟩
       | true =>
         obtain ⟨hj3, hk3⟩ := hT rfl
         have HJ3 := Lib.hid hj3
         have hH3 := hk3 _ _ _ (.inl rfl) HH2.out
         have hh2 := hH3.cell (k := 2) (show 2 < 3 by decide)
         simp only [List.getElem_cons_zero, List.getElem_cons_succ] at hh2
         clear hT hF hj3 hk3 hH3 HJ1 HJ2 HH2 HHb HHe HAl HJj
         generalize hbk : (ByteArray.mk (hdrF ho hn ls).toArray) = hb at *
         have HLnAt : Hid (∀ i (h : i < ls.length), lnsPt ls = lnsPt (ls.take i) ++ (lnPt ls[i] ++ lnsPt (ls.drop (i + 1)))) := Lib.hid (fun i h => lnsPt_at h)
         have HLnTk : Hid (∀ i (h : i < ls.length), lnsPt (ls.take (i + 1)) = lnsPt (ls.take i) ++ lnPt ls[i]) := Lib.hid (fun i h => by
          rw [List.take_succ_eq_append_getElem h]
          unfold lnsPt
          rw [List.flatMap_append]
          simp)
         have HEd := Lib.hid (fun (s : ByteArray) (w : World) (h : s.size ≤ 9223372036854775807) => Tx.Ended_any s w h)
         have hcv : ∀ k, kindOk k → ∀ W, (convert 5 9 (.int .u8 k)).run Tryz.prog W = .ok (.string (kB k)) W := by
          rintro k (rfl | rfl | rfl) W
          all_goals kernel_rfl
         have HCv := Lib.hid hcv
         clear hcv
         gi_wp2
         gi_loopw [35] (fun iv wr2 => ∃ i : Nat, i ≤ M ∧ iv = .int .i64 (i : Int) ∧ Hid (J (pre ++ hb :: lnsPt (ls.take i)) wr2)) (fun iv _ => M - (intOf iv).toNat)
         case atStart => exact ⟨0, Nat.zero_le _, rfl, HJ3⟩
         case round =>
          obtain ⟨i, hi, rfl, HJi⟩ := hrel
          by_cases hlt2 : i < M
          · have hxi : i < ls.length := by rw [HM.out]; exact hlt2
            obtain ⟨bl, ol, rfl, e0, e1⟩ := RdL_at (HRl.out _ _ HJi.out) i hxi
            obtain ⟨hkd, htx⟩ := HKd.out _ (List.getElem_mem hxi)
            have HAi := Lib.hid (HLnAt.out i hxi)
            have HTi := Lib.hid (HLnTk.out i hxi)
            generalize lnsPt (ls.drop (i + 1)) = aft2 at HAi
            generalize ls[i] = ln at *
            obtain ⟨k, tx⟩ := ln
            simp only at e0 e1 hkd htx
            have hck := HCv.out k hkd
            have i3 : (0 : Int) ≤ (i : Int) := by omega
            have i4 : (i : Int) < (M : Int) := by omega
            have HPr : Hid (∃ r, partsF p = (pre ++ hb :: lnsPt (ls.take i)) ++ (lnPt ⟨k, tx⟩ ++ r)) := Lib.hid ⟨aft2 ++ aft, by rw [HAj.out, HAi.out]; simp⟩
            obtain ⟨r, hr⟩ := HPr.out
            have HR := Lib.hid hr
            have HNx : Hid (pre ++ hb :: lnsPt (ls.take (i + 1)) = (pre ++ hb :: lnsPt (ls.take i)) ++ lnPt ⟨k, tx⟩) := Lib.hid (by rw [HTi.out]; simp)
            clear hr HPr HAi HTi hkd hxi
            generalize pre ++ hb :: lnsPt (ls.take i) = pr at *
            have hL1 : ∀ u, lnPt ⟨k, tx⟩ ++ u = kB k :: (tx :: ((if Tx.endedF (bs tx) = true then [] else [unB]) ++ u)) := fun u => rfl
            have HL1 := Lib.hid hL1
            clear hL1
            have HAl := Lib.hid ((Below.refl wr.heap.size wr).alloc (Nat.le_refl _) (.cells #[.int .u8 k, .string tx] tLn))
            have HHb : Hid (Blk (wr.alloc (.cells #[.int .u8 k, .string tx] tLn)) wr.heap.size tLn [.int .u8 k, .string tx]) := Lib.hid (heap_new wr _)
            have HJ1 := Lib.hid (HJb.out _ _ _ HJi.out HAl.out)
            obtain ⟨fn, tmps, assign, body, hy, hR⟩ := HY.out _ (kB k) _ HJ1.out ⟨tx :: ((if Tx.endedF (bs tx) = true then [] else [unB]) ++ r), by rw [HR.out, HL1.out]; simp⟩
            gi_wp2
            refine hR.mono ?_
            rintro e W4 ⟨b, rfl, hT, hF⟩
            clear hR hy
            cases b with
            | false =>
              have HE := Lib.hid (hF rfl)
              clear hT hF
              gi_wp2
              iterate 4 (all_goals (try ((first | refine ⟨fun _ h => (nomatch h), ?_⟩ | refine ⟨trivial, ?_⟩); gi_wp2)))
              all_goals first
               | (rename some undef = some (Value.bool _) => hh; cases hh; done)
               | (go_end0; exact ⟨⟨_, rfl⟩, .inr ⟨_, by simp, ⟨tx :: ((if Tx.endedF (bs tx) = true then [] else [unB]) ++ r), by rw [HR.out, HL1.out]; simp⟩, HE.out⟩⟩)
            | true =>
              obtain ⟨hj4, hk4⟩ := hT rfl
              have HJ4 := Lib.hid hj4
              have HH4 := Lib.hid (hk4 _ _ _ (.inr rfl) HHb.out)
              have ht4 := HH4.out.cell (k := 1) (show 1 < 2 by decide)
              simp only [List.getElem_cons_zero, List.getElem_cons_succ] at ht4
              clear hT hF hj4 hk4 HJ1 HAl HHb
              obtain ⟨fn, tmps, assign, body, hy, hR⟩ := HY.out _ tx _ HJ4.out ⟨(if Tx.endedF (bs tx) = true then [] else [unB]) ++ r, by rw [HR.out, HL1.out]; simp⟩
              gi_wp2
              refine hR.mono ?_
              rintro e W5 ⟨b, rfl, hT, hF⟩
              clear hR hy
              cases b with
              | false =>
                have HE := Lib.hid (hF rfl)
                clear hT hF
                gi_wp2
                iterate 4 (all_goals (try ((first | refine ⟨fun _ h => (nomatch h), ?_⟩ | refine ⟨trivial, ?_⟩); gi_wp2)))
                all_goals first
                 | (rename some undef = some (Value.bool _) => hh; cases hh; done)
                 | (go_end0; exact ⟨⟨_, rfl⟩, .inr ⟨_, by simp, ⟨(if Tx.endedF (bs tx) = true then [] else [unB]) ++ r, by rw [HR.out, HL1.out]; simp⟩, HE.out⟩⟩)
              | true =>
                obtain ⟨hj5, hk5⟩ := hT rfl
                have HJ5 := Lib.hid hj5
                have HH5 := Lib.hid (hk5 _ _ _ (.inr rfl) HH4.out)
                have ht5 := HH5.out.cell (k := 1) (show 1 < 2 by decide)
                simp only [List.getElem_cons_zero, List.getElem_cons_succ] at ht5
                clear hT hF hj5 hk5 HJ4 HH4 ht4
                have HEx := Lib.hid (HEd.out tx W5 htx)
                cases hed : Tx.endedF (bs tx) with
                | true =>
                  rw [hed] at HEx
                  have HJn : Hid (J (pre ++ hb :: lnsPt (ls.take (i + 1))) W5) := Lib.hid (by
                   rw [HNx.out]
                   have e : lnPt ⟨k, tx⟩ = [kB k, tx] := by unfold lnPt; rw [if_pos hed]
                   rw [e]
                   have h := HJ5.out
                   simpa using h)
                  clear hed HJ5 HH5
                  gi_wp2_with (refine ⟨trivial, ?_⟩; gi_at_call 82; refine (callsIn_wide.2 HEx.out).mono ?_; rintro e W6 ⟨rfl, rfl⟩)
                  repeat ((first | refine ⟨fun _ h => (nomatch h), ?_⟩ | refine ⟨trivial, ?_⟩); gi_wp2)
                  go_roundw
                  case rel => exact ⟨i + 1, by omega, by go_num, HJn⟩
                  case measure => simp [intOf]; omega
                | false =>
                  rw [hed] at HEx
                  have hed2 : ¬ Tx.endedF (bs tx) = true := by rw [hed]; decide
                  have HL2 : Hid (∀ u, lnPt ⟨k, tx⟩ ++ u = kB k :: tx :: unB :: u) := Lib.hid (fun u => by unfold lnPt; rw [if_neg hed2]; rfl)
                  have HJn : Hid (∀ V, J ((pr ++ [kB k] ++ [tx]) ++ [unB]) V → J (pre ++ hb :: lnsPt (ls.take (i + 1))) V) := Lib.hid (fun V h => by
                   rw [HNx.out]
                   have e := HL2.out []
                   rw [List.append_nil] at e
                   rw [e]
                   simpa using h)
                  obtain ⟨fn, tmps, assign, body, hy, hR⟩ := HY.out _ unB _ HJ5.out ⟨r, by rw [HR.out, HL2.out]; simp⟩
                  unfold unB at hy
                  clear hed hed2 HH5
                  gi_wp2_with (refine ⟨trivial, ?_⟩; gi_at_call 82; refine (callsIn_wide.2 HEx.out).mono ?_; rintro e W6 ⟨rfl, rfl⟩)
                  refine hR.mono ?_
                  rintro e W7 ⟨b, rfl, hT, hF⟩
                  clear hR hy
                  cases b with
                  | false =>
                    have HE := Lib.hid (hF rfl)
                    clear hT hF
                    gi_wp2
                    iterate 4 (all_goals (try ((first | refine ⟨fun _ h => (nomatch h), ?_⟩ | refine ⟨trivial, ?_⟩); gi_wp2)))
                    all_goals first
                     | (rename some undef = some (Value.bool _) => hh; cases hh; done)
                     | (go_end0; exact ⟨⟨_, rfl⟩, .inr ⟨_, by simp, ⟨r, by rw [HR.out, HL2.out]; simp⟩, HE.out⟩⟩)
                  | true =>
                    have HJ7 := Lib.hid (HJn.out _ (hT rfl).1)
                    clear hT hF
                    gi_wp2
                    go_roundw
                    case rel => exact ⟨i + 1, by omega, by go_num, HJ7⟩
                    case measure => simp [intOf]; omega
          · obtain rfl : i = M := by omega
            have htk : ls.take i = ls := by rw [← HM.out, List.take_length]
            rw [htk] at HJi
            gi_wp2
            go_roundw
            case rel => exact ⟨j + 1, by omega, by go_num, by rw [HTj.out]; exact HJi⟩
            case measure => simp [intOf]; omega
     · obtain rfl : j = N := by omega
       have hfl : partsF p = hd :: (p.hunks.take j).flatMap hkPt := by rw [HFull.out, HN.out]
       gi_wp2
       go_end0
       exact ⟨⟨_, rfl⟩, .inl (by rw [hfl]; exact HJj.out)⟩
end Uf
end
section
open Go.RowKit
namespace Uf
open Cm Hn
open Sc (RdK)
open Tx (bs)
def lnB (l : Ln) : Bool := (l.kind == 32 || l.kind == 45 || l.kind == 43) && Tx.isLine (bs l.text)
abbrev Sd := Int × Bool
def sAdd (s : Sd) (t : ByteArray) : Option Sd := if s.2 = true ∨ s.1 = 4096 then none else some (s.1 + 1, !Tx.endedF (bs t))
def sOld (s : Sd) (l : Ln) : Option Sd := if l.kind = 43 then some s else sAdd s l.text
def sNew (s : Sd) (l : Ln) : Option Sd := if l.kind = 45 then some s else sAdd s l.text
def lnsSt : Sd → Sd → List Ln → Option (Sd × Sd)
 | o, n, [] => some (o, n)
 | o, n, l :: ls => if lnB l = true then match sOld o l, sNew n l with
  | some o', some n' => lnsSt o' n' ls
  | _, _ => none
  else none
def chgB (ls : List Ln) : Bool := ls.any fun l => l.kind != 32
def skipB (o n : Sd) (h : PH) : Bool := !(decide (h.old < o.1) || decide (4096 < h.old) || decide (h.new < n.1) || decide (4096 < h.new)) && (h.old - o.1 == h.new - n.1)
def hksB : Sd → Sd → List PH → Bool
 | _, _, [] => true
 | o, n, h :: hs => if skipB o n h = true then match lnsSt (h.old, o.2) (h.new, n.2) h.lines with
  | some (o', n') => chgB h.lines && hksB o' n' hs
  | none => false
  else false
abbrev tSd : TypeId := 151
def sdC (s : Sd) : List Value := [.int .i64 s.1, .bool s.2]
set_option maxRecDepth 100000 in
set_option maxHeartbeats 2000000 in
theorem isLine_any (k : Int) (t : ByteArray) (w : World) (ht : t.size ≤ 4194304) : Calls Tryz.prog 143 #[.agg #[.int .u8 k, .string t]] w fun e w' => e = .returned (.bool (lnB ⟨k, t⟩)) ∧ Below w.heap.size w w' := by
 have HB0 := Lib.hid ((Below.refl w.heap.size w).alloc (Nat.le_refl _) (.cells #[.int .u8 k, .string t] tLn))
 have HLine := Lib.hid (Tx.isLine_bare (bs t))
 have HBa := Lib.hid (fun w => Tx.Bare_any t w (by omega))
 have HCo : Hid (∀ w, Calls Tryz.prog 101 #[.string (Tx.bareB t), .string ⟨#[10]⟩] w fun e w' => e = .returned (.bool ((Tx.bareF (bs t)).contains 10)) ∧ w = w') := Lib.hid (fun w => by rw [← Tx.bareB_bs]; exact Tx.Contains_lf _ w)
 generalize Tx.bareB t = y at HBa HCo
 have hk : ∀ kk : Int, (kk = 32 ∨ kk = 45 ∨ kk = 43) → k = kk → Calls Tryz.prog 143 #[.agg #[.int .u8 k, .string t]] w fun e w' => e = .returned (.bool (lnB ⟨k, t⟩)) ∧ Below w.heap.size w w' := by
  intro kk hkk hk
  have HL : Hid (lnB ⟨k, t⟩ = (!(bs t).isEmpty && !(Tx.bareF (bs t)).contains 10)) := Lib.hid (by
   unfold lnB
   simp only
   rw [HLine.out]
   rcases hkk with rfl | rfl | rfl <;> subst hk <;> rfl)
  by_cases h0 : t.size = 0
  · have e0 : t.toList = [] := by
     rw [ByteArray.toList_eq]
     exact List.eq_nil_of_length_eq_zero h0
    have e1 : t.toList.isEmpty = true := by rw [e0]; rfl
    have HF : Hid (lnB ⟨k, t⟩ = false) := Lib.hid (by
     have hx0 : bs t = [] := List.eq_nil_of_length_eq_zero h0
     rw [HL.out, hx0]; rfl)
    clear HL h0
    rcases hkk with rfl | rfl | rfl
    all_goals
     subst hk
     go_enter Tryz.func143, Tryz.ntmps143
     go_wp2_with fail
     go_ret
     exact ⟨by rw [HF.out]; rfl, HB0.out⟩
  · have e0 : ¬ t.toList = [] := by
     rw [ByteArray.toList_eq]
     intro e
     have : t.data.toList.length = 0 := by rw [e]; rfl
     have h2 : t.data.toList.length = t.size := rfl
     omega
    have e1 : t.toList.isEmpty = false := by simpa using e0
    have HB : Hid ((bs t).isEmpty = false) := Lib.hid (by
     rw [List.isEmpty_eq_false_iff]; intro e
     have h2 := Tx.bs_len t
     rw [e, List.length_nil] at h2; omega)
    have HF : Hid (lnB ⟨k, t⟩ = !(Tx.bareF (bs t)).contains 10) := Lib.hid (by rw [HL.out, HB.out]; rfl)
    clear HL h0
    generalize (Tx.bareF (bs t)).contains 10 = co at *
    rcases hkk with rfl | rfl | rfl
    all_goals
     subst hk
     go_enter Tryz.func143, Tryz.ntmps143
     go_wp2_with (first
      | (go_at_call 102; refine (HBa.out _).mono ?_; rintro e w1 ⟨rfl, rfl⟩)
      | (go_at_call 101; refine (HCo.out _).mono ?_; rintro e w1 ⟨rfl, rfl⟩))
     go_ret
     exact ⟨by rw [HF.out]; rfl, HB0.out⟩
 by_cases k1 : k = 32
 · exact hk 32 (.inl rfl) k1
 by_cases k2 : k = 45
 · exact hk 45 (.inr (.inl rfl)) k2
 by_cases k3 : k = 43
 · exact hk 43 (.inr (.inr rfl)) k3
 have d1 : (k == 32) = false := by rw [beq_eq_false_iff_ne]; exact k1
 have d2 : (k == 45) = false := by rw [beq_eq_false_iff_ne]; exact k2
 have d3 : (k == 43) = false := by rw [beq_eq_false_iff_ne]; exact k3
 have HF : Hid (lnB ⟨k, t⟩ = false) := Lib.hid (by unfold lnB; simp only; rw [d1, d2, d3]; rfl)
 clear hk k1 k2 k3
 go_enter Tryz.func143, Tryz.ntmps143
 go_wp2_with fail
 go_ret
 exact ⟨by rw [HF.out]; rfl, HB0.out⟩
structure Off2 (p q : Nat) (W W' : World) : Prop where
 os : W'.os = W.os
 tape : W'.tape = W.tape
 output : W'.output = W.output
 size : W.heap.size ≤ W'.heap.size
 block : ∀ k, k < W.heap.size → k ≠ p → k ≠ q → W'.heap[k]? = W.heap[k]?
theorem Off2.refl (p q : Nat) (W : World) : Off2 p q W W := ⟨rfl, rfl, rfl, Nat.le_refl _, fun _ _ _ _ => rfl⟩
theorem Off2.trans {p q : Nat} {a b c : World} (h : Off2 p q a b) (k : Off2 p q b c) : Off2 p q a c :=
 ⟨k.os.trans h.os, k.tape.trans h.tape, k.output.trans h.output, Nat.le_trans h.size k.size, fun x hx h1 h2 => (k.block x (Nat.lt_of_lt_of_le hx h.size) h1 h2).trans (h.block x hx h1 h2)⟩
theorem Off2.of_below {p q : Nat} {a b : World} (h : Below a.heap.size a b) : Off2 p q a b := ⟨h.os, h.tape, h.output, h.size, fun k hk _ _ => h.block k hk⟩
theorem Off2.swap {p q : Nat} {a b : World} (h : Off2 p q a b) : Off2 q p a b := ⟨h.os, h.tape, h.output, h.size, fun k hk h1 h2 => h.block k hk h2 h1⟩
theorem Off2.set (p q o : Nat) (W : World) (v : Value) : Off2 p q W (W.setCell ⟨p, o, none⟩ v) := ⟨rfl, rfl, rfl, by rw [World.size_setCell]; exact Nat.le_refl _, fun _ _ h1 _ => Below.heap_setCell _ _ _ _ h1⟩
theorem Off2.below {p q base : Nat} {a b : World} (h : Off2 p q a b) (hp : base ≤ p) (hq : base ≤ q) (hs : base ≤ a.heap.size) : Below base a b :=
 ⟨h.os, h.tape, h.output, h.size, fun k hk => h.block k (by omega) (by omega) (by omega)⟩
theorem Off2.blk {p q : Nat} {a b : World} (h : Off2 p q a b) {G : Nat} {t : TypeId} {l : List Value} (hb : Blk a G t l) (h1 : G ≠ p) (h2 : G ≠ q) : Blk b G t l := (h.block G hb.lt h1 h2).trans hb
def SkPost (b : Nat) (s : Sd) (tt : Int) (w : World) (e : Ending) (w' : World) : Prop := ((tt < s.1 ∨ 4096 < tt) → e = .returned (.bool false) ∧ w' = w) ∧ (¬ (tt < s.1 ∨ 4096 < tt) → e = .returned (.bool true) ∧ w' = w.setCell ⟨b, 0, none⟩ (.int .i64 tt))
set_option maxRecDepth 100000 in
theorem skip_any (b : Nat) (s : Sd) (tt : Int) (w : World) (hb : Blk w b tSd (sdC s)) : Calls Tryz.prog 108 #[.pointer (some ⟨b, 0, none⟩), .int .i64 tt] w (SkPost b s tt w) := by
 have c0 := hb.cell (k := 0) (show 0 < 2 by decide)
 have fz := hb.free 0
 have hlt := hb.lt
 simp only [sdC, List.getElem_cons_zero] at c0
 by_cases h1 : tt < s.1
 · go_enter Tryz.func108, Tryz.ntmps108
   go_wp2_with fail
   go_ret
   exact ⟨fun _ => ⟨rfl, rfl⟩, fun h => absurd (.inl h1) h⟩
 · by_cases h2 : 4096 < tt
   · have d1 : decide (tt < s.1) = false := decide_eq_false h1
     go_enter Tryz.func108, Tryz.ntmps108
     go_wp2_with fail
     go_ret
     exact ⟨fun _ => ⟨rfl, rfl⟩, fun h => absurd (.inr h2) h⟩
   · have d1 : decide (tt < s.1) = false := decide_eq_false h1
     have d2 : decide (4096 < tt) = false := decide_eq_false h2
     go_enter Tryz.func108, Tryz.ntmps108
     go_wp2_with fail
     go_ret
     exact ⟨fun h => absurd h (by omega), fun _ => ⟨rfl, rfl⟩⟩
def AdPost (b : Nat) (s : Sd) (t : ByteArray) (w : World) (e : Ending) (w' : World) : Prop := (sAdd s t = none → e = .returned (.bool false) ∧ w' = w) ∧ (∀ s', sAdd s t = some s' → e = .returned (.bool true) ∧ Blk w' b tSd (sdC s') ∧ ∀ q, Off2 b q w w')
set_option maxRecDepth 100000 in
theorem add_any (b : Nat) (s : Sd) (t : ByteArray) (w : World) (hb : Blk w b tSd (sdC s)) (hs : 0 ≤ s.1 ∧ s.1 ≤ 4096) (ht : t.size ≤ 9223372036854775807) : Calls Tryz.prog 144 #[.pointer (some ⟨b, 0, none⟩), .string t] w (AdPost b s t w) := by
 obtain ⟨e, c⟩ := s
 have c0 := hb.cell (k := 0) (show 0 < 2 by decide)
 have c1 := hb.cell (k := 1) (show 1 < 2 by decide)
 have fz := hb.free
 have hlt := hb.lt
 simp only [sdC, List.getElem_cons_zero, List.getElem_cons_succ] at c0 c1
 simp only at hs
 cases c with
 | true =>
   have HN : Hid (sAdd (e, true) t = none) := Lib.hid (by unfold sAdd; rw [if_pos (.inl rfl)])
   go_enter Tryz.func144, Tryz.ntmps144
   go_wp2_with fail
   go_ret
   exact ⟨fun _ => ⟨rfl, rfl⟩, fun s' h => absurd (HN.out.symm.trans h) (by simp)⟩
 | false =>
   by_cases h1 : e = 4096
   · have HN : Hid (sAdd (e, false) t = none) := Lib.hid (by unfold sAdd; rw [if_pos (.inr h1)])
     have d1 : (e == 4096) = true := by rw [beq_iff_eq]; exact h1
     clear h1
     go_enter Tryz.func144, Tryz.ntmps144
     go_wp2_with fail
     go_ret
     exact ⟨fun _ => ⟨rfl, rfl⟩, fun s' h => absurd (HN.out.symm.trans h) (by simp)⟩
   · have HN : Hid (sAdd (e, false) t = some (e + 1, !Tx.endedF (bs t))) := Lib.hid (by unfold sAdd; rw [if_neg (by simpa using h1)])
     have d1 : (e == 4096) = false := by rw [beq_eq_false_iff_ne]; exact h1
     have HE := Lib.hid (fun w => Tx.Ended_any t w ht)
     generalize Tx.endedF (bs t) = ed at *
     have HFin : Hid (Blk ((w.setCell ⟨b, 0, none⟩ (.int .i64 (e + 1))).setCell ⟨b, 1, none⟩ (.bool (!ed))) b tSd (sdC (e + 1, !ed))) := Lib.hid ((hb.set 0 (.int .i64 (e + 1))).set 1 (.bool (!ed)))
     have f1 := (hb.set 0 (.int .i64 (e + 1))).free 1
     have g1 := (hb.set 0 (.int .i64 (e + 1))).cell (k := 1) (show 1 < 2 by decide)
     simp only [sdC, List.set_cons_zero, List.getElem_cons_succ, List.getElem_cons_zero] at g1
     clear h1
     go_enter Tryz.func144, Tryz.ntmps144
     go_wp2_with (go_at_call 82; refine (HE.out _).mono ?_; rintro e w1 ⟨rfl, rfl⟩)
     go_ret
     refine ⟨fun h => absurd (HN.out.symm.trans h) (by simp), fun s' h => ?_⟩
     obtain rfl := Option.some.inj (HN.out.symm.trans h)
     exact ⟨rfl, HFin.out, fun q => (Off2.set b q 0 w _).trans (Off2.set b q 1 _ _)⟩
theorem add_none {b : Nat} {s : Sd} {t : ByteArray} {w : World} (hb : Blk w b tSd (sdC s)) (hs : 0 ≤ s.1 ∧ s.1 ≤ 4096) (ht : t.size ≤ 9223372036854775807) (h : sAdd s t = none) : Calls Tryz.prog 144 #[.pointer (some ⟨b, 0, none⟩), .string t] w fun e w' => e = .returned (.bool false) ∧ w' = w :=
 (add_any b s t w hb hs ht).mono fun _ _ h1 => h1.1 h
theorem add_some {b : Nat} {s s' : Sd} {t : ByteArray} {w : World} (hb : Blk w b tSd (sdC s)) (hs : 0 ≤ s.1 ∧ s.1 ≤ 4096) (ht : t.size ≤ 9223372036854775807) (h : sAdd s t = some s') : Calls Tryz.prog 144 #[.pointer (some ⟨b, 0, none⟩), .string t] w fun e w' => e = .returned (.bool true) ∧ Blk w' b tSd (sdC s') ∧ ∀ q, Off2 b q w w' :=
 (add_any b s t w hb hs ht).mono fun _ _ h1 => h1.2 s' h
def SdB (s : Sd) : Prop := 0 ≤ s.1 ∧ s.1 ≤ 4096
theorem sAdd_bd {s s' : Sd} {t : ByteArray} (hs : SdB s) (h : sAdd s t = some s') : SdB s' := by
 unfold sAdd at h
 split at h
 · cases h
 · rename_i hn
   injection h with h
   subst h
   have : ¬ s.1 = 4096 := fun e => hn (.inr e)
   unfold SdB at *
   simp only
   omega
theorem chgB_snoc (ls : List Ln) (l : Ln) : chgB (ls ++ [l]) = (chgB ls || (l.kind != 32)) := by simp [chgB]
def AlPost (p q : Nat) (o n : Sd) (ls : List Ln) (w : World) (e : Ending) (w' : World) : Prop :=
 (lnsSt o n ls = none → e = .returned (.bool false)) ∧ (∀ o' n', lnsSt o n ls = some (o', n') → e = .returned (.bool (chgB ls)) ∧ Blk w' p tSd (sdC o') ∧ Blk w' q tSd (sdC n') ∧ SdB o' ∧ SdB n') ∧ Off2 p q w w'
set_option maxRecDepth 100000 in
set_option maxHeartbeats 8000000 in
theorem areLines_any (p q : Nat) (o n : Sd) (v : Value) (ls : List Ln) (w : World) (hpq : p ≠ q) (hr : ∀ w', Off2 p q w w' → RdL w' v ls) (hl : ls.length ≤ 1000000) (ht : ∀ l ∈ ls, l.text.size ≤ 4194304)
 (hp : Blk w p tSd (sdC o)) (hq : Blk w q tSd (sdC n)) (ho : SdB o) (hn : SdB n) :
 Calls Tryz.prog 109 #[v, .pointer (some ⟨p, 0, none⟩), .pointer (some ⟨q, 0, none⟩)] w (AlPost p q o n ls w) := by
 have HR := Lib.hid hr
 obtain ⟨A, c, rfl⟩ := (hr w (Off2.refl _ _ _)).form
 have HT := Lib.hid ht
 have HP0 := Lib.hid hp
 have HQ0 := Lib.hid hq
 have HBo := Lib.hid ho
 have HBn := Lib.hid hn
 have HSt : Hid (∀ j (h : j < ls.length) o' n', lnsSt o n ls = lnsSt o' n' (ls.drop j) → (lnB ls[j] = false → lnsSt o n ls = none) ∧ (lnB ls[j] = true → (sOld o' ls[j] = none → lnsSt o n ls = none) ∧ (sNew n' ls[j] = none → lnsSt o n ls = none) ∧ (∀ o2 n2, sOld o' ls[j] = some o2 → sNew n' ls[j] = some n2 → lnsSt o n ls = lnsSt o2 n2 (ls.drop (j + 1))))) := Lib.hid (fun j h o' n' he => by
  rw [List.drop_eq_getElem_cons h, lnsSt] at he
  refine ⟨fun h1 => by rw [he, if_neg (by rw [h1]; decide)], fun h1 => ?_⟩
  rw [if_pos h1] at he
  refine ⟨fun h2 => by rw [he, h2], fun h2 => by rw [he, h2]; cases sOld o' ls[j] <;> rfl, fun o2 n2 h2 h3 => by rw [he, h2, h3]⟩)
 have HCh := Lib.hid (fun j (h : j < ls.length) => (show chgB (ls.take (j + 1)) = (chgB (ls.take j) || (ls[j].kind != 32)) by rw [List.take_succ_eq_append_getElem h, chgB_snoc]))
 have HNone : Hid (∀ w', lnsSt o n ls = none → Off2 p q w w' → AlPost p q o n ls w (.returned (.bool false)) w') := Lib.hid (fun w' h1 h2 => ⟨fun _ => rfl, fun o' n' h => absurd (h1.symm.trans h) (by simp), h2⟩)
 have HSome : Hid (∀ w' o' n', lnsSt o n ls = some (o', n') → Blk w' p tSd (sdC o') → Blk w' q tSd (sdC n') → SdB o' → SdB n' → Off2 p q w w' → AlPost p q o n ls w (.returned (.bool (chgB ls))) w') := Lib.hid (fun w' o' n' h1 h2 h3 h4 h5 h6 => ⟨fun h => absurd (h1.symm.trans h) (by simp), fun a b h => by
  rw [h1] at h
  injection h with h
  injection h with e1 e2
  subst e1 e2
  exact ⟨rfl, h2, h3, h4, h5⟩, h6⟩)
 clear hr ht hp hq ho hn
 obtain ⟨N, hN⟩ : ∃ N, N = ls.length := ⟨_, rfl⟩
 have HN := Lib.hid hN.symm
 rw [← hN] at hl HR ⊢
 clear hN
 have HNE := Lib.hid hpq
 go_enter Tryz.func109, Tryz.ntmps109
 go_wp2_with fail
 go_loopw [7, 12] (fun cv i wr => ∃ (j : Nat) (o' n' : Sd), j ≤ N ∧ i = .int .i64 j ∧ cv = .bool (chgB (ls.take j)) ∧ Hid (Blk wr p tSd (sdC o')) ∧ Hid (Blk wr q tSd (sdC n')) ∧ Hid (SdB o') ∧ Hid (SdB n') ∧ Hid (lnsSt o n ls = lnsSt o' n' (ls.drop j)) ∧ Hid (Off2 p q w wr)) (fun _ i _ => N - (intOf i).toNat)
 case atStart => exact ⟨0, o, n, Nat.zero_le _, rfl, rfl, HP0, HQ0, HBo, HBn, Lib.hid rfl, Lib.hid (Off2.refl _ _ _)⟩
 case round =>
  obtain ⟨j, o', n', hj, rfl, rfl, HP, HQ, HBo', HBn', HE, HO⟩ := hrel
  by_cases hlt : j < N
  · have hx : j < ls.length := by rw [HN.out]; exact hlt
    obtain ⟨bl, off, rfl, c0, c1⟩ := RdL_at (HR.out wr HO.out) j hx
    obtain ⟨hs1, hs2⟩ := HSt.out j hx o' n' HE.out
    have HC := Lib.hid (HCh.out j hx)
    have htx := HT.out _ (List.getElem_mem hx)
    have HS1 := Lib.hid hs1
    have HS2 := Lib.hid hs2
    clear hs1 hs2 HE
    generalize ls[j] = ln at *
    obtain ⟨k, tx⟩ := ln
    simp only at c0 c1 htx HC
    have i1 : (0 : Int) ≤ (j : Int) := by omega
    have i2 : (j : Int) < (N : Int) := by omega
    have HAl := Lib.hid ((Below.refl wr.heap.size wr).alloc (Nat.le_refl _) (.cells #[.int .u8 k, .string tx] tLn))
    have HIL := Lib.hid (fun w => isLine_any k tx w htx)
    have HLb : Hid (Blk (wr.alloc (.cells #[.int .u8 k, .string tx] tLn)) wr.heap.size tLn [.int .u8 k, .string tx]) := Lib.hid (heap_new wr _)
    have hne1 : wr.heap.size ≠ p := Nat.ne_of_gt HP.out.lt
    have hne2 : wr.heap.size ≠ q := Nat.ne_of_gt HQ.out.lt
    have HW1 : Hid (∀ w1, Below wr.heap.size wr w1 → Blk w1 wr.heap.size tLn [.int .u8 k, .string tx] → Hid (Blk w1 p tSd (sdC o')) ∧ Hid (Blk w1 q tSd (sdC n')) ∧ Hid (Off2 p q w w1) ∧ w1.cell? ⟨wr.heap.size, 0, none⟩ = some (.int .u8 k) ∧ w1.cell? ⟨wr.heap.size, 1, none⟩ = some (.string tx)) := Lib.hid (fun w1 hb hl => ⟨Lib.hid (HP.out.below hb), Lib.hid (HQ.out.below hb), Lib.hid (HO.out.trans (Off2.of_below hb)), hl.cell (k := 0) (show 0 < 2 by decide), hl.cell (k := 1) (show 1 < 2 by decide)⟩)
    have HW2 : Hid (∀ w1 w2, Off2 p q w1 w2 → Blk w1 wr.heap.size tLn [.int .u8 k, .string tx] → Blk w2 wr.heap.size tLn [.int .u8 k, .string tx]) := Lib.hid (fun w1 w2 h hl => h.blk hl hne1 hne2)
    cases hlb : lnB ⟨k, tx⟩ with
    | false =>
      rw [hlb] at HIL
      have HNn := Lib.hid (HS1.out hlb)
      clear hlb HS1 HS2
      go_wp2_with (go_at_call 143; refine (HIL.out _).mono ?_; rintro e w1 ⟨rfl, hb1⟩; have HB1 := Lib.hid (HAl.out.trans (hb1.mono HAl.out.size)); clear hb1)
      go_ret
      exact HNone.out _ HNn.out (HO.out.trans (Off2.of_below HB1.out))
    | true =>
      rw [hlb] at HIL
      obtain ⟨hn1, hn2, hn3⟩ := HS2.out hlb
      have hk : k = 32 ∨ k = 45 ∨ k = 43 := by
       unfold lnB at hlb
       simp only [Bool.and_eq_true, Bool.or_eq_true, beq_iff_eq] at hlb
       rcases hlb.1 with (h | h) | h
       · exact .inl h
       · exact .inr (.inl h)
       · exact .inr (.inr h)
      clear hlb HS1 HS2
      have hb1o := HBo'.out
      have hb1n := HBn'.out
      rcases hk with rfl | rfl | rfl
      · skip
        have hso : ∀ r, sAdd o' tx = r → sOld o' ⟨32, tx⟩ = r := fun r h => by unfold sOld; rw [if_neg (by simp)]; exact h
        have hsn : ∀ r, sAdd n' tx = r → sNew n' ⟨32, tx⟩ = r := fun r h => by unfold sNew; rw [if_neg (by simp)]; exact h
        cases hp : sAdd o' tx with
        | none =>
          have HNn := Lib.hid (hn1 (hso _ hp))
          clear hn1 hn2 hn3 hso hsn
          go_wp2_with fail
          refine (HIL.out _).mono ?_
          rintro e w1 ⟨rfl, hb1⟩
          have HB1 := Lib.hid (HAl.out.trans (hb1.mono HAl.out.size))
          have HL1 := Lib.hid (HLb.out.below hb1)
          obtain ⟨HP1, HQ1, HO1, l0, l1⟩ := HW1.out _ HB1.out HL1.out
          clear hb1
          go_wp2_with fail
          refine (add_none HP1.out HBo'.out (by omega) hp).mono ?_
          rintro e wx ⟨rfl, rfl⟩
          go_wp2_with fail
          go_ret
          exact HNone.out _ HNn.out HO1.out
        | some o2 =>
          have HBo2 := Lib.hid (sAdd_bd HBo'.out hp)
          cases hq : sAdd n' tx with
          | none =>
            have HNn := Lib.hid (hn2 (hsn _ hq))
            clear hn1 hn2 hn3 hso hsn
            go_wp2_with fail
            refine (HIL.out _).mono ?_
            rintro e w1 ⟨rfl, hb1⟩
            have HB1 := Lib.hid (HAl.out.trans (hb1.mono HAl.out.size))
            have HL1 := Lib.hid (HLb.out.below hb1)
            obtain ⟨HP1, HQ1, HO1, l0, l1⟩ := HW1.out _ HB1.out HL1.out
            clear hb1
            go_wp2_with fail
            refine (add_some HP1.out HBo'.out (by omega) hp).mono ?_
            rintro e w2 ⟨rfl, hbk, hof⟩
            have HP2 := Lib.hid hbk
            have HF2 := Lib.hid (hof q)
            have HQ2 := Lib.hid ((hof p).blk HQ1.out (Ne.symm HNE.out) (Ne.symm HNE.out))
            have HO2 := Lib.hid (HO1.out.trans HF2.out)
            have HL2 := Lib.hid (HW2.out _ _ HF2.out HL1.out)
            have l20 := HL2.out.cell (k := 0) (show 0 < 2 by decide)
            have l21 := HL2.out.cell (k := 1) (show 1 < 2 by decide)
            simp only [List.getElem_cons_zero, List.getElem_cons_succ] at l20 l21
            clear hbk hof
            go_wp2_with fail
            refine (add_none HQ2.out HBn'.out (by omega) hq).mono ?_
            rintro e wx ⟨rfl, rfl⟩
            go_wp2_with fail
            go_ret
            exact HNone.out _ HNn.out HO2.out
          | some n2 =>
            have HBn2 := Lib.hid (sAdd_bd HBn'.out hq)
            have HNx := Lib.hid (hn3 _ _ (hso _ hp) (hsn _ hq))
            clear hn1 hn2 hn3 hso hsn
            cases hch : chgB (ls.take j) with
            | true =>
              rw [hch] at HC
              have HC2 : Hid (chgB (ls.take (j + 1)) = true) := HC
              clear HC hch
              go_wp2_with fail
              refine (HIL.out _).mono ?_
              rintro e w1 ⟨rfl, hb1⟩
              have HB1 := Lib.hid (HAl.out.trans (hb1.mono HAl.out.size))
              have HL1 := Lib.hid (HLb.out.below hb1)
              obtain ⟨HP1, HQ1, HO1, l0, l1⟩ := HW1.out _ HB1.out HL1.out
              clear hb1
              go_wp2_with fail
              refine (add_some HP1.out HBo'.out (by omega) hp).mono ?_
              rintro e w2 ⟨rfl, hbk, hof⟩
              have HP2 := Lib.hid hbk
              have HF2 := Lib.hid (hof q)
              have HQ2 := Lib.hid ((hof p).blk HQ1.out (Ne.symm HNE.out) (Ne.symm HNE.out))
              have HO2 := Lib.hid (HO1.out.trans HF2.out)
              have HL2 := Lib.hid (HW2.out _ _ HF2.out HL1.out)
              have l20 := HL2.out.cell (k := 0) (show 0 < 2 by decide)
              have l21 := HL2.out.cell (k := 1) (show 1 < 2 by decide)
              simp only [List.getElem_cons_zero, List.getElem_cons_succ] at l20 l21
              clear hbk hof
              go_wp2_with fail
              refine (add_some HQ2.out HBn'.out (by omega) hq).mono ?_
              rintro e w3 ⟨rfl, hbk, hof⟩
              have HQ3 := Lib.hid hbk
              have HF3 := Lib.hid ((hof p).swap)
              have HP3 := Lib.hid ((hof q).blk HP2.out HNE.out HNE.out)
              have HO3 := Lib.hid (HO2.out.trans HF3.out)
              have HL3 := Lib.hid (HW2.out _ _ HF3.out HL2.out)
              have l30 := HL3.out.cell (k := 0) (show 0 < 2 by decide)
              have l31 := HL3.out.cell (k := 1) (show 1 < 2 by decide)
              simp only [List.getElem_cons_zero, List.getElem_cons_succ] at l30 l31
              clear hbk hof
              go_wp2_with fail
              go_roundw
              case rel => exact ⟨j + 1, o2, n2, by omega, by go_num, by rw [HC2.out], HP3, HQ3, HBo2, HBn2, HNx, HO3⟩
              case measure => simp [intOf]; omega
            | false =>
              rw [hch] at HC
              have HC2 : Hid (chgB (ls.take (j + 1)) = false) := HC
              clear HC hch
              go_wp2_with fail
              refine (HIL.out _).mono ?_
              rintro e w1 ⟨rfl, hb1⟩
              have HB1 := Lib.hid (HAl.out.trans (hb1.mono HAl.out.size))
              have HL1 := Lib.hid (HLb.out.below hb1)
              obtain ⟨HP1, HQ1, HO1, l0, l1⟩ := HW1.out _ HB1.out HL1.out
              clear hb1
              go_wp2_with fail
              refine (add_some HP1.out HBo'.out (by omega) hp).mono ?_
              rintro e w2 ⟨rfl, hbk, hof⟩
              have HP2 := Lib.hid hbk
              have HF2 := Lib.hid (hof q)
              have HQ2 := Lib.hid ((hof p).blk HQ1.out (Ne.symm HNE.out) (Ne.symm HNE.out))
              have HO2 := Lib.hid (HO1.out.trans HF2.out)
              have HL2 := Lib.hid (HW2.out _ _ HF2.out HL1.out)
              have l20 := HL2.out.cell (k := 0) (show 0 < 2 by decide)
              have l21 := HL2.out.cell (k := 1) (show 1 < 2 by decide)
              simp only [List.getElem_cons_zero, List.getElem_cons_succ] at l20 l21
              clear hbk hof
              go_wp2_with fail
              refine (add_some HQ2.out HBn'.out (by omega) hq).mono ?_
              rintro e w3 ⟨rfl, hbk, hof⟩
              have HQ3 := Lib.hid hbk
              have HF3 := Lib.hid ((hof p).swap)
              have HP3 := Lib.hid ((hof q).blk HP2.out HNE.out HNE.out)
              have HO3 := Lib.hid (HO2.out.trans HF3.out)
              have HL3 := Lib.hid (HW2.out _ _ HF3.out HL2.out)
              have l30 := HL3.out.cell (k := 0) (show 0 < 2 by decide)
              have l31 := HL3.out.cell (k := 1) (show 1 < 2 by decide)
              simp only [List.getElem_cons_zero, List.getElem_cons_succ] at l30 l31
              clear hbk hof
              go_wp2_with fail
              go_roundw
              case rel => exact ⟨j + 1, o2, n2, by omega, by go_num, by rw [HC2.out], HP3, HQ3, HBo2, HBn2, HNx, HO3⟩
              case measure => simp [intOf]; omega
      · skip
        have hso : ∀ r, sAdd o' tx = r → sOld o' ⟨45, tx⟩ = r := fun r h => by unfold sOld; rw [if_neg (by simp)]; exact h
        have hsn : sNew n' ⟨45, tx⟩ = some n' := by unfold sNew; rw [if_pos rfl]
        cases hp : sAdd o' tx with
        | none =>
          have HNn := Lib.hid (hn1 (hso _ hp))
          clear hn1 hn2 hn3 hso hsn
          go_wp2_with fail
          refine (HIL.out _).mono ?_
          rintro e w1 ⟨rfl, hb1⟩
          have HB1 := Lib.hid (HAl.out.trans (hb1.mono HAl.out.size))
          have HL1 := Lib.hid (HLb.out.below hb1)
          obtain ⟨HP1, HQ1, HO1, l0, l1⟩ := HW1.out _ HB1.out HL1.out
          clear hb1
          go_wp2_with fail
          refine (add_none HP1.out HBo'.out (by omega) hp).mono ?_
          rintro e wx ⟨rfl, rfl⟩
          go_wp2_with fail
          go_ret
          exact HNone.out _ HNn.out HO1.out
        | some o2 =>
          have HBo2 := Lib.hid (sAdd_bd HBo'.out hp)
          have HNx := Lib.hid (hn3 _ _ (hso _ hp) hsn)
          clear hn1 hn2 hn3 hso hsn
          cases hch : chgB (ls.take j) with
          | true =>
            rw [hch] at HC
            have HC2 : Hid (chgB (ls.take (j + 1)) = true) := HC
            clear HC hch
            go_wp2_with fail
            refine (HIL.out _).mono ?_
            rintro e w1 ⟨rfl, hb1⟩
            have HB1 := Lib.hid (HAl.out.trans (hb1.mono HAl.out.size))
            have HL1 := Lib.hid (HLb.out.below hb1)
            obtain ⟨HP1, HQ1, HO1, l0, l1⟩ := HW1.out _ HB1.out HL1.out
            clear hb1
            go_wp2_with fail
            refine (add_some HP1.out HBo'.out (by omega) hp).mono ?_
            rintro e w2 ⟨rfl, hbk, hof⟩
            have HP2 := Lib.hid hbk
            have HF2 := Lib.hid (hof q)
            have HQ2 := Lib.hid ((hof p).blk HQ1.out (Ne.symm HNE.out) (Ne.symm HNE.out))
            have HO2 := Lib.hid (HO1.out.trans HF2.out)
            have HL2 := Lib.hid (HW2.out _ _ HF2.out HL1.out)
            have l20 := HL2.out.cell (k := 0) (show 0 < 2 by decide)
            have l21 := HL2.out.cell (k := 1) (show 1 < 2 by decide)
            simp only [List.getElem_cons_zero, List.getElem_cons_succ] at l20 l21
            clear hbk hof
            go_wp2_with fail
            go_roundw
            case rel => exact ⟨j + 1, o2, n', by omega, by go_num, by rw [HC2.out], HP2, HQ2, HBo2, HBn', HNx, HO2⟩
            case measure => simp [intOf]; omega
          | false =>
            rw [hch] at HC
            have HC2 : Hid (chgB (ls.take (j + 1)) = true) := HC
            clear HC hch
            go_wp2_with fail
            refine (HIL.out _).mono ?_
            rintro e w1 ⟨rfl, hb1⟩
            have HB1 := Lib.hid (HAl.out.trans (hb1.mono HAl.out.size))
            have HL1 := Lib.hid (HLb.out.below hb1)
            obtain ⟨HP1, HQ1, HO1, l0, l1⟩ := HW1.out _ HB1.out HL1.out
            clear hb1
            go_wp2_with fail
            refine (add_some HP1.out HBo'.out (by omega) hp).mono ?_
            rintro e w2 ⟨rfl, hbk, hof⟩
            have HP2 := Lib.hid hbk
            have HF2 := Lib.hid (hof q)
            have HQ2 := Lib.hid ((hof p).blk HQ1.out (Ne.symm HNE.out) (Ne.symm HNE.out))
            have HO2 := Lib.hid (HO1.out.trans HF2.out)
            have HL2 := Lib.hid (HW2.out _ _ HF2.out HL1.out)
            have l20 := HL2.out.cell (k := 0) (show 0 < 2 by decide)
            have l21 := HL2.out.cell (k := 1) (show 1 < 2 by decide)
            simp only [List.getElem_cons_zero, List.getElem_cons_succ] at l20 l21
            clear hbk hof
            go_wp2_with fail
            go_roundw
            case rel => exact ⟨j + 1, o2, n', by omega, by go_num, by rw [HC2.out], HP2, HQ2, HBo2, HBn', HNx, HO2⟩
            case measure => simp [intOf]; omega
      · skip
        have hso : sOld o' ⟨43, tx⟩ = some o' := by unfold sOld; rw [if_pos rfl]
        have hsn : ∀ r, sAdd n' tx = r → sNew n' ⟨43, tx⟩ = r := fun r h => by unfold sNew; rw [if_neg (by simp)]; exact h
        cases hq : sAdd n' tx with
        | none =>
          have HNn := Lib.hid (hn2 (hsn _ hq))
          clear hn1 hn2 hn3 hso hsn
          go_wp2_with fail
          refine (HIL.out _).mono ?_
          rintro e w1 ⟨rfl, hb1⟩
          have HB1 := Lib.hid (HAl.out.trans (hb1.mono HAl.out.size))
          have HL1 := Lib.hid (HLb.out.below hb1)
          obtain ⟨HP1, HQ1, HO1, l0, l1⟩ := HW1.out _ HB1.out HL1.out
          clear hb1
          go_wp2_with fail
          refine (add_none HQ1.out HBn'.out (by omega) hq).mono ?_
          rintro e wx ⟨rfl, rfl⟩
          go_wp2_with fail
          go_ret
          exact HNone.out _ HNn.out HO1.out
        | some n2 =>
          have HBn2 := Lib.hid (sAdd_bd HBn'.out hq)
          have HNx := Lib.hid (hn3 _ _ hso (hsn _ hq))
          clear hn1 hn2 hn3 hso hsn
          cases hch : chgB (ls.take j) with
          | true =>
            rw [hch] at HC
            have HC2 : Hid (chgB (ls.take (j + 1)) = true) := HC
            clear HC hch
            go_wp2_with fail
            refine (HIL.out _).mono ?_
            rintro e w1 ⟨rfl, hb1⟩
            have HB1 := Lib.hid (HAl.out.trans (hb1.mono HAl.out.size))
            have HL1 := Lib.hid (HLb.out.below hb1)
            obtain ⟨HP1, HQ1, HO1, l0, l1⟩ := HW1.out _ HB1.out HL1.out
            clear hb1
            go_wp2_with fail
            refine (add_some HQ1.out HBn'.out (by omega) hq).mono ?_
            rintro e w2 ⟨rfl, hbk, hof⟩
            have HQ2 := Lib.hid hbk
            have HF2 := Lib.hid ((hof p).swap)
            have HP2 := Lib.hid ((hof q).blk HP1.out HNE.out HNE.out)
            have HO2 := Lib.hid (HO1.out.trans HF2.out)
            have HL2 := Lib.hid (HW2.out _ _ HF2.out HL1.out)
            have l20 := HL2.out.cell (k := 0) (show 0 < 2 by decide)
            have l21 := HL2.out.cell (k := 1) (show 1 < 2 by decide)
            simp only [List.getElem_cons_zero, List.getElem_cons_succ] at l20 l21
            clear hbk hof
            go_wp2_with fail
            go_roundw
            case rel => exact ⟨j + 1, o', n2, by omega, by go_num, by rw [HC2.out], HP2, HQ2, HBo', HBn2, HNx, HO2⟩
            case measure => simp [intOf]; omega
          | false =>
            rw [hch] at HC
            have HC2 : Hid (chgB (ls.take (j + 1)) = true) := HC
            clear HC hch
            go_wp2_with fail
            refine (HIL.out _).mono ?_
            rintro e w1 ⟨rfl, hb1⟩
            have HB1 := Lib.hid (HAl.out.trans (hb1.mono HAl.out.size))
            have HL1 := Lib.hid (HLb.out.below hb1)
            obtain ⟨HP1, HQ1, HO1, l0, l1⟩ := HW1.out _ HB1.out HL1.out
            clear hb1
            go_wp2_with fail
            refine (add_some HQ1.out HBn'.out (by omega) hq).mono ?_
            rintro e w2 ⟨rfl, hbk, hof⟩
            have HQ2 := Lib.hid hbk
            have HF2 := Lib.hid ((hof p).swap)
            have HP2 := Lib.hid ((hof q).blk HP1.out HNE.out HNE.out)
            have HO2 := Lib.hid (HO1.out.trans HF2.out)
            have HL2 := Lib.hid (HW2.out _ _ HF2.out HL1.out)
            have l20 := HL2.out.cell (k := 0) (show 0 < 2 by decide)
            have l21 := HL2.out.cell (k := 1) (show 1 < 2 by decide)
            simp only [List.getElem_cons_zero, List.getElem_cons_succ] at l20 l21
            clear hbk hof
            go_wp2_with fail
            go_roundw
            case rel => exact ⟨j + 1, o', n2, by omega, by go_num, by rw [HC2.out], HP2, HQ2, HBo', HBn2, HNx, HO2⟩
            case measure => simp [intOf]; omega
  · obtain rfl : j = N := by omega
    have htk : ls.take j = ls := by rw [← HN.out, List.take_length]
    have hdr : ls.drop j = [] := List.drop_eq_nil_of_le (by rw [HN.out]; exact Nat.le_refl _)
    have HFin : Hid (lnsSt o n ls = some (o', n')) := Lib.hid (by rw [HE.out, hdr]; rfl)
    rw [htk]
    clear htk hdr
    go_wp2_with fail
    go_ret
    exact HSome.out _ _ _ HFin.out HP.out HQ.out HBo'.out HBn'.out HO.out
/- areLines ends -/
end Uf
end
section
open Go.RowKit
namespace Uf
open Cm Hn
open Sc (RdK ownK_base)
open Tx (bs strsV StrsPost)
set_option maxRecDepth 100000 in
set_option maxHeartbeats 2000000 in
theorem LineR_any (s : ByteArray) (w : World) (hs : s.size ≤ 4194304) : Calls Tryz.prog 104 #[.string s] w fun e w' => e = .returned (.bool (Tx.isLine (bs s))) ∧ w' = w := by
 go_enter Tryz.func104, Tryz.ntmps104
 go_wp2_with fail
 go_loopw [3] (fun i wr => ∃ k : Nat, i = .int .i64 k ∧ k ≤ s.size ∧ Hid (∀ j, j < k → (bs s)[j]? ≠ some 10) ∧ wr = w) (fun i _ => s.size - (intOf i).toNat)
 case atStart => exact ⟨0, rfl, Nat.zero_le _, Lib.hid (fun j h => absurd h (by omega)), rfl⟩
 case round =>
  obtain ⟨k, rfl, hk, HN, rfl⟩ := hrel
  by_cases hlt : k + 1 < s.size
  · have hkk : k < s.size := by omega
    have hg := Tx.bs_get? s k hkk
    by_cases hb : s[k] = 10
    · have e3 : ((s[k].toNat : Int) == 10) = true := by rw [hb]; rfl
      have HF := Lib.hid (Tx.isLine_lf s k hlt hb)
      clear hg hb
      go_wp2_with fail
      go_ret
      exact ⟨by rw [HF.out]; rfl, rfl⟩
    · have e3 : ((s[k].toNat : Int) == 10) = false := Tx.bne_of _ 10 hb (by omega)
      have HN2 : Hid (∀ j, j < k + 1 → (bs s)[j]? ≠ some 10) := Lib.hid (fun j h1 => by
       by_cases hj : j < k
       · exact HN.out j hj
       · have : j = k := by omega
         subst this
         rw [hg]; intro e; exact hb (Option.some.inj e))
      clear hg hb
      go_wp2_with fail
      go_roundw
      case rel => exact ⟨k + 1, by go_num, by omega, HN2, trivial⟩
      case measure => simp [intOf]; omega
  · have HF := Lib.hid (Tx.isLine_no s (fun j h => HN.out j (by omega)))
    by_cases h0 : s.size = 0
    · have e0 := Tx.empty_of s h0
      have HF2 : Hid (Tx.isLine (bs s) = false) := Lib.hid (by
       rw [HF.out, List.eq_nil_of_length_eq_zero (show (bs s).length = 0 from h0)]; rfl)
      go_wp2_with fail
      go_ret
      exact ⟨by rw [HF2.out]; rfl, rfl⟩
    · have e0 := Tx.nonempty_of s (by omega)
      have e1 : s.toList.isEmpty = false := by simpa using e0
      have HF2 : Hid (Tx.isLine (bs s) = true) := Lib.hid (by
       rw [HF.out]
       have : (bs s).isEmpty = false := by
        rw [List.isEmpty_eq_false_iff]; intro e
        have h2 := Tx.bs_len s
        rw [e, List.length_nil] at h2; omega
       rw [this]; rfl)
      go_wp2_with fail
      go_ret
      exact ⟨by rw [HF2.out]; rfl, rfl⟩
def notB (k : Int) (ls : List Ln) : List (List UInt8) := (notK k ls).map bs
theorem notB_snoc (k : Int) (ls : List Ln) (l : Ln) : notB k (ls ++ [l]) = notB k ls ++ (if l.kind = k then [] else [bs l.text]) := by
 unfold notB notK
 rw [List.filter_append, List.map_append, List.map_append]
 by_cases h : l.kind = k
 · rw [if_pos h, List.filter_cons_of_neg (by simpa using h)]; rfl
 · rw [if_neg h, List.filter_cons_of_pos (by simpa using h)]; rfl
theorem notB_len (k : Int) (ls : List Ln) : (notB k ls).length ≤ ls.length := by
 unfold notB notK
 rw [List.length_map, List.length_map]
 exact List.length_filter_le _ _
set_option maxRecDepth 100000 in
set_option maxHeartbeats 2000000 in
theorem LinesP_any (o n : Int) (v : Value) (ls : List Ln) (k : Int) (w : World) (hr : RdL w v ls) (hl : ls.length ≤ 1000000) : Calls Tryz.prog 37 #[.agg #[.int .i64 o, .int .i64 n, v], .int .u8 k] w (StrsPost w (notB k ls)) := by
 have HR := Lib.hid (fun w' (hb : Below w.heap.size w w') => hr.below hb)
 obtain ⟨A, c, rfl⟩ := hr.form
 have HSn := Lib.hid (fun j (h : j < ls.length) => (show notB k (ls.take (j + 1)) = notB k (ls.take j) ++ (if ls[j].kind = k then [] else [bs ls[j].text]) by rw [List.take_succ_eq_append_getElem h, notB_snoc]))
 have HLe := Lib.hid (fun j => Nat.le_trans (notB_len k (ls.take j)) (List.length_take_le j ls))
 clear hr
 obtain ⟨N, hN⟩ : ∃ N, N = ls.length := ⟨_, rfl⟩
 have HN := Lib.hid hN.symm
 rw [← hN] at hl HR ⊢
 clear hN
 have HB0 := Lib.hid ((Below.refl w.heap.size w).alloc (Nat.le_refl _) (.cells #[.int .i64 o, .int .i64 n, .slice A N c] tPh))
 have HK0 : Hid (Blk (w.alloc (.cells #[.int .i64 o, .int .i64 n, .slice A N c] tPh)) w.heap.size tPh [.int .i64 o, .int .i64 n, .slice A N c]) := Lib.hid (heap_new w _)
 go_enter Tryz.func37, Tryz.ntmps37
 go_wp2_with fail
 obtain ⟨W, hW⟩ : ∃ W, W = w.alloc (.cells #[.int .i64 o, .int .i64 n, .slice A N c] tPh) := ⟨_, rfl⟩
 have hWz : W.heap.size = w.heap.size + 1 := by rw [hW]; simp
 rw [← hW] at HB0 HK0 ⊢
 clear hW
 go_loopw [5, 6] (fun u i wr => ∃ j : Nat, j ≤ N ∧ i = .int .i64 j ∧ Hid (wr.ownsRow W.heap.size 9 1 u (notB k (ls.take j)).length (strsV (notB k (ls.take j)))) ∧ Below W.heap.size W wr) (fun _ i _ => N - (intOf i).toNat)
 case atStart => exact ⟨0, Nat.zero_le _, rfl, Lib.hid (World.ownsRow_nil _ _ _ _), Below.refl _ _⟩
 case round =>
  obtain ⟨j, hj, rfl, HO, hnx⟩ := hrel
  have hsz := hnx.size
  have HB := Lib.hid (HB0.out.trans (hnx.mono HB0.out.size))
  obtain ⟨k0, k1, k2, -, -⟩ := blk3 (HK0.out.below hnx)
  have hle := HLe.out j
  by_cases hlt : j < N
  · have hx : j < ls.length := by rw [HN.out]; exact hlt
    obtain ⟨bl, off, rfl, c0, c1⟩ := RdL_at (HR.out wr HB.out) j hx
    have hS := HSn.out j hx
    generalize ls[j].kind = kk at *
    generalize ls[j].text = t at *
    generalize notB k (ls.take j) = acc at *
    have i1 : (0 : Int) ≤ (j : Int) := by omega
    have i2 : (j : Int) < (N : Int) := by omega
    by_cases hk : kk = k
    · rw [if_pos hk, List.append_nil] at hS
      have HS := Lib.hid hS
      have d1 : (kk != k) = false := by rw [hk]; simp
      clear hS hk
      go_wp2_with fail
      go_roundw
      case rel => exact ⟨j + 1, by omega, by go_num, by rw [HS.out]; exact HO, hnx⟩
      case measure => simp [intOf]; omega
    · rw [if_neg hk] at hS
      have HS := Lib.hid hS
      have d1 : (kk != k) = true := by rw [bne_iff_ne]; exact hk
      have HC : Hid ((#[Value.string t] : Array Value).toList = [Tx.strV (bs t)]) := Lib.hid (by unfold Tx.strV; rw [Tx.mk_bs])
      clear hS hk
      go_wp2_with (at_builtin; refine Tx.app_newS rfl (.tmp 22) (.tmp 29) rfl W.heap.size acc (bs t) _ rfl HO.out rfl HC.out (by omega) hsz ?_; intro v3 w3 ho3 hb3; have HO3 := Lib.hid ho3; clear ho3)
      go_roundw
      case rel => exact ⟨j + 1, by omega, by go_num, by rw [HS.out]; exact HO3, hnx.trans hb3⟩
      case measure => simp [intOf]; omega
  · obtain rfl : j = N := by omega
    have htk : ls.take j = ls := by rw [← HN.out, List.take_length]
    rw [htk] at HO
    have HF := Lib.hid (show ∀ u, wr.ownsRow W.heap.size 9 1 u (notB k ls).length (strsV (notB k ls)) → StrsPost w (notB k ls) (.returned u) wr from fun u h => ⟨u, rfl, ownK_base h (by omega), HB.out⟩)
    clear htk
    go_wp2_with fail
    go_ret
    exact HF.out _ HO.out
end Uf
end
section
open Go.RowKit
attribute [local go_sem] Oper.semAt_some
namespace Uf
open Cm Hn
open Sc (fmtR Pow RdK)
open Tx (bs)
abbrev partsV (B : Nat) : Value := .func (.func 79) #[] #[.pointer (some ⟨B, 0, none⟩)]
theorem parts_any (on nn : ByteArray) (v : Value) (w : World) : Calls Tryz.prog 49 #[.agg #[.string on, .string nn, v]] w fun e w' => e = .returned (partsV w.heap.size) ∧ w' = w.alloc (.cells #[.string on, .string nn, v] tPat) := by
 go_enter Tryz.func49, Tryz.ntmps49
 go_wp2_with fail
 go_ret
 exact ⟨rfl, rfl⟩
theorem kt_put {W : World} {l : Nat} {o' : Obj} {s : Loop} (h : W.heap[l]? = some (.loop s)) : KT W (W.putObj l o') := fun G t ls _ hb => by
 have hne : G ≠ l := by
  rintro rfl
  unfold Blk at hb
  rw [h] at hb
  cases hb
 exact (World.putObj_heap_other hne).trans hb
def RdPost (B0 : Nat) (I : List ByteArray → World → Prop) (Ix : Code → List ByteArray → World → Prop) (xs : List ByteArray) (W : World) : Exit → Act → World → Prop
 | .normal, _, W' => KeepsFrom B0 W W' ∧ KT W W' ∧ I xs W'
 | .ret, _, W' => KeepsFrom B0 W W' ∧ Ix .ret xs W'
 | .exit id, _, W' => KeepsFrom B0 W W' ∧ Ix (.exit id) xs W'
 | .goto t, _, W' => KeepsFrom B0 W W' ∧ Ix (.goto t) xs W'
 | .panic _, _, _ => False
 | .outgrown, _, _ => False
set_option maxHeartbeats 1000000 in
theorem range_parts {g : Operand} {ps : Array Tmp} {assign body : Code} {Q : Exit → Act → World → Prop} {a : Act} {w : World} (f : Nat) (hf : 2 ≤ f)
 (B : Nat) (p : Pat) (vp : Value) (zs : List HV) (hp : PatOk p) (hg : a.eval g = partsV B) (hps : ps.size = 1)
 (I : List ByteArray → World → Prop) (Ix : Code → List ByteArray → World → Prop) (Dn : List ByteArray → World → Prop)
 (hIc : ∀ pre W, I pre W → Pb W B p vp zs ∧ Pow W)
 (hI : OwnFrom w.heap.size I) (hIx : ∀ c, OwnFrom w.heap.size (Ix c)) (hDn : OwnFrom w.heap.size Dn)
 (h0 : I [] w) (hID : ∀ xs W, I xs W → Dn xs W)
 (a₁ : ByteArray → Act)
 (hassign : ∀ (l : Nat) (x : ByteArray) (W : World) (K : Act → World → Prop), K (a₁ x) W →
  assign.wpIn (Fence.wide.inRound l) (f - 1 - 1) Tryz.prog (Exit.then K (fun _ _ _ => False)) { tmps := (ps.zip #[.string x]).foldl (fun t (p, v) => t.setIfInBounds p v) a.tmps, defers := [] } W)
 (hbody : ∀ (l : Nat) (pre : List ByteArray) (x : ByteArray) (W : World), I pre W → pre ++ [x] <+: partsF p → body.wpIn (Fence.wide.inRound l) (f - 1 - 1) Tryz.prog (RdPost w.heap.size I Ix (pre ++ [x]) W) (a₁ x) W)
 (hdone : ∀ (D : Nat) (W : World), w.heap.size ≤ D → Dn (partsF p) W → W.heap[D]? = some (.deferred (some [])) → Q .normal { a with defers := { target := .collected D, args := #[] } :: a.defers } W)
 (hstop : ∀ (D : Nat) (c : Code) (pre : List ByteArray) (W : World), w.heap.size ≤ D → pre ≠ [] → pre <+: partsF p → Ix c pre W → W.heap[D]? = some (.deferred (some [])) → c.wpIn Fence.wide f Tryz.prog Q { a with defers := { target := .collected D, args := #[] } :: a.defers } W) :
 (Code.rangeFunc g ps assign body).wpIn Fence.wide f Tryz.prog Q a w := by
 refine wpIn_rangeFunc ?_
 intro fn hfn
 obtain ⟨rec, hrec⟩ : ∃ rec : LoopState → Option Code → Loop, rec = fun st pe => { state := st, pending := pe, fn, tmps := a.tmps, params := ps, assign, body, defers := w.heap.size } := ⟨_, rfl⟩
 obtain ⟨W1, hW1⟩ : ∃ W1, (w.alloc (.deferred (some []))).alloc (.loop (rec .ready none)) = W1 := ⟨_, rfl⟩
 have hL1 : W1.heap[w.heap.size + 1]? = some (.loop (rec .ready none)) := by
  rw [← hW1]; have := World.alloc_heap_new (w.alloc (.deferred (some []))) (.loop (rec .ready none)); rwa [World.size_alloc] at this
 have hK1 : W1.heap[w.heap.size]? = some (.deferred (some [])) := by
  rw [← hW1]; exact (Below.heap_alloc _ _ _ (by simp)).trans (World.alloc_heap_new w _)
 have hs1 : W1.heap.size = w.heap.size + 2 := by rw [← hW1]; simp
 have hI1 : I [] W1 := by rw [← hW1]; exact hI.alloc _ (hI.alloc _ h0)
 have e30 : ∀ args w, (callFunc 79 args).run Tryz.prog w = .ok (.enter 79 args) w := enters_of Tryz.func79 (by kernel_rfl) rfl
 refine ⟨w.heap.size + 1, [{ target := .collected w.heap.size, args := #[] }], W1, { target := .fn (.func 79) #[.pointer (some ⟨B, 0, none⟩)], args := #[.func (.yield (w.heap.size + 1)) #[] #[]] }, W1, 79,
  #[.func (.yield (w.heap.size + 1)) #[] #[], .pointer (some ⟨B, 0, none⟩)], W1, ?_, ?_, fun _ _ => trivial, ?_, fun _ => by omega, ?_⟩
 · rw [← hW1, hrec]; exact run_enterLoop_outer _ _ _ _ _
 · simp only [resolve, hg]
   simp [go_sem]
 · simp [invoke, go_sem, e30]
 · refine (parts1_in (f - 1) (by omega) (w.heap.size + 1) B p vp zs hp
    (fun pre W => I pre W ∧ W.heap[w.heap.size + 1]? = some (.loop (rec .ready none)) ∧ W.heap[w.heap.size]? = some (.deferred (some [])))
    (fun pre W => ∃ c, Ix c pre W ∧ W.heap[w.heap.size + 1]? = some (.loop (rec .done (some c))) ∧ W.heap[w.heap.size]? = some (.deferred (some [])))
    (fun pre W h => hIc pre W h.1) (fun pre W W' h hb => ⟨hI pre W W' none h.1 ⟨hb.os, hb.tape, hb.output, hb.size, fun k hk _ => hb.block k hk⟩ (fun _ e => (nomatch e)), (hb.block _ (Array.getElem?_eq_some_iff.1 h.2.1).1).trans h.2.1, (hb.block _ (Array.getElem?_eq_some_iff.1 h.2.2).1).trans h.2.2⟩) ?_ W1 ⟨hI1, hL1, hK1⟩).mono ?_
   · -- one round
     rintro pre x W ⟨hi, hl, hk⟩ hpre
     have hlt : w.heap.size + 1 < W.heap.size := (Array.getElem?_eq_some_iff.1 hl).1
     have hy := run_yield (P := Tryz.prog) (args := #[.string x]) hl (by rw [hrec]; exact hps.symm)
     rw [hrec] at hy
     refine ⟨fn, _, assign, body, hy, roundIn_of_wpIn hfn (hassign _ x W _ ⟨_, run_beginRound hl (by rw [hrec]), ?_⟩)⟩
     have hl2 : (W.putObj (w.heap.size + 1) (.loop { rec .ready none with state := .busy })).heap[w.heap.size + 1]? = some (.loop { rec .ready none with state := .busy }) := World.putObj_heap_same hlt
     have hk2 : (W.putObj (w.heap.size + 1) (.loop { rec .ready none with state := .busy })).heap[w.heap.size]? = some (.deferred (some [])) := (World.putObj_heap_other (by omega)).trans hk
     refine wpIn_mono (hbody _ pre x _ (hI.putObj _ hi (by omega) hl rfl) hpre) ?_
     have fin : ∀ (jump : Option Code) (W3 : World), KeepsFrom w.heap.size (W.putObj (w.heap.size + 1) (.loop { rec .ready none with state := .busy })) W3 →
      (Instr.endRound (w.heap.size + 1) jump).run Tryz.prog W3 = .ok (.bool jump.isNone) (W3.putObj (w.heap.size + 1) (.loop (rec (if jump.isNone then .ready else .done) jump))) ∧
      W3.heap[w.heap.size + 1]? = some (.loop { rec .ready none with state := .busy }) ∧
      (W3.putObj (w.heap.size + 1) (.loop (rec (if jump.isNone then .ready else .done) jump))).heap[w.heap.size + 1]? = some (.loop (rec (if jump.isNone then .ready else .done) jump)) ∧
      (W3.putObj (w.heap.size + 1) (.loop (rec (if jump.isNone then .ready else .done) jump))).heap[w.heap.size]? = some (.deferred (some [])) := fun jump W3 hk3 => by
      have hl3 := hk3.same _ _ (by omega) hl2 rfl
      have := run_endRound (P := Tryz.prog) jump hl3
      rw [hrec] at this ⊢
      exact ⟨this, by rw [hrec] at hl3; exact hl3, World.putObj_heap_same (Array.getElem?_eq_some_iff.1 hl3).1, (World.putObj_heap_other (by omega)).trans (hk3.same _ _ (Nat.le_refl _) hk2 rfl)⟩
     rintro e a3 W3 hp
     cases e with
     | normal =>
       obtain ⟨hk3, ht3, hi3⟩ := hp
       obtain ⟨hr, hl3, hl4, hk4⟩ := fin none W3 hk3
       exact ⟨_, _, hr, true, rfl, fun _ => ⟨⟨hI.putObj _ hi3 (by omega) hl3 rfl, hl4, hk4⟩, (kt_put hl).trans (ht3.trans (kt_put hl3))⟩, fun h => (nomatch h)⟩
     | ret =>
       obtain ⟨hk3, hi3⟩ := hp
       obtain ⟨hr, hl3, hl4, hk4⟩ := fin (some .ret) W3 hk3
       exact ⟨_, _, hr, false, rfl, fun h => (nomatch h), fun _ => ⟨.ret, (hIx _).putObj _ hi3 (by omega) hl3 rfl, hl4, hk4⟩⟩
     | exit id =>
       obtain ⟨hk3, hi3⟩ := hp
       obtain ⟨hr, hl3, hl4, hk4⟩ := fin (some (.exit id)) W3 hk3
       exact ⟨_, _, hr, false, rfl, fun h => (nomatch h), fun _ => ⟨.exit id, (hIx _).putObj _ hi3 (by omega) hl3 rfl, hl4, hk4⟩⟩
     | goto t =>
       obtain ⟨hk3, hi3⟩ := hp
       obtain ⟨hr, hl3, hl4, hk4⟩ := fin (some (.goto t)) W3 hk3
       exact ⟨_, _, hr, false, rfl, fun h => (nomatch h), fun _ => ⟨.goto t, (hIx _).putObj _ hi3 (by omega) hl3 rfl, hl4, hk4⟩⟩
     | panic ch => exact hp.elim
     | outgrown => exact hp.elim
   · -- behind the iterator
     rintro e W2 ⟨⟨v, rfl⟩, (⟨hi, hl, hk⟩ | ⟨pre, hne, hpre, c, hi, hl, hk⟩)⟩
     · exact ⟨none, _, by have := run_endLoop (P := Tryz.prog) hl (by rw [hrec]; simp); rw [hrec] at this; exact this, hdone _ _ (Nat.le_refl _) (hDn.putObj _ (hID _ _ hi) (by omega) hl rfl) ((World.putObj_heap_other (by omega)).trans hk)⟩
     · exact ⟨some c, _, by have := run_endLoop (P := Tryz.prog) hl (by rw [hrec]; simp); rw [hrec] at this; exact this, hstop _ c pre _ (Nat.le_refl _) hne hpre ((hIx c).putObj _ hi (by omega) hl rfl) ((World.putObj_heap_other (by omega)).trans hk)⟩
end Uf
end
section
open Go.RowKit
attribute [local go_sem] Oper.semAt_some
namespace Uf
open Cm Hn
open Sc (fmtR Pow RdK)
open Tx (bs)
def szL (xs : List ByteArray) : Nat := (xs.map ByteArray.size).sum
theorem szL_snoc (xs : List ByteArray) (x : ByteArray) : szL (xs ++ [x]) = szL xs + x.size := by unfold szL; simp
theorem szL_pre {xs ys : List ByteArray} (h : xs <+: ys) : szL xs ≤ szL ys := by
 obtain ⟨t, rfl⟩ := h
 unfold szL; simp
abbrev tPatV (p : Pat) (v : Value) : Value := .agg #[.string p.on, .string p.nn, v]
def FtPost (p : Pat) (w : World) (e : Ending) (w' : World) : Prop := e = .returned (.bool (decide (szL (partsF p) ≤ 16777216))) ∧ Below w.heap.size w w'
theorem put_one (t : Array Value) (i : Nat) (v : Value) : Array.foldl (fun t (x : Tmp × Value) => t.setIfInBounds x.fst x.snd) t (#[i].zip #[v]) = t.setIfInBounds i v := by simp [Array.zip]
abbrev tI : TypeId := 3
abbrev tBo : TypeId := 4
theorem blk_grown {W W' : World} {row : Option Nat} {G : Nat} {t : TypeId} {l : List Value} (h : Blk W G t l) (hg : W.grownBy W' row) (hr : ∀ r, row = some r → ∃ o : Obj, W.heap[r]? = some o ∧ o.isCells = false) : Blk W' G t l := by
 refine (hg.block G h.lt fun e => ?_).trans h
 obtain ⟨o, ho, hc⟩ := hr G e.symm
 unfold Blk at h
 rw [h] at ho; cases ho; cases hc
def FtI (C : Nat) (p : Pat) (v : Value) (w : World) (pre : List ByteArray) (W : World) : Prop :=
 (Blk W (C + 3) tPat [.string p.on, .string p.nn, v] ∧ Blk W (C + 2) tI [.int .i64 (16777216 - (szL pre : Int))] ∧ Blk W (C + 1) tBo [.bool false] ∧ Below C w W) ∧ szL pre ≤ 16777216
def FtD (C : Nat) (w : World) (r : Bool) (pre : List ByteArray) (W : World) : Prop :=
 (Blk W (C + 1) tBo [.bool false] ∧ Below C w W) ∧ decide (szL pre ≤ 16777216) = r
theorem FtI.own {C : Nat} {p : Pat} {v : Value} {w A A' : World} {pre : List ByteArray} {row : Option Nat} (h : FtI C p v w pre A) (hw : C ≤ w.heap.size) (hg : A.grownBy A' row) (hr : ∀ r, row = some r → C ≤ r ∧ ∃ o : Obj, A.heap[r]? = some o ∧ o.isCells = false) : FtI C p v w pre A' := by
 have hr2 : ∀ r, row = some r → ∃ o : Obj, A.heap[r]? = some o ∧ o.isCells = false := fun r e => (hr r e).2
 obtain ⟨⟨h1, h2, h3, h4⟩, h5⟩ := h
 exact ⟨⟨blk_grown h1 hg hr2, blk_grown h2 hg hr2, blk_grown h3 hg hr2, h4.grown hg (by have := h4.size; omega) (fun k e => (hr k e).1)⟩, h5⟩
theorem FtD.own {C : Nat} {w A A' : World} {r : Bool} {pre : List ByteArray} {row : Option Nat} (h : FtD C w r pre A) (hw : C ≤ w.heap.size) (hg : A.grownBy A' row) (hr : ∀ r, row = some r → C ≤ r ∧ ∃ o : Obj, A.heap[r]? = some o ∧ o.isCells = false) : FtD C w r pre A' := by
 have hr2 : ∀ r, row = some r → ∃ o : Obj, A.heap[r]? = some o ∧ o.isCells = false := fun r e => (hr r e).2
 obtain ⟨⟨h3, h4⟩, h5⟩ := h
 exact ⟨⟨blk_grown h3 hg hr2, h4.grown hg (by have := h4.size; omega) (fun k e => (hr k e).1)⟩, h5⟩
theorem kt_set {W : World} {B k : Nat} {t : TypeId} {l : List Value} (h : Blk W B t l) (h1 : t ≠ tPh) (h2 : t ≠ tLn) (v : Value) : KT W (W.setCell ⟨B, k, none⟩ v) := fun G t' ls ht hb => by
 have hne : G ≠ B := by
  rintro rfl
  have hb0 := hb
  unfold Blk at h hb0
  rw [h] at hb0
  injection hb0 with hb0
  injection hb0 with _ hb0 _
  rcases ht with rfl | rfl
  · exact h1 hb0
  · exact h2 hb0
 exact (Below.heap_setCell _ _ _ G hne).trans hb
set_option maxRecDepth 100000 in
set_option maxHeartbeats 4000000 in
theorem fits_any (p : Pat) (v : Value) (w : World) (hr : RdP w v p.hunks) (hok : PatOk p) (hw : Pow w) : Calls Tryz.prog 70 #[tPatV p v] w (FtPost p w) := by
 obtain ⟨zs, hz⟩ := hr.z
 refine (callsIn_wide (n := 4)).1 ?_
 refine callsIn_of_wp_marks Tryz.func70 rfl trivial ?_ rfl
 simp only [Tryz.ntmps70, List.size_toArray, List.length_cons, List.length_nil, Nat.reduceAdd, Nat.reduceSub, Array.replicate_succ, Array.replicate_zero, List.push_toArray, List.append_toArray, List.nil_append, List.cons_append]
 have HA := Lib.hid (fun w => parts_any p.on p.nn v w)
 obtain ⟨C, hC⟩ : ∃ C, C = w.heap.size := ⟨_, rfl⟩
 gi_wp2
 refine ⟨(trivial : Fence.wide.fn 49), ?_⟩
 gi_at_call 49
 refine (callsIn_wide.2 (HA.out _)).mono ?_
 rintro e w1 ⟨rfl, hw1⟩
 gi_wp2
 have HB1 : Below C w w1 := by rw [hw1, hC]; exact ((((Below.refl _ w).alloc (Nat.le_refl _) _).alloc (by simp) _).alloc (by simp; omega) _).alloc (by simp; omega) _
 have hz1 : w1.heap.size = C + 4 := by rw [hw1, hC]; simp
 have hp1 : Blk w1 (C + 1) tBo [.bool false] := by
  rw [hw1, hC]
  have := heap_new (w.alloc (.cells #[.string p.on, .string p.nn, v] tPat)) (.cells #[.bool false] tBo)
  rw [World.size_alloc] at this
  exact (Blk.alloc (Blk.alloc this _) _)
 have hp2 : Blk w1 (C + 2) tI [.int .i64 (16777216 - (szL [] : Int))] := by
  rw [hw1, hC]
  have := heap_new ((w.alloc (.cells #[.string p.on, .string p.nn, v] tPat)).alloc (.cells #[.bool false] tBo)) (.cells #[.int .i64 16777216] tI)
  rw [World.size_alloc, World.size_alloc] at this
  exact (Blk.alloc this _)
 have hp3 : Blk w1 (C + 3) tPat [.string p.on, .string p.nn, v] := by
  rw [hw1, hC]
  have := heap_new (((w.alloc (.cells #[.string p.on, .string p.nn, v] tPat)).alloc (.cells #[.bool false] tBo)).alloc (.cells #[.int .i64 16777216] tI)) (.cells #[.string p.on, .string p.nn, v] tPat)
  rw [World.size_alloc, World.size_alloc, World.size_alloc] at this
  exact this
 rw [← hw1]
 subst hC
 clear hw1 HA
 have hCw : w.heap.size ≤ w.heap.size := Nat.le_refl _
 refine range_parts 4 (by omega) (w.heap.size + 3) p v zs hok (by rfl) rfl
  (FtI w.heap.size p v w) (fun c pre W => c = .ret ∧ FtD w.heap.size w false pre W) (FtD w.heap.size w true)
  (fun pre W h => ⟨⟨h.1.1, hz.below (h.1.2.2.2)⟩, hw.stays (h.1.2.2.2)⟩)
  (fun s A B row h hg hr => h.own hCw hg (fun r e => ⟨by have := (hr r e).1; omega, (hr r e).2⟩)) (fun c s A B row h hg hr => ⟨h.1, h.2.own hCw hg (fun r e => ⟨by have := (hr r e).1; omega, (hr r e).2⟩)⟩) (fun s A B row h hg hr => h.own hCw hg (fun r e => ⟨by have := (hr r e).1; omega, (hr r e).2⟩))
  ⟨⟨hp3, hp2, hp1, HB1⟩, by decide⟩ (fun xs W h => ⟨⟨h.1.2.2.1, h.1.2.2.2⟩, decide_eq_true h.2⟩)
  (fun x => { tmps := #[tPatV p v, .pointer (some ⟨w.heap.size, 0, none⟩), .pointer (some ⟨w.heap.size + 1, 0, none⟩), .pointer (some ⟨w.heap.size + 1 + 1, 0, none⟩), .string x, tPatV p v, partsV (w.heap.size + 3), .string x, undef, undef, undef, undef, undef, undef, undef, undef], defers := [] })
  ?assign ?body ?done ?stop
 case assign =>
  intro l x W K hK
  rw [put_one]
  gi_wp2
  exact hK
 case body =>
  intro l pre x W hI hpre
  obtain ⟨⟨h1, h2, h3, h4⟩, h5⟩ := hI
  have e1 := szL_snoc pre x
  have c2 := h2.cell (k := 0) (show 0 < 1 by decide)
  have z2 := h2.free 0
  have c3 := h3.cell (k := 0) (show 0 < 1 by decide)
  have z3 := h3.free 0
  have l2 := h2.lt
  have l3 := h3.lt
  simp only [List.getElem_cons_zero] at c2 c3
  have hT := szL_pre hpre
  by_cases hc : (x.size : Int) > 16777216 - (szL pre : Int)
  · have HFin : Hid (∀ V, V = W.setCell ⟨w.heap.size + 1, 0, none⟩ (.bool false) → KeepsFrom w1.heap.size W V ∧ Code.ret = .ret ∧ FtD w.heap.size w false (pre ++ [x]) V) := Lib.hid (by
     rintro V rfl
     refine ⟨(KeepsOthers.setCell _ _ _).from w1.heap.size, rfl, ⟨h3.set 0 _, h4.setCell (p := ⟨w.heap.size + 1, 0, none⟩) (Nat.le_succ _) _⟩, ?_⟩
     rw [decide_eq_false_iff_not]
     omega)
    clear hok hz hr h1 h2 h3 h4 e1 hT hpre hp1 hp2 hp3 HB1 hz1
    gi_wp2
    obtain ⟨q1, -, q2⟩ := HFin.out _ rfl
    exact ⟨q1, rfl, q2⟩
  · have HFin : Hid (∀ V, V = W.setCell ⟨w.heap.size + 2, 0, none⟩ (.int .i64 (16777216 - (szL pre : Int) - (x.size : Int))) → KeepsFrom w1.heap.size W V ∧ KT W V ∧ FtI w.heap.size p v w (pre ++ [x]) V) := Lib.hid (by
     rintro V rfl
     refine ⟨(KeepsOthers.setCell _ _ _).from w1.heap.size, kt_set h2 (by decide) (by decide) _, ⟨(Below.heap_setCell _ _ _ _ (by show w.heap.size + 3 ≠ w.heap.size + 2; omega)).trans h1, ?_, (Below.heap_setCell _ _ _ _ (by show w.heap.size + 1 ≠ w.heap.size + 2; omega)).trans h3, h4.setCell (p := ⟨w.heap.size + 2, 0, none⟩) (by show w.heap.size ≤ w.heap.size + 2; omega) _⟩, by omega⟩
     have := h2.set 0 (.int .i64 (16777216 - (szL pre : Int) - (x.size : Int)))
     rw [show (16777216 - (szL (pre ++ [x]) : Int)) = 16777216 - (szL pre : Int) - (x.size : Int) by omega]
     exact this)
    have hxs : x.size ≤ 16777216 := by omega
    clear hok hz hr h1 h2 h3 h4 e1 hT hpre hp1 hp2 hp3 HB1 hz1
    gi_wp2
    exact HFin.out _ rfl
 case done =>
  intro D W hD hI hK
  obtain ⟨⟨h3, h4⟩, h5⟩ := hI
  have c3 := h3.cell (k := 0) (show 0 < 1 by decide)
  simp only [List.getElem_cons_zero] at c3
  have z3 := h3.free 0
  have l3 := h3.lt
  have HFin : Hid (∀ V, V = W.setCell ⟨w.heap.size + 1, 0, none⟩ (.bool true) → (V.putObj D (.deferred none)).cell? ⟨w.heap.size + 1, 0, none⟩ = some (.bool true) ∧ V.heap[D]? = some (.deferred (some [])) ∧ FtPost p w (.returned (.bool true)) (V.putObj D (.deferred none))) := Lib.hid (by
   rintro V rfl
   have hb := h3.set 0 (.bool true)
   have hd : (W.setCell ⟨w.heap.size + 1, 0, none⟩ (.bool true)).heap[D]? = some (.deferred (some [])) := (Below.heap_setCell _ _ _ _ (by show D ≠ w.heap.size + 1; omega)).trans hK
   refine ⟨(World.cell?_of_block (World.putObj_heap_other (by show w.heap.size + 1 ≠ D; omega))).trans (hb.cell (k := 0) (show 0 < 1 by decide)), hd, by rw [h5], ?_⟩
   exact (h4.setCell (p := ⟨w.heap.size + 1, 0, none⟩) (Nat.le_succ _) _).trans (belowK_b (w := w1) (n₀ := w.heap.size) (by omega) _ D _ (.deferred none) hD hd rfl rfl))
  clear hok hz hr h3 h4 h5 hp1 hp2 hp3 HB1 hz1
  gi_wp2
  obtain ⟨q1, q2, q3⟩ := HFin.out _ rfl
  refine ⟨by simp, .inl ⟨_, _, rfl, run_takeDeferred q2, ?_⟩⟩
  refine ⟨.bool true, (by simp [results, Tryz.f70, go_sem, q1]), q3⟩
 case stop =>
  rintro D c pre W hD hne hpre ⟨rfl, hI⟩ hK
  obtain ⟨⟨h3, h4⟩, h5⟩ := hI
  have HFin : Hid ((W.putObj D (.deferred none)).cell? ⟨w.heap.size + 1, 0, none⟩ = some (.bool false) ∧ W.heap[D]? = some (.deferred (some [])) ∧ FtPost p w (.returned (.bool false)) (W.putObj D (.deferred none))) := Lib.hid (by
   refine ⟨(World.cell?_of_block (World.putObj_heap_other (by show w.heap.size + 1 ≠ D; omega))).trans (h3.cell (k := 0) (show 0 < 1 by decide)), hK, ?_, ?_⟩
   · have := szL_pre hpre
     rw [decide_eq_false_iff_not] at h5
     rw [decide_eq_false (by omega)]
   · exact h4.trans (belowK_b (w := w1) (n₀ := w.heap.size) (by omega) _ D _ (.deferred none) hD hK rfl rfl))
  clear hok hz hr h3 h4 h5 hp1 hp2 hp3 HB1 hz1 hpre
  gi_wp2
  obtain ⟨q1, q2, q3⟩ := HFin.out
  refine ⟨by simp, .inl ⟨_, _, rfl, run_takeDeferred q2, ?_⟩⟩
  refine ⟨.bool false, (by simp [results, Tryz.f70, go_sem, q1]), q3⟩
end Uf
end
section
open Go.RowKit
namespace Uf
open Cm Hn
open Sc (RdK)
open Tx (bs)
def PatSm (hs : List PH) : Prop := hs.length ≤ 1000000 ∧ ∀ h ∈ hs, h.lines.length ≤ 1000000 ∧ (-9223372036854775808 ≤ h.old ∧ h.old ≤ 9223372036854775807) ∧ (-9223372036854775808 ≤ h.new ∧ h.new ≤ 9223372036854775807) ∧ ∀ l ∈ h.lines, l.text.size ≤ 4194304
def AhPost (hs : List PH) (w : World) (e : Ending) (w' : World) : Prop := e = .returned (.bool (hksB (0, false) (0, false) hs)) ∧ Below w.heap.size w w'
theorem hks_step {o n : Sd} {h : PH} {r : List PH} : (skipB o n h = false → hksB o n (h :: r) = false) ∧ (skipB o n h = true → (lnsSt (h.old, o.2) (h.new, n.2) h.lines = none → hksB o n (h :: r) = false) ∧ ∀ o' n', lnsSt (h.old, o.2) (h.new, n.2) h.lines = some (o', n') → (chgB h.lines = false → hksB o n (h :: r) = false) ∧ (chgB h.lines = true → hksB o n (h :: r) = hksB o' n' r)) := by
 refine ⟨fun h1 => by rw [hksB, if_neg (by rw [h1]; decide)], fun h1 => ⟨fun h2 => by rw [hksB, if_pos h1, h2], fun o' n' h2 => ⟨fun h3 => by rw [hksB, if_pos h1, h2]; simp only; rw [h3]; rfl, fun h3 => by rw [hksB, if_pos h1, h2]; simp only; rw [h3]; rfl⟩⟩⟩
theorem skip_iff (o n : Sd) (h : PH) : skipB o n h = true ↔ ¬ (h.old < o.1 ∨ 4096 < h.old) ∧ ¬ (h.new < n.1 ∨ 4096 < h.new) ∧ h.old - o.1 = h.new - n.1 := by
 unfold skipB
 simp only [Bool.and_eq_true, Bool.not_eq_true', Bool.or_eq_false_iff, decide_eq_false_iff_not, beq_iff_eq]
 constructor
 · rintro ⟨⟨⟨⟨a, b⟩, c⟩, d⟩, e⟩; exact ⟨fun h => h.elim a b, fun h => h.elim c d, e⟩
 · rintro ⟨a, b, e⟩; exact ⟨⟨⟨⟨fun h => a (.inl h), fun h => a (.inr h)⟩, fun h => b (.inl h)⟩, fun h => b (.inr h)⟩, e⟩
set_option maxRecDepth 100000 in
set_option maxHeartbeats 8000000 in
theorem areHunks_any (v : Value) (hs : List PH) (w : World) (hr : RdP w v hs) (hsm : PatSm hs) : Calls Tryz.prog 69 #[v] w (AhPost hs w) := by
 have HR := Lib.hid (fun w' (hb : Below w.heap.size w w') => hr.below hb)
 obtain ⟨A, c, rfl⟩ := hr.form
 have HSm := Lib.hid hsm.2
 have hfew := hsm.1
 have HSt : Hid (∀ j (h : j < hs.length) o n, hksB (0, false) (0, false) hs = hksB o n (hs.drop j) → (skipB o n hs[j] = false → hksB (0, false) (0, false) hs = false) ∧ (skipB o n hs[j] = true → (lnsSt (hs[j].old, o.2) (hs[j].new, n.2) hs[j].lines = none → hksB (0, false) (0, false) hs = false) ∧ ∀ o' n', lnsSt (hs[j].old, o.2) (hs[j].new, n.2) hs[j].lines = some (o', n') → (chgB hs[j].lines = false → hksB (0, false) (0, false) hs = false) ∧ (chgB hs[j].lines = true → hksB (0, false) (0, false) hs = hksB o' n' (hs.drop (j + 1))))) := Lib.hid (fun j h o n he => by
  rw [he, List.drop_eq_getElem_cons h]
  exact hks_step)
 have HFalse : Hid (∀ w', hksB (0, false) (0, false) hs = false → Below w.heap.size w w' → AhPost hs w (.returned (.bool false)) w') := Lib.hid (fun w' h1 h2 => ⟨by rw [h1], h2⟩)
 have HTrue : Hid (∀ w', hksB (0, false) (0, false) hs = true → Below w.heap.size w w' → AhPost hs w (.returned (.bool true)) w') := Lib.hid (fun w' h1 h2 => ⟨by rw [h1], h2⟩)
 have HB0 := Lib.hid (((Below.refl w.heap.size w).alloc (Nat.le_refl _) (.cells #[.int .i64 0, .bool false] tSd)).alloc (by simp) (.cells #[.int .i64 0, .bool false] tSd))
 have HP0 : Hid (Blk ((w.alloc (.cells #[.int .i64 0, .bool false] tSd)).alloc (.cells #[.int .i64 0, .bool false] tSd)) w.heap.size tSd (sdC (0, false))) := Lib.hid (Blk.alloc (heap_new w _) _)
 have HQ0 : Hid (Blk ((w.alloc (.cells #[.int .i64 0, .bool false] tSd)).alloc (.cells #[.int .i64 0, .bool false] tSd)) (w.heap.size + 1) tSd (sdC (0, false))) := Lib.hid (by
  have h := heap_new (w.alloc (.cells #[.int .i64 0, .bool false] tSd)) (.cells #[.int .i64 0, .bool false] tSd)
  have e : (w.alloc (.cells #[.int .i64 0, .bool false] tSd)).heap.size = w.heap.size + 1 := by simp
  rw [e] at h
  exact h)
 clear hr hsm
 obtain ⟨N, hN⟩ : ∃ N, N = hs.length := ⟨_, rfl⟩
 have HN := Lib.hid hN.symm
 rw [← hN] at hfew HR ⊢
 clear hN
 go_enter Tryz.func69, Tryz.ntmps69
 go_wp2_with fail
 obtain ⟨W, hW⟩ : ∃ W, W = (w.alloc (.cells #[.int .i64 0, .bool false] tSd)).alloc (.cells #[.int .i64 0, .bool false] tSd) := ⟨_, rfl⟩
 rw [← hW] at HB0 HP0 HQ0 ⊢
 clear hW
 go_loopw [11] (fun i wr => ∃ (j : Nat) (o n : Sd), j ≤ N ∧ i = .int .i64 j ∧ Hid (Blk wr w.heap.size tSd (sdC o)) ∧ Hid (Blk wr (w.heap.size + 1) tSd (sdC n)) ∧ Hid (SdB o) ∧ Hid (SdB n) ∧ Hid (hksB (0, false) (0, false) hs = hksB o n (hs.drop j)) ∧ Hid (Below w.heap.size w wr)) (fun i _ => N - (intOf i).toNat)
 case atStart => exact ⟨0, (0, false), (0, false), Nat.zero_le _, rfl, HP0, HQ0, Lib.hid ⟨by decide, by decide⟩, Lib.hid ⟨by decide, by decide⟩, Lib.hid rfl, HB0⟩
 case round =>
  obtain ⟨j, o, n, hj, rfl, HP, HQ, HBo, HBn, HE, HB⟩ := hrel
  by_cases hlt : j < N
  · have hx : j < hs.length := by rw [HN.out]; exact hlt
    obtain ⟨bl, off, Al, cl, eA, c0, c1, c2, hrl⟩ := RdP_at (HR.out w (Below.refl _ _)) j hx
    replace c0 := (HB.out.cell (Tx.cell_lt c0)).trans c0
    replace c1 := (HB.out.cell (Tx.cell_lt c1)).trans c1
    replace c2 := (HB.out.cell (Tx.cell_lt c2)).trans c2
    obtain rfl := eA
    obtain ⟨hs1, hs2⟩ := HSt.out j hx o n HE.out
    obtain ⟨hls, hbo, hbn, htx⟩ := HSm.out _ (List.getElem_mem hx)
    have HSk := skip_iff o n hs[j]
    generalize hs[j] = h at *
    obtain ⟨ho, hn, ls⟩ := h
    simp only at c0 c1 c2 hrl hs1 hs2 hls hbo hbn htx HSk
    have i1 : (0 : Int) ≤ (j : Int) := by omega
    have i2 : (j : Int) < (N : Int) := by omega
    obtain ⟨oe, oc⟩ := o
    obtain ⟨ne, nc⟩ := n
    have HBo2 := HBo.out
    have HBn2 := HBn.out
    unfold SdB at HBo2 HBn2
    simp only at HSk HBo2 HBn2 hs2
    obtain ⟨M, hM⟩ : ∃ M, M = ls.length := ⟨_, rfl⟩
    have HM := Lib.hid hM.symm
    rw [← hM] at c2 hrl hls
    clear hM HE
    have HAl := Lib.hid ((Below.refl wr.heap.size wr).alloc (Nat.le_refl _) (.cells #[.int .i64 ho, .int .i64 hn, .slice Al M cl] tPh))
    have HHb : Hid (Blk (wr.alloc (.cells #[.int .i64 ho, .int .i64 hn, .slice Al M cl] tPh)) wr.heap.size tPh [.int .i64 ho, .int .i64 hn, .slice Al M cl]) := Lib.hid (heap_new wr _)
    have hlp := HP.out.lt
    have hlq := HQ.out.lt
    go_upto_region 5 with fail
    obtain ⟨W1, hW1⟩ : ∃ W1, W1 = wr.alloc (.cells #[.int .i64 ho, .int .i64 hn, .slice Al M cl] tPh) := ⟨_, rfl⟩
    rw [← hW1] at HAl HHb ⊢
    clear hW1
    have HP1 := Lib.hid (HP.out.below HAl.out)
    have HQ1 := Lib.hid (HQ.out.below HAl.out)
    have HB1 := Lib.hid (HB.out.trans (HAl.out.mono HB.out.size))
    have HRl := Lib.hid (fun w' (hb : Below w.heap.size w w') => hrl.below hb)
    clear hrl
    have p0 := HP1.out.cell (k := 0) (show 0 < 2 by decide)
    have q0 := HQ1.out.cell (k := 0) (show 0 < 2 by decide)
    simp only [sdC, List.getElem_cons_zero] at p0 q0
    go_quiet (fail)
    obtain ⟨W2, hW2⟩ : ∃ W2, W2 = W1.drewN nq := ⟨_, rfl⟩
    have HD2 := Lib.hid (show Below W1.heap.size W1 W2 by rw [hW2]; exact below_drewN (Below.refl _ _) nq)
    have HP2 := Lib.hid (HP1.out.below HD2.out)
    have HQ2 := Lib.hid (HQ1.out.below HD2.out)
    have HH2 := Lib.hid (HHb.out.below HD2.out)
    have HB2 := Lib.hid (HB1.out.trans (HD2.out.mono HB1.out.size))
    have HO2 := Lib.hid (HAl.out.trans (HD2.out.mono HAl.out.size))
    rw [← hW2]
    clear hW2 p0 q0 HP1 HQ1 HHb HB1 HAl HD2
    have h0 := HH2.out.cell (k := 0) (show 0 < 3 by decide)
    have h1 := HH2.out.cell (k := 1) (show 1 < 3 by decide)
    have h2 := HH2.out.cell (k := 2) (show 2 < 3 by decide)
    simp only [List.getElem_cons_zero, List.getElem_cons_succ] at h0 h1 h2
    by_cases cA : ho < oe ∨ 4096 < ho
    · have HFl := Lib.hid (hs1 (by rw [← Bool.not_eq_true, HSk]; exact fun h => h.1 cA))
      clear hs1 hs2 HSk
      go_wp2_with fail
      refine (skip_any _ _ ho _ HP2.out).mono ?_
      intro e wx hp
      obtain ⟨rfl, rfl⟩ := hp.1 cA
      go_wp2_with fail
      go_ret
      exact HFalse.out _ HFl.out HB2.out
    · have sk := fun e wx (hp : SkPost w.heap.size (oe, oc) ho W2 e wx) => hp.2 cA
      have HPs := Lib.hid (HP2.out.set 0 (.int .i64 ho))
      have HFs := Lib.hid (Off2.set w.heap.size (w.heap.size + 1) 0 W2 (.int .i64 ho))
      have hnp : wr.heap.size ≠ w.heap.size := by omega
      have hnq : wr.heap.size ≠ w.heap.size + 1 := by omega
      have HH3 := Lib.hid (HFs.out.blk HH2.out hnp hnq)
      have HQ3 := Lib.hid ((Off2.set w.heap.size w.heap.size 0 W2 (.int .i64 ho)).blk HQ2.out (by omega) (by omega))
      have HB3 := Lib.hid (HB2.out.trans (HFs.out.below (Nat.le_refl _) (by omega) HB2.out.size))
      have HR3 := Lib.hid ((Off2.of_below (p := w.heap.size) (q := w.heap.size + 1) HO2.out).trans HFs.out)
      by_cases cB : hn < ne ∨ 4096 < hn
      · have HFl := Lib.hid (hs1 (by rw [← Bool.not_eq_true, HSk]; exact fun h => h.2.1 cB))
        clear hs1 hs2 HSk
        go_wp2_with fail
        refine (skip_any _ _ ho _ HP2.out).mono ?_
        intro e wx hp
        obtain ⟨rfl, hwx⟩ := sk _ _ hp
        rw [← hwx] at HPs HFs HH3 HQ3 HB3 HR3
        clear hp hwx sk
        have h0 := HH3.out.cell (k := 0) (show 0 < 3 by decide)
        have h1 := HH3.out.cell (k := 1) (show 1 < 3 by decide)
        have h2 := HH3.out.cell (k := 2) (show 2 < 3 by decide)
        simp only [List.getElem_cons_zero, List.getElem_cons_succ] at h0 h1 h2
        go_wp2_with fail
        refine (skip_any _ _ hn _ HQ3.out).mono ?_
        intro e wy hp
        obtain ⟨rfl, rfl⟩ := hp.1 cB
        go_wp2_with fail
        go_ret
        exact HFalse.out _ HFl.out HB3.out
      · by_cases cC : ho - oe = hn - ne
        · have HTr := hs2 (HSk.2 ⟨cA, cB, cC⟩)
          clear hs1 hs2 HSk
          have hBo3 : SdB (ho, oc) := ⟨by simp only; omega, by simp only; omega⟩
          have hBn3 : SdB (hn, nc) := ⟨by simp only; omega, by simp only; omega⟩
          go_wp2_with fail
          refine (skip_any _ _ ho _ HP2.out).mono ?_
          intro e wx hp
          obtain ⟨rfl, hwx⟩ := sk _ _ hp
          rw [← hwx] at HPs HFs HH3 HQ3 HB3 HR3
          clear hp hwx sk
          have h0 := HH3.out.cell (k := 0) (show 0 < 3 by decide)
          have h1 := HH3.out.cell (k := 1) (show 1 < 3 by decide)
          have h2 := HH3.out.cell (k := 2) (show 2 < 3 by decide)
          simp only [List.getElem_cons_zero, List.getElem_cons_succ] at h0 h1 h2
          have HQs := Lib.hid (HQ3.out.set 0 (.int .i64 hn))
          have HFt := Lib.hid (Off2.set (w.heap.size + 1) w.heap.size 0 wx (.int .i64 hn)).swap
          have HH4 := Lib.hid (HFt.out.blk HH3.out hnp hnq)
          have HP4 := Lib.hid ((Off2.set (w.heap.size + 1) (w.heap.size + 1) 0 wx (.int .i64 hn)).blk HPs.out (by omega) (by omega))
          have HB4 := Lib.hid (HB3.out.trans (HFt.out.below (Nat.le_refl _) (by omega) HB3.out.size))
          have HR4 := Lib.hid (HR3.out.trans HFt.out)
          go_wp2_with fail
          refine (skip_any _ _ hn _ HQ3.out).mono ?_
          intro e wy hp
          obtain ⟨rfl, hwy⟩ := hp.2 cB
          rw [← hwy] at HQs HFt HH4 HP4 HB4 HR4
          clear hp hwy
          have h0 := HH4.out.cell (k := 0) (show 0 < 3 by decide)
          have h1 := HH4.out.cell (k := 1) (show 1 < 3 by decide)
          have h2 := HH4.out.cell (k := 2) (show 2 < 3 by decide)
          simp only [List.getElem_cons_zero, List.getElem_cons_succ] at h0 h1 h2
          have HQ4 : Hid (Blk wy (w.heap.size + 1) tSd (sdC (hn, nc))) := HQs
          have HP5 : Hid (Blk wy w.heap.size tSd (sdC (ho, oc))) := HP4
          clear HQs HP4 HPs HQ3 HFs HFt HH3 HB3 HR3 HP2 HQ2 HH2 HB2 HO2
          have HRy := Lib.hid (fun w' (hb : Off2 w.heap.size (w.heap.size + 1) wy w') => HRl.out w' (HB4.out.trans (hb.below (Nat.le_refl _) (by omega) HB4.out.size)))
          have HAL : Hid (Calls Tryz.prog 109 #[.slice Al M cl, .pointer (some ⟨w.heap.size, 0, none⟩), .pointer (some ⟨w.heap.size + 1, 0, none⟩)] wy (AlPost w.heap.size (w.heap.size + 1) (ho, oc) (hn, nc) ls wy)) := Lib.hid (areLines_any _ _ (ho, oc) (hn, nc) _ ls wy (by omega) HRy.out (by rw [HM.out]; exact hls) htx HP5.out HQ4.out hBo3 hBn3)
          obtain ⟨ht1, ht2⟩ := HTr
          cases hst : lnsSt (ho, oc) (hn, nc) ls with
          | none =>
            have HFl := Lib.hid (ht1 hst)
            clear ht1 ht2
            go_wp2_with fail
            refine HAL.out.mono ?_
            intro e wz hp
            obtain rfl := hp.1 hst
            have HBz := Lib.hid (HB4.out.trans (hp.2.2.below (Nat.le_refl _) (by omega) HB4.out.size))
            clear hp
            go_wp2_with fail
            go_ret
            exact HFalse.out _ HFl.out HBz.out
          | some r =>
            obtain ⟨o', n'⟩ := r
            cases hch : chgB ls with
            | false =>
              have HFl := Lib.hid ((ht2 _ _ hst).1 hch)
              clear ht1 ht2
              go_wp2_with fail
              refine HAL.out.mono ?_
              intro e wz hp
              have hp1 := (hp.2.1 _ _ hst).1
              rw [hch] at hp1
              obtain rfl := hp1
              have HBz := Lib.hid (HB4.out.trans (hp.2.2.below (Nat.le_refl _) (by omega) HB4.out.size))
              clear hp
              go_wp2_with fail
              go_ret
              exact HFalse.out _ HFl.out HBz.out
            | true =>
              have HNx := Lib.hid ((ht2 _ _ hst).2 hch)
              clear ht1 ht2
              go_wp2_with fail
              refine HAL.out.mono ?_
              intro e wz hp
              obtain ⟨hp1, hp2, hp3, hp4, hp5⟩ := hp.2.1 _ _ hst
              rw [hch] at hp1
              obtain rfl := hp1
              have HBz := Lib.hid (HB4.out.trans (hp.2.2.below (Nat.le_refl _) (by omega) HB4.out.size))
              have HPz := Lib.hid hp2
              have HQz := Lib.hid hp3
              have HSo := Lib.hid hp4
              have HSn := Lib.hid hp5
              clear hp hp2 hp3 hp4 hp5
              go_wp2_with fail
              go_roundw
              case rel => exact ⟨j + 1, o', n', by omega, by go_num, HPz, HQz, HSo, HSn, HNx, HBz⟩
              case measure => simp [intOf]; omega
        · have HFl := Lib.hid (hs1 (by rw [← Bool.not_eq_true, HSk]; exact fun h => cC h.2.2))
          clear hs1 hs2 HSk
          go_wp2_with fail
          refine (skip_any _ _ ho _ HP2.out).mono ?_
          intro e wx hp
          obtain ⟨rfl, hwx⟩ := sk _ _ hp
          rw [← hwx] at HPs HFs HH3 HQ3 HB3 HR3
          clear hp hwx sk
          have h0 := HH3.out.cell (k := 0) (show 0 < 3 by decide)
          have h1 := HH3.out.cell (k := 1) (show 1 < 3 by decide)
          have h2 := HH3.out.cell (k := 2) (show 2 < 3 by decide)
          simp only [List.getElem_cons_zero, List.getElem_cons_succ] at h0 h1 h2
          have HFt := Lib.hid (Off2.set (w.heap.size + 1) w.heap.size 0 wx (.int .i64 hn)).swap
          have HH4 := Lib.hid (HFt.out.blk HH3.out hnp hnq)
          have HB4 := Lib.hid (HB3.out.trans (HFt.out.below (Nat.le_refl _) (by omega) HB3.out.size))
          go_wp2_with fail
          refine (skip_any _ _ hn _ HQ3.out).mono ?_
          intro e wy hp
          obtain ⟨rfl, hwy⟩ := hp.2 cB
          rw [← hwy] at HFt HH4 HB4
          clear hp hwy
          have h0 := HH4.out.cell (k := 0) (show 0 < 3 by decide)
          have h1 := HH4.out.cell (k := 1) (show 1 < 3 by decide)
          have h2 := HH4.out.cell (k := 2) (show 2 < 3 by decide)
          simp only [List.getElem_cons_zero, List.getElem_cons_succ] at h0 h1 h2
          go_wp2_with fail
          go_ret
          exact HFalse.out _ HFl.out HB4.out
  · obtain rfl : j = N := by omega
    have hdr : hs.drop j = [] := List.drop_eq_nil_of_le (by rw [HN.out]; exact Nat.le_refl _)
    have HFin : Hid (hksB (0, false) (0, false) hs = true) := Lib.hid (by rw [HE.out, hdr]; rfl)
    clear hdr
    go_wp2_with fail
    go_ret
    exact HTrue.out _ HFin.out HB.out
end Uf
end
end Go.Proofs.YtjecfmbecgpbmaaGreatDoor

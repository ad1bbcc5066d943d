/-
  A made patch in its box, Make with the names of the laws. Conditions: short blobs. The walk of the law UnifiedMakes of layer 12. Condition: the table of powers. The program's Reverse of layer 14. Conditions: at most 100000 hunks, and lines in a hunk; texts of at most 2^22 bytes; the table of powers. The reference's Reverse of layer 14. Conditions: a patch that is short enough; at most 100000 hunks, and lines in a hunk.
-/
import Derived.Test.YtjecfmbecgpbmaaGreatDoorGUniCheck
import Derived.Test.YtjecfmbecgpbmaaGreatDoorGUniFmt
import Derived.Test.YtjecfmbecgpbmaaGreatDoorShoNea
import Derived.Test.YtjecfmbecgpbmaaGreatDoorUniRMk
import Derived.Test.YtjecfmbecgpbmaaGreatDoorPatR
import Derived.Test.YtjecfmbecgpbmaaGreatDoorUniMake
namespace Go.Proofs.YtjecfmbecgpbmaaGreatDoor
section
section
namespace Cm
end Cm
namespace Hn
end Hn
namespace Sc
end Sc
namespace Tx
end Tx
open Go.RowKit
namespace Uf
open Cm Hn
open Sc (Pow RdK)
open Tx (bs)
theorem rdI_V {w : World} {v : Value} {l : List Int} (h : RdV w v (intsV l)) (hb : ∀ z ∈ l, -9223372036854775808 ≤ z ∧ z ≤ 9223372036854775807) : Tx.RdI w v l.length := by
  obtain ⟨A, c, rfl, _, hc⟩ := h
  refine ⟨A, c, by rw [intsV_len], fun hp => ?_⟩
  obtain ⟨b, off, rfl, hcell⟩ := hc (by rw [intsV_len]; exact hp)
  refine ⟨b, off, rfl, fun j hj => ⟨l[j], ?_, hb _ (List.getElem_mem hj)⟩⟩
  rw [hcell j (by rw [intsV_len]; exact hj)]
  simp [intsV]
def oB : ByteArray := ⟨#[111]⟩
def nB : ByteArray := ⟨#[110]⟩
def AwPost (w : World) (e : Ending) (w' : World) : Prop := e = .returned (.bool true) ∧ Below w.heap.size w w'
/-- A made patch in its box. -/
def Bx (W : World) (B : Nat) (hs : List PH) (v : Value) : Prop := Blk W B tPat [.string oB, .string nB, v] ∧ RdP W v hs
end Uf
end
section
namespace Cm
end Cm
namespace Hn
end Hn
namespace Sc
end Sc
namespace Tx
end Tx
open Go.RowKit
namespace Uf
open Cm Hn
open Sc (Pow RdK)
open Tx (bs)
/-- A patch in its box. -/
def BxP (W : World) (B : Nat) (p : Pat) (v : Value) : Prop := Blk W B tPat [.string p.on, .string p.nn, v] ∧ RdP W v p.hunks
theorem BxP.below {W W' : World} {B : Nat} {p : Pat} {v : Value} (h : BxP W B p v) (hb : Below W.heap.size W W') : BxP W' B p v := ⟨h.1.below hb, h.2.below hb⟩
theorem BxP.new {W : World} {p : Pat} {v : Value} (h : RdP W v p.hunks) : BxP (W.alloc (.cells #[.string p.on, .string p.nn, v] tPat)) W.heap.size p v := ⟨heap_new W _, h.below ((Below.refl _ W).alloc (Nat.le_refl _) _)⟩
theorem BxP.cells {W : World} {B : Nat} {p : Pat} {v : Value} (h : BxP W B p v) : W.cell? ⟨B, 0, none⟩ = some (.string p.on) ∧ W.cell? ⟨B, 1, none⟩ = some (.string p.nn) ∧ W.cell? ⟨B, 2, none⟩ = some v := ⟨h.1.cell (k := 0) (show 0 < 3 by decide), h.1.cell (k := 1) (show 1 < 3 by decide), h.1.cell (k := 2) (show 2 < 3 by decide)⟩
end Uf
end
end
section
section
namespace Cm
end Cm
namespace Hn
end Hn
namespace Sc
end Sc
namespace Tx
end Tx
namespace Uf
end Uf
open Go.RowKit
namespace Pa
open Cm Uf Hn
open Sc (RdK flatK flatK_snoc ownK_below Pow)
open Tx (bs)
theorem step_app_phG {ops : Array Oper} {o : Oper} {a : Act} {K : Act → World → Prop} {Q : Exit → Act → World → Prop} {E : Prop} {w : World} (hgd : o.guard = none) (s x : Operand)
    (ho : o.op = .call { callee := .builtin .append, args := #[s, x], argTypes := #[tPhs, tPhs] })
    (base : Nat) (hs : List PH) (c : PH) (u v : Value) (hsv : a.eval s = v) (hown : OwnP base w v hs) (hu : OwnL base w u c.lines)
    (ad : Addr) (hx : a.eval x = .slice (some ad) 1 1) (hnews : ∀ (j : Nat) (z : Value), [Value.int .i64 c.old, .int .i64 c.new, u][j]? = some z → w.cell? (ad.add j) = some z)
    (hsz : hs.length + 1 ≤ 1000000) (hbase : base ≤ w.heap.size)
    (h : ∀ g cap w', OwnP base w' (.slice (some ⟨g, 0, none⟩) (hs.length + 1) cap) (hs ++ [c]) → Below base w w' → w.grownBy w' v.ownBlock → K (a.put o.dst (.slice (some ⟨g, 0, none⟩) (hs.length + 1) cap)) w') :
    if Region.wanted o (yielded ops a.tmps) = true then Oper.wp Tryz.prog o a w K Q else E := by
  obtain ⟨i0, hi0, hz0, hz1, hz2⟩ := info_parts info_ph
  obtain ⟨zs, h1, h2, h3⟩ := hown
  obtain ⟨Au, cu, eu⟩ := hu.form
  refine step_append_lies w hgd s x tPhs ho base tPh i0 zeroPh 3 40 Tryz.underlying24 hi0 hz0 hz1 hz2 rfl (by omega) v zs.length (flatK hunkC zs) hsv h1 ad 1 1 (hunkC ⟨c.old, c.new, u⟩) hx rfl hnews (one_hv ⟨c.old, c.new, u⟩ _ _ _ eu) (by omega) (by unfold maxLen; omega) (by omega) hbase w.heap.size rfl ?_
  intro g cap w' g1 g2 g3 g4
  have hb : Below base w w' := (Below.refl _ w).grown g2 hbase (fun k hk => (h1.lt k hk).1)
  rw [h2]
  refine h g cap w' ⟨zs ++ [⟨c.old, c.new, u⟩], by rw [List.length_append, List.length_singleton, flatK_snoc, ← h2]; exact g1, by simp [h2], fun j a b => ?_⟩ hb g2
  by_cases hj : j < zs.length
  · rw [List.getElem_append_left hj]
    have e : (hs ++ [c])[j] = hs[j]'(by omega) := List.getElem_append_left (by omega)
    rw [e]
    obtain ⟨k1, k2, k3⟩ := h3 j hj (by omega)
    exact ⟨k1, k2, World.ownsRow.kept k3 g2 (ownK_ne k3 h1 (by decide))⟩
  · have hj2 : j = zs.length := by rw [List.length_append, List.length_singleton] at a; omega
    subst hj2
    have e1 : (zs ++ [(⟨c.old, c.new, u⟩ : HV)])[zs.length] = ⟨c.old, c.new, u⟩ := by simp
    have e2 : (hs ++ [c])[zs.length] = c := by simp [h2]
    rw [e1, e2]
    exact ⟨rfl, rfl, World.ownsRow.kept hu g2 (ownK_ne hu h1 (by decide))⟩
theorem ownP_lt {base : Nat} {w : World} {v : Value} {hs : List PH} (h : OwnP base w v hs) : v.ownBlock ≠ some w.heap.size := by
  obtain ⟨zs, h1, _⟩ := h
  intro e
  have := (h1.lt _ e).2
  omega
theorem keep_blk {V w7 : World} {v : Value} {G : Nat} {t : TypeId} {l : List Value} (hB : Blk V G t l) (hg : V.grownBy w7 v.ownBlock) (hne : v.ownBlock ≠ some G) : Blk w7 G t l := (hg.block G hB.lt (fun e => hne e.symm)).trans hB
set_option maxRecDepth 100000 in
set_option maxHeartbeats 8000000 in
theorem Reverse_any (p : Pat) (v0 : Value) (w : World) (hr : RdP w v0 p.hunks) (hsm : PatSm p.hunks) (hfew : p.hunks.length ≤ 100000) (hl : ∀ h ∈ p.hunks, h.lines.length ≤ 100000) (hp : Pow w) : Calls Tryz.prog 19 #[tPatV p v0] w (PtPost (reverseF p).1 (reverseF p).2 w) := by
  have HBa := Lib.hid ((Below.refl w.heap.size w).alloc (Nat.le_refl _) (.cells #[.string p.on, .string p.nn, v0] tPat))
  have HB0 := Lib.hid (HBa.out.alloc HBa.out.size (.cells #[.string ⟨#[]⟩, .string ⟨#[]⟩, .slice none 0 0] tPat))
  have HR := Lib.hid (fun w' (hb : Below w.heap.size w w') => hr.below hb)
  obtain ⟨A, c, rfl⟩ := hr.form
  have HCk := Lib.hid (fun w' (hb : Below w.heap.size w w') => Check_any p _ w' (hr.below hb) hsm (hp.stays hb))
  unfold CkPost at HCk
  have HK0 : Hid (Blk ((w.alloc (.cells #[.string p.on, .string p.nn, .slice A p.hunks.length c] tPat)).alloc (.cells #[.string ⟨#[]⟩, .string ⟨#[]⟩, .slice none 0 0] tPat)) w.heap.size tPat [.string p.on, .string p.nn, .slice A p.hunks.length c]) := Lib.hid (Blk.alloc (heap_new w _) _)
  have HZ0 : Hid (Blk ((w.alloc (.cells #[.string p.on, .string p.nn, .slice A p.hunks.length c] tPat)).alloc (.cells #[.string ⟨#[]⟩, .string ⟨#[]⟩, .slice none 0 0] tPat)) (w.heap.size + 1) tPat [.string ⟨#[]⟩, .string ⟨#[]⟩, .slice none 0 0]) := Lib.hid (by
    have h := heap_new (w.alloc (.cells #[.string p.on, .string p.nn, .slice A p.hunks.length c] tPat)) (.cells #[.string ⟨#[]⟩, .string ⟨#[]⟩, .slice none 0 0] tPat)
    have e : (w.alloc (.cells #[.string p.on, .string p.nn, .slice A p.hunks.length c] tPat)).heap.size = w.heap.size + 1 := by simp
    rw [e] at h
    exact h)
  obtain ⟨W, hW⟩ : ∃ W, W = (w.alloc (.cells #[.string p.on, .string p.nn, .slice A p.hunks.length c] tPat)).alloc (.cells #[.string ⟨#[]⟩, .string ⟨#[]⟩, .slice none 0 0] tPat) := ⟨_, rfl⟩
  rw [← hW] at HB0 HK0 HZ0
  obtain ⟨k0, k1, k2, -, -⟩ := blk3 HK0.out
  clear hr hp HBa
  by_cases hc : chkC p = 0
  · have HE : Hid (∀ v w', OwnP w.heap.size w' v (p.hunks.map revH) → Below w.heap.size w w' → PtPost (reverseF p).1 (reverseF p).2 w (.returned (.tuple #[.agg #[.string p.nn, .string p.on, v], .int .i64 0])) w') := Lib.hid (fun v w' h1 h2 => by
      have e : reverseF p = (revP p, 0) := by unfold reverseF; rw [if_neg (fun h => h hc)]
      rw [e]
      exact ⟨v, rfl, h1, h2⟩)
    have HC1 := Lib.hid (HCk.out W HB0.out)
    rw [hc] at HC1
    generalize reverseF p = rp at *
    obtain ⟨on, nn, hs⟩ := p
    simp only at hsm hfew hl hc HR HCk HK0 HZ0 k0 k1 k2 HE HC1 hW ⊢
    have HLs := Lib.hid hl
    clear hc HCk hsm hl
    obtain ⟨N, hN⟩ : ∃ N, N = hs.length := ⟨_, rfl⟩
    have HN := Lib.hid hN.symm
    rw [← hN] at hfew HR HK0 k2 hW HC1 ⊢
    clear hN
    go_enter Tryz.func19, Tryz.ntmps19
    go_upto_region 1 with fail
    rw [← hW]
    clear hW
    go_wp2_with fail
    refine HC1.out.mono ?_
    rintro e w1 ⟨rfl, hb⟩
    have HB1 := Lib.hid (HB0.out.trans (hb.mono HB0.out.size))
    have HK1 := Lib.hid (HK0.out.below hb)
    have HZ1 := Lib.hid (HZ0.out.below hb)
    obtain ⟨k0, k1, k2, -, -⟩ := blk3 HK1.out
    have HI0 : Hid (MkI w1 nn on (w1.alloc (.cells #[.string nn, .string on, .slice none 0 0] tPat)) (.slice none 0 0) []) := Lib.hid ⟨(Below.refl _ _).alloc (Nat.le_refl _) _, heap_new w1 _, OwnP.nil _ _⟩
    have HK2 : Hid (Blk (w1.alloc (.cells #[.string nn, .string on, .slice none 0 0] tPat)) w.heap.size tPat [.string on, .string nn, .slice A N c]) := Lib.hid (HK1.out.alloc _)
    obtain ⟨W2, hW2⟩ : ∃ W2, W2 = w1.alloc (.cells #[.string nn, .string on, .slice none 0 0] tPat) := ⟨_, rfl⟩
    rw [← hW2] at HI0 HK2
    clear hb HC1 HK0 HZ0 HB0
    go_upto_region 5 with fail
    rw [← hW2]
    clear hW2
    obtain ⟨k0, k1, k2, -, -⟩ := blk3 HK2.out
    go_wp2_with fail
    go_loopw [22] (fun i wr => ∃ (j : Nat) (v : Value), j ≤ N ∧ i = .int .i64 j ∧ Hid (MkI w1 nn on wr v ((hs.take j).map revH))) (fun i _ => N - (intOf i).toNat)
    case atStart => exact ⟨0, _, Nat.zero_le _, rfl, HI0⟩
    case round =>
      obtain ⟨j, v, hj, rfl, HI⟩ := hrel
      obtain ⟨p0, p1, p2, pf, plt⟩ := blk3 HI.out.blk
      have HBw := Lib.hid (HB1.out.trans (HI.out.bel.mono HB1.out.size))
      by_cases hlt : j < N
      · have hx : j < hs.length := by rw [HN.out]; exact hlt
        have HTk : Hid ((hs.take (j + 1)).map revH = (hs.take j).map revH ++ [⟨hs[j].new, hs[j].old, hs[j].lines.map revL⟩]) := Lib.hid (by
          rw [List.take_succ_eq_append_getElem hx, List.map_append, List.map_singleton]
          rfl)
        have hlj : ((hs.take j).map revH).length + 1 ≤ 1000000 := by rw [List.length_map, List.length_take]; omega
        obtain ⟨bl, off, Ah, ch, rfl, c0, c1, c2, hrh⟩ := RdP_at (HR.out wr HBw.out) j hx
        have hls := HLs.out _ (List.getElem_mem hx)
        generalize hs[j] = h at *
        obtain ⟨ho, hn, ls⟩ := h
        simp only at c0 c1 c2 hrh hls HTk
        have HRl := Lib.hid (fun V (hV : Below wr.heap.size wr V) => reversed_any _ ls V (hrh.below hV) hls)
        unfold NewL at HRl
        have hrl : (ls.map revL).length = ls.length := List.length_map _
        generalize ls.map revL = rl at *
        generalize hM : ls.length = M at *
        have HLl := Lib.hid hrl
        clear hrl hrh
        have i1 : (0 : Int) ≤ (j : Int) := by omega
        have i2 : (j : Int) < (N : Int) := by omega
        generalize (hs.take j).map revH = ps at *
        clear hx hM
        go_upto_region 8 with fail
        have HA1 := Lib.hid ((Below.refl wr.heap.size wr).alloc (Nat.le_refl _) (.cells #[.int .i64 ho, .int .i64 hn, .slice Ah M ch] tPh))
        have HH1 : Hid (Blk (wr.alloc (.cells #[.int .i64 ho, .int .i64 hn, .slice Ah M ch] tPh)) wr.heap.size tPh [.int .i64 ho, .int .i64 hn, .slice Ah M ch]) := Lib.hid (heap_new wr _)
        obtain ⟨W1, hW1⟩ : ∃ W1, W1 = wr.alloc (.cells #[.int .i64 ho, .int .i64 hn, .slice Ah M ch] tPh) := ⟨_, rfl⟩
        rw [← hW1] at HA1 HH1 ⊢
        clear hW1
        have HI1 : Hid (MkI w1 nn on W1 v ps) := Lib.hid ⟨HI.out.bel.trans (HA1.out.mono HI.out.bel.size), HI.out.blk.below HA1.out, HI.out.own.below HA1.out⟩
        have HI0b := HI.out.blk.lt
        have HvB := Lib.hid (ownP_lt HI.out.own)
        have HRv := Lib.hid (fun V (hV : Below W1.heap.size W1 V) => HRl.out V (HA1.out.trans (hV.mono HA1.out.size)))
        clear HA1 HI c0 c1 c2 p0 p1 p2 pf plt HRl
        have hW1s : wr.heap.size < W1.heap.size := HH1.out.lt
        have hHB : w1.heap.size ≠ wr.heap.size := by have := HI0b; omega
        generalize wr.heap.size = HB at *
        have HFx : Hid (∀ V : World, Below W1.heap.size W1 V → V.cell? ⟨w1.heap.size, 2, none⟩ = some v ∧ V.cell? ⟨HB, 0, none⟩ = some (.int .i64 ho) ∧ V.cell? ⟨HB, 1, none⟩ = some (.int .i64 hn) ∧ V.cell? ⟨HB, 2, none⟩ = some (.slice Ah M ch)) := Lib.hid (fun V hV => by
          have b1 := HI1.out.blk.below hV
          have b2 := HH1.out.below hV
          exact ⟨b1.cell (k := 2) (show 2 < 3 by decide), b2.cell (k := 0) (show 0 < 3 by decide), b2.cell (k := 1) (show 1 < 3 by decide), b2.cell (k := 2) (show 2 < 3 by decide)⟩)
        have HNext : Hid (∀ (V w7 : World) (v7 : Value), Below W1.heap.size W1 V → OwnP (w1.heap.size + 1) w7 v7 (ps ++ [⟨hn, ho, rl⟩]) → Below (w1.heap.size + 1) V w7 → (w7.cell? ⟨w1.heap.size, 2, none⟩ = some v ∧ w7.frozen? ⟨w1.heap.size, 2, none⟩ = false) ∧ MkI w1 nn on (w7.setCell ⟨w1.heap.size, 2, none⟩ v7) v7 (ps ++ [⟨hn, ho, rl⟩])) := Lib.hid (fun V w7 v7 hV ho hb => by
          have hlt1 := HI1.out.blk.lt
          have b7 : Blk w7 w1.heap.size tPat [.string nn, .string on, v] := (hb.block w1.heap.size (by omega)).trans (HI1.out.blk.below hV)
          refine ⟨⟨b7.cell (k := 2) (show 2 < 3 by decide), b7.free 2⟩, ?_, b7.set 2 v7, ho.box (by omega)⟩
          have h1 : Below w1.heap.size w1 V := HI1.out.bel.trans (hV.mono (by omega))
          exact (h1.trans (hb.mono (by omega))).setCell (p := ⟨w1.heap.size, 2, none⟩) (Nat.le_refl _) _)
        have HKeep : Hid (∀ V w7 : World, Blk V HB tPh [.int .i64 ho, .int .i64 hn, .slice Ah M ch] → V.grownBy w7 v.ownBlock → Blk w7 HB tPh [.int .i64 ho, .int .i64 hn, .slice Ah M ch]) := Lib.hid (fun V w7 h1 h2 => keep_blk h1 h2 HvB.out)
        have hW1d : w1.heap.size + 1 ≤ W1.drew.heap.size := by have := HI1.out.blk.lt; show w1.heap.size + 1 ≤ W1.heap.size; omega
        have HAfter : Hid (∀ (w5 : World) (A5 : Option Addr) (c5 : Nat), OwnL W1.drew.heap.size w5 (.slice A5 rl.length c5) rl → Below W1.drew.heap.size W1.drew w5 →
            w5.cell? ⟨w1.heap.size, 2, none⟩ = some v ∧ (w5.alloc (.cells #[.int .i64 hn, .int .i64 ho, .slice A5 rl.length c5] tPh)).cell? ⟨w1.heap.size, 2, none⟩ = some v ∧
            OwnL (w1.heap.size + 1) (w5.alloc (.cells #[.int .i64 hn, .int .i64 ho, .slice A5 rl.length c5] tPh)) (.slice A5 rl.length c5) rl ∧
            OwnP (w1.heap.size + 1) (w5.alloc (.cells #[.int .i64 hn, .int .i64 ho, .slice A5 rl.length c5] tPh)) v ps ∧
            w1.heap.size + 1 ≤ (w5.alloc (.cells #[.int .i64 hn, .int .i64 ho, .slice A5 rl.length c5] tPh)).heap.size ∧
            Below W1.heap.size W1 (w5.alloc (.cells #[.int .i64 hn, .int .i64 ho, .slice A5 rl.length c5] tPh))) := Lib.hid (fun w5 A5 c5 ho' hb => by
          have hB : Below W1.heap.size W1 w5 := (Below.refl _ W1).drew.trans hb
          have hA := (Below.refl w5.heap.size w5).alloc (Nat.le_refl _) (.cells #[.int .i64 hn, .int .i64 ho, .slice A5 rl.length c5] tPh)
          have hB2 := hB.alloc hB.size (.cells #[.int .i64 hn, .int .i64 ho, .slice A5 rl.length c5] tPh)
          exact ⟨(HFx.out _ hB).1, (HFx.out _ hB2).1, (ho'.base hW1d).below hA, (HI1.out.own.below hB).below hA, Nat.le_trans hW1d hB2.size, hB2⟩)
        obtain ⟨a0, a1, a2, a3⟩ := HFx.out W1 (Below.refl _ _)
        have HSx : Hid (∀ V : World, Blk V HB tPh [.int .i64 ho, .int .i64 hn, .slice Ah M ch] → V.cell? ⟨HB, 0, none⟩ = some (.int .i64 ho) ∧ V.cell? ⟨HB, 1, none⟩ = some (.int .i64 hn) ∧ V.cell? ⟨HB, 2, none⟩ = some (.slice Ah M ch)) := Lib.hid (fun V b2 => ⟨b2.cell (k := 0) (show 0 < 3 by decide), b2.cell (k := 1) (show 1 < 3 by decide), b2.cell (k := 2) (show 2 < 3 by decide)⟩)
        have hPB := HI1.out.blk.lt
        have ne1 : w1.heap.size ≠ HB := hHB
        have ne2 : HB ≠ w1.heap.size := Ne.symm hHB
        have HBe : Hid (Below W1.heap.size W1 W1.drew) := Lib.hid (Below.refl _ W1).drew
        clear HFx HvB
        refine wp_region_held_drew (S := (fun V => V.cell? ⟨HB, 0, none⟩ = some (.int .i64 ho) ∧ V.cell? ⟨HB, 1, none⟩ = some (.int .i64 hn) ∧ V.cell? ⟨HB, 2, none⟩ = some (.slice Ah M ch))) (by kernel_rfl) (HSx.out _ (HH1.out.below HBe.out)) (fun hHeld => ?_)
        refine wpAnyH_take (i := 0) (v := .pointer (some ⟨w1.heap.size, 2, none⟩)) rfl (by kernel_rfl) (by kernel_rfl) (by kernel_rfl) (fun _ _ _ h => h) (Or.inl ⟨by kernel_rfl, ?_⟩) (by assumption) ?_
        · intro V hV
          obtain ⟨h0, h1, h2⟩ := hV
          go_simp
        change wpAnyH _ _ _ _ _ _ _ (Act.put _ (some 26) _) _
        simp only [Act.put, List.setIfInBounds_toArray, List.set_cons_zero, List.set_cons_succ]
        refine wpAnyH_take (i := 2) (v := .pointer (some ⟨HB, 1, none⟩)) rfl (by kernel_rfl) (by kernel_rfl) (by kernel_rfl) (fun _ _ _ h => h) (Or.inl ⟨by kernel_rfl, ?_⟩) (by assumption) ?_
        · intro V hV
          obtain ⟨h0, h1, h2⟩ := hV
          go_simp
        change wpAnyH _ _ _ _ _ _ _ (Act.put _ (some 28) _) _
        simp only [Act.put, List.setIfInBounds_toArray, List.set_cons_zero, List.set_cons_succ]
        refine wpAnyH_take (i := 3) (v := .int .i64 hn) rfl (by kernel_rfl) (by kernel_rfl) (by kernel_rfl) (fun _ _ _ h => h) (Or.inl ⟨by kernel_rfl, ?_⟩) (by assumption) ?_
        · intro V hV
          obtain ⟨h0, h1, h2⟩ := hV
          go_simp
        change wpAnyH _ _ _ _ _ _ _ (Act.put _ (some 29) _) _
        simp only [Act.put, List.setIfInBounds_toArray, List.set_cons_zero, List.set_cons_succ]
        refine wpAnyH_take (i := 4) (v := .pointer (some ⟨HB, 0, none⟩)) rfl (by kernel_rfl) (by kernel_rfl) (by kernel_rfl) (fun _ _ _ h => h) (Or.inl ⟨by kernel_rfl, ?_⟩) (by assumption) ?_
        · intro V hV
          obtain ⟨h0, h1, h2⟩ := hV
          go_simp
        change wpAnyH _ _ _ _ _ _ _ (Act.put _ (some 30) _) _
        simp only [Act.put, List.setIfInBounds_toArray, List.set_cons_zero, List.set_cons_succ]
        refine wpAnyH_take (i := 5) (v := .int .i64 ho) rfl (by kernel_rfl) (by kernel_rfl) (by kernel_rfl) (fun _ _ _ h => h) (Or.inl ⟨by kernel_rfl, ?_⟩) (by assumption) ?_
        · intro V hV
          obtain ⟨h0, h1, h2⟩ := hV
          go_simp
        change wpAnyH _ _ _ _ _ _ _ (Act.put _ (some 31) _) _
        simp only [Act.put, List.setIfInBounds_toArray, List.set_cons_zero, List.set_cons_succ]
        refine wpAnyH_take (i := 6) (v := .pointer (some ⟨HB, 2, none⟩)) rfl (by kernel_rfl) (by kernel_rfl) (by kernel_rfl) (fun _ _ _ h => h) (Or.inl ⟨by kernel_rfl, ?_⟩) (by assumption) ?_
        · intro V hV
          obtain ⟨h0, h1, h2⟩ := hV
          go_simp
        change wpAnyH _ _ _ _ _ _ _ (Act.put _ (some 32) _) _
        simp only [Act.put, List.setIfInBounds_toArray, List.set_cons_zero, List.set_cons_succ]
        refine wpAnyH_take (i := 7) (v := .slice Ah M ch) rfl (by kernel_rfl) (by kernel_rfl) (by kernel_rfl) (fun _ _ _ h => h) (Or.inl ⟨by kernel_rfl, ?_⟩) (by assumption) ?_
        · intro V hV
          obtain ⟨h0, h1, h2⟩ := hV
          go_simp
        change wpAnyH _ _ _ _ _ _ _ (Act.put _ (some 33) _) _
        simp only [Act.put, List.setIfInBounds_toArray, List.set_cons_zero, List.set_cons_succ]
        refine wpAnyH_ready (rs := [1, 8]) (by kernel_rfl) (by simp) ?_
        refine AllReadyH.cons rfl (fun K hK => ?_) (AllReadyH.cons rfl (fun K hK => ?_) AllReadyH.nil)
        · skip
          go_simp
          refine hK.out _ _ (HSx.out _ (HH1.out.below HBe.out)) (fun hHeld => ?_)
          clear hK K
          refine wpAnyH_ready (rs := [8]) (by kernel_rfl) (by simp) ?_
          refine AllReadyH.cons rfl (fun K hK => ?_) AllReadyH.nil
          go_simp
          go_at_call 44
          refine (HRv.out W1.drew (Below.refl _ W1).drew).mono ?_
          rintro e w5 ⟨v5, rfl, ho5, hb5⟩
          obtain ⟨A5, c5, rfl⟩ := ho5.form
          obtain ⟨b0, b1, hu5, hp5, hs5, hB5⟩ := HAfter.out w5 A5 c5 ho5 hb5
          have HB5 := Lib.hid ((Below.refl _ W1).drew.trans hb5)
          have HU5 := Lib.hid hu5
          have HP5 := Lib.hid hp5
          have HBA5 := Lib.hid hB5
          clear hu5 hp5 hB5 ho5 hb5
          go_wp2_with fail
          refine hK.out _ _ (HSx.out _ (HH1.out.below HB5.out)) (fun hHeld => ?_)
          clear hK K
          refine wpAnyH_take (i := 9) (v := .agg #[.int .i64 hn, .int .i64 ho, .slice A5 rl.length c5]) rfl (by kernel_rfl) (by kernel_rfl) (by kernel_rfl) (fun _ _ _ h => h) (Or.inl ⟨by kernel_rfl, ?_⟩) (by assumption) ?_
          · intro V hV
            obtain ⟨h0, h1, h2⟩ := hV
            go_simp
          change wpAnyH _ _ _ _ _ _ _ (Act.put _ (some 35) _) _
          simp only [Act.put, List.setIfInBounds_toArray, List.set_cons_zero, List.set_cons_succ]
          refine wpAnyH_ready (rs := [10]) (by kernel_rfl) (by simp) ?_
          refine AllReadyH.cons rfl (fun K hK => ?_) AllReadyH.nil
          go_simp
          refine hK.out _ _ (HSx.out _ (HH1.out.below HBA5.out)) (fun hHeld => ?_)
          clear hK K
          refine wpAnyH_ready (rs := [11]) (by kernel_rfl) (by simp) ?_
          refine AllReadyH.cons rfl (fun K hK => ?_) AllReadyH.nil
          refine step_app_phG (by rfl) (.tmp 27) (.tmp 36) (by rfl) (w1.heap.size + 1) ps ⟨hn, ho, rl⟩ _ v (by rfl) HP5.out HU5.out ⟨w5.heap.size, 0, none⟩ (by rfl) (World.news_of_block (cs := #[.int .i64 hn, .int .i64 ho, .slice A5 rl.length c5]) (t := tPh) (fr := (0, 0)) (heap_new w5 _)) hlj hs5 ?_
          intro g7 cap7 w7 ho7 hb7 hg7
          obtain ⟨⟨e0, e1⟩, hmk7⟩ := HNext.out _ _ _ HBA5.out ho7 hb7
          have HM7 := Lib.hid hmk7
          have HH7 := Lib.hid (HKeep.out _ _ (HH1.out.below HBA5.out) hg7)
          clear ho7 hb7 hmk7 hg7
          refine hK.out _ _ (HSx.out _ HH7.out) (fun hHeld => ?_)
          clear hK K
          simp only [Act.put, List.setIfInBounds_toArray]
          refine wpAnyH_take (i := 12) (v := .pointer (some ⟨w1.heap.size, 2, none⟩)) rfl (by kernel_rfl) (by kernel_rfl) (by kernel_rfl) (fun _ _ _ h => h) (Or.inl ⟨by kernel_rfl, ?_⟩) (by assumption) ?_
          · intro V hV
            obtain ⟨h0, h1, h2⟩ := hV
            go_simp
          change wpAnyH _ _ _ _ _ _ _ (Act.put _ (some 38) _) _
          simp only [Act.put]
          refine wpAnyH_ready (rs := [13]) (by kernel_rfl) (by simp) ?_
          refine AllReadyH.cons rfl (fun K hK => ?_) AllReadyH.nil
          go_simp
          refine hK.out _ _ (HSx.out _ (HH7.out.set_ne ne2 _ _)) (fun hHeld => ?_)
          clear hK K
          refine wpAnyH_done (by kernel_rfl) ?_ _
          go_wp2_with fail
          go_roundw
          case rel => exact ⟨j + 1, _, by omega, by go_num, by rw [HTk.out]; exact HM7⟩
          case measure => simp [intOf]; omega
        · skip
          go_simp
          go_at_call 44
          refine (HRv.out W1.drew (Below.refl _ W1).drew).mono ?_
          rintro e w5 ⟨v5, rfl, ho5, hb5⟩
          obtain ⟨A5, c5, rfl⟩ := ho5.form
          obtain ⟨b0, b1, hu5, hp5, hs5, hB5⟩ := HAfter.out w5 A5 c5 ho5 hb5
          have HB5 := Lib.hid ((Below.refl _ W1).drew.trans hb5)
          have HU5 := Lib.hid hu5
          have HP5 := Lib.hid hp5
          have HBA5 := Lib.hid hB5
          clear hu5 hp5 hB5 ho5 hb5
          go_wp2_with fail
          refine hK.out _ _ (HSx.out _ (HH1.out.below HB5.out)) (fun hHeld => ?_)
          clear hK K
          refine wpAnyH_take (i := 9) (v := .agg #[.int .i64 hn, .int .i64 ho, .slice A5 rl.length c5]) rfl (by kernel_rfl) (by kernel_rfl) (by kernel_rfl) (fun _ _ _ h => h) (Or.inl ⟨by kernel_rfl, ?_⟩) (by assumption) ?_
          · intro V hV
            obtain ⟨h0, h1, h2⟩ := hV
            go_simp
          change wpAnyH _ _ _ _ _ _ _ (Act.put _ (some 35) _) _
          simp only [Act.put, List.setIfInBounds_toArray, List.set_cons_zero, List.set_cons_succ]
          refine wpAnyH_ready (rs := [1, 10]) (by kernel_rfl) (by simp) ?_
          refine AllReadyH.cons rfl (fun K hK => ?_) (AllReadyH.cons rfl (fun K hK => ?_) AllReadyH.nil)
          · skip
            go_simp
            refine hK.out _ _ (HSx.out _ (HH1.out.below HB5.out)) (fun hHeld => ?_)
            clear hK K
            refine wpAnyH_ready (rs := [10]) (by kernel_rfl) (by simp) ?_
            refine AllReadyH.cons rfl (fun K hK => ?_) AllReadyH.nil
            go_simp
            refine hK.out _ _ (HSx.out _ (HH1.out.below HBA5.out)) (fun hHeld => ?_)
            clear hK K
            refine wpAnyH_ready (rs := [11]) (by kernel_rfl) (by simp) ?_
            refine AllReadyH.cons rfl (fun K hK => ?_) AllReadyH.nil
            refine step_app_phG (by rfl) (.tmp 27) (.tmp 36) (by rfl) (w1.heap.size + 1) ps ⟨hn, ho, rl⟩ _ v (by rfl) HP5.out HU5.out ⟨w5.heap.size, 0, none⟩ (by rfl) (World.news_of_block (cs := #[.int .i64 hn, .int .i64 ho, .slice A5 rl.length c5]) (t := tPh) (fr := (0, 0)) (heap_new w5 _)) hlj hs5 ?_
            intro g7 cap7 w7 ho7 hb7 hg7
            obtain ⟨⟨e0, e1⟩, hmk7⟩ := HNext.out _ _ _ HBA5.out ho7 hb7
            have HM7 := Lib.hid hmk7
            have HH7 := Lib.hid (HKeep.out _ _ (HH1.out.below HBA5.out) hg7)
            clear ho7 hb7 hmk7 hg7
            refine hK.out _ _ (HSx.out _ HH7.out) (fun hHeld => ?_)
            clear hK K
            simp only [Act.put, List.setIfInBounds_toArray]
            refine wpAnyH_take (i := 12) (v := .pointer (some ⟨w1.heap.size, 2, none⟩)) rfl (by kernel_rfl) (by kernel_rfl) (by kernel_rfl) (fun _ _ _ h => h) (Or.inl ⟨by kernel_rfl, ?_⟩) (by assumption) ?_
            · intro V hV
              obtain ⟨h0, h1, h2⟩ := hV
              go_simp
            change wpAnyH _ _ _ _ _ _ _ (Act.put _ (some 38) _) _
            simp only [Act.put]
            refine wpAnyH_ready (rs := [13]) (by kernel_rfl) (by simp) ?_
            refine AllReadyH.cons rfl (fun K hK => ?_) AllReadyH.nil
            go_simp
            refine hK.out _ _ (HSx.out _ (HH7.out.set_ne ne2 _ _)) (fun hHeld => ?_)
            clear hK K
            refine wpAnyH_done (by kernel_rfl) ?_ _
            go_wp2_with fail
            go_roundw
            case rel => exact ⟨j + 1, _, by omega, by go_num, by rw [HTk.out]; exact HM7⟩
            case measure => simp [intOf]; omega
          · skip
            go_simp
            refine hK.out _ _ (HSx.out _ (HH1.out.below HBA5.out)) (fun hHeld => ?_)
            clear hK K
            refine wpAnyH_ready (rs := [1]) (by kernel_rfl) (by simp) ?_
            refine AllReadyH.cons rfl (fun K hK => ?_) AllReadyH.nil
            go_simp
            refine hK.out _ _ (HSx.out _ (HH1.out.below HBA5.out)) (fun hHeld => ?_)
            clear hK K
            refine wpAnyH_ready (rs := [11]) (by kernel_rfl) (by simp) ?_
            refine AllReadyH.cons rfl (fun K hK => ?_) AllReadyH.nil
            refine step_app_phG (by rfl) (.tmp 27) (.tmp 36) (by rfl) (w1.heap.size + 1) ps ⟨hn, ho, rl⟩ _ v (by rfl) HP5.out HU5.out ⟨w5.heap.size, 0, none⟩ (by rfl) (World.news_of_block (cs := #[.int .i64 hn, .int .i64 ho, .slice A5 rl.length c5]) (t := tPh) (fr := (0, 0)) (heap_new w5 _)) hlj hs5 ?_
            intro g7 cap7 w7 ho7 hb7 hg7
            obtain ⟨⟨e0, e1⟩, hmk7⟩ := HNext.out _ _ _ HBA5.out ho7 hb7
            have HM7 := Lib.hid hmk7
            have HH7 := Lib.hid (HKeep.out _ _ (HH1.out.below HBA5.out) hg7)
            clear ho7 hb7 hmk7 hg7
            refine hK.out _ _ (HSx.out _ HH7.out) (fun hHeld => ?_)
            clear hK K
            simp only [Act.put, List.setIfInBounds_toArray]
            refine wpAnyH_take (i := 12) (v := .pointer (some ⟨w1.heap.size, 2, none⟩)) rfl (by kernel_rfl) (by kernel_rfl) (by kernel_rfl) (fun _ _ _ h => h) (Or.inl ⟨by kernel_rfl, ?_⟩) (by assumption) ?_
            · intro V hV
              obtain ⟨h0, h1, h2⟩ := hV
              go_simp
            change wpAnyH _ _ _ _ _ _ _ (Act.put _ (some 38) _) _
            simp only [Act.put]
            refine wpAnyH_ready (rs := [13]) (by kernel_rfl) (by simp) ?_
            refine AllReadyH.cons rfl (fun K hK => ?_) AllReadyH.nil
            go_simp
            refine hK.out _ _ (HSx.out _ (HH7.out.set_ne ne2 _ _)) (fun hHeld => ?_)
            clear hK K
            refine wpAnyH_done (by kernel_rfl) ?_ _
            go_wp2_with fail
            go_roundw
            case rel => exact ⟨j + 1, _, by omega, by go_num, by rw [HTk.out]; exact HM7⟩
            case measure => simp [intOf]; omega
      · obtain rfl : j = N := by omega
        have hgs : hs.take j = hs := by rw [← HN.out, List.take_length]
        rw [hgs] at HI
        have hww := HZ1.out.lt
        obtain ⟨z0, z1, z2, fz, hlt2⟩ := blk3 (HZ1.out.below HI.out.bel)
        have HFin : Hid (OwnP w.heap.size (((wr.setCell ⟨w.heap.size + 1, 0, none⟩ (.string nn)).setCell ⟨w.heap.size + 1, 1, none⟩ (.string on)).setCell ⟨w.heap.size + 1, 2, none⟩ v) v (hs.map revH) ∧ Below w.heap.size w (((wr.setCell ⟨w.heap.size + 1, 0, none⟩ (.string nn)).setCell ⟨w.heap.size + 1, 1, none⟩ (.string on)).setCell ⟨w.heap.size + 1, 2, none⟩ v)) := Lib.hid (by
          have hb : Below w.heap.size w wr := HBw.out
          refine ⟨(((HI.out.own.box (o := 0) (u := .string nn) (show w.heap.size + 1 < w1.heap.size + 1 by omega)).box (o := 1) (u := .string on) (show w.heap.size + 1 < w1.heap.size + 1 by omega)).box (o := 2) (u := v) (show w.heap.size + 1 < w1.heap.size + 1 by omega)).base (by omega), ?_⟩
          exact ((hb.setCell (p := ⟨w.heap.size + 1, 0, none⟩) (Nat.le_succ _) _).setCell (p := ⟨w.heap.size + 1, 1, none⟩) (Nat.le_succ _) _).setCell (p := ⟨w.heap.size + 1, 2, none⟩) (Nat.le_succ _) _)
        obtain ⟨Av, cv, hv⟩ := HI.out.own.form
        rw [List.length_map] at hv
        subst hv
        have hd : decide ((j : Int) < (j : Int)) = false := decide_eq_false (by omega)
        go_wp2_with fail
        exact bodyPost_ret (v := .tuple #[.agg #[.string nn, .string on, .slice Av hs.length cv], .int .i64 0]) (by simp [results, Tryz.f19, go_sem, z0, z1, z2]) rfl (HE.out _ _ HFin.out.1 HFin.out.2)
  · have HD : Hid (∀ w', Below w.heap.size w w' → PtPost (reverseF p).1 (reverseF p).2 w (.returned (.tuple #[.agg #[.string ⟨#[]⟩, .string ⟨#[]⟩, .slice none 0 0], .int .i64 (chkC p)])) w') := Lib.hid (fun w' hb => by
      have e : reverseF p = (⟨⟨#[]⟩, ⟨#[]⟩, []⟩, chkC p) := by unfold reverseF; rw [if_pos hc]
      rw [e]
      exact ⟨_, rfl, OwnP.nil _ _, hb⟩)
    have HC1 := Lib.hid (HCk.out W HB0.out)
    have d1 : (chkC p != 0) = true := by rw [bne_iff_ne]; exact hc
    clear hc HCk hsm hfew hl
    generalize chkC p = z at *
    generalize reverseF p = rp at *
    go_enter Tryz.func19, Tryz.ntmps19
    go_upto_region 1 with fail
    rw [← hW]
    clear hW
    go_wp2_with fail
    refine HC1.out.mono ?_
    rintro e w1 ⟨rfl, hb⟩
    have HB1 := Lib.hid (HB0.out.trans (hb.mono HB0.out.size))
    obtain ⟨z0, z1, z2, fz, hlt⟩ := blk3 (HZ0.out.below hb)
    have HB4 := Lib.hid (((HB1.out.setCell (p := ⟨w.heap.size + 1, 0, none⟩) (Nat.le_succ _) (.string ⟨#[]⟩)).setCell (p := ⟨w.heap.size + 1, 1, none⟩) (Nat.le_succ _) (.string ⟨#[]⟩)).setCell (p := ⟨w.heap.size + 1, 2, none⟩) (Nat.le_succ _) (.slice none 0 0))
    clear hb HC1 HB0 HZ0 HK0
    go_wp2_with fail
    exact bodyPost_ret (v := .tuple #[.agg #[.string ⟨#[]⟩, .string ⟨#[]⟩, .slice none 0 0], .int .i64 z]) (by simp [results, Tryz.f19, go_sem, z0, z1, z2]) rfl (HD.out _ HB4.out)
end Pa
end
section
namespace Cm
end Cm
namespace Hn
end Hn
namespace Sc
end Sc
namespace Uf
end Uf
open Go.RowKit
namespace Pa
open Cm Uf Hn
open Sc (RdK flatK flatK_snoc ownK_below Pow)
theorem HkI.lift {wo wr W : World} {a b : Int} {v : Value} {L : List Ln} (h : HkI wo a b wr v L) (hb : Below wr.heap.size wr W) : HkI wo a b W v L := ⟨h.bel.trans (hb.mono h.bel.size), h.blk.below hb, h.own.below hb⟩
set_option maxRecDepth 100000 in
set_option maxHeartbeats 8000000 in
theorem ReverseR_any (p : Pat) (v0 : Value) (w : World) (hr : RdP w v0 p.hunks) (hsh : ShOk p) (hfew : p.hunks.length ≤ 100000) (hl : ∀ h ∈ p.hunks, h.lines.length ≤ 100000) : Calls Tryz.prog 20 #[tPatV p v0] w (PtPost (reverseF p).1 (reverseF p).2 w) := by
  have HBa := Lib.hid ((Below.refl w.heap.size w).alloc (Nat.le_refl _) (.cells #[.string p.on, .string p.nn, v0] tPat))
  have HB0 := Lib.hid (HBa.out.alloc HBa.out.size (.cells #[.string ⟨#[]⟩, .string ⟨#[]⟩, .slice none 0 0] tPat))
  have HR := Lib.hid (fun w' (hb : Below w.heap.size w w') => hr.below hb)
  obtain ⟨A, c, rfl⟩ := hr.form
  have HCk := Lib.hid (fun w' (hb : Below w.heap.size w w') => CheckR_any p _ w' (hr.below hb) hsh)
  unfold CkPost at HCk
  have HK0 : Hid (Blk ((w.alloc (.cells #[.string p.on, .string p.nn, .slice A p.hunks.length c] tPat)).alloc (.cells #[.string ⟨#[]⟩, .string ⟨#[]⟩, .slice none 0 0] tPat)) w.heap.size tPat [.string p.on, .string p.nn, .slice A p.hunks.length c]) := Lib.hid (Blk.alloc (heap_new w _) _)
  have HZ0 : Hid (Blk ((w.alloc (.cells #[.string p.on, .string p.nn, .slice A p.hunks.length c] tPat)).alloc (.cells #[.string ⟨#[]⟩, .string ⟨#[]⟩, .slice none 0 0] tPat)) (w.heap.size + 1) tPat [.string ⟨#[]⟩, .string ⟨#[]⟩, .slice none 0 0]) := Lib.hid (by
    have h := heap_new (w.alloc (.cells #[.string p.on, .string p.nn, .slice A p.hunks.length c] tPat)) (.cells #[.string ⟨#[]⟩, .string ⟨#[]⟩, .slice none 0 0] tPat)
    have e : (w.alloc (.cells #[.string p.on, .string p.nn, .slice A p.hunks.length c] tPat)).heap.size = w.heap.size + 1 := by simp
    rw [e] at h
    exact h)
  obtain ⟨W, hW⟩ : ∃ W, W = (w.alloc (.cells #[.string p.on, .string p.nn, .slice A p.hunks.length c] tPat)).alloc (.cells #[.string ⟨#[]⟩, .string ⟨#[]⟩, .slice none 0 0] tPat) := ⟨_, rfl⟩
  rw [← hW] at HB0 HK0 HZ0
  obtain ⟨k0, k1, k2, -, -⟩ := blk3 HK0.out
  clear hr HBa
  by_cases hc : chkC p = 0
  · have HE : Hid (∀ v w', OwnP w.heap.size w' v (p.hunks.map revH) → Below w.heap.size w w' → PtPost (reverseF p).1 (reverseF p).2 w (.returned (.tuple #[.agg #[.string p.nn, .string p.on, v], .int .i64 0])) w') := Lib.hid (fun v w' h1 h2 => by
      have e : reverseF p = (revP p, 0) := by unfold reverseF; rw [if_neg (fun h => h hc)]
      rw [e]
      exact ⟨v, rfl, h1, h2⟩)
    have HC1 := Lib.hid (HCk.out W HB0.out)
    rw [hc] at HC1
    generalize reverseF p = rp at *
    obtain ⟨on, nn, hs⟩ := p
    simp only at hfew hl hc HR HCk HK0 HZ0 k0 k1 k2 HE HC1 hW ⊢
    have HLs := Lib.hid hl
    clear hc HCk hsh hl
    obtain ⟨N, hN⟩ : ∃ N, N = hs.length := ⟨_, rfl⟩
    have HN := Lib.hid hN.symm
    rw [← hN] at hfew HR HK0 k2 hW HC1 ⊢
    clear hN
    go_enter Tryz.func20, Tryz.ntmps20
    go_upto_region 1 with fail
    rw [← hW]
    clear hW
    go_wp2_with fail
    refine HC1.out.mono ?_
    rintro e w1 ⟨rfl, hb⟩
    have HB1 := Lib.hid (HB0.out.trans (hb.mono HB0.out.size))
    have HK1 := Lib.hid (HK0.out.below hb)
    have HZ1 := Lib.hid (HZ0.out.below hb)
    obtain ⟨k0, k1, k2, -, -⟩ := blk3 HK1.out
    have HI0 : Hid (MkI w1 nn on (w1.alloc (.cells #[.string nn, .string on, .slice none 0 0] tPat)) (.slice none 0 0) []) := Lib.hid ⟨(Below.refl _ _).alloc (Nat.le_refl _) _, heap_new w1 _, OwnP.nil _ _⟩
    have HK2 : Hid (Blk (w1.alloc (.cells #[.string nn, .string on, .slice none 0 0] tPat)) w.heap.size tPat [.string on, .string nn, .slice A N c]) := Lib.hid (HK1.out.alloc _)
    obtain ⟨W2, hW2⟩ : ∃ W2, W2 = w1.alloc (.cells #[.string nn, .string on, .slice none 0 0] tPat) := ⟨_, rfl⟩
    rw [← hW2] at HI0 HK2
    clear hb HC1 HK0 HZ0 HB0
    go_upto_region 5 with fail
    rw [← hW2]
    clear hW2
    obtain ⟨k0, k1, k2, -, -⟩ := blk3 HK2.out
    go_wp2_with fail
    go_loopw [6] (fun i wr => ∃ (j : Nat) (v : Value), j ≤ N ∧ i = .int .i64 j ∧ Hid (MkI w1 nn on wr v ((hs.take j).map revH))) (fun i _ => N - (intOf i).toNat)
    case atStart => exact ⟨0, _, Nat.zero_le _, rfl, HI0⟩
    case round =>
      obtain ⟨j, v, hj, rfl, HI⟩ := hrel
      obtain ⟨wo, rfl⟩ : ∃ wo, wo = wr := ⟨wr, rfl⟩
      obtain ⟨p0, p1, p2, pf, plt⟩ := blk3 HI.out.blk
      have HBw := Lib.hid (HB1.out.trans (HI.out.bel.mono HB1.out.size))
      have HPc := Lib.hid (fun V (hV : Below w1.heap.size w1 V) => (blk3 (HK1.out.below hV)).2.2.1)
      have k2 := HPc.out wo HI.out.bel
      by_cases hlt : j < N
      · have hx : j < hs.length := by rw [HN.out]; exact hlt
        have HTk : Hid ((hs.take (j + 1)).map revH = (hs.take j).map revH ++ [⟨hs[j].new, hs[j].old, hs[j].lines.map revL⟩]) := Lib.hid (by
          rw [List.take_succ_eq_append_getElem hx, List.map_append, List.map_singleton]
          rfl)
        have hlj : ((hs.take j).map revH).length + 1 ≤ 1000000 := by rw [List.length_map, List.length_take]; omega
        obtain ⟨bl, off, Ah, ch, rfl, c0, c1, c2, hrh⟩ := RdP_at (HR.out w (Below.refl _ _)) j hx
        have hls := HLs.out _ (List.getElem_mem hx)
        generalize hs[j] = h at *
        obtain ⟨ho, hn, ls⟩ := h
        simp only at c0 c1 c2 hrh hls HTk
        have HCc := Lib.hid (fun V (hV : Below w.heap.size w V) => (⟨(hV.cell (Tx.cell_lt c0)).trans c0, (hV.cell (Tx.cell_lt c1)).trans c1, (hV.cell (Tx.cell_lt c2)).trans c2⟩ : V.cell? ⟨bl, off + j * 3, none⟩ = some (.int .i64 ho) ∧ V.cell? ⟨bl, off + j * 3 + 1, none⟩ = some (.int .i64 hn) ∧ V.cell? ⟨bl, off + j * 3 + 2, none⟩ = some (.slice Ah ls.length ch)))
        have HRh := Lib.hid (fun V (hV : Below w.heap.size w V) => hrh.below hV)
        clear c0 c1 c2 hrh
        generalize hM : ls.length = M at *
        have HM := Lib.hid hM
        have i1 : (0 : Int) ≤ (j : Int) := by omega
        have i2 : (j : Int) < (N : Int) := by omega
        generalize (hs.take j).map revH = ps at *
        clear hx hM
        obtain ⟨c0, c1, c2⟩ := HCc.out wo HBw.out
        have hk1 : Hid (HkI wo hn ho (wo.alloc (.cells #[.int .i64 hn, .int .i64 ho, .slice none 0 0] tPh)).drew (.slice none 0 0) []) := Lib.hid (HkI.drew ⟨(Below.refl _ wo).alloc (Nat.le_refl _) _, heap_new wo _, World.ownsRow_nil _ _ _ _⟩)
        have hk2 : Hid (HkI wo hn ho (wo.drew.alloc (.cells #[.int .i64 hn, .int .i64 ho, .slice none 0 0] tPh)) (.slice none 0 0) []) := Lib.hid (⟨(Below.refl _ wo).drew.alloc (Nat.le_refl _) _, heap_new wo.drew _, World.ownsRow_nil _ _ _ _⟩)
        have r2 : ∀ o : Obj, (wo.alloc o).cell? ⟨w.heap.size, 2, none⟩ = some (.slice (some ⟨bl, off, none⟩) N c) := fun o => HPc.out _ (HI.out.bel.trans (((Below.refl wo.heap.size wo).alloc (Nat.le_refl _) o).mono HI.out.bel.size))
        have s0 : ∀ o : Obj, (wo.alloc o).cell? ⟨bl, off + j * 3, none⟩ = some (.int .i64 ho) := fun o => (HCc.out _ (HBw.out.trans (((Below.refl wo.heap.size wo).alloc (Nat.le_refl _) o).mono HBw.out.size))).1
        have s1 : ∀ o : Obj, (wo.alloc o).cell? ⟨bl, off + j * 3 + 1, none⟩ = some (.int .i64 hn) := fun o => (HCc.out _ (HBw.out.trans (((Below.refl wo.heap.size wo).alloc (Nat.le_refl _) o).mono HBw.out.size))).2.1
        go_upto_region 8 with fail
        go_cut [7] from 28 to 40 (fun q wx => q = .pointer (some ⟨wo.heap.size, 0, none⟩) ∧ Hid (HkI wo hn ho wx (.slice none 0 0) []))
        case first =>
          go_region
          all_goals
            go_wp2_with fail
            go_meet
            case rel => first | exact ⟨rfl, hk1⟩ | exact ⟨rfl, hk2⟩
        case rest =>
          obtain ⟨rfl, HK⟩ := hcut
          clear hk1 hk2 r2 s0 s1 c0 c1 c2 k0 k1 k2 p0 p1 p2 pf plt
          go_wp2_with fail
          go_loopw [8] (fun i wx => ∃ (m : Nat) (u : Value), m ≤ M ∧ i = .int .i64 m ∧ Hid (HkI wo hn ho wx u ((ls.take m).map revL))) (fun i _ => M - (intOf i).toNat)
          case atStart => exact ⟨0, _, Nat.zero_le _, rfl, HK⟩
          case round =>
            obtain ⟨m, u, hm, rfl, HH⟩ := hrel
            have HBq := Lib.hid (HBw.out.trans (HH.out.bel.mono HBw.out.size))
            have k2 := HPc.out wr (HI.out.bel.trans (HH.out.bel.mono HI.out.bel.size))
            obtain ⟨c0, c1, c2⟩ := HCc.out wr HBq.out
            by_cases hl2 : m < M
            · have hx2 : m < ls.length := by rw [HM.out]; exact hl2
              obtain ⟨b3, o3, rfl, u0, u1⟩ := RdL_at (HRh.out wr HBq.out) m hx2
              have HTm : Hid ((ls.take (m + 1)).map revL = (ls.take m).map revL ++ [⟨flipK ls[m].kind, ls[m].text⟩]) := Lib.hid (by
                rw [List.take_succ_eq_append_getElem hx2, List.map_append, List.map_singleton]
                rfl)
              have hlm : ((ls.take m).map revL).length + 1 ≤ 1000000 := by rw [List.length_map, List.length_take]; omega
              generalize ls[m].kind = kk at *
              generalize ls[m].text = t at *
              generalize (ls.take m).map revL = L at *
              have i3 : (0 : Int) ≤ (m : Int) := by omega
              have i4 : (m : Int) < (M : Int) := by omega
              have HL1 := Lib.hid ((Below.refl wr.heap.size wr).alloc (Nat.le_refl _) (.cells #[.int .u8 kk, .string t] tLn))
              have HX1 : Hid (Blk (wr.alloc (.cells #[.int .u8 kk, .string t] tLn)) wr.heap.size tLn [.int .u8 kk, .string t]) := Lib.hid (heap_new wr _)
              obtain ⟨W1, hW1⟩ : ∃ W1, W1 = wr.alloc (.cells #[.int .u8 kk, .string t] tLn) := ⟨_, rfl⟩
              rw [← hW1] at HL1 HX1
              go_upto_region 13 with fail
              rw [← hW1]
              clear hW1 c0 c1 c2 k2 u0 u1
              generalize hX : wr.heap.size = X at *
              have x0 := HX1.out.cell (k := 0) (show 0 < 2 by decide)
              have x1 := HX1.out.cell (k := 1) (show 1 < 2 by decide)
              have xf : ∀ k, W1.frozen? ⟨X, k, none⟩ = false := fun k => by have h := HX1.out; unfold Blk at h; simp [World.frozen?, h]
              simp only [List.getElem_cons_zero, List.getElem_cons_succ] at x0 x1
              have HLift : Hid (∀ V, Below X wr V → HkI wo hn ho V u L) := Lib.hid (fun V hV => HkI.lift HH.out (by rw [hX]; exact hV))
              clear HH
              by_cases q1 : kk = 45
              · subst q1
                rw [show flipK 45 = 43 from rfl] at HTm
                have HHz := Lib.hid (HLift.out (W1.setCell ⟨X, 0, none⟩ (.int .u8 43)) (HL1.out.setCell (p := ⟨X, 0, none⟩) (Nat.le_refl _) _))
                have HXz : Hid (Blk (W1.setCell ⟨X, 0, none⟩ (.int .u8 43)) X tLn [.int .u8 43, .string t]) := Lib.hid (HX1.out.set 0 _)
                obtain ⟨Wz, hWz⟩ : ∃ Wz, Wz = W1.setCell ⟨X, 0, none⟩ (.int .u8 43) := ⟨_, rfl⟩
                rw [← hWz] at HHz HXz
                go_upto_region 18 with fail
                rw [← hWz]
                clear hWz x0 x1 xf
                have x0 := HXz.out.cell (k := 0) (show 0 < 2 by decide)
                have x1 := HXz.out.cell (k := 1) (show 1 < 2 by decide)
                simp only [List.getElem_cons_zero, List.getElem_cons_succ] at x0 x1
                obtain ⟨g0, g1, g2, gf, glt⟩ := blk3 HHz.out.blk
                have hbz : wo.heap.size + 1 ≤ Wz.heap.size := glt
                have HBb := Lib.hid HHz.out.blk
                go_wp2_with (at_builtin; refine app_ln rfl (.tmp 70) (.tmp 72) rfl (wo.heap.size + 1) L ⟨43, t⟩ _ _ rfl HHz.out.own rfl rfl rfl hlm hbz ?_; intro v3 w3 ho3 hb3 _; obtain ⟨A3, c3, rfl⟩ := ho3.form; have hm3 := HHz.out.put hb3 ho3; rw [List.length_append, List.length_singleton] at hm3; have HM3 := Lib.hid hm3; clear hm3; obtain ⟨g0, g1, g2, gf, glt⟩ := blk3 ((hb3.block _ (Nat.lt_succ_self _)).trans HBb.out); clear ho3 hb3)
                go_roundw
                case rel => exact ⟨m + 1, _, by omega, by go_num, by rw [HTm.out]; exact HM3⟩
                case measure => simp [intOf]; omega
              · by_cases q2 : kk = 43
                · subst q2
                  rw [show flipK 43 = 45 from rfl] at HTm
                  have HHz := Lib.hid (HLift.out (W1.setCell ⟨X, 0, none⟩ (.int .u8 45)) (HL1.out.setCell (p := ⟨X, 0, none⟩) (Nat.le_refl _) _))
                  have HXz : Hid (Blk (W1.setCell ⟨X, 0, none⟩ (.int .u8 45)) X tLn [.int .u8 45, .string t]) := Lib.hid (HX1.out.set 0 _)
                  obtain ⟨Wz, hWz⟩ : ∃ Wz, Wz = W1.setCell ⟨X, 0, none⟩ (.int .u8 45) := ⟨_, rfl⟩
                  rw [← hWz] at HHz HXz
                  go_upto_region 18 with fail
                  rw [← hWz]
                  clear hWz x0 x1 xf
                  have x0 := HXz.out.cell (k := 0) (show 0 < 2 by decide)
                  have x1 := HXz.out.cell (k := 1) (show 1 < 2 by decide)
                  simp only [List.getElem_cons_zero, List.getElem_cons_succ] at x0 x1
                  obtain ⟨g0, g1, g2, gf, glt⟩ := blk3 HHz.out.blk
                  have hbz : wo.heap.size + 1 ≤ Wz.heap.size := glt
                  have HBb := Lib.hid HHz.out.blk
                  go_wp2_with (at_builtin; refine app_ln rfl (.tmp 70) (.tmp 72) rfl (wo.heap.size + 1) L ⟨45, t⟩ _ _ rfl HHz.out.own rfl rfl rfl hlm hbz ?_; intro v3 w3 ho3 hb3 _; obtain ⟨A3, c3, rfl⟩ := ho3.form; have hm3 := HHz.out.put hb3 ho3; rw [List.length_append, List.length_singleton] at hm3; have HM3 := Lib.hid hm3; clear hm3; obtain ⟨g0, g1, g2, gf, glt⟩ := blk3 ((hb3.block _ (Nat.lt_succ_self _)).trans HBb.out); clear ho3 hb3)
                  go_roundw
                  case rel => exact ⟨m + 1, _, by omega, by go_num, by rw [HTm.out]; exact HM3⟩
                  case measure => simp [intOf]; omega
                · have d1 : (kk == 45) = false := by rw [beq_eq_false_iff_ne]; exact q1
                  have d2 : (kk == 43) = false := by rw [beq_eq_false_iff_ne]; exact q2
                  rw [show flipK kk = kk from by unfold flipK; rw [if_neg q1, if_neg q2]] at HTm
                  have HHz := Lib.hid (HLift.out W1 HL1.out)
                  have HXz := HX1
                  obtain ⟨Wz, hWz⟩ : ∃ Wz, Wz = W1 := ⟨_, rfl⟩
                  go_upto_region 18 with fail
                  rw [← hWz] at HHz HXz ⊢
                  clear hWz x0 x1 xf
                  have x0 := HXz.out.cell (k := 0) (show 0 < 2 by decide)
                  have x1 := HXz.out.cell (k := 1) (show 1 < 2 by decide)
                  simp only [List.getElem_cons_zero, List.getElem_cons_succ] at x0 x1
                  obtain ⟨g0, g1, g2, gf, glt⟩ := blk3 HHz.out.blk
                  have hbz : wo.heap.size + 1 ≤ Wz.heap.size := glt
                  have HBb := Lib.hid HHz.out.blk
                  go_wp2_with (at_builtin; refine app_ln rfl (.tmp 70) (.tmp 72) rfl (wo.heap.size + 1) L ⟨kk, t⟩ _ _ rfl HHz.out.own rfl rfl rfl hlm hbz ?_; intro v3 w3 ho3 hb3 _; obtain ⟨A3, c3, rfl⟩ := ho3.form; have hm3 := HHz.out.put hb3 ho3; rw [List.length_append, List.length_singleton] at hm3; have HM3 := Lib.hid hm3; clear hm3; obtain ⟨g0, g1, g2, gf, glt⟩ := blk3 ((hb3.block _ (Nat.lt_succ_self _)).trans HBb.out); clear ho3 hb3)
                  go_roundw
                  case rel => exact ⟨m + 1, _, by omega, by go_num, by rw [HTm.out]; exact HM3⟩
                  case measure => simp [intOf]; omega
            · obtain rfl : m = M := by omega
              have hfull : ls.take m = ls := by rw [← HM.out, List.take_length]
              rw [hfull] at HH
              have HTr := HTk
              generalize ls.map revL = rl at *
              obtain ⟨p0, p1, p2, pf, plt⟩ := blk3 (HI.out.blk.below HH.out.bel)
              obtain ⟨g0, g1, g2, gf, glt⟩ := blk3 HH.out.blk
              have hbo : w1.heap.size + 1 ≤ wo.heap.size := HI.out.blk.lt
              have HOp := Lib.hid (HI.out.own.below HH.out.bel)
              have HOl := Lib.hid (HH.out.own.base (show w1.heap.size + 1 ≤ wo.heap.size + 1 by omega))
              have hWn : w1.heap.size + 1 ≤ wr.heap.size := Nat.le_trans hbo HH.out.bel.size
              have HNx : Hid (∀ v7 w7, OwnP (w1.heap.size + 1) w7 v7 (ps ++ [⟨hn, ho, rl⟩]) → Below (w1.heap.size + 1) wr w7 → MkI w1 nn on (w7.setCell ⟨w1.heap.size, 2, none⟩ v7) v7 (ps ++ [⟨hn, ho, rl⟩]) ∧ Blk w7 w1.heap.size tPat [.string nn, .string on, v]) := Lib.hid (fun v7 w7 ho7 hb7 => by
                have hb2 : Below (w1.heap.size + 1) wo w7 := (HH.out.bel.mono hbo).trans hb7
                exact ⟨HI.out.next hb2 ho7, (hb2.block _ (Nat.lt_succ_self _)).trans HI.out.blk⟩)
              clear HH
              go_wp2_with (at_builtin; refine app_ph rfl (.tmp 76) (.tmp 78) rfl (w1.heap.size + 1) ps ⟨hn, ho, rl⟩ u v _ rfl HOp.out HOl.out rfl rfl rfl hlj hWn ?_; intro v7 w7 ho7 hb7 _; obtain ⟨A7, c7, rfl⟩ := ho7.form; obtain ⟨hm7, hk7⟩ := HNx.out _ _ ho7 hb7; rw [List.length_append, List.length_singleton] at hm7; have HM7 := Lib.hid hm7; obtain ⟨x0, x1, x2, xf, xlt⟩ := blk3 hk7; clear ho7 hb7 hm7 hk7)
              go_roundw
              case rel => exact ⟨j + 1, _, by omega, by go_num, by rw [HTr.out]; exact HM7⟩
              case measure => simp [intOf]; omega
      · obtain rfl : j = N := by omega
        have hgs : hs.take j = hs := by rw [← HN.out, List.take_length]
        rw [hgs] at HI
        have hww := HZ1.out.lt
        obtain ⟨z0, z1, z2, fz, hlt2⟩ := blk3 (HZ1.out.below HI.out.bel)
        have HFin : Hid (OwnP w.heap.size (((wo.setCell ⟨w.heap.size + 1, 0, none⟩ (.string nn)).setCell ⟨w.heap.size + 1, 1, none⟩ (.string on)).setCell ⟨w.heap.size + 1, 2, none⟩ v) v (hs.map revH) ∧ Below w.heap.size w (((wo.setCell ⟨w.heap.size + 1, 0, none⟩ (.string nn)).setCell ⟨w.heap.size + 1, 1, none⟩ (.string on)).setCell ⟨w.heap.size + 1, 2, none⟩ v)) := Lib.hid (by
          have hb : Below w.heap.size w wo := HBw.out
          refine ⟨(((HI.out.own.box (o := 0) (u := .string nn) (show w.heap.size + 1 < w1.heap.size + 1 by omega)).box (o := 1) (u := .string on) (show w.heap.size + 1 < w1.heap.size + 1 by omega)).box (o := 2) (u := v) (show w.heap.size + 1 < w1.heap.size + 1 by omega)).base (by omega), ?_⟩
          exact ((hb.setCell (p := ⟨w.heap.size + 1, 0, none⟩) (Nat.le_succ _) _).setCell (p := ⟨w.heap.size + 1, 1, none⟩) (Nat.le_succ _) _).setCell (p := ⟨w.heap.size + 1, 2, none⟩) (Nat.le_succ _) _)
        obtain ⟨Av, cv, hv⟩ := HI.out.own.form
        rw [List.length_map] at hv
        subst hv
        have hd : decide ((j : Int) < (j : Int)) = false := decide_eq_false (by omega)
        go_wp2_with fail
        exact bodyPost_ret (v := .tuple #[.agg #[.string nn, .string on, .slice Av hs.length cv], .int .i64 0]) (by simp [results, Tryz.f20, go_sem, z0, z1, z2]) rfl (HE.out _ _ HFin.out.1 HFin.out.2)
  · have HD : Hid (∀ w', Below w.heap.size w w' → PtPost (reverseF p).1 (reverseF p).2 w (.returned (.tuple #[.agg #[.string ⟨#[]⟩, .string ⟨#[]⟩, .slice none 0 0], .int .i64 (chkC p)])) w') := Lib.hid (fun w' hb => by
      have e : reverseF p = (⟨⟨#[]⟩, ⟨#[]⟩, []⟩, chkC p) := by unfold reverseF; rw [if_pos hc]
      rw [e]
      exact ⟨_, rfl, OwnP.nil _ _, hb⟩)
    have HC1 := Lib.hid (HCk.out W HB0.out)
    have d1 : (chkC p != 0) = true := by rw [bne_iff_ne]; exact hc
    clear hc HCk hsh hfew hl
    generalize chkC p = z at *
    generalize reverseF p = rp at *
    go_enter Tryz.func20, Tryz.ntmps20
    go_upto_region 1 with fail
    rw [← hW]
    clear hW
    go_wp2_with fail
    refine HC1.out.mono ?_
    rintro e w1 ⟨rfl, hb⟩
    have HB1 := Lib.hid (HB0.out.trans (hb.mono HB0.out.size))
    obtain ⟨z0, z1, z2, fz, hlt⟩ := blk3 (HZ0.out.below hb)
    have HB4 := Lib.hid (((HB1.out.setCell (p := ⟨w.heap.size + 1, 0, none⟩) (Nat.le_succ _) (.string ⟨#[]⟩)).setCell (p := ⟨w.heap.size + 1, 1, none⟩) (Nat.le_succ _) (.string ⟨#[]⟩)).setCell (p := ⟨w.heap.size + 1, 2, none⟩) (Nat.le_succ _) (.slice none 0 0))
    clear hb HC1 HB0 HZ0 HK0
    go_wp2_with fail
    exact bodyPost_ret (v := .tuple #[.agg #[.string ⟨#[]⟩, .string ⟨#[]⟩, .slice none 0 0], .int .i64 z]) (by simp [results, Tryz.f20, go_sem, z0, z1, z2]) rfl (HD.out _ HB4.out)
end Pa
end
end
end Go.Proofs.YtjecfmbecgpbmaaGreatDoor

/- Facts; each states its conditions. -/
import Derived.Test.YtjecfmbecgpbmaaGreatDoorTextJoin
import Derived.Test.YtjecfmbecgpbmaaGreatDoorGTextAppend
import Derived.Test.YtjecfmbecgpbmaaGreatDoorGHnkBase
import Derived.Test.YtjecfmbecgpbmaaGreatDoorGUniIter
import Derived.Test.YtjecfmbecgpbmaaGreatDoorShoNea
import Derived.Laws.AppendOwnNone
import Derived.Lib.SliceRun
namespace Go.Proofs.YtjecfmbecgpbmaaGreatDoor
section
namespace Cm
end Cm
namespace Sc
end Sc
namespace Tx
end Tx
namespace Uf
end Uf
open Go.RowKit
namespace Pa
open Cm Uf
open Sc (RdK flatK flatK_len flatK_get)
open Tx (bs bss RdS strsV strsV_len strsV_append)
theorem rdV_S {w : World} {v : Value} {xs : List ByteArray} (h : RdV w v (stringsV xs)) : RdS w v xs := by
 obtain ⟨A, c, e, h1, h2⟩ := h
 rw [stringsV_len] at e h1
 refine ⟨A, c, e, h1, fun hp => ?_⟩
 obtain ⟨b, off, e2, hc⟩ := h2 (by rw [stringsV_len]; exact hp)
 refine ⟨b, off, e2, fun j hj => ?_⟩
 rw [hc j (by rw [stringsV_len]; exact hj)]
 simp [stringsV]
theorem slice_rds {A : Option Addr} {n c : Nat} {l : List ByteArray} (w : World) (h : RdS w (.slice A n c) l) (a b : Nat) (hab : a ≤ b) (hb : b ≤ l.length) :
 ∃ A', (∀ W : World, Sem.run Tryz.prog (Instr.slice tStrs (.slice A n c) (some (.int .i64 (a : Int))) (some (.int .i64 (b : Int))) none) W = .ok (.slice A' (b - a) (c - a)) W) ∧ ∀ w', RdS w' (.slice A n c) l → RdS w' (.slice A' (b - a) (c - a)) (cut l a b) := by
 obtain ⟨A', h1, h2⟩ := slice_strs w (Sh.rdS_V h) a b hab hb
 exact ⟨A', h1, fun w' h3 => rdV_S (h2 w' (Sh.rdS_V h3))⟩
theorem slice_rest {A : Option Addr} {n c : Nat} {l : List ByteArray} (w : World) (h : RdS w (.slice A n c) l) (a : Nat) (ha : a ≤ l.length) :
 ∃ A', (∀ W : World, Sem.run Tryz.prog (Instr.slice tStrs (.slice A n c) (some (.int .i64 (a : Int))) none none) W = .ok (.slice A' (n - a) (c - a)) W) ∧ ∀ w', RdS w' (.slice A n c) l → RdS w' (.slice A' (n - a) (c - a)) (l.drop a) := by
 have hn : n = l.length := by
  obtain ⟨A', c', e, _⟩ := h
  injection e
 have hcn : n ≤ c := by
  obtain ⟨A', c', e, hc, _⟩ := h
  injection e with e1 e2 e3
  subst e3
  rw [e2]; exact hc.1
 obtain ⟨A', h1, h2⟩ := slice_rds w h a l.length ha (Nat.le_refl _)
 have hcut : cut l a l.length = l.drop a := by
  unfold cut
  rw [List.take_of_length_le (by rw [List.length_drop]; exact Nat.le_refl _)]
 rw [hcut] at h2
 refine ⟨if c = a then A else A.map (·.add (a * 1)), fun W => ?_, fun w' h3 => ?_⟩
 · have h4 := run_slice_l (P := Tryz.prog) (w := W) tStrs A n c (by kernel_rfl) .i64 (a : Int) (by omega) (by omega)
   rw [h4, show (Go.sizeOf (Tryz.prog.elem tStrs)).run Tryz.prog W = .ok 1 W from by kernel_rfl]
   simp only [Result.andThen, sliced, Int.toNat_natCast]
 · have h5 := h1 w'
   have h6 := run_slice_lh (P := Tryz.prog) (w := w') tStrs A n c (by kernel_rfl) .i64 .i64 (a : Int) (l.length : Int) (by omega) (by omega) (by omega)
   rw [h6, show (Go.sizeOf (Tryz.prog.elem tStrs)).run Tryz.prog w' = .ok 1 w' from by kernel_rfl] at h5
   simp only [Result.andThen, sliced, Int.toNat_natCast] at h5
   injection h5 with h5
   injection h5 with h7
   rw [h7, hn]
   exact h2 w' h3
theorem app_rdsG {ops : Array Oper} {rest : List Oper} {o : Oper} {a : Act} {Q : Exit → Act → World → Prop} {w : World} (hg : Region.wanted o (yielded ops a.tmps) = true) (s x : Operand)
 (ho : o.op = .call { callee := .builtin .append, args := #[s, x], argTypes := #[30, 30] })
 (base : Nat) (l : List (List UInt8)) (xs : List ByteArray) (v u : Value) (hs : a.eval s = v) (hown : w.ownsRow base 9 1 v l.length (strsV l))
 (hx : a.eval x = u) (hr : RdS w u xs) (hsz : l.length + xs.length ≤ 16777216) (hbase : base ≤ w.heap.size)
 (h : ∀ v' w', w'.ownsRow base 9 1 v' (l ++ bss xs).length (strsV (l ++ bss xs)) → Below base w w' → (∀ (G : Nat) (t : TypeId) (L : List Value), t ≠ tStr → Hn.Blk w G t L → Hn.Blk w' G t L) → wpList Tryz.prog ops Q rest (a.put o.dst v') w') :
 wpList Tryz.prog ops Q (o :: rest) a w := by
 obtain ⟨i0, hi0, hz0, hz1, hz2⟩ := info_parts Tx.info_str
 obtain ⟨A, c, rfl, ⟨_, hnone⟩, hc⟩ := hr
 refine Tx.wpList_wanted hg fun K hK => ?_
 cases A with
 | none =>
   have h0 : xs = [] := by
    rcases Nat.eq_zero_or_pos xs.length with h1 | h1
    · exact List.eq_nil_of_length_eq_zero h1
    · obtain ⟨b, off, e, _⟩ := hc h1; cases e
   subst h0
   obtain rfl := hnone rfl
   have hrun := run_append_owned_none (P := Tryz.prog) (w := w) base 30 o.type 9 i0 1 Tryz.underlying30 hi0 v l.length (strsV l) hown
   unfold Oper.wp
   simp [execOp, ho, resolve, invoke, builtin, hs, hx, hrun, Result.andThen]
   exact hK _ _ (h v w (by rw [show l ++ bss [] = l from List.append_nil _]; exact hown) (Below.refl _ _) (fun _ _ _ _ h => h))
 | some ad =>
   refine wp_append_own w s x _ ho base 9 i0 _ 1 16 Tryz.underlying30 hi0 hz0 hz1 hz2 rfl (by omega) v l.length (strsV l) hs hown ad xs.length c (strsV (bss xs)) hx (by rw [strsV_len]; simp [bss]) (fun j y hy => ?_) (fun y hy => ?_) (by unfold maxLen; omega) (by omega) hbase ?_
   · have hj : j < xs.length := by
      rcases Nat.lt_or_ge j xs.length with h1 | h1
      · exact h1
      · rw [List.getElem?_eq_none (by rw [strsV_len]; simp [bss]; exact h1)] at hy; cases hy
     obtain ⟨b, off, e, hcell⟩ := hc (by omega)
     cases e
     have he : (Addr.mk b off none).add j = ⟨b, off + j, none⟩ := by
      unfold Addr.add; split
      · rename_i h0; rw [h0]; rfl
      · rfl
     rw [he, hcell j hj, ← hy]
     simp [strsV, bss, List.getElem?_eq_getElem hj]
   · simp only [strsV, List.mem_map] at hy
     obtain ⟨z, _, rfl⟩ := hy
     rfl
   · intro v' w' h1 h2 _
     refine hK _ _ (h v' w' ?_ (Tx.below_of_appendS hown h2 hbase) (fun G t L ht hB => (h2.block G hB.lt (fun e => ?_)).trans hB))
     · rw [strsV_append, List.length_append, show (bss xs).length = xs.length from by simp [bss]]
       exact h1
     · rcases hown.2 with ⟨rfl, _⟩ | ⟨g', cap', cur', rfl, _, hh, _⟩
       · simp [Value.ownBlock] at e
       · have : G = g' := by simpa [Value.ownBlock] using e
         subst this
         unfold Hn.Blk at hB
         rw [hB] at hh
         injection hh with hh
         injection hh with _ ht2
         exact ht ht2
end Pa
end
section
namespace Hn
end Hn
open Go.RowKit
namespace Pa
open Cm Uf Hn
open Sc (RdK ownK_base ownK_below Pow)
open Tx (bs RdS strsV StrsPost)
set_option maxRecDepth 100000 in
set_option maxHeartbeats 2000000 in
theorem without_any (o n : Int) (v : Value) (ls : List Ln) (k : Int) (w : World) (hr : RdL w v ls) (hl : ls.length ≤ 1000000) : Calls Tryz.prog 34 #[.int .u8 k, .agg #[.int .i64 o, .int .i64 n, v]] w (StrsPost w (notB k ls)) := by
 have HR := Lib.hid (fun w' (hb : Below w.heap.size w w') => hr.below hb)
 obtain ⟨A, c, rfl⟩ := hr.form
 have HSn := Lib.hid (fun j (h : j < ls.length) => (show notB k (ls.take (j + 1)) = notB k (ls.take j) ++ (if ls[j].kind = k then [] else [bs ls[j].text]) by rw [List.take_succ_eq_append_getElem h, notB_snoc]))
 have HLe := Lib.hid (fun j => Nat.le_trans (notB_len k (ls.take j)) (List.length_take_le j ls))
 clear hr
 obtain ⟨N, hN⟩ : ∃ N, N = ls.length := ⟨_, rfl⟩
 have HN := Lib.hid hN.symm
 rw [← hN] at hl HR ⊢
 clear hN
 have HB0 := Lib.hid ((Below.refl w.heap.size w).alloc (Nat.le_refl _) (.cells #[.int .i64 o, .int .i64 n, .slice A N c] tPh))
 have HK0 : Hid (Blk (w.alloc (.cells #[.int .i64 o, .int .i64 n, .slice A N c] tPh)) w.heap.size tPh [.int .i64 o, .int .i64 n, .slice A N c]) := Lib.hid (heap_new w _)
 obtain ⟨W, hW⟩ : ∃ W, W = w.alloc (.cells #[.int .i64 o, .int .i64 n, .slice A N c] tPh) := ⟨_, rfl⟩
 have hWz : W.heap.size = w.heap.size + 1 := by rw [hW]; simp
 rw [← hW] at HB0 HK0
 obtain ⟨k0, k1, k2, -, -⟩ := blk3 HK0.out
 go_enter Tryz.func34, Tryz.ntmps34
 go_upto_region 1 with fail
 rw [← hW]
 clear hW
 go_wp2_with fail
 go_loopw [5, 11] (fun u i wr => ∃ j : Nat, j ≤ N ∧ i = .int .i64 j ∧ Hid (wr.ownsRow W.heap.size 9 1 u (notB k (ls.take j)).length (strsV (notB k (ls.take j)))) ∧ Below W.heap.size W wr) (fun _ i _ => N - (intOf i).toNat)
 case atStart => exact ⟨0, Nat.zero_le _, rfl, Lib.hid (World.ownsRow_nil _ _ _ _), Below.refl _ _⟩
 case round =>
  obtain ⟨j, hj, rfl, HO, hnx⟩ := hrel
  have hsz := hnx.size
  have HB := Lib.hid (HB0.out.trans (hnx.mono HB0.out.size))
  have hle := HLe.out j
  by_cases hlt : j < N
  · have hx : j < ls.length := by rw [HN.out]; exact hlt
    obtain ⟨bl, off, rfl, c0, c1⟩ := RdL_at (HR.out wr HB.out) j hx
    have hS := HSn.out j hx
    generalize ls[j].kind = kk at *
    generalize ls[j].text = t at *
    generalize notB k (ls.take j) = acc at *
    have i1 : (0 : Int) ≤ (j : Int) := by omega
    have i2 : (j : Int) < (N : Int) := by omega
    have HL1 := Lib.hid ((Below.refl wr.heap.size wr).alloc (Nat.le_refl _) (.cells #[.int .u8 kk, .string t] tLn))
    have HX1 : Hid (Blk (wr.alloc (.cells #[.int .u8 kk, .string t] tLn)) wr.heap.size tLn [.int .u8 kk, .string t]) := Lib.hid (heap_new wr _)
    obtain ⟨W1, hW1⟩ : ∃ W1, W1 = wr.alloc (.cells #[.int .u8 kk, .string t] tLn) := ⟨_, rfl⟩
    rw [← hW1] at HL1 HX1
    go_upto_region 5 with fail
    rw [← hW1]
    clear hW1 c0 c1
    have x0 := HX1.out.cell (k := 0) (show 0 < 2 by decide)
    have x1 := HX1.out.cell (k := 1) (show 1 < 2 by decide)
    simp only [List.getElem_cons_zero, List.getElem_cons_succ] at x0 x1
    have hb1 : Below W.heap.size W W1 := hnx.trans (HL1.out.mono hsz)
    have HO1 := Lib.hid (ownK_below HO.out HL1.out)
    have hsz1 := hb1.size
    by_cases hk : kk = k
    · rw [if_pos hk, List.append_nil] at hS
      have HS := Lib.hid hS
      have d1 : (kk != k) = false := by rw [hk]; simp
      clear hS hk
      go_wp2_with fail
      go_roundw
      case rel => exact ⟨j + 1, by omega, by go_num, by rw [HS.out]; exact HO1, hb1⟩
      case measure => simp [intOf]; omega
    · rw [if_neg hk] at hS
      have HS := Lib.hid hS
      have d1 : (kk != k) = true := by rw [bne_iff_ne]; exact hk
      have HC : Hid ((#[Value.string t] : Array Value).toList = [Tx.strV (bs t)]) := Lib.hid (by unfold Tx.strV; rw [Tx.mk_bs])
      clear hS hk
      go_wp2_with (at_builtin; refine Tx.app_newS rfl (.tmp 19) (.tmp 22) rfl W.heap.size acc (bs t) _ rfl HO1.out rfl HC.out (by omega) hsz1 ?_; intro v3 w3 ho3 hb3; have HO3 := Lib.hid ho3; clear ho3)
      go_roundw
      case rel => exact ⟨j + 1, by omega, by go_num, by rw [HS.out]; exact HO3, hb1.trans hb3⟩
      case measure => simp [intOf]; omega
  · obtain rfl : j = N := by omega
    have htk : ls.take j = ls := by rw [← HN.out, List.take_length]
    rw [htk] at HO
    have HF := Lib.hid (show ∀ u, wr.ownsRow W.heap.size 9 1 u (notB k ls).length (strsV (notB k ls)) → StrsPost w (notB k ls) (.returned u) wr from fun u h => ⟨u, rfl, ownK_base h (by omega), HB.out⟩)
    clear htk
    go_wp2_with fail
    go_ret
    exact HF.out _ HO.out
set_option maxRecDepth 100000 in
set_option maxHeartbeats 2000000 in
theorem hasAt_any (a b : Value) (xs ys : List ByteArray) (at0 : Nat) (w : World) (ha : RdS w a xs) (hb : RdS w b ys) (hl : xs.length ≤ 1000000) (hm : ys.length ≤ 1000000) (hat : at0 ≤ 1000000) :
 Calls Tryz.prog 35 #[a, .int .i64 at0, b] w fun e w' => e = .returned (.bool (decide (at0 + ys.length ≤ xs.length ∧ cut xs at0 (at0 + ys.length) = ys))) ∧ Below w.heap.size w w' := by
 have h0 := ha
 have h1 := hb
 obtain ⟨A, c, rfl, -, -⟩ := ha
 obtain ⟨B, d, rfl, -, -⟩ := hb
 by_cases hfit : at0 + ys.length ≤ xs.length
 · obtain ⟨A2, hs2, hr2⟩ := slice_rds w h0 at0 (at0 + ys.length) (by omega) hfit
   rw [Int.natCast_add, show at0 + ys.length - at0 = ys.length from by omega] at hs2
   rw [show at0 + ys.length - at0 = ys.length from by omega] at hr2
   have HEq := Lib.hid (EqS_any (.slice A2 ys.length (c - at0)) (.slice B ys.length d) (cut xs at0 (at0 + ys.length)) ys w (hr2 w h0) h1 (by rw [cut_len xs hfit]; omega) hm)
   have HF : Hid (decide (cut xs at0 (at0 + ys.length) = ys) = decide (at0 + ys.length ≤ xs.length ∧ cut xs at0 (at0 + ys.length) = ys)) := Lib.hid (by
    rw [decide_eq_decide]; exact ⟨fun h => ⟨hfit, h⟩, fun h => h.2⟩)
   rw [HF.out] at HEq
   clear HF h0 h1 hr2
   generalize decide (at0 + ys.length ≤ xs.length ∧ cut xs at0 (at0 + ys.length) = ys) = bo at *
   generalize xs.length = n at *
   generalize ys.length = m at *
   have g1 : (m : Int) ≤ (n : Int) - (at0 : Int) := by omega
   go_enter Tryz.func35, Tryz.ntmps35
   go_wp2_with (go_at_call 60; refine HEq.out.mono ?_; rintro e w1 ⟨rfl, hb⟩)
   go_ret
   exact ⟨rfl, hb⟩
 · have HF : Hid (decide (at0 + ys.length ≤ xs.length ∧ cut xs at0 (at0 + ys.length) = ys) = false) := Lib.hid (decide_eq_false (fun h => hfit h.1))
   rw [HF.out]
   clear HF h0 h1
   generalize xs.length = n at *
   generalize ys.length = m at *
   have g1 : ¬ (m : Int) ≤ (n : Int) - (at0 : Int) := by omega
   go_enter Tryz.func35, Tryz.ntmps35
   go_wp2_with fail
   go_ret
   exact ⟨rfl, Below.refl _ _⟩
end Pa
end
end Go.Proofs.YtjecfmbecgpbmaaGreatDoor

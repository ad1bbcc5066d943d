/- Facts; each states its conditions. -/
import Derived.Test.YtjecfmbecgpbmaaGreatDoorGStrRd
import Derived.MapKept
import Derived.ChangeMaps4
import Derived.Test.YtjecfmbecgpbmaaGreatDoorGGUniFmt
import Derived.Test.YtjecfmbecgpbmaaGreatDoorUniRMk
import Derived.Test.YtjecfmbecgpbmaaGreatDoorUniMakes
import Derived.Test.YtjecfmbecgpbmaaGreatDoorStrLn
import Derived.Test.YtjecfmbecgpbmaaGreatDoorScrSpoil
import Derived.Test.YtjecfmbecgpbmaaGreatDoorGUniCheck
import Derived.Deep.CutRange
import Derived.Test.YtjecfmbecgpbmaaGreatDoorTextJoin
import Derived.Test.YtjecfmbecgpbmaaGreatDoorGPatB
import Derived.Test.YtjecfmbecgpbmaaGreatDoorGTextCollect
namespace Go.Proofs.YtjecfmbecgpbmaaGreatDoor
section
section
section
namespace Cm
end Cm
namespace Hn
end Hn
namespace Uf
end Uf
open Go.RowKit
namespace St
open Uf Cm Hn
open Go.MapKept
open Go.ChangeMaps (setBlock)
abbrev tSteps : TypeId := 134
abbrev fnV (f : FuncId) : Value := .func (.func f) #[] #[]
def tbl : Array MapEntry := #[⟨.int .u8 45, fnV 86, 0⟩, ⟨.int .u8 43, fnV 87, 1⟩, ⟨.int .u8 64, fnV 88, 2⟩, ⟨.int .u8 32, fnV 89, 3⟩, ⟨.int .u8 92, fnV 90, 4⟩]
theorem und_steps : Tryz.prog.underlying tSteps = some (.map 5 132) := by kernel_rfl
theorem und_byte : Tryz.prog.underlying 5 = some (.int .u8) := by kernel_rfl
theorem run_ins {w : World} {r c : Nat} {es : Array MapEntry} (hb : w.heap[r]? = some (.map es c)) (k : Int) (v : Value) (hn : Instr.findNow (.int .u8) (.int .u8 k) es.toList 0 = some none) {B : Nat} (hB : B ≤ r) :
 ∃ w', (Instr.mapUpdate tSteps (.map (some r)) (.int .u8 k) v).run Tryz.prog w = .ok () w' ∧ w'.heap[r]? = some (.map (es.push ⟨.int .u8 k, v, c⟩) (c + 1)) ∧ Below B w w' := by
 have hlt : r < w.heap.size := (Array.getElem?_eq_some_iff.1 hb).1
 refine ⟨setBlock w r (.map (es.push ⟨.int .u8 k, v, c⟩) (c + 1)), ?_, ?_, ?_⟩
 · simp [Instr.mapUpdate, run_underlying und_steps, Go.MapKept.run_getObj_map hb, run_checkKey und_byte (show IsKey (.int .u8) (.int .u8 k) from rfl), run_findKey und_byte hn, run_setObj_map _ hb, Result.andThen, setBlock]
 · simp [setBlock, hlt]
 · exact ⟨rfl, rfl, rfl, by simp [setBlock], fun j hj => by
    simp only [setBlock]
    rw [Array.getElem?_setIfInBounds_ne (by omega)]⟩
set_option maxRecDepth 100000 in
theorem ins5 (w : World) : ∃ w2 w3 w4 w5 w6, (Instr.mapUpdate tSteps (.map (some w.heap.size)) (.int .u8 45) (fnV 86)).run Tryz.prog (w.alloc (.map #[] 0)) = .ok () w2 ∧
 (Instr.mapUpdate tSteps (.map (some w.heap.size)) (.int .u8 43) (fnV 87)).run Tryz.prog w2 = .ok () w3 ∧
 (Instr.mapUpdate tSteps (.map (some w.heap.size)) (.int .u8 64) (fnV 88)).run Tryz.prog w3 = .ok () w4 ∧
 (Instr.mapUpdate tSteps (.map (some w.heap.size)) (.int .u8 32) (fnV 89)).run Tryz.prog w4 = .ok () w5 ∧
 (Instr.mapUpdate tSteps (.map (some w.heap.size)) (.int .u8 92) (fnV 90)).run Tryz.prog w5 = .ok () w6 ∧
 w6.heap[w.heap.size]? = some (.map tbl 5) ∧ Below w.heap.size w w6 := by
 have h1 : (w.alloc (.map #[] 0)).heap[w.heap.size]? = some (.map #[] 0) := (heap_alloc w _).1
 have b1 : Below w.heap.size w (w.alloc (.map #[] 0)) := (Below.refl _ _).alloc (Nat.le_refl _) _
 obtain ⟨w2, e2, h2, b2⟩ := run_ins h1 45 (fnV 86) rfl (Nat.le_refl _)
 obtain ⟨w3, e3, h3, b3⟩ := run_ins h2 43 (fnV 87) rfl (Nat.le_refl _)
 obtain ⟨w4, e4, h4, b4⟩ := run_ins h3 64 (fnV 88) rfl (Nat.le_refl _)
 obtain ⟨w5, e5, h5, b5⟩ := run_ins h4 32 (fnV 89) rfl (Nat.le_refl _)
 obtain ⟨w6, e6, h6, b6⟩ := run_ins h5 92 (fnV 90) rfl (Nat.le_refl _)
 exact ⟨w2, w3, w4, w5, w6, e2, e3, e4, e5, e6, h6, ((((b1.trans b2).trans b3).trans b4).trans b5).trans b6⟩
theorem run_hit {w : World} {r c : Nat} (hb : w.heap[r]? = some (.map tbl c)) (k : Int) (i : Nat) (v : Value) (hn : Instr.findNow (.int .u8) (.int .u8 k) tbl.toList 0 = some (some (i, v))) :
 (Instr.lookup tSteps (.map (some r)) (.int .u8 k) true).run Tryz.prog w = .ok (.tuple #[v, .bool true]) w := by
 simp [Instr.lookup, run_underlying und_steps, Go.MapKept.run_getObj_map hb, run_checkKey und_byte (show IsKey (.int .u8) (.int .u8 k) from rfl), run_findKey und_byte hn, Result.andThen]
theorem run_miss {w : World} {r c : Nat} (hb : w.heap[r]? = some (.map tbl c)) (k : Int) (hn : Instr.findNow (.int .u8) (.int .u8 k) tbl.toList 0 = some none) :
 (Instr.lookup tSteps (.map (some r)) (.int .u8 k) true).run Tryz.prog w = .ok (.tuple #[.nilFunc, .bool false]) w := by
 have hz : (zeroValue 132).run Tryz.prog w = .ok .nilFunc w := by kernel_rfl
 simp [Instr.lookup, run_underlying und_steps, Go.MapKept.run_getObj_map hb, run_checkKey und_byte (show IsKey (.int .u8) (.int .u8 k) from rfl), run_findKey und_byte hn, Result.andThen, hz]
theorem now_one (k n : Int) (h : k ≠ n) (v : Value) (b : Nat) (es : List MapEntry) (i : Nat) : Instr.findNow (.int .u8) (.int .u8 k) (⟨.int .u8 n, v, b⟩ :: es) i = Instr.findNow (.int .u8) (.int .u8 k) es (i + 1) := by
 have e : (k == n) = false := by simpa using h
 simp [Instr.findNow, Instr.sameNow, e]
theorem miss {k : Int} (h1 : k ≠ 45) (h2 : k ≠ 43) (h3 : k ≠ 64) (h4 : k ≠ 32) (h5 : k ≠ 92) : Instr.findNow (.int .u8) (.int .u8 k) tbl.toList 0 = some none := by
 show Instr.findNow (.int .u8) (.int .u8 k) [_, _, _, _, _] 0 = some none
 rw [now_one _ _ h1, now_one _ _ h2, now_one _ _ h3, now_one _ _ h4, now_one _ _ h5]
 rfl
end St
end
section
namespace Sc
end Sc
namespace Tx
end Tx
open Go.RowKit
namespace St
open Uf Cm Hn
open Go.MapKept
open Sc (Pow)
open Tx (RdS mks)
theorem n5 {k n : UInt8} (h : ¬ k = n) : (k.toNat : Int) ≠ (n.toNat : Int) := fun e => h (UInt8.toNat_inj.1 (by omega))
theorem step_calls (w0 wr : World) (p : Pat) (s : ByteArray) (k : UInt8) (t : List UInt8) (hk : bs s = k :: t) (h : RdI w0 wr p) (hs : s.size ≤ 1048576) (hw : Pow w0) {j z : Nat} (hf : Few j z p) (hj : j + 1 ≤ 1000000) (hz : z ≤ 4194304) :
 (∃ F i, (F = 86 ∨ F = 87 ∨ F = 88 ∨ F = 89 ∨ F = 90) ∧ Instr.findNow (.int .u8) (.int .u8 (k.toNat : Int)) tbl.toList 0 = some (some (i, fnV F)) ∧ Calls Tryz.prog F #[.pointer (some ⟨w0.heap.size, 0, none⟩), .string s] wr (StPost w0 (stepF p (k :: t)))) ∨
  (Instr.findNow (.int .u8) (.int .u8 (k.toNat : Int)) tbl.toList 0 = some none ∧ stepF p (k :: t) = none) := by
 have hn : p.hunks.length ≤ 1000000 := Nat.le_trans hf.len (by omega)
 have hl : ∀ h ∈ p.hunks, h.lines.length + 1 ≤ 1000000 := fun h hh => Nat.le_trans (Nat.succ_le_succ (hf.hk h hh).1) hj
 by_cases h1 : k = 45
 · subst h1
   exact .inl ⟨_, 0, by simp, rfl, minus_any w0 wr p s t hk h hs hn hl⟩
 by_cases h2 : k = 43
 · subst h2
   exact .inl ⟨_, 1, by simp, rfl, plus_any w0 wr p s t hk h hs hn hl⟩
 by_cases h3 : k = 64
 · subst h3
   have e : stepF p (64 :: t) = headF p (bs s) := by rw [stepF, if_neg (by decide), if_neg (by decide), if_pos rfl, hk]
   rw [e]
   exact .inl ⟨_, 2, by simp, rfl, header_any w0 wr p s h hs hw (Nat.le_trans (Nat.succ_le_succ hf.len) hj)⟩
 by_cases h4 : k = 32
 · subst h4
   have e : stepF p (32 :: t) = bodyF p 32 t := by rw [stepF, if_neg (by decide), if_neg (by decide), if_neg (by decide), if_pos rfl]
   rw [e]
   exact .inl ⟨_, 3, by simp, rfl, body_any w0 wr p s 32 t hk h hs hn hl⟩
 by_cases h5 : k = 92
 · subst h5
   have e : stepF p (92 :: t) = unF p := by rw [stepF, if_neg (by decide), if_neg (by decide), if_neg (by decide), if_neg (by decide), if_pos rfl]
   rw [e]
   exact .inl ⟨_, 4, by simp, rfl, unended_any w0 wr p s h hn (fun h hh => ⟨Nat.le_trans (hf.hk h hh).1 (by omega), fun l hl => by
    have := (hf.hk h hh).2.2.2 l hl
    unfold FewL at this
    omega⟩)⟩
 · refine .inr ⟨miss (n5 h1) (n5 h2) (n5 h3) (n5 h4) (n5 h5), ?_⟩
   rw [stepF, if_neg h1, if_neg h2, if_neg h3, if_neg h4, if_neg h5]
theorem HksI.base {base base' : Nat} {w : World} {v : Value} {hs : List PH} (h : HksI base w v hs) (hb : base' ≤ base) : HksI base' w v hs := by
 obtain ⟨zs, h1, h2, h3, h4⟩ := h
 exact ⟨zs, Sc.ownK_base h1 hb, h2, fun j a b => ⟨(h3 j a b).1, (h3 j a b).2.1, Sc.ownK_base (h3 j a b).2.2 hb⟩, h4⟩
theorem lnsS_le {s : List UInt8} {ls : List (List UInt8)} (h : lnsS s = some ls) : ls.length ≤ s.length ∧ ∀ l ∈ ls, l.length ≤ s.length := by
 unfold lnsS at h
 split at h
 · cases h
   exact ⟨Nat.zero_le _, fun l hl => by cases hl⟩
 · split at h
   · cases h
     refine ⟨by rw [List.length_map]; exact Tx.linesF_le s, fun l hl => ?_⟩
     obtain ⟨x, hx, e⟩ := List.mem_map.1 hl
     rw [← e]
     exact Nat.le_trans (bareF_le x) (Tx.mem_len hx)
   · cases h
def ReadPost (s : List UInt8) (w : World) (e : Ending) (w' : World) : Prop :=
 Below w.heap.size w w' ∧ (readF s = none → e = .returned (.tuple #[.agg #[.string ⟨#[]⟩, .string ⟨#[]⟩, .slice none 0 0], .bool false])) ∧
  ∀ p, readF s = some p → ∃ v, e = .returned (.tuple #[tPatV p v, .bool true]) ∧ HksI (w.heap.size + 1) w' v p.hunks
theorem ReadPost.no {s : List UInt8} {w w' : World} (h : readF s = none) (hb : Below w.heap.size w w') : ReadPost s w (.returned (.tuple #[.agg #[.string ⟨#[]⟩, .string ⟨#[]⟩, .slice none 0 0], .bool false])) w' :=
 ⟨hb, fun _ => rfl, fun p hp => by rw [h] at hp; cases hp⟩
theorem ReadPost.yes {s : List UInt8} {w w' : World} {p : Pat} {v : Value} (h : readF s = some p) (hb : Below w.heap.size w w') (hr : HksI (w.heap.size + 1) w' v p.hunks) : ReadPost s w (.returned (.tuple #[tPatV p v, .bool true])) w' :=
 ⟨hb, fun h0 => (by rw [h] at h0; cases h0), fun q hq => by rw [h] at hq; cases hq; exact ⟨v, rfl, hr⟩⟩
theorem run_stop {ls : List (List UInt8)} {p : Pat} {j : Nat} (hj : j < ls.length) (h1 : runF p0 (ls.take j) = some p) (h2 : stepF p ls[j] = none) : runF p0 ls = none := by
 have e : ls = ls.take j ++ ls[j] :: ls.drop (j + 1) := by rw [← List.drop_eq_getElem_cons hj, List.take_append_drop]
 rw [e, runF_app, h1]
 show runF p (ls[j] :: _) = none
 rw [runF, h2]
 rfl
theorem run_next {ls : List (List UInt8)} {p q : Pat} {j : Nat} (hj : j < ls.length) (h1 : runF p0 (ls.take j) = some p) (h2 : stepF p ls[j] = some q) : runF p0 (ls.take (j + 1)) = some q := by
 rw [List.take_succ_eq_append_getElem hj, runF_app, h1]
 show runF p [ls[j]] = some q
 rw [runF, h2]
 rfl
theorem count_eq (l : List UInt8) : Lib.countByte l 10 = l.count 10 := by
 unfold Lib.countByte
 rfl
set_option maxRecDepth 100000 in
set_option maxHeartbeats 16000000 in
theorem read_any (s : ByteArray) (w : World) (h16 : s.size ≤ 500000) (hcn : Lib.countByte s.data.toList 10 ≤ 16388) (hw : Pow w) : Calls Tryz.prog 52 #[.string s] w (ReadPost (bs s) w) := by
 have hc : ¬ (16388 : Int) < Lib.countByte s.data.toList 10 := by omega
 have HC := Lib.hid (fun w => Tryz.strings_Count_one s 10 w)
 have HL := Lib.hid (fun w => Lines_any s w (by omega))
 unfold LsPost at HL
 have hmm := @run_makeMap Tryz.prog
 generalize hO : (.cells #[.string ⟨#[]⟩, .string ⟨#[]⟩, .slice none 0 0] tPat : Obj) = O
 have HOw := Lib.hid (((Below.refl w.heap.size w).alloc (Nat.le_refl _) O))
 have HOs : Hid (w.heap.size < (w.alloc O).heap.size) := Lib.hid (Array.getElem?_eq_some_iff.1 (heap_new w O)).1
 have HO0 : Hid ((w.alloc O).heap[w.heap.size]? = some O) := Lib.hid (heap_new w O)
 subst hO
 cases hl : lnsS (bs s) with
 | none =>
   have HF : Hid (∀ w', Below w.heap.size w w' → ReadPost (bs s) w (.returned (.tuple #[.agg #[.string ⟨#[]⟩, .string ⟨#[]⟩, .slice none 0 0], .bool false])) w') := Lib.hid (fun w' hb => ReadPost.no (by unfold readF; rw [hl]; rfl) hb)
   rw [hl] at HL
   clear hl hw
   go_enter Tryz.func52, Tryz.ntmps52
   go_wp2_with fail
   refine (HC.out _).mono ?_
   rintro e w1 ⟨rfl, rfl⟩
   go_wp2_with fail
   refine (HL.out _).mono ?_
   rintro e w1 ⟨v1, rfl, hr1, hb1⟩
   have HB1 := Lib.hid (HOw.out.trans (hb1.mono HOw.out.size))
   obtain ⟨k0, k1, k2, kf, klt⟩ := blk3 (show Blk w1 w.heap.size tPat [.string ⟨#[]⟩, .string ⟨#[]⟩, .slice none 0 0] from (hb1.block _ HOs.out).trans HO0.out)
   have HB2 := Lib.hid (((HB1.out.setCell (p := ⟨w.heap.size, 0, none⟩) (Nat.le_refl _) (.string ⟨#[]⟩)).setCell (p := ⟨w.heap.size, 1, none⟩) (Nat.le_refl _) (.string ⟨#[]⟩)).setCell (p := ⟨w.heap.size, 2, none⟩) (Nat.le_refl _) (.slice none 0 0))
   clear hr1 hb1
   go_wp2_with fail
   exact bodyPost_ret (v := .tuple #[.agg #[.string ⟨#[]⟩, .string ⟨#[]⟩, .slice none 0 0], .bool false]) (by simp [results, Tryz.f52, go_sem, k0, k1, k2]) rfl (HF.out _ HB2.out)
 | some ls =>
   have HRn : Hid (∀ p, readF (bs s) = some p ↔ runF p0 ls = some p) := Lib.hid (fun p => by unfold readF; rw [hl]; exact Iff.rfl)
   have HRz : Hid (readF (bs s) = none ↔ runF p0 ls = none) := Lib.hid (by unfold readF; rw [hl]; exact Iff.rfl)
   have HF : Hid (runF p0 ls = none → ∀ w', Below w.heap.size w w' → ReadPost (bs s) w (.returned (.tuple #[.agg #[.string ⟨#[]⟩, .string ⟨#[]⟩, .slice none 0 0], .bool false])) w') := Lib.hid (fun h0 w' hb => ReadPost.no (HRz.out.2 h0) hb)
   have HG : Hid (∀ p, runF p0 ls = some p → ∀ v w', Below w.heap.size w w' → HksI (w.heap.size + 1) w' v p.hunks → ReadPost (bs s) w (.returned (.tuple #[tPatV p v, .bool true])) w') := Lib.hid (fun p h0 v w' hb hr => ReadPost.yes ((HRn.out p).2 h0) hb hr)
   have hbl : (bs s).length = s.size := Tx.bs_len s
   obtain ⟨hz1, hz2⟩ := lnsS_le hl
   have HZ : Hid (∀ l ∈ ls, l.length ≤ 500000) := Lib.hid (fun l hh => by have := hz2 l hh; omega)
   have hN : ls.length ≤ 500000 := by omega
   rw [hl] at HL
   clear hl hz1 hz2 HRn HRz hbl
   have HW := Lib.hid hw
   clear hw
   generalize hNl : ls.length = N at *
   have HNl := Lib.hid hNl
   clear hNl
   go_enter Tryz.func52, Tryz.ntmps52
   go_wp2_with fail
   refine (HC.out _).mono ?_
   rintro e w1 ⟨rfl, rfl⟩
   go_wp2_with fail
   refine (HL.out _).mono ?_
   rintro e w1 ⟨v1, rfl, hr1, hb1⟩
   obtain ⟨w2, w3, w4, w5, w6, e2, e3, e4, e5, e6, h6, hb6⟩ := ins5 w1
   have HB1 := Lib.hid (HOw.out.trans (hb1.mono HOw.out.size))
   have HB6 := Lib.hid (HB1.out.trans (hb6.mono HB1.out.size))
   have HS6 : Hid (w1.heap.size < w6.heap.size) := Lib.hid (Array.getElem?_eq_some_iff.1 h6).1
   have hk1 : Blk w1 w.heap.size tPat [.string ⟨#[]⟩, .string ⟨#[]⟩, .slice none 0 0] := (hb1.block _ HOs.out).trans HO0.out
   have HK6 : Hid (Blk w6 w.heap.size tPat [.string ⟨#[]⟩, .string ⟨#[]⟩, .slice none 0 0]) := Lib.hid ((hb6.block _ hk1.lt).trans hk1)
   obtain ⟨A1, c1, rfl, hcap, hcell⟩ := hr1.below hb6
   have hml : (mks ((some ls).getD [])).length = N := by
    show (mks ls).length = N
    rw [← HNl.out]; unfold mks; rw [List.length_map]
   have HR6 : Hid (∀ j (h : j < ls.length), ∃ b off, A1 = some ⟨b, off, none⟩ ∧ w6.cell? ⟨b, off + j, none⟩ = some (.string ⟨ls[j].toArray⟩)) := Lib.hid (fun j h => by
    have hj2 : j < (mks ((some ls).getD [])).length := by rw [hml, ← HNl.out]; exact h
    obtain ⟨b, off, e, hc⟩ := hcell (by omega)
    refine ⟨b, off, e, ?_⟩
    rw [hc j hj2]
    show some (Value.string ((ls.map fun l => (⟨l.toArray⟩ : ByteArray))[j]'(by rw [List.length_map]; exact h))) = _
    rw [List.getElem_map])
   clear hcell
   rw [hml] at hcap ⊢
   have HT6 := Lib.hid h6
   have HP6 := Lib.hid (HW.out.stays HB6.out)
   clear hr1 hb1 hb6 hk1 h6 HC HL HOw HOs HO0 HB1
   go_wp2_with fail
   have HI0 : Hid (RdI w6 (w6.alloc (.cells #[.string ⟨#[]⟩, .string ⟨#[]⟩, .slice none 0 0] tRdr)) p0) := Lib.hid ⟨(Below.refl _ _).alloc (Nat.le_refl _) _, _, heap_new w6 _, HksI.nil _ _⟩
   have HKx : Hid (∀ W, Below w6.heap.size w6 W → Blk W w.heap.size tPat [.string ⟨#[]⟩, .string ⟨#[]⟩, .slice none 0 0]) := Lib.hid (fun W hb => (hb.block _ HK6.out.lt).trans HK6.out)
   have HTx : Hid (∀ W, Below w6.heap.size w6 W → W.heap[w1.heap.size]? = some (.map tbl 5)) := Lib.hid (fun W hb => (hb.block _ HS6.out).trans HT6.out)
   clear HK6 HT6
   go_wp2_with fail
   go_loopw [30] (fun i wr => ∃ (j : Nat) (p : Pat), j ≤ N ∧ i = .int .i64 j ∧ runF p0 (ls.take j) = some p ∧ Hid (RdI w6 wr p)) (fun i _ => N - (intOf i).toNat)
   case atStart => exact ⟨0, p0, Nat.zero_le _, rfl, rfl, HI0⟩
   case round =>
    obtain ⟨j, p, hj, rfl, hrun, HI⟩ := hrel
    clear HI0 e2 e3 e4 e5 e6
    have HBw := Lib.hid (HB6.out.trans (HI.out.bel.mono HB6.out.size))
    by_cases hlt : j < N
    · have hx : j < ls.length := by rw [HNl.out]; exact hlt
      obtain ⟨b, off, rfl, hc0⟩ := HR6.out j hx
      have hc1 := (HI.out.bel.cell (Tx.cell_lt hc0)).trans hc0
      have HNx : Hid (∀ q, stepF p ls[j] = some q → runF p0 (ls.take (j + 1)) = some q) := Lib.hid (fun q h => run_next hx hrun h)
      have HE : Hid (stepF p ls[j] = none → ∀ w', Below w.heap.size w w' → ReadPost (bs s) w (.returned (.tuple #[.agg #[.string ⟨#[]⟩, .string ⟨#[]⟩, .slice none 0 0], .bool false])) w') := Lib.hid (fun h => HF.out (run_stop hx hrun h))
      have hlz := HZ.out ls[j] (List.getElem_mem hx)
      have HFw : Hid (Few j 500000 p) := Lib.hid (by
       have := run_few (k := 500000) (ls.take j) p0 p 0 hrun (fun l hl => HZ.out l (List.mem_of_mem_take hl)) (few0 _)
       rw [Nat.zero_add, List.length_take] at this
       exact this.mono (by omega))
      generalize ls[j] = l at *
      clear hc0 hrun HF HG
      cases l with
      | nil =>
        have HE := Lib.hid (HE.out rfl)
        have hnil : (⟨([] : List UInt8).toArray⟩ : ByteArray).toList.isEmpty = true := by rw [Sc.toList_bs]; rfl
        clear HNx
        obtain ⟨k0, k1, k2, kf, klt⟩ := blk3 (HKx.out _ HI.out.bel)
        have HBz := Lib.hid (((HBw.out.setCell (p := ⟨w.heap.size, 0, none⟩) (Nat.le_refl _) (.string ⟨#[]⟩)).setCell (p := ⟨w.heap.size, 1, none⟩) (Nat.le_refl _) (.string ⟨#[]⟩)).setCell (p := ⟨w.heap.size, 2, none⟩) (Nat.le_refl _) (.slice none 0 0))
        go_wp2_with fail
        exact bodyPost_ret (v := .tuple #[.agg #[.string ⟨#[]⟩, .string ⟨#[]⟩, .slice none 0 0], .bool false]) (by simp [results, Tryz.f52, go_sem, k0, k1, k2]) rfl (HE.out _ HBz.out)
      | cons k t =>
        generalize hS : (⟨(k :: t).toArray⟩ : ByteArray) = S at *
        have hbS : bs S = k :: t := by rw [← hS]
        have hSz : S.size ≤ 500000 := by rw [← hS, mk_size]; exact hlz
        have hne : S.toList.isEmpty = false := by rw [Sc.toList_bs]; show (bs S).isEmpty = false; rw [hbS]; rfl
        have h1 := size_of hbS
        have h1' : 0 < S.size := h1
        have hg0 := get_of hbS
        have hT := HTx.out _ HI.out.bel
        rcases step_calls w6 wr p S k t hbS HI.out (by omega) HP6.out HFw.out (by omega) (by omega) with ⟨F, i, hFF, hnow, hcall⟩ | ⟨hnow, hnone⟩
        · have hlk := run_hit hT _ i _ hnow
          dsimp only [fnV] at hlk
          have HCl := Lib.hid hcall
          clear hnow hcall hT hS hlz HFw
          go_wp2_with fail
          clear hlk hg0 hne h1 h1' hbS
          generalize hR : stepF p (k :: t) = R at *
          rcases hFF with rfl | rfl | rfl | rfl | rfl
          all_goals
           go_wp2_with fail
           refine HCl.out.mono ?_
           rintro e wn ⟨rfl, hbn, hqn⟩
           have HBn := Lib.hid (HB6.out.trans (hbn.mono HB6.out.size))
           cases R with
           | none =>
             have HE2 := Lib.hid (HE.out rfl)
             obtain ⟨k0, k1, k2, kf, klt⟩ := blk3 (HKx.out _ hbn)
             have HBz := Lib.hid (((HBn.out.setCell (p := ⟨w.heap.size, 0, none⟩) (Nat.le_refl _) (.string ⟨#[]⟩)).setCell (p := ⟨w.heap.size, 1, none⟩) (Nat.le_refl _) (.string ⟨#[]⟩)).setCell (p := ⟨w.heap.size, 2, none⟩) (Nat.le_refl _) (.slice none 0 0))
             clear hbn hqn HCl HBw HI HKx HTx
             go_wp2_with fail
             exact bodyPost_ret (v := .tuple #[.agg #[.string ⟨#[]⟩, .string ⟨#[]⟩, .slice none 0 0], .bool false]) (by simp [results, Tryz.f52, go_sem, k0, k1, k2]) rfl (HE2.out _ HBz.out)
           | some q =>
             have HIn := Lib.hid (hqn q rfl)
             clear hbn hqn HCl HBw HI HKx HTx
             go_wp2_with fail
             go_roundw
             case rel => exact ⟨j + 1, q, by omega, by go_num, HNx.out q rfl, HIn⟩
             case measure => simp [intOf]; omega
        · have hlk := run_miss hT _ hnow
          have HE := Lib.hid (HE.out hnone)
          clear hnow hnone hT hS hlz HFw HNx
          obtain ⟨k0, k1, k2, kf, klt⟩ := blk3 (HKx.out _ HI.out.bel)
          have HBz := Lib.hid (((HBw.out.setCell (p := ⟨w.heap.size, 0, none⟩) (Nat.le_refl _) (.string ⟨#[]⟩)).setCell (p := ⟨w.heap.size, 1, none⟩) (Nat.le_refl _) (.string ⟨#[]⟩)).setCell (p := ⟨w.heap.size, 2, none⟩) (Nat.le_refl _) (.slice none 0 0))
          go_wp2_with fail
          exact bodyPost_ret (v := .tuple #[.agg #[.string ⟨#[]⟩, .string ⟨#[]⟩, .slice none 0 0], .bool false]) (by simp [results, Tryz.f52, go_sem, k0, k1, k2]) rfl (HE.out _ HBz.out)
    · have hjN : j = N := by omega
      subst hjN
      have ht : ls.take j = ls := by rw [← HNl.out, List.take_length]
      rw [ht] at hrun
      have HG2 := Lib.hid (HG.out p hrun)
      obtain ⟨v, hkr, hks⟩ := HI.out.box
      obtain ⟨Av, cv, rfl⟩ := hks.form
      generalize hL : p.hunks.length = L at *
      obtain ⟨k0, k1, k2, kf, klt⟩ := blk3 hkr
      obtain ⟨z0, z1, z2, zf, zlt⟩ := blk3 (HKx.out _ HI.out.bel)
      have HBz := Lib.hid (((HBw.out.setCell (p := ⟨w.heap.size, 0, none⟩) (Nat.le_refl _) (.string p.on)).setCell (p := ⟨w.heap.size, 1, none⟩) (Nat.le_refl _) (.string p.nn)).setCell (p := ⟨w.heap.size, 2, none⟩) (Nat.le_refl _) (.slice Av L cv))
      have HRz : Hid (HksI (w.heap.size + 1) (((wr.setCell ⟨w.heap.size, 0, none⟩ (.string p.on)).setCell ⟨w.heap.size, 1, none⟩ (.string p.nn)).setCell ⟨w.heap.size, 2, none⟩ (.slice Av L cv)) (.slice Av L cv) p.hunks) := Lib.hid (by
       have hlt : w.heap.size < w6.heap.size + 1 := by have := HB6.out.size; omega
       exact (((hks.box hlt).box hlt).box hlt).base (by have := HB6.out.size; omega))
      clear hkr hks HKx HTx HG HF HI
      go_wp2_with fail
      exact bodyPost_ret (v := .tuple #[.agg #[.string p.on, .string p.nn, .slice Av L cv], .bool true]) (by simp [results, Tryz.f52, go_sem, z0, z1, z2]) rfl (HG2.out _ _ HBz.out HRz.out)
end St
end
section
open Go.RowKit
namespace St
open Uf Cm Hn
open Sc (Pow)
theorem read_sm {s : List UInt8} {p : Pat} (h : readF s = some p) (hs : s.length ≤ 500000) : PatSm p.hunks := by
 unfold readF at h
 cases hl : lnsS s with
 | none => rw [hl] at h; cases h
 | some ls =>
   rw [hl] at h
   obtain ⟨h1, h2⟩ := lnsS_le hl
   have := run_few (k := 500000) ls p0 p 0 h (fun l hh => Nat.le_trans (h2 l hh) hs) (few0 _)
   exact this.sm (by omega) (by omega)
abbrev zPat : Value := .agg #[.string ⟨#[]⟩, .string ⟨#[]⟩, .slice none 0 0]
def PsPost (s : List UInt8) (w : World) (e : Ending) (w' : World) : Prop :=
 Below w.heap.size w w' ∧ (prsF s = none → e = .returned (.tuple #[zPat, .int .i64 4])) ∧ ∀ p, prsF s = some p → ∃ v, e = .returned (.tuple #[tPatV p v, .int .i64 0]) ∧ RdP w' v p.hunks
theorem PsPost.no {s : List UInt8} {w w' : World} (h : prsF s = none) (hb : Below w.heap.size w w') : PsPost s w (.returned (.tuple #[zPat, .int .i64 4])) w' :=
 ⟨hb, fun _ => rfl, fun p hp => by rw [h] at hp; cases hp⟩
theorem PsPost.yes {s : List UInt8} {w w' : World} {p : Pat} {v : Value} (h : prsF s = some p) (hb : Below w.heap.size w w') (hr : RdP w' v p.hunks) : PsPost s w (.returned (.tuple #[tPatV p v, .int .i64 0])) w' :=
 ⟨hb, fun h0 => (by rw [h] at h0; cases h0), fun q hq => by rw [h] at hq; cases hq; exact ⟨v, rfl, hr⟩⟩
theorem prs_none {s : List UInt8} (h : readF s = none) : prsF s = none := by unfold prsF; rw [h]
theorem prs_some {s : List UInt8} {p : Pat} (_h : readF s = some p) (hc : chkC p = 0) (hf : (fmtB p).toList = s) : prsF s = some p := by
 refine (prsF_iff s p).2 ⟨hc, ?_⟩
 unfold fmtB at hf
 rw [if_pos hc, Sc.toList_bs] at hf
 exact hf
theorem prs_chk {s : List UInt8} {p : Pat} (h : readF s = some p) (hc : ¬ chkC p = 0) : prsF s = none := by unfold prsF; rw [h]; simp only; rw [if_neg (fun hh => hc hh.1)]
theorem prs_fmt {s : List UInt8} {p : Pat} (h : readF s = some p) (hc : chkC p = 0) (hf : ¬ (fmtB p).toList = s) : prsF s = none := by
 unfold prsF
 rw [h]
 simp only
 rw [if_neg]
 rintro ⟨-, h2⟩
 refine hf ?_
 unfold fmtB
 rw [if_pos hc, Sc.toList_bs]
 exact h2
set_option maxRecDepth 100000 in
set_option maxHeartbeats 8000000 in
theorem Parse_any (s : ByteArray) (w : World) (h16 : s.size ≤ 500000) (hcn : Lib.countByte s.data.toList 10 ≤ 16388) (hw : Pow w) : Calls Tryz.prog 27 #[.string s] w (PsPost (bs s) w) := by
 have hz : ¬ (16777216 : Int) < (s.size : Int) := by omega
 have hbl : (bs s).length = s.size := Tx.bs_len s
 generalize hO : (.cells #[.string ⟨#[]⟩, .string ⟨#[]⟩, .slice none 0 0] tPat : Obj) = O
 have HB0 := Lib.hid (((Below.refl w.heap.size w).alloc (Nat.le_refl _) O))
 have HO0 : Hid ((w.alloc O).heap[w.heap.size]? = some O) := Lib.hid (heap_new w O)
 have HOs : Hid (w.heap.size < (w.alloc O).heap.size) := Lib.hid (Array.getElem?_eq_some_iff.1 (heap_new w O)).1
 have HRd := Lib.hid (read_any s (w.alloc O) h16 hcn (hw.stays HB0.out))
 have HFm := Lib.hid (fun p v w' hr hsm hb => Format_any p v w' hr hsm (hw.stays (w' := w') hb))
 unfold FmPost at HFm
 have HKx : Hid (∀ W, Below (w.alloc O).heap.size (w.alloc O) W → W.heap[w.heap.size]? = some O) := Lib.hid (fun W hb => (hb.block _ HOs.out).trans HO0.out)
 have HNo : Hid (prsF (bs s) = none → ∀ w', Below w.heap.size w w' → PsPost (bs s) w (.returned (.tuple #[zPat, .int .i64 4])) w') := Lib.hid (fun h w' hb => PsPost.no h hb)
 subst hO
 clear hw HO0 HOs
 cases hr : readF (bs s) with
 | none =>
   have HN := Lib.hid (HNo.out (prs_none hr))
   have HP : Hid (∀ e w', ReadPost (bs s) (w.alloc (.cells #[.string ⟨#[]⟩, .string ⟨#[]⟩, .slice none 0 0] tPat)) e w' → e = .returned (.tuple #[zPat, .bool false]) ∧ Below (w.alloc (.cells #[.string ⟨#[]⟩, .string ⟨#[]⟩, .slice none 0 0] tPat)).heap.size (w.alloc (.cells #[.string ⟨#[]⟩, .string ⟨#[]⟩, .slice none 0 0] tPat)) w') := Lib.hid (fun e w' h => ⟨h.2.1 hr, h.1⟩)
   clear hr HNo HFm
   go_enter Tryz.func27, Tryz.ntmps27
   go_wp2_with fail
   refine HRd.out.mono ?_
   intro e w1 h1
   obtain ⟨rfl, hb⟩ := HP.out _ _ h1
   obtain ⟨z0, z1, z2, zf, zlt⟩ := blk3 (show Blk w1 w.heap.size tPat [.string ⟨#[]⟩, .string ⟨#[]⟩, .slice none 0 0] from HKx.out _ hb)
   have HB1 := Lib.hid (HB0.out.trans (hb.mono HB0.out.size))
   have HB2 := Lib.hid ((((HB1.out.setCell (p := ⟨w.heap.size, 0, none⟩) (Nat.le_refl _) (.string ⟨#[]⟩)).setCell (p := ⟨w.heap.size, 1, none⟩) (Nat.le_refl _) (.string ⟨#[]⟩)).setCell (p := ⟨w.heap.size, 2, none⟩) (Nat.le_refl _) (.slice none 0 0)))
   have HB3 := Lib.hid (HB2.out.alloc HB2.out.size (.cells #[.string ⟨#[]⟩, .string ⟨#[]⟩, .slice none 0 0] tPat))
   clear HB2 HB1
   clear h1 hb HP HRd HKx
   go_wp2_with fail
   exact bodyPost_ret (v := .tuple #[zPat, .int .i64 4]) (by simp [results, Tryz.f27, go_sem, z0, z1, z2, zlt]) rfl (HN.out _ HB3.out)
 | some p =>
   have hsm := read_sm hr (by omega)
   have HP : Hid (∀ e w', ReadPost (bs s) (w.alloc (.cells #[.string ⟨#[]⟩, .string ⟨#[]⟩, .slice none 0 0] tPat)) e w' → (∃ v, e = .returned (.tuple #[tPatV p v, .bool true]) ∧ HksI ((w.alloc (.cells #[.string ⟨#[]⟩, .string ⟨#[]⟩, .slice none 0 0] tPat)).heap.size + 1) w' v p.hunks) ∧ Below (w.alloc (.cells #[.string ⟨#[]⟩, .string ⟨#[]⟩, .slice none 0 0] tPat)).heap.size (w.alloc (.cells #[.string ⟨#[]⟩, .string ⟨#[]⟩, .slice none 0 0] tPat)) w') := Lib.hid (fun e w' h => ⟨h.2.2 p hr, h.1⟩)
   have HNc : Hid (¬ chkC p = 0 → ∀ w', Below w.heap.size w w' → PsPost (bs s) w (.returned (.tuple #[zPat, .int .i64 4])) w') := Lib.hid (fun h => HNo.out (prs_chk hr h))
   have HNf : Hid (chkC p = 0 → (!(fmtB p).toList == s.toList) = true → ∀ w', Below w.heap.size w w' → PsPost (bs s) w (.returned (.tuple #[zPat, .int .i64 4])) w') := Lib.hid (fun h hf => HNo.out (prs_fmt hr h (by rw [Sc.toList_bs s] at hf; simpa using hf)))
   have HYs : Hid (chkC p = 0 → (!(fmtB p).toList == s.toList) = false → ∀ v w', Below w.heap.size w w' → RdP w' v p.hunks → PsPost (bs s) w (.returned (.tuple #[tPatV p v, .int .i64 0])) w') := Lib.hid (fun h hf v w' hb hv => PsPost.yes (prs_some hr h (by rw [Sc.toList_bs s] at hf; simpa using hf)) hb hv)
   clear hr HNo
   go_enter Tryz.func27, Tryz.ntmps27
   go_wp2_with fail
   refine HRd.out.mono ?_
   intro e w1 h1
   obtain ⟨⟨v, rfl, hks⟩, hb⟩ := HP.out _ _ h1
   obtain ⟨A, cv, rfl⟩ := hks.form
   have hrd := hks.own.rd
   have HX2 := Lib.hid (hks.below ((Below.refl w1.heap.size w1).alloc (Nat.le_refl _) (.cells #[.string p.on, .string p.nn, .slice A p.hunks.length cv] tPat)))
   have HB1 := Lib.hid (HB0.out.trans (hb.mono HB0.out.size))
   have HB2 := Lib.hid (HB1.out.alloc HB1.out.size (.cells #[.string p.on, .string p.nn, .slice A p.hunks.length cv] tPat))
   have HKy := Lib.hid (HKx.out w1 hb)
   have HA2 := Lib.hid ((Below.refl w1.heap.size w1).alloc (Nat.le_refl _) (.cells #[.string p.on, .string p.nn, .slice A p.hunks.length cv] tPat))
   have HR2 := Lib.hid (hrd.below HA2.out)
   have HFc := Lib.hid (HFm.out p _ _ HR2.out hsm HB2.out)
   have HO2 : Hid ((w1.alloc (.cells #[.string p.on, .string p.nn, .slice A p.hunks.length cv] tPat)).heap[w1.heap.size]? = some (.cells #[.string p.on, .string p.nn, .slice A p.hunks.length cv] tPat)) := Lib.hid (heap_new w1 _)
   clear h1 hb HP HRd HFm hrd hks HKx
   generalize p.hunks.length = L at *
   have hwlt : w.heap.size < w1.heap.size := (show Blk w1 w.heap.size tPat [.string ⟨#[]⟩, .string ⟨#[]⟩, .slice none 0 0] from HKy.out).lt
   go_wp2_with fail
   refine HFc.out.mono ?_
   rintro e w2 ⟨rfl, hb2⟩
   have hlt2 : w1.heap.size < (w1.alloc (.cells #[.string p.on, .string p.nn, .slice A L cv] tPat)).heap.size := (Array.getElem?_eq_some_iff.1 HO2.out).1
   obtain ⟨y0, y1, y2, yf, ylt⟩ := blk3 (show Blk w2 w1.heap.size tPat [.string p.on, .string p.nn, .slice A L cv] from (hb2.block _ hlt2).trans HO2.out)
   obtain ⟨z0, z1, z2, zf, zlt⟩ := blk3 (show Blk w2 w.heap.size tPat [.string ⟨#[]⟩, .string ⟨#[]⟩, .slice none 0 0] from (hb2.block _ (Nat.lt_trans hwlt hlt2)).trans ((HA2.out.block _ hwlt).trans HKy.out))
   have HB3 := Lib.hid (HB2.out.trans (hb2.mono HB2.out.size))
   have HR3 : Hid (RdP (((w2.setCell ⟨w.heap.size, 0, none⟩ (.string p.on)).setCell ⟨w.heap.size, 1, none⟩ (.string p.nn)).setCell ⟨w.heap.size, 2, none⟩ (.slice A L cv)) (.slice A L cv) p.hunks) := Lib.hid (by
    have hl0 : w.heap.size < (w.alloc (.cells #[.string ⟨#[]⟩, .string ⟨#[]⟩, .slice none 0 0] tPat)).heap.size + 1 := by have := HB0.out.size; omega
    exact ((((HX2.out.below hb2).box hl0).box hl0).box hl0).own.rd)
   have hne : w.heap.size ≠ w1.heap.size := Nat.ne_of_lt hwlt
   have hne2 : w1.heap.size ≠ w.heap.size := Ne.symm hne
   have HBz := Lib.hid ((((HB3.out.setCell (p := ⟨w.heap.size, 0, none⟩) (Nat.le_refl _) (.string ⟨#[]⟩)).setCell (p := ⟨w.heap.size, 1, none⟩) (Nat.le_refl _) (.string ⟨#[]⟩)).setCell (p := ⟨w.heap.size, 2, none⟩) (Nat.le_refl _) (.slice none 0 0)))
   have HBy := Lib.hid ((((HB3.out.setCell (p := ⟨w.heap.size, 0, none⟩) (Nat.le_refl _) (.string p.on)).setCell (p := ⟨w.heap.size, 1, none⟩) (Nat.le_refl _) (.string p.nn)).setCell (p := ⟨w.heap.size, 2, none⟩) (Nat.le_refl _) (.slice A L cv)))
   clear hb2 HFc HO2 HB2 HB1 HA2 HKy HR2 HX2
   by_cases hc : chkC p = 0
   · cases hf : (!(fmtB p).toList == s.toList) with
     | true =>
       have HE := Lib.hid (HNf.out hc hf)
       rw [hc]
       clear HNc HNf HYs hc
       go_wp2_with fail
       exact bodyPost_ret (v := .tuple #[zPat, .int .i64 4]) (by simp [results, Tryz.f27, go_sem, z0, z1, z2]) rfl (HE.out _ HBz.out)
     | false =>
       have HE := Lib.hid (HYs.out hc hf)
       rw [hc]
       clear HNc HNf HYs hc
       go_wp2_with fail
       exact bodyPost_ret (v := .tuple #[.agg #[.string p.on, .string p.nn, .slice A L cv], .int .i64 0]) (by simp [results, Tryz.f27, go_sem, z0, z1, z2]) rfl (HE.out _ _ HBy.out HR3.out)
   · have HE := Lib.hid (HNc.out hc)
     have hc0 : (chkC p != 0) = true := by simpa using hc
     clear HNc HNf HYs hc
     generalize chkC p = C at *
     go_wp2_with fail
     exact bodyPost_ret (v := .tuple #[zPat, .int .i64 4]) (by simp [results, Tryz.f27, go_sem, z0, z1, z2]) rfl (HE.out _ HBz.out)
end St
end
end
section
section
open Go.RowKit
namespace St
open Uf Cm Hn
open Sc (Pow)
theorem wl_ln (l : Ln) : (wlLn l).length = (wrLn l).length := by unfold wlLn wrLn; simp only [List.length_cons]; split <;> rfl
theorem wl_lns : ∀ ls : List Ln, (ls.flatMap wlLn).length = (ls.flatMap wrLn).length
 | [] => rfl
 | l :: ls => by rw [List.flatMap_cons, List.flatMap_cons, List.length_append, List.length_append, wl_ln, wl_lns ls]
theorem wl_hks : ∀ hs : List PH, (hs.flatMap wlHk).length = (hs.flatMap wrHk).length
 | [] => rfl
 | h :: hs => by
   have e : (wlHk h).length = (wrHk h).length := by unfold wlHk wrHk; rw [List.length_cons, List.length_cons, wl_lns]
   rw [List.flatMap_cons, List.flatMap_cons, List.length_append, List.length_append, e, wl_hks hs]
theorem wl_len (p : Pat) : (wl p).length = (wrAll p).length := by unfold wl wrAll; rw [List.length_append, List.length_append, wl_hks]; rfl
theorem count_lf : ∀ (ls : List (List UInt8)), (∀ l ∈ ls, (10 : UInt8) ∉ l) → (ls.flatMap lf).count 10 = ls.length
 | [], _ => rfl
 | l :: ls, h => by
   have h1 : l.count 10 = 0 := List.count_eq_zero.2 (h l List.mem_cons_self)
   rw [List.flatMap_cons, List.count_append, count_lf ls (fun x hx => h x (List.mem_cons_of_mem _ hx)), List.length_cons]
   unfold lf
   rw [List.count_append, h1]
   simp
   omega
theorem count_form {p : Pat} (h : chkC p = 0) : (joinL (partsF p)).count 10 = (wrAll p).length := by
 rw [← wl_flat, count_lf _ (wl_no10 (okPat_of h)), wl_len]
theorem mk_small {ctx : Int} (hc : 0 ≤ ctx) {s t : ByteArray} (hs : s.size ≤ 36) (ht : t.size ≤ 180) (down : Bool) {on nn : ByteArray} (h1 : nameB on = true) (h2 : nameB nn = true) :
 szL (partsF ⟨on, nn, patH (Sh.lnB s) (Sh.lnB t) ctx (scrD down s t)⟩) ≤ 100000 ∧ (wrAll ⟨on, nn, patH (Sh.lnB s) (Sh.lnB t) ctx (scrD down s t)⟩).length ≤ 1000 := by
 have hL := scrD_lf (s := s) (t := t) (by omega) (by omega) down
 have hP := ph_group hc hL
 have a := Sh.lnB_len s
 have b := Sh.lnB_len t
 obtain ⟨s1, s2⟩ := ph_sub hP
 rw [List.drop_zero] at s1 s2
 have l1 : (allB 43 (patH (Sh.lnB s) (Sh.lnB t) ctx (scrD down s t))).length ≤ 36 := by
  have := s1.length_le
  rw [List.length_map] at this
  exact Nat.le_trans this (by omega)
 have l2 : (allB 45 (patH (Sh.lnB s) (Sh.lnB t) ctx (scrD down s t))).length ≤ 180 := by
  have := s2.length_le
  rw [List.length_map] at this
  exact Nat.le_trans this (by omega)
 obtain ⟨f1, f2⟩ := ph_few hP
 have hn : (patH (Sh.lnB s) (Sh.lnB t) ctx (scrD down s t)).length ≤ 220 := by
  unfold patH
  rw [List.length_map]
  have hk := hL.num
  omega
 have hB : ∀ h ∈ patH (Sh.lnB s) (Sh.lnB t) ctx (scrD down s t), ∀ ln ∈ h.lines, ln.text.size ≤ 180 := by
  intro h hh
  unfold patH at hh
  obtain ⟨k, hk, rfl⟩ := List.mem_map.1 hh
  obtain ⟨m, hm, rfl⟩ := List.mem_iff_getElem.1 hk
  obtain ⟨p, k, oF, nF, oT, nT, e, _, _, hlf⟩ := ph_at hP m hm
  rw [e, mkPH_nat]
  intro ln hln
  rcases (hlf.texts ln hln).1 with h3 | h3
  · exact Nat.le_trans (Sh.lnB_size s _ h3) (by omega)
  · exact Nat.le_trans (Sh.lnB_size t _ h3) ht
 generalize patH (Sh.lnB s) (Sh.lnB t) ctx (scrD down s t) = hks at *
 have z1 := szL_hks (B := 180) hB
 constructor
 · unfold partsF
   rw [szL_cons]
   have n1 := name_sz h1
   have n2 := name_sz h2
   have q1 := qB_size on
   have q2 := qB_size nn
   have e : (hdPt on nn).size = 4 + (qB on).size + 5 + (qB nn).size + 1 := by
    unfold hdPt
    simp only [ByteArray.size_append]
    rfl
   simp only
   rw [e]
   have : ((allB 43 hks).length + (allB 45 hks).length) * (180 + 30) ≤ 216 * 210 := Nat.mul_le_mul (by omega) (Nat.le_refl _)
   omega
 · unfold wrAll wrHd
   have := wr_hks hks
   simp only [List.length_append, List.length_cons, List.length_nil]
   omega
structure Md (p : Pat) (t : ByteArray) : Prop where
 ok : MkOk p
 form : bs t = joinL (partsF p)
 size : t.size ≤ 100000
 cnt : (bs t).count 10 ≤ 1000
end St
end
section
namespace St
open Sc Uf
def nL (hs : List PH) : Nat := (hs.map fun h => h.lines.length).sum
def tL (ls : List Ln) : Nat := (ls.map fun l => l.text.size).sum
def tS (hs : List PH) : Nat := (hs.map fun h => tL h.lines).sum
end St
end
section
open Go.RowKit
namespace St
open Uf Cm Sc Hn
theorem wr_ge : ∀ hs : List PH, hs.length + nL hs ≤ (hs.flatMap wrHk).length
 | [] => Nat.le_refl _
 | h :: hs => by
   have ih := wr_ge hs
   have hl : ∀ ls : List Ln, ls.length ≤ (ls.flatMap wrLn).length := by
    intro ls
    induction ls with
    | nil => exact Nat.le_refl _
    | cons l r ih =>
      rw [List.flatMap_cons, List.length_append, List.length_cons]
      have : 1 ≤ (wrLn l).length := by unfold wrLn; simp
      omega
   rw [List.flatMap_cons, List.length_append]
   have h2 : (wrHk h).length = 1 + (h.lines.flatMap wrLn).length := by unfold wrHk; rw [List.length_cons]; omega
   have h3 := hl h.lines
   unfold nL at ih ⊢
   simp only [List.map_cons, List.sum_cons, List.length_cons]
   omega
end St
end
section
open Go.RowKit
namespace St
open Uf Cm Hn
open Sc (Pow)
theorem Md.prs {p : Pat} {t : ByteArray} (h : Md p t) : prsF (bs t) = some p := (prsF_iff _ _).2 ⟨h.ok.chk, h.form.symm⟩
theorem Md.lfs {p : Pat} {t : ByteArray} (h : Md p t) : Lib.countByte t.data.toList 10 ≤ 16388 := by
 rw [count_eq]
 exact Nat.le_trans h.cnt (by decide)
end St
end
end
end
section
section
namespace Sl
end Sl
namespace St
end St
namespace Pa
open Uf Sc Hn Sl
open St (nL tL tS)
def totS (l : List ByteArray) : Nat := (l.map (·.size)).sum
theorem totS_app (a b : List ByteArray) : totS (a ++ b) = totS a + totS b := by unfold totS; rw [List.map_append, List.sum_append]
theorem totS_cons (a : ByteArray) (l : List ByteArray) : totS (a :: l) = a.size + totS l := by unfold totS; simp
theorem totS_total : ∀ l : List ByteArray, Tx.total l = totS l
 | [] => rfl
 | a :: l => by
   have ih := totS_total l
   unfold Tx.total at ih ⊢
   rw [totS_cons, ← ih]
   simp only [Tx.bss, List.map_cons, List.flatten_cons, List.length_append]
   rw [show (Tx.bs a).length = a.size from rfl]
theorem totS_drop (l : List ByteArray) (i k : Nat) (h : i ≤ k) : totS (l.drop k) ≤ totS (l.drop i) := by
 have e : l.drop k = (l.drop i).drop (k - i) := by rw [List.drop_drop, show i + (k - i) = k from by omega]
 rw [e]
 conv => rhs; rw [← List.take_append_drop (k - i) (l.drop i)]
 rw [totS_app]; omega
theorem notK_len (k : Int) (ls : List Ln) : (notK k ls).length ≤ ls.length := by
 unfold notK
 rw [List.length_map]
 exact List.length_filter_le _ _
theorem notK_tot (k : Int) : ∀ ls : List Ln, totS (notK k ls) ≤ tL ls
 | [] => Nat.le_refl _
 | l :: ls => by
   have ih := notK_tot k ls
   have e : tL (l :: ls) = l.text.size + tL ls := by unfold tL; simp
   rw [e]
   unfold notK at ih ⊢
   by_cases h : l.kind = k
   · rw [List.filter_cons_of_neg (by simpa using h)]; omega
   · rw [List.filter_cons_of_pos (by simpa using h), List.map_cons, totS_cons]; omega
theorem cut_le (xs : List ByteArray) (i o : Nat) : (cut xs i o).length ≤ min o xs.length - i := by
 unfold cut
 rw [List.length_take, List.length_drop]
 omega
theorem app_len {xs : List ByteArray} : ∀ {hs : List PH} {i j : Nat}, geo i j hs → (appT xs i hs).length ≤ (xs.length - i) + nL hs
 | [], i, _, _ => by unfold appT; rw [List.length_drop]; omega
 | h :: hs, i, j, ⟨o, n, e1, e2, h1, h2, h3, h4⟩ => by
   have ih := app_len (xs := xs) h4
   have c := cut_le xs i o
   have c2 := notK_len 45 h.lines
   have e : nL (h :: hs) = h.lines.length + nL hs := by unfold nL; simp
   rw [appT, e1, Int.toNat_natCast, List.length_append, List.length_append, e]
   unfold newT
   omega
theorem app_tot {xs : List ByteArray} : ∀ {hs : List PH} {i j : Nat}, geo i j hs → totS (appT xs i hs) ≤ totS (xs.drop i) + tS hs
 | [], i, _, _ => by unfold appT; omega
 | h :: hs, i, j, ⟨o, n, e1, e2, h1, h2, h3, h4⟩ => by
   have ih := app_tot (xs := xs) h4
   have c2 := notK_tot 45 h.lines
   have e : tS (h :: hs) = tL h.lines + tS hs := by unfold tS; simp
   have c3 := totS_drop xs o (o + (oldT h).length) (by omega)
   have c4 := congrArg totS (cut_drop xs h1)
   rw [totS_app] at c4
   rw [appT, e1, Int.toNat_natCast, totS_app, totS_app, e]
   unfold newT
   omega
theorem totS_lnB (s : ByteArray) : totS (Sh.lnB s) = s.size := by
 rw [← totS_total]
 unfold Tx.total
 have h := lnB_flat s
 unfold Tx.bss
 rw [h]
 rfl
theorem app_small {p : Pat} {s : ByteArray} (hc : chkC p = 0) : (appT (Sh.lnB s) 0 p.hunks).length ≤ (Sh.lnB s).length + nL p.hunks ∧ totS (appT (Sh.lnB s) 0 p.hunks) ≤ s.size + tS p.hunks := by
 have h1 := app_len (xs := Sh.lnB s) (chkC_geo hc)
 have h2 := app_tot (xs := Sh.lnB s) (chkC_geo hc)
 rw [List.drop_zero, totS_lnB] at h2
 exact ⟨by omega, h2⟩
def At (xs : List ByteArray) (hs : List PH) (j : Nat) (acc : List ByteArray) (i : Nat) : Prop :=
 fitN xs hs = j + fitN xs (hs.drop j) ∧ acc ++ appT xs i (hs.drop j) = appT xs 0 hs ∧ (∃ n, geo i n (hs.drop j)) ∧ i ≤ xs.length
theorem At.zero {xs : List ByteArray} {hs : List PH} {n : Nat} (h : geo 0 n hs) : At xs hs 0 [] 0 := ⟨by simp, by simp, ⟨n, h⟩, Nat.zero_le _⟩
theorem At.len {xs : List ByteArray} {hs : List PH} {j : Nat} {acc : List ByteArray} {i : Nat} (h : At xs hs j acc i) : acc.length ≤ (appT xs 0 hs).length := by
 have := congrArg List.length h.2.1
 rw [List.length_append] at this
 omega
theorem At.place {xs : List ByteArray} {hs : List PH} {j : Nat} {acc : List ByteArray} {i : Nat} (h : At xs hs j acc i) (hj : j < hs.length) : ∃ o : Nat, hs[j].old = o ∧ i ≤ o := by
 obtain ⟨_, _, ⟨n, h3⟩, _⟩ := h
 rw [List.drop_eq_getElem_cons hj] at h3
 obtain ⟨o, n', e1, _, e3, _⟩ := h3
 exact ⟨o, e1, e3⟩
theorem At.no {xs : List ByteArray} {hs : List PH} {j : Nat} {acc : List ByteArray} {i : Nat} (h : At xs hs j acc i) (hj : j < hs.length) (hf : ¬ fitH xs hs[j]) : fitN xs hs = j := by
 obtain ⟨h1, _⟩ := h
 rw [List.drop_eq_getElem_cons hj, fitN, if_neg hf] at h1
 omega
theorem At.step {xs : List ByteArray} {hs : List PH} {j : Nat} {acc : List ByteArray} {i : Nat} (h : At xs hs j acc i) (hj : j < hs.length) (hf : fitH xs hs[j]) : At xs hs (j + 1) (acc ++ cut xs i hs[j].old.toNat ++ newT hs[j]) (hs[j].old.toNat + (oldT hs[j]).length) := by
 obtain ⟨h1, h2, ⟨n, h3⟩, h4⟩ := h
 rw [List.drop_eq_getElem_cons hj] at h1 h2 h3
 rw [fitN, if_pos hf] at h1
 obtain ⟨o, n', e1, e2, e3, e4, e5, e6⟩ := h3
 refine ⟨by omega, ?_, ⟨n' + (newT hs[j]).length, by rw [e1, Int.toNat_natCast]; exact e6⟩, hf.1⟩
 rw [← h2, appT]
 simp only [List.append_assoc]
theorem At.stop {xs : List ByteArray} {hs : List PH} {acc : List ByteArray} {i : Nat} (h : At xs hs hs.length acc i) : fitN xs hs = hs.length ∧ acc ++ xs.drop i = appT xs 0 hs := by
 obtain ⟨h1, h2, _, _⟩ := h
 rw [List.drop_length] at h1 h2
 exact ⟨h1, h2⟩
theorem app_joined {p : Pat} {s : ByteArray} (h1 : chkC p = 0) (h2 : Tx.checkF (Tx.bs s) = 0) (h3 : fitN (Sh.lnB s) p.hunks = p.hunks.length) :
 applyF p s = if Tx.isListF (Tx.bss (appT (Sh.lnB s) 0 p.hunks)) = false then (⟨#[]⟩, 140) else Tx.joinF (appT (Sh.lnB s) 0 p.hunks) := by
 unfold applyF Tx.joinF
 rw [fits_ok h1 h2, if_neg (fun q => q rfl), if_neg (by rw [h3]; exact Nat.lt_irrefl _)]
 have e : (allJ (appT (Sh.lnB s) 0 p.hunks)).size = Tx.total (appT (Sh.lnB s) 0 p.hunks) := by
  unfold allJ Tx.total
  exact Tx.size_mk _
 rw [e]
 split
 · rfl
 · rfl
theorem app_miss {p : Pat} {s : ByteArray} (h1 : chkC p = 0) (h2 : Tx.checkF (Tx.bs s) = 0) (h3 : fitN (Sh.lnB s) p.hunks < p.hunks.length) : applyF p s = (⟨#[]⟩, 140) := by
 unfold applyF
 rw [fits_ok h1 h2, if_neg (fun q => q rfl), if_pos h3]
theorem app_err {p : Pat} {s : ByteArray} (h : (fitsF p s).2 ≠ 0) : applyF p s = (⟨#[]⟩, (fitsF p s).2) := by
 unfold applyF
 rw [if_pos h]
theorem fits_bad {p : Pat} {s : ByteArray} (h : chkC p ≠ 0) : fitsF p s = (0, chkC p) := by unfold fitsF; rw [if_pos h]
theorem fits_big {p : Pat} {s : ByteArray} (h1 : chkC p = 0) (h : Tx.checkF (Tx.bs s) ≠ 0) : fitsF p s = (0, Tx.checkF (Tx.bs s)) := by unfold fitsF; rw [if_neg (fun q => q h1), if_pos h]
theorem fit_dec {xs : List ByteArray} {h : PH} {o : Nat} (ho : h.old = o) : decide (o + (oldT h).length ≤ xs.length ∧ cut xs o (o + (oldT h).length) = oldT h) = decide (fitH xs h) := by
 rw [decide_eq_decide]
 unfold fitH
 rw [ho, Int.toNat_natCast]
end Pa
end
section
open Go.RowKit
namespace Pa
open Cm Uf Hn
open Sc (RdK ownK_base ownK_below Pow)
open Tx (bs RdS strsV StrsPost)
def RePost (p : Pat) (s : ByteArray) (w : World) (e : Ending) (w' : World) : Prop := ∃ v, e = .returned (.tuple #[v, .int .i64 (fitsF p s).2]) ∧ ((fitsF p s).2 = 0 → RdS w' v (Sh.lnB s)) ∧ Below w.heap.size w w'
set_option maxRecDepth 100000 in
set_option maxHeartbeats 2000000 in
theorem read_any (p : Pat) (v : Value) (s : ByteArray) (w : World) (hr : RdP w v p.hunks) (hsm : PatSm p.hunks) (hs : s.size ≤ 4194304) (hp : Pow w) : Calls Tryz.prog 33 #[tPatV p v, .string s] w (RePost p s w) := by
 have HB0 := Lib.hid ((Below.refl w.heap.size w).alloc (Nat.le_refl _) (.cells #[.string p.on, .string p.nn, v] tPat))
 have hrd := hr.below HB0.out
 obtain ⟨A, c, rfl⟩ := hr.form
 have HCk := Lib.hid (Check_any p _ _ hrd hsm (hp.stays HB0.out))
 have HSp := Lib.hid (fun w => Tx.Split_any s w hs)
 unfold CkPost at HCk
 unfold Tx.SplitPost at HSp
 have HK : Hid (Blk (w.alloc (.cells #[.string p.on, .string p.nn, .slice A p.hunks.length c] tPat)) w.heap.size tPat [.string p.on, .string p.nn, .slice A p.hunks.length c]) := Lib.hid (heap_new w _)
 obtain ⟨k0, k1, k2, -, -⟩ := blk3 HK.out
 obtain ⟨W, hW⟩ : ∃ W, W = w.alloc (.cells #[.string p.on, .string p.nn, .slice A p.hunks.length c] tPat) := ⟨_, rfl⟩
 rw [← hW] at HB0 HCk HK k0 k1 k2
 clear hr hrd hsm hp
 by_cases hc : chkC p = 0
 · have HFin : Hid (∀ v' w', RdS w' v' (Tx.mks (if Tx.checkF (bs s) = 0 then Tx.linesF (bs s) else [])) → Below w.heap.size w w' → RePost p s w (.returned (.tuple #[v', .int .i64 (Tx.checkF (bs s))])) w') := Lib.hid (fun v' w' h1 h2 => by
    by_cases h0 : Tx.checkF (bs s) = 0
    · rw [if_pos h0] at h1
      refine ⟨v', by rw [fits_ok hc h0, h0], fun _ => h1, h2⟩
    · refine ⟨v', by rw [fits_big hc h0], fun h => ?_, h2⟩
      rw [fits_big hc h0] at h
      exact absurd h h0)
   rw [hc] at HCk
   clear hc
   generalize Tx.checkF (bs s) = z at *
   go_enter Tryz.func33, Tryz.ntmps33
   go_upto_region 1 with fail
   rw [← hW]
   clear hW
   go_wp2_with (first
    | (go_at_call 43; refine HCk.out.mono ?_; rintro e w1 ⟨rfl, hb⟩; have HB1 := Lib.hid (HB0.out.trans (hb.mono HB0.out.size)); clear hb)
    | (go_at_call 59; refine (HSp.out _).mono ?_; rintro e w2 ⟨v2, rfl, hr2, hb2⟩; have HB2 := Lib.hid (HB1.out.trans (hb2.mono HB1.out.size)); have HR2 := Lib.hid hr2; clear hb2 hr2))
   go_ret2
   exact HFin.out _ _ HR2.out HB2.out
 · have HFin : Hid (∀ w', Below w.heap.size w w' → RePost p s w (.returned (.tuple #[.slice none 0 0, .int .i64 (chkC p)])) w') := Lib.hid (fun w' h2 => ⟨_, by rw [fits_bad hc], fun h => by rw [fits_bad hc] at h; exact absurd h hc, h2⟩)
   have e1 : (chkC p != 0) = true := by rw [bne_iff_ne]; exact hc
   clear hc HSp
   generalize chkC p = z at *
   go_enter Tryz.func33, Tryz.ntmps33
   go_upto_region 1 with fail
   rw [← hW]
   clear hW
   go_wp2_with (go_at_call 43; refine HCk.out.mono ?_; rintro e w1 ⟨rfl, hb⟩; have HB1 := Lib.hid (HB0.out.trans (hb.mono HB0.out.size)); clear hb)
   go_ret2
   exact HFin.out _ HB1.out
end Pa
end
section
open Go.RowKit
namespace Pa
open Cm Uf Hn
open Sc (RdK ownK_base ownK_below Pow)
open Tx (bs bss RdS strsV StrsPost)
open St (nL)
def ApPost (p : Pat) (s : ByteArray) (w : World) (e : Ending) (w' : World) : Prop := e = .returned (.tuple #[.string (applyF p s).1, .int .i64 (applyF p s).2]) ∧ Below w.heap.size w w'
theorem res_ok {p : Pat} {s : ByteArray} (hc : chkC p = 0) (hk : Tx.checkF (bs s) = 0) (hsm : PatSm p.hunks) (hn : nL p.hunks ≤ 500000) : (appT (Sh.lnB s) 0 p.hunks).length ≤ 1000000 ∧ ∀ t ∈ appT (Sh.lnB s) 0 p.hunks, t.size ≤ 4194304 := by
 obtain ⟨k1, k2⟩ := check_zero.1 hk
 rw [← lnB_num] at k2
 refine ⟨by have := (app_small (p := p) (s := s) hc).1; omega, fun t ht => ?_⟩
 rcases appT_mem ht with h | ⟨h, hh, ht⟩
 · have := Sh.lnB_size s t h
   have h2 := Tx.bs_len s
   omega
 · unfold newT notK at ht
   obtain ⟨l, hl, rfl⟩ := List.mem_map.1 ht
   exact (hsm.2 h hh).2.2.2 l (List.mem_filter.1 hl).1
set_option maxRecDepth 100000 in
set_option maxHeartbeats 8000000 in
theorem Apply_any (p : Pat) (v : Value) (s : ByteArray) (w : World) (hr : RdP w v p.hunks) (hsm : PatSm p.hunks) (hn : nL p.hunks ≤ 500000) (hs : s.size ≤ 4194304) (hp : Pow w) : Calls Tryz.prog 14 #[tPatV p v, .string s] w (ApPost p s w) := by
 have HB0 := Lib.hid ((Below.refl w.heap.size w).alloc (Nat.le_refl _) (.cells #[.string p.on, .string p.nn, v] tPat))
 have hrd := hr.below HB0.out
 obtain ⟨A, c, rfl⟩ := hr.form
 have HRe := Lib.hid (read_any p _ s _ hrd hsm hs (hp.stays HB0.out))
 unfold RePost at HRe
 have HR := Lib.hid (fun w' (hb : Below w.heap.size w w') => hr.below hb)
 have HK : Hid (Blk (w.alloc (.cells #[.string p.on, .string p.nn, .slice A p.hunks.length c] tPat)) w.heap.size tPat [.string p.on, .string p.nn, .slice A p.hunks.length c]) := Lib.hid (heap_new w _)
 obtain ⟨k0, k1, k2, -, -⟩ := blk3 HK.out
 obtain ⟨W, hW⟩ : ∃ W, W = w.alloc (.cells #[.string p.on, .string p.nn, .slice A p.hunks.length c] tPat) := ⟨_, rfl⟩
 rw [← hW] at HB0 HRe HK k0 k1 k2
 clear hr hrd hp hs
 by_cases h0 : (fitsF p s).2 = 0
 · obtain ⟨hc, hk⟩ := fits_err h0
   have hll : (Sh.lnB s).length ≤ 4096 := by rw [lnB_num]; exact (check_zero.1 hk).2
   have HPos := Lib.hid (fun h (hh : h ∈ p.hunks) => ((St.okPat_of hc).hk h hh).1)
   obtain ⟨hrl, hrs⟩ := res_ok hc hk hsm hn
   have HMiss : Hid (∀ w', fitN (Sh.lnB s) p.hunks < p.hunks.length → Below w.heap.size w w' → ApPost p s w (.returned (.tuple #[.string ⟨#[]⟩, .int .i64 140])) w') := Lib.hid (fun w' h1 h2 => ⟨by rw [app_miss hc hk h1], h2⟩)
   have HNoL : Hid (∀ w', fitN (Sh.lnB s) p.hunks = p.hunks.length → Tx.isListF (bss (appT (Sh.lnB s) 0 p.hunks)) = false → Below w.heap.size w w' → ApPost p s w (.returned (.tuple #[.string ⟨#[]⟩, .int .i64 140])) w') := Lib.hid (fun w' h1 h3 h2 => ⟨by rw [app_joined hc hk h1, if_pos h3], h2⟩)
   have HOk : Hid (∀ w', fitN (Sh.lnB s) p.hunks = p.hunks.length → Tx.isListF (bss (appT (Sh.lnB s) 0 p.hunks)) = true → Below w.heap.size w w' → ApPost p s w (.returned (.tuple #[.string (Tx.joinF (appT (Sh.lnB s) 0 p.hunks)).1, .int .i64 (Tx.joinF (appT (Sh.lnB s) 0 p.hunks)).2])) w') := Lib.hid (fun w' h1 h3 h2 => ⟨by rw [app_joined hc hk h1, if_neg (by rw [h3]; decide)], h2⟩)
   have HA0 : Hid (At (Sh.lnB s) p.hunks 0 [] 0) := Lib.hid (At.zero (chkC_geo hc))
   have HJn : Hid (∀ v w', RdS w' v (appT (Sh.lnB s) 0 p.hunks) → Calls Tryz.prog 36 #[v] w' (Tx.JgPost w' (appT (Sh.lnB s) 0 p.hunks))) := Lib.hid (fun v w' h => Tx.JoinG_any v _ w' h (by omega) hrs)
   unfold Tx.JgPost at HJn
   have HSm := Lib.hid hsm.2
   have hfew := hsm.1
   rw [h0] at HRe
   clear h0 hc hk hsm hn hrs
   generalize hg : p.hunks = hs at *
   clear hg
   generalize Sh.lnB s = xs at *
   obtain ⟨R, hR⟩ : ∃ R, R = appT xs 0 hs := ⟨_, rfl⟩
   have HRd := Lib.hid hR
   rw [← hR] at HNoL HOk HJn hrl
   clear hR
   obtain ⟨N, hN⟩ : ∃ N, N = hs.length := ⟨_, rfl⟩
   have HN := Lib.hid hN.symm
   rw [← hN] at hfew HR HK k2 HMiss HNoL HOk hW HRe ⊢
   clear hN
   go_enter Tryz.func14, Tryz.ntmps14
   go_upto_region 1 with fail
   rw [← hW]
   clear hW
   go_wp2_with fail
   refine HRe.out.mono ?_
   rintro e w1 ⟨lv, rfl, hlv, hb⟩
   have HB1 := Lib.hid (HB0.out.trans (hb.mono HB0.out.size))
   have HK1 := Lib.hid (HK.out.below hb)
   have hlr := hlv (by simp)
   have HL1 := Lib.hid (fun w' (hb : Below w1.heap.size w1 w') => hlr.below hb)
   obtain ⟨Al, cl, rfl, -, -⟩ := hlr
   obtain ⟨k0, k1, k2, -, -⟩ := blk3 HK1.out
   clear hb hlv HRe HK HB0
   generalize hX : xs.length = X at *
   have HX := Lib.hid hX
   clear hX
   go_wp2_with fail
   go_loopw [8, 9, 26] (fun u nx i wr => ∃ (j : Nat) (acc : List ByteArray) (i0 : Nat), j ≤ N ∧ i = .int .i64 j ∧ nx = .int .i64 i0 ∧ Hid (At xs hs j acc i0) ∧ Hid (wr.ownsRow w1.heap.size 9 1 u (bss acc).length (strsV (bss acc))) ∧ Hid (Below w1.heap.size w1 wr)) (fun _ _ i _ => N - (intOf i).toNat)
   case atStart => exact ⟨0, [], 0, Nat.zero_le _, rfl, rfl, HA0, Lib.hid (World.ownsRow_nil _ _ _ _), Lib.hid (Below.refl _ _)⟩
   case round =>
    obtain ⟨j, acc, i0, hj, rfl, rfl, HAt, HO, HB⟩ := hrel
    have HBw := Lib.hid (HB1.out.trans (HB.out.mono HB1.out.size))
    obtain ⟨k0, k1, k2, -, -⟩ := blk3 (HK1.out.below HB.out)
    have hi0 : i0 ≤ X := by have := HAt.out.2.2.2; rw [HX.out] at this; exact this
    have hacc : acc.length ≤ 1000000 := by have := HAt.out.len; rw [← HRd.out] at this; omega
    by_cases hlt : j < N
    · have hx : j < hs.length := by rw [HN.out]; exact hlt
      obtain ⟨bl, off, Ah, ch, rfl, c0, c1, c2, hrh⟩ := RdP_at (HR.out w (Below.refl _ _)) j hx
      replace c0 := (HBw.out.cell (Tx.cell_lt c0)).trans c0
      replace c1 := (HBw.out.cell (Tx.cell_lt c1)).trans c1
      replace c2 := (HBw.out.cell (Tx.cell_lt c2)).trans c2
      have hAt := HAt.out
      obtain ⟨o, ho, hio⟩ := hAt.place hx
      have hpos := HPos.out _ (List.getElem_mem hx)
      have HNo : Hid (¬ fitH xs hs[j] → fitN xs hs < N) := Lib.hid (fun hf => by rw [hAt.no hx hf]; exact hlt)
      have HSt : Hid (fitH xs hs[j] → o + (oldT hs[j]).length ≤ xs.length ∧ At xs hs (j + 1) (acc ++ cut xs i0 o ++ newT hs[j]) (o + (oldT hs[j]).length)) := Lib.hid (fun hf => by
       have h1 := hAt.step hx hf
       have h2 := hf.1
       rw [ho, Int.toNat_natCast] at h1 h2
       exact ⟨h2, h1⟩)
      have hls := (HSm.out _ (List.getElem_mem hx)).1
      have hol : (oldT hs[j]).length ≤ 1000000 := Nat.le_trans (notK_len 43 _) hls
      have HfD : Hid (decide (o + (oldT hs[j]).length ≤ xs.length ∧ cut xs o (o + (oldT hs[j]).length) = oldT hs[j]) = decide (fitH xs hs[j])) := Lib.hid (fit_dec ho)
      have HOl : Hid (Tx.mks (notB 43 hs[j].lines) = oldT hs[j]) := Lib.hid (by unfold notB oldT; exact Tx.mks_bs _)
      have HNl : Hid (Tx.mks (notB 45 hs[j].lines) = newT hs[j]) := Lib.hid (by unfold notB newT; exact Tx.mks_bs _)
      have ho2 : o ≤ 4096 := by rw [ho] at hpos; omega
      clear hAt hpos
      rw [ho] at c0
      clear ho
      generalize hs[j] = h at *
      obtain ⟨ho', hn, ls⟩ := h
      simp only at c0 c1 c2 hrh hls HOl HNl
      generalize hM : ls.length = M at *
      have i1 : (0 : Int) ≤ (j : Int) := by omega
      have i2 : (j : Int) < (N : Int) := by omega
      have HHx := Lib.hid ((Below.refl wr.heap.size wr).alloc (Nat.le_refl _) (.cells #[.int .i64 (o : Int), .int .i64 hn, .slice Ah M ch] tPh))
      have HHb : Hid (Blk (wr.alloc (.cells #[.int .i64 (o : Int), .int .i64 hn, .slice Ah M ch] tPh)) wr.heap.size tPh [.int .i64 (o : Int), .int .i64 hn, .slice Ah M ch]) := Lib.hid (heap_new wr _)
      obtain ⟨W1, hW1⟩ : ∃ W1, W1 = wr.alloc (.cells #[.int .i64 (o : Int), .int .i64 hn, .slice Ah M ch] tPh) := ⟨_, rfl⟩
      rw [← hW1] at HHx HHb
      have HB2 := Lib.hid (HB.out.trans (HHx.out.mono HB.out.size))
      have HO1 := Lib.hid (ownK_below HO.out HHx.out)
      have HLx := Lib.hid (fun V (hV : Below w1.heap.size w1 V) => HL1.out V hV)
      have HWi : Hid (∀ k V, Below w1.heap.size w1 V → Calls Tryz.prog 34 #[.int .u8 k, .agg #[.int .i64 (o : Int), .int .i64 hn, .slice Ah M ch]] V (StrsPost V (notB k ls))) := Lib.hid (fun k V hV => without_any (o : Int) hn _ ls k V (hrh.below (HB1.out.trans (hV.mono HB1.out.size))) (by omega))
      have HHa : Hid (∀ V u, Below w1.heap.size w1 V → RdS V u (oldT ⟨ho', hn, ls⟩) → Calls Tryz.prog 35 #[.slice Al X cl, .int .i64 (o : Int), u] V fun e w' => e = .returned (.bool (decide (fitH xs ⟨ho', hn, ls⟩))) ∧ Below V.heap.size V w') := Lib.hid (fun V u hV hu => by
       have := hasAt_any (.slice Al X cl) u xs (oldT ⟨ho', hn, ls⟩) o V (HLx.out V hV) hu (by have := HX.out; omega) hol (by omega)
       rw [HfD.out] at this
       exact this)
      obtain ⟨x0, x1, x2, -, -⟩ := blk3 HHb.out
      clear HfD HHx HR HSm HPos HO
      generalize oldT ⟨ho', hn, ls⟩ = ol at *
      generalize newT ⟨ho', hn, ls⟩ = nl at *
      generalize hGb : wr.heap.size = G at *
      go_upto_region 9 with fail
      rw [← hW1]
      clear hW1 c0 c1 c2 k0 k1 k2 hrh
      go_wp2_with fail
      refine (HWi.out 43 W1 HB2.out).mono ?_
      rintro e w2 ⟨u, rfl, hu, hb⟩
      have HU := Lib.hid (Tx.RdS.of_own hu)
      rw [HOl.out] at HU
      obtain ⟨Au, cu, rfl, -, -⟩ := id HU.out
      have HV2 := Lib.hid (HB2.out.trans (hb.mono HB2.out.size))
      have HH2 := Lib.hid (HHb.out.below hb)
      have HO2 := Lib.hid (ownK_below HO1.out hb)
      obtain ⟨x0, x1, x2, -, -⟩ := blk3 HH2.out
      have HA2 := Lib.hid (HHa.out w2 _ HV2.out HU.out)
      clear hu hb HOl HHa HHb HO1
      cases hf : decide (fitH xs ⟨ho', hn, ls⟩) with
      | false =>
        have HS2 := Lib.hid (HNo.out (of_decide_eq_false hf))
        rw [hf] at HA2
        clear hf HSt HNo
        go_wp2_with fail
        refine HA2.out.mono ?_
        rintro e w3 ⟨rfl, hb⟩
        have HV3 := Lib.hid (HV2.out.trans (hb.mono HV2.out.size))
        clear hb
        go_wp2_with fail
        go_ret2
        exact HMiss.out _ HS2.out (HB1.out.trans (HV3.out.mono HB1.out.size))
      | true =>
        obtain ⟨hfit, hst⟩ := HSt.out (of_decide_eq_true hf)
        rw [HX.out] at hfit
        have HS2 := Lib.hid hst
        have hl2 : (acc ++ cut xs i0 o ++ nl).length ≤ 1000000 := by have := hst.len; rw [← HRd.out] at this; omega
        have hl3 := hl2
        rw [List.length_append] at hl2
        rw [List.length_append, List.length_append] at hl3
        rw [hf] at HA2
        clear hf HSt HNo hst
        obtain ⟨A2, hs2, hr2⟩ := slice_rds w1 (HLx.out w1 (Below.refl _ _)) i0 o hio (by have := HX.out; omega)
        have HR2 := Lib.hid hr2
        clear hr2
        have HE1 : Hid (bss acc ++ bss (cut xs i0 o) = bss (acc ++ cut xs i0 o)) := Lib.hid (by simp [bss])
        have HE2 : Hid (bss (acc ++ cut xs i0 o) ++ bss nl = bss (acc ++ cut xs i0 o ++ nl)) := Lib.hid (by simp [bss])
        have hq0 : (0 : Int) ≤ (i0 : Int) := by omega
        have hq1 : (i0 : Int) ≤ (o : Int) := by omega
        generalize hol3 : ol.length = OL at *
        go_wp2_with fail
        refine HA2.out.mono ?_
        rintro e w3 ⟨rfl, hb⟩
        have HV3 := Lib.hid (HV2.out.trans (hb.mono HV2.out.size))
        have HH3 := Lib.hid (HH2.out.below hb)
        obtain ⟨x0, x1, x2, -, -⟩ := blk3 HH3.out
        have HO3 := Lib.hid (ownK_below HO2.out hb)
        have HRc := Lib.hid (HR2.out w3 (HLx.out w3 HV3.out))
        clear hb HA2 HH2 HO2 HV2
        go_wp2_with (at_builtin; refine app_rdsG rfl (.tmp 38) (.tmp 43) rfl w1.heap.size (bss acc) (cut xs i0 o) _ _ rfl HO3.out rfl HRc.out (by simp only [bss, List.length_map]; omega) HV3.out.size ?_; intro v4 w4 ho4 hb4 hk4; rw [HE1.out] at ho4; have HO4 := Lib.hid ho4; have HV4 := Lib.hid (HV3.out.trans hb4); have HH4 := Lib.hid (hk4 _ _ _ (by decide) HH3.out); obtain ⟨x0, x1, x2, -, -⟩ := blk3 HH4.out; clear ho4 hb4 hk4 HO3 HV3 HH3 HRc)
        refine (HWi.out 45 w4 HV4.out).mono ?_
        rintro e w5 ⟨u5, rfl, hu, hb⟩
        have HU5 := Lib.hid (Tx.RdS.of_own hu)
        rw [HNl.out] at HU5
        obtain ⟨A5, c5, rfl, -, -⟩ := id HU5.out
        have HV5 := Lib.hid (HV4.out.trans (hb.mono HV4.out.size))
        have HH5 := Lib.hid (HH4.out.below hb)
        have HO5 := Lib.hid (ownK_below HO4.out hb)
        obtain ⟨x0, x1, x2, -, -⟩ := blk3 HH5.out
        clear hu hb HO4 HV4 HH4 HWi
        go_wp2_with (at_builtin; refine app_rdsG rfl (.tmp 45) (.tmp 47) rfl w1.heap.size (bss (acc ++ cut xs i0 o)) nl _ _ rfl HO5.out rfl HU5.out (by simp only [bss, List.length_map]; omega) HV5.out.size ?_; intro v6 w6 ho6 hb6 hk6; rw [HE2.out] at ho6; have HO6 := Lib.hid ho6; have HV6 := Lib.hid (HV5.out.trans hb6); have HH6 := Lib.hid (hk6 _ _ _ (by decide) HH5.out); obtain ⟨x0, x1, x2, -, -⟩ := blk3 HH6.out; clear ho6 hb6 hk6 HO5 HV5 HH5 HU5)
        go_roundw
        case rel => exact ⟨j + 1, _, _, by omega, by go_num, by go_num, HS2, HO6, HV6⟩
        case measure => simp [intOf]; omega
    · obtain rfl : j = N := by omega
      have hst := HAt.out
      rw [← HN.out] at hst
      obtain ⟨hfull, hres⟩ := hst.stop
      rw [← HRd.out] at hres
      rw [HN.out] at hfull
      have HFl := Lib.hid hfull
      obtain ⟨A2, hs2, hr2⟩ := slice_rest w1 (HL1.out w1 (Below.refl _ _)) i0 (by rw [HX.out]; exact hi0)
      have HRc := Lib.hid (hr2 wr (HL1.out wr HB.out))
      have hl2 : acc.length + (xs.drop i0).length ≤ 1000000 := by rw [← List.length_append, hres]; omega
      have HE1 : Hid (bss acc ++ bss (xs.drop i0) = bss R) := Lib.hid (by rw [← hres]; simp [bss])
      have HMr : Hid (Tx.mks (bss R) = R) := Lib.hid (Tx.mks_bs R)
      have hq0 : (0 : Int) ≤ (i0 : Int) := by omega
      have hq1 : (i0 : Int) ≤ (X : Int) := by omega
      clear hst hfull hres hr2
      go_wp2_with (at_builtin; refine app_rdsG rfl (.tmp 56) (.tmp 59) rfl w1.heap.size (bss acc) (xs.drop i0) _ _ rfl HO.out rfl HRc.out (by simp only [bss, List.length_map]; omega) HB.out.size ?_; intro v4 w4 ho4 hb4 _; rw [HE1.out] at ho4; have HO4 := Lib.hid (Tx.RdS.of_own ho4); rw [HMr.out] at HO4; obtain ⟨A5, c5, rfl, -, -⟩ := id HO4.out; have HV4 := Lib.hid (HB.out.trans hb4); clear ho4 hb4)
      have HJ := Lib.hid (HJn.out _ w4 HO4.out)
      have hrr : R.length ≤ 1000000 := hrl
      cases hli : Tx.isListF (bss R) with
      | false =>
        have ej : Tx.joinF R = (⟨#[]⟩, 2) := by unfold Tx.joinF; rw [if_pos hli]
        rw [ej] at HJ
        have HF2 := Lib.hid (fun w' hb => HNoL.out w' HFl.out hli hb)
        clear hli ej HJn HNoL HOk
        refine HJ.out.mono ?_
        rintro e w5 ⟨rfl, hb⟩
        have HV5 := Lib.hid (HV4.out.trans (hb.mono HV4.out.size))
        clear hb HJ
        go_wp2_with fail
        go_ret2
        exact HF2.out _ (HB1.out.trans (HV5.out.mono HB1.out.size))
      | true =>
        have hz : (Tx.joinF R).2 ≠ 2 := by
         unfold Tx.joinF
         rw [if_neg (by rw [hli]; decide)]
         split
         · show (1 : Int) ≠ 2
           decide
         · show (0 : Int) ≠ 2
           decide
        have HF2 := Lib.hid (fun w' hb => HOk.out w' HFl.out hli hb)
        clear hli HJn HNoL HOk
        generalize (Tx.joinF R).2 = z at *
        generalize (Tx.joinF R).1 = y at *
        have ez : (z == 2) = false := by rw [beq_eq_false_iff_ne]; exact hz
        refine HJ.out.mono ?_
        rintro e w5 ⟨rfl, hb⟩
        have HV5 := Lib.hid (HV4.out.trans (hb.mono HV4.out.size))
        clear hb HJ
        go_wp2_with fail
        go_ret2
        exact HF2.out _ (HB1.out.trans (HV5.out.mono HB1.out.size))
 · have h1 := app_err h0
   have HFin : Hid (∀ w', Below w.heap.size w w' → ApPost p s w (.returned (.tuple #[.string ⟨#[]⟩, .int .i64 (fitsF p s).2])) w') := Lib.hid (fun w' h2 => ⟨by rw [h1], h2⟩)
   have e1 : ((fitsF p s).2 != 0) = true := by rw [bne_iff_ne]; exact h0
   clear h0 h1 hsm hn
   generalize (fitsF p s).2 = z at *
   go_enter Tryz.func14, Tryz.ntmps14
   go_upto_region 1 with fail
   rw [← hW]
   clear hW
   go_wp2_with fail
   refine HRe.out.mono ?_
   rintro e w1 ⟨lv, rfl, -, hb⟩
   have HB1 := Lib.hid (HB0.out.trans (hb.mono HB0.out.size))
   clear hb
   go_wp2_with fail
   go_ret2
   exact HFin.out _ HB1.out
end Pa
end
section
open Go.RowKit
namespace Pa
open Cm Uf Hn
open Sc (Pow)
open Tx (bs)
open St (nL)
structure Sm (p : Pat) : Prop where
 sm : PatSm p.hunks
 n : p.hunks.length + nL p.hunks ≤ 100000
theorem wr_sm {p : Pat} (hs : PatSm p.hunks) (h : (wrAll p).length ≤ 100000) : Sm p := by
 refine ⟨hs, ?_⟩
 have h4 := St.wr_ge p.hunks
 unfold wrAll at h
 rw [List.length_append] at h
 omega
theorem mk_sm {ctx : Int} (hc : 0 ≤ ctx) {s t : ByteArray} (hs : s.size ≤ 36) (ht : t.size ≤ 180) (down : Bool) {on nn : ByteArray} (h1 : nameB on = true) (h2 : nameB nn = true) : Sm ⟨on, nn, patH (Sh.lnB s) (Sh.lnB t) ctx (scrD down s t)⟩ :=
 wr_sm (mk_ok hc (by omega) (by omega) down h1 h2).big.1 (Nat.le_trans (St.mk_small hc hs ht down h1 h2).2 (by decide))
theorem Ap {p : Pat} (h : Sm p) {v : Value} {s : ByteArray} {w : World} (hr : RdP w v p.hunks) (hs : s.size ≤ 4194304) (hp : Pow w) : Calls Tryz.prog 14 #[tPatV p v, .string s] w fun e w' => e = .returned (.tuple #[.string (applyF p s).1, .int .i64 (applyF p s).2]) ∧ Below w.heap.size w w' :=
 Apply_any p v s w hr h.sm (by have := h.n; omega) hs hp
def exU : ByteArray := ⟨#[97, 10, 98, 10]⟩
def l4B : ByteArray := ⟨#[98, 10]⟩
theorem ex_lu : Sh.lnB exU = [l1B, l4B] := by rfl
theorem ex_pat : exP = ⟨xB, xB, patH (Sh.lnB exS) (Sh.lnB exT) 1 (scrD false exS exT)⟩ := by
 rw [← ex_mk]
 exact (mk_on (by decide) (by decide) ⟨by decide, by decide⟩).2
theorem ex_sm14 : Sm exP := by
 rw [ex_pat]
 exact mk_sm (by decide) (by decide) (by decide) false (by decide) (by decide)
theorem ex_app : applyF exP exS = (exT, 0) := by
 rw [ex_pat]
 exact (makes_small (by decide) (by decide) (by decide) false (by decide) (by decide)).1
theorem ex_no : applyF exP exU = (⟨#[]⟩, 140) := by
 refine app_miss ex_chk (check_le (by decide)) ?_
 have h : fitN (Sh.lnB exU) exP.hunks = 0 := by
  rw [ex_lu]
  show fitN [l1B, l4B] [⟨0, 0, [⟨32, l1B⟩, ⟨45, l2B⟩, ⟨43, l3B⟩]⟩] = 0
  rw [fitN, if_neg]
  rintro ⟨_, h⟩
  exact absurd (congrArg (List.map bs) h) (by decide)
 rw [h]
 decide
set_option maxRecDepth 100000 in
set_option maxHeartbeats 4000000 in
theorem awake_any (w : World) (hw : Pow w) : Calls Tryz.prog 11 #[] w fun e w' => e = .returned (.bool true) ∧ Below w.heap.size w w' := by
 have HM := Lib.hid (MakeR_any xB xB exS exT 1 false (by decide) (by decide) w)
 rw [ex_mk, ex_mc] at HM
 go_enter Tryz.func11, Tryz.ntmps11
 go_wp2_with fail
 refine HM.out.mono ?_
 rintro e w1 ⟨v, he, ho, hb1⟩
 obtain ⟨A, c, rfl⟩ := ho.form
 obtain rfl : e = .returned (.tuple #[.agg #[.string xB, .string xB, .slice A exP.hunks.length c], .int .i64 0]) := he
 have HX1 := Lib.hid (BxP.new (p := exP) ho.rd)
 have hb2 := (Below.refl w1.heap.size w1).alloc (Nat.le_refl _) (.cells #[.string exP.on, .string exP.nn, .slice A exP.hunks.length c] tPat)
 have HB1 := Lib.hid (hb1.trans (hb2.mono hb1.size))
 clear ho hb1 HM hb2
 go_upto_region 2 with fail
 obtain ⟨W, hW⟩ : ∃ W, W = w1.alloc (.cells #[.string exP.on, .string exP.nn, .slice A exP.hunks.length c] tPat) := ⟨_, rfl⟩
 rw [← hW] at HX1 HB1
 rw [show w1.alloc (.cells #[.string xB, .string xB, .slice A exP.hunks.length c] tPat) = W from hW.symm]
 clear hW
 obtain ⟨x0, x1, x2⟩ := HX1.out.cells
 have HA1 := Lib.hid (Ap ex_sm14 (s := exS) HX1.out.2 (by decide) (hw.stays HB1.out))
 rw [ex_app] at HA1
 go_wp2_with fail
 refine HA1.out.mono ?_
 rintro e w2 ⟨rfl, hb⟩
 have HX2 := Lib.hid (HX1.out.below hb)
 have HB2 := Lib.hid (HB1.out.trans (hb.mono HB1.out.size))
 obtain ⟨x0, x1, x2⟩ := HX2.out.cells
 have HA2 := Lib.hid (Ap ex_sm14 (s := exU) HX2.out.2 (by decide) (hw.stays HB2.out))
 rw [ex_no] at HA2
 clear hb HX1 HB1 HA1
 go_wp2_with fail
 refine HA2.out.mono ?_
 rintro e w3 ⟨rfl, hb⟩
 have HB3 := Lib.hid (HB2.out.trans (hb.mono HB2.out.size))
 have t0 : exT.toList = [97, 10, 99, 10] := by rw [ByteArray.toList_eq]; rfl
 have t1 : (exT.toList == [97, 10, 99, 10]) = true := by rw [t0]; rfl
 clear hb HX2 HB2 HA2 x0 x1 x2
 go_wp2_with fail
 go_ret
 exact ⟨rfl, HB3.out⟩
def PkPost (w : World) (m : Int) (e : Ending) (w' : World) : Prop := ∃ (a b : ByteArray) (A : Option Addr) (c : Nat), a.size ≤ 36 ∧ b.size ≤ 180 ∧
 e = .returned (.tuple #[.agg #[.string oB, .string nB, .slice A (patH (Sh.lnB a) (Sh.lnB b) m (scrD false a b)).length c], .string a, .string b]) ∧ OwnP w.heap.size w' (.slice A (patH (Sh.lnB a) (Sh.lnB b) m (scrD false a b)).length c) (patH (Sh.lnB a) (Sh.lnB b) m (scrD false a b)) ∧ Below w.heap.size w w'
set_option maxRecDepth 100000 in
set_option maxHeartbeats 4000000 in
theorem pick_any (v : Value) (us : List Int) (ctx : Int) (w : World) (h : RdV w v (intsV us)) (hu : us.length ≤ maxLen) (hub : ∀ z ∈ us, -9223372036854775808 ≤ z ∧ z ≤ 9223372036854775807) (hc0 : -9223372036854775808 ≤ ctx) (hc1 : ctx ≤ 9223372036854775807) :
 Calls Tryz.prog 12 #[v, .int .i64 ctx] w (PkPost w (Tx.modF ctx 4)) := by
 generalize hO : (.cells #[.string ⟨#[]⟩, .string ⟨#[]⟩, .slice none 0 0] tPat : Obj) = O
 have HO := Lib.hid (((Below.refl w.heap.size w).alloc (Nat.le_refl _) O))
 have HO0 : Hid (∀ W, Below (w.alloc O).heap.size (w.alloc O) W → W.heap[w.heap.size]? = some O) := Lib.hid (fun W hb => (hb.block _ (Array.getElem?_eq_some_iff.1 (heap_new w O)).1).trans (heap_new w O))
 have HB0 := Lib.hid (Tx.Blob_any v us.length 0 9 5 (w.alloc O) (rdI_V (h.below HO.out) hub) hu (by omega) (by omega) (by omega) (by omega) (by omega) (by omega))
 have HNr := Lib.hid (fun wq (hb : Below (w.alloc O).heap.size (w.alloc O) wq) (a : ByteArray) (ha : a.size ≤ 36) => Sh.Near_any a v us 100 wq ((h.below HO.out).below hb) hu (by omega) ⟨by omega, by omega⟩)
 obtain ⟨A, c, rfl⟩ := h.form
 have HMd := Lib.hid (fun w => Tx.Mod_any ctx 4 w (by omega) (by omega) hc0 hc1)
 have hm0 := Tx.modF_lo ctx 4 (by omega)
 have hm1 := Tx.modF_hi ctx 4 (by omega)
 subst hO
 clear h hu hub hc0 hc1
 rw [intsV_len] at HB0 HNr ⊢
 generalize us.length = nu at *
 generalize Tx.modF ctx 4 = m at *
 unfold Tx.SomeStr at HB0 HNr
 rw [show (9 : Int).toNat = 9 from rfl] at HB0
 go_enter Tryz.func12, Tryz.ntmps12
 go_wp2_with fail
 refine (HB0.out).mono ?_
 rintro e w1 ⟨a, ha, rfl, hb⟩
 have HW1 := Lib.hid hb
 clear hb
 go_wp2_with fail
 refine (HNr.out _ HW1.out a (by omega)).mono ?_
 rintro e w2 ⟨b, hb', rfl, hb⟩
 have HW2 := Lib.hid (HW1.out.trans (hb.mono HW1.out.size))
 clear HW1 hb
 have hax : a.size ≤ 36 := by omega
 have hbx : b.size ≤ 180 := by omega
 obtain ⟨e1, e2⟩ := mk_on (s := a) (t := b) (ctx := m) (down := false) (on := oB) (nn := nB) (by decide) (by decide) ⟨by omega, by omega⟩
 have HR := Lib.hid (fun W => MakeR_any oB nB a b m false (by omega) (by omega) W)
 unfold PtPost at HR
 rw [e1, e2] at HR
 have HPost : Hid (∀ (A : Option Addr) (c : Nat) (w' : World), OwnP w.heap.size w' (.slice A (patH (Sh.lnB a) (Sh.lnB b) m (scrD false a b)).length c) (patH (Sh.lnB a) (Sh.lnB b) m (scrD false a b)) → Below w.heap.size w w' → PkPost w m (.returned (.tuple #[.agg #[.string oB, .string nB, .slice A (patH (Sh.lnB a) (Sh.lnB b) m (scrD false a b)).length c], .string a, .string b])) w') := Lib.hid (fun A c w' h1 h2 => ⟨a, b, A, c, hax, hbx, rfl, h1, h2⟩)
 generalize patH (Sh.lnB a) (Sh.lnB b) m (scrD false a b) = P at *
 clear e1 e2 ha hb' hax hbx HB0 HNr
 go_wp2_with fail
 refine (HMd.out _).mono ?_
 rintro e w3 ⟨rfl, rfl⟩
 go_wp2_with fail
 refine (HR.out _).mono ?_
 rintro e w4 ⟨v4, rfl, ho, hb⟩
 obtain ⟨A4, c4, rfl⟩ := ho.form
 have hb1 := HW2.out.trans (hb.mono HW2.out.size)
 have hA := (Below.refl w4.heap.size w4).alloc (Nat.le_refl _) (.cells #[.string oB, .string nB, .slice A4 P.length c4] tPat)
 have HX : Hid (BxP (w4.alloc (.cells #[.string oB, .string nB, .slice A4 P.length c4] tPat)) w4.heap.size ⟨oB, nB, P⟩ (.slice A4 P.length c4)) := Lib.hid (BxP.new (p := ⟨oB, nB, P⟩) ho.rd)
 have HOw := Lib.hid (ho.below hA)
 have hb5 := hb1.trans (hA.mono hb1.size)
 have HBw := Lib.hid (HO.out.trans (hb5.mono HO.out.size))
 obtain ⟨W, hW⟩ : ∃ W, W = w4.alloc (.cells #[.string oB, .string nB, .slice A4 P.length c4] tPat) := ⟨_, rfl⟩
 rw [← hW] at HX HOw HBw hb5
 have HZ := HO0.out W hb5
 have hw2 : w.heap.size < w2.heap.size := Nat.lt_of_lt_of_le (Array.getElem?_eq_some_iff.1 (heap_new w _)).1 HW2.out.size
 clear ho hb hb1 HR hA HW2 HO HO0 hb5
 go_upto_region 4 with fail
 rw [← hW]
 clear hW
 obtain ⟨x0, x1, x2⟩ := HX.out.cells
 obtain ⟨z0, z1, z2, zf, zlt⟩ := blk3 (show Blk W w.heap.size tPat [.string ⟨#[]⟩, .string ⟨#[]⟩, .slice none 0 0] from HZ)
 have HBy := Lib.hid (((HBw.out.setCell (p := ⟨w.heap.size, 0, none⟩) (Nat.le_refl _) (.string oB)).setCell (p := ⟨w.heap.size, 1, none⟩) (Nat.le_refl _) (.string nB)).setCell (p := ⟨w.heap.size, 2, none⟩) (Nat.le_refl _) (.slice A4 P.length c4))
 have HOz := Lib.hid ((((HOw.out.box (o := 0) (u := .string oB) hw2).box (o := 1) (u := .string nB) hw2).box (o := 2) (u := .slice A4 P.length c4) hw2).base (base' := w.heap.size) (by omega))
 clear HX HOw HBw HZ
 go_wp2_with fail
 exact bodyPost_ret (v := .tuple #[.agg #[.string oB, .string nB, .slice A4 P.length c4], .string a, .string b]) (by simp [results, Tryz.f12, go_sem, z0, z1, z2]) rfl (HPost.out _ _ _ HOz.out HBy.out)
end Pa
end
section
open Go.RowKit
namespace Pa
open Cm Uf Hn
open Sc (Pow)
open Tx (bs)
theorem mk_md {ctx : Int} (hc : 0 ≤ ctx) {s t : ByteArray} (hs : s.size ≤ 36) (ht : t.size ≤ 180) (down : Bool) {on nn : ByteArray} (h1 : nameB on = true) (h2 : nameB nn = true) : St.Md ⟨on, nn, patH (Sh.lnB s) (Sh.lnB t) ctx (scrD down s t)⟩ (fmtB ⟨on, nn, patH (Sh.lnB s) (Sh.lnB t) ctx (scrD down s t)⟩) := by
 have hok := mk_ok (ctx := ctx) hc (show s.size ≤ 1000 by omega) (show t.size ≤ 1000 by omega) down h1 h2
 have hsm := St.mk_small (ctx := ctx) hc hs ht down h1 h2
 have hf : bs (fmtB ⟨on, nn, patH (Sh.lnB s) (Sh.lnB t) ctx (scrD down s t)⟩) = joinL (partsF ⟨on, nn, patH (Sh.lnB s) (Sh.lnB t) ctx (scrD down s t)⟩) := by
  unfold fmtB
  rw [if_pos hok.chk]
 refine ⟨hok, hf, ?_, ?_⟩
 · have h3 := joinL_len (partsF ⟨on, nn, patH (Sh.lnB s) (Sh.lnB t) ctx (scrD down s t)⟩)
   rw [← hf] at h3
   have h4 := Tx.bs_len (fmtB ⟨on, nn, patH (Sh.lnB s) (Sh.lnB t) ctx (scrD down s t)⟩)
   omega
 · show (bs (fmtB ⟨on, nn, patH (Sh.lnB s) (Sh.lnB t) ctx (scrD down s t)⟩)).count 10 ≤ 1000
   rw [hf, St.count_form hok.chk]
   exact hsm.2
set_option maxRecDepth 100000 in
set_option maxHeartbeats 8000000 in
theorem written_walk (v : Value) (us : List Int) (ctx : Int) (w : World) (h : RdV w v (intsV us)) (hu : us.length ≤ maxLen) (hub : ∀ z ∈ us, -9223372036854775808 ≤ z ∧ z ≤ 9223372036854775807) (hc0 : -9223372036854775808 ≤ ctx) (hc1 : ctx ≤ 9223372036854775807) (hp : Pow w) :
 Calls Tryz.prog 7 #[v, .int .i64 ctx] w (AwPost w) := by
 have HAw := Lib.hid (fun w' (hb : Below w.heap.size w w') => awake_any w' (hp.stays hb))
 have HPw := Lib.hid (fun w' (hb : Below w.heap.size w w') => hp.stays hb)
 have HPk := Lib.hid (pick_any v us ctx w h hu hub hc0 hc1)
 obtain ⟨A, c, rfl⟩ := h.form
 have HMd := Lib.hid (fun w => Tx.Mod_any ctx 4 w (by omega) (by omega) hc0 hc1)
 have hm0 := Tx.modF_lo ctx 4 (by omega)
 have hm1 := Tx.modF_hi ctx 4 (by omega)
 clear h hu hub hc0 hc1 hp
 rw [intsV_len] at HPk ⊢
 generalize us.length = nu at *
 generalize Tx.modF ctx 4 = m at *
 unfold PkPost at HPk
 go_enter Tryz.func7, Tryz.ntmps7
 go_wp2_with fail
 refine HPk.out.mono ?_
 rintro e w1 ⟨a, b, A1, c1, hax, hbx, rfl, ho, hb⟩
 have HM := Lib.hid (fun W => Make_on a b m false (by omega) (by omega) ⟨by omega, by omega⟩ W)
 have hsm := mk_sm (ctx := m) hm0 hax hbx false (on := oB) (nn := nB) (by decide) (by decide)
 have hmd := mk_md (ctx := m) hm0 hax hbx false (on := oB) (nn := nB) (by decide) (by decide)
 have hq := (makes_small (ctx := m) hm0 (show a.size ≤ 1000 by omega) (show b.size ≤ 1000 by omega) false (on := oB) (nn := nB) (by decide) (by decide)).1
 generalize patH (Sh.lnB a) (Sh.lnB b) m (scrD false a b) = P at *
 have HSm := Lib.hid hsm
 have HMk := Lib.hid hmd
 have HQ := Lib.hid hq
 have HB1 := Lib.hid (hb.alloc hb.size (.cells #[.string oB, .string nB, .slice A1 P.length c1] tPat))
 clear ho hb hsm hmd hq HPk hm0 hm1
 go_wp2_with fail
 refine (HMd.out _).mono ?_
 rintro e w2 ⟨rfl, hw2⟩
 rw [← hw2]
 clear hw2
 go_wp2_with fail
 refine (HM.out _).mono ?_
 rintro e w3 ⟨A3, c3, rfl, ho, hb⟩
 have HX1 := Lib.hid (BxP.new (p := ⟨oB, nB, P⟩) ho.rd)
 have HB2 := Lib.hid (HB1.out.trans (hb.mono HB1.out.size))
 have HB3 := Lib.hid (HB2.out.alloc HB2.out.size (.cells #[.string oB, .string nB, .slice A3 P.length c3] tPat))
 clear ho hb HB1 HB2 HM HMd
 go_upto_region 3 with fail
 obtain ⟨W, hW⟩ : ∃ W, W = w3.alloc (.cells #[.string oB, .string nB, .slice A3 P.length c3] tPat) := ⟨_, rfl⟩
 rw [← hW] at HX1 HB3 ⊢
 clear hW
 obtain ⟨x0, x1, x2⟩ := HX1.out.cells
 have HF : Hid (Calls Tryz.prog 26 #[.agg #[.string oB, .string nB, .slice A3 P.length c3]] W _) := Lib.hid (Format_any ⟨oB, nB, P⟩ _ W HX1.out.2 HSm.out.sm (HPw.out _ HB3.out))
 unfold FmPost at HF
 rw [HMk.out.ok.chk] at HF
 have hts : (fmtB ⟨oB, nB, P⟩).size ≤ 100000 := HMk.out.size
 generalize fmtB ⟨oB, nB, P⟩ = t at *
 go_wp2_with fail
 refine HF.out.mono ?_
 rintro e w4 ⟨rfl, hb⟩
 have HB4 := Lib.hid (HB3.out.trans (hb.mono HB3.out.size))
 have HP := Lib.hid (St.Parse_any t w4 (by omega) HMk.out.lfs (HPw.out _ HB4.out))
 have HPy : Hid (∀ e w', St.PsPost (bs t) w4 e w' → (∃ v, e = .returned (.tuple #[.agg #[.string oB, .string nB, v], .int .i64 0]) ∧ RdP w' v P) ∧ Below w4.heap.size w4 w') := Lib.hid (fun e w' h => ⟨h.2.2 _ HMk.out.prs, h.1⟩)
 clear hb HX1 HB3 HF x0 x1 x2
 go_wp2_with fail
 refine HP.out.mono ?_
 intro e w5 h5
 obtain ⟨⟨v5, rfl, hr⟩, hb⟩ := HPy.out _ _ h5
 obtain ⟨A5, c5, rfl⟩ := hr.form
 have HX2 := Lib.hid (BxP.new (p := ⟨oB, nB, P⟩) hr)
 have HB5 := Lib.hid (HB4.out.trans (hb.mono HB4.out.size))
 have HB6 := Lib.hid (HB5.out.alloc HB5.out.size (.cells #[.string oB, .string nB, .slice A5 P.length c5] tPat))
 clear h5 hr hb HP HPy HB4 HB5
 go_upto_region 5 with fail
 obtain ⟨W2, hW⟩ : ∃ W, W = w5.alloc (.cells #[.string oB, .string nB, .slice A5 P.length c5] tPat) := ⟨_, rfl⟩
 rw [← hW] at HX2 HB6 ⊢
 clear hW
 obtain ⟨x0, x1, x2⟩ := HX2.out.cells
 have HA1 : Hid (Calls Tryz.prog 14 #[.agg #[.string oB, .string nB, .slice A5 P.length c5], .string a] W2 _) := Lib.hid (Ap HSm.out HX2.out.2 (by omega) (HPw.out _ HB6.out))
 rw [HQ.out] at HA1
 go_wp2_with fail
 refine HA1.out.mono ?_
 rintro e w6 ⟨rfl, hb⟩
 have HB7 := Lib.hid (HB6.out.trans (hb.mono HB6.out.size))
 have HA3 := Lib.hid (HAw.out _ HB7.out)
 clear hb HA1 HX2 HB6 x0 x1 x2
 go_wp2_with fail
 refine HA3.out.mono ?_
 rintro e w7 ⟨rfl, hb⟩
 have HB8 := Lib.hid (HB7.out.trans (hb.mono HB7.out.size))
 clear hb
 go_wp2_with fail
 go_ret
 exact ⟨rfl, HB8.out⟩
end Pa
end
end
end Go.Proofs.YtjecfmbecgpbmaaGreatDoor

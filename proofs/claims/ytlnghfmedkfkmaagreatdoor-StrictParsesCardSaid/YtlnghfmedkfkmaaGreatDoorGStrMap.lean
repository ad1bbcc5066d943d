/-
  The table of the reader's methods. No conditions. The program's reader, whole. Conditions: texts of at most 500000 bytes and 16388 line feeds; the table of powers. The program's Parse. Conditions: texts of at most 500000 bytes and 16388 line feeds; the table of powers. The sanity check of the laws of layer 13. Condition: the table of powers. gen.Spoiled: a text with one byte put in, taken out or changed. Conditions: sizes.
-/
import Derived.Test.YtlnghfmedkfkmaaGreatDoorGStrRd
import Derived.MapKept
import Derived.ChangeMaps4
import Derived.Test.YtlnghfmedkfkmaaGreatDoorGUniFmt
import Derived.Test.YtlnghfmedkfkmaaGreatDoorGScanBase
namespace Go.Proofs.YtlnghfmedkfkmaaGreatDoor
section
namespace Cm
end Cm
namespace Hn
end Hn
namespace Uf
end Uf
open Go.RowKit
namespace St
open Uf Cm Hn
open Go.MapKept
open Go.ChangeMaps (setBlock)
abbrev tSteps : TypeId := 140
abbrev fnV (f : FuncId) : Value := .func (.func f) #[] #[]
def tbl : Array MapEntry := #[⟨.int .u8 45, fnV 91, 0⟩, ⟨.int .u8 43, fnV 92, 1⟩, ⟨.int .u8 64, fnV 93, 2⟩, ⟨.int .u8 32, fnV 94, 3⟩, ⟨.int .u8 92, fnV 95, 4⟩]
theorem und_steps : Tryz.prog.underlying tSteps = some (.map 5 138) := by kernel_rfl
theorem und_byte : Tryz.prog.underlying 5 = some (.int .u8) := by kernel_rfl
theorem run_ins {w : World} {r c : Nat} {es : Array MapEntry} (hb : w.heap[r]? = some (.map es c)) (k : Int) (v : Value) (hn : Instr.findNow (.int .u8) (.int .u8 k) es.toList 0 = some none) {B : Nat} (hB : B ≤ r) :
    ∃ w', (Instr.mapUpdate tSteps (.map (some r)) (.int .u8 k) v).run Tryz.prog w = .ok () w' ∧ w'.heap[r]? = some (.map (es.push ⟨.int .u8 k, v, c⟩) (c + 1)) ∧ Below B w w' := by
  have hlt : r < w.heap.size := (Array.getElem?_eq_some_iff.1 hb).1
  refine ⟨setBlock w r (.map (es.push ⟨.int .u8 k, v, c⟩) (c + 1)), ?_, ?_, ?_⟩
  · simp [Instr.mapUpdate, run_underlying und_steps, Go.MapKept.run_getObj_map hb, run_checkKey und_byte (show IsKey (.int .u8) (.int .u8 k) from rfl), run_findKey und_byte hn, run_setObj_map _ hb, Result.andThen, setBlock]
  · simp [setBlock, hlt]
  · exact ⟨rfl, rfl, rfl, by simp [setBlock], fun j hj => by
      simp only [setBlock]
      rw [Array.getElem?_setIfInBounds_ne (by omega)]⟩
set_option maxRecDepth 100000 in
theorem ins5 (w : World) : ∃ w2 w3 w4 w5 w6, (Instr.mapUpdate tSteps (.map (some w.heap.size)) (.int .u8 45) (fnV 91)).run Tryz.prog (w.alloc (.map #[] 0)) = .ok () w2 ∧
    (Instr.mapUpdate tSteps (.map (some w.heap.size)) (.int .u8 43) (fnV 92)).run Tryz.prog w2 = .ok () w3 ∧
    (Instr.mapUpdate tSteps (.map (some w.heap.size)) (.int .u8 64) (fnV 93)).run Tryz.prog w3 = .ok () w4 ∧
    (Instr.mapUpdate tSteps (.map (some w.heap.size)) (.int .u8 32) (fnV 94)).run Tryz.prog w4 = .ok () w5 ∧
    (Instr.mapUpdate tSteps (.map (some w.heap.size)) (.int .u8 92) (fnV 95)).run Tryz.prog w5 = .ok () w6 ∧
    w6.heap[w.heap.size]? = some (.map tbl 5) ∧ Below w.heap.size w w6 := by
  have h1 : (w.alloc (.map #[] 0)).heap[w.heap.size]? = some (.map #[] 0) := (heap_alloc w _).1
  have b1 : Below w.heap.size w (w.alloc (.map #[] 0)) := (Below.refl _ _).alloc (Nat.le_refl _) _
  obtain ⟨w2, e2, h2, b2⟩ := run_ins h1 45 (fnV 91) rfl (Nat.le_refl _)
  obtain ⟨w3, e3, h3, b3⟩ := run_ins h2 43 (fnV 92) rfl (Nat.le_refl _)
  obtain ⟨w4, e4, h4, b4⟩ := run_ins h3 64 (fnV 93) rfl (Nat.le_refl _)
  obtain ⟨w5, e5, h5, b5⟩ := run_ins h4 32 (fnV 94) rfl (Nat.le_refl _)
  obtain ⟨w6, e6, h6, b6⟩ := run_ins h5 92 (fnV 95) rfl (Nat.le_refl _)
  exact ⟨w2, w3, w4, w5, w6, e2, e3, e4, e5, e6, h6, ((((b1.trans b2).trans b3).trans b4).trans b5).trans b6⟩
theorem run_hit {w : World} {r c : Nat} (hb : w.heap[r]? = some (.map tbl c)) (k : Int) (i : Nat) (v : Value) (hn : Instr.findNow (.int .u8) (.int .u8 k) tbl.toList 0 = some (some (i, v))) :
    (Instr.lookup tSteps (.map (some r)) (.int .u8 k) true).run Tryz.prog w = .ok (.tuple #[v, .bool true]) w := by
  simp [Instr.lookup, run_underlying und_steps, Go.MapKept.run_getObj_map hb, run_checkKey und_byte (show IsKey (.int .u8) (.int .u8 k) from rfl), run_findKey und_byte hn, Result.andThen]
theorem run_miss {w : World} {r c : Nat} (hb : w.heap[r]? = some (.map tbl c)) (k : Int) (hn : Instr.findNow (.int .u8) (.int .u8 k) tbl.toList 0 = some none) :
    (Instr.lookup tSteps (.map (some r)) (.int .u8 k) true).run Tryz.prog w = .ok (.tuple #[.nilFunc, .bool false]) w := by
  have hz : (zeroValue 138).run Tryz.prog w = .ok .nilFunc w := by kernel_rfl
  simp [Instr.lookup, run_underlying und_steps, Go.MapKept.run_getObj_map hb, run_checkKey und_byte (show IsKey (.int .u8) (.int .u8 k) from rfl), run_findKey und_byte hn, Result.andThen, hz]
theorem now_one (k n : Int) (h : k ≠ n) (v : Value) (b : Nat) (es : List MapEntry) (i : Nat) : Instr.findNow (.int .u8) (.int .u8 k) (⟨.int .u8 n, v, b⟩ :: es) i = Instr.findNow (.int .u8) (.int .u8 k) es (i + 1) := by
  have e : (k == n) = false := by simpa using h
  simp [Instr.findNow, Instr.sameNow, e]
theorem miss {k : Int} (h1 : k ≠ 45) (h2 : k ≠ 43) (h3 : k ≠ 64) (h4 : k ≠ 32) (h5 : k ≠ 92) : Instr.findNow (.int .u8) (.int .u8 k) tbl.toList 0 = some none := by
  show Instr.findNow (.int .u8) (.int .u8 k) [_, _, _, _, _] 0 = some none
  rw [now_one _ _ h1, now_one _ _ h2, now_one _ _ h3, now_one _ _ h4, now_one _ _ h5]
  rfl
end St
end
section
namespace Cm
end Cm
namespace Hn
end Hn
namespace Sc
end Sc
namespace Tx
end Tx
namespace Uf
end Uf
open Go.RowKit
namespace St
open Uf Cm Hn
open Go.MapKept
open Sc (Pow)
open Tx (RdS mks)
theorem n5 {k n : UInt8} (h : ¬ k = n) : (k.toNat : Int) ≠ (n.toNat : Int) := fun e => h (UInt8.toNat_inj.1 (by omega))
/-- What one line does: a method of the table, or none. -/
theorem step_calls (w0 wr : World) (p : Pat) (s : ByteArray) (k : UInt8) (t : List UInt8) (hk : bs s = k :: t) (h : RdI w0 wr p) (hs : s.size ≤ 1048576) (hw : Pow w0) {j z : Nat} (hf : Few j z p) (hj : j + 1 ≤ 1000000) (hz : z ≤ 4194304) :
    (∃ F i, (F = 91 ∨ F = 92 ∨ F = 93 ∨ F = 94 ∨ F = 95) ∧ Instr.findNow (.int .u8) (.int .u8 (k.toNat : Int)) tbl.toList 0 = some (some (i, fnV F)) ∧ Calls Tryz.prog F #[.pointer (some ⟨w0.heap.size, 0, none⟩), .string s] wr (StPost w0 (stepF p (k :: t)))) ∨
      (Instr.findNow (.int .u8) (.int .u8 (k.toNat : Int)) tbl.toList 0 = some none ∧ stepF p (k :: t) = none) := by
  have hn : p.hunks.length ≤ 1000000 := Nat.le_trans hf.len (by omega)
  have hl : ∀ h ∈ p.hunks, h.lines.length + 1 ≤ 1000000 := fun h hh => Nat.le_trans (Nat.succ_le_succ (hf.hk h hh).1) hj
  by_cases h1 : k = 45
  · subst h1
    exact .inl ⟨_, 0, by simp, rfl, minus_any w0 wr p s t hk h hs hn hl⟩
  by_cases h2 : k = 43
  · subst h2
    exact .inl ⟨_, 1, by simp, rfl, plus_any w0 wr p s t hk h hs hn hl⟩
  by_cases h3 : k = 64
  · subst h3
    have e : stepF p (64 :: t) = headF p (bs s) := by rw [stepF, if_neg (by decide), if_neg (by decide), if_pos rfl, hk]
    rw [e]
    exact .inl ⟨_, 2, by simp, rfl, header_any w0 wr p s h hs hw (Nat.le_trans (Nat.succ_le_succ hf.len) hj)⟩
  by_cases h4 : k = 32
  · subst h4
    have e : stepF p (32 :: t) = bodyF p 32 t := by rw [stepF, if_neg (by decide), if_neg (by decide), if_neg (by decide), if_pos rfl]
    rw [e]
    exact .inl ⟨_, 3, by simp, rfl, body_any w0 wr p s 32 t hk h hs hn hl⟩
  by_cases h5 : k = 92
  · subst h5
    have e : stepF p (92 :: t) = unF p := by rw [stepF, if_neg (by decide), if_neg (by decide), if_neg (by decide), if_neg (by decide), if_pos rfl]
    rw [e]
    exact .inl ⟨_, 4, by simp, rfl, unended_any w0 wr p s h hn (fun h hh => ⟨Nat.le_trans (hf.hk h hh).1 (by omega), fun l hl => by
      have := (hf.hk h hh).2.2.2 l hl
      unfold FewL at this
      omega⟩)⟩
  · refine .inr ⟨miss (n5 h1) (n5 h2) (n5 h3) (n5 h4) (n5 h5), ?_⟩
    rw [stepF, if_neg h1, if_neg h2, if_neg h3, if_neg h4, if_neg h5]
theorem HksI.base {base base' : Nat} {w : World} {v : Value} {hs : List PH} (h : HksI base w v hs) (hb : base' ≤ base) : HksI base' w v hs := by
  obtain ⟨zs, h1, h2, h3, h4⟩ := h
  exact ⟨zs, Sc.ownK_base h1 hb, h2, fun j a b => ⟨(h3 j a b).1, (h3 j a b).2.1, Sc.ownK_base (h3 j a b).2.2 hb⟩, h4⟩
theorem lnsS_le {s : List UInt8} {ls : List (List UInt8)} (h : lnsS s = some ls) : ls.length ≤ s.length ∧ ∀ l ∈ ls, l.length ≤ s.length := by
  unfold lnsS at h
  split at h
  · cases h
    exact ⟨Nat.zero_le _, fun l hl => by cases hl⟩
  · split at h
    · cases h
      refine ⟨by rw [List.length_map]; exact Tx.linesF_le s, fun l hl => ?_⟩
      obtain ⟨x, hx, e⟩ := List.mem_map.1 hl
      rw [← e]
      exact Nat.le_trans (bareF_le x) (Tx.mem_len hx)
    · cases h
/-- What read answers. -/
def ReadPost (s : List UInt8) (w : World) (e : Ending) (w' : World) : Prop :=
  Below w.heap.size w w' ∧ (readF s = none → e = .returned (.tuple #[.agg #[.string ⟨#[]⟩, .string ⟨#[]⟩, .slice none 0 0], .bool false])) ∧
    ∀ p, readF s = some p → ∃ v, e = .returned (.tuple #[tPatV p v, .bool true]) ∧ HksI (w.heap.size + 1) w' v p.hunks
theorem ReadPost.no {s : List UInt8} {w w' : World} (h : readF s = none) (hb : Below w.heap.size w w') : ReadPost s w (.returned (.tuple #[.agg #[.string ⟨#[]⟩, .string ⟨#[]⟩, .slice none 0 0], .bool false])) w' :=
  ⟨hb, fun _ => rfl, fun p hp => by rw [h] at hp; cases hp⟩
theorem ReadPost.yes {s : List UInt8} {w w' : World} {p : Pat} {v : Value} (h : readF s = some p) (hb : Below w.heap.size w w') (hr : HksI (w.heap.size + 1) w' v p.hunks) : ReadPost s w (.returned (.tuple #[tPatV p v, .bool true])) w' :=
  ⟨hb, fun h0 => (by rw [h] at h0; cases h0), fun q hq => by rw [h] at hq; cases hq; exact ⟨v, rfl, hr⟩⟩
theorem run_stop {ls : List (List UInt8)} {p : Pat} {j : Nat} (hj : j < ls.length) (h1 : runF p0 (ls.take j) = some p) (h2 : stepF p ls[j] = none) : runF p0 ls = none := by
  have e : ls = ls.take j ++ ls[j] :: ls.drop (j + 1) := by rw [← List.drop_eq_getElem_cons hj, List.take_append_drop]
  rw [e, runF_app, h1]
  show runF p (ls[j] :: _) = none
  rw [runF, h2]
  rfl
theorem run_next {ls : List (List UInt8)} {p q : Pat} {j : Nat} (hj : j < ls.length) (h1 : runF p0 (ls.take j) = some p) (h2 : stepF p ls[j] = some q) : runF p0 (ls.take (j + 1)) = some q := by
  rw [List.take_succ_eq_append_getElem hj, runF_app, h1]
  show runF p [ls[j]] = some q
  rw [runF, h2]
  rfl
theorem count_eq (l : List UInt8) : Lib.countByte l 10 = l.count 10 := by
  unfold Lib.countByte
  rfl
set_option maxRecDepth 100000 in
set_option maxHeartbeats 16000000 in
theorem read_any (s : ByteArray) (w : World) (h16 : s.size ≤ 500000) (hcn : Lib.countByte s.data.toList 10 ≤ 16388) (hw : Pow w) : Calls Tryz.prog 57 #[.string s] w (ReadPost (bs s) w) := by
  have hc : ¬ (16388 : Int) < Lib.countByte s.data.toList 10 := by omega
  have HC := Lib.hid (fun w => Tryz.strings_Count_one s 10 w)
  have HL := Lib.hid (fun w => Lines_any s w (by omega))
  unfold LsPost at HL
  have hmm := @run_makeMap Tryz.prog
  generalize hO : (.cells #[.string ⟨#[]⟩, .string ⟨#[]⟩, .slice none 0 0] tPat : Obj) = O
  have HOw := Lib.hid (((Below.refl w.heap.size w).alloc (Nat.le_refl _) O))
  have HOs : Hid (w.heap.size < (w.alloc O).heap.size) := Lib.hid (Array.getElem?_eq_some_iff.1 (heap_new w O)).1
  have HO0 : Hid ((w.alloc O).heap[w.heap.size]? = some O) := Lib.hid (heap_new w O)
  subst hO
  cases hl : lnsS (bs s) with
  | none =>
    have HF : Hid (∀ w', Below w.heap.size w w' → ReadPost (bs s) w (.returned (.tuple #[.agg #[.string ⟨#[]⟩, .string ⟨#[]⟩, .slice none 0 0], .bool false])) w') := Lib.hid (fun w' hb => ReadPost.no (by unfold readF; rw [hl]; rfl) hb)
    rw [hl] at HL
    clear hl hw
    go_enter Tryz.func57, Tryz.ntmps57
    go_wp2_with fail
    refine (HC.out _).mono ?_
    rintro e w1 ⟨rfl, rfl⟩
    go_wp2_with fail
    refine (HL.out _).mono ?_
    rintro e w1 ⟨v1, rfl, hr1, hb1⟩
    have HB1 := Lib.hid (HOw.out.trans (hb1.mono HOw.out.size))
    obtain ⟨k0, k1, k2, kf, klt⟩ := blk3 (show Blk w1 w.heap.size tPat [.string ⟨#[]⟩, .string ⟨#[]⟩, .slice none 0 0] from (hb1.block _ HOs.out).trans HO0.out)
    have HB2 := Lib.hid (((HB1.out.setCell (p := ⟨w.heap.size, 0, none⟩) (Nat.le_refl _) (.string ⟨#[]⟩)).setCell (p := ⟨w.heap.size, 1, none⟩) (Nat.le_refl _) (.string ⟨#[]⟩)).setCell (p := ⟨w.heap.size, 2, none⟩) (Nat.le_refl _) (.slice none 0 0))
    clear hr1 hb1
    go_wp2_with fail
    exact bodyPost_ret (v := .tuple #[.agg #[.string ⟨#[]⟩, .string ⟨#[]⟩, .slice none 0 0], .bool false]) (by simp [results, Tryz.f57, go_sem, k0, k1, k2]) rfl (HF.out _ HB2.out)
  | some ls =>
    have HRn : Hid (∀ p, readF (bs s) = some p ↔ runF p0 ls = some p) := Lib.hid (fun p => by unfold readF; rw [hl]; exact Iff.rfl)
    have HRz : Hid (readF (bs s) = none ↔ runF p0 ls = none) := Lib.hid (by unfold readF; rw [hl]; exact Iff.rfl)
    have HF : Hid (runF p0 ls = none → ∀ w', Below w.heap.size w w' → ReadPost (bs s) w (.returned (.tuple #[.agg #[.string ⟨#[]⟩, .string ⟨#[]⟩, .slice none 0 0], .bool false])) w') := Lib.hid (fun h0 w' hb => ReadPost.no (HRz.out.2 h0) hb)
    have HG : Hid (∀ p, runF p0 ls = some p → ∀ v w', Below w.heap.size w w' → HksI (w.heap.size + 1) w' v p.hunks → ReadPost (bs s) w (.returned (.tuple #[tPatV p v, .bool true])) w') := Lib.hid (fun p h0 v w' hb hr => ReadPost.yes ((HRn.out p).2 h0) hb hr)
    have hbl : (bs s).length = s.size := Tx.bs_len s
    obtain ⟨hz1, hz2⟩ := lnsS_le hl
    have HZ : Hid (∀ l ∈ ls, l.length ≤ 500000) := Lib.hid (fun l hh => by have := hz2 l hh; omega)
    have hN : ls.length ≤ 500000 := by omega
    rw [hl] at HL
    clear hl hz1 hz2 HRn HRz hbl
    have HW := Lib.hid hw
    clear hw
    generalize hNl : ls.length = N at *
    have HNl := Lib.hid hNl
    clear hNl
    go_enter Tryz.func57, Tryz.ntmps57
    go_wp2_with fail
    refine (HC.out _).mono ?_
    rintro e w1 ⟨rfl, rfl⟩
    go_wp2_with fail
    refine (HL.out _).mono ?_
    rintro e w1 ⟨v1, rfl, hr1, hb1⟩
    obtain ⟨w2, w3, w4, w5, w6, e2, e3, e4, e5, e6, h6, hb6⟩ := ins5 w1
    have HB1 := Lib.hid (HOw.out.trans (hb1.mono HOw.out.size))
    have HB6 := Lib.hid (HB1.out.trans (hb6.mono HB1.out.size))
    have HS6 : Hid (w1.heap.size < w6.heap.size) := Lib.hid (Array.getElem?_eq_some_iff.1 h6).1
    have hk1 : Blk w1 w.heap.size tPat [.string ⟨#[]⟩, .string ⟨#[]⟩, .slice none 0 0] := (hb1.block _ HOs.out).trans HO0.out
    have HK6 : Hid (Blk w6 w.heap.size tPat [.string ⟨#[]⟩, .string ⟨#[]⟩, .slice none 0 0]) := Lib.hid ((hb6.block _ hk1.lt).trans hk1)
    obtain ⟨A1, c1, rfl, hcap, hcell⟩ := hr1.below hb6
    have hml : (mks ((some ls).getD [])).length = N := by
      show (mks ls).length = N
      rw [← HNl.out]; unfold mks; rw [List.length_map]
    have HR6 : Hid (∀ j (h : j < ls.length), ∃ b off, A1 = some ⟨b, off, none⟩ ∧ w6.cell? ⟨b, off + j, none⟩ = some (.string ⟨ls[j].toArray⟩)) := Lib.hid (fun j h => by
      have hj2 : j < (mks ((some ls).getD [])).length := by rw [hml, ← HNl.out]; exact h
      obtain ⟨b, off, e, hc⟩ := hcell (by omega)
      refine ⟨b, off, e, ?_⟩
      rw [hc j hj2]
      show some (Value.string ((ls.map fun l => (⟨l.toArray⟩ : ByteArray))[j]'(by rw [List.length_map]; exact h))) = _
      rw [List.getElem_map])
    clear hcell
    rw [hml] at hcap ⊢
    have HT6 := Lib.hid h6
    have HP6 := Lib.hid (HW.out.stays HB6.out)
    clear hr1 hb1 hb6 hk1 h6 HC HL HOw HOs HO0 HB1
    go_wp2_with fail
    have HI0 : Hid (RdI w6 (w6.alloc (.cells #[.string ⟨#[]⟩, .string ⟨#[]⟩, .slice none 0 0] tRdr)) p0) := Lib.hid ⟨(Below.refl _ _).alloc (Nat.le_refl _) _, _, heap_new w6 _, HksI.nil _ _⟩
    have HKx : Hid (∀ W, Below w6.heap.size w6 W → Blk W w.heap.size tPat [.string ⟨#[]⟩, .string ⟨#[]⟩, .slice none 0 0]) := Lib.hid (fun W hb => (hb.block _ HK6.out.lt).trans HK6.out)
    have HTx : Hid (∀ W, Below w6.heap.size w6 W → W.heap[w1.heap.size]? = some (.map tbl 5)) := Lib.hid (fun W hb => (hb.block _ HS6.out).trans HT6.out)
    clear HK6 HT6
    go_wp2_with fail
    go_loopw [30] (fun i wr => ∃ (j : Nat) (p : Pat), j ≤ N ∧ i = .int .i64 j ∧ runF p0 (ls.take j) = some p ∧ Hid (RdI w6 wr p)) (fun i _ => N - (intOf i).toNat)
    case atStart => exact ⟨0, p0, Nat.zero_le _, rfl, rfl, HI0⟩
    case round =>
      obtain ⟨j, p, hj, rfl, hrun, HI⟩ := hrel
      clear HI0 e2 e3 e4 e5 e6
      have HBw := Lib.hid (HB6.out.trans (HI.out.bel.mono HB6.out.size))
      by_cases hlt : j < N
      · have hx : j < ls.length := by rw [HNl.out]; exact hlt
        obtain ⟨b, off, rfl, hc0⟩ := HR6.out j hx
        have hc1 := (HI.out.bel.cell (Tx.cell_lt hc0)).trans hc0
        have HNx : Hid (∀ q, stepF p ls[j] = some q → runF p0 (ls.take (j + 1)) = some q) := Lib.hid (fun q h => run_next hx hrun h)
        have HE : Hid (stepF p ls[j] = none → ∀ w', Below w.heap.size w w' → ReadPost (bs s) w (.returned (.tuple #[.agg #[.string ⟨#[]⟩, .string ⟨#[]⟩, .slice none 0 0], .bool false])) w') := Lib.hid (fun h => HF.out (run_stop hx hrun h))
        have hlz := HZ.out ls[j] (List.getElem_mem hx)
        have HFw : Hid (Few j 500000 p) := Lib.hid (by
          have := run_few (k := 500000) (ls.take j) p0 p 0 hrun (fun l hl => HZ.out l (List.mem_of_mem_take hl)) (few0 _)
          rw [Nat.zero_add, List.length_take] at this
          exact this.mono (by omega))
        generalize ls[j] = l at *
        clear hc0 hrun HF HG
        cases l with
        | nil =>
          have HE := Lib.hid (HE.out rfl)
          have hnil : (⟨([] : List UInt8).toArray⟩ : ByteArray).toList.isEmpty = true := by rw [Sc.toList_bs]; rfl
          clear HNx
          obtain ⟨k0, k1, k2, kf, klt⟩ := blk3 (HKx.out _ HI.out.bel)
          have HBz := Lib.hid (((HBw.out.setCell (p := ⟨w.heap.size, 0, none⟩) (Nat.le_refl _) (.string ⟨#[]⟩)).setCell (p := ⟨w.heap.size, 1, none⟩) (Nat.le_refl _) (.string ⟨#[]⟩)).setCell (p := ⟨w.heap.size, 2, none⟩) (Nat.le_refl _) (.slice none 0 0))
          go_wp2_with fail
          exact bodyPost_ret (v := .tuple #[.agg #[.string ⟨#[]⟩, .string ⟨#[]⟩, .slice none 0 0], .bool false]) (by simp [results, Tryz.f57, go_sem, k0, k1, k2]) rfl (HE.out _ HBz.out)
        | cons k t =>
          generalize hS : (⟨(k :: t).toArray⟩ : ByteArray) = S at *
          have hbS : bs S = k :: t := by rw [← hS]
          have hSz : S.size ≤ 500000 := by rw [← hS, mk_size]; exact hlz
          have hne : S.toList.isEmpty = false := by rw [Sc.toList_bs]; show (bs S).isEmpty = false; rw [hbS]; rfl
          have h1 := size_of hbS
          have h1' : 0 < S.size := h1
          have hg0 := get_of hbS
          have hT := HTx.out _ HI.out.bel
          rcases step_calls w6 wr p S k t hbS HI.out (by omega) HP6.out HFw.out (by omega) (by omega) with ⟨F, i, hFF, hnow, hcall⟩ | ⟨hnow, hnone⟩
          · have hlk := run_hit hT _ i _ hnow
            dsimp only [fnV] at hlk
            have HCl := Lib.hid hcall
            clear hnow hcall hT hS hlz HFw
            go_wp2_with fail
            clear hlk hg0 hne h1 h1' hbS
            generalize hR : stepF p (k :: t) = R at *
            rcases hFF with rfl | rfl | rfl | rfl | rfl
            all_goals
              go_wp2_with fail
              refine HCl.out.mono ?_
              rintro e wn ⟨rfl, hbn, hqn⟩
              have HBn := Lib.hid (HB6.out.trans (hbn.mono HB6.out.size))
              cases R with
              | none =>
                have HE2 := Lib.hid (HE.out rfl)
                obtain ⟨k0, k1, k2, kf, klt⟩ := blk3 (HKx.out _ hbn)
                have HBz := Lib.hid (((HBn.out.setCell (p := ⟨w.heap.size, 0, none⟩) (Nat.le_refl _) (.string ⟨#[]⟩)).setCell (p := ⟨w.heap.size, 1, none⟩) (Nat.le_refl _) (.string ⟨#[]⟩)).setCell (p := ⟨w.heap.size, 2, none⟩) (Nat.le_refl _) (.slice none 0 0))
                clear hbn hqn HCl HBw HI HKx HTx
                go_wp2_with fail
                exact bodyPost_ret (v := .tuple #[.agg #[.string ⟨#[]⟩, .string ⟨#[]⟩, .slice none 0 0], .bool false]) (by simp [results, Tryz.f57, go_sem, k0, k1, k2]) rfl (HE2.out _ HBz.out)
              | some q =>
                have HIn := Lib.hid (hqn q rfl)
                clear hbn hqn HCl HBw HI HKx HTx
                go_wp2_with fail
                go_roundw
                case rel => exact ⟨j + 1, q, by omega, by go_num, HNx.out q rfl, HIn⟩
                case measure => simp [intOf]; omega
          · have hlk := run_miss hT _ hnow
            have HE := Lib.hid (HE.out hnone)
            clear hnow hnone hT hS hlz HFw HNx
            obtain ⟨k0, k1, k2, kf, klt⟩ := blk3 (HKx.out _ HI.out.bel)
            have HBz := Lib.hid (((HBw.out.setCell (p := ⟨w.heap.size, 0, none⟩) (Nat.le_refl _) (.string ⟨#[]⟩)).setCell (p := ⟨w.heap.size, 1, none⟩) (Nat.le_refl _) (.string ⟨#[]⟩)).setCell (p := ⟨w.heap.size, 2, none⟩) (Nat.le_refl _) (.slice none 0 0))
            go_wp2_with fail
            exact bodyPost_ret (v := .tuple #[.agg #[.string ⟨#[]⟩, .string ⟨#[]⟩, .slice none 0 0], .bool false]) (by simp [results, Tryz.f57, go_sem, k0, k1, k2]) rfl (HE.out _ HBz.out)
      · have hjN : j = N := by omega
        subst hjN
        have ht : ls.take j = ls := by rw [← HNl.out, List.take_length]
        rw [ht] at hrun
        have HG2 := Lib.hid (HG.out p hrun)
        obtain ⟨v, hkr, hks⟩ := HI.out.box
        obtain ⟨Av, cv, rfl⟩ := hks.form
        generalize hL : p.hunks.length = L at *
        obtain ⟨k0, k1, k2, kf, klt⟩ := blk3 hkr
        obtain ⟨z0, z1, z2, zf, zlt⟩ := blk3 (HKx.out _ HI.out.bel)
        have HBz := Lib.hid (((HBw.out.setCell (p := ⟨w.heap.size, 0, none⟩) (Nat.le_refl _) (.string p.on)).setCell (p := ⟨w.heap.size, 1, none⟩) (Nat.le_refl _) (.string p.nn)).setCell (p := ⟨w.heap.size, 2, none⟩) (Nat.le_refl _) (.slice Av L cv))
        have HRz : Hid (HksI (w.heap.size + 1) (((wr.setCell ⟨w.heap.size, 0, none⟩ (.string p.on)).setCell ⟨w.heap.size, 1, none⟩ (.string p.nn)).setCell ⟨w.heap.size, 2, none⟩ (.slice Av L cv)) (.slice Av L cv) p.hunks) := Lib.hid (by
          have hlt : w.heap.size < w6.heap.size + 1 := by have := HB6.out.size; omega
          exact (((hks.box hlt).box hlt).box hlt).base (by have := HB6.out.size; omega))
        clear hkr hks HKx HTx HG HF HI
        go_wp2_with fail
        exact bodyPost_ret (v := .tuple #[.agg #[.string p.on, .string p.nn, .slice Av L cv], .bool true]) (by simp [results, Tryz.f57, go_sem, z0, z1, z2]) rfl (HG2.out _ _ HBz.out HRz.out)
end St
end
section
namespace Cm
end Cm
namespace Hn
end Hn
namespace Sc
end Sc
namespace Uf
end Uf
open Go.RowKit
namespace St
open Uf Cm Hn
open Sc (Pow)
theorem read_sm {s : List UInt8} {p : Pat} (h : readF s = some p) (hs : s.length ≤ 500000) : PatSm p.hunks := by
  unfold readF at h
  cases hl : lnsS s with
  | none => rw [hl] at h; cases h
  | some ls =>
    rw [hl] at h
    obtain ⟨h1, h2⟩ := lnsS_le hl
    have := run_few (k := 500000) ls p0 p 0 h (fun l hh => Nat.le_trans (h2 l hh) hs) (few0 _)
    exact this.sm (by omega) (by omega)
abbrev zPat : Value := .agg #[.string ⟨#[]⟩, .string ⟨#[]⟩, .slice none 0 0]
/-- What Parse answers. -/
def PsPost (s : List UInt8) (w : World) (e : Ending) (w' : World) : Prop :=
  Below w.heap.size w w' ∧ (prsF s = none → e = .returned (.tuple #[zPat, .int .i64 4])) ∧ ∀ p, prsF s = some p → ∃ v, e = .returned (.tuple #[tPatV p v, .int .i64 0]) ∧ RdP w' v p.hunks
theorem PsPost.no {s : List UInt8} {w w' : World} (h : prsF s = none) (hb : Below w.heap.size w w') : PsPost s w (.returned (.tuple #[zPat, .int .i64 4])) w' :=
  ⟨hb, fun _ => rfl, fun p hp => by rw [h] at hp; cases hp⟩
theorem PsPost.yes {s : List UInt8} {w w' : World} {p : Pat} {v : Value} (h : prsF s = some p) (hb : Below w.heap.size w w') (hr : RdP w' v p.hunks) : PsPost s w (.returned (.tuple #[tPatV p v, .int .i64 0])) w' :=
  ⟨hb, fun h0 => (by rw [h] at h0; cases h0), fun q hq => by rw [h] at hq; cases hq; exact ⟨v, rfl, hr⟩⟩
theorem prs_none {s : List UInt8} (h : readF s = none) : prsF s = none := by unfold prsF; rw [h]
theorem prs_some {s : List UInt8} {p : Pat} (_h : readF s = some p) (hc : chkC p = 0) (hf : (fmtB p).toList = s) : prsF s = some p := by
  refine (prsF_iff s p).2 ⟨hc, ?_⟩
  unfold fmtB at hf
  rw [if_pos hc, Sc.toList_bs] at hf
  exact hf
theorem prs_chk {s : List UInt8} {p : Pat} (h : readF s = some p) (hc : ¬ chkC p = 0) : prsF s = none := by unfold prsF; rw [h]; simp only; rw [if_neg (fun hh => hc hh.1)]
theorem prs_fmt {s : List UInt8} {p : Pat} (h : readF s = some p) (hc : chkC p = 0) (hf : ¬ (fmtB p).toList = s) : prsF s = none := by
  unfold prsF
  rw [h]
  simp only
  rw [if_neg]
  rintro ⟨-, h2⟩
  refine hf ?_
  unfold fmtB
  rw [if_pos hc, Sc.toList_bs]
  exact h2
set_option maxRecDepth 100000 in
set_option maxHeartbeats 8000000 in
theorem Parse_any (s : ByteArray) (w : World) (h16 : s.size ≤ 500000) (hcn : Lib.countByte s.data.toList 10 ≤ 16388) (hw : Pow w) : Calls Tryz.prog 31 #[.string s] w (PsPost (bs s) w) := by
  have hz : ¬ (16777216 : Int) < (s.size : Int) := by omega
  have hbl : (bs s).length = s.size := Tx.bs_len s
  generalize hO : (.cells #[.string ⟨#[]⟩, .string ⟨#[]⟩, .slice none 0 0] tPat : Obj) = O
  have HB0 := Lib.hid (((Below.refl w.heap.size w).alloc (Nat.le_refl _) O))
  have HO0 : Hid ((w.alloc O).heap[w.heap.size]? = some O) := Lib.hid (heap_new w O)
  have HOs : Hid (w.heap.size < (w.alloc O).heap.size) := Lib.hid (Array.getElem?_eq_some_iff.1 (heap_new w O)).1
  have HRd := Lib.hid (read_any s (w.alloc O) h16 hcn (hw.stays HB0.out))
  have HFm := Lib.hid (fun p v w' hr hsm hb => Format_any p v w' hr hsm (hw.stays (w' := w') hb))
  unfold FmPost at HFm
  have HKx : Hid (∀ W, Below (w.alloc O).heap.size (w.alloc O) W → W.heap[w.heap.size]? = some O) := Lib.hid (fun W hb => (hb.block _ HOs.out).trans HO0.out)
  have HNo : Hid (prsF (bs s) = none → ∀ w', Below w.heap.size w w' → PsPost (bs s) w (.returned (.tuple #[zPat, .int .i64 4])) w') := Lib.hid (fun h w' hb => PsPost.no h hb)
  subst hO
  clear hw HO0 HOs
  cases hr : readF (bs s) with
  | none =>
    have HN := Lib.hid (HNo.out (prs_none hr))
    have HP : Hid (∀ e w', ReadPost (bs s) (w.alloc (.cells #[.string ⟨#[]⟩, .string ⟨#[]⟩, .slice none 0 0] tPat)) e w' → e = .returned (.tuple #[zPat, .bool false]) ∧ Below (w.alloc (.cells #[.string ⟨#[]⟩, .string ⟨#[]⟩, .slice none 0 0] tPat)).heap.size (w.alloc (.cells #[.string ⟨#[]⟩, .string ⟨#[]⟩, .slice none 0 0] tPat)) w') := Lib.hid (fun e w' h => ⟨h.2.1 hr, h.1⟩)
    clear hr HNo HFm
    go_enter Tryz.func31, Tryz.ntmps31
    go_wp2_with fail
    refine HRd.out.mono ?_
    intro e w1 h1
    obtain ⟨rfl, hb⟩ := HP.out _ _ h1
    obtain ⟨z0, z1, z2, zf, zlt⟩ := blk3 (show Blk w1 w.heap.size tPat [.string ⟨#[]⟩, .string ⟨#[]⟩, .slice none 0 0] from HKx.out _ hb)
    have HB1 := Lib.hid (HB0.out.trans (hb.mono HB0.out.size))
    have HB2 := Lib.hid ((((HB1.out.setCell (p := ⟨w.heap.size, 0, none⟩) (Nat.le_refl _) (.string ⟨#[]⟩)).setCell (p := ⟨w.heap.size, 1, none⟩) (Nat.le_refl _) (.string ⟨#[]⟩)).setCell (p := ⟨w.heap.size, 2, none⟩) (Nat.le_refl _) (.slice none 0 0)))
    have HB3 := Lib.hid (HB2.out.alloc HB2.out.size (.cells #[.string ⟨#[]⟩, .string ⟨#[]⟩, .slice none 0 0] tPat))
    clear HB2 HB1
    clear h1 hb HP HRd HKx
    go_wp2_with fail
    exact bodyPost_ret (v := .tuple #[zPat, .int .i64 4]) (by simp [results, Tryz.f31, go_sem, z0, z1, z2, zlt]) rfl (HN.out _ HB3.out)
  | some p =>
    have hsm := read_sm hr (by omega)
    have HP : Hid (∀ e w', ReadPost (bs s) (w.alloc (.cells #[.string ⟨#[]⟩, .string ⟨#[]⟩, .slice none 0 0] tPat)) e w' → (∃ v, e = .returned (.tuple #[tPatV p v, .bool true]) ∧ HksI ((w.alloc (.cells #[.string ⟨#[]⟩, .string ⟨#[]⟩, .slice none 0 0] tPat)).heap.size + 1) w' v p.hunks) ∧ Below (w.alloc (.cells #[.string ⟨#[]⟩, .string ⟨#[]⟩, .slice none 0 0] tPat)).heap.size (w.alloc (.cells #[.string ⟨#[]⟩, .string ⟨#[]⟩, .slice none 0 0] tPat)) w') := Lib.hid (fun e w' h => ⟨h.2.2 p hr, h.1⟩)
    have HNc : Hid (¬ chkC p = 0 → ∀ w', Below w.heap.size w w' → PsPost (bs s) w (.returned (.tuple #[zPat, .int .i64 4])) w') := Lib.hid (fun h => HNo.out (prs_chk hr h))
    have HNf : Hid (chkC p = 0 → (!(fmtB p).toList == s.toList) = true → ∀ w', Below w.heap.size w w' → PsPost (bs s) w (.returned (.tuple #[zPat, .int .i64 4])) w') := Lib.hid (fun h hf => HNo.out (prs_fmt hr h (by rw [Sc.toList_bs s] at hf; simpa using hf)))
    have HYs : Hid (chkC p = 0 → (!(fmtB p).toList == s.toList) = false → ∀ v w', Below w.heap.size w w' → RdP w' v p.hunks → PsPost (bs s) w (.returned (.tuple #[tPatV p v, .int .i64 0])) w') := Lib.hid (fun h hf v w' hb hv => PsPost.yes (prs_some hr h (by rw [Sc.toList_bs s] at hf; simpa using hf)) hb hv)
    clear hr HNo
    go_enter Tryz.func31, Tryz.ntmps31
    go_wp2_with fail
    refine HRd.out.mono ?_
    intro e w1 h1
    obtain ⟨⟨v, rfl, hks⟩, hb⟩ := HP.out _ _ h1
    obtain ⟨A, cv, rfl⟩ := hks.form
    have hrd := hks.own.rd
    have HX2 := Lib.hid (hks.below ((Below.refl w1.heap.size w1).alloc (Nat.le_refl _) (.cells #[.string p.on, .string p.nn, .slice A p.hunks.length cv] tPat)))
    have HB1 := Lib.hid (HB0.out.trans (hb.mono HB0.out.size))
    have HB2 := Lib.hid (HB1.out.alloc HB1.out.size (.cells #[.string p.on, .string p.nn, .slice A p.hunks.length cv] tPat))
    have HKy := Lib.hid (HKx.out w1 hb)
    have HA2 := Lib.hid ((Below.refl w1.heap.size w1).alloc (Nat.le_refl _) (.cells #[.string p.on, .string p.nn, .slice A p.hunks.length cv] tPat))
    have HR2 := Lib.hid (hrd.below HA2.out)
    have HFc := Lib.hid (HFm.out p _ _ HR2.out hsm HB2.out)
    have HO2 : Hid ((w1.alloc (.cells #[.string p.on, .string p.nn, .slice A p.hunks.length cv] tPat)).heap[w1.heap.size]? = some (.cells #[.string p.on, .string p.nn, .slice A p.hunks.length cv] tPat)) := Lib.hid (heap_new w1 _)
    clear h1 hb HP HRd HFm hrd hks HKx
    generalize p.hunks.length = L at *
    have hwlt : w.heap.size < w1.heap.size := (show Blk w1 w.heap.size tPat [.string ⟨#[]⟩, .string ⟨#[]⟩, .slice none 0 0] from HKy.out).lt
    go_wp2_with fail
    refine HFc.out.mono ?_
    rintro e w2 ⟨rfl, hb2⟩
    have hlt2 : w1.heap.size < (w1.alloc (.cells #[.string p.on, .string p.nn, .slice A L cv] tPat)).heap.size := (Array.getElem?_eq_some_iff.1 HO2.out).1
    obtain ⟨y0, y1, y2, yf, ylt⟩ := blk3 (show Blk w2 w1.heap.size tPat [.string p.on, .string p.nn, .slice A L cv] from (hb2.block _ hlt2).trans HO2.out)
    obtain ⟨z0, z1, z2, zf, zlt⟩ := blk3 (show Blk w2 w.heap.size tPat [.string ⟨#[]⟩, .string ⟨#[]⟩, .slice none 0 0] from (hb2.block _ (Nat.lt_trans hwlt hlt2)).trans ((HA2.out.block _ hwlt).trans HKy.out))
    have HB3 := Lib.hid (HB2.out.trans (hb2.mono HB2.out.size))
    have HR3 : Hid (RdP (((w2.setCell ⟨w.heap.size, 0, none⟩ (.string p.on)).setCell ⟨w.heap.size, 1, none⟩ (.string p.nn)).setCell ⟨w.heap.size, 2, none⟩ (.slice A L cv)) (.slice A L cv) p.hunks) := Lib.hid (by
      have hl0 : w.heap.size < (w.alloc (.cells #[.string ⟨#[]⟩, .string ⟨#[]⟩, .slice none 0 0] tPat)).heap.size + 1 := by have := HB0.out.size; omega
      exact ((((HX2.out.below hb2).box hl0).box hl0).box hl0).own.rd)
    have hne : w.heap.size ≠ w1.heap.size := Nat.ne_of_lt hwlt
    have hne2 : w1.heap.size ≠ w.heap.size := Ne.symm hne
    have HBz := Lib.hid ((((HB3.out.setCell (p := ⟨w.heap.size, 0, none⟩) (Nat.le_refl _) (.string ⟨#[]⟩)).setCell (p := ⟨w.heap.size, 1, none⟩) (Nat.le_refl _) (.string ⟨#[]⟩)).setCell (p := ⟨w.heap.size, 2, none⟩) (Nat.le_refl _) (.slice none 0 0)))
    have HBy := Lib.hid ((((HB3.out.setCell (p := ⟨w.heap.size, 0, none⟩) (Nat.le_refl _) (.string p.on)).setCell (p := ⟨w.heap.size, 1, none⟩) (Nat.le_refl _) (.string p.nn)).setCell (p := ⟨w.heap.size, 2, none⟩) (Nat.le_refl _) (.slice A L cv)))
    clear hb2 HFc HO2 HB2 HB1 HA2 HKy HR2 HX2
    by_cases hc : chkC p = 0
    · cases hf : (!(fmtB p).toList == s.toList) with
      | true =>
        have HE := Lib.hid (HNf.out hc hf)
        rw [hc]
        clear HNc HNf HYs hc
        go_wp2_with fail
        exact bodyPost_ret (v := .tuple #[zPat, .int .i64 4]) (by simp [results, Tryz.f31, go_sem, z0, z1, z2]) rfl (HE.out _ HBz.out)
      | false =>
        have HE := Lib.hid (HYs.out hc hf)
        rw [hc]
        clear HNc HNf HYs hc
        go_wp2_with fail
        exact bodyPost_ret (v := .tuple #[.agg #[.string p.on, .string p.nn, .slice A L cv], .int .i64 0]) (by simp [results, Tryz.f31, go_sem, z0, z1, z2]) rfl (HE.out _ _ HBy.out HR3.out)
    · have HE := Lib.hid (HNc.out hc)
      have hc0 : (chkC p != 0) = true := by simpa using hc
      clear HNc HNf HYs hc
      generalize chkC p = C at *
      go_wp2_with fail
      exact bodyPost_ret (v := .tuple #[zPat, .int .i64 4]) (by simp [results, Tryz.f31, go_sem, z0, z1, z2]) rfl (HE.out _ HBz.out)
end St
end
section
namespace Cm
end Cm
namespace Hn
end Hn
namespace Sc
end Sc
namespace Uf
end Uf
open Go.RowKit
namespace St
open Uf Cm Hn
open Sc (Pow)
def abP : Pat := ⟨⟨#[97]⟩, ⟨#[98]⟩, []⟩
def abB : ByteArray := ⟨#[45, 45, 45, 32, 97, 10, 43, 43, 43, 32, 98, 10]⟩
set_option maxRecDepth 100000 in
theorem ab_prs : prsF (bs abB) = some abP := by
  refine (prsF_iff _ _).2 ⟨?_, ?_⟩
  · decide
  · decide
theorem nil_prs : prsF (bs ⟨#[]⟩) = none := prs_chk (p := p0) rfl (by decide)
theorem form_nil {w : World} {v : Value} (h : RdP w v []) : ∃ A c, v = .slice A 0 c := h.form
set_option maxRecDepth 100000 in
set_option maxHeartbeats 4000000 in
theorem awake_any (w : World) (hw : Pow w) : Calls Tryz.prog 33 #[] w fun e w' => e = .returned (.bool true) ∧ Below w.heap.size w w' := by
  have HA := Lib.hid (Parse_any abB w (by decide) (by decide) hw)
  have HN := Lib.hid (fun w' (hb : Below w.heap.size w w') => Parse_any ⟨#[]⟩ w' (by decide) (by decide) (hw.stays hb))
  have HPa : Hid (∀ e w', PsPost (bs abB) w e w' → (∃ v, e = .returned (.tuple #[tPatV abP v, .int .i64 0]) ∧ RdP w' v abP.hunks) ∧ Below w.heap.size w w') := Lib.hid (fun e w' h => ⟨h.2.2 _ ab_prs, h.1⟩)
  have HPn : Hid (∀ w e w', PsPost (bs ⟨#[]⟩) w e w' → e = .returned (.tuple #[zPat, .int .i64 4]) ∧ Below w.heap.size w w') := Lib.hid (fun w e w' h => ⟨h.2.1 nil_prs, h.1⟩)
  clear hw
  unfold abB at HA
  go_enter Tryz.func33, Tryz.ntmps33
  go_wp2_with fail
  refine HA.out.mono ?_
  intro e w1 h1
  obtain ⟨⟨v, rfl, hrd⟩, hb⟩ := HPa.out _ _ h1
  obtain ⟨A, cv, rfl⟩ := form_nil hrd
  have HB1 := Lib.hid hb
  have HO1 : Hid (Blk (w1.alloc (.cells #[.string ⟨#[97]⟩, .string ⟨#[98]⟩, .slice A 0 cv] tPat)) w1.heap.size tPat [.string ⟨#[97]⟩, .string ⟨#[98]⟩, .slice A 0 cv]) := Lib.hid (heap_new w1 _)
  have HB2 := Lib.hid (HB1.out.alloc HB1.out.size (.cells #[.string ⟨#[97]⟩, .string ⟨#[98]⟩, .slice A 0 cv] tPat))
  have HN1 := Lib.hid (HN.out _ HB2.out)
  clear h1 hrd hb HA HPa HB1 HN
  unfold abP
  go_wp2_with fail
  refine HN1.out.mono ?_
  intro e w2 h2
  obtain ⟨rfl, hb⟩ := HPn.out _ _ _ h2
  have HB3 := Lib.hid (HB2.out.trans (hb.mono HB2.out.size))
  have HB4 := Lib.hid (HB3.out.alloc HB3.out.size (.cells #[.string ⟨#[]⟩, .string ⟨#[]⟩, .slice none 0 0] tPat))
  obtain ⟨k0, k1, k2, kf, klt⟩ := blk3 (HO1.out.below hb)
  clear h2 hb HPn HN1 HB3 HB2 HO1
  go_wp2_with fail
  go_ret
  exact ⟨rfl, HB4.out⟩
end St
end
section
namespace Cm
end Cm
namespace Hn
end Hn
namespace Sc
end Sc
namespace Uf
end Uf
open Go.RowKit
namespace St
open Uf Cm Hn
open Sc (Pow)
def SpPost (s : ByteArray) (w : World) (e : Ending) (w' : World) : Prop := ∃ t : ByteArray, e = .returned (.string t) ∧ t.size ≤ s.size + 1 ∧ (bs t).count 10 ≤ (bs s).count 10 + 1 ∧ Below w.heap.size w w'
theorem cut_count (l m : List UInt8) (i j : Nat) (h : i ≤ j) (hm : m.length ≤ 1) : (l.take i ++ m ++ l.drop j).count 10 ≤ l.count 10 + 1 := by
  rw [List.count_append, List.count_append]
  have h1 : m.count 10 ≤ 1 := Nat.le_trans List.count_le_length hm
  have h2 : (l.drop j).count 10 ≤ (l.drop i).count 10 := by
    have e : l.drop j = (l.drop i).drop (j - i) := by rw [List.drop_drop, show i + (j - i) = j by omega]
    rw [e]
    exact (List.drop_sublist _ _).count_le _
  have h3 : l.count 10 = (l.take i).count 10 + (l.drop i).count 10 := by rw [← List.count_append, List.take_append_drop]
  omega
theorem cut_bs (s m : ByteArray) (i j : Nat) : bs (s.extract 0 i ++ m ++ s.extract j s.size) = (bs s).take i ++ bs m ++ (bs s).drop j := by
  show Tx.bs _ = _
  rw [Tx.bs_append, Tx.bs_append]
  have e1 := Sc.bs_extract s 0 i
  have e2 := Sc.bs_extract s j s.size
  have hz : (Sc.bs s).length = s.size := Tx.bs_len s
  rw [List.drop_zero, Nat.sub_zero] at e1
  rw [show Tx.bs (s.extract 0 i) = Sc.bs (s.extract 0 i) from rfl, show Tx.bs (s.extract j s.size) = Sc.bs (s.extract j s.size) from rfl, e1, e2]
  congr 1
  exact List.take_of_length_le (by rw [List.length_drop]; omega)
theorem app_nil (a : ByteArray) : a ++ ⟨#[]⟩ = a := by
  rw [← Tx.mk_bs (a ++ ⟨#[]⟩), Tx.bs_append]
  show (⟨(Tx.bs a ++ []).toArray⟩ : ByteArray) = a
  rw [List.append_nil, Tx.mk_bs]
theorem SpPost.cut {s m : ByteArray} {i j : Nat} {w w' : World} (h : i ≤ j) (hj : j ≤ s.size) (hm : m.size ≤ 1) (hb : Below w.heap.size w w') : SpPost s w (.returned (.string (s.extract 0 i ++ m ++ s.extract j s.size))) w' := by
  refine ⟨_, rfl, ?_, ?_, hb⟩
  · simp only [ByteArray.size_append, ByteArray.size_extract]
    omega
  · rw [cut_bs]
    exact cut_count _ _ _ _ h (by show (Tx.bs m).length ≤ 1; rw [Tx.bs_len]; exact hm)
theorem SpPost.same {s : ByteArray} {w w' : World} (hb : Below w.heap.size w w') : SpPost s w (.returned (.string s)) w' := ⟨s, rfl, by omega, by omega, hb⟩
set_option maxRecDepth 100000 in
set_option maxHeartbeats 8000000 in
theorem Spoiled_any (s : ByteArray) (what atv c : Int) (w : World) (hs : s.size ≤ 1000000) (h1 : -9223372036854775808 ≤ what ∧ what ≤ 9223372036854775807) (h2 : -9223372036854775808 ≤ atv ∧ atv ≤ 9223372036854775807) (_h3 : -9223372036854775808 ≤ c ∧ c ≤ 9223372036854775807) :
    Calls Tryz.prog 30 #[.string s, .int .i64 what, .int .i64 atv, .int .i64 c] w (SpPost s w) := by
  have HM1 := Lib.hid (fun w => Tx.Mod_any atv ((s.size : Int) + 1) w (by omega) (by omega) h2.1 h2.2)
  have HM2 := Lib.hid (fun w => Tx.Mod_any what 4 w (by omega) (by omega) h1.1 h1.2)
  have a0 := Tx.modF_lo atv ((s.size : Int) + 1) (by omega)
  have a1 := Tx.modF_hi atv ((s.size : Int) + 1) (by omega)
  have b0 := Tx.modF_lo what 4 (by omega)
  have b1 := Tx.modF_hi what 4 (by omega)
  generalize Tx.modF atv ((s.size : Int) + 1) = ai at *
  generalize Tx.modF what 4 = m at *
  obtain ⟨i, rfl⟩ := Int.eq_ofNat_of_zero_le a0
  have hi : i ≤ s.size := by omega
  have hsz : s.size ≤ 9223372036854775807 := by omega
  obtain ⟨kk, hkk⟩ : ∃ kk : UInt8, (kk.toNat : Int) = c % 256 := ⟨(c % 256).toNat.toUInt8, by
    have e : (c % 256).toNat.toUInt8.toNat = (c % 256).toNat := by
      show (c % 256).toNat % 256 = _
      omega
    rw [e]
    omega⟩
  obtain ⟨j, hj1, hj2, hj3⟩ : ∃ j : Nat, min ((i : Int) + 1) (s.size : Int) = (j : Int) ∧ i ≤ j ∧ j ≤ s.size := ⟨min (i + 1) s.size, by omega, by omega, by omega⟩
  have hkw : IntKind.u8.wrap c = c % 256 := by simp [IntKind.wrap, IntKind.bits, IntKind.signed]
  have hz1 : i + 1 + (s.size - i) ≤ 9223372036854775807 := by omega
  have hz2 : i + 1 + (s.size - j) ≤ 9223372036854775807 := by omega
  have hw1 : IntKind.i64.wrap ((i : Int) + 1) = (i : Int) + 1 := by simp [IntKind.wrap, IntKind.bits, IntKind.signed]; omega
  have hi2 : i ≤ 9223372036854775806 := by omega
  have hj4 : j ≤ 9223372036854775807 := by omega
  have HKk : Hid (c % 256 = (kk.toNat : Int)) := Lib.hid hkk.symm
  clear hkk
  have HFc : Hid (∀ (k : Nat) (mm : ByteArray), i ≤ k → k ≤ s.size → mm.size ≤ 1 → ∀ w', Below w.heap.size w w' → SpPost s w (.returned (.string (s.extract 0 i ++ mm ++ s.extract k s.size))) w') := Lib.hid (fun k mm x1 x2 x3 w' hb => SpPost.cut x1 x2 x3 hb)
  have HFs : Hid (∀ w', Below w.heap.size w w' → SpPost s w (.returned (.string s)) w') := Lib.hid (fun w' hb => SpPost.same hb)
  have HB := Lib.hid ((Below.refl w.heap.size w).drew.alloc (Nat.le_refl _) (.cells #[.int .u8 (c % 256)] 5))
  have HB0 := Lib.hid (Below.refl w.heap.size w)
  clear h1 h2 a0 a1
  have hm : m = 0 ∨ m = 1 ∨ m = 2 ∨ m = 3 := by omega
  clear b0 b1
  rcases hm with rfl | rfl | rfl | rfl
  · go_enter Tryz.func30, Tryz.ntmps30
    go_wp2_with fail
    refine (HM1.out _).mono ?_
    rintro e w1 ⟨rfl, rfl⟩
    go_wp2_with fail
    refine (HM2.out _).mono ?_
    rintro e w1 ⟨rfl, rfl⟩
    go_upto_region 4 with fail
    refine wp_region_held_drew (S := (fun _ => True)) (by kernel_rfl) trivial (fun hHeld => ?_)
    refine wpAnyH_take (i := 0) (v := .string s) rfl (by kernel_rfl) (by kernel_rfl) (by kernel_rfl) (fun _ _ _ h => h) (Or.inl ⟨by kernel_rfl, ?_⟩) (by assumption) ?_
    · intro V _
      go_simp
    change wpAnyH _ _ _ _ _ _ _ (Act.put _ (some 19) _) _
    simp only [Act.put, List.setIfInBounds_toArray, List.set_cons_zero, List.set_cons_succ]
    refine wpAnyH_take (i := 1) (v := .int .i64 (i : Int)) rfl (by kernel_rfl) (by kernel_rfl) (by kernel_rfl) (fun _ _ _ h => h) (Or.inl ⟨by kernel_rfl, ?_⟩) (by assumption) ?_
    · intro V _
      go_simp
    change wpAnyH _ _ _ _ _ _ _ (Act.put _ (some 20) _) _
    simp only [Act.put, List.setIfInBounds_toArray, List.set_cons_zero, List.set_cons_succ]
    refine wpAnyH_take (i := 2) (v := .string (s.extract 0 i)) rfl (by kernel_rfl) (by kernel_rfl) (by kernel_rfl) (fun _ _ _ h => h) (Or.inl ⟨by kernel_rfl, ?_⟩) (by assumption) ?_
    · intro V _
      go_simp
    change wpAnyH _ _ _ _ _ _ _ (Act.put _ (some 21) _) _
    simp only [Act.put, List.setIfInBounds_toArray, List.set_cons_zero, List.set_cons_succ]
    refine wpAnyH_take (i := 3) (v := .int .i64 c) rfl (by kernel_rfl) (by kernel_rfl) (by kernel_rfl) (fun _ _ _ h => h) (Or.inl ⟨by kernel_rfl, ?_⟩) (by assumption) ?_
    · intro V _
      go_simp
    change wpAnyH _ _ _ _ _ _ _ (Act.put _ (some 22) _) _
    simp only [Act.put, List.setIfInBounds_toArray, List.set_cons_zero, List.set_cons_succ]
    refine wpAnyH_take (i := 4) (v := .int .u8 (c % 256)) rfl (by kernel_rfl) (by kernel_rfl) (by kernel_rfl) (fun _ _ _ h => h) (Or.inl ⟨by kernel_rfl, ?_⟩) (by assumption) ?_
    · intro V _
      go_simp
    change wpAnyH _ _ _ _ _ _ _ (Act.put _ (some 23) _) _
    simp only [Act.put, List.setIfInBounds_toArray, List.set_cons_zero, List.set_cons_succ]
    refine wpAnyH_take (i := 8) (v := .string s) rfl (by kernel_rfl) (by kernel_rfl) (by kernel_rfl) (fun _ _ _ h => h) (Or.inl ⟨by kernel_rfl, ?_⟩) (by assumption) ?_
    · intro V _
      go_simp
    change wpAnyH _ _ _ _ _ _ _ (Act.put _ (some 27) _) _
    simp only [Act.put, List.setIfInBounds_toArray, List.set_cons_zero, List.set_cons_succ]
    refine wpAnyH_take (i := 9) (v := .int .i64 (i : Int)) rfl (by kernel_rfl) (by kernel_rfl) (by kernel_rfl) (fun _ _ _ h => h) (Or.inl ⟨by kernel_rfl, ?_⟩) (by assumption) ?_
    · intro V _
      go_simp
    change wpAnyH _ _ _ _ _ _ _ (Act.put _ (some 28) _) _
    simp only [Act.put, List.setIfInBounds_toArray, List.set_cons_zero, List.set_cons_succ]
    refine wpAnyH_take (i := 10) (v := .string (s.extract i s.size)) rfl (by kernel_rfl) (by kernel_rfl) (by kernel_rfl) (fun _ _ _ h => h) (Or.inl ⟨by kernel_rfl, ?_⟩) (by assumption) ?_
    · intro V _
      go_simp
    change wpAnyH _ _ _ _ _ _ _ (Act.put _ (some 29) _) _
    simp only [Act.put, List.setIfInBounds_toArray, List.set_cons_zero, List.set_cons_succ]
    refine wpAnyH_ready (rs := [5]) (by kernel_rfl) (by simp) ?_
    refine AllReadyH.cons rfl (fun K hK => ?_) AllReadyH.nil
    go_simp
    refine hK.out _ _ trivial (fun hHeld => ?_)
    clear hK K
    have HCv : Hid ((convert 92 9 (.slice (some ⟨w.heap.size, 0, none⟩) 1 1)).run Tryz.prog (w.alloc (.cells #[.int .u8 (c % 256)] 5)).drew = .ok (.string ⟨#[kk]⟩) (w.alloc (.cells #[.int .u8 (c % 256)] 5)).drew) := Lib.hid (by
      rw [HKk.out]
      refine Sc.own_conv (base := w.heap.size) (L := [kk]) ⟨rfl, .inr ⟨w.heap.size, 1, #[.int .u8 kk.toNat], rfl, Nat.le_refl _, ?_, Nat.le_refl _, by decide, rfl, ?_⟩⟩
      · exact heap_new w.drew _
      · rfl)
    refine wpAnyH_ready (rs := [6]) (by kernel_rfl) (by simp) ?_
    refine AllReadyH.cons rfl (fun K hK => ?_) AllReadyH.nil
    refine step_conv (by rfl) 92 9 (.tmp 24) (by rfl) _ _ (by rfl) HCv.out ?_
    refine hK.out _ _ trivial (fun hHeld => ?_)
    clear hK K
    change wpAnyH _ _ _ _ _ _ _ (Act.put _ (some 25) _) _
    simp only [Act.put, List.setIfInBounds_toArray, List.set_cons_zero, List.set_cons_succ]
    refine wpAnyH_take (i := 7) (v := .string (s.extract 0 i ++ ⟨#[kk]⟩)) rfl (by kernel_rfl) (by kernel_rfl) (by kernel_rfl) (fun _ _ _ h => h) (Or.inl ⟨by kernel_rfl, ?_⟩) (by assumption) ?_
    · intro V _
      go_simp
    change wpAnyH _ _ _ _ _ _ _ (Act.put _ (some 26) _) _
    simp only [Act.put, List.setIfInBounds_toArray, List.set_cons_zero, List.set_cons_succ]
    refine wpAnyH_take (i := 11) (v := .string (s.extract 0 i ++ ⟨#[kk]⟩ ++ s.extract i s.size)) rfl (by kernel_rfl) (by kernel_rfl) (by kernel_rfl) (fun _ _ _ h => h) (Or.inl ⟨by kernel_rfl, ?_⟩) (by assumption) ?_
    · intro V _
      go_simp
    change wpAnyH _ _ _ _ _ _ _ (Act.put _ (some 30) _) _
    simp only [Act.put, List.setIfInBounds_toArray, List.set_cons_zero, List.set_cons_succ]
    refine wpAnyH_take (i := 12) (v := .string (s.extract 0 i ++ ⟨#[kk]⟩ ++ s.extract i s.size)) rfl (by kernel_rfl) (by kernel_rfl) (by kernel_rfl) (fun _ _ _ h => h) (Or.inl ⟨by kernel_rfl, ?_⟩) (by assumption) ?_
    · intro V _
      go_simp
    change wpAnyH _ _ _ _ _ _ _ (Act.put _ (some 8) _) _
    simp only [Act.put, List.setIfInBounds_toArray, List.set_cons_zero, List.set_cons_succ]
    refine wpAnyH_done (by kernel_rfl) ?_ _
    clear HCv hHeld
    go_wp2_with fail
    go_ret
    exact HFc.out i ⟨#[kk]⟩ (Nat.le_refl _) hi (Nat.le_refl 1) _ HB.out
  · go_enter Tryz.func30, Tryz.ntmps30
    go_wp2_with fail
    refine (HM1.out _).mono ?_
    rintro e w1 ⟨rfl, rfl⟩
    go_wp2_with fail
    refine (HM2.out _).mono ?_
    rintro e w1 ⟨rfl, rfl⟩
    go_upto_region 6 with fail
    go_region
    go_wp2_with fail
    go_ret
    have h := HFc.out j ⟨#[]⟩ hj2 hj3 (by decide) w.drew HB0.out.drew
    rw [app_nil] at h
    exact h
  · go_enter Tryz.func30, Tryz.ntmps30
    go_wp2_with fail
    refine (HM1.out _).mono ?_
    rintro e w1 ⟨rfl, rfl⟩
    go_wp2_with fail
    refine (HM2.out _).mono ?_
    rintro e w1 ⟨rfl, rfl⟩
    go_upto_region 8 with fail
    refine wp_region_held_drew (S := (fun _ => True)) (by kernel_rfl) trivial (fun hHeld => ?_)
    refine wpAnyH_take (i := 0) (v := .string s) rfl (by kernel_rfl) (by kernel_rfl) (by kernel_rfl) (fun _ _ _ h => h) (Or.inl ⟨by kernel_rfl, ?_⟩) (by assumption) ?_
    · intro V _
      go_simp
    change wpAnyH _ _ _ _ _ _ _ (Act.put _ (some 46) _) _
    simp only [Act.put, List.setIfInBounds_toArray, List.set_cons_zero, List.set_cons_succ]
    refine wpAnyH_take (i := 1) (v := .int .i64 (i : Int)) rfl (by kernel_rfl) (by kernel_rfl) (by kernel_rfl) (fun _ _ _ h => h) (Or.inl ⟨by kernel_rfl, ?_⟩) (by assumption) ?_
    · intro V _
      go_simp
    change wpAnyH _ _ _ _ _ _ _ (Act.put _ (some 47) _) _
    simp only [Act.put, List.setIfInBounds_toArray, List.set_cons_zero, List.set_cons_succ]
    refine wpAnyH_take (i := 2) (v := .string (s.extract 0 i)) rfl (by kernel_rfl) (by kernel_rfl) (by kernel_rfl) (fun _ _ _ h => h) (Or.inl ⟨by kernel_rfl, ?_⟩) (by assumption) ?_
    · intro V _
      go_simp
    change wpAnyH _ _ _ _ _ _ _ (Act.put _ (some 48) _) _
    simp only [Act.put, List.setIfInBounds_toArray, List.set_cons_zero, List.set_cons_succ]
    refine wpAnyH_take (i := 3) (v := .int .i64 c) rfl (by kernel_rfl) (by kernel_rfl) (by kernel_rfl) (fun _ _ _ h => h) (Or.inl ⟨by kernel_rfl, ?_⟩) (by assumption) ?_
    · intro V _
      go_simp
    change wpAnyH _ _ _ _ _ _ _ (Act.put _ (some 49) _) _
    simp only [Act.put, List.setIfInBounds_toArray, List.set_cons_zero, List.set_cons_succ]
    refine wpAnyH_take (i := 4) (v := .int .u8 (c % 256)) rfl (by kernel_rfl) (by kernel_rfl) (by kernel_rfl) (fun _ _ _ h => h) (Or.inl ⟨by kernel_rfl, ?_⟩) (by assumption) ?_
    · intro V _
      go_simp
    change wpAnyH _ _ _ _ _ _ _ (Act.put _ (some 50) _) _
    simp only [Act.put, List.setIfInBounds_toArray, List.set_cons_zero, List.set_cons_succ]
    refine wpAnyH_take (i := 8) (v := .string s) rfl (by kernel_rfl) (by kernel_rfl) (by kernel_rfl) (fun _ _ _ h => h) (Or.inl ⟨by kernel_rfl, ?_⟩) (by assumption) ?_
    · intro V _
      go_simp
    change wpAnyH _ _ _ _ _ _ _ (Act.put _ (some 54) _) _
    simp only [Act.put, List.setIfInBounds_toArray, List.set_cons_zero, List.set_cons_succ]
    refine wpAnyH_take (i := 9) (v := .int .i64 (i : Int)) rfl (by kernel_rfl) (by kernel_rfl) (by kernel_rfl) (fun _ _ _ h => h) (Or.inl ⟨by kernel_rfl, ?_⟩) (by assumption) ?_
    · intro V _
      go_simp
    change wpAnyH _ _ _ _ _ _ _ (Act.put _ (some 55) _) _
    simp only [Act.put, List.setIfInBounds_toArray, List.set_cons_zero, List.set_cons_succ]
    refine wpAnyH_take (i := 10) (v := .int .i64 ((i : Int) + 1)) rfl (by kernel_rfl) (by kernel_rfl) (by kernel_rfl) (fun _ _ _ h => h) (Or.inl ⟨by kernel_rfl, ?_⟩) (by assumption) ?_
    · intro V _
      go_simp
    change wpAnyH _ _ _ _ _ _ _ (Act.put _ (some 56) _) _
    simp only [Act.put, List.setIfInBounds_toArray, List.set_cons_zero, List.set_cons_succ]
    refine wpAnyH_take (i := 11) (v := .string s) rfl (by kernel_rfl) (by kernel_rfl) (by kernel_rfl) (fun _ _ _ h => h) (Or.inl ⟨by kernel_rfl, ?_⟩) (by assumption) ?_
    · intro V _
      go_simp
    change wpAnyH _ _ _ _ _ _ _ (Act.put _ (some 57) _) _
    simp only [Act.put, List.setIfInBounds_toArray, List.set_cons_zero, List.set_cons_succ]
    refine wpAnyH_take (i := 12) (v := .int .i64 (s.size : Int)) rfl (by kernel_rfl) (by kernel_rfl) (by kernel_rfl) (fun _ _ _ h => h) (Or.inl ⟨by kernel_rfl, ?_⟩) (by assumption) ?_
    · intro V _
      go_simp
    change wpAnyH _ _ _ _ _ _ _ (Act.put _ (some 58) _) _
    simp only [Act.put, List.setIfInBounds_toArray, List.set_cons_zero, List.set_cons_succ]
    refine wpAnyH_take (i := 13) (v := .int .i64 (j : Int)) rfl (by kernel_rfl) (by kernel_rfl) (by kernel_rfl) (fun _ _ _ h => h) (Or.inl ⟨by kernel_rfl, ?_⟩) (by assumption) ?_
    · intro V _
      go_simp
    change wpAnyH _ _ _ _ _ _ _ (Act.put _ (some 59) _) _
    simp only [Act.put, List.setIfInBounds_toArray, List.set_cons_zero, List.set_cons_succ]
    refine wpAnyH_take (i := 14) (v := .string (s.extract j s.size)) rfl (by kernel_rfl) (by kernel_rfl) (by kernel_rfl) (fun _ _ _ h => h) (Or.inl ⟨by kernel_rfl, ?_⟩) (by assumption) ?_
    · intro V _
      go_simp
    change wpAnyH _ _ _ _ _ _ _ (Act.put _ (some 60) _) _
    simp only [Act.put, List.setIfInBounds_toArray, List.set_cons_zero, List.set_cons_succ]
    refine wpAnyH_ready (rs := [5]) (by kernel_rfl) (by simp) ?_
    refine AllReadyH.cons rfl (fun K hK => ?_) AllReadyH.nil
    go_simp
    refine hK.out _ _ trivial (fun hHeld => ?_)
    clear hK K
    have HCv : Hid ((convert 92 9 (.slice (some ⟨w.heap.size, 0, none⟩) 1 1)).run Tryz.prog (w.alloc (.cells #[.int .u8 (c % 256)] 5)).drew = .ok (.string ⟨#[kk]⟩) (w.alloc (.cells #[.int .u8 (c % 256)] 5)).drew) := Lib.hid (by
      rw [HKk.out]
      refine Sc.own_conv (base := w.heap.size) (L := [kk]) ⟨rfl, .inr ⟨w.heap.size, 1, #[.int .u8 kk.toNat], rfl, Nat.le_refl _, ?_, Nat.le_refl _, by decide, rfl, ?_⟩⟩
      · exact heap_new w.drew _
      · rfl)
    refine wpAnyH_ready (rs := [6]) (by kernel_rfl) (by simp) ?_
    refine AllReadyH.cons rfl (fun K hK => ?_) AllReadyH.nil
    refine step_conv (by rfl) 92 9 (.tmp 51) (by rfl) _ _ (by rfl) HCv.out ?_
    refine hK.out _ _ trivial (fun hHeld => ?_)
    clear hK K
    change wpAnyH _ _ _ _ _ _ _ (Act.put _ (some 52) _) _
    simp only [Act.put, List.setIfInBounds_toArray, List.set_cons_zero, List.set_cons_succ]
    refine wpAnyH_take (i := 7) (v := .string (s.extract 0 i ++ ⟨#[kk]⟩)) rfl (by kernel_rfl) (by kernel_rfl) (by kernel_rfl) (fun _ _ _ h => h) (Or.inl ⟨by kernel_rfl, ?_⟩) (by assumption) ?_
    · intro V _
      go_simp
    change wpAnyH _ _ _ _ _ _ _ (Act.put _ (some 53) _) _
    simp only [Act.put, List.setIfInBounds_toArray, List.set_cons_zero, List.set_cons_succ]
    refine wpAnyH_take (i := 15) (v := .string (s.extract 0 i ++ ⟨#[kk]⟩ ++ s.extract j s.size)) rfl (by kernel_rfl) (by kernel_rfl) (by kernel_rfl) (fun _ _ _ h => h) (Or.inl ⟨by kernel_rfl, ?_⟩) (by assumption) ?_
    · intro V _
      go_simp
    change wpAnyH _ _ _ _ _ _ _ (Act.put _ (some 61) _) _
    simp only [Act.put, List.setIfInBounds_toArray, List.set_cons_zero, List.set_cons_succ]
    refine wpAnyH_take (i := 16) (v := .string (s.extract 0 i ++ ⟨#[kk]⟩ ++ s.extract j s.size)) rfl (by kernel_rfl) (by kernel_rfl) (by kernel_rfl) (fun _ _ _ h => h) (Or.inl ⟨by kernel_rfl, ?_⟩) (by assumption) ?_
    · intro V _
      go_simp
    change wpAnyH _ _ _ _ _ _ _ (Act.put _ (some 8) _) _
    simp only [Act.put, List.setIfInBounds_toArray, List.set_cons_zero, List.set_cons_succ]
    refine wpAnyH_done (by kernel_rfl) ?_ _
    clear HCv hHeld
    go_wp2_with fail
    go_ret
    exact HFc.out j ⟨#[kk]⟩ hj2 hj3 (Nat.le_refl 1) _ HB.out
  · go_enter Tryz.func30, Tryz.ntmps30
    go_wp2_with fail
    refine (HM1.out _).mono ?_
    rintro e w1 ⟨rfl, rfl⟩
    go_wp2_with fail
    refine (HM2.out _).mono ?_
    rintro e w1 ⟨rfl, rfl⟩
    go_wp2_with fail
    go_ret
    exact HFs.out _ HB0.out
end St
end
end Go.Proofs.YtlnghfmedkfkmaaGreatDoor

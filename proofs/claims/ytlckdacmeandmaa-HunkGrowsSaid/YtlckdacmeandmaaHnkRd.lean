/-
  Group and the reference's Group, said in one form for hunks and errors. Conditions: numbers that an int holds, at most 100000 changes.
-/
import Derived.Test.YtlckdacmeandmaaHnkAwake
import Derived.Test.YtlckdacmeandmaaHnkCovR
import Derived.Test.YtlckdacmeandmaaScrScr
namespace Go.Proofs.Ytlckdacmeandmaa
open Go.RowKit
namespace Hn
open Cm Sc
open Classical in
noncomputable def grL (ctx : Int) (l : List Ch) (m n : Int) : List Hk := if gcF ctx l m n = 0 then group ctx m l else []
def GrRd (ctx : Int) (l : List Ch) (m n : Int) (w : World) (e : Ending) (w' : World) : Prop := ∃ v, e = .returned (.tuple #[v, .int .i64 (gcF ctx l m n)]) ∧ RdH w' v (grL ctx l m n) ∧ Below w.heap.size w w'
theorem gr_rd {ctx : Int} {l : List Ch} {m n : Int} {w : World} {e : Ending} {w' : World} (h : GrPost ctx l m n w e w') : GrRd ctx l m n w e w' := by
  obtain ⟨v, h1, h2, h3, h4⟩ := h
  refine ⟨v, h1, ?_, h4⟩
  unfold grL
  by_cases h0 : gcF ctx l m n = 0
  · rw [if_pos h0]; exact (h2 h0).rd
  · rw [if_neg h0, h3 h0]; exact RdK.nil _
theorem grL_len (ctx : Int) (l : List Ch) (m n : Int) : (grL ctx l m n).length ≤ l.length := by
  unfold grL
  split
  · exact group_len ctx m l
  · exact Nat.zero_le _
theorem Group_rd (v : Value) (l : List Ch) (m n ctx : Int) (w : World) (h : RdC w v l) (hl : l.length ≤ 100000) (hb : ∀ c ∈ l, ChB c) :
    Calls Try.prog 10 #[v, .int .i64 m, .int .i64 n, .int .i64 ctx] w (GrRd ctx l m n w) := (Group_any v l m n ctx w h hl hb).mono fun _ _ h => gr_rd h
theorem GroupR_rd (v : Value) (l : List Ch) (m n ctx : Int) (w : World) (h : RdC w v l) (hl : l.length ≤ 100000) :
    Calls Try.prog 12 #[v, .int .i64 m, .int .i64 n, .int .i64 ctx] w (GrRd ctx l m n w) := (GroupR_any v l m n ctx w h hl).mono fun _ _ h => gr_rd h
/-- For a script of the verifier's and a small context. -/
theorem good_code {l : List Ch} {m n ctx : Int} (h : GoodL l m n) (hc : 0 ≤ ctx ∧ ctx ≤ 1048576) : gcF ctx l m n = 0 ∧ grL ctx l m n = group ctx m l := by
  have e : gcF ctx l m n = 0 := by rw [gc_in (by omega)]; exact chkF_ok h.im h.in_ h.ok
  exact ⟨e, by unfold grL; rw [if_pos e]⟩
def GdPost (L : List Hk) (w : World) (e : Ending) (w' : World) : Prop := ∃ v, e = .returned (.tuple #[v, .int .i64 0]) ∧ RdH w' v L ∧ Below w.heap.size w w'
theorem Group_good (v : Value) (l : List Ch) (m n ctx : Int) (w : World) (h : RdC w v l) (hg : GoodL l m n) (hc : 0 ≤ ctx ∧ ctx ≤ 1048576) :
    Calls Try.prog 10 #[v, .int .i64 m, .int .i64 n, .int .i64 ctx] w (GdPost (group ctx m l) w) :=
  (Group_rd v l m n ctx w h (by have := hg.len; omega) hg.chB).mono fun e w' h => by
    unfold GrRd at h
    rw [(good_code hg hc).1, (good_code hg hc).2] at h
    exact h
theorem Cover_good (v : Value) (l : List Hk) (m : Nat) (w : World) (h : RdH w v l) (hl : l.length ≤ 100000) (hm : m ≤ 4096) :
    Calls Try.prog 14 #[v, .int .i64 (m : Int)] w fun e w' => ∃ v, e = .returned v ∧ RdV w' v (boolsV (covF l m)) ∧ Below w.heap.size w w' :=
  (Cover_any v l m w h (by omega)).mono fun e w' h => by
    unfold CvPost cvF at h
    rw [if_pos ⟨by omega, by omega⟩, Int.toNat_natCast] at h
    exact h
end Hn
end Go.Proofs.Ytlckdacmeandmaa

/-
  A patch that came in: it reads, and its texts are no longer together than its bulk. No conditions.
-/
import Derived.Test.YtjecfmbecgpbmaaGreatDoorGComFrameI
import Derived.Test.YtjecfmbecgpbmaaGreatDoorGHnkBase
import Derived.Test.YtjecfmbecgpbmaaGreatDoorGGStrMd
import Derived.Lib.SmallJoins
import Derived.Test.YtjecfmbecgpbmaaGreatDoorRows
namespace Go.Proofs.YtjecfmbecgpbmaaGreatDoor
namespace Cm
end Cm
namespace Sc
end Sc
namespace Uf
end Uf
open Go.ChangeShapes Go.WideShapes Go.ChangeAt Go.RowKit Go.Deep
namespace St
open Cm Uf Sc
section
variable {H : Type} {enc : TypeId × Value → H} {W : World} {base : Nat} {spare : Nat → Bool} {held : Bool} {fuel : Nat} {u : Value} {x : DataW H × List MemPlace}
theorem bulk_range {n : Nat} {D : Nat → DataW H} {f : Nat → Nat} (h : ∀ i, i < n → f i ≤ Rows.uptoBulk (D i)) : ((List.range n).map f).sum ≤ Rows.uptoBulkAll ((List.range n).map D) := by
  have gen : ∀ l : List Nat, (∀ i ∈ l, f i ≤ Rows.uptoBulk (D i)) → (l.map f).sum ≤ Rows.uptoBulkAll (l.map D) := by
    intro l
    induction l with
    | nil => intro _; exact Nat.zero_le _
    | cons a r ih =>
      intro hh
      have h1 := hh a List.mem_cons_self
      have h2 := ih (fun i hi => hh i (List.mem_cons_of_mem _ hi))
      simp only [List.map_cons, List.sum_cons, Rows.uptoBulkAll]
      omega
  exact gen _ (fun i hi => h i (List.mem_range.1 hi))
open Classical in
theorem open_KB {α : Type} {k : Nat} {tS tE : TypeId} {el : α → List Value} {B : α → Prop} {wt : α → Nat} (hu : Tryz.prog.underlying tS = some (.slice tE)) (hk : Tryz.prog.cellsOf tE = k) (hk0 : 0 < k) (he : ∀ x, (el x).length = k)
    (hopen : ∀ (n : Nat) (cs : List Value) (x : DataW H × List MemPlace), DataW.trod enc Tryz.prog W base spare held n tE cs = some x → ∃ a, cs = el a ∧ B a ∧ wt a ≤ Rows.uptoBulk x.1)
    (h : DataW.trod enc Tryz.prog W base spare held fuel tS [u] = some x) : ∃ xs : List α, RdK k el W u xs ∧ xs.length ≤ maxLen ∧ (∀ a ∈ xs, B a) ∧ (xs.map wt).sum ≤ Rows.uptoBulk x.1 := by
  rcases Go.Deep.open_slice hu h with ⟨hcs, _⟩ | ⟨a, len, cap, m, n, D, Pl, hcs, _, hl, hm, hmm, hx, hi⟩
  · obtain rfl : u = .slice none 0 0 := by simpa using hcs
    exact ⟨[], RdK.nil _, Nat.zero_le _, (fun z hz => by cases hz), Nat.zero_le _⟩
  · obtain rfl : u = .slice (some a) len cap := by simpa using hcs
    have hlm : len ≤ m := by rw [hmm]; split <;> omega
    rw [hk] at hi
    by_cases hz : len = 0
    · subst hz
      exact ⟨[], ⟨some a, cap, rfl, ⟨Nat.zero_le _, fun e => by cases e⟩, fun hp => absurd hp (Nat.lt_irrefl 0)⟩, Nat.zero_le _, (fun z hz => by cases hz), Nat.zero_le _⟩
    · obtain ⟨b, off, spot⟩ := a
      have hspot : spot = none := by
        obtain ⟨cs', hc, ht⟩ := hi 0 (by omega)
        obtain ⟨nd, rfl, _⟩ := hopen _ _ _ ht
        obtain ⟨_, _, hat⟩ := World.cells?_some hc
        have h0 := hat 0 (by first | exact hk0 | (rw [he]; exact hk0))
        rw [List.getElem?_eq_getElem (by rw [he]; exact hk0)] at h0
        have h1 := World.cell?_spot h0
        simpa [Addr.add] using h1
      subst hspot
      have hall : ∀ i, i < len → ∃ nd : α, (∀ j (hj : j < (el nd).length), W.cell? ⟨b, off + i * k + j, none⟩ = some (el nd)[j]) ∧ B nd ∧ wt nd ≤ Rows.uptoBulk (D i) := fun i hil => by
        obtain ⟨cs', hc, ht⟩ := hi i (by omega)
        obtain ⟨nd, rfl, hb⟩ := hopen _ _ _ ht
        obtain ⟨_, hcl, hat⟩ := World.cells?_some hc
        refine ⟨nd, fun j hj => ?_, hb⟩
        have h0 := hat j (by first | (rw [he] at hj; exact hj) | exact hj)
        rw [addr_add, addr_add] at h0
        rw [h0, List.getElem?_eq_getElem hj]
      have hf : ∃ f : Nat → α, ∀ i, i < len → (∀ j (hj : j < (el (f i)).length), W.cell? ⟨b, off + i * k + j, none⟩ = some (el (f i))[j]) ∧ B (f i) ∧ wt (f i) ≤ Rows.uptoBulk (D i) := by
        obtain ⟨d, _⟩ := hall 0 (by omega)
        refine ⟨fun i => if hk : i < len then Classical.choose (hall i hk) else d, fun i hk => ?_⟩
        simp only [dif_pos hk]
        exact Classical.choose_spec (hall i hk)
      obtain ⟨f, hf⟩ := hf
      refine ⟨(List.range len).map f, ⟨some ⟨b, off, none⟩, cap, by simp, ⟨by simp; omega, fun e => by cases e⟩, fun _ => ⟨b, off, rfl, fun j hj i hi => ?_⟩⟩, by simp; omega, fun z hz => ?_, ?_⟩
      · have h1 : j < len := by simpa using hj
        have h2 : ((List.range len).map f)[j] = f j := by simp
        have h3 : i < (el (f j)).length := by rw [he]; rw [he] at hi; exact hi
        have h4 := (hf j h1).1 i h3
        simp only [h2]
        exact h4
      · obtain ⟨i, hi, rfl⟩ := List.mem_map.1 hz
        exact (hf i (List.mem_range.1 hi)).2.1
      · rw [hx]
        simp only [Rows.uptoBulk, List.map_map]
        have := bulk_range (n := len) (D := D) (f := wt ∘ f) (fun i hi => (hf i hi).2.2)
        omega
set_option maxRecDepth 100000 in
theorem open_ln {cs : List Value} (h : DataW.trod enc Tryz.prog W base spare held fuel tLn cs = some x) : ∃ l : Ln, cs = lineC l ∧ True ∧ l.text.size ≤ Rows.uptoBulk x.1 := by
  obtain ⟨y0, y1, n, rfl, hlen, h0, h1⟩ := trod_struct2 Tryz.underlying44 h
  rw [show Tryz.prog.cellsOf tLn = 2 from by kernel_rfl] at hlen
  match cs, hlen with
  | [a0, a1], _ =>
    have f0 : DataW.trod enc Tryz.prog W base spare held n 5 [a0] = some y0 := h0
    have f1 : DataW.trod enc Tryz.prog W base spare held n 9 [a1] = some y1 := h1
    obtain ⟨z0, e0, _, _⟩ := DataW.trod_int Tryz.underlying5 f0
    obtain ⟨s1, e1, q1, _⟩ := DataW.trod_string Tryz.underlying9 f1
    have r0 : a0 = .int .u8 z0 := by simpa using e0
    have r1 : a1 = .string s1 := by simpa using e1
    refine ⟨⟨z0, s1⟩, by rw [r0, r1]; rfl, trivial, ?_⟩
    have hz : s1.data.toList.length = s1.size := Array.length_toList
    rw [q1]
    simp only [Rows.uptoBulk, Rows.uptoBulkAll]
    omega
theorem open_lns (h : DataW.trod enc Tryz.prog W base spare held fuel tLns [u] = some x) : ∃ ls : List Ln, RdL W u ls ∧ tL ls ≤ Rows.uptoBulk x.1 := by
  obtain ⟨xs, h1, -, -, h4⟩ := open_KB (wt := fun l : Ln => l.text.size) (B := fun _ => True) Tryz.underlying37 (by kernel_rfl) (by decide) lineC_len (fun _ _ _ h => open_ln h) h
  exact ⟨xs, h1, h4⟩
set_option maxRecDepth 100000 in
theorem open_ph {cs : List Value} (h : DataW.trod enc Tryz.prog W base spare held fuel tPh cs = some x) : ∃ z : HV × List Ln, cs = hunkC z.1 ∧ (RdL W z.1.u z.2 ∧ (-9223372036854775808 ≤ z.1.old ∧ z.1.old ≤ 9223372036854775807) ∧ (-9223372036854775808 ≤ z.1.new ∧ z.1.new ≤ 9223372036854775807)) ∧ tL z.2 ≤ Rows.uptoBulk x.1 := by
  obtain ⟨y0, y1, y2, n, rfl, hlen, h0, h1, h2⟩ := trod_struct3 Tryz.underlying39 h
  rw [show Tryz.prog.cellsOf tPh = 3 from by kernel_rfl] at hlen
  match cs, hlen with
  | [a0, a1, a2], _ =>
    have f0 : DataW.trod enc Tryz.prog W base spare held n 3 [a0] = some y0 := h0
    have f1 : DataW.trod enc Tryz.prog W base spare held n 3 [a1] = some y1 := h1
    have f2 : DataW.trod enc Tryz.prog W base spare held n tLns [a2] = some y2 := h2
    obtain ⟨z0, e0, _, w0⟩ := DataW.trod_int Tryz.underlying3 f0
    obtain ⟨z1, e1, _, w1⟩ := DataW.trod_int Tryz.underlying3 f1
    obtain ⟨ls, r2, t2⟩ := open_lns f2
    have r0 : a0 = .int .i64 z0 := by simpa using e0
    have r1 : a1 = .int .i64 z1 := by simpa using e1
    refine ⟨(⟨z0, z1, a2⟩, ls), by rw [r0, r1]; rfl, ⟨r2, bounds_int w0, bounds_int w1⟩, ?_⟩
    simp only [Rows.uptoBulk, Rows.uptoBulkAll]
    omega
theorem open_phs (h : DataW.trod enc Tryz.prog W base spare held fuel tPhs [u] = some x) : ∃ hs : List PH, RdP W u hs ∧ hs.length ≤ maxLen ∧ (∀ h ∈ hs, (-9223372036854775808 ≤ h.old ∧ h.old ≤ 9223372036854775807) ∧ (-9223372036854775808 ≤ h.new ∧ h.new ≤ 9223372036854775807)) ∧ tS hs ≤ Rows.uptoBulk x.1 := by
  obtain ⟨xs, h1, h2, h3, h4⟩ := open_KB (el := fun z : HV × List Ln => hunkC z.1) (wt := fun z : HV × List Ln => tL z.2) Tryz.underlying24 (by kernel_rfl) (by decide) (fun z => hunkC_len z.1) (fun _ _ _ h => open_ph h) h
  refine ⟨xs.map fun z => ⟨z.1.old, z.1.new, z.2⟩, ⟨xs.map (·.1), ?_, by simp, fun j a b => ?_⟩, by simpa using h2, fun y hy => ?_, ?_⟩
  · obtain ⟨A, c, e, hcap, hcell⟩ := h1
    refine ⟨A, c, by rw [List.length_map]; exact e, by rw [List.length_map]; exact hcap, fun hp => ?_⟩
    rw [List.length_map] at hp
    obtain ⟨b, off, e2, hc⟩ := hcell hp
    refine ⟨b, off, e2, fun j hj i hi => ?_⟩
    rw [List.length_map] at hj
    have e3 : (xs.map (·.1))[j]'(by rw [List.length_map]; exact hj) = xs[j].1 := List.getElem_map ..
    have hi3 : i < (hunkC xs[j].1).length := by rw [hunkC_len]; rw [hunkC_len] at hi; exact hi
    have := hc j hj i hi3
    simp only [e3]
    exact this
  · simp only [List.getElem_map]
    exact ⟨trivial, trivial, (h3 _ (List.getElem_mem (by simpa using a))).1⟩
  · obtain ⟨z, hz, rfl⟩ := List.mem_map.1 hy
    exact (h3 z hz).2
  · unfold tS
    rw [List.map_map]
    exact h4
end
end St
end Go.Proofs.YtjecfmbecgpbmaaGreatDoor

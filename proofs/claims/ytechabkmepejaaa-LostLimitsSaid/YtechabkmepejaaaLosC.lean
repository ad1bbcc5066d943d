/-
  The program's Coalesce. Conditions: numbers that an int holds.
-/
import Derived.Test.YtechabkmepejaaaLosP
import Derived.Test.YtechabkmepejaaaShoPre
namespace Go.Proofs.Ytechabkmepejaaa
open Go.RowKit
namespace Lo
open Cm Sc
theorem Jn.mem {b : Nat} {l : List Mg} {ys : List Int} {r : List Mg} (h : Jn b l ys r) : ∀ m ∈ r, (∃ x ∈ l, m.line = x.line) ∨ m.line ∈ ys := by
  have hn : ∀ ys : List Int, ∀ m ∈ news b ys, m.line ∈ ys := fun ys m hm => by
    obtain ⟨y, hy, rfl⟩ := List.mem_map.1 hm
    exact hy
  induction h with
  | done l ys =>
    intro m hm
    rcases List.mem_append.1 hm with h | h
    · exact .inl ⟨m, h, rfl⟩
    · exact .inr (hn _ m h)
  | part l1 l2 y1 y2 x r h ih =>
    intro m hm
    rcases List.mem_append.1 hm with h | h
    · exact .inl ⟨m, List.mem_append_left _ h, rfl⟩
    rcases List.mem_append.1 h with h | h
    · exact .inr (List.mem_append_left _ (hn _ m h))
    rcases List.mem_cons.1 h with rfl | h
    · exact .inl ⟨x, List.mem_append_right _ List.mem_cons_self, rfl⟩
    · rcases ih m h with ⟨y, hy, e⟩ | h
      · exact .inl ⟨y, List.mem_append_right _ (List.mem_cons_of_mem _ hy), e⟩
      · exact .inr (List.mem_append_right _ (List.mem_cons_of_mem _ h))
def CoPost (ls : List (List Int)) (w : World) (e : Ending) (w' : World) : Prop := ∃ v, e = .returned (.tuple #[v, .int .i64 (codeF ls)]) ∧ OwnM w.heap.size w' v (colF ls) ∧ Below w.heap.size w w'
theorem scr_mg (l : List Mg) (ys : List Int) (b : Nat) : mgF l ys b 0 (Sh.scrF (lnM l) ys) = jn l ys b := by
  unfold Sh.scrF
  rw [lnM_len]
  exact mg_jn l ys b
set_option maxRecDepth 100000 in
set_option maxHeartbeats 2000000 in
/-- One parent more. -/
theorem merge_jn (l : List Mg) (ys : List Int) (bit : Nat) (vl vy vc : Value) (w : World) (hl : RdM w vl l) (hy : RdV w vy (intsV ys)) (hc : RdC w vc (Sh.scrF (lnM l) ys)) (hlm : l.length ≤ 4096) (hym : ys.length ≤ 4096) (hp : ∀ y ∈ l, y.par < 4294967296) (hbit : bit < 4294967296) :
    Calls Try.prog 21 #[vl, vy, vc, .int .u32 (bit : Int)] w (MpPost w.heap.size (jn l ys bit) w) := by
  have h1 := Sh.scr_len (lnM l) ys
  have h2 := Sh.scr_ok (lnM l) ys
  have h3 := (jn_rel l ys bit).len
  rw [lnM_len] at h1 h2
  exact merge_any l ys (Sh.scrF (lnM l) ys) bit vl vy vc (jn l ys bit) w hl hy hc hlm hym (by omega) h2 (scr_mg l ys bit) (by omega) hp hbit
/-- What holds of the merged list before parent k. -/
structure Mid (ls : List (List Int)) (k : Nat) (l : List Mg) : Prop where
  eq : coF k l (ls.drop k) = coF 0 [] ls
  bad : badF k l (ls.drop k) = badF 0 [] ls
  len : l.length ≤ 8192
  num : ∀ m ∈ l, zB m.line
  few : FewP k l
theorem Mid.start (ls : List (List Int)) : Mid ls 0 [] := ⟨rfl, rfl, by simp, (fun m h => by cases h), FewP.nil 0⟩
theorem Mid.next {ls : List (List Int)} {k : Nat} {l : List Mg} (h : Mid ls k l) (hk : k < ls.length) (hz : ∀ l ∈ ls, ∀ z ∈ l, zB z) (h1 : l.length ≤ 4096) (h2 : ls[k].length ≤ 4096) : Mid ls (k + 1) (jn l ls[k] (2 ^ k)) := by
  have hj := jn_rel l ls[k] (2 ^ k)
  have e1 := h.eq
  have e2 := h.bad
  rw [List.drop_eq_getElem_cons hk] at e1 e2
  refine ⟨e1, ?_, by have := hj.len; omega, fun m hm => ?_, hj.few h.few⟩
  · rw [← e2]
    show _ = ((decide (4096 < l.length) || decide (4096 < ls[k].length)) || badF (k + 1) (jn l ls[k] (2 ^ k)) (ls.drop (k + 1)))
    rw [decide_eq_false (by omega), decide_eq_false (by omega)]
    rfl
  · rcases hj.mem m hm with ⟨x, hx, e⟩ | h3
    · rw [e]; exact h.num x hx
    · exact hz _ (List.getElem_mem hk) _ h3
theorem Mid.long {ls : List (List Int)} {k : Nat} {l : List Mg} (h : Mid ls k l) (hk : k < ls.length) (h1 : 4096 < l.length ∨ 4096 < ls[k].length) : codeF ls = 1 ∧ colF ls = [] := by
  have e2 := h.bad
  rw [List.drop_eq_getElem_cons hk] at e2
  have e3 : badF 0 [] ls = true := by
    rw [← e2]
    show ((decide (4096 < l.length) || decide (4096 < ls[k].length)) || badF (k + 1) (jn l ls[k] (2 ^ k)) (ls.drop (k + 1))) = true
    rcases h1 with h1 | h1
    · rw [decide_eq_true h1]; rfl
    · rw [decide_eq_true h1, Bool.or_true]; rfl
  unfold codeF colF
  rw [if_pos (.inr e3), if_pos (.inr e3)]
  exact ⟨rfl, rfl⟩
theorem Mid.done {ls : List (List Int)} {l : List Mg} (h : Mid ls ls.length l) (hl : ls.length ≤ 32) : codeF ls = 0 ∧ colF ls = l := by
  have e1 := h.eq
  have e2 := h.bad
  rw [List.drop_eq_nil_of_le (Nat.le_refl _)] at e1 e2
  have e3 : ¬ (32 < ls.length ∨ badF 0 [] ls = true) := by
    rw [← e2]
    simp [badF]; omega
  unfold codeF colF
  rw [if_neg e3, if_neg e3]
  exact ⟨rfl, e1.symm⟩
set_option maxRecDepth 100000 in
set_option maxHeartbeats 8000000 in
theorem Coalesce_any (v : Value) (ls : List (List Int)) (w : World) (h : RdLL w v (ls.map intsV)) (hl : ls.length ≤ 4194304) (hz : ∀ l ∈ ls, ∀ z ∈ l, zB z) :
    Calls Try.prog 9 #[v] w (CoPost ls w) := by
  obtain ⟨us, hr, hul, hus⟩ := h
  rw [List.length_map] at hul
  obtain ⟨A, c, rfl⟩ := hr.form
  have HAt : Hid (∀ w', Below w.heap.size w w' → ∀ k (h : k < ls.length), ∃ b off Ax cx, A = some ⟨b, off, none⟩ ∧ w'.cell? ⟨b, off + k, none⟩ = some (.slice Ax ls[k].length cx) ∧ RdV w' (.slice Ax ls[k].length cx) (intsV ls[k])) := Lib.hid (fun w' hb k hk => by
    obtain ⟨_, b, off, e, hc⟩ := (hr.below hb).at (by omega)
    have h3 := (hus k (by omega) (by rw [List.length_map]; exact hk)).below hb
    rw [List.getElem_map] at h3
    obtain ⟨Ax, cx, e2⟩ := h3.form
    rw [intsV_len] at e2
    exact ⟨b, off, Ax, cx, e, by rw [hc k (by omega), e2], by rw [← e2]; exact h3⟩)
  rw [hul]
  clear hr hus hul
  by_cases hbig : 32 < ls.length
  · have HE : Hid (codeF ls = 1 ∧ colF ls = []) := Lib.hid (by unfold codeF colF; rw [if_pos (.inl hbig), if_pos (.inl hbig)]; exact ⟨rfl, rfl⟩)
    clear HAt
    generalize hN : ls.length = N at *
    clear hN
    have d1 : decide ((32 : Int) < (N : Int)) = true := decide_eq_true (by omega)
    go_enter Try.func9, Try.ntmps9
    go_wp2_with fail
    go_ret2
    exact ⟨.slice none 0 0, by rw [HE.out.1]; rfl, by rw [HE.out.2]; exact OwnM.nil _ _, Below.refl _ _⟩
  · have HFin : Hid (∀ (l : List Mg) (v : Value) (w' : World), Mid ls ls.length l → OwnM w.heap.size w' v l → Below w.heap.size w w' → CoPost ls w (.returned (.tuple #[v, .int .i64 0])) w') := Lib.hid (fun l v w' h1 h2 h3 => by
      obtain ⟨e1, e2⟩ := h1.done (by omega)
      exact ⟨v, by rw [e1], by rw [e2]; exact h2, h3⟩)
    have HErr : Hid (∀ (k : Nat) (l : List Mg) (w' : World) (hk : k < ls.length), Mid ls k l → (4096 < l.length ∨ 4096 < ls[k].length) → Below w.heap.size w w' → CoPost ls w (.returned (.tuple #[.slice none 0 0, .int .i64 1])) w') := Lib.hid (fun k l w' hk h1 h2 h3 => by
      obtain ⟨e1, e2⟩ := h1.long hk h2
      exact ⟨.slice none 0 0, by rw [e1], by rw [e2]; exact OwnM.nil _ _, h3⟩)
    have HNx : Hid (∀ (k : Nat) (l : List Mg) (hk : k < ls.length), Mid ls k l → l.length ≤ 4096 → ls[k].length ≤ 4096 → Mid ls (k + 1) (jn l ls[k] (2 ^ k))) := Lib.hid (fun k l hk h1 h2 h3 => h1.next hk hz h2 h3)
    have HZ := Lib.hid hz
    have HS := Lib.hid (Mid.start ls)
    clear hz hl
    obtain ⟨N, hN⟩ : ∃ N, N = ls.length := ⟨_, rfl⟩
    rw [← hN] at hbig HFin ⊢
    have HN := Lib.hid hN
    clear hN
    have d1 : decide ((32 : Int) < (N : Int)) = false := decide_eq_false (by omega)
    go_enter Try.func9, Try.ntmps9
    go_wp2_with fail
    go_loopw [4, 14] (fun l' k' wr => ∃ (k : Nat) (l : List Mg), k ≤ N ∧ k' = .int .i64 (k : Int) ∧ Hid (OwnM w.heap.size wr l' l) ∧ Hid (Below w.heap.size w wr) ∧ Hid (Mid ls k l)) (fun _ k' _ => N - (intOf k').toNat)
    case atStart => exact ⟨0, [], Nat.zero_le _, rfl, Lib.hid (OwnM.nil _ _), Lib.hid (Below.refl _ _), HS⟩
    case round =>
      obtain ⟨k, l, hk, rfl, HO, HB, HM⟩ := hrel
      by_cases hlt : k < N
      · have hx : k < ls.length := by rw [← HN.out]; exact hlt
        obtain ⟨b, off, Ax, cx, rfl, c0, hry⟩ := HAt.out wr HB.out k hx
        have HRy := Lib.hid hry
        clear hry
        obtain ⟨A2, c2, rfl⟩ := HO.out.rd.form
        have hll := HM.out.len
        have HLn := Lib.hid (lines_any _ l wr HO.out.rd (by omega))
        have hk32 : k < 32 := by omega
        have i1 : (0 : Int) ≤ (k : Int) := by omega
        have i2 : (k : Int) < (N : Int) := by omega
        have HZy : Hid (∀ z ∈ ls[k], zB z) := Lib.hid (HZ.out _ (List.getElem_mem hx))
        have HZl : Hid (∀ z ∈ lnM l, zB z) := Lib.hid (fun z hz => by
          obtain ⟨m, hm, rfl⟩ := List.mem_map.1 hz
          exact HM.out.num m hm)
        have HEr := Lib.hid (fun w' => HErr.out k l w' hx HM.out)
        have HNk := Lib.hid (HNx.out k l hx HM.out)
        have hlt2 : 2 ^ k < 4294967296 := Nat.pow_lt_pow_right (a := 2) (by omega) (show k < 32 from hk32)
        have HPl : Hid (∀ y ∈ l, y.par < 4294967296) := Lib.hid (fun y hy => Nat.lt_of_lt_of_le (HM.out.few y hy).1 (by omega))
        have HJn := Lib.hid (fun vc w' h1 h2 h3 h4 h5 => merge_jn l (ls[k]'hx) (2 ^ k) (.slice A2 l.length c2) (.slice Ax (ls[k]'hx).length cx) vc w' h1 h2 h3 h4 h5 HPl.out hlt2)
        have HBk : Hid (∀ w', Sh.Blk w' wr.heap.size tI (intsV (lnM l)) → RdV w' (.slice (some ⟨wr.heap.size, 0, none⟩) l.length l.length) (intsV (lnM l))) := Lib.hid (fun w' h => by
          have h1 := h.rd
          rw [intsV_len, lnM_len] at h1
          exact h1)
        unfold LnPost at HLn
        rw [lnM_len] at HLn
        by_cases hsh : l.length ≤ 4096 ∧ ls[k].length ≤ 4096
        · obtain ⟨hs1, hs2⟩ := hsh
          have hsz : IntKind.u32.wrap ((2 : Int) ^ k) = ((2 ^ k : Nat) : Int) := by
            rw [show (2 : Int) ^ k = ((2 ^ k : Nat) : Int) from by simp]
            exact wrap_u32 _ hlt2
          have HScr : Hid (∀ w', RdV w' (.slice (some ⟨wr.heap.size, 0, none⟩) l.length l.length) (intsV (lnM l)) → RdV w' (.slice Ax ls[k].length cx) (intsV ls[k]) → Calls Try.prog 19 #[.slice (some ⟨wr.heap.size, 0, none⟩) l.length l.length, .slice Ax ls[k].length cx] w' (Sh.ScPost (Sh.scrF (lnM l) ls[k]) w')) := Lib.hid (fun w' h1 h2 =>
            Sh.Script_at _ _ _ _ _ _ _ _ w' (Lib.hid h1) (Lib.hid h2) hs1 hs2 (Lib.hid (lnM_len l).symm) (Lib.hid rfl) HZl.out HZy.out)
          have HJk := Lib.hid (fun vc w' h1 h2 h3 => HJn.out vc w' h1 h2 h3 hs1 hs2)
          have HNk2 := Lib.hid (HNk.out hs1 hs2)
          clear HJn HNk HEr HM hlt2 hs1 hs2 hll
          generalize Sh.scrF (lnM l) ls[k] = sc at *
          generalize jn l ls[k] (2 ^ k) = lj at *
          generalize l.length = L at *
          generalize ls[k].length = M at *
          generalize (2 : Nat) ^ k = bt at *
          go_wp2_with (first
            | (go_at_call 20; refine HLn.out.mono ?_; rintro e w1 ⟨rfl, hbk, hb1⟩; have HR1 := Lib.hid (HBk.out _ hbk); have HB1 := Lib.hid hb1; clear hbk hb1)
            | (go_at_call 19; refine (HScr.out _ HR1.out (HRy.out.below HB1.out)).mono ?_; rintro e w2 ⟨v2, rfl, ho2, hb2⟩; have HR2 := Lib.hid ho2.rd; have HB2 := Lib.hid (HB1.out.trans (hb2.mono HB1.out.size)); clear ho2 hb2)
            | (go_at_call 21; refine (HJk.out _ _ (HO.out.rd.below HB2.out) (HRy.out.below HB2.out) HR2.out).mono ?_; rintro e w3 ⟨v3, rfl, ho3, hb3, _⟩; have HO3 := Lib.hid (ho3.base (Nat.le_trans HB.out.size HB2.out.size)); have HB3 := Lib.hid (HB.out.trans ((HB2.out.trans (hb3.mono HB2.out.size)).mono HB.out.size)); clear ho3 hb3))
          go_roundw
          case rel => exact ⟨k + 1, lj, by omega, by go_num, HO3, HB3, HNk2⟩
          case measure => simp [intOf]; omega
        · have hlg : 4096 < l.length ∨ 4096 < ls[k].length := by omega
          have HFin2 := Lib.hid (fun w' hb => HEr.out w' hlg hb)
          have HScr := Lib.hid (fun w' => Sh.Script_long (some ⟨wr.heap.size, 0, none⟩) Ax l.length cx l.length ls[k].length w' hlg)
          clear HJn HNk HEr HM hlt2 hlg hsh hll
          generalize l.length = L at *
          generalize ls[k].length = M at *
          go_wp2_with (first
            | (go_at_call 20; refine HLn.out.mono ?_; rintro e w1 ⟨rfl, hbk, hb1⟩; have HB1 := Lib.hid hb1; clear hbk hb1)
            | (go_at_call 19; refine (HScr.out _).mono ?_; rintro e w2 ⟨rfl, rfl⟩))
          go_ret2
          exact HFin2.out _ (HB.out.trans (HB1.out.mono HB.out.size))
      · obtain rfl : k = N := by omega
        have HM2 : Hid (Mid ls k l) := HM
        go_wp2_with fail
        go_ret2
        exact HFin.out _ _ _ HM2.out HO.out HB.out
end Lo
end Go.Proofs.Ytechabkmepejaaa

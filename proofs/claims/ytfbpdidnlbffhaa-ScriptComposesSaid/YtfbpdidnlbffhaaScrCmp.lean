/-
  The program's Compose. Conditions: the fields are numbers that an int holds, as few elements as the laws have.
-/
import Derived.Test.YtfbpdidnlbffhaaScrGood
import Derived.Test.YtfbpdidnlbffhaaScrRep
import Derived.Test.YtfbpdidnlbffhaaScrCmM
namespace Go.Proofs.Ytfbpdidnlbffhaa
open Go.RowKit
attribute [local go_sem] Oper.semAt_some
namespace Sc
open Cm
abbrev tInts : TypeId := 23
/-- The verdict of the two checks, and the composition. -/
noncomputable def cmE (x y : List Ch) (m k n : Int) : Int := if chkF x m k = 0 then chkF y k n else chkF x m k
noncomputable def cmL (x y : List Ch) (m k n : Int) : List Ch := frF m n 0 0 (cmpF (mtF m 0 0 x) (mtF k 0 0 y))
def CmPost (x y : List Ch) (m k n : Int) (w : World) (e : Ending) (w' : World) : Prop :=
  ∃ v, e = .returned (.tuple #[v, .int .i64 (cmE x y m k n)]) ∧ (cmE x y m k n = 0 → OwnC w.heap.size w' v (cmL x y m k n)) ∧ (cmE x y m k n ≠ 0 → v = .slice none 0 0) ∧ Below w.heap.size w w'
theorem own_same {base k n : Nat} {t : TypeId} {w W : World} {v : Value} {l : List Value} (h : w.ownsRow base t k v n l) (hs : ∀ b, v.ownBlock = some b → W.heap[b]? = w.heap[b]?) : W.ownsRow base t k v n l := by
  refine ⟨h.1, ?_⟩
  rcases h.2 with hn | ⟨g, cap, cur, hv, hbg, hh, r⟩
  · exact .inl hn
  · exact .inr ⟨g, cap, cur, hv, hbg, (hs g (by rw [hv]; simp [Value.ownBlock])).trans hh, r⟩
theorem rep_own {w : World} {base G n : Nat} {x : Int} (h : w.heap[G]? = some (.cells (List.replicate n (.int .i64 x)).toArray tInt (0, 0))) (hG : base ≤ G) (hn : n ≤ 16000) : w.ownsRow base tInt 1 (.slice (some ⟨G, 0, none⟩) n n) n (intsV (List.replicate n x)) := by
  refine ⟨by simp [intsV], .inr ⟨G, n, _, rfl, hG, h, Nat.le_refl _, by unfold maxLen; omega, by simp, ?_⟩⟩
  simp [intsV, List.take_of_length_le]
theorem set_intsI (l : List Int) (i : Nat) (x : Int) : (intsV l).set i (.int .i64 x) = intsV (l.set i x) := by unfold intsV; rw [List.map_set]
theorem chkF_zero' {l : List Ch} {m n : Int} (h : chkF l m n = 0) : inI m ∧ inI n ∧ OkL true 0 0 l m n := by
  unfold chkF at h
  split at h
  · assumption
  · cases h
theorem pre_mem' {p q : List Sp} {x : Sp} (h : p ++ [x] <+: q) : x ∈ q := by
  obtain ⟨t, ht⟩ := h
  rw [← ht]; simp
theorem FromPairs_okp (v : Value) (p : List Sp) (m n : Int) (w : World) (h : RdS w v p) (hl : p.length ≤ 100000) (hm : inI m) (hn : inI n) (hp : OkP m n 0 0 p) : Calls Try.prog 18 #[v, .int .i64 m, .int .i64 n] w (GoodC (frF m n 0 0 p) w) :=
  (FromPairs_any v p m n w h (by omega) (okp_spB hm.2 hn.2 (Int.le_refl _) (Int.le_refl _) hp)).mono fun e w' ⟨v', h1, h2, _, h4⟩ => ⟨v', by rw [h1, fpF_ok hm hn hp], h2 (fpF_ok hm hn hp), h4⟩
theorem own_ge {base k n : Nat} {t : TypeId} {w : World} {v : Value} {l : List Value} (h : w.ownsRow base t k v n l) : ∀ b, v.ownBlock = some b → base ≤ b := by
  intro b hb
  rcases h.2 with ⟨rfl, _⟩ | ⟨g, cap, cur, rfl, h1, _⟩
  · simp [Value.ownBlock] at hb
  · obtain rfl : g = b := (by simpa [Value.ownBlock] using hb)
    exact h1
theorem own_base {base base' k n : Nat} {t : TypeId} {w : World} {v : Value} {l : List Value} (h : w.ownsRow base t k v n l) (hb : base' ≤ base) : w.ownsRow base' t k v n l := by
  refine ⟨h.1, ?_⟩
  rcases h.2 with hn | ⟨g, cap, cur, hv, h1, r⟩
  · exact .inl hn
  · exact .inr ⟨g, cap, cur, hv, Nat.le_trans hb h1, r⟩
theorem below_put {n k : Nat} {w : World} (h : n ≤ k) (o : Obj) : Below n w (w.putObj k o) := ⟨rfl, rfl, rfl, (grownBy_putObj' w k o).size, fun i hi => World.putObj_heap_other (by omega)⟩
/-- What lies about the first loop: the table of partners. -/
structure CmI (w : World) (P G k : Nat) (pre : List Sp) (W : World) : Prop where
  own : W.ownsRow w.heap.size tInt 1 (.slice (some ⟨G, 0, none⟩) k k) k (intsV (ptL k pre))
  box : Boxed W P tInts (.slice (some ⟨G, 0, none⟩) k k)
  below : Below w.heap.size w W
theorem CmI.to {w : World} {P G k : Nat} {pre : List Sp} {W W' : World} (h : CmI w P G k pre W) (hP : W'.heap[P]? = W.heap[P]?) (hG : W'.heap[G]? = W.heap[G]?) (hb : Below w.heap.size W W') : CmI w P G k pre W' :=
  ⟨own_same h.own (fun b e => by obtain rfl : G = b := (by simpa [Value.ownBlock] using e); exact hG), hP.trans h.box, h.below.trans hb⟩
theorem CmI.block {w : World} {P G k : Nat} {pre : List Sp} {W : World} (h : CmI w P G k pre W) : w.heap.size ≤ G ∧ G < W.heap.size := by
  rcases h.own.2 with ⟨e, _⟩ | ⟨g, cap, cur, hv, hbg, hh, r⟩
  · cases e
  · injection hv with e1 _ _
    injection e1 with e1
    injection e1 with e1 _ _
    subst e1
    exact ⟨hbg, (Array.getElem?_eq_some_iff.1 hh).1⟩
set_option maxRecDepth 100000 in
set_option maxHeartbeats 4000000 in
theorem Compose_ok (vx vy : Value) (x y : List Ch) (m n : Int) (k : Nat) (w : World) (hx : RdC w vx x) (hxl : x.length ≤ 1000000) (hxb : ∀ c ∈ x, ChB c) (hy : RdC w vy y) (hyl : y.length ≤ 1000000) (hyb : ∀ c ∈ y, ChB c)
    (hm : inI m) (hk : inI (k : Int)) (hn : inI n) (okx : OkL true 0 0 x m k) (oky : OkL true 0 0 y k n) :
    Calls Try.prog 24 #[vx, vy, .int .i64 m, .int .i64 (k : Int), .int .i64 n] w (GoodC (cmL x y m k n) w) := by
  obtain ⟨Ax, cx, rfl⟩ := hx.form
  obtain ⟨Ay, cy, rfl⟩ := hy.form
  have opx := mt_okp x true 0 0 hm.1 (fun _ => rfl) okx
  have opy := mt_okp y true 0 0 hk.1 (fun _ => rfl) oky
  have HCx := Lib.hid (fun wq (hq : Below w.heap.size w wq) => show Calls Try.prog 14 #[.slice Ax x.length cx, .int .i64 m, .int .i64 (k : Int)] wq (fun e w' => e = .returned (.int .i64 0) ∧ Below wq.heap.size wq w') from (Check_any _ x m k wq (hx.below hq) (by omega) hxb).mono fun e w' ⟨h1, h2⟩ => ⟨by rw [h1, chkF_ok hm hk okx], h2⟩)
  have HCy := Lib.hid (fun wq (hq : Below w.heap.size w wq) => show Calls Try.prog 14 #[.slice Ay y.length cy, .int .i64 (k : Int), .int .i64 n] wq (fun e w' => e = .returned (.int .i64 0) ∧ Below wq.heap.size wq w') from (Check_any _ y k n wq (hy.below hq) (by omega) hyb).mono fun e w' ⟨h1, h2⟩ => ⟨by rw [h1, chkF_ok hk hn oky], h2⟩)
  have HX := Lib.hid (fun wq (hq : Below w.heap.size w wq) => RdK.below hx hq)
  have HY := Lib.hid (fun wq (hq : Below w.heap.size w wq) => RdK.below hy hq)
  have hk2 := hk.2
  have HNx := Lib.hid (ok_chN hm hk okx)
  have HNy := Lib.hid (ok_chN hk hn oky)
  have HPx := Lib.hid opx
  have HPy := Lib.hid opy
  have HInx := Lib.hid (okP_asc opx).1
  have HIny := Lib.hid (okP_asc opy).1
  have hsx := mt_small hm hk okx
  have HLx := Lib.hid (cmp_pre_len opy)
  have HI := Lib.hid (And.intro hm hn)
  have hm1 : 0 ≤ m ∧ m ≤ 4096 := ⟨hm.1, hm.2⟩
  have HFr : Hid (∀ v wq, RdS wq v (cmpF (mtF m 0 0 x) (mtF k 0 0 y)) → Calls Try.prog 18 #[v, .int .i64 m, .int .i64 n] wq (GoodC (cmL x y m k n) wq)) := Lib.hid (fun v wq h => FromPairs_okp v _ m n wq h (by have := HLx.out (mtF m 0 0 x); omega) hm hn (cmp_okP opx opy))
  clear hx hy hxb hyb hm hk hn okx oky opx opy
  refine (callsIn_wide (n := 5)).1 ?_
  refine callsIn_of_wp_marks Try.func24 rfl trivial ?_ rfl
  simp only [Try.ntmps24, List.size_toArray, List.length_cons, List.length_nil, Nat.reduceAdd, Nat.reduceSub, Array.replicate_succ, Array.replicate_zero, List.push_toArray, List.append_toArray, List.nil_append, List.cons_append]
  generalize hNx : x.length = Nx at *
  have HNlx := Lib.hid hNx
  clear hNx
  generalize hNy : y.length = Ny at *
  have HNly := Lib.hid hNy
  clear hNy
  gi_wp2_with (first
    | (refine ⟨(trivial : Fence.wide.fn 14), ?_⟩; gi_at_call 14; refine (callsIn_wide.2 (HCx.out _ (Below.refl _ _))).mono ?_; rintro e w1 ⟨rfl, hb1⟩; have HB1 := Lib.hid hb1; clear hb1 HCx)
    | (refine ⟨(trivial : Fence.wide.fn 14), ?_⟩; gi_at_call 14; refine (callsIn_wide.2 (HCy.out _ HB1.out)).mono ?_; rintro e w2 ⟨rfl, hb2⟩; have HB2 := Lib.hid (HB1.out.trans (hb2.mono HB1.out.size)); clear hb2 HCy HB1)
    | (refine ⟨(trivial : Fence.wide.fn 40), ?_⟩; gi_at_call 40; refine (callsIn_wide.2 (Repeat_le w2.heap.size 1 k (-1) (w2.alloc (.cells #[.int .i64 (-1)] tInt)) (cell_one (heap_new w2 _)) (by omega))).mono ?_; rintro e w3 ⟨G, rfl, hG1, hG2, hb3⟩; have HG := Lib.hid (And.intro (show w.heap.size ≤ G from by have := HB2.out.size; rw [World.size_alloc] at hG1; omega) hG2); have HB3 := Lib.hid (((HB2.out.alloc HB2.out.size _).trans (hb3.mono (by have := HB2.out.size; simp; omega)))); clear hG1 hG2 hb3 HB2)
    | (refine ⟨(trivial : Fence.wide.fn 38), ?_⟩; gi_at_call 38; refine (callsIn_wide.2 (matched_any _ _ _ _ _)).mono ?_; rintro e w5 ⟨rfl, rfl⟩)
    | gi_in)
  obtain ⟨w9, hw9⟩ : ∃ w9, (((w3.alloc (.cells #[.slice (some ⟨G, 0, none⟩) k k] tInts)).alloc (.cells #[.slice Ay Ny cy] tChs)).alloc (.cells #[.int .i64 (k : Int)] 3)) = w9 := ⟨_, rfl⟩
  obtain ⟨P, hP⟩ : ∃ P, P = w3.heap.size := ⟨_, rfl⟩
  have hs4 : (w3.alloc (.cells #[.slice (some ⟨G, 0, none⟩) k k] tInts)).heap.size = P + 1 := by rw [hP]; simp
  have hb4 : Below w3.heap.size w3 (w3.alloc (.cells #[.slice (some ⟨G, 0, none⟩) k k] tInts)) := (Below.refl _ _).alloc (Nat.le_refl _) _
  have hk9 : Below (P + 1) (w3.alloc (.cells #[.slice (some ⟨G, 0, none⟩) k k] tInts)) w9 := by rw [← hw9]; exact ((Below.refl _ _).alloc (by omega) _).alloc (by simp; omega) _
  have hb9 : Below w3.heap.size w3 w9 := hb4.trans (hk9.mono (by omega))
  have hs3 := HB3.out.size
  have hs9 : w9.heap.size = P + 3 := by rw [← hw9, hP]; simp
  have hGl : w.heap.size ≤ G ∧ G < P := ⟨HG.out.1, by rw [hP]; exact (Array.getElem?_eq_some_iff.1 HG.out.2).1⟩
  have hI9 : CmI w P G k [] w9 := ⟨by rw [ptL_nil]; exact own_same (rep_own HG.out.2 hGl.1 (by omega)) (fun b e => by obtain rfl : G = b := (by simpa [Value.ownBlock] using e); exact hb9.block _ (by omega)), (hk9.block P (by omega)).trans (by rw [hP]; exact heap_new w3 _), HB3.out.trans (hb9.mono (by omega))⟩
  have hc9 : Cap w9 (P + 1) Ay Ny cy y (k : Int) := by
    have := cap_new ((HY.out w3 HB3.out).below hb4) (k : Int)
    rw [hs4] at this
    rw [← hw9]
    exact this
  have HSepY := Lib.hid (show Sep (P + 1) Ay Ny G from ⟨by omega, by omega, fun hp a ha => by
    obtain ⟨b, off, e, c0, _⟩ := RdC_at (HY.out w (Below.refl _ _)) 0 (by rw [HNly.out]; exact hp)
    rw [e] at ha
    cases ha
    have := Tx.cell_lt c0
    show G ≠ b
    omega⟩)
  have hk0 : 0 ≤ (k : Int) ∧ (k : Int) ≤ 4096 := ⟨by omega, hk2⟩
  rw [hw9, ← hP]
  clear hw9 hb4 hk9 hb9 HG HB3 hs4 hP hs3 hk2
  refine range_mat 5 (by omega) (P + 1) Ay Ny cy y (k : Int) HNly.out hyl HNy.out hk0 (by rfl) rfl hc9
    (fun pre O W => O = [G] ∧ CmI w P G k pre W) (fun _ _ _ => False)
    (fun pre O W W' h he => ?hI) (fun pre O W h i hi => ?hIl) (fun _ _ _ _ _ h => h.elim) [G] ⟨rfl, hI9⟩
    (fun s bx => { tmps := #[.slice Ax Nx cx, .slice Ay Ny cy, .int .i64 m, .int .i64 (k : Int), .int .i64 n, undef, undef, undef, undef, undef, .slice none 0 0, .int .i64 0, .int .i64 0, .int .i64 0, .pointer (some ⟨P, 0, none⟩), .pointer (some ⟨bx, 0, none⟩), undef, undef, undef, .slice Ax Nx cx, .int .i64 m, .int .i64 (k : Int), .int .i64 0, .int .i64 0, .bool false, undef, .slice Ay Ny cy, .int .i64 (k : Int), .int .i64 n, .int .i64 0, .int .i64 0, .bool false, undef, .slice (some ⟨w2.heap.size, 0, none⟩) 1 1, .int .i64 (k : Int), .slice (some ⟨G, 0, none⟩) k k, .slice Ay Ny cy, .int .i64 (k : Int), matV (P + 1), spV s, undef, undef, undef, undef, undef, undef, undef, undef, undef, undef, undef, undef, undef, undef, undef, undef, undef, undef, undef, undef, undef, undef, undef, undef, undef, undef, undef, undef, undef, undef], defers := [] }) ?assign ?body ?done ?stop
  case hI =>
    obtain ⟨rfl, h2⟩ := h
    exact ⟨rfl, h2.to (he.block P (.inl (by omega))) (he.block G (.inr (by simp))) ⟨he.os, he.tape, he.output, he.size, fun i hi => he.block i (.inl (by omega))⟩⟩
  case hIl =>
    obtain ⟨rfl, h2⟩ := h
    obtain rfl : i = G := by simpa using hi
    exact ⟨h2.block.2, HSepY.out⟩
  case stop =>
    rintro D c pre W _ _ _ h _
    exact h.elim
  case assign =>
    intro lp s W K hK
    rw [show ∀ (t : Array Value) (i : Nat) (v : Value), Array.foldl (fun t (x : Tmp × Value) => t.setIfInBounds x.fst x.snd) t (#[i].zip #[v]) = t.setIfInBounds i v from fun t i v => by simp [Array.zip]]
    clear hc9 hI9
    gi_wp2
    exact hK
  case body =>
    rintro lp pre O s bx W ⟨rfl, hI⟩ hpf hx hbo hbs hWs
    obtain ⟨⟨f0, f1⟩, t0, t1⟩ := HIny.out s (pre_mem' hpf)
    obtain ⟨fr, to_⟩ := s
    simp only at f0 f1 t0 t1 hx
    obtain ⟨p, rfl⟩ : ∃ p : Nat, fr = (p : Int) := ⟨fr.toNat, by omega⟩
    have hpk : p < k := by omega
    obtain ⟨⟨x0, x1⟩, xf⟩ := cells2 hx
    have hcB := hI.box.cell
    have cp1 : W.cell? ⟨G, p, none⟩ = some (.int .i64 (ptF pre (p : Int))) := by rw [hI.own.cellAt p (by omega)]; simp [intsV, ptL, hpk]
    have fp1 : W.frozen? ⟨G, p, none⟩ = false := World.ownsRow.frozenAt hI.own p
    have HIn : Hid (CmI w P G k (pre ++ [⟨(p : Int), to_⟩]) (W.setCell ⟨G, p, none⟩ (.int .i64 to_))) := Lib.hid ⟨by
      rw [← ptL_snoc, ← set_intsI]; exact (World.ownsRow.stored hI.own p (.int .i64 to_)).1, (Below.heap_setCell _ _ _ _ (show P ≠ G by omega)).trans hI.box, hI.below.setCell (p := ⟨G, p, none⟩) hGl.1 _⟩
    have i1 : (0 : Int) ≤ (p : Int) := by omega
    have i2 : (p : Int) < (k : Int) := by omega
    clear hI hpf hx hc9 hI9 f0 f1 t0 t1 hbo
    gi_wp2
    exact ⟨[G], ⟨rfl, HIn.out⟩, (KeptO.refl _ _).setCell (p := ⟨G, p, none⟩) (.inl (by simp)) _, fun i hi => .inl hi⟩
  case done =>
    rintro D O W hD hDO ⟨rfl, hI⟩ hK
    have HI1 := Lib.hid hI
    have HK1 := Lib.hid hK
    have hGW := hI.block
    have hDW : D < W.heap.size := (Array.getElem?_eq_some_iff.1 hK).1
    have hPW : P < W.heap.size := (Array.getElem?_eq_some_iff.1 hI.box).1
    have hDG : D ≠ G := fun e => hDO (by rw [e]; simp)
    clear hc9 hI9 hI hK HNy HNly HSepY hyl hk0 hDO
    gi_wp2_with (first
      | (refine ⟨(trivial : Fence.wide.fn 38), ?_⟩; gi_at_call 38; refine (callsIn_wide.2 (matched_any _ _ _ _ _)).mono ?_; rintro e w5 ⟨rfl, rfl⟩)
      | gi_in)
    obtain ⟨w8, hw8⟩ : ∃ w8, (((W.alloc (.cells #[.slice none 0 0] tSps)).alloc (.cells #[.slice Ax Nx cx] tChs)).alloc (.cells #[.int .i64 m] 3)) = w8 := ⟨_, rfl⟩
    obtain ⟨C, hC⟩ : ∃ C, C = W.heap.size := ⟨_, rfl⟩
    have hs4 : (W.alloc (.cells #[.slice none 0 0] tSps)).heap.size = C + 1 := by rw [hC]; simp
    have hb4 : Below W.heap.size W (W.alloc (.cells #[.slice none 0 0] tSps)) := (Below.refl _ _).alloc (Nat.le_refl _) _
    have hk8 : Below (C + 1) (W.alloc (.cells #[.slice none 0 0] tSps)) w8 := by rw [← hw8]; exact ((Below.refl _ _).alloc (by omega) _).alloc (by simp; omega) _
    have hb8 : Below C W w8 := by rw [hC]; exact hb4.trans (hk8.mono (by omega))
    have hs8 : w8.heap.size = C + 3 := by rw [← hw8, hC]; simp
    have hbx8 : BoxS w8 C tSps (C + 3) [] [C] := ⟨⟨.slice none 0 0, (hk8.block C (by omega)).trans (by rw [hC]; exact heap_new W _), OwnS.nil _ _, rfl, fun _ => rfl⟩, by omega⟩
    have hww := HI1.out.below.size
    have hc8 : Cap w8 (C + 1) Ax Nx cx x m := by
      have := cap_new ((HX.out W HI1.out.below).below hb4) m
      rw [hs4] at this
      rw [← hw8]
      exact this
    have HSepX := Lib.hid (show ∀ i, (i = C ∨ C + 3 ≤ i) → Sep (C + 1) Ax Nx i from fun i hi => ⟨by omega, by omega, fun hp a ha => by
      obtain ⟨b, off, e, c0, _⟩ := RdC_at (HX.out w (Below.refl _ _)) 0 (by rw [HNlx.out]; exact hp)
      rw [e] at ha
      cases ha
      have := Tx.cell_lt c0
      show i ≠ b
      omega⟩)
    have HI8 : Hid (CmI w P G k (mtF (k : Int) 0 0 y) w8) := Lib.hid (HI1.out.to (hb8.block _ (by omega)) (hb8.block _ (by omega)) (hb8.mono (by omega)))
    have HK8 : Hid (w8.heap[D]? = some (.deferred (some []))) := Lib.hid ((hb8.block _ (by omega)).trans HK1.out)
    have HRow := Lib.hid (fun s => rowF_pt HPy.out s)
    have hDC : D < C := by omega
    have hGC : G < C := by omega
    have hPC : P < C := by omega
    have hwC : w.heap.size ≤ C := by omega
    generalize hq : mtF (k : Int) 0 0 y = q at *
    rw [hw8, ← hC]
    clear hw8 hb4 hk8 hb8 hs4 hC hww HI1 HK1 hGW hDW hPW hq
    refine range_mat 5 (by omega) (C + 1) Ax Nx cx x m HNlx.out hxl HNx.out hm1 (by rfl) rfl hc8
      (fun pre O V => BoxS V C tSps (C + 3) (cmpF pre q) O ∧ Below C w8 V) (fun _ _ _ => False)
      (fun pre O V V' h he => ?hI2) (fun pre O V h i hi => ⟨h.1.lts i hi, HSepX.out i (h.1.all i hi)⟩) (fun _ _ _ _ _ h => h.elim) [C] ⟨hbx8, Below.refl _ _⟩
      (fun s bx => { tmps := #[.slice Ax Nx cx, .slice Ay Ny cy, .int .i64 m, .int .i64 (k : Int), .int .i64 n, undef, undef, undef, undef, undef, .slice none 0 0, .int .i64 0, .int .i64 0, .int .i64 0, .pointer (some ⟨P, 0, none⟩), undef, .pointer (some ⟨C, 0, none⟩), .pointer (some ⟨bx, 0, none⟩), undef, .slice Ax Nx cx, .int .i64 m, .int .i64 (k : Int), .int .i64 0, .int .i64 0, .bool false, undef, .slice Ay Ny cy, .int .i64 (k : Int), .int .i64 n, .int .i64 0, .int .i64 0, .bool false, undef, .slice (some ⟨w2.heap.size, 0, none⟩) 1 1, .int .i64 (k : Int), .slice (some ⟨G, 0, none⟩) k k, .slice Ay Ny cy, .int .i64 (k : Int), matV (P + 1), undef, undef, undef, undef, undef, undef, undef, .slice Ax Nx cx, .int .i64 m, matV (C + 1), spV s, undef, undef, undef, undef, undef, undef, undef, undef, undef, undef, undef, undef, undef, undef, undef, undef, undef, undef, undef, undef], defers := [] }) ?assign2 ?body2 ?done2 ?stop2
    case hI2 =>
      exact ⟨h.1.eff he, h.2.trans ⟨he.os, he.tape, he.output, he.size, fun i hi => he.block i (.inl (by omega))⟩⟩
    case stop2 =>
      rintro D c pre W _ _ _ h _
      exact h.elim
    case assign2 =>
      intro lp s W K hK
      rw [show ∀ (t : Array Value) (i : Nat) (v : Value), Array.foldl (fun t (x : Tmp × Value) => t.setIfInBounds x.fst x.snd) t (#[i].zip #[v]) = t.setIfInBounds i v from fun t i v => by simp [Array.zip]]
      clear hc8 hbx8
      gi_wp2
      exact hK
    case body2 =>
      rintro lp pre O s bx V ⟨hbx, hbl⟩ hpf hx hbo hbs hWs
      obtain ⟨⟨f0, f1⟩, t0, t1⟩ := HInx.out s (pre_mem' hpf)
      have hln : (cmpF pre q).length + 1 ≤ 1000000 := by
        have h1 := hpf.length_le
        rw [List.length_append, List.length_singleton] at h1
        have h2 := HLx.out pre
        omega
      have HSn := Lib.hid (cmp_snoc pre q s)
      have HRs := Lib.hid (HRow.out s)
      obtain ⟨fr, to_⟩ := s
      simp only at f0 f1 t0 t1 hx HRs
      obtain ⟨p, rfl⟩ : ∃ p : Nat, to_ = (p : Int) := ⟨to_.toNat, by omega⟩
      have hpk : p < k := by omega
      obtain ⟨⟨x0, x1⟩, xf⟩ := cells2 hx
      have hIV : CmI w P G k q V := HI8.out.to (hbl.block P (by omega)) (hbl.block G (by omega)) (hbl.mono (by omega))
      have hcB := hIV.box.cell
      have cp1 : V.cell? ⟨G, p, none⟩ = some (.int .i64 (ptF q (p : Int))) := by rw [hIV.own.cellAt p (by omega)]; simp [intsV, ptL, hpk]
      have i1 : (0 : Int) ≤ (p : Int) := by omega
      have i2 : (p : Int) < (k : Int) := by omega
      generalize ptF q (p : Int) = t at *
      clear hIV hpf hx hc8 hbx8 f0 f1 t0 t1 hbo
      by_cases ht : t = -1
      · have q1 : (t != -1) = false := by rw [bne_eq_false_iff_eq]; exact ht
        have HEn : Hid (cmpF (pre ++ [⟨fr, (p : Int)⟩]) q = cmpF pre q) := Lib.hid (by rw [HSn.out, HRs.out, if_pos ht, List.append_nil])
        have HBx := Lib.hid hbx
        have HBl := Lib.hid hbl
        clear hbx hbl ht
        gi_wp2
        exact ⟨O, ⟨by rw [HEn.out]; exact HBx.out, HBl.out⟩, KeptO.refl _ _, fun i hi => .inl hi⟩
      · have q1 : (t != -1) = true := by rw [bne_iff_ne]; exact ht
        have HEn : Hid (cmpF (pre ++ [⟨fr, (p : Int)⟩]) q = cmpF pre q ++ [⟨fr, t⟩]) := Lib.hid (by rw [HSn.out, HRs.out, if_neg ht])
        obtain ⟨⟨v, hv, hown, rfl, hnil⟩, hlt⟩ := hbx
        have hc := hv.cell
        have hf := hv.frozen
        have Hv := Lib.hid hv
        have Ho := Lib.hid hown
        have Hbl := Lib.hid hbl
        have hCW : C + 3 ≤ V.heap.size := by omega
        obtain ⟨A2, c2, rfl⟩ := hown.rd.form
        generalize cmpF pre q = dn at *
        clear hv hown hbl hnil ht
        gi_wp2_with (first
          | (gi_at_builtin; refine appI_sp rfl (.tmp 57) (.tmp 62) rfl (C + 3) dn ⟨fr, t⟩ _ _ rfl Ho.out rfl rfl rfl hln hCW ?_; intro v' w1 hown' hgrow hat; obtain ⟨hv1, hB1, hK1, hO1⟩ := BoxS.step (x := ⟨fr, t⟩) hlt Hv.out Ho.out hown' hgrow hat; have hc1 := hv1.cell; have hf1 := hv1.frozen; obtain ⟨g', c', hv'⟩ := hown'.form; rw [List.length_append, List.length_singleton] at hv'; subst hv'; have HB1 := Lib.hid hB1; have HK1 := Lib.hid hK1; have HO1 := Lib.hid hO1; have HBe := Lib.hid (Hbl.out.trans (hK1.below (n := C) (by omega) (fun i hi => by rcases List.mem_cons.1 hi with h | h; omega; have := Ho.out.own i (by simpa using h); omega))); clear hv1 hB1 hK1 hO1 hown' hgrow hat)
          | gi_in)
        exact ⟨_, ⟨by rw [HEn.out]; exact HB1.out, HBe.out⟩, HK1.out, HO1.out⟩
    case done2 =>
      rintro D2 O V hD2 hDO ⟨hbx, hbl⟩ hK2
      obtain ⟨⟨v, hv, hown, rfl, hnil⟩, hlt⟩ := hbx
      have hc1 := hv.cell
      have HR := Lib.hid (HFr.out _ _ hown.rd)
      have HBl := Lib.hid hbl
      have HD2 := Lib.hid hK2
      have hVs := hbl.size
      have hDV : D2 < V.heap.size := (Array.getElem?_eq_some_iff.1 hK2).1
      have HD1 : Hid (V.heap[D]? = some (.deferred (some []))) := Lib.hid ((hbl.block _ (by omega)).trans HK8.out)
      obtain ⟨A2, c2, rfl⟩ := hown.rd.form
      clear hv hown hbl hc8 hbx8 hnil hK2 HFr HRow
      gi_wp2_with (first
        | (refine ⟨(trivial : Fence.wide.fn 18), ?_⟩; gi_at_call 18; refine (callsIn_wide.2 HR.out).mono ?_; rintro e w7 ⟨v7, rfl, ho7, hb7⟩; have HO7 := Lib.hid ho7; have HB7 := Lib.hid hb7; clear ho7 hb7)
        | gi_in)
      have k2 : w7.heap[D2]? = some (.deferred (some [])) := (HB7.out.block _ hDV).trans HD2.out
      have k1 : (w7.putObj D2 (.deferred none)).heap[D]? = some (.deferred (some [])) := (World.putObj_heap_other (by omega)).trans ((HB7.out.block _ (by omega)).trans HD1.out)
      have h7s := HB7.out.size
      refine ⟨by simp, .inl ⟨_, _, rfl, run_takeDeferred k2, ?_⟩⟩
      refine ⟨by simp, .inl ⟨_, _, rfl, run_takeDeferred k1, ?_⟩⟩
      refine ⟨_, (by simp [results, Try.f24, go_sem]), v7, rfl, ?_, ?_⟩
      · refine own_base (own_same HO7.out (fun b hb => ?_)) (by omega)
        have := own_ge HO7.out b hb
        exact (World.putObj_heap_other (by omega)).trans (World.putObj_heap_other (by omega))
      · have h1 := HI8.out.below.trans (HBl.out.mono hwC)
        have h2 := h1.trans (HB7.out.mono (by omega))
        exact (h2.trans (below_put (by omega) _)).trans (below_put (by omega) _)
set_option maxRecDepth 100000 in
set_option maxHeartbeats 4000000 in
theorem Compose_any (vx vy : Value) (x y : List Ch) (m k n : Int) (w : World) (hx : RdC w vx x) (hxl : x.length ≤ 1000000) (hxb : ∀ c ∈ x, ChB c) (hy : RdC w vy y) (hyl : y.length ≤ 1000000) (hyb : ∀ c ∈ y, ChB c) :
    Calls Try.prog 24 #[vx, vy, .int .i64 m, .int .i64 k, .int .i64 n] w (CmPost x y m k n w) := by
  by_cases h1 : chkF x m k = 0
  · by_cases h2 : chkF y k n = 0
    · obtain ⟨hm, hk, okx⟩ := chkF_zero' h1
      obtain ⟨_, hn, oky⟩ := chkF_zero' h2
      obtain ⟨kk, rfl⟩ : ∃ kk : Nat, k = (kk : Int) := ⟨k.toNat, by have := hk.1; omega⟩
      have hE : cmE x y m kk n = 0 := by unfold cmE; rw [if_pos h1, h2]
      exact (Compose_ok vx vy x y m n kk w hx hxl hxb hy hyl hyb hm hk hn okx oky).mono fun e w' ⟨v, a, b, c⟩ => ⟨v, by rw [hE, a], fun _ => b, fun h => absurd hE h, c⟩
    · have hE : cmE x y m k n = 80 := by
        unfold cmE
        rw [if_pos h1]
        exact chkF_no (fun hh => h2 (chkF_ok hh.1 hh.2.1 hh.2.2))
      have h3 : chkF y k n = 80 := chkF_no (fun hh => h2 (chkF_ok hh.1 hh.2.1 hh.2.2))
      obtain ⟨Ax, cx, rfl⟩ := hx.form
      obtain ⟨Ay, cy, rfl⟩ := hy.form
      have HCx := Lib.hid (Check_any _ x m k w hx (by omega) hxb)
      have HCy := Lib.hid (fun wq (hq : Below w.heap.size w wq) => Check_any _ y k n wq (hy.below hq) (by omega) hyb)
      unfold CkPost at HCx HCy
      unfold CmPost
      rw [hE]
      rw [h1] at HCx
      rw [h3] at HCy
      clear hx hy hxb hyb h1 h2 h3 hE
      generalize x.length = Nx at *
      generalize y.length = Ny at *
      refine (callsIn_wide (n := 5)).1 ?_
      refine callsIn_of_wp_marks Try.func24 rfl trivial ?_ rfl
      simp only [Try.ntmps24, List.size_toArray, List.length_cons, List.length_nil, Nat.reduceAdd, Nat.reduceSub, Array.replicate_succ, Array.replicate_zero, List.push_toArray, List.append_toArray, List.nil_append, List.cons_append]
      gi_wp2_with (first
        | (refine ⟨(trivial : Fence.wide.fn 14), ?_⟩; gi_at_call 14; refine (callsIn_wide.2 HCx.out).mono ?_; rintro e w1 ⟨rfl, hb1⟩; have HB1 := Lib.hid hb1; clear hb1 HCx)
        | (refine ⟨(trivial : Fence.wide.fn 14), ?_⟩; gi_at_call 14; refine (callsIn_wide.2 (HCy.out _ HB1.out)).mono ?_; rintro e w2 ⟨rfl, hb2⟩; have HB2 := Lib.hid (HB1.out.trans (hb2.mono HB1.out.size)); clear hb2 HCy HB1)
        | gi_in)
      refine ⟨_, (by simp [results, Try.f24, go_sem]), _, rfl, fun h => absurd h (by decide), fun _ => rfl, HB2.out⟩
  · have hE : cmE x y m k n = 80 := by
      unfold cmE
      rw [if_neg h1]
      exact chkF_no (fun hh => h1 (chkF_ok hh.1 hh.2.1 hh.2.2))
    have h3 : chkF x m k = 80 := chkF_no (fun hh => h1 (chkF_ok hh.1 hh.2.1 hh.2.2))
    obtain ⟨Ax, cx, rfl⟩ := hx.form
    obtain ⟨Ay, cy, rfl⟩ := hy.form
    have HCx := Lib.hid (Check_any _ x m k w hx (by omega) hxb)
    unfold CkPost at HCx
    unfold CmPost
    rw [hE]
    rw [h3] at HCx
    clear hx hy hxb hyb h1 h3 hE
    generalize x.length = Nx at *
    generalize y.length = Ny at *
    refine (callsIn_wide (n := 5)).1 ?_
    refine callsIn_of_wp_marks Try.func24 rfl trivial ?_ rfl
    simp only [Try.ntmps24, List.size_toArray, List.length_cons, List.length_nil, Nat.reduceAdd, Nat.reduceSub, Array.replicate_succ, Array.replicate_zero, List.push_toArray, List.append_toArray, List.nil_append, List.cons_append]
    gi_wp2_with (first
      | (refine ⟨(trivial : Fence.wide.fn 14), ?_⟩; gi_at_call 14; refine (callsIn_wide.2 HCx.out).mono ?_; rintro e w1 ⟨rfl, hb1⟩; have HB1 := Lib.hid hb1; clear hb1 HCx)
      | gi_in)
    refine ⟨_, (by simp [results, Try.f24, go_sem]), _, rfl, fun h => absurd h (by decide), fun _ => rfl, HB1.out⟩
end Sc
end Go.Proofs.Ytfbpdidnlbffhaa

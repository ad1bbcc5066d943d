/-
  The program's Parse: it makes what the document says (parseF); its deferred function catches the panics. Conditions: a class does what the document says; the library's variable holds a number.
-/
import Derived.Test.YthoidaaldngpmaaRegexPsI
import Derived.Defers
import Derived.Recover
namespace Go.Proofs.Ythoidaaldngpmaa
open Go.RowKit
namespace Px
open Cm Rx
set_option maxRecDepth 100000 in
set_option maxHeartbeats 2000000 in
theorem catch_panicking (pn pe : Nat) (c : Int) (older : List PanicEntry) (w : World) (x y : Value) (hne : pn ≠ pe) (h0 : w.cell? ⟨pn, 0, none⟩ = some x) (h1 : w.cell? ⟨pe, 0, none⟩ = some y) (z0 : w.frozen? ⟨pn, 0, none⟩ = false) (z1 : w.frozen? ⟨pe, 0, none⟩ = false) :
    CallsD Try.prog 50 #[.pointer (some ⟨pn, 0, none⟩), .pointer (some ⟨pe, 0, none⟩)] (.panicking ({ v := .iface 24 (.int .i64 c), recovered := false } :: older)) w fun e u' w' =>
      e = .returned (.tuple #[]) ∧ u' = .panicking ({ v := .iface 24 (.int .i64 c), recovered := true } :: older) ∧ w' = ((w.setCell ⟨pn, 0, none⟩ (.slice none 0 0)).setCell ⟨pe, 0, none⟩ (.int .i64 40)).setCell ⟨pe, 0, none⟩ (.int .i64 c) := by
  have hta : ∀ w, (Instr.typeAssert (Value.iface 24 (.int .i64 c)) 20 24 true).run Try.prog w = .ok (.tuple #[.int .i64 c, .bool true]) w := fun w => rfl
  refine callsD_of_wpS Try.func50 rfl fun c₀ cs hu => ?_
  rw [show (#[Value.pointer (some ⟨pn, 0, none⟩), Value.pointer (some ⟨pe, 0, none⟩)] ++ Array.replicate (Try.f50.ntmps - #[Value.pointer (some ⟨pn, 0, none⟩), Value.pointer (some ⟨pe, 0, none⟩)].size) undef : Array Value) = #[.pointer (some ⟨pn, 0, none⟩), .pointer (some ⟨pe, 0, none⟩), undef, undef, undef, undef, undef, undef, undef, undef, undef, undef, undef, undef, undef] from by rfl]
  apply wpS_seq
  apply wpS_region
  simp [wpOpsS, go_sem, recoverD, hu, Exit.thenS]
  refine wpS_of_wp ?_
  go_wp2_with fail
  cases c₀
  simp_all [bodyPostS, results, Try.results50]
theorem catch_idle (pn pe : Nat) (w : World) :
    CallsD Try.prog 50 #[.pointer (some ⟨pn, 0, none⟩), .pointer (some ⟨pe, 0, none⟩)] .returning w fun e u' w' => e = .returned (.tuple #[]) ∧ u' = .returning ∧ w' = w := by
  refine callsD_of_wpS Try.func50 rfl fun c₀ cs hu => ?_
  rw [show (#[Value.pointer (some ⟨pn, 0, none⟩), Value.pointer (some ⟨pe, 0, none⟩)] ++ Array.replicate (Try.f50.ntmps - #[Value.pointer (some ⟨pn, 0, none⟩), Value.pointer (some ⟨pe, 0, none⟩)].size) undef : Array Value) = #[.pointer (some ⟨pn, 0, none⟩), .pointer (some ⟨pe, 0, none⟩), undef, undef, undef, undef, undef, undef, undef, undef, undef, undef, undef, undef, undef] from by rfl]
  apply wpS_seq
  apply wpS_region
  simp [wpOpsS, go_sem, recoverD, hu, Exit.thenS]
  refine wpS_of_wp ?_
  go_wp2_with fail
  cases c₀
  simp_all [bodyPostS, results, Try.results50]
theorem group_ok (s : ByteArray) (hs : s.size ≤ 100000) (hC : ClassP s) (g : Nat) : ∀ D : Int, D = 49 - (g : Int) → 0 ≤ D → POk s D (some (groupF (Tx.bs s) g)) := by
  induction g with
  | zero =>
    intro D hD h0
    exact ⟨by omega, fun w base rb at_ ns ks hG h1 h2 h3 => pat_any (p := none) h1 hG hs h2 (show POk s (D + 1) none from by show D + 1 = 50; omega) (fun f e => by cases e) hC h3, group_adv 0⟩
  | succ g ih =>
    intro D hD h0
    exact ⟨by omega, fun w base rb at_ ns ks hG h1 h2 h3 => pat_any (p := some (groupF (Tx.bs s) g)) h1 hG hs h2 (ih (D + 1) (by omega) (by omega)) (fun f e => by injection e with e; subst e; exact group_adv g) hC h3, group_adv (g + 1)⟩
/-- What Parse hands back. -/
def ParseP (w : World) (r : Except Int (List Nd)) (e : Ending) (w' : World) : Prop :=
  match r with
  | .error c => e = .returned (.tuple #[.slice none 0 0, .int .i64 c]) ∧ Below w.heap.size w w'
  | .ok ns => ∃ v ks, e = .returned (.tuple #[v, .int .i64 0]) ∧ OwnN w' w.heap.size v ns ks ∧ Below w.heap.size w w'
abbrev tEn : TypeId := 24
abbrev tNs : TypeId := 23
/-- The two results that the deferred function reaches. -/
theorem res_two (tmps : Array Value) (W : World) (H : Nat) (x y : Value) (h2 : tmps.getD 2 undef = .pointer (some ⟨H, 0, none⟩)) (h3 : tmps.getD 3 undef = .pointer (some ⟨H + 1, 0, none⟩)) (hx : W.cell? ⟨H, 0, none⟩ = some x) (hy : W.cell? ⟨H + 1, 0, none⟩ = some y) :
    (results Try.f14 tmps).run Try.prog W = .ok (.tuple #[x, y]) W := by
  have h2' : tmps[2]?.getD undef = .pointer (some ⟨H, 0, none⟩) := by simpa using h2
  have h3' : tmps[3]?.getD undef = .pointer (some ⟨H + 1, 0, none⟩) := by simpa using h3
  simp [results, Try.results14, h2', h3', go_sem, hx, hy]
/-- The world of the call when the parser begins. -/
def Wp (w : World) (s : ByteArray) : World := ((w.alloc (.cells #[.slice none 0 0] tNs)).alloc (.cells #[.int .i64 0] tEn)).alloc (.cells #[.string s, .int .i64 0, .int .i64 0, .slice none 0 0] tPs)
theorem Wp_facts (w : World) (s : ByteArray) : Prs (Wp w s) (w.heap.size + 1 + 1) (w.heap.size + 1 + 1) s ((0 : Nat) : Int) 0 [] [] ∧ Below w.heap.size w (Wp w s) ∧ (Wp w s).heap[w.heap.size]? = some (.cells #[.slice none 0 0] tNs (0, 0)) ∧ (Wp w s).heap[w.heap.size + 1]? = some (.cells #[.int .i64 0] tEn (0, 0)) := by
  unfold Wp
  refine ⟨⟨.slice none 0 0, Nat.le_refl _, heap_alloc3 _ _ _ _, rfl, World.ownsRow_nil _ _ _ _, fun j h => absurd h (Nat.not_lt_zero _)⟩, (((Below.refl _ _).alloc (Nat.le_refl _) _).alloc (by simp) _).alloc (by simp; omega) _, ?_, ?_⟩
  · rw [Below.heap_alloc _ _ _ (by simp; omega), Below.heap_alloc _ _ _ (by simp)]
    exact heap_new w _
  · rw [Below.heap_alloc _ _ _ (by simp)]
    have h := heap_new (w.alloc (.cells #[.slice none 0 0] tNs)) (.cells #[.int .i64 0] tEn)
    rwa [show (w.alloc (.cells #[.slice none 0 0] tNs)).heap.size = w.heap.size + 1 from by simp] at h
/-- A panic with one of the document's errors, caught. -/
theorem leave_panic (w W : World) (s : ByteArray) (c : Int) (tmps : Array Value) (h2 : tmps.getD 2 undef = .pointer (some ⟨w.heap.size, 0, none⟩)) (h3 : tmps.getD 3 undef = .pointer (some ⟨w.heap.size + 1, 0, none⟩)) (hB : Below (w.heap.size + 1 + 1) (Wp w s) W) :
    Leaves Try.prog Try.f14 tmps (ParseP w (.error c)) [{ target := .fn (.func 50) #[.pointer (some ⟨w.heap.size, 0, none⟩), .pointer (some ⟨w.heap.size + 1, 0, none⟩)], args := #[] }] (.panicking [{ v := .iface tEn (.int .i64 c), recovered := false }]) W := by
  obtain ⟨_, f2, f3, f4⟩ := Wp_facts w s
  have g3 : W.heap[w.heap.size]? = some (.cells #[.slice none 0 0] tNs (0, 0)) := (hB.block _ (by omega)).trans f3
  have g4 : W.heap[w.heap.size + 1]? = some (.cells #[.int .i64 0] tEn (0, 0)) := (hB.block _ (by omega)).trans f4
  refine leaves_cons (f := 50) (args := #[.pointer (some ⟨w.heap.size, 0, none⟩), .pointer (some ⟨w.heap.size + 1, 0, none⟩)]) (by simp) (by simp [go_sem]) ?_
  refine (catch_panicking w.heap.size (w.heap.size + 1) c [] W (.slice none 0 0) (.int .i64 0) (by omega) (by simp [World.cell?, g3]) (by simp [World.cell?, g4]) (by simp [World.frozen?, g3]) (by simp [World.frozen?, g4])).mono ?_
  rintro e u' w'' ⟨rfl, rfl, rfl⟩
  refine ⟨.tuple #[.slice none 0 0, .int .i64 c], res_two _ _ _ _ _ h2 h3 ?_ ?_, rfl, ?_⟩
  · rw [World.cell?_setCell_other _ _ _ _ (by simp), World.cell?_setCell_other _ _ _ _ (by simp)]
    simp [World.cell?, set_block g3]
  · simp [World.cell?, set_block (set_block (show (W.setCell ⟨w.heap.size, 0, none⟩ (.slice none 0 0)).heap[w.heap.size + 1]? = _ from (Below.heap_setCell _ _ _ _ (by simp)).trans g4))]
  · exact (((f2.trans (hB.mono (by omega))).setCell (p := ⟨w.heap.size, 0, none⟩) (Nat.le_refl _) _).setCell (p := ⟨w.heap.size + 1, 0, none⟩) (by show w.heap.size ≤ w.heap.size + 1; omega) _).setCell (p := ⟨w.heap.size + 1, 0, none⟩) (by show w.heap.size ≤ w.heap.size + 1; omega) _
set_option maxRecDepth 100000 in
set_option maxHeartbeats 4000000 in
theorem Parse_long (s : ByteArray) (w : World) (h : 256 < s.size) : Calls Try.prog 14 #[.string s] w (ParseP w (parseG (Tx.bs s))) := by
  have HA : Hid (parseG (Tx.bs s) = .error 1) := Lib.hid (by unfold parseG; rw [if_pos (by rw [Tx.bs_len]; omega)])
  have h2 : (256 : Int) < (s.size : Int) := by omega
  go_enter_defers Try.func14, Try.ntmps14
  go_wp2_with fail
  refine ⟨.tuple #[.slice none 0 0, .int .i64 1], res_two _ _ w.heap.size _ _ rfl rfl ?_ ?_, ?_⟩
  · simp [go_sem]
  · simp [go_sem]
  rw [HA.out]
  exact ⟨rfl, ((Below.refl _ _).alloc (Nat.le_refl _) _).alloc (by simp) _⟩
theorem own_baseZ {w : World} {B B' z n : Nat} {t : TypeId} {v : Value} {xs : List Value} (h : w.ownsRow B t z v n xs) (hb : B' ≤ B) : w.ownsRow B' t z v n xs := by
  refine ⟨h.1, ?_⟩
  rcases h.2 with hn | ⟨g, cap, cur, hv, hbg, rest⟩
  · exact .inl hn
  · exact .inr ⟨g, cap, cur, hv, Nat.le_trans hb hbg, rest⟩
theorem OwnN_base {w : World} {B B' : Nat} {v : Value} {ns : List Nd} {ks : List Value} (h : OwnN w B v ns ks) (hb : B' ≤ B) : OwnN w B' v ns ks :=
  ⟨h.1, own_baseZ h.2.1 hb, fun j c1 c2 => own_baseZ (h.2.2 j c1 c2) hb⟩
/-- The nodes stay while the results' blocks are written. -/
theorem OwnN_stay {w w' : World} {B : Nat} {v : Value} {ns : List Nd} {ks : List Value} (h : OwnN w B v ns ks) (hs : ∀ k, B ≤ k → w'.heap[k]? = w.heap[k]?) : OwnN w' B v ns ks := by
  have hk : ∀ (e : TypeId) (size n : Nat) (x : Value) (xs : List Value), w.ownsRow B e size x n xs → w'.ownsRow B e size x n xs := fun e size n x xs hx => by
    refine ⟨hx.1, ?_⟩
    rcases hx.2 with hn | ⟨g, cap, cur, hv, hbg, hh, r⟩
    · exact .inl hn
    · exact .inr ⟨g, cap, cur, hv, hbg, (hs g hbg).trans hh, r⟩
  exact ⟨h.1, hk _ _ _ _ _ h.2.1, fun j c1 c2 => hk _ _ _ _ _ (h.2.2 j c1 c2)⟩
/-- The good end. -/
theorem leave_ok (w W : World) (s : ByteArray) (_a : Nat) (ns : List Nd) (v : Value) (ks : List Value) (tmps : Array Value) (h2 : tmps.getD 2 undef = .pointer (some ⟨w.heap.size, 0, none⟩)) (h3 : tmps.getD 3 undef = .pointer (some ⟨w.heap.size + 1, 0, none⟩)) (hB : Below (w.heap.size + 1 + 1) (Wp w s) W) (hn : OwnN W (w.heap.size + 1 + 1) v ns ks) :
    Leaves Try.prog Try.f14 tmps (ParseP w (.ok ns)) [{ target := .fn (.func 50) #[.pointer (some ⟨w.heap.size, 0, none⟩), .pointer (some ⟨w.heap.size + 1, 0, none⟩)], args := #[] }] .returning ((W.setCell ⟨w.heap.size, 0, none⟩ v).setCell ⟨w.heap.size + 1, 0, none⟩ (.int .i64 0)) := by
  obtain ⟨_, f2, f3, f4⟩ := Wp_facts w s
  have g3 : W.heap[w.heap.size]? = some (.cells #[.slice none 0 0] tNs (0, 0)) := (hB.block _ (by omega)).trans f3
  have g4 : W.heap[w.heap.size + 1]? = some (.cells #[.int .i64 0] tEn (0, 0)) := (hB.block _ (by omega)).trans f4
  refine leaves_cons (f := 50) (args := #[.pointer (some ⟨w.heap.size, 0, none⟩), .pointer (some ⟨w.heap.size + 1, 0, none⟩)]) (by simp) (by simp [go_sem]) ?_
  refine (catch_idle w.heap.size (w.heap.size + 1) _).mono ?_
  rintro e u' w'' ⟨rfl, rfl, rfl⟩
  refine ⟨.tuple #[v, .int .i64 0], res_two _ _ _ _ _ h2 h3 ?_ ?_, v, ks, rfl, OwnN_base (OwnN_stay hn fun k hk => ?_) (by omega), ?_⟩
  · rw [World.cell?_setCell_other _ _ _ _ (by simp)]
    simp [World.cell?, set_block g3]
  · simp [World.cell?, set_block (show (W.setCell ⟨w.heap.size, 0, none⟩ v).heap[w.heap.size + 1]? = _ from (Below.heap_setCell _ _ _ _ (by simp)).trans g4)]
  · rw [Below.heap_setCell _ _ _ _ (by show k ≠ w.heap.size + 1; omega), Below.heap_setCell _ _ _ _ (by show k ≠ w.heap.size; omega)]
  · exact ((f2.trans (hB.mono (by omega))).setCell (p := ⟨w.heap.size, 0, none⟩) (Nat.le_refl _) _).setCell (p := ⟨w.heap.size + 1, 0, none⟩) (by show w.heap.size ≤ w.heap.size + 1; omega) _
set_option maxRecDepth 100000 in
set_option maxHeartbeats 4000000 in
theorem Parse_short (s : ByteArray) (w : World) (h : s.size ≤ 256) (hG : Glb w.heap.size w) (hC : ClassP s) : Calls Try.prog 14 #[.string s] w (ParseP w (parseG (Tx.bs s))) := by
  have h2 : ¬ (256 : Int) < (s.size : Int) := by omega
  have hmf : ∀ (fn : Fn) (first cap : Array Value) (w : World), (Instr.makeFunc fn first cap).run Try.prog w = .ok (.func fn first cap) w := fun _ _ _ _ => rfl
  have HT : Hid (parseG (Tx.bs s) = match patF (Tx.bs s) (some (groupF (Tx.bs s) 49)) true 0 [] with | .error e => .error e | .ok (_, a, ns) => if a < s.size then .error 40 else .ok ns) := Lib.hid (by
    unfold parseG
    rw [if_neg (by rw [Tx.bs_len]; omega), Tx.bs_len]
    generalize patF (Tx.bs s) (some (groupF (Tx.bs s) 49)) true 0 [] = q
    rcases q with _ | ⟨_, _, _⟩ <;> rfl)
  obtain ⟨f1, f2, f3, f4⟩ := Wp_facts w s
  have hG2 : Glb (w.heap.size + 1 + 1) (Wp w s) := ⟨by omega, (hG.below f2).2⟩
  have HP : Hid (Calls Try.prog 51 #[.pointer (some ⟨w.heap.size + 1 + 1, 0, none⟩)] (Wp w s) (PPost (Wp w s) (w.heap.size + 1 + 1) (w.heap.size + 1 + 1) s 0 [] (patF (Tx.bs s) (some (groupF (Tx.bs s) 49)) true 0 []))) := Lib.hid
    (pat_any f1 hG2 (by omega) (Nat.zero_le _) (group_ok s (by omega) hC 49 0 (by decide) (by decide)) (fun f e => by injection e with e; subst e; exact group_adv 49) hC (by simp; omega))
  have HC3 : Hid (∀ (W : World), Below (w.heap.size + 1 + 1) (Wp w s) W → (W.cell? ⟨w.heap.size, 0, none⟩ = some (.slice none 0 0) ∧ W.cell? ⟨w.heap.size + 1, 0, none⟩ = some (.int .i64 0)) ∧ W.frozen? ⟨w.heap.size, 0, none⟩ = false ∧ W.frozen? ⟨w.heap.size + 1, 0, none⟩ = false) := Lib.hid (fun W hB => by
    have g3 : W.heap[w.heap.size]? = some (.cells #[.slice none 0 0] tNs (0, 0)) := (hB.block _ (by omega)).trans f3
    have g4 : W.heap[w.heap.size + 1]? = some (.cells #[.int .i64 0] tEn (0, 0)) := (hB.block _ (by omega)).trans f4
    exact ⟨⟨by simp [World.cell?, g3], by simp [World.cell?, g4]⟩, by simp [World.frozen?, g3], by simp [World.frozen?, g4]⟩)
  clear f1 f2 f3 f4 hG2 hG hC
  cases hr : patF (Tx.bs s) (some (groupF (Tx.bs s) 49)) true 0 [] with
  | error c =>
    rw [hr] at HP HT
    have HA : Hid (parseG (Tx.bs s) = .error c) := Lib.hid (by rw [HT.out])
    clear hr
    go_enter_defers Try.func14, Try.ntmps14
    go_wp2_with fail
    refine HP.out.mono ?_
    rintro e w2 ⟨rfl, hB⟩
    rw [HA.out]
    exact leave_panic w w2 s c _ rfl rfl hB
  | ok y =>
    obtain ⟨k, a, ns2⟩ := y
    rw [hr] at HP HT
    by_cases hlt : a < s.size
    · have HA : Hid (parseG (Tx.bs s) = .error 40) := Lib.hid (by rw [HT.out]; simp only; rw [if_pos hlt])
      have k1 : (a : Int) < (s.size : Int) := by omega
      clear hr
      go_enter_defers Try.func14, Try.ntmps14
      go_wp2_with fail
      refine HP.out.mono ?_
      rintro e w2 ⟨rfl, ks3, S2, L2⟩
      have HB := Lib.hid S2.2.1
      obtain ⟨c0, c1, c2, hf⟩ := S2.cells
      clear S2 L2 hf
      go_wp2_with fail
      rw [HA.out]
      exact leave_panic w w2 s 40 _ rfl rfl HB.out
    · have HA : Hid (parseG (Tx.bs s) = .ok ns2) := Lib.hid (by rw [HT.out]; simp only; rw [if_neg hlt])
      have d1 : decide ((a : Int) < (s.size : Int)) = false := by simp only [decide_eq_false_iff_not]; omega
      have d2 : decide (a < s.size) = false := by simp only [decide_eq_false_iff_not]; omega
      clear hr
      go_enter_defers Try.func14, Try.ntmps14
      go_wp2_with fail
      refine HP.out.mono ?_
      rintro e w2 ⟨rfl, ks3, S2, L2⟩
      have HB := Lib.hid S2.2.1
      obtain ⟨⟨v, hb, hh, hN⟩, _⟩ := S2
      obtain ⟨c0, c1, c2, c3, hf⟩ := prs_cells hh
      obtain ⟨⟨y0, y1⟩, z0, z1⟩ := HC3.out w2 HB.out
      obtain ⟨A, cc, rfl⟩ : ∃ A c, v = .slice A ns2.length c := by
        rcases hN.2.1.2 with ⟨rfl, h0⟩ | ⟨g, cap, cur, rfl, _⟩
        · exact ⟨none, 0, by rw [h0]⟩
        · exact ⟨_, cap, rfl⟩
      have HN := Lib.hid hN
      clear hh hf L2 hN hb
      go_wp2_with fail
      rw [HA.out]
      exact leave_ok w w2 s a ns2 _ _ _ rfl rfl HB.out HN.out
/-- Parse. -/
theorem Parse_any (s : ByteArray) (w : World) (hG : Glb w.heap.size w) (hC : s.size ≤ 256 → ClassP s) : Calls Try.prog 14 #[.string s] w (ParseP w (parseF (Tx.bs s))) := by
  rw [← parseG_eq]
  by_cases h : 256 < s.size
  · exact Parse_long s w h
  · exact Parse_short s w (by omega) hG (hC (by omega))
end Px
end Go.Proofs.Ythoidaaldngpmaa

/- Facts; each states its conditions. -/
import Derived.Test.YtjecfmbecgpbmaaGreatDoorScrSpoil
import Derived.Test.YtjecfmbecgpbmaaGreatDoorGScrIter
import Derived.Test.YtjecfmbecgpbmaaGreatDoorGTextBase
import Derived.StillTailTactics
import Derived.RegionTactic
import Derived.ChangeAlike
namespace Go.Proofs.YtjecfmbecgpbmaaGreatDoor
namespace Cm
end Cm
namespace Sc
end Sc
open Go.RowKit
namespace Sl
open Cm Sc
def ChPost (v : Value) (x y : Int) (ok : Bool) (w : World) (e : Ending) (w' : World) : Prop := e = .returned (.tuple #[v, .agg #[.int .i64 x, .int .i64 y], .bool ok]) ∧ Below w.heap.size w w'
set_option maxHeartbeats 1000000 in
theorem changed_rem (o ol nw nl : Int) (va vb : Value) (w : World) (h : nl = 0) (ho : 0 ≤ o ∧ o ≤ 8192) (hl : 0 ≤ ol ∧ ol ≤ 8192) :
 Calls Tryz.prog 151 #[.agg #[.int .i64 o, .int .i64 ol, .int .i64 nw, .int .i64 nl], va, vb] w (ChPost va o (o + ol) true w) := by
 subst h
 obtain ⟨o0, o1⟩ := ho
 obtain ⟨l0, l1⟩ := hl
 go_enter Tryz.func151, Tryz.ntmps151
 go_wp2_with fail
 go_region
 go_wp2_with fail
 exact bodyPost_ret (v := .tuple #[va, .agg #[.int .i64 o, .int .i64 (o + ol)], .bool true]) (by simp [results, Tryz.f151, go_sem]) rfl ⟨rfl, (((Below.refl _ _).alloc (Nat.le_refl _) _).alloc (by simp) _).drew⟩
set_option maxHeartbeats 1000000 in
theorem changed_add (o ol nw nl : Int) (va vb : Value) (w : World) (h : ol = 0) (hne : nl ≠ 0) (ho : 0 ≤ nw ∧ nw ≤ 8192) (hl : 0 ≤ nl ∧ nl ≤ 8192) :
 Calls Tryz.prog 151 #[.agg #[.int .i64 o, .int .i64 ol, .int .i64 nw, .int .i64 nl], va, vb] w (ChPost vb nw (nw + nl) true w) := by
 subst h
 have d1 : ((nl : Int) == 0) = false := by simpa using hne
 obtain ⟨o0, o1⟩ := ho
 obtain ⟨l0, l1⟩ := hl
 clear hne
 go_enter Tryz.func151, Tryz.ntmps151
 go_wp2_with fail
 go_region
 go_wp2_with fail
 exact bodyPost_ret (v := .tuple #[vb, .agg #[.int .i64 nw, .int .i64 (nw + nl)], .bool true]) (by simp [results, Tryz.f151, go_sem]) rfl ⟨rfl, (((Below.refl _ _).alloc (Nat.le_refl _) _).alloc (by simp) _).drew⟩
set_option maxHeartbeats 1000000 in
theorem changed_no (o ol nw nl : Int) (va vb : Value) (w : World) (h : ol ≠ 0) (hne : nl ≠ 0) :
 Calls Tryz.prog 151 #[.agg #[.int .i64 o, .int .i64 ol, .int .i64 nw, .int .i64 nl], va, vb] w (ChPost (.slice none 0 0) 0 0 false w) := by
 have d1 : ((nl : Int) == 0) = false := by simpa using hne
 have d2 : ((ol : Int) == 0) = false := by simpa using h
 clear hne h
 go_enter Tryz.func151, Tryz.ntmps151
 go_wp2_with fail
 exact bodyPost_ret (v := .tuple #[.slice none 0 0, .agg #[.int .i64 0, .int .i64 0], .bool false]) (by simp [results, Tryz.f151, go_sem]) rfl ⟨rfl, ((Below.refl _ _).alloc (Nat.le_refl _) _).alloc (by simp) _⟩
set_option maxHeartbeats 1000000 in
theorem move_any (g o : Nat) (x y d : Int) (w : World) (h0 : w.cell? ⟨g, o, none⟩ = some (.int .i64 x)) (h2 : w.cell? ⟨g, o + 2, none⟩ = some (.int .i64 y)) (hf : ∀ j, w.frozen? ⟨g, j, none⟩ = false) (hx : 0 ≤ x + d ∧ x + d ≤ 8192) (hy : 0 ≤ y + d ∧ y + d ≤ 8192) :
 Calls Tryz.prog 115 #[.pointer (some ⟨g, o, none⟩), .int .i64 d] w fun e w' => e = .returned (.tuple #[]) ∧ w' = (w.setCell ⟨g, o, none⟩ (.int .i64 (x + d))).setCell ⟨g, o + 2, none⟩ (.int .i64 (y + d)) := by
 obtain ⟨x0, x1⟩ := hx
 obtain ⟨y0, y1⟩ := hy
 have f0 := hf o
 have f2 := hf (o + 2)
 clear hf
 have e1 : IntKind.i64.wrap (x + d) = x + d := IntWalk.i64_in _ (by omega)
 have e2 : IntKind.i64.wrap (y + d) = y + d := IntWalk.i64_in _ (by omega)
 go_enter Tryz.func115, Tryz.ntmps115
 go_wp2_with fail
 go_end0
 exact ⟨rfl, rfl⟩
theorem prE_succ {l : List Ch} {k : Nat} (h : k < l.length) : prE l (k + 1) = l[k].old + l[k].oldLen + 1 := by
 simp only [prE, List.getD_eq_getElem?_getD, List.getElem?_eq_getElem h, Option.getD_some]
theorem topE_in {e : Int} {l : List Ch} {k : Nat} (h : k + 1 < l.length) : topE e (l.drop (k + 1)) = l[k + 1].old - 1 := by
 rw [List.drop_eq_getElem_cons h]
 rfl
theorem topE_out {e : Int} {l : List Ch} {k : Nat} (h : l.length ≤ k + 1) : topE e (l.drop (k + 1)) = e := by
 rw [List.drop_eq_nil_of_le h]
 rfl
def FrPost (x y : Int) (w : World) (e : Ending) (w' : World) : Prop := e = .returned (.tuple #[.int .i64 x, .int .i64 y]) ∧ ∃ q, w' = w.drewN q
set_option maxRecDepth 100000 in
set_option maxHeartbeats 4000000 in
theorem free_any (v : Value) (l : List Ch) (m : Int) (k : Nat) (w : World) (h : RdC w v l) (hl : l.length ≤ 1000000) (hk : k < l.length) (hb : ∀ c ∈ l, ChN c) (hm : 0 ≤ m ∧ m ≤ 4096) :
 Calls Tryz.prog 152 #[v, .int .i64 m, .int .i64 (k : Int)] w (FrPost (l[k].old - prE l k) (topE m (l.drop (k + 1)) - l[k].old - l[k].oldLen) w) := by
 obtain ⟨A, cp, rfl⟩ := h.form
 obtain ⟨b, off, rfl, c0, c1, c2, c3⟩ := RdC_at h k hk
 obtain ⟨⟨o0, o1⟩, ⟨l0, l1⟩, _, _⟩ := hb l[k] (List.getElem_mem hk)
 have HPr : Hid (0 < k → ∃ x y : Int, (0 ≤ x ∧ x ≤ 4096) ∧ (0 ≤ y ∧ y ≤ 4096) ∧ prE l k = x + y + 1 ∧ w.cell? ⟨b, off + (k - 1) * 4, none⟩ = some (.int .i64 x) ∧ w.cell? ⟨b, off + (k - 1) * 4 + 1, none⟩ = some (.int .i64 y)) := Lib.hid (fun h0 => by
  obtain ⟨p, rfl⟩ : ∃ p, k = p + 1 := ⟨k - 1, by omega⟩
  obtain ⟨b', off', e, d0, d1, _, _⟩ := RdC_at h p (by omega)
  cases e
  obtain ⟨p0, p1, _, _⟩ := hb l[p] (List.getElem_mem (by omega))
  exact ⟨_, _, p0, p1, prE_succ (by omega), d0, d1⟩)
 have HNx : Hid (k + 1 < l.length → ∃ x : Int, (0 ≤ x ∧ x ≤ 4096) ∧ topE m (l.drop (k + 1)) = x - 1 ∧ w.cell? ⟨b, off + (k + 1) * 4, none⟩ = some (.int .i64 x)) := Lib.hid (fun h0 => by
  obtain ⟨b', off', e, d0, _, _, _⟩ := RdC_at h (k + 1) h0
  cases e
  obtain ⟨p0, _, _, _⟩ := hb l[k + 1] (List.getElem_mem h0)
  exact ⟨_, p0, topE_in h0, d0⟩)
 have HP0 : Hid (¬ 0 < k → prE l k = 0) := Lib.hid (fun h0 => by obtain rfl : k = 0 := by omega
                                                                 rfl)
 have HN0 : Hid (¬ k + 1 < l.length → topE m (l.drop (k + 1)) = m) := Lib.hid (fun h0 => topE_out (by omega))
 obtain ⟨m0, m1⟩ := hm
 clear h hb
 generalize topE m (l.drop (k + 1)) = T at *
 generalize prE l k = F at *
 generalize l[k] = c at *
 obtain ⟨o, ol, nw, nl⟩ := c
 simp only at o0 o1 l0 l1 c0 c1 c2 c3
 generalize l.length = N at *
 have q1 : (0 : Int) ≤ (k : Int) := by omega
 have q2 : (k : Int) < (N : Int) := by omega
 have hFT : ∃ F T : Int, True := ⟨0, 0, trivial⟩
 clear hFT
 by_cases h0 : 0 < k
 · obtain ⟨x, y, ⟨x0, x1⟩, ⟨y0, y1⟩, rfl, d0, d1⟩ := HPr.out h0
   clear HPr HP0
   have dk : decide (0 < k) = true := decide_eq_true h0
   by_cases h1 : k + 1 < N
   · obtain ⟨z, ⟨z0, z1⟩, rfl, d2⟩ := HNx.out h1
     clear HNx HN0
     have dn : decide ((k : Int) + 1 < (N : Int)) = true := decide_eq_true (by omega)
     go_enter Tryz.func152, Tryz.ntmps152
     go_wp2_with fail
     go_quiet (fail)
     go_wp2_with fail
     go_quiet (fail)
     go_wp2_with fail
     go_ret2
     exact ⟨rfl, _, World.drewN_drewN _ _ _⟩
   · obtain rfl := HN0.out h1
     clear HNx HN0
     have dn : decide ((k : Int) + 1 < (N : Int)) = false := decide_eq_false (by omega)
     go_enter Tryz.func152, Tryz.ntmps152
     go_wp2_with fail
     go_quiet (fail)
     go_wp2_with fail
     go_quiet (fail)
     go_wp2_with fail
     go_ret2
     exact ⟨rfl, _, World.drewN_drewN _ _ _⟩
 · obtain rfl := HP0.out h0
   clear HPr HP0
   obtain rfl : k = 0 := by omega
   simp only [Nat.zero_mul, Nat.add_zero] at c0 c1 c2 c3
   by_cases h1 : 0 + 1 < N
   · obtain ⟨z, ⟨z0, z1⟩, rfl, d2⟩ := HNx.out h1
     clear HNx HN0
     have dn : decide (1 < N) = true := decide_eq_true (by omega)
     rw [show (0 + 1) * 4 = 4 from rfl] at d2
     have dn2 : decide ((1 : Int) < (N : Int)) = true := decide_eq_true (by omega)
     have q3 : (1 : Int) < (N : Int) := by omega
     go_enter Tryz.func152, Tryz.ntmps152
     go_wp2_with fail
     go_quiet (fail)
     go_wp2_with fail
     go_ret2
     exact ⟨by rw [Int.sub_zero]; rfl, _, rfl⟩
   · obtain rfl := HN0.out h1
     clear HNx HN0
     have dn : decide (1 < N) = false := decide_eq_false (by omega)
     have dn2 : decide ((1 : Int) < (N : Int)) = false := decide_eq_false (by omega)
     go_enter Tryz.func152, Tryz.ntmps152
     go_wp2_with fail
     go_quiet (fail)
     go_wp2_with fail
     go_ret2
     exact ⟨by rw [Int.sub_zero]; rfl, _, rfl⟩
end Sl
end Go.Proofs.YtjecfmbecgpbmaaGreatDoor

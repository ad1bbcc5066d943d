/- Facts; each states its conditions. -/
import Derived.Test.YtjecfmbecgpbmaaGreatDoorRows
import Derived.Test.YtjecfmbecgpbmaaGreatDoorGComBase
import Derived.ProofKit
import Derived.OpenShut
import Derived.ShutString
import Derived.ChangeOld
import Derived.Deep.Slices
namespace Go.Proofs.YtjecfmbecgpbmaaGreatDoor
section
open Go.ChangeShapes Go.WideShapes Go.ChangeAt Go.RowKit
namespace Cm
section
variable {H : Type} {enc : TypeId × Value → H} {P : Program} {w : World} {base : Nat} {spare : Nat → Bool} {held : Bool}
theorem trodAll_mk5 {t0 t1 t2 t3 t4 : TypeId} {v0 v1 v2 v3 v4 : Value} {d0 d1 d2 d3 d4 : DataW H} {p0 p1 p2 p3 p4 : List MemPlace} (h0 : DataW.Trod enc P w base spare held t0 v0 d0 p0) (h1 : DataW.Trod enc P w base spare held t1 v1 d1 p1)
 (h2 : DataW.Trod enc P w base spare held t2 v2 d2 p2) (h3 : DataW.Trod enc P w base spare held t3 v3 d3 p3) (h4 : DataW.Trod enc P w base spare held t4 v4 d4 p4) :
 DataW.TrodAll enc P w base spare held [t0, t1, t2, t3, t4] [v0, v1, v2, v3, v4] [d0, d1, d2, d3, d4] (p0 ++ (p1 ++ (p2 ++ (p3 ++ p4)))) := ⟨p0, _, h0, trodAll_mk4 h1 h2 h3 h4, rfl⟩
end
theorem own : ownKnob Tryz.prog.godebug = none := by kernel_rfl
theorem laidOut : laidOutB Tryz.prog = true := by kernel_rfl
theorem bounds_int {n : Int} (h : (Lit.int .i64 n).wf = true) : -9223372036854775808 ≤ n ∧ n ≤ 9223372036854775807 := by
 simp [Lit.wf] at h
 exact h
theorem addr_add {b off j : Nat} : (Addr.mk b off none).add j = ⟨b, off + j, none⟩ := by
 unfold Addr.add; split
 · rename_i h0; rw [h0]; rfl
 · rfl
theorem rdV_mk {w : World} {a : Addr} {len cap : Nat} {us : List Value} (hl : us.length = len) (hc : len ≤ cap) (h : ∀ i (hi : i < us.length), w.cell? (a.add i) = some us[i]) : RdV w (.slice (some a) len cap) us := by
 refine ⟨some a, cap, by rw [hl], ⟨by omega, fun e => by cases e⟩, fun hp => ?_⟩
 obtain ⟨b, off, spot⟩ := a
 have hc0 := h 0 hp
 have hspot : spot = none := by simpa [Addr.add] using World.cell?_spot hc0
 subst hspot
 exact ⟨b, off, rfl, fun j hj => by rw [← addr_add]; exact h j hj⟩
section
variable {H : Type} {enc : TypeId × Value → H} {W : World} {base : Nat} {spare : Nat → Bool} {held : Bool} {fuel : Nat} {u : Value} {x : DataW H × List MemPlace}
theorem open_intsV (h : DataW.trod enc Tryz.prog W base spare held fuel 22 [u] = some x) : ∃ l : List Int, RdV W u (intsV l) ∧ l.length ≤ maxLen ∧ ∀ z ∈ l, -9223372036854775808 ≤ z ∧ z ≤ 9223372036854775807 := by
 rcases open_ints Tryz.underlying22 Tryz.underlying3 (by kernel_rfl) h with ⟨hcs, _⟩ | ⟨a, l, c', zs, hcs, _, hl, hm, hlen, _, hcell, hwf⟩
 · obtain rfl : u = .slice none 0 0 := by simpa using hcs
   exact ⟨[], RdV.nil _, Nat.zero_le _, fun z hz => by cases hz⟩
 · obtain rfl : u = .slice (some a) l c' := by simpa using hcs
   have hsl : l ≤ zs.length := by rw [hlen]; split <;> omega
   have hmin : (zs.take l).length = l := by rw [List.length_take]; omega
   refine ⟨zs.take l, rdV_mk (by rw [intsV_len, hmin]) hl (fun i hi => ?_), by omega, fun z hz => bounds_int (hwf z (List.mem_of_mem_take hz))⟩
   rw [intsV_len, hmin] at hi
   rw [hcell i (by omega)]
   simp [intsV, List.getD, List.getElem?_eq_getElem (show i < zs.length by omega)]
end
end Cm
end
section
open Go.ChangeShapes Go.WideShapes Go.ChangeAt Go.RowKit
namespace Cm
section
variable {H : Type} {enc : TypeId × Value → H} {P : Program} {w : World} {base : Nat} {spare : Nat → Bool} {held : Bool}
theorem trodAll_six {t0 t1 t2 t3 t4 t5 : TypeId} {args : Array Value} {ds : List (DataW H)} {ps : List MemPlace} (h : DataW.TrodAll enc P w base spare held [t0, t1, t2, t3, t4, t5] args.toList ds ps) :
 ∃ v0 v1 v2 v3 v4 v5 d0 d1 d2 d3 d4 d5 p0 p1 p2 p3 p4 p5, args = #[v0, v1, v2, v3, v4, v5] ∧ ds = [d0, d1, d2, d3, d4, d5] ∧ ps = p0 ++ p1 ++ p2 ++ p3 ++ p4 ++ p5 ∧ DataW.Trod enc P w base spare held t0 v0 d0 p0 ∧ DataW.Trod enc P w base spare held t1 v1 d1 p1 ∧
   DataW.Trod enc P w base spare held t2 v2 d2 p2 ∧ DataW.Trod enc P w base spare held t3 v3 d3 p3 ∧ DataW.Trod enc P w base spare held t4 v4 d4 p4 ∧ DataW.Trod enc P w base spare held t5 v5 d5 p5 := by
 obtain ⟨v0, _, d0, _, p0, _, e0, rfl, rfl, h0, k0⟩ := trodAll_cons h
 obtain ⟨v1, _, d1, _, p1, _, rfl, rfl, rfl, h1, k1⟩ := trodAll_cons k0
 obtain ⟨v2, _, d2, _, p2, _, rfl, rfl, rfl, h2, k2⟩ := trodAll_cons k1
 obtain ⟨v3, _, d3, _, p3, _, rfl, rfl, rfl, h3, k3⟩ := trodAll_cons k2
 obtain ⟨v4, _, d4, _, p4, _, rfl, rfl, rfl, h4, k4⟩ := trodAll_cons k3
 obtain ⟨v5, _, d5, _, p5, _, rfl, rfl, rfl, h5, k5⟩ := trodAll_cons k4
 obtain ⟨rfl, rfl, rfl⟩ := trodAll_nil k5
 exact ⟨v0, v1, v2, v3, v4, v5, d0, d1, d2, d3, d4, d5, p0, p1, p2, p3, p4, p5, by cases args; simp_all, rfl, by simp, h0, h1, h2, h3, h4, h5⟩
theorem trodAll_mk6 {t0 t1 t2 t3 t4 t5 : TypeId} {v0 v1 v2 v3 v4 v5 : Value} {d0 d1 d2 d3 d4 d5 : DataW H} {p0 p1 p2 p3 p4 p5 : List MemPlace} (h0 : DataW.Trod enc P w base spare held t0 v0 d0 p0) (h1 : DataW.Trod enc P w base spare held t1 v1 d1 p1)
 (h2 : DataW.Trod enc P w base spare held t2 v2 d2 p2) (h3 : DataW.Trod enc P w base spare held t3 v3 d3 p3) (h4 : DataW.Trod enc P w base spare held t4 v4 d4 p4) (h5 : DataW.Trod enc P w base spare held t5 v5 d5 p5) :
 DataW.TrodAll enc P w base spare held [t0, t1, t2, t3, t4, t5] [v0, v1, v2, v3, v4, v5] [d0, d1, d2, d3, d4, d5] (p0 ++ (p1 ++ (p2 ++ (p3 ++ (p4 ++ p5))))) := ⟨p0, _, h0, trodAll_mk5 h1 h2 h3 h4 h5, rfl⟩
end
end Cm
end
end Go.Proofs.YtjecfmbecgpbmaaGreatDoor

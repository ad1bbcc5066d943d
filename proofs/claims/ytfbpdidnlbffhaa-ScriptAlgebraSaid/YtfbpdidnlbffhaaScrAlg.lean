/-
  Composition of valid scripts: valid, associative, with neutral elements and inverse. Conditions: scripts over at most nine lines.
-/
import Derived.Test.YtfbpdidnlbffhaaScrCmp
namespace Go.Proofs.Ytfbpdidnlbffhaa
open Go.RowKit
namespace Sc
open Cm
theorem cm_okP {x y : List Ch} {m k n : Int} (hx : GoodL x m k) (hy : GoodL y k n) : OkP m n 0 0 (cmpF (mtF m 0 0 x) (mtF k 0 0 y)) := cmp_okP hx.okp hy.okp
theorem cm_mt {x y : List Ch} {m k n : Int} (hx : GoodL x m k) (hy : GoodL y k n) : mtF m 0 0 (cmL x y m k n) = cmpF (mtF m 0 0 x) (mtF k 0 0 y) := (frm_run (cm_okP hx hy) hx.bm.1 hy.bn.1).2
theorem cm_good {x y : List Ch} {m k n : Int} (hx : GoodL x m k) (hy : GoodL y k n) : GoodL (cmL x y m k n) m n :=
  ⟨hx.bm, hy.bn, (frm_run (cm_okP hx hy) hx.bm.1 hy.bn.1).1, by
    have h1 := frF_len m n (cmpF (mtF m 0 0 x) (mtF k 0 0 y)) 0 0
    have h2 := cmp_pre_len hy.okp (mtF m 0 0 x)
    have h3 := hx.mtsm
    unfold cmL
    omega⟩
theorem cm_assoc {x y z : List Ch} {a b c d : Int} (hx : GoodL x a b) (hy : GoodL y b c) (hz : GoodL z c d) : cmL x (cmL y z b c d) a b d = cmL (cmL x y a b c) z a c d := by
  have h1 := cm_mt hx hy
  have h2 := cm_mt hy hz
  show frF a d 0 0 (cmpF (mtF a 0 0 x) (mtF b 0 0 (cmL y z b c d))) = frF a d 0 0 (cmpF (mtF a 0 0 (cmL x y a b c)) (mtF c 0 0 z))
  rw [h1, h2, cmp_assoc (okP_asc hx.okp).2 (okP_asc hy.okp).2 (okP_asc hz.okp).2]
theorem good_nil {a : Int} (h : 0 ≤ a ∧ a ≤ 9) : GoodL [] a a := ⟨h, h, by unfold OkL; omega, Nat.zero_le _⟩
theorem mt_nil (m : Int) : mtF m 0 0 [] = run 0 0 m.toNat := by
  show run 0 0 (m - 0).toNat = _
  rw [Int.sub_zero]
theorem cm_nilL {x : List Ch} {a b : Int} (hx : GoodL x a b) : cmL [] x a a b = x := by
  unfold cmL
  rw [mt_nil, cmp_runL hx.okp]
  exact hx.fr
theorem cm_nilR {x : List Ch} {a b : Int} (hx : GoodL x a b) : cmL x [] a b b = x := by
  unfold cmL
  rw [mt_nil, cmp_runR hx.okp]
  exact hx.fr
theorem cm_inv {x y : List Ch} {a b c : Int} (hx : GoodL x a b) (hy : GoodL y b c) : cmL (y.map inv) (x.map inv) c b a = (cmL x y a b c).map inv := by
  have hg := cm_good hx hy
  have h1 := mt_inv x true 0 0 hx.ok
  have h2 := mt_inv y true 0 0 hy.ok
  have h3 := mt_inv (cmL x y a b c) true 0 0 hg.ok
  have h4 := hg.inv.fr
  rw [h3, cm_mt hx hy] at h4
  show frF c a 0 0 (cmpF (mtF c 0 0 (y.map inv)) (mtF b 0 0 (x.map inv))) = _
  rw [h1, h2, cmp_swp (okP_asc hx.okp).2 (okP_asc hy.okp).2]
  exact h4
theorem Compose_good (vx vy : Value) (x y : List Ch) (m k n : Int) (w : World) (hx : RdC w vx x) (hy : RdC w vy y) (gx : GoodL x m k) (gy : GoodL y k n) :
    Calls Try.prog 24 #[vx, vy, .int .i64 m, .int .i64 k, .int .i64 n] w (GoodC (cmL x y m k n) w) := by
  have hE : cmE x y m k n = 0 := by unfold cmE; rw [if_pos gx.ck]; exact gy.ck
  exact (Compose_any vx vy x y m k n w hx (by have := gx.len; omega) gx.chB hy (by have := gy.len; omega) gy.chB).mono fun e w' ⟨v, h1, h2, _, h4⟩ => ⟨v, by rw [h1, hE], h2 hE, h4⟩
end Sc
end Go.Proofs.Ytfbpdidnlbffhaa

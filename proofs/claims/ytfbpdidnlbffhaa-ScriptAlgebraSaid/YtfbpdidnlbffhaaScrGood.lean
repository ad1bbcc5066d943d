/-
  Contracts at valid scripts, as the laws call them. Conditions: scripts of at most nine lines.
-/
import Derived.Test.YtfbpdidnlbffhaaScrFpR
import Derived.Test.YtfbpdidnlbffhaaScrFp
import Derived.Test.YtfbpdidnlbffhaaScrInv
namespace Go.Proofs.Ytfbpdidnlbffhaa
open Go.RowKit
namespace Sc
open Cm
theorem GoodL.ck {l : List Ch} {m n : Int} (h : GoodL l m n) : chkF l m n = 0 := chkF_ok h.im h.in_ h.ok
theorem GoodL.okp {l : List Ch} {m n : Int} (h : GoodL l m n) : OkP m n 0 0 (mtF m 0 0 l) := mt_okp l true 0 0 h.im.1 (fun _ => rfl) h.ok
theorem GoodL.fr {l : List Ch} {m n : Int} (h : GoodL l m n) : frF m n 0 0 (mtF m 0 0 l) = l := fr_mt l true 0 0 h.im.1 (fun _ => rfl) h.ok
theorem GoodL.inv {l : List Ch} {m n : Int} (h : GoodL l m n) : GoodL (l.map inv) n m := ⟨h.bn, h.bm, inv_ok l true 0 0 h.ok, by rw [List.length_map]; exact h.len⟩
theorem GoodL.mtlen {l : List Ch} {m n : Int} (h : GoodL l m n) : ((mtF m 0 0 l).length : Int) = m - szO l ∧ ((mtF m 0 0 l).length : Int) = n - szN l := by
  have := mt_len l true 0 0 h.im h.in_ h.im.1 (fun _ => rfl) h.ok
  omega
theorem GoodL.mtsm {l : List Ch} {m n : Int} (h : GoodL l m n) : (mtF m 0 0 l).length ≤ 9 := by
  have h1 := h.mtlen.1
  have h2 := (szO_bd l).1
  have h3 := h.bm.2
  omega
theorem okp_spB {m n : Int} (hm : m ≤ 4096) (hn : n ≤ 4096) : ∀ {p : List Sp} {i j : Int}, 0 ≤ i → 0 ≤ j → OkP m n i j p → ∀ s ∈ p, SpB s
  | [], _, _, _, _, _, s, hs => by cases hs
  | x :: p, i, j, hi, hj, ⟨⟨a, b, c, d⟩, e⟩, s, hs => by
    rcases List.mem_cons.1 hs with rfl | hs
    · exact ⟨⟨by omega, by omega⟩, ⟨by omega, by omega⟩⟩
    · exact okp_spB hm hn (by omega) (by omega) e s hs
def GoodS (p : List Sp) (w : World) (e : Ending) (w' : World) : Prop := ∃ v, e = .returned (.tuple #[v, .int .i64 0]) ∧ OwnS w.heap.size w' v p ∧ Below w.heap.size w w'
def GoodC (l : List Ch) (w : World) (e : Ending) (w' : World) : Prop := ∃ v, e = .returned (.tuple #[v, .int .i64 0]) ∧ OwnC w.heap.size w' v l ∧ Below w.heap.size w w'
theorem Pairs_good (v : Value) (l : List Ch) (m n : Int) (w : World) (h : RdC w v l) (hg : GoodL l m n) : Calls Try.prog 16 #[v, .int .i64 m, .int .i64 n] w (GoodS (mtF m 0 0 l) w) :=
  (Pairs_any v l m n w h (by have := hg.len; omega) hg.chB).mono fun e w' ⟨v', h1, h2, _, h4⟩ => ⟨v', by rw [h1, hg.ck], h2 hg.ck, h4⟩
theorem PairsR_good (v : Value) (l : List Ch) (m n : Int) (w : World) (h : RdC w v l) (hg : GoodL l m n) : Calls Try.prog 17 #[v, .int .i64 m, .int .i64 n] w (GoodS (mtF m 0 0 l) w) :=
  (PairsR_any v l m n w h (by have := hg.len; omega)).mono fun e w' ⟨v', h1, h2, _, h4⟩ => ⟨v', by rw [h1, hg.ck], h2 hg.ck, h4⟩
theorem FromPairs_good (v : Value) (p : List Sp) (m n : Int) (w : World) (h : RdS w v p) (hl : p.length ≤ 1000) (hm : inI m) (hn : inI n) (hp : OkP m n 0 0 p) : Calls Try.prog 18 #[v, .int .i64 m, .int .i64 n] w (GoodC (frF m n 0 0 p) w) :=
  (FromPairs_any v p m n w h (by omega) (okp_spB hm.2 hn.2 (Int.le_refl _) (Int.le_refl _) hp)).mono fun e w' ⟨v', h1, h2, _, h4⟩ => ⟨v', by rw [h1, fpF_ok hm hn hp], h2 (fpF_ok hm hn hp), h4⟩
end Sc
end Go.Proofs.Ytfbpdidnlbffhaa

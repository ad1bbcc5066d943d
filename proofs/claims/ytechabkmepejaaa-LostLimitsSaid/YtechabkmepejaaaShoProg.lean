/-
  The program's tooLong, wordsFor, place, equalLines. Conditions: lists as long as a machine holds.
-/
import Derived.Test.YtechabkmepejaaaShoBits
import Derived.Test.YtechabkmepejaaaScrBase
import Derived.Laws.Externs
import Derived.Deep.OwnRows
import Derived.StillTailTactics
namespace Go.Proofs.Ytechabkmepejaaa
open Go.RowKit
namespace Sh
open Cm Sc
abbrev tU : TypeId := 39
abbrev tI : TypeId := 3
abbrev tSet : TypeId := 72
abbrev tSets : TypeId := 63
theorem info_u : (Try.prog.info? tU).map (fun i => (i.zero, i.size, i.bytes)) = some (some (.int .u64 0), 1, 8) := by kernel_rfl
theorem info_set : (Try.prog.info? tSet).map (fun i => (i.zero, i.size, i.bytes)) = some (some (.slice none 0 0), 1, 24) := by kernel_rfl
theorem info_i : (Try.prog.info? tI).map (fun i => (i.zero, i.size, i.bytes)) = some (some (.int .i64 0), 1, 8) := by kernel_rfl
/-- A block that holds these cells. -/
def Blk (w : World) (G : Nat) (t : TypeId) (l : List Value) : Prop := w.heap[G]? = some (.cells l.toArray t (0, 0))
theorem Blk.lt {w : World} {G : Nat} {t : TypeId} {l : List Value} (h : Blk w G t l) : G < w.heap.size := lt_of_block h
theorem Blk.cell {w : World} {G : Nat} {t : TypeId} {l : List Value} (h : Blk w G t l) {k : Nat} (hk : k < l.length) : w.cell? ⟨G, k, none⟩ = some l[k] := by
  unfold Blk at h
  simp only [World.cell?, h]
  simp [hk]
theorem Blk.free {w : World} {G : Nat} {t : TypeId} {l : List Value} (h : Blk w G t l) (k : Nat) : w.frozen? ⟨G, k, none⟩ = false := by
  unfold Blk at h
  simp [World.frozen?, h]
theorem Blk.below {w w' : World} {G : Nat} {t : TypeId} {l : List Value} (h : Blk w G t l) (hb : Below w.heap.size w w') : Blk w' G t l := (hb.block G h.lt).trans h
theorem Blk.set {w : World} {G : Nat} {t : TypeId} {l : List Value} (h : Blk w G t l) (k : Nat) (v : Value) : Blk (w.setCell ⟨G, k, none⟩ v) G t (l.set k v) := by
  have hlt := h.lt
  unfold Blk at h
  have h' : w.heap[G] = .cells l.toArray t (0, 0) := by simpa [Array.getElem?_eq_getElem hlt] using h
  show (w.heap.modify G _)[G]? = _
  rw [Array.getElem?_eq_getElem (by simpa using hlt), Array.getElem_modify_self, h']
  simp
theorem Blk.set_ne {w : World} {G H : Nat} {t : TypeId} {l : List Value} (h : Blk w G t l) (hne : G ≠ H) (k : Nat) (v : Value) : Blk (w.setCell ⟨H, k, none⟩ v) G t l :=
  (Below.heap_setCell _ _ _ _ hne).trans h
theorem Blk.alloc {w : World} {G : Nat} {t : TypeId} {l : List Value} (h : Blk w G t l) (o : Obj) : Blk (w.alloc o) G t l := (Below.heap_alloc w o G h.lt).trans h
theorem Blk.drew {w : World} {G : Nat} {t : TypeId} {l : List Value} (h : Blk w G t l) : Blk w.drew G t l := h
theorem Blk.drewN {w : World} {G : Nat} {t : TypeId} {l : List Value} (h : Blk w G t l) (m : Nat) : Blk (w.drewN m) G t l := h.below (below_drewN (Below.refl _ _) m)
theorem Blk.rd {w : World} {G : Nat} {t : TypeId} {l : List Value} (h : Blk w G t l) : RdV w (.slice (some ⟨G, 0, none⟩) l.length l.length) l :=
  ⟨_, _, rfl, ⟨Nat.le_refl _, fun e => by cases e⟩, fun _ => ⟨G, 0, rfl, fun j hj => by rw [Nat.zero_add]; exact h.cell hj⟩⟩
/-- make of a row of cells. -/
theorem mk_row {ops : Array Oper} {rest : List Oper} {o : Oper} {a : Act} {Q : Exit → Act → World → Prop} {w : World} {tS e : TypeId} {z : Value} {bytes : Nat} (hgd : o.guard = none) (l c : Operand) (ho : o.op = Op.makeSlice tS l c)
    (hu : Try.prog.underlying tS = some (.slice e)) (hi : (Try.prog.info? e).map (fun i => (i.zero, i.size, i.bytes)) = some (some z, 1, bytes)) (hzz : z.cells = #[z]) (hby : bytes ≤ 24)
    (n : Nat) (hl : a.eval l = .int .i64 (n : Int)) (hc : a.eval c = .int .i64 (n : Int)) (hn : n ≤ 4194304)
    (h : ∀ w', Hid (Blk w' w.heap.size e (List.replicate n z)) → Hid (w'.heap.size = w.heap.size + 1) → Below w.heap.size w w' → wpList Try.prog ops Q rest (a.put o.dst (.slice (some ⟨w.heap.size, 0, none⟩) n n)) w') : wpList Try.prog ops Q (o :: rest) a w := by
  obtain ⟨i0, hi0, hz0, hz1, hz2⟩ := info_parts hi
  have hm := Nat.mul_le_mul_left n hby
  refine wpList_make_row w hgd l c _ ho e i0 z hu hi0 hz0 hz1 hzz .i64 .i64 n hl hc (by rw [hz2]; have := Nat.mul_comm bytes n; omega) (by omega) (h _ ?_ (Lib.hid (by simp)) ((Below.refl _ w).alloc (Nat.le_refl _) _))
  obtain ⟨c, h1, h2, h3⟩ := World.rowIs_made w z n e
  have e : c = (List.replicate n z).toArray := by
    refine Array.ext (by rw [h2, List.size_toArray, List.length_replicate]) fun i hi1 hi2 => ?_
    have h4 := h3 i (by omega)
    rw [Array.getElem?_eq_getElem hi1] at h4
    have h5 := Option.some.inj h4
    rw [h5, List.getElem_toArray, List.getElem_replicate]
  rw [e] at h1
  exact Lib.hid h1
/-- bits.Add64. -/
theorem add64 (x y c : Int) (hx : 0 ≤ x) (hy : 0 ≤ y) (hc0 : 0 ≤ c) (hc : c ≤ 1) (w : World) : (callFunc 45 #[.int .u64 x, .int .u64 y, .int .u64 c]).run Try.prog w =
    .ok (.value (.tuple #[.int .u64 ((x + y + c) % 18446744073709551616), .int .u64 ((x + y + c) / 18446744073709551616)])) w := by
  rw [run_callFunc_extern Try.func45 (by kernel_rfl) (by kernel_rfl) (by kernel_rfl) (e := add64Entry) (by kernel_rfl), run_add64 x y c hx hy hc0 hc]
  rfl
def longB (m n : Nat) : Bool := decide (4096 < m ∨ 4096 < n)
theorem tooLong_any (A B : Option Addr) (m n c d : Nat) (w : World) : Calls Try.prog 23 #[.slice A m c, .slice B n d] w fun e w' => e = .returned (.bool (longB m n)) ∧ w = w' := by
  by_cases h1 : m < n
  · have h : decide ((4096 : Int) < (n : Int)) = longB m n := by
      unfold longB; rw [decide_eq_decide]; omega
    have H := Lib.hid h
    clear h
    go_enter Try.func23, Try.ntmps23
    go_wp2_with fail
    go_ret
    first
      | exact ⟨by rw [H.out]; rfl, rfl⟩
      | exact ⟨by rw [show max (m : Int) (n : Int) = (n : Int) by omega, H.out]; rfl, rfl⟩
  · have h : decide ((4096 : Int) < (m : Int)) = longB m n := by
      unfold longB; rw [decide_eq_decide]; omega
    have H := Lib.hid h
    clear h
    go_enter Try.func23, Try.ntmps23
    go_wp2_with fail
    go_ret
    first
      | exact ⟨by rw [H.out]; rfl, rfl⟩
      | exact ⟨by rw [show max (m : Int) (n : Int) = (m : Int) by omega, H.out]; rfl, rfl⟩
theorem wordsFor_any (n : Nat) (h : n ≤ 4096) (w : World) : Calls Try.prog 39 #[.int .i64 (n : Int)] w fun e w' => e = .returned (.int .i64 (((n + 63) / 64 : Nat) : Int)) ∧ w = w' := by
  go_enter Try.func39, Try.ntmps39
  go_wp2_with fail
  go_ret
  exact ⟨rfl, rfl⟩
def PlPost (p : Nat) (w : World) (e : Ending) (w' : World) : Prop := e = .returned (.tuple #[.int .i64 ((p / 64 : Nat) : Int), .int .u64 ((2 ^ (p % 64) : Nat) : Int)]) ∧ ∃ m, w' = w.drewN m
set_option maxHeartbeats 1000000 in
theorem place_any (i n p : Nat) (h : i < n) (hn : n ≤ 4096) (hp : p = n - 1 - i) (w : World) : Calls Try.prog 41 #[.int .i64 (i : Int), .int .i64 (n : Int)] w (PlPost p w) := by
  have h2 : 2 ^ (p % 64) < 18446744073709551616 := Nat.pow_lt_pow_right (a := 2) (by omega) (show p % 64 < 64 from by omega)
  have HW : Hid (IntKind.u64.wrap ((2 : Int) ^ (p % 64)) = ((2 ^ (p % 64) : Nat) : Int)) := Lib.hid (by
    rw [show (2 : Int) ^ (p % 64) = ((2 ^ (p % 64) : Nat) : Int) from by simp]
    exact wrap_u _ h2)
  have e : (n : Int) - 1 - (i : Int) = (p : Int) := by omega
  have HE := Lib.hid e
  have hp2 : p < 4096 := by omega
  clear h2 e hp
  go_enter Try.func41, Try.ntmps41
  go_wp2_with fail
  rw [HE.out]
  have q0 : (0 : Int) ≤ (p : Int) := by omega
  have q1 : (0 : Int) ≤ (p : Int) % 64 := by omega
  have q2 : (p : Int) % 64 < 64 := by omega
  go_quiet (fail)
  rw [HW.out]
  go_wp2_with fail
  go_ret2
  exact ⟨rfl, _, rfl⟩
set_option maxHeartbeats 2000000 in
theorem spare_bit (m : Nat → Bool) (p : Nat) : (bits .and .u64 (word m (p / 64) : Int) ((2 ^ (p % 64) : Nat) : Int) != 0) = m p := bit_walk m p
/-- The equal lines at the beginning. -/
def eqN : List Int → List Int → Nat
  | x :: a, y :: b => if x = y then eqN a b + 1 else 0
  | _, _ => 0
theorem eqN_le : ∀ (a b : List Int), eqN a b ≤ a.length ∧ eqN a b ≤ b.length
  | [], _ => by simp [eqN]
  | _ :: _, [] => by simp [eqN]
  | x :: a, y :: b => by
    have := eqN_le a b
    simp only [eqN, List.length_cons]
    split <;> omega
theorem eqN_at : ∀ (a b : List Int) (k : Nat), k ≤ eqN a b → (k < eqN a b ↔ ∃ (h1 : k < a.length) (h2 : k < b.length), a[k] = b[k])
  | [], b, k, h => by simp [eqN]
  | x :: a, [], k, h => by simp [eqN]
  | x :: a, y :: b, k, h => by
    simp only [eqN] at h ⊢
    by_cases e : x = y
    · rw [if_pos e] at h ⊢
      cases k with
      | zero => simp [e]
      | succ k =>
        have := eqN_at a b k (by omega)
        simp only [List.length_cons, List.getElem_cons_succ]
        rw [show (k + 1 < eqN a b + 1) ↔ k < eqN a b from by omega, this]
        constructor
        · rintro ⟨h1, h2, h3⟩; exact ⟨by omega, by omega, h3⟩
        · rintro ⟨h1, h2, h3⟩; exact ⟨by omega, by omega, h3⟩
    · rw [if_neg e] at h ⊢
      obtain rfl : k = 0 := by omega
      simp [e]
theorem int_at {w : World} {A : Option Addr} {n c : Nat} {l : List Int} (h : RdV w (.slice A n c) (intsV l)) (k : Nat) (hk : k < l.length) : ∃ b off, A = some ⟨b, off, none⟩ ∧ w.cell? ⟨b, off + k, none⟩ = some (.int .i64 l[k]) := by
  obtain ⟨_, b, off, e, hc⟩ := h.at (by rw [intsV_len]; omega)
  refine ⟨b, off, e, ?_⟩
  rw [hc k (by rw [intsV_len]; exact hk)]
  simp [intsV]
set_option maxRecDepth 100000 in
set_option maxHeartbeats 2000000 in
theorem equalLines_at (A B : Option Addr) (c d n m t : Nat) (a b : List Int) (w : World) (HA : Hid (RdV w (.slice A n c) (intsV a))) (HB : Hid (RdV w (.slice B m d) (intsV b))) (hn : n ≤ 4096) (hm : m ≤ 4096) (HN : Hid (n = a.length)) (HM : Hid (m = b.length)) (HT : Hid (t = eqN a b)) (htn : t ≤ n) (htm : t ≤ m) :
    Calls Try.prog 32 #[.slice A n c, .slice B m d] w fun e w' => e = .returned (.int .i64 (t : Int)) ∧ ∃ m, w' = w.drewN m := by
  go_enter Try.func32, Try.ntmps32
  go_wp2_with fail
  go_loopw [5] (fun i wr => ∃ k : Nat, k ≤ t ∧ i = .int .i64 k ∧ ∃ q, wr = w.drewN q) (fun i _ => t - (intOf i).toNat)
  case atStart => exact ⟨0, Nat.zero_le _, rfl, 0, rfl⟩
  case round =>
    obtain ⟨k, hk, rfl, q, rfl⟩ := hrel
    by_cases hlt : k < t
    · obtain ⟨h1, h2, h3⟩ := (eqN_at a b k (by rw [← HT.out]; exact hk)).1 (by rw [← HT.out]; exact hlt)
      obtain ⟨b1, o1, rfl, c1⟩ := int_at HA.out k h1
      obtain ⟨b2, o2, rfl, c2⟩ := int_at HB.out k h2
      rw [h3] at c1
      generalize b[k] = x at c1 c2
      clear h1 h2 h3
      have k0 : (0 : Int) ≤ (k : Int) := by omega
      have k1 : (k : Int) < (n : Int) := by omega
      have k2 : (k : Int) < (m : Int) := by omega
      have k3 : k < n := by omega
      have k4 : k < m := by omega
      by_cases hnm : m < n
      all_goals
        go_wp2_with fail
        go_quiet (fail)
        go_wp2_with fail
        go_roundw
        case rel => exact ⟨k + 1, by omega, by go_num, _, rfl⟩
        case measure => simp [intOf]; omega
    · obtain rfl : k = t := by omega
      by_cases hin : k < n ∧ k < m
      · obtain ⟨k3, k4⟩ := hin
        have h1 : k < a.length := by rw [← HN.out]; exact k3
        have h2 : k < b.length := by rw [← HM.out]; exact k4
        have h3 : ¬ a[k] = b[k] := fun e => Nat.lt_irrefl (eqN a b) (by
          have := (eqN_at a b k (by rw [← HT.out]; exact hk)).2 ⟨h1, h2, e⟩
          rw [← HT.out] at this
          omega)
        obtain ⟨b1, o1, rfl, c1⟩ := int_at HA.out k h1
        obtain ⟨b2, o2, rfl, c2⟩ := int_at HB.out k h2
        have hx : (a[k] == b[k]) = false := by simpa using h3
        generalize a[k] = y at c1 hx
        generalize b[k] = x at c2 hx
        clear h1 h2 h3
        have k0 : (0 : Int) ≤ (k : Int) := by omega
        have k1 : (k : Int) < (n : Int) := by omega
        have k2 : (k : Int) < (m : Int) := by omega
        by_cases hnm : m < n
        all_goals
          go_wp2_with fail
          go_quiet (fail)
          go_wp2_with fail
          go_ret
          exact ⟨rfl, _, World.drewN_drewN _ _ _⟩
      · by_cases hnm : m < n
        · have hd : decide (k < m) = false := by rw [decide_eq_false_iff_not]; omega
          clear hin
          go_wp2_with fail
          go_quiet (fail)
          go_wp2_with fail
          go_ret
          exact ⟨rfl, _, World.drewN_drewN _ _ _⟩
        · have hd : decide (k < n) = false := by rw [decide_eq_false_iff_not]; omega
          clear hin
          go_wp2_with fail
          go_quiet (fail)
          go_wp2_with fail
          go_ret
          exact ⟨rfl, _, World.drewN_drewN _ _ _⟩
theorem equalLines_any (va vb : Value) (a b : List Int) (w : World) (ha : RdV w va (intsV a)) (hb : RdV w vb (intsV b)) (hla : a.length ≤ 4096) (hlb : b.length ≤ 4096) :
    Calls Try.prog 32 #[va, vb] w fun e w' => e = .returned (.int .i64 (eqN a b : Int)) ∧ ∃ m, w' = w.drewN m := by
  obtain ⟨A, c, rfl⟩ := ha.form
  obtain ⟨B, d, rfl⟩ := hb.form
  exact equalLines_at A B c d _ _ _ a b w (Lib.hid ha) (Lib.hid hb) (by rw [intsV_len]; exact hla) (by rw [intsV_len]; exact hlb) (Lib.hid (intsV_len a)) (Lib.hid (intsV_len b)) (Lib.hid rfl) (by rw [intsV_len]; exact (eqN_le a b).1) (by rw [intsV_len]; exact (eqN_le a b).2)
end Sh
end Go.Proofs.Ytechabkmepejaaa

/-
  Walk of the verifier's Pattern: some text of at most 128 bytes, a row of at most 16 pieces and bars. Conditions: the raw numbers read as a slice of ints; the bounds of the number.
-/
import Derived.Test.YtgadomcbaenodaaTextPick
import Derived.Test.YtgadomcbaenodaaComInts
import Derived.Test.YtgadomcbaenodaaPatX
import Derived.Deep.RegionHeld3
import Derived.Deep.Cut
import Derived.IntWalk
namespace Go.Proofs.Ytgadomcbaenodaa
open Go.RowKit
namespace Rx
open Cm Tx
theorem ModN (m a : Int) (w : World) (h1 : 0 < m) (h2 : m ≤ 1099511627776) (h3 : -9223372036854775808 ≤ a) (h4 : a ≤ 9223372036854775807) :
    Calls Try.prog 9 #[.int .i64 a, .int .i64 m] w fun e w' => (∃ k : Nat, (k : Int) < m ∧ e = .returned (.int .i64 (k : Int))) ∧ w = w' := by
  refine (Mod_any a m w h1 h2 h3 h4).mono ?_
  rintro e w' ⟨rfl, rfl⟩
  have h5 := modF_lo a m h1
  have h6 := modF_hi a m h1
  exact ⟨⟨(modF a m).toNat, by omega, by rw [show (((modF a m).toNat : Nat) : Int) = modF a m by omega]⟩, rfl⟩
theorem bs_app (x y : ByteArray) : bs (x ++ y) = bs x ++ bs y := by
  show (x ++ y).data.toList = x.data.toList ++ y.data.toList
  rw [ByteArray.data_append]; simp
/-- Some text of at most 128 bytes, a row of at most 16 pieces and bars. -/
def PatP (w : World) (e : Ending) (w' : World) : Prop := ∃ x : ByteArray, x.size ≤ 128 ∧ (∃ n, n ≤ 16 ∧ Pt (bs x) n) ∧ e = .returned (.string x) ∧ Below w.heap.size w w'
theorem pt_step {o A M : ByteArray} {j : Nat} (h : ∃ n, n ≤ 2 * j + 1 ∧ Pt (bs o) n) (ha : bs A ∈ atomsL) (hm : bs M ∈ marksL) : ∃ n, n ≤ 2 * (j + 1) ∧ Pt (bs (o ++ A ++ M)) n := by
  obtain ⟨n, hn, hp⟩ := h
  refine ⟨n + 1, by omega, ?_⟩
  rw [bs_app, bs_app, List.append_assoc]
  have := hp.app (Pt.piece ha hm .nil)
  rw [List.append_nil] at this
  exact this
theorem pt_weak {o : ByteArray} {j : Nat} (h : ∃ n, n ≤ 2 * j ∧ Pt (bs o) n) : ∃ n, n ≤ 2 * j + 1 ∧ Pt (bs o) n := by
  obtain ⟨n, hn, hp⟩ := h
  exact ⟨n, by omega, hp⟩
theorem pt_bar {o : ByteArray} {j : Nat} (h : ∃ n, n ≤ 2 * j ∧ Pt (bs o) n) : ∃ n, n ≤ 2 * j + 1 ∧ Pt (bs (o ++ ⟨#[124]⟩)) n := by
  obtain ⟨n, hn, hp⟩ := h
  refine ⟨n + 1, by omega, ?_⟩
  rw [bs_app]
  exact hp.app (.bar .nil)
theorem pt_end {o : ByteArray} {j : Nat} (hj : j ≤ 7) (h : ∃ n, n ≤ 2 * j + 1 ∧ Pt (bs o) n) : ∃ n, n ≤ 16 ∧ Pt (bs (o ++ ⟨#[36]⟩)) n := by
  obtain ⟨n, hn, hp⟩ := h
  refine ⟨n + 1, by omega, ?_⟩
  rw [bs_app]
  exact hp.app (Pt.piece (a := [36]) (m := []) (r := []) (by decide) (by decide) .nil)
theorem pt_stop {o : ByteArray} {j : Nat} (hj : j ≤ 7) (h : ∃ n, n ≤ 2 * j + 1 ∧ Pt (bs o) n) : ∃ n, n ≤ 16 ∧ Pt (bs o) n := by
  obtain ⟨n, hn, hp⟩ := h
  exact ⟨n, by omega, hp⟩
theorem pt_none : ∃ n, n ≤ 2 * 0 + 1 ∧ Pt (bs ⟨#[]⟩) n := ⟨0, by decide, .nil⟩
theorem pt_hat : ∃ n, n ≤ 2 * 0 + 1 ∧ Pt (bs ⟨#[94]⟩) n := ⟨1, by decide, Pt.piece (a := [94]) (m := []) (r := []) (by decide) (by decide) .nil⟩
def Tab (H : Nat) (b : Nat) (L : List (List UInt8)) (m : Nat) (w : World) : Prop := ∀ k : Nat, (k : Int) < m → ∃ x : ByteArray, (x.size ≤ b ∧ bs x ∈ L) ∧ w.cell? ⟨H, k, none⟩ = some (.string x)
theorem Tab.below {H b m : Nat} {L : List (List UInt8)} {w w' : World} (h : Tab H b L m w) (hb : Below w.heap.size w w') : Tab H b L m w' := fun k hk => by
  obtain ⟨x, hx, hc⟩ := h k hk
  exact ⟨x, hx, (hb.cell (p := ⟨H, k, none⟩) (cell_lt hc)).trans hc⟩
def TabF (H : Nat) (m : Nat) (T : Nat → ByteArray) (w : World) : Prop := ∀ k : Nat, (k : Int) < m → w.cell? ⟨H, k, none⟩ = some (.string (T k))
open Classical in
theorem Tab.fn {H b m : Nat} {L : List (List UInt8)} {w : World} (h : Tab H b L m w) (d : ByteArray) (hd : d.size ≤ b ∧ bs d ∈ L) : ∃ T : Nat → ByteArray, (∀ k, (T k).size ≤ b ∧ bs (T k) ∈ L) ∧ TabF H m T w := by
  refine ⟨fun k => if hk : (k : Int) < m then Classical.choose (h k hk) else d, fun k => ?_, fun k hk => ?_⟩
  · by_cases hk : (k : Int) < m
    · simp only [dif_pos hk]; exact (Classical.choose_spec (h k hk)).1
    · simp only [dif_neg hk]; exact hd
  · simp only [dif_pos hk]; exact (Classical.choose_spec (h k hk)).2
theorem TabF.below {H m : Nat} {T : Nat → ByteArray} {w w' : World} (h : TabF H m T w) (hb : Below w.heap.size w w') : TabF H m T w' := fun k hk =>
  (hb.cell (p := ⟨H, k, none⟩) (cell_lt (h k hk))).trans (h k hk)
theorem tabA (w : World) : Tab w.heap.size 12 atomsL 14 (w.alloc (.cells #[.string ⟨#[97]⟩, .string ⟨#[98]⟩, .string ⟨#[46]⟩, .string ⟨#[91, 97, 98, 93]⟩, .string ⟨#[91, 94, 97, 93]⟩, .string ⟨#[40, 97, 124, 98, 41]⟩, .string ⟨#[40, 97, 98, 41]⟩, .string ⟨#[91, 91, 58, 97, 108, 112, 104, 97, 58, 93, 120, 93]⟩, .string ⟨#[92, 43]⟩, .string ⟨#[40, 41]⟩, .string ⟨#[40, 98, 124, 41]⟩, .string ⟨#[91, 97, 45, 99, 93]⟩, .string ⟨#[93]⟩, .string ⟨#[120]⟩] 9)) := fun k hk => by
  have h : k = 0 ∨ k = 1 ∨ k = 2 ∨ k = 3 ∨ k = 4 ∨ k = 5 ∨ k = 6 ∨ k = 7 ∨ k = 8 ∨ k = 9 ∨ k = 10 ∨ k = 11 ∨ k = 12 ∨ k = 13 := by omega
  rcases h with rfl | rfl | rfl | rfl | rfl | rfl | rfl | rfl | rfl | rfl | rfl | rfl | rfl | rfl <;>
    (refine ⟨_, ?_, by rw [World.cell?_alloc_mark]; rfl⟩; decide)
theorem tabM (w : World) : Tab w.heap.size 5 marksL 10 (w.alloc (.cells #[.string ⟨#[]⟩, .string ⟨#[]⟩, .string ⟨#[]⟩, .string ⟨#[42]⟩, .string ⟨#[43]⟩, .string ⟨#[63]⟩, .string ⟨#[123, 50, 125]⟩, .string ⟨#[123, 49, 44, 50, 125]⟩, .string ⟨#[123, 48, 44, 49, 125]⟩, .string ⟨#[123, 50, 44, 125]⟩] 9)) := fun k hk => by
  have h : k = 0 ∨ k = 1 ∨ k = 2 ∨ k = 3 ∨ k = 4 ∨ k = 5 ∨ k = 6 ∨ k = 7 ∨ k = 8 ∨ k = 9 := by omega
  rcases h with rfl | rfl | rfl | rfl | rfl | rfl | rfl | rfl | rfl | rfl <;>
    (refine ⟨_, ?_, by rw [World.cell?_alloc_mark]; rfl⟩; decide)
set_option maxRecDepth 100000 in
set_option maxHeartbeats 8000000 in
theorem Pattern_any (v : Value) (n : Nat) (N : Int) (w : World) (h : RdI w v n) (hn : n ≤ maxLen) (h0 : -9223372036854775808 ≤ N) (h1 : N ≤ 9223372036854775807) :
    Calls Try.prog 6 #[v, .int .i64 N] w (PatP w) := by
  have HN := Lib.hid hn
  have hb1 : Below w.heap.size w (w.alloc (.cells #[.string ⟨#[97]⟩, .string ⟨#[98]⟩, .string ⟨#[46]⟩, .string ⟨#[91, 97, 98, 93]⟩, .string ⟨#[91, 94, 97, 93]⟩, .string ⟨#[40, 97, 124, 98, 41]⟩, .string ⟨#[40, 97, 98, 41]⟩, .string ⟨#[91, 91, 58, 97, 108, 112, 104, 97, 58, 93, 120, 93]⟩, .string ⟨#[92, 43]⟩, .string ⟨#[40, 41]⟩, .string ⟨#[40, 98, 124, 41]⟩, .string ⟨#[91, 97, 45, 99, 93]⟩, .string ⟨#[93]⟩, .string ⟨#[120]⟩] 9)) := (Below.refl _ _).alloc (Nat.le_refl _) _
  have hb2 : Below (w.heap.size + 1) (w.alloc (.cells #[.string ⟨#[97]⟩, .string ⟨#[98]⟩, .string ⟨#[46]⟩, .string ⟨#[91, 97, 98, 93]⟩, .string ⟨#[91, 94, 97, 93]⟩, .string ⟨#[40, 97, 124, 98, 41]⟩, .string ⟨#[40, 97, 98, 41]⟩, .string ⟨#[91, 91, 58, 97, 108, 112, 104, 97, 58, 93, 120, 93]⟩, .string ⟨#[92, 43]⟩, .string ⟨#[40, 41]⟩, .string ⟨#[40, 98, 124, 41]⟩, .string ⟨#[91, 97, 45, 99, 93]⟩, .string ⟨#[93]⟩, .string ⟨#[120]⟩] 9)) ((w.alloc (.cells #[.string ⟨#[97]⟩, .string ⟨#[98]⟩, .string ⟨#[46]⟩, .string ⟨#[91, 97, 98, 93]⟩, .string ⟨#[91, 94, 97, 93]⟩, .string ⟨#[40, 97, 124, 98, 41]⟩, .string ⟨#[40, 97, 98, 41]⟩, .string ⟨#[91, 91, 58, 97, 108, 112, 104, 97, 58, 93, 120, 93]⟩, .string ⟨#[92, 43]⟩, .string ⟨#[40, 41]⟩, .string ⟨#[40, 98, 124, 41]⟩, .string ⟨#[91, 97, 45, 99, 93]⟩, .string ⟨#[93]⟩, .string ⟨#[120]⟩] 9)).alloc (.cells #[.string ⟨#[]⟩, .string ⟨#[]⟩, .string ⟨#[]⟩, .string ⟨#[42]⟩, .string ⟨#[43]⟩, .string ⟨#[63]⟩, .string ⟨#[123, 50, 125]⟩, .string ⟨#[123, 49, 44, 50, 125]⟩, .string ⟨#[123, 48, 44, 49, 125]⟩, .string ⟨#[123, 50, 44, 125]⟩] 9)) := (Below.refl _ _).alloc (by simp) _
  have hb3 : Below w.heap.size w ((w.alloc (.cells #[.string ⟨#[97]⟩, .string ⟨#[98]⟩, .string ⟨#[46]⟩, .string ⟨#[91, 97, 98, 93]⟩, .string ⟨#[91, 94, 97, 93]⟩, .string ⟨#[40, 97, 124, 98, 41]⟩, .string ⟨#[40, 97, 98, 41]⟩, .string ⟨#[91, 91, 58, 97, 108, 112, 104, 97, 58, 93, 120, 93]⟩, .string ⟨#[92, 43]⟩, .string ⟨#[40, 41]⟩, .string ⟨#[40, 98, 124, 41]⟩, .string ⟨#[91, 97, 45, 99, 93]⟩, .string ⟨#[93]⟩, .string ⟨#[120]⟩] 9)).alloc (.cells #[.string ⟨#[]⟩, .string ⟨#[]⟩, .string ⟨#[]⟩, .string ⟨#[42]⟩, .string ⟨#[43]⟩, .string ⟨#[63]⟩, .string ⟨#[123, 50, 125]⟩, .string ⟨#[123, 49, 44, 50, 125]⟩, .string ⟨#[123, 48, 44, 49, 125]⟩, .string ⟨#[123, 50, 44, 125]⟩] 9)) := hb1.trans (hb2.mono (by simp))
  have HI := Lib.hid (h.below hb3)
  have HA := Lib.hid ((tabA w).below (by simpa using hb2))
  have HM : Hid (Tab (w.heap.size + 1) 5 marksL 10 ((w.alloc (.cells #[.string ⟨#[97]⟩, .string ⟨#[98]⟩, .string ⟨#[46]⟩, .string ⟨#[91, 97, 98, 93]⟩, .string ⟨#[91, 94, 97, 93]⟩, .string ⟨#[40, 97, 124, 98, 41]⟩, .string ⟨#[40, 97, 98, 41]⟩, .string ⟨#[91, 91, 58, 97, 108, 112, 104, 97, 58, 93, 120, 93]⟩, .string ⟨#[92, 43]⟩, .string ⟨#[40, 41]⟩, .string ⟨#[40, 98, 124, 41]⟩, .string ⟨#[91, 97, 45, 99, 93]⟩, .string ⟨#[93]⟩, .string ⟨#[120]⟩] 9)).alloc (.cells #[.string ⟨#[]⟩, .string ⟨#[]⟩, .string ⟨#[]⟩, .string ⟨#[42]⟩, .string ⟨#[43]⟩, .string ⟨#[63]⟩, .string ⟨#[123, 50, 125]⟩, .string ⟨#[123, 49, 44, 50, 125]⟩, .string ⟨#[123, 48, 44, 49, 125]⟩, .string ⟨#[123, 50, 44, 125]⟩] 9))) := Lib.hid (by simpa using tabM (w.alloc (.cells #[.string ⟨#[97]⟩, .string ⟨#[98]⟩, .string ⟨#[46]⟩, .string ⟨#[91, 97, 98, 93]⟩, .string ⟨#[91, 94, 97, 93]⟩, .string ⟨#[40, 97, 124, 98, 41]⟩, .string ⟨#[40, 97, 98, 41]⟩, .string ⟨#[91, 91, 58, 97, 108, 112, 104, 97, 58, 93, 120, 93]⟩, .string ⟨#[92, 43]⟩, .string ⟨#[40, 41]⟩, .string ⟨#[40, 98, 124, 41]⟩, .string ⟨#[91, 97, 45, 99, 93]⟩, .string ⟨#[93]⟩, .string ⟨#[120]⟩] 9)))
  have HB := Lib.hid hb3
  clear hb1 hb2 hb3
  obtain ⟨A, c, rfl, _⟩ := h
  unfold maxLen at hn
  clear hn
  have m0 := modF_lo N 8 (by omega)
  have m1 := modF_hi N 8 (by omega)
  generalize hm : modF N 8 = m at m0 m1
  have H8 := Lib.hid hm
  clear hm
  go_enter Try.func6, Try.ntmps6
  go_upto_if 0 with fail
  generalize (w.alloc (Obj.cells #[.string ⟨#[97]⟩, .string ⟨#[98]⟩, .string ⟨#[46]⟩, .string ⟨#[91, 97, 98, 93]⟩, .string ⟨#[91, 94, 97, 93]⟩, .string ⟨#[40, 97, 124, 98, 41]⟩, .string ⟨#[40, 97, 98, 41]⟩, .string ⟨#[91, 91, 58, 97, 108, 112, 104, 97, 58, 93, 120, 93]⟩, .string ⟨#[92, 43]⟩, .string ⟨#[40, 41]⟩, .string ⟨#[40, 98, 124, 41]⟩, .string ⟨#[91, 97, 45, 99, 93]⟩, .string ⟨#[93]⟩, .string ⟨#[120]⟩] 9)).alloc (Obj.cells #[.string ⟨#[]⟩, .string ⟨#[]⟩, .string ⟨#[]⟩, .string ⟨#[42]⟩, .string ⟨#[43]⟩, .string ⟨#[63]⟩, .string ⟨#[123, 50, 125]⟩, .string ⟨#[123, 49, 44, 50, 125]⟩, .string ⟨#[123, 48, 44, 49, 125]⟩, .string ⟨#[123, 50, 44, 125]⟩] 9) = W at HI HA HM HB ⊢
  generalize hHd : w.heap.size = H at HI HA HM HB ⊢
  have HH := Lib.hid hHd
  clear hHd
  obtain ⟨TA, hTA, hA⟩ := HA.out.fn ⟨#[97]⟩ (by decide)
  obtain ⟨TM, hTM, hM⟩ := HM.out.fn ⟨#[]⟩ (by decide)
  have HTA := Lib.hid (fun k => (hTA k).1)
  have HTM := Lib.hid (fun k => (hTM k).1)
  have HCA := Lib.hid (fun k => (hTA k).2)
  have HCM := Lib.hid (fun k => (hTM k).2)
  have HAF := Lib.hid hA
  have HMF := Lib.hid hM
  clear hTA hTM hA hM HA HM
  go_wp2_with (go_at_call 15; refine (At_any _ _ _ _ HI.out HN.out (by omega) (by omega)).mono ?_; rintro e w1 ⟨z, hz1, hz2, rfl, rfl⟩)
  all_goals
    first | (rename ((_ : Int) == 0) = true => hz; rw [hz]; clear hz) | (rename ((_ : Int) == 0) = false => hz; rw [hz]; clear hz)
    go_loopw [7, 8] (fun t i wr => ∃ (j : Nat) (o : ByteArray), (j : Int) ≤ m ∧ i = .int .i64 j ∧ t = .string o ∧ o.size ≤ 1 + 18 * j ∧ Hid (∃ n, n ≤ 2 * j + 1 ∧ Pt (bs o) n) ∧ Below W.heap.size W wr) (fun _ i _ => m.toNat - (intOf i).toNat)
    case atStart => exact ⟨0, _, by omega, rfl, rfl, by decide, Lib.hid (by first | exact pt_none | exact pt_hat), Below.refl _ _⟩
    case round =>
      obtain ⟨j, o, hj, rfl, rfl, ho, HC, hnx⟩ := hrel
      by_cases hlt : (j : Int) < m
      · have HI1 := Lib.hid (HI.out.below hnx.drew)
        have HA1 := Lib.hid (HAF.out.below hnx.drew)
        have HM1 := Lib.hid (HMF.out.below hnx.drew)
        go_upto_region 9 with (go_at_call 9; refine (Mod_any _ _ _ (by omega) (by omega) (by omega) (by omega)).mono ?_; rintro e w1 ⟨rfl, rfl⟩; rw [H8.out])
        have s1 : IntKind.i64.wrap (10 + (j : Int)) = 10 + (j : Int) := IntWalk.i64_in _ (by omega)
        have s2 : IntKind.i64.wrap (30 + (j : Int)) = 30 + (j : Int) := IntWalk.i64_in _ (by omega)
        go_region_held3 (fun V => (∀ k : Nat, (k : Int) < 14 → V.cell? ⟨H, k, none⟩ = some (.string (TA k))) ∧ (∀ k : Nat, (k : Int) < 10 → V.cell? ⟨H + 1, k, none⟩ = some (.string (TM k)))) (first | exact ⟨HA1.out, HM1.out⟩ | assumption) (first | (go_at_call 15; refine (At_any _ _ _ _ HI1.out HN.out (by omega) (by omega)).mono ?_; rintro e w1 ⟨z, hz1, hz2, rfl, rfl⟩) | (go_at_call 9; refine (ModN _ _ _ (by omega) (by omega) (by omega) (by omega)).mono ?_; rintro e w1 ⟨⟨k, hk, rfl⟩, rfl⟩; first | (have hy := HTM.out k; have t2 : ¬ (9223372036854775807 < o.size + (TA k1).size + (TM k).size) := by omega) | (obtain ⟨k1, rfl⟩ : ∃ q, q = k := ⟨_, rfl⟩; have hx := HTA.out k1; have t1 : ¬ (9223372036854775807 < o.size + (TA k1).size) := by omega)))
        all_goals
          clear s1 s2
          go_wp2_with (go_at_call 15; refine (At_any _ _ _ _ HI1.out HN.out (by omega) (by omega)).mono ?_; rintro e w1 ⟨z, hz1, hz2, rfl, rfl⟩)
          all_goals
            go_roundw
            case rel => exact ⟨j + 1, _, by omega, by go_num, rfl, by (try simp only [ByteArray.size_append]); first | omega | (have : (ByteArray.mk #[124]).size = 1 := rfl; omega), Lib.hid (by first | exact pt_weak (pt_step HC.out (HCA.out k1) (HCM.out k)) | exact pt_bar (pt_step HC.out (HCA.out k1) (HCM.out k))), hnx.drew⟩
            case measure => simp [intOf]; omega
      · have HI1 := Lib.hid (HI.out.below hnx)
        have ho2 : o.size ≤ 127 := by omega
        go_wp2_with (first | (go_at_call 9; refine (Mod_any _ _ _ (by omega) (by omega) (by omega) (by omega)).mono ?_; rintro e w1 ⟨rfl, rfl⟩; rw [H8.out]) | (go_at_call 15; refine (At_any _ _ _ _ HI1.out HN.out (by omega) (by omega)).mono ?_; rintro e w1 ⟨z, hz1, hz2, rfl, rfl⟩))
        all_goals go_ret
        all_goals exact ⟨_, by (try simp only [ByteArray.size_append]); first | omega | (have : (ByteArray.mk #[36]).size = 1 := rfl; omega), by first | exact pt_stop (by omega) HC.out | exact pt_end (by omega) HC.out, rfl, by rw [HH.out]; exact HB.out.trans (hnx.mono (by rw [← HH.out]; exact HB.out.size))⟩
end Rx
end Go.Proofs.Ytgadomcbaenodaa

/-
  The program's named classes. No conditions.
-/
import Derived.Test.YtgadomcbaenodaaRegexPsY
import Derived.Deep.RegionHeld3
namespace Go.Proofs.Ytgadomcbaenodaa
open Go.RowKit
namespace Px
open Cm Rx
/-- What 'named' hands back. -/
def NamedP (w : World) (r : Option (Nat → Bool)) (e : Ending) (w' : World) : Prop :=
  match r with
  | some p => ∃ m, e = .returned (.tuple #[setV m, .bool true]) ∧ (∀ x, x < 256 → m x = p x) ∧ Below w.heap.size w w'
  | none => ∃ m, e = .returned (.tuple #[setV m, .bool false]) ∧ Below w.heap.size w w'
def upS : Nat → Bool := spanM 65 90
def loS : Nat → Bool := spanM 97 122
def diS : Nat → Bool := spanM 48 57
def leS : Nat → Bool := fun x => upS x || loS x
def alS : Nat → Bool := fun x => leS x || diS x
theorem below_up {a b c : World} (h : Below a.heap.size a b) (h' : Below b.heap.size b c) : Below a.heap.size a c := h.trans (h'.mono h.size)
theorem first_below {a b b' c : World} (h : Below a.heap.size a b) (h' : Below b'.heap.size b' c) (hs : b'.heap = b.heap := by rfl) (ho : b'.os = b.os := by rfl) (ht : b'.tape = b.tape := by rfl) (hu : b'.output = b.output := by rfl) : Below a.heap.size a c :=
  ⟨h'.os.trans (ho.trans h.os), h'.tape.trans (ht.trans h.tape), h'.output.trans (hu.trans h.output), by have h1 := h'.size; rw [hs] at h1; exact Nat.le_trans h.size h1, fun k hk => by rw [h'.block k (by rw [hs]; have := h.size; omega), hs]; exact h.block k hk⟩
theorem below_al {a b : World} (h : Below a.heap.size a b) (o : Obj) : Below a.heap.size a (b.alloc o) := h.alloc h.size o
/-- A block as it stands. -/
def HasO (W : World) (b : Nat) (o : Obj) : Prop := W.heap[b]? = some o
section
variable {W W' : World} {b : Nat} {o : Obj} {m : Nat → Bool}
theorem HasO.below (h : HasO W b o) (hB : Below W.heap.size W W') : HasO W' b o := (hB.block b (lt_some h)).trans h
theorem HasO.alloc (h : HasO W b o) (x : Obj) : HasO (W.alloc x) b o := (Below.heap_alloc W x b (lt_some h)).trans h
theorem HasO.other (h : HasO W b o) {c j : Nat} {v : Value} (hne : b ≠ c) : HasO (W.setCell ⟨c, j, none⟩ v) b o := (Below.heap_setCell _ _ _ _ hne).trans h
theorem HasO.new (W : World) (o : Obj) : HasO (W.alloc o) W.heap.size o := heap_new W o
theorem HasO.row (h : HasO W b (rowS m)) : (W.cell? ⟨b, 0, none⟩ = some (.int .u64 (word m 0 : Nat)) ∧ W.cell? ⟨b, 1, none⟩ = some (.int .u64 (word m 1 : Nat))) ∧ W.cell? ⟨b, 2, none⟩ = some (.int .u64 (word m 2 : Nat)) ∧ W.cell? ⟨b, 3, none⟩ = some (.int .u64 (word m 3 : Nat)) := by
  unfold HasO at h
  simp [World.cell?, h]
theorem HasO.zero (h : HasO W b zeroS) : (W.cell? ⟨b, 0, none⟩ = some (.int .u64 0) ∧ W.cell? ⟨b, 1, none⟩ = some (.int .u64 0) ∧ W.cell? ⟨b, 2, none⟩ = some (.int .u64 0) ∧ W.cell? ⟨b, 3, none⟩ = some (.int .u64 0)) ∧ W.frozen? ⟨b, 0, none⟩ = false ∧ W.frozen? ⟨b, 1, none⟩ = false ∧ W.frozen? ⟨b, 2, none⟩ = false ∧ W.frozen? ⟨b, 3, none⟩ = false := by
  unfold HasO at h
  simp [World.cell?, World.frozen?, h]
/-- A set is copied into a block. -/
theorem HasO.copy (h : HasO W b zeroS) : HasO ((((W.setCell ⟨b, 0, none⟩ (.int .u64 (word m 0 : Nat))).setCell ⟨b, 1, none⟩ (.int .u64 (word m 1 : Nat))).setCell ⟨b, 2, none⟩ (.int .u64 (word m 2 : Nat))).setCell ⟨b, 3, none⟩ (.int .u64 (word m 3 : Nat))) b (rowS m) := by
  unfold HasO at h ⊢
  rw [set_block (set_block (set_block (set_block h)))]
  rfl
theorem below_copy {w : World} (h : Below w.heap.size w W) (hb : w.heap.size ≤ b) (x y z u : Value) : Below w.heap.size w ((((W.setCell ⟨b, 0, none⟩ x).setCell ⟨b, 1, none⟩ y).setCell ⟨b, 2, none⟩ z).setCell ⟨b, 3, none⟩ u) :=
  (((h.setCell (p := ⟨b, 0, none⟩) hb _).setCell (p := ⟨b, 1, none⟩) hb _).setCell (p := ⟨b, 2, none⟩) hb _).setCell (p := ⟨b, 3, none⟩) hb _
theorem HasO.copy0 (h : HasO W b zeroS) : HasO ((((W.setCell ⟨b, 0, none⟩ (.int .u64 0)).setCell ⟨b, 1, none⟩ (.int .u64 0)).setCell ⟨b, 2, none⟩ (.int .u64 0)).setCell ⟨b, 3, none⟩ (.int .u64 0)) b (rowS noSet) := by
  have h2 := h.copy (m := noSet)
  have e : ∀ j, word noSet j = 0 := fun j => word_none j
  rw [e, e, e, e] at h2
  exact h2
theorem res_named (tmps : Array Value) (bo : Bool) (h2 : tmps.getD 2 undef = .pointer (some ⟨b, 0, none⟩)) (h3 : tmps.getD 3 undef = .bool bo) (h : HasO W b (rowS m)) : (results Try.f91 tmps).run Try.prog W = .ok (.tuple #[setV m, .bool bo]) W := by
  have h2' : tmps[2]?.getD undef = .pointer (some ⟨b, 0, none⟩) := by simpa using h2
  have h3' : tmps[3]?.getD undef = .bool bo := by simpa using h3
  have hl := run_loadVar_row (P := Try.prog) W b tBs tBs #[.int .u64 (word m 0 : Nat), .int .u64 (word m 1 : Nat), .int .u64 (word m 2 : Nat), .int .u64 (word m 3 : Nat)] (0, 0) _ h Try.underlying128 rfl (by kernel_rfl)
  simp [results, Try.results91, h2', h3', asAddr, hl, setV]
end
set_option maxRecDepth 100000 in
set_option maxHeartbeats 4000000 in
theorem named_alpha (s : ByteArray) (w : World) (h0 : Tx.bs s = [97, 108, 112, 104, 97]) : Calls Try.prog 91 #[.string s] w (NamedP w (clsF (Tx.bs s))) := by
  have HC : Hid (clsF (Tx.bs s) = some letterF) := Lib.hid (by unfold clsF; rw [if_pos h0])
  have HU := Lib.hid (fun wq => span_any 65 90 (by omega) (by omega) wq)
  have HLo := Lib.hid (fun wq => span_any 97 122 (by omega) (by omega) wq)
  have HDi := Lib.hid (fun wq => span_any 48 57 (by omega) (by omega) wq)
  have HLe := Lib.hid (fun wq => with_any upS loS wq)
  have HAl := Lib.hid (fun wq => with_any leS diS wq)
  rw [show spanM 65 90 = upS from rfl] at HU
  rw [show spanM 97 122 = loS from rfl] at HLo
  rw [show spanM 48 57 = diS from rfl] at HDi
  rw [show (fun x => upS x || loS x) = leS from rfl] at HLe
  rw [show (fun x => leS x || diS x) = alS from rfl] at HAl
  unfold setV at HU HLo HDi HLe HAl
  have t0 := toList_T h0
  clear h0
  go_enter Try.func91, Try.ntmps91
  go_wp2_with fail
  refine (HU.out _).mono ?_
  rintro e w1 ⟨rfl, B1⟩
  have R1 := Lib.hid ((HasO.new w zeroS).below B1)
  have HB1 := Lib.hid (below_up (below_al (Below.refl _ _) _) B1)
  clear B1
  go_wp2_with fail
  refine (HLo.out _).mono ?_
  rintro e w2 ⟨rfl, B2⟩
  have R2 := Lib.hid (R1.out.below B2)
  have HB2 := Lib.hid (below_up HB1.out B2)
  clear B2
  go_wp2_with fail
  refine (HDi.out _).mono ?_
  rintro e w3 ⟨rfl, B3⟩
  have R3 := Lib.hid (R2.out.below B3)
  have HB3 := Lib.hid (below_up HB2.out B3)
  clear B3
  go_wp2_with fail
  refine (HLe.out _).mono ?_
  rintro e w4 ⟨rfl, B4⟩
  have R4 := Lib.hid ((((R3.out.alloc _).alloc _).alloc _).below B4)
  have U4 := Lib.hid ((((HasO.new w3 (rowS upS)).alloc _).alloc _).below B4)
  have L4 := Lib.hid (((show HasO _ (w3.heap.size + 1) (rowS loS) from by have h := HasO.new (w3.alloc (rowS upS)) (rowS loS); rwa [show (w3.alloc (rowS upS)).heap.size = w3.heap.size + 1 from by simp] at h).alloc _).below B4)
  have D4 := Lib.hid (HasO.below (show HasO _ (w3.heap.size + 1 + 1) (rowS diS) from heap_alloc3 w3 (rowS upS) (rowS loS) (rowS diS)) B4)
  have HB4 := Lib.hid (below_up (below_al (below_al (below_al HB3.out _) _) _) B4)
  have dd := fun o => (D4.out.alloc o).row
  have d0 := fun o => (dd o).1.1
  have d1 := fun o => (dd o).1.2
  have d2 := fun o => (dd o).2.1
  have d3 := fun o => (dd o).2.2
  clear B4 dd
  go_wp2_with fail
  refine (HAl.out _).mono ?_
  rintro e w5 ⟨rfl, B5⟩
  have R5 := Lib.hid ((R4.out.alloc _).below B5)
  have U5 := Lib.hid ((U4.out.alloc _).below B5)
  have L5 := Lib.hid ((L4.out.alloc _).below B5)
  have D5 := Lib.hid ((D4.out.alloc _).below B5)
  have E5 := Lib.hid ((HasO.new w4 (rowS leS)).below B5)
  have HB5 := Lib.hid (below_up (below_al HB4.out _) B5)
  clear B5 d0 d1 d2 d3
  have zz := fun o => (R5.out.alloc o).zero
  have z0 := fun o => (zz o).1.1
  have z1 := fun o => (zz o).1.2.1
  have z2 := fun o => (zz o).1.2.2.1
  have z3 := fun o => (zz o).1.2.2.2
  have y0 := fun o => (zz o).2.1
  have y1 := fun o => (zz o).2.2.1
  have y2 := fun o => (zz o).2.2.2.1
  have y3 := fun o => (zz o).2.2.2.2
  clear zz
  have vv := fun o => (E5.out.alloc o).row
  have v0 := fun o => (vv o).1.1
  have v1 := fun o => (vv o).1.2
  have v2 := fun o => (vv o).2.1
  have v3 := fun o => (vv o).2.2
  clear vv
  go_wp2_with fail
  refine bodyPost_ret (res_named (m := leS) _ true rfl rfl (R5.out.alloc _).copy) rfl ?_
  rw [HC.out]
  refine ⟨leS, rfl, fun x _ => ?_, below_copy (below_al HB5.out _) (Nat.le_refl _) _ _ _ _⟩
  unfold leS upS loS spanM letterF
  rw [Bool.eq_iff_iff]
  simp
  all_goals omega
set_option maxRecDepth 100000 in
set_option maxHeartbeats 4000000 in
theorem named_digit (s : ByteArray) (w : World) (h0 : Tx.bs s ≠ [97, 108, 112, 104, 97]) (h1 : Tx.bs s = [100, 105, 103, 105, 116]) : Calls Try.prog 91 #[.string s] w (NamedP w (clsF (Tx.bs s))) := by
  have HC : Hid (clsF (Tx.bs s) = some digitF) := Lib.hid (by unfold clsF; rw [if_neg h0]; rw [if_pos h1])
  have HU := Lib.hid (fun wq => span_any 65 90 (by omega) (by omega) wq)
  have HLo := Lib.hid (fun wq => span_any 97 122 (by omega) (by omega) wq)
  have HDi := Lib.hid (fun wq => span_any 48 57 (by omega) (by omega) wq)
  have HLe := Lib.hid (fun wq => with_any upS loS wq)
  have HAl := Lib.hid (fun wq => with_any leS diS wq)
  rw [show spanM 65 90 = upS from rfl] at HU
  rw [show spanM 97 122 = loS from rfl] at HLo
  rw [show spanM 48 57 = diS from rfl] at HDi
  rw [show (fun x => upS x || loS x) = leS from rfl] at HLe
  rw [show (fun x => leS x || diS x) = alS from rfl] at HAl
  unfold setV at HU HLo HDi HLe HAl
  have t0 := toList_F h0
  have t1 := toList_T h1
  clear h0 h1
  go_enter Try.func91, Try.ntmps91
  go_wp2_with fail
  refine (HU.out _).mono ?_
  rintro e w1 ⟨rfl, B1⟩
  have R1 := Lib.hid ((HasO.new w zeroS).below B1)
  have HB1 := Lib.hid (below_up (below_al (Below.refl _ _) _) B1)
  clear B1
  go_wp2_with fail
  refine (HLo.out _).mono ?_
  rintro e w2 ⟨rfl, B2⟩
  have R2 := Lib.hid (R1.out.below B2)
  have HB2 := Lib.hid (below_up HB1.out B2)
  clear B2
  go_wp2_with fail
  refine (HDi.out _).mono ?_
  rintro e w3 ⟨rfl, B3⟩
  have R3 := Lib.hid (R2.out.below B3)
  have HB3 := Lib.hid (below_up HB2.out B3)
  clear B3
  go_wp2_with fail
  refine (HLe.out _).mono ?_
  rintro e w4 ⟨rfl, B4⟩
  have R4 := Lib.hid ((((R3.out.alloc _).alloc _).alloc _).below B4)
  have U4 := Lib.hid ((((HasO.new w3 (rowS upS)).alloc _).alloc _).below B4)
  have L4 := Lib.hid (((show HasO _ (w3.heap.size + 1) (rowS loS) from by have h := HasO.new (w3.alloc (rowS upS)) (rowS loS); rwa [show (w3.alloc (rowS upS)).heap.size = w3.heap.size + 1 from by simp] at h).alloc _).below B4)
  have D4 := Lib.hid (HasO.below (show HasO _ (w3.heap.size + 1 + 1) (rowS diS) from heap_alloc3 w3 (rowS upS) (rowS loS) (rowS diS)) B4)
  have HB4 := Lib.hid (below_up (below_al (below_al (below_al HB3.out _) _) _) B4)
  have dd := fun o => (D4.out.alloc o).row
  have d0 := fun o => (dd o).1.1
  have d1 := fun o => (dd o).1.2
  have d2 := fun o => (dd o).2.1
  have d3 := fun o => (dd o).2.2
  clear B4 dd
  go_wp2_with fail
  refine (HAl.out _).mono ?_
  rintro e w5 ⟨rfl, B5⟩
  have R5 := Lib.hid ((R4.out.alloc _).below B5)
  have U5 := Lib.hid ((U4.out.alloc _).below B5)
  have L5 := Lib.hid ((L4.out.alloc _).below B5)
  have D5 := Lib.hid ((D4.out.alloc _).below B5)
  have E5 := Lib.hid ((HasO.new w4 (rowS leS)).below B5)
  have HB5 := Lib.hid (below_up (below_al HB4.out _) B5)
  clear B5 d0 d1 d2 d3
  have zz := fun o => (R5.out.alloc o).zero
  have z0 := fun o => (zz o).1.1
  have z1 := fun o => (zz o).1.2.1
  have z2 := fun o => (zz o).1.2.2.1
  have z3 := fun o => (zz o).1.2.2.2
  have y0 := fun o => (zz o).2.1
  have y1 := fun o => (zz o).2.2.1
  have y2 := fun o => (zz o).2.2.2.1
  have y3 := fun o => (zz o).2.2.2.2
  clear zz
  have vv := fun o => (D5.out.alloc o).row
  have v0 := fun o => (vv o).1.1
  have v1 := fun o => (vv o).1.2
  have v2 := fun o => (vv o).2.1
  have v3 := fun o => (vv o).2.2
  clear vv
  go_wp2_with fail
  refine bodyPost_ret (res_named (m := diS) _ true rfl rfl (R5.out.alloc _).copy) rfl ?_
  rw [HC.out]
  refine ⟨diS, rfl, fun x _ => ?_, below_copy (below_al HB5.out _) (Nat.le_refl _) _ _ _ _⟩
  unfold diS spanM digitF
  rw [Bool.eq_iff_iff]
set_option maxRecDepth 100000 in
set_option maxHeartbeats 4000000 in
theorem named_alnum (s : ByteArray) (w : World) (h0 : Tx.bs s ≠ [97, 108, 112, 104, 97]) (h1 : Tx.bs s ≠ [100, 105, 103, 105, 116]) (h2 : Tx.bs s = [97, 108, 110, 117, 109]) : Calls Try.prog 91 #[.string s] w (NamedP w (clsF (Tx.bs s))) := by
  have HC : Hid (clsF (Tx.bs s) = some (fun n => letterF n || digitF n)) := Lib.hid (by unfold clsF; rw [if_neg h0]; rw [if_neg h1]; rw [if_pos h2])
  have HU := Lib.hid (fun wq => span_any 65 90 (by omega) (by omega) wq)
  have HLo := Lib.hid (fun wq => span_any 97 122 (by omega) (by omega) wq)
  have HDi := Lib.hid (fun wq => span_any 48 57 (by omega) (by omega) wq)
  have HLe := Lib.hid (fun wq => with_any upS loS wq)
  have HAl := Lib.hid (fun wq => with_any leS diS wq)
  rw [show spanM 65 90 = upS from rfl] at HU
  rw [show spanM 97 122 = loS from rfl] at HLo
  rw [show spanM 48 57 = diS from rfl] at HDi
  rw [show (fun x => upS x || loS x) = leS from rfl] at HLe
  rw [show (fun x => leS x || diS x) = alS from rfl] at HAl
  unfold setV at HU HLo HDi HLe HAl
  have t0 := toList_F h0
  have t1 := toList_F h1
  have t2 := toList_T h2
  clear h0 h1 h2
  go_enter Try.func91, Try.ntmps91
  go_wp2_with fail
  refine (HU.out _).mono ?_
  rintro e w1 ⟨rfl, B1⟩
  have R1 := Lib.hid ((HasO.new w zeroS).below B1)
  have HB1 := Lib.hid (below_up (below_al (Below.refl _ _) _) B1)
  clear B1
  go_wp2_with fail
  refine (HLo.out _).mono ?_
  rintro e w2 ⟨rfl, B2⟩
  have R2 := Lib.hid (R1.out.below B2)
  have HB2 := Lib.hid (below_up HB1.out B2)
  clear B2
  go_wp2_with fail
  refine (HDi.out _).mono ?_
  rintro e w3 ⟨rfl, B3⟩
  have R3 := Lib.hid (R2.out.below B3)
  have HB3 := Lib.hid (below_up HB2.out B3)
  clear B3
  go_wp2_with fail
  refine (HLe.out _).mono ?_
  rintro e w4 ⟨rfl, B4⟩
  have R4 := Lib.hid ((((R3.out.alloc _).alloc _).alloc _).below B4)
  have U4 := Lib.hid ((((HasO.new w3 (rowS upS)).alloc _).alloc _).below B4)
  have L4 := Lib.hid (((show HasO _ (w3.heap.size + 1) (rowS loS) from by have h := HasO.new (w3.alloc (rowS upS)) (rowS loS); rwa [show (w3.alloc (rowS upS)).heap.size = w3.heap.size + 1 from by simp] at h).alloc _).below B4)
  have D4 := Lib.hid (HasO.below (show HasO _ (w3.heap.size + 1 + 1) (rowS diS) from heap_alloc3 w3 (rowS upS) (rowS loS) (rowS diS)) B4)
  have HB4 := Lib.hid (below_up (below_al (below_al (below_al HB3.out _) _) _) B4)
  have dd := fun o => (D4.out.alloc o).row
  have d0 := fun o => (dd o).1.1
  have d1 := fun o => (dd o).1.2
  have d2 := fun o => (dd o).2.1
  have d3 := fun o => (dd o).2.2
  clear B4 dd
  go_wp2_with fail
  refine (HAl.out _).mono ?_
  rintro e w5 ⟨rfl, B5⟩
  have R5 := Lib.hid ((R4.out.alloc _).below B5)
  have U5 := Lib.hid ((U4.out.alloc _).below B5)
  have L5 := Lib.hid ((L4.out.alloc _).below B5)
  have D5 := Lib.hid ((D4.out.alloc _).below B5)
  have E5 := Lib.hid ((HasO.new w4 (rowS leS)).below B5)
  have HB5 := Lib.hid (below_up (below_al HB4.out _) B5)
  clear B5 d0 d1 d2 d3
  have zz := fun o => (R5.out.alloc o).zero
  have z0 := fun o => (zz o).1.1
  have z1 := fun o => (zz o).1.2.1
  have z2 := fun o => (zz o).1.2.2.1
  have z3 := fun o => (zz o).1.2.2.2
  have y0 := fun o => (zz o).2.1
  have y1 := fun o => (zz o).2.2.1
  have y2 := fun o => (zz o).2.2.2.1
  have y3 := fun o => (zz o).2.2.2.2
  clear zz
  go_wp2_with fail
  refine bodyPost_ret (res_named (m := alS) _ true rfl rfl (R5.out.alloc _).copy) rfl ?_
  rw [HC.out]
  refine ⟨alS, rfl, fun x _ => ?_, below_copy (below_al HB5.out _) (Nat.le_refl _) _ _ _ _⟩
  unfold alS leS upS loS diS spanM letterF digitF
  rw [Bool.eq_iff_iff]
  simp
  all_goals omega
set_option maxRecDepth 100000 in
set_option maxHeartbeats 4000000 in
theorem named_upper (s : ByteArray) (w : World) (h0 : Tx.bs s ≠ [97, 108, 112, 104, 97]) (h1 : Tx.bs s ≠ [100, 105, 103, 105, 116]) (h2 : Tx.bs s ≠ [97, 108, 110, 117, 109]) (h3 : Tx.bs s = [117, 112, 112, 101, 114]) : Calls Try.prog 91 #[.string s] w (NamedP w (clsF (Tx.bs s))) := by
  have HC : Hid (clsF (Tx.bs s) = some (fun n => letterF n && decide (n ≤ 90))) := Lib.hid (by unfold clsF; rw [if_neg h0]; rw [if_neg h1]; rw [if_neg h2]; rw [if_pos h3])
  have HU := Lib.hid (fun wq => span_any 65 90 (by omega) (by omega) wq)
  have HLo := Lib.hid (fun wq => span_any 97 122 (by omega) (by omega) wq)
  have HDi := Lib.hid (fun wq => span_any 48 57 (by omega) (by omega) wq)
  have HLe := Lib.hid (fun wq => with_any upS loS wq)
  have HAl := Lib.hid (fun wq => with_any leS diS wq)
  rw [show spanM 65 90 = upS from rfl] at HU
  rw [show spanM 97 122 = loS from rfl] at HLo
  rw [show spanM 48 57 = diS from rfl] at HDi
  rw [show (fun x => upS x || loS x) = leS from rfl] at HLe
  rw [show (fun x => leS x || diS x) = alS from rfl] at HAl
  unfold setV at HU HLo HDi HLe HAl
  have t0 := toList_F h0
  have t1 := toList_F h1
  have t2 := toList_F h2
  have t3 := toList_T h3
  clear h0 h1 h2 h3
  go_enter Try.func91, Try.ntmps91
  go_wp2_with fail
  refine (HU.out _).mono ?_
  rintro e w1 ⟨rfl, B1⟩
  have R1 := Lib.hid ((HasO.new w zeroS).below B1)
  have HB1 := Lib.hid (below_up (below_al (Below.refl _ _) _) B1)
  clear B1
  go_wp2_with fail
  refine (HLo.out _).mono ?_
  rintro e w2 ⟨rfl, B2⟩
  have R2 := Lib.hid (R1.out.below B2)
  have HB2 := Lib.hid (below_up HB1.out B2)
  clear B2
  go_wp2_with fail
  refine (HDi.out _).mono ?_
  rintro e w3 ⟨rfl, B3⟩
  have R3 := Lib.hid (R2.out.below B3)
  have HB3 := Lib.hid (below_up HB2.out B3)
  clear B3
  go_wp2_with fail
  refine (HLe.out _).mono ?_
  rintro e w4 ⟨rfl, B4⟩
  have R4 := Lib.hid ((((R3.out.alloc _).alloc _).alloc _).below B4)
  have U4 := Lib.hid ((((HasO.new w3 (rowS upS)).alloc _).alloc _).below B4)
  have L4 := Lib.hid (((show HasO _ (w3.heap.size + 1) (rowS loS) from by have h := HasO.new (w3.alloc (rowS upS)) (rowS loS); rwa [show (w3.alloc (rowS upS)).heap.size = w3.heap.size + 1 from by simp] at h).alloc _).below B4)
  have D4 := Lib.hid (HasO.below (show HasO _ (w3.heap.size + 1 + 1) (rowS diS) from heap_alloc3 w3 (rowS upS) (rowS loS) (rowS diS)) B4)
  have HB4 := Lib.hid (below_up (below_al (below_al (below_al HB3.out _) _) _) B4)
  have dd := fun o => (D4.out.alloc o).row
  have d0 := fun o => (dd o).1.1
  have d1 := fun o => (dd o).1.2
  have d2 := fun o => (dd o).2.1
  have d3 := fun o => (dd o).2.2
  clear B4 dd
  go_wp2_with fail
  refine (HAl.out _).mono ?_
  rintro e w5 ⟨rfl, B5⟩
  have R5 := Lib.hid ((R4.out.alloc _).below B5)
  have U5 := Lib.hid ((U4.out.alloc _).below B5)
  have L5 := Lib.hid ((L4.out.alloc _).below B5)
  have D5 := Lib.hid ((D4.out.alloc _).below B5)
  have E5 := Lib.hid ((HasO.new w4 (rowS leS)).below B5)
  have HB5 := Lib.hid (below_up (below_al HB4.out _) B5)
  clear B5 d0 d1 d2 d3
  have zz := fun o => (R5.out.alloc o).zero
  have z0 := fun o => (zz o).1.1
  have z1 := fun o => (zz o).1.2.1
  have z2 := fun o => (zz o).1.2.2.1
  have z3 := fun o => (zz o).1.2.2.2
  have y0 := fun o => (zz o).2.1
  have y1 := fun o => (zz o).2.2.1
  have y2 := fun o => (zz o).2.2.2.1
  have y3 := fun o => (zz o).2.2.2.2
  clear zz
  have vv := fun o => (U5.out.alloc o).row
  have v0 := fun o => (vv o).1.1
  have v1 := fun o => (vv o).1.2
  have v2 := fun o => (vv o).2.1
  have v3 := fun o => (vv o).2.2
  clear vv
  go_wp2_with fail
  refine bodyPost_ret (res_named (m := upS) _ true rfl rfl (R5.out.alloc _).copy) rfl ?_
  rw [HC.out]
  refine ⟨upS, rfl, fun x _ => ?_, below_copy (below_al HB5.out _) (Nat.le_refl _) _ _ _ _⟩
  unfold upS spanM letterF
  rw [Bool.eq_iff_iff]
  simp
  all_goals omega
set_option maxRecDepth 100000 in
set_option maxHeartbeats 4000000 in
theorem named_lower (s : ByteArray) (w : World) (h0 : Tx.bs s ≠ [97, 108, 112, 104, 97]) (h1 : Tx.bs s ≠ [100, 105, 103, 105, 116]) (h2 : Tx.bs s ≠ [97, 108, 110, 117, 109]) (h3 : Tx.bs s ≠ [117, 112, 112, 101, 114]) (h4 : Tx.bs s = [108, 111, 119, 101, 114]) : Calls Try.prog 91 #[.string s] w (NamedP w (clsF (Tx.bs s))) := by
  have HC : Hid (clsF (Tx.bs s) = some (fun n => letterF n && decide (97 ≤ n))) := Lib.hid (by unfold clsF; rw [if_neg h0]; rw [if_neg h1]; rw [if_neg h2]; rw [if_neg h3]; rw [if_pos h4])
  have HU := Lib.hid (fun wq => span_any 65 90 (by omega) (by omega) wq)
  have HLo := Lib.hid (fun wq => span_any 97 122 (by omega) (by omega) wq)
  have HDi := Lib.hid (fun wq => span_any 48 57 (by omega) (by omega) wq)
  have HLe := Lib.hid (fun wq => with_any upS loS wq)
  have HAl := Lib.hid (fun wq => with_any leS diS wq)
  rw [show spanM 65 90 = upS from rfl] at HU
  rw [show spanM 97 122 = loS from rfl] at HLo
  rw [show spanM 48 57 = diS from rfl] at HDi
  rw [show (fun x => upS x || loS x) = leS from rfl] at HLe
  rw [show (fun x => leS x || diS x) = alS from rfl] at HAl
  unfold setV at HU HLo HDi HLe HAl
  have t0 := toList_F h0
  have t1 := toList_F h1
  have t2 := toList_F h2
  have t3 := toList_F h3
  have t4 := toList_T h4
  clear h0 h1 h2 h3 h4
  go_enter Try.func91, Try.ntmps91
  go_wp2_with fail
  refine (HU.out _).mono ?_
  rintro e w1 ⟨rfl, B1⟩
  have R1 := Lib.hid ((HasO.new w zeroS).below B1)
  have HB1 := Lib.hid (below_up (below_al (Below.refl _ _) _) B1)
  clear B1
  go_wp2_with fail
  refine (HLo.out _).mono ?_
  rintro e w2 ⟨rfl, B2⟩
  have R2 := Lib.hid (R1.out.below B2)
  have HB2 := Lib.hid (below_up HB1.out B2)
  clear B2
  go_wp2_with fail
  refine (HDi.out _).mono ?_
  rintro e w3 ⟨rfl, B3⟩
  have R3 := Lib.hid (R2.out.below B3)
  have HB3 := Lib.hid (below_up HB2.out B3)
  clear B3
  go_wp2_with fail
  refine (HLe.out _).mono ?_
  rintro e w4 ⟨rfl, B4⟩
  have R4 := Lib.hid ((((R3.out.alloc _).alloc _).alloc _).below B4)
  have U4 := Lib.hid ((((HasO.new w3 (rowS upS)).alloc _).alloc _).below B4)
  have L4 := Lib.hid (((show HasO _ (w3.heap.size + 1) (rowS loS) from by have h := HasO.new (w3.alloc (rowS upS)) (rowS loS); rwa [show (w3.alloc (rowS upS)).heap.size = w3.heap.size + 1 from by simp] at h).alloc _).below B4)
  have D4 := Lib.hid (HasO.below (show HasO _ (w3.heap.size + 1 + 1) (rowS diS) from heap_alloc3 w3 (rowS upS) (rowS loS) (rowS diS)) B4)
  have HB4 := Lib.hid (below_up (below_al (below_al (below_al HB3.out _) _) _) B4)
  have dd := fun o => (D4.out.alloc o).row
  have d0 := fun o => (dd o).1.1
  have d1 := fun o => (dd o).1.2
  have d2 := fun o => (dd o).2.1
  have d3 := fun o => (dd o).2.2
  clear B4 dd
  go_wp2_with fail
  refine (HAl.out _).mono ?_
  rintro e w5 ⟨rfl, B5⟩
  have R5 := Lib.hid ((R4.out.alloc _).below B5)
  have U5 := Lib.hid ((U4.out.alloc _).below B5)
  have L5 := Lib.hid ((L4.out.alloc _).below B5)
  have D5 := Lib.hid ((D4.out.alloc _).below B5)
  have E5 := Lib.hid ((HasO.new w4 (rowS leS)).below B5)
  have HB5 := Lib.hid (below_up (below_al HB4.out _) B5)
  clear B5 d0 d1 d2 d3
  have zz := fun o => (R5.out.alloc o).zero
  have z0 := fun o => (zz o).1.1
  have z1 := fun o => (zz o).1.2.1
  have z2 := fun o => (zz o).1.2.2.1
  have z3 := fun o => (zz o).1.2.2.2
  have y0 := fun o => (zz o).2.1
  have y1 := fun o => (zz o).2.2.1
  have y2 := fun o => (zz o).2.2.2.1
  have y3 := fun o => (zz o).2.2.2.2
  clear zz
  have vv := fun o => (L5.out.alloc o).row
  have v0 := fun o => (vv o).1.1
  have v1 := fun o => (vv o).1.2
  have v2 := fun o => (vv o).2.1
  have v3 := fun o => (vv o).2.2
  clear vv
  go_wp2_with fail
  refine bodyPost_ret (res_named (m := loS) _ true rfl rfl (R5.out.alloc _).copy) rfl ?_
  rw [HC.out]
  refine ⟨loS, rfl, fun x _ => ?_, below_copy (below_al HB5.out _) (Nat.le_refl _) _ _ _ _⟩
  unfold loS spanM letterF
  rw [Bool.eq_iff_iff]
  simp
  all_goals omega
set_option maxRecDepth 100000 in
set_option maxHeartbeats 4000000 in
theorem named_space (s : ByteArray) (w : World) (h0 : Tx.bs s ≠ [97, 108, 112, 104, 97]) (h1 : Tx.bs s ≠ [100, 105, 103, 105, 116]) (h2 : Tx.bs s ≠ [97, 108, 110, 117, 109]) (h3 : Tx.bs s ≠ [117, 112, 112, 101, 114]) (h4 : Tx.bs s ≠ [108, 111, 119, 101, 114]) (h5 : Tx.bs s = [115, 112, 97, 99, 101]) : Calls Try.prog 91 #[.string s] w (NamedP w (clsF (Tx.bs s))) := by
  have HC : Hid (clsF (Tx.bs s) = some (fun n => (decide (9 ≤ n) && decide (n ≤ 13)) || decide (n = 32))) := Lib.hid (by unfold clsF; rw [if_neg h0]; rw [if_neg h1]; rw [if_neg h2]; rw [if_neg h3]; rw [if_neg h4]; rw [if_pos h5])
  have HU := Lib.hid (fun wq => span_any 65 90 (by omega) (by omega) wq)
  have HLo := Lib.hid (fun wq => span_any 97 122 (by omega) (by omega) wq)
  have HDi := Lib.hid (fun wq => span_any 48 57 (by omega) (by omega) wq)
  have HLe := Lib.hid (fun wq => with_any upS loS wq)
  have HAl := Lib.hid (fun wq => with_any leS diS wq)
  rw [show spanM 65 90 = upS from rfl] at HU
  rw [show spanM 97 122 = loS from rfl] at HLo
  rw [show spanM 48 57 = diS from rfl] at HDi
  rw [show (fun x => upS x || loS x) = leS from rfl] at HLe
  rw [show (fun x => leS x || diS x) = alS from rfl] at HAl
  unfold setV at HU HLo HDi HLe HAl
  have t0 := toList_F h0
  have t1 := toList_F h1
  have t2 := toList_F h2
  have t3 := toList_F h3
  have t4 := toList_F h4
  have t5 := toList_T h5
  clear h0 h1 h2 h3 h4 h5
  have HS1 := Lib.hid (fun wq => span_any 9 13 (by omega) (by omega) wq)
  have HS2 := Lib.hid (fun wq => span_any 32 32 (by omega) (by omega) wq)
  have HS3 := Lib.hid (fun wq => with_any (spanM 9 13) (spanM 32 32) wq)
  unfold setV at HS1 HS2 HS3
  go_enter Try.func91, Try.ntmps91
  go_wp2_with fail
  refine (HU.out _).mono ?_
  rintro e w1 ⟨rfl, B1⟩
  have R1 := Lib.hid ((HasO.new w zeroS).below B1)
  have HB1 := Lib.hid (below_up (below_al (Below.refl _ _) _) B1)
  clear B1
  go_wp2_with fail
  refine (HLo.out _).mono ?_
  rintro e w2 ⟨rfl, B2⟩
  have R2 := Lib.hid (R1.out.below B2)
  have HB2 := Lib.hid (below_up HB1.out B2)
  clear B2
  go_wp2_with fail
  refine (HDi.out _).mono ?_
  rintro e w3 ⟨rfl, B3⟩
  have R3 := Lib.hid (R2.out.below B3)
  have HB3 := Lib.hid (below_up HB2.out B3)
  clear B3
  go_wp2_with fail
  refine (HLe.out _).mono ?_
  rintro e w4 ⟨rfl, B4⟩
  have R4 := Lib.hid ((((R3.out.alloc _).alloc _).alloc _).below B4)
  have U4 := Lib.hid ((((HasO.new w3 (rowS upS)).alloc _).alloc _).below B4)
  have L4 := Lib.hid (((show HasO _ (w3.heap.size + 1) (rowS loS) from by have h := HasO.new (w3.alloc (rowS upS)) (rowS loS); rwa [show (w3.alloc (rowS upS)).heap.size = w3.heap.size + 1 from by simp] at h).alloc _).below B4)
  have D4 := Lib.hid (HasO.below (show HasO _ (w3.heap.size + 1 + 1) (rowS diS) from heap_alloc3 w3 (rowS upS) (rowS loS) (rowS diS)) B4)
  have HB4 := Lib.hid (below_up (below_al (below_al (below_al HB3.out _) _) _) B4)
  have dd := fun o => (D4.out.alloc o).row
  have d0 := fun o => (dd o).1.1
  have d1 := fun o => (dd o).1.2
  have d2 := fun o => (dd o).2.1
  have d3 := fun o => (dd o).2.2
  clear B4 dd
  go_wp2_with fail
  refine (HAl.out _).mono ?_
  rintro e w5 ⟨rfl, B5⟩
  have R5 := Lib.hid ((R4.out.alloc _).below B5)
  have U5 := Lib.hid ((U4.out.alloc _).below B5)
  have L5 := Lib.hid ((L4.out.alloc _).below B5)
  have D5 := Lib.hid ((D4.out.alloc _).below B5)
  have E5 := Lib.hid ((HasO.new w4 (rowS leS)).below B5)
  have HB5 := Lib.hid (below_up (below_al HB4.out _) B5)
  clear B5 d0 d1 d2 d3
  go_wp2_with fail
  refine (HS1.out _).mono ?_
  rintro e w6 ⟨rfl, C1⟩
  have HB6 := Lib.hid (below_up (below_al HB5.out _) C1)
  have R6 := Lib.hid ((R5.out.alloc _).below C1)
  clear C1
  go_wp2_with fail
  refine (HS2.out _).mono ?_
  rintro e w7 ⟨rfl, C2⟩
  have HB7 := Lib.hid (below_up HB6.out C2)
  have R7 := Lib.hid (R6.out.below C2)
  clear C2
  go_wp2_with fail
  refine (HS3.out _).mono ?_
  rintro e w8 ⟨rfl, C3⟩
  have HB8 := Lib.hid (below_up HB7.out C3)
  have R8 := Lib.hid (R7.out.below C3)
  clear C3
  have zz := (R8.out).zero
  have z0 := (zz).1.1
  have z1 := (zz).1.2.1
  have z2 := (zz).1.2.2.1
  have z3 := (zz).1.2.2.2
  have y0 := (zz).2.1
  have y1 := (zz).2.2.1
  have y2 := (zz).2.2.2.1
  have y3 := (zz).2.2.2.2
  clear zz
  go_wp2_with fail
  refine bodyPost_ret (res_named (m := (fun x => spanM 9 13 x || spanM 32 32 x)) _ true rfl rfl R8.out.copy) rfl ?_
  rw [HC.out]
  refine ⟨(fun x => spanM 9 13 x || spanM 32 32 x), rfl, fun x _ => ?_, below_copy HB8.out (Nat.le_refl _) _ _ _ _⟩
  unfold spanM
  rw [Bool.eq_iff_iff]
  simp
  all_goals omega
set_option maxRecDepth 100000 in
set_option maxHeartbeats 4000000 in
theorem named_punct (s : ByteArray) (w : World) (h0 : Tx.bs s ≠ [97, 108, 112, 104, 97]) (h1 : Tx.bs s ≠ [100, 105, 103, 105, 116]) (h2 : Tx.bs s ≠ [97, 108, 110, 117, 109]) (h3 : Tx.bs s ≠ [117, 112, 112, 101, 114]) (h4 : Tx.bs s ≠ [108, 111, 119, 101, 114]) (h5 : Tx.bs s ≠ [115, 112, 97, 99, 101]) (h6 : Tx.bs s = [112, 117, 110, 99, 116]) : Calls Try.prog 91 #[.string s] w (NamedP w (clsF (Tx.bs s))) := by
  have HC : Hid (clsF (Tx.bs s) = some (fun n => ((decide (33 ≤ n) && decide (n ≤ 126)) && !letterF n) && !digitF n)) := Lib.hid (by unfold clsF; rw [if_neg h0]; rw [if_neg h1]; rw [if_neg h2]; rw [if_neg h3]; rw [if_neg h4]; rw [if_neg h5]; rw [if_pos h6])
  have HU := Lib.hid (fun wq => span_any 65 90 (by omega) (by omega) wq)
  have HLo := Lib.hid (fun wq => span_any 97 122 (by omega) (by omega) wq)
  have HDi := Lib.hid (fun wq => span_any 48 57 (by omega) (by omega) wq)
  have HLe := Lib.hid (fun wq => with_any upS loS wq)
  have HAl := Lib.hid (fun wq => with_any leS diS wq)
  rw [show spanM 65 90 = upS from rfl] at HU
  rw [show spanM 97 122 = loS from rfl] at HLo
  rw [show spanM 48 57 = diS from rfl] at HDi
  rw [show (fun x => upS x || loS x) = leS from rfl] at HLe
  rw [show (fun x => leS x || diS x) = alS from rfl] at HAl
  unfold setV at HU HLo HDi HLe HAl
  have t0 := toList_F h0
  have t1 := toList_F h1
  have t2 := toList_F h2
  have t3 := toList_F h3
  have t4 := toList_F h4
  have t5 := toList_F h5
  have t6 := toList_T h6
  clear h0 h1 h2 h3 h4 h5 h6
  have HS1 := Lib.hid (fun wq => span_any 33 126 (by omega) (by omega) wq)
  have HS2 := Lib.hid (fun wq => compl_any (spanM 33 126) wq)
  have HS3 := Lib.hid (fun wq => with_any alS (fun x => !spanM 33 126 x) wq)
  have HS4 := Lib.hid (fun wq => compl_any (fun x => alS x || !spanM 33 126 x) wq)
  unfold setV at HS1 HS2 HS3 HS4
  go_enter Try.func91, Try.ntmps91
  go_wp2_with fail
  refine (HU.out _).mono ?_
  rintro e w1 ⟨rfl, B1⟩
  have R1 := Lib.hid ((HasO.new w zeroS).below B1)
  have HB1 := Lib.hid (below_up (below_al (Below.refl _ _) _) B1)
  clear B1
  go_wp2_with fail
  refine (HLo.out _).mono ?_
  rintro e w2 ⟨rfl, B2⟩
  have R2 := Lib.hid (R1.out.below B2)
  have HB2 := Lib.hid (below_up HB1.out B2)
  clear B2
  go_wp2_with fail
  refine (HDi.out _).mono ?_
  rintro e w3 ⟨rfl, B3⟩
  have R3 := Lib.hid (R2.out.below B3)
  have HB3 := Lib.hid (below_up HB2.out B3)
  clear B3
  go_wp2_with fail
  refine (HLe.out _).mono ?_
  rintro e w4 ⟨rfl, B4⟩
  have R4 := Lib.hid ((((R3.out.alloc _).alloc _).alloc _).below B4)
  have U4 := Lib.hid ((((HasO.new w3 (rowS upS)).alloc _).alloc _).below B4)
  have L4 := Lib.hid (((show HasO _ (w3.heap.size + 1) (rowS loS) from by have h := HasO.new (w3.alloc (rowS upS)) (rowS loS); rwa [show (w3.alloc (rowS upS)).heap.size = w3.heap.size + 1 from by simp] at h).alloc _).below B4)
  have D4 := Lib.hid (HasO.below (show HasO _ (w3.heap.size + 1 + 1) (rowS diS) from heap_alloc3 w3 (rowS upS) (rowS loS) (rowS diS)) B4)
  have HB4 := Lib.hid (below_up (below_al (below_al (below_al HB3.out _) _) _) B4)
  have dd := fun o => (D4.out.alloc o).row
  have d0 := fun o => (dd o).1.1
  have d1 := fun o => (dd o).1.2
  have d2 := fun o => (dd o).2.1
  have d3 := fun o => (dd o).2.2
  clear B4 dd
  go_wp2_with fail
  refine (HAl.out _).mono ?_
  rintro e w5 ⟨rfl, B5⟩
  have R5 := Lib.hid ((R4.out.alloc _).below B5)
  have U5 := Lib.hid ((U4.out.alloc _).below B5)
  have L5 := Lib.hid ((L4.out.alloc _).below B5)
  have D5 := Lib.hid ((D4.out.alloc _).below B5)
  have E5 := Lib.hid ((HasO.new w4 (rowS leS)).below B5)
  have HB5 := Lib.hid (below_up (below_al HB4.out _) B5)
  clear B5 d0 d1 d2 d3
  have HCo := Lib.hid (fun m wq => compl_any m wq)
  unfold setV at HCo
  have HX := Lib.hid (HasO.new w5 (rowS alS))
  have HRX := Lib.hid (R5.out.alloc (rowS alS))
  have HBX := Lib.hid (below_al HB5.out (rowS alS))
  have hne : w5.heap.size ≠ w.heap.size := by have := lt_some R5.out; omega
  go_wp2_with fail
  go_region_held3 (fun W => (W.cell? ⟨w5.heap.size, 0, none⟩ = some (.int .u64 (word alS 0 : Nat)) ∧ W.cell? ⟨w5.heap.size, 1, none⟩ = some (.int .u64 (word alS 1 : Nat))) ∧ W.cell? ⟨w5.heap.size, 2, none⟩ = some (.int .u64 (word alS 2 : Nat)) ∧ W.cell? ⟨w5.heap.size, 3, none⟩ = some (.int .u64 (word alS 3 : Nat))) (first | exact A9.out.row | exact A8.out.row | exact A7.out.row | exact A6.out.row | exact HX.out.row | exact ((((A9.out.other hne).other hne).other hne).other hne).row)
    (first
    | (go_at_call 83; refine (HS1.out _).mono ?_; rintro e w6 ⟨rfl, C1⟩; have A6 := Lib.hid (show HasO w6 _ _ from (C1.block _ (lt_some HX.out)).trans HX.out); have R6 := Lib.hid (show HasO w6 _ _ from (C1.block _ (lt_some HRX.out)).trans HRX.out); have HB6 := Lib.hid (below_up HBX.out.drew C1); clear C1)
    | (go_at_call 80; refine (HS3.out _).mono ?_; rintro e w8 ⟨rfl, C3⟩; have A8 := Lib.hid (show HasO w8 _ _ from (C3.block _ (lt_some A7.out)).trans A7.out); have R8 := Lib.hid (show HasO w8 _ _ from (C3.block _ (lt_some R7.out)).trans R7.out); have HB8 := Lib.hid (show Below w.heap.size w w8 from (first_below HB7.out C3)); clear C3)
    | (go_at_call 81; refine (HCo.out _ _).mono ?_; rintro e w7 ⟨rfl, C2⟩; first
      | (have A9 := Lib.hid (show HasO w7 _ _ from (C2.block _ (lt_some A8.out)).trans A8.out); have R9 := Lib.hid (show HasO w7 _ _ from (C2.block _ (lt_some R8.out)).trans R8.out); have HB9 := Lib.hid (show Below w.heap.size w w7 from (first_below HB8.out C2)); have zz := R9.out.zero; obtain ⟨⟨z0, z1, z2, z3⟩, y0, y1, y2, y3⟩ := zz; clear C2)
      | (have A7 := Lib.hid (show HasO w7 _ _ from (C2.block _ (lt_some A6.out)).trans A6.out); have R7 := Lib.hid (show HasO w7 _ _ from (C2.block _ (lt_some R6.out)).trans R6.out); have HB7 := Lib.hid (show Below w.heap.size w w7 from (first_below HB6.out C2)); clear C2)))
  go_wp2_with fail
  refine bodyPost_ret (res_named (m := (fun x => !alS x && spanM 33 126 x)) _ true rfl rfl R9.out.copy) rfl ?_
  rw [HC.out]
  refine ⟨(fun x => !alS x && spanM 33 126 x), rfl, fun x _ => ?_, below_copy HB9.out (Nat.le_refl _) _ _ _ _⟩
  unfold alS leS upS loS diS spanM letterF digitF
  rw [Bool.eq_iff_iff]
  simp
  all_goals omega
set_option maxRecDepth 100000 in
set_option maxHeartbeats 4000000 in
theorem named_none (s : ByteArray) (w : World) (h0 : Tx.bs s ≠ [97, 108, 112, 104, 97]) (h1 : Tx.bs s ≠ [100, 105, 103, 105, 116]) (h2 : Tx.bs s ≠ [97, 108, 110, 117, 109]) (h3 : Tx.bs s ≠ [117, 112, 112, 101, 114]) (h4 : Tx.bs s ≠ [108, 111, 119, 101, 114]) (h5 : Tx.bs s ≠ [115, 112, 97, 99, 101]) (h6 : Tx.bs s ≠ [112, 117, 110, 99, 116]) : Calls Try.prog 91 #[.string s] w (NamedP w (clsF (Tx.bs s))) := by
  have HC : Hid (clsF (Tx.bs s) = none) := Lib.hid (by unfold clsF; rw [if_neg h0]; rw [if_neg h1]; rw [if_neg h2]; rw [if_neg h3]; rw [if_neg h4]; rw [if_neg h5]; rw [if_neg h6])
  have HU := Lib.hid (fun wq => span_any 65 90 (by omega) (by omega) wq)
  have HLo := Lib.hid (fun wq => span_any 97 122 (by omega) (by omega) wq)
  have HDi := Lib.hid (fun wq => span_any 48 57 (by omega) (by omega) wq)
  have HLe := Lib.hid (fun wq => with_any upS loS wq)
  have HAl := Lib.hid (fun wq => with_any leS diS wq)
  rw [show spanM 65 90 = upS from rfl] at HU
  rw [show spanM 97 122 = loS from rfl] at HLo
  rw [show spanM 48 57 = diS from rfl] at HDi
  rw [show (fun x => upS x || loS x) = leS from rfl] at HLe
  rw [show (fun x => leS x || diS x) = alS from rfl] at HAl
  unfold setV at HU HLo HDi HLe HAl
  have t0 := toList_F h0
  have t1 := toList_F h1
  have t2 := toList_F h2
  have t3 := toList_F h3
  have t4 := toList_F h4
  have t5 := toList_F h5
  have t6 := toList_F h6
  clear h0 h1 h2 h3 h4 h5 h6
  go_enter Try.func91, Try.ntmps91
  go_wp2_with fail
  refine (HU.out _).mono ?_
  rintro e w1 ⟨rfl, B1⟩
  have R1 := Lib.hid ((HasO.new w zeroS).below B1)
  have HB1 := Lib.hid (below_up (below_al (Below.refl _ _) _) B1)
  clear B1
  go_wp2_with fail
  refine (HLo.out _).mono ?_
  rintro e w2 ⟨rfl, B2⟩
  have R2 := Lib.hid (R1.out.below B2)
  have HB2 := Lib.hid (below_up HB1.out B2)
  clear B2
  go_wp2_with fail
  refine (HDi.out _).mono ?_
  rintro e w3 ⟨rfl, B3⟩
  have R3 := Lib.hid (R2.out.below B3)
  have HB3 := Lib.hid (below_up HB2.out B3)
  clear B3
  go_wp2_with fail
  refine (HLe.out _).mono ?_
  rintro e w4 ⟨rfl, B4⟩
  have R4 := Lib.hid ((((R3.out.alloc _).alloc _).alloc _).below B4)
  have U4 := Lib.hid ((((HasO.new w3 (rowS upS)).alloc _).alloc _).below B4)
  have L4 := Lib.hid (((show HasO _ (w3.heap.size + 1) (rowS loS) from by have h := HasO.new (w3.alloc (rowS upS)) (rowS loS); rwa [show (w3.alloc (rowS upS)).heap.size = w3.heap.size + 1 from by simp] at h).alloc _).below B4)
  have D4 := Lib.hid (HasO.below (show HasO _ (w3.heap.size + 1 + 1) (rowS diS) from heap_alloc3 w3 (rowS upS) (rowS loS) (rowS diS)) B4)
  have HB4 := Lib.hid (below_up (below_al (below_al (below_al HB3.out _) _) _) B4)
  have dd := fun o => (D4.out.alloc o).row
  have d0 := fun o => (dd o).1.1
  have d1 := fun o => (dd o).1.2
  have d2 := fun o => (dd o).2.1
  have d3 := fun o => (dd o).2.2
  clear B4 dd
  go_wp2_with fail
  refine (HAl.out _).mono ?_
  rintro e w5 ⟨rfl, B5⟩
  have R5 := Lib.hid ((R4.out.alloc _).below B5)
  have U5 := Lib.hid ((U4.out.alloc _).below B5)
  have L5 := Lib.hid ((L4.out.alloc _).below B5)
  have D5 := Lib.hid ((D4.out.alloc _).below B5)
  have E5 := Lib.hid ((HasO.new w4 (rowS leS)).below B5)
  have HB5 := Lib.hid (below_up (below_al HB4.out _) B5)
  clear B5 d0 d1 d2 d3
  have zz := fun o => (R5.out.alloc o).zero
  have z0 := fun o => (zz o).1.1
  have z1 := fun o => (zz o).1.2.1
  have z2 := fun o => (zz o).1.2.2.1
  have z3 := fun o => (zz o).1.2.2.2
  have y0 := fun o => (zz o).2.1
  have y1 := fun o => (zz o).2.2.1
  have y2 := fun o => (zz o).2.2.2.1
  have y3 := fun o => (zz o).2.2.2.2
  clear zz
  go_wp2_with fail
  refine bodyPost_ret (res_named (m := noSet) _ false rfl rfl (R5.out.alloc _).copy0) rfl ?_
  rw [HC.out]
  exact ⟨noSet, rfl, below_copy (below_al HB5.out _) (Nat.le_refl _) _ _ _ _⟩
/-- A name. -/
theorem named_any (s : ByteArray) (w : World) : Calls Try.prog 91 #[.string s] w (NamedP w (clsF (Tx.bs s))) := by
  by_cases h0 : Tx.bs s = [97, 108, 112, 104, 97]
  · exact named_alpha s w h0
  by_cases h1 : Tx.bs s = [100, 105, 103, 105, 116]
  · exact named_digit s w h0 h1
  by_cases h2 : Tx.bs s = [97, 108, 110, 117, 109]
  · exact named_alnum s w h0 h1 h2
  by_cases h3 : Tx.bs s = [117, 112, 112, 101, 114]
  · exact named_upper s w h0 h1 h2 h3
  by_cases h4 : Tx.bs s = [108, 111, 119, 101, 114]
  · exact named_lower s w h0 h1 h2 h3 h4
  by_cases h5 : Tx.bs s = [115, 112, 97, 99, 101]
  · exact named_space s w h0 h1 h2 h3 h4 h5
  by_cases h6 : Tx.bs s = [112, 117, 110, 99, 116]
  · exact named_punct s w h0 h1 h2 h3 h4 h5 h6
  exact named_none s w h0 h1 h2 h3 h4 h5 h6
end Px
end Go.Proofs.Ytgadomcbaenodaa

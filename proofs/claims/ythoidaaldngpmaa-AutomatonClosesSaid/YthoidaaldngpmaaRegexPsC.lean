/-
  The program's parser: sets, single bytes, anchors, quantifiers. Conditions: short patterns, at most a million nodes.
-/
import Derived.Test.YthoidaaldngpmaaRegexPsB
namespace Go.Proofs.Ythoidaaldngpmaa
open Go.RowKit
namespace Px
open Cm Rx
/-- A value's block is none of the first n. -/
def Late (n : Nat) (kv : Value) : Prop := ∀ g, kv.ownBlock = some g → n ≤ g
theorem Late.mono {n n' : Nat} {kv : Value} (h : Late n kv) (hn : n' ≤ n) : Late n' kv := fun g hg => Nat.le_trans hn (h g hg)
theorem late_nil (n : Nat) : Late n (.slice none 0 0) := fun g h => by cases h
theorem late_at {n g : Nat} (h : n ≤ g) (o : Nat) (sp : Option Nat) (l c : Nat) : Late n (.slice (some ⟨g, o, sp⟩) l c) := fun k hk => by
  have : g = k := by simpa [Value.ownBlock] using hk
  omega
/-- What a step of the parser leaves. -/
def PPost (w : World) (base rb : Nat) (s : ByteArray) (D : Int) (ks : List Value) (r : Res) (en : Ending) (w' : World) : Prop :=
  match r with
  | .ok (k, a, ns2) => en = .returned (.int .i64 k) ∧ ∃ ks2, St w base rb s a D ns2 (ks ++ ks2) w' ∧ ∀ kv ∈ ks2, Late w.heap.size kv
  | .error c => en = pan c ∧ Below base w w'
section
variable {w w0 w1 w2 : World} {base rb : Nat} {s : ByteArray} {a : Nat} {D : Int} {ns : List Nd} {ks : List Value}
/-- A step before, in the same call. -/
theorem PPost.before {r : Res} {en : Ending} {ks1 : List Value} (hb : Below base w w1) (hk : KeptP w w1) (h1 : ∀ kv ∈ ks1, Late w.heap.size kv) (h : PPost w1 base rb s D (ks ++ ks1) r en w2) : PPost w base rb s D ks r en w2 := by
  cases r with
  | error c => exact ⟨h.1, hb.trans h.2⟩
  | ok x =>
    obtain ⟨k, a, ns3⟩ := x
    obtain ⟨h2, ks2, ⟨h3, h5, h6⟩, h4⟩ := h
    refine ⟨h2, ks1 ++ ks2, ⟨by rw [← List.append_assoc]; exact h3, hb.trans h5, hk.trans h6⟩, fun kv hkv => ?_⟩
    rcases List.mem_append.1 hkv with hkv | hkv
    · exact h1 kv hkv
    · exact (h4 kv hkv).mono hb.size
theorem PPost.before' {r : Res} {en : Ending} (hb : Below base w w1) (hk : KeptP w w1) (h : PPost w1 base rb s D ks r en w2) : PPost w base rb s D ks r en w2 :=
  PPost.before (ks1 := []) hb hk (fun kv h => by cases h) (by rw [List.append_nil]; exact h)
theorem PPost_one {n : Nd} {k : Value} (h : St w base rb s a D (ns ++ [n]) (ks ++ [k]) w2) (hk : Late w.heap.size k) : PPost w base rb s D ks (.ok (ns.length, a, ns ++ [n])) (.returned (.int .i64 (ns.length : Int))) w2 :=
  ⟨rfl, [k], h, fun kv hkv => by rw [List.mem_singleton] at hkv; subst hkv; exact hk⟩
theorem add_St (h : St w0 base rb s a D ns ks w) (n : Nd) (k : Value) (hk : w.ownsRow base tInt 1 k n.kids.length (intsV n.kids)) (hl : ns.length ≤ 1000000) :
    Calls Try.prog 99 #[.pointer (some ⟨rb, 0, none⟩), ndV n k] w fun en w' => en = .returned (.int .i64 (ns.length : Int)) ∧ St w0 base rb s a D (ns ++ [n]) (ks ++ [k]) w' :=
  (add_any h.1 n k hk hl).mono fun _ _ hp => ⟨hp.1, hp.2.1, h.2.1.trans hp.2.2.1, h.2.2.trans hp.2.2.2⟩
theorem nil_own {B : Nat} : w.ownsRow B tInt 1 (.slice none 0 0) ([] : List Int).length (intsV []) := World.ownsRow_nil _ _ _ _
theorem setV_congr {m m' : Nat → Bool} (h : ∀ x, x < 256 → m x = m' x) : word m 0 = word m' 0 ∧ word m 1 = word m' 1 ∧ word m 2 = word m' 2 ∧ word m 3 = word m' 3 :=
  ⟨word_congr fun b hb => h _ (by omega), word_congr fun b hb => h _ (by omega), word_congr fun b hb => h _ (by omega), word_congr fun b hb => h _ (by omega)⟩
set_option maxRecDepth 100000 in
theorem addSet_St (h : St w0 base rb s a D ns ks w) (m m' : Nat → Bool) (hm : ∀ x, x < 256 → m x = m' x) (hl : ns.length ≤ 1000000) :
    Calls Try.prog 156 #[.pointer (some ⟨rb, 0, none⟩), setV m] w fun en w' => en = .returned (.int .i64 (ns.length : Int)) ∧ St w0 base rb s a D (ns ++ [setN m']) (ks ++ [.slice none 0 0]) w' := by
  have HA := Lib.hid (fun wq (hq : St w0 base rb s a D ns ks wq) => add_St hq (setN m') (.slice none 0 0) nil_own hl)
  have HS := Lib.hid (fun o => h.below ((Below.refl _ _).alloc (Nat.le_refl _) o))
  obtain ⟨e0, e1, e2, e3⟩ := setV_congr hm
  unfold setV
  rw [e0, e1, e2, e3]
  unfold ndV at HA
  simp only [setN] at HA
  clear h hm e0 e1 e2 e3
  generalize word m' 0 = x0 at HA ⊢
  generalize word m' 1 = x1 at HA ⊢
  generalize word m' 2 = x2 at HA ⊢
  generalize word m' 3 = x3 at HA ⊢
  go_enter Try.func156, Try.ntmps156
  go_wp2_with (go_at_call 99; refine (HA.out _ (HS.out _)).mono ?_; rintro en w1 ⟨rfl, S1⟩; have HS1 := Lib.hid S1; clear S1)
  go_ret
  exact ⟨rfl, HS1.out⟩
end
theorem one_own' {w : World} {B : Nat} (hb : B ≤ w.heap.size) (k : Int) : (w.alloc (.cells #[.int .i64 k] tInt)).ownsRow B tInt 1 (.slice (some ⟨w.heap.size, 0, none⟩) 1 1) ([k] : List Int).length (intsV [k]) :=
  ⟨rfl, .inr ⟨w.heap.size, 1, #[.int .i64 k], rfl, hb, heap_new w _, Nat.le_refl _, by unfold maxLen; omega, rfl, rfl⟩⟩
section
variable {w w0 : World} {base rb : Nat} {s : ByteArray} {a : Nat} {D : Int} {ns : List Nd} {ks : List Value}
/-- The byte of a single one. -/
theorem span_one (c : Nat) : spanM c c = putM noSet c := by
  funext x
  unfold spanM putM noSet
  rw [Bool.eq_iff_iff]
  simp only [Bool.or_eq_true, Bool.and_eq_true, decide_eq_true_eq, beq_iff_eq, Bool.false_eq_true, or_false]
  omega
set_option maxRecDepth 100000 in
theorem plain_T (h : St w0 base rb s a D ns ks w) (hs : s.size ≤ 1000000) {c : UInt8} (hx : (Tx.bs s)[a]? = some c) (hl : ns.length ≤ 1000000) :
    Calls Try.prog 145 #[.pointer (some ⟨rb, 0, none⟩)] w fun en w' => en = .returned (.int .i64 (ns.length : Int)) ∧ St w0 base rb s (a + 1) D (ns ++ [setN (putM noSet c.toNat)]) (ks ++ [.slice none 0 0]) w' := by
  have HN := Lib.hid (next_T h hs hx)
  have hc := c.toNat_lt
  have HSp := Lib.hid (fun wq => span_any c.toNat c.toNat (Nat.le_refl _) hc wq)
  have HA := Lib.hid (fun wq (hq : St w0 base rb s (a + 1) D ns ks wq) => addSet_St hq (spanM c.toNat c.toNat) (putM noSet c.toNat) (fun x _ => by rw [span_one]) hl)
  clear h hx
  go_enter Try.func145, Try.ntmps145
  go_wp2_with (go_at_call 158; refine HN.out.mono ?_; rintro en w1 ⟨rfl, S1⟩; have HS1 := Lib.hid S1; clear S1)
  go_wp2_with (go_at_call 157; refine (HSp.out _).mono ?_; rintro en w2 ⟨rfl, B2⟩; have HS2 := Lib.hid (HS1.out.below B2); clear B2)
  refine (HA.out _ HS2.out).mono ?_
  rintro en w3 ⟨rfl, S3⟩
  have HS3 := Lib.hid S3
  clear S3
  go_wp2_with fail
  go_ret
  exact ⟨rfl, HS3.out⟩
set_option maxRecDepth 100000 in
theorem plain_F (h : St w0 base rb s a D ns ks w) (hs : s.size ≤ 1000000) (ha : a ≤ s.size) (hx : (Tx.bs s)[a]? = none) :
    Calls Try.prog 145 #[.pointer (some ⟨rb, 0, none⟩)] w fun en w' => en = pan 40 ∧ Below base w0 w' := by
  have HN := Lib.hid (next_F h hs ha hx)
  clear h hx
  go_enter Try.func145, Try.ntmps145
  go_wp2_with (go_at_call 158; refine HN.out.mono ?_; rintro en w1 ⟨rfl, B1⟩)
  exact ⟨rfl, rfl, B1⟩
end
section
variable {w : World} {base rb : Nat} {s : ByteArray} {a : Nat} {D : Int} {ns : List Nd} {ks : List Value}
theorem atom_at {l : List UInt8} {p : Option (Nat → List Nd → Res)} {c : UInt8} (h : l[a]? = some c) (h40 : c ≠ 40) (h91 : c ≠ 91) (h46 : c ≠ 46) (h94 : c ≠ 94) (h36 : c ≠ 36) (hno : noAtom c = false) (h92 : c ≠ 92) : atomF l p a ns = .ok (ns.length, a + 1, ns ++ [setN (putM noSet c.toNat)]) := by
  unfold atomF
  rw [h]
  simp only
  rw [if_neg h40, if_neg h91, if_neg h46, if_neg h94, if_neg h36, hno, if_neg (by simp), if_neg h92]
set_option maxRecDepth 100000 in
theorem start_any (h : Prs w base rb s (a : Int) D ns ks) (hs : s.size ≤ 1000000) (ha : a ≤ s.size) (hl : ns.length ≤ 1000000) :
    Calls Try.prog 141 #[.pointer (some ⟨rb, 0, none⟩)] w (PPost w base rb s D ks (.ok (ns.length, a + 1, ns ++ [plainN 2]))) := by
  have HS := Lib.hid (fun q => ((St.start h).drewN q).setAt (a + 1))
  have HA := Lib.hid (fun wq (hq : St w base rb s (a + 1) D ns ks wq) => add_St hq (plainN 2) (.slice none 0 0) nil_own hl)
  unfold ndV at HA
  simp only [plainN, show ∀ j, word noSet j = 0 from fun j => word_none j] at HA
  obtain ⟨c0, c1, c2, hf⟩ := (St.start h).cells
  have f1 := hf 1
  clear h hf
  go_enter Try.func141, Try.ntmps141
  go_wp2_with (go_at_call 99; refine (HA.out _ (HS.out 0)).mono ?_; rintro en w1 ⟨rfl, S1⟩; have HS1 := Lib.hid S1; clear S1)
  go_ret
  exact PPost_one HS1.out (late_nil _)
set_option maxRecDepth 100000 in
theorem end_any (h : Prs w base rb s (a : Int) D ns ks) (hs : s.size ≤ 1000000) (ha : a ≤ s.size) (hl : ns.length ≤ 1000000) :
    Calls Try.prog 142 #[.pointer (some ⟨rb, 0, none⟩)] w (PPost w base rb s D ks (.ok (ns.length, a + 1, ns ++ [plainN 3]))) := by
  have HS := Lib.hid (fun q => ((St.start h).drewN q).setAt (a + 1))
  have HA := Lib.hid (fun wq (hq : St w base rb s (a + 1) D ns ks wq) => add_St hq (plainN 3) (.slice none 0 0) nil_own hl)
  unfold ndV at HA
  simp only [plainN, show ∀ j, word noSet j = 0 from fun j => word_none j] at HA
  obtain ⟨c0, c1, c2, hf⟩ := (St.start h).cells
  have f1 := hf 1
  clear h hf
  go_enter Try.func142, Try.ntmps142
  go_wp2_with (go_at_call 99; refine (HA.out _ (HS.out 0)).mono ?_; rintro en w1 ⟨rfl, S1⟩; have HS1 := Lib.hid S1; clear S1)
  go_ret
  exact PPost_one HS1.out (late_nil _)
theorem dot_set (x : Nat) (h : x < 256) : spanM 0 255 x = allSet x := by
  unfold spanM allSet noSet
  simp only [Bool.not_false, Bool.and_eq_true, decide_eq_true_eq]
  omega
set_option maxRecDepth 100000 in
theorem dot_any (h : Prs w base rb s (a : Int) D ns ks) (hs : s.size ≤ 1000000) (ha : a ≤ s.size) (hl : ns.length ≤ 1000000) :
    Calls Try.prog 140 #[.pointer (some ⟨rb, 0, none⟩)] w (PPost w base rb s D ks (.ok (ns.length, a + 1, ns ++ [setN allSet]))) := by
  have HS := Lib.hid (fun q => ((St.start h).drewN q).setAt (a + 1))
  have HSp := Lib.hid (fun wq => span_any 0 255 (by omega) (by omega) wq)
  have HA := Lib.hid (fun wq (hq : St w base rb s (a + 1) D ns ks wq) => addSet_St hq (spanM 0 255) allSet dot_set hl)
  obtain ⟨c0, c1, c2, hf⟩ := (St.start h).cells
  have f1 := hf 1
  clear h hf
  go_enter Try.func140, Try.ntmps140
  go_wp2_with (go_at_call 157; refine (HSp.out _).mono ?_; rintro en w2 ⟨rfl, B2⟩; have HS2 := Lib.hid ((HS.out 0).below B2); clear B2)
  refine (HA.out _ HS2.out).mono ?_
  rintro en w3 ⟨rfl, S3⟩
  have HS3 := Lib.hid S3
  clear S3
  go_wp2_with fail
  go_ret
  exact PPost_one HS3.out (late_nil _)
set_option maxRecDepth 100000 in
theorem escape_any (h : Prs w base rb s (a : Int) D ns ks) (hs : s.size ≤ 1000000) (ha : a < s.size) (hl : ns.length ≤ 1000000) :
    Calls Try.prog 143 #[.pointer (some ⟨rb, 0, none⟩)] w (PPost w base rb s D ks (match (Tx.bs s)[a + 1]? with | none => .error 40 | some b => .ok (ns.length, a + 2, ns ++ [setN (putM noSet b.toNat)]))) := by
  have HS := Lib.hid (fun q => ((St.start h).drewN q).setAt (a + 1))
  obtain ⟨c0, c1, c2, hf⟩ := (St.start h).cells
  have f1 := hf 1
  cases hx : (Tx.bs s)[a + 1]? with
  | none =>
    have HP := Lib.hid (fun q => plain_F (HS.out q) hs (by omega) hx)
    clear h hf hx
    go_enter Try.func143, Try.ntmps143
    go_wp2_with (go_at_call 145; refine (HP.out 0).mono ?_; rintro en w1 ⟨rfl, B1⟩)
    exact ⟨rfl, rfl, B1⟩
  | some b =>
    have HP := Lib.hid (fun q => plain_T (HS.out q) hs hx hl)
    clear h hf hx
    go_enter Try.func143, Try.ntmps143
    go_wp2_with (go_at_call 145; refine (HP.out 0).mono ?_; rintro en w1 ⟨rfl, S1⟩; have HS1 := Lib.hid S1; clear S1)
    go_ret
    exact PPost_one HS1.out (late_nil _)
set_option maxRecDepth 100000 in
theorem refuse_any (_h : Prs w base rb s (a : Int) D ns ks) :
    Calls Try.prog 144 #[.pointer (some ⟨rb, 0, none⟩)] w (PPost w base rb s D ks (.error 40)) := by
  clear _h
  go_enter Try.func144, Try.ntmps144
  go_wp2_with fail
  exact ⟨rfl, rfl, Below.refl _ _⟩
end
end Px
end Go.Proofs.Ythoidaaldngpmaa

/-
  The program's parser: a piece as a whole. Conditions: short patterns, at most a million nodes; what is called for a group, and for a class, does what the document says. The program's parser: kids that are gathered while nodes are made; join. Conditions: short patterns, at most a million nodes. The program's parser: alternative. Conditions: short patterns; what is called for a group, and for a class, does what the document says. The program's parser: pattern. Conditions: short patterns; what is called for a group, and for a class, does what the document says. The program's Parse: it makes what the document says (parseF); its deferred function catches the panics. Conditions: a class does what the document says; the library's variable holds a number. Items of classes, as plain mathematics. No conditions.
-/
import Derived.Test.YtgadomcbaenodaaRegexPsE
import Derived.Defers
import Derived.Recover
import Derived.Lib.IndexMore
namespace Go.Proofs.Ytgadomcbaenodaa
section
open Go.RowKit
namespace Px
open Cm Rx
section
variable {w : World} {base rb : Nat} {s : ByteArray} {a : Nat} {D : Int} {ns : List Nd} {ks : List Value}
/-- A piece. -/
theorem piece_all {p : Option (Nat → List Nd → Res)} (h : Prs w base rb s (a : Int) D ns ks) (hG : Glb base w) (hs : s.size ≤ 100000) (ha : a < s.size) (hp : POk s D p) (hadv : AdvO (Tx.bs s) p) (hC : ClassP s) (hl : ns.length + 4 * (s.size - a) ≤ 500000) (hm : moreF (Tx.bs s) true a = true) :
    Calls Try.prog 50 #[.pointer (some ⟨rb, 0, none⟩)] w (PPost w base rb s D ks (pieceG (Tx.bs s) p a ns)) := by
  have hx := Tx.bs_get? s a ha
  generalize s[a] = c at hx
  have hav : ∀ k a2 ns2, atomF (Tx.bs s) p a ns = .ok (k, a2, ns2) → a2 ≤ s.size ∧ ns2.length ≤ 1000000 := fun k a2 ns2 hr => by
    have := atom_adv hadv hr
    rw [Tx.bs_len] at this
    omega
  have hGq : ∀ q, Glb base (w.drewN q) := fun q => hG.below (below_drewN (Below.refl _ _) q)
  have hs2 : s.size ≤ 1000000 := by omega
  by_cases h40 : c = 40
  · subst h40
    exact piece_group h hs2 hx (by decide) (by decide) (fun q => step_40 q rb) (fun q => group_any (h.drewN q) (hGq q) hs2 hx hp hl) hav
  by_cases h91 : c = 91
  · subst h91
    refine piece_class (p := p) h hs2 hx (by decide) (by decide) (fun q => step_91 q rb) (fun q => ?_) hav
    have := hC (w.drewN q) base rb a D ns ks (hGq q) (h.drewN q) ha (by omega)
    rw [show atomF (Tx.bs s) p a ns = (match classF (Tx.bs s) (a + 1) with | none => .error 40 | some (m, a) => .ok (ns.length, a, ns ++ [setN m])) from by
      unfold atomF; rw [hx]; simp only [show ((91 : UInt8) = 40) = False from by decide, if_false, if_true]; generalize classF (Tx.bs s) (a + 1) = q; rcases q with _ | ⟨_, _⟩ <;> rfl]
    exact this
  by_cases h46 : c = 46
  · subst h46
    refine piece_dot (p := p) h hs2 hx (by decide) (by decide) (fun q => step_46 q rb) (fun q => ?_) hav
    rw [show atomF (Tx.bs s) p a ns = .ok (ns.length, a + 1, ns ++ [setN allSet]) from by unfold atomF; rw [hx]; rfl]
    exact dot_any (h.drewN q) hs2 (by omega) (by omega)
  by_cases h94 : c = 94
  · subst h94
    refine piece_start (p := p) h hs2 hx 94 rfl (.inl rfl) (fun q => step_94 q rb) (fun q => ?_) hav
    rw [show atomF (Tx.bs s) p a ns = .ok (ns.length, a + 1, ns ++ [plainN 2]) from by unfold atomF; rw [hx]; rfl]
    exact start_any (h.drewN q) hs2 (by omega) (by omega)
  by_cases h36 : c = 36
  · subst h36
    refine piece_end (p := p) h hs2 hx 36 rfl (.inr rfl) (fun q => step_36 q rb) (fun q => ?_) hav
    rw [show atomF (Tx.bs s) p a ns = .ok (ns.length, a + 1, ns ++ [plainN 3]) from by unfold atomF; rw [hx]; rfl]
    exact end_any (h.drewN q) hs2 (by omega) (by omega)
  by_cases h92 : c = 92
  · subst h92
    refine piece_escape (p := p) h hs2 hx (by decide) (by decide) (fun q => step_92 q rb) (fun q => ?_) hav
    rw [show atomF (Tx.bs s) p a ns = (match (Tx.bs s)[a + 1]? with | none => .error 40 | some b => .ok (ns.length, a + 2, ns ++ [setN (putM noSet b.toNat)])) from by
      unfold atomF; rw [hx]; simp only [show ((92 : UInt8) = 40) = False from by decide, show ((92 : UInt8) = 91) = False from by decide, show ((92 : UInt8) = 46) = False from by decide, show ((92 : UInt8) = 94) = False from by decide, show ((92 : UInt8) = 36) = False from by decide, show noAtom 92 = false from rfl, if_false, if_true, Bool.false_eq_true]; generalize (Tx.bs s)[a + 1]? = q; rcases q with _ | _ <;> rfl]
    exact escape_any (h.drewN q) hs2 ha (by omega)
  by_cases h42 : c = 42
  · subst h42
    refine piece_refuse (p := p) h hs2 hx (by decide) (by decide) (fun q => step_42 q rb) (fun q => ?_) hav
    rw [atom_no hx (by simp)]
    exact refuse_any (h.drewN q)
  by_cases h43 : c = 43
  · subst h43
    refine piece_refuse (p := p) h hs2 hx (by decide) (by decide) (fun q => step_43 q rb) (fun q => ?_) hav
    rw [atom_no hx (by simp)]
    exact refuse_any (h.drewN q)
  by_cases h63 : c = 63
  · subst h63
    refine piece_refuse (p := p) h hs2 hx (by decide) (by decide) (fun q => step_63 q rb) (fun q => ?_) hav
    rw [atom_no hx (by simp)]
    exact refuse_any (h.drewN q)
  by_cases h123 : c = 123
  · subst h123
    refine piece_refuse (p := p) h hs2 hx (by decide) (by decide) (fun q => step_123 q rb) (fun q => ?_) hav
    rw [atom_no hx (by simp)]
    exact refuse_any (h.drewN q)
  have h124 : c ≠ 124 := by
    rintro rfl
    unfold moreF at hm
    rw [hx] at hm
    cases hm
  have h41 : c ≠ 41 := by
    rintro rfl
    unfold moreF at hm
    rw [hx] at hm
    cases hm
  have hn : ∀ k : UInt8, c ≠ k → (c.toNat : Int) ≠ (k.toNat : Int) := fun k hk e => hk (UInt8.toNat_inj.1 (by omega))
  refine piece_plain (p := p) h hs2 hx h94 h36 (fun q => step_other q rb _ (hn 40 h40) (hn 91 h91) (hn 46 h46) (hn 94 h94) (hn 36 h36) (hn 92 h92) (hn 42 h42) (hn 43 h43) (hn 63 h63) (hn 123 h123)) (fun q => ?_) hav
  have hno : noAtom c = false := by
    unfold noAtom
    simp [h41, h124, h42, h43, h63, h123]
  rw [atom_at hx h40 h91 h46 h94 h36 hno h92]
  exact (plain_T (St.start (h.drewN q)) hs2 hx (by omega)).mono fun en w' hq => by
    obtain ⟨rfl, hq⟩ := hq
    exact PPost_one hq (late_nil _)
end
end Px
end
section
open Go.RowKit
namespace Px
open Cm Rx
/-- A row lies in none of the kids' blocks. -/
def Apart (v : Value) (ks : List Value) : Prop := ∀ kv ∈ ks, v.ownBlock = none ∨ kv.ownBlock ≠ v.ownBlock
section
variable {w w' w0 : World} {base rb : Nat} {s : ByteArray} {a d : Int} {ns : List Nd} {ks : List Value} {v : Value} {n : Nat} {xs : List Value} {C : Array Value} {B : Nat}
/-- Old blocks but a row of numbers stay. -/
theorem app_block (hg : (w.alloc (.cells C tInt)).grownBy w' v.ownBlock) {k : Nat} (hk : k < w.heap.size) (hne : some k ≠ v.ownBlock) : w'.heap[k]? = w.heap[k]? := by
  rw [hg.block k (by simp; omega) hne]
  exact Below.heap_alloc w _ k hk
theorem block_type {k : Nat} {cur : Array Value} {t : TypeId} (hv : w.ownsRow B tInt 1 v n xs) (hk : w.heap[k]? = some (.cells cur t (0, 0))) (ht : t ≠ tInt) : some k ≠ v.ownBlock := by
  intro hkv
  rcases hv.2 with ⟨rfl, _⟩ | ⟨g, cap, cur', rfl, _, hh, _⟩
  · simp [Value.ownBlock] at hkv
  · have : k = g := by simpa [Value.ownBlock] using hkv
    subst this
    rw [hk] at hh
    injection hh with hh
    injection hh with _ h2
    exact ht h2
theorem own_app {z m : Nat} {t : TypeId} {x : Value} {us : List Value} (hx : w.ownsRow B t z x m us) (hg : (w.alloc (.cells C tInt)).grownBy w' v.ownBlock) (hne : v.ownBlock = none ∨ x.ownBlock ≠ v.ownBlock) : w'.ownsRow B t z x m us := by
  refine ⟨hx.1, ?_⟩
  rcases hx.2 with h | ⟨g, cap, cur, hv, hbg, hh, r⟩
  · exact .inl h
  · refine .inr ⟨g, cap, cur, hv, hbg, (app_block hg (lt_some hh) ?_).trans hh, r⟩
    rcases hne with h | h
    · rw [h]; simp
    · intro e
      apply h
      rw [hv, ← e]; rfl
theorem Prs_app (h : Prs w base rb s a d ns ks) (hv : w.ownsRow B tInt 1 v n xs) (hap : Apart v ks) (hg : (w.alloc (.cells C tInt)).grownBy w' v.ownBlock) : Prs w' base rb s a d ns ks := by
  obtain ⟨x, hb, hh, hn⟩ := h
  refine ⟨x, hb, (app_block hg (lt_some hh) (block_type hv hh (by decide))).trans hh, hn.1, own_app hn.2.1 hg ?_, fun j c1 c2 => own_app (hn.2.2 j c1 c2) hg ?_⟩
  · rcases own_ne' hn.2.1 hv (by decide) with h | h
    · rcases hv.2 with ⟨rfl, _⟩ | ⟨g, cap, cur', rfl, _⟩
      · exact .inl rfl
      · right; rw [h]; simp [Value.ownBlock]
    · exact .inr h
  · exact hap _ (List.getElem_mem c1)
/-- What was there before the row was made stays. -/
theorem Kept_app (h0 : KeptP w0 w) (hb : w0.heap.size ≤ w.heap.size) (hv : w.ownsRow w0.heap.size tInt 1 v n xs) (hg : (w.alloc (.cells C tInt)).grownBy w' v.ownBlock) : KeptP w0 w' := fun k cur t h1 h2 h3 => by
  have h4 := h0 k cur t h1 h2 h3
  have hk := lt_some h3
  refine (app_block hg (by omega) ?_).trans h4
  intro hkv
  have := (hv.lt k hkv.symm).1
  omega
theorem Apart_app {g cap m : Nat} (h : Prs w base rb s a d ns ks) (hap : Apart v ks) (hat : v.ownBlock = some g ∨ g = w.heap.size + 1) : Apart (.slice (some ⟨g, 0, none⟩) m cap) ks := by
  obtain ⟨x, hb, hh, hn⟩ := h
  intro kv hkv
  right
  rcases hat with h1 | h1
  · rcases hap kv hkv with h2 | h2
    · rw [h2] at h1; cases h1
    · rw [h1] at h2; exact h2
  · obtain ⟨j, hj, rfl⟩ := List.mem_iff_getElem.1 hkv
    intro hkv2
    have := ((hn.2.2 j hj (by rw [← hn.1]; exact hj)).lt g hkv2).2
    omega
theorem Apart_more {ks2 : List Value} (hap : Apart v ks) (hv : w.ownsRow B tInt 1 v n xs) (hl : ∀ kv ∈ ks2, Late w.heap.size kv) : Apart v (ks ++ ks2) := by
  intro kv hkv
  rcases List.mem_append.1 hkv with hkv | hkv
  · exact hap kv hkv
  · rcases hv.2 with ⟨rfl, _⟩ | ⟨g, cap, cur', rfl, _, hh, _⟩
    · exact .inl rfl
    · right
      intro h2
      have h3 := hl kv hkv g (by rw [h2]; rfl)
      have := lt_some hh
      omega
theorem Apart_new {cap m : Nat} (h : Prs w base rb s a d ns ks) {g : Nat} (hg : w.heap.size ≤ g) : Apart (.slice (some ⟨g, 0, none⟩) m cap) ks := by
  obtain ⟨x, hb, hh, hn⟩ := h
  intro kv hkv
  right
  obtain ⟨j, hj, rfl⟩ := List.mem_iff_getElem.1 hkv
  intro hkv2
  have := ((hn.2.2 j hj (by rw [← hn.1]; exact hj)).lt g hkv2).2
  omega
theorem apart_nil : Apart (.slice none 0 0) ks := fun _ _ => .inl rfl
end
section
variable {P : Program} {ops : Array Oper} {rest : List Oper} {o : Oper} {a : Act} {Q : Exit → Act → World → Prop} {w : World} {t e : TypeId} {z : Value} {bytes : Nat}
/-- append of one new element onto a row that the call owns, and where the new row lies. -/
theorem app_at (hgd : o.guard = none) (ht : P.underlying t = some (.slice e)) (hinfo : (P.info? e).map (fun i => (i.zero, i.size, i.bytes)) = some (some z, 1, bytes)) (hz : z.cells.size = 1) (hby : bytes ≤ 24)
    (s x : Operand) (ho : o.op = .call { callee := .builtin .append, args := #[s, x], argTypes := #[t, t] })
    (base n : Nat) (l : List Value) (u : Value) (hu : u.oneCell' = true) (v : Value) (C : Array Value) (hs : a.eval s = v) (hown : w.ownsRow base e 1 v n l)
    (hx : a.eval x = .slice (some ⟨w.heap.size, 0, none⟩) 1 1) (hC : C.toList = [u])
    (hsz : n + 1 ≤ 100000000) (hbase : base ≤ w.heap.size)
    (h : ∀ g cap w', w'.ownsRow base e 1 (.slice (some ⟨g, 0, none⟩) (n + 1) cap) (n + 1) (l ++ [u]) → Below base w w' → (w.alloc (.cells C e)).grownBy w' v.ownBlock → (v.ownBlock = some g ∨ g = w.heap.size + 1) → wpList P ops Q rest (a.put o.dst (.slice (some ⟨g, 0, none⟩) (n + 1) cap)) w') :
    wpList P ops Q (o :: rest) a (w.alloc (.cells C e)) := by
  obtain ⟨i0, hi0, hz0, hz1, hz2⟩ := info_parts hinfo
  have hsize : (w.alloc (.cells C e)).heap.size = w.heap.size + 1 := by simp
  refine wpList_append_lies _ hgd s x t ho base e i0 z 1 bytes ht hi0 hz0 hz1 hz2 hz (by omega) v n l hs (hown.alloc _) ⟨w.heap.size, 0, none⟩ 1 1 [u] hx rfl (fun j y hy => ?_) ?_ (by omega) (by unfold maxLen; omega) ?_ (by omega) (w.heap.size + 1) hsize ?_
  · have he : (Addr.mk w.heap.size 0 none).add j = ⟨w.heap.size, j, none⟩ := by
      unfold Addr.add; split
      · rename_i h0; rw [h0]
      · simp
    rw [he, World.cell?_alloc_mark, ← hy, ← hC]; simp
  · intro y hy
    simp only [List.mem_singleton] at hy
    subst hy
    exact hu
  · have := Nat.mul_le_mul_left (n + 1) hby
    omega
  · intro g cap w' h1 h2 h3 _
    exact h g cap w' h1 (((Below.refl base w).alloc hbase _).trans (below_app (hown.alloc _) h2 (by omega))) h2 h3
end
section
variable {w0 w w' : World} {base rb : Nat} {s : ByteArray} {a : Nat} {D : Int} {ns : List Nd} {ks : List Value} {v : Value} {n : Nat} {xs : List Value} {C : Array Value}
theorem St_app (h : St w0 base rb s a D ns ks w) (hbase : base ≤ w0.heap.size) (hv : w.ownsRow w0.heap.size tInt 1 v n xs) (hap : Apart v ks) (hg : (w.alloc (.cells C tInt)).grownBy w' v.ownBlock) (hB : Below w0.heap.size w w') : St w0 base rb s a D ns ks w' :=
  ⟨Prs_app h.1 hv hap hg, h.2.1.trans (hB.mono hbase), Kept_app h.2.2 h.2.1.size hv hg⟩
/-- What 'join' leaves. -/
def JPost (w0 : World) (base rb : Nat) (s : ByteArray) (a : Nat) (D : Int) (ns : List Nd) (ks : List Value) (kind : Int) (kids : List Int) (v : Value) (en : Ending) (w' : World) : Prop :=
  match kids with
  | [k] => en = .returned (.int .i64 k) ∧ St w0 base rb s a D ns ks w'
  | _ => en = .returned (.int .i64 (ns.length : Int)) ∧ St w0 base rb s a D (ns ++ [manyN kind kids]) (ks ++ [v]) w'
set_option maxRecDepth 100000 in
set_option maxHeartbeats 2000000 in
theorem join_any (h : St w0 base rb s a D ns ks w) (hbase : base ≤ w0.heap.size) (hl : ns.length ≤ 1000000) (kind : Int) (kids : List Int) (h0 : kids ≠ []) (hv : w.ownsRow w0.heap.size tInt 1 v kids.length (intsV kids)) :
    Calls Try.prog 32 #[.pointer (some ⟨rb, 0, none⟩), .int .i64 kind, v] w (JPost w0 base rb s a D ns ks kind kids v) := by
  rcases kids with _ | ⟨k, _ | ⟨k2, kr⟩⟩
  · exact absurd rfl h0
  · obtain ⟨g, cc, cur, rfl, _, _⟩ := own_some hv (by simp)
    have g0 := hv.cellAt 0 (by simp)
    simp only [intsV, List.map_cons, List.map_nil, List.getElem?_cons_zero] at g0
    have HS := Lib.hid (fun q => h.drewN q)
    clear h hv h0
    go_enter Try.func32, Try.ntmps32
    go_wp2_with fail
    go_ret
    exact ⟨rfl, HS.out 0⟩
  · have HA := Lib.hid (add_St h (manyN kind (k :: k2 :: kr)) v (own_base hv hbase) hl)
    unfold ndV at HA
    simp only [manyN, show ∀ j, word noSet j = 0 from fun j => word_none j] at HA
    obtain ⟨A, cc, rfl⟩ := own_form hv
    obtain ⟨m, hm⟩ : ∃ m, (k :: k2 :: kr).length = m := ⟨_, rfl⟩
    have hm2 : 2 ≤ m := by rw [← hm]; simp
    rw [hm] at HA ⊢
    have e1 : ((m : Int) == 1) = false := by rw [beq_eq_false_iff_ne]; omega
    clear h hv h0 hm
    go_enter Try.func32, Try.ntmps32
    go_wp2_with (go_at_call 51; refine HA.out.mono ?_; rintro en w1 ⟨rfl, S1⟩; have HS1 := Lib.hid S1; clear S1)
    go_ret
    exact ⟨rfl, HS1.out⟩
end
end Px
end
section
open Go.RowKit
namespace Px
open Cm Rx
abbrev KRes := Except Int (List Int × Nat × List Nd)
/-- Between two rounds of a loop that gathers kids. -/
def GRel (lo : Nat) (s : ByteArray) (total : KRes) (rest : Nat → Nat → List Nd → List Int → KRes) (w0 : World) (base rb : Nat) (D : Int) (ks : List Value) (v : Value) (wr : World) : Prop :=
  ∃ (f a : Nat) (nsx : List Nd) (kids : List Int) (ks2 : List Value), total = rest f a nsx kids ∧ s.size < a + f ∧ a ≤ s.size ∧ nsx.length + 4 * (s.size - a) ≤ 500000 + lo ∧ kids.length ≤ a + 1 ∧ lo ≤ kids.length ∧ St w0 base rb s a D nsx (ks ++ ks2) wr ∧ (∀ kv ∈ ks2, Late w0.heap.size kv) ∧
    wr.ownsRow w0.heap.size tInt 1 v kids.length (intsV kids) ∧ Apart v (ks ++ ks2)
/-- How much is still to read. -/
def meas (s : ByteArray) (rb : Nat) (w : World) : Nat :=
  match w.cell? ⟨rb, 1, none⟩ with
  | some (.int _ a) => ((s.size : Int) + 1 - a).toNat
  | _ => 0
section
variable {lo : Nat} {w wr w1 w2 w3 : World} {base rb : Nat} {s : ByteArray} {D : Int} {ns nsx ns2 : List Nd} {ks ks2 ks3 : List Value} {total : KRes} {rest : Nat → Nat → List Nd → List Int → KRes} {v : Value}
theorem meas_ok {a : Nat} (h : St w1 base rb s a D ns ks w) (ha : a ≤ s.size) : meas s rb w = s.size + 1 - a := by
  obtain ⟨_, c1, _⟩ := h.cells
  unfold meas
  rw [c1]
  simp only
  omega
/-- One kid more, and the row that holds it. -/
theorem grel_ok {f a2 : Nat} {kids : List Int} {k : Int} {C : Array Value} {g cap : Nat} (ht : total = rest f a2 ns2 (kids ++ [k])) (hf : s.size < a2 + f) (ha2 : a2 ≤ s.size) (hn : ns2.length + 4 * (s.size - a2) ≤ 500000 + lo) (hk : kids.length + 1 ≤ a2 + 1) (hlo : lo ≤ kids.length)
    (hR : St w base rb s a2 D ns2 (ks ++ ks2 ++ ks3) w2) (hl2 : ∀ kv ∈ ks2, Late w.heap.size kv) (hl3 : ∀ kv ∈ ks3, Late wr.heap.size kv) (hw : w.heap.size ≤ wr.heap.size)
    (hv0 : wr.ownsRow w.heap.size tInt 1 v kids.length (intsV kids)) (hk2 : KeptP wr w2) (hap : Apart v (ks ++ ks2))
    (ho3 : w3.ownsRow w.heap.size tInt 1 (.slice (some ⟨g, 0, none⟩) (kids.length + 1) cap) (kids.length + 1) (intsV kids ++ [.int .i64 k])) (hb3 : Below w.heap.size w2 w3) (hg3 : (w2.alloc (.cells C tInt)).grownBy w3 v.ownBlock) (hat : v.ownBlock = some g ∨ g = w2.heap.size + 1) (hbase : base ≤ w.heap.size) :
    GRel lo s total rest w base rb D ks (.slice (some ⟨g, 0, none⟩) (kids.length + 1) cap) w3 ∧ meas s rb w3 = s.size + 1 - a2 := by
  have hv2 : w2.ownsRow w.heap.size tInt 1 v kids.length (intsV kids) := KeptX.own hv0 hk2 (by decide) (by decide)
  have hap2 : Apart v (ks ++ ks2 ++ ks3) := Apart_more hap hv0 hl3
  have hR3 := St_app hR hbase hv2 hap2 hg3 hb3
  have hR3' : St w base rb s a2 D ns2 (ks ++ (ks2 ++ ks3)) w3 := by rw [← List.append_assoc]; exact hR3
  refine ⟨⟨f, a2, ns2, kids ++ [k], ks2 ++ ks3, ht, hf, ha2, hn, by simpa using hk, by rw [List.length_append]; omega, hR3', fun kv hkv => ?_, ?_, ?_⟩, meas_ok hR3 ha2⟩
  · rcases List.mem_append.1 hkv with hkv | hkv
    · exact hl2 kv hkv
    · exact (hl3 kv hkv).mono hw
  · rw [List.length_append, List.length_singleton, show intsV (kids ++ [k]) = intsV kids ++ [Value.int .i64 k] from by simp [intsV]]
    exact ho3
  · rw [← List.append_assoc]; exact Apart_app hR.1 hap2 hat
end
section
variable {w : World} {base rb : Nat} {s : ByteArray} {at_ : Nat} {D : Int} {ns : List Nd} {ks : List Value}
/-- What the end of 'alternative' makes of its kids. -/
def altEnd (x : KRes) : Res :=
  match x with
  | .error e => .error e
  | .ok ([], a, ns1) => .ok (ns1.length, a, ns1 ++ [plainN 0])
  | .ok ([k], a, ns1) => .ok (k, a, ns1)
  | .ok (kids, a, ns1) => .ok (ns1.length, a, ns1 ++ [manyN 4 kids])
theorem altF_eq {l : List UInt8} {p : Option (Nat → List Nd → Res)} (hp : AdvO l p) (ha : at_ ≤ l.length) : altF l p true at_ ns = altEnd (piecesG l p (l.length + 1) at_ ns []) := by
  rw [piecesG_eq _ _ _ _ (by omega) ha hp]
  unfold altF altEnd
  rfl
/-- What 'join' makes of kids. -/
def joinR (kind : Int) (kids : List Int) (a : Nat) (nsx : List Nd) : Res :=
  match kids with
  | [k] => .ok (k, a, nsx)
  | kids => .ok (nsx.length, a, nsx ++ [manyN kind kids])
/-- The end of 'join', in the whole's words. -/
theorem join_end {kind : Int} {kids : List Int} {a : Nat} {nsx : List Nd} {ks2 : List Value} {v : Value} {en : Ending} {w' : World} (hj : JPost w base rb s a D nsx (ks ++ ks2) kind kids v en w') (hl : ∀ kv ∈ ks2, Late w.heap.size kv) (hv : Late w.heap.size v) :
    ∃ z, en = .returned (.int .i64 z) ∧ PPost w base rb s D ks (joinR kind kids a nsx) en w' := by
  unfold JPost at hj
  rcases kids with _ | ⟨k, _ | ⟨k2, kr⟩⟩
  · refine ⟨_, hj.1, hj.1, ks2 ++ [v], by rw [← List.append_assoc]; exact hj.2, fun x hx => ?_⟩
    rcases List.mem_append.1 hx with hx | hx
    · exact hl x hx
    · rw [List.mem_singleton] at hx; rw [hx]; exact hv
  · exact ⟨_, hj.1, hj.1, ks2, hj.2, hl⟩
  · refine ⟨_, hj.1, hj.1, ks2 ++ [v], by rw [← List.append_assoc]; exact hj.2, fun x hx => ?_⟩
    rcases List.mem_append.1 hx with hx | hx
    · exact hl x hx
    · rw [List.mem_singleton] at hx; rw [hx]; exact hv
theorem late_own {B n : Nat} {v : Value} {xs : List Value} (h : w.ownsRow B tInt 1 v n xs) : Late B v := fun g hg => by
  rcases h.2 with ⟨rfl, _⟩ | ⟨g', cap, cur, rfl, hb, _⟩
  · cases hg
  · have : g' = g := by simpa [Value.ownBlock] using hg
    omega
set_option maxRecDepth 100000 in
set_option maxHeartbeats 8000000 in
theorem alt_any {p : Option (Nat → List Nd → Res)} (h : Prs w base rb s (at_ : Int) D ns ks) (hG : Glb base w) (hs : s.size ≤ 100000) (ha : at_ ≤ s.size) (hp : POk s D p) (hadv : AdvO (Tx.bs s) p) (hC : ClassP s) (hl : ns.length + 4 * (s.size - at_) ≤ 500000) :
    Calls Try.prog 30 #[.pointer (some ⟨rb, 0, none⟩)] w (PPost w base rb s D ks (altF (Tx.bs s) p true at_ ns)) := by
  have hbase := h.size
  have HStart : Hid (GRel 0 s (piecesG (Tx.bs s) p ((Tx.bs s).length + 1) at_ ns []) (piecesG (Tx.bs s) p) w base rb D ks (.slice none 0 0) w) := Lib.hid
    ⟨s.size + 1, at_, ns, [], [], by rw [Tx.bs_len], by omega, ha, hl, by simp, Nat.zero_le _, by rw [List.append_nil]; exact St.start h, fun kv hkv => (by cases hkv), World.ownsRow_nil _ _ _ _, apart_nil⟩
  have HT : Hid (altF (Tx.bs s) p true at_ ns = altEnd (piecesG (Tx.bs s) p ((Tx.bs s).length + 1) at_ ns [])) := Lib.hid (altF_eq hadv (by rw [Tx.bs_len]; exact ha))
  generalize piecesG (Tx.bs s) p ((Tx.bs s).length + 1) at_ ns [] = total at HStart HT
  have HPiece : Hid (∀ (wr : World) (a q : Nat) (nsx : List Nd) (ksx : List Value), St w base rb s a D nsx ksx wr → a < s.size → nsx.length + 4 * (s.size - a) ≤ 500000 → moreF (Tx.bs s) true a = true →
      Calls Try.prog 50 #[.pointer (some ⟨rb, 0, none⟩)] (wr.drewN q) (PPost wr base rb s D ksx (pieceG (Tx.bs s) p a nsx))) := Lib.hid (fun wr a q nsx ksx h1 h2 h3 h4 =>
    (piece_all (h1.1.drewN q) (hG.below (below_drewN h1.2.1 q)) hs h2 hp hadv hC h3 h4).mono fun en w' hh => PPost.before' (below_drewN (Below.refl _ _) q) (KeptX.drewN wr q) hh)
  have HAdv : Hid (∀ (a : Nat) (nsx : List Nd) (k : Int) (a2 : Nat) (ns2 : List Nd), a < s.size → pieceG (Tx.bs s) p a nsx = .ok (k, a2, ns2) → a < a2 ∧ a2 ≤ s.size ∧ ns2.length + 2 ≤ nsx.length + 4 * (a2 - a)) := Lib.hid (fun a nsx k a2 ns2 e1 e => by have := pieceG_adv hadv (by rw [Tx.bs_len]; exact e1) e; rwa [Tx.bs_len] at this)
  clear h hp hadv hC hl hG
  go_enter Try.func30, Try.ntmps30
  go_wp2_with fail
  go_loopw [3] (fun v wr => GRel 0 s total (piecesG (Tx.bs s) p) w base rb D ks v wr) (fun _ wr => meas s rb wr)
  case atStart => exact HStart.out
  case round =>
    obtain ⟨f, a, nsx, kids, ks2, ht, hfu, ha2, hn, hk, hlo, hR, hl2, hv, hap⟩ := hrel
    obtain ⟨c0, c1, c2, hf⟩ := hR.cells
    have hsz := hR.2.1.size
    by_cases hlt : a < s.size
    · have k0 : (0 : Int) ≤ (a : Int) := by omega
      have k1 : (a : Int) < (s.size : Int) := by omega
      by_cases hbar : s[a] = 124
      · have HTot : Hid (total = .ok (kids, a, nsx)) := Lib.hid (by
          rw [ht]
          obtain ⟨f', rfl⟩ : ∃ f', f = f' + 1 := ⟨f - 1, by omega⟩
          unfold piecesG
          rw [show moreF (Tx.bs s) true a = false from by unfold moreF; rw [Tx.bs_get? s a hlt, hbar]; rfl]
          rfl)
        have hkl : nsx.length ≤ 1000000 := by omega
        have HRq := Lib.hid (fun q => hR.drewN q)
        have HVq := Lib.hid (fun q => KeptX.own (s := tPs) (t := tNode) hv (KeptX.drewN wr q) (by decide) (by decide))
        have HL2 := Lib.hid hl2
        have HLv := Lib.hid (late_own hv)
        have e1 : s[a].toNat = 124 := by rw [hbar]; rfl
        clear hf ht hfu hl2 hap hlo hR hbar HPiece HAdv
        rcases kids with _ | ⟨k, kr⟩
        · obtain ⟨A, cc, rfl⟩ := own_form hv
          have HA : Hid (altF (Tx.bs s) p true at_ ns = .ok (nsx.length, a, nsx ++ [plainN 0])) := Lib.hid (by rw [HT.out, HTot.out]; rfl)
          have HAd := Lib.hid (fun q => add_St (HRq.out q) (plainN 0) (.slice none 0 0) nil_own hkl)
          unfold ndV at HAd
          simp only [plainN, show ∀ j, word noSet j = 0 from fun j => word_none j] at HAd
          clear hv
          go_wp2_with fail
          go_quiet (fail)
          go_wp2_with fail
          refine (HAd.out _).mono ?_
          rintro e w4 ⟨rfl, S4⟩
          have HS4 := Lib.hid S4
          clear S4
          go_wp2_with fail
          go_ret
          rw [HA.out]
          exact ⟨rfl, ks2 ++ [.slice none 0 0], by rw [← List.append_assoc]; exact HS4.out, fun x hx => by
            rcases List.mem_append.1 hx with hx | hx
            · exact HL2.out x hx
            · rw [List.mem_singleton] at hx; rw [hx]; exact late_nil _⟩
        · have HA : Hid (altF (Tx.bs s) p true at_ ns = joinR 4 (k :: kr) a nsx) := Lib.hid (by rw [HT.out, HTot.out]; cases kr <;> rfl)
          have HJ := Lib.hid (fun q => join_any (HRq.out q) hbase hkl 4 (k :: kr) (by simp) (HVq.out q))
          obtain ⟨A, cc, rfl⟩ := own_form hv
          obtain ⟨m, hm⟩ : ∃ m, (k :: kr).length = m := ⟨_, rfl⟩
          have hm2 : 1 ≤ m := by rw [← hm]; simp
          rw [hm] at HJ HLv ⊢
          have e0 : ((m : Int) == 0) = false := by rw [beq_eq_false_iff_ne]; omega
          clear hv hm
          go_wp2_with fail
          go_quiet (fail)
          go_wp2_with fail
          refine (HJ.out _).mono ?_
          intro e w4 hQ
          obtain ⟨z, rfl, hP⟩ := join_end hQ HL2.out HLv.out
          have Q := Lib.hid hP
          clear hQ hP
          go_wp2_with fail
          go_ret
          rw [HA.out]
          exact Q.out
      by_cases hpar : s[a] = 41
      · have HTot : Hid (total = .ok (kids, a, nsx)) := Lib.hid (by
          rw [ht]
          obtain ⟨f', rfl⟩ : ∃ f', f = f' + 1 := ⟨f - 1, by omega⟩
          unfold piecesG
          rw [show moreF (Tx.bs s) true a = false from by unfold moreF; rw [Tx.bs_get? s a hlt, hpar]; rfl]
          rfl)
        have hkl : nsx.length ≤ 1000000 := by omega
        have HRq := Lib.hid (fun q => hR.drewN q)
        have HVq := Lib.hid (fun q => KeptX.own (s := tPs) (t := tNode) hv (KeptX.drewN wr q) (by decide) (by decide))
        have HL2 := Lib.hid hl2
        have HLv := Lib.hid (late_own hv)
        have e1 : s[a].toNat = 41 := by rw [hpar]; rfl
        clear hf ht hfu hl2 hap hlo hR hpar hbar HPiece HAdv
        rcases kids with _ | ⟨k, kr⟩
        · obtain ⟨A, cc, rfl⟩ := own_form hv
          have HA : Hid (altF (Tx.bs s) p true at_ ns = .ok (nsx.length, a, nsx ++ [plainN 0])) := Lib.hid (by rw [HT.out, HTot.out]; rfl)
          have HAd := Lib.hid (fun q => add_St (HRq.out q) (plainN 0) (.slice none 0 0) nil_own hkl)
          unfold ndV at HAd
          simp only [plainN, show ∀ j, word noSet j = 0 from fun j => word_none j] at HAd
          clear hv
          go_wp2_with fail
          go_quiet (fail)
          go_wp2_with fail
          refine (HAd.out _).mono ?_
          rintro e w4 ⟨rfl, S4⟩
          have HS4 := Lib.hid S4
          clear S4
          go_wp2_with fail
          go_ret
          rw [HA.out]
          exact ⟨rfl, ks2 ++ [.slice none 0 0], by rw [← List.append_assoc]; exact HS4.out, fun x hx => by
            rcases List.mem_append.1 hx with hx | hx
            · exact HL2.out x hx
            · rw [List.mem_singleton] at hx; rw [hx]; exact late_nil _⟩
        · have HA : Hid (altF (Tx.bs s) p true at_ ns = joinR 4 (k :: kr) a nsx) := Lib.hid (by rw [HT.out, HTot.out]; cases kr <;> rfl)
          have HJ := Lib.hid (fun q => join_any (HRq.out q) hbase hkl 4 (k :: kr) (by simp) (HVq.out q))
          obtain ⟨A, cc, rfl⟩ := own_form hv
          obtain ⟨m, hm⟩ : ∃ m, (k :: kr).length = m := ⟨_, rfl⟩
          have hm2 : 1 ≤ m := by rw [← hm]; simp
          rw [hm] at HJ HLv ⊢
          have e0 : ((m : Int) == 0) = false := by rw [beq_eq_false_iff_ne]; omega
          clear hv hm
          go_wp2_with fail
          go_quiet (fail)
          go_wp2_with fail
          refine (HJ.out _).mono ?_
          intro e w4 hQ
          obtain ⟨z, rfl, hP⟩ := join_end hQ HL2.out HLv.out
          have Q := Lib.hid hP
          clear hQ hP
          go_wp2_with fail
          go_ret
          rw [HA.out]
          exact Q.out
      have hmore : moreF (Tx.bs s) true a = true := by unfold moreF; rw [Tx.bs_get? s a hlt]; simp [hpar, hbar]
      obtain ⟨f', rfl⟩ : ∃ f', f = f' + 1 := ⟨f - 1, by omega⟩
      have HP := Lib.hid (fun q => HPiece.out wr a q nsx (ks ++ ks2) hR hlt hn hmore)
      have HStep : Hid (total = match pieceG (Tx.bs s) p a nsx with | .error e => .error e | .ok (k, a2, ns2) => piecesG (Tx.bs s) p f' a2 ns2 (kids ++ [k])) := Lib.hid (by
        rw [ht]
        conv => lhs; unfold piecesG
        rw [if_pos hmore]
        generalize pieceG (Tx.bs s) p a nsx = q
        rcases q with _ | ⟨_, _, _⟩ <;> rfl)
      have hms := meas_ok hR ha2
      have x1 : ((s[a].toNat : Int) == 124) = false := by rw [beq_eq_false_iff_ne]; intro e; apply hbar; apply UInt8.toNat_inj.1; show s[a].toNat = 124; omega
      have x2 : ((s[a].toNat : Int) != 124) = true := by rw [bne, x1]; rfl
      have x3 : ((s[a].toNat : Int) == 41) = false := by rw [beq_eq_false_iff_ne]; intro e; apply hpar; apply UInt8.toNat_inj.1; show s[a].toNat = 41; omega
      have x4 : ((s[a].toNat : Int) != 41) = true := by rw [bne, x3]; rfl
      clear hf ht hmore hbar hpar
      obtain ⟨A, cc, rfl⟩ := own_form hv
      cases hr : pieceG (Tx.bs s) p a nsx with
      | error c =>
        rw [hr] at HP HStep
        have HA : Hid (altF (Tx.bs s) p true at_ ns = .error c) := Lib.hid (by rw [HT.out, HStep.out]; rfl)
        have HB := Lib.hid hR.2.1
        clear hv hap hl2 hr hms hR
        go_wp2_with fail
        go_quiet (fail)
        go_wp2_with fail
        refine (HP.out _).mono ?_
        rintro e w2 ⟨rfl, B2⟩
        have HB2 := Lib.hid (HB.out.trans B2)
        clear B2
        go_wp2_with fail
        refine ⟨rfl, ?_⟩
        rw [HA.out]
        exact ⟨rfl, HB2.out⟩
      | ok y =>
        obtain ⟨k, a2, ns2⟩ := y
        have hav := HAdv.out a nsx k a2 ns2 hlt hr
        rw [hr] at HP HStep
        have HOk : Hid (∀ (w2 w3 : World) (C : Array Value) (g cap : Nat) (ks3 : List Value), St wr base rb s a2 D ns2 (ks ++ ks2 ++ ks3) w2 → (∀ kv ∈ ks3, Late wr.heap.size kv) → w3.ownsRow w.heap.size tInt 1 (.slice (some ⟨g, 0, none⟩) (kids.length + 1) cap) (kids.length + 1) (intsV kids ++ [.int .i64 k]) → Below w.heap.size w2 w3 →
            (w2.alloc (.cells C tInt)).grownBy w3 (Value.slice A kids.length cc).ownBlock → ((Value.slice A kids.length cc).ownBlock = some g ∨ g = w2.heap.size + 1) →
            GRel 0 s total (piecesG (Tx.bs s) p) w base rb D ks (.slice (some ⟨g, 0, none⟩) (kids.length + 1) cap) w3 ∧ meas s rb w3 = s.size + 1 - a2) := Lib.hid (fun w2 w3 C g cap ks3 h1 h2 h5 h6 h7 h8 =>
          grel_ok (f := f') HStep.out (by omega) (by omega) (by omega) (by omega) (Nat.zero_le _) ⟨h1.1, hR.2.1.trans h1.2.1, hR.2.2.trans h1.2.2⟩ hl2 h2 hsz hv h1.2.2 hap h5 h6 h7 h8 hbase)
        have HV := Lib.hid hv
        have hkl : kids.length ≤ 100001 := by omega
        have HM := Lib.hid hms
        clear hv hap hl2 hr hms hlo hR
        go_wp2_with fail
        go_quiet (fail)
        go_wp2_with fail
        refine (HP.out _).mono ?_
        rintro e w2 ⟨rfl, ks3, S2, L3⟩
        have HS2 := Lib.hid S2
        have HL3 := Lib.hid L3
        have hs2 := S2.2.1.size
        clear S2 L3
        go_wp2_with (at_builtin; refine app_at rfl Try.underlying22 info_int rfl (by omega) (.tmp 38) (.tmp 41) rfl w.heap.size kids.length (intsV kids) (.int .i64 k) rfl _ _ rfl (KeptX.own HV.out HS2.out.2.2 (by decide) (by decide)) rfl rfl (by omega) (by omega) ?_; intro g cap w3 ho3 hb3 hg3 hat3; have HO3 := Lib.hid (HOk.out w2 w3 _ g cap ks3 HS2.out HL3.out ho3 hb3 hg3 hat3); clear ho3 hb3 hg3 hat3)
        go_roundw
        case rel => exact HO3.out.1
        case measure => rw [HO3.out.2, HM.out]; omega
    · have HTot : Hid (total = .ok (kids, a, nsx)) := Lib.hid (by
        rw [ht]
        obtain ⟨f', rfl⟩ : ∃ f', f = f' + 1 := ⟨f - 1, by omega⟩
        unfold piecesG
        rw [show moreF (Tx.bs s) true a = false from by unfold moreF; rw [List.getElem?_eq_none (by rw [Tx.bs_len]; omega)]]
        rfl)
      have hkl : nsx.length ≤ 1000000 := by omega
      have HRq := Lib.hid (fun q => hR.drewN q)
      have HVq := Lib.hid (fun q => KeptX.own (s := tPs) (t := tNode) hv (KeptX.drewN wr q) (by decide) (by decide))
      have HL2 := Lib.hid hl2
      have HLv := Lib.hid (late_own hv)
      have d1 : decide ((a : Int) < (s.size : Int)) = false := by simp only [decide_eq_false_iff_not]; omega
      have d2 : decide (a < s.size) = false := by simp only [decide_eq_false_iff_not]; omega
      clear hf ht hfu hl2 hap hlo hR hlt HPiece HAdv
      rcases kids with _ | ⟨k, kr⟩
      · obtain ⟨A, cc, rfl⟩ := own_form hv
        have HA : Hid (altF (Tx.bs s) p true at_ ns = .ok (nsx.length, a, nsx ++ [plainN 0])) := Lib.hid (by rw [HT.out, HTot.out]; rfl)
        have HAd := Lib.hid (fun q => add_St (HRq.out q) (plainN 0) (.slice none 0 0) nil_own hkl)
        unfold ndV at HAd
        simp only [plainN, show ∀ j, word noSet j = 0 from fun j => word_none j] at HAd
        clear hv
        go_wp2_with fail
        go_quiet (fail)
        go_wp2_with fail
        refine (HAd.out _).mono ?_
        rintro e w4 ⟨rfl, S4⟩
        have HS4 := Lib.hid S4
        clear S4
        go_wp2_with fail
        go_ret
        rw [HA.out]
        exact ⟨rfl, ks2 ++ [.slice none 0 0], by rw [← List.append_assoc]; exact HS4.out, fun x hx => by
          rcases List.mem_append.1 hx with hx | hx
          · exact HL2.out x hx
          · rw [List.mem_singleton] at hx; rw [hx]; exact late_nil _⟩
      · have HA : Hid (altF (Tx.bs s) p true at_ ns = joinR 4 (k :: kr) a nsx) := Lib.hid (by rw [HT.out, HTot.out]; cases kr <;> rfl)
        have HJ := Lib.hid (fun q => join_any (HRq.out q) hbase hkl 4 (k :: kr) (by simp) (HVq.out q))
        obtain ⟨A, cc, rfl⟩ := own_form hv
        obtain ⟨m, hm⟩ : ∃ m, (k :: kr).length = m := ⟨_, rfl⟩
        have hm2 : 1 ≤ m := by rw [← hm]; simp
        rw [hm] at HJ HLv ⊢
        have e0 : ((m : Int) == 0) = false := by rw [beq_eq_false_iff_ne]; omega
        clear hv hm
        go_wp2_with fail
        go_quiet (fail)
        go_wp2_with fail
        refine (HJ.out _).mono ?_
        intro e w4 hQ
        obtain ⟨z, rfl, hP⟩ := join_end hQ HL2.out HLv.out
        have Q := Lib.hid hP
        clear hQ hP
        go_wp2_with fail
        go_ret
        rw [HA.out]
        exact Q.out
end
end Px
end
section
open Go.RowKit
namespace Px
open Cm Rx
/-- What the end of 'pattern' makes of its kids. -/
def patEnd (x : KRes) : Res :=
  match x with
  | .error e => .error e
  | .ok (kids, a, ns1) => joinR 5 kids a ns1
def patTotal (l : List UInt8) (p : Option (Nat → List Nd → Res)) (at_ : Nat) (ns : List Nd) : KRes :=
  match altF l p true at_ ns with
  | .error e => .error e
  | .ok (k, a, ns1) => altsF l p true (l.length + 1) a ns1 [k]
theorem patF_eq {l : List UInt8} {p : Option (Nat → List Nd → Res)} {at_ : Nat} {ns : List Nd} : patF l p true at_ ns = patEnd (patTotal l p at_ ns) := by
  unfold patF patTotal patEnd joinR
  cases altF l p true at_ ns with
  | error e => rfl
  | ok x =>
    obtain ⟨k, a, ns1⟩ := x
    simp only
    generalize altsF l p true (l.length + 1) a ns1 [k] = q
    rcases q with _ | ⟨kids, a2, ns2⟩
    · rfl
    · rcases kids with _ | ⟨k, _ | ⟨k2, kr⟩⟩ <;> rfl
section
variable {w : World} {base rb : Nat} {s : ByteArray} {at_ : Nat} {D : Int} {ns : List Nd} {ks : List Value}
set_option maxRecDepth 100000 in
set_option maxHeartbeats 8000000 in
theorem pat_any {p : Option (Nat → List Nd → Res)} (h : Prs w base rb s (at_ : Int) D ns ks) (hG : Glb base w) (hs : s.size ≤ 100000) (ha : at_ ≤ s.size) (hp : POk s D p) (hadv : AdvO (Tx.bs s) p) (hC : ClassP s) (hl : ns.length + 4 * (s.size - at_) ≤ 500000) :
    Calls Try.prog 19 #[.pointer (some ⟨rb, 0, none⟩)] w (PPost w base rb s D ks (patF (Tx.bs s) p true at_ ns)) := by
  have hbase := h.size
  have HAlt : Hid (∀ (wr w0 : World) (a : Nat) (nsx : List Nd) (ksx : List Value), St w base rb s a D nsx ksx wr → Below base w0 wr → KeptP w0 wr → a ≤ s.size → nsx.length + 4 * (s.size - a) ≤ 500000 →
      Calls Try.prog 30 #[.pointer (some ⟨rb, 0, none⟩)] wr (PPost w0 base rb s D ksx (altF (Tx.bs s) p true a nsx))) := Lib.hid (fun wr w0 a nsx ksx h1 b1 k1 h2 h3 =>
    (alt_any h1.1 (hG.below h1.2.1) hs h2 hp hadv hC h3).mono fun _ _ hh => PPost.before' b1 k1 hh)
  have HAdv : Hid (∀ (a : Nat) (nsx : List Nd) (k : Int) (a2 : Nat) (ns2 : List Nd), a ≤ s.size → altF (Tx.bs s) p true a nsx = .ok (k, a2, ns2) → a ≤ a2 ∧ a2 ≤ s.size ∧ ns2.length ≤ nsx.length + 4 * (a2 - a) + 1) := Lib.hid (fun a nsx k a2 ns2 e0 e => by have := alt_adv hadv (by rw [Tx.bs_len]; exact e0) e; rwa [Tx.bs_len] at this)
  have HT : Hid (patF (Tx.bs s) p true at_ ns = patEnd (patTotal (Tx.bs s) p at_ ns)) := Lib.hid patF_eq
  have HTot : Hid (patTotal (Tx.bs s) p at_ ns = match altF (Tx.bs s) p true at_ ns with | .error e => .error e | .ok (k, a, ns1) => altsF (Tx.bs s) p true ((Tx.bs s).length + 1) a ns1 [k]) := Lib.hid rfl
  generalize patTotal (Tx.bs s) p at_ ns = total at HT HTot
  have H0 := Lib.hid (HAlt.out w w at_ ns ks (St.start h) (Below.refl _ _) (KeptX.refl _) ha hl)
  cases hr0 : altF (Tx.bs s) p true at_ ns with
  | error c =>
    rw [hr0] at H0 HTot
    have HA : Hid (patF (Tx.bs s) p true at_ ns = .error c) := Lib.hid (by rw [HT.out, HTot.out]; rfl)
    clear h hp hadv hC hl hr0
    go_enter Try.func19, Try.ntmps19
    go_wp2_with fail
    refine H0.out.mono ?_
    rintro en w1 ⟨rfl, B1⟩
    go_wp2_with fail
    refine ⟨rfl, ?_⟩
    rw [HA.out]
    exact ⟨rfl, B1⟩
  | ok y =>
    obtain ⟨kk, a0, ns0⟩ := y
    have hav0 := HAdv.out at_ ns kk a0 ns0 ha hr0
    rw [hr0] at H0 HTot
    have HStart : Hid (∀ (w1 : World) (ks1 : List Value), St w base rb s a0 D ns0 (ks ++ ks1) w1 → (∀ kv ∈ ks1, Late w.heap.size kv) → GRel 1 s total (altsF (Tx.bs s) p true) w base rb D ks (.slice (some ⟨w1.heap.size, 0, none⟩) 1 1) (w1.alloc (.cells #[.int .i64 kk] tInt))) := Lib.hid (fun w1 ks1 S1 L1 =>
      ⟨s.size + 1, a0, ns0, [kk], ks1, by rw [HTot.out, Tx.bs_len], by omega, hav0.2.1, by omega, by simp, by simp, S1.below ((Below.refl _ _).alloc (Nat.le_refl _) _), L1, one_own' S1.2.1.size kk, Apart_new S1.1 (Nat.le_refl _)⟩)
    clear h hp hadv hC hl hr0
    go_enter Try.func19, Try.ntmps19
    go_wp2_with fail
    refine H0.out.mono ?_
    rintro en w1 ⟨rfl, ks1, S1, L1⟩
    have HG := Lib.hid (HStart.out w1 ks1 S1 L1)
    clear S1 L1
    go_wp2_with fail
    go_loopw [3] (fun v wr => GRel 1 s total (altsF (Tx.bs s) p true) w base rb D ks v wr) (fun _ wr => meas s rb wr)
    case atStart => exact HG.out
    case round =>
      obtain ⟨f, a, nsx, kids, ks2, ht, hfu, ha2, hn, hk, hlo, hR, hl2, hv, hap⟩ := hrel
      have hsz := hR.2.1.size
      by_cases hbar : (Tx.bs s)[a]? = some 124
      · have hlt : a < s.size := by have := get_lt hbar; rwa [Tx.bs_len] at this
        obtain ⟨f', rfl⟩ : ∃ f', f = f' + 1 := ⟨f - 1, by omega⟩
        have HStep : Hid (total = match altF (Tx.bs s) p true (a + 1) nsx with | .error e => .error e | .ok (k, a2, ns2) => altsF (Tx.bs s) p true f' a2 ns2 (kids ++ [k])) := Lib.hid (by
          rw [ht]
          conv => lhs; unfold altsF
          rw [if_pos hbar]
          generalize altF (Tx.bs s) p true (a + 1) nsx = q
          rcases q with _ | ⟨_, _, _⟩ <;> rfl)
        have HTk := Lib.hid (take_T (St.start hR.1) (by omega) hbar 124 rfl)
        have HP : Hid (∀ wq, St wr base rb s (a + 1) D nsx (ks ++ ks2) wq → Calls Try.prog 30 #[.pointer (some ⟨rb, 0, none⟩)] wq (PPost wr base rb s D (ks ++ ks2) (altF (Tx.bs s) p true (a + 1) nsx))) := Lib.hid (fun wq hq =>
          HAlt.out wq wr (a + 1) nsx (ks ++ ks2) ⟨hq.1, hR.2.1.trans hq.2.1, hR.2.2.trans hq.2.2⟩ hq.2.1 hq.2.2 (by omega) (by omega))
        have hms := meas_ok hR ha2
        clear ht hbar
        obtain ⟨A, cc, rfl⟩ := own_form hv
        cases hr : altF (Tx.bs s) p true (a + 1) nsx with
        | error c =>
          rw [hr] at HP HStep
          have HA : Hid (patF (Tx.bs s) p true at_ ns = .error c) := Lib.hid (by rw [HT.out, HStep.out]; rfl)
          have HB := Lib.hid hR.2.1
          clear hv hap hl2 hr hms hR
          go_wp2_with fail
          refine HTk.out.mono ?_
          rintro en w2 ⟨rfl, S2⟩
          have HS2 := Lib.hid S2
          clear S2
          go_wp2_with fail
          refine (HP.out _ HS2.out).mono ?_
          rintro en w3 ⟨rfl, B3⟩
          have HB3 := Lib.hid (HB.out.trans B3)
          clear B3
          go_wp2_with fail
          refine ⟨rfl, ?_⟩
          rw [HA.out]
          exact ⟨rfl, HB3.out⟩
        | ok y =>
          obtain ⟨k, a2, ns2⟩ := y
          have hav := HAdv.out (a + 1) nsx k a2 ns2 (by omega) hr
          rw [hr] at HP HStep
          have HOk : Hid (∀ (w2 w3 : World) (C : Array Value) (g cap : Nat) (ks3 : List Value), St wr base rb s a2 D ns2 (ks ++ ks2 ++ ks3) w2 → (∀ kv ∈ ks3, Late wr.heap.size kv) → w3.ownsRow w.heap.size tInt 1 (.slice (some ⟨g, 0, none⟩) (kids.length + 1) cap) (kids.length + 1) (intsV kids ++ [.int .i64 k]) → Below w.heap.size w2 w3 →
              (w2.alloc (.cells C tInt)).grownBy w3 (Value.slice A kids.length cc).ownBlock → ((Value.slice A kids.length cc).ownBlock = some g ∨ g = w2.heap.size + 1) →
              GRel 1 s total (altsF (Tx.bs s) p true) w base rb D ks (.slice (some ⟨g, 0, none⟩) (kids.length + 1) cap) w3 ∧ meas s rb w3 = s.size + 1 - a2) := Lib.hid (fun w2 w3 C g cap ks3 h1 h2 h5 h6 h7 h8 =>
            grel_ok (f := f') HStep.out (by omega) (by omega) (by omega) (by omega) hlo ⟨h1.1, hR.2.1.trans h1.2.1, hR.2.2.trans h1.2.2⟩ hl2 h2 hsz hv h1.2.2 hap h5 h6 h7 h8 hbase)
          have HV := Lib.hid hv
          have hkl : kids.length ≤ 100001 := by omega
          have HM := Lib.hid hms
          clear hv hap hl2 hr hms hlo hR
          go_wp2_with fail
          refine HTk.out.mono ?_
          rintro en w2 ⟨rfl, S2⟩
          have HS2 := Lib.hid S2
          clear S2
          go_wp2_with fail
          refine (HP.out _ HS2.out).mono ?_
          rintro e w4 ⟨rfl, ks3, S4, L4⟩
          have HS4 := Lib.hid S4
          have HL4 := Lib.hid L4
          have hs4 := S4.2.1.size
          clear S4 L4
          go_wp2_with (at_builtin; refine app_at rfl Try.underlying22 info_int rfl (by omega) (.tmp 9) (.tmp 12) rfl w.heap.size kids.length (intsV kids) (.int .i64 k) rfl _ _ rfl (KeptX.own HV.out HS4.out.2.2 (by decide) (by decide)) rfl rfl (by omega) (by omega) ?_; intro g cap w5 ho3 hb3 hg3 hat3; have HO3 := Lib.hid (HOk.out w4 w5 _ g cap ks3 HS4.out HL4.out ho3 hb3 hg3 hat3); clear ho3 hb3 hg3 hat3)
          go_roundw
          case rel => exact HO3.out.1
          case measure => rw [HO3.out.2, HM.out]; omega
      · have HTot2 : Hid (total = .ok (kids, a, nsx)) := Lib.hid (by
          rw [ht]
          obtain ⟨f', rfl⟩ : ∃ f', f = f' + 1 := ⟨f - 1, by omega⟩
          unfold altsF
          rw [if_neg hbar])
        have HTk := Lib.hid (take_F (St.start hR.1) (by omega) ha2 hbar 124 rfl)
        have HA : Hid (patF (Tx.bs s) p true at_ ns = joinR 5 kids a nsx) := Lib.hid (by rw [HT.out, HTot2.out]; rfl)
        have hkl : nsx.length ≤ 1000000 := by omega
        have hkne : kids ≠ [] := by rintro rfl; simp at hlo
        have HJ : Hid (∀ wq, St wr base rb s a D nsx (ks ++ ks2) wq → Calls Try.prog 32 #[.pointer (some ⟨rb, 0, none⟩), .int .i64 5, _] wq (JPost w base rb s a D nsx (ks ++ ks2) 5 kids _)) := Lib.hid (fun wq hq =>
          join_any ⟨hq.1, hR.2.1.trans hq.2.1, hR.2.2.trans hq.2.2⟩ hbase hkl 5 kids hkne (KeptX.own (s := tPs) (t := tNode) hv hq.2.2 (by decide) (by decide)))
        have HL2 := Lib.hid hl2
        have HLv := Lib.hid (late_own hv)
        clear ht hfu hl2 hap hlo hR hbar hv hkne HAlt HAdv HStart
        go_wp2_with fail
        refine HTk.out.mono ?_
        rintro en w2 ⟨rfl, S2⟩
        have HS2 := Lib.hid S2
        clear S2
        go_wp2_with fail
        refine (HJ.out _ HS2.out).mono ?_
        intro e w4 hQ
        obtain ⟨z, rfl, hP⟩ := join_end hQ HL2.out HLv.out
        have Q := Lib.hid hP
        clear hQ hP
        go_wp2_with fail
        go_ret
        rw [HA.out]
        exact Q.out
end
end Px
end
section
open Go.RowKit
namespace Px
open Cm Rx
set_option maxRecDepth 100000 in
set_option maxHeartbeats 2000000 in
theorem catch_panicking (pn pe : Nat) (c : Int) (older : List PanicEntry) (w : World) (x y : Value) (hne : pn ≠ pe) (h0 : w.cell? ⟨pn, 0, none⟩ = some x) (h1 : w.cell? ⟨pe, 0, none⟩ = some y) (z0 : w.frozen? ⟨pn, 0, none⟩ = false) (z1 : w.frozen? ⟨pe, 0, none⟩ = false) :
    CallsD Try.prog 18 #[.pointer (some ⟨pn, 0, none⟩), .pointer (some ⟨pe, 0, none⟩)] (.panicking ({ v := .iface 24 (.int .i64 c), recovered := false } :: older)) w fun e u' w' =>
      e = .returned (.tuple #[]) ∧ u' = .panicking ({ v := .iface 24 (.int .i64 c), recovered := true } :: older) ∧ w' = ((w.setCell ⟨pn, 0, none⟩ (.slice none 0 0)).setCell ⟨pe, 0, none⟩ (.int .i64 40)).setCell ⟨pe, 0, none⟩ (.int .i64 c) := by
  have hta : ∀ w, (Instr.typeAssert (Value.iface 24 (.int .i64 c)) 20 24 true).run Try.prog w = .ok (.tuple #[.int .i64 c, .bool true]) w := fun w => rfl
  refine callsD_of_wpS Try.func18 rfl fun c₀ cs hu => ?_
  rw [show (#[Value.pointer (some ⟨pn, 0, none⟩), Value.pointer (some ⟨pe, 0, none⟩)] ++ Array.replicate (Try.f18.ntmps - #[Value.pointer (some ⟨pn, 0, none⟩), Value.pointer (some ⟨pe, 0, none⟩)].size) undef : Array Value) = #[.pointer (some ⟨pn, 0, none⟩), .pointer (some ⟨pe, 0, none⟩), undef, undef, undef, undef, undef, undef, undef, undef, undef, undef, undef, undef, undef] from by rfl]
  apply wpS_seq
  apply wpS_region
  simp [wpOpsS, go_sem, recoverD, hu, Exit.thenS]
  refine wpS_of_wp ?_
  go_wp2_with fail
  cases c₀
  simp_all [bodyPostS, results, Try.results18]
theorem catch_idle (pn pe : Nat) (w : World) :
    CallsD Try.prog 18 #[.pointer (some ⟨pn, 0, none⟩), .pointer (some ⟨pe, 0, none⟩)] .returning w fun e u' w' => e = .returned (.tuple #[]) ∧ u' = .returning ∧ w' = w := by
  refine callsD_of_wpS Try.func18 rfl fun c₀ cs hu => ?_
  rw [show (#[Value.pointer (some ⟨pn, 0, none⟩), Value.pointer (some ⟨pe, 0, none⟩)] ++ Array.replicate (Try.f18.ntmps - #[Value.pointer (some ⟨pn, 0, none⟩), Value.pointer (some ⟨pe, 0, none⟩)].size) undef : Array Value) = #[.pointer (some ⟨pn, 0, none⟩), .pointer (some ⟨pe, 0, none⟩), undef, undef, undef, undef, undef, undef, undef, undef, undef, undef, undef, undef, undef] from by rfl]
  apply wpS_seq
  apply wpS_region
  simp [wpOpsS, go_sem, recoverD, hu, Exit.thenS]
  refine wpS_of_wp ?_
  go_wp2_with fail
  cases c₀
  simp_all [bodyPostS, results, Try.results18]
theorem group_ok (s : ByteArray) (hs : s.size ≤ 100000) (hC : ClassP s) (g : Nat) : ∀ D : Int, D = 49 - (g : Int) → 0 ≤ D → POk s D (some (groupF (Tx.bs s) g)) := by
  induction g with
  | zero =>
    intro D hD h0
    exact ⟨by omega, fun w base rb at_ ns ks hG h1 h2 h3 => pat_any (p := none) h1 hG hs h2 (show POk s (D + 1) none from by show D + 1 = 50; omega) (fun f e => by cases e) hC h3, group_adv 0⟩
  | succ g ih =>
    intro D hD h0
    exact ⟨by omega, fun w base rb at_ ns ks hG h1 h2 h3 => pat_any (p := some (groupF (Tx.bs s) g)) h1 hG hs h2 (ih (D + 1) (by omega) (by omega)) (fun f e => by injection e with e; subst e; exact group_adv g) hC h3, group_adv (g + 1)⟩
/-- What Parse hands back. -/
def ParseP (w : World) (r : Except Int (List Nd)) (e : Ending) (w' : World) : Prop :=
  match r with
  | .error c => e = .returned (.tuple #[.slice none 0 0, .int .i64 c]) ∧ Below w.heap.size w w'
  | .ok ns => ∃ v ks, e = .returned (.tuple #[v, .int .i64 0]) ∧ OwnN w' w.heap.size v ns ks ∧ Below w.heap.size w w'
abbrev tEn : TypeId := 24
abbrev tNs : TypeId := 23
/-- The two results that the deferred function reaches. -/
theorem res_two (tmps : Array Value) (W : World) (H : Nat) (x y : Value) (h2 : tmps.getD 2 undef = .pointer (some ⟨H, 0, none⟩)) (h3 : tmps.getD 3 undef = .pointer (some ⟨H + 1, 0, none⟩)) (hx : W.cell? ⟨H, 0, none⟩ = some x) (hy : W.cell? ⟨H + 1, 0, none⟩ = some y) :
    (results Try.f5 tmps).run Try.prog W = .ok (.tuple #[x, y]) W := by
  have h2' : tmps[2]?.getD undef = .pointer (some ⟨H, 0, none⟩) := by simpa using h2
  have h3' : tmps[3]?.getD undef = .pointer (some ⟨H + 1, 0, none⟩) := by simpa using h3
  simp [results, Try.results5, h2', h3', go_sem, hx, hy]
/-- The world of the call when the parser begins. -/
def Wp (w : World) (s : ByteArray) : World := ((w.alloc (.cells #[.slice none 0 0] tNs)).alloc (.cells #[.int .i64 0] tEn)).alloc (.cells #[.string s, .int .i64 0, .int .i64 0, .slice none 0 0] tPs)
theorem Wp_facts (w : World) (s : ByteArray) : Prs (Wp w s) (w.heap.size + 1 + 1) (w.heap.size + 1 + 1) s ((0 : Nat) : Int) 0 [] [] ∧ Below w.heap.size w (Wp w s) ∧ (Wp w s).heap[w.heap.size]? = some (.cells #[.slice none 0 0] tNs (0, 0)) ∧ (Wp w s).heap[w.heap.size + 1]? = some (.cells #[.int .i64 0] tEn (0, 0)) := by
  unfold Wp
  refine ⟨⟨.slice none 0 0, Nat.le_refl _, heap_alloc3 _ _ _ _, rfl, World.ownsRow_nil _ _ _ _, fun j h => absurd h (Nat.not_lt_zero _)⟩, (((Below.refl _ _).alloc (Nat.le_refl _) _).alloc (by simp) _).alloc (by simp; omega) _, ?_, ?_⟩
  · rw [Below.heap_alloc _ _ _ (by simp; omega), Below.heap_alloc _ _ _ (by simp)]
    exact heap_new w _
  · rw [Below.heap_alloc _ _ _ (by simp)]
    have h := heap_new (w.alloc (.cells #[.slice none 0 0] tNs)) (.cells #[.int .i64 0] tEn)
    rwa [show (w.alloc (.cells #[.slice none 0 0] tNs)).heap.size = w.heap.size + 1 from by simp] at h
/-- A panic with one of the document's errors, caught. -/
theorem leave_panic (w W : World) (s : ByteArray) (c : Int) (tmps : Array Value) (h2 : tmps.getD 2 undef = .pointer (some ⟨w.heap.size, 0, none⟩)) (h3 : tmps.getD 3 undef = .pointer (some ⟨w.heap.size + 1, 0, none⟩)) (hB : Below (w.heap.size + 1 + 1) (Wp w s) W) :
    Leaves Try.prog Try.f5 tmps (ParseP w (.error c)) [{ target := .fn (.func 18) #[.pointer (some ⟨w.heap.size, 0, none⟩), .pointer (some ⟨w.heap.size + 1, 0, none⟩)], args := #[] }] (.panicking [{ v := .iface tEn (.int .i64 c), recovered := false }]) W := by
  obtain ⟨_, f2, f3, f4⟩ := Wp_facts w s
  have g3 : W.heap[w.heap.size]? = some (.cells #[.slice none 0 0] tNs (0, 0)) := (hB.block _ (by omega)).trans f3
  have g4 : W.heap[w.heap.size + 1]? = some (.cells #[.int .i64 0] tEn (0, 0)) := (hB.block _ (by omega)).trans f4
  refine leaves_cons (f := 18) (args := #[.pointer (some ⟨w.heap.size, 0, none⟩), .pointer (some ⟨w.heap.size + 1, 0, none⟩)]) (by simp) (by simp [go_sem]) ?_
  refine (catch_panicking w.heap.size (w.heap.size + 1) c [] W (.slice none 0 0) (.int .i64 0) (by omega) (by simp [World.cell?, g3]) (by simp [World.cell?, g4]) (by simp [World.frozen?, g3]) (by simp [World.frozen?, g4])).mono ?_
  rintro e u' w'' ⟨rfl, rfl, rfl⟩
  refine ⟨.tuple #[.slice none 0 0, .int .i64 c], res_two _ _ _ _ _ h2 h3 ?_ ?_, rfl, ?_⟩
  · rw [World.cell?_setCell_other _ _ _ _ (by simp), World.cell?_setCell_other _ _ _ _ (by simp)]
    simp [World.cell?, set_block g3]
  · simp [World.cell?, set_block (set_block (show (W.setCell ⟨w.heap.size, 0, none⟩ (.slice none 0 0)).heap[w.heap.size + 1]? = _ from (Below.heap_setCell _ _ _ _ (by simp)).trans g4))]
  · exact (((f2.trans (hB.mono (by omega))).setCell (p := ⟨w.heap.size, 0, none⟩) (Nat.le_refl _) _).setCell (p := ⟨w.heap.size + 1, 0, none⟩) (by show w.heap.size ≤ w.heap.size + 1; omega) _).setCell (p := ⟨w.heap.size + 1, 0, none⟩) (by show w.heap.size ≤ w.heap.size + 1; omega) _
set_option maxRecDepth 100000 in
set_option maxHeartbeats 4000000 in
theorem Parse_long (s : ByteArray) (w : World) (h : 256 < s.size) : Calls Try.prog 5 #[.string s] w (ParseP w (parseG (Tx.bs s))) := by
  have HA : Hid (parseG (Tx.bs s) = .error 1) := Lib.hid (by unfold parseG; rw [if_pos (by rw [Tx.bs_len]; omega)])
  have h2 : (256 : Int) < (s.size : Int) := by omega
  go_enter_defers Try.func5, Try.ntmps5
  go_wp2_with fail
  refine ⟨.tuple #[.slice none 0 0, .int .i64 1], res_two _ _ w.heap.size _ _ rfl rfl ?_ ?_, ?_⟩
  · simp [go_sem]
  · simp [go_sem]
  rw [HA.out]
  exact ⟨rfl, ((Below.refl _ _).alloc (Nat.le_refl _) _).alloc (by simp) _⟩
theorem own_baseZ {w : World} {B B' z n : Nat} {t : TypeId} {v : Value} {xs : List Value} (h : w.ownsRow B t z v n xs) (hb : B' ≤ B) : w.ownsRow B' t z v n xs := by
  refine ⟨h.1, ?_⟩
  rcases h.2 with hn | ⟨g, cap, cur, hv, hbg, rest⟩
  · exact .inl hn
  · exact .inr ⟨g, cap, cur, hv, Nat.le_trans hb hbg, rest⟩
theorem OwnN_base {w : World} {B B' : Nat} {v : Value} {ns : List Nd} {ks : List Value} (h : OwnN w B v ns ks) (hb : B' ≤ B) : OwnN w B' v ns ks :=
  ⟨h.1, own_baseZ h.2.1 hb, fun j c1 c2 => own_baseZ (h.2.2 j c1 c2) hb⟩
/-- The nodes stay while the results' blocks are written. -/
theorem OwnN_stay {w w' : World} {B : Nat} {v : Value} {ns : List Nd} {ks : List Value} (h : OwnN w B v ns ks) (hs : ∀ k, B ≤ k → w'.heap[k]? = w.heap[k]?) : OwnN w' B v ns ks := by
  have hk : ∀ (e : TypeId) (size n : Nat) (x : Value) (xs : List Value), w.ownsRow B e size x n xs → w'.ownsRow B e size x n xs := fun e size n x xs hx => by
    refine ⟨hx.1, ?_⟩
    rcases hx.2 with hn | ⟨g, cap, cur, hv, hbg, hh, r⟩
    · exact .inl hn
    · exact .inr ⟨g, cap, cur, hv, hbg, (hs g hbg).trans hh, r⟩
  exact ⟨h.1, hk _ _ _ _ _ h.2.1, fun j c1 c2 => hk _ _ _ _ _ (h.2.2 j c1 c2)⟩
/-- The good end. -/
theorem leave_ok (w W : World) (s : ByteArray) (_a : Nat) (ns : List Nd) (v : Value) (ks : List Value) (tmps : Array Value) (h2 : tmps.getD 2 undef = .pointer (some ⟨w.heap.size, 0, none⟩)) (h3 : tmps.getD 3 undef = .pointer (some ⟨w.heap.size + 1, 0, none⟩)) (hB : Below (w.heap.size + 1 + 1) (Wp w s) W) (hn : OwnN W (w.heap.size + 1 + 1) v ns ks) :
    Leaves Try.prog Try.f5 tmps (ParseP w (.ok ns)) [{ target := .fn (.func 18) #[.pointer (some ⟨w.heap.size, 0, none⟩), .pointer (some ⟨w.heap.size + 1, 0, none⟩)], args := #[] }] .returning ((W.setCell ⟨w.heap.size, 0, none⟩ v).setCell ⟨w.heap.size + 1, 0, none⟩ (.int .i64 0)) := by
  obtain ⟨_, f2, f3, f4⟩ := Wp_facts w s
  have g3 : W.heap[w.heap.size]? = some (.cells #[.slice none 0 0] tNs (0, 0)) := (hB.block _ (by omega)).trans f3
  have g4 : W.heap[w.heap.size + 1]? = some (.cells #[.int .i64 0] tEn (0, 0)) := (hB.block _ (by omega)).trans f4
  refine leaves_cons (f := 18) (args := #[.pointer (some ⟨w.heap.size, 0, none⟩), .pointer (some ⟨w.heap.size + 1, 0, none⟩)]) (by simp) (by simp [go_sem]) ?_
  refine (catch_idle w.heap.size (w.heap.size + 1) _).mono ?_
  rintro e u' w'' ⟨rfl, rfl, rfl⟩
  refine ⟨.tuple #[v, .int .i64 0], res_two _ _ _ _ _ h2 h3 ?_ ?_, v, ks, rfl, OwnN_base (OwnN_stay hn fun k hk => ?_) (by omega), ?_⟩
  · rw [World.cell?_setCell_other _ _ _ _ (by simp)]
    simp [World.cell?, set_block g3]
  · simp [World.cell?, set_block (show (W.setCell ⟨w.heap.size, 0, none⟩ v).heap[w.heap.size + 1]? = _ from (Below.heap_setCell _ _ _ _ (by simp)).trans g4)]
  · rw [Below.heap_setCell _ _ _ _ (by show k ≠ w.heap.size + 1; omega), Below.heap_setCell _ _ _ _ (by show k ≠ w.heap.size; omega)]
  · exact ((f2.trans (hB.mono (by omega))).setCell (p := ⟨w.heap.size, 0, none⟩) (Nat.le_refl _) _).setCell (p := ⟨w.heap.size + 1, 0, none⟩) (by show w.heap.size ≤ w.heap.size + 1; omega) _
set_option maxRecDepth 100000 in
set_option maxHeartbeats 4000000 in
theorem Parse_short (s : ByteArray) (w : World) (h : s.size ≤ 256) (hG : Glb w.heap.size w) (hC : ClassP s) : Calls Try.prog 5 #[.string s] w (ParseP w (parseG (Tx.bs s))) := by
  have h2 : ¬ (256 : Int) < (s.size : Int) := by omega
  have hmf : ∀ (fn : Fn) (first cap : Array Value) (w : World), (Instr.makeFunc fn first cap).run Try.prog w = .ok (.func fn first cap) w := fun _ _ _ _ => rfl
  have HT : Hid (parseG (Tx.bs s) = match patF (Tx.bs s) (some (groupF (Tx.bs s) 49)) true 0 [] with | .error e => .error e | .ok (_, a, ns) => if a < s.size then .error 40 else .ok ns) := Lib.hid (by
    unfold parseG
    rw [if_neg (by rw [Tx.bs_len]; omega), Tx.bs_len]
    generalize patF (Tx.bs s) (some (groupF (Tx.bs s) 49)) true 0 [] = q
    rcases q with _ | ⟨_, _, _⟩ <;> rfl)
  obtain ⟨f1, f2, f3, f4⟩ := Wp_facts w s
  have hG2 : Glb (w.heap.size + 1 + 1) (Wp w s) := ⟨by omega, (hG.below f2).2⟩
  have HP : Hid (Calls Try.prog 19 #[.pointer (some ⟨w.heap.size + 1 + 1, 0, none⟩)] (Wp w s) (PPost (Wp w s) (w.heap.size + 1 + 1) (w.heap.size + 1 + 1) s 0 [] (patF (Tx.bs s) (some (groupF (Tx.bs s) 49)) true 0 []))) := Lib.hid
    (pat_any f1 hG2 (by omega) (Nat.zero_le _) (group_ok s (by omega) hC 49 0 (by decide) (by decide)) (fun f e => by injection e with e; subst e; exact group_adv 49) hC (by simp; omega))
  have HC3 : Hid (∀ (W : World), Below (w.heap.size + 1 + 1) (Wp w s) W → (W.cell? ⟨w.heap.size, 0, none⟩ = some (.slice none 0 0) ∧ W.cell? ⟨w.heap.size + 1, 0, none⟩ = some (.int .i64 0)) ∧ W.frozen? ⟨w.heap.size, 0, none⟩ = false ∧ W.frozen? ⟨w.heap.size + 1, 0, none⟩ = false) := Lib.hid (fun W hB => by
    have g3 : W.heap[w.heap.size]? = some (.cells #[.slice none 0 0] tNs (0, 0)) := (hB.block _ (by omega)).trans f3
    have g4 : W.heap[w.heap.size + 1]? = some (.cells #[.int .i64 0] tEn (0, 0)) := (hB.block _ (by omega)).trans f4
    exact ⟨⟨by simp [World.cell?, g3], by simp [World.cell?, g4]⟩, by simp [World.frozen?, g3], by simp [World.frozen?, g4]⟩)
  clear f1 f2 f3 f4 hG2 hG hC
  cases hr : patF (Tx.bs s) (some (groupF (Tx.bs s) 49)) true 0 [] with
  | error c =>
    rw [hr] at HP HT
    have HA : Hid (parseG (Tx.bs s) = .error c) := Lib.hid (by rw [HT.out])
    clear hr
    go_enter_defers Try.func5, Try.ntmps5
    go_wp2_with fail
    refine HP.out.mono ?_
    rintro e w2 ⟨rfl, hB⟩
    rw [HA.out]
    exact leave_panic w w2 s c _ rfl rfl hB
  | ok y =>
    obtain ⟨k, a, ns2⟩ := y
    rw [hr] at HP HT
    by_cases hlt : a < s.size
    · have HA : Hid (parseG (Tx.bs s) = .error 40) := Lib.hid (by rw [HT.out]; simp only; rw [if_pos hlt])
      have k1 : (a : Int) < (s.size : Int) := by omega
      clear hr
      go_enter_defers Try.func5, Try.ntmps5
      go_wp2_with fail
      refine HP.out.mono ?_
      rintro e w2 ⟨rfl, ks3, S2, L2⟩
      have HB := Lib.hid S2.2.1
      obtain ⟨c0, c1, c2, hf⟩ := S2.cells
      clear S2 L2 hf
      go_wp2_with fail
      rw [HA.out]
      exact leave_panic w w2 s 40 _ rfl rfl HB.out
    · have HA : Hid (parseG (Tx.bs s) = .ok ns2) := Lib.hid (by rw [HT.out]; simp only; rw [if_neg hlt])
      have d1 : decide ((a : Int) < (s.size : Int)) = false := by simp only [decide_eq_false_iff_not]; omega
      have d2 : decide (a < s.size) = false := by simp only [decide_eq_false_iff_not]; omega
      clear hr
      go_enter_defers Try.func5, Try.ntmps5
      go_wp2_with fail
      refine HP.out.mono ?_
      rintro e w2 ⟨rfl, ks3, S2, L2⟩
      have HB := Lib.hid S2.2.1
      obtain ⟨⟨v, hb, hh, hN⟩, _⟩ := S2
      obtain ⟨c0, c1, c2, c3, hf⟩ := prs_cells hh
      obtain ⟨⟨y0, y1⟩, z0, z1⟩ := HC3.out w2 HB.out
      obtain ⟨A, cc, rfl⟩ : ∃ A c, v = .slice A ns2.length c := by
        rcases hN.2.1.2 with ⟨rfl, h0⟩ | ⟨g, cap, cur, rfl, _⟩
        · exact ⟨none, 0, by rw [h0]⟩
        · exact ⟨_, cap, rfl⟩
      have HN := Lib.hid hN
      clear hh hf L2 hN hb
      go_wp2_with fail
      rw [HA.out]
      exact leave_ok w w2 s a ns2 _ _ _ rfl rfl HB.out HN.out
/-- Parse. -/
theorem Parse_any (s : ByteArray) (w : World) (hG : Glb w.heap.size w) (hC : s.size ≤ 256 → ClassP s) : Calls Try.prog 5 #[.string s] w (ParseP w (parseF (Tx.bs s))) := by
  rw [← parseG_eq]
  by_cases h : 256 < s.size
  · exact Parse_long s w h
  · exact Parse_short s w (by omega) hG (hC (by omega))
end Px
end
section
open Go.RowKit
namespace Px
open Cm Rx
section
variable {l : List UInt8}
theorem index_two (b : UInt8) (t : List UInt8) : Lib.index (b :: t) [58, 93] = if b = 58 ∧ t[0]? = some 93 then 0 else if Lib.index t [58, 93] == -1 then -1 else Lib.index t [58, 93] + 1 := by
  conv => lhs; unfold Lib.index
  have h : ([58, 93] : List UInt8).isPrefixOf (b :: t) = decide (b = 58 ∧ t[0]? = some 93) := by
    cases t with
    | nil => simp [List.isPrefixOf]
    | cons c t =>
      simp only [List.isPrefixOf, List.getElem?_cons_zero, Option.some.injEq]
      rw [Bool.eq_iff_iff]
      simp only [Bool.and_eq_true, beq_iff_eq, decide_eq_true_eq, Bool.and_true]
      constructor
      · rintro ⟨h1, h2⟩; exact ⟨h1.symm, h2.symm⟩
      · rintro ⟨h1, h2⟩; exact ⟨h1.symm, h2.symm⟩
  rw [h]
  by_cases hc : b = 58 ∧ t[0]? = some 93
  · rw [if_pos hc, decide_eq_true hc]; rfl
  · rw [if_neg hc, decide_eq_false hc]; rfl
theorem nameEnd_index (f : Nat) : ∀ k, k ≤ l.length → l.length ≤ k + f → (∀ n : Nat, Lib.index (l.drop k) [58, 93] = n → nameEnd l f k = k + n ∧ k + n + 1 < l.length) ∧ (Lib.index (l.drop k) [58, 93] = -1 → l.length ≤ nameEnd l f k + 1) := by
  induction f with
  | zero =>
    intro k h1 h2
    have hk : k = l.length := by omega
    subst hk
    rw [List.drop_length]
    have hi : Lib.index ([] : List UInt8) [58, 93] = -1 := rfl
    rw [hi]
    exact ⟨fun n hn => by omega, fun _ => by unfold nameEnd; omega⟩
  | succ f ih =>
    intro k h1 h2
    by_cases hk : k = l.length
    · subst hk
      rw [List.drop_length]
      have hi : Lib.index ([] : List UInt8) [58, 93] = -1 := rfl
      rw [hi]
      refine ⟨fun n hn => by omega, fun _ => ?_⟩
      unfold nameEnd
      rw [if_neg (by omega)]
      omega
    · have hlt : k < l.length := by omega
      have hd : l.drop k = l[k] :: l.drop (k + 1) := List.drop_eq_getElem_cons hlt
      have hg : l[k]? = some l[k] := List.getElem?_eq_getElem hlt
      have h0 : (l.drop (k + 1))[0]? = l[k + 1]? := by rw [List.getElem?_drop]
      rw [hd, index_two, h0]
      by_cases hp : l[k] = 58 ∧ l[k + 1]? = some 93
      · rw [if_pos hp]
        have hl := get_lt hp.2
        refine ⟨fun n hn => ?_, fun hn => by omega⟩
        have : n = 0 := by omega
        subst this
        unfold nameEnd
        rw [if_neg (by rintro ⟨_, h3⟩; exact h3 ⟨by rw [hg, hp.1], hp.2⟩)]
        exact ⟨by omega, by omega⟩
      · rw [if_neg hp]
        by_cases hl : k + 1 < l.length
        · have hne : nameEnd l (f + 1) k = nameEnd l f (k + 1) := by
            conv => lhs; unfold nameEnd
            rw [if_pos ⟨hl, by rintro ⟨h3, h4⟩; rw [hg] at h3; exact hp ⟨Option.some.inj h3, h4⟩⟩]
          rw [hne]
          obtain ⟨i1, i2⟩ := ih (k + 1) (by omega) (by omega)
          have hge := Lib.index_ge (l.drop (k + 1)) [58, 93]
          by_cases hm : Lib.index (l.drop (k + 1)) [58, 93] = -1
          · rw [hm]
            refine ⟨fun n hn => ?_, fun _ => i2 hm⟩
            have : (-1 : Int) = n := hn
            omega
          · obtain ⟨m, hm2⟩ : ∃ m : Nat, Lib.index (l.drop (k + 1)) [58, 93] = m := ⟨(Lib.index (l.drop (k + 1)) [58, 93]).toNat, by omega⟩
            have h3 := i1 m hm2
            rw [hm2]
            have hb : (((m : Nat) : Int) == -1) = false := by rw [beq_eq_false_iff_ne]; omega
            rw [hb]
            refine ⟨fun n hn => ?_, fun hn => ?_⟩
            · have : (m : Int) + 1 = n := hn
              omega
            · have : (m : Int) + 1 = -1 := hn
              omega
        · have hnil : l.drop (k + 1) = [] := List.drop_eq_nil_of_le (by omega)
          rw [hnil]
          have hi : Lib.index ([] : List UInt8) [58, 93] = -1 := rfl
          rw [hi]
          refine ⟨fun n hn => ?_, fun _ => ?_⟩
          · have : (-1 : Int) = n := hn
            omega
          · unfold nameEnd
            rw [if_neg (by omega)]
            omega
/-- One item of a class: what it stands for, and where the next one begins. -/
def itemF (l : List UInt8) (a : Nat) : Option ((Nat → Bool) × Nat) :=
  match l[a]? with
  | none => none
  | some c =>
    if c = 91 ∧ l[a + 1]? = some 58 then
      match clsF ((l.drop (a + 2)).take (nameEnd l l.length (a + 2) - (a + 2))) with
      | none => none
      | some p => if l.length ≤ nameEnd l l.length (a + 2) + 1 then none else some (fun x => decide (x < 256) && p x, nameEnd l l.length (a + 2) + 2)
    else if l[a + 1]? = some 45 ∧ a + 2 < l.length ∧ l[a + 2]? ≠ some 93 then
      if (l[a + 2]?.getD 0) < c then none else some (fun x => decide (c.toNat ≤ x) && decide (x ≤ (l[a + 2]?.getD 0).toNat), a + 3)
    else some (fun x => x == c.toNat, a + 1)
theorem items_step (f : Nat) (first : Bool) (a : Nat) (m : Nat → Bool) : itemsF l (f + 1) first a m = if (!first && l[a]? == some 93) = true then some (m, a) else match itemF l a with | none => none | some (p, a2) => itemsF l f false a2 (fun x => m x || p x) := by
  conv => lhs; unfold itemsF
  by_cases h : (!first && l[a]? == some 93) = true
  · rw [if_pos h, if_pos h]
  · rw [if_neg h, if_neg h]
    unfold itemF
    cases hx : l[a]? with
    | none => rfl
    | some c =>
      simp only
      by_cases h1 : c = 91 ∧ l[a + 1]? = some 58
      · rw [if_pos h1, if_pos h1]
        cases hc : clsF ((l.drop (a + 2)).take (nameEnd l l.length (a + 2) - (a + 2))) with
        | none => rfl
        | some p =>
          simp only
          by_cases h2 : l.length ≤ nameEnd l l.length (a + 2) + 1
          · rw [if_pos h2, if_pos h2]
          · rw [if_neg h2, if_neg h2]
      · rw [if_neg h1, if_neg h1]
        by_cases h2 : l[a + 1]? = some 45 ∧ a + 2 < l.length ∧ l[a + 2]? ≠ some 93
        · rw [if_pos h2, if_pos h2]
          by_cases h3 : (l[a + 2]?.getD 0) < c
          · rw [if_pos h3, if_pos h3]
          · rw [if_neg h3, if_neg h3]
        · rw [if_neg h2, if_neg h2]
theorem item_adv {a : Nat} {p : Nat → Bool} {a2 : Nat} (h : itemF l a = some (p, a2)) : a < a2 ∧ a2 ≤ l.length := by
  unfold itemF at h
  cases hx : l[a]? with
  | none => rw [hx] at h; cases h
  | some c =>
    have hl := get_lt hx
    rw [hx] at h
    simp only at h
    by_cases h1 : c = 91 ∧ l[a + 1]? = some 58
    · rw [if_pos h1] at h
      cases hc : clsF ((l.drop (a + 2)).take (nameEnd l l.length (a + 2) - (a + 2))) with
      | none => rw [hc] at h; cases h
      | some q =>
        rw [hc] at h
        simp only at h
        by_cases h2 : l.length ≤ nameEnd l l.length (a + 2) + 1
        · rw [if_pos h2] at h; cases h
        · rw [if_neg h2] at h
          injection h with h
          injection h with _ h
          have := nameEnd_ge (l := l) l.length (a + 2)
          omega
    · rw [if_neg h1] at h
      by_cases h2 : l[a + 1]? = some 45 ∧ a + 2 < l.length ∧ l[a + 2]? ≠ some 93
      · rw [if_pos h2] at h
        by_cases h3 : (l[a + 2]?.getD 0) < c
        · rw [if_pos h3] at h; cases h
        · rw [if_neg h3] at h
          injection h with h
          injection h with _ h
          omega
      · rw [if_neg h2] at h
        injection h with h
        injection h with _ h
        omega
end
end Px
end
end Go.Proofs.Ytgadomcbaenodaa

/- Facts; each states its conditions. -/
import Derived.Test.YtjecfmbecgpbmaaGreatDoorChecked
import Derived.Test.YtjecfmbecgpbmaaGreatDoorScanMathB
import Derived.WalkKit
import Derived.WalkSpells
import Derived.WalkLawsBesides
import Derived.LoopTactic
import Derived.Lib.Hide
import Derived.Deep.QuietTactic
import Derived.BigQuiet
import Derived.IntWalk
import Derived.Deep.LoopGhost
import Derived.Deep.RegionHeld3
import Derived.Laws.IdiomStrings
import Derived.OwnWalk
import Derived.WalkSmall
import Derived.Test.YtjecfmbecgpbmaaGreatDoorGScanBase
namespace Go.Proofs.YtjecfmbecgpbmaaGreatDoor
section
open Go.RowKit
namespace Tx
theorem ret_int {k : IntKind} {a b : Int} (h : a = b) : Ending.returned (.int k a) = .returned (.int k b) := by rw [h]
abbrev bs (s : ByteArray) : List UInt8 := s.data.toList
theorem bs_len (s : ByteArray) : (bs s).length = s.size := rfl
theorem bs_get? (s : ByteArray) (k : Nat) (h : k < s.size) : (bs s)[k]? = some s[k] := by rw [List.getElem?_eq_getElem (by simpa using h)]; rfl
theorem bs_drop (s : ByteArray) (k : Nat) (h : k < s.size) : (bs s).drop k = s[k] :: (bs s).drop (k + 1) := List.drop_eq_getElem_cons (l := bs s) (i := k) h
theorem bs_extract (s : ByteArray) (a b : Nat) : bs (s.extract a b) = ((bs s).drop a).take (b - a) := by
 simp [bs, List.take_drop]
theorem bs_append (a b : ByteArray) : bs (a ++ b) = bs a ++ bs b := by simp [bs]
theorem mk_bs (s : ByteArray) : (ByteArray.mk (bs s).toArray) = s := by cases s; simp [bs]
theorem bs_mk (l : List UInt8) : bs ⟨l.toArray⟩ = l := by simp [bs]
theorem size_mk (l : List UInt8) : (ByteArray.mk l.toArray).size = l.length := by simp [ByteArray.size]
theorem u8_lt (b : UInt8) : (b.toNat : Int) < 256 := by have := b.toNat_lt; omega
def RdI (w : World) (v : Value) (n : Nat) : Prop :=
 ∃ A c, v = .slice A n c ∧ (0 < n → ∃ b off, A = some ⟨b, off, none⟩ ∧ ∀ j, j < n → ∃ z, w.cell? ⟨b, off + j, none⟩ = some (.int .i64 z) ∧ -9223372036854775808 ≤ z ∧ z ≤ 9223372036854775807)
theorem cell_lt {w : World} {b o : Nat} {u : Value} (h : w.cell? ⟨b, o, none⟩ = some u) : b < w.heap.size := by
 rcases Nat.lt_or_ge b w.heap.size with h2 | h2
 · exact h2
 · unfold World.cell? at h
   rw [Array.getElem?_eq_none (by simpa using h2)] at h
   cases h
theorem RdI.below {w w' : World} {v : Value} {n : Nat} (h : RdI w v n) (hb : Below w.heap.size w w') : RdI w' v n := by
 obtain ⟨A, c, rfl, hc⟩ := h
 refine ⟨A, c, rfl, fun hp => ?_⟩
 obtain ⟨b, off, rfl, hcell⟩ := hc hp
 refine ⟨b, off, rfl, fun j hj => ?_⟩
 obtain ⟨z, h1, h2, h3⟩ := hcell j hj
 exact ⟨z, (hb.cell (p := ⟨b, off + j, none⟩) (cell_lt h1)).trans h1, h2, h3⟩
def RdS (w : World) (v : Value) (xs : List ByteArray) : Prop :=
 ∃ A c, v = .slice A xs.length c ∧ (xs.length ≤ c ∧ (A = none → c = 0)) ∧ (0 < xs.length → ∃ b off, A = some ⟨b, off, none⟩ ∧ ∀ j (h : j < xs.length), w.cell? ⟨b, off + j, none⟩ = some (.string xs[j]))
theorem RdS.below {w w' : World} {v : Value} {xs : List ByteArray} (h : RdS w v xs) (hb : Below w.heap.size w w') : RdS w' v xs := by
 obtain ⟨A, c, rfl, hcap, hc⟩ := h
 refine ⟨A, c, rfl, hcap, fun hp => ?_⟩
 obtain ⟨b, off, rfl, hcell⟩ := hc hp
 exact ⟨b, off, rfl, fun j hj => (hb.cell (p := ⟨b, off + j, none⟩) (cell_lt (hcell j hj))).trans (hcell j hj)⟩
def mks (l : List (List UInt8)) : List ByteArray := l.map fun l => ⟨l.toArray⟩
theorem mks_bs (xs : List ByteArray) : mks (xs.map bs) = xs := by
 unfold mks; rw [List.map_map]
 conv => rhs; rw [← List.map_id xs]
 exact List.map_congr_left fun x _ => mk_bs x
theorem mks_len (l : List (List UInt8)) : (mks l).length = l.length := by simp [mks]
theorem mks_map (l : List (List UInt8)) : (mks l).map bs = l := by
 unfold mks; rw [List.map_map]
 conv => rhs; rw [← List.map_id l]
 exact List.map_congr_left fun x _ => bs_mk x
abbrev strV (l : List UInt8) : Value := .string ⟨l.toArray⟩
def strsV (l : List (List UInt8)) : List Value := l.map strV
theorem strsV_append (a b : List (List UInt8)) : strsV (a ++ b) = strsV a ++ strsV b := by simp [strsV]
theorem strsV_len (a : List (List UInt8)) : (strsV a).length = a.length := by simp [strsV]
theorem RdS.of_own {w : World} {base : Nat} {v : Value} {ws : List (List UInt8)} (h : w.ownsRow base 9 1 v ws.length (strsV ws)) : RdS w v (mks ws) := by
 rcases h.2 with ⟨rfl, h0⟩ | ⟨g, cap, cur, rfl, _, _, hcap, _⟩
 · exact ⟨none, 0, by rw [mks_len, h0], ⟨by rw [mks_len, h0]; exact Nat.le_refl _, fun _ => rfl⟩, fun hp => by rw [mks_len] at hp; omega⟩
 · refine ⟨_, cap, by rw [mks_len], ⟨by rw [mks_len]; exact hcap, fun e => by cases e⟩, fun _ => ⟨g, 0, rfl, fun j hj => ?_⟩⟩
   rw [mks_len] at hj
   have hc := h.cellAt j (by omega)
   rw [Nat.zero_add, hc]
   simp [strsV, mks, List.getElem?_eq_getElem hj]
theorem RdS.nil (w : World) : RdS w (.slice none 0 0) [] := ⟨none, 0, rfl, ⟨Nat.le_refl _, fun _ => rfl⟩, fun hp => absurd hp (by decide)⟩
end Tx
end
section
open Go.RowKit
namespace Tx
theorem bne_of (b : UInt8) (n : Nat) (h : b ≠ UInt8.ofNat n) (hn : n < 256) : ((b.toNat : Int) == (n : Int)) = false := by
 simp only [beq_eq_false_iff_ne, ne_eq]
 intro e
 exact h (UInt8.toNat_inj.1 (by have : b.toNat = n := by omega
                                rw [this]; simp; omega))
theorem endedF_last (s : ByteArray) (h : 0 < s.size) : endedF (bs s) = (s[s.size - 1]'(by omega) == 10) := by
 unfold endedF
 rw [List.getLast?_eq_getElem?, bs_len, bs_get? s (s.size - 1) (by omega)]
 rfl
theorem endedF_empty (s : ByteArray) (h : s.size = 0) : endedF (bs s) = false := by
 have : bs s = [] := List.eq_nil_of_length_eq_zero h
 rw [this]; rfl
theorem nonempty_of (s : ByteArray) (h : 0 < s.size) : ¬ s.toList = [] := by
 rw [ByteArray.toList_eq]
 intro e
 have h2 : s.data.toList.length = s.size := rfl
 rw [e] at h2
 simp at h2; omega
theorem empty_of (s : ByteArray) (h : s.size = 0) : s.toList = [] := by
 rw [ByteArray.toList_eq]; exact List.eq_nil_of_length_eq_zero h
theorem EndedR_any (s : ByteArray) (w : World) (hs : s.size ≤ 9223372036854775807) :
 Calls Tryz.prog 64 #[.string s] w fun e w' => e = .returned (.bool (endedF (bs s))) ∧ w = w' := by
 by_cases h0 : s.size = 0
 · have H := Lib.hid (endedF_empty s h0)
   have e0 := empty_of s h0
   have e1 : s.toList.isEmpty = true := by rw [e0]; rfl
   have H0 := Lib.hid h0
   clear h0
   go_enter Tryz.func64, Tryz.ntmps64
   go_wp2_with fail
   go_ret
   exact ⟨by rw [H.out]; rfl, rfl⟩
 · have hp : 0 < s.size := by omega
   have e0 := nonempty_of s hp
   have e1 : s.toList.isEmpty = false := by simpa using e0
   have H := Lib.hid (endedF_last s hp)
   by_cases hb : s[s.size - 1] = 10
   · have e3 : ((s[s.size - 1].toNat : Int) == 10) = true := by rw [hb]; rfl
     have H2 : Hid (endedF (bs s) = true) := Lib.hid (by rw [H.out, hb]; rfl)
     clear hb h0
     go_enter Tryz.func64, Tryz.ntmps64
     go_wp2_with fail
     go_ret
     exact ⟨by rw [H2.out]; rfl, rfl⟩
   · have e3 : ((s[s.size - 1].toNat : Int) == 10) = false := bne_of _ 10 hb (by omega)
     have H2 : Hid (endedF (bs s) = false) := Lib.hid (by rw [H.out]; simpa using hb)
     clear hb h0
     go_enter Tryz.func64, Tryz.ntmps64
     go_wp2_with fail
     go_ret
     exact ⟨by rw [H2.out]; rfl, rfl⟩
def bareB (s : ByteArray) : ByteArray := if endedF (bs s) then s.extract 0 (s.size - 1) else s
theorem bareB_bs (s : ByteArray) : bs (bareB s) = bareF (bs s) := by
 unfold bareB bareF
 split
 · rw [bs_extract, List.dropLast_eq_take, bs_len]; rfl
 · rfl
theorem lines_lf (l : List UInt8) (f k : Nat) (hf : f ≤ k) (hk : l[k]? = some 10) (h : ∀ j, f ≤ j → j < k → l[j]? ≠ some 10) :
 linesF (l.drop f) = (l.drop f).take (k + 1 - f) :: linesF (l.drop (k + 1)) := by
 have hlt : k < l.length := by
  rcases Nat.lt_or_ge k l.length with h1 | h1
  · exact h1
  · rw [List.getElem?_eq_none h1] at hk; cases hk
 have e1 : l.drop f = (l.drop f).take (k - f) ++ 10 :: l.drop (k + 1) := by
  conv => lhs; rw [← List.take_append_drop (k - f) (l.drop f)]
  rw [List.drop_drop, show f + (k - f) = k by omega, List.drop_eq_getElem_cons hlt]
  rw [List.getElem?_eq_getElem hlt] at hk
  rw [Option.some.inj hk]
 have h10 : (10 : UInt8) ∉ (l.drop f).take (k - f) := by
  intro hm
  obtain ⟨j, hj⟩ := List.mem_iff_getElem?.1 hm
  by_cases hjk : j < k - f
  · rw [List.getElem?_take_of_lt hjk, List.getElem?_drop] at hj
    exact h (f + j) (by omega) (by omega) hj
  · rw [List.getElem?_take_eq_none (by omega)] at hj; cases hj
 have e2 : (l.drop f).take (k + 1 - f) = (l.drop f).take (k - f) ++ [10] := by
  rw [show k + 1 - f = (k - f) + 1 by omega, List.take_add_one, List.getElem?_drop, show f + (k - f) = k by omega, hk]; rfl
 rw [e2]
 conv => lhs; rw [e1]
 exact linesF_cons _ _ h10
theorem lines_last (l : List UInt8) (f : Nat) (hf : f < l.length) (h : ∀ j, f ≤ j → j < l.length → l[j]? ≠ some 10) :
 linesF (l.drop f) = [(l.drop f).take (l.length - f)] := by
 rw [List.take_of_length_le (by simp)]
 refine linesF_one _ ?_ ?_
 · intro hm
   obtain ⟨j, hj⟩ := List.mem_iff_getElem?.1 hm
   rw [List.getElem?_drop] at hj
   by_cases hjk : f + j < l.length
   · exact h (f + j) (by omega) hjk hj
   · rw [List.getElem?_eq_none (by omega)] at hj; cases hj
 · intro e
   have := congrArg List.length e
   rw [List.length_drop] at this; simp at this; omega
theorem info_str : (Tryz.prog.info? 9).map (fun i => (i.zero, i.size, i.bytes)) = some (some (.string ⟨#[]⟩), 1, 16) := by kernel_rfl
theorem below_of_appendS {w w' : World} {base : Nat} {v : Value} {n : Nat} {xs : List Value} (hown : w.ownsRow base 9 1 v n xs) (hg : w.grownBy w' v.ownBlock) (hb : base ≤ w.heap.size) : Below base w w' :=
 (Below.refl _ _).grown hg hb (fun k hk => by
  rcases hown.2 with ⟨rfl, _⟩ | ⟨g, cap, cur, rfl, hg', _⟩
  · simp [Value.ownBlock] at hk
  · simp [Value.ownBlock] at hk; omega)
theorem app_newS {ops : Array Oper} {rest : List Oper} {o : Oper} {a : Act} {Q : Exit → Act → World → Prop} {w : World} {C : Array Value} (hgd : o.guard = none) (s x : Operand)
 (ho : o.op = .call { callee := .builtin .append, args := #[s, x], argTypes := #[30, 30] })
 (base : Nat) (l : List (List UInt8)) (m : List UInt8) (v : Value) (hs : a.eval s = v) (hown : w.ownsRow base 9 1 v l.length (strsV l))
 (hx : a.eval x = .slice (some ⟨w.heap.size, 0, none⟩) 1 1) (hC : C.toList = [strV m])
 (hsz : l.length + 1 ≤ 100000000) (hbase : base ≤ w.heap.size)
 (h : ∀ v' w', w'.ownsRow base 9 1 v' (l ++ [m]).length (strsV (l ++ [m])) → Below base w w' → wpList Tryz.prog ops Q rest (a.put o.dst v') w') :
 wpList Tryz.prog ops Q (o :: rest) a (w.alloc (.cells C 9)) := by
 obtain ⟨i0, hi0, hz0, hz1, hz2⟩ := info_parts info_str
 have hsize : (w.alloc (.cells C 9)).heap.size = w.heap.size + 1 := by simp
 refine wpList_append_own _ hgd s x _ ho base 9 i0 _ 1 16 Tryz.underlying30 hi0 hz0 hz1 hz2 rfl (by omega) v l.length (strsV l) hs (hown.alloc _) ⟨w.heap.size, 0, none⟩ 1 1 [strV m] hx
  rfl (fun j u hu => ?_) ?_ (by unfold maxLen; omega) (by omega) (by omega) ?_
 · have he : (Addr.mk w.heap.size 0 none).add j = ⟨w.heap.size, j, none⟩ := by
    unfold Addr.add; split
    · rename_i h0; rw [h0]
    · simp
   rw [he, World.cell?_alloc_mark, ← hu, ← hC]; simp
 · intro u hu
   simp only [List.mem_singleton] at hu
   subst hu
   rfl
 · intro v' w' h1 h2 _
   exact h v' w' (by rw [strsV_append, List.length_append]; exact h1) (((Below.refl base w).alloc hbase _).trans (below_of_appendS (hown.alloc _) h2 (by omega)))
def StrsPost (w : World) (l : List (List UInt8)) (e : Ending) (w' : World) : Prop := ∃ v, e = .returned v ∧ w'.ownsRow w.heap.size 9 1 v l.length (strsV l) ∧ Below w.heap.size w w'
set_option maxRecDepth 100000 in
set_option maxHeartbeats 2000000 in
theorem LinesR_any (s : ByteArray) (w : World) (hs : s.size ≤ 4194304) : Calls Tryz.prog 32 #[.string s] w (StrsPost w (linesF (bs s))) := by
 go_enter Tryz.func32, Tryz.ntmps32
 go_wp2_with fail
 go_loopw [3, 4, 5] (fun v f i wr => ∃ (k fr : Nat) (acc : List (List UInt8)), k ≤ s.size ∧ fr ≤ k ∧ (k = s.size → fr = k) ∧ acc.length ≤ k ∧ i = .int .i64 k ∧ f = .int .i64 fr ∧ Hid (∀ j, fr ≤ j → j < k → (bs s)[j]? ≠ some 10) ∧ Hid (wr.ownsRow w.heap.size 9 1 v acc.length (strsV acc)) ∧
  Hid (acc ++ linesF ((bs s).drop fr) = linesF (bs s)) ∧ Below w.heap.size w wr) (fun _ _ i _ => s.size - (intOf i).toNat)
 case atStart => exact ⟨0, 0, [], Nat.zero_le _, Nat.le_refl _, fun _ => rfl, Nat.zero_le _, rfl, rfl, Lib.hid (fun j h1 h2 => absurd h2 (by omega)), Lib.hid (World.ownsRow_nil _ _ _ _), Lib.hid rfl, Below.refl _ _⟩
 case round =>
  obtain ⟨k, fr, acc, hk, hfk, hend, hacc, rfl, rfl, HN, HO, HA, hnx⟩ := hrel
  have hsz := hnx.size
  have HEnd := Lib.hid hend
  clear hend
  by_cases hlt : k < s.size
  · have hg := bs_get? s k hlt
    by_cases hb : s[k] = 10
    · have e3 : ((s[k].toNat : Int) == 10) = true := by rw [hb]; rfl
      have HS := Lib.hid (lines_lf (bs s) fr k hfk (by rw [hg, hb]) HN.out)
      have HX : Hid (bs (s.extract fr (k + 1)) = ((bs s).drop fr).take (k + 1 - fr)) := Lib.hid (bs_extract _ _ _)
      clear hg hb
      go_wp2_with (at_builtin; refine app_newS rfl (.tmp 23) (.tmp 29) rfl w.heap.size acc (bs (s.extract fr (k + 1))) _ rfl HO.out rfl rfl (by omega) hsz ?_; intro v3 w3 ho3 hb3; have HO3 := Lib.hid ho3; clear ho3)
      go_roundw
      case rel => exact ⟨k + 1, k + 1, acc ++ [bs (s.extract fr (k + 1))], by omega, by omega, fun _ => rfl, by simp; omega, by go_num, by go_num, Lib.hid (fun j h1 h2 => absurd h2 (by omega)), HO3, Lib.hid (by rw [List.append_assoc, ← HA.out, HS.out, HX.out]; rfl), hnx.trans hb3⟩
      case measure => simp [intOf]; omega
    · have e3 : ((s[k].toNat : Int) == 10) = false := bne_of _ 10 hb (by omega)
      have HN2 : Hid (∀ j, fr ≤ j → j < k + 1 → (bs s)[j]? ≠ some 10) := Lib.hid (fun j h1 h2 => by
       by_cases hj : j < k
       · exact HN.out j h1 hj
       · have : j = k := by omega
         subst this
         rw [hg]; intro e; exact hb (Option.some.inj e))
      by_cases hl : k + 1 = s.size
      · have e4 : ((k : Int) + 1 == (s.size : Int)) = true := by simp only [beq_iff_eq]; omega
        have HS : Hid (linesF ((bs s).drop fr) = [((bs s).drop fr).take (k + 1 - fr)]) := Lib.hid (by rw [hl]; exact lines_last (bs s) fr (by rw [bs_len]; omega) (by rw [bs_len, ← hl]; exact HN2.out))
        have HD : Hid (linesF ((bs s).drop (k + 1)) = []) := Lib.hid (by rw [hl, List.drop_of_length_le (by rw [bs_len]; exact Nat.le_refl _)]; rfl)
        have HX : Hid (bs (s.extract fr (k + 1)) = ((bs s).drop fr).take (k + 1 - fr)) := Lib.hid (bs_extract _ _ _)
        have HL := Lib.hid hl
        clear hg hb hl
        go_wp2_with (at_builtin; refine app_newS rfl (.tmp 23) (.tmp 29) rfl w.heap.size acc (bs (s.extract fr (k + 1))) _ rfl HO.out rfl rfl (by omega) hsz ?_; intro v3 w3 ho3 hb3; have HO3 := Lib.hid ho3; clear ho3)
        go_roundw
        case rel => exact ⟨k + 1, k + 1, acc ++ [bs (s.extract fr (k + 1))], by omega, by omega, fun _ => rfl, by simp; omega, by go_num, by go_num, Lib.hid (fun j h1 h2 => absurd h2 (by omega)), HO3, Lib.hid (by rw [List.append_assoc, ← HA.out, HS.out, HX.out, HD.out]; rfl), hnx.trans hb3⟩
        case measure => simp [intOf]; omega
      · have e4 : ((k : Int) + 1 == (s.size : Int)) = false := by simp only [beq_eq_false_iff_ne, ne_eq]; omega
        clear hg hb
        go_wp2_with fail
        go_roundw
        case rel => exact ⟨k + 1, fr, acc, by omega, by omega, fun e => absurd e hl, by omega, by go_num, rfl, HN2, HO, HA, hnx⟩
        case measure => simp [intOf]; omega
  · have hks : k = s.size := by omega
    have HF : Hid (acc = linesF (bs s)) := Lib.hid (by
     rw [← HA.out, HEnd.out hks, hks, List.drop_of_length_le (by rw [bs_len]; exact Nat.le_refl _)]
     exact (List.append_nil _).symm)
    clear hks
    go_wp2_with fail
    go_ret
    exact ⟨_, rfl, by rw [← HF.out]; exact HO.out, hnx⟩
def SplitPost (w : World) (l : List UInt8) (e : Ending) (w' : World) : Prop :=
 ∃ v, e = .returned (.tuple #[v, .int .i64 (checkF l)]) ∧ RdS w' v (mks (if checkF l = 0 then linesF l else [])) ∧ Below w.heap.size w w'
theorem checkF_long (l : List UInt8) (h : 1048576 < l.length) : checkF l = 1 := by unfold checkF; rw [if_pos (.inl h)]
theorem checkF_many (l : List UInt8) (h : 4096 < (linesF l).length) : checkF l = 1 := by unfold checkF; rw [if_pos (.inr h)]
theorem own_len {w : World} {base n : Nat} {v : Value} {xs : List Value} (h : w.ownsRow base 9 1 v n xs) : ∃ A c, v = .slice A n c := by
 rcases h.2 with ⟨rfl, rfl⟩ | ⟨g, cap, cur, rfl, _⟩
 · exact ⟨none, 0, rfl⟩
 · exact ⟨_, cap, rfl⟩
set_option maxRecDepth 100000 in
set_option maxHeartbeats 2000000 in
theorem CheckR_any (s : ByteArray) (w : World) (hs : s.size ≤ 4194304) : Calls Tryz.prog 68 #[.string s] w fun e w' => e = .returned (.int .i64 (checkF (bs s))) ∧ Below w.heap.size w w' := by
 have HL := Lib.hid (fun w => LinesR_any s w hs)
 by_cases h1 : (1048576 : Int) < (s.size : Int)
 · have H := Lib.hid (checkF_long (bs s) (by rw [bs_len]; omega))
   rw [H.out]
   go_enter Tryz.func68, Tryz.ntmps68
   go_wp2_with fail
   go_ret
   exact ⟨rfl, Below.refl _ _⟩
 · have HT := Lib.hid (linesF_le (bs s))
   have hl0 := HT.out
   rw [bs_len] at hl0
   have HC1 := Lib.hid (checkF_no (bs s) (by rw [bs_len]; omega))
   have HC2 := Lib.hid (checkF_many (bs s))
   generalize hn : (linesF (bs s)).length = n at hl0 HC1 HC2
   have HLL : Hid (∀ w, Calls Tryz.prog 32 #[.string s] w fun e w' => ∃ A c, e = .returned (.slice A n c) ∧ Below w.heap.size w w') := Lib.hid (fun w => (HL.out w).mono fun e w' ⟨v, h1, h2, h3⟩ => by
    obtain ⟨A, c, rfl⟩ := own_len h2
    exact ⟨A, c, by rw [← hn]; exact h1, h3⟩)
   clear hn HT HL
   by_cases h2 : (4096 : Int) < (n : Int)
   · have HC : Hid (checkF (bs s) = 1) := Lib.hid (HC2.out (by omega))
     rw [HC.out]
     go_enter Tryz.func68, Tryz.ntmps68
     go_wp2_with (go_at_call 32; refine (HLL.out _).mono ?_; rintro e w1 ⟨A, c, rfl, hb⟩)
     go_ret
     exact ⟨rfl, hb⟩
   · have HC : Hid (checkF (bs s) = 0) := Lib.hid (HC1.out (by omega))
     rw [HC.out]
     go_enter Tryz.func68, Tryz.ntmps68
     go_wp2_with (go_at_call 32; refine (HLL.out _).mono ?_; rintro e w1 ⟨A, c, rfl, hb⟩)
     go_ret
     exact ⟨rfl, hb⟩
theorem checkF_01 (l : List UInt8) : checkF l = 0 ∨ checkF l = 1 := by unfold checkF; split <;> simp
set_option maxHeartbeats 1000000 in
theorem SplitR_any (s : ByteArray) (w : World) (hs : s.size ≤ 4194304) : Calls Tryz.prog 41 #[.string s] w (SplitPost w (bs s)) := by
 have HL := Lib.hid (fun w => LinesR_any s w hs)
 have HC := Lib.hid (fun w => CheckR_any s w hs)
 rcases checkF_01 (bs s) with h | h
 · have HP : Hid (∀ v w', RdS w' v (mks (linesF (bs s))) → Below w.heap.size w w' → SplitPost w (bs s) (.returned (.tuple #[v, .int .i64 0])) w') := Lib.hid (fun v w' h1 h2 => ⟨v, by rw [h], by rw [if_pos h]; exact h1, h2⟩)
   rw [h] at HC
   clear h
   go_enter Tryz.func41, Tryz.ntmps41
   go_wp2_with (first
    | (go_at_call 68; refine (HC.out _).mono ?_; rintro e w1 ⟨rfl, hb⟩)
    | (go_at_call 32; refine (HL.out _).mono ?_; rintro e w2 ⟨v, rfl, ho, hb2⟩))
   go_ret2
   exact HP.out _ _ (RdS.of_own ho) (hb.trans (hb2.mono hb.size))
 · have HP : Hid (∀ w', Below w.heap.size w w' → SplitPost w (bs s) (.returned (.tuple #[.slice none 0 0, .int .i64 1])) w') := Lib.hid (fun w' h2 => ⟨_, by rw [h], by rw [if_neg (by rw [h]; decide)]; exact RdS.nil _, h2⟩)
   rw [h] at HC
   clear h
   go_enter Tryz.func41, Tryz.ntmps41
   go_wp2_with (go_at_call 68; refine (HC.out _).mono ?_; rintro e w1 ⟨rfl, hb⟩)
   go_ret2
   exact HP.out _ hb
end Tx
end
section
namespace Sc
structure Ch where
 old : Int
 oldLen : Int
 new : Int
 newLen : Int
structure Sp where
 frm : Int
 to : Int
theorem Ch.eq {a b : Ch} (h1 : a.old = b.old) (h2 : a.oldLen = b.oldLen) (h3 : a.new = b.new) (h4 : a.newLen = b.newLen) : a = b := by
 cases a; cases b; simp at h1 h2 h3 h4; simp [h1, h2, h3, h4]
theorem Sp.eq {a b : Sp} (h1 : a.frm = b.frm) (h2 : a.to = b.to) : a = b := by
 cases a; cases b; simp at h1 h2; simp [h1, h2]
def inI (n : Int) : Prop := 0 ≤ n ∧ n ≤ 4096
def wiI (f l n : Int) : Prop := 0 ≤ f ∧ 0 ≤ l ∧ l ≤ n - f
def OkC (f : Bool) (i j : Int) (c : Ch) (m n : Int) : Prop :=
 (wiI c.old c.oldLen m ∧ wiI c.new c.newLen n ∧ ¬ (c.oldLen = 0 ∧ c.newLen = 0)) ∧ (c.old - i = c.new - j ∧ (f = false → 1 ≤ c.old - i))
def OkL (f : Bool) (i j : Int) : List Ch → Int → Int → Prop
 | [], m, n => m - i = n - j
 | c :: l, m, n => OkC f i j c m n ∧ OkL false (c.old + c.oldLen) (c.new + c.newLen) l m n
def RfC (f : Bool) (i j : Int) (c : Ch) : Prop :=
 inI c.old ∧ inI c.oldLen ∧ inI c.new ∧ inI c.newLen ∧ c.oldLen + c.newLen ≠ 0 ∧ c.old - i = c.new - j ∧ i ≤ c.old ∧ (f = false → c.old ≠ i)
def RfL (f : Bool) (i j : Int) : List Ch → Int → Int → Prop
 | [], m, n => m - i = n - j ∧ i ≤ m
 | c :: l, m, n => RfC f i j c ∧ RfL false (c.old + c.oldLen) (c.new + c.newLen) l m n
theorem RfL.end {m n : Int} : ∀ {l : List Ch} {f : Bool} {i j : Int}, RfL f i j l m n → i ≤ m ∧ j ≤ n
 | [], _, _, _, h => by have := h.1; have := h.2; omega
 | c :: l, f, i, j, h => by
   obtain ⟨⟨⟨a0, a1⟩, ⟨b0, b1⟩, ⟨c0, c1⟩, ⟨d0, d1⟩, e, g, k, _⟩, hl⟩ := h
   have := RfL.end hl
   omega
theorem RfL.ok {m n : Int} : ∀ {l : List Ch} {f : Bool} {i j : Int}, RfL f i j l m n → OkL f i j l m n
 | [], _, _, _, h => h.1
 | c :: l, f, i, j, h => by
   obtain ⟨⟨⟨a0, a1⟩, ⟨b0, b1⟩, ⟨c0, c1⟩, ⟨d0, d1⟩, e, g, k, q⟩, hl⟩ := h
   have h2 := RfL.end hl
   refine ⟨⟨⟨⟨a0, b0, by omega⟩, ⟨c0, d0, by omega⟩, by omega⟩, g, fun hf => ?_⟩, RfL.ok hl⟩
   have := q hf
   omega
theorem OkL.rf {m n : Int} (hm : inI m) (hn : inI n) : ∀ {l : List Ch} {f : Bool} {i j : Int}, (f = true → i = 0) → i ≤ m → OkL f i j l m n → RfL f i j l m n
 | [], _, _, _, _, hi, h => ⟨h, hi⟩
 | c :: l, f, i, j, hf, hi, h => by
   obtain ⟨⟨⟨⟨a0, a1, a2⟩, ⟨b0, b1, b2⟩, e⟩, g, q⟩, hl⟩ := h
   have h2 := hm.2
   have h3 := hn.2
   refine ⟨⟨⟨a0, by omega⟩, ⟨a1, by omega⟩, ⟨b0, by omega⟩, ⟨b1, by omega⟩, by omega, g, ?_, fun hf => ?_⟩, OkL.rf hm hn (fun h => by cases h) (by omega) hl⟩
   · cases f with
     | true => have := hf rfl; omega
     | false => have := q rfl; omega
   · have := q hf; omega
theorem ok_iff {l : List Ch} {m n : Int} (hm : inI m) (hn : inI n) : OkL true 0 0 l m n ↔ RfL true 0 0 l m n :=
 ⟨OkL.rf hm hn (fun _ => rfl) hm.1, RfL.ok⟩
open Classical in
noncomputable def chkF (l : List Ch) (m n : Int) : Int := if inI m ∧ inI n ∧ OkL true 0 0 l m n then 0 else 80
theorem chkF_ok {l : List Ch} {m n : Int} (hm : inI m) (hn : inI n) (h : OkL true 0 0 l m n) : chkF l m n = 0 := by unfold chkF; rw [if_pos ⟨hm, hn, h⟩]
theorem chkF_no {l : List Ch} {m n : Int} (h : ¬ (inI m ∧ inI n ∧ OkL true 0 0 l m n)) : chkF l m n = 80 := by unfold chkF; rw [if_neg h]
def cntI (n : Int) : Int := if 0 ≤ n ∧ n ≤ 4096 then n else 0
def szO (l : List Ch) : Int := (l.map fun c => cntI c.oldLen).sum
def szN (l : List Ch) : Int := (l.map fun c => cntI c.newLen).sum
theorem cntI_bd (n : Int) : 0 ≤ cntI n ∧ cntI n ≤ 4096 := by unfold cntI; split <;> omega
theorem szO_bd : ∀ l : List Ch, 0 ≤ szO l ∧ szO l ≤ 4096 * l.length
 | [] => by simp [szO]
 | c :: l => by
   have h := szO_bd l
   have := cntI_bd c.oldLen
   unfold szO at *
   simp only [List.map_cons, List.sum_cons, List.length_cons]
   omega
def run (i j : Int) (k : Nat) : List Sp := (List.range k).map fun t : Nat => ⟨i + t, j + t⟩
theorem run_len (i j : Int) (k : Nat) : (run i j k).length = k := by simp [run]
theorem run_zero (i j : Int) : run i j 0 = [] := rfl
theorem run_snoc (i j : Int) (k : Nat) : run i j (k + 1) = run i j k ++ [⟨i + k, j + k⟩] := by simp [run, List.range_succ]
theorem run_cons (i j : Int) (k : Nat) : run i j (k + 1) = ⟨i, j⟩ :: run (i + 1) (j + 1) k := by
 unfold run
 rw [List.range_succ_eq_map, List.map_cons, List.map_map]
 refine congr (congrArg _ ?_) ?_
 · exact Sp.eq (by simp) (by simp)
 · refine List.map_congr_left fun t _ => Sp.eq ?_ ?_
   · show i + ((t + 1 : Nat) : Int) = i + 1 + t
     omega
   · show j + ((t + 1 : Nat) : Int) = j + 1 + t
     omega
def mtF (m : Int) : Int → Int → List Ch → List Sp
 | i, j, [] => run i j (m - i).toNat
 | i, j, c :: l => run i j (c.old - i).toNat ++ mtF m (c.old + c.oldLen) (c.new + c.newLen) l
def btw (i a j b : Int) : List Ch := if i = a ∧ j = b then [] else [⟨i, a - i, j, b - j⟩]
def frF (m n : Int) : Int → Int → List Sp → List Ch
 | i, j, [] => btw i m j n
 | i, j, s :: p => btw i s.frm j s.to ++ frF m n (s.frm + 1) (s.to + 1) p
def OkP (m n : Int) : Int → Int → List Sp → Prop
 | _, _, [] => True
 | i, j, s :: p => (i ≤ s.frm ∧ s.frm < m ∧ j ≤ s.to ∧ s.to < n) ∧ OkP m n (s.frm + 1) (s.to + 1) p
theorem btw_same (i j : Int) : btw i i j j = [] := by unfold btw; rw [if_pos ⟨rfl, rfl⟩]
theorem btw_new {i a j b : Int} (h : ¬ (i = a ∧ j = b)) : btw i a j b = [⟨i, a - i, j, b - j⟩] := by unfold btw; rw [if_neg h]
theorem btw_len (i a j b : Int) : (btw i a j b).length ≤ 1 := by unfold btw; split <;> simp
theorem frF_len (m n : Int) : ∀ (p : List Sp) (i j : Int), (frF m n i j p).length ≤ p.length + 1
 | [], i, j => by have := btw_len i m j n; simpa [frF] using this
 | s :: p, i, j => by
   have h1 := btw_len i s.frm j s.to
   have h2 := frF_len m n p (s.frm + 1) (s.to + 1)
   simp only [frF, List.length_append, List.length_cons]
   omega
theorem okC_new {f : Bool} {i j i0 j0 a b m n : Int} (h1 : i - i0 = j - j0) (h2 : f = false → 1 ≤ i - i0) (h3 : 0 ≤ i) (h4 : 0 ≤ j) (h5 : i ≤ a) (h6 : a ≤ m) (h7 : j ≤ b) (h8 : b ≤ n) (he : ¬ (i = a ∧ j = b)) : OkC f i0 j0 ⟨i, a - i, j, b - j⟩ m n := by
 refine ⟨⟨⟨h3, ?_, ?_⟩, ⟨h4, ?_, ?_⟩, ?_⟩, h1, h2⟩
 all_goals simp only
 all_goals omega
theorem frF_ok {m n : Int} : ∀ (p : List Sp) (f : Bool) (i j i0 j0 : Int), i - i0 = j - j0 → (f = false → 1 ≤ i - i0) → 0 ≤ i → 0 ≤ j → i ≤ m → j ≤ n → OkP m n i j p → OkL f i0 j0 (frF m n i j p) m n
 | [], f, i, j, i0, j0, h1, h2, h3, h4, h5, h6, _ => by
   simp only [frF]
   by_cases he : i = m ∧ j = n
   · obtain ⟨rfl, rfl⟩ := he
     rw [btw_same]
     exact h1
   · rw [btw_new he]
     exact ⟨okC_new h1 h2 h3 h4 h5 (Int.le_refl _) h6 (Int.le_refl _) he, by show m - (i + (m - i)) = n - (j + (n - j)); omega⟩
 | s :: p, f, i, j, i0, j0, h1, h2, h3, h4, h5, h6, ⟨⟨g1, g2, g3, g4⟩, hp⟩ => by
   simp only [frF]
   by_cases he : i = s.frm ∧ j = s.to
   · rw [← he.1, ← he.2, btw_same, List.nil_append]
     have h := frF_ok (m := m) (n := n) p f (i + 1) (j + 1) i0 j0 (by omega) (fun hf => by have := h2 hf; omega) (by omega) (by omega) (by omega) (by omega) (by rw [he.1, he.2]; exact hp)
     exact h
   · rw [btw_new he, List.singleton_append]
     refine ⟨okC_new h1 h2 h3 h4 g1 (by omega) g3 (by omega) he, ?_⟩
     have h := frF_ok (m := m) (n := n) p false (s.frm + 1) (s.to + 1) s.frm s.to (by omega) (fun _ => by omega) (by omega) (by omega) (by omega) (by omega) hp
     rw [show (⟨i, s.frm - i, j, s.to - j⟩ : Ch).old + (⟨i, s.frm - i, j, s.to - j⟩ : Ch).oldLen = s.frm from by show i + (s.frm - i) = s.frm; omega, show (⟨i, s.frm - i, j, s.to - j⟩ : Ch).new + (⟨i, s.frm - i, j, s.to - j⟩ : Ch).newLen = s.to from by show j + (s.to - j) = s.to; omega]
     exact h
theorem mt_fr {m n : Int} : ∀ (p : List Sp) (i j i0 j0 : Int), i - i0 = j - j0 → i0 ≤ i → i ≤ m → j ≤ n → OkP m n i j p → mtF m i0 j0 (frF m n i j p) = run i0 j0 (i - i0).toNat ++ p
 | [], i, j, i0, j0, h1, h2, h5, h6, _ => by
   simp only [frF]
   by_cases he : i = m ∧ j = n
   · obtain ⟨rfl, rfl⟩ := he
     rw [btw_same, List.append_nil]
     rfl
   · rw [btw_new he]
     simp only [mtF]
     rw [show (m - (i + (m - i))).toNat = 0 from by omega, run_zero]
 | s :: p, i, j, i0, j0, h1, h2, h5, h6, ⟨⟨g1, g2, g3, g4⟩, hp⟩ => by
   simp only [frF]
   by_cases he : i = s.frm ∧ j = s.to
   · obtain ⟨e1, e2⟩ := he
     rw [← e1, ← e2, btw_same, List.nil_append]
     have h := mt_fr (m := m) (n := n) p (i + 1) (j + 1) i0 j0 (by omega) (by omega) (by omega) (by omega) (by rw [e1, e2]; exact hp)
     rw [h, show (i + 1 - i0).toNat = (i - i0).toNat + 1 from by omega, run_snoc, List.append_assoc, List.singleton_append]
     refine congrArg _ (congrArg (· :: p) (Sp.eq ?_ ?_))
     · show i0 + ((i - i0).toNat : Int) = s.frm; omega
     · show j0 + ((i - i0).toNat : Int) = s.to; omega
   · rw [btw_new he, List.singleton_append]
     simp only [mtF]
     rw [show i + (s.frm - i) = s.frm from by omega, show j + (s.to - j) = s.to from by omega]
     rw [mt_fr (m := m) (n := n) p (s.frm + 1) (s.to + 1) s.frm s.to (by omega) (by omega) (by omega) (by omega) hp, show (s.frm + 1 - s.frm).toNat = 0 + 1 from by omega, run_cons, run_zero]
     rfl
theorem OkP_run {m n : Int} (q : List Sp) : ∀ (k : Nat) (i j : Int), i + k ≤ m → j + k ≤ n → OkP m n (i + k) (j + k) q → OkP m n i j (run i j k ++ q)
 | 0, i, j, _, _, h => by simpa [run_zero] using h
 | k + 1, i, j, hi, hj, h => by
   rw [run_cons, List.cons_append]
   refine ⟨⟨Int.le_refl _, by show i < m; omega, Int.le_refl _, by show j < n; omega⟩, OkP_run q k (i + 1) (j + 1) (by omega) (by omega) ?_⟩
   rw [show i + 1 + (k : Int) = i + ((k + 1 : Nat) : Int) from by omega, show j + 1 + (k : Int) = j + ((k + 1 : Nat) : Int) from by omega]
   exact h
theorem OkP.mono {m n : Int} {i j i' j' : Int} {p : List Sp} (h : OkP m n i j p) (h1 : i' ≤ i) (h2 : j' ≤ j) : OkP m n i' j' p := by
 cases p with
 | nil => trivial
 | cons s p => obtain ⟨⟨a, b, c, d⟩, e⟩ := h; exact ⟨⟨by omega, b, by omega, d⟩, e⟩
theorem mt_okp {m n : Int} : ∀ (l : List Ch) (f : Bool) (i j : Int), i ≤ m → (f = true → i = 0) → OkL f i j l m n → OkP m n i j (mtF m i j l)
 | [], f, i, j, hi, _, h => by
   have h1 : m - i = n - j := h
   simp only [mtF]
   have := OkP_run (m := m) (n := n) [] (m - i).toNat i j (by omega) (by omega) trivial
   rwa [List.append_nil] at this
 | c :: l, f, i, j, hi, hf, h => by
   obtain ⟨⟨⟨⟨a0, a1, a2⟩, ⟨b0, b1, b2⟩, e⟩, g, q⟩, hl⟩ := h
   have hge : i ≤ c.old := by
    cases f with
    | true => have := hf rfl; omega
    | false => have := q rfl; omega
   simp only [mtF]
   refine OkP_run _ _ i j (by omega) (by omega) ?_
   exact (mt_okp l false (c.old + c.oldLen) (c.new + c.newLen) (by omega) (fun h => by cases h) hl).mono (by omega) (by omega)
theorem mt_len {m n : Int} : ∀ (l : List Ch) (f : Bool) (i j : Int), inI m → inI n → i ≤ m → (f = true → i = 0) → OkL f i j l m n → ((mtF m i j l).length : Int) = m - i - szO l ∧ ((mtF m i j l).length : Int) = n - j - szN l
 | [], f, i, j, _, _, hi, _, h => by
   have h1 : m - i = n - j := h
   simp only [mtF, run_len, szO, szN, List.map_nil, List.sum_nil]
   omega
 | c :: l, f, i, j, hm, hn, hi, hf, h => by
   obtain ⟨⟨⟨⟨a0, a1, a2⟩, ⟨b0, b1, b2⟩, e⟩, g, q⟩, hl⟩ := h
   have hge : i ≤ c.old := by
    cases f with
    | true => have := hf rfl; omega
    | false => have := q rfl; omega
   have hm2 := hm.2
   have hn2 := hn.2
   have ih := mt_len l false (c.old + c.oldLen) (c.new + c.newLen) hm hn (by omega) (fun h => by cases h) hl
   have e1 : szO (c :: l) = c.oldLen + szO l := by unfold szO; rw [List.map_cons, List.sum_cons]; unfold cntI; rw [if_pos (by omega)]
   have e2 : szN (c :: l) = c.newLen + szN l := by unfold szN; rw [List.map_cons, List.sum_cons]; unfold cntI; rw [if_pos (by omega)]
   simp only [mtF, List.length_append, run_len]
   rw [e1, e2]
   omega
end Sc
end
section
namespace Sc
end Sc
namespace Hn
open Sc
structure Hk where
 fst : Int
 lst : Int
 oF : Int
 oT : Int
 nF : Int
 nT : Int
def endO (c : Ch) : Int := c.old + c.oldLen
def endN (c : Ch) : Int := c.new + c.newLen
def bfr (ctx : Int) (b : Ch) : Int := if b.old < ctx then b.old else ctx
def aft (ctx m : Int) (e : Ch) : Int := if m - endO e < ctx then m - endO e else ctx
def mkH (ctx m : Int) (f k : Nat) (b e : Ch) : Hk := ⟨f, k, b.old - bfr ctx b, endO e + aft ctx m e, b.new - bfr ctx b, endN e + aft ctx m e⟩
def grp (ctx m : Int) : Nat → Nat → Ch → Ch → List Ch → List Hk
 | f, k, b, e, [] => [mkH ctx m f k b e]
 | f, k, b, e, c :: r => if 2 * ctx < c.old - endO e then mkH ctx m f k b e :: grp ctx m k (k + 1) c c r else grp ctx m f (k + 1) b c r
def group (ctx m : Int) : List Ch → List Hk
 | [] => []
 | c :: r => grp ctx m 0 1 c c r
theorem grp_len (ctx m : Int) : ∀ (r : List Ch) (f k : Nat) (b e : Ch), (grp ctx m f k b e r).length ≤ r.length + 1
 | [], _, _, _, _ => Nat.le_refl _
 | c :: r, f, k, b, e => by
   rw [grp]
   split
   · have := grp_len ctx m r k (k + 1) c c
     simp only [List.length_cons]; omega
   · have := grp_len ctx m r f (k + 1) b c
     simp only [List.length_cons]; omega
theorem group_len (ctx m : Int) : ∀ l : List Ch, (group ctx m l).length ≤ l.length
 | [] => Nat.le_refl _
 | c :: r => grp_len ctx m r 0 1 c c
def Ends (hs : List Hk) (j t : Int) : Prop := t < 0 ∨ ∃ h ∈ hs, (if h.oF < 0 then 0 else h.oF) = j ∧ t < h.oT
end Hn
end
section
namespace Sl
open Sc
abbrev gI (a : List Int) (i : Int) : Int := a.getD i.toNat 0
def EqS (a b : List Int) (s : Sp) : Prop := gI a s.frm = gI b s.to
def FitL (a b : List Int) (f : Bool) (i j : Int) (l : List Ch) : Prop := OkL f i j l (a.length : Int) (b.length : Int) ∧ ∀ s ∈ mtF (a.length : Int) i j l, EqS a b s
def sh (c : Ch) (d : Int) : Ch := ⟨c.old + d, c.oldLen, c.new + d, c.newLen⟩
theorem sh_zero (c : Ch) : sh c 0 = c := Ch.eq (Int.add_zero _) rfl (Int.add_zero _) rfl
theorem sh_sh (c : Ch) (d e : Int) : sh (sh c d) e = sh c (d + e) := Ch.eq (Int.add_assoc _ _ _) rfl (Int.add_assoc _ _ _) rfl
def Pure (c : Ch) : Prop := c.newLen = 0 ∨ c.oldLen = 0
instance (c : Ch) : Decidable (Pure c) := inferInstanceAs (Decidable (_ ∨ _))
def txt (a b : List Int) (c : Ch) : List Int := if c.newLen = 0 then a else b
def frC (c : Ch) : Int := if c.newLen = 0 then c.old else c.new
def lnC (c : Ch) : Int := if c.newLen = 0 then c.oldLen else c.newLen
def dnB (a b : List Int) (c : Ch) : Bool := decide (Pure c ∧ gI (txt a b c) (frC c) = gI (txt a b c) (frC c + lnC c))
def upB (a b : List Int) (c : Ch) : Bool := decide (Pure c ∧ gI (txt a b c) (frC c + lnC c - 1) = gI (txt a b c) (frC c - 1))
def dnR (a b : List Int) : Ch → Nat → Nat
 | _, 0 => 0
 | c, L + 1 => if dnB a b c = true then dnR a b (sh c 1) L + 1 else 0
def upR (a b : List Int) : Ch → Nat → Nat
 | _, 0 => 0
 | c, L + 1 => if upB a b c = true then upR a b (sh c (-1)) L + 1 else 0
theorem dnR_T {a b : List Int} {c : Ch} {L : Nat} (h : dnB a b c = true) (hL : 0 < L) : dnR a b c L = dnR a b (sh c 1) (L - 1) + 1 := by
 obtain ⟨k, rfl⟩ : ∃ k, L = k + 1 := ⟨L - 1, by omega⟩
 simp only [dnR, if_pos h, Nat.add_sub_cancel]
theorem dnR_F {a b : List Int} {c : Ch} {L : Nat} (h : dnB a b c = false ∨ L = 0) : dnR a b c L = 0 := by
 rcases L with _ | k
 · rfl
 · rcases h with h | h
   · simp only [dnR, h]; rfl
   · cases h
theorem upR_T {a b : List Int} {c : Ch} {L : Nat} (h : upB a b c = true) (hL : 0 < L) : upR a b c L = upR a b (sh c (-1)) (L - 1) + 1 := by
 obtain ⟨k, rfl⟩ : ∃ k, L = k + 1 := ⟨L - 1, by omega⟩
 simp only [upR, if_pos h, Nat.add_sub_cancel]
theorem upR_F {a b : List Int} {c : Ch} {L : Nat} (h : upB a b c = false ∨ L = 0) : upR a b c L = 0 := by
 rcases L with _ | k
 · rfl
 · rcases h with h | h
   · simp only [upR, h]; rfl
   · cases h
def topE (e : Int) : List Ch → Int
 | [] => e
 | x :: _ => x.old - 1
def lowD (e : Int) (l : List Ch) (c : Ch) : Nat := (topE e l - (c.old + c.oldLen)).toNat
def downF (a b : List Int) (e : Int) : List Ch → List Ch
 | [] => []
 | c :: l => sh c (dnR a b c (lowD e (downF a b e l) c) : Nat) :: downF a b e l
theorem downF_len (a b : List Int) (e : Int) : ∀ l, (downF a b e l).length = l.length
 | [] => rfl
 | c :: l => by simp only [downF, List.length_cons, downF_len a b e l]
-- what fits, change by change
theorem run_mem {i j : Int} {k : Nat} {s : Sp} : s ∈ run i j k ↔ ∃ t : Nat, t < k ∧ s = ⟨i + t, j + t⟩ := by
 unfold run
 simp only [List.mem_map, List.mem_range]
 exact ⟨fun ⟨t, h, e⟩ => ⟨t, h, e.symm⟩, fun ⟨t, h, e⟩ => ⟨t, h, e.symm⟩⟩
def RunE (a b : List Int) (i j n : Int) : Prop := ∀ t : Int, 0 ≤ t → t < n → gI a (i + t) = gI b (j + t)
theorem run_iff {a b : List Int} {i j n : Int} : (∀ s ∈ run i j n.toNat, EqS a b s) ↔ RunE a b i j n := by
 constructor
 · intro h t h0 h1
   have := h ⟨i + (t.toNat : Nat), j + (t.toNat : Nat)⟩ (run_mem.2 ⟨t.toNat, by omega, rfl⟩)
   unfold EqS at this
   rw [show ((t.toNat : Nat) : Int) = t from by omega] at this
   exact this
 · intro h s hs
   obtain ⟨t, ht, rfl⟩ := run_mem.1 hs
   exact h t (by omega) (by omega)
theorem fit_nil {a b : List Int} {f : Bool} {i j : Int} : FitL a b f i j [] ↔ (a.length : Int) - i = b.length - j ∧ RunE a b i j (a.length - i) := by
 unfold FitL
 simp only [OkL, mtF]
 rw [run_iff]
theorem fit_cons {a b : List Int} {f : Bool} {i j : Int} {c : Ch} {l : List Ch} : FitL a b f i j (c :: l) ↔ OkC f i j c a.length b.length ∧ RunE a b i j (c.old - i) ∧ FitL a b false (c.old + c.oldLen) (c.new + c.newLen) l := by
 unfold FitL
 simp only [OkL, mtF, List.mem_append]
 rw [← run_iff]
 constructor
 · rintro ⟨⟨h1, h2⟩, h3⟩
   exact ⟨h1, fun s hs => h3 s (.inl hs), h2, fun s hs => h3 s (.inr hs)⟩
 · rintro ⟨h1, h2, h3, h4⟩
   exact ⟨⟨h1, h3⟩, fun s hs => hs.elim (h2 s) (h4 s)⟩
theorem RunE.tail {a b : List Int} {i j n : Int} (h : RunE a b i j n) : RunE a b (i + 1) (j + 1) (n - 1) := by
 intro t h0 h1
 have := h (t + 1) (by omega) (by omega)
 rw [show i + (t + 1) = i + 1 + t from by omega, show j + (t + 1) = j + 1 + t from by omega] at this
 exact this
theorem RunE.head {a b : List Int} {i j n : Int} (h : RunE a b i j n) (hn : 0 < n) : gI a i = gI b j := by
 have := h 0 (by omega) hn
 rw [Int.add_zero, Int.add_zero] at this
 exact this
theorem RunE.snoc {a b : List Int} {i j n : Int} (h : RunE a b i j n) (he : gI a (i + n) = gI b (j + n)) : RunE a b i j (n + 1) := by
 intro t h0 h1
 by_cases ht : t = n
 · subst ht; exact he
 · exact h t h0 (by omega)
theorem fit_rest {a b : List Int} {e g : Int} {l : List Ch} (h : FitL a b false e g l) (hr : e < topE a.length l) : gI a e = gI b g ∧ FitL a b false (e + 1) (g + 1) l := by
 cases l with
 | nil =>
   obtain ⟨h1, h2⟩ := fit_nil.1 h
   simp only [topE] at hr
   refine ⟨h2.head (by omega), fit_nil.2 ⟨by omega, ?_⟩⟩
   have := h2.tail
   rw [show (a.length : Int) - e - 1 = a.length - (e + 1) from by omega] at this
   exact this
 | cons x l =>
   obtain ⟨⟨h1, h2, h3⟩, h4, h5⟩ := fit_cons.1 h
   simp only [topE] at hr
   refine ⟨h4.head (by omega), fit_cons.2 ⟨⟨h1, by omega, fun _ => by omega⟩, ?_, h5⟩⟩
   have := h4.tail
   rw [show x.old - e - 1 = x.old - (e + 1) from by omega] at this
   exact this
theorem fit_top {a b : List Int} {e g : Int} {l : List Ch} (h : FitL a b false e g l) (he : e ≤ a.length) : e ≤ topE a.length l ∧ topE a.length l ≤ a.length ∧ topE a.length l - e ≤ b.length - g ∧ (l = [] → topE a.length l - e = b.length - g) ∧ (l ≠ [] → topE a.length l < a.length ∧ topE a.length l - e < b.length - g) := by
 cases l with
 | nil =>
   obtain ⟨h1, _⟩ := fit_nil.1 h
   simp only [topE]
   exact ⟨he, Int.le_refl _, by omega, fun _ => by omega, fun h => absurd rfl h⟩
 | cons x l =>
   obtain ⟨⟨⟨⟨a0, a1, a2⟩, ⟨b0, b1, b2⟩, _⟩, h2, h3⟩, _⟩ := fit_cons.1 h
   have h6 := h3 rfl
   simp only [topE]
   exact ⟨by omega, by omega, by omega, fun h => (by cases h), fun _ => ⟨by omega, by omega⟩⟩
theorem dnB_spec {a b : List Int} {c : Ch} (h : dnB a b c = true) : (c.newLen = 0 ∧ gI a c.old = gI a (c.old + c.oldLen)) ∨ (c.oldLen = 0 ∧ gI b c.new = gI b (c.new + c.newLen)) := by
 unfold dnB at h
 obtain ⟨hp, h⟩ := of_decide_eq_true h
 unfold txt frC lnC at h
 by_cases hn : c.newLen = 0
 · simp only [if_pos hn] at h; exact .inl ⟨hn, h⟩
 · simp only [if_neg hn] at h; exact .inr ⟨hp.resolve_left hn, h⟩
theorem fit_down {a b : List Int} {f : Bool} {i j : Int} {c : Ch} {l : List Ch} (h : FitL a b f i j (c :: l)) (hd : dnB a b c = true) (hr : c.old + c.oldLen < topE a.length l) : FitL a b f i j (sh c 1 :: l) := by
 obtain ⟨⟨⟨⟨a0, a1, a2⟩, ⟨b0, b1, b2⟩, ne⟩, h2, h3⟩, h4, h5⟩ := fit_cons.1 h
 obtain ⟨he, h6⟩ := fit_rest h5 hr
 have ht := fit_top h5 (by omega)
 refine fit_cons.2 ⟨⟨⟨⟨?_, a1, ?_⟩, ⟨?_, b1, ?_⟩, ne⟩, ?_, fun hf => ?_⟩, ?_, ?_⟩
 · show 0 ≤ c.old + 1; omega
 · show c.oldLen ≤ _ - (c.old + 1); omega
 · show 0 ≤ c.new + 1; omega
 · show c.newLen ≤ _ - (c.new + 1); omega
 · show c.old + 1 - i = c.new + 1 - j; omega
 · have := h3 hf; show 1 ≤ c.old + 1 - i; omega
 · have h7 : gI a c.old = gI b c.new := by
    rcases dnB_spec hd with ⟨e1, e2⟩ | ⟨e1, e2⟩
    · rw [e2, he, e1, Int.add_zero]
    · rw [e2, ← he, e1, Int.add_zero]
   have := h4.snoc (by rw [show i + (c.old - i) = c.old from by omega, h2, show j + (c.new - j) = c.new from by omega]; exact h7)
   show RunE a b i j (c.old + 1 - i)
   rw [show c.old + 1 - i = c.old - i + 1 from by omega]
   exact this
 · show FitL a b false (c.old + 1 + c.oldLen) (c.new + 1 + c.newLen) l
   rw [show c.old + 1 + c.oldLen = c.old + c.oldLen + 1 from by omega, show c.new + 1 + c.newLen = c.new + c.newLen + 1 from by omega]
   exact h6
def firstI (f : Bool) (i : Int) : Int := if f = true then i else i + 1
theorem fit_dn {a b : List Int} {f : Bool} {i j : Int} {l : List Ch} : ∀ (L : Nat) (c : Ch), FitL a b f i j (c :: l) → L ≤ lowD a.length l c → FitL a b f i j (sh c (dnR a b c L : Nat) :: l)
 | 0, c, h, _ => by rw [show dnR a b c 0 = 0 from rfl, show ((0 : Nat) : Int) = 0 from rfl, sh_zero]; exact h
 | L + 1, c, h, hL => by
   by_cases hd : dnB a b c = true
   · rw [dnR_T hd (Nat.succ_pos _), show L.succ - 1 = L from rfl]
     unfold lowD at hL
     have h1 := fit_dn L (sh c 1) (fit_down h hd (by omega)) (by unfold lowD sh; simp only; omega)
     rw [sh_sh, show (1 : Int) + (dnR a b (sh c 1) L : Nat) = ((dnR a b (sh c 1) L + 1 : Nat) : Int) from by omega] at h1
     exact h1
   · rw [dnR_F (.inl (by simpa using hd)), show ((0 : Nat) : Int) = 0 from rfl, sh_zero]; exact h
theorem fit_head {a b : List Int} {f : Bool} {i j : Int} {c : Ch} {l l' : List Ch} (h : FitL a b f i j (c :: l)) (h' : FitL a b false (c.old + c.oldLen) (c.new + c.newLen) l') : FitL a b f i j (c :: l') := by
 obtain ⟨h1, h2, _⟩ := fit_cons.1 h
 exact fit_cons.2 ⟨h1, h2, h'⟩
theorem fit_tail {a b : List Int} {f : Bool} {i j : Int} {c : Ch} {l : List Ch} (h : FitL a b f i j (c :: l)) : FitL a b false (c.old + c.oldLen) (c.new + c.newLen) l := (fit_cons.1 h).2.2
theorem fit_downF {a b : List Int} : ∀ (l : List Ch) (f : Bool) (i j : Int), FitL a b f i j l → FitL a b f i j (downF a b a.length l)
 | [], _, _, _, h => h
 | c :: l, _, _, _, h => fit_dn _ c (fit_head h (fit_downF l _ _ _ (fit_tail h))) (Nat.le_refl _)
theorem fit_pos {a b : List Int} {f : Bool} {i j : Int} {c : Ch} {l : List Ch} (h : FitL a b f i j (c :: l)) : 0 ≤ c.old + c.oldLen ∧ 0 ≤ c.new + c.newLen := by
 obtain ⟨⟨⟨⟨a0, a1, a2⟩, ⟨b0, b1, b2⟩, ne⟩, h2, h3⟩, h4, h5⟩ := fit_cons.1 h
 omega
theorem fit_mid {a b : List Int} : ∀ (k : Nat) (l : List Ch) (f : Bool) (i j : Int), FitL a b f i j l → FitL a b f i j (l.take k ++ downF a b a.length (l.drop k))
 | 0, l, f, i, j, h => fit_downF l f i j h
 | _ + 1, [], _, _, _, h => h
 | _ + 1, _ :: l, _, _, _, h => fit_head h (fit_mid _ l _ _ _ (fit_tail h))
-- place by place
def prE (l : List Ch) : Nat → Int
 | 0 => 0
 | k + 1 => (l.getD k ⟨0, 0, 0, 0⟩).old + (l.getD k ⟨0, 0, 0, 0⟩).oldLen + 1
theorem fit_drop {a b : List Int} : ∀ (k : Nat) (l : List Ch) (f : Bool) (i j : Int), 0 ≤ i → 0 ≤ j → FitL a b f i j l → k < l.length → ∃ f' i' j', 0 ≤ i' ∧ 0 ≤ j' ∧ FitL a b f' i' j' (l.drop k) ∧ (k = 0 → f' = f ∧ i' = i) ∧ (0 < k → f' = false ∧ firstI f' i' = prE l k)
 | 0, _, f, i, j, hi, hj, h, _ => ⟨f, i, j, hi, hj, h, fun _ => ⟨rfl, rfl⟩, fun h => absurd h (Nat.lt_irrefl _)⟩
 | k + 1, [], _, _, _, _, _, _, hk => absurd hk (Nat.not_lt_zero _)
 | k + 1, c :: l, f, i, j, hi, hj, h, hk => by
   have h2 := fit_pos h
   obtain ⟨f', i', j', g1, g2, g3, g4, g5⟩ := fit_drop k l false (c.old + c.oldLen) (c.new + c.newLen) h2.1 h2.2 (fit_tail h) (by simpa using hk)
   refine ⟨f', i', j', g1, g2, g3, fun h => absurd h (Nat.succ_ne_zero _), fun _ => ?_⟩
   rcases Nat.eq_zero_or_pos k with rfl | h0
   · obtain ⟨rfl, rfl⟩ := g4 rfl
     exact ⟨rfl, by simp [firstI, prE]⟩
   · obtain ⟨e1, e2⟩ := g5 h0
     refine ⟨e1, e2.trans ?_⟩
     obtain ⟨q, rfl⟩ : ∃ q, k = q + 1 := ⟨k - 1, by omega⟩
     rfl
structure AtK (a b : List Int) (l : List Ch) (k : Nat) (c : Ch) : Prop where
 o0 : 0 ≤ c.old
 o1 : 0 ≤ c.oldLen
 n0 : 0 ≤ c.new
 n1 : 0 ≤ c.newLen
 om : c.old + c.oldLen ≤ a.length
 nm : c.new + c.newLen ≤ b.length
 ne : ¬ (c.oldLen = 0 ∧ c.newLen = 0)
 up0 : 0 ≤ prE l k
 up : prE l k ≤ c.old
 upN : c.old - prE l k ≤ c.new
 up00 : k = 0 → c.old = c.new
 upNN : 0 < k → c.old - prE l k < c.new
 dn : c.old + c.oldLen ≤ topE a.length (l.drop (k + 1))
 dnM : topE a.length (l.drop (k + 1)) ≤ a.length
 dnN : topE a.length (l.drop (k + 1)) - (c.old + c.oldLen) ≤ b.length - (c.new + c.newLen)
 dnE : l.length ≤ k + 1 → topE a.length (l.drop (k + 1)) - (c.old + c.oldLen) = b.length - (c.new + c.newLen)
 dnL : k + 1 < l.length → topE a.length (l.drop (k + 1)) < a.length ∧ topE a.length (l.drop (k + 1)) - (c.old + c.oldLen) < b.length - (c.new + c.newLen)
theorem fit_at {a b : List Int} {l : List Ch} (h : FitL a b true 0 0 l) (k : Nat) (hk : k < l.length) : AtK a b l k l[k] := by
 obtain ⟨f, i, j, hi, hj, hd, g0, g1⟩ := fit_drop k l true 0 0 (Int.le_refl _) (Int.le_refl _) h hk
 rw [List.drop_eq_getElem_cons hk] at hd
 obtain ⟨⟨⟨⟨a0, a1, a2⟩, ⟨b0, b1, b2⟩, ne⟩, h2, h3⟩, h4, h5⟩ := fit_cons.1 hd
 obtain ⟨t0, t1, t2, t3, t4⟩ := fit_top h5 (by omega)
 have hE : l.length ≤ k + 1 → l.drop (k + 1) = [] := fun h => List.drop_eq_nil_of_le h
 have hL : k + 1 < l.length → l.drop (k + 1) ≠ [] := fun h e => by
  have := congrArg List.length e
  rw [List.length_drop, List.length_nil] at this
  omega
 have hp : 0 ≤ prE l k ∧ prE l k ≤ l[k].old ∧ l[k].old - prE l k ≤ l[k].new ∧ (k = 0 → l[k].old = l[k].new) ∧ (0 < k → l[k].old - prE l k < l[k].new) := by
  rcases Nat.eq_zero_or_pos k with h0 | h0
  · obtain ⟨rfl, rfl⟩ := g0 h0
    have hz : prE l k = 0 := by rw [h0]; rfl
    have hj0 : j = 0 := by
     subst h0
     obtain ⟨c, l, rfl⟩ : ∃ c l', l = c :: l' := by cases l with
      | nil => exact absurd hk (Nat.not_lt_zero _)
      | cons c l => exact ⟨c, l, rfl⟩
     have := (fit_cons.1 h).1.2.1
     simp only [List.getElem_cons_zero] at h2
     omega
    exact ⟨by omega, by omega, by omega, fun _ => by omega, fun h => by omega⟩
  · obtain ⟨rfl, e⟩ := g1 h0
    have h6 := h3 rfl
    simp only [firstI, Bool.false_eq_true, if_false] at e
    exact ⟨by omega, by omega, by omega, fun h => by omega, fun h => by omega⟩
 exact ⟨a0, a1, b0, b1, by omega, by omega, ne, hp.1, hp.2.1, hp.2.2.1, hp.2.2.2.1, hp.2.2.2.2, t0, t1, t2, fun h => t3 (hE h), fun h => t4 (hL h)⟩
end Sl
end
section
namespace Hn
end Hn
namespace Sl
end Sl
namespace Uf
open Sc Hn Sl
structure Ln where
 kind : Int
 text : ByteArray
structure PH where
 old : Int
 new : Int
 lines : List Ln
structure Pat where
 on : ByteArray
 nn : ByteArray
 hunks : List PH
section
variable {α : Type}
def cut (xs : List α) (i j : Nat) : List α := (xs.drop i).take (j - i)
theorem cut_app (xs : List α) {i j k : Nat} (h1 : i ≤ j) (h2 : j ≤ k) : cut xs i j ++ cut xs j k = cut xs i k := by
 unfold cut
 rw [show k - i = (j - i) + (k - j) from by omega, List.take_add, List.drop_drop, show i + (j - i) = j from by omega]
theorem cut_len (xs : List α) {i j : Nat} (h : j ≤ xs.length) : (cut xs i j).length = j - i := by
 unfold cut; rw [List.length_take, List.length_drop]; omega
theorem cut_sub (xs : List α) {i j a b : Nat} (h1 : i ≤ a) (h2 : a ≤ b) (h3 : b ≤ j) : cut xs a b = cut (cut xs i j) (a - i) (b - i) := by
 unfold cut
 rw [List.drop_take, List.drop_drop, List.take_take, show i + (a - i) = a from by omega]
 congr 1
 omega
theorem cut_mem {xs : List α} {i j : Nat} {t : α} (h : t ∈ cut xs i j) : t ∈ xs := List.mem_of_mem_drop (List.mem_of_mem_take h)
theorem cut_get (xs : List α) {i j k : Nat} (h : k < j - i) : (cut xs i j)[k]? = xs[i + k]? := by
 unfold cut
 rw [List.getElem?_take, if_pos h, List.getElem?_drop]
theorem cut_cons (xs : List α) {i j : Nat} (h : i < j) (hj : j ≤ xs.length) : cut xs i j = xs[i] :: cut xs (i + 1) j := by
 rw [← cut_app xs (Nat.le_succ i) h]
 unfold cut
 rw [show i + 1 - i = 1 from by omega, List.drop_eq_getElem_cons (show i < xs.length from by omega)]
 rfl
end
def lnsK (k : Int) (xs : List ByteArray) : List Ln := xs.map fun t => ⟨k, t⟩
theorem lnsK_len (k : Int) (xs : List ByteArray) : (lnsK k xs).length = xs.length := by simp [lnsK]
def lnsF (x y : List ByteArray) : Nat → List Ch → Nat → List Ln
 | i, [], t => lnsK 32 (cut x i t)
 | i, c :: cs, t => lnsK 32 (cut x i c.old.toNat) ++ (lnsK 45 (cut x c.old.toNat (c.old + c.oldLen).toNat) ++ (lnsK 43 (cut y c.new.toNat (c.new + c.newLen).toNat) ++ lnsF x y (c.old + c.oldLen).toNat cs t))
def notK (k : Int) (ls : List Ln) : List ByteArray := (ls.filter fun l => l.kind != k).map (·.text)
def cntK (k : Int) (ls : List Ln) : Nat := (ls.filter fun l => l.kind == k).length
theorem notK_app (k : Int) (a b : List Ln) : notK k (a ++ b) = notK k a ++ notK k b := by simp [notK]
theorem notK_ne {k m : Int} (h : m ≠ k) (xs : List ByteArray) : notK k (lnsK m xs) = xs := by
 unfold notK lnsK
 rw [List.filter_eq_self.2 (by intro a ha; obtain ⟨t, _, rfl⟩ := List.mem_map.1 ha; simpa using h), List.map_map]
 exact List.map_id' xs
theorem notK_eq (k : Int) (xs : List ByteArray) : notK k (lnsK k xs) = [] := by
 unfold notK lnsK
 rw [List.filter_eq_nil_iff.2 (by intro a ha; obtain ⟨t, _, rfl⟩ := List.mem_map.1 ha; simp), List.map_nil]
def Lf (x y : List ByteArray) : Nat → Nat → List Ch → Nat → Nat → Prop
 | i, j, [], T, U => i ≤ T ∧ j ≤ U ∧ T ≤ x.length ∧ U ≤ y.length ∧ T - i = U - j ∧ cut x i T = cut y j U
 | i, j, c :: cs, T, U => ∃ o ol nw nl : Nat, c = ⟨o, ol, nw, nl⟩ ∧ i ≤ o ∧ j ≤ nw ∧ o - i = nw - j ∧ 0 < ol + nl ∧ cut x i o = cut y j nw ∧ Lf x y (o + ol) (nw + nl) cs T U
variable {x y : List ByteArray}
theorem Lf.le : ∀ {cs : List Ch} {i j T U : Nat}, Lf x y i j cs T U → i ≤ T ∧ j ≤ U ∧ T ≤ x.length ∧ U ≤ y.length
 | [], _, _, _, _, ⟨h1, h2, h3, h4, _⟩ => ⟨h1, h2, h3, h4⟩
 | c :: cs, _, _, _, _, ⟨o, ol, nw, nl, _, h1, h2, _, _, _, h⟩ => by
   have := Lf.le h
   omega
theorem nat_add (a b : Nat) : ((a : Int) + (b : Int)).toNat = a + b := by omega
theorem Lf.old : ∀ {cs : List Ch} {i j T U : Nat}, Lf x y i j cs T U → notK 43 (lnsF x y i cs T) = cut x i T
 | [], _, _, _, _, _ => notK_ne (by decide) _
 | c :: cs, i, _, T, _, ⟨o, ol, nw, nl, e, h1, h2, _, _, _, h⟩ => by
   subst e
   have hl := h.le
   simp only [lnsF, nat_add, Int.toNat_natCast]
   rw [notK_app, notK_app, notK_app, notK_ne (by decide), notK_ne (by decide), notK_eq, List.nil_append, h.old, cut_app x (Nat.le_add_right _ _) hl.1, cut_app x h1 (by omega)]
theorem Lf.new : ∀ {cs : List Ch} {i j T U : Nat}, Lf x y i j cs T U → notK 45 (lnsF x y i cs T) = cut y j U
 | [], _, _, _, _, ⟨_, _, _, _, _, h⟩ => by
   unfold lnsF
   rw [notK_ne (by decide), h]
 | c :: cs, i, j, T, U, ⟨o, ol, nw, nl, e, h1, h2, _, _, hk, h⟩ => by
   subst e
   have hl := h.le
   simp only [lnsF, nat_add, Int.toNat_natCast]
   rw [notK_app, notK_app, notK_app, notK_ne (by decide), notK_eq, notK_ne (by decide), List.nil_append, h.new, hk, cut_app y (Nat.le_add_right _ _) hl.2.1, cut_app y h2 (by omega)]
def sumO (l : List Ch) : Int := (l.map (·.oldLen)).sum
def sumN (l : List Ch) : Int := (l.map (·.newLen)).sum
theorem Lf.trim {c : Ch} {cs : List Ch} {i j i' j' T U : Nat} (h : Lf x y i j (c :: cs) T U) (h1 : i ≤ i') (h2 : (i' : Int) ≤ c.old) (h3 : i' - i = j' - j) (h4 : j ≤ j') : Lf x y i' j' (c :: cs) T U := by
 obtain ⟨o, ol, nw, nl, e, g1, g2, g3, g4, g5, g6⟩ := h
 subst e
 have h2 : i' ≤ o := by simpa using h2
 refine ⟨o, ol, nw, nl, rfl, h2, by omega, by omega, g4, ?_, g6⟩
 have := cut_sub x h1 h2 (Nat.le_refl _)
 rw [this, g5, cut_sub y h4 (show j' ≤ nw from by omega) (Nat.le_refl _), h3, g3]
def lstO : Nat → List Ch → Nat
 | e, [] => e
 | _, c :: cs => lstO (c.old + c.oldLen).toNat cs
def lstN : Nat → List Ch → Nat
 | e, [] => e
 | _, c :: cs => lstN (c.new + c.newLen).toNat cs
def topC (T : Nat) : List Ch → Int
 | [] => T
 | c :: _ => c.old
theorem Lf.part : ∀ {cs ds : List Ch} {i j T U T' : Nat}, Lf x y i j (cs ++ ds) T U → lstO i cs ≤ T' → (T' : Int) ≤ topC T ds → Lf x y i j cs T' (lstN j cs + (T' - lstO i cs))
 | [], [], i, j, T, U, T', ⟨g1, g2, g3, g4, g5, g6⟩, h1, h2 => by
   simp only [lstO, lstN, topC] at h1 h2 ⊢
   have h2 : T' ≤ T := by omega
   refine ⟨h1, by omega, by omega, by omega, by omega, ?_⟩
   rw [cut_sub x (Nat.le_refl i) h1 h2, g6, cut_sub y (Nat.le_refl j) (show j ≤ j + (T' - i) from by omega) (show j + (T' - i) ≤ U from by omega)]
   congr 1 <;> omega
 | [], _ :: ds, i, j, T, U, T', ⟨o, ol, nw, nl, e, g1, g2, g3, g4, g5, g6⟩, h1, h2 => by
   subst e
   simp only [lstO, lstN, topC] at h1 h2 ⊢
   have h2 : T' ≤ o := by omega
   have hl := g6.le
   refine ⟨h1, by omega, by omega, by omega, by omega, ?_⟩
   rw [cut_sub x (Nat.le_refl i) h1 h2, g5, cut_sub y (Nat.le_refl j) (show j ≤ j + (T' - i) from by omega) (show j + (T' - i) ≤ nw from by omega)]
   congr 1 <;> omega
 | c :: cs, ds, i, j, T, U, T', ⟨o, ol, nw, nl, e, g1, g2, g3, g4, g5, g6⟩, h1, h2 => by
   subst e
   simp only [lstO, lstN, nat_add] at h1 h2 ⊢
   exact ⟨o, ol, nw, nl, rfl, g1, g2, g3, g4, g5, Lf.part g6 h1 h2⟩
theorem Lf.rest : ∀ {cs ds : List Ch} {i j T U : Nat}, Lf x y i j (cs ++ ds) T U → Lf x y (lstO i cs) (lstN j cs) ds T U
 | [], _, _, _, _, _, h => h
 | c :: cs, ds, i, j, T, U, ⟨o, ol, nw, nl, e, g1, g2, g3, g4, g5, g6⟩ => by
   subst e
   simp only [lstO, lstN, nat_add]
   exact Lf.rest g6
theorem lst_snoc : ∀ (cs : List Ch) (c : Ch) (i j : Nat), lstO i (cs ++ [c]) = (c.old + c.oldLen).toNat ∧ lstN j (cs ++ [c]) = (c.new + c.newLen).toNat
 | [], _, _, _ => ⟨rfl, rfl⟩
 | _ :: cs, c, _, _ => lst_snoc cs c _ _
theorem Lf.texts : ∀ {cs : List Ch} {i j T U : Nat}, Lf x y i j cs T U → ∀ l ∈ lnsF x y i cs T, (l.text ∈ x ∨ l.text ∈ y) ∧ (l.kind = 32 ∨ l.kind = 45 ∨ l.kind = 43)
 | [], _, _, _, _, _, l, hl => by
   obtain ⟨t, ht, rfl⟩ := List.mem_map.1 hl
   exact ⟨.inl (cut_mem ht), .inl rfl⟩
 | c :: cs, i, j, T, U, ⟨o, ol, nw, nl, e, g1, g2, g3, g4, g5, g6⟩, l, hl => by
   subst e
   simp only [lnsF, nat_add, Int.toNat_natCast, List.mem_append] at hl
   rcases hl with hl | hl | hl | hl
   · obtain ⟨t, ht, rfl⟩ := List.mem_map.1 hl
     exact ⟨.inl (cut_mem ht), .inl rfl⟩
   · obtain ⟨t, ht, rfl⟩ := List.mem_map.1 hl
     exact ⟨.inl (cut_mem ht), .inr (.inl rfl)⟩
   · obtain ⟨t, ht, rfl⟩ := List.mem_map.1 hl
     exact ⟨.inr (cut_mem ht), .inr (.inr rfl)⟩
   · exact Lf.texts g6 l hl
theorem Lf.change {c : Ch} {cs : List Ch} {i j T U : Nat} (h : Lf x y i j (c :: cs) T U) : ∃ l ∈ lnsF x y i (c :: cs) T, l.kind ≠ 32 := by
 obtain ⟨o, ol, nw, nl, e, g1, g2, g3, g4, g5, g6⟩ := h
 subst e
 have hl := g6.le
 simp only [lnsF, nat_add, Int.toNat_natCast]
 by_cases h0 : 0 < ol
 · refine ⟨⟨45, x[o]'(by omega)⟩, ?_, by simp⟩
   rw [List.mem_append, List.mem_append]
   refine .inr (.inl ?_)
   rw [cut_cons x (by omega) (by omega)]
   exact List.mem_cons_self
 · refine ⟨⟨43, y[nw]'(by omega)⟩, ?_, by simp⟩
   rw [List.mem_append, List.mem_append, List.mem_append]
   refine .inr (.inr (.inl ?_))
   rw [cut_cons y (by omega) (by omega)]
   exact List.mem_cons_self
theorem lens (ls : List Ln) : ls.length ≤ (notK 43 ls).length + (notK 45 ls).length := by
 induction ls with
 | nil => exact Nat.zero_le _
 | cons l ls ih =>
   have e1 := notK_app 43 [l] ls
   have e2 := notK_app 45 [l] ls
   rw [List.singleton_append] at e1 e2
   rw [e1, e2, List.length_append, List.length_append, List.length_cons]
   by_cases h : l.kind = 43
   · have : (notK 45 [l]).length = 1 := by unfold notK; rw [List.filter_cons_of_pos (by rw [h]; decide)]; rfl
     omega
   · have : (notK 43 [l]).length = 1 := by unfold notK; rw [List.filter_cons_of_pos (by simpa using h)]; rfl
     omega
def lnsP (x y : List ByteArray) : Nat → List Ch → List Ln
 | _, [] => []
 | i, c :: cs => lnsK 32 (cut x i c.old.toNat) ++ (lnsK 45 (cut x c.old.toNat (c.old + c.oldLen).toNat) ++ (lnsK 43 (cut y c.new.toNat (c.new + c.newLen).toNat) ++ lnsP x y (c.old + c.oldLen).toNat cs))
theorem lnsF_P : ∀ (cs : List Ch) (i T : Nat), lnsF x y i cs T = lnsP x y i cs ++ lnsK 32 (cut x (lstO i cs) T)
 | [], _, _ => rfl
 | c :: cs, i, T => by
   rw [lnsF, lnsP, lnsF_P cs]
   simp only [lstO, List.append_assoc]
theorem lnsP_app : ∀ (a b : List Ch) (i : Nat), lnsP x y i (a ++ b) = lnsP x y i a ++ lnsP x y (lstO i a) b
 | [], _, _ => rfl
 | c :: cs, b, i => by
   rw [List.cons_append, lnsP, lnsP, lnsP_app cs]
   simp only [lstO, List.append_assoc]
theorem lnsP_snoc (a : List Ch) (c : Ch) (i : Nat) : lnsP x y i (a ++ [c]) = lnsP x y i a ++ lnsK 32 (cut x (lstO i a) c.old.toNat) ++ lnsK 45 (cut x c.old.toNat (c.old + c.oldLen).toNat) ++ lnsK 43 (cut y c.new.toNat (c.new + c.newLen).toNat) := by
 rw [lnsP_app, lnsP, lnsP]
 simp only [List.append_assoc, List.append_nil]
theorem Lf.lenP : ∀ {cs : List Ch} {i j T U : Nat}, Lf x y i j cs T U → (lnsP x y i cs).length ≤ (T - i) + (U - j)
 | [], _, _, _, _, _ => Nat.zero_le _
 | c :: cs, i, j, T, U, ⟨o, ol, nw, nl, e, g1, g2, g3, g4, g5, g6⟩ => by
   subst e
   have hl := g6.le
   have hi := g6.lenP
   simp only [lnsP, nat_add, Int.toNat_natCast, List.length_append, lnsK_len]
   rw [cut_len x (by omega), cut_len x (by omega), cut_len y (by omega)]
   omega
end Uf
end
section
open Go.RowKit
namespace Tx
def modF (a n : Int) : Int := (a % 18446744073709551616) % n
theorem modF_lo (a n : Int) (h : 0 < n) : 0 ≤ modF a n := Int.emod_nonneg _ (by omega)
theorem modF_hi (a n : Int) (h : 0 < n) : modF a n < n := Int.emod_lt_of_pos _ h
theorem modF_walk (a n : Int) (h1 : 0 < n) (h2 : n ≤ 1099511627776) : wrap64 ((IntKind.u64.wrap a).tmod n) = modF a n := by
 have h3 := modF_lo a n h1
 have h4 := modF_hi a n h1
 have h5 : (IntKind.u64.wrap a).tmod n = modF a n := by
  rw [IntKind.wrap_u64, Int.tmod_eq_emod_of_nonneg (Int.emod_nonneg _ (by decide))]
  rfl
 rw [h5]
 exact IntWalk.wrap64_in _ ⟨by omega, by omega⟩
theorem Mod_any (a n : Int) (w : World) (h1 : 0 < n) (h2 : n ≤ 1099511627776) (_h0 : -9223372036854775808 ≤ a) (_h3 : a ≤ 9223372036854775807) :
 Calls Tryz.prog 18 #[.int .i64 a, .int .i64 n] w fun e w' => e = .returned (.int .i64 (modF a n)) ∧ w = w' := by
 go_enter Tryz.func18, Tryz.ntmps18
 go_wp2_with fail
 go_ret
 exact ⟨ret_int (modF_walk a n h1 h2), rfl⟩
def SomeInt (w : World) (e : Ending) (w' : World) : Prop := ∃ n : Int, -9223372036854775808 ≤ n ∧ n ≤ 9223372036854775807 ∧ e = .returned (.int .i64 n) ∧ w = w'
theorem w64_lo (x : Int) : -9223372036854775808 ≤ wrap64 x := by unfold wrap64; omega
theorem w64_hi (x : Int) : wrap64 x ≤ 9223372036854775807 := by unfold wrap64; omega
set_option maxHeartbeats 1000000 in
theorem At_any (v : Value) (n : Nat) (k : Int) (w : World) (h : RdI w v n) (hn : n ≤ maxLen) (h0 : 0 ≤ k) (h1 : k ≤ 1000000) :
 Calls Tryz.prog 23 #[v, .int .i64 k] w (SomeInt w) := by
 obtain ⟨A, c, rfl, hc⟩ := h
 unfold maxLen at hn
 by_cases hz : 0 < n
 · obtain ⟨b, off, rfl, hcell⟩ := hc hz
   clear hc
   have hm0 : 0 ≤ k % (n : Int) := Int.emod_nonneg _ (by omega)
   have hm1 : k % (n : Int) < n := Int.emod_lt_of_pos _ (by omega)
   obtain ⟨j, hj⟩ : ∃ j : Nat, k % (n : Int) = j := ⟨(k % (n : Int)).toNat, by omega⟩
   obtain ⟨z, hz1, hz2, hz3⟩ := hcell j (by omega)
   have hcj : w.cell? ⟨b, off + (k % (n : Int)).toNat, none⟩ = some (.int .i64 z) := by rw [hj]; exact hz1
   clear hcell hj hz1
   go_enter Tryz.func23, Tryz.ntmps23
   go_wp2_with fail
   go_ret
   exact ⟨_, w64_lo _, w64_hi _, rfl, rfl⟩
 · clear hc
   go_enter Tryz.func23, Tryz.ntmps23
   go_wp2_with fail
   go_ret
   exact ⟨_, w64_lo _, w64_hi _, rfl, rfl⟩
def SomeStr (m : Nat) (w : World) (e : Ending) (w' : World) : Prop := ∃ b : ByteArray, b.size ≤ m ∧ e = .returned (.string b) ∧ Below w.heap.size w w'
end Tx
end
section
open Go.RowKit
namespace Sc
abbrev byteV (b : UInt8) : Value := .int .u8 (b.toNat : Int)
def bytesV (l : List UInt8) : List Value := l.map byteV
theorem bytesV_append (a b : List UInt8) : bytesV (a ++ b) = bytesV a ++ bytesV b := by simp [bytesV]
theorem bytesV_len (a : List UInt8) : (bytesV a).length = a.length := by simp [bytesV]
def Owned (base : Nat) (l : List UInt8) (w0 : World) (e : Ending) (w' : World) : Prop :=
 ∃ v, e = .returned v ∧ w'.ownsRow base 5 1 v l.length (bytesV l) ∧ Below base w0 w'
theorem info_u8 : (Tryz.prog.info? 5).map (fun i => (i.zero, i.size, i.bytes)) = some (some (.int .u8 0), 1, 1) := by kernel_rfl
theorem below_of_append {w w' : World} {base : Nat} {v : Value} {n : Nat} {xs : List Value} (hown : w.ownsRow base 5 1 v n xs) (hg : w.grownBy w' v.ownBlock) (hb : base ≤ w.heap.size) : Below base w w' :=
 (Below.refl _ _).grown hg hb (fun k hk => by
  rcases hown.2 with ⟨rfl, _⟩ | ⟨g, cap, cur, rfl, hg', _⟩
  · simp [Value.ownBlock] at hk
  · simp [Value.ownBlock] at hk; omega)
theorem app_new {ops : Array Oper} {rest : List Oper} {o : Oper} {a : Act} {Q : Exit → Act → World → Prop} {w : World} {C : Array Value} (hgd : o.guard = none) (s x : Operand)
 (ho : o.op = .call { callee := .builtin .append, args := #[s, x], argTypes := #[91, 91] })
 (base : Nat) (l m : List UInt8) (v : Value) (hs : a.eval s = v) (hown : w.ownsRow base 5 1 v l.length (bytesV l))
 (k : Nat) (hx : a.eval x = .slice (some ⟨w.heap.size, 0, none⟩) k k) (hk : m.length = k) (hC : C.toList = bytesV m)
 (hsz : l.length + k ≤ 1000000000) (hbase : base ≤ w.heap.size)
 (h : ∀ v' w', w'.ownsRow base 5 1 v' (l ++ m).length (bytesV (l ++ m)) → Below base w w' → wpList Tryz.prog ops Q rest (a.put o.dst v') w') :
 wpList Tryz.prog ops Q (o :: rest) a (w.alloc (.cells C 5)) := by
 obtain ⟨i0, hi0, hz0, hz1, hz2⟩ := info_parts info_u8
 subst hk
 have hsize : (w.alloc (.cells C 5)).heap.size = w.heap.size + 1 := by simp
 refine wpList_append_own _ hgd s x _ ho base 5 i0 _ 1 1 Tryz.underlying91 hi0 hz0 hz1 hz2 rfl (by omega) v l.length (bytesV l) hs (hown.alloc _) ⟨w.heap.size, 0, none⟩ m.length m.length (bytesV m) hx
  (by rw [bytesV_len]; omega) (fun j u hu => ?_) ?_ (by unfold maxLen; omega) (by omega) (by omega) ?_
 · have he : (Addr.mk w.heap.size 0 none).add j = ⟨w.heap.size, j, none⟩ := by
    unfold Addr.add; split
    · rename_i h0; rw [h0]
    · simp
   rw [he, World.cell?_alloc_mark, ← hu, ← hC]; simp
 · intro u hu
   simp only [bytesV, List.mem_map] at hu
   obtain ⟨b, _, rfl⟩ := hu
   rfl
 · intro v' w' h1 h2 _
   exact h v' w' (by rw [bytesV_append, List.length_append]; exact h1) (((Below.refl base w).alloc hbase _).trans (below_of_append (hown.alloc _) h2 (by omega)))
theorem quoteB_esc (b : UInt8) (h : b = 34 ∨ b = 92) : quoteB b = [92, b] := by unfold quoteB; rw [if_pos h]
theorem quoteB_lf : quoteB 10 = [92, 110] := by decide
theorem quoteB_tab : quoteB 9 = [92, 116] := by decide
theorem quoteB_oct (b : UInt8) (h1 : ¬ (b = 34 ∨ b = 92)) (h2 : b ≠ 10) (h3 : b ≠ 9) (h4 : b.toNat < 32 ∨ 126 < b.toNat) :
 quoteB b = [92, UInt8.ofNat (48 + b.toNat / 64), UInt8.ofNat (48 + b.toNat / 8 % 8), UInt8.ofNat (48 + b.toNat % 8)] := by unfold quoteB; rw [if_neg h1, if_neg h2, if_neg h3, if_pos h4]
theorem quoteB_one (b : UInt8) (h1 : ¬ (b = 34 ∨ b = 92)) (h2 : b ≠ 10) (h3 : b ≠ 9) (h4 : ¬ (b.toNat < 32 ∨ 126 < b.toNat)) : quoteB b = [b] := by unfold quoteB; rw [if_neg h1, if_neg h2, if_neg h3, if_neg h4]
theorem quoteB_len (b : UInt8) : (quoteB b).length ≤ 4 := by
 unfold quoteB; repeat' split
 all_goals simp
theorem bneU (b : UInt8) (n : Nat) (h : b.toNat ≠ n) : ((b.toNat : Int) == (n : Int)) = false := by simp only [beq_eq_false_iff_ne, ne_eq]; omega
theorem u8_ne (b : UInt8) (n : Nat) (hn : n < 256) (h : b ≠ UInt8.ofNat n) : b.toNat ≠ n := fun e => h (UInt8.toNat_inj.1 (by rw [e]; simp; omega))
theorem oct_cells (b : UInt8) : [Value.int .u8 92, .int .u8 (48 + (b.toNat : Int) / 64), .int .u8 (48 + (b.toNat : Int) / 8 % 8), .int .u8 (48 + (b.toNat : Int) % 8)] =
 bytesV [92, UInt8.ofNat (48 + b.toNat / 64), UInt8.ofNat (48 + b.toNat / 8 % 8), UInt8.ofNat (48 + b.toNat % 8)] := by
 have h := b.toNat_lt
 simp only [bytesV, List.map_cons, List.map_nil, byteV, UInt8.toNat_ofNat']
 rw [Nat.mod_eq_of_lt (show 48 + b.toNat / 64 < 2 ^ 8 by omega), Nat.mod_eq_of_lt (show 48 + b.toNat / 8 % 8 < 2 ^ 8 by omega), Nat.mod_eq_of_lt (show 48 + b.toNat % 8 < 2 ^ 8 by omega)]
 rfl
set_option maxRecDepth 100000 in
set_option maxHeartbeats 1000000 in
theorem appendQuoted_any (v : Value) (l : List UInt8) (b : UInt8) (base : Nat) (w : World) (hown : w.ownsRow base 5 1 v l.length (bytesV l)) (hbase : base ≤ w.heap.size) (hl : l.length ≤ 100000000) :
 Calls Tryz.prog 119 #[v, .int .u8 b.toNat] w (Owned base (l ++ quoteB b) w) := by
 have HO := Lib.hid hown
 clear hown
 by_cases h1 : b = 34 ∨ b = 92
 · have HQ := Lib.hid (quoteB_esc b h1)
   rcases h1 with rfl | rfl
   · go_enter Tryz.func119, Tryz.ntmps119
     go_wp2_with (at_builtin; refine app_new rfl (.tmp 12) (.tmp 14) rfl base l [92, 34] v rfl HO.out 2 rfl rfl rfl (by omega) hbase ?_; intro v1 w1 h1 h2)
     go_ret
     exact ⟨v1, rfl, by rw [HQ.out]; exact h1, h2⟩
   · go_enter Tryz.func119, Tryz.ntmps119
     go_wp2_with (at_builtin; refine app_new rfl (.tmp 12) (.tmp 14) rfl base l [92, 92] v rfl HO.out 2 rfl rfl rfl (by omega) hbase ?_; intro v1 w1 h1 h2)
     go_ret
     exact ⟨v1, rfl, by rw [HQ.out]; exact h1, h2⟩
 by_cases h2 : b = 10
 · subst h2
   go_enter Tryz.func119, Tryz.ntmps119
   go_wp2_with (at_builtin; refine app_new rfl (.tmp 19) (.tmp 20) rfl base l [92, 110] v rfl HO.out 2 rfl rfl rfl (by omega) hbase ?_; intro v1 w1 h1 h2)
   go_ret
   exact ⟨v1, rfl, by rw [quoteB_lf]; exact h1, h2⟩
 by_cases h3 : b = 9
 · subst h3
   go_enter Tryz.func119, Tryz.ntmps119
   go_wp2_with (at_builtin; refine app_new rfl (.tmp 25) (.tmp 26) rfl base l [92, 116] v rfl HO.out 2 rfl rfl rfl (by omega) hbase ?_; intro v1 w1 h1 h2)
   go_ret
   exact ⟨v1, rfl, by rw [quoteB_tab]; exact h1, h2⟩
 have hb0 := u8_lt b
 have e1 : ((b.toNat : Int) == 34) = false := bneU b 34 (u8_ne b 34 (by decide) (fun h => h1 (.inl h)))
 have e2 : ((b.toNat : Int) == 92) = false := bneU b 92 (u8_ne b 92 (by decide) (fun h => h1 (.inr h)))
 have e3 : ((b.toNat : Int) == 10) = false := bneU b 10 (u8_ne b 10 (by decide) h2)
 have e4 : ((b.toNat : Int) == 9) = false := bneU b 9 (u8_ne b 9 (by decide) h3)
 by_cases h4 : b.toNat < 32 ∨ 126 < b.toNat
 · have HQ := Lib.hid (quoteB_oct b h1 h2 h3 h4)
   have HC := Lib.hid (oct_cells b)
   clear h1 h2 h3
   rcases h4 with h4 | h4
   · have h5 : (b.toNat : Int) < 32 := by omega
     clear h4
     go_enter Tryz.func119, Tryz.ntmps119
     go_wp2_with (at_builtin; refine app_new rfl (.tmp 35) (.tmp 46) rfl base l _ v rfl HO.out 4 rfl rfl HC.out (by omega) hbase ?_; intro v1 w1 h1 h2)
     go_ret
     exact ⟨v1, rfl, by rw [HQ.out]; exact h1, h2⟩
   · have h5 : (126 : Int) < (b.toNat : Int) := by omega
     have h6 : ¬ (b.toNat : Int) < 32 := by omega
     clear h4
     go_enter Tryz.func119, Tryz.ntmps119
     go_wp2_with (at_builtin; refine app_new rfl (.tmp 35) (.tmp 46) rfl base l _ v rfl HO.out 4 rfl rfl HC.out (by omega) hbase ?_; intro v1 w1 h1 h2)
     go_ret
     exact ⟨v1, rfl, by rw [HQ.out]; exact h1, h2⟩
 · have HQ := Lib.hid (quoteB_one b h1 h2 h3 h4)
   have h5 : ¬ (b.toNat : Int) < 32 := by omega
   have h6 : ¬ (126 : Int) < (b.toNat : Int) := by omega
   clear h1 h2 h3 h4
   go_enter Tryz.func119, Tryz.ntmps119
   go_wp2_with (at_builtin; refine app_new rfl (.tmp 48) (.tmp 50) rfl base l [b] v rfl HO.out 1 rfl rfl rfl (by omega) hbase ?_; intro v1 w1 h1 h2)
   go_ret
   exact ⟨v1, rfl, by rw [HQ.out]; exact h1, h2⟩
theorem plain_ok (b : UInt8) (h1 : (32 : Int) < (b.toNat : Int)) (h2 : (b.toNat : Int) < 127) (h3 : ((b.toNat : Int) == 34) = false) (h4 : ((b.toNat : Int) == 92) = false) : isPlain b = true := by
 have e3 : b ≠ 34 := fun h => by subst h; exact absurd h3 (by decide)
 have e4 : b ≠ 92 := fun h => by subst h; exact absurd h4 (by decide)
 unfold isPlain; simp [e3, e4]; omega
theorem plain_lo (b : UInt8) (h1 : ¬ (32 : Int) < (b.toNat : Int)) : isPlain b = false := by unfold isPlain; simp; omega
theorem plain_hi (b : UInt8) (h1 : ¬ (b.toNat : Int) < 127) : isPlain b = false := by unfold isPlain; simp; omega
set_option maxRecDepth 100000 in
theorem isPlain_any (b : UInt8) (w : World) : Calls Tryz.prog 153 #[.int .u8 b.toNat] w fun e w' => e = .returned (.bool (isPlain b)) ∧ w = w' := by
 have hb0 := u8_lt b
 by_cases h1 : (32 : Int) < (b.toNat : Int)
 · by_cases h2 : (b.toNat : Int) < 127
   · by_cases h3 : b = 34
     · subst h3
       go_enter Tryz.func153, Tryz.ntmps153
       go_wp2
       go_ret
       exact ⟨rfl, rfl⟩
     by_cases h4 : b = 92
     · subst h4
       go_enter Tryz.func153, Tryz.ntmps153
       go_wp2
       go_ret
       exact ⟨rfl, rfl⟩
     have e3 : ((b.toNat : Int) == 34) = false := bneU b 34 (u8_ne b 34 (by decide) h3)
     have e4 : ((b.toNat : Int) == 92) = false := bneU b 92 (u8_ne b 92 (by decide) h4)
     have HP := Lib.hid (plain_ok b h1 h2 e3 e4)
     have n3 : ((b.toNat : Int) != 34) = true := by rw [bne, e3]; rfl
     have n4 : ((b.toNat : Int) != 92) = true := by rw [bne, e4]; rfl
     clear h3 h4
     go_enter Tryz.func153, Tryz.ntmps153
     go_wp2
     go_ret
     exact ⟨by rw [HP.out]; simp [*], rfl⟩
   · have HP := Lib.hid (plain_hi b h2)
     go_enter Tryz.func153, Tryz.ntmps153
     go_wp2
     go_ret
     exact ⟨by rw [HP.out]; simp [*], rfl⟩
 · have HP := Lib.hid (plain_lo b h1)
   go_enter Tryz.func153, Tryz.ntmps153
   go_wp2
   go_ret
   exact ⟨by rw [HP.out]; simp [*], rfl⟩
set_option maxHeartbeats 400000 in
theorem plainEnd_any (s : ByteArray) (k : Nat) (w : World) (hs : s.size ≤ 4611686018427387904) (hk : k ≤ s.size) :
 Calls Tryz.prog 118 #[.string s, .int .i64 k] w fun e w' => e = .returned (.int .i64 (endOf isPlain (bs s) k)) ∧ w = w' := by
 go_enter Tryz.func118, Tryz.ntmps118
 go_wp2
 go_loop [1] (fun i => ∃ j : Nat, k ≤ j ∧ j ≤ s.size ∧ i = .int .i64 j ∧ Hid (endOf isPlain (bs s) j = endOf isPlain (bs s) k)) (fun i => s.size - (intOf i).toNat)
 case atStart => exact ⟨k, Nat.le_refl _, hk, rfl, Lib.hid rfl⟩
 case round =>
  obtain ⟨j, hj0, hj, rfl, H⟩ := hrel
  by_cases hlt : j < s.size
  · cases hp : isPlain s[j] with
    | true =>
      have HS := Lib.hid (endOf_step isPlain (bs s) j hlt hp)
      go_wp2_with (go_at_call 153; refine (isPlain_any s[j] _).mono ?_; rintro e w' ⟨rfl, rfl⟩)
      go_round
      case rel => exact ⟨j + 1, by omega, by omega, by go_num, Lib.hid (HS.out.symm.trans H.out)⟩
      case measure => simp [intOf]; omega
    | false =>
      have HS := Lib.hid (endOf_no isPlain (bs s) j hlt hp)
      go_wp2_with (go_at_call 153; refine (isPlain_any s[j] _).mono ?_; rintro e w' ⟨rfl, rfl⟩)
      go_ret
      exact ⟨ret_int (by rw [← H.out, HS.out]), rfl⟩
  · have HS := Lib.hid (endOf_end isPlain (bs s) j (by rw [bs_len]; omega))
    have hd : decide ((j : Int) < (s.size : Int)) = false := by simp only [decide_eq_false_iff_not]; omega
    go_wp2_with fail
    go_ret
    exact ⟨ret_int (by rw [← H.out, HS.out]), rfl⟩
theorem quoteF_plain (l : List UInt8) (h0 : l ≠ []) (h : l.all isPlain = true) : quoteF l = l := by unfold quoteF; rw [if_pos ⟨h0, h⟩]
theorem quoteF_quoted (l : List UInt8) (h : ¬ (l ≠ [] ∧ l.all isPlain = true)) : quoteF l = 34 :: l.flatMap quoteB ++ [34] := by unfold quoteF; rw [if_neg h]
theorem all_of_endOf (p : UInt8 → Bool) (l : List UInt8) : endOf p l 0 = l.length ↔ l.all p = true := by
 unfold endOf
 rw [List.drop_zero, Nat.zero_add]
 induction l with
 | nil => simp
 | cons a r ih =>
   rw [List.takeWhile_cons]
   cases h : p a with
   | true => simp [h, ih]
   | false => simp [h]
theorem take_flat (s : ByteArray) (j : Nat) (h : j < s.size) : ((bs s).take (j + 1)).flatMap quoteB = ((bs s).take j).flatMap quoteB ++ quoteB s[j] := by
 rw [List.take_succ_eq_append_getElem (by simpa using h)]; simp; rfl
theorem flat_len (l : List UInt8) : (l.flatMap quoteB).length ≤ 4 * l.length := by
 induction l with
 | nil => simp
 | cons a r ih => have := quoteB_len a; simp only [List.flatMap_cons, List.length_append, List.length_cons]; omega
def wd (s : ByteArray) (j : Nat) : List UInt8 := 34 :: ((bs s).take j).flatMap quoteB
theorem wd_len (s : ByteArray) (j : Nat) (hj : j ≤ s.size) : (wd s j).length ≤ 4 * s.size + 1 := by
 have h := flat_len ((bs s).take j)
 have h2 := List.length_take_le j (bs s)
 unfold wd; simp only [List.length_cons]; omega
theorem wd_step (s : ByteArray) (j : Nat) (h : j < s.size) : wd s (j + 1) = wd s j ++ quoteB s[j] := by unfold wd; rw [take_flat s j h]; rfl
theorem wd_end (s : ByteArray) (j : Nat) (h : s.size ≤ j) (hq : quoteF (bs s) = 34 :: (bs s).flatMap quoteB ++ [34]) : quoteF (bs s) = wd s j ++ [34] := by
 unfold wd; rw [hq, List.take_of_length_le (by rw [bs_len]; exact h)]
theorem own_new (w : World) (C : Array Value) (m : List UInt8) (k : Nat) (hC : C.toList = bytesV m) (hk : m.length = k) (h0 : k ≤ maxLen) :
 (w.alloc (.cells C 5)).ownsRow w.heap.size 5 1 (.slice (some ⟨w.heap.size, 0, none⟩) k k) m.length (bytesV m) := by
 subst hk
 have hs : C.size = m.length := by rw [← Array.length_toList, hC, bytesV_len]
 refine ⟨by rw [bytesV_len]; omega, .inr ⟨w.heap.size, m.length, C, rfl, Nat.le_refl _, ?_, Nat.le_refl _, h0, by omega, ?_⟩⟩
 · show (w.heap.push _)[w.heap.size]? = _
   simp
 · rw [hC, List.take_of_length_le (by rw [bytesV_len]; omega)]
theorem own_conv {w : World} {base : Nat} {v : Value} {L : List UInt8} (h : w.ownsRow base 5 1 v L.length (bytesV L)) :
 (convert 91 9 v).run Tryz.prog w = .ok (.string ⟨L.toArray⟩) w := by
 rcases h.2 with ⟨rfl, h0⟩ | ⟨g, cap, cur, rfl, _, hh, _, _, hsz, ht⟩
 · have : L = [] := List.eq_nil_of_length_eq_zero h0
   subst this
   rw [run_convert_bytes_string w _ _ 5 none 0 0 Tryz.underlying91 Tryz.underlying5 Tryz.underlying9]
   rfl
 · refine run_convert_bytes_back w _ _ 5 ⟨g, 0, none⟩ cap L Tryz.underlying91 Tryz.underlying5 Tryz.underlying9 ?_
   intro j hj
   have he : (Addr.mk g 0 none).add j = ⟨g, j, none⟩ := by
    unfold Addr.add; split
    · rename_i h0; rw [h0]
    · simp
   have hc := h.cellAt j (by omega)
   rw [he, hc]
   simp [bytesV, List.getElem?_eq_getElem hj]
set_option maxRecDepth 100000 in
set_option maxHeartbeats 2000000 in
theorem Quote_any (s : ByteArray) (w : World) (hs : s.size ≤ 1048576) :
 Calls Tryz.prog 80 #[.string s] w fun e w' => e = .returned (.string ⟨(quoteF (bs s)).toArray⟩) ∧ Below w.heap.size w w' := by
 have HE := Lib.hid (fun w => plainEnd_any s 0 w (by omega) (Nat.zero_le _))
 by_cases hpl : bs s ≠ [] ∧ (bs s).all isPlain = true
 · obtain ⟨h0, h1⟩ := hpl
   have HQ := Lib.hid (quoteF_plain (bs s) h0 h1)
   have H1 : Hid (endOf isPlain (bs s) 0 = s.size) := Lib.hid ((all_of_endOf isPlain (bs s)).2 h1)
   have e0 : ¬ s.toList = [] := by rw [ByteArray.toList_eq]; exact h0
   have e1 : (!s.toList.isEmpty) = true := by simpa using e0
   clear h0 h1
   go_enter Tryz.func80, Tryz.ntmps80
   go_wp2_with (go_at_call 118; refine (HE.out _).mono ?_; rintro e w' ⟨rfl, rfl⟩; rw [H1.out])
   go_ret
   exact ⟨by rw [HQ.out]; rfl, Below.refl _ _⟩
 · have HQ := Lib.hid (quoteF_quoted (bs s) hpl)
   by_cases h0 : bs s = []
   · have e0 : s.toList = [] := by rw [ByteArray.toList_eq]; exact h0
     have e1 : (!s.toList.isEmpty) = false := by rw [e0]; rfl
     clear hpl h0
     go_enter Tryz.func80, Tryz.ntmps80
     go_wp2_with fail
     go_loopw [3, 4] (fun v i wr => ∃ j : Nat, j ≤ s.size ∧ i = .int .i64 j ∧ Hid (wr.ownsRow w.heap.size 5 1 v (wd s j).length (bytesV (wd s j))) ∧ Below w.heap.size w wr) (fun _ i _ => s.size - (intOf i).toNat)
     case atStart => exact ⟨0, Nat.zero_le _, rfl, Lib.hid (own_new w #[.int .u8 34] [34] 1 rfl rfl (by decide)), (Below.refl _ _).alloc (Nat.le_refl _) _⟩
     case round =>
      obtain ⟨j, hj, rfl, HO, hnx⟩ := hrel
      have hwl := wd_len s j hj
      by_cases hlt : j < s.size
      · have HT := Lib.hid (wd_step s j hlt)
        go_wp2_with (go_at_call 119; refine (appendQuoted_any _ (wd s j) s[j] w.heap.size _ HO.out hnx.size (by omega)).mono ?_; rintro e w1 ⟨v1, rfl, ho, hb⟩; have HO1 := Lib.hid ho; clear ho)
        go_roundw
        case rel => exact ⟨j + 1, by omega, by go_num, Lib.hid (by rw [HT.out]; exact HO1.out), hnx.trans hb⟩
        case measure => simp [intOf]; omega
      · have HT := Lib.hid (wd_end s j (by omega) HQ.out)
        have hd : decide ((j : Int) < (s.size : Int)) = false := by simp only [decide_eq_false_iff_not]; omega
        go_wp2_with (at_builtin; refine app_new rfl (.tmp 27) (.tmp 28) rfl w.heap.size (wd s j) [34] _ rfl HO.out 1 rfl rfl rfl (by omega) hnx.size ?_; intro v1 w1 h1 h2; rw [← HT.out] at h1; have hcv := own_conv h1; have HO1 := Lib.hid h1; clear h1)
        go_ret
        exact ⟨rfl, hnx.trans h2⟩
   · have e0 : ¬ s.toList = [] := by rw [ByteArray.toList_eq]; exact h0
     have e1 : (!s.toList.isEmpty) = true := by simpa using e0
     have hne : endOf isPlain (bs s) 0 ≠ s.size := fun h => hpl ⟨h0, (all_of_endOf isPlain (bs s)).1 h⟩
     generalize hE : endOf isPlain (bs s) 0 = E at hne HE
     have e2 : ((E : Int) == (s.size : Int)) = false := by simp only [beq_eq_false_iff_ne, ne_eq]; omega
     clear hpl h0 hne hE
     go_enter Tryz.func80, Tryz.ntmps80
     go_wp2_with (go_at_call 118; refine (HE.out _).mono ?_; rintro e w' ⟨rfl, rfl⟩)
     go_loopw [3, 4] (fun v i wr => ∃ j : Nat, j ≤ s.size ∧ i = .int .i64 j ∧ Hid (wr.ownsRow w.heap.size 5 1 v (wd s j).length (bytesV (wd s j))) ∧ Below w.heap.size w wr) (fun _ i _ => s.size - (intOf i).toNat)
     case atStart => exact ⟨0, Nat.zero_le _, rfl, Lib.hid (own_new w #[.int .u8 34] [34] 1 rfl rfl (by decide)), (Below.refl _ _).alloc (Nat.le_refl _) _⟩
     case round =>
      obtain ⟨j, hj, rfl, HO, hnx⟩ := hrel
      have hwl := wd_len s j hj
      by_cases hlt : j < s.size
      · have HT := Lib.hid (wd_step s j hlt)
        go_wp2_with (go_at_call 119; refine (appendQuoted_any _ (wd s j) s[j] w.heap.size _ HO.out hnx.size (by omega)).mono ?_; rintro e w1 ⟨v1, rfl, ho, hb⟩; have HO1 := Lib.hid ho; clear ho)
        go_roundw
        case rel => exact ⟨j + 1, by omega, by go_num, Lib.hid (by rw [HT.out]; exact HO1.out), hnx.trans hb⟩
        case measure => simp [intOf]; omega
      · have HT := Lib.hid (wd_end s j (by omega) HQ.out)
        have hd : decide ((j : Int) < (s.size : Int)) = false := by simp only [decide_eq_false_iff_not]; omega
        go_wp2_with (at_builtin; refine app_new rfl (.tmp 27) (.tmp 28) rfl w.heap.size (wd s j) [34] _ rfl HO.out 1 rfl rfl rfl (by omega) hnx.size ?_; intro v1 w1 h1 h2; rw [← HT.out] at h1; have hcv := own_conv h1; have HO1 := Lib.hid h1; clear h1)
        go_ret
        exact ⟨rfl, hnx.trans h2⟩
end Sc
end
section
namespace Sh
open Sc
def lcs : List Int → List Int → Nat
 | [], _ => 0
 | _ :: _, [] => 0
 | x :: a, y :: b => if x = y then lcs a b + 1 else max (lcs a (y :: b)) (lcs (x :: a) b)
termination_by a b => a.length + b.length
theorem lcs_nil (b : List Int) : lcs [] b = 0 := by rw [lcs]
theorem lcs_nil' (a : List Int) : lcs a [] = 0 := by cases a <;> rw [lcs]
theorem lcs_eq (x : Int) (a b : List Int) : lcs (x :: a) (x :: b) = lcs a b + 1 := by rw [lcs, if_pos rfl]
theorem lcs_ne {x y : Int} (h : x ≠ y) (a b : List Int) : lcs (x :: a) (y :: b) = max (lcs a (y :: b)) (lcs (x :: a) b) := by rw [lcs, if_neg h]
theorem lcs_steps : ∀ (n : Nat) (a b : List Int), a.length + b.length ≤ n → (∀ x, lcs a b ≤ lcs (x :: a) b ∧ lcs (x :: a) b ≤ lcs a b + 1) ∧ ∀ y, lcs a b ≤ lcs a (y :: b) ∧ lcs a (y :: b) ≤ lcs a b + 1
 | 0, a, b, h => by
   obtain rfl : a = [] := List.eq_nil_of_length_eq_zero (by omega)
   obtain rfl : b = [] := List.eq_nil_of_length_eq_zero (by omega)
   simp [lcs_nil, lcs_nil']
 | n + 1, a, b, h => by
   have hA : ∀ b', b'.length < b.length → (∀ x, lcs a b' ≤ lcs (x :: a) b' ∧ lcs (x :: a) b' ≤ lcs a b' + 1) ∧ ∀ y, lcs a b' ≤ lcs a (y :: b') ∧ lcs a (y :: b') ≤ lcs a b' + 1 := fun b' hb => lcs_steps n a b' (by omega)
   have hB : ∀ a', a'.length < a.length → (∀ x, lcs a' b ≤ lcs (x :: a') b ∧ lcs (x :: a') b ≤ lcs a' b + 1) ∧ ∀ y, lcs a' b ≤ lcs a' (y :: b) ∧ lcs a' (y :: b) ≤ lcs a' b + 1 := fun a' ha => lcs_steps n a' b (by omega)
   refine ⟨fun x => ?_, fun y => ?_⟩
   · cases b with
     | nil => simp [lcs_nil']
     | cons y b =>
       obtain ⟨h1, h2⟩ := hA b (by simp)
       have := h1 x
       have := h2 y
       by_cases e : x = y
       · subst e; rw [lcs_eq]; omega
       · rw [lcs_ne e]; omega
   · cases a with
     | nil => simp [lcs_nil]
     | cons x a =>
       obtain ⟨h1, h2⟩ := hB a (by simp)
       have := h1 x
       have := h2 y
       by_cases e : x = y
       · subst e; rw [lcs_eq]; omega
       · rw [lcs_ne e]; omega
theorem lcs_consL (x : Int) (a b : List Int) : lcs a b ≤ lcs (x :: a) b ∧ lcs (x :: a) b ≤ lcs a b + 1 := (lcs_steps _ a b (Nat.le_refl _)).1 x
theorem lcs_consR (y : Int) (a b : List Int) : lcs a b ≤ lcs a (y :: b) ∧ lcs a (y :: b) ≤ lcs a b + 1 := (lcs_steps _ a b (Nat.le_refl _)).2 y
def dist (a b : List Int) : Int := (a.length : Int) + b.length - 2 * lcs a b
def wkF : Int → Int → List Int → List Int → List Sp
 | _, _, [], _ => []
 | _, _, _ :: _, [] => []
 | i, j, x :: a, y :: b => if x = y then ⟨i, j⟩ :: wkF (i + 1) (j + 1) a b else if lcs a (y :: b) = lcs (x :: a) (y :: b) then wkF (i + 1) j a (y :: b) else wkF i (j + 1) (x :: a) b
termination_by _ _ a b => a.length + b.length
theorem wkF_nil (i j : Int) (b : List Int) : wkF i j [] b = [] := by rw [wkF]
theorem wkF_nil' (i j : Int) (a : List Int) : wkF i j a [] = [] := by cases a <;> rw [wkF]
theorem wkF_eq (i j x : Int) (a b : List Int) : wkF i j (x :: a) (x :: b) = ⟨i, j⟩ :: wkF (i + 1) (j + 1) a b := by rw [wkF, if_pos rfl]
theorem wkF_old {i j x y : Int} {a b : List Int} (h : x ≠ y) (hl : lcs a (y :: b) = lcs (x :: a) (y :: b)) : wkF i j (x :: a) (y :: b) = wkF (i + 1) j a (y :: b) := by rw [wkF, if_neg h, if_pos hl]
theorem wkF_new {i j x y : Int} {a b : List Int} (h : x ≠ y) (hl : lcs a (y :: b) ≠ lcs (x :: a) (y :: b)) : wkF i j (x :: a) (y :: b) = wkF i (j + 1) (x :: a) b := by rw [wkF, if_neg h, if_neg hl]
theorem walk_ind {P : Int → Int → List Int → List Int → Prop} (h1 : ∀ i j b, P i j [] b) (h2 : ∀ i j a, P i j a []) (h3 : ∀ i j x a b, P (i + 1) (j + 1) a b → P i j (x :: a) (x :: b))
 (h4 : ∀ i j x y a b, x ≠ y → lcs a (y :: b) = lcs (x :: a) (y :: b) → P (i + 1) j a (y :: b) → P i j (x :: a) (y :: b))
 (h5 : ∀ i j x y a b, x ≠ y → lcs a (y :: b) ≠ lcs (x :: a) (y :: b) → lcs (x :: a) b = lcs (x :: a) (y :: b) → P i (j + 1) (x :: a) b → P i j (x :: a) (y :: b)) : ∀ (n : Nat) (i j : Int) (a b : List Int), a.length + b.length ≤ n → P i j a b
 | 0, i, j, a, b, h => by
   obtain rfl : a = [] := List.eq_nil_of_length_eq_zero (by omega)
   exact h1 _ _ _
 | n + 1, i, j, a, b, h => by
   cases a with
   | nil => exact h1 _ _ _
   | cons x a =>
     cases b with
     | nil => exact h2 _ _ _
     | cons y b =>
       simp only [List.length_cons] at h
       by_cases e : x = y
       · subst e
         exact h3 _ _ _ _ _ (walk_ind h1 h2 h3 h4 h5 n _ _ a b (by omega))
       · by_cases hl : lcs a (y :: b) = lcs (x :: a) (y :: b)
         · exact h4 _ _ _ _ _ _ e hl (walk_ind h1 h2 h3 h4 h5 n _ _ a (y :: b) (by simp only [List.length_cons]; omega))
         · refine h5 _ _ _ _ _ _ e hl ?_ (walk_ind h1 h2 h3 h4 h5 n _ _ (x :: a) b (by simp only [List.length_cons]; omega))
           have := lcs_ne e a b
           have := lcs_consL x a (y :: b)
           omega
theorem wkF_len (i j : Int) (a b : List Int) : (wkF i j a b).length = lcs a b := by
 refine walk_ind (P := fun i j a b => (wkF i j a b).length = lcs a b) ?_ ?_ ?_ ?_ ?_ _ i j a b (Nat.le_refl _)
 · intro i j b; rw [wkF_nil, lcs_nil]; rfl
 · intro i j a; rw [wkF_nil', lcs_nil']; rfl
 · intro i j x a b h; rw [wkF_eq, lcs_eq, List.length_cons, h]
 · intro i j x y a b e hl h; rw [wkF_old e hl, h, hl]
 · intro i j x y a b e hl hl2 h; rw [wkF_new e hl, h, hl2]
theorem wkF_okP (i j : Int) (a b : List Int) : OkP (i + a.length) (j + b.length) i j (wkF i j a b) := by
 refine walk_ind (P := fun i j a b => OkP (i + a.length) (j + b.length) i j (wkF i j a b)) ?_ ?_ ?_ ?_ ?_ _ i j a b (Nat.le_refl _)
 · intro i j b; rw [wkF_nil]; trivial
 · intro i j a; rw [wkF_nil']; trivial
 · intro i j x a b h
   rw [wkF_eq]
   refine ⟨⟨Int.le_refl _, ?_, Int.le_refl _, ?_⟩, ?_⟩
   · simp only [List.length_cons]; omega
   · simp only [List.length_cons]; omega
   · simp only [List.length_cons]
     rw [show i + ((a.length + 1 : Nat) : Int) = i + 1 + (a.length : Int) from by omega, show j + ((b.length + 1 : Nat) : Int) = j + 1 + (b.length : Int) from by omega]
     exact h
 · intro i j x y a b e hl h
   rw [wkF_old e hl, show i + ((x :: a).length : Int) = i + 1 + (a.length : Int) from by simp only [List.length_cons]; omega]
   exact h.mono (by omega) (Int.le_refl _)
 · intro i j x y a b e hl _ h
   rw [wkF_new e hl, show j + ((y :: b).length : Int) = j + 1 + (b.length : Int) from by simp only [List.length_cons]; omega]
   exact h.mono (Int.le_refl _) (by omega)
/-! ### the columns of bits -/
def cr (V M : Nat → Bool) : Nat → Bool
 | 0 => false
 | p + 1 => (V p).atLeastTwo (V p && M p) (cr V M p)
def nx (V M : Nat → Bool) (p : Nat) : Bool := (V p ^^ ((V p && M p) ^^ cr V M p)) || (V p && !M p)
def eqB (a : List Int) (y : Int) (p : Nat) : Bool := decide (p < a.length ∧ a[a.length - 1 - p]? = some y)
def colB (a : List Int) : List Int → Nat → Bool
 | [] => fun _ => true
 | y :: bs => nx (colB a bs) (eqB a y)
theorem cr_none (V : Nat → Bool) : ∀ p, cr V (fun _ => false) p = false
 | 0 => rfl
 | p + 1 => by
   simp only [cr, cr_none V p, Bool.and_false]
   cases V p <;> rfl
theorem nx_none (V : Nat → Bool) : nx V (fun _ => false) = V := by
 funext p
 unfold nx
 rw [cr_none]
 cases V p <;> rfl
theorem eqB_none {a : List Int} {y : Int} (h : y ∉ a) : eqB a y = fun _ => false := by
 funext p
 unfold eqB
 rw [decide_eq_false_iff_not]
 rintro ⟨_, h2⟩
 exact h (List.mem_iff_getElem?.2 ⟨_, h2⟩)
theorem colB_skip {a bs : List Int} {y : Int} (h : y ∉ a) : colB a (y :: bs) = colB a bs := by
 show nx _ _ = _
 rw [eqB_none h, nx_none]
theorem drop_one {a : List Int} {p : Nat} (h : p < a.length) : a.drop (a.length - (p + 1)) = a[a.length - 1 - p]'(by omega) :: a.drop (a.length - p) := by
 rw [List.drop_eq_getElem_cons (show a.length - (p + 1) < a.length from by omega)]
 congr 1
 · congr 1; omega
 · congr 1; omega
theorem colB_bits (a : List Int) : ∀ (bs : List Int) (p : Nat), p < a.length → colB a bs p = decide (lcs (a.drop (a.length - (p + 1))) bs = lcs (a.drop (a.length - p)) bs)
 | [], p, _ => by simp [colB, lcs_nil']
 | y :: bs, p, hp => by
   have hV : ∀ q, q < a.length → colB a bs q = decide (lcs (a.drop (a.length - (q + 1))) bs = lcs (a.drop (a.length - q)) bs) := colB_bits a bs
   have key : ∀ q, q ≤ a.length → lcs (a.drop (a.length - q)) (y :: bs) = lcs (a.drop (a.length - q)) bs + (cr (colB a bs) (eqB a y) q).toNat ∧
    (∀ r, r + 1 = q → nx (colB a bs) (eqB a y) r = decide (lcs (a.drop (a.length - (r + 1))) (y :: bs) = lcs (a.drop (a.length - r)) (y :: bs))) := by
    intro q
    induction q with
    | zero => intro _; refine ⟨by simp [lcs_nil, cr], fun r hr => by omega⟩
    | succ q ih =>
      intro hq
      obtain ⟨i1, _⟩ := ih (by omega)
      have v := hV q (by omega)
      have d := drop_one (a := a) (p := q) (by omega)
      have hE : eqB a y q = decide (a[a.length - 1 - q]'(by omega) = y) := by
       unfold eqB
       rw [decide_eq_decide, List.getElem?_eq_getElem (by omega)]
       exact ⟨fun h => Option.some.inj h.2, fun h => ⟨by omega, by rw [h]⟩⟩
      generalize a[a.length - 1 - q]'(by omega) = x at d hE
      rw [d] at v ⊢
      generalize hA : a.drop (a.length - q) = A at *
      have s1 := lcs_consL x A bs
      have s2 := lcs_consR y A bs
      have hcr : cr (colB a bs) (eqB a y) (q + 1) = (colB a bs q).atLeastTwo (colB a bs q && eqB a y q) (cr (colB a bs) (eqB a y) q) := rfl
      have hnx : nx (colB a bs) (eqB a y) q = ((colB a bs q ^^ ((colB a bs q && eqB a y q) ^^ cr (colB a bs) (eqB a y) q)) || (colB a bs q && !eqB a y q)) := rfl
      have fin : lcs (x :: A) (y :: bs) = lcs (x :: A) bs + (cr (colB a bs) (eqB a y) (q + 1)).toNat ∧ nx (colB a bs) (eqB a y) q = decide (lcs (x :: A) (y :: bs) = lcs A (y :: bs)) := by
       rw [hcr, hnx, v, hE]
       generalize cr (colB a bs) (eqB a y) q = c at i1
       by_cases e : x = y
       · subst e
         rw [lcs_eq]
         by_cases e2 : lcs (x :: A) bs = lcs A bs
         · cases c <;> simp [e2, Bool.atLeastTwo] at i1 ⊢ <;> omega
         · cases c <;> simp [e2, Bool.atLeastTwo] at i1 ⊢ <;> omega
       · have h3 := lcs_ne e A bs
         by_cases e2 : lcs (x :: A) bs = lcs A bs
         · cases c <;> simp [e, e2, Bool.atLeastTwo] at i1 ⊢ <;> omega
         · cases c <;> simp [e, e2, Bool.atLeastTwo] at i1 ⊢ <;> omega
      refine ⟨fin.1, fun r hr => ?_⟩
      obtain rfl : r = q := by omega
      rw [d, hA]
      exact fin.2
   exact (key (p + 1) (by omega)).2 p rfl
theorem colB_at {a bs : List Int} {i : Nat} (h : i < a.length) : colB a bs (a.length - 1 - i) = decide (lcs (a.drop i) bs = lcs (a.drop (i + 1)) bs) := by
 rw [colB_bits a bs _ (by omega), show a.length - (a.length - 1 - i + 1) = i from by omega, show a.length - (a.length - 1 - i) = i + 1 from by omega]
end Sh
end
section
namespace Uf
open Sc Hn Sl
variable {x y : List ByteArray}
def Ph (x y : List ByteArray) (l : List Ch) : Nat → Nat → Nat → List Hk → Prop
 | p, _, _, [] => p = l.length
 | p, i, j, h :: hs => ∃ k oF nF oT nT : Nat, h = ⟨p, k, oF, oT, nF, nT⟩ ∧ p < k ∧ k ≤ l.length ∧ i ≤ oF ∧ j ≤ nF ∧ oF - i = nF - j ∧ Lf x y oF nF (cut l p k) oT nT ∧ Ph x y l k oT nT hs
theorem take_drop_cut {α : Type} (l : List α) {f k : Nat} (h : f ≤ k) : l = l.take f ++ (cut l f k ++ l.drop k) := by
 have e1 : cut l f k ++ l.drop k = l.drop f := by
  unfold cut
  have := List.take_append_drop (k - f) (l.drop f)
  rw [List.drop_drop, show f + (k - f) = k from by omega] at this
  exact this
 rw [e1, List.take_append_drop]
theorem lst_app : ∀ (a b : List Ch) (i j : Nat), lstO i (a ++ b) = lstO (lstO i a) b ∧ lstN j (a ++ b) = lstN (lstN j a) b
 | [], _, _, _ => ⟨rfl, rfl⟩
 | _ :: a, b, _, _ => lst_app a b _ _
theorem Lf.at {l : List Ch} {X Y : Nat} (h : Lf x y 0 0 l X Y) {f : Nat} {b : Ch} (hb : l[f]? = some b) : ∃ o ol nw nl : Nat, b = ⟨o, ol, nw, nl⟩ ∧ lstO 0 (l.take f) ≤ o ∧ lstN 0 (l.take f) ≤ nw ∧ o - lstO 0 (l.take f) = nw - lstN 0 (l.take f) ∧ o + ol ≤ X ∧ nw + nl ≤ Y ∧
 lstO 0 (l.take (f + 1)) = o + ol ∧ lstN 0 (l.take (f + 1)) = nw + nl ∧ 0 < ol + nl := by
 obtain ⟨hf, rfl⟩ : ∃ hf : f < l.length, l[f] = b := by
  rcases Nat.lt_or_ge f l.length with h1 | h1
  · exact ⟨h1, by rw [List.getElem?_eq_getElem h1] at hb; exact Option.some.inj hb⟩
  · rw [List.getElem?_eq_none h1] at hb; cases hb
 have e : l = l.take f ++ l[f] :: l.drop (f + 1) := by rw [← List.drop_eq_getElem_cons hf, List.take_append_drop]
 have hR : Lf x y 0 0 (l.take f ++ l[f] :: l.drop (f + 1)) X Y := by rw [← e]; exact h
 have hR := Lf.rest hR
 obtain ⟨o, ol, nw, nl, ec, g1, g2, g3, g4, g5, g6⟩ := hR
 have h6 := g6.le
 refine ⟨o, ol, nw, nl, ec, g1, g2, g3, by omega, by omega, ?_, ?_, g4⟩
 · rw [List.take_succ_eq_append_getElem hf, (lst_snoc _ _ 0 0).1, ec]; exact nat_add o ol
 · rw [List.take_succ_eq_append_getElem hf, (lst_snoc _ _ 0 0).2, ec]; exact nat_add nw nl
theorem one_hunk {ctx : Int} (hc : 0 ≤ ctx) {l : List Ch} (hL : Lf x y 0 0 l x.length y.length) {f k : Nat} {b e : Ch} (hfk : f < k) (hk : k ≤ l.length) (hb : l[f]? = some b) (he : l[k - 1]? = some e)
 (hs : (lstO 0 (l.take f) : Int) ≤ b.old - bfr ctx b) (ht : endO e + aft ctx x.length e ≤ topC x.length (l.drop k)) :
 ∃ oF nF oT nT : Nat, mkH ctx x.length f k b e = ⟨f, k, oF, oT, nF, nT⟩ ∧ (oF : Int) = b.old - bfr ctx b ∧ (nF : Int) = b.new - bfr ctx b ∧ (oT : Int) = endO e + aft ctx x.length e ∧ (nT : Int) = endN e + aft ctx x.length e ∧ Lf x y oF nF (cut l f k) oT nT := by
 obtain ⟨o, ol, nw, nl, rfl, g1, g2, g3, g4, g5, g6, g7, _⟩ := hL.at hb
 obtain ⟨eo, eol, en, enl, rfl, k1, k2, k3, k4, k5, k6, k7, _⟩ := hL.at he
 have ek : k - 1 + 1 = k := by omega
 rw [ek] at k6 k7
 have eb : 0 ≤ bfr ctx ⟨o, ol, nw, nl⟩ ∧ bfr ctx ⟨o, ol, nw, nl⟩ ≤ (o : Int) := by unfold bfr; simp only; split <;> omega
 have ea : 0 ≤ aft ctx x.length ⟨eo, eol, en, enl⟩ ∧ (eo : Int) + eol + aft ctx x.length ⟨eo, eol, en, enl⟩ ≤ x.length := by unfold aft endO; simp only; split <;> omega
 obtain ⟨bb, hbb⟩ : ∃ bb : Nat, (bb : Int) = bfr ctx ⟨o, ol, nw, nl⟩ := ⟨(bfr ctx ⟨o, ol, nw, nl⟩).toNat, by omega⟩
 obtain ⟨aa, haa⟩ : ∃ aa : Nat, (aa : Int) = aft ctx x.length ⟨eo, eol, en, enl⟩ := ⟨(aft ctx x.length ⟨eo, eol, en, enl⟩).toNat, by omega⟩
 unfold endO endN at *
 simp only at *
 rw [← hbb] at eb hs ⊢
 rw [← haa] at ea ht ⊢
 have hd := take_drop_cut l (show f ≤ k by omega)
 have hR : Lf x y 0 0 (l.take f ++ (cut l f k ++ l.drop k)) x.length y.length := by rw [← hd]; exact hL
 have hR := Lf.rest hR
 have hcut : cut l f k = ⟨o, ol, nw, nl⟩ :: cut l (f + 1) k := by
  have hf : f < l.length := by omega
  rw [cut_cons l hfk hk]
  congr 1
  rw [List.getElem?_eq_getElem hf] at hb
  exact Option.some.inj hb
 have hlo : lstO (lstO 0 (l.take f)) (cut l f k) = eo + eol ∧ lstN (lstN 0 (l.take f)) (cut l f k) = en + enl := by
  have e1 : l.take k = l.take f ++ cut l f k := by
   have : l.take k = cut l 0 k := by unfold cut; simp
   rw [this, ← cut_app l (Nat.zero_le f) (show f ≤ k by omega)]
   unfold cut; simp
  rw [e1] at k6 k7
  exact ⟨(lst_app _ _ 0 0).1.symm.trans k6, (lst_app _ _ 0 0).2.symm.trans k7⟩
 have hP := Lf.part (T' := eo + eol + aa) hR (by rw [hlo.1]; omega) (by omega)
 rw [hlo.1, hlo.2, show en + enl + (eo + eol + aa - (eo + eol)) = en + enl + aa from by omega] at hP
 rw [hcut] at hP ⊢
 have hT := hP.trim (i' := o - bb) (j' := nw - bb) (by omega) (by simp only; omega) (by omega) (by omega)
 refine ⟨o - bb, nw - bb, eo + eol + aa, en + enl + aa, ?_, by omega, by omega, by omega, by omega, hT⟩
 unfold mkH endO endN
 simp only
 rw [← hbb, ← haa]
 congr 1 <;> omega
theorem ph_grp {ctx : Int} (hc : 0 ≤ ctx) {l : List Ch} (hL : Lf x y 0 0 l x.length y.length) : ∀ (r : List Ch) (f k : Nat) (b e : Ch) (i j : Nat), l.drop k = r → f < k → k ≤ l.length → l[f]? = some b → l[k - 1]? = some e →
 (i : Int) ≤ b.old - bfr ctx b → (j : Int) ≤ b.new - bfr ctx b → (b.old - bfr ctx b) - i = (b.new - bfr ctx b) - j → (lstO 0 (l.take f) : Int) ≤ b.old - bfr ctx b → Ph x y l f i j (grp ctx x.length f k b e r)
 | [], f, k, b, e, i, j, hr, hfk, hk, hb, he, h1, h2, h3, hs => by
   have hkl : k = l.length := by
    have := congrArg List.length hr
    rw [List.length_drop, List.length_nil] at this
    omega
   obtain ⟨eo, eol, en, enl, ee, _, _, _, k4, _⟩ := hL.at he
   obtain ⟨oF, nF, oT, nT, em, e1, e2, e3, e4, hlf⟩ := one_hunk hc hL hfk hk hb he hs (by
    rw [hr, ee]
    unfold aft endO topC
    simp only
    split <;> omega)
   rw [grp, em]
   exact ⟨k, oF, nF, oT, nT, rfl, hfk, hk, by omega, by omega, by omega, hlf, hkl⟩
 | c :: r, f, k, b, e, i, j, hr, hfk, hk, hb, he, h1, h2, h3, hs => by
   have hkl : k < l.length := by
    have := congrArg List.length hr
    rw [List.length_drop, List.length_cons] at this
    omega
   have hcc : l[k]? = some c := by
    rw [List.getElem?_eq_getElem hkl]
    rw [List.drop_eq_getElem_cons hkl] at hr
    injection hr with h4 _
    rw [h4]
   have hrr : l.drop (k + 1) = r := by
    rw [List.drop_eq_getElem_cons hkl] at hr
    injection hr
   obtain ⟨o, ol, nw, nl, ec, c1, c2, c3, c4, _⟩ := hL.at hcc
   obtain ⟨eo, eol, en, enl, ee, _, _, _, k4, k5, k6, k7, _⟩ := hL.at he
   rw [show k - 1 + 1 = k from by omega] at k6 k7
   rw [grp]
   split
   · rename_i hg
     obtain ⟨oF, nF, oT, nT, em, e1, e2, e3, e4, hlf⟩ := one_hunk hc hL hfk hk hb he hs (by
      rw [hr]
      rw [ee, ec] at hg ⊢
      unfold aft endO topC
      unfold endO at hg
      simp only at hg ⊢
      split <;> omega)
     rw [em]
     refine ⟨k, oF, nF, oT, nT, rfl, hfk, hk, by omega, by omega, by omega, hlf, ?_⟩
     have hbd : aft ctx x.length e ≤ ctx ∧ bfr ctx c ≤ ctx := by
      unfold aft bfr
      constructor <;> split <;> omega
     have hbc : bfr ctx c ≤ c.old := by unfold bfr; split <;> omega
     subst ec ee
     unfold endO endN at *
     simp only at *
     refine ph_grp hc hL r k (k + 1) _ _ oT nT hrr (by omega) (by omega) hcc (by rw [Nat.add_sub_cancel]; exact hcc) (by simp only; omega) (by simp only; omega) (by simp only; omega) (by simp only; omega)
   · exact ph_grp hc hL r f (k + 1) b c i j hrr (by omega) (by omega) hb (by rw [Nat.add_sub_cancel]; exact hcc) h1 h2 h3 hs
theorem ph_group {ctx : Int} (hc : 0 ≤ ctx) {l : List Ch} (hL : Lf x y 0 0 l x.length y.length) : Ph x y l 0 0 0 (group ctx x.length l) := by
 cases l with
 | nil => rfl
 | cons c r =>
   obtain ⟨o, ol, nw, nl, ec, c1, c2, c3, c4, _⟩ := hL.at (f := 0) (b := c) rfl
   have hbc : bfr ctx c ≤ c.old := by unfold bfr; split <;> omega
   rw [List.take_zero] at c1 c2 c3
   simp only [lstO, lstN] at c1 c2 c3
   refine ph_grp hc hL r 0 1 c c 0 0 rfl (by omega) (by simp) rfl rfl ?_ ?_ ?_ ?_
   all_goals (rw [ec] at hbc ⊢; simp only [List.take_zero, lstO] at hbc ⊢; omega)
def mkPH (x y : List ByteArray) (l : List Ch) (h : Hk) : PH := ⟨h.oF, h.nF, lnsF x y h.oF.toNat (cut l h.fst.toNat h.lst.toNat) h.oT.toNat⟩
def patH (x y : List ByteArray) (ctx : Int) (l : List Ch) : List PH := (group ctx x.length l).map (mkPH x y l)
theorem mkPH_nat (x y : List ByteArray) (l : List Ch) (p k oF nF oT nT : Nat) : mkPH x y l ⟨p, k, oF, oT, nF, nT⟩ = ⟨oF, nF, lnsF x y oF (cut l p k) oT⟩ := by
 unfold mkPH
 simp only [Int.toNat_natCast]
theorem ph_at {l : List Ch} : ∀ {hs : List Hk} {p i j : Nat}, Ph x y l p i j hs → ∀ m (hm : m < hs.length), ∃ p k oF nF oT nT : Nat, hs[m] = ⟨p, k, oF, oT, nF, nT⟩ ∧ p < k ∧ k ≤ l.length ∧ Lf x y oF nF (cut l p k) oT nT
 | [], _, _, _, _, m, hm => absurd hm (Nat.not_lt_zero _)
 | h :: hs, p, i, j, ⟨k, oF, nF, oT, nT, e, h1, h2, h3, h4, h5, h6, h7⟩, 0, _ => ⟨p, k, oF, nF, oT, nT, e, h1, h2, h6⟩
 | h :: hs, p, i, j, ⟨k, oF, nF, oT, nT, e, h1, h2, h3, h4, h5, h6, h7⟩, m + 1, hm => ph_at h7 m (by simpa using hm)
end Uf
end
section
namespace Uf
end Uf
namespace Pa
open Uf Sc Hn Sl
def oldT (h : PH) : List ByteArray := notK 43 h.lines
def newT (h : PH) : List ByteArray := notK 45 h.lines
def fitH (xs : List ByteArray) (h : PH) : Prop := h.old.toNat + (oldT h).length ≤ xs.length ∧ cut xs h.old.toNat (h.old.toNat + (oldT h).length) = oldT h
instance (xs : List ByteArray) (h : PH) : Decidable (fitH xs h) := inferInstanceAs (Decidable (_ ∧ _))
def fitN (xs : List ByteArray) : List PH → Nat
 | [] => 0
 | h :: hs => if fitH xs h then fitN xs hs + 1 else 0
def appT (xs : List ByteArray) : Nat → List PH → List ByteArray
 | i, [] => xs.drop i
 | i, h :: hs => cut xs i h.old.toNat ++ (newT h ++ appT xs (h.old.toNat + (oldT h).length) hs)
def flipK (k : Int) : Int := if k = 45 then 43 else if k = 43 then 45 else k
def revL (l : Ln) : Ln := ⟨flipK l.kind, l.text⟩
def revH (h : PH) : PH := ⟨h.new, h.old, h.lines.map revL⟩
def revP (p : Pat) : Pat := ⟨p.nn, p.on, p.hunks.map revH⟩
theorem flipK_two (k : Int) : flipK (flipK k) = k := by
 unfold flipK
 repeat' split
 all_goals omega
theorem flipK_43 (k : Int) : flipK k = 43 ↔ k = 45 := by
 unfold flipK
 repeat' split
 all_goals omega
theorem flipK_45 (k : Int) : flipK k = 45 ↔ k = 43 := by
 unfold flipK
 repeat' split
 all_goals omega
theorem revL_two (l : Ln) : revL (revL l) = l := by unfold revL; simp only [flipK_two]
theorem revH_two (h : PH) : revH (revH h) = h := by
 unfold revH
 simp only [List.map_map]
 rw [show revL ∘ revL = id from funext revL_two, List.map_id]
theorem revP_two (p : Pat) : revP (revP p) = p := by
 unfold revP
 simp only [List.map_map]
 rw [show revH ∘ revH = id from funext revH_two, List.map_id]
theorem notK_rev {a b : Int} (h : ∀ k, flipK k = a ↔ k = b) (ls : List Ln) : notK a (ls.map revL) = notK b ls := by
 unfold notK
 rw [List.filter_map, List.map_map]
 have e1 : (fun l : Ln => l.kind != a) ∘ revL = fun l => l.kind != b := by
  funext l
  have := h l.kind
  show (flipK l.kind != a) = (l.kind != b)
  by_cases e : l.kind = b
  · rw [this.2 e, e]; simp
  · have e2 : flipK l.kind ≠ a := fun q => e (this.1 q)
    rw [bne_iff_ne.2 e, bne_iff_ne.2 e2]
 rw [e1]
 rfl
theorem oldT_rev (h : PH) : oldT (revH h) = newT h := notK_rev flipK_43 h.lines
theorem newT_rev (h : PH) : newT (revH h) = oldT h := notK_rev flipK_45 h.lines
def geo : Nat → Nat → List PH → Prop
 | _, _, [] => True
 | i, j, h :: hs => ∃ o n : Nat, h.old = o ∧ h.new = n ∧ i ≤ o ∧ j ≤ n ∧ o - i = n - j ∧ geo (o + (oldT h).length) (n + (newT h).length) hs
section
variable {α : Type}
theorem drop_split {Y A B : List α} {j : Nat} (h : Y.drop j = A ++ B) (hj : j ≤ Y.length) : cut Y j (j + A.length) = A ∧ Y.drop (j + A.length) = B ∧ j + A.length ≤ Y.length := by
 refine ⟨?_, ?_, ?_⟩
 · unfold cut
   rw [h, Nat.add_sub_cancel_left, List.take_left']
   rfl
 · rw [← List.drop_drop, h, List.drop_left']
   rfl
 · have := congrArg List.length h
   rw [List.length_drop, List.length_append] at this
   omega
theorem cut_drop (xs : List α) {i j : Nat} (h : i ≤ j) : cut xs i j ++ xs.drop j = xs.drop i := by
 unfold cut
 have := List.take_append_drop (j - i) (xs.drop i)
 rw [List.drop_drop, show i + (j - i) = j from by omega] at this
 exact this
end
theorem fit_all {xs : List ByteArray} : ∀ {hs : List PH}, fitN xs hs = hs.length → ∀ h ∈ hs, fitH xs h
 | [], _, _, hm => by cases hm
 | h :: hs, e, g, hm => by
   unfold fitN at e
   split at e
   · rename_i hf
     rcases List.mem_cons.1 hm with rfl | hm
     · exact hf
     · exact fit_all (by simpa using e) g hm
   · simp at e
theorem all_fit {xs : List ByteArray} : ∀ {hs : List PH}, (∀ h ∈ hs, fitH xs h) → fitN xs hs = hs.length
 | [], _ => rfl
 | h :: hs, e => by
   unfold fitN
   rw [if_pos (e h List.mem_cons_self), all_fit fun g hg => e g (List.mem_cons_of_mem _ hg), List.length_cons]
theorem fitN_le (xs : List ByteArray) : ∀ hs : List PH, fitN xs hs ≤ hs.length
 | [] => Nat.le_refl _
 | h :: hs => by
   unfold fitN
   have := fitN_le xs hs
   rw [List.length_cons]
   split <;> omega
theorem rev_app {xs : List ByteArray} : ∀ {hs : List PH} {i j : Nat} {Y : List ByteArray}, geo i j hs → (∀ h ∈ hs, fitH xs h) → j ≤ Y.length → Y.drop j = appT xs i hs →
 (∀ h ∈ hs.map revH, fitH Y h) ∧ appT Y j (hs.map revH) = xs.drop i
 | [], i, j, Y, _, _, _, h => ⟨fun _ hm => by (cases hm), h⟩
 | h :: hs, i, j, Y, ⟨o, n, e1, e2, h1, h2, h3, h4⟩, hf, hj, hY => by
   obtain ⟨f1, f2⟩ := hf h List.mem_cons_self
   rw [e1, Int.toNat_natCast] at f1 f2
   unfold appT at hY
   rw [e1, Int.toNat_natCast] at hY
   obtain ⟨a1, a2, a3⟩ := drop_split hY hj
   rw [cut_len xs (show o ≤ xs.length from by omega), show j + (o - i) = n from by omega] at a1 a2 a3
   obtain ⟨b1, b2, b3⟩ := drop_split a2 a3
   obtain ⟨r1, r2⟩ := rev_app h4 (fun g hg => hf g (List.mem_cons_of_mem _ hg)) b3 b2
   have t1 : (revH h).old.toNat = n := by
    show h.new.toNat = n
    rw [e2, Int.toNat_natCast]
   constructor
   · intro g hg
     rw [List.map_cons] at hg
     rcases List.mem_cons.1 hg with rfl | hg
     · unfold fitH
       rw [t1, oldT_rev]
       exact ⟨b3, b1⟩
     · exact r1 g hg
   · rw [List.map_cons]
     unfold appT
     rw [t1, oldT_rev, newT_rev, r2, a1]
     generalize (oldT h).length = m at f1 f2 ⊢
     rw [← f2, ← List.append_assoc, cut_app xs h1 (Nat.le_add_right _ _), cut_drop xs (by omega)]
theorem appT_mem {xs : List ByteArray} : ∀ {hs : List PH} {i : Nat} {t : ByteArray}, t ∈ appT xs i hs → t ∈ xs ∨ ∃ h ∈ hs, t ∈ newT h
 | [], _, _, h => .inl (List.mem_of_mem_drop h)
 | h :: hs, i, t, hm => by
   unfold appT at hm
   rcases List.mem_append.1 hm with hm | hm
   · exact .inl (cut_mem hm)
   · rcases List.mem_append.1 hm with hm | hm
     · exact .inr ⟨h, List.mem_cons_self, hm⟩
     · rcases appT_mem hm with h1 | ⟨g, h1, h2⟩
       · exact .inl h1
       · exact .inr ⟨g, List.mem_cons_of_mem _ h1, h2⟩
variable {x y : List ByteArray}
theorem cut_pre {i o j n m q : Nat} (h : cut x i o = cut y j n) (h1 : i ≤ m) (h2 : m ≤ o) (h3 : j ≤ q) (h4 : q ≤ n) (h5 : m - i = q - j) : cut x i m = cut y j q := by
 have a := congrArg (List.take (m - i)) h
 unfold cut at a ⊢
 rw [List.take_take, List.take_take, Nat.min_eq_left (by omega), Nat.min_eq_left (by omega)] at a
 rw [← h5]
 exact a
theorem cut_suf {i o j n m q : Nat} (h : cut x i o = cut y j n) (h1 : i ≤ m) (h2 : m ≤ o) (h3 : j ≤ q) (h4 : q ≤ n) (h5 : m - i = q - j) : cut x m o = cut y q n := by
 have a := congrArg (List.drop (m - i)) h
 unfold cut at a ⊢
 rw [List.drop_take, List.drop_take, List.drop_drop, List.drop_drop, show i + (m - i) = m from by omega, show j + (m - i) = q from by omega, show o - i - (m - i) = o - m from by omega, show n - j - (m - i) = n - q from by omega] at a
 exact a
theorem Lf_lst : ∀ {cs : List Ch} {i j T U : Nat}, Lf x y i j cs T U → lstO i cs ≤ T ∧ lstN j cs ≤ U ∧ T - lstO i cs = U - lstN j cs ∧ cut x (lstO i cs) T = cut y (lstN j cs) U
 | [], _, _, _, _, ⟨h1, h2, _, _, h5, h6⟩ => ⟨h1, h2, h5, h6⟩
 | c :: cs, i, j, T, U, ⟨o, ol, nw, nl, e, _, _, _, _, _, h⟩ => by
   have := Lf_lst h
   subst e
   simp only [lstO, lstN, nat_add]
   exact this
theorem lst_ne : ∀ {cs : List Ch} (i i' j j' : Nat), cs ≠ [] → lstO i cs = lstO i' cs ∧ lstN j cs = lstN j' cs
 | [], _, _, _, _, h => absurd rfl h
 | _ :: _, _, _, _, _, _ => ⟨rfl, rfl⟩
theorem made {l : List Ch} : ∀ {hs : List Hk} {p i j : Nat}, Ph x y l p i j hs → Lf x y i j (l.drop p) x.length y.length → geo i j (hs.map (mkPH x y l)) ∧ (∀ h ∈ hs.map (mkPH x y l), fitH x h) ∧ appT x i (hs.map (mkPH x y l)) = y.drop j
 | [], p, i, j, hp, hL => by
   have hp : p = l.length := hp
   rw [hp, List.drop_length] at hL
   obtain ⟨_, _, _, _, _, h6⟩ := hL
   refine ⟨trivial, fun _ hm => by (cases hm), ?_⟩
   show x.drop i = y.drop j
   unfold cut at h6
   rw [List.take_of_length_le (by rw [List.length_drop]; exact Nat.le_refl _), List.take_of_length_le (by rw [List.length_drop]; exact Nat.le_refl _)] at h6
   exact h6
 | h :: hs, p, i, j, ⟨k, oF, nF, oT, nT, e, h1, h2, h3, h4, h5, h6, h7⟩, hL => by
   have hl := h6.le
   have hd : l.drop p = cut l p k ++ l.drop k := (cut_drop l (Nat.le_of_lt h1)).symm
   have hne : cut l p k ≠ [] := by
    intro q
    have := congrArg List.length q
    rw [cut_len l h2, List.length_nil] at this
    omega
   rw [hd] at hL
   have hR := Lf.rest hL
   obtain ⟨q1, q2⟩ := lst_ne i oF j nF hne
   rw [q1, q2] at hR
   obtain ⟨l1, l2, l3, l4⟩ := Lf_lst h6
   have g1 : cut x i oF = cut y j nF := by
    generalize cut l p k = cs at hne hL h6
    cases cs with
    | nil => exact absurd rfl hne
    | cons c cs =>
      obtain ⟨o, ol, nw, nl, ec, a1, a2, a3, _, a5, _⟩ := hL
      obtain ⟨o', ol', nw', nl', ec', b1, b2, _⟩ := h6
      rw [ec] at ec'
      injection ec' with c1 c2 c3 c4
      exact cut_pre a5 h3 (by omega) h4 (by omega) h5
   have g2 : Lf x y oT nT (l.drop k) x.length y.length := by
    cases hs with
    | nil =>
      have h7 : k = l.length := h7
      rw [show l.drop k = [] from by rw [h7, List.drop_length]] at hR ⊢
      obtain ⟨r1, r2, r3, r4, r5, r6⟩ := hR
      have hl1 := hl.2.2.1
      have hl2 := hl.2.2.2
      refine ⟨hl1, hl2, Nat.le_refl _, Nat.le_refl _, by omega, cut_suf r6 l1 hl1 l2 hl2 l3⟩
    | cons h' hs' =>
      obtain ⟨k', oF', nF', oT', nT', e', c1, c2, c3, c4, c5, c6, c7⟩ := h7
      have hk : l.drop k = l[k] :: l.drop (k + 1) := List.drop_eq_getElem_cons (by omega)
      have hk' : cut l k k' = l[k] :: cut l (k + 1) k' := cut_cons l c1 c2
      rw [hk'] at c6
      obtain ⟨o', ol', nw', nl', ec', b1, b2, _⟩ := c6
      rw [hk] at hR ⊢
      exact hR.trim l1 (by rw [ec']; simp only; omega) l3 l2
   obtain ⟨m1, m2, m3⟩ := made h7 g2
   have eo : oldT (mkPH x y l h) = cut x oF oT := by rw [e, mkPH_nat]; exact h6.old
   have en : newT (mkPH x y l h) = cut y nF nT := by rw [e, mkPH_nat]; exact h6.new
   have e3 : (mkPH x y l h).old = (oF : Int) := by rw [e, mkPH_nat]
   have e4 : (mkPH x y l h).new = (nF : Int) := by rw [e, mkPH_nat]
   have lo : oF + (oldT (mkPH x y l h)).length = oT := by rw [eo, cut_len x hl.2.2.1]; omega
   have ln : nF + (newT (mkPH x y l h)).length = nT := by rw [en, cut_len y hl.2.2.2]; omega
   refine ⟨⟨oF, nF, e3, e4, h3, h4, h5, ?_⟩, ?_, ?_⟩
   · rw [lo, ln]; exact m1
   · intro g hg
     rw [List.map_cons] at hg
     rcases List.mem_cons.1 hg with rfl | hg
     · unfold fitH
       rw [e3, Int.toNat_natCast, lo, eo]
       exact ⟨hl.2.2.1, rfl⟩
     · exact m2 g hg
   · rw [List.map_cons]
     unfold appT
     rw [e3, Int.toNat_natCast, lo, m3, en, g1, cut_drop y hl.2.1, cut_drop y h4]
end Pa
end
section
namespace Sl
open Sc
def tn (m n : Int) (c : Ch) : Ch := ⟨m - c.old - c.oldLen, c.oldLen, n - c.new - c.newLen, c.newLen⟩
-- the inverse
end Sl
end
section
open Go.RowKit
namespace Tx
set_option maxHeartbeats 1000000 in
theorem Line_any (k : Int) (w : World) (h0 : -9223372036854775808 ≤ k) (h1 : k ≤ 9223372036854775807) :
 Calls Tryz.prog 22 #[.int .i64 k] w (SomeStr 3 w) := by
 have H := Lib.hid (fun w => Mod_any k 10 w (by omega) (by omega) h0 h1)
 have hlo := modF_lo k 10 (by omega)
 have hhi := modF_hi k 10 (by omega)
 generalize modF k 10 = m at H hlo hhi
 clear h0 h1
 have hm : m = 0 ∨ m = 1 ∨ m = 2 ∨ m = 3 ∨ m = 4 ∨ m = 5 ∨ m = 6 ∨ m = 7 ∨ m = 8 ∨ m = 9 := by omega
 clear hlo hhi
 rcases hm with rfl | rfl | rfl | rfl | rfl | rfl | rfl | rfl | rfl | rfl
 all_goals
  go_enter Tryz.func22, Tryz.ntmps22
  go_wp2_with (go_at_call 18; refine (H.out _).mono ?_; rintro e w1 ⟨rfl, rfl⟩)
  go_ret
  exact ⟨_, by decide, rfl, (Below.refl _ _).alloc (Nat.le_refl _) _⟩
end Tx
end
section
open Go.RowKit
namespace Tx
theorem ext_le (s : ByteArray) (a b : Nat) : (s.extract a b).size ≤ s.size := by
 rw [ByteArray.size_extract]; omega
set_option maxRecDepth 100000 in
set_option maxHeartbeats 2000000 in
theorem Blob_any (v : Value) (n : Nat) (fr N kinds : Int) (w : World) (h : RdI w v n) (hn : n ≤ maxLen) (h0 : 0 ≤ fr) (h1 : fr ≤ 10000) (h2 : 0 ≤ N) (h3 : N ≤ 100) (h4 : 0 < kinds) (h5 : kinds ≤ 100) :
 Calls Tryz.prog 24 #[v, .int .i64 fr, .int .i64 N, .int .i64 kinds] w (SomeStr (4 * N.toNat) w) := by
 have HI := Lib.hid h
 have HN := Lib.hid hn
 obtain ⟨A, c, rfl, _⟩ := h
 unfold maxLen at hn
 clear hn
 go_enter Tryz.func24, Tryz.ntmps24
 go_wp2_with (first
  | (go_at_call 23; refine (At_any _ _ _ _ HI.out HN.out (by omega) (by omega)).mono ?_; rintro e w1 ⟨a, ha1, ha2, rfl, rfl⟩)
  | (go_at_call 18; refine (Mod_any _ _ _ (by omega) (by omega) (by omega) (by omega)).mono ?_; rintro e w1 ⟨rfl, rfl⟩))
 have hm0 := modF_lo a (N + 1) (by omega)
 have hm1 := modF_hi a (N + 1) (by omega)
 generalize modF a (N + 1) = m at hm0 hm1
 go_loopw [9, 10] (fun t i wr => ∃ (j : Nat) (o : ByteArray), (j : Int) ≤ m ∧ i = .int .i64 j ∧ t = .string o ∧ o.size ≤ 4 * j ∧ Below w.heap.size w wr) (fun _ i _ => m.toNat - (intOf i).toNat)
 case atStart => exact ⟨0, ⟨#[]⟩, by omega, rfl, rfl, Nat.zero_le _, Below.refl _ _⟩
 case round =>
  obtain ⟨j, o, hj, rfl, rfl, ho, hnx⟩ := hrel
  have HI2 := Lib.hid (HI.out.below hnx)
  by_cases hlt : (j : Int) < m
  · go_wp2_with (first
     | (go_at_call 23; refine (At_any _ _ _ _ HI2.out HN.out (by omega) (by omega)).mono ?_; rintro e w1 ⟨a2, ha3, ha4, rfl, rfl⟩)
     | (go_at_call 18; refine (Mod_any _ _ _ (by omega) (by omega) (by omega) (by omega)).mono ?_; rintro e w1 ⟨rfl, rfl⟩)
     | (go_at_call 22; have hk0 := modF_lo a2 kinds h4; have hk1 := modF_hi a2 kinds h4; refine (Line_any _ _ (by omega) (by omega)).mono ?_; rintro e w2 ⟨x, hx, rfl, hb⟩))
    go_roundw
    case rel => exact ⟨j + 1, _, by omega, by go_num, rfl, by simp only [ByteArray.size_append]; have : (ByteArray.mk #[10]).size = 1 := rfl; omega, hnx.trans (hb.mono hnx.size)⟩
    case measure => simp [intOf]; omega
  · have hos : o.size ≤ 4 * N.toNat := by omega
    have HX := Lib.hid (fun a b => Nat.le_trans (ext_le o a b) hos)
    go_wp2_with (go_at_call 23; refine (At_any _ _ _ _ HI2.out HN.out (by omega) (by omega)).mono ?_; rintro e w1 ⟨a2, ha3, ha4, rfl, rfl⟩)
    all_goals go_ret
    all_goals first | exact ⟨_, hos, rfl, hnx⟩ | exact ⟨_, HX.out _ _, rfl, hnx⟩
end Tx
end
end Go.Proofs.YtjecfmbecgpbmaaGreatDoor

/- Facts; each states its conditions. -/
import Derived.Test.YtjecfmbecgpbmaaGreatDoorGTextBase
import Derived.Lib.AppendStr
namespace Go.Proofs.YtjecfmbecgpbmaaGreatDoor
open Go.RowKit
namespace Tx
theorem below_drewN {n : Nat} {w w' : World} (h : Below n w w') (m : Nat) : Below n w (w'.drewN m) := by
 induction m with
 | zero => exact h
 | succ m ih => exact ih.drew
abbrev bss (xs : List ByteArray) : List (List UInt8) := xs.map bs
def total (xs : List ByteArray) : Nat := (bss xs).flatten.length
theorem isListF_step (xs : List ByteArray) (i : Nat) (h : i < xs.length) : isListF ((bss xs).drop i) = (isLine (bs xs[i]) && (decide (i + 1 = xs.length) || endedF (bs xs[i])) && isListF ((bss xs).drop (i + 1))) := by
 have hl : (bss xs).length = xs.length := by simp [bss]
 rw [List.drop_eq_getElem_cons (show i < (bss xs).length by rw [hl]; exact h), isListF_cons]
 have e1 : ((bss xs).drop (i + 1)).isEmpty = decide (i + 1 = xs.length) := by
  rw [Bool.eq_iff_iff, List.isEmpty_iff, List.drop_eq_nil_iff, hl, decide_eq_true_eq]; omega
 have e2 : (bss xs)[i]'(by rw [hl]; exact h) = bs xs[i] := by simp [bss]
 rw [e1, e2]
theorem isListF_end (xs : List ByteArray) (i : Nat) (h : xs.length ≤ i) : isListF ((bss xs).drop i) = true := by
 rw [List.drop_of_length_le (by simp [bss]; exact h)]; rfl
theorem isLine_lf (x : ByteArray) (k : Nat) (h : k + 1 < x.size) (hb : x[k]'(by omega) = 10) : isLine (bs x) = false := by
 unfold isLine
 have hm : (10 : UInt8) ∈ (bs x).dropLast := by
  rw [List.mem_iff_getElem?]
  refine ⟨k, ?_⟩
  rw [List.getElem?_dropLast, if_pos (by rw [bs_len]; omega), bs_get? x k (by omega), hb]
 rw [List.contains_iff_mem.2 hm]; simp
theorem isLine_no (x : ByteArray) (h : ∀ j, j + 1 < x.size → (bs x)[j]? ≠ some 10) : isLine (bs x) = !(bs x).isEmpty := by
 unfold isLine
 have : (bs x).dropLast.contains 10 = false := by
  rw [Bool.eq_false_iff]
  intro hc
  obtain ⟨j, hj⟩ := List.mem_iff_getElem?.1 (List.contains_iff_mem.1 hc)
  rw [List.getElem?_dropLast] at hj
  split at hj
  · rename_i h1; rw [bs_len] at h1; exact h j (by omega) hj
  · cases hj
 rw [this]; simp
abbrev byteV (b : UInt8) : Value := .int .u8 (b.toNat : Int)
def bytesV (l : List UInt8) : List Value := l.map byteV
theorem bytesV_append (a b : List UInt8) : bytesV (a ++ b) = bytesV a ++ bytesV b := by simp [bytesV]
theorem bytesV_len (a : List UInt8) : (bytesV a).length = a.length := by simp [bytesV]
theorem info_u8 : (Tryz.prog.info? 5).map (fun i => (i.zero, i.size, i.bytes)) = some (some (.int .u8 0), 1, 1) := by kernel_rfl
theorem below_of_append {w w' : World} {base : Nat} {v : Value} {n : Nat} {xs : List Value} (hown : w.ownsRow base 5 1 v n xs) (hg : w.grownBy w' v.ownBlock) (hb : base ≤ w.heap.size) : Below base w w' :=
 (Below.refl _ _).grown hg hb (fun k hk => by
  rcases hown.2 with ⟨rfl, _⟩ | ⟨g, cap, cur, rfl, hg', _⟩
  · simp [Value.ownBlock] at hk
  · simp [Value.ownBlock] at hk; omega)
theorem app_str {ops : Array Oper} {rest : List Oper} {o : Oper} {a : Act} {Q : Exit → Act → World → Prop} {w : World} (hgd : o.guard = none) (s x : Operand)
 (ho : o.op = .call { callee := .builtin .append, args := #[s, x], argTypes := #[91, 9] })
 (base : Nat) (l : List UInt8) (m : ByteArray) (v : Value) (hs : a.eval s = v) (hown : w.ownsRow base 5 1 v l.length (bytesV l))
 (hx : a.eval x = .string m) (hsz : l.length + m.size ≤ 1000000000) (hbase : base ≤ w.heap.size)
 (h : ∀ v' w', w'.ownsRow base 5 1 v' (l ++ bs m).length (bytesV (l ++ bs m)) → Below base w w' → wpList Tryz.prog ops Q rest (a.put o.dst v') w') :
 wpList Tryz.prog ops Q (o :: rest) a w := by
 obtain ⟨i0, hi0, hz0, hz1, hz2⟩ := info_parts info_u8
 refine Lib.wpList_append_own_string w hgd s x _ _ ho base 5 i0 Tryz.underlying91 Tryz.underlying9 hi0 hz0 hz1 hz2 v l.length (bytesV l) hs hown m hx (by unfold maxLen; omega) (by omega) hbase ?_
 intro v' w' h1 h2 _
 exact h v' w' (by rw [bytesV_append, List.length_append]; exact h1) (below_of_append hown h2 hbase)
theorem own_conv {w : World} {base : Nat} {v : Value} {L : List UInt8} (h : w.ownsRow base 5 1 v L.length (bytesV L)) :
 (convert 91 9 v).run Tryz.prog w = .ok (.string ⟨L.toArray⟩) w := by
 rcases h.2 with ⟨rfl, h0⟩ | ⟨g, cap, cur, rfl, _, hh, _, _, hsz, ht⟩
 · have : L = [] := List.eq_nil_of_length_eq_zero h0
   subst this
   rw [run_convert_bytes_string w _ _ 5 none 0 0 Tryz.underlying91 Tryz.underlying5 Tryz.underlying9]
   rfl
 · refine run_convert_bytes_back w _ _ 5 ⟨g, 0, none⟩ cap L Tryz.underlying91 Tryz.underlying5 Tryz.underlying9 ?_
   intro j hj
   have he : (Addr.mk g 0 none).add j = ⟨g, j, none⟩ := by
    unfold Addr.add; split
    · rename_i h0; rw [h0]
    · simp
   rw [he]
   have hc := h.cellAt j (by omega)
   rw [hc]
   simp [bytesV, byteV, List.getElem?_eq_getElem hj]
theorem flat_step (xs : List ByteArray) (j : Nat) (h : j < xs.length) : ((bss xs).take (j + 1)).flatten = ((bss xs).take j).flatten ++ bs xs[j] := by
 have hl : (bss xs).length = xs.length := by simp [bss]
 rw [List.take_succ_eq_append_getElem (show j < (bss xs).length by rw [hl]; exact h), List.flatten_append]
 simp [bss]
theorem flat_le (xs : List ByteArray) (j : Nat) : ((bss xs).take j).flatten.length ≤ total xs := by
 unfold total
 conv => rhs; rw [← List.take_append_drop j (bss xs)]
 rw [List.flatten_append, List.length_append]; omega
theorem mem_le (xs : List ByteArray) : ∀ x ∈ xs, x.size ≤ total xs := by
 intro x hx
 unfold total
 have : bs x ∈ bss xs := List.mem_map_of_mem hx
 exact (List.sublist_flatten_of_mem this).length_le
set_option maxRecDepth 100000 in
set_option maxHeartbeats 2000000 in
theorem AllR_any (v : Value) (xs : List ByteArray) (w : World) (h : RdS w v xs) (hl : xs.length ≤ 1048576) (ht : total xs ≤ 4194304) :
 Calls Tryz.prog 65 #[v] w fun e w' => e = .returned (.string ⟨(bss xs).flatten.toArray⟩) ∧ Below w.heap.size w w' := by
 obtain ⟨A, c, rfl, _, hA⟩ := h
 have HA := Lib.hid hA
 clear hA
 generalize hn : xs.length = n at hl
 have HN := Lib.hid hn
 have HF := Lib.hid (flat_le xs)
 have HM := Lib.hid (mem_le xs)
 generalize total xs = tt at ht HF HM
 clear hn
 go_enter Tryz.func65, Tryz.ntmps65
 go_wp2_with fail
 go_loopw [3, 4] (fun v i wr => ∃ j : Nat, j ≤ n ∧ i = .int .i64 j ∧ Hid (wr.ownsRow w.heap.size 5 1 v ((bss xs).take j).flatten.length (bytesV ((bss xs).take j).flatten)) ∧ Below w.heap.size w wr) (fun _ i _ => n - (intOf i).toNat)
 case atStart => exact ⟨0, Nat.zero_le _, rfl, Lib.hid (World.ownsRow_nil _ _ _ _), Below.refl _ _⟩
 case round =>
  obtain ⟨j, hj, rfl, HO, hnx⟩ := hrel
  have hsz := hnx.size
  by_cases hlt : j < n
  · have hx : j < xs.length := by rw [HN.out]; exact hlt
    obtain ⟨b, off, rfl, hcell⟩ := HA.out (by omega)
    have hc0 : w.cell? ⟨b, off + j, none⟩ = some (.string xs[j]) := hcell j hx
    have hc : wr.cell? ⟨b, off + j, none⟩ = some (.string xs[j]) := (hnx.cell (p := ⟨b, off + j, none⟩) (cell_lt hc0)).trans hc0
    have hm := HM.out _ (List.getElem_mem hx)
    have hf := HF.out j
    have HS := Lib.hid (flat_step xs j hx)
    clear hcell hc0
    generalize xs[j] = x at hc hm HS
    have i1 : (0 : Int) ≤ (j : Int) := by omega
    have i2 : (j : Int) < (n : Int) := by omega
    go_wp2_with (at_builtin; refine app_str rfl (.tmp 11) (.tmp 15) rfl w.heap.size ((bss xs).take j).flatten x _ rfl HO.out rfl (by omega) hsz ?_; intro v3 w3 ho3 hb3; rw [← HS.out] at ho3; have HO3 := Lib.hid ho3; clear ho3)
    go_roundw
    case rel => exact ⟨j + 1, by omega, by go_num, HO3, hnx.trans hb3⟩
    case measure => simp [intOf]; omega
  · have HE : Hid (((bss xs).take j).flatten = (bss xs).flatten) := Lib.hid (by rw [List.take_of_length_le (by simp [bss]; rw [HN.out]; omega)])
    have hd : decide (j < n) = false := by simp only [decide_eq_false_iff_not]; omega
    have hcv := own_conv HO.out
    rw [HE.out] at hcv
    go_wp2_with fail
    go_ret
    exact ⟨rfl, hnx⟩
end Tx
end Go.Proofs.YtjecfmbecgpbmaaGreatDoor

/- Facts; each states its conditions. -/
import Derived.Test.YtjecfmbecgpbmaaGreatDoorGGUniFmt
import Derived.Test.YtjecfmbecgpbmaaGreatDoorScanMathB
import Derived.Test.YtjecfmbecgpbmaaGreatDoorScanRange
import Derived.Test.YtjecfmbecgpbmaaGreatDoorShelfS
import Derived.Test.YtjecfmbecgpbmaaGreatDoorShelf
import Derived.Test.YtjecfmbecgpbmaaGreatDoorTextJoin
import Derived.Test.YtjecfmbecgpbmaaGreatDoorGTextCollect
namespace Go.Proofs.YtjecfmbecgpbmaaGreatDoor
section
namespace Sc
end Sc
namespace Tx
end Tx
namespace Uf
end Uf
namespace St
open Sc Uf
open Tx (endedF bareF linesF bs_len mk_bs bs_mk bs_append)
abbrev bs := Tx.bs
def lnsS (s : List UInt8) : Option (List (List UInt8)) := if s = [] then some [] else if endedF s = true then some ((linesF s).map bareF) else none
theorem ended_lf (l : List UInt8) : endedF (l ++ [10]) = true := by unfold endedF; simp
theorem bare_lf (l : List UInt8) : bareF (l ++ [10]) = l := by unfold bareF; rw [if_pos (ended_lf l), List.dropLast_concat]
def lf (l : List UInt8) : List UInt8 := l ++ [10]
theorem lines_of : ∀ (ls : List (List UInt8)), (∀ l ∈ ls, (10 : UInt8) ∉ l) → linesF (ls.flatMap lf) = ls.map lf
 | [], _ => rfl
 | l :: ls, h => by
   rw [List.flatMap_cons, List.map_cons]
   have e : lf l ++ ls.flatMap lf = l ++ 10 :: ls.flatMap lf := by unfold lf; simp
   rw [e, Tx.linesF_cons _ _ (h l List.mem_cons_self), lines_of ls (fun x hx => h x (List.mem_cons_of_mem _ hx))]
   rfl
theorem flat_ended : ∀ (ls : List (List UInt8)), ls ≠ [] → endedF (ls.flatMap lf) = true
 | [], h => absurd rfl h
 | [l], _ => by simp only [List.flatMap_cons, List.flatMap_nil, List.append_nil]; exact ended_lf l
 | l :: m :: ls, _ => by
   have h := flat_ended (m :: ls) (by simp)
   rw [List.flatMap_cons]
   unfold endedF at h ⊢
   rw [List.getLast?_append]
   cases hg : (List.flatMap lf (m :: ls)).getLast? with
   | none => rw [hg] at h; exact absurd h (by decide)
   | some b => rw [hg] at h; exact h
theorem lnsS_of (ls : List (List UInt8)) (h : ∀ l ∈ ls, (10 : UInt8) ∉ l) : lnsS (ls.flatMap lf) = some ls := by
 unfold lnsS
 cases ls with
 | nil => rfl
 | cons l r =>
   rw [if_neg (by rw [List.flatMap_cons]; unfold lf; simp), if_pos (flat_ended _ (by simp)), lines_of _ h, List.map_map]
   congr 1
   exact (List.map_congr_left (fun x _ => bare_lf x)).trans (List.map_id' _)
/-! ### the written form, line by line -/
def mk0 : List UInt8 := [92, 32, 78, 111, 32, 110, 101, 119, 108, 105, 110, 101, 32, 97, 116, 32, 101, 110, 100, 32, 111, 102, 32, 102, 105, 108, 101]
def wlLn (l : Ln) : List (List UInt8) := (l.kind.toNat.toUInt8 :: bareF (bs l.text)) :: (if endedF (bs l.text) = true then [] else [mk0])
def hd0 (h : PH) : List UInt8 := [64, 64, 32, 45] ++ fmtR h.old (notK 43 h.lines).length ++ [32, 43] ++ fmtR h.new (notK 45 h.lines).length ++ [32, 64, 64]
def wlHk (h : PH) : List (List UInt8) := hd0 h :: h.lines.flatMap wlLn
def wlN (p : Pat) : List (List UInt8) := [[45, 45, 45, 32] ++ quoteF (bs p.on), [43, 43, 43, 32] ++ quoteF (bs p.nn)]
def wl (p : Pat) : List (List UInt8) := wlN p ++ p.hunks.flatMap wlHk
theorem joinL_app (a b : List ByteArray) : joinL (a ++ b) = joinL a ++ joinL b := by unfold joinL; simp
theorem wlLn_flat (l : Ln) : (wlLn l).flatMap lf = joinL (lnPt l) := by
 unfold wlLn lnPt joinL
 by_cases h : endedF (bs l.text) = true
 · have e : bareF (bs l.text) ++ [10] = bs l.text := by
    unfold bareF; rw [if_pos h]; exact (Tx.endedF_split _ h).symm
   rw [if_pos h, if_pos h]
   simp only [List.flatMap_cons, List.flatMap_nil, List.append_nil, lf, List.cons_append, e]
   rfl
 · have e : bareF (bs l.text) = bs l.text := by unfold bareF; rw [if_neg h]
   rw [if_neg h, if_neg h]
   simp only [List.flatMap_cons, List.flatMap_nil, List.append_nil, lf, List.cons_append, e]
   show l.kind.toNat.toUInt8 :: (bs l.text ++ [10] ++ (mk0 ++ [10])) = l.kind.toNat.toUInt8 :: (bs l.text ++ bs unB)
   rw [List.append_assoc]
   rfl
theorem wlLs_flat : ∀ ls : List Ln, (ls.flatMap wlLn).flatMap lf = joinL (lnsPt ls)
 | [] => rfl
 | l :: ls => by
   have e : lnsPt (l :: ls) = lnPt l ++ lnsPt ls := by unfold lnsPt; rw [List.flatMap_cons]
   rw [List.flatMap_cons, List.flatMap_append, wlLs_flat ls, wlLn_flat, e, joinL_app]
theorem wlHk_flat (h : PH) : (wlHk h).flatMap lf = joinL (hkPt h) := by
 have e : joinL (hkPt h) = bs (hkB h) ++ joinL (lnsPt h.lines) := by unfold hkPt joinL; rw [List.flatMap_cons]
 have e2 : lf (hd0 h) = bs (hkB h) := by
  unfold hkB lf hd0
  show _ = Tx.bs _
  rw [Tx.bs_mk]
  unfold hdrF
  simp
 rw [e, wlHk, List.flatMap_cons, wlLs_flat, e2]
theorem wlHs_flat : ∀ hs : List PH, (hs.flatMap wlHk).flatMap lf = joinL (hs.flatMap hkPt)
 | [] => rfl
 | h :: hs => by rw [List.flatMap_cons, List.flatMap_cons, List.flatMap_append, wlHs_flat hs, wlHk_flat, joinL_app]
theorem wl_flat (p : Pat) : (wl p).flatMap lf = joinL (partsF p) := by
 have e : joinL (partsF p) = bs (hdPt p.on p.nn) ++ joinL (p.hunks.flatMap hkPt) := by unfold partsF joinL; rw [List.flatMap_cons]
 rw [e, wl, List.flatMap_append, wlHs_flat]
 congr 1
 unfold wlN lf hdPt
 show _ = Tx.bs _
 rw [bs_append, bs_append, bs_append, bs_append]
 unfold qB
 rw [Tx.bs_mk, Tx.bs_mk, Tx.bs_mk, Tx.bs_mk, Tx.bs_mk]
 simp
/-! ### a range is read back from the middle of a text -/
theorem fmtF_nat (n : Nat) (h : n ≤ 2147483647) : fmtF (n : Int) = Lib.decDigits n := by rw [fmtF_in _ (by omega) (by omega), Lib.itoa_nonneg]
theorem rngF_in (l : List UInt8) (k : Nat) (h : k ≤ l.length) : rngF l k = rngAt l k := by unfold rngF; rw [if_neg (by omega)]; rfl
theorem rngAt_plain (l : List UInt8) (k first e : Nat) (h1 : numAt l k = some (first, e)) (h2 : ¬ l[e]? = some 44) : rngAt l k = chkR l k first 1 e := by unfold rngAt; rw [h1]; simp only [if_neg h2]
theorem rngAt_comma (l : List UInt8) (k first e c e2 : Nat) (h1 : numAt l k = some (first, e)) (h2 : l[e]? = some 44) (h3 : numAt l (e + 1) = some (c, e2)) : rngAt l k = chkR l k first c e2 := by unfold rngAt; rw [h1]; simp only [if_pos h2, h3]
theorem chk_ok (l : List UInt8) (k first c e : Nat) (a : Int) (ha : a = if 0 < c then (first : Int) - 1 else first) (h : fmtR a c = (l.drop k).take (e - k)) : chkR l k first c e = some (a, c, e) := by
 unfold chkR
 rw [← ha, if_pos h]
theorem rng_reads (pre : List UInt8) (a c : Nat) (r : List UInt8) (ha : a ≤ 1073741823) (hc : c ≤ 1073741823) (hr : ∀ b, r.head? = some b → isDig b = false ∧ b ≠ 44) :
 rngF (pre ++ (fmtR a c ++ r)) pre.length = some ((a : Int), c, pre.length + (fmtR a c).length) := by
 rw [rngF_in _ _ (by rw [List.length_append]; omega)]
 have hd : ∀ b, r.head? = some b → isDig b = false := fun b hb => (hr b hb).1
 have hck : ∀ (first : Nat), ((a : Int) = if 0 < c then (first : Int) - 1 else first) → chkR (pre ++ (fmtR a c ++ r)) pre.length first c (pre.length + (fmtR a c).length) = some ((a : Int), c, pre.length + (fmtR a c).length) := fun first hf =>
  chk_ok _ _ _ _ _ _ hf (by rw [List.drop_left, Nat.add_sub_cancel_left, List.take_left])
 have h44 : ∀ (m : List UInt8), ¬ (pre ++ (m ++ r))[pre.length + m.length]? = some 44 := by
  intro m h
  rw [← List.append_assoc, List.getElem?_append_right (by rw [List.length_append]; exact Nat.le_refl _), List.length_append, Nat.sub_self, ← List.head?_eq_getElem?] at h
  exact (hr 44 h).2 rfl
 rcases Nat.eq_zero_or_pos c with h0 | hpos
 · subst h0
   have hf : fmtR a ((0 : Nat) : Int) = Lib.decDigits a ++ [44, 48] := by
    show fmtR a 0 = _
    rw [fmtR_0 _ (by omega) (by omega), fmtF_nat a (by omega)]
   have hck := hck a rfl
   rw [hf] at hck ⊢
   have e1 := numAt_reads pre (44 :: 48 :: r) a (by unfold maxNum; omega) (by intro b hb; have : b = 44 := (Option.some.inj hb).symm; subst this; decide)
   have e2 := numAt_reads (pre ++ Lib.decDigits a ++ [44]) r 0 (by decide) hd
   have z0 : Lib.decDigits 0 = [48] := Lib.decDigits_one (by decide)
   rw [z0] at e2
   have hl : pre ++ (Lib.decDigits a ++ [44, 48] ++ r) = pre ++ Lib.decDigits a ++ 44 :: 48 :: r := by simp
   have hl2 : pre ++ (Lib.decDigits a ++ [44, 48] ++ r) = pre ++ Lib.decDigits a ++ [44] ++ [48] ++ r := by simp
   rw [← hl] at e1
   rw [← hl2] at e2
   have hn : (pre ++ Lib.decDigits a ++ [44]).length = pre.length + (Lib.decDigits a).length + 1 := by simp only [List.length_append, List.length_cons, List.length_nil]
   have hn2 : (pre ++ Lib.decDigits a ++ [44]).length + ([48] : List UInt8).length = pre.length + (Lib.decDigits a ++ [44, 48]).length := by simp only [List.length_append, List.length_cons, List.length_nil]; omega
   rw [hn2, hn] at e2
   rw [rngAt_comma _ _ a _ 0 _ e1 ?_ e2]
   · exact hck
   · rw [hl, List.getElem?_append_right (by rw [List.length_append]; exact Nat.le_refl _), List.length_append, Nat.sub_self]; rfl
 · by_cases h1 : c = 1
   · subst h1
     have hf : fmtR a ((1 : Nat) : Int) = Lib.decDigits (a + 1) := by
      show fmtR a 1 = _
      rw [fmtR_1 _ (by omega) (by omega), show (a : Int) + 1 = ((a + 1 : Nat) : Int) from rfl, fmtF_nat (a + 1) (by omega)]
     have hck := hck (a + 1) (by rw [if_pos (by decide)]; omega)
     rw [hf] at hck ⊢
     have e1 := numAt_reads pre r (a + 1) (by unfold maxNum; omega) hd
     rw [List.append_assoc] at e1
     rw [rngAt_plain _ _ (a + 1) _ e1 (h44 _)]
     exact hck
   · have hf : fmtR a (c : Int) = Lib.decDigits (a + 1) ++ [44] ++ Lib.decDigits c := by
      rw [fmtR_n _ _ (by omega) (by omega) (by omega), show (a : Int) + 1 = ((a + 1 : Nat) : Int) from rfl, fmtF_nat (a + 1) (by omega), fmtF_nat c (by omega)]
     have hck := hck (a + 1) (by rw [if_pos hpos]; omega)
     have e1 := numAt_reads pre (44 :: (Lib.decDigits c ++ r)) (a + 1) (by unfold maxNum; omega) (by intro b hb; have : b = 44 := (Option.some.inj hb).symm; subst this; decide)
     have e2 := numAt_reads (pre ++ Lib.decDigits (a + 1) ++ [44]) r c (by unfold maxNum; omega) hd
     have hl : pre ++ (fmtR a (c : Int) ++ r) = pre ++ Lib.decDigits (a + 1) ++ 44 :: (Lib.decDigits c ++ r) := by rw [hf]; simp
     have hl2 : pre ++ (fmtR a (c : Int) ++ r) = pre ++ Lib.decDigits (a + 1) ++ [44] ++ Lib.decDigits c ++ r := by rw [hf]; simp
     have hn : (pre ++ Lib.decDigits (a + 1) ++ [44]).length = pre.length + (Lib.decDigits (a + 1)).length + 1 := by simp only [List.length_append, List.length_cons, List.length_nil]
     have hn2 : (pre ++ Lib.decDigits (a + 1) ++ [44]).length + (Lib.decDigits c).length = pre.length + (fmtR a (c : Int)).length := by rw [hf]; simp only [List.length_append, List.length_cons, List.length_nil]; omega
     rw [← hl] at e1
     rw [← hl2] at e2
     rw [hn2, hn] at e2
     rw [rngAt_comma _ _ (a + 1) _ c _ e1 ?_ e2]
     · exact hck
     · rw [hl, List.getElem?_append_right (by rw [List.length_append]; exact Nat.le_refl _), List.length_append, Nat.sub_self]; rfl
theorem dig_ne10 {l : List UInt8} (h : l.all isDig = true) : (10 : UInt8) ∉ l := fun hm => absurd (List.all_eq_true.1 h 10 hm) (by decide)
theorem fmtR_no10 (a c : Nat) (ha : a ≤ 1073741823) (hc : c ≤ 1073741823) : (10 : UInt8) ∉ fmtR a c := by
 have hD : ∀ n, (10 : UInt8) ∉ Lib.decDigits n := fun n => dig_ne10 (decD_all n n (Nat.le_refl _))
 rcases Nat.eq_zero_or_pos c with h0 | hpos
 · subst h0
   show (10 : UInt8) ∉ fmtR a 0
   rw [fmtR_0 _ (by omega) (by omega), fmtF_nat a (by omega), List.mem_append]
   rintro (h | h)
   · exact hD _ h
   · exact absurd h (by decide)
 · by_cases h1 : c = 1
   · subst h1
     show (10 : UInt8) ∉ fmtR a 1
     rw [fmtR_1 _ (by omega) (by omega), show (a : Int) + 1 = ((a + 1 : Nat) : Int) from rfl, fmtF_nat (a + 1) (by omega)]
     exact hD _
   · rw [fmtR_n _ _ (by omega) (by omega) (by omega), show (a : Int) + 1 = ((a + 1 : Nat) : Int) from rfl, fmtF_nat (a + 1) (by omega), fmtF_nat c (by omega), List.mem_append, List.mem_append]
     rintro ((h | h) | h)
     · exact hD _ h
     · exact absurd h (by decide)
     · exact hD _ h
theorem quote_no10 (t : List UInt8) : (10 : UInt8) ∉ quoteF t := fun h => absurd (quote_range t 10 h).1 (by decide)
/-! ### the program's reader -/
def addLn : List PH → Ln → Option (List PH)
 | [], _ => none
 | [h], x => some [⟨h.old, h.new, h.lines ++ [x]⟩]
 | h :: g :: hs, x => (addLn (g :: hs) x).map (h :: ·)
theorem addLn_snoc (hs : List PH) (h : PH) (x : Ln) : addLn (hs ++ [h]) x = some (hs ++ [⟨h.old, h.new, h.lines ++ [x]⟩]) := by
 induction hs with
 | nil => rfl
 | cons g hs ih =>
   cases hs with
   | nil => rfl
   | cons f hs => rw [List.cons_append, List.cons_append, addLn, ← List.cons_append, ih]; rfl
def bareB (t : ByteArray) : ByteArray := ⟨(bareF (bs t)).toArray⟩
def bareLs : List Ln → Option (List Ln)
 | [] => none
 | [x] => some [⟨x.kind, bareB x.text⟩]
 | y :: x :: ls => (bareLs (x :: ls)).map (y :: ·)
theorem bareLs_snoc (ls : List Ln) (x : Ln) : bareLs (ls ++ [x]) = some (ls ++ [⟨x.kind, bareB x.text⟩]) := by
 induction ls with
 | nil => rfl
 | cons g hs ih =>
   cases hs with
   | nil => rfl
   | cons f hs => rw [List.cons_append, List.cons_append, bareLs, ← List.cons_append, ih]; rfl
def unLn : List PH → Option (List PH)
 | [] => none
 | [h] => (bareLs h.lines).map fun ls => [⟨h.old, h.new, ls⟩]
 | h :: g :: hs => (unLn (g :: hs)).map (h :: ·)
theorem unLn_snoc (hs : List PH) (h : PH) : unLn (hs ++ [h]) = (bareLs h.lines).map fun ls => hs ++ [⟨h.old, h.new, ls⟩] := by
 induction hs with
 | nil => rfl
 | cons g hs ih =>
   cases hs with
   | nil => rw [List.cons_append, List.nil_append, unLn, unLn]; cases bareLs h.lines <;> rfl
   | cons f hs => rw [List.cons_append, List.cons_append, unLn, ← List.cons_append, ih]; cases bareLs h.lines <;> rfl
def bodyF (p : Pat) (k : UInt8) (t : List UInt8) : Option Pat := (addLn p.hunks ⟨k.toNat, ⟨(t ++ [10]).toArray⟩⟩).map fun hs => ⟨p.on, p.nn, hs⟩
def headF (p : Pat) (l : List UInt8) : Option Pat :=
 match rngF l 4 with
 | none => none
 | some (o, _, e) => match rngF l ((e : Int) + 2) with
   | none => none
   | some (n, _, _) => some ⟨p.on, p.nn, p.hunks ++ [⟨o, n, []⟩]⟩
def unF (p : Pat) : Option Pat := (unLn p.hunks).map fun hs => ⟨p.on, p.nn, hs⟩
def stepF (p : Pat) : List UInt8 → Option Pat
 | [] => none
 | k :: t =>
   if k = 45 then (if p.on.size = 0 then (unqF (k :: t) 4).map fun r => ⟨⟨r.1.toArray⟩, p.nn, p.hunks⟩ else bodyF p k t)
   else if k = 43 then (if p.nn.size = 0 then (unqF (k :: t) 4).map fun r => ⟨p.on, ⟨r.1.toArray⟩, p.hunks⟩ else bodyF p k t)
   else if k = 64 then headF p (k :: t)
   else if k = 32 then bodyF p k t
   else if k = 92 then unF p
   else none
def runF : Pat → List (List UInt8) → Option Pat
 | p, [] => some p
 | p, l :: ls => (stepF p l).bind fun q => runF q ls
def p0 : Pat := ⟨⟨#[]⟩, ⟨#[]⟩, []⟩
def readF (s : List UInt8) : Option Pat := (lnsS s).bind (runF p0)
theorem runF_app : ∀ (a b : List (List UInt8)) (p : Pat), runF p (a ++ b) = (runF p a).bind fun q => runF q b
 | [], _, _ => rfl
 | l :: a, b, p => by
   rw [List.cons_append, runF, runF]
   cases stepF p l with
   | none => rfl
   | some q => exact runF_app a b q
def okLn (l : Ln) : Prop := (l.kind = 32 ∨ l.kind = 45 ∨ l.kind = 43) ∧ Tx.isLine (bs l.text) = true
theorem okLn_of {l : Ln} (h : lnB l = true) : okLn l := by
 unfold lnB at h
 simp only [Bool.and_eq_true, Bool.or_eq_true, beq_iff_eq] at h
 exact ⟨by omega, h.2⟩
theorem toArray_bs (t : ByteArray) : (⟨(bs t).toArray⟩ : ByteArray) = t := Tx.mk_bs t
theorem step_body (p : Pat) (k : UInt8) (t : List UInt8) (h1 : p.on.size ≠ 0) (h2 : p.nn.size ≠ 0) (hk : k = 32 ∨ k = 45 ∨ k = 43) : stepF p (k :: t) = bodyF p k t := by
 rcases hk with rfl | rfl | rfl
 · rw [stepF, if_neg (by decide), if_neg (by decide), if_neg (by decide), if_pos rfl]
 · rw [stepF, if_pos rfl, if_neg h1]
 · rw [stepF, if_neg (by decide), if_pos rfl, if_neg h2]
theorem run_line {on nn : ByteArray} (h1 : on.size ≠ 0) (h2 : nn.size ≠ 0) (hs : List PH) (h : PH) {l : Ln} (hl : okLn l) : runF ⟨on, nn, hs ++ [h]⟩ (wlLn l) = some ⟨on, nn, hs ++ [⟨h.old, h.new, h.lines ++ [l]⟩]⟩ := by
 obtain ⟨k, t⟩ := l
 obtain ⟨hk, ht⟩ := hl
 simp only at hk ht
 obtain ⟨b, hb, hbk⟩ : ∃ b : UInt8, k.toNat.toUInt8 = b ∧ (b.toNat : Int) = k ∧ (b = 32 ∨ b = 45 ∨ b = 43) := by
  rcases hk with rfl | rfl | rfl
  · exact ⟨32, rfl, rfl, .inl rfl⟩
  · exact ⟨45, rfl, rfl, .inr (.inl rfl)⟩
  · exact ⟨43, rfl, rfl, .inr (.inr rfl)⟩
 unfold wlLn
 simp only
 rw [hb]
 by_cases he : endedF (bs t) = true
 · have e : bareF (bs t) ++ [10] = bs t := by
    unfold bareF; rw [if_pos he]; exact (Tx.endedF_split _ he).symm
   rw [if_pos he, runF, step_body _ _ _ h1 h2 hbk.2, bodyF, addLn_snoc, e, toArray_bs, hbk.1]
   rfl
 · have e : bareF (bs t) = bs t := by unfold bareF; rw [if_neg he]
   rw [if_neg he, runF, step_body _ _ _ h1 h2 hbk.2, bodyF, addLn_snoc, e, hbk.1]
   show ((stepF ⟨on, nn, hs ++ [⟨h.old, h.new, h.lines ++ [⟨k, ⟨(bs t ++ [10]).toArray⟩⟩]⟩]⟩ mk0).bind fun q => runF q []) = _
   have e2 : stepF ⟨on, nn, hs ++ [⟨h.old, h.new, h.lines ++ [⟨k, ⟨(bs t ++ [10]).toArray⟩⟩]⟩]⟩ mk0 = unF ⟨on, nn, hs ++ [⟨h.old, h.new, h.lines ++ [⟨k, ⟨(bs t ++ [10]).toArray⟩⟩]⟩]⟩ := by
    unfold mk0
    rw [stepF, if_neg (by decide), if_neg (by decide), if_neg (by decide), if_neg (by decide), if_pos rfl]
   rw [e2, unF, unLn_snoc]
   simp only
   rw [bareLs_snoc]
   have e3 : bareB ⟨(bs t ++ [10]).toArray⟩ = t := by
    unfold bareB
    show (⟨(bareF (Tx.bs ⟨(bs t ++ [10]).toArray⟩)).toArray⟩ : ByteArray) = t
    rw [Tx.bs_mk, bare_lf, toArray_bs]
   rw [e3]
   rfl
theorem run_lines {on nn : ByteArray} (h1 : on.size ≠ 0) (h2 : nn.size ≠ 0) (hs : List PH) : ∀ (ls : List Ln) (h : PH), (∀ l ∈ ls, okLn l) → runF ⟨on, nn, hs ++ [h]⟩ (ls.flatMap wlLn) = some ⟨on, nn, hs ++ [⟨h.old, h.new, h.lines ++ ls⟩]⟩
 | [], h, _ => by rw [List.append_nil]; rfl
 | l :: ls, h, hl => by
   rw [List.flatMap_cons, runF_app, run_line h1 h2 hs h (hl l List.mem_cons_self)]
   show runF ⟨on, nn, hs ++ [⟨h.old, h.new, h.lines ++ [l]⟩]⟩ (ls.flatMap wlLn) = _
   rw [run_lines h1 h2 hs ls _ (fun x hx => hl x (List.mem_cons_of_mem _ hx))]
   simp only [List.append_assoc, List.singleton_append]
def okHk (h : PH) : Prop := (0 ≤ h.old ∧ h.old ≤ 4096) ∧ (0 ≤ h.new ∧ h.new ≤ 4096) ∧ (notK 43 h.lines).length ≤ 4096 ∧ (notK 45 h.lines).length ≤ 4096 ∧ ∀ l ∈ h.lines, okLn l
theorem head_one {h : PH} (hh : okHk h) : rngF (hd0 h) 4 = some (h.old, (notK 43 h.lines).length, 4 + (fmtR h.old (notK 43 h.lines).length).length) ∧
 rngF (hd0 h) (((4 + (fmtR h.old (notK 43 h.lines).length).length : Nat) : Int) + 2) = some (h.new, (notK 45 h.lines).length, 4 + (fmtR h.old (notK 43 h.lines).length).length + 2 + (fmtR h.new (notK 45 h.lines).length).length) := by
 obtain ⟨⟨a0, a1⟩, ⟨b0, b1⟩, c0, d0, -⟩ := hh
 unfold hd0
 obtain ⟨o, ho⟩ := Int.eq_ofNat_of_zero_le a0
 obtain ⟨n, hn⟩ := Int.eq_ofNat_of_zero_le b0
 rw [ho] at a0 a1 ⊢
 rw [hn] at b0 b1 ⊢
 generalize (notK 43 h.lines).length = a at *
 generalize (notK 45 h.lines).length = b at *
 constructor
 · have e := rng_reads [64, 64, 32, 45] o a ([32, 43] ++ (fmtR n b ++ [32, 64, 64])) (by omega) (by omega) (by intro x hx; have : x = 32 := (Option.some.inj hx).symm; subst this; decide)
   simp only [List.append_assoc] at e ⊢
   exact e
 · have e := rng_reads ([64, 64, 32, 45] ++ fmtR o a ++ [32, 43]) n b [32, 64, 64] (by omega) (by omega) (by intro x hx; have : x = 32 := (Option.some.inj hx).symm; subst this; decide)
   have hl : ([64, 64, 32, 45] ++ fmtR (o : Int) a ++ [32, 43]).length = 4 + (fmtR (o : Int) a).length + 2 := by simp only [List.length_append, List.length_cons, List.length_nil]
   rw [hl] at e
   simp only [List.append_assoc] at e ⊢
   exact e
theorem run_hunk {on nn : ByteArray} (h1 : on.size ≠ 0) (h2 : nn.size ≠ 0) (hs : List PH) {h : PH} (hh : okHk h) : runF ⟨on, nn, hs⟩ (wlHk h) = some ⟨on, nn, hs ++ [h]⟩ := by
 obtain ⟨e1, e2⟩ := head_one hh
 unfold wlHk
 rw [runF]
 have e3 : stepF ⟨on, nn, hs⟩ (hd0 h) = headF ⟨on, nn, hs⟩ (hd0 h) := by
  unfold hd0
  simp only [List.cons_append, List.append_assoc]
  rw [stepF, if_neg (by decide), if_neg (by decide), if_pos rfl]
 rw [e3, headF, e1]
 simp only
 rw [e2]
 simp only
 show runF ⟨on, nn, hs ++ [⟨h.old, h.new, []⟩]⟩ (h.lines.flatMap wlLn) = _
 rw [run_lines h1 h2 hs h.lines _ hh.2.2.2.2]
 rfl
theorem run_hunks {on nn : ByteArray} (h1 : on.size ≠ 0) (h2 : nn.size ≠ 0) : ∀ (hs gs : List PH), (∀ h ∈ hs, okHk h) → runF ⟨on, nn, gs⟩ (hs.flatMap wlHk) = some ⟨on, nn, gs ++ hs⟩
 | [], gs, _ => by rw [List.append_nil]; rfl
 | h :: hs, gs, hh => by
   rw [List.flatMap_cons, runF_app, run_hunk h1 h2 gs (hh h List.mem_cons_self)]
   show runF ⟨on, nn, gs ++ [h]⟩ (hs.flatMap wlHk) = _
   rw [run_hunks h1 h2 hs _ (fun x hx => hh x (List.mem_cons_of_mem _ hx)), List.append_assoc]
   rfl
theorem unq_4 (pre t : List UInt8) (hp : pre.length = 4) : unqF (pre ++ quoteF t) 4 = some (t, 4 + (quoteF t).length) := by
 have h := unq_reads pre t [] (by intro b hb; cases hb)
 rw [List.append_nil, hp] at h
 exact h
theorem run_names (p : Pat) : runF p0 (wlN p) = some ⟨p.on, p.nn, []⟩ := by
 unfold wlN
 have e1 : stepF p0 ([45, 45, 45, 32] ++ quoteF (bs p.on)) = some ⟨p.on, ⟨#[]⟩, []⟩ := by
  have h := unq_4 [45, 45, 45, 32] (bs p.on) rfl
  simp only [List.cons_append, List.nil_append] at h ⊢
  rw [stepF, if_pos rfl, if_pos (show p0.on.size = 0 from rfl), h]
  show some (⟨⟨(bs p.on).toArray⟩, _, _⟩ : Pat) = _
  rw [toArray_bs]
  rfl
 have e2 : stepF ⟨p.on, ⟨#[]⟩, []⟩ ([43, 43, 43, 32] ++ quoteF (bs p.nn)) = some ⟨p.on, p.nn, []⟩ := by
  have h := unq_4 [43, 43, 43, 32] (bs p.nn) rfl
  simp only [List.cons_append, List.nil_append] at h ⊢
  rw [stepF, if_neg (by decide), if_pos rfl, if_pos (show (⟨#[]⟩ : ByteArray).size = 0 from rfl), h]
  show some (⟨_, ⟨(bs p.nn).toArray⟩, _⟩ : Pat) = _
  rw [toArray_bs]
 rw [runF, e1]
 show (stepF ⟨p.on, ⟨#[]⟩, []⟩ _).bind _ = _
 rw [e2]
 rfl
structure okPat (p : Pat) : Prop where
 on : p.on.size ≠ 0
 nn : p.nn.size ≠ 0
 hk : ∀ h ∈ p.hunks, okHk h
theorem run_all {p : Pat} (h : okPat p) : runF p0 (wl p) = some p := by
 unfold wl
 rw [runF_app, run_names p]
 show runF ⟨p.on, p.nn, []⟩ _ = _
 rw [run_hunks h.on h.nn _ _ h.hk]
 rfl
theorem isLine_no10 {t : List UInt8} (h : Tx.isLine t = true) : (10 : UInt8) ∉ bareF t := by
 unfold Tx.isLine at h
 simp only [Bool.and_eq_true, Bool.not_eq_true'] at h
 obtain ⟨h1, h2⟩ := h
 have hd : (10 : UInt8) ∉ t.dropLast := fun hm => by rw [List.contains_iff_mem.2 hm] at h2; cases h2
 unfold bareF
 by_cases he : endedF t = true
 · rw [if_pos he]; exact hd
 · rw [if_neg he]
   intro hm
   have hne : t ≠ [] := fun e => by rw [e] at hm; cases hm
   rw [← List.dropLast_concat_getLast hne, List.mem_append] at hm
   rcases hm with hm | hm
   · exact hd hm
   · refine he ?_
     unfold endedF
     rw [List.getLast?_eq_some_getLast hne]
     have : (10 : UInt8) = t.getLast hne := by simpa using hm
     rw [← this]
     rfl
theorem wl_no10 {p : Pat} (h : okPat p) : ∀ l ∈ wl p, (10 : UInt8) ∉ l := by
 intro l hl
 unfold wl wlN at hl
 rw [List.mem_append] at hl
 rcases hl with hl | hl
 · simp only [List.mem_cons, List.not_mem_nil, or_false] at hl
   rcases hl with rfl | rfl
   · rw [List.mem_append]
     rintro (h | h)
     · exact absurd h (by decide)
     · exact quote_no10 _ h
   · rw [List.mem_append]
     rintro (h | h)
     · exact absurd h (by decide)
     · exact quote_no10 _ h
 · obtain ⟨k, hk, hl⟩ := List.mem_flatMap.1 hl
   obtain ⟨⟨a0, a1⟩, ⟨b0, b1⟩, c0, d0, hls⟩ := h.hk k hk
   unfold wlHk at hl
   rcases List.mem_cons.1 hl with rfl | hl
   · unfold hd0
     obtain ⟨o, ho⟩ := Int.eq_ofNat_of_zero_le a0
     obtain ⟨n, hn⟩ := Int.eq_ofNat_of_zero_le b0
     rw [ho] at a0 a1 ⊢
     rw [hn] at b0 b1 ⊢
     simp only [List.mem_append]
     rintro ((((h | h) | h) | h) | h)
     · exact absurd h (by decide)
     · exact fmtR_no10 _ _ (by omega) (by omega) h
     · exact absurd h (by decide)
     · exact fmtR_no10 _ _ (by omega) (by omega) h
     · exact absurd h (by decide)
   · obtain ⟨x, hx, hl⟩ := List.mem_flatMap.1 hl
     obtain ⟨hk, ht⟩ := hls x hx
     unfold wlLn at hl
     rcases List.mem_cons.1 hl with rfl | hl
     · intro hm
       rcases List.mem_cons.1 hm with hm | hm
       · rcases hk with hk | hk | hk <;> (rw [hk] at hm; exact absurd hm (by decide))
       · exact isLine_no10 ht hm
     · split at hl
       · cases hl
       · simp only [List.mem_cons, List.not_mem_nil, or_false] at hl
         subst hl
         decide
theorem lns_all {p : Pat} (h : okPat p) : lnsS (joinL (partsF p)) = some (wl p) := by rw [← wl_flat, lnsS_of _ (wl_no10 h)]
theorem readF_all {p : Pat} (h : okPat p) : readF (joinL (partsF p)) = some p := by
 unfold readF
 rw [lns_all h]
 exact run_all h
theorem goodH_hk : ∀ {hs : List PH} {i j : Int}, 0 ≤ i → 0 ≤ j → goodH i j hs = true → ∀ h ∈ hs, okHk h
 | [], _, _, _, _, _, h, hh => by cases hh
 | a :: hs, i, j, hi, hj, e, h, hh => by
   rw [goodH] at e
   simp only [Bool.and_eq_true] at e
   obtain ⟨e1, -, e3, e4, e5⟩ := e
   unfold posB at e3
   simp only [Bool.not_eq_true', Bool.or_eq_false_iff, decide_eq_false_iff_not] at e3
   unfold roomB at e4
   simp only [Bool.and_eq_true, decide_eq_true_eq] at e4
   have l1 : ∀ k, (notB k a.lines).length = (notK k a.lines).length := fun k => by unfold notB; rw [List.length_map]
   rw [l1, l1] at e4 e5
   rcases List.mem_cons.1 hh with rfl | hh
   · exact ⟨by omega, by omega, by omega, by omega, fun l hl => okLn_of (List.all_eq_true.1 e1 l hl)⟩
   · exact goodH_hk (by omega) (by omega) e5 h hh
theorem okPat_of {p : Pat} (h : chkC p = 0) : okPat p := by
 unfold chkC at h
 split at h
 · rename_i hn
   split at h
   · rename_i hh
     have h1 := hn.1
     have h2 := hn.2
     unfold nameB at h1 h2
     rw [decide_eq_true_iff] at h1 h2
     rw [hks_ref, Bool.and_eq_true] at hh
     exact ⟨by omega, by omega, goodH_hk (Int.le_refl _) (Int.le_refl _) hh.1⟩
   · cases h
 · cases h
def prsF (s : List UInt8) : Option Pat := match readF s with
 | none => none
 | some p => if chkC p = 0 ∧ joinL (partsF p) = s then some p else none
theorem prsF_iff (s : List UInt8) (p : Pat) : prsF s = some p ↔ chkC p = 0 ∧ joinL (partsF p) = s := by
 constructor
 · intro h
   unfold prsF at h
   split at h
   · cases h
   · split at h
     · rename_i hc
       injection h with h
       rw [← h]
       exact hc
     · cases h
 · rintro ⟨h1, h2⟩
   unfold prsF
   have := readF_all (okPat_of h1)
   rw [h2] at this
   rw [this]
   simp only
   rw [if_pos ⟨h1, h2⟩]
end St
end
section
open Go.RowKit
namespace St
open Sc Uf
open Tx (endedF bareF linesF bs_mk RdS mks)
theorem lines_split : ∀ (k : Nat) (s : List UInt8), s.count 10 = k → linesF (s ++ [10]) = (Lib.splitK [10] 0 k s).map lf
 | 0, s, h => by
   have hn : (10 : UInt8) ∉ s := List.count_eq_zero.1 h
   rw [Tx.linesF_cons s [] hn]
   rfl
 | k + 1, s, h => by
   have hm : (10 : UInt8) ∈ s := List.count_pos_iff.1 (by omega)
   rw [Lib.splitK]
   have hge := Lib.indexByte_ge s 10
   rw [Lib.index_one]
   by_cases hi : Lib.indexByte s 10 = -1
   · exfalso
     obtain ⟨j, hj⟩ := List.mem_iff_getElem?.1 hm
     exact Lib.indexByte_none hi j hj
   · obtain ⟨i, hi2⟩ : ∃ i : Nat, Lib.indexByte s 10 = (i : Int) := ⟨(Lib.indexByte s 10).toNat, by omega⟩
     obtain ⟨h1, h2⟩ := Lib.indexByte_some hi2
     have hlt : i < s.length := by
      rcases Nat.lt_or_ge i s.length with h3 | h3
      · exact h3
      · rw [List.getElem?_eq_none h3] at h1; cases h1
     rw [if_neg (by rw [hi2]; simp), hi2]
     have e1 : ((i : Int)).toNat + 0 = i := by omega
     have e2 : ((i : Int)).toNat + ([10] : List UInt8).length = i + 1 := by simp
     rw [e1, e2, List.map_cons]
     have hx : s[i] = 10 := by
      rw [List.getElem?_eq_getElem hlt] at h1
      exact Option.some.inj h1
     have es : s = s.take i ++ 10 :: s.drop (i + 1) := by
      rw [← hx, ← List.drop_eq_getElem_cons hlt, List.take_append_drop]
     have hn : (10 : UInt8) ∉ s.take i := by
      intro hm2
      obtain ⟨j, hj⟩ := List.mem_iff_getElem?.1 hm2
      have hji : j < i := by
       rcases Nat.lt_or_ge j i with h3 | h3
       · exact h3
       · rw [List.getElem?_eq_none (by rw [List.length_take]; omega)] at hj; cases hj
      rw [List.getElem?_take, if_pos hji] at hj
      exact h2 j hji hj
     have hc : (s.drop (i + 1)).count 10 = k := by
      have h5 := congrArg (List.count (10 : UInt8)) es
      rw [List.count_append, List.count_eq_zero.2 hn, List.count_cons_self] at h5
      omega
     have e3 : s ++ [10] = s.take i ++ 10 :: (s.drop (i + 1) ++ [10]) := by
      have h5 := congrArg (· ++ [(10 : UInt8)]) es
      simp only [List.append_assoc, List.cons_append] at h5
      exact h5
     rw [e3, Tx.linesF_cons _ _ hn, lines_split k _ hc]
     rfl
theorem countB_one (s : ByteArray) : Lib.countB s ⟨#[10]⟩ = (bs s).count 10 := Lib.count_one 10 (bs s)
theorem indexB_one (s : ByteArray) : Lib.indexB s ⟨#[10]⟩ = Lib.indexByte (bs s) 10 := Lib.index_one (bs s) 10
def pcs (s : ByteArray) : List ByteArray := Lib.splitB ⟨#[10]⟩ 0 (Lib.countB s ⟨#[10]⟩) s
theorem pcs_bs (s : ByteArray) : (pcs s).map Tx.bs = (linesF (bs s ++ [10])).map bareF := by
 have h := Lib.splitB_data ⟨#[10]⟩ 0 (Lib.countB s ⟨#[10]⟩) s
 rw [lines_split _ _ (countB_one s).symm, List.map_map]
 have e : (bareF ∘ lf) = id := by
  funext l
  exact bare_lf l
 rw [e, List.map_id]
 exact h
theorem pcs_len (s : ByteArray) : (pcs s).length = Lib.countB s ⟨#[10]⟩ + 1 := Lib.splitB_all _ (by decide) 0 _ s rfl
theorem genSplit_one (s : ByteArray) (w : World) (hs : s.size < 4294967281) :
 Calls Tryz.prog 158 #[.string s, .string ⟨#[10]⟩, .int .i64 0, .int .i64 (-1)] w fun e w' =>
  e = .returned (.slice (some ⟨w.heap.size, 0, none⟩) (pcs s).length (pcs s).length) ∧ w' = w.alloc (.cells ((pcs s).map Value.string).toArray 9) := by
 have hle := Lib.countB_le (⟨#[10]⟩ : ByteArray) (by decide) s.size s (Nat.le_refl _)
 have c := Any.strings_genSplit_core Tryz.lays221 (by kernel_rfl) s ⟨#[10]⟩ 0 (-1) (Lib.countB s ⟨#[10]⟩ + 1) w hs (by decide) (Nat.zero_le _)
  (fun x c _ => (Tryz.strings_Index_one x 10 _).mono fun e w' ⟨h1, h2⟩ => ⟨by rw [h1, indexB_one], h2⟩)
  ((Tryz.strings_Count_one s 10 w).mono fun e w' ⟨h1, h2⟩ => ⟨by rw [h1, countB_one]; rfl, h2⟩)
  (by decide) (by decide) (by rw [if_pos (by decide)]; omega)
 rw [Nat.add_sub_cancel] at c
 have e2 : Lib.cellsOf (pcs s) (pcs s).length = ((pcs s).map Value.string).toArray := Lib.cellsOf_full _
 refine c.mono fun e w' ⟨h1, h2⟩ => ⟨?_, ?_⟩
 · rw [h1]
   have : (Lib.splitB ⟨#[10]⟩ 0 (Lib.countB s ⟨#[10]⟩) s).length = (pcs s).length := rfl
   rw [this, ← pcs_len]
 · rw [h2, ← e2, pcs_len]
   rfl
set_option maxHeartbeats 1000000 in
theorem Split_one (s : ByteArray) (w : World) (hs : s.size < 4294967281) :
 Calls Tryz.prog 127 #[.string s, .string ⟨#[10]⟩] w fun e w' =>
  e = .returned (.slice (some ⟨w.heap.size, 0, none⟩) (pcs s).length (pcs s).length) ∧ w' = w.alloc (.cells ((pcs s).map Value.string).toArray 9) := by
 have HG := Lib.hid (genSplit_one s w hs)
 go_enter Tryz.func127, Tryz.ntmps127
 go_wp2_with fail
 refine HG.out.mono ?_
 rintro e w' ⟨rfl, rfl⟩
 go_wp2_with fail
 go_ret
 exact ⟨rfl, rfl⟩
def LsPost (s : List UInt8) (w : World) (e : Ending) (w' : World) : Prop := ∃ v, e = .returned (.tuple #[v, .bool (lnsS s).isSome]) ∧ RdS w' v (mks ((lnsS s).getD [])) ∧ Below w.heap.size w w'
theorem cut_ended (s : ByteArray) (h : endedF (bs s) = true) : lnsS (bs s) = some ((pcs ⟨(bareF (bs s)).toArray⟩).map Tx.bs) := by
 have hne : bs s ≠ [] := fun e => by rw [e] at h; cases h
 unfold lnsS
 rw [if_neg hne, if_pos h, pcs_bs]
 have e2 : (Tx.bs ⟨(bareF (bs s)).toArray⟩) = bareF (bs s) := Tx.bs_mk _
 have e : bareF (bs s) ++ [10] = bs s := by
  unfold bareF; rw [if_pos h]; exact (Tx.endedF_split _ h).symm
 show _ = some ((linesF (Tx.bs ⟨(bareF (bs s)).toArray⟩ ++ [10])).map bareF)
 rw [e2, e]
set_option maxRecDepth 100000 in
set_option maxHeartbeats 1000000 in
theorem Lines_any (s : ByteArray) (w : World) (hs : s.size < 4294967281) : Calls Tryz.prog 85 #[.string s] w (LsPost (bs s) w) := by
 by_cases h0 : s.size = 0
 · have e0 := Tx.empty_of s h0
   have HE : Hid (bs s = []) := Lib.hid (List.eq_nil_of_length_eq_zero h0)
   have HF : Hid (∀ w', Below w.heap.size w w' → LsPost (bs s) w (.returned (.tuple #[.slice none 0 0, .bool true])) w') := Lib.hid (fun w' hb => by
    rw [HE.out]
    exact ⟨_, rfl, RdS.nil w', hb⟩)
   clear h0
   go_enter Tryz.func85, Tryz.ntmps85
   go_wp2_with fail
   go_ret2
   exact HF.out _ (Below.refl _ _)
 · have e0 := Tx.nonempty_of s (by omega)
   have e1 : s.toList.isEmpty = false := by simpa using e0
   have hne : bs s ≠ [] := fun e => h0 (by rw [← Tx.bs_len s, show Tx.bs s = [] from e]; rfl)
   have HC := Lib.hid (Tryz.strings_CutSuffix s ⟨#[10]⟩ w (by omega))
   have t1 : Lib.trimSuffix s.data.toList (⟨#[10]⟩ : ByteArray).data.toList = bareF (bs s) := Tx.trim_lf (bs s)
   have t2 : Lib.hasSuffix s.data.toList (⟨#[10]⟩ : ByteArray).data.toList = endedF (bs s) := Tx.suffix_lf (bs s)
   rw [t1, t2] at HC
   cases he : endedF (bs s) with
   | false =>
     rw [he] at HC
     have HF : Hid (∀ w', Below w.heap.size w w' → LsPost (bs s) w (.returned (.tuple #[.slice none 0 0, .bool false])) w') := Lib.hid (fun w' hb => by
      have e : lnsS (bs s) = none := by unfold lnsS; rw [if_neg hne, if_neg (by rw [he]; decide)]
      unfold LsPost
      rw [e]
      exact ⟨_, rfl, RdS.nil w', hb⟩)
     generalize (⟨(bareF (bs s)).toArray⟩ : ByteArray) = t at *
     clear h0 hne t1 t2 he
     go_enter Tryz.func85, Tryz.ntmps85
     go_wp2_with fail
     refine HC.out.mono ?_
     rintro e w' ⟨rfl, rfl⟩
     go_wp2_with fail
     go_ret2
     exact HF.out _ (Below.refl _ _)
   | true =>
     rw [he] at HC
     have hl : (bareF (bs s)).length ≤ s.size := by
      have hb : (bs s).length = s.size := Tx.bs_len s
      have hd := List.length_dropLast (xs := bs s)
      unfold bareF; split <;> omega
     have hz : (⟨(bareF (bs s)).toArray⟩ : ByteArray).size < 4294967281 := by rw [Tx.size_mk]; omega
     have HS := Lib.hid (Split_one ⟨(bareF (bs s)).toArray⟩ w hz)
     have hce := cut_ended s he
     have HF : Hid (LsPost (bs s) w (.returned (.tuple #[.slice (some ⟨w.heap.size, 0, none⟩) (pcs ⟨(bareF (bs s)).toArray⟩).length (pcs ⟨(bareF (bs s)).toArray⟩).length, .bool true])) (w.alloc (.cells ((pcs ⟨(bareF (bs s)).toArray⟩).map Value.string).toArray 9))) := Lib.hid (by
      refine ⟨_, by rw [hce]; rfl, ?_, (Below.refl _ w).alloc (Nat.le_refl _) _⟩
      rw [hce]
      show RdS _ _ (mks ((pcs ⟨(bareF (bs s)).toArray⟩).map Tx.bs))
      rw [Tx.mks_bs]
      exact RdS.lit w _)
     generalize (⟨(bareF (bs s)).toArray⟩ : ByteArray) = t at *
     clear h0 hne t1 t2 he hz hl hce
     go_enter Tryz.func85, Tryz.ntmps85
     go_wp2_with fail
     refine HC.out.mono ?_
     rintro e w' ⟨rfl, rfl⟩
     go_wp2_with fail
     refine HS.out.mono ?_
     rintro e w' ⟨rfl, rfl⟩
     go_wp2_with fail
     go_ret2
     exact HF.out
end St
end
end Go.Proofs.YtjecfmbecgpbmaaGreatDoor

/-
  Proved: the law InternFirst of layer 3 returns true for every input, and its arguments read as before. No conditions.
-/
import Derived.Test.YthfadfennkkkjaaInternAwake
import Derived.Test.YthfadfennkkkjaaComOwn
import Derived.Test.YthfadfennkkkjaaComFrame
namespace Go.Proofs.Ythfadfennkkkjaa
open Go.ChangeShapes Go.WideShapes Go.ChangeAt Go.RowKit
open Go.ChangeMaps (open_string shut_string)
namespace Nt.InternFirst
open Cm Nt
theorem take_rdV {w : World} {A : Option Addr} {n c k : Nat} {us : List Value} (h : RdV w (.slice A n c) us) (hk : k ≤ n) : RdV w (.slice A k c) (us.take k) := by
  have hn := h.len
  obtain ⟨A', c', e, hcap, hc⟩ := h
  injection e with e1 e2 e3
  subst e1
  subst e3
  have hl : (us.take k).length = k := by rw [List.length_take]; omega
  refine ⟨A, c, by rw [hl], ⟨by omega, hcap.2⟩, fun hp => ?_⟩
  obtain ⟨b, off, rfl, hcell⟩ := hc (by omega)
  exact ⟨b, off, rfl, fun j hj => by rw [hcell j (by omega), List.getElem_take]⟩
theorem take_rdLL {w : World} {A : Option Addr} {n c k : Nat} {uss : List (List Value)} (h : RdLL w (.slice A n c) uss) (hk : k ≤ n) : RdLL w (.slice A k c) (uss.take k) := by
  obtain ⟨us, h1, h2, h3⟩ := h
  refine ⟨us.take k, take_rdV h1 hk, by rw [List.length_take, List.length_take, h2], fun j a b => ?_⟩
  rw [List.getElem_take, List.getElem_take]
  exact h3 j _ _
/-- The files, and one more behind them, in a row of the call's own. -/
theorem joined_rd {w w' : World} {mv v : Value} {us : List Value} {fs : List (List ByteArray)} {more : List ByteArray} {base n : Nat} {t : TypeId} (hl : us.length = fs.length) (he : ∀ j (h1 : j < us.length) (h2 : j < fs.length), RdV w us[j] (stringsV fs[j]))
    (hm : RdV w mv (stringsV more)) (hb : Below w.heap.size w w') (ho : w'.ownsRow base t 1 v n (us ++ [mv])) : RdLL w' v ((fs ++ [more]).map stringsV) := by
  refine ⟨us ++ [mv], RdV.of_own ho, by simp [hl], fun j a b => ?_⟩
  rw [List.getElem_map]
  by_cases hj : j < us.length
  · have e1 : (us ++ [mv])[j] = us[j] := List.getElem_append_left hj
    have e2 : (fs ++ [more])[j]'(by simpa using b) = fs[j]'(by omega) := List.getElem_append_left (by omega)
    rw [e1, e2]
    exact (he j hj (by omega)).below hb
  · have hj2 : j = us.length := by rw [List.length_append, List.length_singleton] at a; omega
    subst hj2
    have e1 : (us ++ [mv])[us.length] = mv := by simp
    have e2 : (fs ++ [more])[us.length]'(by simpa using b) = more := by simp [hl]
    rw [e1, e2]
    exact hm.below hb
theorem one_cell {w : World} {v : Value} {us : List Value} (h : RdV w v us) : v.oneCell' = true := by
  obtain ⟨A, c, rfl⟩ := h.form
  rfl
/-- What is known of lists of numbers that read. -/
theorem ints_at {w : World} {v : Value} {ls : List (List Int)} (h : RdLL w v (ls.map intsV)) :
    ∃ A c, v = .slice A ls.length c ∧ Hid (∀ j (hj : j < ls.length), ∃ b off A' c', A = some ⟨b, off, none⟩ ∧ w.cell? ⟨b, off + j, none⟩ = some (.slice A' ls[j].length c') ∧
      RdV w (.slice A' ls[j].length c') (intsV ls[j])) := by
  obtain ⟨us, ⟨A, c, rfl, _, hA⟩, hl, he⟩ := h
  rw [List.length_map] at hl
  refine ⟨A, c, by rw [hl], Lib.hid (fun j hj => ?_)⟩
  obtain ⟨b, off, rfl, hcell⟩ := hA (by omega)
  have h2 := he j (by omega) (by rw [List.length_map]; exact hj)
  rw [List.getElem_map] at h2
  have hc := hcell j (by omega)
  obtain ⟨A', c', e⟩ := h2.form
  rw [intsV_len] at e
  refine ⟨b, off, A', c', rfl, by rw [hc, e], ?_⟩
  rw [← e]; exact h2
theorem int_cell {w : World} {A : Option Addr} {n c : Nat} {l : List ByteArray} {F : ByteArray → Int} (h : RdV w (.slice A n c) (intsV (l.map F))) (k : Nat) (hk : k < l.length) : ∃ b off, A = some ⟨b, off, none⟩ ∧ w.cell? ⟨b, off + k, none⟩ = some (.int .i64 (F l[k])) := by
  obtain ⟨_, b, off, e, hc⟩ := h.at (by rw [intsV_len, List.length_map]; omega)
  exact ⟨b, off, e, by rw [hc k (by rw [intsV_len, List.length_map]; exact hk)]; simp [intsV]⟩
theorem idsF_len (all : List (List ByteArray)) : (idsF all).length = all.length := by unfold idsF; rw [List.length_map]
theorem ids_get (all : List (List ByteArray)) (k : Nat) (h : k < all.length) : (idsF all)[k]'(by rw [idsF_len]; exact h) = all[k].map (placeI (namesF all)) := by
  show (all.map fun f => f.map (placeI (namesF all)))[k]'_ = _
  exact List.getElem_map ..
theorem flat_mid {β : Type} (done g rest : List β) (i : Nat) (h : i < g.length) : done ++ (g ++ rest) = (done ++ g.take i ++ [g[i]]) ++ (g.drop (i + 1) ++ rest) := by
  have e : g.take i ++ g[i] :: g.drop (i + 1) = g := by rw [← List.drop_eq_getElem_cons h, List.take_append_drop]
  have e2 : done ++ (g ++ rest) = done ++ ((g.take i ++ g[i] :: g.drop (i + 1)) ++ rest) := by rw [e]
  rw [e2]
  simp only [List.append_assoc, List.cons_append, List.nil_append]
/-- Where the next string stands, by the names so far. -/
theorem place_next {all : List (List ByteArray)} {cn r : List ByteArray} {s : ByteArray} (h : namesF all = namesA (add cn s) r) :
    (s ∈ cn → 0 ≤ placeI (namesF all) s ∧ placeI (namesF all) s < cn.length) ∧ (s ∉ cn → placeI (namesF all) s = cn.length) := by
  obtain ⟨t, ht⟩ := namesA_prefix r (add cn s)
  rw [h, ht, placeI_prefix ((mem_add _ _ _).2 (.inr rfl))]
  constructor
  · intro hm
    have e : add cn s = cn := by unfold add; rw [if_pos hm]
    rw [e]
    unfold placeI
    rw [if_pos hm]
    have := posN_lt hm
    omega
  · intro hm
    have e : add cn s = cn ++ [s] := by unfold add; rw [if_neg hm]
    rw [e]
    unfold placeI
    rw [if_pos (by simp), posN_snoc hm]
set_option maxRecDepth 100000 in
set_option maxHeartbeats 4000000 in
theorem walk (u mv : Value) (fs : List (List ByteArray)) (more : List ByteArray) (w : World) (hr : RdLL w u (fs.map stringsV)) (hl : fs.length ≤ maxLen) (hll : ∀ f ∈ fs, f.length ≤ maxLen) (hsz : ∀ f ∈ fs, ∀ s ∈ f, s.size ≤ maxLen)
    (hm : RdV w mv (stringsV more)) (hml : more.length ≤ maxLen) (hms : ∀ s ∈ more, s.size ≤ maxLen) :
    Calls Try.prog 6 #[u, mv] w fun e w' => e = .returned (.bool true) ∧ Below w.heap.size w w' := by
  have HSm := Lib.hid (small_any u fs w hr hl hll)
  have HAw := Lib.hid (fun w => awake_any w)
  have HSz := Lib.hid hsz
  have HMs := Lib.hid hms
  have HR := Lib.hid hr
  have HM := Lib.hid hm
  obtain ⟨Au, cu, rfl⟩ : ∃ A c, u = .slice A fs.length c := by obtain ⟨us, ⟨A, c, e, _⟩, h2, _⟩ := hr; exact ⟨A, c, by rw [e, h2, List.length_map]⟩
  obtain ⟨Am, cm, hme⟩ := hm.form
  rw [stringsV_len] at hme
  subst hme
  clear hr hl hll hsz hm hms
  unfold maxLen at hml
  generalize hfl : fs.length = fl at HSm HR ⊢
  have HFl := Lib.hid hfl
  clear hfl
  generalize hmn : more.length = mn at hml HM ⊢
  have HMn := Lib.hid hmn
  clear hmn
  go_enter Try.func6, Try.ntmps6
  go_wp2_with fail
  refine HSm.out.mono ?_
  rintro e w1 ⟨b, rfl, hb, q, rfl⟩
  have HB1 := Lib.hid (below_drewN (Below.refl w.heap.size w) q)
  have HR1 := Lib.hid (HR.out.drewN q)
  have HM1 := Lib.hid (HM.out.drewN q)
  generalize World.drewN w q = w1 at HB1 HR1 HM1 ⊢
  clear HSm HR HM
  cases b with
  | false =>
    clear hb
    go_wp2_with (go_at_call 8; refine (HAw.out _).mono ?_; rintro e w2 ⟨rfl, hb2⟩)
    go_ret
    exact ⟨rfl, HB1.out.trans (hb2.mono HB1.out.size)⟩
  | true =>
    have hfl6 := (hb rfl).1
    have HSmall := Lib.hid (hb rfl).2
    clear hb
    by_cases h8 : (8 : Int) < (mn : Int)
    · go_wp2_with (go_at_call 8; refine (HAw.out _).mono ?_; rintro e w2 ⟨rfl, hb2⟩)
      go_ret
      exact ⟨rfl, HB1.out.trans (hb2.mono HB1.out.size)⟩
    have hmn8 : mn ≤ 8 := by omega
    have hl1000 : fs.length ≤ 1000 := by rw [HFl.out]; omega
    have hll1000 : ∀ f ∈ fs, f.length ≤ 1000 := fun f hf => by have := HSmall.out f hf; omega
    have HI := Lib.hid (Ids_any _ fs w1 HR1.out hl1000 hll1000 HSz.out)
    have HAll : Hid ((fs ++ [more]).length ≤ 1000 ∧ (∀ f ∈ fs ++ [more], f.length ≤ 1000) ∧ ∀ f ∈ fs ++ [more], ∀ s ∈ f, s.size ≤ maxLen) := Lib.hid ⟨by rw [List.length_append, HFl.out, List.length_singleton]; omega, fun f hf => by
        rcases List.mem_append.1 hf with hf | hf
        · exact hll1000 f hf
        · rw [List.mem_singleton] at hf; subst hf; rw [HMn.out]; omega, fun f hf => by
        rcases List.mem_append.1 hf with hf | hf
        · exact HSz.out f hf
        · rw [List.mem_singleton] at hf; subst hf; exact HMs.out⟩
    clear hl1000 hll1000 h8
    go_wp2_with fail
    refine HI.out.mono ?_
    rintro e w2 ⟨va, rfl, oa, ba⟩
    have RA := Lib.hid oa.rd
    have HB2 := Lib.hid (HB1.out.trans (ba.mono HB1.out.size))
    have HR2 := Lib.hid (HR1.out.below ba)
    have HM2 := Lib.hid (HM1.out.below ba)
    clear oa ba HB1 HR1 HM1 HI
    obtain ⟨us, hu1, hu2, hu3⟩ := HR2.out
    rw [List.length_map] at hu2
    have hul := hu1.len
    have HU1 := Lib.hid hu1
    have HU2 := Lib.hid hu2
    have HU3 : Hid (∀ j (h1 : j < us.length) (h2 : j < fs.length), RdV w2 us[j] (stringsV fs[j])) := Lib.hid (fun j a b => by
      have := hu3 j a (by rw [List.length_map]; exact b)
      rwa [List.getElem_map] at this)
    have HOne : Hid (∀ x ∈ us, x.oneCell' = true) := Lib.hid (fun x hx => by
      obtain ⟨j, hj, rfl⟩ := List.mem_iff_getElem.1 hx
      exact one_cell (HU3.out j hj (by omega)))
    have HUl : Hid (us.length = fl) := Lib.hid hul.symm
    clear hu1 hu2 hu3 hul
    have HBE := Lib.hid ((Below.refl w2.heap.size w2).alloc (Nat.le_refl _) (.cells #[] 26))
    have HE0 := Lib.hid (own_empty w2 26)
    go_wp2_with (first
      | (at_builtin; refine app_rd rfl Try.underlying22 info_strs rfl (by omega) (.tmp 21) (.tmp 22) rfl w2.heap.size 0 [] us _ _ rfl HE0.out rfl (HU1.out.below HBE.out) HOne.out (by rw [HUl.out]; omega) (by simp) ?_; intro v3 w3 ho3 hb3 _; rw [HUl.out] at ho3; simp only [Nat.zero_add, List.nil_append] at ho3; have HO3 := Lib.hid ho3; have HB3 := Lib.hid (HBE.out.trans hb3); have hs3 := HB3.out.size; clear ho3 hb3)
      | (at_builtin; refine app_one rfl Try.underlying22 info_strs rfl (by omega) (.tmp 23) (.tmp 25) rfl w2.heap.size fl us (.slice Am mn cm) rfl _ _ rfl HO3.out rfl rfl (by omega) hs3 ?_; intro v4 w4 ho4 hb4 _; have HO4 := Lib.hid ho4; have HB4 := Lib.hid (HB3.out.trans hb4); clear ho4 hb4))
    have RJ := joined_rd HU2.out HU3.out HM2.out HB4.out HO4.out
    refine (Ids_any v4 (fs ++ [more]) w4 RJ HAll.out.1 HAll.out.2.1 HAll.out.2.2).mono ?_
    rintro e w5 ⟨v5, rfl, ob, b5⟩
    have HB5 := Lib.hid (HB2.out.trans ((HB4.out.trans (b5.mono HB4.out.size)).mono HB2.out.size))
    have HRel : Hid (Below w2.heap.size w2 w5) := Lib.hid (HB4.out.trans (b5.mono HB4.out.size))
    have RA5 := Lib.hid (RA.out.below HRel.out)
    have hlen : (idsF (fs ++ [more])).length = fl + 1 := by unfold idsF; rw [List.length_map, List.length_append, HFl.out]; rfl
    obtain ⟨Ab, cb, hbe⟩ := ob.form
    rw [hlen] at hbe
    subst hbe
    have RB := ob.rd
    have hcap : fl + 1 ≤ cb := by
      obtain ⟨us', ⟨A', c', e, hc, _⟩, h2, _⟩ := RB
      injection e with _ e2 e3
      omega
    have HTk := Lib.hid (take_rdLL RB (show fl ≤ fl + 1 by omega))
    have hmore := idsF_more fs more
    rw [HFl.out] at hmore
    have HLs : Hid (RdLL w5 (.slice Ab fl cb) ((idsF fs).map intsV)) := Lib.hid (by
      have := HTk.out
      rw [← List.map_take, hmore] at this
      exact this)
    have hbnd : (idsF fs).length ≤ 4611686018427387904 ∧ ∀ l ∈ idsF fs, l.length ≤ 4611686018427387904 := by
      refine ⟨by unfold idsF; rw [List.length_map, HFl.out]; omega, fun l hl => ?_⟩
      unfold idsF at hl
      obtain ⟨f, hf, rfl⟩ := List.mem_map.1 hl
      rw [List.length_map]; have := HSmall.out f hf; omega
    have HLists := Lib.hid (Lists_same _ _ _ w5 hbnd.1 hbnd.2 RA5.out HLs.out)
    have HRB := Lib.hid RB
    clear RJ ob b5 HTk hmore HLs hbnd RA5 RA RB
    obtain ⟨n1, hn1⟩ : ∃ n1, n1 = fl + 1 := ⟨_, rfl⟩
    rw [← hn1] at hcap hlen HRB ⊢
    have e1 : ((n1 : Int) != (fl : Int) + 1) = false := by simp; omega
    have e2 : (fl : Int) ≤ (cb : Int) := by omega
    have e3 : (0 : Int) ≤ (fl : Int) := by omega
    have HN1 := Lib.hid hn1
    clear hn1
    go_wp2_with fail
    refine HLists.out.mono ?_
    rintro e w6 ⟨rfl, q6, rfl⟩
    have HB6 := Lib.hid (below_drewN HB5.out q6)
    have HRel6 := Lib.hid (below_drewN HRel.out q6)
    have HRB6 := HRB.out.drewN q6
    generalize World.drewN w5 q6 = w6 at HB6 HRel6 HRB6 ⊢
    clear HLists HRB HB5 HRel
    obtain ⟨Ab', cb', hbe, HI6⟩ := ints_at HRB6
    injection hbe with x1 _ x3
    subst x1
    subst x3
    clear HRB6
    have hal : (fs ++ [more]).length = n1 := by rw [List.length_append, HFl.out, HN1.out]; rfl
    have HSm : Hid (∀ f ∈ fs ++ [more], f.length ≤ 10) := Lib.hid (fun f hf => by
        rcases List.mem_append.1 hf with hf | hf
        · exact HSmall.out f hf
        · rw [List.mem_singleton] at hf; subst hf; rw [HMn.out]; omega)
    have HNames := Lib.hid (fun v w h => Names_any v (fs ++ [more]) w h HAll.out.1 HAll.out.2.1 HAll.out.2.2)
    have HJoin : Hid (∀ (wr wq : World) (v : Value), Below w2.heap.size w2 wr → Below wr.heap.size wr wq → wq.ownsRow wr.heap.size 26 1 v (fl + 1) (us ++ [.slice Am mn cm]) → RdLL wq v ((fs ++ [more]).map stringsV)) := Lib.hid (fun wr wq v h1 h2 h3 =>
      joined_rd HU2.out (fun j a b => (HU3.out j a b).below h1) (HM2.out.below h1) h2 h3)
    have HBd : Hid (∀ k, ((fs ++ [more]).take k).flatten.length ≤ 1000000) := Lib.hid (fun k => by
      have h2 := flat_bound ((fs ++ [more]).take k) 1000 (fun f hf => HAll.out.2.1 f (List.mem_of_mem_take hf))
      have h3 : ((fs ++ [more]).take k).length ≤ (fs ++ [more]).length := List.length_take_le' ..
      have h4 := HAll.out.1
      omega)
    have hN8 : n1 ≤ 7 := by rw [HN1.out]; omega
    clear hlen HAll HSz HMs HSmall HU2 HU3 HM2 HFl HMn
    generalize fs ++ [more] = all at HI6 HSm HNames HJoin HBd hal
    have HC : Hid (∀ k (h : k < n1), ∃ bb ob A' c', Ab = some ⟨bb, ob, none⟩ ∧ w6.cell? ⟨bb, ob + k, none⟩ = some (.slice A' (all[k]'(by omega)).length c') ∧
        RdV w6 (.slice A' (all[k]'(by omega)).length c') (intsV ((all[k]'(by omega)).map (placeI (namesF all))))) := Lib.hid (fun k h => by
      obtain ⟨bb, ob, A', c', e, c1, r1⟩ := HI6.out k (by rw [idsF_len]; omega)
      rw [ids_get all k (by omega), List.length_map] at c1 r1
      exact ⟨bb, ob, A', c', e, c1, r1⟩)
    have HAl := Lib.hid hal
    clear HI6
    have hs6 := HB6.out.size
    have hs62 := HRel6.out.size
    go_wp2_with fail
    go_loopw [7, 8] (fun nx i wr => ∃ k c : Nat, k ≤ n1 ∧ i = .int .i64 k ∧ nx = .int .i64 c ∧ Hid (c = (namesA [] (all.take k).flatten).length) ∧ Below w6.heap.size w6 wr) (fun _ i _ => n1 - (intOf i).toNat)
    case atStart => exact ⟨0, 0, Nat.zero_le _, rfl, rfl, Lib.hid rfl, Below.refl _ _⟩
    case round =>
      obtain ⟨k, c, hk, rfl, rfl, HCn, hnx⟩ := hrel
      by_cases hlt : k < n1
      · have hx : k < all.length := by rw [HAl.out]; exact hlt
        obtain ⟨bb, ob, A', c', rfl, c1, r1⟩ := HC.out k hlt
        have hgl := HSm.out _ (List.getElem_mem hx)
        have HFlat := Lib.hid (flat_succ all k hx)
        have hbd0 := HBd.out k
        have HRest : Hid (namesF all = namesA [] ((all.take k).flatten ++ (all[k] ++ (all.drop (k + 1)).flatten))) := Lib.hid (by
          unfold namesF
          have e : all = all.take k ++ all[k] :: all.drop (k + 1) := by rw [← List.drop_eq_getElem_cons hx, List.take_append_drop]
          have h2 := congrArg List.flatten e
          rw [List.flatten_append, List.flatten_cons] at h2
          rw [← h2])
        generalize all[k] = g at c1 r1 hgl HFlat HRest
        generalize (all.take k).flatten = done at HCn HFlat HRest hbd0
        generalize (all.drop (k + 1)).flatten = rest at HRest
        have d1 := (hnx.cell (p := ⟨bb, ob + k, none⟩) (Tx.cell_lt c1)).trans c1
        have R1 := Lib.hid (r1.below hnx)
        clear c1 r1
        generalize hgn : g.length = gl at hgl d1 R1
        have HGn := Lib.hid hgn
        clear hgn
        have hlb := Tx.cell_lt d1
        have D1 := Lib.hid d1
        clear d1
        have i1 : (0 : Int) ≤ (k : Int) := by omega
        have i2 : (k : Int) < (n1 : Int) := by omega
        obtain ⟨wo, rfl⟩ : ∃ wo, wo = wr := ⟨wr, rfl⟩
        go_wp2_with fail
        go_loopw [7, 9] (fun nx q wr => ∃ i c : Nat, i ≤ gl ∧ q = .int .i64 i ∧ nx = .int .i64 c ∧ Hid (c = (namesA [] (done ++ g.take i)).length) ∧ Below wo.heap.size wo wr) (fun _ q _ => gl - (intOf q).toNat)
        case atStart => exact ⟨0, c, Nat.zero_le _, rfl, rfl, by rw [List.take_zero, List.append_nil]; exact HCn, Below.refl _ _⟩
        case round =>
          obtain ⟨i, c2, hi, rfl, rfl, HCi, hnx1⟩ := hrel
          have d2 := (hnx1.cell (p := ⟨bb, ob + k, none⟩) hlb).trans D1.out
          by_cases hlt1 : i < gl
          · have hx1 : i < g.length := by rw [HGn.out]; exact hlt1
            obtain ⟨p1, o1, rfl, q0⟩ := int_cell R1.out i hx1
            have q1 := (hnx1.cell (p := ⟨p1, o1 + i, none⟩) (Tx.cell_lt q0)).trans q0
            have HTk : Hid (namesA [] (done ++ g.take (i + 1)) = add (namesA [] (done ++ g.take i)) g[i]) := Lib.hid (by
              rw [List.take_succ_eq_append_getElem hx1, ← List.append_assoc, namesA_snoc])
            have hpl := place_next (all := all) (cn := namesA [] (done ++ g.take i)) (s := g[i]) (r := g.drop (i + 1) ++ rest) (by
              rw [HRest.out, ← namesA_snoc, ← namesA_append, flat_mid done g rest i hx1])
            have hcb : c2 ≤ 1000010 := by
              have h1 := namesA_len (done ++ g.take i) ([] : List ByteArray)
              rw [List.length_append] at h1
              have h2 : (g.take i).length ≤ i := List.length_take_le ..
              have h3 := HCi.out
              simp only [List.length_nil] at h1; omega
            clear q0
            generalize g[i] = s at q1 HTk hpl
            generalize namesA [] (done ++ g.take i) = cn at HTk hpl HCi
            generalize placeI (namesF all) s = z at q1 hpl
            rw [← HCi.out] at hpl
            have j1 : (0 : Int) ≤ (i : Int) := by omega
            have j2 : (i : Int) < (gl : Int) := by omega
            by_cases hmem : s ∈ cn
            · obtain ⟨z1, z2⟩ := hpl.1 hmem
              have HC2 : Hid (c2 = (namesA [] (done ++ g.take (i + 1))).length) := Lib.hid (by rw [HTk.out, HCi.out]; unfold add; rw [if_pos hmem])
              have z3 : ¬ z < 0 := by omega
              have z4 : ¬ (c2 : Int) < z := by omega
              have z5 : (z == (c2 : Int)) = false := by rw [beq_eq_false_iff_ne]; omega
              clear hpl hmem HTk
              go_wp2_with fail
              go_roundw
              case rel => exact ⟨i + 1, c2, by omega, by go_num, rfl, HC2, hnx1⟩
              case measure => simp [intOf]; omega
            · have z1 := hpl.2 hmem
              subst z1
              have HC2 : Hid (c2 + 1 = (namesA [] (done ++ g.take (i + 1))).length) := Lib.hid (by rw [HTk.out, HCi.out]; unfold add; rw [if_neg hmem]; simp)
              have z3 : ¬ (c2 : Int) < 0 := by omega
              clear hpl hmem HTk
              go_wp2_with fail
              go_roundw
              case rel => exact ⟨i + 1, c2 + 1, by omega, by go_num, by go_num, HC2, hnx1⟩
              case measure => simp [intOf]; omega
          · have HC2 : Hid (c2 = (namesA [] (all.take (k + 1)).flatten).length) := Lib.hid (by
              rw [HFlat.out, HCi.out, List.take_of_length_le (by rw [HGn.out]; omega)])
            have hd : decide (i < gl) = false := by simp only [decide_eq_false_iff_not]; omega
            have HNx := Lib.hid (hnx.trans (hnx1.mono hnx.size))
            go_wp2_with fail
            go_roundw
            case rel => exact ⟨k + 1, c2, by omega, by go_num, rfl, HC2, HNx.out⟩
            case measure => simp [intOf]; omega
      · have HC2 : Hid (c = (namesF all).length) := Lib.hid (by
          unfold namesF
          rw [HCn.out, List.take_of_length_le (by rw [HAl.out]; omega)])
        have HR2r := Lib.hid (HRel6.out.trans (hnx.mono hs62))
        have HBr := Lib.hid (HB6.out.trans (hnx.mono hs6))
        have HUr := Lib.hid (HU1.out.below HR2r.out)
        have HBE2 := Lib.hid ((Below.refl wr.heap.size wr).alloc (Nat.le_refl _) (.cells #[] 26))
        have HE2 := Lib.hid (own_empty wr 26)
        have hd : decide (k < n1) = false := by simp only [decide_eq_false_iff_not]; omega
        clear HC HCn
        go_wp2_with (first
          | (at_builtin; refine app_rd rfl Try.underlying22 info_strs rfl (by omega) (.tmp 88) (.tmp 89) rfl wr.heap.size 0 [] us _ _ rfl HE2.out rfl (HUr.out.below HBE2.out) HOne.out (by rw [HUl.out]; omega) (by simp) ?_; intro v7 w7 ho7 hb7 _; rw [HUl.out] at ho7; simp only [Nat.zero_add, List.nil_append] at ho7; have HO7 := Lib.hid ho7; have HB7 := Lib.hid (HBE2.out.trans hb7); have hs7 := HB7.out.size; clear ho7 hb7)
          | (at_builtin; refine app_one rfl Try.underlying22 info_strs rfl (by omega) (.tmp 90) (.tmp 92) rfl wr.heap.size fl us (.slice Am mn cm) rfl _ _ rfl HO7.out rfl rfl (by omega) hs7 ?_; intro v8 w8 ho8 hb8 _; have HO8 := Lib.hid ho8; have HB8 := Lib.hid (HB7.out.trans hb8); clear ho8 hb8))
        refine (HNames.out v8 w8 (HJoin.out wr w8 v8 HR2r.out HB8.out HO8.out)).mono ?_
        rintro e w9 ⟨v9, rfl, o9, b9⟩
        obtain ⟨A9, d9, rfl⟩ := own_form o9
        rw [← HC2.out]
        have HB9 := Lib.hid (HBr.out.trans ((HB8.out.trans (b9.mono HB8.out.size)).mono HBr.out.size))
        clear o9 b9
        go_wp2_with (go_at_call 8; refine (HAw.out _).mono ?_; rintro e w10 ⟨rfl, hb2⟩)
        go_ret
        exact ⟨rfl, HB9.out.trans (hb2.mono HB9.out.size)⟩
set_option maxRecDepth 100000 in
theorem lifted (os : Os) (started : os.Started) (H : Type) (enc : TypeId × Value → H) :
    ReturnsInHanded {} Try.checked os 6 .any (Rows.internFirstSpec.pre6 enc Try.prog Try.f6 Rows.internFirstRow.domain false) (Rows.internFirstSpec.post enc Try.prog Try.f6 false true false false) := by
  refine returnsInHanded_of_change (C := Try.checked) own started (by kernel_rfl) Try.func6
    (ChangeSpec.witness6 (enc := enc) (C := Try.checked) false ⟨#[], #[.slice none 0 0, .slice none 0 0], []⟩ 8 (by kernel_rfl) (by kernel_rfl) (by kernel_rfl) (by kernel_rfl)) ?_
  intro W base args ds gs before hval0 hW _ _
  have hval : ∀ (j : Nat) t v, Try.f6.params[j]? = some t → args[j]? = some v → Value.okWide Try.prog W .any base t v := hval0
  have hW' := hW
  obtain ⟨p, q, hA0, hV, rfl, hfz, hnd⟩ := hW
  have hA : DataW.TrodAll enc Try.prog W 0 (fun _ => true) true Try.f6.params.toList args.toList ds p := hA0
  rw [Try.params6] at hA hval
  obtain ⟨v0, v1, d0, d1, p0, p1, rfl, rfl, rfl, h0, h1⟩ := trodAll_two hA
  obtain ⟨rfl, rfl⟩ := trodVars_none hV
  obtain ⟨A0, n0, c0, rfl⟩ := okWide_slice Try.underlying22 (hval 0 22 v0 rfl rfl)
  have k0 := h0
  have lt0 : ∀ x ∈ p0, x.block < W.heap.size := by obtain ⟨m, hm⟩ := k0; exact DataW.trod_lt m _ _ _ hm
  obtain ⟨fs, r0, s0, t0⟩ : ∃ fs : List (List ByteArray), RdLL W (.slice A0 n0 c0) (fs.map stringsV) ∧ fs.length ≤ maxLen ∧ ∀ f ∈ fs, f.length ≤ maxLen ∧ ∀ s ∈ f, s.size ≤ maxLen := by obtain ⟨fuel, hf⟩ := h0; exact open_filesV hf
  obtain ⟨A1, n1, c1, rfl⟩ := okWide_slice Try.underlying26 (hval 1 26 v1 rfl rfl)
  have k1 := h1
  have lt1 : ∀ x ∈ p1, x.block < W.heap.size := by obtain ⟨m, hm⟩ := k1; exact DataW.trod_lt m _ _ _ hm
  obtain ⟨more, r1, s1, t1⟩ : ∃ l : List ByteArray, RdV W (.slice A1 n1 c1) (stringsV l) ∧ l.length ≤ maxLen ∧ ∀ s ∈ l, s.size ≤ maxLen := by obtain ⟨fuel, hf⟩ := h1; exact open_stringsV hf
  clear hA0 hval0
  simp only [List.append_nil] at hW'
  refine (walk (.slice A0 n0 c0) (.slice A1 n1 c1) fs more W r0 s0 (fun f hf => (t0 f hf).1) (fun f hf => (t0 f hf).2) r1 s1 t1).mono fun e W' ⟨he, hbel⟩ => ?_
  subst he
  exact ⟨_, rfl, _, _, _, [], _, [], hW', trodAll_mk1 (shut_bool Try.underlying4 _), trodAll_mk2 (Below.trod laidOut (by kernel_rfl) (of_decide_eq_true (by kernel_rfl)) k0 hbel lt0) (Below.trod laidOut (by kernel_rfl) (of_decide_eq_true (by kernel_rfl)) k1 hbel lt1), rfl, hbel.frame _, fun h => by cases h⟩
theorem row_holds : Rows.InternFirstSaid :=
  OpenClaim.holds_of_wide 6 Try.f6 rfl rfl rfl rfl rfl rfl rfl ⟨rfl, rfl, rfl, rfl, rfl⟩ rfl rfl rfl rfl rfl (by kernel_rfl) Try.func6 (by kernel_rfl)
    (of_decide_eq_true (by kernel_rfl)) (by unfold Func.isWrapper; first | (rw [if_pos (by decide +kernel)]; kernel_rfl) | (rw [if_neg (by decide +kernel)]; exact ⟨rfl, rfl⟩))
    (fun os started H enc _ => lifted os started H enc)
end Nt.InternFirst
end Go.Proofs.Ythfadfennkkkjaa

/-
  Moving changes along equal lines, as plain mathematics: scripts that fit, how often a change can be moved, the moved scripts; they fit, and moving twice moves nothing more. No conditions.
-/
import Derived.Test.YtldommbelpcegaaScrMath
namespace Go.Proofs.Ytldommbelpcegaa
namespace Sl
open Sc
abbrev gI (a : List Int) (i : Int) : Int := a.getD i.toNat 0
def EqS (a b : List Int) (s : Sp) : Prop := gI a s.frm = gI b s.to
def FitL (a b : List Int) (f : Bool) (i j : Int) (l : List Ch) : Prop := OkL f i j l (a.length : Int) (b.length : Int) ∧ ∀ s ∈ mtF (a.length : Int) i j l, EqS a b s
def sh (c : Ch) (d : Int) : Ch := ⟨c.old + d, c.oldLen, c.new + d, c.newLen⟩
theorem sh_zero (c : Ch) : sh c 0 = c := Ch.eq (Int.add_zero _) rfl (Int.add_zero _) rfl
theorem sh_sh (c : Ch) (d e : Int) : sh (sh c d) e = sh c (d + e) := Ch.eq (Int.add_assoc _ _ _) rfl (Int.add_assoc _ _ _) rfl
def Pure (c : Ch) : Prop := c.newLen = 0 ∨ c.oldLen = 0
instance (c : Ch) : Decidable (Pure c) := inferInstanceAs (Decidable (_ ∨ _))
def txt (a b : List Int) (c : Ch) : List Int := if c.newLen = 0 then a else b
def frC (c : Ch) : Int := if c.newLen = 0 then c.old else c.new
def lnC (c : Ch) : Int := if c.newLen = 0 then c.oldLen else c.newLen
def dnB (a b : List Int) (c : Ch) : Bool := decide (Pure c ∧ gI (txt a b c) (frC c) = gI (txt a b c) (frC c + lnC c))
def upB (a b : List Int) (c : Ch) : Bool := decide (Pure c ∧ gI (txt a b c) (frC c + lnC c - 1) = gI (txt a b c) (frC c - 1))
def dnR (a b : List Int) : Ch → Nat → Nat
  | _, 0 => 0
  | c, L + 1 => if dnB a b c = true then dnR a b (sh c 1) L + 1 else 0
def upR (a b : List Int) : Ch → Nat → Nat
  | _, 0 => 0
  | c, L + 1 => if upB a b c = true then upR a b (sh c (-1)) L + 1 else 0
theorem dnR_le (a b : List Int) : ∀ (L : Nat) (c : Ch), dnR a b c L ≤ L
  | 0, _ => Nat.le_refl _
  | L + 1, c => by
    simp only [dnR]
    split
    · have := dnR_le a b L (sh c 1); omega
    · omega
theorem upR_le (a b : List Int) : ∀ (L : Nat) (c : Ch), upR a b c L ≤ L
  | 0, _ => Nat.le_refl _
  | L + 1, c => by
    simp only [upR]
    split
    · have := upR_le a b L (sh c (-1)); omega
    · omega
theorem dnR_T {a b : List Int} {c : Ch} {L : Nat} (h : dnB a b c = true) (hL : 0 < L) : dnR a b c L = dnR a b (sh c 1) (L - 1) + 1 := by
  obtain ⟨k, rfl⟩ : ∃ k, L = k + 1 := ⟨L - 1, by omega⟩
  simp only [dnR, if_pos h, Nat.add_sub_cancel]
theorem dnR_F {a b : List Int} {c : Ch} {L : Nat} (h : dnB a b c = false ∨ L = 0) : dnR a b c L = 0 := by
  rcases L with _ | k
  · rfl
  · rcases h with h | h
    · simp only [dnR, h]; rfl
    · cases h
theorem upR_T {a b : List Int} {c : Ch} {L : Nat} (h : upB a b c = true) (hL : 0 < L) : upR a b c L = upR a b (sh c (-1)) (L - 1) + 1 := by
  obtain ⟨k, rfl⟩ : ∃ k, L = k + 1 := ⟨L - 1, by omega⟩
  simp only [upR, if_pos h, Nat.add_sub_cancel]
theorem upR_F {a b : List Int} {c : Ch} {L : Nat} (h : upB a b c = false ∨ L = 0) : upR a b c L = 0 := by
  rcases L with _ | k
  · rfl
  · rcases h with h | h
    · simp only [upR, h]; rfl
    · cases h
theorem dnR_done (a b : List Int) : ∀ (L : Nat) (c : Ch), dnR a b (sh c (dnR a b c L : Nat)) (L - dnR a b c L) = 0
  | 0, c => rfl
  | L + 1, c => by
    by_cases h : dnB a b c = true
    · rw [dnR_T h (Nat.succ_pos _), show L.succ - 1 = L from rfl]
      have := dnR_done a b L (sh c 1)
      rw [sh_sh, show (1 : Int) + (dnR a b (sh c 1) L : Nat) = ((dnR a b (sh c 1) L + 1 : Nat) : Int) from by omega] at this
      rw [show L + 1 - (dnR a b (sh c 1) L + 1) = L - dnR a b (sh c 1) L from by omega]
      exact this
    · have h' : dnB a b c = false := by simpa using h
      rw [dnR_F (.inl h'), show ((0 : Nat) : Int) = 0 from rfl, sh_zero]
      exact dnR_F (.inl h')
theorem upR_done (a b : List Int) : ∀ (L : Nat) (c : Ch), upR a b (sh c (-(upR a b c L : Nat))) (L - upR a b c L) = 0
  | 0, c => rfl
  | L + 1, c => by
    by_cases h : upB a b c = true
    · rw [upR_T h (Nat.succ_pos _), show L.succ - 1 = L from rfl]
      have := upR_done a b L (sh c (-1))
      rw [sh_sh, show (-1 : Int) + -(upR a b (sh c (-1)) L : Nat) = -((upR a b (sh c (-1)) L + 1 : Nat) : Int) from by omega] at this
      rw [show L + 1 - (upR a b (sh c (-1)) L + 1) = L - upR a b (sh c (-1)) L from by omega]
      exact this
    · have h' : upB a b c = false := by simpa using h
      rw [upR_F (.inl h'), show (-((0 : Nat) : Int)) = 0 from rfl, sh_zero]
      exact upR_F (.inl h')
/-- Where the lines end from which a change may take its own, before the changes that follow. -/
def topE (e : Int) : List Ch → Int
  | [] => e
  | x :: _ => x.old - 1
def lowD (e : Int) (l : List Ch) (c : Ch) : Nat := (topE e l - (c.old + c.oldLen)).toNat
def downF (a b : List Int) (e : Int) : List Ch → List Ch
  | [] => []
  | c :: l => sh c (dnR a b c (lowD e (downF a b e l) c) : Nat) :: downF a b e l
def upF (a b : List Int) (first : Int) : List Ch → List Ch
  | [] => []
  | c :: l => sh c (-(upR a b c (c.old - first).toNat : Nat)) :: upF a b (c.old - (upR a b c (c.old - first).toNat : Nat) + c.oldLen + 1) l
theorem downF_len (a b : List Int) (e : Int) : ∀ l, (downF a b e l).length = l.length
  | [] => rfl
  | c :: l => by simp only [downF, List.length_cons, downF_len a b e l]
theorem upF_len (a b : List Int) : ∀ l first, (upF a b first l).length = l.length
  | [], _ => rfl
  | c :: l, _ => by simp only [upF, List.length_cons, upF_len a b l]
theorem downF_idem (a b : List Int) (e : Int) : ∀ l, downF a b e (downF a b e l) = downF a b e l
  | [] => rfl
  | c :: l => by
    have ih := downF_idem a b e l
    simp only [downF, ih]
    have h := dnR_done a b (lowD e (downF a b e l) c) c
    have hl := dnR_le a b (lowD e (downF a b e l) c) c
    generalize hd : dnR a b c (lowD e (downF a b e l) c) = d at *
    have e1 : lowD e (downF a b e l) (sh c (d : Nat)) = lowD e (downF a b e l) c - d := by
      unfold lowD sh at *
      simp only at *
      omega
    rw [e1, h, show ((0 : Nat) : Int) = 0 from rfl, sh_zero]
theorem upF_idem (a b : List Int) : ∀ l first, upF a b first (upF a b first l) = upF a b first l
  | [], _ => rfl
  | c :: l, first => by
    simp only [upF]
    have h := upR_done a b (c.old - first).toNat c
    have hl := upR_le a b (c.old - first).toNat c
    generalize hd : upR a b c (c.old - first).toNat = d at *
    have e1 : ((sh c (-(d : Nat))).old - first).toNat = (c.old - first).toNat - d := by
      unfold sh
      simp only
      omega
    rw [e1, h, show (-((0 : Nat) : Int)) = 0 from rfl, sh_zero]
    rw [show (sh c (-(d : Nat))).old - ((0 : Nat) : Int) + (sh c (-(d : Nat))).oldLen + 1 = c.old - (d : Nat) + c.oldLen + 1 from by unfold sh; simp only; omega, upF_idem]
theorem downF_at (a b : List Int) (e : Int) : ∀ (l : List Ch) (k : Nat) (h : k < l.length) (h' : k < (downF a b e l).length), ∃ d : Nat, (downF a b e l)[k] = sh l[k] d
  | [], k, h, _ => absurd h (Nat.not_lt_zero _)
  | c :: l, 0, _, _ => ⟨_, rfl⟩
  | c :: l, k + 1, h, h' => downF_at a b e l k (by simpa using h) (by simpa [downF] using h')
theorem upF_at (a b : List Int) : ∀ (l : List Ch) (first : Int) (k : Nat) (h : k < l.length) (h' : k < (upF a b first l).length), ∃ d : Nat, (upF a b first l)[k] = sh l[k] (-d)
  | [], _, k, h, _ => absurd h (Nat.not_lt_zero _)
  | c :: l, _, 0, _, _ => ⟨_, rfl⟩
  | c :: l, _, k + 1, h, h' => upF_at a b l _ k (by simpa using h) (by simpa [upF] using h')
theorem sz_down (a b : List Int) (e : Int) : ∀ l, szO (downF a b e l) = szO l ∧ szN (downF a b e l) = szN l
  | [] => ⟨rfl, rfl⟩
  | c :: l => by
    have h := sz_down a b e l
    unfold szO szN at *
    simp only [downF, List.map_cons, List.sum_cons, h.1, h.2, sh, and_self]
theorem sz_up (a b : List Int) : ∀ l first, szO (upF a b first l) = szO l ∧ szN (upF a b first l) = szN l
  | [], _ => ⟨rfl, rfl⟩
  | c :: l, first => by
    have h := sz_up a b l (c.old - (upR a b c (c.old - first).toNat : Nat) + c.oldLen + 1)
    unfold szO szN at *
    simp only [upF, List.map_cons, List.sum_cons, h.1, h.2, sh, and_self]
-- what fits, change by change
theorem run_mem {i j : Int} {k : Nat} {s : Sp} : s ∈ run i j k ↔ ∃ t : Nat, t < k ∧ s = ⟨i + t, j + t⟩ := by
  unfold run
  simp only [List.mem_map, List.mem_range]
  exact ⟨fun ⟨t, h, e⟩ => ⟨t, h, e.symm⟩, fun ⟨t, h, e⟩ => ⟨t, h, e.symm⟩⟩
def RunE (a b : List Int) (i j n : Int) : Prop := ∀ t : Int, 0 ≤ t → t < n → gI a (i + t) = gI b (j + t)
theorem run_iff {a b : List Int} {i j n : Int} : (∀ s ∈ run i j n.toNat, EqS a b s) ↔ RunE a b i j n := by
  constructor
  · intro h t h0 h1
    have := h ⟨i + (t.toNat : Nat), j + (t.toNat : Nat)⟩ (run_mem.2 ⟨t.toNat, by omega, rfl⟩)
    unfold EqS at this
    rw [show ((t.toNat : Nat) : Int) = t from by omega] at this
    exact this
  · intro h s hs
    obtain ⟨t, ht, rfl⟩ := run_mem.1 hs
    exact h t (by omega) (by omega)
theorem fit_nil {a b : List Int} {f : Bool} {i j : Int} : FitL a b f i j [] ↔ (a.length : Int) - i = b.length - j ∧ RunE a b i j (a.length - i) := by
  unfold FitL
  simp only [OkL, mtF]
  rw [run_iff]
theorem fit_cons {a b : List Int} {f : Bool} {i j : Int} {c : Ch} {l : List Ch} : FitL a b f i j (c :: l) ↔ OkC f i j c a.length b.length ∧ RunE a b i j (c.old - i) ∧ FitL a b false (c.old + c.oldLen) (c.new + c.newLen) l := by
  unfold FitL
  simp only [OkL, mtF, List.mem_append]
  rw [← run_iff]
  constructor
  · rintro ⟨⟨h1, h2⟩, h3⟩
    exact ⟨h1, fun s hs => h3 s (.inl hs), h2, fun s hs => h3 s (.inr hs)⟩
  · rintro ⟨h1, h2, h3, h4⟩
    exact ⟨⟨h1, h3⟩, fun s hs => hs.elim (h2 s) (h4 s)⟩
theorem RunE.tail {a b : List Int} {i j n : Int} (h : RunE a b i j n) : RunE a b (i + 1) (j + 1) (n - 1) := by
  intro t h0 h1
  have := h (t + 1) (by omega) (by omega)
  rw [show i + (t + 1) = i + 1 + t from by omega, show j + (t + 1) = j + 1 + t from by omega] at this
  exact this
theorem RunE.head {a b : List Int} {i j n : Int} (h : RunE a b i j n) (hn : 0 < n) : gI a i = gI b j := by
  have := h 0 (by omega) hn
  rw [Int.add_zero, Int.add_zero] at this
  exact this
theorem RunE.back {a b : List Int} {i j n : Int} (h : RunE a b i j n) (he : gI a (i - 1) = gI b (j - 1)) : RunE a b (i - 1) (j - 1) (n + 1) := by
  intro t h0 h1
  by_cases ht : t = 0
  · subst ht; rw [Int.add_zero, Int.add_zero]; exact he
  · have := h (t - 1) (by omega) (by omega)
    rw [show i + (t - 1) = i - 1 + t from by omega, show j + (t - 1) = j - 1 + t from by omega] at this
    exact this
theorem RunE.less {a b : List Int} {i j n n' : Int} (h : RunE a b i j n) (hn : n' ≤ n) : RunE a b i j n' := fun t h0 h1 => h t h0 (by omega)
theorem RunE.snoc {a b : List Int} {i j n : Int} (h : RunE a b i j n) (he : gI a (i + n) = gI b (j + n)) : RunE a b i j (n + 1) := by
  intro t h0 h1
  by_cases ht : t = n
  · subst ht; exact he
  · exact h t h0 (by omega)
theorem fit_rest {a b : List Int} {e g : Int} {l : List Ch} (h : FitL a b false e g l) (hr : e < topE a.length l) : gI a e = gI b g ∧ FitL a b false (e + 1) (g + 1) l := by
  cases l with
  | nil =>
    obtain ⟨h1, h2⟩ := fit_nil.1 h
    simp only [topE] at hr
    refine ⟨h2.head (by omega), fit_nil.2 ⟨by omega, ?_⟩⟩
    have := h2.tail
    rw [show (a.length : Int) - e - 1 = a.length - (e + 1) from by omega] at this
    exact this
  | cons x l =>
    obtain ⟨⟨h1, h2, h3⟩, h4, h5⟩ := fit_cons.1 h
    simp only [topE] at hr
    refine ⟨h4.head (by omega), fit_cons.2 ⟨⟨h1, by omega, fun _ => by omega⟩, ?_, h5⟩⟩
    have := h4.tail
    rw [show x.old - e - 1 = x.old - (e + 1) from by omega] at this
    exact this
theorem fit_grow {a b : List Int} {e g : Int} {l : List Ch} (h : FitL a b false e g l) (hr : gI a (e - 1) = gI b (g - 1)) : FitL a b false (e - 1) (g - 1) l := by
  cases l with
  | nil =>
    obtain ⟨h1, h2⟩ := fit_nil.1 h
    refine fit_nil.2 ⟨by omega, ?_⟩
    have := h2.back hr
    rw [show (a.length : Int) - e + 1 = a.length - (e - 1) from by omega] at this
    exact this
  | cons x l =>
    obtain ⟨⟨h1, h2, h3⟩, h4, h5⟩ := fit_cons.1 h
    have h6 := h3 rfl
    refine fit_cons.2 ⟨⟨h1, by omega, fun _ => by omega⟩, ?_, h5⟩
    have := h4.back hr
    rw [show x.old - e + 1 = x.old - (e - 1) from by omega] at this
    exact this
/-- What lies behind the lines that a change may pass. -/
theorem fit_top {a b : List Int} {e g : Int} {l : List Ch} (h : FitL a b false e g l) (he : e ≤ a.length) : e ≤ topE a.length l ∧ topE a.length l ≤ a.length ∧ topE a.length l - e ≤ b.length - g ∧ (l = [] → topE a.length l - e = b.length - g) ∧ (l ≠ [] → topE a.length l < a.length ∧ topE a.length l - e < b.length - g) := by
  cases l with
  | nil =>
    obtain ⟨h1, _⟩ := fit_nil.1 h
    simp only [topE]
    exact ⟨he, Int.le_refl _, by omega, fun _ => by omega, fun h => absurd rfl h⟩
  | cons x l =>
    obtain ⟨⟨⟨⟨a0, a1, a2⟩, ⟨b0, b1, b2⟩, _⟩, h2, h3⟩, _⟩ := fit_cons.1 h
    have h6 := h3 rfl
    simp only [topE]
    exact ⟨by omega, by omega, by omega, fun h => (by cases h), fun _ => ⟨by omega, by omega⟩⟩
theorem dnB_spec {a b : List Int} {c : Ch} (h : dnB a b c = true) : (c.newLen = 0 ∧ gI a c.old = gI a (c.old + c.oldLen)) ∨ (c.oldLen = 0 ∧ gI b c.new = gI b (c.new + c.newLen)) := by
  unfold dnB at h
  obtain ⟨hp, h⟩ := of_decide_eq_true h
  unfold txt frC lnC at h
  by_cases hn : c.newLen = 0
  · simp only [if_pos hn] at h; exact .inl ⟨hn, h⟩
  · simp only [if_neg hn] at h; exact .inr ⟨hp.resolve_left hn, h⟩
theorem upB_spec {a b : List Int} {c : Ch} (h : upB a b c = true) : (c.newLen = 0 ∧ gI a (c.old + c.oldLen - 1) = gI a (c.old - 1)) ∨ (c.oldLen = 0 ∧ gI b (c.new + c.newLen - 1) = gI b (c.new - 1)) := by
  unfold upB at h
  obtain ⟨hp, h⟩ := of_decide_eq_true h
  unfold txt frC lnC at h
  by_cases hn : c.newLen = 0
  · simp only [if_pos hn] at h; exact .inl ⟨hn, h⟩
  · simp only [if_neg hn] at h; exact .inr ⟨hp.resolve_left hn, h⟩
theorem fit_down {a b : List Int} {f : Bool} {i j : Int} {c : Ch} {l : List Ch} (h : FitL a b f i j (c :: l)) (hd : dnB a b c = true) (hr : c.old + c.oldLen < topE a.length l) : FitL a b f i j (sh c 1 :: l) := by
  obtain ⟨⟨⟨⟨a0, a1, a2⟩, ⟨b0, b1, b2⟩, ne⟩, h2, h3⟩, h4, h5⟩ := fit_cons.1 h
  obtain ⟨he, h6⟩ := fit_rest h5 hr
  have ht := fit_top h5 (by omega)
  refine fit_cons.2 ⟨⟨⟨⟨?_, a1, ?_⟩, ⟨?_, b1, ?_⟩, ne⟩, ?_, fun hf => ?_⟩, ?_, ?_⟩
  · show 0 ≤ c.old + 1; omega
  · show c.oldLen ≤ _ - (c.old + 1); omega
  · show 0 ≤ c.new + 1; omega
  · show c.newLen ≤ _ - (c.new + 1); omega
  · show c.old + 1 - i = c.new + 1 - j; omega
  · have := h3 hf; show 1 ≤ c.old + 1 - i; omega
  · have h7 : gI a c.old = gI b c.new := by
      rcases dnB_spec hd with ⟨e1, e2⟩ | ⟨e1, e2⟩
      · rw [e2, he, e1, Int.add_zero]
      · rw [e2, ← he, e1, Int.add_zero]
    have := h4.snoc (by rw [show i + (c.old - i) = c.old from by omega, h2, show j + (c.new - j) = c.new from by omega]; exact h7)
    show RunE a b i j (c.old + 1 - i)
    rw [show c.old + 1 - i = c.old - i + 1 from by omega]
    exact this
  · show FitL a b false (c.old + 1 + c.oldLen) (c.new + 1 + c.newLen) l
    rw [show c.old + 1 + c.oldLen = c.old + c.oldLen + 1 from by omega, show c.new + 1 + c.newLen = c.new + c.newLen + 1 from by omega]
    exact h6
/-- Where the lines begin from which a change may take its own. -/
def firstI (f : Bool) (i : Int) : Int := if f = true then i else i + 1
theorem fit_up {a b : List Int} {f : Bool} {i j : Int} {c : Ch} {l : List Ch} (hi : 0 ≤ i) (hj : 0 ≤ j) (h : FitL a b f i j (c :: l)) (hd : upB a b c = true) (hr : firstI f i < c.old) : FitL a b f i j (sh c (-1) :: l) := by
  obtain ⟨⟨⟨⟨a0, a1, a2⟩, ⟨b0, b1, b2⟩, ne⟩, h2, h3⟩, h4, h5⟩ := fit_cons.1 h
  have hr2 : i < c.old ∧ (f = false → i + 1 < c.old) := by
    unfold firstI at hr
    cases f with
    | true => rw [if_pos rfl] at hr; exact ⟨hr, fun h => by cases h⟩
    | false => rw [if_neg (by simp)] at hr; exact ⟨by omega, fun _ => hr⟩
  have h7 : gI a (c.old - 1) = gI b (c.new - 1) := by
    have := h4 (c.old - 1 - i) (by omega) (by omega)
    rw [show i + (c.old - 1 - i) = c.old - 1 from by omega, show j + (c.old - 1 - i) = c.new - 1 from by omega] at this
    exact this
  refine fit_cons.2 ⟨⟨⟨⟨?_, a1, ?_⟩, ⟨?_, b1, ?_⟩, ne⟩, ?_, fun hf => ?_⟩, ?_, ?_⟩
  · show 0 ≤ c.old + -1; omega
  · show c.oldLen ≤ _ - (c.old + -1); omega
  · show 0 ≤ c.new + -1; omega
  · show c.newLen ≤ _ - (c.new + -1); omega
  · show c.old + -1 - i = c.new + -1 - j; omega
  · have := hr2.2 hf; show 1 ≤ c.old + -1 - i; omega
  · exact h4.less (by show c.old + -1 - i ≤ c.old - i; omega)
  · show FitL a b false (c.old + -1 + c.oldLen) (c.new + -1 + c.newLen) l
    rw [show c.old + -1 + c.oldLen = c.old + c.oldLen - 1 from by omega, show c.new + -1 + c.newLen = c.new + c.newLen - 1 from by omega]
    refine fit_grow h5 ?_
    rcases upB_spec hd with ⟨e1, e2⟩ | ⟨e1, e2⟩
    · rw [e2, h7, e1, Int.add_zero]
    · rw [e2, ← h7, e1, Int.add_zero]
theorem fit_dn {a b : List Int} {f : Bool} {i j : Int} {l : List Ch} : ∀ (L : Nat) (c : Ch), FitL a b f i j (c :: l) → L ≤ lowD a.length l c → FitL a b f i j (sh c (dnR a b c L : Nat) :: l)
  | 0, c, h, _ => by rw [show dnR a b c 0 = 0 from rfl, show ((0 : Nat) : Int) = 0 from rfl, sh_zero]; exact h
  | L + 1, c, h, hL => by
    by_cases hd : dnB a b c = true
    · rw [dnR_T hd (Nat.succ_pos _), show L.succ - 1 = L from rfl]
      unfold lowD at hL
      have h1 := fit_dn L (sh c 1) (fit_down h hd (by omega)) (by unfold lowD sh; simp only; omega)
      rw [sh_sh, show (1 : Int) + (dnR a b (sh c 1) L : Nat) = ((dnR a b (sh c 1) L + 1 : Nat) : Int) from by omega] at h1
      exact h1
    · rw [dnR_F (.inl (by simpa using hd)), show ((0 : Nat) : Int) = 0 from rfl, sh_zero]; exact h
theorem fit_un {a b : List Int} {f : Bool} {i j : Int} {l : List Ch} (hi : 0 ≤ i) (hj : 0 ≤ j) : ∀ (L : Nat) (c : Ch), FitL a b f i j (c :: l) → L ≤ (c.old - firstI f i).toNat → FitL a b f i j (sh c (-(upR a b c L : Nat)) :: l)
  | 0, c, h, _ => by rw [show upR a b c 0 = 0 from rfl, show (-((0 : Nat) : Int)) = 0 from rfl, sh_zero]; exact h
  | L + 1, c, h, hL => by
    by_cases hd : upB a b c = true
    · rw [upR_T hd (Nat.succ_pos _), show L.succ - 1 = L from rfl]
      have h1 := fit_un hi hj L (sh c (-1)) (fit_up hi hj h hd (by omega)) (by unfold sh; simp only; omega)
      rw [sh_sh, show (-1 : Int) + -(upR a b (sh c (-1)) L : Nat) = -((upR a b (sh c (-1)) L + 1 : Nat) : Int) from by omega] at h1
      exact h1
    · rw [upR_F (.inl (by simpa using hd)), show (-((0 : Nat) : Int)) = 0 from rfl, sh_zero]; exact h
theorem fit_head {a b : List Int} {f : Bool} {i j : Int} {c : Ch} {l l' : List Ch} (h : FitL a b f i j (c :: l)) (h' : FitL a b false (c.old + c.oldLen) (c.new + c.newLen) l') : FitL a b f i j (c :: l') := by
  obtain ⟨h1, h2, _⟩ := fit_cons.1 h
  exact fit_cons.2 ⟨h1, h2, h'⟩
theorem fit_tail {a b : List Int} {f : Bool} {i j : Int} {c : Ch} {l : List Ch} (h : FitL a b f i j (c :: l)) : FitL a b false (c.old + c.oldLen) (c.new + c.newLen) l := (fit_cons.1 h).2.2
theorem fit_downF {a b : List Int} : ∀ (l : List Ch) (f : Bool) (i j : Int), FitL a b f i j l → FitL a b f i j (downF a b a.length l)
  | [], _, _, _, h => h
  | c :: l, _, _, _, h => fit_dn _ c (fit_head h (fit_downF l _ _ _ (fit_tail h))) (Nat.le_refl _)
theorem fit_pos {a b : List Int} {f : Bool} {i j : Int} {c : Ch} {l : List Ch} (h : FitL a b f i j (c :: l)) : 0 ≤ c.old + c.oldLen ∧ 0 ≤ c.new + c.newLen := by
  obtain ⟨⟨⟨⟨a0, a1, a2⟩, ⟨b0, b1, b2⟩, ne⟩, h2, h3⟩, h4, h5⟩ := fit_cons.1 h
  omega
theorem up_next (c : Ch) (d : Nat) : c.old - (d : Int) + c.oldLen + 1 = firstI false ((sh c (-(d : Int))).old + (sh c (-(d : Int))).oldLen) := by
  unfold firstI sh
  simp only [Bool.false_eq_true, if_false]
  omega
theorem fit_upF {a b : List Int} : ∀ (l : List Ch) (f : Bool) (i j : Int), 0 ≤ i → 0 ≤ j → FitL a b f i j l → FitL a b f i j (upF a b (firstI f i) l)
  | [], _, _, _, _, _, h => h
  | c :: l, f, i, j, hi, hj, h => by
    have h1 := fit_un hi hj (c.old - firstI f i).toNat c h (Nat.le_refl _)
    simp only [upF]
    rw [up_next]
    have h2 := fit_pos h1
    exact fit_head h1 (fit_upF l _ _ _ h2.1 h2.2 (fit_tail h1))
theorem fit_mid {a b : List Int} : ∀ (k : Nat) (l : List Ch) (f : Bool) (i j : Int), FitL a b f i j l → FitL a b f i j (l.take k ++ downF a b a.length (l.drop k))
  | 0, l, f, i, j, h => fit_downF l f i j h
  | _ + 1, [], _, _, _, h => h
  | _ + 1, _ :: l, _, _, _, h => fit_head h (fit_mid _ l _ _ _ (fit_tail h))
theorem fit_midU {a b : List Int} : ∀ (k : Nat) (l : List Ch) (f : Bool) (i j : Int), 0 ≤ i → 0 ≤ j → FitL a b f i j l → FitL a b f i j ((upF a b (firstI f i) l).take k ++ l.drop k)
  | 0, _, _, _, _, _, _, h => h
  | _ + 1, [], _, _, _, _, _, h => h
  | k + 1, c :: l, f, i, j, hi, hj, h => by
    have h1 := fit_un hi hj (c.old - firstI f i).toNat c h (Nat.le_refl _)
    simp only [upF, List.take_succ_cons, List.drop_succ_cons]
    rw [up_next]
    have h2 := fit_pos h1
    exact fit_head h1 (fit_midU k l _ _ _ h2.1 h2.2 (fit_tail h1))
-- place by place
/-- Where the change before place k ends, in the old text. -/
def prE (l : List Ch) : Nat → Int
  | 0 => 0
  | k + 1 => (l.getD k ⟨0, 0, 0, 0⟩).old + (l.getD k ⟨0, 0, 0, 0⟩).oldLen + 1
theorem fit_drop {a b : List Int} : ∀ (k : Nat) (l : List Ch) (f : Bool) (i j : Int), 0 ≤ i → 0 ≤ j → FitL a b f i j l → k < l.length → ∃ f' i' j', 0 ≤ i' ∧ 0 ≤ j' ∧ FitL a b f' i' j' (l.drop k) ∧ (k = 0 → f' = f ∧ i' = i) ∧ (0 < k → f' = false ∧ firstI f' i' = prE l k)
  | 0, _, f, i, j, hi, hj, h, _ => ⟨f, i, j, hi, hj, h, fun _ => ⟨rfl, rfl⟩, fun h => absurd h (Nat.lt_irrefl _)⟩
  | k + 1, [], _, _, _, _, _, _, hk => absurd hk (Nat.not_lt_zero _)
  | k + 1, c :: l, f, i, j, hi, hj, h, hk => by
    have h2 := fit_pos h
    obtain ⟨f', i', j', g1, g2, g3, g4, g5⟩ := fit_drop k l false (c.old + c.oldLen) (c.new + c.newLen) h2.1 h2.2 (fit_tail h) (by simpa using hk)
    refine ⟨f', i', j', g1, g2, g3, fun h => absurd h (Nat.succ_ne_zero _), fun _ => ?_⟩
    rcases Nat.eq_zero_or_pos k with rfl | h0
    · obtain ⟨rfl, rfl⟩ := g4 rfl
      exact ⟨rfl, by simp [firstI, prE]⟩
    · obtain ⟨e1, e2⟩ := g5 h0
      refine ⟨e1, e2.trans ?_⟩
      obtain ⟨q, rfl⟩ : ∃ q, k = q + 1 := ⟨k - 1, by omega⟩
      rfl
structure AtK (a b : List Int) (l : List Ch) (k : Nat) (c : Ch) : Prop where
  o0 : 0 ≤ c.old
  o1 : 0 ≤ c.oldLen
  n0 : 0 ≤ c.new
  n1 : 0 ≤ c.newLen
  om : c.old + c.oldLen ≤ a.length
  nm : c.new + c.newLen ≤ b.length
  ne : ¬ (c.oldLen = 0 ∧ c.newLen = 0)
  up0 : 0 ≤ prE l k
  up : prE l k ≤ c.old
  upN : c.old - prE l k ≤ c.new
  up00 : k = 0 → c.old = c.new
  upNN : 0 < k → c.old - prE l k < c.new
  dn : c.old + c.oldLen ≤ topE a.length (l.drop (k + 1))
  dnM : topE a.length (l.drop (k + 1)) ≤ a.length
  dnN : topE a.length (l.drop (k + 1)) - (c.old + c.oldLen) ≤ b.length - (c.new + c.newLen)
  dnE : l.length ≤ k + 1 → topE a.length (l.drop (k + 1)) - (c.old + c.oldLen) = b.length - (c.new + c.newLen)
  dnL : k + 1 < l.length → topE a.length (l.drop (k + 1)) < a.length ∧ topE a.length (l.drop (k + 1)) - (c.old + c.oldLen) < b.length - (c.new + c.newLen)
theorem fit_at {a b : List Int} {l : List Ch} (h : FitL a b true 0 0 l) (k : Nat) (hk : k < l.length) : AtK a b l k l[k] := by
  obtain ⟨f, i, j, hi, hj, hd, g0, g1⟩ := fit_drop k l true 0 0 (Int.le_refl _) (Int.le_refl _) h hk
  rw [List.drop_eq_getElem_cons hk] at hd
  obtain ⟨⟨⟨⟨a0, a1, a2⟩, ⟨b0, b1, b2⟩, ne⟩, h2, h3⟩, h4, h5⟩ := fit_cons.1 hd
  obtain ⟨t0, t1, t2, t3, t4⟩ := fit_top h5 (by omega)
  have hE : l.length ≤ k + 1 → l.drop (k + 1) = [] := fun h => List.drop_eq_nil_of_le h
  have hL : k + 1 < l.length → l.drop (k + 1) ≠ [] := fun h e => by
    have := congrArg List.length e
    rw [List.length_drop, List.length_nil] at this
    omega
  have hp : 0 ≤ prE l k ∧ prE l k ≤ l[k].old ∧ l[k].old - prE l k ≤ l[k].new ∧ (k = 0 → l[k].old = l[k].new) ∧ (0 < k → l[k].old - prE l k < l[k].new) := by
    rcases Nat.eq_zero_or_pos k with h0 | h0
    · obtain ⟨rfl, rfl⟩ := g0 h0
      have hz : prE l k = 0 := by rw [h0]; rfl
      have hj0 : j = 0 := by
        subst h0
        obtain ⟨c, l, rfl⟩ : ∃ c l', l = c :: l' := by cases l with
          | nil => exact absurd hk (Nat.not_lt_zero _)
          | cons c l => exact ⟨c, l, rfl⟩
        have := (fit_cons.1 h).1.2.1
        simp only [List.getElem_cons_zero] at h2
        omega
      exact ⟨by omega, by omega, by omega, fun _ => by omega, fun h => by omega⟩
    · obtain ⟨rfl, e⟩ := g1 h0
      have h6 := h3 rfl
      simp only [firstI, Bool.false_eq_true, if_false] at e
      exact ⟨by omega, by omega, by omega, fun h => by omega, fun h => by omega⟩
  exact ⟨a0, a1, b0, b1, by omega, by omega, ne, hp.1, hp.2.1, hp.2.2.1, hp.2.2.2.1, hp.2.2.2.2, t0, t1, t2, fun h => t3 (hE h), fun h => t4 (hL h)⟩
end Sl
end Go.Proofs.Ytldommbelpcegaa

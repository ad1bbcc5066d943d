/-
  The walk of the law ShortestLimits of layer 9. No conditions.
-/
import Derived.Test.YtlnjhacchnfbkaaShoGen
namespace Go.Proofs.Ytlnjhacchnfbkaa
open Go.RowKit
namespace Sh
open Cm Sc
theorem wk_same (l : List Int) : ∀ i j : Int, wkF i j l l = run i j l.length := by
  induction l with
  | nil => intro i j; rw [wkF_nil]; rfl
  | cons x l ih => intro i j; rw [wkF_eq, ih, List.length_cons, run_cons]
theorem scr_same (l : List Int) : scrF l l = [] := by
  unfold scrF
  rw [wk_same]
  have h := frF_run (m := (l.length : Int)) (n := (l.length : Int)) [] l.length 0 0
  rw [List.append_nil] at h
  rw [h]
  simp only [frF]
  rw [Int.zero_add, btw_same]
set_option maxRecDepth 100000 in
set_option maxHeartbeats 4000000 in
theorem limits_walk (more : Bool) (w : World) : Calls Try.prog 9 #[.bool more] w (AwPost w) := by
  have HAw := Lib.hid (fun w => awake_any w)
  cases more with
  | false =>
    obtain ⟨n, hn⟩ : ∃ n : Nat, n = 4096 := ⟨_, rfl⟩
    have hn1 : n ≤ 4096 := by omega
    have hn2 : (4096 : Int) = (n : Int) := by omega
    have HN := Lib.hid hn2
    clear hn hn2
    have HL : Hid (∀ w' : World, Blk w' w.heap.size tI (List.replicate n (.int .i64 0)) → RdV w' (.slice (some ⟨w.heap.size, 0, none⟩) n n) (intsV (List.replicate n 0))) := Lib.hid (fun w' h => by
      have := h.rd
      rw [List.length_replicate] at this
      rw [show intsV (List.replicate n 0) = List.replicate n (.int .i64 0) from by simp [intsV]]
      exact this)
    obtain ⟨l, hl⟩ : ∃ l : List Int, l = List.replicate n 0 := ⟨_, rfl⟩
    have HLl : Hid (n = l.length) := Lib.hid (by rw [hl, List.length_replicate])
    have HLz : Hid (∀ z ∈ l, zB z) := Lib.hid (fun z hz => by rw [hl] at hz; rw [List.eq_of_mem_replicate hz]; exact ⟨by decide, by decide⟩)
    have HZn : Hid (∀ z ∈ ([] : List Int), zB z) := Lib.hid (fun z hz => by cases hz)
    rw [← hl] at HL
    clear hl
    go_enter Try.func9, Try.ntmps9
    go_upto_region 5 with (refine mk_row rfl (.tmp 15) (.tmp 15) rfl Try.underlying22 info_i rfl (by omega) n (congrArg (Value.int .i64) HN.out) (congrArg (Value.int .i64) HN.out) (by omega) ?_; intro w1 HR1 _ hb1; have HB1 := Lib.hid hb1; have HA1 := Lib.hid (HL.out w1 HR1.out); clear hb1 HR1)
    clear HL
    have HS := Lib.hid (Script_at _ _ _ _ n n l l w1 HA1 HA1 hn1 hn1 HLl HLl HLz HLz)
    rw [scr_same] at HS
    go_wp2_with fail
    refine HS.out.mono ?_
    rintro e w2 ⟨v2, rfl, ho2, hb2⟩
    obtain ⟨A2, c2, rfl⟩ := ho2.rd.form
    have HB2 := Lib.hid (HB1.out.trans (hb2.mono HB1.out.size))
    have HA2 := Lib.hid (HA1.out.below hb2)
    clear ho2 hb2 HS HB1 HA1
    have HS := Lib.hid (Distance_at none _ 0 _ 0 n [] l w2 (Lib.hid (RdV.nil w2)) HA2 (by omega) hn1 (Lib.hid rfl) HLl HZn HLz)
    generalize dist [] l = d1 at HS
    go_wp2_with fail
    refine HS.out.mono ?_
    rintro e w3 ⟨rfl, hb3⟩
    have HB3 := Lib.hid (HB2.out.trans (hb3.mono HB2.out.size))
    have HA3 := Lib.hid (HA2.out.below hb3)
    clear hb3 HS HB2 HA2
    have HS := Lib.hid (Common_at _ none _ 0 n 0 l [] w3 HA3 (Lib.hid (RdV.nil w3)) hn1 (by omega) HLl (Lib.hid rfl) HLz HZn)
    generalize lcs l [] = d2 at HS
    go_wp2_with fail
    refine HS.out.mono ?_
    rintro e w4 ⟨rfl, hb4⟩
    have HB4 := Lib.hid (HB3.out.trans (hb4.mono HB3.out.size))
    clear hb4 HS HB3 HA3
    go_wp2_with fail
    refine (HAw.out _).mono ?_
    rintro e w5 ⟨rfl, hb5⟩
    have HB5 := Lib.hid (HB4.out.trans (hb5.mono HB4.out.size))
    go_wp2_with fail
    go_ret
    exact ⟨rfl, HB5.out⟩
  | true =>
    obtain ⟨n, hn⟩ : ∃ n : Nat, n = 4097 := ⟨_, rfl⟩
    have hn1 : n ≤ 4194304 := by omega
    have hn2 : (4097 : Int) = (n : Int) := by omega
    have hn3 : 4096 < n := by omega
    have HN := Lib.hid hn2
    clear hn hn2
    go_enter Try.func9, Try.ntmps9
    go_upto_region 5 with (refine mk_row rfl (.tmp 15) (.tmp 15) rfl Try.underlying22 info_i rfl (by omega) n (congrArg (Value.int .i64) HN.out) (congrArg (Value.int .i64) HN.out) (by omega) ?_; intro w1 HR1 _ hb1; have HB1 := Lib.hid hb1; clear hb1 HR1)
    go_wp2_with fail
    refine (Script_long _ _ _ _ n n _ (.inl hn3)).mono ?_
    rintro e w2 ⟨rfl, rfl⟩
    go_wp2_with fail
    refine (Distance_long _ _ _ _ 0 n _ (.inr hn3)).mono ?_
    rintro e w2 ⟨rfl, rfl⟩
    go_wp2_with fail
    refine (Common_long _ _ _ _ n 0 _ (.inl hn3)).mono ?_
    rintro e w2 ⟨rfl, rfl⟩
    go_wp2_with fail
    refine (HAw.out _).mono ?_
    rintro e w5 ⟨rfl, hb5⟩
    have HB5 := Lib.hid (HB1.out.trans (hb5.mono HB1.out.size))
    go_wp2_with fail
    go_ret
    exact ⟨rfl, HB5.out⟩
end Sh
end Go.Proofs.Ytlnjhacchnfbkaa

/-
  The chapter's example: its patch and its text, as plain mathematics.
-/
import Derived.Test.YtjamacdefcgbaaaGreatDoorUniFmt
import Derived.Test.YtjamacdefcgbaaaGreatDoorUniMake
namespace Go.Proofs.YtjamacdefcgbaaaGreatDoor
open Go.RowKit
namespace Uf
open Cm Hn
open Sc (fmtR)
open Tx (bs)
def xB : ByteArray := ⟨#[120]⟩
def exS : ByteArray := ⟨#[97, 10, 98]⟩
def exT : ByteArray := ⟨#[97, 10, 99, 10]⟩
def l1B : ByteArray := ⟨#[97, 10]⟩
def l2B : ByteArray := ⟨#[98]⟩
def l3B : ByteArray := ⟨#[99, 10]⟩
def exP : Pat := ⟨xB, xB, [⟨0, 0, [⟨32, l1B⟩, ⟨45, l2B⟩, ⟨43, l3B⟩]⟩]⟩
def exB : List UInt8 := [45, 45, 45, 32, 120, 10, 43, 43, 43, 32, 120, 10, 64, 64, 32, 45, 49, 44, 50, 32, 43, 49, 44, 50, 32, 64, 64, 10, 32, 97, 10, 45, 98, 10, 92, 32, 78, 111, 32, 110, 101, 119, 108, 105, 110, 101, 32, 97, 116, 32, 101, 110, 100, 32, 111, 102, 32, 102, 105, 108, 101, 10, 43, 99, 10]
theorem ex_ls : Sh.lnB exS = [l1B, l2B] := by rfl
theorem ex_lt : Sh.lnB exT = [l1B, l3B] := by rfl
theorem ex_blb : Sh.blbF exS exT = [⟨1, 1, 1, 1⟩] := by
  obtain ⟨x, hx⟩ : ∃ x, Nt.placeI (Nt.namesF [[l1B, l2B], [l1B, l3B]]) l1B = x := ⟨_, rfl⟩
  obtain ⟨y, hy⟩ : ∃ x, Nt.placeI (Nt.namesF [[l1B, l2B], [l1B, l3B]]) l2B = x := ⟨_, rfl⟩
  obtain ⟨z, hz⟩ : ∃ x, Nt.placeI (Nt.namesF [[l1B, l2B], [l1B, l3B]]) l3B = x := ⟨_, rfl⟩
  have hyz : y ≠ z := by
    rw [← hy, ← hz]
    intro h
    have := (Nt.placeI_inj (Nt.mem_namesF (f := [l1B, l2B]) (by simp) (by simp)) (Nt.mem_namesF (f := [l1B, l3B]) (by simp) (by simp))).1 h
    exact absurd (congrArg bs this) (by decide)
  have ha : Sh.idA exS exT = [x, y] := by
    unfold Sh.idA
    rw [ex_ls, ex_lt, List.map_cons, List.map_cons, List.map_nil, hx, hy]
  have hb : Sh.idB exS exT = [x, z] := by
    unfold Sh.idB
    rw [ex_ls, ex_lt, List.map_cons, List.map_cons, List.map_nil, hx, hz]
  unfold Sh.blbF
  rw [ha, hb]
  unfold Sh.scrF
  rw [Sh.wkF_eq, Sh.wkF_old hyz (by simp [Sh.lcs, hyz]), Sh.wkF_nil]
  rfl
theorem ex_mk : mkP xB xB exS exT 1 false = exP := by
  unfold mkP
  rw [if_pos (by decide), ex_ls, ex_lt]
  unfold scrD
  rw [if_neg (by decide), ex_blb]
  rfl
theorem ex_mc : mkC xB xB 1 = 0 := by decide
theorem dec1 : Lib.decDigits 1 = [49] := by
  rw [Lib.decDigits]
  rfl
theorem dec2 : Lib.decDigits 2 = [50] := by
  rw [Lib.decDigits]
  rfl
theorem fm12 : fmtR 0 2 = [49, 44, 50] := by
  have h1 : Sc.fmtF 1 = [49] := by
    unfold Sc.fmtF
    rw [if_neg (by decide)]
    exact dec1
  have h2 : Sc.fmtF 2 = [50] := by
    unfold Sc.fmtF
    rw [if_neg (by decide)]
    exact dec2
  rw [Sc.fmtR_n 0 2 (by decide) (by decide) (by decide)]
  show Sc.fmtF 1 ++ [44] ++ Sc.fmtF 2 = _
  rw [h1, h2]
  rfl
theorem ex_hdr : hdrF 0 0 [⟨32, l1B⟩, ⟨45, l2B⟩, ⟨43, l3B⟩] = [64, 64, 32, 45, 49, 44, 50, 32, 43, 49, 44, 50, 32, 64, 64, 10] := by
  unfold hdrF
  show [64, 64, 32, 45] ++ fmtR 0 2 ++ [32, 43] ++ fmtR 0 2 ++ [32, 64, 64, 10] = _
  rw [fm12]
  rfl
theorem ex_parts : joinL (partsF exP) = exB := by
  show joinL (hdPt xB xB :: (⟨(hdrF 0 0 [⟨32, l1B⟩, ⟨45, l2B⟩, ⟨43, l3B⟩]).toArray⟩ :: lnsPt [⟨32, l1B⟩, ⟨45, l2B⟩, ⟨43, l3B⟩] ++ [])) = exB
  rw [ex_hdr]
  rfl
theorem ex_chk : chkC exP = 0 := by
  unfold chkC
  rw [if_pos (by decide), if_pos (by rfl), if_pos (by rw [← joinL_len, ex_parts]; decide)]
theorem ex_fmt : fmtB exP = ⟨exB.toArray⟩ := by
  unfold fmtB
  rw [if_pos ex_chk, ex_parts]
end Uf
end Go.Proofs.YtjamacdefcgbaaaGreatDoor

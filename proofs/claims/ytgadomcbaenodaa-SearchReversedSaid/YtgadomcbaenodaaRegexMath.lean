/-
  Patterns, as plain mathematics: what the document's parser makes of a list of bytes. No program, no memory. No conditions.
-/
import Derived.Test.YtgadomcbaenodaaRegexNode
import Derived.Test.YtgadomcbaenodaaScanMath
namespace Go.Proofs.Ytgadomcbaenodaa
open Go.RowKit
namespace Rx
abbrev Res := Except Int (Int × Nat × List Nd)
def noSet : Nat → Bool := fun _ => false
def allSet : Nat → Bool := fun x => !noSet x
def plainN (kind : Int) : Nd := ⟨kind, noSet, 0, 0, []⟩
def setN (m : Nat → Bool) : Nd := ⟨1, m, 0, 0, []⟩
def repN (mn mx k : Int) : Nd := ⟨6, noSet, mn, mx, [k]⟩
def manyN (kind : Int) (kids : List Int) : Nd := ⟨kind, noSet, 0, 0, kids⟩
/-- A bracket's bounds: the place is at its first byte; the answer's place is at the last one. -/
def finB (l : List UInt8) (m : Nat) (h : Int) (nx : Nat) : Option (Nat × Int × Nat) := if l[nx]? = some 125 ∧ m ≤ 100 ∧ h ≤ 100 ∧ (0 ≤ h → (m : Int) ≤ h) then some (m, h, nx) else none
def boundsF (l : List UInt8) (at_ : Nat) : Option (Nat × Int × Nat) :=
  match Sc.numF l ((at_ : Int) + 1) with
  | none => none
  | some (m, nx) =>
    if l[nx]? = some 44 then
      if nx + 1 < l.length ∧ l[nx + 1]? ≠ some 125 then
        match Sc.numF l ((nx : Int) + 1) with
        | none => none
        | some (h, nx2) => finB l m h nx2
      else finB l m (-1) (nx + 1)
    else finB l m m nx
/-- Where the name of a class ends: at its colon, or near the end. -/
def nameEnd (l : List UInt8) : Nat → Nat → Nat
  | 0, i => i
  | f + 1, i => if i + 1 < l.length ∧ ¬ (l[i]? = some 58 ∧ l[i + 1]? = some 93) then nameEnd l f (i + 1) else i
/-- The items of a class, up to its bracket. -/
def itemsF (l : List UInt8) : Nat → Bool → Nat → (Nat → Bool) → Option ((Nat → Bool) × Nat)
  | 0, _, _, _ => none
  | f + 1, first, at_, m =>
    if !first && l[at_]? == some 93 then some (m, at_)
    else match l[at_]? with
    | none => none
    | some c =>
      if c = 91 ∧ l[at_ + 1]? = some 58 then
        let i := nameEnd l l.length (at_ + 2)
        match clsF ((l.drop (at_ + 2)).take (i - (at_ + 2))) with
        | none => none
        | some p => if l.length ≤ i + 1 then none else itemsF l f false (i + 2) (fun x => m x || (decide (x < 256) && p x))
      else if l[at_ + 1]? = some 45 ∧ at_ + 2 < l.length ∧ l[at_ + 2]? ≠ some 93 then
        let h := (l[at_ + 2]?.getD 0)
        if h < c then none else itemsF l f false (at_ + 3) (fun x => m x || (decide (c.toNat ≤ x) && decide (x ≤ h.toNat)))
      else itemsF l f false (at_ + 1) (fun x => m x || x == c.toNat)
/-- What follows a bracket. -/
def classF (l : List UInt8) (at_ : Nat) : Option ((Nat → Bool) × Nat) :=
  if l[at_]? = some 94 then (itemsF l (l.length + 1) true (at_ + 1) noSet).map fun (m, a) => ((fun x => !m x), a + 1)
  else (itemsF l (l.length + 1) true at_ noSet).map fun (m, a) => (m, a + 1)
def noAtom (c : UInt8) : Bool := c == 41 || c == 124 || c == 42 || c == 43 || c == 63 || c == 123
/-- One atom; p reads a group's pattern, if groups may open here. -/
def atomF (l : List UInt8) (p : Option (Nat → List Nd → Res)) (at_ : Nat) (ns : List Nd) : Res :=
  match l[at_]? with
  | none => .error 0
  | some c =>
    if c = 40 then
      match p with
      | none => .error 1
      | some p => match p (at_ + 1) ns with
        | .error e => .error e
        | .ok (k, a, ns2) => if l[a]? = some 41 then .ok (k, a + 1, ns2) else .error 40
    else if c = 91 then
      match classF l (at_ + 1) with
      | none => .error 40
      | some (m, a) => .ok (ns.length, a, ns ++ [setN m])
    else if c = 46 then .ok (ns.length, at_ + 1, ns ++ [setN allSet])
    else if c = 94 then .ok (ns.length, at_ + 1, ns ++ [plainN 2])
    else if c = 36 then .ok (ns.length, at_ + 1, ns ++ [plainN 3])
    else if noAtom c then .error 40
    else if c = 92 then
      match l[at_ + 1]? with
      | none => .error 40
      | some b => .ok (ns.length, at_ + 2, ns ++ [setN (putM noSet b.toNat)])
    else .ok (ns.length, at_ + 1, ns ++ [setN (putM noSet c.toNat)])
/-- A quantifier's bounds, and the place of its last byte; none: no quantifier; an error. -/
def quantF (l : List UInt8) (a : Nat) : Option (Option (Nat × Int × Nat)) :=
  match l[a]? with
  | none => none
  | some c => if c = 42 then some (some (0, -1, a)) else if c = 43 then some (some (1, -1, a)) else if c = 63 then some (some (0, 1, a)) else if c = 123 then some (boundsF l a) else none
def pieceF (l : List UInt8) (p : Option (Nat → List Nd → Res)) (at_ : Nat) (ns : List Nd) : Res :=
  match atomF l p at_ ns with
  | .error e => .error e
  | .ok (k, a, ns1) =>
    match quantF l a with
    | none => .ok (k, a, ns1)
    | some none => .error 40
    | some (some (m, h, a2)) => if l[at_]? = some 94 ∨ l[at_]? = some 36 then .error 40 else .ok (ns1.length, a2 + 1, ns1 ++ [repN m h k])
/-- May a piece begin here? -/
def moreF (l : List UInt8) (inner : Bool) (at_ : Nat) : Bool := match l[at_]? with | none => false | some c => c != 124 && !(c == 41 && inner)
/-- Pieces, as many as there are. -/
def piecesF (l : List UInt8) (p : Option (Nat → List Nd → Res)) (inner : Bool) : Nat → Nat → List Nd → List Int → Except Int (List Int × Nat × List Nd)
  | 0, _, _, _ => .error 0
  | f + 1, at_, ns, kids =>
    if moreF l inner at_ then
      match pieceF l p at_ ns with
      | .error e => .error e
      | .ok (k, a, ns1) => piecesF l p inner f a ns1 (kids ++ [k])
    else .ok (kids, at_, ns)
def altF (l : List UInt8) (p : Option (Nat → List Nd → Res)) (inner : Bool) (at_ : Nat) (ns : List Nd) : Res :=
  match piecesF l p inner (l.length + 1) at_ ns [] with
  | .error e => .error e
  | .ok ([], a, ns1) => .ok (ns1.length, a, ns1 ++ [plainN 0])
  | .ok ([k], a, ns1) => .ok (k, a, ns1)
  | .ok (kids, a, ns1) => .ok (ns1.length, a, ns1 ++ [manyN 4 kids])
/-- The alternatives behind the first one. -/
def altsF (l : List UInt8) (p : Option (Nat → List Nd → Res)) (inner : Bool) : Nat → Nat → List Nd → List Int → Except Int (List Int × Nat × List Nd)
  | 0, _, _, _ => .error 0
  | f + 1, at_, ns, kids =>
    if l[at_]? = some 124 then
      match altF l p inner (at_ + 1) ns with
      | .error e => .error e
      | .ok (k, a, ns1) => altsF l p inner f a ns1 (kids ++ [k])
    else .ok (kids, at_, ns)
def patF (l : List UInt8) (p : Option (Nat → List Nd → Res)) (inner : Bool) (at_ : Nat) (ns : List Nd) : Res :=
  match altF l p inner at_ ns with
  | .error e => .error e
  | .ok (k, a, ns1) =>
    match altsF l p inner (l.length + 1) a ns1 [k] with
    | .error e => .error e
    | .ok ([k], a2, ns2) => .ok (k, a2, ns2)
    | .ok (kids, a2, ns2) => .ok (ns2.length, a2, ns2 ++ [manyN 5 kids])
/-- The pattern of a group that g groups may still open in. -/
def groupF (l : List UInt8) : Nat → Nat → List Nd → Res
  | 0 => patF l none true
  | g + 1 => patF l (some (groupF l g)) true
def parseF (l : List UInt8) : Except Int (List Nd) :=
  if 256 < l.length then .error 1
  else match patF l (some (groupF l 49)) false 0 [] with
  | .error e => .error e
  | .ok (_, a, ns) => if a < l.length then .error 40 else .ok ns
end Rx
end Go.Proofs.Ytgadomcbaenodaa

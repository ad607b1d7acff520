import Derived.Test.YtmlkhhhjdpbhfaaDoorPlainCells
/- The document's answer on a list of parts, as plain functions: which parts a part has, which stand in a struct, which are bound. -/
namespace Go.Proofs.YtmlkhhhjdpbhfaaDoor
open Go.RowKit

def itd (its : List It) (k : Nat) : It := its.getD k {}
/-- the first part that is not within part k -/
def nxt (its : List It) (k : Nat) : Nat := k + (itd its k).nx.toNat

/-- the parts lie as they should: each reaches behind itself and not too far; one that has a part within has one -/
structure Wf (its : List It) : Prop where
  pos : ∀ k, k < its.length → 1 ≤ (itd its k).nx ∧ k + (itd its k).nx ≤ its.length
  one : ∀ k, k < its.length → inB [119, 64, 115] (itd its k).c = true → k + 1 < its.length
  byte : ∀ k, k < its.length → 0 ≤ (itd its k).c ∧ (itd its k).c ≤ 255

def stepsV (its : List It) (lim : Nat) : Nat → Nat → List Nat
  | 0, _ => []
  | f + 1, i => if i < lim then i :: stepsV its lim f (nxt its i) else []

def kidsV (its : List It) (k : Nat) : List Nat := stepsV its (nxt its k) its.length (k + 1)

def usesB (c : Int) : Bool := inB [114, 116, 119, 64, 115] c
def hidesB (c : Int) : Bool := c == 104 || c == 107

/-- what stands behind a window, at or summed part, so far as it uses a dependency -/
def chainV (its : List It) : Nat → Nat → List Nat
  | 0, _ => []
  | f + 1, i => if inB [119, 64, 115] (itd its i).c then (if usesB (itd its (i + 1)).c then (i + 1) :: chainV its f (i + 1) else chainV its f (i + 1)) else []

def standingV (its : List It) (k : Nat) : List Nat := (kidsV its k).flatMap fun i => i :: chainV its its.length i

def oftenP (its : List It) (d : Int) (hidden : Bool) (i : Nat) : Bool := (itd its i).d == d && ((hidden && hidesB (itd its i).c) || (!hidden && usesB (itd its i).c))
def oftenV (its : List It) (l : List Nat) (d : Int) (hidden : Bool) : Nat := (l.filter (oftenP its d hidden)).length

def memB (l : List Nat) (k : Nat) : Bool := decide (k ∈ l)

/-- does part k stand in the struct s, so that this decides? -/
def decides (its : List It) (k s : Nat) : Bool :=
  (itd its s).c == 40 && decide (k < nxt its s) && memB (standingV its s) k && (!(hidesB (itd its k).c) || memB (kidsV its s) k)

def verdict (its : List It) (k s : Nat) : Bool :=
  let l := standingV its s
  let l0 := l.take (l.idxOf k)
  let d := (itd its k).d
  if hidesB (itd its k).c then (oftenV its l0 d true == 0) && decide (0 < oftenV its l d false)
  else decide (0 < oftenV its l0 d true) && (oftenV its l0 d false == 0)

def boundV (its : List It) (k : Nat) : Bool :=
  if !(hidesB (itd its k).c) && !(usesB (itd its k).c) then true
  else match (List.range k).find? (decides its k) with
    | some s => verdict its k s
    | none => false

/-- the least place, so far bad (or -1), among those of the parts that fall -/
def worst (its : List It) (fall : Nat → Bool) : Nat → Int → Int
  | 0, bad => bad
  | n + 1, bad => if fall n && (decide (worst its fall n bad < 0) || decide ((itd its n).pl < worst its fall n bad)) then (itd its n).pl else worst its fall n bad

theorem getD_lt {α : Type} (l : List α) (j : Nat) (d : α) (h : j < l.length) : l.getD j d = l[j] := by simp [List.getD, h]

end Go.Proofs.YtmlkhhhjdpbhfaaDoor

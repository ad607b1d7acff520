import Derived.Test.YtmlkhhhjdpbhfaaDoorPlain
/- What the head of a part comes to, as a plain function of the text's bytes. -/
namespace Go.Proofs.YtmlkhhhjdpbhfaaDoor
open Go.RowKit

/-- one part: its letter (a rule's is 82), width, byte, rule, dependency, place, the number of the first part not within it, its rule -/
structure It where
  c : Int := 0
  w : Int := 0
  b : Int := 0
  r : Int := 0
  d : Int := 0
  pl : Int := 0
  nx : Int := 0
  rl : Int := 0

def kW (c : Int) : Bool := inB [110, 108, 104, 107] c
def kD (c : Int) : Bool := inB [104, 107, 114, 116, 119, 64, 115] c
def kAny (c : Int) : Bool := inB [110, 108, 40, 47, 42, 104, 107, 114, 116, 119, 64, 115, 46] c
def kIn (c : Int) : Int := if c = 40 then -1 else if c = 47 then 2 else if inB [42, 116, 119, 64, 115] c then 1 else 0

/-- what a head comes to: does it stand; the place behind it (or the one that cannot be); how many parts are within; the part -/
structure Hd where
  ok : Bool
  i : Nat
  inn : Int := 0
  it : It := {}

def depHd (s : ByteArray) (c : Int) (i : Nat) (it : It) : Hd :=
  if kD c then
    if 97 ≤ bt s i ∧ bt s i ≤ 104 then { ok := true, i := i + 1, inn := kIn c, it := { it with d := bt s i - 97, pl := i } } else { ok := false, i := i }
  else { ok := true, i := i, inn := kIn c, it := it }

def headV (s : ByteArray) (a : Nat) : Hd :=
  if 65 ≤ bt s a ∧ bt s a ≤ 72 then { ok := true, i := a + 1, it := { c := 82, r := bt s a - 65, pl := a } }
  else if bt s a = 39 then
    if hexV (bt s (a + 1)) < 0 then { ok := false, i := a + 1 }
    else if hexV (bt s (a + 2)) < 0 then { ok := false, i := a + 2 }
    else { ok := true, i := a + 3, it := { c := 39, b := 16 * hexV (bt s (a + 1)) + hexV (bt s (a + 2)), pl := a } }
  else if kAny (bt s a) then
    if kW (bt s a) then
      if 49 ≤ bt s (a + 1) ∧ bt s (a + 1) ≤ 52 then depHd s (bt s a) (a + 2) { c := bt s a, w := bt s (a + 1) - 48, pl := a } else { ok := false, i := a + 1 }
    else depHd s (bt s a) (a + 1) { c := bt s a, pl := a }
  else { ok := false, i := a }

theorem hexV_bd (c : Int) : -1 ≤ hexV c ∧ hexV c ≤ 15 := by unfold hexV; split <;> (try split) <;> omega
theorem letterV_bd (c a b : Int) (h0 : 0 ≤ c) (h1 : c ≤ 255) (h2 : 0 ≤ a) : -1 ≤ letterV c a b ∧ letterV c a b ≤ 255 := by unfold letterV; split <;> omega
theorem letterV_no (c a b : Int) (h : ¬ (a ≤ c ∧ c ≤ b)) : letterV c a b = -1 := by unfold letterV; rw [if_pos (by omega)]
theorem letterV_yes (c a b : Int) (h : a ≤ c ∧ c ≤ b) : letterV c a b = c - a := by unfold letterV; rw [if_neg (by omega)]

end Go.Proofs.YtmlkhhhjdpbhfaaDoor

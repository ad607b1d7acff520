import Derived.Test.YtmlkhhhjdpbhfaaDoorPlainRef
/- What reading a grammar's rules comes to, as plain functions. -/
namespace Go.Proofs.YtmlkhhhjdpbhfaaDoor
open Go.RowKit

/-- a rule: its number, the place of its letter, its parts -/
structure Rl where
  r : Int
  pl : Nat
  its : List It

structure RRes where
  ok : Bool
  i : Nat
  rls : List Rl

def RRes.pre (l : List Rl) (q : RRes) : RRes := ⟨q.ok, q.i, l ++ q.rls⟩

/-- the rules from the place a on, k more at the most; the next one's letter is none behind top -/
def rulesV (s : ByteArray) : Nat → Int → Nat → RRes
  | 0, _, a => ⟨false, a, []⟩
  | k + 1, top, a =>
    if ¬ (65 ≤ bt s a ∧ bt s a ≤ top) then ⟨false, a, []⟩
    else if bt s (a + 1) ≠ 61 then ⟨false, a + 1, []⟩
    else if ¬ (prs s (bt s a - 65) (s.size + 1) (a + 2)).ok = true then ⟨false, (prs s (bt s a - 65) (s.size + 1) (a + 2)).i, []⟩
    else if (prs s (bt s a - 65) (s.size + 1) (a + 2)).i = s.size then ⟨true, s.size, [⟨bt s a - 65, a, (prs s (bt s a - 65) (s.size + 1) (a + 2)).its⟩]⟩
    else if k = 0 ∨ bt s (prs s (bt s a - 65) (s.size + 1) (a + 2)).i ≠ 59 then ⟨false, (prs s (bt s a - 65) (s.size + 1) (a + 2)).i, []⟩
    else (rulesV s k 72 ((prs s (bt s a - 65) (s.size + 1) (a + 2)).i + 1)).pre [⟨bt s a - 65, a, (prs s (bt s a - 65) (s.size + 1) (a + 2)).its⟩]

def formV (s : ByteArray) : RRes := rulesV s 8 65 0

def allIts (rls : List Rl) : List It := rls.flatMap Rl.its

/-- is there a rule of this number? -/
def hasR (rls : List Rl) (r : Int) : Bool := rls.any fun x => x.r == r

/-- the place of the first rule whose number was there before; -1 -/
def twiceV : List Rl → List Rl → Int
  | _, [] => -1
  | seen, x :: t => if hasR seen x.r then x.pl else twiceV (seen ++ [x]) t

theorem twiceV_snoc (seen l : List Rl) (x : Rl) : twiceV seen (l ++ [x]) = if 0 ≤ twiceV seen l then twiceV seen l else if hasR (seen ++ l) x.r then x.pl else -1 := by
  induction l generalizing seen with
  | nil => simp [twiceV]
  | cons y t ih =>
    simp only [List.cons_append, twiceV]
    split
    · rw [if_pos (by omega)]
    · rw [ih]; simp

theorem twiceV_lo (seen l : List Rl) : -1 ≤ twiceV seen l := by
  induction l generalizing seen with
  | nil => simp [twiceV]
  | cons y t ih => rw [twiceV]; split; omega; exact ih _

theorem hasR_snoc (l : List Rl) (x : Rl) (r : Int) : hasR (l ++ [x]) r = (hasR l r || x.r == r) := by simp [hasR]

theorem allIts_snoc (l : List Rl) (x : Rl) : allIts (l ++ [x]) = allIts l ++ x.its := by simp [allIts]


/-- the same answer: where it falls its rules don't matter -/
def EqR (x y : RRes) : Prop := x.ok = y.ok ∧ x.i = y.i ∧ (y.ok = true → x.rls = y.rls)

theorem EqR.refl (x : RRes) : EqR x x := ⟨rfl, rfl, fun _ => rfl⟩
theorem EqR.trans {x y z : RRes} (h : EqR x y) (k : EqR y z) : EqR x z := ⟨h.1.trans k.1, h.2.1.trans k.2.1, fun hz => (h.2.2 (k.1.trans hz)).trans (k.2.2 hz)⟩

/-- what is left when n rules are read and the place is a -/
def restF (s : ByteArray) (n a : Nat) (rls : List Rl) : RRes :=
  if a = s.size then ⟨true, s.size, rls⟩ else if n = 8 ∨ bt s a ≠ 59 then ⟨false, a, rls⟩ else (rulesV s (8 - n) 72 (a + 1)).pre rls

theorem rules_step (s : ByteArray) (k : Nat) (top : Int) (a : Nat) (rls : List Rl) (n : Nat) (hk : k + 1 + n = 8) (h1 : 65 ≤ bt s a ∧ bt s a ≤ top) (h2 : bt s (a + 1) = 61)
    (h3 : (prs s (bt s a - 65) (s.size + 1) (a + 2)).ok = true) :
    EqR ((rulesV s (k + 1) top a).pre rls) (restF s (n + 1) (prs s (bt s a - 65) (s.size + 1) (a + 2)).i (rls ++ [⟨bt s a - 65, a, (prs s (bt s a - 65) (s.size + 1) (a + 2)).its⟩])) := by
  rw [rulesV, if_neg (by simpa using h1), if_neg (by simpa using h2), if_neg (by simpa using h3)]
  unfold restF
  split
  · exact ⟨rfl, rfl, fun _ => by simp [RRes.pre]⟩
  · rename_i hne
    by_cases hc : k = 0 ∨ bt s (prs s (bt s a - 65) (s.size + 1) (a + 2)).i ≠ 59
    · rw [if_pos hc, if_pos (by rcases hc with h | h; exact Or.inl (by omega); exact Or.inr h)]
      exact ⟨rfl, rfl, fun h => by cases h⟩
    · rw [if_neg hc, if_neg (by intro h; apply hc; rcases h with h | h; exact Or.inl (by omega); exact Or.inr h), show 8 - (n + 1) = k by omega]
      exact ⟨rfl, rfl, fun _ => by simp [RRes.pre]⟩

theorem rules_fail1 (s : ByteArray) (k : Nat) (top : Int) (a : Nat) (rls : List Rl) (h : ¬ (65 ≤ bt s a ∧ bt s a ≤ top)) : (rulesV s (k + 1) top a).pre rls = ⟨false, a, rls⟩ := by
  rw [rulesV, if_pos h]; simp [RRes.pre]
theorem rules_fail2 (s : ByteArray) (k : Nat) (top : Int) (a : Nat) (rls : List Rl) (h : 65 ≤ bt s a ∧ bt s a ≤ top) (h2 : bt s (a + 1) ≠ 61) : (rulesV s (k + 1) top a).pre rls = ⟨false, a + 1, rls⟩ := by
  rw [rulesV, if_neg (by simpa using h), if_pos h2]; simp [RRes.pre]
theorem rules_fail3 (s : ByteArray) (k : Nat) (top : Int) (a : Nat) (rls : List Rl) (h : 65 ≤ bt s a ∧ bt s a ≤ top) (h2 : bt s (a + 1) = 61) (h3 : (prs s (bt s a - 65) (s.size + 1) (a + 2)).ok = false) :
    (rulesV s (k + 1) top a).pre rls = ⟨false, (prs s (bt s a - 65) (s.size + 1) (a + 2)).i, rls⟩ := by
  rw [rulesV, if_neg (by simpa using h), if_neg (by simpa using h2), if_pos (by simp [h3])]; simp [RRes.pre]

end Go.Proofs.YtmlkhhhjdpbhfaaDoor

/- Plain mathematics of packed names: labels, what a name reads as. It reaches nothing of the program. -/
import Derived.Test.YtmlkhhhjdpbhfaaPlain
namespace Go.Proofs.Ytmlkhhhjdpbhfaa
open Go.RowKit

theorem hid_of {p : Prop} (h : p) : Hid p := h

/-- may a byte stand in a label? -/
def ofB (c : Int) : Bool := decide ((97 ≤ c ∧ c ≤ 122) ∨ (48 ≤ c ∧ c ≤ 57))
/-- may a text be a label? -/
def lblOk (t : ByteArray) : Bool := decide (1 ≤ t.size ∧ t.size ≤ 15) && t.data.toList.all fun b => ofB b.toNat

/-- the next byte is there, and between a and b -/
def tkOk (s : ByteArray) (i : Nat) (a b : Int) : Bool := decide (i < s.size ∧ a ≤ bt s i ∧ bt s i ≤ b)

def btN (s : ByteArray) (i : Nat) : Nat := (bt s i).toNat
theorem btN_eq (s : ByteArray) (i : Nat) : (btN s i : Int) = bt s i := by unfold btN; have := bt_lo s i; omega

/-- the label at place i is right -/
def labV (s : ByteArray) (i : Nat) : Bool := decide (i < s.size ∧ 1 ≤ bt s i ∧ bt s i ≤ 15 ∧ i + btN s i < s.size) && lblOk (s.extract (i + 1) (i + 1 + btN s i))

/-- where the pointer at i leads -/
def ptrV (s : ByteArray) (i : Nat) : Nat := (btN s i - 192) * 256 + btN s (i + 1)

/-- the labels of the name from `at` on, whose pointers must lead below; the place behind it -/
def nameF (s : ByteArray) (a below : Nat) : Option (List ByteArray × Nat) :=
  if h : a < s.size then
    if bt s a = 0 then some ([], a + 1)
    else if 192 ≤ bt s a then
      if h2 : a + 1 < s.size ∧ ptrV s a < below then (nameF s (ptrV s a) (ptrV s a)).map fun r => (r.1, a + 2) else none
    else if labV s a then (nameF s (a + 1 + btN s a) below).map fun r => (s.extract (a + 1) (a + 1 + btN s a) :: r.1, r.2)
    else none
  else none
termination_by (below, s.size - a)
decreasing_by
  · exact Prod.Lex.left _ _ h2.2
  · exact Prod.Lex.right _ (by omega)

/-- labels behind what stands ahead of them, a dot between each two -/
def joinN (nm : List UInt8) : List ByteArray → List UInt8
  | [] => nm
  | l :: r => joinN (if nm = [] then l.data.toList else nm ++ 46 :: l.data.toList) r

theorem joinN_append (nm : List UInt8) (a b : List ByteArray) : joinN nm (a ++ b) = joinN (joinN nm a) b := by
  induction a generalizing nm with
  | nil => rfl
  | cons x t ih => simp only [List.cons_append, joinN]; exact ih _

/-- as the document's answer has it: a dot ahead of each -/
def dotted : List ByteArray → List UInt8
  | [] => []
  | l :: r => 46 :: (l.data.toList ++ dotted r)

theorem dotted_append (a b : List ByteArray) : dotted (a ++ b) = dotted a ++ dotted b := by
  induction a with
  | nil => rfl
  | cons x t ih => simp [dotted, ih]

theorem joinN_ne (nm : List UInt8) (hn : nm ≠ []) (a : List ByteArray) : joinN nm a = nm ++ dotted a := by
  induction a generalizing nm with
  | nil => simp [joinN, dotted]
  | cons x t ih =>
    rw [joinN, if_neg hn, ih _ (by simp)]
    simp [dotted]

theorem lblOk_ne {t : ByteArray} (h : lblOk t = true) : t.data.toList ≠ [] := by
  unfold lblOk at h
  simp at h
  intro e
  have h1 := h.1.1
  have : t.size = 0 := by
    show t.data.size = 0
    rw [← Array.length_toList, e]; rfl
  omega

/-- a name's bytes, out of what has a dot ahead of each label -/
theorem joinN_nil (a : List ByteArray) (h : ∀ t ∈ a, lblOk t = true) : dotted a = if a = [] then [] else 46 :: joinN [] a := by
  cases a with
  | nil => rfl
  | cons x t =>
    rw [if_neg (by simp), joinN, if_pos rfl, joinN_ne _ (lblOk_ne (h x (by simp)))]
    rfl

theorem nameF_ok (s : ByteArray) (a below : Nat) : ∀ r, nameF s a below = some r → (∀ t ∈ r.1, lblOk t = true) ∧ a < r.2 ∧ r.2 ≤ s.size := by
  induction a, below using nameF.induct s with
  | case1 a below h h1 => intro r hr; rw [nameF, dif_pos h, if_pos h1] at hr; cases hr; simp; omega
  | case2 a below h h1 h2 h3 ih =>
    intro r hr
    rw [nameF, dif_pos h, if_neg h1, if_pos h2, dif_pos h3] at hr
    obtain ⟨q, hq, rfl⟩ := Option.map_eq_some_iff.1 hr
    exact ⟨(ih q hq).1, by simp, by simp; omega⟩
  | case3 a below h h1 h2 h3 => intro r hr; rw [nameF, dif_pos h, if_neg h1, if_pos h2, dif_neg h3] at hr; cases hr
  | case4 a below h h1 h2 h3 ih =>
    intro r hr
    rw [nameF, dif_pos h, if_neg h1, if_neg h2, if_pos h3] at hr
    obtain ⟨q, hq, rfl⟩ := Option.map_eq_some_iff.1 hr
    obtain ⟨i1, i2, i3⟩ := ih q hq
    refine ⟨fun t ht => ?_, by simp only; omega, i3⟩
    simp at ht
    rcases ht with rfl | ht
    · unfold labV at h3; simp at h3; exact h3.2
    · exact i1 t ht
  | case5 a below h h1 h2 h3 => intro r hr; rw [nameF, dif_pos h, if_neg h1, if_neg h2, if_neg h3] at hr; cases hr
  | case6 a below h => intro r hr; rw [nameF, dif_neg h] at hr; cases hr

/-- a name's text, if it may be one -/
def nameT (s : ByteArray) (a : Nat) : Option (ByteArray × Nat) :=
  match nameF s a a with
  | some (ls, e) => if 1 ≤ (joinN [] ls).length ∧ (joinN [] ls).length ≤ 60 then some (⟨(joinN [] ls).toArray⟩, e) else none
  | none => none

theorem nameT_ok (s : ByteArray) (a : Nat) (r : ByteArray × Nat) (h : nameT s a = some r) : a < r.2 ∧ r.2 ≤ s.size := by
  unfold nameT at h
  split at h
  · rename_i ls e he
    split at h
    · cases h; exact (nameF_ok s a a _ he).2
    · cases h
  · cases h

/-- all names from a place on; k: how many there are already; else the place of the name that is none -/
def namesF (s : ByteArray) (a k : Nat) : Sum (List ByteArray) Nat :=
  if _h : a < s.size then
    match _hn : nameT s a with
    | some (t, e) => if k = 40 then .inr a else (match namesF s e (k + 1) with | .inl l => .inl (t :: l) | .inr p => .inr p)
    | none => .inr a
  else .inl []
termination_by s.size - a
decreasing_by have := nameT_ok s a _ _hn; simp only at this; omega

end Go.Proofs.Ytmlkhhhjdpbhfaa

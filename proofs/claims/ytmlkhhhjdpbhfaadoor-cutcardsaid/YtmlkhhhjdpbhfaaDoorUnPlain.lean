/- Plain mathematics of packed names: labels, what a name reads as. It reaches nothing of the program. -/
import Derived.Test.YtmlkhhhjdpbhfaaDoorPlain
namespace Go.Proofs.YtmlkhhhjdpbhfaaDoor
open Go.RowKit

theorem hid_of {p : Prop} (h : p) : Hid p := h

/-- may a byte stand in a label? -/
def ofB (c : Int) : Bool := decide ((97 ≤ c ∧ c ≤ 122) ∨ (48 ≤ c ∧ c ≤ 57))
/-- may a text be a label? -/
def lblOk (t : ByteArray) : Bool := decide (1 ≤ t.size ∧ t.size ≤ 15) && t.data.toList.all fun b => ofB b.toNat

/-- the next byte is there, and between a and b -/
def tkOk (s : ByteArray) (i : Nat) (a b : Int) : Bool := decide (i < s.size ∧ a ≤ bt s i ∧ bt s i ≤ b)

def btN (s : ByteArray) (i : Nat) : Nat := (bt s i).toNat
theorem btN_eq (s : ByteArray) (i : Nat) : (btN s i : Int) = bt s i := by unfold btN; have := bt_lo s i; omega

/-- the label at place i is right -/
def labV (s : ByteArray) (i : Nat) : Bool := decide (i < s.size ∧ 1 ≤ bt s i ∧ bt s i ≤ 15 ∧ i + btN s i < s.size) && lblOk (s.extract (i + 1) (i + 1 + btN s i))

/-- where the pointer at i leads -/
def ptrV (s : ByteArray) (i : Nat) : Nat := (btN s i - 192) * 256 + btN s (i + 1)

/-- how far it is at most from a place to the end of what may be read there -/
def measN (s : ByteArray) (a below : Nat) : Nat := below * (s.size + 1) + (s.size - a) + 1
theorem measN_pos (s : ByteArray) (a below : Nat) : 0 < measN s a below := by unfold measN; omega
theorem measN_ptr (s : ByteArray) (a below p : Nat) (h : p < below) : measN s p p + 1 ≤ measN s a below := by
  unfold measN
  have h1 : (p + 1) * (s.size + 1) ≤ below * (s.size + 1) := Nat.mul_le_mul_right _ h
  rw [Nat.add_mul, Nat.one_mul] at h1
  omega
theorem measN_lab (s : ByteArray) (a below n : Nat) (h : a < s.size) : measN s (a + 1 + n) below + 1 ≤ measN s a below := by unfold measN; omega

/-- the labels of the name from a on, whose pointers must lead below; the place behind it; f: fuel -/
def nameG (s : ByteArray) : Nat → Nat → Nat → Option (List ByteArray × Nat)
  | 0, _, _ => none
  | f + 1, a, below =>
    if a < s.size then
      if bt s a = 0 then some ([], a + 1)
      else if 192 ≤ bt s a then
        if a + 1 < s.size ∧ ptrV s a < below then (nameG s f (ptrV s a) (ptrV s a)).map fun r => (r.1, a + 2) else none
      else if labV s a then (nameG s f (a + 1 + btN s a) below).map fun r => (s.extract (a + 1) (a + 1 + btN s a) :: r.1, r.2)
      else none
    else none

theorem nameG_same (s : ByteArray) : ∀ f g a below, measN s a below ≤ f → measN s a below ≤ g → nameG s f a below = nameG s g a below := by
  intro f
  induction f with
  | zero => intro g a below h; have := measN_pos s a below; omega
  | succ f ih =>
    intro g a below h1 h2
    cases g with
    | zero => have := measN_pos s a below; omega
    | succ g =>
      unfold nameG
      by_cases ha : a < s.size
      · rw [if_pos ha, if_pos ha]
        by_cases hp : a + 1 < s.size ∧ ptrV s a < below
        · have := measN_ptr s a below (ptrV s a) hp.2
          have := measN_lab s a below (btN s a) ha
          rw [ih g (ptrV s a) (ptrV s a) (by omega) (by omega), ih g (a + 1 + btN s a) below (by omega) (by omega)]
        · have := measN_lab s a below (btN s a) ha
          rw [if_neg hp, if_neg hp, ih g (a + 1 + btN s a) below (by omega) (by omega)]
      · rw [if_neg ha, if_neg ha]

def nameF (s : ByteArray) (a below : Nat) : Option (List ByteArray × Nat) := nameG s (measN s a below) a below

theorem nameF_eq (s : ByteArray) (a below : Nat) : nameF s a below =
    if a < s.size then
      if bt s a = 0 then some ([], a + 1)
      else if 192 ≤ bt s a then
        if a + 1 < s.size ∧ ptrV s a < below then (nameF s (ptrV s a) (ptrV s a)).map fun r => (r.1, a + 2) else none
      else if labV s a then (nameF s (a + 1 + btN s a) below).map fun r => (s.extract (a + 1) (a + 1 + btN s a) :: r.1, r.2)
      else none
    else none := by
  have hm := measN_pos s a below
  unfold nameF
  obtain ⟨f, hf⟩ : ∃ f, measN s a below = f + 1 := ⟨measN s a below - 1, by omega⟩
  rw [hf, nameG]
  by_cases ha : a < s.size
  · rw [if_pos ha, if_pos ha]
    by_cases hp : a + 1 < s.size ∧ ptrV s a < below
    · have h1 := measN_ptr s a below (ptrV s a) hp.2
      have h2 := measN_lab s a below (btN s a) ha
      rw [nameG_same s f (measN s (ptrV s a) (ptrV s a)) _ _ (by omega) (Nat.le_refl _), nameG_same s f (measN s (a + 1 + btN s a) below) _ _ (by omega) (Nat.le_refl _)]
    · have h2 := measN_lab s a below (btN s a) ha
      rw [if_neg hp, if_neg hp, nameG_same s f (measN s (a + 1 + btN s a) below) _ _ (by omega) (Nat.le_refl _)]
  · rw [if_neg ha, if_neg ha]

/-- labels behind what stands ahead of them, a dot between each two -/
def joinN (nm : List UInt8) : List ByteArray → List UInt8
  | [] => nm
  | l :: r => joinN (if nm = [] then l.data.toList else nm ++ 46 :: l.data.toList) r

theorem joinN_append (nm : List UInt8) (a b : List ByteArray) : joinN nm (a ++ b) = joinN (joinN nm a) b := by
  induction a generalizing nm with
  | nil => rfl
  | cons x t ih => simp only [List.cons_append, joinN]; exact ih _

/-- as the document's answer has it: a dot ahead of each -/
def dotted : List ByteArray → List UInt8
  | [] => []
  | l :: r => 46 :: (l.data.toList ++ dotted r)

theorem dotted_append (a b : List ByteArray) : dotted (a ++ b) = dotted a ++ dotted b := by
  induction a with
  | nil => rfl
  | cons x t ih => simp [dotted, ih]

theorem joinN_ne (nm : List UInt8) (hn : nm ≠ []) (a : List ByteArray) : joinN nm a = nm ++ dotted a := by
  induction a generalizing nm with
  | nil => simp [joinN, dotted]
  | cons x t ih =>
    rw [joinN, if_neg hn, ih _ (by simp)]
    simp [dotted]

theorem lblOk_ne {t : ByteArray} (h : lblOk t = true) : t.data.toList ≠ [] := by
  unfold lblOk at h
  simp at h
  intro e
  have h1 := h.1.1
  have : t.size = 0 := by
    show t.data.size = 0
    rw [← Array.length_toList, e]; rfl
  omega

/-- a name's bytes, out of what has a dot ahead of each label -/
theorem joinN_nil (a : List ByteArray) (h : ∀ t ∈ a, lblOk t = true) : dotted a = if a = [] then [] else 46 :: joinN [] a := by
  cases a with
  | nil => rfl
  | cons x t =>
    rw [if_neg (by simp), joinN, if_pos rfl, joinN_ne _ (lblOk_ne (h x (by simp)))]
    rfl

theorem nameG_ok (s : ByteArray) : ∀ f a below r, nameG s f a below = some r → (∀ t ∈ r.1, lblOk t = true) ∧ a < r.2 ∧ r.2 ≤ s.size := by
  intro f
  induction f with
  | zero => intro a below r hr; cases hr
  | succ f ih =>
    intro a below r hr
    rw [nameG] at hr
    by_cases h : a < s.size
    · rw [if_pos h] at hr
      by_cases h1 : bt s a = 0
      · rw [if_pos h1] at hr; cases hr; simp; omega
      · rw [if_neg h1] at hr
        by_cases h2 : 192 ≤ bt s a
        · rw [if_pos h2] at hr
          by_cases h3 : a + 1 < s.size ∧ ptrV s a < below
          · rw [if_pos h3] at hr
            obtain ⟨q, hq, rfl⟩ := Option.map_eq_some_iff.1 hr
            exact ⟨(ih _ _ q hq).1, by simp, by simp; omega⟩
          · rw [if_neg h3] at hr; cases hr
        · rw [if_neg h2] at hr
          by_cases h3 : labV s a = true
          · rw [if_pos h3] at hr
            obtain ⟨q, hq, rfl⟩ := Option.map_eq_some_iff.1 hr
            obtain ⟨i1, i2, i3⟩ := ih _ _ q hq
            refine ⟨fun t ht => ?_, by simp only; omega, i3⟩
            simp at ht
            rcases ht with rfl | ht
            · unfold labV at h3; simp at h3; exact h3.2
            · exact i1 t ht
          · rw [if_neg h3] at hr; cases hr
    · rw [if_neg h] at hr; cases hr

theorem nameF_ok (s : ByteArray) (a below : Nat) (r : List ByteArray × Nat) (h : nameF s a below = some r) : (∀ t ∈ r.1, lblOk t = true) ∧ a < r.2 ∧ r.2 ≤ s.size := nameG_ok s _ a below r h

/-- a name's text, if it may be one -/
def nameT (s : ByteArray) (a : Nat) : Option (ByteArray × Nat) :=
  match nameF s a a with
  | some (ls, e) => if 1 ≤ (joinN [] ls).length ∧ (joinN [] ls).length ≤ 60 then some (⟨(joinN [] ls).toArray⟩, e) else none
  | none => none

theorem nameT_ok (s : ByteArray) (a : Nat) (r : ByteArray × Nat) (h : nameT s a = some r) : a < r.2 ∧ r.2 ≤ s.size := by
  unfold nameT at h
  split at h
  · rename_i ls e he
    split at h
    · cases h; exact (nameF_ok s a a _ he).2
    · cases h
  · cases h

def preS (t : ByteArray) : Sum (List ByteArray) Nat → Sum (List ByteArray) Nat
  | .inl l => .inl (t :: l)
  | .inr p => .inr p

/-- all names from a place on; k: how many there are already; else the place of the name that is none; f: fuel -/
def namesG (s : ByteArray) : Nat → Nat → Nat → Sum (List ByteArray) Nat
  | 0, _, _ => .inl []
  | f + 1, a, k =>
    if a < s.size then
      match nameT s a with
      | some (t, e) => if k = 40 then .inr a else preS t (namesG s f e (k + 1))
      | none => .inr a
    else .inl []

theorem namesG_same (s : ByteArray) : ∀ f g a k, s.size - a ≤ f → s.size - a ≤ g → namesG s f a k = namesG s g a k := by
  intro f
  induction f with
  | zero =>
    intro g a k h _
    cases g with
    | zero => rfl
    | succ g => rw [namesG, namesG, if_neg (by omega)]
  | succ f ih =>
    intro g a k h1 h2
    cases g with
    | zero => rw [namesG, namesG, if_neg (by omega)]
    | succ g =>
      unfold namesG
      by_cases ha : a < s.size
      · rw [if_pos ha, if_pos ha]
        cases hn : nameT s a with
        | none => rfl
        | some r =>
          obtain ⟨t, e⟩ := r
          have hok := nameT_ok s a _ hn
          simp only at hok ⊢
          rw [ih g e (k + 1) (by omega) (by omega)]
      · rw [if_neg ha, if_neg ha]

def namesF (s : ByteArray) (a k : Nat) : Sum (List ByteArray) Nat := namesG s (s.size - a) a k

theorem namesF_end {s : ByteArray} {p k : Nat} (h : ¬ p < s.size) : namesF s p k = .inl [] := by
  unfold namesF
  rw [show s.size - p = 0 by omega]; rfl
theorem namesF_none {s : ByteArray} {p k : Nat} (h : p < s.size) (hn : nameT s p = none) : namesF s p k = .inr p := by
  unfold namesF
  obtain ⟨f, hf⟩ : ∃ f, s.size - p = f + 1 := ⟨s.size - p - 1, by omega⟩
  rw [hf, namesG, if_pos h, hn]
theorem namesF_full {s : ByteArray} {p : Nat} (h : p < s.size) : namesF s p 40 = .inr p := by
  unfold namesF
  obtain ⟨f, hf⟩ : ∃ f, s.size - p = f + 1 := ⟨s.size - p - 1, by omega⟩
  rw [hf, namesG, if_pos h]
  cases nameT s p <;> rfl
theorem namesF_some {s : ByteArray} {p k e : Nat} {x : ByteArray} (h : p < s.size) (hn : nameT s p = some (x, e)) (hk : k ≠ 40) : namesF s p k = preS x (namesF s e (k + 1)) := by
  have hok := nameT_ok s p _ hn
  simp only at hok
  unfold namesF
  obtain ⟨f, hf⟩ : ∃ f, s.size - p = f + 1 := ⟨s.size - p - 1, by omega⟩
  rw [hf, namesG, if_pos h, hn]
  simp only
  rw [if_neg hk, namesG_same s f (s.size - e) e (k + 1) (by omega) (Nat.le_refl _)]

end Go.Proofs.YtmlkhhhjdpbhfaaDoor

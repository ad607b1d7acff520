/- Plain mathematics of packing names: pieces between dots, endings that were written, the bytes. -/
import Derived.Test.YtmlkhhhjdpbhfaaDoorUnPlain
import Derived.Lib.SplitLaws
import Derived.Lib.IndexBytes
import Derived.Lib.IndexMore
namespace Go.Proofs.YtmlkhhhjdpbhfaaDoor
open Go.RowKit

def bs (l : List UInt8) : ByteArray := ⟨l.toArray⟩
theorem bs_list (l : List UInt8) : (bs l).data.toList = l := rfl
theorem bs_of (b : ByteArray) : bs b.data.toList = b := rfl
theorem bs_size (l : List UInt8) : (bs l).size = l.length := by show l.toArray.size = _; simp
theorem size_list (b : ByteArray) : b.data.toList.length = b.size := by rw [Array.length_toList]; rfl
theorem bs_inj {a b : List UInt8} (h : bs a = bs b) : a = b := by rw [← bs_list a, h, bs_list]
theorem bs_extract (l : List UInt8) (i j : Nat) : (bs l).extract i j = bs ((l.drop i).take (j - i)) := by
  apply ByteArray.ext
  apply Array.ext'
  rw [ByteArray.data_extract, Array.toList_extract]
  rfl

/-- the place of the first dot; the length, if there is none -/
def dotAt : List UInt8 → Nat
  | [] => 0
  | c :: r => if c = 46 then 0 else dotAt r + 1

theorem dotAt_le (l : List UInt8) : dotAt l ≤ l.length := by
  induction l with
  | nil => simp [dotAt]
  | cons c r ih => unfold dotAt; split <;> simp <;> omega

/-- what stands between the dots -/
def pieces : List UInt8 → List (List UInt8)
  | [] => [[]]
  | c :: r => if c = 46 then [] :: pieces r else (match pieces r with | p :: q => (c :: p) :: q | [] => [[c]])

theorem pieces_cons (c : UInt8) (r : List UInt8) : pieces (c :: r) = if c = 46 then [] :: pieces r else (match pieces r with | p :: q => (c :: p) :: q | [] => [[c]]) := rfl
theorem dotAt_cons (c : UInt8) (r : List UInt8) : dotAt (c :: r) = if c = 46 then 0 else dotAt r + 1 := rfl

theorem pieces_eq (l : List UInt8) : pieces l = l.take (dotAt l) :: (if dotAt l = l.length then [] else pieces (l.drop (dotAt l + 1))) := by
  induction l with
  | nil => rfl
  | cons c r ih =>
    rw [pieces_cons, dotAt_cons]
    by_cases hc : c = 46
    · rw [if_pos hc, if_pos hc, if_neg (by simp)]
      simp
    · rw [if_neg hc, if_neg hc, ih]
      simp only [List.take_succ_cons, List.drop_succ_cons, List.length_cons, Nat.add_right_cancel_iff]

theorem indexByte_dot (l : List UInt8) : Lib.indexByte l 46 = if dotAt l = l.length then -1 else (dotAt l : Int) := by
  induction l with
  | nil => rfl
  | cons c r ih =>
    unfold Lib.indexByte dotAt
    by_cases hc : c = 46
    · subst hc; simp
    · have : (c == 46) = false := by simpa using hc
      rw [if_neg (by simp [this]), if_neg hc, ih]
      by_cases hr : dotAt r = r.length
      · rw [if_pos hr, if_pos (by rfl), if_pos (by simp [hr])]
      · rw [if_neg hr, if_neg (by simp), if_neg (by simp; exact hr)]
        push_cast; rfl

theorem cut_dot (l : List UInt8) : Lib.cut l [46] = if dotAt l = l.length then (l, [], false) else (l.take (dotAt l), l.drop (dotAt l + 1), true) := by
  unfold Lib.cut
  rw [Lib.index_one, indexByte_dot]
  by_cases h : dotAt l = l.length
  · rw [if_pos h, if_pos h, if_neg (by omega)]
  · rw [if_neg h, if_neg h, if_pos (by omega)]
    simp

def dotB : ByteArray := ⟨#[46]⟩

theorem indexB_dot (s : ByteArray) : Lib.indexB s dotB = if dotAt s.data.toList = s.data.toList.length then -1 else (dotAt s.data.toList : Int) := by
  show Lib.index s.data.toList [46] = _
  rw [Lib.index_one, indexByte_dot]

theorem split_dot : ∀ (n : Nat) (s : ByteArray), s.size ≤ n → (Lib.splitB dotB 0 (Lib.countB s dotB) s).map (·.data.toList) = pieces s.data.toList := by
  intro n
  induction n with
  | zero =>
    intro s hs
    have h0 : s.data.toList = [] := List.eq_nil_of_length_eq_zero (by rw [size_list]; omega)
    have hi : Lib.indexB s dotB = -1 := by rw [indexB_dot, h0]; rfl
    rw [Lib.splitB_miss _ _ _ _ hi]
    simp [h0, pieces]
  | succ n ih =>
    intro s hs
    have hd := indexB_dot s
    by_cases h : dotAt s.data.toList = s.data.toList.length
    · rw [if_pos h] at hd
      rw [Lib.splitB_miss _ _ _ _ hd, pieces_eq, if_pos h, h, List.take_of_length_le (Nat.le_refl _)]
      rfl
    · rw [if_neg h] at hd
      have hle := dotAt_le s.data.toList
      rw [size_list] at hle h
      have hc := Lib.countB_hit s dotB (dotAt s.data.toList) (by decide) hd
      have hsz : dotB.size = 1 := rfl
      rw [hsz] at hc
      have hex : s.extract (dotAt s.data.toList + 1) s.size = bs (s.data.toList.drop (dotAt s.data.toList + 1)) := by
        have := bs_extract s.data.toList (dotAt s.data.toList + 1) s.size
        rw [bs_of] at this
        rw [this, List.take_of_length_le (by rw [List.length_drop, size_list]; omega)]
      have hex0 : s.extract 0 (dotAt s.data.toList + 0) = bs (s.data.toList.take (dotAt s.data.toList)) := by
        have := bs_extract s.data.toList 0 (dotAt s.data.toList + 0)
        rw [bs_of] at this
        rw [this]; simp
      rw [hc, Nat.add_comm 1, Lib.splitB_hit dotB 0 _ s _ hd, hsz, hex0, hex, List.map_cons, ih _ (by rw [bs_size, List.length_drop, size_list]; omega), bs_list, bs_list]
      rw [pieces_eq s.data.toList, if_neg (by rw [size_list]; exact h)]

/-- may a text be a name? -/
def nmOk (l : List UInt8) : Bool := decide (l.length ≤ 60) && (pieces l).all fun p => lblOk (bs p)

/-- where an ending began, if it was written -/
def findE (ends : List (List UInt8 × Nat)) (l : List UInt8) : Option Nat := (ends.find? fun q => q.1 == l).map (·.2)

def ptrB (p : Nat) : List UInt8 := [UInt8.ofNat (192 + p / 256), UInt8.ofNat (p % 256)]

/-- one name more: st: the bytes and the endings so far; f: fuel -/
def packF : Nat → List UInt8 → List UInt8 × List (List UInt8 × Nat) → List UInt8 × List (List UInt8 × Nat)
  | 0, _, st => st
  | f + 1, l, st =>
    match findE st.2 l with
    | some p => (st.1 ++ ptrB p, st.2)
    | none =>
      if dotAt l = l.length then (st.1 ++ UInt8.ofNat (dotAt l) :: l.take (dotAt l) ++ [0], st.2 ++ [(l, st.1.length)])
      else packF f (l.drop (dotAt l + 1)) (st.1 ++ UInt8.ofNat (dotAt l) :: l.take (dotAt l), st.2 ++ [(l, st.1.length)])

def packN (l : List UInt8) (st : List UInt8 × List (List UInt8 × Nat)) : List UInt8 × List (List UInt8 × Nat) := packF (l.length + 1) l st
def packL (names : List (List UInt8)) : List UInt8 × List (List UInt8 × Nat) := names.foldl (fun st n => packN n st) ([], [])

/-- what PackNames answers -/
def packV (names : List (List UInt8)) : ByteArray × Int :=
  if 40 < names.length then (ByteArray.empty, 1) else if names.all nmOk then (bs (packL names).1, 0) else (ByteArray.empty, 14)

theorem findE_none_append {ends : List (List UInt8 × Nat)} {l : List UInt8} {p : Nat} (h : findE ends l = none) (x : List UInt8) : findE (ends ++ [(l, p)]) x = if x = l then some p else findE ends x := by
  unfold findE
  rw [List.find?_append]
  by_cases hx : x = l
  · subst hx
    rw [if_pos rfl]
    have : ends.find? (fun q => q.1 == x) = none := by
      unfold findE at h
      exact Option.map_eq_none_iff.1 h
    rw [this]
    simp
  · rw [if_neg hx]
    cases ends.find? (fun q => q.1 == x) with
    | some q => rfl
    | none =>
      have : (l == x) = false := by simpa using fun e => hx e.symm
      simp [this]

/-- all endings lie within what is written -/
def EndsIn (st : List UInt8 × List (List UInt8 × Nat)) : Prop := st.2.length ≤ st.1.length ∧ ∀ q ∈ st.2, q.2 < st.1.length

theorem findE_lt {st : List UInt8 × List (List UInt8 × Nat)} (h : EndsIn st) {l : List UInt8} {p : Nat} (hf : findE st.2 l = some p) : p < st.1.length := by
  unfold findE at hf
  obtain ⟨q, hq, rfl⟩ := Option.map_eq_some_iff.1 hf
  exact h.2 q (List.mem_of_find?_eq_some hq)

theorem EndsIn.lab {st : List UInt8 × List (List UInt8 × Nat)} (h : EndsIn st) (l m : List UInt8) (c : UInt8) : EndsIn (st.1 ++ c :: m, st.2 ++ [(l, st.1.length)]) := by
  refine ⟨by have := h.1; simp; omega, fun q hq => ?_⟩
  rcases List.mem_append.1 hq with hq | hq
  · have := h.2 q hq; simp; omega
  · simp at hq; subst hq; simp

theorem EndsIn.more {st : List UInt8 × List (List UInt8 × Nat)} (h : EndsIn st) (m : List UInt8) : EndsIn (st.1 ++ m, st.2) :=
  ⟨by have := h.1; simp; omega, fun q hq => by have := h.2 q hq; simp; omega⟩

/-- the names' pieces are labels -/
theorem pieces_head {l : List UInt8} (h : (pieces l).all (fun p => lblOk (bs p)) = true) : lblOk (bs (l.take (dotAt l))) = true ∧ (dotAt l ≠ l.length → (pieces (l.drop (dotAt l + 1))).all (fun p => lblOk (bs p)) = true) := by
  rw [pieces_eq, List.all_cons, Bool.and_eq_true] at h
  refine ⟨h.1, fun hd => ?_⟩
  rw [if_neg hd] at h
  exact h.2

theorem lbl_len {l : List UInt8} (h : lblOk (bs l) = true) : 1 ≤ l.length ∧ l.length ≤ 15 := by
  unfold lblOk at h
  rw [bs_size] at h
  simp at h
  exact h.1

end Go.Proofs.YtmlkhhhjdpbhfaaDoor

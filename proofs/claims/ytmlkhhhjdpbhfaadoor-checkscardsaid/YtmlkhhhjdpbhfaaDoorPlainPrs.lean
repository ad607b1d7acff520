import Derived.Test.YtmlkhhhjdpbhfaaDoorPlainHead
/- What parsing a grammar's part comes to, as a plain function; the cells of the parts. -/
namespace Go.Proofs.YtmlkhhhjdpbhfaaDoor
open Go.RowKit

/-- what parsing comes to: does it stand; the place behind it (or the one that cannot be); the parts in their order -/
structure Res where
  ok : Bool
  i : Nat
  its : List It

def Res.pre (l : List It) (q : Res) : Res := ⟨q.ok, q.i, l ++ q.its⟩

def loopN (p : Nat → Res) : Nat → Nat → Res
  | 0, i => ⟨true, i, []⟩
  | k + 1, i => if (p i).ok = true then (loopN p k (p i).i).pre (p i).its else ⟨false, (p i).i, []⟩

def loopB (p : Nat → Res) (s : ByteArray) : Nat → Nat → Res
  | 0, i => ⟨false, i, []⟩
  | f + 1, i => if (p i).ok = true then (if bt s (p i).i = 41 then ⟨true, (p i).i + 1, (p i).its⟩ else (loopB p s f (p i).i).pre (p i).its) else ⟨false, (p i).i, []⟩

def inner (p : Nat → Res) (s : ByteArray) (f : Nat) (h : Hd) : Res := if h.inn < 0 then loopB p s f h.i else loopN p h.inn.toNat h.i

def prs (s : ByteArray) (rule : Int) : Nat → Nat → Res
  | 0, a => ⟨false, a, []⟩
  | f + 1, a =>
    if (headV s a).ok = true then
      ⟨(inner (prs s rule f) s f (headV s a)).ok, (inner (prs s rule f) s f (headV s a)).i,
        { (headV s a).it with rl := rule, nx := 1 + (inner (prs s rule f) s f (headV s a)).its.length } :: (inner (prs s rule f) s f (headV s a)).its⟩
    else ⟨false, (headV s a).i, []⟩

theorem bt_pos_lt (s : ByteArray) (i : Nat) (h : 0 < bt s i) : i < s.size := by
  by_cases hi : i < s.size
  · exact hi
  · rw [bt_out _ _ hi] at h; omega

theorem kAny_pos (c : Int) (h : kAny c = true) : 0 < c := by
  simp only [kAny, inB, List.any_cons, List.any_nil, Bool.or_false, Bool.or_eq_true, beq_iff_eq] at h
  rcases h with h | h | h | h | h | h | h | h | h | h | h | h | h <;> simp at h <;> omega

theorem hexV_pos (c : Int) (h : 0 ≤ hexV c) : 0 < c := by unfold hexV at h; split at h <;> (try split at h) <;> omega

theorem depHd_bd (s : ByteArray) (c : Int) (i : Nat) (it : It) (hi : i ≤ s.size) :
    i ≤ (depHd s c i it).i ∧ (depHd s c i it).i ≤ s.size ∧ (it.nx = 0 → (depHd s c i it).it.nx = 0) := by
  unfold depHd
  split
  · split
    · have := bt_pos_lt s i (by omega)
      exact ⟨by simp, by simp; omega, fun h => h⟩
    · exact ⟨by simp, by simpa using hi, fun _ => rfl⟩
  · exact ⟨by simp, by simpa using hi, fun h => h⟩

theorem kIn_bd (c : Int) : -1 ≤ kIn c ∧ kIn c ≤ 2 := by unfold kIn; split <;> (try split) <;> (try split) <;> omega
theorem depHd_inn (s : ByteArray) (c : Int) (i : Nat) (it : It) : -1 ≤ (depHd s c i it).inn ∧ (depHd s c i it).inn ≤ 2 := by
  unfold depHd
  have := kIn_bd c
  split
  · split
    · exact this
    · exact (by decide : (-1 : Int) ≤ 0 ∧ (0 : Int) ≤ 2)
  · exact this

theorem headV_inn (s : ByteArray) (a : Nat) : -1 ≤ (headV s a).inn ∧ (headV s a).inn ≤ 2 := by
  unfold headV
  repeat' split
  all_goals first | exact depHd_inn _ _ _ _ | exact (by decide : (-1 : Int) ≤ 0 ∧ (0 : Int) ≤ 2)

theorem headV_bd (s : ByteArray) (a : Nat) (ha : a ≤ s.size) :
    a ≤ (headV s a).i ∧ (headV s a).i ≤ s.size ∧ (headV s a).it.nx = 0 ∧ ((headV s a).ok = true → a < (headV s a).i) := by
  unfold headV
  split
  · have := bt_pos_lt s a (by omega)
    refine ⟨by simp, by simp; omega, rfl, fun _ => by simp⟩
  · split
    · rename_i h39
      have h0 := bt_pos_lt s a (by omega)
      split
      · exact ⟨by simp, by simp; omega, rfl, fun h => by simp⟩
      · rename_i h1
        have h1' := bt_pos_lt s (a + 1) (hexV_pos _ (by omega))
        split
        · exact ⟨by simp, by simp; omega, rfl, fun h => by simp⟩
        · rename_i h2
          have h2' := bt_pos_lt s (a + 2) (hexV_pos _ (by omega))
          exact ⟨by simp, by simp; omega, rfl, fun h => by simp⟩
    · split
      · rename_i hk
        have h0 := bt_pos_lt s a (kAny_pos _ hk)
        split
        · split
          · have h1 := bt_pos_lt s (a + 1) (by omega)
            have := depHd_bd s (bt s a) (a + 2) { c := bt s a, w := bt s (a + 1) - 48, pl := a } (by omega)
            exact ⟨by omega, this.2.1, this.2.2 rfl, fun _ => by omega⟩
          · exact ⟨by simp, by simp; omega, rfl, fun h => by simp⟩
        · have := depHd_bd s (bt s a) (a + 1) { c := bt s a, pl := a } (by omega)
          exact ⟨by omega, this.2.1, this.2.2 rfl, fun _ => by omega⟩
      · exact ⟨by simp, by simpa using ha, rfl, fun h => by cases h⟩

/-- what is known of a parser's results -/
def Good (s : ByteArray) (p : Nat → Res) : Prop :=
  ∀ a, a ≤ s.size → (p a).i ≤ s.size ∧ a ≤ (p a).i ∧ ((p a).ok = true → a < (p a).i ∧ (p a).its.length ≤ (p a).i - a)

theorem loopN_good (s : ByteArray) (p : Nat → Res) (hp : Good s p) (k : Nat) : ∀ a, a ≤ s.size →
    (loopN p k a).i ≤ s.size ∧ a ≤ (loopN p k a).i ∧ ((loopN p k a).ok = true → (loopN p k a).its.length ≤ (loopN p k a).i - a) := by
  induction k with
  | zero => intro a ha; exact ⟨ha, Nat.le_refl _, fun _ => by simp [loopN]⟩
  | succ k ih =>
    intro a ha
    obtain ⟨p1, p2, p3⟩ := hp a ha
    unfold loopN
    split
    · rename_i hok
      obtain ⟨p3, p4⟩ := p3 hok
      obtain ⟨i1, i2, i3⟩ := ih (p a).i p1
      refine ⟨i1, by simp only [Res.pre]; omega, fun h => ?_⟩
      have := i3 h
      simp only [Res.pre, List.length_append]; omega
    · exact ⟨p1, p2, fun h => by cases h⟩

theorem loopB_good (s : ByteArray) (p : Nat → Res) (hp : Good s p) (k : Nat) : ∀ a, a ≤ s.size →
    (loopB p s k a).i ≤ s.size ∧ a ≤ (loopB p s k a).i ∧ ((loopB p s k a).ok = true → (loopB p s k a).its.length ≤ (loopB p s k a).i - a) := by
  induction k with
  | zero => intro a ha; exact ⟨ha, Nat.le_refl _, fun h => by cases h⟩
  | succ k ih =>
    intro a ha
    obtain ⟨p1, p2, p3⟩ := hp a ha
    unfold loopB
    split
    · rename_i hok
      obtain ⟨p3, p4⟩ := p3 hok
      split
      · rename_i h41
        have := bt_pos_lt s (p a).i (by omega)
        exact ⟨by simp; omega, by simp; omega, fun _ => by simp; omega⟩
      · obtain ⟨i1, i2, i3⟩ := ih (p a).i p1
        refine ⟨i1, by simp only [Res.pre]; omega, fun h => ?_⟩
        have := i3 h
        simp only [Res.pre, List.length_append]; omega
    · exact ⟨p1, p2, fun h => by cases h⟩

theorem prs_good (s : ByteArray) (rule : Int) (f : Nat) : Good s (prs s rule f) := by
  induction f with
  | zero => intro a ha; exact ⟨ha, Nat.le_refl _, fun h => by cases h⟩
  | succ f ih =>
    intro a ha
    obtain ⟨h1, h2, _, h3⟩ := headV_bd s a ha
    unfold prs
    split
    · rename_i hok
      have h3 := h3 hok
      have hin : (inner (prs s rule f) s f (headV s a)).i ≤ s.size ∧ (headV s a).i ≤ (inner (prs s rule f) s f (headV s a)).i ∧ ((inner (prs s rule f) s f (headV s a)).ok = true → (inner (prs s rule f) s f (headV s a)).its.length ≤ (inner (prs s rule f) s f (headV s a)).i - (headV s a).i) := by
        unfold inner
        split
        · exact loopB_good s _ ih _ _ h2
        · exact loopN_good s _ ih _ _ h2
      obtain ⟨g1, g2, g3⟩ := hin
      refine ⟨g1, by simp only; omega, fun h => ⟨by simp only; omega, ?_⟩⟩
      have := g3 h
      simp only [List.length_cons]; omega
    · exact ⟨h2, h1, fun h => by cases h⟩

end Go.Proofs.YtmlkhhhjdpbhfaaDoor

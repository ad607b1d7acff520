import Derived.Test.YtmlkhhhjdpbhfaaDoorPlainWf
import Derived.Test.YtmlkhhhjdpbhfaaDoorPlainRef
/- The places of the parts grow; what the letters of the parts are. -/
namespace Go.Proofs.YtmlkhhhjdpbhfaaDoor
open Go.RowKit

/-- the places grow, from lo on and below hi -/
def Ord (lo hi : Nat) (l : List It) : Prop := l.Pairwise (fun x y => x.pl < y.pl) ∧ ∀ x, x ∈ l → (lo : Int) ≤ x.pl ∧ x.pl < (hi : Int)

theorem Ord.nil (lo hi : Nat) : Ord lo hi [] := ⟨List.Pairwise.nil, fun x hx => by simp at hx⟩
theorem Ord.append {lo mid hi : Nat} {a b : List It} (ha : Ord lo mid a) (hb : Ord mid hi b) (h1 : lo ≤ mid) (h2 : mid ≤ hi) : Ord lo hi (a ++ b) := by
  refine ⟨List.pairwise_append.2 ⟨ha.1, hb.1, fun x hx y hy => ?_⟩, fun x hx => ?_⟩
  · have := ha.2 x hx; have := hb.2 y hy; omega
  · rcases List.mem_append.1 hx with h | h
    · have := ha.2 x h; omega
    · have := hb.2 x h; omega
theorem Ord.cons {lo mid hi : Nat} {x : It} {r : List It} (hx : (lo : Int) ≤ x.pl ∧ x.pl < (mid : Int)) (hr : Ord mid hi r) (h2 : mid ≤ hi) : Ord lo hi (x :: r) := by
  refine ⟨List.pairwise_cons.2 ⟨fun y hy => ?_, hr.1⟩, fun y hy => ?_⟩
  · have := hr.2 y hy; omega
  · rcases List.mem_cons.1 hy with rfl | h
    · omega
    · have := hr.2 y h; omega

/-- what a part's letter may be, and its rule and dependency -/
structure ItemOk (x : It) : Prop where
  c : x.c = 82 ∨ x.c = 39 ∨ kAny x.c = true
  r : x.c = 82 → 0 ≤ x.r ∧ x.r < 8
  d : kD x.c = true → 0 ≤ x.d ∧ x.d < 8

theorem headV_item (s : ByteArray) (a : Nat) (h : (headV s a).ok = true) : ItemOk (headV s a).it ∧ (a : Int) ≤ (headV s a).it.pl ∧ (headV s a).it.pl < ((headV s a).i : Int) := by
  unfold headV at h ⊢
  split
  · rename_i h1
    exact ⟨⟨Or.inl rfl, fun _ => ⟨by simp only; omega, by simp only; omega⟩, fun h => absurd (show kD 82 = true from h) (by decide)⟩, by simp, by simp; omega⟩
  · rename_i hr
    rw [if_neg hr] at h
    split
    · rename_i h39
      rw [if_pos h39] at h
      split
      · rename_i hx; rw [if_pos hx] at h; cases h
      · rename_i hx
        rw [if_neg hx] at h
        split
        · rename_i hy; rw [if_pos hy] at h; cases h
        · exact ⟨⟨Or.inr (Or.inl rfl), fun h => absurd (show (39 : Int) = 82 from h) (by decide), fun h => absurd (show kD 39 = true from h) (by decide)⟩, by simp, by simp; omega⟩
    · rename_i h39
      rw [if_neg h39] at h
      split
      · rename_i hk
        rw [if_pos hk] at h
        have h82 : bt s a ≠ 82 := by intro e; rw [e] at hk; revert hk; decide
        have dep : ∀ (i : Nat) (it : It), it.c = bt s a → (a : Int) ≤ it.pl → it.pl < (i : Int) → (depHd s (bt s a) i it).ok = true → ItemOk (depHd s (bt s a) i it).it ∧ (a : Int) ≤ (depHd s (bt s a) i it).it.pl ∧ (depHd s (bt s a) i it).it.pl < ((depHd s (bt s a) i it).i : Int) := by
          intro i it hc hp1 hp2 hd
          unfold depHd at hd ⊢
          split
          · rename_i h1
            rw [if_pos h1] at hd
            split
            · rename_i h2
              refine ⟨⟨Or.inr (Or.inr (by simp only; rw [hc]; exact hk)), fun e => absurd (hc.symm.trans e) h82, fun _ => ⟨by simp only; omega, by simp only; omega⟩⟩, by simp only; omega, by simp only; omega⟩
            · rename_i h2; rw [if_neg h2] at hd; cases hd
          · rename_i h1
            exact ⟨⟨Or.inr (Or.inr (by rw [hc]; exact hk)), fun e => absurd (hc.symm.trans e) h82, fun h => absurd (by rw [hc] at h; exact h) h1⟩, hp1, hp2⟩
        split
        · rename_i hw
          rw [if_pos hw] at h
          split
          · rename_i h4
            rw [if_pos h4] at h
            exact dep _ _ rfl (by simp) (by simp; omega) h
          · rename_i h4; rw [if_neg h4] at h; cases h
        · rename_i hw
          rw [if_neg hw] at h
          exact dep _ _ rfl (by simp) (by simp only; omega) h
      · rename_i hk; rw [if_neg hk] at h; cases h

def GoodO (s : ByteArray) (p : Nat → Res) : Prop := ∀ a, a ≤ s.size → (p a).ok = true → Ord a (p a).i (p a).its ∧ ∀ x, x ∈ (p a).its → ItemOk x

theorem loopN_ord (s : ByteArray) (p : Nat → Res) (hg : Good s p) (hp : GoodO s p) (k : Nat) : ∀ a, a ≤ s.size → (loopN p k a).ok = true → Ord a (loopN p k a).i (loopN p k a).its ∧ ∀ x, x ∈ (loopN p k a).its → ItemOk x := by
  induction k with
  | zero => intro a _ _; exact ⟨Ord.nil _ _, fun x hx => by simp [loopN] at hx⟩
  | succ k ih =>
    intro a ha h
    rw [loopN] at h ⊢
    split
    · rename_i hok
      rw [if_pos hok] at h
      obtain ⟨g1, g2, _⟩ := hg a ha
      obtain ⟨h1, h2⟩ := hp a ha hok
      obtain ⟨i1, i2⟩ := ih _ g1 h
      have g4 := (loopN_good s p hg k (p a).i g1).2.1
      exact ⟨h1.append i1 g2 g4, fun x hx => by rcases List.mem_append.1 hx with h | h; exact h2 x h; exact i2 x h⟩
    · rename_i hok; rw [if_neg hok] at h; cases h

theorem loopB_ord (s : ByteArray) (p : Nat → Res) (hg : Good s p) (hp : GoodO s p) (k : Nat) : ∀ a, a ≤ s.size → (loopB p s k a).ok = true → Ord a (loopB p s k a).i (loopB p s k a).its ∧ ∀ x, x ∈ (loopB p s k a).its → ItemOk x := by
  induction k with
  | zero => intro a _ h; cases h
  | succ k ih =>
    intro a ha h
    rw [loopB] at h ⊢
    split
    · rename_i hok
      rw [if_pos hok] at h
      obtain ⟨g1, g2, _⟩ := hg a ha
      obtain ⟨h1, h2⟩ := hp a ha hok
      split
      · refine ⟨⟨h1.1, fun x hx => ?_⟩, h2⟩
        have := h1.2 x hx
        simp only
        omega
      · rename_i h41
        rw [if_neg h41] at h
        obtain ⟨i1, i2⟩ := ih _ g1 h
        have g4 := (loopB_good s p hg k (p a).i g1).2.1
        exact ⟨h1.append i1 g2 g4, fun x hx => by rcases List.mem_append.1 hx with h | h; exact h2 x h; exact i2 x h⟩
    · rename_i hok; rw [if_neg hok] at h; cases h

theorem prs_ord (s : ByteArray) (rule : Int) (f : Nat) : GoodO s (prs s rule f) := by
  induction f with
  | zero => intro a _ h; cases h
  | succ f ih =>
    intro a ha h
    rw [prs] at h ⊢
    split
    · rename_i hok
      rw [if_pos hok] at h
      obtain ⟨it, p1, p2⟩ := headV_item s a hok
      obtain ⟨b1, b2, _, _⟩ := headV_bd s a ha
      have hin : (Ord (headV s a).i (inner (prs s rule f) s f (headV s a)).i (inner (prs s rule f) s f (headV s a)).its ∧ ∀ x, x ∈ (inner (prs s rule f) s f (headV s a)).its → ItemOk x) ∧ (headV s a).i ≤ (inner (prs s rule f) s f (headV s a)).i := by
        have h' : (inner (prs s rule f) s f (headV s a)).ok = true := h
        unfold inner at h' ⊢
        split
        · rename_i hneg
          rw [if_pos hneg] at h'
          exact ⟨loopB_ord s _ (prs_good s rule f) ih _ _ b2 h', (loopB_good s _ (prs_good s rule f) _ _ b2).2.1⟩
        · rename_i hneg
          rw [if_neg hneg] at h'
          exact ⟨loopN_ord s _ (prs_good s rule f) ih _ _ b2 h', (loopN_good s _ (prs_good s rule f) _ _ b2).2.1⟩
      obtain ⟨⟨i1, i2⟩, i3⟩ := hin
      refine ⟨Ord.cons ⟨p1, p2⟩ i1 i3, fun x hx => ?_⟩
      rcases List.mem_cons.1 hx with rfl | hx
      · exact ⟨it.c, it.r, it.d⟩
      · exact i2 x hx
    · rename_i hok; rw [if_neg hok] at h; cases h

/-- the rules' places and their parts' grow -/
def OrdR : Nat → List Rl → Prop
  | _, [] => True
  | lo, x :: t => lo ≤ x.pl ∧ ∃ hi, x.pl + 1 ≤ hi ∧ Ord (x.pl + 1) hi x.its ∧ OrdR hi t

structure RlOk (n : Nat) (x : Rl) : Prop where
  num : 0 ≤ x.r ∧ x.r < 8
  items : ∀ y, y ∈ x.its → ItemOk y
  len : x.its.length ≤ n

theorem rules_ord (s : ByteArray) (k : Nat) : ∀ top a, top ≤ 72 → (rulesV s k top a).ok = true → OrdR a (rulesV s k top a).rls ∧ (∀ x, x ∈ (rulesV s k top a).rls → RlOk s.size x) ∧ (rulesV s k top a).rls.length ≤ k ∧ 0 < (rulesV s k top a).rls.length := by
  induction k with
  | zero => intro top a _ h; cases h
  | succ k ih =>
    intro top a ht h
    rw [rulesV] at h ⊢
    split
    · rename_i h1; rw [if_pos h1] at h; cases h
    · rename_i h1
      rw [if_neg h1] at h
      have h1' : 65 ≤ bt s a ∧ bt s a ≤ top := by simpa using h1
      split
      · rename_i h2; rw [if_pos h2] at h; cases h
      · rename_i h2
        rw [if_neg h2] at h
        have hlt := bt_pos_lt s (a + 1) (by omega)
        obtain ⟨g1, g2, g3⟩ := prs_good s (bt s a - 65) (s.size + 1) (a + 2) (by omega)
        split
        · rename_i h3; rw [if_pos h3] at h; cases h
        · rename_i h3
          rw [if_neg h3] at h
          have h3' : (prs s (bt s a - 65) (s.size + 1) (a + 2)).ok = true := by simpa using h3
          obtain ⟨o1, o2⟩ := prs_ord s (bt s a - 65) (s.size + 1) (a + 2) (by omega) h3'
          obtain ⟨g3, g4⟩ := g3 h3'
          have hx : RlOk s.size ⟨bt s a - 65, a, (prs s (bt s a - 65) (s.size + 1) (a + 2)).its⟩ := ⟨⟨by simp only; omega, by simp only; omega⟩, o2, by simp only; omega⟩
          have ho : Ord (a + 1) (prs s (bt s a - 65) (s.size + 1) (a + 2)).i (prs s (bt s a - 65) (s.size + 1) (a + 2)).its := ⟨o1.1, fun x hx => by have := o1.2 x hx; omega⟩
          split
          · refine ⟨⟨Nat.le_refl _, (prs s (bt s a - 65) (s.size + 1) (a + 2)).i, by simp only; omega, ho, trivial⟩, fun x hx2 => ?_, by simp, by simp⟩
            simp at hx2
            subst hx2
            exact hx
          · rename_i h4
            rw [if_neg h4] at h
            split
            · rename_i h5; rw [if_pos h5] at h; cases h
            · rename_i h5
              rw [if_neg h5] at h
              obtain ⟨i1, i2, i3, i4⟩ := ih 72 _ (by omega) h
              simp only [RRes.pre, List.cons_append, List.nil_append, List.length_cons] at *
              refine ⟨⟨Nat.le_refl _, (prs s (bt s a - 65) (s.size + 1) (a + 2)).i + 1, by simp only; omega, ⟨ho.1, fun x hx => ⟨(ho.2 x hx).1, Int.lt_trans (ho.2 x hx).2 (by omega)⟩⟩, i1⟩, fun x hx2 => ?_, Nat.succ_le_succ i3, Nat.succ_pos _⟩
              rcases List.mem_cons.1 hx2 with rfl | hx2
              · exact hx
              · exact i2 x hx2

theorem OrdR.pl {l : List Rl} : ∀ {lo : Nat}, OrdR lo l → ∀ x, x ∈ allIts l → (lo : Int) ≤ x.pl := by
  induction l with
  | nil => intro lo _ x hx; simp [allIts] at hx
  | cons r t ih =>
    intro lo h x hx
    obtain ⟨h1, hi, h2, h3, h4⟩ := h
    simp only [allIts, List.flatMap_cons, List.mem_append] at hx
    rcases hx with hx | hx
    · have := h3.2 x hx; omega
    · have := ih h4 x hx; omega

theorem form_pl (s : ByteArray) (h : (formV s).ok = true) : ∀ k, k < (allIts (formV s).rls).length → 0 ≤ (itd (allIts (formV s).rls) k).pl := by
  intro k hk
  have := (rules_ord s 8 65 0 (by omega) h).1.pl (itd (allIts (formV s).rls) k) (by rw [itd, getD_lt _ _ _ hk]; exact List.getElem_mem hk)
  omega

end Go.Proofs.YtmlkhhhjdpbhfaaDoor

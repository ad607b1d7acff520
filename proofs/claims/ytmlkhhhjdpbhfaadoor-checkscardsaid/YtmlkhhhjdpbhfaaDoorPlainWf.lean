import Derived.Test.YtmlkhhhjdpbhfaaDoorPlainRules
/- The parts that parsing gives lie as they should. -/
namespace Go.Proofs.YtmlkhhhjdpbhfaaDoor
open Go.RowKit

def RulOk (its : List It) : Prop := ∀ x, x ∈ its → x.c = 82 → 0 ≤ x.r ∧ x.r < 8

theorem itd_append_left (a b : List It) (k : Nat) (h : k < a.length) : itd (a ++ b) k = itd a k := by simp [itd, List.getElem?_append_left h]
theorem itd_append_right (a b : List It) (k : Nat) (h : a.length ≤ k) : itd (a ++ b) k = itd b (k - a.length) := by simp [itd, List.getElem?_append_right h]

theorem Wf.nil : Wf [] := ⟨fun k h => by simp at h, fun k h => by simp at h, fun k h => by simp at h⟩

theorem Wf.append {a b : List It} (ha : Wf a) (hb : Wf b) : Wf (a ++ b) := by
  refine ⟨fun k hk => ?_, fun k hk hc => ?_, fun k hk => ?_⟩
  · rw [List.length_append] at hk ⊢
    by_cases h : k < a.length
    · rw [itd_append_left _ _ _ h]; have := ha.pos k h; omega
    · rw [itd_append_right _ _ _ (by omega)]; have := hb.pos (k - a.length) (by omega); omega
  · rw [List.length_append] at hk ⊢
    by_cases h : k < a.length
    · rw [itd_append_left _ _ _ h] at hc; have := ha.one k h hc; omega
    · rw [itd_append_right _ _ _ (by omega)] at hc; have := hb.one (k - a.length) (by omega) hc; omega
  · rw [List.length_append] at hk
    by_cases h : k < a.length
    · rw [itd_append_left _ _ _ h]; exact ha.byte k h
    · rw [itd_append_right _ _ _ (by omega)]; exact hb.byte (k - a.length) (by omega)

theorem Wf.cons {x : It} {r : List It} (hr : Wf r) (hx : x.nx = 1 + r.length) (h1 : inB [119, 64, 115] x.c = true → 0 < r.length) (h2 : 0 ≤ x.c ∧ x.c ≤ 255) : Wf (x :: r) := by
  have e : ∀ k, itd (x :: r) (k + 1) = itd r k := fun k => rfl
  have e0 : itd (x :: r) 0 = x := rfl
  refine ⟨fun k hk => ?_, fun k hk hc => ?_, fun k hk => ?_⟩
  · rw [List.length_cons] at hk ⊢
    cases k with
    | zero => rw [e0]; omega
    | succ k => rw [e]; have := hr.pos k (by omega); omega
  · rw [List.length_cons] at hk ⊢
    cases k with
    | zero => rw [e0] at hc; have := h1 hc; omega
    | succ k => rw [e] at hc; have := hr.one k (by omega) hc; omega
  · rw [List.length_cons] at hk
    cases k with
    | zero => rw [e0]; exact h2
    | succ k => rw [e]; exact hr.byte k (by omega)

/-- what a head that stands gives -/
theorem headV_c (s : ByteArray) (a : Nat) (h : (headV s a).ok = true) :
    0 ≤ (headV s a).it.c ∧ (headV s a).it.c ≤ 255 ∧ ((headV s a).it.c = 82 → 0 ≤ (headV s a).it.r ∧ (headV s a).it.r < 8) ∧ (inB [119, 64, 115] (headV s a).it.c = true → (headV s a).inn = 1) := by
  have b0 := bt_lo s a
  have b1 := bt_hi s a
  have k0 : ∀ c : Int, (c = 82 → False) → ∀ r : Int, c = 82 → 0 ≤ r ∧ r < 8 := fun c hc r h => (hc h).elim
  unfold headV at h ⊢
  split
  · refine ⟨by simp, by simp, fun _ => ⟨by simp only; omega, by simp only; omega⟩, fun hi => ?_⟩
    simp [inB] at hi
  · rename_i hr
    rw [if_neg hr] at h
    split
    · rename_i h39
      rw [if_pos h39] at h
      split
      · rename_i hx; rw [if_pos hx] at h; cases h
      · rename_i hx
        rw [if_neg hx] at h
        split
        · rename_i hy; rw [if_pos hy] at h; cases h
        · exact ⟨by simp, by simp, fun hc => by simp at hc, fun hi => by simp [inB] at hi⟩
    · rename_i h39
      rw [if_neg h39] at h
      split
      · rename_i hk
        rw [if_pos hk] at h
        have h82 : bt s a ≠ 82 := by intro e; rw [e] at hk; revert hk; decide
        have hin : inB [119, 64, 115] (bt s a) = true → kIn (bt s a) = 1 := by
          intro hi
          simp only [inB, List.any_cons, List.any_nil, Bool.or_false, Bool.or_eq_true, beq_iff_eq] at hi
          rcases hi with hi | hi | hi
          · rw [show bt s a = 119 by simp at hi; omega]; decide
          · rw [show bt s a = 64 by simp at hi; omega]; decide
          · rw [show bt s a = 115 by simp at hi; omega]; decide
        have dep : ∀ i it, it.c = bt s a → (depHd s (bt s a) i it).ok = true → (depHd s (bt s a) i it).it.c = bt s a ∧ (depHd s (bt s a) i it).inn = kIn (bt s a) := by
          intro i it hc hd
          unfold depHd at hd ⊢
          split
          · rename_i h1
            rw [if_pos h1] at hd
            split
            · exact ⟨hc, rfl⟩
            · rename_i h2; rw [if_neg h2] at hd; cases hd
          · exact ⟨hc, rfl⟩
        split
        · rename_i hw
          rw [if_pos hw] at h
          split
          · rename_i h4
            rw [if_pos h4] at h
            obtain ⟨d1, d2⟩ := dep _ _ rfl h
            rw [d1, d2]
            exact ⟨b0, b1, fun e => (h82 e).elim, hin⟩
          · rename_i h4; rw [if_neg h4] at h; cases h
        · rename_i hw
          rw [if_neg hw] at h
          obtain ⟨d1, d2⟩ := dep _ _ rfl h
          rw [d1, d2]
          exact ⟨b0, b1, fun e => (h82 e).elim, hin⟩
      · rename_i hk; rw [if_neg hk] at h; cases h

def GoodP (p : Nat → Res) : Prop := ∀ a, (p a).ok = true → Wf (p a).its ∧ RulOk (p a).its ∧ 0 < (p a).its.length

theorem RulOk.append {a b : List It} (ha : RulOk a) (hb : RulOk b) : RulOk (a ++ b) := fun x hx => by
  rcases List.mem_append.1 hx with h | h
  · exact ha x h
  · exact hb x h

theorem loopN_wf (p : Nat → Res) (hp : GoodP p) (k : Nat) : ∀ a, (loopN p k a).ok = true → Wf (loopN p k a).its ∧ RulOk (loopN p k a).its ∧ (0 < k → 0 < (loopN p k a).its.length) := by
  induction k with
  | zero => intro a _; exact ⟨Wf.nil, fun x hx => by simp [loopN] at hx, fun h => by omega⟩
  | succ k ih =>
    intro a h
    rw [loopN] at h ⊢
    split
    · rename_i hok
      rw [if_pos hok] at h
      obtain ⟨h1, h2, h3⟩ := hp a hok
      obtain ⟨i1, i2, _⟩ := ih _ h
      exact ⟨h1.append i1, h2.append i2, fun _ => by simp only [Res.pre, List.length_append]; omega⟩
    · rename_i hok; rw [if_neg hok] at h; cases h

theorem loopB_wf (p : Nat → Res) (s : ByteArray) (hp : GoodP p) (k : Nat) : ∀ a, (loopB p s k a).ok = true → Wf (loopB p s k a).its ∧ RulOk (loopB p s k a).its := by
  induction k with
  | zero => intro a h; cases h
  | succ k ih =>
    intro a h
    rw [loopB] at h ⊢
    split
    · rename_i hok
      rw [if_pos hok] at h
      obtain ⟨h1, h2, h3⟩ := hp a hok
      split
      · exact ⟨h1, h2⟩
      · rename_i h41
        rw [if_neg h41] at h
        obtain ⟨i1, i2⟩ := ih _ h
        exact ⟨h1.append i1, h2.append i2⟩
    · rename_i hok; rw [if_neg hok] at h; cases h

theorem prs_wf (s : ByteArray) (rule : Int) (f : Nat) : GoodP (prs s rule f) := by
  induction f with
  | zero => intro a h; cases h
  | succ f ih =>
    intro a h
    rw [prs] at h ⊢
    split
    · rename_i hok
      rw [if_pos hok] at h
      obtain ⟨c1, c2, c3, c4⟩ := headV_c s a hok
      have hin : Wf (inner (prs s rule f) s f (headV s a)).its ∧ RulOk (inner (prs s rule f) s f (headV s a)).its ∧ ((headV s a).inn = 1 → 0 < (inner (prs s rule f) s f (headV s a)).its.length) := by
        have h' : (inner (prs s rule f) s f (headV s a)).ok = true := h
        unfold inner at h' ⊢
        split
        · rename_i hneg
          rw [if_pos hneg] at h'
          obtain ⟨i1, i2⟩ := loopB_wf _ s ih _ _ h'
          exact ⟨i1, i2, fun e => by omega⟩
        · rename_i hneg
          rw [if_neg hneg] at h'
          obtain ⟨i1, i2, i3⟩ := loopN_wf _ ih _ _ h'
          exact ⟨i1, i2, fun e => i3 (by omega)⟩
      obtain ⟨i1, i2, i3⟩ := hin
      refine ⟨i1.cons rfl (fun hw => i3 (c4 hw)) ⟨c1, c2⟩, fun x hx => ?_, by simp⟩
      rcases List.mem_cons.1 hx with rfl | hx
      · exact c3
      · exact i2 x hx
    · rename_i hok; rw [if_neg hok] at h; cases h

theorem rules_wf (s : ByteArray) (k : Nat) : ∀ top a, (rulesV s k top a).ok = true → Wf (allIts (rulesV s k top a).rls) ∧ RulOk (allIts (rulesV s k top a).rls) ∧ (allIts (rulesV s k top a).rls).length + a ≤ s.size := by
  induction k with
  | zero => intro top a h; cases h
  | succ k ih =>
    intro top a h
    rw [rulesV] at h ⊢
    split
    · rename_i h1; rw [if_pos h1] at h; cases h
    · rename_i h1
      rw [if_neg h1] at h
      split
      · rename_i h2; rw [if_pos h2] at h; cases h
      · rename_i h2
        rw [if_neg h2] at h
        have hlt := bt_pos_lt s (a + 1) (by omega)
        obtain ⟨g1, g2, g3⟩ := prs_good s (bt s a - 65) (s.size + 1) (a + 2) (by omega)
        split
        · rename_i h3; rw [if_pos h3] at h; cases h
        · rename_i h3
          rw [if_neg h3] at h
          have h3' : (prs s (bt s a - 65) (s.size + 1) (a + 2)).ok = true := by simpa using h3
          obtain ⟨w1, w2, w3⟩ := prs_wf s (bt s a - 65) (s.size + 1) (a + 2) h3'
          obtain ⟨g3, g4⟩ := g3 h3'
          split
          · simp only [allIts, List.flatMap_cons, List.flatMap_nil, List.append_nil]
            exact ⟨w1, w2, by omega⟩
          · rename_i h4
            rw [if_neg h4] at h
            split
            · rename_i h5; rw [if_pos h5] at h; cases h
            · rename_i h5
              rw [if_neg h5] at h
              obtain ⟨i1, i2, i3⟩ := ih _ _ h
              simp only [RRes.pre, allIts, List.cons_append, List.nil_append, List.flatMap_cons, List.length_append] at *
              exact ⟨w1.append i1, w2.append i2, by omega⟩

end Go.Proofs.YtmlkhhhjdpbhfaaDoor

import Derived.Test.YtmlkhhhjdpbhfaaDoorPlainOrd
import Derived.Test.YtmlkhhhjdpbhfaaDoorSynRead
import Derived.Test.YtmlkhhhjdpbhfaaDoorPlainSame
import Derived.Test.YtmlkhhhjdpbhfaaDoorRefRead
/- What the form asks, of a grammar that is read. -/
namespace Go.Proofs.YtmlkhhhjdpbhfaaDoor
open Go.RowKit

theorem kAny_list (c : Int) (h : c = 82 ∨ c = 39 ∨ kAny c = true) : c = 82 ∨ c = 39 ∨ c = 110 ∨ c = 108 ∨ c = 40 ∨ c = 47 ∨ c = 42 ∨ c = 104 ∨ c = 107 ∨ c = 114 ∨ c = 116 ∨ c = 119 ∨ c = 64 ∨ c = 115 ∨ c = 46 := by
  rcases h with h | h | h
  · exact Or.inl h
  · exact Or.inr (Or.inl h)
  · simp only [kAny, inB, List.any_cons, List.any_nil, Bool.or_false, Bool.or_eq_true, beq_iff_eq] at h
    rcases h with h | h | h | h | h | h | h | h | h | h | h | h | h <;> simp at h <;> omega

theorem letOk_of (x : It) (h : ItemOk x) : LetOk x := by
  have hd := h.d
  have hc := kAny_list x.c h.c
  refine ⟨?_, ?_, ?_, ?_, ?_⟩
  · rcases hc with e | e | e | e | e | e | e | e | e | e | e | e | e | e | e <;> rw [e] <;> decide
  · rcases hc with e | e | e | e | e | e | e | e | e | e | e | e | e | e | e <;> rw [e] <;> decide
  · rcases hc with e | e | e | e | e | e | e | e | e | e | e | e | e | e | e <;> rw [e]
    · exact ⟨6, by decide, by decide, by decide⟩
    · exact ⟨2, by decide, by decide, by decide⟩
    · exact ⟨0, by decide, by decide, by decide⟩
    · exact ⟨1, by decide, by decide, by decide⟩
    · exact ⟨3, by decide, by decide, by decide⟩
    · exact ⟨4, by decide, by decide, by decide⟩
    · exact ⟨5, by decide, by decide, by decide⟩
    · exact ⟨7, by decide, by decide, by decide⟩
    · exact ⟨8, by decide, by decide, by decide⟩
    · exact ⟨9, by decide, by decide, by decide⟩
    · exact ⟨10, by decide, by decide, by decide⟩
    · exact ⟨11, by decide, by decide, by decide⟩
    · exact ⟨12, by decide, by decide, by decide⟩
    · exact ⟨13, by decide, by decide, by decide⟩
    · exact ⟨14, by decide, by decide, by decide⟩
  · rcases hc with e | e | e | e | e | e | e | e | e | e | e | e | e | e | e <;> rw [e] <;> decide
  · intro hu
    have hk : kD x.c = true := by
      rcases hc with e | e | e | e | e | e | e | e | e | e | e | e | e | e | e <;> rw [e] at hu ⊢ <;> revert hu <;> decide
    exact ⟨hk, hd hk⟩

theorem rulIn_of (l : List It) (h : ∀ x, x ∈ l → ItemOk x) : RulIn l := fun x hx => by
  refine ⟨(h x hx).r, ?_⟩
  rcases kAny_list x.c (h x hx).c with e | e | e | e | e | e | e | e | e | e | e | e | e | e | e
  · exact Or.inl e
  all_goals (right; rw [e]; decide)

theorem form_ok (s : ByteArray) (hs : s.size ≤ 400) (h : (formV s).ok = true) : FormOk (formV s).rls := by
  obtain ⟨_, h2, h3, h4⟩ := rules_ord s 8 65 0 (by omega) h
  exact ⟨fun r hr => (h2 r hr).num, fun r hr => ⟨rulIn_of _ (h2 r hr).items, by have := (h2 r hr).len; omega⟩, fun r hr x hx => letOk_of x ((h2 r hr).items x hx), h3, h4⟩

end Go.Proofs.YtmlkhhhjdpbhfaaDoor

/- The program's answer to Check and the document's are one. -/
namespace Go.Proofs.YtmlkhhhjdpbhfaaDoor
open Go.RowKit

theorem loopN_tr (p : Nat → Res) (f : Nat) (hp : ∀ a, (p a).ok = true → TrS f (p a).its) (k : Nat) : ∀ a, (loopN p k a).ok = true → ∃ kids, (loopN p k a).its = List.flatten kids ∧ (∀ z, z ∈ kids → TrS f z) ∧ kids.length = k := by
  induction k with
  | zero => intro a _; exact ⟨[], rfl, fun z hz => by simp at hz, rfl⟩
  | succ k ih =>
    intro a h
    rw [loopN] at h ⊢
    split
    · rename_i hok
      rw [if_pos hok] at h
      obtain ⟨kids, h1, h2, h3⟩ := ih _ h
      refine ⟨(p a).its :: kids, by simp [Res.pre, h1], fun z hz => ?_, by simp [h3]⟩
      rcases List.mem_cons.1 hz with rfl | hz
      · exact hp a hok
      · exact h2 z hz
    · rename_i hok; rw [if_neg hok] at h; cases h

theorem loopB_tr (p : Nat → Res) (s : ByteArray) (f : Nat) (hp : ∀ a, (p a).ok = true → TrS f (p a).its) (k : Nat) : ∀ a, (loopB p s k a).ok = true → ∃ kids, (loopB p s k a).its = List.flatten kids ∧ (∀ z, z ∈ kids → TrS f z) := by
  induction k with
  | zero => intro a h; cases h
  | succ k ih =>
    intro a h
    rw [loopB] at h ⊢
    split
    · rename_i hok
      rw [if_pos hok] at h
      split
      · exact ⟨[(p a).its], by simp, fun z hz => by simp at hz; subst hz; exact hp a hok⟩
      · rename_i h41
        rw [if_neg h41] at h
        obtain ⟨kids, h1, h2⟩ := ih _ h
        refine ⟨(p a).its :: kids, by simp [Res.pre, h1], fun z hz => ?_⟩
        rcases List.mem_cons.1 hz with rfl | hz
        · exact hp a hok
        · exact h2 z hz
    · rename_i hok; rw [if_neg hok] at h; cases h

theorem prs_tr (s : ByteArray) (rule : Int) (f : Nat) : ∀ a, (prs s rule f a).ok = true → TrS f (prs s rule f a).its := by
  induction f with
  | zero => intro a h; cases h
  | succ f ih =>
    intro a h
    rw [prs] at h ⊢
    split
    · rename_i hok
      rw [if_pos hok] at h
      obtain ⟨_, _, _, c4⟩ := headV_c s a hok
      have h' : (inner (prs s rule f) s f (headV s a)).ok = true := h
      have hin : ∃ kids, (inner (prs s rule f) s f (headV s a)).its = List.flatten kids ∧ (∀ z, z ∈ kids → TrS f z) ∧ ((headV s a).inn = 1 → kids.length = 1) := by
        unfold inner at h' ⊢
        split
        · rename_i hneg
          rw [if_pos hneg] at h'
          obtain ⟨kids, h1, h2⟩ := loopB_tr _ s f ih _ _ h'
          exact ⟨kids, h1, h2, fun e => by omega⟩
        · rename_i hneg
          rw [if_neg hneg] at h'
          obtain ⟨kids, h1, h2, h3⟩ := loopN_tr _ f ih _ _ h'
          exact ⟨kids, h1, h2, fun e => by rw [h3, e]; rfl⟩
      obtain ⟨kids, h1, h2, h3⟩ := hin
      refine ⟨_, kids, by rw [← h1], by rw [← h1], h2, fun hc => ?_⟩
      exact List.length_eq_one_iff.1 (h3 (c4 hc))
    · rename_i hok; rw [if_neg hok] at h; cases h

theorem rules_tr (s : ByteArray) (k : Nat) : ∀ top a, (rulesV s k top a).ok = true → ∀ x, x ∈ (rulesV s k top a).rls → TrS (s.size + 1) x.its := by
  induction k with
  | zero => intro top a h; cases h
  | succ k ih =>
    intro top a h x
    rw [rulesV] at h ⊢
    split
    · rename_i h1; rw [if_pos h1] at h; cases h
    · rename_i h1
      rw [if_neg h1] at h
      split
      · rename_i h2; rw [if_pos h2] at h; cases h
      · rename_i h2
        rw [if_neg h2] at h
        split
        · rename_i h3; rw [if_pos h3] at h; cases h
        · rename_i h3
          rw [if_neg h3] at h
          have h3' : (prs s (bt s a - 65) (s.size + 1) (a + 2)).ok = true := by simpa using h3
          have ht := prs_tr s (bt s a - 65) (s.size + 1) (a + 2) h3'
          split
          · intro hx; simp at hx; subst hx; exact ht
          · rename_i h4
            rw [if_neg h4] at h
            split
            · rename_i h5; rw [if_pos h5] at h; cases h
            · rename_i h5
              rw [if_neg h5] at h
              intro hx
              simp only [RRes.pre, List.cons_append, List.nil_append] at hx
              rcases List.mem_cons.1 hx with rfl | hx
              · exact ht
              · exact ih 72 _ h x hx

theorem worst_min (its : List It) (fall : Nat → Bool) (S : Int → Prop) (bad : Int) (n : Nat) : (∀ k, k < n → 0 ≤ (itd its k).pl) → IsMin S (bad, decide (0 ≤ bad)) →
    IsMin (fun p => S p ∨ ∃ k, k < n ∧ fall k = true ∧ p = (itd its k).pl) (worst its fall n bad, decide (0 ≤ worst its fall n bad)) := by
  induction n with
  | zero => intro _ h; exact h.congr fun p => by simp
  | succ n ih =>
    intro hp h
    have h1 := ih (fun k hk => hp k (by omega)) h
    have h2 := hp n (by omega)
    rw [worst]
    generalize worst its fall n bad = w at h1
    have hset : ∀ p, (∃ k, k < n + 1 ∧ fall k = true ∧ p = (itd its k).pl) ↔ ((∃ k, k < n ∧ fall k = true ∧ p = (itd its k).pl) ∨ (fall n = true ∧ p = (itd its n).pl)) := by
      intro p
      constructor
      · rintro ⟨k, k1, k2, k3⟩
        by_cases e : k = n
        · subst e; exact Or.inr ⟨k2, k3⟩
        · exact Or.inl ⟨k, by omega, k2, k3⟩
      · rintro (⟨k, k1, k2, k3⟩ | ⟨k2, k3⟩)
        · exact ⟨k, by omega, k2, k3⟩
        · exact ⟨n, by omega, k2, k3⟩
    cases hf : fall n
    · simp only [Bool.false_and, Bool.false_eq_true, if_false]
      exact h1.congr fun p => by rw [hset, hf]; simp
    · have h3 := h1.add (itd its n).pl
      have e : bwV (w, decide (0 ≤ w)) (itd its n).pl = ((if (true && (decide (w < 0) || decide ((itd its n).pl < w))) = true then (itd its n).pl else w), decide (0 ≤ if (true && (decide (w < 0) || decide ((itd its n).pl < w))) = true then (itd its n).pl else w)) := by
        unfold bwV
        have e1 : (!(decide (0 ≤ w))) = decide (w < 0) := by
          by_cases h0 : 0 ≤ w
          · have : ¬ w < 0 := by omega
            simp [h0, this]
          · have : w < 0 := by omega
            simp [h0, this]
        simp only [e1, Bool.true_and]
        split
        · simp [h2]
        · rfl
      rw [← e]
      exact h3.congr fun p => by rw [hset, hf]; simp [or_assoc]

def TW : List Rl → List Rl → Int → Prop
  | _, [], _ => False
  | seen, x :: t, p => (hasR seen x.r = true ∧ p = (x.pl : Int)) ∨ TW (seen ++ [x]) t p

theorem tw_lo (l : List Rl) : ∀ seen lo p, OrdR lo l → TW seen l p → (lo : Int) ≤ p := by
  induction l with
  | nil => intro seen lo p _ h; exact h.elim
  | cons x t ih =>
    intro seen lo p ho h
    obtain ⟨h1, hi, h2, h3, h4⟩ := ho
    rcases h with ⟨_, rfl⟩ | h
    · omega
    · have := ih _ _ p h4 h; omega

theorem tw_min (l : List Rl) : ∀ seen lo, OrdR lo l → IsMin (TW seen l) (twiceV seen l, decide (0 ≤ twiceV seen l)) := by
  induction l with
  | nil => intro seen lo _; exact Or.inl ⟨rfl, fun p h => h.elim⟩
  | cons x t ih =>
    intro seen lo ho
    obtain ⟨h1, hi, h2, h3, h4⟩ := ho
    rw [twiceV]
    split
    · rename_i hc
      refine Or.inr ⟨by simp, Or.inl ⟨hc, rfl⟩, fun p hp => ?_⟩
      rcases hp with ⟨_, rfl⟩ | hp
      · exact Int.le_refl _
      · have := tw_lo t _ _ p h4 hp; simp only; omega
    · rename_i hc
      exact (ih _ hi h4).congr fun p => by rw [TW]; simp [hc]

theorem IsMin.seq {A B : Int → Prop} {r t : Int × Bool} (ha : IsMin A r) (hb : IsMin B t) (h : ∀ a b, A a → B b → a ≤ b) : IsMin (fun p => A p ∨ B p) (if r.2 then r else t) := by
  rcases ha with ⟨h1, h2⟩ | ⟨h1, h2, h3⟩
  · rw [h1]
    exact hb.congr fun p => ⟨Or.inr, fun hp => by rcases hp with hp | hp; exact (h2 p hp).elim; exact hp⟩
  · rw [if_pos h1]
    refine Or.inr ⟨h1, Or.inl h2, fun p hp => ?_⟩
    rcases hp with hp | hp
    · exact h3 p hp
    · exact h _ _ h2 hp

theorem miss_min (th : Nat → Bool) (l : List It) : PlInc l → IsMin (fun p => ∃ y, y ∈ l ∧ missB th y = true ∧ p = y.pl) (firstMiss th l) := by
  induction l with
  | nil => intro _; exact Or.inl ⟨rfl, fun p h => by simp at h⟩
  | cons x t ih =>
    intro h
    obtain ⟨h1, h2⟩ := List.pairwise_cons.1 h
    rw [firstMiss_cons]
    split
    · rename_i hc
      refine Or.inr ⟨rfl, ⟨x, List.mem_cons_self, hc, rfl⟩, ?_⟩
      rintro p ⟨y, y1, y2, rfl⟩
      rcases List.mem_cons.1 y1 with rfl | y1
      · exact Int.le_refl _
      · have := h1 y y1; simp only; omega
    · rename_i hc
      exact (ih h2).congr fun p => by simp [hc]

theorem scan_min (th : Nat → Bool) (l : List Rl) : ∀ seen lo, OrdR lo l → IsMin (fun p => TW seen l p ∨ ∃ y, y ∈ allIts l ∧ missB th y = true ∧ p = y.pl) (scanR th seen l) := by
  induction l with
  | nil => intro seen lo _; exact Or.inl ⟨rfl, fun p h => by simp [TW, allIts] at h⟩
  | cons x t ih =>
    intro seen lo ho
    have ho' := ho
    obtain ⟨h1, hi, h2, h3, h4⟩ := ho
    have hx : OrdR x.pl (x :: t) := ⟨Nat.le_refl _, hi, h2, h3, h4⟩
    rw [scanR]
    split
    · rename_i hc
      refine Or.inr ⟨rfl, Or.inl (Or.inl ⟨hc, rfl⟩), fun p hp => ?_⟩
      rcases hp with hp | ⟨y, y1, _, rfl⟩
      · exact tw_lo _ _ _ p hx hp
      · exact hx.pl y y1
    · rename_i hc
      refine ((miss_min th x.its h3.1).seq (ih (seen ++ [x]) hi h4) ?_).congr fun p => ?_
      · rintro a b ⟨y, y1, _, rfl⟩ (hb | ⟨z, z1, _, rfl⟩)
        · have := (h3.2 y y1).2; have := tw_lo _ _ _ b h4 hb; omega
        · have := (h3.2 y y1).2; have := h4.pl z z1; omega
      · rw [TW]
        simp only [hc, allIts, List.flatMap_cons, List.mem_append]
        constructor
        · rintro (⟨y, y1, y2⟩ | h | ⟨y, y1, y2⟩)
          · exact Or.inr ⟨y, Or.inl y1, y2⟩
          · exact Or.inl (Or.inr h)
          · exact Or.inr ⟨y, Or.inr y1, y2⟩
        · rintro ((⟨h, _⟩ | h) | ⟨y, y1 | y1, y2⟩)
          · cases h
          · exact Or.inr (Or.inl h)
          · exact Or.inl ⟨y, y1, y2⟩
          · exact Or.inr (Or.inr ⟨y, y1, y2⟩)

theorem mem_itd (its : List It) (P : It → Prop) : (∃ y, y ∈ its ∧ P y) ↔ ∃ k, k < its.length ∧ P (itd its k) := by
  constructor
  · rintro ⟨y, y1, y2⟩
    obtain ⟨k, k1, rfl⟩ := List.getElem_of_mem y1
    exact ⟨k, k1, by unfold itd; rw [getD_lt _ _ _ k1]; exact y2⟩
  · rintro ⟨k, k1, k2⟩
    exact ⟨itd its k, by unfold itd; rw [getD_lt _ _ _ k1]; exact List.getElem_mem k1, k2⟩

theorem same_rule (s : ByteArray) (h : (formV s).ok = true) : (scanR (inR (formV s).rls) [] (formV s).rls).2 = decide (0 ≤ badR s) ∧ ((scanR (inR (formV s).rls) [] (formV s).rls).2 = true → (scanR (inR (formV s).rls) [] (formV s).rls).1 = badR s) := by
  obtain ⟨ho, hr, _, _⟩ := rules_ord s 8 65 0 (by omega) h
  have ho : OrdR 0 (formV s).rls := ho
  have h1 := scan_min (inR (formV s).rls) (formV s).rls [] 0 ho
  have h2 := worst_min (allIts (formV s).rls) (noRule (formV s).rls (allIts (formV s).rls)) _ _ (allIts (formV s).rls).length (form_pl s h) (tw_min (formV s).rls [] 0 ho)
  refine IsMin.eq h1 (h2.congr fun p => ?_) (MinEq.refl _)
  have h3 := mem_itd (allIts (formV s).rls) (fun y => missB (inR (formV s).rls) y = true ∧ p = y.pl)
  rw [h3]
  have h4 : ∀ k, k < (allIts (formV s).rls).length → noRule (formV s).rls (allIts (formV s).rls) k = missB (inR (formV s).rls) (itd (allIts (formV s).rls) k) := by
    intro k hk
    unfold noRule missB inR
    have hm : itd (allIts (formV s).rls) k ∈ allIts (formV s).rls := by unfold itd; rw [getD_lt _ _ _ hk]; exact List.getElem_mem hk
    obtain ⟨r, r1, r2⟩ := List.mem_flatMap.1 hm
    have hi := (hr r r1).items _ r2
    cases hc : ((itd (allIts (formV s).rls) k).c == 82)
    · rfl
    · have := hi.r (by simpa using hc)
      rw [show (((itd (allIts (formV s).rls) k).r.toNat : Nat) : Int) = (itd (allIts (formV s).rls) k).r by omega]
  constructor
  · rintro (h | ⟨k, k1, k2, k3⟩)
    · exact Or.inl h
    · exact Or.inr ⟨k, k1, by rw [← h4 k k1]; exact k2, k3⟩
  · rintro (h | ⟨k, k1, k2, k3⟩)
    · exact Or.inl h
    · exact Or.inr ⟨k, k1, by rw [h4 k k1]; exact k2, k3⟩

theorem ev_none (f : Nat) : ∀ l, ev f false false l = [] := by
  induction f with
  | zero => intro l; rfl
  | succ f ih =>
    intro l
    cases l with
    | nil => rfl
    | cons x r => simp [ev, ih]

theorem wrong_min (F : Nat) (rls : List Rl) : ∀ (S : Int → Prop) st, IsMin S st → IsMin (fun p => S p ∨ ∃ r, r ∈ rls ∧ lost PB F false false r.its p) (wrongD F rls st) := by
  induction rls with
  | nil => intro S st h; exact h.congr fun p => by simp
  | cons r t ih =>
    intro S st h
    have h1 := (walk_min F false false r.its Sc0 st S h).2
    rw [ev_none] at h1
    refine IsMin.congr (ih _ _ h1) fun p => ?_
    simp only [List.mem_cons, exists_eq_or_imp, PE, false_or, or_assoc]

theorem ref_rules {F : Nat} (rls : List Rl) (ht : ∀ r, r ∈ rls → TrS F r.its) (hp : ∀ r, r ∈ rls → PlInc r.its) (p : Int) :
    (∃ k, k < (allIts rls).length ∧ boundV (allIts rls) k = false ∧ p = (itd (allIts rls) k).pl) ↔ ∃ r, r ∈ rls ∧ lost RB F false false r.its p := by
  have hfl : (rls.map Rl.its).flatten = allIts rls := by unfold allIts; rw [List.flatMap_def]
  have hat : At (allIts rls) 0 (rls.map Rl.its).flatten := ⟨[], [], by simp [hfl], rfl⟩
  have htz : ∀ z, z ∈ rls.map Rl.its → TrS F z := fun z hz => by obtain ⟨r, r1, rfl⟩ := List.mem_map.1 hz; exact ht r r1
  have hpz : ∀ z, z ∈ rls.map Rl.its → PlInc z := fun z hz => by obtain ⟨r, r1, rfl⟩ := List.mem_map.1 hz; exact hp r r1
  have hq : ∀ q, q ∈ withSt 0 (rls.map Rl.its) → ((∃ k, q.1 ≤ k ∧ k < q.1 + q.2.length ∧ boundV (allIts rls) k = false ∧ p = (itd (allIts rls) k).pl) ↔ lost RB F false false q.2 p) := by
    intro q hq
    obtain ⟨m1, m2, m3, m4⟩ := withSt_mem _ 0 hat q hq
    have hc : Ctx (allIts rls) F false false q.1 q.2 0 := by
      refine ⟨fun k k1 k2 _ s hs => ?_, fun k hk => by rw [evI_none] at hk; simp at hk⟩
      have := beside _ htz 0 hat q hq s (by omega) hs
      rw [decides_lt (by omega), evI_none]; simp
    rw [ref_set F false false q.1 q.2 0 (htz _ m1) m2 (hpz _ m1) hc p, evI_none]
    simp
  constructor
  · rintro ⟨k, k1, k2, k3⟩
    obtain ⟨q, q1, q2, q3⟩ := withSt_cover (rls.map Rl.its) 0 k (by omega) (by rw [hfl]; omega)
    obtain ⟨m1, _, _, _⟩ := withSt_mem _ 0 hat q q1
    obtain ⟨r, r1, r2⟩ := List.mem_map.1 m1
    exact ⟨r, r1, by rw [r2]; exact (hq q q1).1 ⟨k, q2, q3, k2, k3⟩⟩
  · rintro ⟨r, r1, r2⟩
    obtain ⟨c, hc⟩ := withSt_of (rls.map Rl.its) 0 r.its (List.mem_map.2 ⟨r, r1, rfl⟩)
    obtain ⟨_, m2, _, m4⟩ := withSt_mem _ 0 hat _ hc
    obtain ⟨k, k1, k2, k3, k4⟩ := (hq _ hc).2 r2
    have := m2.le
    exact ⟨k, by omega, k3, k4⟩

theorem OrdR.inc {l : List Rl} : ∀ {lo : Nat}, OrdR lo l → ∀ r, r ∈ l → PlInc r.its := by
  induction l with
  | nil => intro lo _ r hr; simp at hr
  | cons x t ih =>
    intro lo h r hr
    obtain ⟨h1, hi, h2, h3, h4⟩ := h
    rcases List.mem_cons.1 hr with rfl | hr
    · exact h3.1
    · exact ih h4 r hr

theorem hu_kD (c : Int) (h : (hidesB c || usesB c) = true) : kD c = true := by
  unfold hidesB usesB inB at h
  unfold kD inB
  simp at h ⊢
  omega

theorem same_bound (s : ByteArray) (h : (formV s).ok = true) : (wrongD (s.size + 1) (formV s).rls (0, false)).2 = decide (0 ≤ badB s) ∧ ((wrongD (s.size + 1) (formV s).rls (0, false)).2 = true → (wrongD (s.size + 1) (formV s).rls (0, false)).1 = badB s) := by
  obtain ⟨ho, hr, _, _⟩ := rules_ord s 8 65 0 (by omega) h
  have ho : OrdR 0 (formV s).rls := ho
  have ht := rules_tr s 8 65 0 h
  have h0 : IsMin (fun _ => False) ((0 : Int), false) := Or.inl ⟨rfl, fun p h => h⟩
  have h1 := wrong_min (s.size + 1) (formV s).rls _ _ h0
  have h00 : IsMin (fun _ => False) ((-1 : Int), decide (0 ≤ (-1 : Int))) := Or.inl ⟨rfl, fun p h => h⟩
  have h2 := worst_min (allIts (formV s).rls) (fun i => !(boundV (allIts (formV s).rls) i)) _ _ (allIts (formV s).rls).length (form_pl s h) h00
  have h3 : IsMin (fun p => False ∨ ∃ r, r ∈ (formV s).rls ∧ lost RB (s.size + 1) false false r.its p) (badB s, decide (0 ≤ badB s)) := by
    refine IsMin.congr h2 fun p => ?_
    rw [← ref_rules (formV s).rls ht ho.inc p]
    simp only [Bool.not_eq_true']
  refine IsMin.eq h1 h3 (MinEq.or (MinEq.refl _) (MinEq.ex fun r hr2 => lost_eq _ _ _ _ (ho.inc r hr2) ?_))
  intro x hx hc
  exact ((hr r hr2).items x hx).d (hu_kD _ hc)

theorem same (s : ByteArray) : pressV s = readV s := by
  unfold pressV readV
  split
  · rfl
  · split
    · rfl
    · rename_i hok
      have h : (formV s).ok = true := by simpa using hok
      obtain ⟨a1, a2⟩ := same_rule s h
      obtain ⟨b1, b2⟩ := same_bound s h
      by_cases hR : 0 ≤ badR s
      · have a3 : (scanR (inR (formV s).rls) [] (formV s).rls).2 = true := by rw [a1]; simpa using hR
        rw [if_pos a3, if_pos hR, a2 a3]
      · have a3 : ¬ (scanR (inR (formV s).rls) [] (formV s).rls).2 = true := by rw [a1]; simpa using hR
        rw [if_neg a3, if_neg hR]
        by_cases hB : 0 ≤ badB s
        · have b3 : (wrongD (s.size + 1) (formV s).rls (0, false)).2 = true := by rw [b1]; simpa using hB
          rw [if_pos b3, if_pos hB, b2 b3]
        · have b3 : ¬ (wrongD (s.size + 1) (formV s).rls (0, false)).2 = true := by rw [b1]; simpa using hB
          rw [if_neg b3, if_neg hB]

end Go.Proofs.YtmlkhhhjdpbhfaaDoor

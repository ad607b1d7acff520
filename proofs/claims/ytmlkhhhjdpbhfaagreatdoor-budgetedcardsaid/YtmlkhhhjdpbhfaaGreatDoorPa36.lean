import Derived.Test.YtmlkhhhjdpbhfaaGreatDoorPa26
import Derived.Test.YtmlkhhhjdpbhfaaGreatDoorPa29
import Derived.Test.YtmlkhhhjdpbhfaaGreatDoorPa35
import Derived.Test.YtmlkhhhjdpbhfaaGreatDoorPa11
namespace Go.Proofs.YtmlkhhhjdpbhfaaGreatDoor
open Go.RowKit
theorem loopN_tr (p : Nat → Res) (f : Nat) (hp : ∀ a, (p a).ok = true → TrS f (p a).its) (k : Nat) : ∀ a, (loopN p k a).ok = true → ∃ kids, (loopN p k a).its = List.flatten kids ∧ (∀ z, z ∈ kids → TrS f z) ∧ kids.length = k := by
 induction k with
 | zero => intro a _; exact ⟨[], rfl, fun z hz => by simp at hz, rfl⟩
 | succ k ih =>
  intro a h
  rw [loopN] at h ⊢
  split
  · rename_i hok
    rw [if_pos hok] at h
    obtain ⟨kids, h1, h2, h3⟩ := ih _ h
    refine ⟨(p a).its :: kids, by simp [Res.pre, h1], fun z hz => ?_, by simp [h3]⟩
    rcases List.mem_cons.1 hz with rfl | hz
    · exact hp a hok
    · exact h2 z hz
  · rename_i hok; rw [if_neg hok] at h; cases h
theorem loopB_tr (p : Nat → Res) (s : ByteArray) (f : Nat) (hp : ∀ a, (p a).ok = true → TrS f (p a).its) (k : Nat) : ∀ a, (loopB p s k a).ok = true → ∃ kids, (loopB p s k a).its = List.flatten kids ∧ (∀ z, z ∈ kids → TrS f z) := by
 induction k with
 | zero => intro a h; cases h
 | succ k ih =>
  intro a h
  rw [loopB] at h ⊢
  split
  · rename_i hok
    rw [if_pos hok] at h
    split
    · exact ⟨[(p a).its], by simp, fun z hz => by simp at hz; subst hz; exact hp a hok⟩
    · rename_i h41
      rw [if_neg h41] at h
      obtain ⟨kids, h1, h2⟩ := ih _ h
      refine ⟨(p a).its :: kids, by simp [Res.pre, h1], fun z hz => ?_⟩
      rcases List.mem_cons.1 hz with rfl | hz
      · exact hp a hok
      · exact h2 z hz
  · rename_i hok; rw [if_neg hok] at h; cases h
theorem prs_tr (s : ByteArray) (rule : Int) (f : Nat) : ∀ a, (prs s rule f a).ok = true → TrS f (prs s rule f a).its := by
 induction f with
 | zero => intro a h; cases h
 | succ f ih =>
  intro a h
  rw [prs] at h ⊢
  split
  · rename_i hok
    rw [if_pos hok] at h
    obtain ⟨_, _, _, c4⟩ := headV_c s a hok
    have h' : (inner (prs s rule f) s f (headV s a)).ok = true := h
    have hin : ∃ kids, (inner (prs s rule f) s f (headV s a)).its = List.flatten kids ∧ (∀ z, z ∈ kids → TrS f z) ∧ ((headV s a).inn = 1 → kids.length = 1) := by
     unfold inner at h' ⊢
     split
     · rename_i hneg
       rw [if_pos hneg] at h'
       obtain ⟨kids, h1, h2⟩ := loopB_tr _ s f ih _ _ h'
       exact ⟨kids, h1, h2, fun e => by omega⟩
     · rename_i hneg
       rw [if_neg hneg] at h'
       obtain ⟨kids, h1, h2, h3⟩ := loopN_tr _ f ih _ _ h'
       exact ⟨kids, h1, h2, fun e => by rw [h3, e]; rfl⟩
    obtain ⟨kids, h1, h2, h3⟩ := hin
    refine ⟨_, kids, by rw [← h1], by rw [← h1], h2, fun hc => ?_⟩
    exact List.length_eq_one_iff.1 (h3 (c4 hc))
  · rename_i hok; rw [if_neg hok] at h; cases h
theorem rules_tr (s : ByteArray) (k : Nat) : ∀ top a, (rulesV s k top a).ok = true → ∀ x, x ∈ (rulesV s k top a).rls → TrS (s.size + 1) x.its := by
 induction k with
 | zero => intro top a h; cases h
 | succ k ih =>
  intro top a h x
  rw [rulesV] at h ⊢
  split
  · rename_i h1; rw [if_pos h1] at h; cases h
  · rename_i h1
    rw [if_neg h1] at h
    split
    · rename_i h2; rw [if_pos h2] at h; cases h
    · rename_i h2
      rw [if_neg h2] at h
      split
      · rename_i h3; rw [if_pos h3] at h; cases h
      · rename_i h3
        rw [if_neg h3] at h
        have h3' : (prs s (bt s a - 65) (s.size + 1) (a + 2)).ok = true := by simpa using h3
        have ht := prs_tr s (bt s a - 65) (s.size + 1) (a + 2) h3'
        split
        · intro hx; simp at hx; subst hx; exact ht
        · rename_i h4
          rw [if_neg h4] at h
          split
          · rename_i h5; rw [if_pos h5] at h; cases h
          · rename_i h5
            rw [if_neg h5] at h
            intro hx
            simp only [RRes.pre, List.cons_append, List.nil_append] at hx
            rcases List.mem_cons.1 hx with rfl | hx
            · exact ht
            · exact ih 72 _ h x hx
theorem worst_min (its : List It) (fall : Nat → Bool) (S : Int → Prop) (bad : Int) (n : Nat) : (∀ k, k < n → 0 ≤ (itd its k).pl) → IsMin S (bad, decide (0 ≤ bad)) →
 IsMin (fun p => S p ∨ ∃ k, k < n ∧ fall k = true ∧ p = (itd its k).pl) (worst its fall n bad, decide (0 ≤ worst its fall n bad)) := by
 induction n with
 | zero => intro _ h; exact h.congr fun p => by simp
 | succ n ih =>
  intro hp h
  have h1 := ih (fun k hk => hp k (by omega)) h
  have h2 := hp n (by omega)
  rw [worst]
  generalize worst its fall n bad = w at h1
  have hset : ∀ p, (∃ k, k < n + 1 ∧ fall k = true ∧ p = (itd its k).pl) ↔ ((∃ k, k < n ∧ fall k = true ∧ p = (itd its k).pl) ∨ (fall n = true ∧ p = (itd its n).pl)) := by
   intro p
   constructor
   · rintro ⟨k, k1, k2, k3⟩
     by_cases e : k = n
     · subst e; exact Or.inr ⟨k2, k3⟩
     · exact Or.inl ⟨k, by omega, k2, k3⟩
   · rintro (⟨k, k1, k2, k3⟩ | ⟨k2, k3⟩)
     · exact ⟨k, by omega, k2, k3⟩
     · exact ⟨n, by omega, k2, k3⟩
  cases hf : fall n
  · simp only [Bool.false_and, Bool.false_eq_true, if_false]
    exact h1.congr fun p => by rw [hset, hf]; simp
  · have h3 := h1.add (itd its n).pl
    have e : bwV (w, decide (0 ≤ w)) (itd its n).pl = ((if (true && (decide (w < 0) || decide ((itd its n).pl < w))) = true then (itd its n).pl else w), decide (0 ≤ if (true && (decide (w < 0) || decide ((itd its n).pl < w))) = true then (itd its n).pl else w)) := by
     unfold bwV
     have e1 : (!(decide (0 ≤ w))) = decide (w < 0) := by
      by_cases h0 : 0 ≤ w
      · have : ¬ w < 0 := by omega
        simp [h0, this]
      · have : w < 0 := by omega
        simp [h0, this]
     simp only [e1, Bool.true_and]
     split
     · simp [h2]
     · rfl
    rw [← e]
    exact h3.congr fun p => by rw [hset, hf]; simp [or_assoc]
def TW : List Rl → List Rl → Int → Prop
 | _, [], _ => False
 | seen, x :: t, p => (hasR seen x.r = true ∧ p = (x.pl : Int)) ∨ TW (seen ++ [x]) t p
theorem tw_lo (l : List Rl) : ∀ seen lo p, OrdR lo l → TW seen l p → (lo : Int) ≤ p := by
 induction l with
 | nil => intro seen lo p _ h; exact h.elim
 | cons x t ih =>
  intro seen lo p ho h
  obtain ⟨h1, hi, h2, h3, h4⟩ := ho
  rcases h with ⟨_, rfl⟩ | h
  · omega
  · have := ih _ _ p h4 h; omega
theorem tw_min (l : List Rl) : ∀ seen lo, OrdR lo l → IsMin (TW seen l) (twiceV seen l, decide (0 ≤ twiceV seen l)) := by
 induction l with
 | nil => intro seen lo _; exact Or.inl ⟨rfl, fun p h => h.elim⟩
 | cons x t ih =>
  intro seen lo ho
  obtain ⟨h1, hi, h2, h3, h4⟩ := ho
  rw [twiceV]
  split
  · rename_i hc
    refine Or.inr ⟨by simp, Or.inl ⟨hc, rfl⟩, fun p hp => ?_⟩
    rcases hp with ⟨_, rfl⟩ | hp
    · exact Int.le_refl _
    · have := tw_lo t _ _ p h4 hp; simp only; omega
  · rename_i hc
    exact (ih _ hi h4).congr fun p => by rw [TW]; simp [hc]
theorem IsMin.seq {A B : Int → Prop} {r t : Int × Bool} (ha : IsMin A r) (hb : IsMin B t) (h : ∀ a b, A a → B b → a ≤ b) : IsMin (fun p => A p ∨ B p) (if r.2 then r else t) := by
 rcases ha with ⟨h1, h2⟩ | ⟨h1, h2, h3⟩
 · rw [h1]
   exact hb.congr fun p => ⟨Or.inr, fun hp => by rcases hp with hp | hp; exact (h2 p hp).elim; exact hp⟩
 · rw [if_pos h1]
   refine Or.inr ⟨h1, Or.inl h2, fun p hp => ?_⟩
   rcases hp with hp | hp
   · exact h3 p hp
   · exact h _ _ h2 hp
theorem miss_min (th : Nat → Bool) (l : List It) : PlInc l → IsMin (fun p => ∃ y, y ∈ l ∧ missB th y = true ∧ p = y.pl) (firstMiss th l) := by
 induction l with
 | nil => intro _; exact Or.inl ⟨rfl, fun p h => by simp at h⟩
 | cons x t ih =>
  intro h
  obtain ⟨h1, h2⟩ := List.pairwise_cons.1 h
  rw [firstMiss_cons]
  split
  · rename_i hc
    refine Or.inr ⟨rfl, ⟨x, List.mem_cons_self, hc, rfl⟩, ?_⟩
    rintro p ⟨y, y1, y2, rfl⟩
    rcases List.mem_cons.1 y1 with rfl | y1
    · exact Int.le_refl _
    · have := h1 y y1; simp only; omega
  · rename_i hc
    exact (ih h2).congr fun p => by simp [hc]
theorem scan_min (th : Nat → Bool) (l : List Rl) : ∀ seen lo, OrdR lo l → IsMin (fun p => TW seen l p ∨ ∃ y, y ∈ allIts l ∧ missB th y = true ∧ p = y.pl) (scanR th seen l) := by
 induction l with
 | nil => intro seen lo _; exact Or.inl ⟨rfl, fun p h => by simp [TW, allIts] at h⟩
 | cons x t ih =>
  intro seen lo ho
  have ho' := ho
  obtain ⟨h1, hi, h2, h3, h4⟩ := ho
  have hx : OrdR x.pl (x :: t) := ⟨Nat.le_refl _, hi, h2, h3, h4⟩
  rw [scanR]
  split
  · rename_i hc
    refine Or.inr ⟨rfl, Or.inl (Or.inl ⟨hc, rfl⟩), fun p hp => ?_⟩
    rcases hp with hp | ⟨y, y1, _, rfl⟩
    · exact tw_lo _ _ _ p hx hp
    · exact hx.pl y y1
  · rename_i hc
    refine ((miss_min th x.its h3.1).seq (ih (seen ++ [x]) hi h4) ?_).congr fun p => ?_
    · rintro a b ⟨y, y1, _, rfl⟩ (hb | ⟨z, z1, _, rfl⟩)
      · have := (h3.2 y y1).2; have := tw_lo _ _ _ b h4 hb; omega
      · have := (h3.2 y y1).2; have := h4.pl z z1; omega
    · rw [TW]
      simp only [hc, allIts, List.flatMap_cons, List.mem_append]
      constructor
      · rintro (⟨y, y1, y2⟩ | h | ⟨y, y1, y2⟩)
        · exact Or.inr ⟨y, Or.inl y1, y2⟩
        · exact Or.inl (Or.inr h)
        · exact Or.inr ⟨y, Or.inr y1, y2⟩
      · rintro ((⟨h, _⟩ | h) | ⟨y, y1 | y1, y2⟩)
        · cases h
        · exact Or.inr (Or.inl h)
        · exact Or.inl ⟨y, y1, y2⟩
        · exact Or.inr (Or.inr ⟨y, y1, y2⟩)
theorem mem_itd (its : List It) (P : It → Prop) : (∃ y, y ∈ its ∧ P y) ↔ ∃ k, k < its.length ∧ P (itd its k) := by
 constructor
 · rintro ⟨y, y1, y2⟩
   obtain ⟨k, k1, rfl⟩ := List.getElem_of_mem y1
   exact ⟨k, k1, by unfold itd; rw [getD_lt _ _ _ k1]; exact y2⟩
 · rintro ⟨k, k1, k2⟩
   exact ⟨itd its k, by unfold itd; rw [getD_lt _ _ _ k1]; exact List.getElem_mem k1, k2⟩
theorem same_rule (s : ByteArray) (h : (formV s).ok = true) : (scanR (inR (formV s).rls) [] (formV s).rls).2 = decide (0 ≤ badR s) ∧ ((scanR (inR (formV s).rls) [] (formV s).rls).2 = true → (scanR (inR (formV s).rls) [] (formV s).rls).1 = badR s) := by
 obtain ⟨ho, hr, _, _⟩ := rules_ord s 8 65 0 (by omega) h
 have ho : OrdR 0 (formV s).rls := ho
 have h1 := scan_min (inR (formV s).rls) (formV s).rls [] 0 ho
 have h2 := worst_min (allIts (formV s).rls) (noRule (formV s).rls (allIts (formV s).rls)) _ _ (allIts (formV s).rls).length (form_pl s h) (tw_min (formV s).rls [] 0 ho)
 refine IsMin.eq h1 (h2.congr fun p => ?_) (MinEq.refl _)
 have h3 := mem_itd (allIts (formV s).rls) (fun y => missB (inR (formV s).rls) y = true ∧ p = y.pl)
 rw [h3]
 have h4 : ∀ k, k < (allIts (formV s).rls).length → noRule (formV s).rls (allIts (formV s).rls) k = missB (inR (formV s).rls) (itd (allIts (formV s).rls) k) := by
  intro k hk
  unfold noRule missB inR
  have hm : itd (allIts (formV s).rls) k ∈ allIts (formV s).rls := by unfold itd; rw [getD_lt _ _ _ hk]; exact List.getElem_mem hk
  obtain ⟨r, r1, r2⟩ := List.mem_flatMap.1 hm
  have hi := (hr r r1).items _ r2
  cases hc : ((itd (allIts (formV s).rls) k).c == 82)
  · rfl
  · have := hi.r (by simpa using hc)
    rw [show (((itd (allIts (formV s).rls) k).r.toNat : Nat) : Int) = (itd (allIts (formV s).rls) k).r by omega]
 constructor
 · rintro (h | ⟨k, k1, k2, k3⟩)
   · exact Or.inl h
   · exact Or.inr ⟨k, k1, by rw [← h4 k k1]; exact k2, k3⟩
 · rintro (h | ⟨k, k1, k2, k3⟩)
   · exact Or.inl h
   · exact Or.inr ⟨k, k1, by rw [h4 k k1]; exact k2, k3⟩
theorem ev_none (f : Nat) : ∀ l, ev f false false l = [] := by
 induction f with
 | zero => intro l; rfl
 | succ f ih =>
  intro l
  cases l with
  | nil => rfl
  | cons x r => simp [ev, ih]
theorem wrong_min (F : Nat) (rls : List Rl) : ∀ (S : Int → Prop) st, IsMin S st → IsMin (fun p => S p ∨ ∃ r, r ∈ rls ∧ lost PB F false false r.its p) (wrongD F rls st) := by
 induction rls with
 | nil => intro S st h; exact h.congr fun p => by simp
 | cons r t ih =>
  intro S st h
  have h1 := (walk_min F false false r.its Sc0 st S h).2
  rw [ev_none] at h1
  refine IsMin.congr (ih _ _ h1) fun p => ?_
  simp only [List.mem_cons, exists_eq_or_imp, PE, false_or, or_assoc]
theorem ref_rules {F : Nat} (rls : List Rl) (ht : ∀ r, r ∈ rls → TrS F r.its) (hp : ∀ r, r ∈ rls → PlInc r.its) (p : Int) :
 (∃ k, k < (allIts rls).length ∧ boundV (allIts rls) k = false ∧ p = (itd (allIts rls) k).pl) ↔ ∃ r, r ∈ rls ∧ lost RB F false false r.its p := by
 have hfl : (rls.map Rl.its).flatten = allIts rls := by unfold allIts; rw [List.flatMap_def]
 have hat : At (allIts rls) 0 (rls.map Rl.its).flatten := ⟨[], [], by simp [hfl], rfl⟩
 have htz : ∀ z, z ∈ rls.map Rl.its → TrS F z := fun z hz => by obtain ⟨r, r1, rfl⟩ := List.mem_map.1 hz; exact ht r r1
 have hpz : ∀ z, z ∈ rls.map Rl.its → PlInc z := fun z hz => by obtain ⟨r, r1, rfl⟩ := List.mem_map.1 hz; exact hp r r1
 have hq : ∀ q, q ∈ withSt 0 (rls.map Rl.its) → ((∃ k, q.1 ≤ k ∧ k < q.1 + q.2.length ∧ boundV (allIts rls) k = false ∧ p = (itd (allIts rls) k).pl) ↔ lost RB F false false q.2 p) := by
  intro q hq
  obtain ⟨m1, m2, m3, m4⟩ := withSt_mem _ 0 hat q hq
  have hc : Ctx (allIts rls) F false false q.1 q.2 0 := by
   refine ⟨fun k k1 k2 _ s hs => ?_, fun k hk => by rw [evI_none] at hk; simp at hk⟩
   have := beside _ htz 0 hat q hq s (by omega) hs
   rw [decides_lt (by omega), evI_none]; simp
  rw [ref_set F false false q.1 q.2 0 (htz _ m1) m2 (hpz _ m1) hc p, evI_none]
  simp
 constructor
 · rintro ⟨k, k1, k2, k3⟩
   obtain ⟨q, q1, q2, q3⟩ := withSt_cover (rls.map Rl.its) 0 k (by omega) (by rw [hfl]; omega)
   obtain ⟨m1, _, _, _⟩ := withSt_mem _ 0 hat q q1
   obtain ⟨r, r1, r2⟩ := List.mem_map.1 m1
   exact ⟨r, r1, by rw [r2]; exact (hq q q1).1 ⟨k, q2, q3, k2, k3⟩⟩
 · rintro ⟨r, r1, r2⟩
   obtain ⟨c, hc⟩ := withSt_of (rls.map Rl.its) 0 r.its (List.mem_map.2 ⟨r, r1, rfl⟩)
   obtain ⟨_, m2, _, m4⟩ := withSt_mem _ 0 hat _ hc
   obtain ⟨k, k1, k2, k3, k4⟩ := (hq _ hc).2 r2
   have := m2.le
   exact ⟨k, by omega, k3, k4⟩
theorem OrdR.inc {l : List Rl} : ∀ {lo : Nat}, OrdR lo l → ∀ r, r ∈ l → PlInc r.its := by
 induction l with
 | nil => intro lo _ r hr; simp at hr
 | cons x t ih =>
  intro lo h r hr
  obtain ⟨h1, hi, h2, h3, h4⟩ := h
  rcases List.mem_cons.1 hr with rfl | hr
  · exact h3.1
  · exact ih h4 r hr
theorem hu_kD (c : Int) (h : (hidesB c || usesB c) = true) : kD c = true := by
 unfold hidesB usesB inB at h
 unfold kD inB
 simp at h ⊢
 omega
theorem same_bound (s : ByteArray) (h : (formV s).ok = true) : (wrongD (s.size + 1) (formV s).rls (0, false)).2 = decide (0 ≤ badB s) ∧ ((wrongD (s.size + 1) (formV s).rls (0, false)).2 = true → (wrongD (s.size + 1) (formV s).rls (0, false)).1 = badB s) := by
 obtain ⟨ho, hr, _, _⟩ := rules_ord s 8 65 0 (by omega) h
 have ho : OrdR 0 (formV s).rls := ho
 have ht := rules_tr s 8 65 0 h
 have h0 : IsMin (fun _ => False) ((0 : Int), false) := Or.inl ⟨rfl, fun p h => h⟩
 have h1 := wrong_min (s.size + 1) (formV s).rls _ _ h0
 have h00 : IsMin (fun _ => False) ((-1 : Int), decide (0 ≤ (-1 : Int))) := Or.inl ⟨rfl, fun p h => h⟩
 have h2 := worst_min (allIts (formV s).rls) (fun i => !(boundV (allIts (formV s).rls) i)) _ _ (allIts (formV s).rls).length (form_pl s h) h00
 have h3 : IsMin (fun p => False ∨ ∃ r, r ∈ (formV s).rls ∧ lost RB (s.size + 1) false false r.its p) (badB s, decide (0 ≤ badB s)) := by
  refine IsMin.congr h2 fun p => ?_
  rw [← ref_rules (formV s).rls ht ho.inc p]
  simp only [Bool.not_eq_true']
 refine IsMin.eq h1 h3 (MinEq.or (MinEq.refl _) (MinEq.ex fun r hr2 => lost_eq _ _ _ _ (ho.inc r hr2) ?_))
 intro x hx hc
 exact ((hr r hr2).items x hx).d (hu_kD _ hc)
theorem same (s : ByteArray) : pressV s = readV s := by
 unfold pressV readV
 split
 · rfl
 · split
   · rfl
   · rename_i hok
     have h : (formV s).ok = true := by simpa using hok
     obtain ⟨a1, a2⟩ := same_rule s h
     obtain ⟨b1, b2⟩ := same_bound s h
     by_cases hR : 0 ≤ badR s
     · have a3 : (scanR (inR (formV s).rls) [] (formV s).rls).2 = true := by rw [a1]; simpa using hR
       rw [if_pos a3, if_pos hR, a2 a3]
     · have a3 : ¬ (scanR (inR (formV s).rls) [] (formV s).rls).2 = true := by rw [a1]; simpa using hR
       rw [if_neg a3, if_neg hR]
       by_cases hB : 0 ≤ badB s
       · have b3 : (wrongD (s.size + 1) (formV s).rls (0, false)).2 = true := by rw [b1]; simpa using hB
         rw [if_pos b3, if_pos hB, b2 b3]
       · have b3 : ¬ (wrongD (s.size + 1) (formV s).rls (0, false)).2 = true := by rw [b1]; simpa using hB
         rw [if_neg b3, if_neg hB]
structure HeadR (h : Hd) : Prop where
 w : kW h.it.c = true → 1 ≤ h.it.w ∧ h.it.w ≤ 4
 b : h.it.c = 39 → 0 ≤ h.it.b ∧ h.it.b ≤ 255
 two : h.it.c = 47 → h.inn = 2
 one : inB [42, 116, 119, 64, 115] h.it.c = true → h.inn = 1
theorem inB_one (c : Int) (h : inB [42, 116, 119, 64, 115] c = true) : kIn c = 1 := by
 simp only [inB, List.any_cons, List.any_nil, Bool.or_false, Bool.or_eq_true, beq_iff_eq] at h
 rcases h with h | h | h | h | h
 · rw [show c = 42 by simp at h; omega]; decide
 · rw [show c = 116 by simp at h; omega]; decide
 · rw [show c = 119 by simp at h; omega]; decide
 · rw [show c = 64 by simp at h; omega]; decide
 · rw [show c = 115 by simp at h; omega]; decide
theorem headV_r (s : ByteArray) (a : Nat) (h : (headV s a).ok = true) : HeadR (headV s a) := by
 unfold headV at h ⊢
 split
 · exact ⟨fun h => absurd (show kW 82 = true from h) (by decide), fun h => absurd (show (82 : Int) = 39 from h) (by decide), fun h => absurd (show (82 : Int) = 47 from h) (by decide), fun h => absurd (show inB [42, 116, 119, 64, 115] 82 = true from h) (by decide)⟩
 · rename_i hr
   rw [if_neg hr] at h
   split
   · rename_i h39
     rw [if_pos h39] at h
     split
     · rename_i hx; rw [if_pos hx] at h; cases h
     · rename_i hx
       rw [if_neg hx] at h
       split
       · rename_i hy; rw [if_pos hy] at h; cases h
       · rename_i hy
         have b1 := hexV_bd (bt s (a + 1))
         have b2 := hexV_bd (bt s (a + 2))
         exact ⟨fun h => absurd (show kW 39 = true from h) (by decide), fun _ => ⟨by simp only; omega, by simp only; omega⟩, fun h => absurd (show (39 : Int) = 47 from h) (by decide), fun h => absurd (show inB [42, 116, 119, 64, 115] 39 = true from h) (by decide)⟩
   · rename_i h39
     rw [if_neg h39] at h
     split
     · rename_i hk
       rw [if_pos hk] at h
       have h47 : bt s a = 47 → kIn (bt s a) = 2 := fun e => by rw [e]; decide
       have dep : ∀ (i : Nat) (it : It), it.c = bt s a → (kW (bt s a) = true → 1 ≤ it.w ∧ it.w ≤ 4) → (depHd s (bt s a) i it).ok = true → HeadR (depHd s (bt s a) i it) := by
        intro i it hc hw hd
        unfold depHd at hd ⊢
        split
        · rename_i h1
          rw [if_pos h1] at hd
          split
          · exact ⟨fun h => hw (by rw [← hc]; exact h), fun h => absurd (hc.symm.trans h) h39, fun h => h47 (hc.symm.trans h), fun h => inB_one _ (by rw [← hc]; exact h)⟩
          · rename_i h2; rw [if_neg h2] at hd; cases hd
        · exact ⟨fun h => hw (by rw [← hc]; exact h), fun h => absurd (hc.symm.trans h) h39, fun h => h47 (hc.symm.trans h), fun h => inB_one _ (by rw [← hc]; exact h)⟩
       split
       · rename_i hw
         rw [if_pos hw] at h
         split
         · rename_i h4
           rw [if_pos h4] at h
           exact dep _ _ rfl (fun _ => ⟨by simp only; omega, by simp only; omega⟩) h
         · rename_i h4; rw [if_neg h4] at h; cases h
       · rename_i hw
         rw [if_neg hw] at h
         exact dep _ _ rfl (fun h => absurd h hw) h
     · rename_i hk; rw [if_neg hk] at h; cases h
def TrQ : Nat → List It → Prop
 | 0, _ => False
 | f + 1, l => ∃ x kids, l = x :: List.flatten kids ∧ x.nx = 1 + ((List.flatten kids).length : Int) ∧ (∀ z, z ∈ kids → TrQ f z) ∧ (x.c = 47 → kids.length = 2) ∧ (inB [42, 116, 119, 64, 115] x.c = true → kids.length = 1) ∧ ItR x
theorem TrQ.seg {f : Nat} {l : List It} (h : TrQ f l) : SegOk l := by
 cases f with
 | zero => exact h.elim
 | succ f => obtain ⟨x, kids, h1, h2, _⟩ := h; exact ⟨x, kids.flatten, h1, h2⟩
theorem TrQ.segs {f : Nat} (zs : List (List It)) (hz : ∀ z, z ∈ zs → TrQ f z) : Proofs.YtmlkhhhjdpbhfaaGreatDoor.segs zs.flatten.length zs.flatten = zs := segs_flat zs (fun z h => (hz z h).seg) _ (Nat.le_refl _)
theorem loopN_trq (p : Nat → Res) (f : Nat) (hp : ∀ a, (p a).ok = true → TrQ f (p a).its) (k : Nat) : ∀ a, (loopN p k a).ok = true → ∃ kids, (loopN p k a).its = List.flatten kids ∧ (∀ z, z ∈ kids → TrQ f z) ∧ kids.length = k := by
 induction k with
 | zero => intro a _; exact ⟨[], rfl, fun z hz => by simp at hz, rfl⟩
 | succ k ih =>
  intro a h
  rw [loopN] at h ⊢
  split
  · rename_i hok
    rw [if_pos hok] at h
    obtain ⟨kids, h1, h2, h3⟩ := ih _ h
    refine ⟨(p a).its :: kids, by simp [Res.pre, h1], fun z hz => ?_, by simp [h3]⟩
    rcases List.mem_cons.1 hz with rfl | hz
    · exact hp a hok
    · exact h2 z hz
  · rename_i hok; rw [if_neg hok] at h; cases h
theorem loopB_trq (p : Nat → Res) (s : ByteArray) (f : Nat) (hp : ∀ a, (p a).ok = true → TrQ f (p a).its) (k : Nat) : ∀ a, (loopB p s k a).ok = true → ∃ kids, (loopB p s k a).its = List.flatten kids ∧ (∀ z, z ∈ kids → TrQ f z) := by
 induction k with
 | zero => intro a h; cases h
 | succ k ih =>
  intro a h
  rw [loopB] at h ⊢
  split
  · rename_i hok
    rw [if_pos hok] at h
    split
    · exact ⟨[(p a).its], by simp, fun z hz => by simp at hz; subst hz; exact hp a hok⟩
    · rename_i h41
      rw [if_neg h41] at h
      obtain ⟨kids, h1, h2⟩ := ih _ h
      refine ⟨(p a).its :: kids, by simp [Res.pre, h1], fun z hz => ?_⟩
      rcases List.mem_cons.1 hz with rfl | hz
      · exact hp a hok
      · exact h2 z hz
  · rename_i hok; rw [if_neg hok] at h; cases h
theorem prs_trq (s : ByteArray) (rule : Int) (f : Nat) : ∀ a, (prs s rule f a).ok = true → TrQ f (prs s rule f a).its := by
 induction f with
 | zero => intro a h; cases h
 | succ f ih =>
  intro a h
  rw [prs] at h ⊢
  split
  · rename_i hok
    rw [if_pos hok] at h
    have hr := headV_r s a hok
    have hi := (headV_item s a hok).1
    have h' : (inner (prs s rule f) s f (headV s a)).ok = true := h
    have hin : ∃ kids, (inner (prs s rule f) s f (headV s a)).its = List.flatten kids ∧ (∀ z, z ∈ kids → TrQ f z) ∧ ((headV s a).inn = 1 → kids.length = 1) ∧ ((headV s a).inn = 2 → kids.length = 2) := by
     unfold inner at h' ⊢
     split
     · rename_i hneg
       rw [if_pos hneg] at h'
       obtain ⟨kids, h1, h2⟩ := loopB_trq _ s f ih _ _ h'
       exact ⟨kids, h1, h2, fun e => by omega, fun e => by omega⟩
     · rename_i hneg
       rw [if_neg hneg] at h'
       obtain ⟨kids, h1, h2, h3⟩ := loopN_trq _ f ih _ _ h'
       exact ⟨kids, h1, h2, fun e => by rw [h3, e]; rfl, fun e => by rw [h3, e]; rfl⟩
    obtain ⟨kids, h1, h2, h3, h4⟩ := hin
    refine ⟨_, kids, by rw [← h1], by rw [← h1], h2, ?_, ?_, ?_⟩
    · exact fun e => h4 (hr.two e)
    · exact fun e => h3 (hr.one e)
    · exact ⟨⟨hi.c, hi.r, hi.d⟩, hr.w, hr.b⟩
  · rename_i hok; rw [if_neg hok] at h; cases h
theorem rules_trq (s : ByteArray) (k : Nat) : ∀ top a, (rulesV s k top a).ok = true → ∀ x, x ∈ (rulesV s k top a).rls → TrQ (s.size + 1) x.its := by
 induction k with
 | zero => intro top a h; cases h
 | succ k ih =>
  intro top a h x
  rw [rulesV] at h ⊢
  split
  · rename_i h1; rw [if_pos h1] at h; cases h
  · rename_i h1
    rw [if_neg h1] at h
    split
    · rename_i h2; rw [if_pos h2] at h; cases h
    · rename_i h2
      rw [if_neg h2] at h
      split
      · rename_i h3; rw [if_pos h3] at h; cases h
      · rename_i h3
        rw [if_neg h3] at h
        have h3' : (prs s (bt s a - 65) (s.size + 1) (a + 2)).ok = true := by simpa using h3
        have ht := prs_trq s (bt s a - 65) (s.size + 1) (a + 2) h3'
        split
        · intro hx; simp at hx; subst hx; exact ht
        · rename_i h4
          rw [if_neg h4] at h
          split
          · rename_i h5; rw [if_pos h5] at h; cases h
          · rename_i h5
            rw [if_neg h5] at h
            intro hx
            simp only [RRes.pre, List.cons_append, List.nil_append] at hx
            rcases List.mem_cons.1 hx with rfl | hx
            · exact ht
            · exact ih 72 _ h x hx
theorem twf_of (R : Nat → Bool) (X : List It → Int → Prop) (f : Nat) : ∀ own ctx l, TrQ f l → (∀ p, ¬ lost X f own ctx l p) → (∀ x, x ∈ l → x.c = 82 → R x.r.toNat = true) → TWf R f own ctx l := by
 induction f with
 | zero => intro own ctx l h; exact h.elim
 | succ f ih =>
  intro own ctx l h hl hR
  obtain ⟨x, kids, rfl, hx, hk, h2, h1, hi⟩ := h
  have hs := TrQ.segs kids hk
  have hmem : ∀ z, z ∈ kids → ∀ y, y ∈ z → y ∈ x :: kids.flatten := fun z hz y hy => List.mem_cons_of_mem _ (List.mem_flatten.2 ⟨z, hz, hy⟩)
  have hl' := hl
  unfold TWf
  refine ⟨hi, fun hh => ?_, fun hu => ?_, hR x List.mem_cons_self, fun e => by rw [hs]; exact h2 e, fun e => ?_, fun z hz => ?_⟩
  · by_cases c40 : x.c = 40
    · rw [c40] at hh; cases hh
    · cases own with
      | true => rfl
      | false => exact absurd (by unfold lost; rw [if_neg c40]; exact Or.inl ⟨by simp [hh], rfl⟩) (hl x.pl)
  · by_cases c40 : x.c = 40
    · rw [c40] at hu; cases hu
    · cases ctx with
      | true => rfl
      | false => exact absurd (by unfold lost; rw [if_neg c40]; exact Or.inl ⟨by simp [hu], rfl⟩) (hl x.pl)
  · rw [hs]
    obtain ⟨z, hz⟩ := List.length_eq_one_iff.1 (h1 e)
    rw [hz]; simp
  · rw [hs] at hz
    refine ih _ _ z (hk z hz) (fun p hp => hl p ?_) (fun y hy => hR y (hmem z hz y hy))
    unfold lost
    by_cases c40 : x.c = 40
    · rw [if_pos c40, hs]
      rw [c40] at hp
      exact Or.inr ⟨z, hz, by simpa using hp⟩
    · rw [if_neg c40, hs]
      exact Or.inr ⟨z, hz, by simpa [c40] using hp⟩
def rulePt (rls : List Rl) (r : Nat) : List It := match rls.find? (fun x => x.r == (r : Int)) with | some x => x.its | none => []
def ruleHas (rls : List Rl) (r : Nat) : Bool := hasR rls r
theorem ruleHas_find {rls : List Rl} {r : Nat} (h : ruleHas rls r = true) : ∃ i, ∃ (hi : i < rls.length), rls[i].r = (r : Int) ∧ (∀ j, j < i → ∀ (hj : j < rls.length), rls[j].r ≠ (r : Int)) ∧ rulePt rls r = rls[i].its := by
 induction rls with
 | nil => cases h
 | cons x t ih =>
  by_cases hx : x.r = (r : Int)
  · refine ⟨0, by simp, hx, fun j hj => by omega, ?_⟩
    unfold rulePt
    rw [List.find?_cons_of_pos (by simpa using hx)]
    rfl
  · have h' : ruleHas t r = true := by unfold ruleHas hasR at h ⊢; simpa [hx] using h
    obtain ⟨i, hi, h1, h2, h3⟩ := ih h'
    refine ⟨i + 1, by simp; omega, by simpa using h1, fun j hj hl => ?_, ?_⟩
    · cases j with
      | zero => exact hx
      | succ j => simpa using h2 j (by omega) (by simp at hl; omega)
    · unfold rulePt at h3 ⊢
      rw [List.find?_cons_of_neg (by simpa using hx)]
      simpa using h3
theorem pressV_ok (s : ByteArray) (h : (pressV s).1 = 0) : s.size ≤ 400 ∧ (formV s).ok = true ∧ (scanR (inR (formV s).rls) [] (formV s).rls).2 = false ∧ (wrongD (s.size + 1) (formV s).rls (0, false)).2 = false := by
 unfold pressV at h
 split at h
 · cases h
 · rename_i h1
   split at h
   · cases h
   · rename_i h2
     split at h
     · cases h
     · rename_i h3
       split at h
       · cases h
       · rename_i h4
         exact ⟨by omega, by simpa using h2, by simpa using h3, by simpa using h4⟩
theorem IsMin.none {S : Int → Prop} {q : Int × Bool} (h : IsMin S q) (h2 : q.2 = false) : ∀ p, ¬ S p := by
 rcases h with ⟨_, h⟩ | ⟨h, _⟩
 · exact h
 · rw [h2] at h; cases h
theorem rules_wf2 (s : ByteArray) (h : (pressV s).1 = 0) : ∀ x, x ∈ (formV s).rls → TrW (ruleHas (formV s).rls) false false x.its := by
 obtain ⟨hs, hok, hsc, hwr⟩ := pressV_ok s h
 intro x hx
 have ho : OrdR 0 (formV s).rls := (rules_ord s 8 65 0 (by omega) hok).1
 have h0 : IsMin (fun _ => False) ((0 : Int), false) := Or.inl ⟨rfl, fun p h => h⟩
 have n1 := IsMin.none (wrong_min (s.size + 1) (formV s).rls _ _ h0) hwr
 have n2 := IsMin.none (scan_min (inR (formV s).rls) (formV s).rls [] 0 ho) hsc
 refine ⟨s.size + 1, twf_of _ PB _ _ _ _ (rules_trq s 8 65 0 hok x hx) (fun p hp => n1 p (Or.inr ⟨x, hx, hp⟩)) (fun y hy hc => ?_)⟩
 have := n2 y.pl
 cases hR : ruleHas (formV s).rls y.r.toNat with
 | true => rfl
 | false =>
  exact absurd (Or.inr ⟨y, List.mem_flatMap.2 ⟨x, hx, hy⟩, by unfold missB; unfold ruleHas at hR; unfold inR; rw [hR, hc]; rfl, rfl⟩) this
theorem form_first (s : ByteArray) (h : (formV s).ok = true) : ruleHas (formV s).rls 0 = true := by
 unfold formV at h ⊢
 rw [rulesV] at h ⊢
 split
 · rename_i h1; rw [if_pos h1] at h; cases h
 · rename_i h1
   rw [if_neg h1] at h
   split
   · rename_i h2; rw [if_pos h2] at h; cases h
   · rename_i h2
     rw [if_neg h2] at h
     split
     · rename_i h3; rw [if_pos h3] at h; cases h
     · rename_i h3
       rw [if_neg h3] at h
       have h65 : bt s 0 - 65 = 0 := by
        have : ¬ ¬ (65 ≤ bt s 0 ∧ bt s 0 ≤ 65) := h1
        omega
       split
       · unfold ruleHas hasR; simp [h65]
       · rename_i h4
         rw [if_neg h4] at h
         split
         · rename_i h5; rw [if_pos h5] at h; cases h
         · unfold ruleHas hasR RRes.pre; simp [h65]
theorem rule_wf (s : ByteArray) (h : (pressV s).1 = 0) (r : Nat) (hr : ruleHas (formV s).rls r = true) : TrW (ruleHas (formV s).rls) false false (rulePt (formV s).rls r) := by
 obtain ⟨i, hi, _, _, e⟩ := ruleHas_find hr
 rw [e]
 exact rules_wf2 s h _ (List.getElem_mem hi)
theorem rule_at (rls : List Rl) (F : Nat) (ht : ∀ r, r ∈ rls → TrS F r.its) (r : Nat) (hr : ruleHas rls r = true) : At (allIts rls) (startR rls r) (rulePt rls r) ∧ TrS F (rulePt rls r) := by
 induction rls with
 | nil => cases hr
 | cons x t ih =>
  by_cases hx : x.r = (r : Int)
  · have e1 : rulePt (x :: t) r = x.its := by unfold rulePt; rw [List.find?_cons_of_pos (by simpa using hx)]
    have e2 : startR (x :: t) r = 0 := by unfold startR; rw [if_pos (by simpa using hx)]
    rw [e1, e2]
    exact ⟨⟨[], allIts t, by simp [allIts], rfl⟩, ht x List.mem_cons_self⟩
  · have h' : ruleHas t r = true := by unfold ruleHas hasR at hr ⊢; simpa [hx] using hr
    obtain ⟨⟨A, C, h1, h2⟩, h3⟩ := ih (fun q hq => ht q (List.mem_cons_of_mem _ hq)) h'
    have e1 : rulePt (x :: t) r = rulePt t r := by unfold rulePt; rw [List.find?_cons_of_neg (by simpa using hx)]
    have e2 : startR (x :: t) r = x.its.length + startR t r := by rw [startR, if_neg (by simpa using hx)]
    rw [e1, e2]
    refine ⟨⟨x.its ++ A, C, ?_, by simp [h2]⟩, h3⟩
    rw [List.append_assoc, ← h1]; simp [allIts]
end Go.Proofs.YtmlkhhhjdpbhfaaGreatDoor

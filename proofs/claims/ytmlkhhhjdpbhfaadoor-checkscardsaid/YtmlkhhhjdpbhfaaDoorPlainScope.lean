import Derived.Test.YtmlkhhhjdpbhfaaDoorPlainWalk
/- The least of a set of places; what the program's walk comes to, as such a least one. -/
namespace Go.Proofs.YtmlkhhhjdpbhfaaDoor
open Go.RowKit

def IsMin (S : Int → Prop) (r : Int × Bool) : Prop := (r.2 = false ∧ ∀ p, ¬ S p) ∨ (r.2 = true ∧ S r.1 ∧ ∀ p, S p → r.1 ≤ p)
/-- each place of one has one of the other that is no greater -/
def MinEq (S T : Int → Prop) : Prop := (∀ p, S p → ∃ q, T q ∧ q ≤ p) ∧ (∀ p, T p → ∃ q, S q ∧ q ≤ p)

theorem IsMin.congr {S T : Int → Prop} {r : Int × Bool} (h : IsMin S r) (e : ∀ p, S p ↔ T p) : IsMin T r := by
  rcases h with ⟨h1, h2⟩ | ⟨h1, h2, h3⟩
  · exact Or.inl ⟨h1, fun p hp => h2 p ((e p).2 hp)⟩
  · exact Or.inr ⟨h1, (e _).1 h2, fun p hp => h3 p ((e p).2 hp)⟩

theorem IsMin.move {S T : Int → Prop} {r : Int × Bool} (h : IsMin S r) (e : MinEq S T) (k : ∀ p, T p → S p ∨ ∃ q, S q ∧ q < p) (k2 : ∀ p, S p → T p ∨ ∃ q, S q ∧ q < p) : IsMin T r := by
  rcases h with ⟨h1, h2⟩ | ⟨h1, h2, h3⟩
  · exact Or.inl ⟨h1, fun p hp => by obtain ⟨q, hq, _⟩ := e.2 p hp; exact h2 q hq⟩
  · refine Or.inr ⟨h1, ?_, fun p hp => ?_⟩
    · rcases k2 _ h2 with h | ⟨q, hq, hl⟩
      · exact h
      · have := h3 q hq; omega
    · rcases k p hp with h | ⟨q, hq, hl⟩
      · exact h3 p h
      · have := h3 q hq; omega

theorem IsMin.eq {S T : Int → Prop} {r t : Int × Bool} (h : IsMin S r) (k : IsMin T t) (e : MinEq S T) : r.2 = t.2 ∧ (r.2 = true → r.1 = t.1) := by
  rcases h with ⟨h1, h2⟩ | ⟨h1, h2, h3⟩
  · rcases k with ⟨k1, k2⟩ | ⟨k1, k2, k3⟩
    · exact ⟨h1.trans k1.symm, fun h => by rw [h1] at h; cases h⟩
    · obtain ⟨q, hq, _⟩ := e.2 _ k2
      exact (h2 q hq).elim
  · rcases k with ⟨k1, k2⟩ | ⟨k1, k2, k3⟩
    · obtain ⟨q, hq, _⟩ := e.1 _ h2
      exact (k2 q hq).elim
    · obtain ⟨q, hq, q2⟩ := e.2 _ k2
      obtain ⟨p, hp, p2⟩ := e.1 _ h2
      have := h3 q hq
      have := k3 p hp
      exact ⟨h1.trans k1.symm, fun _ => by omega⟩

theorem IsMin.add {S : Int → Prop} {st : Int × Bool} (h : IsMin S st) (d : Int) : IsMin (fun p => S p ∨ p = d) (bwV st d) := by
  unfold bwV
  rcases h with ⟨h1, h2⟩ | ⟨h1, h2, h3⟩
  · rw [h1, if_pos (by simp)]
    exact Or.inr ⟨rfl, Or.inr rfl, fun p hp => by rcases hp with hp | hp; exact (h2 p hp).elim; simp [hp]⟩
  · by_cases hd : d < st.1
    · rw [if_pos (by simp [hd])]
      exact Or.inr ⟨rfl, Or.inr rfl, fun p hp => by rcases hp with hp | hp; have := h3 p hp; simp only; omega; simp [hp]⟩
    · rw [if_neg (by simp [h1]; omega)]
      exact Or.inr ⟨h1, Or.inl h2, fun p hp => by rcases hp with hp | hp; exact h3 p hp; omega⟩

theorem MinEq.refl (S : Int → Prop) : MinEq S S := ⟨fun p h => ⟨p, h, Int.le_refl _⟩, fun p h => ⟨p, h, Int.le_refl _⟩⟩
theorem MinEq.or {S T S' T' : Int → Prop} (h : MinEq S T) (k : MinEq S' T') : MinEq (fun p => S p ∨ S' p) (fun p => T p ∨ T' p) := by
  constructor
  · intro p hp
    rcases hp with hp | hp
    · obtain ⟨q, h1, h2⟩ := h.1 p hp; exact ⟨q, Or.inl h1, h2⟩
    · obtain ⟨q, h1, h2⟩ := k.1 p hp; exact ⟨q, Or.inr h1, h2⟩
  · intro p hp
    rcases hp with hp | hp
    · obtain ⟨q, h1, h2⟩ := h.2 p hp; exact ⟨q, Or.inl h1, h2⟩
    · obtain ⟨q, h1, h2⟩ := k.2 p hp; exact ⟨q, Or.inr h1, h2⟩
theorem MinEq.ex {α : Type} {l : List α} {S T : α → Int → Prop} (h : ∀ z, z ∈ l → MinEq (S z) (T z)) : MinEq (fun p => ∃ z, z ∈ l ∧ S z p) (fun p => ∃ z, z ∈ l ∧ T z p) := by
  constructor
  · intro p ⟨z, hz, hp⟩
    obtain ⟨q, h1, h2⟩ := (h z hz).1 p hp; exact ⟨q, ⟨z, hz, h1⟩, h2⟩
  · intro p ⟨z, hz, hp⟩
    obtain ⟨q, h1, h2⟩ := (h z hz).2 p hp; exact ⟨q, ⟨z, hz, h1⟩, h2⟩

/-- what a part that stands in a scope does to it, and whether it falls there -/
def scE (sc : Sc) (x : It) : Sc :=
  if hidesB x.c then (if (sc.hid x.d.toNat).isNone then ⟨fun k => if k = x.d.toNat then some x.pl else sc.hid k, sc.us⟩ else sc)
  else if usesB x.c then (if !(sc.hid x.d.toNat).isNone && !(sc.us x.d.toNat) then ⟨sc.hid, fun k => if k = x.d.toNat then true else sc.us k⟩ else sc) else sc
def bdE (sc : Sc) (x : It) : Bool :=
  if hidesB x.c then !(sc.hid x.d.toNat).isNone else if usesB x.c then !(!(sc.hid x.d.toNat).isNone && !(sc.us x.d.toNat)) else false

def PE : Sc → List It → Int → Prop
  | _, [], _ => False
  | sc, x :: t, p => (bdE sc x = true ∧ p = x.pl) ∨ PE (scE sc x) t p
def PEnd (sc : Sc) (p : Int) : Prop := ∃ d, d < 8 ∧ sc.hid d = some p ∧ sc.us d = false
def PB (es : List It) (p : Int) : Prop := PE Sc0 es p ∨ PEnd (es.foldl scE Sc0) p

theorem PE_append (a b : List It) (p : Int) : ∀ sc, PE sc (a ++ b) p ↔ PE sc a p ∨ PE (a.foldl scE sc) b p := by
  induction a with
  | nil => intro sc; simp [PE]
  | cons x t ih => intro sc; simp only [List.cons_append, PE, List.foldl_cons, ih]; rw [or_assoc]

/-- the parts that stand in the scope around, in their order -/
def ev : Nat → Bool → Bool → List It → List It
  | 0, _, _, _ => []
  | _ + 1, _, _, [] => []
  | f + 1, own, ar, x :: r => if x.c = 40 then [] else (if (hidesB x.c && own) || (usesB x.c && ar) then [x] else []) ++ (segs r.length r).flatMap (ev f false (ar && inB [119, 64, 115] x.c))

/-- the places of those that fall within, but for the scope around; X tells which fall in a scope -/
def lost (X : List It → Int → Prop) : Nat → Bool → Bool → List It → Int → Prop
  | 0, _, _, _, _ => False
  | _ + 1, _, _, [], _ => False
  | f + 1, own, ar, x :: r, p =>
    if x.c = 40 then X ((segs r.length r).flatMap (ev f true true)) p ∨ ∃ z, z ∈ segs r.length r ∧ lost X f true true z p
    else (((hidesB x.c && !own) || (usesB x.c && !ar)) = true ∧ p = x.pl) ∨ ∃ z, z ∈ segs r.length r ∧ lost X f false (ar && inB [119, 64, 115] x.c) z p

theorem hides_uses (c : Int) (h : hidesB c = true) : usesB c = false := by
  simp only [hidesB, Bool.or_eq_true, beq_iff_eq] at h
  rcases h with h | h <;> rw [h] <;> decide

theorem stepV_min (own ar : Bool) (x : It) (sc : Sc) (st : Int × Bool) (S : Int → Prop) (h : IsMin S st) :
    (stepV own ar x (sc, st)).1 = (if (hidesB x.c && own) || (usesB x.c && ar) then [x] else []).foldl scE sc ∧
      IsMin (fun p => S p ∨ PE sc (if (hidesB x.c && own) || (usesB x.c && ar) then [x] else []) p ∨ (((hidesB x.c && !own) || (usesB x.c && !ar)) = true ∧ p = x.pl)) (stepV own ar x (sc, st)).2 := by
  unfold stepV hideV useV
  cases hh : hidesB x.c
  · cases hu : usesB x.c
    · simp
      exact h.congr fun p => by simp [PE]
    · cases ar
      · simp
        exact (h.add x.pl).congr fun p => by simp [PE]
      · cases hb : (!(sc.hid x.d.toNat).isNone && !(sc.us x.d.toNat))
        · simp only [hb, Bool.true_and, Bool.false_and, Bool.and_true, Bool.or_true, Bool.false_or, if_true, List.foldl_cons, List.foldl_nil, scE, hh, hu, Bool.false_eq_true, if_false, Bool.not_true, Bool.and_false, false_and, or_false]
          have e : bdE sc x = true := by unfold bdE; rw [hh, hu, hb]; rfl
          exact ⟨trivial, (h.add x.pl).congr fun p => by simp [PE, e]⟩
        · simp only [hb, Bool.true_and, Bool.false_and, Bool.and_true, Bool.or_true, Bool.false_or, if_true, List.foldl_cons, List.foldl_nil, scE, hh, hu, Bool.false_eq_true, if_false, Bool.not_true, Bool.and_false, false_and, or_false]
          have e : bdE sc x = false := by unfold bdE; rw [hh, hu, hb]; rfl
          exact ⟨trivial, h.congr fun p => by simp [PE, e]⟩
  · have hu := hides_uses _ hh
    cases own
    · simp [hu]
      exact (h.add x.pl).congr fun p => by simp [PE]
    · cases hb : (sc.hid x.d.toNat).isNone
      · simp only [hb, hu, Bool.false_and, Bool.and_true, Bool.or_false, if_true, List.foldl_cons, List.foldl_nil, scE, hh, Bool.false_eq_true, if_false, Bool.not_true, Bool.and_false, false_and, or_false]
        exact ⟨trivial, (h.add x.pl).congr fun p => by simp [PE, bdE, hh, hb]⟩
      · simp only [hb, hu, Bool.false_and, Bool.and_true, Bool.or_false, if_true, List.foldl_cons, List.foldl_nil, scE, hh, Bool.false_eq_true, if_false, Bool.not_true, Bool.and_false, false_and, or_false]
        exact ⟨trivial, h.congr fun p => by simp [PE, bdE, hh, hb]⟩

theorem end_min (sc : Sc) (ds : List Nat) : ∀ (S : Int → Prop) (st : Int × Bool), IsMin S st → IsMin (fun p => S p ∨ ∃ d, d ∈ ds ∧ sc.hid d = some p ∧ sc.us d = false) (ds.foldl (endStep sc) st) := by
  induction ds with
  | nil => intro S st h; exact h.congr fun p => by simp
  | cons d t ih =>
    intro S st h
    rw [List.foldl_cons]
    cases hd : sc.hid d with
    | none =>
      have e : endStep sc st d = st := by unfold endStep; rw [hd]
      rw [e]
      exact (ih S st h).congr fun p => by simp [hd]
    | some pl =>
      cases hu : sc.us d
      · have e : endStep sc st d = bwV st pl := by unfold endStep; rw [hd]; simp [hu]
        rw [e]
        refine (ih _ _ (h.add pl)).congr fun p => ?_
        simp only [List.mem_cons, exists_eq_or_imp, hd, hu, Option.some.injEq, and_true, or_assoc]
        rw [show (pl = p) = (p = pl) from propext eq_comm]
      · have e : endStep sc st d = st := by unfold endStep; rw [hd]; simp [hu]
        rw [e]
        exact (ih S st h).congr fun p => by simp [hu]

def WalkM (f : Nat) : Prop := ∀ own ar l sc st (S : Int → Prop), IsMin S st →
  (walkV f own ar l (sc, st)).1 = (ev f own ar l).foldl scE sc ∧ IsMin (fun p => S p ∨ PE sc (ev f own ar l) p ∨ lost PB f own ar l p) (walkV f own ar l (sc, st)).2

theorem fold_min (f : Nat) (ih : WalkM f) (own ar : Bool) (zs : List (List It)) : ∀ sc st (S : Int → Prop), IsMin S st →
    (zs.foldl (fun z s => walkV f own ar s z) (sc, st)).1 = (zs.flatMap (ev f own ar)).foldl scE sc ∧
      IsMin (fun p => S p ∨ PE sc (zs.flatMap (ev f own ar)) p ∨ ∃ z, z ∈ zs ∧ lost PB f own ar z p) (zs.foldl (fun z s => walkV f own ar s z) (sc, st)).2 := by
  induction zs with
  | nil => intro sc st S h; exact ⟨rfl, h.congr fun p => by simp [PE]⟩
  | cons z t iht =>
    intro sc st S h
    obtain ⟨h1, h2⟩ := ih own ar z sc st S h
    rw [List.foldl_cons, List.flatMap_cons, List.foldl_append]
    obtain ⟨k1, k2⟩ := iht (walkV f own ar z (sc, st)).1 (walkV f own ar z (sc, st)).2 _ h2
    refine ⟨?_, ?_⟩
    · rw [← h1]; exact k1
    · refine IsMin.congr k2 fun p => ?_
      rw [PE_append, ← h1]
      simp only [List.mem_cons, exists_eq_or_imp]
      constructor
      · rintro ((h | h | h) | h | h)
        · exact Or.inl h
        · exact Or.inr (Or.inl (Or.inl h))
        · exact Or.inr (Or.inr (Or.inl h))
        · exact Or.inr (Or.inl (Or.inr h))
        · exact Or.inr (Or.inr (Or.inr h))
      · rintro (h | (h | h) | (h | h))
        · exact Or.inl (Or.inl h)
        · exact Or.inl (Or.inr (Or.inl h))
        · exact Or.inr (Or.inl h)
        · exact Or.inl (Or.inr (Or.inr h))
        · exact Or.inr (Or.inr h)

theorem walk_min (f : Nat) : WalkM f := by
  induction f with
  | zero => intro own ar l sc st S h; exact ⟨rfl, h.congr fun p => by simp [ev, PE, lost]⟩
  | succ f ih =>
    intro own ar l sc st S h
    cases l with
    | nil => exact ⟨rfl, h.congr fun p => by simp [ev, PE, lost]⟩
    | cons x r =>
      simp only [walkV, ev, lost]
      by_cases hc : x.c = 40
      · simp only [if_pos hc]
        obtain ⟨h1, h2⟩ := fold_min f ih true true (segs r.length r) Sc0 st S h
        refine ⟨rfl, ?_⟩
        have h3 := end_min ((segs r.length r).foldl (fun z s => walkV f true true s z) (Sc0, st)).1 (List.range 8) _ _ h2
        refine IsMin.congr h3 fun p => ?_
        rw [h1]
        simp only [List.mem_range, PB, PEnd, PE]
        constructor
        · rintro ((h | h | h) | h)
          · exact Or.inl h
          · exact Or.inr (Or.inr (Or.inl (Or.inl h)))
          · exact Or.inr (Or.inr (Or.inr h))
          · exact Or.inr (Or.inr (Or.inl (Or.inr h)))
        · rintro (h | h | ((h | h) | h))
          · exact Or.inl (Or.inl h)
          · exact h.elim
          · exact Or.inl (Or.inr (Or.inl h))
          · exact Or.inr h
          · exact Or.inl (Or.inr (Or.inr h))
      · simp only [if_neg hc]
        obtain ⟨h1, h2⟩ := stepV_min own ar x sc st S h
        obtain ⟨k1, k2⟩ := fold_min f ih false (ar && inB [119, 64, 115] x.c) (segs r.length r) (stepV own ar x (sc, st)).1 (stepV own ar x (sc, st)).2 _ h2
        refine ⟨?_, ?_⟩
        · rw [List.foldl_append, ← h1]; exact k1
        · refine IsMin.congr k2 fun p => ?_
          rw [PE_append, ← h1]
          constructor
          · rintro ((h | h | h) | h | h)
            · exact Or.inl h
            · exact Or.inr (Or.inl (Or.inl h))
            · exact Or.inr (Or.inr (Or.inl h))
            · exact Or.inr (Or.inl (Or.inr h))
            · exact Or.inr (Or.inr (Or.inr h))
          · rintro (h | (h | h) | (h | h))
            · exact Or.inl (Or.inl h)
            · exact Or.inl (Or.inr (Or.inl h))
            · exact Or.inr (Or.inl h)
            · exact Or.inl (Or.inr (Or.inr h))
            · exact Or.inr (Or.inr h)

end Go.Proofs.YtmlkhhhjdpbhfaaDoor

/- In one scope: the program's fallen parts and the document's have the same least place. -/
namespace Go.Proofs.YtmlkhhhjdpbhfaaDoor
open Go.RowKit

/-- is there one that hides d, one that uses it? -/
def hasH (l : List It) (d : Int) : Bool := l.any fun y => y.d == d && hidesB y.c
def hasU (l : List It) (d : Int) : Bool := l.any fun y => y.d == d && usesB y.c
def vdL (pre : List It) (x : It) (es : List It) : Bool := if hidesB x.c then !(hasH pre x.d) && hasU es x.d else hasH pre x.d && !(hasU pre x.d)
def RB (es : List It) (p : Int) : Prop := ∃ pre x post, es = pre ++ x :: post ∧ p = x.pl ∧ vdL pre x es = false

theorem hasH_iff (l : List It) (d : Int) : hasH l d = true ↔ ∃ y, y ∈ l ∧ y.d = d ∧ hidesB y.c = true := by simp [hasH]
theorem hasU_iff (l : List It) (d : Int) : hasU l d = true ↔ ∃ y, y ∈ l ∧ y.d = d ∧ usesB y.c = true := by simp [hasU]

theorem split_snoc {α : Type} {pre a b : List α} {x y : α} (h : pre ++ [x] = a ++ y :: b) : (b = [] ∧ a = pre ∧ y = x) ∨ ∃ b', b = b' ++ [x] ∧ pre = a ++ y :: b' := by
  rcases List.eq_nil_or_concat b with rfl | ⟨b', z, rfl⟩
  · left
    have := List.append_inj' h rfl
    exact ⟨rfl, this.1.symm, by simpa using this.2.symm⟩
  · right
    rw [List.concat_eq_append] at h ⊢
    have h2 : pre ++ [x] = (a ++ y :: b') ++ [z] := by rw [h]; simp
    have := List.append_inj' h2 rfl
    have e : x = z := by simpa using this.2
    subst e
    exact ⟨b', rfl, this.1⟩

/-- what a scope says of the parts that it has seen -/
structure Inv (pre : List It) (sc : Sc) : Prop where
  no : ∀ d : Nat, sc.hid d = none ↔ hasH pre d = false
  so : ∀ (d : Nat) p, sc.hid d = some p → ∃ (a : List It) (x : It) (b : List It), pre = a ++ x :: b ∧ hidesB x.c = true ∧ x.d = (d : Int) ∧ x.pl = p ∧ hasH a d = false
  us : ∀ d : Nat, sc.us d = true → hasU pre d = true
  un : ∀ d : Nat, sc.us d = false → ∀ (a : List It) (y : It) (b : List It), pre = a ++ y :: b → usesB y.c = true → y.d = (d : Int) → hasH a d = false

theorem hasH_snoc (l : List It) (x : It) (d : Int) : hasH (l ++ [x]) d = (hasH l d || (x.d == d && hidesB x.c)) := by simp [hasH]
theorem hasU_snoc (l : List It) (x : It) (d : Int) : hasU (l ++ [x]) d = (hasU l d || (x.d == d && usesB x.c)) := by simp [hasU]

theorem Inv.nil : Inv [] Sc0 := ⟨fun d => by simp [Sc0, hasH], fun d p h => by simp [Sc0] at h, fun d h => by simp [Sc0] at h, fun d _ a y b h => by simp at h⟩

theorem Inv.so_snoc {pre : List It} {sc : Sc} (h : Inv pre sc) (x : It) (d : Nat) (p : Int) (hd : sc.hid d = some p) : ∃ (a : List It) (y : It) (b : List It), pre ++ [x] = a ++ y :: b ∧ hidesB y.c = true ∧ y.d = (d : Int) ∧ y.pl = p ∧ hasH a d = false := by
  obtain ⟨a, y, b, rfl, h1, h2, h3, h4⟩ := h.so d p hd
  exact ⟨a, y, b ++ [x], by simp, h1, h2, h3, h4⟩

theorem Inv.step {pre : List It} {sc : Sc} (h : Inv pre sc) (x : It) (hx : (hidesB x.c || usesB x.c) = true → 0 ≤ x.d) : Inv (pre ++ [x]) (scE sc x) := by
  unfold scE
  cases hh : hidesB x.c
  · cases hu : usesB x.c
    · simp only [Bool.false_eq_true, if_false]
      refine ⟨fun d => ?_, h.so_snoc x, fun d hd => ?_, fun d hd a y b e hy hyd => ?_⟩
      · rw [h.no, hasH_snoc, hh]; simp
      · rw [hasU_snoc, h.us d hd]; rfl
      · rcases split_snoc e with ⟨_, _, rfl⟩ | ⟨b', _, e2⟩
        · rw [hu] at hy; cases hy
        · exact h.un d hd a y b' e2 hy hyd
    · simp only [Bool.false_eq_true, if_false, if_true]
      have hx0 := hx (by rw [hu]; simp)
      have hxd : x.d = ((x.d.toNat : Nat) : Int) := by omega
      split
      · rename_i hc
        simp only [Bool.and_eq_true, Bool.not_eq_true'] at hc
        refine ⟨fun d => ?_, h.so_snoc x, fun d hd => ?_, fun d hd a y b e hy hyd => ?_⟩
        · simp only; rw [h.no, hasH_snoc, hh]; simp
        · simp only at hd
          rw [hasU_snoc, hu]
          by_cases e : d = x.d.toNat
          · subst e; rw [← hxd]; simp
          · rw [if_neg e] at hd; rw [h.us d hd]; rfl
        · simp only at hd
          by_cases e3 : d = x.d.toNat
          · rw [if_pos e3] at hd; cases hd
          · rw [if_neg e3] at hd
            rcases split_snoc e with ⟨_, _, rfl⟩ | ⟨b', _, e2⟩
            · omega
            · exact h.un d hd a y b' e2 hy hyd
      · rename_i hc
        refine ⟨fun d => ?_, h.so_snoc x, fun d hd => ?_, fun d hd a y b e hy hyd => ?_⟩
        · rw [h.no, hasH_snoc, hh]; simp
        · rw [hasU_snoc, h.us d hd]; rfl
        · rcases split_snoc e with ⟨_, rfl, rfl⟩ | ⟨b', _, e2⟩
          · have e4 : y.d.toNat = d := by omega
            rw [e4, hd] at hc
            exact (h.no d).1 (by cases hn : sc.hid d with | none => rfl | some p => rw [hn] at hc; simp at hc)
          · exact h.un d hd a y b' e2 hy hyd
  · have hu := hides_uses _ hh
    simp only [if_true]
    have hx0 := hx (by rw [hh]; rfl)
    have hxd : x.d = ((x.d.toNat : Nat) : Int) := by omega
    have hun : ∀ d : Nat, sc.us d = false → ∀ (a : List It) (y : It) (b : List It), pre ++ [x] = a ++ y :: b → usesB y.c = true → y.d = (d : Int) → hasH a d = false := by
      intro d hd a y b e hy hyd
      rcases split_snoc e with ⟨_, _, rfl⟩ | ⟨b', _, e2⟩
      · rw [hu] at hy; cases hy
      · exact h.un d hd a y b' e2 hy hyd
    have hus : ∀ d : Nat, sc.us d = true → hasU (pre ++ [x]) d = true := fun d hd => by rw [hasU_snoc, h.us d hd]; rfl
    split
    · rename_i hc
      refine ⟨fun d => ?_, fun d p hd => ?_, hus, hun⟩
      · simp only
        rw [hasH_snoc, hh]
        by_cases e : d = x.d.toNat
        · rw [if_pos e]; subst e; rw [← hxd]; simp
        · rw [if_neg e, h.no]
          have : (x.d == (d : Int)) = false := by rw [beq_eq_false_iff_ne]; omega
          rw [this]; simp
      · simp only at hd
        by_cases e : d = x.d.toNat
        · rw [if_pos e] at hd
          have hp : x.pl = p := by simpa using hd
          refine ⟨pre, x, [], rfl, hh, by omega, hp, (h.no d).1 ?_⟩
          rw [e]; cases hn : sc.hid x.d.toNat with | none => rfl | some p => rw [hn] at hc; simp at hc
        · rw [if_neg e] at hd
          exact h.so_snoc x d p hd
    · rename_i hc
      refine ⟨fun d => ?_, h.so_snoc x, hus, hun⟩
      rw [hasH_snoc, hh]
      by_cases e : d = x.d.toNat
      · subst e
        have hn : ¬ sc.hid x.d.toNat = none := by intro hn; rw [hn] at hc; simp at hc
        have h2 : hasH pre ((x.d.toNat : Nat) : Int) = true := by
          cases h3 : hasH pre ((x.d.toNat : Nat) : Int)
          · exact (hn ((h.no _).2 h3)).elim
          · rfl
        rw [h2]; simp [hn]
      · rw [h.no]
        have : (x.d == (d : Int)) = false := by rw [beq_eq_false_iff_ne]; omega
        rw [this]; simp

/-- each hides or uses, and names its letter -/
def EvOk (es : List It) : Prop := es.Pairwise (fun x y => x.pl < y.pl) ∧ ∀ x, x ∈ es → (hidesB x.c || usesB x.c) = true ∧ 0 ≤ x.d ∧ x.d < 8

theorem inv_fold (post : List It) : ∀ (pre : List It) (sc : Sc), Inv pre sc → (∀ x, x ∈ post → (hidesB x.c || usesB x.c) = true → 0 ≤ x.d) → Inv (pre ++ post) (post.foldl scE sc) := by
  induction post with
  | nil => intro pre sc h _; simpa using h
  | cons x t ih =>
    intro pre sc h hx
    have := ih (pre ++ [x]) (scE sc x) (h.step x (hx x List.mem_cons_self)) (fun y hy => hx y (List.mem_cons_of_mem _ hy))
    simpa using this

theorem inv_run (es : List It) (h : EvOk es) (pre post : List It) (e : es = pre ++ post) : Inv pre (pre.foldl scE Sc0) := by
  have := inv_fold pre [] Sc0 Inv.nil (fun x hx _ => (h.2 x (by rw [e]; exact List.mem_append_left _ hx)).2.1)
  simpa using this

theorem PE_iff (es : List It) (p : Int) : ∀ sc, PE sc es p ↔ ∃ pre x post, es = pre ++ x :: post ∧ p = x.pl ∧ bdE (pre.foldl scE sc) x = true := by
  induction es with
  | nil => intro sc; simp [PE]
  | cons y t ih =>
    intro sc
    rw [PE, ih]
    constructor
    · rintro (⟨h1, h2⟩ | ⟨pre, x, post, rfl, h2, h3⟩)
      · exact ⟨[], y, t, rfl, h2, h1⟩
      · exact ⟨y :: pre, x, post, rfl, h2, h3⟩
    · rintro ⟨pre, x, post, h1, h2, h3⟩
      cases pre with
      | nil => simp at h1; obtain ⟨rfl, rfl⟩ := h1; exact Or.inl ⟨h3, h2⟩
      | cons z pre => simp at h1; obtain ⟨rfl, rfl⟩ := h1; exact Or.inr ⟨pre, x, post, rfl, h2, h3⟩

theorem ev_lt {es pre post : List It} {x y : It} (h : EvOk es) (e : es = pre ++ x :: post) (hy : y ∈ pre) : y.pl < x.pl := by
  have := h.1
  rw [e] at this
  exact (List.pairwise_append.1 this).2.2 y hy x List.mem_cons_self

theorem ev_d {es pre post : List It} {x : It} (h : EvOk es) (e : es = pre ++ x :: post) : (hidesB x.c || usesB x.c) = true ∧ 0 ≤ x.d ∧ x.d < 8 := h.2 x (by rw [e]; simp)

theorem isNone_hasH {pre : List It} {sc : Sc} (h : Inv pre sc) (x : It) (hx : 0 ≤ x.d) : (sc.hid x.d.toNat).isNone = !(hasH pre x.d) := by
  have e : x.d = ((x.d.toNat : Nat) : Int) := by omega
  have h1 := h.no x.d.toNat
  rw [← e] at h1
  cases hn : sc.hid x.d.toNat with
  | none => rw [h1.1 hn]; rfl
  | some p =>
    cases h2 : hasH pre x.d
    · rw [h1.2 h2] at hn; cases hn
    · rfl

/-- a user that no hider is ahead of falls in both -/
theorem early (es : List It) (h : EvOk es) (a : List It) (y : It) (b : List It) (e : es = a ++ y :: b) (hu : usesB y.c = true) (hn : hasH a y.d = false) : PE Sc0 es y.pl ∧ RB es y.pl := by
  have hh : hidesB y.c = false := by cases hh : hidesB y.c; rfl; rw [hides_uses _ hh] at hu; cases hu
  constructor
  · rw [PE_iff]
    refine ⟨a, y, b, e, rfl, ?_⟩
    unfold bdE
    rw [hh, hu, isNone_hasH (inv_run es h a _ e) y (ev_d h e).2.1, hn]; rfl
  · refine ⟨a, y, b, e, rfl, ?_⟩
    unfold vdL
    rw [hh, hn]; rfl

theorem scope_eq (es : List It) (h : EvOk es) : MinEq (PB es) (RB es) := by
  constructor
  · rintro p (hp | hp)
    · obtain ⟨pre, x, post, e, rfl, hb⟩ := (PE_iff es p Sc0).1 hp
      refine ⟨x.pl, ⟨pre, x, post, e, rfl, ?_⟩, Int.le_refl _⟩
      have hi := inv_run es h pre _ e
      obtain ⟨d1, d2, d3⟩ := ev_d h e
      have hnn := isNone_hasH hi x d2
      unfold bdE at hb
      unfold vdL
      rw [hnn] at hb
      cases hh : hidesB x.c
      · rw [hh] at hb d1
        simp at d1
        rw [d1] at hb
        simp only [Bool.false_eq_true, if_false, if_true, Bool.not_not] at hb ⊢
        cases h1 : hasH pre x.d
        · rfl
        · rw [h1] at hb
          have hus : (pre.foldl scE Sc0).us x.d.toNat = true := by simpa using hb
          have := hi.us _ hus
          rw [show ((x.d.toNat : Nat) : Int) = x.d by omega] at this
          rw [this]; rfl
      · rw [hh] at hb
        simp only [if_true, Bool.not_not] at hb ⊢
        rw [hb]; rfl
    · obtain ⟨d, d8, hd, hu⟩ := hp
      have hi := inv_run es h es [] (by simp)
      obtain ⟨a, x, b, e, x1, x2, x3, x4⟩ := hi.so d p hd
      cases hue : hasU es x.d
      · refine ⟨p, ⟨a, x, b, e, x3.symm, ?_⟩, Int.le_refl _⟩
        unfold vdL; rw [x1, hue]; simp
      · obtain ⟨y, y1, y2, y3⟩ := (hasU_iff _ _).1 hue
        obtain ⟨a', b', e'⟩ := List.append_of_mem y1
        have hn := hi.un d hu a' y b' e' y3 (by omega)
        have hr := (early es h a' y b' e' y3 (by rw [y2, x2]; exact hn)).2
        refine ⟨y.pl, hr, ?_⟩
        -- y is ahead of x, for behind x there is a hider ahead
        have hya : y ∈ a ∨ y = x ∨ y ∈ b := by rw [e] at y1; simpa using y1
        rcases hya with h1 | h1 | h1
        · have := ev_lt h e h1; omega
        · rw [h1] at y3; rw [hides_uses _ x1] at y3; cases y3
        · exfalso
          have hxa : x ∈ a' := by
            have hx : x ∈ es := by rw [e]; simp
            rw [e'] at hx
            have hlt : x.pl < y.pl := by
              obtain ⟨b1, b2, rfl⟩ := List.append_of_mem h1
              exact ev_lt (pre := a ++ x :: b1) (post := b2) h (by rw [e]; simp) (by simp)
            simp only [List.mem_append, List.mem_cons] at hx
            rcases hx with hx | hx | hx
            · exact hx
            · rw [hx] at hlt; omega
            · obtain ⟨b1, b2, rfl⟩ := List.append_of_mem hx
              have := ev_lt (pre := a' ++ y :: b1) (post := b2) (x := x) (y := y) h (by rw [e']; simp) (by simp)
              omega
          have : hasH a' d = true := (hasH_iff _ _).2 ⟨x, hxa, x2, x1⟩
          rw [hn] at this; cases this
  · rintro p ⟨pre, x, post, e, rfl, hv⟩
    have hi := inv_run es h pre _ e
    obtain ⟨d1, d2, d3⟩ := ev_d h e
    have hnn := isNone_hasH hi x d2
    unfold vdL at hv
    cases hh : hidesB x.c
    · rw [hh] at hv d1
      simp at d1
      simp only [Bool.false_eq_true, if_false] at hv
      cases h1 : hasH pre x.d
      · exact ⟨x.pl, Or.inl (early es h pre x post e d1 h1).1, Int.le_refl _⟩
      · rw [h1] at hv
        have hU : hasU pre x.d = true := by simpa using hv
        cases hus : (pre.foldl scE Sc0).us x.d.toNat
        · obtain ⟨y, y1, y2, y3⟩ := (hasU_iff _ _).1 hU
          obtain ⟨a', b', e'⟩ := List.append_of_mem y1
          have hn := hi.un _ hus a' y b' e' y3 (by omega)
          refine ⟨y.pl, Or.inl (early es h a' y (b' ++ x :: post) (by rw [e, e']; simp) y3 (by rw [y2]; rw [show ((x.d.toNat : Nat) : Int) = x.d by omega] at hn; exact hn)).1, ?_⟩
          have := ev_lt h e y1; omega
        · refine ⟨x.pl, Or.inl ((PE_iff _ _ _).2 ⟨pre, x, post, e, rfl, ?_⟩), Int.le_refl _⟩
          unfold bdE; rw [hh, d1, hus]; simp
    · rw [hh] at hv
      simp only [if_true] at hv
      cases h1 : hasH pre x.d
      · rw [h1] at hv
        have hU : hasU es x.d = false := by simpa using hv
        refine ⟨x.pl, Or.inr ⟨x.d.toNat, by omega, ?_, ?_⟩, Int.le_refl _⟩
        · have hie := inv_run es h es [] (by simp)
          cases hq : (es.foldl scE Sc0).hid x.d.toNat with
          | none =>
            have := (hie.no _).1 hq
            rw [show ((x.d.toNat : Nat) : Int) = x.d by omega] at this
            have h2 : hasH es x.d = true := (hasH_iff _ _).2 ⟨x, by rw [e]; simp, rfl, hh⟩
            rw [this] at h2; cases h2
          | some p =>
            obtain ⟨a, z, b, e2, z1, z2, z3, z4⟩ := hie.so _ _ hq
            rw [show ((x.d.toNat : Nat) : Int) = x.d by omega] at z2 z4
            have hz : z ∈ es := by rw [e2]; simp
            rw [e] at hz
            simp only [List.mem_append, List.mem_cons] at hz
            rcases hz with hz | hz | hz
            · have : hasH pre x.d = true := (hasH_iff _ _).2 ⟨z, hz, z2, z1⟩
              rw [h1] at this; cases this
            · rw [← z3, hz]
            · exfalso
              have hx : x ∈ es := by rw [e]; simp
              obtain ⟨b1, b2, rfl⟩ := List.append_of_mem hz
              have hlt := ev_lt (pre := pre ++ x :: b1) (post := b2) (x := z) (y := x) h (by rw [e]; simp) (by simp)
              rw [e2] at hx
              simp only [List.mem_append, List.mem_cons] at hx
              rcases hx with hx | hx | hx
              · have : hasH a x.d = true := (hasH_iff _ _).2 ⟨x, hx, rfl, hh⟩
                rw [z4] at this; cases this
              · rw [hx] at hlt; omega
              · obtain ⟨b3, b4, rfl⟩ := List.append_of_mem hx
                have := ev_lt (pre := a ++ z :: b3) (post := b4) (x := x) (y := z) h (by rw [e2]; simp) (by simp)
                omega
        · have hie := inv_run es h es [] (by simp)
          cases hq : (es.foldl scE Sc0).us x.d.toNat
          · rfl
          · have := hie.us _ hq
            rw [show ((x.d.toNat : Nat) : Int) = x.d by omega, hU] at this
            cases this
      · refine ⟨x.pl, Or.inl ((PE_iff _ _ _).2 ⟨pre, x, post, e, rfl, ?_⟩), Int.le_refl _⟩
        unfold bdE; rw [hh, hnn, h1]; rfl

end Go.Proofs.YtmlkhhhjdpbhfaaDoor

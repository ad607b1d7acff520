import Derived.Test.YtmlkhhhjdpbhfaaGreatDoorPa25
namespace Go.Proofs.YtmlkhhhjdpbhfaaGreatDoor
open Go.RowKit
def hu (its : List It) (k : Nat) : Bool := hidesB (itd its k).c || usesB (itd its k).c
theorem stand_kid {its : List It} {f c : Nat} {z : List It} (hz : TrS f z) (ha : At its c z) : (c :: chainV its its.length c).filter (hu its) = evI f true true c z := by
 cases f with
 | zero => exact hz.elim
 | succ f =>
  obtain ⟨y, ks, rfl, hy, hks, hone⟩ := hz
  have hle := ha.le
  simp only [List.length_cons] at hle
  obtain ⟨N, hN⟩ : ∃ N, its.length = N + 1 := ⟨its.length - 1, by omega⟩
  rw [hN, chain_eq f N c y ks (by omega) ha hks hone, evI, segs_tr ks hks]
  have hall : ((withSt (c + 1) ks).flatMap fun q => evI f false (inB [119, 64, 115] y.c) q.1 q.2).filter (hu its) = (withSt (c + 1) ks).flatMap fun q => evI f false (inB [119, 64, 115] y.c) q.1 q.2 := by
   rw [List.filter_eq_self]
   intro k hk
   obtain ⟨q, q1, q2⟩ := List.mem_flatMap.1 hk
   obtain ⟨m1, m2, _, _⟩ := withSt_mem ks (c + 1) ha.tail q q1
   unfold hu
   rw [evI_uses f _ _ _ (hks _ m1) m2 k q2]; simp
  rw [List.filter_cons, hall]
  have hc : hu its c = (hidesB y.c || usesB y.c) := by unfold hu; rw [ha.head]
  rw [hc]
  by_cases h40 : y.c = 40
  · rw [if_pos h40, h40]
    have e1 : usesB 40 = false := by decide
    have e2 : inB [119, 64, 115] 40 = false := by decide
    have e3 : hidesB 40 = false := by decide
    rw [e1, e2, e3]
    simp [evI_none]
  · rw [if_neg h40]
    cases hh : (hidesB y.c || usesB y.c)
    · simp only [Bool.or_eq_false_iff] at hh
      simp [hh.1, hh.2]
    · simp only [Bool.and_true, hh, if_true]; simp
theorem stand_eq {its : List It} {f b : Nat} {x : It} {zs : List (List It)} (ha : At its b (x :: zs.flatten)) (hx : x.nx = 1 + (zs.flatten.length : Int)) (hz : ∀ z, z ∈ zs → TrS f z) :
 (standingV its b).filter (hu its) = (withSt (b + 1) zs).flatMap fun q => evI f true true q.1 q.2 := by
 unfold standingV
 rw [kids_eq ha hx hz]
 have hm : ∀ q, q ∈ withSt (b + 1) zs → TrS f q.2 ∧ At its q.1 q.2 := fun q hq => by
  obtain ⟨m1, m2, _, _⟩ := withSt_mem zs (b + 1) ha.tail q hq
  exact ⟨hz _ m1, m2⟩
 generalize withSt (b + 1) zs = ws at hm
 induction ws with
 | nil => rfl
 | cons q t ih =>
  simp only [List.map_cons, List.flatMap_cons, List.filter_append]
  rw [stand_kid (hm q List.mem_cons_self).1 (hm q List.mem_cons_self).2, ih (fun r hr => hm r (List.mem_cons_of_mem _ hr))]
theorem evI_sub {its : List It} {f b : Nat} {zs : List (List It)} {own ar : Bool} (ha : At its b zs.flatten) (hz : ∀ z, z ∈ zs → TrS f z) {q : Nat × List It} (hq : q ∈ withSt b zs) {k : Nat} (h1 : q.1 ≤ k) (h2 : k < q.1 + q.2.length) :
 k ∈ ((withSt b zs).flatMap fun q => evI f own ar q.1 q.2) ↔ k ∈ evI f own ar q.1 q.2 := by
 constructor
 · intro h
   obtain ⟨r, r1, r2⟩ := List.mem_flatMap.1 h
   obtain ⟨m1, m2, _, _⟩ := withSt_mem zs b ha r r1
   have := evI_range f _ _ _ _ (hz _ m1) m2 k r2
   rw [withSt_one zs b q r k hq r1 h1 h2 this.1 this.2]
   exact r2
 · intro h; exact List.mem_flatMap.2 ⟨q, hq, h⟩
theorem decides_eq {its : List It} {f b : Nat} {x : It} {zs : List (List It)} (ha : At its b (x :: zs.flatten)) (hx : x.nx = 1 + (zs.flatten.length : Int)) (hz : ∀ z, z ∈ zs → TrS f z) (hc : x.c = 40)
 {q : Nat × List It} (hq : q ∈ withSt (b + 1) zs) {k : Nat} (h1 : q.1 ≤ k) (h2 : k < q.1 + q.2.length) (hk : hu its k = true) :
 decides its k b = true ↔ k ∈ evI f true true q.1 q.2 := by
 have hs := stand_eq ha hx hz
 have hmem : k ∈ standingV its b ↔ k ∈ evI f true true q.1 q.2 := by
  rw [← evI_sub ha.tail hz hq h1 h2, ← hs, List.mem_filter]
  simp [hk]
 obtain ⟨m1, m2, m3, m4⟩ := withSt_mem zs (b + 1) ha.tail q hq
 have hn := nxt_head ha hx
 simp only [List.length_cons] at hn
 unfold decides memB
 rw [ha.head, hc]
 simp only [beq_self_eq_true, Bool.true_and, Bool.and_eq_true, decide_eq_true_eq, Bool.or_eq_true, Bool.not_eq_true']
 constructor
 · rintro ⟨⟨_, h⟩, _⟩; exact hmem.1 h
 · intro h
   refine ⟨⟨by omega, hmem.2 h⟩, ?_⟩
   by_cases e : k = q.1
   · right
     rw [kids_eq ha hx hz, e]
     exact List.mem_map.2 ⟨q, hq, rfl⟩
   · left
     have hzq := hz _ m1
     cases f with
     | zero => exact hzq.elim
     | succ f =>
      obtain ⟨c, z⟩ := q
      obtain ⟨y, ks, hzl, hy, hks, _⟩ := hzq
      simp only at hzl
      subst hzl
      rw [evI, segs_tr ks hks] at h
      split at h
      · simp at h
      · rcases List.mem_append.1 h with h | h
        · split at h
          · simp at h; exact (e h).elim
          · simp at h
        · obtain ⟨r, r1, r2⟩ := List.mem_flatMap.1 h
          obtain ⟨n1, n2, _, _⟩ := withSt_mem ks (c + 1) m2.tail r r1
          have hu2 := evI_uses f _ _ _ (hks _ n1) n2 k r2
          cases hh : hidesB (itd its k).c
          · rfl
          · rw [hides_uses _ hh] at hu2; cases hu2
theorem take_idx (l : List Nat) (k : Nat) (h : k ∈ l) : ∃ l1, l = l.take (l.idxOf k) ++ k :: l1 := by
 induction l with
 | nil => simp at h
 | cons y t ih =>
  by_cases e : y = k
  · subst e; exact ⟨t, by simp⟩
  · have hk : k ∈ t := by rcases List.mem_cons.1 h with h | h; exact (e h.symm).elim; exact h
    obtain ⟨l1, h1⟩ := ih hk
    refine ⟨l1, ?_⟩
    have e2 : (y == k) = false := by rw [beq_eq_false_iff_ne]; exact e
    rw [List.idxOf_cons, e2, cond_false, List.take_succ_cons, List.cons_append, ← h1]
theorem often_H (its : List It) (l : List Nat) (d : Int) : decide (0 < oftenV its l d true) = hasH ((l.filter (hu its)).map (itd its)) d := by
 rw [Bool.eq_iff_iff, decide_eq_true_eq, hasH_iff]
 unfold oftenV
 rw [List.length_pos_iff_exists_mem]
 constructor
 · rintro ⟨k, hk⟩
   obtain ⟨k1, k2⟩ := List.mem_filter.1 hk
   simp only [oftenP, Bool.true_and, Bool.not_true, Bool.false_and, Bool.or_false, Bool.and_eq_true, beq_iff_eq] at k2
   exact ⟨itd its k, List.mem_map.2 ⟨k, List.mem_filter.2 ⟨k1, by unfold hu; rw [k2.2]; rfl⟩, rfl⟩, k2.1, k2.2⟩
 · rintro ⟨y, hy, y1, y2⟩
   obtain ⟨k, k1, rfl⟩ := List.mem_map.1 hy
   exact ⟨k, List.mem_filter.2 ⟨(List.mem_filter.1 k1).1, by simp [oftenP, y1, y2]⟩⟩
theorem often_U (its : List It) (l : List Nat) (d : Int) : decide (0 < oftenV its l d false) = hasU ((l.filter (hu its)).map (itd its)) d := by
 rw [Bool.eq_iff_iff, decide_eq_true_eq, hasU_iff]
 unfold oftenV
 rw [List.length_pos_iff_exists_mem]
 constructor
 · rintro ⟨k, hk⟩
   obtain ⟨k1, k2⟩ := List.mem_filter.1 hk
   simp only [oftenP, Bool.true_and, Bool.not_false, Bool.false_and, Bool.false_or, Bool.and_eq_true, beq_iff_eq] at k2
   exact ⟨itd its k, List.mem_map.2 ⟨k, List.mem_filter.2 ⟨k1, by unfold hu; rw [k2.2]; simp⟩, rfl⟩, k2.1, k2.2⟩
 · rintro ⟨y, hy, y1, y2⟩
   obtain ⟨k, k1, rfl⟩ := List.mem_map.1 hy
   exact ⟨k, List.mem_filter.2 ⟨(List.mem_filter.1 k1).1, by simp [oftenP, y1, y2]⟩⟩
theorem zero_dec (n : Nat) : (n == 0) = !(decide (0 < n)) := by cases n <;> simp
theorem verdict_eq (its : List It) (b k : Nat) (h : k ∈ standingV its b) (hk : hu its k = true) :
 ∃ pre post, ((standingV its b).filter (hu its)).map (itd its) = pre ++ itd its k :: post ∧ verdict its k b = vdL pre (itd its k) (((standingV its b).filter (hu its)).map (itd its)) := by
 obtain ⟨l1, e⟩ := take_idx _ _ h
 refine ⟨(((standingV its b).take ((standingV its b).idxOf k)).filter (hu its)).map (itd its), (l1.filter (hu its)).map (itd its), ?_, ?_⟩
 · generalize (standingV its b).take ((standingV its b).idxOf k) = l0 at e ⊢
   rw [e, List.filter_append, List.filter_cons, hk]; simp
 · unfold verdict vdL
   simp only [zero_dec, often_H, often_U]
theorem split_one (es : List It) (h : es.Pairwise (fun x y => x.pl < y.pl)) : ∀ pre x post pre' x' post', es = pre ++ x :: post → es = pre' ++ x' :: post' → x.pl = x'.pl → pre = pre' ∧ x = x' := by
 induction es with
 | nil => intro pre x post pre' x' post' e; simp at e
 | cons y t ih =>
  intro pre x post pre' x' post' e e' hp
  obtain ⟨h1, h2⟩ := List.pairwise_cons.1 h
  cases pre with
  | nil =>
   simp at e
   obtain ⟨rfl, rfl⟩ := e
   cases pre' with
   | nil => simp at e'; exact ⟨rfl, e'.1⟩
   | cons z u =>
    simp at e'
    have := h1 x' (by rw [e'.2]; simp)
    omega
  | cons z u =>
   simp at e
   obtain ⟨rfl, rfl⟩ := e
   cases pre' with
   | nil =>
    simp at e'
    have := h1 x (by simp)
    rw [e'.1] at this
    omega
   | cons z' u' =>
    simp at e'
    obtain ⟨rfl, e'⟩ := e'
    have := ih h2 u x post u' x' post' rfl e' hp
    exact ⟨by rw [this.1], this.2⟩
theorem RB_eq {its : List It} {f b : Nat} {x : It} {zs : List (List It)} (ha : At its b (x :: zs.flatten)) (hx : x.nx = 1 + (zs.flatten.length : Int)) (hz : ∀ z, z ∈ zs → TrS f z)
 (hp : (zs.flatMap (ev f true true)).Pairwise (fun x y => x.pl < y.pl)) (p : Int) :
 RB (zs.flatMap (ev f true true)) p ↔ ∃ k, k ∈ ((withSt (b + 1) zs).flatMap fun q => evI f true true q.1 q.2) ∧ verdict its k b = false ∧ p = (itd its k).pl := by
 have hs := stand_eq ha hx hz
 have hm : ((standingV its b).filter (hu its)).map (itd its) = zs.flatMap (ev f true true) := by
  rw [hs]
  have : ∀ (zs : List (List It)) b, (∀ z, z ∈ zs → TrS f z) → At its b zs.flatten → ((withSt b zs).flatMap fun q => evI f true true q.1 q.2).map (itd its) = zs.flatMap (ev f true true) := by
   intro zs
   induction zs with
   | nil => intro b _ _; rfl
   | cons z t iht =>
    intro b hz h
    simp only [List.flatten_cons] at h
    simp only [withSt, List.flatMap_cons, List.map_append]
    rw [evI_map f true true b z (hz z List.mem_cons_self) h.left, iht _ (fun y hy => hz y (List.mem_cons_of_mem _ hy)) h.right]
  exact this zs (b + 1) hz ha.tail
 rw [← hs]
 constructor
 · rintro ⟨pre, y, post, e, rfl, hv⟩
   have hy : y ∈ ((standingV its b).filter (hu its)).map (itd its) := by rw [hm, e]; simp
   obtain ⟨k, k1, rfl⟩ := List.mem_map.1 hy
   obtain ⟨k2, k3⟩ := List.mem_filter.1 k1
   obtain ⟨pre', post', e', v'⟩ := verdict_eq its b k k2 k3
   rw [hm] at e' v'
   obtain ⟨rfl, _⟩ := split_one _ hp _ _ _ _ _ _ e e' rfl
   exact ⟨k, k1, by rw [v', hv], rfl⟩
 · rintro ⟨k, k1, hv, rfl⟩
   obtain ⟨k2, k3⟩ := List.mem_filter.1 k1
   obtain ⟨pre', post', e', v'⟩ := verdict_eq its b k k2 k3
   rw [hm] at e' v'
   exact ⟨pre', _, post', e', rfl, by rw [← v', hv]⟩
theorem bound_not (its : List It) (k : Nat) (h : hu its k = false) : boundV its k = true := by
 unfold hu at h
 simp only [Bool.or_eq_false_iff] at h
 unfold boundV; rw [h.1, h.2]; rfl
theorem bound_none (its : List It) (k : Nat) (h : hu its k = true) (hn : ∀ s, s < k → decides its k s = false) : boundV its k = false := by
 have h0 : (!(hidesB (itd its k).c) && !(usesB (itd its k).c)) = false := by unfold hu at h; revert h; cases hidesB (itd its k).c <;> cases usesB (itd its k).c <;> decide
 have h1 : (List.range k).find? (decides its k) = none := by
  rw [List.find?_eq_none]; intro s hs; rw [hn s (List.mem_range.1 hs)]; simp
 unfold boundV; rw [h0, h1]; rfl
theorem bound_some (its : List It) (k S : Nat) (h : hu its k = true) (hS : S < k) (hn : ∀ s, s < k → (decides its k s = true ↔ s = S)) : boundV its k = verdict its k S := by
 have h0 : (!(hidesB (itd its k).c) && !(usesB (itd its k).c)) = false := by unfold hu at h; revert h; cases hidesB (itd its k).c <;> cases usesB (itd its k).c <;> decide
 have h1 : (List.range k).find? (decides its k) = some S := by
  cases hf : (List.range k).find? (decides its k) with
  | none =>
   rw [List.find?_eq_none] at hf
   exact ((hf S (List.mem_range.2 hS)) ((hn S hS).2 rfl)).elim
  | some s =>
   have h2 := List.find?_some hf
   have h3 := List.mem_range.1 (List.mem_of_find?_eq_some hf)
   rw [(hn s h3).1 h2]
 unfold boundV; rw [h0, h1]; rfl
def PlInc (l : List It) : Prop := l.Pairwise (fun x y => x.pl < y.pl)
theorem segs_sub (f : Nat) : ∀ l : List It, (segs f l).flatten.Sublist l := by
 induction f with
 | zero => intro l; exact List.nil_sublist _
 | succ f ih =>
  intro l
  cases l with
  | nil => exact List.nil_sublist _
  | cons x r =>
   rw [segs, List.flatten_cons, List.cons_append]
   refine List.Sublist.cons_cons x ?_
   have := (ih (r.drop (x.nx.toNat - 1))).append_left (r.take (x.nx.toNat - 1))
   rwa [List.take_append_drop] at this
theorem flat_sub {f : List It → List It} (zs : List (List It)) (h : ∀ z, z ∈ zs → (f z).Sublist z) : (zs.flatMap f).Sublist zs.flatten := by
 induction zs with
 | nil => exact List.nil_sublist _
 | cons z t ih =>
  rw [List.flatMap_cons, List.flatten_cons]
  exact (h z List.mem_cons_self).append (ih fun y hy => h y (List.mem_cons_of_mem _ hy))
theorem ev_sub (f : Nat) : ∀ own ar (l : List It), (ev f own ar l).Sublist l := by
 induction f with
 | zero => intro own ar l; exact List.nil_sublist _
 | succ f ih =>
  intro own ar l
  cases l with
  | nil => exact List.nil_sublist _
  | cons x r =>
   rw [ev]
   split
   · exact List.nil_sublist _
   · have h1 := (flat_sub (segs r.length r) (fun z _ => ih false (ar && inB [119, 64, 115] x.c) z)).trans (segs_sub r.length r)
     split
     · exact List.Sublist.cons_cons x h1
     · exact List.Sublist.cons x h1
theorem ev_hu (f : Nat) : ∀ own ar (l : List It) x, x ∈ ev f own ar l → (hidesB x.c || usesB x.c) = true := by
 induction f with
 | zero => intro own ar l x hx; simp [ev] at hx
 | succ f ih =>
  intro own ar l x hx
  cases l with
  | nil => simp [ev] at hx
  | cons y r =>
   rw [ev] at hx
   split at hx
   · simp at hx
   · rcases List.mem_append.1 hx with hx | hx
     · split at hx
       · rename_i hc
         simp at hx; subst hx
         revert hc; cases hidesB x.c <;> cases usesB x.c <;> simp
       · simp at hx
     · obtain ⟨z, _, z2⟩ := List.mem_flatMap.1 hx
       exact ih _ _ z x z2
theorem seg_sub {z : List It} {zs : List (List It)} (h : z ∈ zs) : z.Sublist zs.flatten := List.sublist_flatten_of_mem h
def DOk (l : List It) : Prop := ∀ x, x ∈ l → (hidesB x.c || usesB x.c) = true → 0 ≤ x.d ∧ x.d < 8
theorem evOk (f : Nat) (own ar : Bool) (zs : List (List It)) (r : List It) (hs : zs.flatten.Sublist r) (hp : PlInc r) (hd : DOk r) : EvOk (zs.flatMap (ev f own ar)) := by
 have h1 := (flat_sub zs (fun z _ => ev_sub f own ar z)).trans hs
 refine ⟨List.Pairwise.sublist h1 hp, fun x hx => ?_⟩
 have h2 : (hidesB x.c || usesB x.c) = true := by obtain ⟨z, _, z2⟩ := List.mem_flatMap.1 hx; exact ev_hu f _ _ z x z2
 exact ⟨h2, hd x (h1.subset hx) h2⟩
theorem lost_eq (f : Nat) : ∀ own ar (l : List It), PlInc l → DOk l → MinEq (lost PB f own ar l) (lost RB f own ar l) := by
 induction f with
 | zero => intro own ar l _ _; exact MinEq.refl _
 | succ f ih =>
  intro own ar l hp hd
  cases l with
  | nil => exact MinEq.refl _
  | cons x r =>
   have hp' : PlInc r := (List.pairwise_cons.1 hp).2
   have hd' : DOk r := fun y hy => hd y (List.mem_cons_of_mem _ hy)
   have hk : ∀ o a z, z ∈ segs r.length r → MinEq (lost PB f o a z) (lost RB f o a z) := fun o a z hz => by
    have hs := (seg_sub hz).trans (segs_sub r.length r)
    exact ih o a z (List.Pairwise.sublist hs hp') (fun y hy => hd' y (hs.subset hy))
   by_cases hc : x.c = 40
   · have e1 : ∀ X : List It → Int → Prop, lost X (f + 1) own ar (x :: r) = fun p => X ((segs r.length r).flatMap (ev f true true)) p ∨ ∃ z, z ∈ segs r.length r ∧ lost X f true true z p := fun X => by funext p; rw [lost, if_pos hc]
     rw [e1, e1]
     exact MinEq.or (scope_eq _ (evOk f true true _ r (segs_sub _ _) hp' hd')) (MinEq.ex fun z hz => hk true true z hz)
   · have e1 : ∀ X : List It → Int → Prop, lost X (f + 1) own ar (x :: r) = fun p => (((hidesB x.c && !own) || (usesB x.c && !ar)) = true ∧ p = x.pl) ∨ ∃ z, z ∈ segs r.length r ∧ lost X f false (ar && inB [119, 64, 115] x.c) z p := fun X => by funext p; rw [lost, if_neg hc]
     rw [e1, e1]
     exact MinEq.or (MinEq.refl _) (MinEq.ex fun z hz => hk _ _ z hz)
structure Ctx (its : List It) (f : Nat) (own ar : Bool) (b : Nat) (l : List It) (S : Nat) : Prop where
 dec : ∀ k, b ≤ k → k < b + l.length → hu its k = true → ∀ s, s < b → (decides its k s = true ↔ s = S ∧ k ∈ evI f own ar b l)
 lt : ∀ k, k ∈ evI f own ar b l → S < b
theorem decides_lt {its : List It} {k s : Nat} (h : nxt its s ≤ k) : decides its k s = false := by
 unfold decides
 have : decide (k < nxt its s) = false := by simp; exact h
 rw [this]; simp
theorem decides_no {its : List It} {k s : Nat} (h : ¬ (itd its s).c = 40) : decides its k s = false := by
 unfold decides
 have : ((itd its s).c == 40) = false := by rw [beq_eq_false_iff_ne]; exact h
 rw [this]; simp
theorem ref_set {its : List It} (f : Nat) : ∀ own ar b l S, TrS f l → At its b l → PlInc l → Ctx its f own ar b l S → ∀ p,
 (∃ k, b ≤ k ∧ k < b + l.length ∧ boundV its k = false ∧ p = (itd its k).pl) ↔ ((∃ k, k ∈ evI f own ar b l ∧ verdict its k S = false ∧ p = (itd its k).pl) ∨ lost RB f own ar l p) := by
 induction f with
 | zero => intro own ar b l S h; exact h.elim
 | succ f ih =>
  intro own ar b l S h ha hp hctx p
  obtain ⟨x, kids, rfl, hx, hks, hone⟩ := h
  have hp' : PlInc kids.flatten := (List.pairwise_cons.1 hp).2
  have hkp : ∀ q, q ∈ withSt (b + 1) kids → PlInc q.2 := fun q hq => List.Pairwise.sublist (seg_sub (withSt_mem kids (b + 1) ha.tail q hq).1) hp'
  -- the places: the head, or one of the parts within
  have hsplit : (∃ k, b ≤ k ∧ k < b + (x :: kids.flatten).length ∧ boundV its k = false ∧ p = (itd its k).pl) ↔ ((boundV its b = false ∧ p = x.pl) ∨ ∃ q, q ∈ withSt (b + 1) kids ∧ ∃ k, q.1 ≤ k ∧ k < q.1 + q.2.length ∧ boundV its k = false ∧ p = (itd its k).pl) := by
   constructor
   · rintro ⟨k, k1, k2, k3, k4⟩
     by_cases e : k = b
     · subst e; left; exact ⟨k3, by rw [k4, ha.head]⟩
     · right
       simp only [List.length_cons] at k2
       obtain ⟨q, q1, q2, q3⟩ := withSt_cover kids (b + 1) k (by omega) (by omega)
       exact ⟨q, q1, k, q2, q3, k3, k4⟩
   · rintro (⟨h1, h2⟩ | ⟨q, q1, k, k1, k2, k3, k4⟩)
     · exact ⟨b, Nat.le_refl _, by simp, h1, by rw [h2, ha.head]⟩
     · obtain ⟨m1, m2, m3, m4⟩ := withSt_mem kids (b + 1) ha.tail q q1
       exact ⟨k, by omega, by simp only [List.length_cons]; omega, k3, k4⟩
  rw [hsplit]
  have hin : ∀ q, q ∈ withSt (b + 1) kids → ∀ k, q.1 ≤ k → k < q.1 + q.2.length → b ≤ k ∧ k < b + (x :: kids.flatten).length := by
   intro q hq k k1 k2
   obtain ⟨m1, m2, m3, m4⟩ := withSt_mem kids (b + 1) ha.tail q hq
   simp only [List.length_cons]; omega
  by_cases hc : x.c = 40
  · have hev : evI (f + 1) own ar b (x :: kids.flatten) = [] := by rw [evI, if_pos hc]
    have hub : hu its b = false := by unfold hu; rw [ha.head, hc]; decide
    have hb := bound_not its b hub
    have hk : ∀ q, q ∈ withSt (b + 1) kids → Ctx its f true true q.1 q.2 b := by
     intro q hq
     obtain ⟨m1, m2, m3, m4⟩ := withSt_mem kids (b + 1) ha.tail q hq
     refine ⟨fun k k1 k2 k3 s hs => ?_, fun k _ => by omega⟩
     obtain ⟨i1, i2⟩ := hin q hq k k1 k2
     by_cases s1 : s < b
     · have := hctx.dec k i1 i2 k3 s s1
       rw [hev] at this
       constructor
       · intro h; have := (this.1 h).2; simp at this
       · rintro ⟨h, _⟩; omega
     · by_cases s2 : s = b
       · subst s2
         rw [decides_eq ha hx hks hc hq k1 k2 k3]; simp
       · have h1 := beside kids hks (b + 1) ha.tail q hq s (by omega) hs
         rw [decides_lt (by omega)]
         constructor
         · intro h; cases h
         · rintro ⟨h, _⟩; exact (s2 h).elim
    have hl : lost RB (f + 1) own ar (x :: kids.flatten) p ↔ (RB (kids.flatMap (ev f true true)) p ∨ ∃ z, z ∈ kids ∧ lost RB f true true z p) := by rw [lost, if_pos hc, segs_tr kids hks]
    rw [hl, hev, hb, RB_eq ha hx hks (List.Pairwise.sublist (flat_sub kids (fun z _ => ev_sub f true true z)) hp') p]
    constructor
    · rintro (⟨h, _⟩ | ⟨q, q1, h⟩)
      · cases h
      · obtain ⟨m1, m2, _, _⟩ := withSt_mem kids (b + 1) ha.tail q q1
        rcases (ih true true q.1 q.2 b (hks _ m1) m2 (hkp q q1) (hk q q1) p).1 h with ⟨k, k1, k2, k3⟩ | h
        · exact Or.inr (Or.inl ⟨k, List.mem_flatMap.2 ⟨q, q1, k1⟩, k2, k3⟩)
        · exact Or.inr (Or.inr ⟨q.2, m1, h⟩)
    · rintro (⟨k, k1, _⟩ | ⟨k, k1, k2, k3⟩ | ⟨z, z1, z2⟩)
      · simp at k1
      · obtain ⟨q, q1, q2⟩ := List.mem_flatMap.1 k1
        obtain ⟨m1, m2, _, _⟩ := withSt_mem kids (b + 1) ha.tail q q1
        exact Or.inr ⟨q, q1, (ih true true q.1 q.2 b (hks _ m1) m2 (hkp q q1) (hk q q1) p).2 (Or.inl ⟨k, q2, k2, k3⟩)⟩
      · obtain ⟨c, hq⟩ := withSt_of kids (b + 1) z z1
        obtain ⟨m1, m2, _, _⟩ := withSt_mem kids (b + 1) ha.tail _ hq
        exact Or.inr ⟨(c, z), hq, (ih true true c z b (hks _ m1) m2 (hkp _ hq) (hk _ hq) p).2 (Or.inr z2)⟩
  · have hev : evI (f + 1) own ar b (x :: kids.flatten) = (if (hidesB x.c && own) || (usesB x.c && ar) then [b] else []) ++ (withSt (b + 1) kids).flatMap fun q => evI f false (ar && inB [119, 64, 115] x.c) q.1 q.2 := by rw [evI, if_neg hc, segs_tr kids hks]
    have hhead : ∀ q, q ∈ withSt (b + 1) kids → ∀ k, q.1 ≤ k → k < q.1 + q.2.length → (k ∈ evI (f + 1) own ar b (x :: kids.flatten) ↔ k ∈ evI f false (ar && inB [119, 64, 115] x.c) q.1 q.2) := by
     intro q hq k k1 k2
     obtain ⟨m1, m2, m3, m4⟩ := withSt_mem kids (b + 1) ha.tail q hq
     rw [hev, List.mem_append, evI_sub ha.tail hks hq k1 k2]
     constructor
     · rintro (h | h)
       · split at h
         · simp at h; omega
         · simp at h
       · exact h
     · exact Or.inr
    have hk : ∀ q, q ∈ withSt (b + 1) kids → Ctx its f false (ar && inB [119, 64, 115] x.c) q.1 q.2 S := by
     intro q hq
     obtain ⟨m1, m2, m3, m4⟩ := withSt_mem kids (b + 1) ha.tail q hq
     refine ⟨fun k k1 k2 k3 s hs => ?_, fun k hk => ?_⟩
     · obtain ⟨i1, i2⟩ := hin q hq k k1 k2
       rw [← hhead q hq k k1 k2]
       by_cases s1 : s < b
       · exact hctx.dec k i1 i2 k3 s s1
       · have hf : decides its k s = false := by
          by_cases s2 : s = b
          · subst s2; exact decides_no (by rw [ha.head]; exact hc)
          · have h1 := beside kids hks (b + 1) ha.tail q hq s (by omega) hs
            exact decides_lt (by omega)
         rw [hf]
         constructor
         · intro h; cases h
         · rintro ⟨h, h2⟩; have := hctx.lt k h2; omega
     · have hr := evI_range f _ _ _ _ (hks _ m1) m2 k hk
       have := hctx.lt k ((hhead q hq k hr.1 hr.2).2 hk)
       omega
    have hl : lost RB (f + 1) own ar (x :: kids.flatten) p ↔ ((((hidesB x.c && !own) || (usesB x.c && !ar)) = true ∧ p = x.pl) ∨ ∃ z, z ∈ kids ∧ lost RB f false (ar && inB [119, 64, 115] x.c) z p) := by rw [lost, if_neg hc, segs_tr kids hks]
    have hhb : hu its b = (hidesB x.c || usesB x.c) := by unfold hu; rw [ha.head]
    have hrest : (∃ q, q ∈ withSt (b + 1) kids ∧ ∃ k, q.1 ≤ k ∧ k < q.1 + q.2.length ∧ boundV its k = false ∧ p = (itd its k).pl) ↔ ((∃ k, k ∈ ((withSt (b + 1) kids).flatMap fun q => evI f false (ar && inB [119, 64, 115] x.c) q.1 q.2) ∧ verdict its k S = false ∧ p = (itd its k).pl) ∨ ∃ z, z ∈ kids ∧ lost RB f false (ar && inB [119, 64, 115] x.c) z p) := by
     constructor
     · rintro ⟨q, q1, h⟩
       obtain ⟨m1, m2, _, _⟩ := withSt_mem kids (b + 1) ha.tail q q1
       rcases (ih _ _ q.1 q.2 S (hks _ m1) m2 (hkp q q1) (hk q q1) p).1 h with ⟨k, k1, k2, k3⟩ | h
       · exact Or.inl ⟨k, List.mem_flatMap.2 ⟨q, q1, k1⟩, k2, k3⟩
       · exact Or.inr ⟨q.2, m1, h⟩
     · rintro (⟨k, k1, k2, k3⟩ | ⟨z, z1, z2⟩)
       · obtain ⟨q, q1, q2⟩ := List.mem_flatMap.1 k1
         obtain ⟨m1, m2, _, _⟩ := withSt_mem kids (b + 1) ha.tail q q1
         exact ⟨q, q1, (ih _ _ q.1 q.2 S (hks _ m1) m2 (hkp q q1) (hk q q1) p).2 (Or.inl ⟨k, q2, k2, k3⟩)⟩
       · obtain ⟨c, hq⟩ := withSt_of kids (b + 1) z z1
         obtain ⟨m1, m2, _, _⟩ := withSt_mem kids (b + 1) ha.tail _ hq
         exact ⟨(c, z), hq, (ih _ _ c z S (hks _ m1) m2 (hkp _ hq) (hk _ hq) p).2 (Or.inr z2)⟩
    rw [hl, hrest]
    -- the head itself
    cases hq : ((hidesB x.c && own) || (usesB x.c && ar))
    · have hev2 : evI (f + 1) own ar b (x :: kids.flatten) = (withSt (b + 1) kids).flatMap fun q => evI f false (ar && inB [119, 64, 115] x.c) q.1 q.2 := by rw [hev, hq]; rfl
      have hnb : b ∉ evI (f + 1) own ar b (x :: kids.flatten) := by
       rw [hev2]
       intro h
       obtain ⟨q, q1, q2⟩ := List.mem_flatMap.1 h
       obtain ⟨m1, m2, m3, _⟩ := withSt_mem kids (b + 1) ha.tail q q1
       have := evI_range f _ _ _ _ (hks _ m1) m2 b q2
       omega
      have hb : boundV its b = false ↔ ((hidesB x.c && !own) || (usesB x.c && !ar)) = true := by
       cases hhu : hu its b
       · rw [bound_not its b hhu]
         rw [hhu] at hhb
         have h0 := hhb.symm
         simp only [Bool.or_eq_false_iff] at h0
         rw [h0.1, h0.2]; simp
       · rw [bound_none its b hhu (fun s hs => by
          cases hd : decides its b s
          · rfl
          · exact (hnb ((hctx.dec b (Nat.le_refl _) (by simp) hhu s hs).1 hd).2).elim)]
         rw [hhu] at hhb
         revert hq hhb
         cases hidesB x.c <;> cases usesB x.c <;> cases own <;> cases ar <;> simp
      rw [hb, hev2]
      constructor
      · rintro (h | h | h)
        · exact Or.inr (Or.inl h)
        · exact Or.inl h
        · exact Or.inr (Or.inr h)
      · rintro (h | h | h)
        · exact Or.inr (Or.inl h)
        · exact Or.inl h
        · exact Or.inr (Or.inr h)
    · have hev2 : evI (f + 1) own ar b (x :: kids.flatten) = b :: (withSt (b + 1) kids).flatMap fun q => evI f false (ar && inB [119, 64, 115] x.c) q.1 q.2 := by rw [hev, hq]; rfl
      have hbm : b ∈ evI (f + 1) own ar b (x :: kids.flatten) := by rw [hev2]; exact List.mem_cons_self
      have hhu : hu its b = true := by rw [hhb]; revert hq; cases hidesB x.c <;> cases usesB x.c <;> simp
      have hS := hctx.lt b hbm
      have hb : boundV its b = verdict its b S := bound_some its b S hhu hS (fun s hs => by
       rw [hctx.dec b (Nat.le_refl _) (by simp) hhu s hs]; simp [hbm])
      have hno : ((hidesB x.c && !own) || (usesB x.c && !ar)) = false := by
       cases hh : hidesB x.c
       · rw [hh] at hq; revert hq; cases usesB x.c <;> cases ar <;> simp
       · rw [hh, hides_uses _ hh] at hq; rw [hides_uses _ hh]; revert hq; cases own <;> simp
      rw [hb, hno, hev2]
      constructor
      · rintro (⟨h1, h2⟩ | ⟨k, k1, k2, k3⟩ | h)
        · exact Or.inl ⟨b, List.mem_cons_self, h1, by rw [h2, ha.head]⟩
        · exact Or.inl ⟨k, List.mem_cons_of_mem _ k1, k2, k3⟩
        · exact Or.inr (Or.inr h)
      · rintro (⟨k, k1, k2, k3⟩ | ⟨h, _⟩ | h)
        · rcases List.mem_cons.1 k1 with rfl | k1
          · exact Or.inl ⟨k2, by rw [k3, ha.head]⟩
          · exact Or.inr (Or.inl ⟨k, k1, k2, k3⟩)
        · cases h
        · exact Or.inr (Or.inr h)
end Go.Proofs.YtmlkhhhjdpbhfaaGreatDoor

import Derived.Test.YtmlkhhhjdpbhfaaGreatDoorPa24
import Derived.Test.YtmlkhhhjdpbhfaaGreatDoorPa11
namespace Go.Proofs.YtmlkhhhjdpbhfaaGreatDoor
open Go.RowKit
def hasH (l : List It) (d : Int) : Bool := l.any fun y => y.d == d && hidesB y.c
def hasU (l : List It) (d : Int) : Bool := l.any fun y => y.d == d && usesB y.c
def vdL (pre : List It) (x : It) (es : List It) : Bool := if hidesB x.c then !(hasH pre x.d) && hasU es x.d else hasH pre x.d && !(hasU pre x.d)
def RB (es : List It) (p : Int) : Prop := ∃ pre x post, es = pre ++ x :: post ∧ p = x.pl ∧ vdL pre x es = false
theorem hasH_iff (l : List It) (d : Int) : hasH l d = true ↔ ∃ y, y ∈ l ∧ y.d = d ∧ hidesB y.c = true := by simp [hasH]
theorem hasU_iff (l : List It) (d : Int) : hasU l d = true ↔ ∃ y, y ∈ l ∧ y.d = d ∧ usesB y.c = true := by simp [hasU]
theorem split_snoc {α : Type} {pre a b : List α} {x y : α} (h : pre ++ [x] = a ++ y :: b) : (b = [] ∧ a = pre ∧ y = x) ∨ ∃ b', b = b' ++ [x] ∧ pre = a ++ y :: b' := by
 rcases List.eq_nil_or_concat b with rfl | ⟨b', z, rfl⟩
 · left
   have := List.append_inj' h rfl
   exact ⟨rfl, this.1.symm, by simpa using this.2.symm⟩
 · right
   rw [List.concat_eq_append] at h ⊢
   have h2 : pre ++ [x] = (a ++ y :: b') ++ [z] := by rw [h]; simp
   have := List.append_inj' h2 rfl
   have e : x = z := by simpa using this.2
   subst e
   exact ⟨b', rfl, this.1⟩
structure Inv (pre : List It) (sc : Sc) : Prop where
 no : ∀ d : Nat, sc.hid d = none ↔ hasH pre d = false
 so : ∀ (d : Nat) p, sc.hid d = some p → ∃ (a : List It) (x : It) (b : List It), pre = a ++ x :: b ∧ hidesB x.c = true ∧ x.d = (d : Int) ∧ x.pl = p ∧ hasH a d = false
 us : ∀ d : Nat, sc.us d = true → hasU pre d = true
 un : ∀ d : Nat, sc.us d = false → ∀ (a : List It) (y : It) (b : List It), pre = a ++ y :: b → usesB y.c = true → y.d = (d : Int) → hasH a d = false
theorem hasH_snoc (l : List It) (x : It) (d : Int) : hasH (l ++ [x]) d = (hasH l d || (x.d == d && hidesB x.c)) := by simp [hasH]
theorem hasU_snoc (l : List It) (x : It) (d : Int) : hasU (l ++ [x]) d = (hasU l d || (x.d == d && usesB x.c)) := by simp [hasU]
theorem Inv.nil : Inv [] Sc0 := ⟨fun d => by simp [Sc0, hasH], fun d p h => by simp [Sc0] at h, fun d h => by simp [Sc0] at h, fun d _ a y b h => by simp at h⟩
theorem Inv.so_snoc {pre : List It} {sc : Sc} (h : Inv pre sc) (x : It) (d : Nat) (p : Int) (hd : sc.hid d = some p) : ∃ (a : List It) (y : It) (b : List It), pre ++ [x] = a ++ y :: b ∧ hidesB y.c = true ∧ y.d = (d : Int) ∧ y.pl = p ∧ hasH a d = false := by
 obtain ⟨a, y, b, rfl, h1, h2, h3, h4⟩ := h.so d p hd
 exact ⟨a, y, b ++ [x], by simp, h1, h2, h3, h4⟩
theorem Inv.step {pre : List It} {sc : Sc} (h : Inv pre sc) (x : It) (hx : (hidesB x.c || usesB x.c) = true → 0 ≤ x.d) : Inv (pre ++ [x]) (scE sc x) := by
 unfold scE
 cases hh : hidesB x.c
 · cases hu : usesB x.c
   · simp only [Bool.false_eq_true, if_false]
     refine ⟨fun d => ?_, h.so_snoc x, fun d hd => ?_, fun d hd a y b e hy hyd => ?_⟩
     · rw [h.no, hasH_snoc, hh]; simp
     · rw [hasU_snoc, h.us d hd]; rfl
     · rcases split_snoc e with ⟨_, _, rfl⟩ | ⟨b', _, e2⟩
       · rw [hu] at hy; cases hy
       · exact h.un d hd a y b' e2 hy hyd
   · simp only [Bool.false_eq_true, if_false, if_true]
     have hx0 := hx (by rw [hu]; simp)
     have hxd : x.d = ((x.d.toNat : Nat) : Int) := by omega
     split
     · rename_i hc
       simp only [Bool.and_eq_true, Bool.not_eq_true'] at hc
       refine ⟨fun d => ?_, h.so_snoc x, fun d hd => ?_, fun d hd a y b e hy hyd => ?_⟩
       · simp only; rw [h.no, hasH_snoc, hh]; simp
       · simp only at hd
         rw [hasU_snoc, hu]
         by_cases e : d = x.d.toNat
         · subst e; rw [← hxd]; simp
         · rw [if_neg e] at hd; rw [h.us d hd]; rfl
       · simp only at hd
         by_cases e3 : d = x.d.toNat
         · rw [if_pos e3] at hd; cases hd
         · rw [if_neg e3] at hd
           rcases split_snoc e with ⟨_, _, rfl⟩ | ⟨b', _, e2⟩
           · omega
           · exact h.un d hd a y b' e2 hy hyd
     · rename_i hc
       refine ⟨fun d => ?_, h.so_snoc x, fun d hd => ?_, fun d hd a y b e hy hyd => ?_⟩
       · rw [h.no, hasH_snoc, hh]; simp
       · rw [hasU_snoc, h.us d hd]; rfl
       · rcases split_snoc e with ⟨_, rfl, rfl⟩ | ⟨b', _, e2⟩
         · have e4 : y.d.toNat = d := by omega
           rw [e4, hd] at hc
           exact (h.no d).1 (by cases hn : sc.hid d with | none => rfl | some p => rw [hn] at hc; simp at hc)
         · exact h.un d hd a y b' e2 hy hyd
 · have hu := hides_uses _ hh
   simp only [if_true]
   have hx0 := hx (by rw [hh]; rfl)
   have hxd : x.d = ((x.d.toNat : Nat) : Int) := by omega
   have hun : ∀ d : Nat, sc.us d = false → ∀ (a : List It) (y : It) (b : List It), pre ++ [x] = a ++ y :: b → usesB y.c = true → y.d = (d : Int) → hasH a d = false := by
    intro d hd a y b e hy hyd
    rcases split_snoc e with ⟨_, _, rfl⟩ | ⟨b', _, e2⟩
    · rw [hu] at hy; cases hy
    · exact h.un d hd a y b' e2 hy hyd
   have hus : ∀ d : Nat, sc.us d = true → hasU (pre ++ [x]) d = true := fun d hd => by rw [hasU_snoc, h.us d hd]; rfl
   split
   · rename_i hc
     refine ⟨fun d => ?_, fun d p hd => ?_, hus, hun⟩
     · simp only
       rw [hasH_snoc, hh]
       by_cases e : d = x.d.toNat
       · rw [if_pos e]; subst e; rw [← hxd]; simp
       · rw [if_neg e, h.no]
         have : (x.d == (d : Int)) = false := by rw [beq_eq_false_iff_ne]; omega
         rw [this]; simp
     · simp only at hd
       by_cases e : d = x.d.toNat
       · rw [if_pos e] at hd
         have hp : x.pl = p := by simpa using hd
         refine ⟨pre, x, [], rfl, hh, by omega, hp, (h.no d).1 ?_⟩
         rw [e]; cases hn : sc.hid x.d.toNat with | none => rfl | some p => rw [hn] at hc; simp at hc
       · rw [if_neg e] at hd
         exact h.so_snoc x d p hd
   · rename_i hc
     refine ⟨fun d => ?_, h.so_snoc x, hus, hun⟩
     rw [hasH_snoc, hh]
     by_cases e : d = x.d.toNat
     · subst e
       have hn : ¬ sc.hid x.d.toNat = none := by intro hn; rw [hn] at hc; simp at hc
       have h2 : hasH pre ((x.d.toNat : Nat) : Int) = true := by
        cases h3 : hasH pre ((x.d.toNat : Nat) : Int)
        · exact (hn ((h.no _).2 h3)).elim
        · rfl
       rw [h2]; simp [hn]
     · rw [h.no]
       have : (x.d == (d : Int)) = false := by rw [beq_eq_false_iff_ne]; omega
       rw [this]; simp
def EvOk (es : List It) : Prop := es.Pairwise (fun x y => x.pl < y.pl) ∧ ∀ x, x ∈ es → (hidesB x.c || usesB x.c) = true ∧ 0 ≤ x.d ∧ x.d < 8
theorem inv_fold (post : List It) : ∀ (pre : List It) (sc : Sc), Inv pre sc → (∀ x, x ∈ post → (hidesB x.c || usesB x.c) = true → 0 ≤ x.d) → Inv (pre ++ post) (post.foldl scE sc) := by
 induction post with
 | nil => intro pre sc h _; simpa using h
 | cons x t ih =>
  intro pre sc h hx
  have := ih (pre ++ [x]) (scE sc x) (h.step x (hx x List.mem_cons_self)) (fun y hy => hx y (List.mem_cons_of_mem _ hy))
  simpa using this
theorem inv_run (es : List It) (h : EvOk es) (pre post : List It) (e : es = pre ++ post) : Inv pre (pre.foldl scE Sc0) := by
 have := inv_fold pre [] Sc0 Inv.nil (fun x hx _ => (h.2 x (by rw [e]; exact List.mem_append_left _ hx)).2.1)
 simpa using this
theorem PE_iff (es : List It) (p : Int) : ∀ sc, PE sc es p ↔ ∃ pre x post, es = pre ++ x :: post ∧ p = x.pl ∧ bdE (pre.foldl scE sc) x = true := by
 induction es with
 | nil => intro sc; simp [PE]
 | cons y t ih =>
  intro sc
  rw [PE, ih]
  constructor
  · rintro (⟨h1, h2⟩ | ⟨pre, x, post, rfl, h2, h3⟩)
    · exact ⟨[], y, t, rfl, h2, h1⟩
    · exact ⟨y :: pre, x, post, rfl, h2, h3⟩
  · rintro ⟨pre, x, post, h1, h2, h3⟩
    cases pre with
    | nil => simp at h1; obtain ⟨rfl, rfl⟩ := h1; exact Or.inl ⟨h3, h2⟩
    | cons z pre => simp at h1; obtain ⟨rfl, rfl⟩ := h1; exact Or.inr ⟨pre, x, post, rfl, h2, h3⟩
theorem ev_lt {es pre post : List It} {x y : It} (h : EvOk es) (e : es = pre ++ x :: post) (hy : y ∈ pre) : y.pl < x.pl := by
 have := h.1
 rw [e] at this
 exact (List.pairwise_append.1 this).2.2 y hy x List.mem_cons_self
theorem ev_d {es pre post : List It} {x : It} (h : EvOk es) (e : es = pre ++ x :: post) : (hidesB x.c || usesB x.c) = true ∧ 0 ≤ x.d ∧ x.d < 8 := h.2 x (by rw [e]; simp)
theorem isNone_hasH {pre : List It} {sc : Sc} (h : Inv pre sc) (x : It) (hx : 0 ≤ x.d) : (sc.hid x.d.toNat).isNone = !(hasH pre x.d) := by
 have e : x.d = ((x.d.toNat : Nat) : Int) := by omega
 have h1 := h.no x.d.toNat
 rw [← e] at h1
 cases hn : sc.hid x.d.toNat with
 | none => rw [h1.1 hn]; rfl
 | some p =>
  cases h2 : hasH pre x.d
  · rw [h1.2 h2] at hn; cases hn
  · rfl
theorem early (es : List It) (h : EvOk es) (a : List It) (y : It) (b : List It) (e : es = a ++ y :: b) (hu : usesB y.c = true) (hn : hasH a y.d = false) : PE Sc0 es y.pl ∧ RB es y.pl := by
 have hh : hidesB y.c = false := by cases hh : hidesB y.c; rfl; rw [hides_uses _ hh] at hu; cases hu
 constructor
 · rw [PE_iff]
   refine ⟨a, y, b, e, rfl, ?_⟩
   unfold bdE
   rw [hh, hu, isNone_hasH (inv_run es h a _ e) y (ev_d h e).2.1, hn]; rfl
 · refine ⟨a, y, b, e, rfl, ?_⟩
   unfold vdL
   rw [hh, hn]; rfl
theorem scope_eq (es : List It) (h : EvOk es) : MinEq (PB es) (RB es) := by
 constructor
 · rintro p (hp | hp)
   · obtain ⟨pre, x, post, e, rfl, hb⟩ := (PE_iff es p Sc0).1 hp
     refine ⟨x.pl, ⟨pre, x, post, e, rfl, ?_⟩, Int.le_refl _⟩
     have hi := inv_run es h pre _ e
     obtain ⟨d1, d2, d3⟩ := ev_d h e
     have hnn := isNone_hasH hi x d2
     unfold bdE at hb
     unfold vdL
     rw [hnn] at hb
     cases hh : hidesB x.c
     · rw [hh] at hb d1
       simp at d1
       rw [d1] at hb
       simp only [Bool.false_eq_true, if_false, if_true, Bool.not_not] at hb ⊢
       cases h1 : hasH pre x.d
       · rfl
       · rw [h1] at hb
         have hus : (pre.foldl scE Sc0).us x.d.toNat = true := by simpa using hb
         have := hi.us _ hus
         rw [show ((x.d.toNat : Nat) : Int) = x.d by omega] at this
         rw [this]; rfl
     · rw [hh] at hb
       simp only [if_true, Bool.not_not] at hb ⊢
       rw [hb]; rfl
   · obtain ⟨d, d8, hd, hu⟩ := hp
     have hi := inv_run es h es [] (by simp)
     obtain ⟨a, x, b, e, x1, x2, x3, x4⟩ := hi.so d p hd
     cases hue : hasU es x.d
     · refine ⟨p, ⟨a, x, b, e, x3.symm, ?_⟩, Int.le_refl _⟩
       unfold vdL; rw [x1, hue]; simp
     · obtain ⟨y, y1, y2, y3⟩ := (hasU_iff _ _).1 hue
       obtain ⟨a', b', e'⟩ := List.append_of_mem y1
       have hn := hi.un d hu a' y b' e' y3 (by omega)
       have hr := (early es h a' y b' e' y3 (by rw [y2, x2]; exact hn)).2
       refine ⟨y.pl, hr, ?_⟩
       -- y is ahead of x, for behind x there is a hider ahead
       have hya : y ∈ a ∨ y = x ∨ y ∈ b := by rw [e] at y1; simpa using y1
       rcases hya with h1 | h1 | h1
       · have := ev_lt h e h1; omega
       · rw [h1] at y3; rw [hides_uses _ x1] at y3; cases y3
       · exfalso
         have hxa : x ∈ a' := by
          have hx : x ∈ es := by rw [e]; simp
          rw [e'] at hx
          have hlt : x.pl < y.pl := by
           obtain ⟨b1, b2, rfl⟩ := List.append_of_mem h1
           exact ev_lt (pre := a ++ x :: b1) (post := b2) h (by rw [e]; simp) (by simp)
          simp only [List.mem_append, List.mem_cons] at hx
          rcases hx with hx | hx | hx
          · exact hx
          · rw [hx] at hlt; omega
          · obtain ⟨b1, b2, rfl⟩ := List.append_of_mem hx
            have := ev_lt (pre := a' ++ y :: b1) (post := b2) (x := x) (y := y) h (by rw [e']; simp) (by simp)
            omega
         have : hasH a' d = true := (hasH_iff _ _).2 ⟨x, hxa, x2, x1⟩
         rw [hn] at this; cases this
 · rintro p ⟨pre, x, post, e, rfl, hv⟩
   have hi := inv_run es h pre _ e
   obtain ⟨d1, d2, d3⟩ := ev_d h e
   have hnn := isNone_hasH hi x d2
   unfold vdL at hv
   cases hh : hidesB x.c
   · rw [hh] at hv d1
     simp at d1
     simp only [Bool.false_eq_true, if_false] at hv
     cases h1 : hasH pre x.d
     · exact ⟨x.pl, Or.inl (early es h pre x post e d1 h1).1, Int.le_refl _⟩
     · rw [h1] at hv
       have hU : hasU pre x.d = true := by simpa using hv
       cases hus : (pre.foldl scE Sc0).us x.d.toNat
       · obtain ⟨y, y1, y2, y3⟩ := (hasU_iff _ _).1 hU
         obtain ⟨a', b', e'⟩ := List.append_of_mem y1
         have hn := hi.un _ hus a' y b' e' y3 (by omega)
         refine ⟨y.pl, Or.inl (early es h a' y (b' ++ x :: post) (by rw [e, e']; simp) y3 (by rw [y2]; rw [show ((x.d.toNat : Nat) : Int) = x.d by omega] at hn; exact hn)).1, ?_⟩
         have := ev_lt h e y1; omega
       · refine ⟨x.pl, Or.inl ((PE_iff _ _ _).2 ⟨pre, x, post, e, rfl, ?_⟩), Int.le_refl _⟩
         unfold bdE; rw [hh, d1, hus]; simp
   · rw [hh] at hv
     simp only [if_true] at hv
     cases h1 : hasH pre x.d
     · rw [h1] at hv
       have hU : hasU es x.d = false := by simpa using hv
       refine ⟨x.pl, Or.inr ⟨x.d.toNat, by omega, ?_, ?_⟩, Int.le_refl _⟩
       · have hie := inv_run es h es [] (by simp)
         cases hq : (es.foldl scE Sc0).hid x.d.toNat with
         | none =>
          have := (hie.no _).1 hq
          rw [show ((x.d.toNat : Nat) : Int) = x.d by omega] at this
          have h2 : hasH es x.d = true := (hasH_iff _ _).2 ⟨x, by rw [e]; simp, rfl, hh⟩
          rw [this] at h2; cases h2
         | some p =>
          obtain ⟨a, z, b, e2, z1, z2, z3, z4⟩ := hie.so _ _ hq
          rw [show ((x.d.toNat : Nat) : Int) = x.d by omega] at z2 z4
          have hz : z ∈ es := by rw [e2]; simp
          rw [e] at hz
          simp only [List.mem_append, List.mem_cons] at hz
          rcases hz with hz | hz | hz
          · have : hasH pre x.d = true := (hasH_iff _ _).2 ⟨z, hz, z2, z1⟩
            rw [h1] at this; cases this
          · rw [← z3, hz]
          · exfalso
            have hx : x ∈ es := by rw [e]; simp
            obtain ⟨b1, b2, rfl⟩ := List.append_of_mem hz
            have hlt := ev_lt (pre := pre ++ x :: b1) (post := b2) (x := z) (y := x) h (by rw [e]; simp) (by simp)
            rw [e2] at hx
            simp only [List.mem_append, List.mem_cons] at hx
            rcases hx with hx | hx | hx
            · have : hasH a x.d = true := (hasH_iff _ _).2 ⟨x, hx, rfl, hh⟩
              rw [z4] at this; cases this
            · rw [hx] at hlt; omega
            · obtain ⟨b3, b4, rfl⟩ := List.append_of_mem hx
              have := ev_lt (pre := a ++ z :: b3) (post := b4) (x := x) (y := z) h (by rw [e2]; simp) (by simp)
              omega
       · have hie := inv_run es h es [] (by simp)
         cases hq : (es.foldl scE Sc0).us x.d.toNat
         · rfl
         · have := hie.us _ hq
           rw [show ((x.d.toNat : Nat) : Int) = x.d by omega, hU] at this
           cases this
     · refine ⟨x.pl, Or.inl ((PE_iff _ _ _).2 ⟨pre, x, post, e, rfl, ?_⟩), Int.le_refl _⟩
       unfold bdE; rw [hh, hnn, h1]; rfl
def TrS : Nat → List It → Prop
 | 0, _ => False
 | f + 1, l => ∃ x kids, l = x :: List.flatten kids ∧ x.nx = 1 + ((List.flatten kids).length : Int) ∧ (∀ z, z ∈ kids → TrS f z) ∧ (inB [119, 64, 115] x.c = true → ∃ z, kids = [z])
theorem TrS.seg {f : Nat} {l : List It} (h : TrS f l) : SegOk l := by
 cases f with
 | zero => exact h.elim
 | succ f => obtain ⟨x, kids, h1, h2, _⟩ := h; exact ⟨x, kids.flatten, h1, h2⟩
def At (its : List It) (b : Nat) (l : List It) : Prop := ∃ A C, its = A ++ (l ++ C) ∧ A.length = b
theorem At.get {its : List It} {b : Nat} {l : List It} (h : At its b l) (j : Nat) (hj : j < l.length) : itd its (b + j) = itd l j := by
 obtain ⟨A, C, rfl, rfl⟩ := h
 unfold itd
 rw [getD_lt _ _ _ (by simp; omega), getD_lt _ _ _ hj, List.getElem_append_right (by omega)]
 simp only [Nat.add_sub_cancel_left]
 rw [List.getElem_append_left hj]
theorem At.le {its : List It} {b : Nat} {l : List It} (h : At its b l) : b + l.length ≤ its.length := by
 obtain ⟨A, C, rfl, rfl⟩ := h; simp
theorem At.head {its : List It} {b : Nat} {x : It} {r : List It} (h : At its b (x :: r)) : itd its b = x := by
 have := h.get 0 (by simp)
 simpa [itd] using this
theorem At.tail {its : List It} {b : Nat} {x : It} {r : List It} (h : At its b (x :: r)) : At its (b + 1) r := by
 obtain ⟨A, C, rfl, rfl⟩ := h
 exact ⟨A ++ [x], C, by simp, by simp⟩
theorem At.left {its : List It} {b : Nat} {l m : List It} (h : At its b (l ++ m)) : At its b l := by
 obtain ⟨A, C, rfl, rfl⟩ := h
 exact ⟨A, m ++ C, by simp, rfl⟩
theorem At.right {its : List It} {b : Nat} {l m : List It} (h : At its b (l ++ m)) : At its (b + l.length) m := by
 obtain ⟨A, C, rfl, rfl⟩ := h
 exact ⟨A ++ l, C, by simp, by simp⟩
def withSt : Nat → List (List It) → List (Nat × List It)
 | _, [] => []
 | b, z :: t => (b, z) :: withSt (b + z.length) t
theorem withSt_mem {its : List It} (zs : List (List It)) : ∀ b, At its b zs.flatten → ∀ q, q ∈ withSt b zs → q.2 ∈ zs ∧ At its q.1 q.2 ∧ b ≤ q.1 ∧ q.1 + q.2.length ≤ b + zs.flatten.length := by
 induction zs with
 | nil => intro b _ q hq; simp [withSt] at hq
 | cons z t ih =>
  intro b h q hq
  simp only [withSt, List.mem_cons] at hq
  simp only [List.flatten_cons] at h
  simp only [List.flatten_cons, List.length_append]
  rcases hq with rfl | hq
  · exact ⟨List.mem_cons_self, h.left, Nat.le_refl _, by simp only; omega⟩
  · obtain ⟨h1, h2, h3, h4⟩ := ih _ h.right q hq
    exact ⟨List.mem_cons_of_mem _ h1, h2, by omega, by omega⟩
theorem withSt_of (zs : List (List It)) : ∀ b z, z ∈ zs → ∃ c, (c, z) ∈ withSt b zs := by
 induction zs with
 | nil => intro b z hz; simp at hz
 | cons y t ih =>
  intro b z hz
  rcases List.mem_cons.1 hz with rfl | hz
  · exact ⟨b, by simp [withSt]⟩
  · obtain ⟨c, hc⟩ := ih (b + y.length) z hz; exact ⟨c, by simp [withSt, hc]⟩
theorem withSt_cover (zs : List (List It)) : ∀ b k, b ≤ k → k < b + zs.flatten.length → ∃ q, q ∈ withSt b zs ∧ q.1 ≤ k ∧ k < q.1 + q.2.length := by
 induction zs with
 | nil => intro b k h1 h2; simp at h2; omega
 | cons z t ih =>
  intro b k h1 h2
  simp only [List.flatten_cons, List.length_append] at h2
  by_cases h : k < b + z.length
  · exact ⟨(b, z), by simp [withSt], h1, h⟩
  · obtain ⟨q, q1, q2, q3⟩ := ih (b + z.length) k (by omega) (by omega)
    exact ⟨q, by simp [withSt, q1], q2, q3⟩
theorem withSt_one (zs : List (List It)) : ∀ b q r k, q ∈ withSt b zs → r ∈ withSt b zs → q.1 ≤ k → k < q.1 + q.2.length → r.1 ≤ k → k < r.1 + r.2.length → q = r := by
 have lo : ∀ (zs : List (List It)) b q, q ∈ withSt b zs → b ≤ q.1 := by
  intro zs
  induction zs with
  | nil => intro b q hq; simp [withSt] at hq
  | cons z t ih =>
   intro b q hq
   simp only [withSt, List.mem_cons] at hq
   rcases hq with rfl | hq
   · exact Nat.le_refl _
   · have := ih _ q hq; omega
 induction zs with
 | nil => intro b q r k hq; simp [withSt] at hq
 | cons z t ih =>
  intro b q r k hq hr q1 q2 r1 r2
  simp only [withSt, List.mem_cons] at hq hr
  rcases hq with rfl | hq <;> rcases hr with rfl | hr
  · rfl
  · have := lo _ _ _ hr; simp only at q1 q2; omega
  · have := lo _ _ _ hq; simp only at r1 r2; omega
  · exact ih _ q r k hq hr q1 q2 r1 r2
theorem nxt_head {its : List It} {b : Nat} {x : It} {r : List It} (h : At its b (x :: r)) (hx : x.nx = 1 + (r.length : Int)) : nxt its b = b + (x :: r).length := by
 unfold nxt; rw [h.head, hx]; simp; omega
theorem TrS.nxt {its : List It} {f : Nat} {l : List It} {b : Nat} (h : TrS f l) (ha : At its b l) : nxt its b = b + l.length := by
 obtain ⟨x, r, rfl, hx⟩ := h.seg
 exact nxt_head ha hx
theorem TrS.inside {its : List It} (f : Nat) : ∀ {l : List It} {b : Nat}, TrS f l → At its b l → ∀ s, b ≤ s → s < b + l.length → Proofs.YtmlkhhhjdpbhfaaGreatDoor.nxt its s ≤ b + l.length := by
 induction f with
 | zero => intro l b h; exact h.elim
 | succ f ih =>
  intro l b h ha s h1 h2
  by_cases e : s = b
  · subst e; rw [h.nxt ha]; exact Nat.le_refl _
  · obtain ⟨x, kids, rfl, hx, hk, _⟩ := h
    simp only [List.length_cons] at h2 ⊢
    obtain ⟨q, q1, q2, q3⟩ := withSt_cover kids (b + 1) s (by omega) (by omega)
    obtain ⟨m1, m2, m3, m4⟩ := withSt_mem kids (b + 1) ha.tail q q1
    have := ih (hk _ m1) m2 s q2 q3
    omega
theorem beside {its : List It} {f : Nat} (zs : List (List It)) (hz : ∀ z, z ∈ zs → TrS f z) : ∀ a, At its a zs.flatten → ∀ q, q ∈ withSt a zs → ∀ s, a ≤ s → s < q.1 → nxt its s ≤ q.1 := by
 induction zs with
 | nil => intro a _ q hq; simp [withSt] at hq
 | cons z t ih =>
  intro a h q hq s s1 s2
  simp only [withSt, List.mem_cons] at hq
  simp only [List.flatten_cons] at h
  rcases hq with rfl | hq
  · simp only at s2; omega
  · by_cases e : s < a + z.length
    · have h1 := TrS.inside f (hz z List.mem_cons_self) h.left s s1 e
      have h2 := (withSt_mem t _ h.right q hq).2.2.1
      omega
    · exact ih (fun y hy => hz y (List.mem_cons_of_mem _ hy)) _ h.right q hq s (by omega) s2
theorem steps_eq {its : List It} {f : Nat} (zs : List (List It)) (hz : ∀ z, z ∈ zs → TrS f z) : ∀ a F, zs.length ≤ F → At its a zs.flatten → stepsV its (a + zs.flatten.length) F a = (withSt a zs).map Prod.fst := by
 induction zs with
 | nil => intro a F _ _; cases F <;> simp [stepsV, withSt]
 | cons z t ih =>
  intro a F hF h
  simp only [List.flatten_cons] at h
  have hl : 0 < z.length := by obtain ⟨x, r, rfl, _⟩ := (hz z List.mem_cons_self).seg; simp
  cases F with
  | zero => simp at hF
  | succ F =>
   rw [stepsV, if_pos (by simp only [List.flatten_cons, List.length_append]; omega)]
   rw [TrS.nxt (hz z List.mem_cons_self) h.left]
   have := ih (fun y hy => hz y (List.mem_cons_of_mem _ hy)) (a + z.length) F (by simpa using hF) h.right
   simp only [List.flatten_cons, List.length_append, withSt, List.map_cons]
   rw [← this, Nat.add_assoc]
theorem len_flat {f : Nat} (zs : List (List It)) (hz : ∀ z, z ∈ zs → TrS f z) : zs.length ≤ zs.flatten.length := by
 induction zs with
 | nil => simp
 | cons z t ih =>
  have hl : 0 < z.length := by obtain ⟨x, r, rfl, _⟩ := (hz z List.mem_cons_self).seg; simp
  have := ih (fun y hy => hz y (List.mem_cons_of_mem _ hy))
  simp only [List.flatten_cons, List.length_append, List.length_cons]; omega
theorem kids_eq {its : List It} {f : Nat} {b : Nat} {x : It} {zs : List (List It)} (ha : At its b (x :: zs.flatten)) (hx : x.nx = 1 + (zs.flatten.length : Int)) (hz : ∀ z, z ∈ zs → TrS f z) : kidsV its b = (withSt (b + 1) zs).map Prod.fst := by
 unfold kidsV
 rw [nxt_head ha hx]
 have h1 := len_flat zs hz
 have h2 := ha.le
 simp only [List.length_cons] at h2 ⊢
 rw [show b + (zs.flatten.length + 1) = (b + 1) + zs.flatten.length by omega]
 exact steps_eq zs hz (b + 1) its.length (by omega) ha.tail
def evI : Nat → Bool → Bool → Nat → List It → List Nat
 | 0, _, _, _, _ => []
 | _ + 1, _, _, _, [] => []
 | f + 1, own, ar, b, x :: r => if x.c = 40 then [] else (if (hidesB x.c && own) || (usesB x.c && ar) then [b] else []) ++ (withSt (b + 1) (segs r.length r)).flatMap fun q => evI f false (ar && inB [119, 64, 115] x.c) q.1 q.2
theorem segs_tr {f : Nat} (zs : List (List It)) (hz : ∀ z, z ∈ zs → TrS f z) : segs zs.flatten.length zs.flatten = zs := segs_flat zs (fun z h => (hz z h).seg) _ (Nat.le_refl _)
theorem evI_map {its : List It} (f : Nat) : ∀ own ar b l, TrS f l → At its b l → (evI f own ar b l).map (itd its) = ev f own ar l := by
 have fm : ∀ f, (∀ own ar b l, TrS f l → At its b l → (evI f own ar b l).map (itd its) = ev f own ar l) → ∀ own ar zs b, (∀ z, z ∈ zs → TrS f z) → At its b zs.flatten → ((withSt b zs).flatMap fun q => evI f own ar q.1 q.2).map (itd its) = zs.flatMap (ev f own ar) := by
  intro f ih own ar zs
  induction zs with
  | nil => intro b _ _; rfl
  | cons z t iht =>
   intro b hz h
   simp only [List.flatten_cons] at h
   simp only [withSt, List.flatMap_cons, List.map_append]
   rw [ih own ar b z (hz z List.mem_cons_self) h.left, iht _ (fun y hy => hz y (List.mem_cons_of_mem _ hy)) h.right]
 induction f with
 | zero => intro own ar b l h; exact h.elim
 | succ f ih =>
  intro own ar b l h ha
  obtain ⟨x, kids, rfl, hx, hk, _⟩ := h
  rw [evI, ev]
  rw [segs_tr kids hk]
  split
  · rfl
  · rw [List.map_append, fm f ih _ _ kids (b + 1) hk ha.tail]
    congr 1
    split
    · simp [ha.head]
    · rfl
theorem evI_range {its : List It} (f : Nat) : ∀ own ar b l, TrS f l → At its b l → ∀ k, k ∈ evI f own ar b l → b ≤ k ∧ k < b + l.length := by
 induction f with
 | zero => intro own ar b l h; exact h.elim
 | succ f ih =>
  intro own ar b l h ha k hk
  obtain ⟨x, kids, rfl, hx, hks, _⟩ := h
  rw [evI, segs_tr kids hks] at hk
  split at hk
  · simp at hk
  · rcases List.mem_append.1 hk with hk | hk
    · split at hk
      · simp at hk; subst hk; simp
      · simp at hk
    · obtain ⟨q, q1, q2⟩ := List.mem_flatMap.1 hk
      obtain ⟨m1, m2, m3, m4⟩ := withSt_mem kids (b + 1) ha.tail q q1
      have := ih _ _ _ _ (hks _ m1) m2 k q2
      simp only [List.length_cons]; omega
theorem evI_none (f : Nat) : ∀ b l, evI f false false b l = [] := by
 induction f with
 | zero => intro b l; rfl
 | succ f ih =>
  intro b l
  cases l with
  | nil => rfl
  | cons x r => simp [evI, ih]
theorem evI_uses {its : List It} (f : Nat) : ∀ ar b l, TrS f l → At its b l → ∀ k, k ∈ evI f false ar b l → usesB (itd its k).c = true := by
 induction f with
 | zero => intro ar b l h; exact h.elim
 | succ f ih =>
  intro ar b l h ha k hk
  obtain ⟨x, kids, rfl, hx, hks, _⟩ := h
  rw [evI, segs_tr kids hks] at hk
  split at hk
  · simp at hk
  · rcases List.mem_append.1 hk with hk | hk
    · split at hk
      · rename_i hc
        simp at hk; subst hk; rw [ha.head]
        simp at hc; exact hc.1
      · simp at hk
    · obtain ⟨q, q1, q2⟩ := List.mem_flatMap.1 hk
      obtain ⟨m1, m2, _, _⟩ := withSt_mem kids (b + 1) ha.tail q q1
      exact ih _ _ _ (hks _ m1) m2 k q2
theorem chain_eq {its : List It} (f : Nat) : ∀ N b x kids, (List.flatten kids).length ≤ N → At its b (x :: List.flatten kids) → (∀ z, z ∈ kids → TrS f z) → (inB [119, 64, 115] x.c = true → ∃ z, kids = [z]) →
 chainV its (N + 1) b = (withSt (b + 1) kids).flatMap fun q => evI f false (inB [119, 64, 115] x.c) q.1 q.2 := by
 induction f with
 | zero =>
  intro N b x kids _ ha hk h1
  rw [chainV, ha.head]
  split
  · rename_i hc
    obtain ⟨z, rfl⟩ := h1 hc
    exact (hk z List.mem_cons_self).elim
  · rename_i hc
    simp [evI]
 | succ f ih =>
  intro N b x kids hN ha hk h1
  rw [chainV, ha.head]
  split
  · rename_i hc
    obtain ⟨z, rfl⟩ := h1 hc
    have hz := hk z List.mem_cons_self
    obtain ⟨y, ks, rfl, hy, hks, hone⟩ := hz
    have ha2 : At its (b + 1) (y :: ks.flatten) := by have := ha.tail; simpa using this
    obtain ⟨N', rfl⟩ : ∃ N', N = N' + 1 := ⟨N - 1, by simp at hN; omega⟩
    rw [ha2.head, ih N' (b + 1) y ks (by simp at hN; simp; omega) ha2 hks hone, hc]
    simp only [withSt, List.flatMap_cons, List.flatMap_nil, List.append_nil]
    rw [evI, segs_tr ks hks]
    by_cases h40 : y.c = 40
    · rw [if_pos h40, h40]
      have e1 : usesB 40 = false := by decide
      have e2 : inB [119, 64, 115] 40 = false := by decide
      rw [e1, e2]
      simp [evI_none]
    · rw [if_neg h40]
      cases hu : usesB y.c <;> simp
  · rename_i hc
    have : inB [119, 64, 115] x.c = false := by simpa using hc
    rw [this]
    simp [evI_none]
end Go.Proofs.YtmlkhhhjdpbhfaaGreatDoor

import Derived.Test.YtmlkhhhjdpbhfaaGreatDoorBk36
namespace Go.Proofs.YtmlkhhhjdpbhfaaGreatDoor
open Go.RowKit
def SuOk (s : Sp) (n : Nat) : Prop := s.a ≤ s.b ∧ s.b ≤ n ∧ HoOk s.ho n
structure WtOk (st : Wr) : Prop where
 wt : ∀ e ∈ st.wait, HoOk e.ho st.out.length ∧ KOk e.its ∧ ∃ sc, ScG false true e.its sc ∧ HolAt st (some e.hid) sc
 su : ∀ l ∈ st.sums, ∀ s ∈ l, SuOk s st.out.length
theorem SuOk.more {s : Sp} {n m : Nat} (h : SuOk s n) (hm : n ≤ m) : SuOk s m := ⟨h.1, Nat.le_trans h.2.1 hm, h.2.2.more hm⟩
theorem WtOk.up {N g : Nat} {st st' : Wr} (h : WtOk st) (hu : WUp N g st st') (he : st'.wait = st.wait) (hs : st'.sums = st.sums) : WtOk st' := by
 refine ⟨fun e hm => ?_, fun l hl s hm => ?_⟩
 · rw [he] at hm
   obtain ⟨a, b, sc, c, d⟩ := h.wt e hm
   exact ⟨a.more hu.ge, b, sc, c, d.up hu rfl⟩
 · rw [hs] at hl
   exact (h.su l hl s hm).more hu.ge
def GOk (R : Nat → Bool) (G : Nat → List It) : Prop := (∀ i, KOk (G i)) ∧ ∀ i, R i = true → TrW R false false (G i) ∧ ∃ sc, ScG false false (G i) sc
def WtC {T : Type} (R : Nat → Bool) (W : List It → Option Nat → T → Wr → Wr) : Prop := ∀ k hid y st own ctx ar sc, TrW R own ctx k → KOk k → ScG own ar k sc → (ar = true → HolAt st hid sc) → WInv st → WtOk st → WtOk (W k hid y st)
theorem TrW.segs1 {R : Nat → Bool} {own ctx : Bool} {x : It} {r : List It} (h : TrW R own ctx (x :: r)) (hc : inB [42, 116, 119, 64, 115] x.c = true) : segs r.length r = [r] := by
 obtain ⟨f, h⟩ := h
 cases f with
 | zero => exact h.elim
 | succ f => exact h.2.2.2.2.2.1 hc
theorem TrW.kid {R : Nat → Bool} {own ctx : Bool} {x : It} {r k : List It} (h : TrW R own ctx (x :: r)) (hk : k ∈ segs r.length r) : TrW R (decide (x.c = 40)) (decide (x.c = 40) || (ctx && inB [119, 64, 115] x.c)) k := by
 obtain ⟨f, h⟩ := h
 cases f with
 | zero => exact h.elim
 | succ f => exact ⟨f, h.2.2.2.2.2.2 k hk⟩
theorem TrW.rule {R : Nat → Bool} {own ctx : Bool} {x : It} {r : List It} (h : TrW R own ctx (x :: r)) (hc : x.c = 82) : R x.r.toNat = true := by
 obtain ⟨f, h⟩ := h
 cases f with
 | zero => exact h.elim
 | succ f => exact h.2.2.2.1 hc
theorem wSil_wait (k : List It) (i : Nat) (st : Wr) : (wSil k i st).wait = st.wait := by
 unfold wSil
 split
 · rfl
 · split <;> rfl
theorem wSil_sums (k : List It) (i : Nat) (st : Wr) : (wSil k i st).sums = st.sums := by
 unfold wSil
 split
 · rfl
 · split <;> rfl
theorem wKids_wt {T : Type} {R : Nat → Bool} {s : T → Nat} {W : List It → Option Nat → T → Wr → Wr} (hU : WOk s W) (hW : WtC R W) (i : Nat) (ctx : Bool) : ∀ (ks : List (List It)) (vs : List T) (st : Wr) (sc : Sc), (∀ k ∈ ks, KOk k ∧ TrW R true ctx k) → ScKs ks sc → HolAt st (some i) sc → i < st.hol.length → WInv st → WtOk st → WtOk (wKids W i ks vs st)
 | [], _, _, _, _, _, _, _, _, h => h
 | k :: ks, vs, st, sc, hk, hs, ha, hi, hv, h => by
  obtain ⟨hk1, hk2⟩ := hk k List.mem_cons_self
  obtain ⟨hs1, sc', hs2, hs3, hs4⟩ := hs
  unfold wKids
  by_cases hsil : silV k = true
  · rw [if_pos hsil]
    have a := wSil_up (i := i) hv hk1 hsil
    refine wKids_wt hU hW i ctx ks vs _ sc' (fun k h => hk k (List.mem_cons_of_mem _ h)) hs4 ?_ (Nat.lt_of_lt_of_le hi a.holL) a.inv (h.up a (wSil_wait k i st) (wSil_sums k i st))
    cases k with
    | nil => cases hsil
    | cons x r =>
     cases hh : hidesB x.c with
     | false => exact ha.up a (hs2 fun y t e => by cases e; exact hh)
     | true =>
      intro d hd
      rw [hs3 x r rfl hh] at hd
      by_cases hdx : d = x.d.toNat
      · have h39 : x.c ≠ 39 := fun e => by rw [e] at hh; revert hh; decide
        refine ⟨i, fun k => if k = x.d.toNat then some ⟨st.out.length, x.w.toNat, decide (x.c = 107)⟩ else (st.hol[i]) k, ⟨st.out.length, x.w.toNat, decide (x.c = 107)⟩, rfl, ?_, by simp [hdx]⟩
        unfold wSil
        simp only [if_neg h39, wOut, wHide]
        rw [List.getElem?_modify, List.getElem?_eq_getElem hi]
        simp
      · simp only [hdx, if_false] at hd
        exact ha.up a (sc' := sc) rfl d hd
  · rw [if_neg hsil]
    cases vs with
    | nil => exact h
    | cons y ys =>
     have a := hU k (some i) y st hk1 hv
     have hnh : ∀ y t, k = y :: t → hidesB y.c = false := fun y t e => by
      subst e
      cases hh : hidesB y.c with
      | false => rfl
      | true => exact absurd (by simp [silV, hh]) hsil
     exact wKids_wt hU hW i ctx ks ys _ sc' (fun k h => hk k (List.mem_cons_of_mem _ h)) hs4 (ha.up a (hs2 hnh)) (Nat.lt_of_lt_of_le hi a.holL) a.inv (hW k (some i) y st true ctx true sc hk2 hk1 hs1 (fun _ => ha) hv h)
theorem wMany_wt {T : Type} {R : Nat → Bool} {s : T → Nat} {W : List It → Option Nat → T → Wr → Wr} (hU : WOk s W) (hW : WtC R W) (k : List It) (own ctx : Bool) (sc : Sc) (hk : KOk k) (ht : TrW R own ctx k) (hs : ScG own false k sc) : ∀ (vs : List T) (st : Wr), WInv st → WtOk st → WtOk (wMany W k vs st)
 | [], _, _, h => h
 | y :: ys, st, hv, h => wMany_wt hU hW k own ctx sc hk ht hs ys _ (hU k none y st hk hv).inv (hW k none y st own ctx false sc ht hk hs (fun e => by cases e) hv h)
theorem TrW.kidNo {R : Nat → Bool} {own ctx : Bool} {x : It} {r k : List It} (h : TrW R own ctx (x :: r)) (hc : x.c ≠ 40) (hk : k ∈ segs r.length r) : ∃ ctx', TrW R false ctx' k := by
 have := h.kid hk
 rw [decide_eq_false hc] at this
 exact ⟨_, this⟩
theorem TrW.kidOf {R : Nat → Bool} {own ctx : Bool} {x : It} {r k : List It} (h : TrW R own ctx (x :: r)) (hc : x.c = 40) (hk : k ∈ segs r.length r) : TrW R true true k := by
 have := h.kid hk
 rw [decide_eq_true hc] at this
 exact this
theorem wTop_wt {T : Type} {R : Nat → Bool} {s : T → Nat} {W : List It → Option Nat → T → Wr → Wr} (hU : WOk s W) (hW : WtC R W) (h0 : ∀ hid y st, W [] hid y st = st) (k : List It) (hid : Option Nat) (v : Nd T) (st : Wr) (own ctx ar : Bool) (sc : Sc) (ht : TrW R own ctx k) (hk : KOk k) (hs : ScG own ar k sc) (hv : WInv st) (h : WtOk st) :
 WtOk (wTop W k hid v st) := by
 unfold wTop
 cases k with
 | nil => exact h
 | cons x r =>
  have hr := hk.tail
  have hseg : ∀ k ∈ segs r.length r, KOk k := fun k hm => hr.sub (segs_subl _ _ _ hm)
  simp only
  split
  · exact h.up (wOut_up (N := 0) hv _) rfl rfl
  split
  · exact h.up (wOut_up (N := 0) hv _) rfl rfl
  split
  · exact h.up (wOut_up (N := 0) hv _) rfl rfl
  split
  · exact h.up (wOut_up (N := 0) hv _) rfl rfl
  split
  · have a := wTell_up (N := 0) hv _ v.run.length (holeOf_le hv hid x.d.toNat)
    exact (h.up a rfl rfl).up (wOut_up (N := 0) a.inv _) rfl rfl
  split
  · rename_i hc
    have h2 : WInv { st with hol := st.hol ++ [fun _ => none] } := ⟨fun i f d ho a b => by
     by_cases hi : i < st.hol.length
     · simp only [List.getElem?_append_left hi] at a
       exact hv.hole i f d ho a b
     · simp only [List.getElem?_append_right (Nat.le_of_not_lt hi)] at a
       have h0 : i - st.hol.length = 0 := by
        have := (List.getElem?_eq_some_iff.1 a).1
        simp at this; omega
       rw [h0] at a
       cases a
       exact absurd b (by simp), hv.sums⟩
    have a : WUp st.hol.length 0 st { st with hol := st.hol ++ [fun _ => none] } := ⟨h2, Nat.le_refl _, Nat.le_refl _, fun i hi => List.getElem?_append_left hi, by simp, rfl, Nat.le_refl _, Nat.le_refl _, fun i f d ho a b => ⟨f, ho, by rw [List.getElem?_append_left (List.getElem?_eq_some_iff.1 a).1]; exact a, b⟩⟩
    exact wKids_wt hU hW st.hol.length true (segs r.length r) v.kids _ Sc0 (fun k hm => ⟨hseg k hm, ht.kidOf hc hm⟩) (hs.kids hc) (fun d hd => absurd rfl hd) (by simp) h2 (h.up a rfl rfl)
  split
  · rename_i hc
    cases hvk : v.kids with
    | nil => exact h
    | cons y ys =>
     show WtOk (W ((segs r.length r).getD v.n []) none y st)
     rw [List.getD_eq_getElem?_getD]
     cases hg : (segs r.length r)[v.n]? with
     | none => rw [Option.getD_none, h0]; exact h
     | some k =>
      have hm := List.mem_of_getElem? hg
      obtain ⟨ctx', ht'⟩ := ht.kidNo (by omega) hm
      obtain ⟨sc', hs'⟩ := hs.other (by omega) (by rw [hc]; decide) k hm
      exact hW k none y st false ctx' false sc' ht' (hseg k hm) hs' (fun e => by cases e) hv h
  split
  · rename_i hc
    have h1 := ht.segs1 (by rw [hc]; decide)
    have hm : r ∈ segs r.length r := by rw [h1]; simp
    obtain ⟨ctx', ht'⟩ := ht.kidNo (by omega) hm
    obtain ⟨sc', hs'⟩ := hs.other (by omega) (by rw [hc]; decide) r hm
    exact wMany_wt hU hW r false ctx' sc' hr ht' hs' v.kids st hv h
  split
  · rename_i hc
    have h1 := ht.segs1 (by rw [hc]; decide)
    have hm : r ∈ segs r.length r := by rw [h1]; simp
    obtain ⟨ctx', ht'⟩ := ht.kidNo (by omega) hm
    obtain ⟨sc', hs'⟩ := hs.other (by omega) (by rw [hc]; decide) r hm
    have a := wTell_up (N := 0) hv _ v.kids.length (holeOf_le hv hid x.d.toNat)
    exact wMany_wt hU hW r false ctx' sc' hr ht' hs' v.kids _ a.inv (h.up a rfl rfl)
  · exact h
theorem ruleEnd_wt {R : Nat → Bool} {G : Nat → List It} (hG : GOk R G) : ∀ (n : Nat) (own ctx : Bool) (x : It) (r q : List It), TrW R own ctx (x :: r) → x.c = 82 → ruleEnd G n (x :: r) = some q → TrW R false false q ∧ ∃ sc, ScG false false q sc
 | 0, _, _, _, _, _, _, _, e => by cases e
 | n + 1, own, ctx, x, r, q, ht, hc, e => by
  unfold ruleEnd at e
  have hg := hG.2 x.r.toNat (ht.rule hc)
  cases hk : G x.r.toNat with
  | nil => rw [hk] at e; cases e
  | cons y z =>
   rw [hk] at e hg
   simp only at e
   split at e
   · rename_i hy
     exact ruleEnd_wt hG n _ _ y z q hg.1 hy e
   · cases e; exact hg
theorem wIn_wt {n : Nat} {R : Nat → Bool} {s : Tr n → Nat} {G : Nat → List It} (hG : GOk R G) {W : List It → Option Nat → Tr n → Wr → Wr} (hU : WOk s W) (hW : WtC R W) (h0 : ∀ hid y st, W [] hid y st = st) (hid : Option Nat) (v : Nd (Tr n)) (st : Wr) (hv : WInv st) (h : WtOk st) : ∀ k own ctx ar sc, TrW R own ctx k → KOk k → ScG own ar k sc → (ar = true → HolAt st hid sc) →
 WtOk (wIn G W k hid v st)
 | [], _, _, _, _, _, _, _, _ => h
 | x :: r, own, ctx, ar, sc, ht, hk, hs, ha => by
  have hup := wIn_up hG.1 hU hid v st hv r hk.tail
  have hih : inB [119, 64, 115] x.c = true → x.c ≠ 64 → WtOk (wIn G W r hid v st) := fun hi _ => by
   have h5 : inB [42, 116, 119, 64, 115] x.c = true := by
    simp only [inB, List.any_cons, List.any_nil, Bool.or_false, Bool.or_eq_true, beq_iff_eq] at hi ⊢
    omega
   have hu : usesB x.c = true := by
    simp only [inB, List.any_cons, List.any_nil, Bool.or_false, Bool.or_eq_true, beq_iff_eq] at hi
    rcases hi with e | e | e <;> (rw [← e]; decide)
   have h1 := ht.segs1 h5
   have hc : x.c ≠ 40 := fun e => by rw [e] at hi; exact absurd hi (by decide)
   obtain ⟨ctx', ht'⟩ := ht.kidNo hc (k := r) (by rw [h1]; simp)
   obtain ⟨sc', e1, hs'⟩ := hs.inner hi h1
   exact wIn_wt hG hU hW h0 hid v st hv h r false ctx' true sc' ht' hk.tail hs' (fun _ => (ha (hs.use hu).1).up (WUp.refl (N := 0) hv) e1)
  unfold wIn
  split
  · rename_i hc
    exact (hih (by rw [hc]; decide) (by omega)).up (wTell_up (N := 0) hup.inv _ _ (holeOf_le hup.inv hid x.d.toNat)) rfl rfl
  split
  · rename_i hc
    have hu : usesB x.c = true := by rw [hc]; decide
    have hq := hih (by rw [hc]; decide) (by omega)
    obtain ⟨har, hd⟩ := hs.use hu
    obtain ⟨i, f, rfl, hf, ho⟩ := ((ha har).up hup (sc' := sc) rfl).hole hd
    have hge := hup.ge
    have hup2 := hup.inv
    generalize wIn G W r (some i) v st = st1 at *
    have hsu := wSum_up (N := 0) hup2 ⟨st.out.length, st1.out.length, holeOf st1 (some i) x.d.toNat⟩
    refine ⟨fun e he => ?_, fun l hl s hm => ?_⟩
    · obtain ⟨a, b, sc2, c, d⟩ := hq.wt e he
      exact ⟨a, b, sc2, c, d.up hsu rfl⟩
    · rcases List.mem_append.1 hl with hl | hl
      · exact hq.su l (List.dropLast_subset _ hl) s hm
      · rw [List.mem_singleton] at hl
        subst hl
        rcases List.mem_append.1 hm with hm | hm
        · refine hq.su _ ?_ s hm
          rw [List.getLastD_eq_getLast?, List.getLast?_eq_some_getLast hup2.sums]
          exact List.getLast_mem hup2.sums
        · rw [List.mem_singleton] at hm
          subst hm
          exact ⟨hge, Nat.le_refl _, hup2.hole i f _ _ hf ho⟩
  split
  · rename_i hc
    have hu : usesB x.c = true := by rw [hc]; decide
    have hi : inB [119, 64, 115] x.c = true := by rw [hc]; decide
    have h1 := ht.segs1 (by rw [hc]; decide)
    obtain ⟨har, hd⟩ := hs.use hu
    obtain ⟨i, f, rfl, hf, ho⟩ := (ha har).hole hd
    obtain ⟨sc', e1, hs'⟩ := hs.inner hi h1
    have hw := wWait_up (N := 0) hv ⟨r, n, v, i, holeOf st (some i) x.d.toNat⟩
    refine ⟨fun e he => ?_, h.su⟩
    rcases List.mem_append.1 he with he | he
    · obtain ⟨a, b, sc2, c, d⟩ := h.wt e he
      exact ⟨a, b, sc2, c, d.up hw rfl⟩
    · rw [List.mem_singleton] at he
      subst he
      exact ⟨hv.hole i f _ _ hf ho, hk.tail, sc', hs', (ha har).up hw e1⟩
  split
  · rename_i hc
    split
    · exact h
    · rename_i q hq
      obtain ⟨htq, scq, hsq⟩ := ruleEnd_wt hG 8 own ctx x r q ht hc hq
      exact wTop_wt hU hW h0 q none v st false false false scq htq (ruleEnd_ok hG.1 8 _ q hq) hsq hv h
  · exact wTop_wt hU hW h0 (x :: r) hid v st own ctx ar sc ht hk hs hv h
theorem writeT_nil (G : Nat → List It) : ∀ n hid y st, writeT G n [] hid y st = st
 | 0, _, _, _ => rfl
 | _ + 1, _, _, _ => rfl
theorem writeT_wt {R : Nat → Bool} {G : Nat → List It} (hG : GOk R G) : ∀ n, WtC R (writeT G n)
 | 0 => fun _ _ _ _ _ _ _ _ _ _ _ _ _ h => h
 | n + 1 => fun k hid y st own ctx ar sc ht hk hs ha hv h => wIn_wt hG (writeT_up hG.1 n) (writeT_wt hG n) (writeT_nil G n) hid y st hv h k own ctx ar sc ht hk hs ha
def pot (st : Wr) : Nat := st.out.length + (st.wait.map fun e => 10000 * szT (e.n + 1) e.v).sum
theorem pot_up {N g : Nat} {st st' : Wr} (hu : WUp N g st st') (he : st'.wait = st.wait) : pot st' ≤ pot st + g := by
 have := hu.le
 unfold pot
 rw [he]
 omega
def PotOk {T : Type} (s : T → Nat) (W : List It → Option Nat → T → Wr → Wr) : Prop := ∀ k hid y st, KOk k → WInv st → pot (W k hid y st) ≤ pot st + 10000 * s y
theorem wKids_pot {T : Type} {s : T → Nat} {W : List It → Option Nat → T → Wr → Wr} (hU : WOk s W) (hW : PotOk s W) (i : Nat) : ∀ (ks : List (List It)) (vs : List T) (st : Wr), (∀ k ∈ ks, KOk k) → WInv st → pot (wKids W i ks vs st) ≤ pot st + (8 * ks.length + 10000 * (vs.map s).sum)
 | [], _, _, _, _ => Nat.le_add_right _ _
 | k :: ks, vs, st, hk, hv => by
  have hk1 := hk k List.mem_cons_self
  unfold wKids
  by_cases hs : silV k = true
  · rw [if_pos hs]
    have a := wSil_up (i := i) hv hk1 hs
    have b := wKids_pot hU hW i ks vs _ (fun k h => hk k (List.mem_cons_of_mem _ h)) a.inv
    have c := pot_up a (wSil_wait k i st)
    simp only [List.length_cons]
    omega
  · rw [if_neg hs]
    cases vs with
    | nil => exact Nat.le_add_right _ _
    | cons y ys =>
     have a := hW k (some i) y st hk1 hv
     have b := wKids_pot hU hW i ks ys _ (fun k h => hk k (List.mem_cons_of_mem _ h)) (hU k (some i) y st hk1 hv).inv
     simp only [List.length_cons, List.map_cons, List.sum_cons]
     omega
theorem wMany_pot {T : Type} {s : T → Nat} {W : List It → Option Nat → T → Wr → Wr} (hU : WOk s W) (hW : PotOk s W) (k : List It) (hk : KOk k) : ∀ (vs : List T) (st : Wr), WInv st → pot (wMany W k vs st) ≤ pot st + 10000 * (vs.map s).sum
 | [], _, _ => Nat.le_add_right _ _
 | y :: ys, st, hv => by
  have a := hW k none y st hk hv
  have b := wMany_pot hU hW k hk ys _ (hU k none y st hk hv).inv
  simp only [List.map_cons, List.sum_cons]
  show pot (wMany W k ys (W k none y st)) ≤ _
  omega
theorem wTop_pot {T : Type} {s : T → Nat} {W : List It → Option Nat → T → Wr → Wr} (hU : WOk s W) (hW : PotOk s W) (k : List It) (hid : Option Nat) (v : Nd T) (st : Wr) (hk : KOk k) (hv : WInv st) :
 pot (wTop W k hid v st) ≤ pot st + (8008 + v.run.length + 10000 * (v.kids.map s).sum) := by
 unfold wTop
 cases k with
 | nil => exact Nat.le_add_right _ _
 | cons x r =>
  have hw := hk.2 x List.mem_cons_self
  have hr := hk.tail
  have hseg : ∀ k ∈ segs r.length r, KOk k := fun k hm => hr.sub (segs_subl _ _ _ hm)
  simp only
  split
  · rename_i hc
    have := hw (by rw [hc]; rfl)
    have a := pot_up (wOut_up (N := 0) hv (numB false x.w.toNat v.n)) rfl
    rw [numB_length] at a
    omega
  split
  · rename_i hc
    have := hw (by rw [hc]; rfl)
    have a := pot_up (wOut_up (N := 0) hv (numB true x.w.toNat v.n)) rfl
    rw [numB_length] at a
    omega
  split
  · have a := pot_up (wOut_up (N := 0) hv [UInt8.ofNat x.b.toNat]) rfl
    simp only [List.length_singleton] at a
    omega
  split
  · have a := pot_up (wOut_up (N := 0) hv v.run) rfl
    omega
  split
  · have a := wTell_up (N := 0) hv _ v.run.length (holeOf_le hv hid x.d.toNat)
    have b := pot_up a rfl
    have c := pot_up (wOut_up (N := 0) a.inv v.run) rfl
    omega
  split
  · have h2 : WInv { st with hol := st.hol ++ [fun _ => none] } := ⟨fun i f d ho a b => by
     by_cases hi : i < st.hol.length
     · simp only [List.getElem?_append_left hi] at a
       exact hv.hole i f d ho a b
     · simp only [List.getElem?_append_right (Nat.le_of_not_lt hi)] at a
       have h0 : i - st.hol.length = 0 := by
        have := (List.getElem?_eq_some_iff.1 a).1
        simp at this; omega
       rw [h0] at a
       cases a
       exact absurd b (by simp), hv.sums⟩
    have b := wKids_pot hU hW st.hol.length (segs r.length r) v.kids _ hseg h2
    have c := segs_le r.length r
    have d := hr.1
    have e : pot { st with hol := st.hol ++ [fun _ => none] } = pot st := rfl
    omega
  split
  · cases hvk : v.kids with
    | nil => exact Nat.le_add_right _ _
    | cons y ys =>
     have hK : KOk ((segs r.length r).getD v.n []) := by
      rw [List.getD_eq_getElem?_getD]
      cases hg : (segs r.length r)[v.n]? with
      | none => exact ⟨by simp, by simp⟩
      | some k => exact hseg k (List.mem_of_getElem? hg)
     have a := hW _ none y st hK hv
     simp only [wHead, List.map_cons, List.sum_cons]
     omega
  split
  · have a := wMany_pot hU hW r hr v.kids st hv
    omega
  split
  · have a := wTell_up (N := 0) hv _ v.kids.length (holeOf_le hv hid x.d.toNat)
    have b := pot_up a rfl
    have c := wMany_pot hU hW r hr v.kids _ a.inv
    omega
  · exact Nat.le_add_right _ _
theorem szT_succ (n : Nat) (v : Nd (Tr n)) : szT (n + 1) v = 1 + v.run.length + (v.kids.map (szT n)).sum := rfl
theorem wIn_pot {n : Nat} {G : Nat → List It} (hG : ∀ i, KOk (G i)) {W : List It → Option Nat → Tr n → Wr → Wr} (hU : WOk (szT n) W) (hW : PotOk (szT n) W) (hid : Option Nat) (v : Nd (Tr n)) (st : Wr) (hv : WInv st) : ∀ k, KOk k →
 pot (wIn G W k hid v st) ≤ pot st + 10000 * szT (n + 1) v
 | [], _ => Nat.le_add_right _ _
 | x :: r, hk => by
  have ih := wIn_pot hG hU hW hid v st hv r hk.tail
  have hup := wIn_up hG hU hid v st hv r hk.tail
  have hz := szT_succ n v
  unfold wIn
  split
  · have a := pot_up (wTell_up (N := 0) hup.inv _ ((wIn G W r hid v st).out.length - st.out.length) (holeOf_le hup.inv hid x.d.toNat)) rfl
    omega
  split
  · exact ih
  split
  · unfold pot wWait
    simp only [List.map_append, List.sum_append, List.map_cons, List.map_nil, List.sum_cons, List.sum_nil]
    omega
  split
  · split
    · exact Nat.le_add_right _ _
    · rename_i q hq
      have a := wTop_pot hU hW q none v st (ruleEnd_ok hG 8 _ q hq) hv
      omega
  · have a := wTop_pot hU hW (x :: r) hid v st hk hv
    omega
theorem writeT_pot {G : Nat → List It} (hG : ∀ i, KOk (G i)) : ∀ n, PotOk (szT n) (writeT G n)
 | 0 => fun _ _ _ _ _ _ => Nat.le_add_right _ _
 | n + 1 => fun k hid y st hk hv => wIn_pot hG (writeT_up hG n) (writeT_pot hG n) hid y st hv k hk
end Go.Proofs.YtmlkhhhjdpbhfaaGreatDoor
namespace Go.Proofs.YtmlkhhhjdpbhfaaGreatDoor
open Go.RowKit
def wMu (e : Wt) : Nat := e.its.length + 1001 * (e.v.run.length + (e.v.kids.map (szT e.n)).sum)
def NewW (G : Nat → List It) (m : Nat) (st st' : Wr) : Prop := ∃ l, st'.wait = st.wait ++ l ∧ (∀ e ∈ l, hasT G (e.n + 1) e.its e.v = true) ∧ (l.map wMu).sum ≤ m
variable {G : Nat → List It}
theorem NewW.same {st st' : Wr} {m : Nat} (h : st'.wait = st.wait) : NewW G m st st' := ⟨[], by simp [h], by simp, by simp⟩
theorem NewW.trans {a b : Nat} {s t u : Wr} (h : NewW G a s t) (h' : NewW G b t u) : NewW G (a + b) s u := by
 obtain ⟨l, h1, h2, h3⟩ := h
 obtain ⟨l', h1', h2', h3'⟩ := h'
 refine ⟨l ++ l', by rw [h1', h1, List.append_assoc], fun e he => ?_, by simp only [List.map_append, List.sum_append]; omega⟩
 rcases List.mem_append.1 he with he | he
 · exact h2 e he
 · exact h2' e he
theorem NewW.mono {a b : Nat} {s t : Wr} (h : NewW G a s t) (hab : a ≤ b) : NewW G b s t := by
 obtain ⟨l, h1, h2, h3⟩ := h
 exact ⟨l, h1, h2, by omega⟩
def NewOk {T : Type} (G : Nat → List It) (s : T → Nat) (H : List It → T → Bool) (W : List It → Option Nat → T → Wr → Wr) : Prop := ∀ k hid y st, k.length ≤ 1000 → H k y = true → NewW G (1001 * s y) st (W k hid y st)
theorem hasKids_s {T : Type} {H : List It → T → Bool} {k : List It} {ks : List (List It)} {vs : List T} (h : silV k = true) : hasKids H (k :: ks) vs = hasKids H ks vs := by
 conv => lhs; unfold hasKids
 rw [if_pos h]
theorem hasKids_v {T : Type} {H : List It → T → Bool} {k : List It} {ks : List (List It)} {y : T} {ys : List T} (h : ¬ silV k = true) : hasKids H (k :: ks) (y :: ys) = (H k y && hasKids H ks ys) := by
 conv => lhs; unfold hasKids
 rw [if_neg h]
theorem hasKids_n {T : Type} {H : List It → T → Bool} {k : List It} {ks : List (List It)} (h : ¬ silV k = true) : hasKids H (k :: ks) [] = false := by
 unfold hasKids
 rw [if_neg h]
theorem wKids_new {T : Type} {s : T → Nat} {H : List It → T → Bool} {W : List It → Option Nat → T → Wr → Wr} (hW : NewOk G s H W) (i : Nat) : ∀ (ks : List (List It)) (vs : List T) (st : Wr), (∀ k ∈ ks, k.length ≤ 1000) → hasKids H ks vs = true → NewW G (1001 * (vs.map s).sum) st (wKids W i ks vs st)
 | [], _, _, _, _ => NewW.same rfl
 | k :: ks, vs, st, hk, hh => by
  unfold wKids
  by_cases hs : silV k = true
  · rw [if_pos hs]
    rw [hasKids_s hs] at hh
    exact (NewW.trans (NewW.same (m := 0) (wSil_wait k i st)) (wKids_new hW i ks vs _ (fun k h => hk k (List.mem_cons_of_mem _ h)) hh)).mono (by omega)
  · rw [if_neg hs]
    cases vs with
    | nil => rw [hasKids_n hs] at hh; cases hh
    | cons y ys =>
     rw [hasKids_v hs] at hh
     simp only [Bool.and_eq_true] at hh
     exact (NewW.trans (hW k (some i) y st (hk k List.mem_cons_self) hh.1) (wKids_new hW i ks ys _ (fun k h => hk k (List.mem_cons_of_mem _ h)) hh.2)).mono (by simp only [List.map_cons, List.sum_cons]; omega)
theorem wMany_new {T : Type} {s : T → Nat} {H : List It → T → Bool} {W : List It → Option Nat → T → Wr → Wr} (hW : NewOk G s H W) (k : List It) (hk : k.length ≤ 1000) : ∀ (vs : List T) (st : Wr), vs.all (H k) = true → NewW G (1001 * (vs.map s).sum) st (wMany W k vs st)
 | [], _, _ => NewW.same rfl
 | y :: ys, st, hh => by
  simp only [List.all_cons, Bool.and_eq_true] at hh
  exact (NewW.trans (hW k none y st hk hh.1) (wMany_new hW k hk ys _ hh.2)).mono (by simp only [List.map_cons, List.sum_cons]; omega)
theorem hasTop_cons' {T : Type} (H : List It → T → Bool) (x : It) (r : List It) (v : Nd T) : hasTop H (x :: r) v =
 (if x.c = 110 ∨ x.c = 108 then decide (v.k = 0) && withinB v.n x.w.toNat
 else if x.c = 39 then decide (v.k = 1)
 else if x.c = 114 ∨ x.c = 46 then decide (v.k = 2)
 else if x.c = 40 then decide (v.k = 3) && hasKids H (segs r.length r) v.kids
 else if x.c = 47 then decide (v.k = 5) && headB (H ((segs r.length r).getD v.n [])) v.kids
 else if x.c = 42 ∨ x.c = 116 then decide (v.k = 4) && v.kids.all (H r)
 else false) := rfl
theorem wTop_new {T : Type} {s : T → Nat} {H : List It → T → Bool} {W : List It → Option Nat → T → Wr → Wr} (hW : NewOk G s H W) (k : List It) (hid : Option Nat) (v : Nd T) (st : Wr) (hk : k.length ≤ 1000) (hh : hasTop H k v = true) : NewW G (1001 * (v.kids.map s).sum) st (wTop W k hid v st) := by
 unfold wTop
 cases k with
 | nil => exact NewW.same rfl
 | cons x r =>
  have hr : r.length ≤ 1000 := by simp at hk; omega
  have hseg : ∀ k ∈ segs r.length r, k.length ≤ 1000 := fun k hm => by have := (segs_subl _ _ _ hm).length_le; omega
  rw [hasTop_cons'] at hh
  simp only
  split
  · exact NewW.same rfl
  split
  · exact NewW.same rfl
  split
  · exact NewW.same rfl
  split
  · exact NewW.same rfl
  split
  · exact NewW.same rfl
  split
  · rename_i hc
    rw [if_neg (by omega), if_neg (by omega), if_neg (by omega), if_pos hc] at hh
    simp only [Bool.and_eq_true] at hh
    exact (NewW.trans (NewW.same (m := 0) (st' := { st with hol := st.hol ++ [fun _ => none] }) rfl) (wKids_new hW st.hol.length (segs r.length r) v.kids _ hseg hh.2)).mono (by omega)
  split
  · rename_i hc
    rw [if_neg (by omega), if_neg (by omega), if_neg (by omega), if_neg (by omega), if_pos hc] at hh
    simp only [Bool.and_eq_true] at hh
    cases hv : v.kids with
    | nil => exact NewW.same rfl
    | cons y ys =>
     rw [hv] at hh
     have hK : ((segs r.length r).getD v.n []).length ≤ 1000 := by
      rw [List.getD_eq_getElem?_getD]
      cases hg : (segs r.length r)[v.n]? with
      | none => simp
      | some k => exact hseg k (List.mem_of_getElem? hg)
     exact (hW _ none y st hK hh.2).mono (by simp only [List.map_cons, List.sum_cons]; omega)
  split
  · rename_i hc
    rw [if_neg (by omega), if_neg (by omega), if_neg (by omega), if_neg (by omega), if_neg (by omega), if_pos (by omega)] at hh
    simp only [Bool.and_eq_true] at hh
    exact wMany_new hW r hr v.kids st hh.2
  split
  · rename_i hc
    rw [if_neg (by omega), if_neg (by omega), if_neg (by omega), if_neg (by omega), if_neg (by omega), if_pos (by omega)] at hh
    simp only [Bool.and_eq_true] at hh
    exact (NewW.trans (NewW.same (m := 0) (st' := wTell st (holeOf st hid x.d.toNat) v.kids.length) rfl) (wMany_new hW r hr v.kids _ hh.2)).mono (by omega)
  · exact NewW.same rfl
theorem wIn_new {n : Nat} (hG : ∀ i, KOk (G i)) {W : List It → Option Nat → Tr n → Wr → Wr} (hW : NewOk G (szT n) (hasT G n) W) (hid : Option Nat) (v : Nd (Tr n)) (st : Wr) : ∀ k : List It, k.length ≤ 1000 → hasQ G (hasT G n) (inn k) v = true →
 ∃ m, m + 1 ≤ k.length + 1001 * (v.run.length + (v.kids.map (szT n)).sum) ∧ NewW G m st (wIn G W k hid v st)
 | [], _, hh => by cases hh
 | x :: r, hk, hh => by
  have hr : r.length ≤ 1000 := by simp at hk; omega
  have hin : inB [119, 64, 115] x.c = true → hasQ G (hasT G n) (inn r) v = true := fun h => by rw [inn, if_pos h] at hh; exact hh
  have hout : inB [119, 64, 115] x.c = false → hasQ G (hasT G n) (x :: r) v = true := fun h => by rw [inn, if_neg (by rw [h]; simp)] at hh; exact hh
  unfold wIn
  simp only [List.length_cons]
  split
  · rename_i hc
    obtain ⟨m, h1, h2⟩ := wIn_new hG hW hid v st r hr (hin (by rw [hc]; decide))
    exact ⟨m, by omega, (NewW.trans h2 (NewW.same (m := 0) rfl)).mono (by omega)⟩
  split
  · rename_i hc
    obtain ⟨m, h1, h2⟩ := wIn_new hG hW hid v st r hr (hin (by rw [hc]; decide))
    exact ⟨m, by omega, (NewW.trans h2 (NewW.same (m := 0) rfl)).mono (by omega)⟩
  split
  · rename_i hc
    refine ⟨r.length + 1001 * (v.run.length + (v.kids.map (szT n)).sum), by omega, [⟨r, n, v, hid.getD 0, holeOf st hid x.d.toNat⟩], rfl, fun e he => ?_, by simp [wMu]⟩
    simp only [List.mem_singleton] at he
    subst he
    exact hin (by rw [hc]; decide)
  rename_i h119 h115 h64
  have hn : inB [119, 64, 115] x.c = false := by
   cases hi : inB [119, 64, 115] x.c with
   | false => rfl
   | true =>
    exfalso
    simp only [inB, List.any_cons, List.any_nil, Bool.or_false, Bool.or_eq_true, beq_iff_eq] at hi
    rcases hi with e | e | e
    · exact h119 (by rw [← e]; rfl)
    · exact h64 (by rw [← e]; rfl)
    · exact h115 (by rw [← e]; rfl)
  have hh' := hout hn
  refine ⟨1001 * (v.kids.map (szT n)).sum, by omega, ?_⟩
  split
  · rename_i h82
    unfold hasQ at hh'
    simp only [if_pos h82] at hh'
    split
    · exact NewW.same rfl
    · rename_i q hq
      rw [hq] at hh'
      exact wTop_new hW q none v st (ruleEnd_ok hG 8 _ q hq).1 hh'
  · rename_i h82
    unfold hasQ at hh'
    simp only [if_neg h82] at hh'
    exact wTop_new hW (x :: r) hid v st hk hh'
theorem writeT_new (hG : ∀ i, KOk (G i)) : ∀ n, NewOk G (szT n) (hasT G n) (writeT G n)
 | 0 => fun _ _ _ _ _ h => by cases h
 | n + 1 => fun k hid y st hk hh => by
  obtain ⟨m, h1, h2⟩ := wIn_new hG (writeT_new hG n) hid y st k hk hh
  exact h2.mono (by unfold szT; omega)
end Go.Proofs.YtmlkhhhjdpbhfaaGreatDoor
namespace Go.Proofs.YtmlkhhhjdpbhfaaGreatDoor
open Go.RowKit
set_option maxRecDepth 100000 in
set_option maxHeartbeats 1000000 in
theorem tell_callsK (c : Cx) (B : Nat) (w : World) (wb : Nat) (bv tv sv : Value) (svs : List Value) (hbs : List Nat) (st : Wr) (h : WrM c B w wb bv tv sv svs hbs st) (ho : Ho) (hh : HoOk ho st.out.length) (n : Nat) (hn : n < 4294967296) (hl : st.out.length ≤ 1000000000) :
 Calls Tryz.prog 78 #[.pointer (some ⟨wb, 0, none⟩), .agg #[.int .i64 (ho.pl : Nat), .int .i64 (ho.w : Nat), .func (.func (putF ho.low)) #[] #[]], .int .i64 (n : Nat)] w fun e w' => e = .returned (.tuple #[]) ∧ WrM c B w' wb bv tv sv svs hbs (wTell st ho n) ∧ Below B w w' ∧ ∀ k, k < w.heap.size → k ≠ wb → some k ≠ bv.ownBlock → w'.heap[k]? = w.heap[k]? := by
 have h2 := hh.pos
 have h3 := hh.le
 have hwb := h.ge wb List.mem_cons_self
 have hA := Blk.new w #[.int .i64 (ho.pl : Nat), .int .i64 (ho.w : Nat), .func (.func (putF ho.low)) #[] #[]] 190
 have hbel := (Below.refl w.heap.size w).alloc (Nat.le_refl _) (.cells #[.int .i64 (ho.pl : Nat), .int .i64 (ho.w : Nat), .func (.func (putF ho.low)) #[] #[]] 190)
 have hM2 : ∀ b : Bool, WrM c B ((w.setCell ⟨wb, 47, none⟩ (.bool b)).alloc (.cells #[.int .i64 (ho.pl : Nat), .int .i64 (ho.w : Nat), .func (.func (putF ho.low)) #[] #[]] 190)) wb bv tv sv svs hbs { st with wide := b } ∧ Below B w ((w.setCell ⟨wb, 47, none⟩ (.bool b)).alloc (.cells #[.int .i64 (ho.pl : Nat), .int .i64 (ho.w : Nat), .func (.func (putF ho.low)) #[] #[]] 190)) := fun b => by
  have h1 := h.wider b (Below.refl w.heap.size w)
  have hs : (w.setCell ⟨wb, 47, none⟩ (.bool b)).heap.size = w.heap.size := by simp [World.setCell]
  have hb := (Below.refl B (w.setCell ⟨wb, 47, none⟩ (.bool b))).alloc (by rw [hs]; omega) (.cells #[.int .i64 (ho.pl : Nat), .int .i64 (ho.w : Nat), .func (.func (putF ho.low)) #[] #[]] 190)
  exact ⟨h1.1.keep hb (fun q _ h2 => Below.heap_alloc _ _ _ h2), h1.2.trans hb⟩
 have hKp : ∀ b : Bool, w.heap.size ≤ ((w.setCell ⟨wb, 47, none⟩ (.bool b)).alloc (.cells #[.int .i64 (ho.pl : Nat), .int .i64 (ho.w : Nat), .func (.func (putF ho.low)) #[] #[]] 190)).heap.size ∧ ∀ k, k < w.heap.size → k ≠ wb → ((w.setCell ⟨wb, 47, none⟩ (.bool b)).alloc (.cells #[.int .i64 (ho.pl : Nat), .int .i64 (ho.w : Nat), .func (.func (putF ho.low)) #[] #[]] 190)).heap[k]? = w.heap[k]? := fun b => by
  have hs : (w.setCell ⟨wb, 47, none⟩ (.bool b)).heap.size = w.heap.size := by simp [World.setCell]
  refine ⟨by rw [World.size_alloc, hs]; omega, fun k hk hne => ?_⟩
  rw [Below.heap_alloc _ _ _ (by rw [hs]; exact hk), Below.heap_setCell _ _ _ _ hne]
 have hblk1 : Blk (w.alloc (.cells #[.int .i64 (ho.pl : Nat), .int .i64 (ho.w : Nat), .func (.func (putF ho.low)) #[] #[]] 190)) wb (wrC c.gb bv st.wide tv sv) 120 := Blk.alloc h.blk _
 have a1 : (w.alloc (.cells #[.int .i64 (ho.pl : Nat), .int .i64 (ho.w : Nat), .func (.func (putF ho.low)) #[] #[]] 190)).cell? ⟨w.heap.size, 1, none⟩ = some (.int .i64 (ho.w : Nat)) := hA.cell 1
 have c47 : (w.alloc (.cells #[.int .i64 (ho.pl : Nat), .int .i64 (ho.w : Nat), .func (.func (putF ho.low)) #[] #[]] 190)).cell? ⟨wb, 47, none⟩ = some (.bool st.wide) := hblk1.cell 47
 have f47 : (w.alloc (.cells #[.int .i64 (ho.pl : Nat), .int .i64 (ho.w : Nat), .func (.func (putF ho.low)) #[] #[]] 190)).frozen? ⟨wb, 47, none⟩ = false := hblk1.frozen 47
 have HW := hide' (fun W => isWithin_calls n ho.w (by omega) h3 W)
 have HM2 := hide' hM2
 have HKp := hide' hKp
 have hw64 : IntKind.u64.wrap (n : Int) = n := by rw [IntKind.wrap_u64]; omega
 have hw32 : IntKind.u32.wrap (n : Int) = n := by rw [IntKind.wrap_u32]; omega
 clear h hA hbel hM2 hblk1 hKp
 cases hwd : st.wide
 · rw [hwd] at c47
   go_enter Tryz.func78, Tryz.ntmps78
   go_wp2_with fail
   refine (HW.out _).mono ?_
   rintro e w1 ⟨rfl, hw1⟩
   rw [hw1]
   clear hw1 w1
   have HM := hide' (HM2.out (!withinB n ho.w))
   have HK := hide' (HKp.out (!withinB n ho.w))
   have hst : wTell st ho n = wPut { st with wide := !withinB n ho.w } ho n := by unfold wTell; rw [hwd]; rfl
   have HSt := hide' hst
   clear hst HM2 hwd HKp
   generalize withinB n ho.w = b0 at *
   go_wp2_with fail
   generalize (w.setCell ⟨wb, 47, none⟩ (.bool !b0)).alloc (.cells #[.int .i64 (ho.pl : Nat), .int .i64 (ho.w : Nat), .func (.func (putF ho.low)) #[] #[]] 190) = W at *
   refine (put_callsK c B W wb bv tv sv svs hbs { st with wide := !b0 } HM.out.1 ho hh n hn hl).mono ?_
   rintro e w2 ⟨rfl, hm, hb, hk2⟩
   have HM2 := hide' hm
   have HB2 := hide' (HM.out.2.trans hb)
   have HK2 := hide' hk2
   clear hm hb hk2
   go_wp2_with fail
   go_end0
   rw [HSt.out]
   exact ⟨rfl, HM2.out, HB2.out, fun k h1 h2 h3 => (HK2.out k (Nat.lt_of_lt_of_le h1 HK.out.1) h3).trans (HK.out.2 k h1 h2)⟩
 · rw [hwd] at c47
   have HM := hide' (HM2.out true)
   have HK := hide' (HKp.out true)
   have hst : wTell st ho n = wPut { st with wide := true } ho n := by unfold wTell; rw [hwd]; rfl
   have HSt := hide' hst
   clear hst HM2 hwd HKp
   go_enter Tryz.func78, Tryz.ntmps78
   go_wp2_with fail
   generalize (w.setCell ⟨wb, 47, none⟩ (.bool true)).alloc (.cells #[.int .i64 (ho.pl : Nat), .int .i64 (ho.w : Nat), .func (.func (putF ho.low)) #[] #[]] 190) = W at *
   refine (put_callsK c B W wb bv tv sv svs hbs { st with wide := true } HM.out.1 ho hh n hn hl).mono ?_
   rintro e w2 ⟨rfl, hm, hb, hk2⟩
   have HM2 := hide' hm
   have HB2 := hide' (HM.out.2.trans hb)
   have HK2 := hide' hk2
   clear hm hb hk2
   go_wp2_with fail
   go_end0
   rw [HSt.out]
   exact ⟨rfl, HM2.out, HB2.out, fun k h1 h2 h3 => (HK2.out k (Nat.lt_of_lt_of_le h1 HK.out.1) h3).trans (HK.out.2 k h1 h2)⟩
theorem tell_calls (c : Cx) (B : Nat) (w : World) (wb : Nat) (bv tv sv : Value) (svs : List Value) (hbs : List Nat) (st : Wr) (h : WrM c B w wb bv tv sv svs hbs st) (ho : Ho) (hh : HoOk ho st.out.length) (n : Nat) (hn : n < 4294967296) (hl : st.out.length ≤ 1000000000) :
 Calls Tryz.prog 78 #[.pointer (some ⟨wb, 0, none⟩), .agg #[.int .i64 (ho.pl : Nat), .int .i64 (ho.w : Nat), .func (.func (putF ho.low)) #[] #[]], .int .i64 (n : Nat)] w fun e w' => e = .returned (.tuple #[]) ∧ WrM c B w' wb bv tv sv svs hbs (wTell st ho n) ∧ Below B w w' :=
 (tell_callsK c B w wb bv tv sv svs hbs st h ho hh n hn hl).mono fun _ _ h => ⟨h.1, h.2.1, h.2.2.1⟩
end Go.Proofs.YtmlkhhhjdpbhfaaGreatDoor

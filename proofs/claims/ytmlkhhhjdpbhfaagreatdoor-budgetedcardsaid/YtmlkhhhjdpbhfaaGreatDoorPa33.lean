import Derived.Test.YtmlkhhhjdpbhfaaGreatDoorPa31
import Derived.Test.YtmlkhhhjdpbhfaaGreatDoorPa32
import Derived.Test.YtmlkhhhjdpbhfaaGreatDoorPa08
namespace Go.Proofs.YtmlkhhhjdpbhfaaGreatDoor
open Go.RowKit
def intsI (l : List Int) : Array Value := (l.map fun x => Value.int .i64 x).toArray
def startR : List Rl → Int → Nat
 | [], _ => 0
 | x :: t, r => if (x.r == r) = true then 0 else x.its.length + startR t r
theorem startR_had (l : List Rl) (x : Rl) (r : Int) (h : hasR l r = true) : startR (l ++ [x]) r = startR l r := by
 induction l with
 | nil => simp [hasR] at h
 | cons y t ih =>
  simp only [List.cons_append, startR]
  by_cases hy : (y.r == r) = true
  · rw [if_pos hy, if_pos hy]
  · rw [if_neg hy, if_neg hy, ih (by simp only [hasR, List.any_cons] at h ⊢; simpa [hy] using h)]
theorem startR_new (l : List Rl) (x : Rl) (r : Int) (h : hasR l r = false) (hx : x.r = r) : startR (l ++ [x]) r = (allIts l).length := by
 induction l with
 | nil => simp [startR, hx, allIts]
 | cons y t ih =>
  simp only [hasR, List.any_cons, Bool.or_eq_false_iff] at h
  simp only [List.cons_append, startR]
  rw [if_neg (by simp [h.1]), ih (by simp only [hasR]; exact h.2)]
  simp [allIts]
def Firsts (fl : List Int) (rls : List Rl) : Prop := fl.length = 8 ∧ (∀ r : Nat, r < 8 → (fl.getD r 0 < 0 ↔ hasR rls r = false)) ∧ ∀ r : Nat, r < 8 → hasR rls r = true → fl.getD r 0 = startR rls r
def FormPost (s : ByteArray) (w : World) (e : Ending) (w' : World) : Prop :=
 ∃ gb pl, e = .returned (.tuple #[.pointer (some ⟨gb, 0, none⟩), .int .i64 pl, .bool (formV s).ok]) ∧ ((formV s).ok = false → pl = (formV s).i) ∧ Below w.heap.size w w' ∧
  ((formV s).ok = true → ∃ g c fb fl, Grm w' gb g c (.slice (some ⟨fb, 0, none⟩) 8 8) (.int .i64 (twiceV [] (formV s).rls)) (allIts (formV s).rls) ∧ Blk w' fb (intsI fl) 3 ∧ Firsts fl (formV s).rls)
structure AtF (s : ByteArray) (w : World) (fb gb B : Nat) (n a : Nat) (rls : List Rl) (v : Value) (fl : List Int) (wr : World) : Prop where
 hn : n ≤ 8
 ha : a ≤ s.size
 hb : rls.length = n
 ni : (allIts rls).length ≤ a
 pos : n ≠ 0 → 0 < (allIts rls).length
 hB : B ≤ wr.heap.size
 blk : Blk wr gb #[v, .slice (some ⟨fb, 0, none⟩) 8 8, .int .i64 (twiceV [] rls)] 130
 row : wr.ownsRow B 132 9 v (allIts rls).length (cellsL 0 (allIts rls))
 fst : Blk wr fb (intsI fl) 3
 fok : Firsts fl rls
 bel : Below w.heap.size w wr
 eq : if n = 0 then a = 0 ∧ rls = [] else EqR (formV s) (restF s n a rls)
theorem grm_of {w : World} {B gb g c : Nat} {fi tw : Value} {its : List It} (hb : Blk w gb #[.slice (some ⟨g, 0, none⟩) its.length c, fi, tw] 130)
 (hr : w.ownsRow B 132 9 (.slice (some ⟨g, 0, none⟩) its.length c) its.length (cellsL 0 its)) : Grm w gb g c fi tw its := by
 refine ⟨hb, (hr.lt g rfl).2, fun k q hk hq => ?_⟩
 rw [hr.cellAt _ (by omega), cellsL_get 0 its k q hq]
 simp [itd, hk]
theorem form_end {s : ByteArray} {w : World} {fb gb B n a : Nat} {rls : List Rl} {v : Value} {fl : List Int} {wr : World} (h : AtF s w fb gb B n a rls v fl wr) (hn : n ≠ 0) (he : EqR (formV s) ⟨true, s.size, rls⟩) :
 FormPost s w (.returned (.tuple #[.pointer (some ⟨gb, 0, none⟩), .int .i64 0, .bool true])) wr := by
 obtain ⟨e1, e2, e3⟩ := he
 have e3 := e3 rfl
 obtain ⟨g, c, rfl, _, _⟩ := h.row.form (h.pos hn)
 refine ⟨gb, 0, by rw [e1], (fun hf => by rw [e1] at hf; cases hf), h.bel, fun _ => ⟨g, c, fb, fl, ?_, h.fst, ?_⟩⟩
 · rw [e3]; exact grm_of h.blk h.row
 · rw [e3]; exact h.fok
theorem form_fail {s : ByteArray} {w : World} {gb i : Nat} {a : Int} {rls : List Rl} {wr : World} (hb : Below w.heap.size w wr) (he : EqR (formV s) ⟨false, i, rls⟩) (ha : a = i) :
 FormPost s w (.returned (.tuple #[.pointer (some ⟨gb, 0, none⟩), .int .i64 a, .bool false])) wr := by
 obtain ⟨e1, e2, e3⟩ := he
 subst ha
 exact ⟨gb, i, by rw [e1], fun _ => by rw [e2], hb, fun h => by rw [e1] at h; cases h⟩
theorem Fr.lower {B g C : Nat} {a b : World} (h : Fr B g a b) (hB : C ≤ B) (hg : C ≤ g) : Below C a b := ⟨h.os, h.tape, h.output, h.size, fun k hk => h.block k (by omega) (by omega)⟩
theorem prs_ne (s : ByteArray) (rule : Int) (f a : Nat) (h : (prs s rule f a).ok = true) : 0 < (prs s rule f a).its.length := by
 cases f with
 | zero => simp [prs] at h
 | succ f =>
  rw [prs] at h ⊢
  split
  · simp
  · rename_i hn
    rw [if_neg hn] at h
    cases h
theorem firsts_next {fl : List Int} {rls : List Rl} {x : Rl} {r : Nat} (h : Firsts fl rls) (hx : x.r = r) (_hr : r < 8) (fl' : List Int) (hl : fl'.length = 8) (hs : 0 ≤ fl'.getD r 0) (ho : ∀ q, q ≠ r → fl'.getD q 0 = fl.getD q 0)
 (hv : (hasR rls r = true ∧ fl'.getD r 0 = fl.getD r 0) ∨ (hasR rls r = false ∧ fl'.getD r 0 = (allIts rls).length)) : Firsts fl' (rls ++ [x]) := by
 refine ⟨hl, fun q hq => ?_, fun q hq hh => ?_⟩
 · rw [hasR_snoc, hx]
   by_cases hqr : q = r
   · subst hqr
     constructor
     · intro h3; omega
     · intro h3; simp at h3
   · rw [ho q hqr, h.2.1 q hq]
     have : ((r : Int) == (q : Int)) = false := by simp; omega
     rw [this, Bool.or_false]
 · by_cases hqr : q = r
   · subst hqr
     rcases hv with ⟨h1, h2⟩ | ⟨h1, h2⟩
     · rw [h2, startR_had _ _ _ h1]; exact h.2.2 q hq h1
     · rw [h2, startR_new _ _ _ h1 hx]
   · rw [hasR_snoc, hx] at hh
     have e : ((r : Int) == (q : Int)) = false := by simp; omega
     rw [e, Bool.or_false] at hh
     rw [ho q hqr, startR_had _ _ _ hh]; exact h.2.2 q hq hh
theorem form_next1 {s : ByteArray} {w : World} {fb gb B n a : Nat} {rls : List Rl} {v : Value} {fl : List Int} {wr : World} (h : AtF s w fb gb B n a rls v fl wr) (_ : fb < gb) (_ : gb < B)
 {r N pi LL : Nat} {pits : List It} {v4 : Value} {tv : Int} {fv : Int} {w4 : World} (hLL : (allIts rls).length = LL) (hr : r < 8 ∧ n < 8) (hpi : pi ≤ s.size) (hni : LL + pits.length ≤ pi) (hne : 0 < pits.length) (hB : B ≤ w4.heap.size)
 (hblk : Blk w4 gb #[v4, .slice (some ⟨fb, 0, none⟩) 8 8, .int .i64 tv] 130) (hrow : w4.ownsRow B 132 9 v4 (allIts rls ++ pits).length (cellsL 0 (allIts rls ++ pits))) (hfst : Blk w4 fb (intsI fl) 3)
 (htw : twiceV [] (rls ++ [⟨r, N, pits⟩]) = tv) (hbel : Below w.heap.size w w4) (he : EqR (formV s) (restF s (n + 1) pi (rls ++ [⟨r, N, pits⟩]))) (hfv : fl.getD r 0 = fv) (h0 : 0 ≤ fv) :
 Hid (AtF s w fb gb B (n + 1) pi (rls ++ [⟨r, N, pits⟩]) v4 fl w4) := by
 refine ⟨by omega, hpi, by simp [h.hb], ?_, fun _ => ?_, hB, ?_, ?_, hfst, ?_, hbel, ?_⟩
 · rw [allIts_snoc, List.length_append, hLL]; exact hni
 · rw [allIts_snoc, List.length_append]; simp only; omega
 · rw [htw]; exact hblk
 · rw [allIts_snoc]; exact hrow
 · refine firsts_next h.fok rfl hr.1 fl h.fok.1 (by rw [hfv]; exact h0) (fun _ _ => rfl) (Or.inl ⟨?_, rfl⟩)
   cases hh : hasR rls r
   · have := (h.fok.2.1 r hr.1).2 hh; omega
   · rfl
 · rw [if_neg (by omega)]; exact he
theorem form_next0 {s : ByteArray} {w : World} {fb gb B n a : Nat} {rls : List Rl} {v : Value} {fl : List Int} {wr : World} (h : AtF s w fb gb B n a rls v fl wr) (h1 : fb < gb) (h2 : gb < B)
 {r N pi LL : Nat} {pits : List It} {v4 : Value} {tv : Int} {fv : Int} {w4 : World} (hLL : (allIts rls).length = LL) (hr : r < 8 ∧ n < 8) (hpi : pi ≤ s.size) (hni : LL + pits.length ≤ pi) (hne : 0 < pits.length) (hB : B ≤ w4.heap.size)
 (hblk : Blk w4 gb #[v4, .slice (some ⟨fb, 0, none⟩) 8 8, .int .i64 tv] 130) (hrow : w4.ownsRow B 132 9 v4 (allIts rls ++ pits).length (cellsL 0 (allIts rls ++ pits))) (hfst : Blk w4 fb (intsI fl) 3)
 (htw : twiceV [] (rls ++ [⟨r, N, pits⟩]) = tv) (hbel : Below w.heap.size w w4) (he : EqR (formV s) (restF s (n + 1) pi (rls ++ [⟨r, N, pits⟩]))) (hfv : fl.getD r 0 = fv) (hfl : fv < 0) (hfb : w.heap.size = fb) :
 Hid (AtF s w fb gb B (n + 1) pi (rls ++ [⟨r, N, pits⟩]) v4 (fl.set r LL) (w4.setCell ⟨fb, r, none⟩ (.int .i64 LL))) := by
 have hl := h.fok.1
 refine ⟨by omega, hpi, by simp [h.hb], ?_, fun _ => ?_, by simpa [World.setCell] using hB, ?_, ?_, ?_, ?_, hbel.setCell (by simp; omega) _, ?_⟩
 · rw [allIts_snoc, List.length_append, hLL]; exact hni
 · rw [allIts_snoc, List.length_append]; simp only; omega
 · rw [htw]; exact hblk.setOther _ (by simp; omega) _
 · rw [allIts_snoc]; exact ownsRow_setCell_below hrow (by simp; omega) _
 · have := hfst.set r (.int .i64 LL)
   have e : (intsI fl).setIfInBounds r (.int .i64 LL) = intsI (fl.set r LL) := by simp [intsI]
   rwa [e] at this
 · refine firsts_next (r := r) h.fok rfl hr.1 _ (by simpa using hl) ?_ (fun q hq => ?_) ?_
   · simp [List.getD, show r < fl.length by omega]
   · simp [List.getD, Ne.symm hq]
   · refine Or.inr ⟨(h.fok.2.1 r hr.1).1 (by rw [hfv]; exact hfl), ?_⟩
     rw [hLL]; simp [List.getD, show r < fl.length by omega]
 · rw [if_neg (by omega)]; exact he
set_option maxRecDepth 100000 in
set_option maxHeartbeats 4000000 in
theorem form_calls (s : ByteArray) (hs : s.size ≤ 400) (w : World) :
 Calls Tryz.prog 54 #[.string s] w fun e w' => FormPost s w e w' := by
 go_enter Tryz.func54, Tryz.ntmps54
 go_wp2_with fail
 have HS : Hid (AtF s w w.heap.size (w.heap.size + 1) (w.heap.size + 2) 0 0 [] (.slice none 0 0) [-1, -1, -1, -1, -1, -1, -1, -1]
  ((w.alloc (.cells #[.int .i64 (-1), .int .i64 (-1), .int .i64 (-1), .int .i64 (-1), .int .i64 (-1), .int .i64 (-1), .int .i64 (-1), .int .i64 (-1)] 3)).alloc
    (.cells #[.slice none 0 0, .slice (some ⟨w.heap.size, 0, none⟩) 8 8, .int .i64 (-1)] 130))) := by
  refine ⟨by omega, by omega, rfl, by simp [allIts], by simp, by simp, ?_, World.ownsRow_nil _ _ _ _, ?_, ?_, below2 _ _ _, ?_⟩
  · have := Blk.new (w.alloc (.cells #[.int .i64 (-1), .int .i64 (-1), .int .i64 (-1), .int .i64 (-1), .int .i64 (-1), .int .i64 (-1), .int .i64 (-1), .int .i64 (-1)] 3)) #[.slice none 0 0, .slice (some ⟨w.heap.size, 0, none⟩) 8 8, .int .i64 (-1)] 130
    simpa [twiceV] using this
  · exact (Blk.new w _ _).alloc _
  · refine ⟨rfl, fun r hr => ?_, fun r hr h => by simp [hasR] at h⟩
    have h8 : r = 0 ∨ r = 1 ∨ r = 2 ∨ r = 3 ∨ r = 4 ∨ r = 5 ∨ r = 6 ∨ r = 7 := by omega
    rcases h8 with rfl | rfl | rfl | rfl | rfl | rfl | rfl | rfl <;> simp [hasR]
  · simp
 generalize hW : ((w.alloc (.cells #[.int .i64 (-1), .int .i64 (-1), .int .i64 (-1), .int .i64 (-1), .int .i64 (-1), .int .i64 (-1), .int .i64 (-1), .int .i64 (-1)] 3)).alloc
  (.cells #[.slice none 0 0, .slice (some ⟨w.heap.size, 0, none⟩) 8 8, .int .i64 (-1)] 130)) = W at *
 clear hW
 generalize hB : w.heap.size + 2 = B at *
 generalize hgb : w.heap.size + 1 = gb at *
 generalize hfb : w.heap.size = fb at *
 have HFB := hide hfb
 have h1 : fb < gb := by omega
 have h2 : gb < B := by omega
 clear hB hgb hfb
 go_loopw [6, 7] (fun va vn wr => ∃ (n a : Nat) (rls : List Rl) (v : Value) (fl : List Int), va = .int .i64 a ∧ vn = .int .i64 n ∧ Hid (AtF s w fb gb B n a rls v fl wr)) (fun va _ _ => s.size + 1 - (intOf va).toNat)
 case atStart => exact ⟨0, 0, [], _, _, rfl, rfl, HS⟩
 case round =>
  clear HS
  obtain ⟨n, a, rls, v, fl, rfl, rfl, hS⟩ := hrel
  have hS2 := hS.out
  have hn := hS2.hn
  have ha := hS2.ha
  by_cases hend : n ≠ 0 ∧ a = s.size
  · have HE : Hid (EqR (formV s) ⟨true, s.size, rls⟩) := by
     have h := hS2.eq
     rw [if_neg hend.1] at h
     have h3 : restF s n a rls = ⟨true, s.size, rls⟩ := by unfold restF; rw [if_pos hend.2]
     rw [h3] at h
     exact h
    have hn0 : ((n : Int) == 0) = false := by simp; omega
    have hna : ¬ (a : Int) < (s.size : Int) := by omega
    have hne := hend.1
    clear hend
    go_wp2_with fail
    refine bodyPost_ret (v := .tuple #[.pointer (some ⟨gb, 0, none⟩), .int .i64 (0), .bool true]) (by simp [results, Tryz.results54, go_sem]) rfl ?_
    exact form_end hS.out hne HE.out
  · have hbb := hide hS2.bel
    by_cases hA : n ≠ 0 ∧ (n = 8 ∨ bt s a ≠ 59)
    · have halt : a < s.size := by omega
      have HE : Hid (EqR (formV s) ⟨false, a, rls⟩) := by
       have h := hS2.eq
       rw [if_neg hA.1] at h
       have h3 : restF s n a rls = ⟨false, a, rls⟩ := by unfold restF; rw [if_neg (by omega), if_pos hA.2]
       rw [h3] at h
       exact h
      have hn0 : ((n : Int) == 0) = false := by simp; omega
      have hnp : (0 : Int) < (n : Int) := by omega
      have hal : (a : Int) < (s.size : Int) := by omega
      by_cases h8 : n = 8
      · have h8' : ((n : Int) == 8) = true := by simp; omega
        clear h8 hA hend hS2
        go_wp2_with fail
        refine bodyPost_ret (v := .tuple #[.pointer (some ⟨gb, 0, none⟩), .int .i64 ((a : Int)), .bool false]) (by simp [results, Tryz.results54, go_sem]) rfl ?_
        exact form_fail hbb.out HE.out rfl
      · have h8' : ((n : Int) == 8) = false := by simp; omega
        have h59 : ((s[a].toNat : Int) != 59) = true := by
         have := hA.2
         rw [bt_in _ _ halt] at this
         rw [bne_iff_ne]
         rcases this with h | h
         · exact absurd h h8
         · exact h
        clear h8 hA hend hS2
        go_wp2_with fail
        refine bodyPost_ret (v := .tuple #[.pointer (some ⟨gb, 0, none⟩), .int .i64 ((a : Int)), .bool false]) (by simp [results, Tryz.results54, go_sem]) rfl ?_
        exact form_fail hbb.out HE.out rfl
    · by_cases hn0 : n = 0
      · have hS0 := hS2.eq
        rw [if_pos hn0] at hS0
        have HE : Hid (EqR (formV s) ((rulesV s (7 - n + 1) 65 a).pre rls)) := by
         have : EqR (formV s) ((rulesV s (7 - n + 1) 65 a).pre rls) := by
          rw [hn0, hS0.1, hS0.2]
          exact ⟨rfl, rfl, fun _ => by simp [RRes.pre, formV]⟩
         exact this
        have hnb : ((n : Int) == 0) = true := by simp; omega
        have hnp : ¬ (0 : Int) < (n : Int) := by omega
        have b0 := bt_lo s a
        have b1 := bt_hi s a
        clear hS0 hend hA hS2
        by_cases hB1 : 65 ≤ bt s a ∧ bt s a ≤ 72
        rotate_left
        · have hl := letterV_no (bt s a) 65 72 hB1
          have HE2 : Hid (EqR (formV s) ⟨false, a, rls⟩) := by
           have h := HE.out
           rw [rules_fail1 _ _ _ _ _ (by omega)] at h
           exact h
          clear HE hB1
          go_wp2_with (first
           | (go_at_call 83; refine (byteAt_calls _ _ _ (by unfold maxLen; omega) (by omega)).mono ?_; rintro e w9 ⟨rfl, h9⟩; have h9 := h9.symm; subst h9; simp only [Int.toNat_natCast])
           | (go_at_call 82; refine (letter_calls _ _ _ _ (by omega) (by omega) (by omega)).mono ?_; rintro e w9 ⟨rfl, h9⟩; have h9 := h9.symm; subst h9))
          refine bodyPost_ret (v := .tuple #[.pointer (some ⟨gb, 0, none⟩), .int .i64 ((a : Int)), .bool false]) (by simp [results, Tryz.results54, go_sem]) rfl ?_
          exact form_fail hbb.out HE2.out (by omega)
        by_cases hB2 : bt s a ≤ 65
        rotate_left
        · have hl := letterV_yes (bt s a) 65 72 hB1
          have HE2 : Hid (EqR (formV s) ⟨false, a, rls⟩) := by
           have h := HE.out
           rw [rules_fail1 _ _ _ _ _ (by omega)] at h
           exact h
          have hB3 : 65 < bt s a := by omega
          clear HE hB2
          go_wp2_with (first
           | (go_at_call 83; refine (byteAt_calls _ _ _ (by unfold maxLen; omega) (by omega)).mono ?_; rintro e w9 ⟨rfl, h9⟩; have h9 := h9.symm; subst h9; simp only [Int.toNat_natCast])
           | (go_at_call 82; refine (letter_calls _ _ _ _ (by omega) (by omega) (by omega)).mono ?_; rintro e w9 ⟨rfl, h9⟩; have h9 := h9.symm; subst h9))
          refine bodyPost_ret (v := .tuple #[.pointer (some ⟨gb, 0, none⟩), .int .i64 ((a : Int)), .bool false]) (by simp [results, Tryz.results54, go_sem]) rfl ?_
          exact form_fail hbb.out HE2.out (by omega)
        have hl := letterV_yes (bt s a) 65 72 hB1
        by_cases hC : bt s (a + 1) = 61
        rotate_left
        · have hC' : (bt s (a + 1) != 61) = true := by rw [bne_iff_ne]; exact hC
          have HE2 : Hid (EqR (formV s) ⟨false, (a + 1), rls⟩) := by
           have h := HE.out
           rw [rules_fail2 _ _ _ _ _ (by omega) hC] at h
           exact h
          clear HE hC
          go_wp2_with (first
           | (go_at_call 83; refine (byteAt_calls _ _ _ (by unfold maxLen; omega) (by omega)).mono ?_; rintro e w9 ⟨rfl, h9⟩; have h9 := h9.symm; subst h9; simp only [Int.toNat_natCast, tn1])
           | (go_at_call 82; refine (letter_calls _ _ _ _ (by omega) (by omega) (by omega)).mono ?_; rintro e w9 ⟨rfl, h9⟩; have h9 := h9.symm; subst h9))
          refine bodyPost_ret (v := .tuple #[.pointer (some ⟨gb, 0, none⟩), .int .i64 ((a : Int) + 1), .bool false]) (by simp [results, Tryz.results54, go_sem]) rfl ?_
          exact form_fail hbb.out HE2.out (by omega)
        have hC' : (bt s (a + 1) != 61) = false := by simpa [bne] using hC
        obtain ⟨r, hr, hr8⟩ : ∃ r : Nat, bt s a - 65 = (r : Int) ∧ r < 8 := ⟨(bt s a - 65).toNat, by omega, by omega⟩
        have hr0 : (r : Int) ≤ 0 := by omega
        have hNs : a + 1 < s.size := bt_pos_lt s (a + 1) (by omega)
        have HF3 : Hid ((prs s (r : Int) (s.size + 1) (a + 2)).ok = false → EqR (formV s) ⟨false, (prs s (r : Int) (s.size + 1) (a + 2)).i, rls⟩) := by
         intro h3
         have h := HE.out
         rw [rules_fail3 _ _ _ _ _ (by omega) hC (by rw [hr]; exact h3), hr] at h
         exact h
        have HF4 : Hid ((prs s (r : Int) (s.size + 1) (a + 2)).ok = true → EqR (formV s) (restF s (n + 1) (prs s (r : Int) (s.size + 1) (a + 2)).i (rls ++ [⟨r, a, (prs s (r : Int) (s.size + 1) (a + 2)).its⟩]))) := by
         intro h3
         have h := HE.out
         have h4 := rules_step s (7 - n) 65 a rls n (by omega) (by omega) hC (by rw [hr]; exact h3)
         rw [hr] at h4
         exact h.trans h4
        rw [hr] at hl
        have Hr := hide hr
        have HC := hide hC
        clear HE hC hr
        have HN0 := hide hn0
        clear hn0
        have c0 : wr.cell? ⟨gb, 0, none⟩ = some v := hS.out.blk.cell 0
        have c1 : wr.cell? ⟨gb, 1, none⟩ = some (.slice (some ⟨fb, 0, none⟩) 8 8) := hS.out.blk.cell 1
        have c2 : wr.cell? ⟨gb, 2, none⟩ = some (.int .i64 (twiceV [] rls)) := hS.out.blk.cell 2
        have f2 : wr.frozen? ⟨gb, 2, none⟩ = false := hS.out.blk.frozen 2
        have cf : wr.cell? ⟨fb, r, none⟩ = some (.int .i64 (fl.getD r 0)) := by
         rw [hS.out.fst.cell r]
         have := hS.out.fok.1
         simp [intsI, List.getD, show r < fl.length by omega]
        have Htw : Hid (∀ x : Rl, x.r = r → x.pl = a → twiceV [] (rls ++ [x]) = if 0 ≤ twiceV [] rls then twiceV [] rls else if fl.getD r 0 < 0 then -1 else (a : Nat)) := by
         intro x h3 h4
         rw [twiceV_snoc, h3, h4]
         split
         · rfl
         · have h5 := hS.out.fok.2.1 r hr8
           simp only [List.nil_append]
           by_cases h6 : hasR rls (r : Int) = true
           · rw [if_pos h6, if_neg (by rw [h5, h6]; simp)]
           · rw [if_neg h6, if_pos (h5.2 (by simpa using h6))]
        have htl := twiceV_lo [] rls
        obtain ⟨ao, cap, hv⟩ : ∃ ao cap, v = .slice ao (allIts rls).length cap := by
         rcases hS.out.row.2 with ⟨hv, h0⟩ | ⟨g, cc, _, hv, _⟩
         · exact ⟨none, 0, by rw [h0]; exact hv⟩
         · exact ⟨_, _, hv⟩
        have HVv := hide hv
        rw [hv] at c0
        clear hv
        have hlen := hS.out.ni
        have hr8' : (r : Int) < 8 := by omega
        generalize hLL : (allIts rls).length = LL at *
        have HLL := hide hLL
        clear hLL
        generalize htv : twiceV [] rls = tv at *
        have HTV := hide htv
        clear htv
        generalize hfv : fl.getD r 0 = fv at *
        have HFV := hide hfv
        clear hfv
        have hthree : fv < 0 ∨ (0 ≤ fv ∧ tv < 0) ∨ (0 ≤ fv ∧ 0 ≤ tv) := by omega
        rcases hthree with hf1 | ⟨hf1, hf2⟩ | ⟨hf1, hf2⟩
        · go_wp2_with (first
           | (go_at_call 83; refine (byteAt_calls _ _ _ (by unfold maxLen; omega) (by omega)).mono ?_; rintro e w9 ⟨rfl, h9⟩; have h9 := h9.symm; subst h9; simp only [Int.toNat_natCast, tn1])
           | (go_at_call 82; refine (letter_calls _ _ _ _ (by omega) (by omega) (by omega)).mono ?_; rintro e w9 ⟨rfl, h9⟩; have h9 := h9.symm; subst h9))
          have hBW : B ≤ wr.heap.size := by have := hS.out.hB; omega
          have hBlk : Blk wr gb #[v, .slice (some ⟨fb, 0, none⟩) 8 8, .int .i64 (tv)] 130 := by have := hS.out.blk; rwa [HTV.out] at this
          have hRow : wr.ownsRow B 132 9 v (allIts rls).length (cellsL 0 (allIts rls)) := hS.out.row
          have hBel : Below fb w wr := by have := hS.out.bel; rwa [HFB.out] at this
          have hFst : Blk wr fb (intsI fl) 3 := hS.out.fst
          refine (part_calls s (r : Int) hs (s.size + 1) ((a : Int) + 2) _ B gb v (.slice (some ⟨fb, 0, none⟩) 8 8) (.int .i64 (tv)) (allIts rls) (by omega) (by omega) (by omega) h2 hBW hBlk hRow (by rw [HLL.out]; omega)).mono ?_
          rintro e w4 ⟨rfl, hfr4, hok4⟩
          rw [show ((a : Int) + 2).toNat = a + 2 by omega] at hok4 ⊢
          obtain ⟨pg1, pg2, pg3⟩ := prs_good s (r : Int) (s.size + 1) (a + 2) (by omega)
          have pg5 := prs_ne s (r : Int) (s.size + 1) (a + 2)
          generalize prs s (r : Int) (s.size + 1) (a + 2) = p at pg1 pg2 pg3 pg5 HF3 HF4 hok4 ⊢
          obtain ⟨pok, pi, pits⟩ := p
          have hb4 : Hid (Below w.heap.size w w4) := by rw [HFB.out]; exact hBel.trans (hfr4.lower (by omega) (by omega))
          have hfst4 : Blk w4 fb (intsI fl) 3 := by
           have h := hFst
           unfold Blk at h ⊢
           rw [hfr4.block fb (by omega) (by omega)]
           exact h
          have HFst4 := hide hfst4
          have cf4 : w4.cell? ⟨fb, r, none⟩ = some (.int .i64 fv) := by rw [hfst4.cell r]; have := hS.out.fok.1; rw [← HFV.out]; simp [intsI, List.getD, show r < fl.length by omega]
          have ff4 : w4.frozen? ⟨fb, r, none⟩ = false := hfst4.frozen r
          have HTW := hide (Htw.out ⟨r, a, pits⟩ rfl rfl)
          clear Htw hBlk hRow hBel hFst hfst4 hBW c0 c1 c2 f2 cf
          cases pok
          · have HE2 := hide (HF3.out rfl)
            clear HF3 HF4 hok4 pg3 pg5
            simp only
            go_wp2_with fail
            refine bodyPost_ret (v := .tuple #[.pointer (some ⟨gb, 0, none⟩), .int .i64 pi, .bool false]) (by simp [results, Tryz.results54, go_sem]) rfl ?_
            exact form_fail hb4.out HE2.out rfl
          · obtain ⟨v4, hblk4, hrow4⟩ := hok4 rfl
            obtain ⟨pg3, pg4⟩ := pg3 rfl
            have pg5 := pg5 rfl
            simp only at pg1 pg2 pg3 pg4 pg5 hblk4 hrow4
            have HE2 := hide (HF4.out rfl)
            have c14 : w4.cell? ⟨gb, 1, none⟩ = some (.slice (some ⟨fb, 0, none⟩) 8 8) := hblk4.cell 1
            have HBlk4 := hide hblk4
            have HRow4 := hide hrow4
            have hsz4 := hfr4.size
            clear HF3 HF4 hok4 hblk4 hrow4
            simp only
            go_wp2_with fail
            have htw2 : twiceV [] (rls ++ [⟨r, a, pits⟩]) = tv := by have h := HTW.out; rw [h, if_pos hf1]; split <;> omega
            exact ⟨⟨n + 1, pi, rls ++ [⟨r, a, pits⟩], v4, (fl.set r LL), rfl, by have := HN0.out; subst this; rfl, form_next0 hS.out h1 h2 (LL := LL) HLL.out ⟨hr8, by omega⟩ pg1 (by omega) pg5 (by have := hS.out.hB; omega) HBlk4.out HRow4.out HFst4.out htw2 hb4.out HE2.out HFV.out hf1 HFB.out⟩, by simp [intOf]; omega⟩
        · go_wp2_with (first
           | (go_at_call 83; refine (byteAt_calls _ _ _ (by unfold maxLen; omega) (by omega)).mono ?_; rintro e w9 ⟨rfl, h9⟩; have h9 := h9.symm; subst h9; simp only [Int.toNat_natCast, tn1])
           | (go_at_call 82; refine (letter_calls _ _ _ _ (by omega) (by omega) (by omega)).mono ?_; rintro e w9 ⟨rfl, h9⟩; have h9 := h9.symm; subst h9))
          have hBW : B ≤ (wr.setCell ⟨gb, 2, none⟩ (.int .i64 ((a : Int)))).heap.size := by have := hS.out.hB; simpa [World.setCell] using this
          have hBlk : Blk (wr.setCell ⟨gb, 2, none⟩ (.int .i64 ((a : Int)))) gb #[v, .slice (some ⟨fb, 0, none⟩) 8 8, .int .i64 ((a : Int))] 130 := hS.out.blk.set 2 _
          have hRow : (wr.setCell ⟨gb, 2, none⟩ (.int .i64 ((a : Int)))).ownsRow B 132 9 v (allIts rls).length (cellsL 0 (allIts rls)) := ownsRow_setCell_below hS.out.row h2 _
          have hBel : Below fb w (wr.setCell ⟨gb, 2, none⟩ (.int .i64 ((a : Int)))) := by have := hS.out.bel; rw [HFB.out] at this; exact this.setCell (by simp; omega) _
          have hFst : Blk (wr.setCell ⟨gb, 2, none⟩ (.int .i64 ((a : Int)))) fb (intsI fl) 3 := hS.out.fst.setOther _ (by simp; omega) _
          refine (part_calls s (r : Int) hs (s.size + 1) ((a : Int) + 2) _ B gb v (.slice (some ⟨fb, 0, none⟩) 8 8) (.int .i64 ((a : Int))) (allIts rls) (by omega) (by omega) (by omega) h2 hBW hBlk hRow (by rw [HLL.out]; omega)).mono ?_
          rintro e w4 ⟨rfl, hfr4, hok4⟩
          rw [show ((a : Int) + 2).toNat = a + 2 by omega] at hok4 ⊢
          obtain ⟨pg1, pg2, pg3⟩ := prs_good s (r : Int) (s.size + 1) (a + 2) (by omega)
          have pg5 := prs_ne s (r : Int) (s.size + 1) (a + 2)
          generalize prs s (r : Int) (s.size + 1) (a + 2) = p at pg1 pg2 pg3 pg5 HF3 HF4 hok4 ⊢
          obtain ⟨pok, pi, pits⟩ := p
          have hb4 : Hid (Below w.heap.size w w4) := by rw [HFB.out]; exact hBel.trans (hfr4.lower (by omega) (by omega))
          have hfst4 : Blk w4 fb (intsI fl) 3 := by
           have h := hFst
           unfold Blk at h ⊢
           rw [hfr4.block fb (by omega) (by omega)]
           exact h
          have HFst4 := hide hfst4
          have cf4 : w4.cell? ⟨fb, r, none⟩ = some (.int .i64 fv) := by rw [hfst4.cell r]; have := hS.out.fok.1; rw [← HFV.out]; simp [intsI, List.getD, show r < fl.length by omega]
          have ff4 : w4.frozen? ⟨fb, r, none⟩ = false := hfst4.frozen r
          have HTW := hide (Htw.out ⟨r, a, pits⟩ rfl rfl)
          clear Htw hBlk hRow hBel hFst hfst4 hBW c0 c1 c2 f2 cf
          cases pok
          · have HE2 := hide (HF3.out rfl)
            clear HF3 HF4 hok4 pg3 pg5
            simp only
            go_wp2_with fail
            refine bodyPost_ret (v := .tuple #[.pointer (some ⟨gb, 0, none⟩), .int .i64 pi, .bool false]) (by simp [results, Tryz.results54, go_sem]) rfl ?_
            exact form_fail hb4.out HE2.out rfl
          · obtain ⟨v4, hblk4, hrow4⟩ := hok4 rfl
            obtain ⟨pg3, pg4⟩ := pg3 rfl
            have pg5 := pg5 rfl
            simp only at pg1 pg2 pg3 pg4 pg5 hblk4 hrow4
            have HE2 := hide (HF4.out rfl)
            have c14 : w4.cell? ⟨gb, 1, none⟩ = some (.slice (some ⟨fb, 0, none⟩) 8 8) := hblk4.cell 1
            have HBlk4 := hide hblk4
            have HRow4 := hide hrow4
            have hsz4 := hfr4.size
            clear HF3 HF4 hok4 hblk4 hrow4
            simp only
            go_wp2_with fail
            have htw2 : twiceV [] (rls ++ [⟨r, a, pits⟩]) = (a : Int) := by have h := HTW.out; rw [h, if_neg (by omega), if_neg (by omega)] <;> omega
            exact ⟨⟨n + 1, pi, rls ++ [⟨r, a, pits⟩], v4, fl, rfl, by have := HN0.out; subst this; rfl, form_next1 hS.out h1 h2 (LL := LL) HLL.out ⟨hr8, by omega⟩ pg1 (by omega) pg5 (by have := hS.out.hB; simp [World.setCell] at hsz4; omega) HBlk4.out HRow4.out HFst4.out htw2 hb4.out HE2.out HFV.out hf1⟩, by simp [intOf]; omega⟩
        · go_wp2_with (first
           | (go_at_call 83; refine (byteAt_calls _ _ _ (by unfold maxLen; omega) (by omega)).mono ?_; rintro e w9 ⟨rfl, h9⟩; have h9 := h9.symm; subst h9; simp only [Int.toNat_natCast, tn1])
           | (go_at_call 82; refine (letter_calls _ _ _ _ (by omega) (by omega) (by omega)).mono ?_; rintro e w9 ⟨rfl, h9⟩; have h9 := h9.symm; subst h9))
          have hBW : B ≤ wr.heap.size := by have := hS.out.hB; omega
          have hBlk : Blk wr gb #[v, .slice (some ⟨fb, 0, none⟩) 8 8, .int .i64 (tv)] 130 := by have := hS.out.blk; rwa [HTV.out] at this
          have hRow : wr.ownsRow B 132 9 v (allIts rls).length (cellsL 0 (allIts rls)) := hS.out.row
          have hBel : Below fb w wr := by have := hS.out.bel; rwa [HFB.out] at this
          have hFst : Blk wr fb (intsI fl) 3 := hS.out.fst
          refine (part_calls s (r : Int) hs (s.size + 1) ((a : Int) + 2) _ B gb v (.slice (some ⟨fb, 0, none⟩) 8 8) (.int .i64 (tv)) (allIts rls) (by omega) (by omega) (by omega) h2 hBW hBlk hRow (by rw [HLL.out]; omega)).mono ?_
          rintro e w4 ⟨rfl, hfr4, hok4⟩
          rw [show ((a : Int) + 2).toNat = a + 2 by omega] at hok4 ⊢
          obtain ⟨pg1, pg2, pg3⟩ := prs_good s (r : Int) (s.size + 1) (a + 2) (by omega)
          have pg5 := prs_ne s (r : Int) (s.size + 1) (a + 2)
          generalize prs s (r : Int) (s.size + 1) (a + 2) = p at pg1 pg2 pg3 pg5 HF3 HF4 hok4 ⊢
          obtain ⟨pok, pi, pits⟩ := p
          have hb4 : Hid (Below w.heap.size w w4) := by rw [HFB.out]; exact hBel.trans (hfr4.lower (by omega) (by omega))
          have hfst4 : Blk w4 fb (intsI fl) 3 := by
           have h := hFst
           unfold Blk at h ⊢
           rw [hfr4.block fb (by omega) (by omega)]
           exact h
          have HFst4 := hide hfst4
          have cf4 : w4.cell? ⟨fb, r, none⟩ = some (.int .i64 fv) := by rw [hfst4.cell r]; have := hS.out.fok.1; rw [← HFV.out]; simp [intsI, List.getD, show r < fl.length by omega]
          have ff4 : w4.frozen? ⟨fb, r, none⟩ = false := hfst4.frozen r
          have HTW := hide (Htw.out ⟨r, a, pits⟩ rfl rfl)
          clear Htw hBlk hRow hBel hFst hfst4 hBW c0 c1 c2 f2 cf
          cases pok
          · have HE2 := hide (HF3.out rfl)
            clear HF3 HF4 hok4 pg3 pg5
            simp only
            go_wp2_with fail
            refine bodyPost_ret (v := .tuple #[.pointer (some ⟨gb, 0, none⟩), .int .i64 pi, .bool false]) (by simp [results, Tryz.results54, go_sem]) rfl ?_
            exact form_fail hb4.out HE2.out rfl
          · obtain ⟨v4, hblk4, hrow4⟩ := hok4 rfl
            obtain ⟨pg3, pg4⟩ := pg3 rfl
            have pg5 := pg5 rfl
            simp only at pg1 pg2 pg3 pg4 pg5 hblk4 hrow4
            have HE2 := hide (HF4.out rfl)
            have c14 : w4.cell? ⟨gb, 1, none⟩ = some (.slice (some ⟨fb, 0, none⟩) 8 8) := hblk4.cell 1
            have HBlk4 := hide hblk4
            have HRow4 := hide hrow4
            have hsz4 := hfr4.size
            clear HF3 HF4 hok4 hblk4 hrow4
            simp only
            go_wp2_with fail
            have htw2 : twiceV [] (rls ++ [⟨r, a, pits⟩]) = tv := by have h := HTW.out; rw [h, if_pos hf2]
            exact ⟨⟨n + 1, pi, rls ++ [⟨r, a, pits⟩], v4, fl, rfl, by have := HN0.out; subst this; rfl, form_next1 hS.out h1 h2 (LL := LL) HLL.out ⟨hr8, by omega⟩ pg1 (by omega) pg5 (by have := hS.out.hB; omega) HBlk4.out HRow4.out HFst4.out htw2 hb4.out HE2.out HFV.out hf1⟩, by simp [intOf]; omega⟩
      · have h8 : ((n : Int) == 8) = false := by simp; omega
        have halt : a < s.size := by omega
        have hn8 : n < 8 := by omega
        have h59 : ((s[a].toNat : Int) != 59) = false := by
         have h : bt s a = 59 := by
          by_cases h : bt s a = 59
          · exact h
          · exact absurd ⟨hn0, Or.inr h⟩ hA
         rw [bt_in _ _ halt] at h
         simpa [bne] using h
        have hal : (a : Int) < (s.size : Int) := by omega
        have HE : Hid (EqR (formV s) ((rulesV s (7 - n + 1) 72 (a + 1)).pre rls)) := by
         have h := hS2.eq
         rw [if_neg hn0] at h
         have h3 : restF s n a rls = (rulesV s (7 - n + 1) 72 (a + 1)).pre rls := by
          unfold restF
          rw [if_neg (by omega), if_neg (by intro h; exact hA ⟨hn0, h⟩), show 8 - n = 7 - n + 1 by omega]
         rw [h3] at h
         exact h
        have hnb : ((n : Int) == 0) = false := by simp; omega
        have hnp : (0 : Int) < (n : Int) := by omega
        have hS0 : True := trivial
        have b0 := bt_lo s (a + 1)
        have b1 := bt_hi s (a + 1)
        clear hS0 hend hA hS2
        by_cases hB1 : 65 ≤ bt s (a + 1) ∧ bt s (a + 1) ≤ 72
        rotate_left
        · have hl := letterV_no (bt s (a + 1)) 65 72 hB1
          have HE2 : Hid (EqR (formV s) ⟨false, (a + 1), rls⟩) := by
           have h := HE.out
           rw [rules_fail1 _ _ _ _ _ (by omega)] at h
           exact h
          clear HE hB1
          go_wp2_with (first
           | (go_at_call 83; refine (byteAt_calls _ _ _ (by unfold maxLen; omega) (by omega)).mono ?_; rintro e w9 ⟨rfl, h9⟩; have h9 := h9.symm; subst h9; simp only [tn1])
           | (go_at_call 82; refine (letter_calls _ _ _ _ (by omega) (by omega) (by omega)).mono ?_; rintro e w9 ⟨rfl, h9⟩; have h9 := h9.symm; subst h9))
          refine bodyPost_ret (v := .tuple #[.pointer (some ⟨gb, 0, none⟩), .int .i64 ((a : Int) + 1), .bool false]) (by simp [results, Tryz.results54, go_sem]) rfl ?_
          exact form_fail hbb.out HE2.out (by omega)
        have hl := letterV_yes (bt s (a + 1)) 65 72 hB1
        by_cases hC : bt s (a + 2) = 61
        rotate_left
        · have hC' : (bt s (a + 2) != 61) = true := by rw [bne_iff_ne]; exact hC
          have HE2 : Hid (EqR (formV s) ⟨false, (a + 2), rls⟩) := by
           have h := HE.out
           rw [rules_fail2 _ _ _ _ _ (by omega) hC] at h
           exact h
          clear HE hC
          go_wp2_with (first
           | (go_at_call 83; refine (byteAt_calls _ _ _ (by unfold maxLen; omega) (by omega)).mono ?_; rintro e w9 ⟨rfl, h9⟩; have h9 := h9.symm; subst h9; simp only [tn1, tn11])
           | (go_at_call 82; refine (letter_calls _ _ _ _ (by omega) (by omega) (by omega)).mono ?_; rintro e w9 ⟨rfl, h9⟩; have h9 := h9.symm; subst h9))
          refine bodyPost_ret (v := .tuple #[.pointer (some ⟨gb, 0, none⟩), .int .i64 ((a : Int) + 1 + 1), .bool false]) (by simp [results, Tryz.results54, go_sem]) rfl ?_
          exact form_fail hbb.out HE2.out (by omega)
        have hC' : (bt s (a + 2) != 61) = false := by simpa [bne] using hC
        obtain ⟨r, hr, hr8⟩ : ∃ r : Nat, bt s (a + 1) - 65 = (r : Int) ∧ r < 8 := ⟨(bt s (a + 1) - 65).toNat, by omega, by omega⟩
        have hr0 : True := trivial
        have hNs : (a + 1) + 1 < s.size := bt_pos_lt s (a + 2) (by omega)
        have HF3 : Hid ((prs s (r : Int) (s.size + 1) ((a + 1) + 2)).ok = false → EqR (formV s) ⟨false, (prs s (r : Int) (s.size + 1) ((a + 1) + 2)).i, rls⟩) := by
         intro h3
         have h := HE.out
         rw [rules_fail3 _ _ _ _ _ (by omega) hC (by rw [hr]; exact h3), hr] at h
         exact h
        have HF4 : Hid ((prs s (r : Int) (s.size + 1) ((a + 1) + 2)).ok = true → EqR (formV s) (restF s (n + 1) (prs s (r : Int) (s.size + 1) ((a + 1) + 2)).i (rls ++ [⟨r, (a + 1), (prs s (r : Int) (s.size + 1) ((a + 1) + 2)).its⟩]))) := by
         intro h3
         have h := HE.out
         have h4 := rules_step s (7 - n) 72 (a + 1) rls n (by omega) (by omega) hC (by rw [hr]; exact h3)
         rw [hr] at h4
         exact h.trans h4
        rw [hr] at hl
        have Hr := hide hr
        have HC := hide hC
        clear HE hC hr
        have c0 : wr.cell? ⟨gb, 0, none⟩ = some v := hS.out.blk.cell 0
        have c1 : wr.cell? ⟨gb, 1, none⟩ = some (.slice (some ⟨fb, 0, none⟩) 8 8) := hS.out.blk.cell 1
        have c2 : wr.cell? ⟨gb, 2, none⟩ = some (.int .i64 (twiceV [] rls)) := hS.out.blk.cell 2
        have f2 : wr.frozen? ⟨gb, 2, none⟩ = false := hS.out.blk.frozen 2
        have cf : wr.cell? ⟨fb, r, none⟩ = some (.int .i64 (fl.getD r 0)) := by
         rw [hS.out.fst.cell r]
         have := hS.out.fok.1
         simp [intsI, List.getD, show r < fl.length by omega]
        have Htw : Hid (∀ x : Rl, x.r = r → x.pl = (a + 1) → twiceV [] (rls ++ [x]) = if 0 ≤ twiceV [] rls then twiceV [] rls else if fl.getD r 0 < 0 then -1 else ((a + 1) : Nat)) := by
         intro x h3 h4
         rw [twiceV_snoc, h3, h4]
         split
         · rfl
         · have h5 := hS.out.fok.2.1 r hr8
           simp only [List.nil_append]
           by_cases h6 : hasR rls (r : Int) = true
           · rw [if_pos h6, if_neg (by rw [h5, h6]; simp)]
           · rw [if_neg h6, if_pos (h5.2 (by simpa using h6))]
        have htl := twiceV_lo [] rls
        obtain ⟨ao, cap, hv⟩ : ∃ ao cap, v = .slice ao (allIts rls).length cap := by
         rcases hS.out.row.2 with ⟨hv, h0⟩ | ⟨g, cc, _, hv, _⟩
         · exact ⟨none, 0, by rw [h0]; exact hv⟩
         · exact ⟨_, _, hv⟩
        have HVv := hide hv
        rw [hv] at c0
        clear hv
        have hlen := hS.out.ni
        have hr8' : (r : Int) < 8 := by omega
        generalize hLL : (allIts rls).length = LL at *
        have HLL := hide hLL
        clear hLL
        generalize htv : twiceV [] rls = tv at *
        have HTV := hide htv
        clear htv
        generalize hfv : fl.getD r 0 = fv at *
        have HFV := hide hfv
        clear hfv
        have hthree : fv < 0 ∨ (0 ≤ fv ∧ tv < 0) ∨ (0 ≤ fv ∧ 0 ≤ tv) := by omega
        rcases hthree with hf1 | ⟨hf1, hf2⟩ | ⟨hf1, hf2⟩
        · go_wp2_with (first
           | (go_at_call 83; refine (byteAt_calls _ _ _ (by unfold maxLen; omega) (by omega)).mono ?_; rintro e w9 ⟨rfl, h9⟩; have h9 := h9.symm; subst h9; simp only [tn1, tn11])
           | (go_at_call 82; refine (letter_calls _ _ _ _ (by omega) (by omega) (by omega)).mono ?_; rintro e w9 ⟨rfl, h9⟩; have h9 := h9.symm; subst h9))
          have hBW : B ≤ wr.heap.size := by have := hS.out.hB; omega
          have hBlk : Blk wr gb #[v, .slice (some ⟨fb, 0, none⟩) 8 8, .int .i64 (tv)] 130 := by have := hS.out.blk; rwa [HTV.out] at this
          have hRow : wr.ownsRow B 132 9 v (allIts rls).length (cellsL 0 (allIts rls)) := hS.out.row
          have hBel : Below fb w wr := by have := hS.out.bel; rwa [HFB.out] at this
          have hFst : Blk wr fb (intsI fl) 3 := hS.out.fst
          refine (part_calls s (r : Int) hs (s.size + 1) (((a : Int) + 1) + 2) _ B gb v (.slice (some ⟨fb, 0, none⟩) 8 8) (.int .i64 (tv)) (allIts rls) (by omega) (by omega) (by omega) h2 hBW hBlk hRow (by rw [HLL.out]; omega)).mono ?_
          rintro e w4 ⟨rfl, hfr4, hok4⟩
          rw [show (((a : Int) + 1) + 2).toNat = (a + 1) + 2 by omega] at hok4 ⊢
          obtain ⟨pg1, pg2, pg3⟩ := prs_good s (r : Int) (s.size + 1) ((a + 1) + 2) (by omega)
          have pg5 := prs_ne s (r : Int) (s.size + 1) ((a + 1) + 2)
          generalize prs s (r : Int) (s.size + 1) ((a + 1) + 2) = p at pg1 pg2 pg3 pg5 HF3 HF4 hok4 ⊢
          obtain ⟨pok, pi, pits⟩ := p
          have hb4 : Hid (Below w.heap.size w w4) := by rw [HFB.out]; exact hBel.trans (hfr4.lower (by omega) (by omega))
          have hfst4 : Blk w4 fb (intsI fl) 3 := by
           have h := hFst
           unfold Blk at h ⊢
           rw [hfr4.block fb (by omega) (by omega)]
           exact h
          have HFst4 := hide hfst4
          have cf4 : w4.cell? ⟨fb, r, none⟩ = some (.int .i64 fv) := by rw [hfst4.cell r]; have := hS.out.fok.1; rw [← HFV.out]; simp [intsI, List.getD, show r < fl.length by omega]
          have ff4 : w4.frozen? ⟨fb, r, none⟩ = false := hfst4.frozen r
          have HTW := hide (Htw.out ⟨r, (a + 1), pits⟩ rfl rfl)
          clear Htw hBlk hRow hBel hFst hfst4 hBW c0 c1 c2 f2 cf
          cases pok
          · have HE2 := hide (HF3.out rfl)
            clear HF3 HF4 hok4 pg3 pg5
            simp only
            go_wp2_with fail
            refine bodyPost_ret (v := .tuple #[.pointer (some ⟨gb, 0, none⟩), .int .i64 pi, .bool false]) (by simp [results, Tryz.results54, go_sem]) rfl ?_
            exact form_fail hb4.out HE2.out rfl
          · obtain ⟨v4, hblk4, hrow4⟩ := hok4 rfl
            obtain ⟨pg3, pg4⟩ := pg3 rfl
            have pg5 := pg5 rfl
            simp only at pg1 pg2 pg3 pg4 pg5 hblk4 hrow4
            have HE2 := hide (HF4.out rfl)
            have c14 : w4.cell? ⟨gb, 1, none⟩ = some (.slice (some ⟨fb, 0, none⟩) 8 8) := hblk4.cell 1
            have HBlk4 := hide hblk4
            have HRow4 := hide hrow4
            have hsz4 := hfr4.size
            clear HF3 HF4 hok4 hblk4 hrow4
            simp only
            go_wp2_with fail
            have htw2 : twiceV [] (rls ++ [⟨r, (a + 1), pits⟩]) = tv := by have h := HTW.out; rw [h, if_pos hf1]; split <;> omega
            exact ⟨⟨n + 1, pi, rls ++ [⟨r, (a + 1), pits⟩], v4, (fl.set r LL), rfl, by go_num, form_next0 hS.out h1 h2 (LL := LL) HLL.out ⟨hr8, by omega⟩ pg1 (by omega) pg5 (by have := hS.out.hB; omega) HBlk4.out HRow4.out HFst4.out htw2 hb4.out HE2.out HFV.out hf1 HFB.out⟩, by simp [intOf]; omega⟩
        · go_wp2_with (first
           | (go_at_call 83; refine (byteAt_calls _ _ _ (by unfold maxLen; omega) (by omega)).mono ?_; rintro e w9 ⟨rfl, h9⟩; have h9 := h9.symm; subst h9; simp only [tn1, tn11])
           | (go_at_call 82; refine (letter_calls _ _ _ _ (by omega) (by omega) (by omega)).mono ?_; rintro e w9 ⟨rfl, h9⟩; have h9 := h9.symm; subst h9))
          have hBW : B ≤ (wr.setCell ⟨gb, 2, none⟩ (.int .i64 (((a : Int) + 1)))).heap.size := by have := hS.out.hB; simpa [World.setCell] using this
          have hBlk : Blk (wr.setCell ⟨gb, 2, none⟩ (.int .i64 (((a : Int) + 1)))) gb #[v, .slice (some ⟨fb, 0, none⟩) 8 8, .int .i64 (((a : Int) + 1))] 130 := hS.out.blk.set 2 _
          have hRow : (wr.setCell ⟨gb, 2, none⟩ (.int .i64 (((a : Int) + 1)))).ownsRow B 132 9 v (allIts rls).length (cellsL 0 (allIts rls)) := ownsRow_setCell_below hS.out.row h2 _
          have hBel : Below fb w (wr.setCell ⟨gb, 2, none⟩ (.int .i64 (((a : Int) + 1)))) := by have := hS.out.bel; rw [HFB.out] at this; exact this.setCell (by simp; omega) _
          have hFst : Blk (wr.setCell ⟨gb, 2, none⟩ (.int .i64 (((a : Int) + 1)))) fb (intsI fl) 3 := hS.out.fst.setOther _ (by simp; omega) _
          refine (part_calls s (r : Int) hs (s.size + 1) (((a : Int) + 1) + 2) _ B gb v (.slice (some ⟨fb, 0, none⟩) 8 8) (.int .i64 (((a : Int) + 1))) (allIts rls) (by omega) (by omega) (by omega) h2 hBW hBlk hRow (by rw [HLL.out]; omega)).mono ?_
          rintro e w4 ⟨rfl, hfr4, hok4⟩
          rw [show (((a : Int) + 1) + 2).toNat = (a + 1) + 2 by omega] at hok4 ⊢
          obtain ⟨pg1, pg2, pg3⟩ := prs_good s (r : Int) (s.size + 1) ((a + 1) + 2) (by omega)
          have pg5 := prs_ne s (r : Int) (s.size + 1) ((a + 1) + 2)
          generalize prs s (r : Int) (s.size + 1) ((a + 1) + 2) = p at pg1 pg2 pg3 pg5 HF3 HF4 hok4 ⊢
          obtain ⟨pok, pi, pits⟩ := p
          have hb4 : Hid (Below w.heap.size w w4) := by rw [HFB.out]; exact hBel.trans (hfr4.lower (by omega) (by omega))
          have hfst4 : Blk w4 fb (intsI fl) 3 := by
           have h := hFst
           unfold Blk at h ⊢
           rw [hfr4.block fb (by omega) (by omega)]
           exact h
          have HFst4 := hide hfst4
          have cf4 : w4.cell? ⟨fb, r, none⟩ = some (.int .i64 fv) := by rw [hfst4.cell r]; have := hS.out.fok.1; rw [← HFV.out]; simp [intsI, List.getD, show r < fl.length by omega]
          have ff4 : w4.frozen? ⟨fb, r, none⟩ = false := hfst4.frozen r
          have HTW := hide (Htw.out ⟨r, (a + 1), pits⟩ rfl rfl)
          clear Htw hBlk hRow hBel hFst hfst4 hBW c0 c1 c2 f2 cf
          cases pok
          · have HE2 := hide (HF3.out rfl)
            clear HF3 HF4 hok4 pg3 pg5
            simp only
            go_wp2_with fail
            refine bodyPost_ret (v := .tuple #[.pointer (some ⟨gb, 0, none⟩), .int .i64 pi, .bool false]) (by simp [results, Tryz.results54, go_sem]) rfl ?_
            exact form_fail hb4.out HE2.out rfl
          · obtain ⟨v4, hblk4, hrow4⟩ := hok4 rfl
            obtain ⟨pg3, pg4⟩ := pg3 rfl
            have pg5 := pg5 rfl
            simp only at pg1 pg2 pg3 pg4 pg5 hblk4 hrow4
            have HE2 := hide (HF4.out rfl)
            have c14 : w4.cell? ⟨gb, 1, none⟩ = some (.slice (some ⟨fb, 0, none⟩) 8 8) := hblk4.cell 1
            have HBlk4 := hide hblk4
            have HRow4 := hide hrow4
            have hsz4 := hfr4.size
            clear HF3 HF4 hok4 hblk4 hrow4
            simp only
            go_wp2_with fail
            have htw2 : twiceV [] (rls ++ [⟨r, (a + 1), pits⟩]) = ((a : Int) + 1) := by have h := HTW.out; rw [h, if_neg (by omega), if_neg (by omega)] <;> omega
            exact ⟨⟨n + 1, pi, rls ++ [⟨r, (a + 1), pits⟩], v4, fl, rfl, by go_num, form_next1 hS.out h1 h2 (LL := LL) HLL.out ⟨hr8, by omega⟩ pg1 (by omega) pg5 (by have := hS.out.hB; simp [World.setCell] at hsz4; omega) HBlk4.out HRow4.out HFst4.out htw2 hb4.out HE2.out HFV.out hf1⟩, by simp [intOf]; omega⟩
        · go_wp2_with (first
           | (go_at_call 83; refine (byteAt_calls _ _ _ (by unfold maxLen; omega) (by omega)).mono ?_; rintro e w9 ⟨rfl, h9⟩; have h9 := h9.symm; subst h9; simp only [tn1, tn11])
           | (go_at_call 82; refine (letter_calls _ _ _ _ (by omega) (by omega) (by omega)).mono ?_; rintro e w9 ⟨rfl, h9⟩; have h9 := h9.symm; subst h9))
          have hBW : B ≤ wr.heap.size := by have := hS.out.hB; omega
          have hBlk : Blk wr gb #[v, .slice (some ⟨fb, 0, none⟩) 8 8, .int .i64 (tv)] 130 := by have := hS.out.blk; rwa [HTV.out] at this
          have hRow : wr.ownsRow B 132 9 v (allIts rls).length (cellsL 0 (allIts rls)) := hS.out.row
          have hBel : Below fb w wr := by have := hS.out.bel; rwa [HFB.out] at this
          have hFst : Blk wr fb (intsI fl) 3 := hS.out.fst
          refine (part_calls s (r : Int) hs (s.size + 1) (((a : Int) + 1) + 2) _ B gb v (.slice (some ⟨fb, 0, none⟩) 8 8) (.int .i64 (tv)) (allIts rls) (by omega) (by omega) (by omega) h2 hBW hBlk hRow (by rw [HLL.out]; omega)).mono ?_
          rintro e w4 ⟨rfl, hfr4, hok4⟩
          rw [show (((a : Int) + 1) + 2).toNat = (a + 1) + 2 by omega] at hok4 ⊢
          obtain ⟨pg1, pg2, pg3⟩ := prs_good s (r : Int) (s.size + 1) ((a + 1) + 2) (by omega)
          have pg5 := prs_ne s (r : Int) (s.size + 1) ((a + 1) + 2)
          generalize prs s (r : Int) (s.size + 1) ((a + 1) + 2) = p at pg1 pg2 pg3 pg5 HF3 HF4 hok4 ⊢
          obtain ⟨pok, pi, pits⟩ := p
          have hb4 : Hid (Below w.heap.size w w4) := by rw [HFB.out]; exact hBel.trans (hfr4.lower (by omega) (by omega))
          have hfst4 : Blk w4 fb (intsI fl) 3 := by
           have h := hFst
           unfold Blk at h ⊢
           rw [hfr4.block fb (by omega) (by omega)]
           exact h
          have HFst4 := hide hfst4
          have cf4 : w4.cell? ⟨fb, r, none⟩ = some (.int .i64 fv) := by rw [hfst4.cell r]; have := hS.out.fok.1; rw [← HFV.out]; simp [intsI, List.getD, show r < fl.length by omega]
          have ff4 : w4.frozen? ⟨fb, r, none⟩ = false := hfst4.frozen r
          have HTW := hide (Htw.out ⟨r, (a + 1), pits⟩ rfl rfl)
          clear Htw hBlk hRow hBel hFst hfst4 hBW c0 c1 c2 f2 cf
          cases pok
          · have HE2 := hide (HF3.out rfl)
            clear HF3 HF4 hok4 pg3 pg5
            simp only
            go_wp2_with fail
            refine bodyPost_ret (v := .tuple #[.pointer (some ⟨gb, 0, none⟩), .int .i64 pi, .bool false]) (by simp [results, Tryz.results54, go_sem]) rfl ?_
            exact form_fail hb4.out HE2.out rfl
          · obtain ⟨v4, hblk4, hrow4⟩ := hok4 rfl
            obtain ⟨pg3, pg4⟩ := pg3 rfl
            have pg5 := pg5 rfl
            simp only at pg1 pg2 pg3 pg4 pg5 hblk4 hrow4
            have HE2 := hide (HF4.out rfl)
            have c14 : w4.cell? ⟨gb, 1, none⟩ = some (.slice (some ⟨fb, 0, none⟩) 8 8) := hblk4.cell 1
            have HBlk4 := hide hblk4
            have HRow4 := hide hrow4
            have hsz4 := hfr4.size
            clear HF3 HF4 hok4 hblk4 hrow4
            simp only
            go_wp2_with fail
            have htw2 : twiceV [] (rls ++ [⟨r, (a + 1), pits⟩]) = tv := by have h := HTW.out; rw [h, if_pos hf2]
            exact ⟨⟨n + 1, pi, rls ++ [⟨r, (a + 1), pits⟩], v4, fl, rfl, by go_num, form_next1 hS.out h1 h2 (LL := LL) HLL.out ⟨hr8, by omega⟩ pg1 (by omega) pg5 (by have := hS.out.hB; omega) HBlk4.out HRow4.out HFst4.out htw2 hb4.out HE2.out HFV.out hf1⟩, by simp [intOf]; omega⟩
end Go.Proofs.YtmlkhhhjdpbhfaaGreatDoor

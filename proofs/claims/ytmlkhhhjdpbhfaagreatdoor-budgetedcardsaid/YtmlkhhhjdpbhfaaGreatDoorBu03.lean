/- For every two lists of numbers and any four numbers the law Budgeted answers true, under what the card ties: with more fuel and more values nothing changes in what Parse answers but that neither runs out; with no fuel nothing is parsed. -/
import Derived.Test.YtmlkhhhjdpbhfaaGreatDoorPa03
import Derived.Test.YtmlkhhhjdpbhfaaGreatDoorBu01
import Derived.Test.YtmlkhhhjdpbhfaaGreatDoorPa29
import Derived.Test.YtmlkhhhjdpbhfaaGreatDoorPa37
import Derived.Test.YtmlkhhhjdpbhfaaGreatDoorBu02
import Derived.Test.YtmlkhhhjdpbhfaaGreatDoorTie
import Derived.Test.YtmlkhhhjdpbhfaaGreatDoorCards
import Derived.SevenTiedAt
namespace Go.Proofs.YtmlkhhhjdpbhfaaGreatDoor
open Go.RowKit
structure UpR (N k : Nat) (o o' : PO) : Prop where
 up : o.e = 0 → o' = { o with fuel := o.fuel + k }
 vals : o.ok = true → o.st.vals ≤ N
 e0 : o.ok = true → o.e = 0
def UpT (N k : Nat) (T T' : Nat → Nat → Bool → List It → PS → PO) : Prop := ∀ fuel far q s st, st.vals ≤ N → UpR N k (T fuel far q s st) (T' (fuel + k) far q s st)
theorem up_dead (N k n : Nat) (hn : n ≠ 0) (st : PS) (o' : PO) : UpR N k (deadO n st) o' := ⟨fun h => absurd h hn, fun h => by simp [deadO] at h, fun h => by simp [deadO] at h⟩
theorem up_fail (N k fuel far a : Nat) (st : PS) : UpR N k (failO fuel far a st) (failO (fuel + k) far a st) := ⟨fun _ => rfl, fun h => by simp [failO] at h, fun _ => rfl⟩
theorem up_fit (N k fuel far : Nat) (st : PS) (t : List UInt8) (h : st.vals ≤ N) : UpR N k (fitO fuel far st t) (fitO (fuel + k) far st t) := ⟨fun _ => rfl, fun _ => h, fun _ => rfl⟩
theorem up_made {N N' : Nat} (hN : N ≤ N') (k fuel far : Nat) (st : PS) (t : List UInt8) (h : st.vals ≤ N) : UpR N k (madeO N fuel far st t) (madeO N' (fuel + k) far st t) := by
 unfold madeO
 by_cases e : st.vals = N
 · rw [if_pos e]; exact up_dead _ _ _ (by decide) _ _
 · rw [if_neg e, if_neg (by omega)]; exact up_fit _ _ _ _ _ _ (by simp; omega)
theorem up_on {N k : Nat} {o o' : PO} (h : UpR N k o o') (hok : ¬ o.ok = true) (p' : PO) (hp : o' = { o with fuel := o.fuel + k } → p' = o') : UpR N k o p' :=
 ⟨fun he => (hp (h.up he)).trans (h.up he), fun k => absurd k hok, fun k => absurd k hok⟩
theorem up_bytes {N N' : Nat} (hN : N ≤ N') (bs : ByteArray) (x : It) (q : Bool) (k fuel far : Nat) (st : PS) (h : st.vals ≤ N) : UpR N k (bytesT bs N x q fuel far st) (bytesT bs N' x q (fuel + k) far st) := by
 have hr : ∀ n, (readS st n).vals ≤ N := fun n => h
 unfold bytesT
 by_cases h1 : canRead st.rd st.pl st.en (lenT x st) = true
 rotate_left
 · rw [if_neg h1, if_neg h1]; exact up_fail _ _ _ _ _ _
 rw [if_pos h1, if_pos h1]
 by_cases h2 : x.c = 39
 · rw [if_pos h2, if_pos h2]
   by_cases h3 : (bn bs st.pl : Int) ≠ x.b
   · rw [if_pos h3, if_pos h3]; exact up_fail _ _ _ _ _ _
   · rw [if_neg h3, if_neg h3]
     cases q
     · exact up_made hN _ _ _ _ _ (hr _)
     · exact up_fit _ _ _ _ _ _ (hr _)
 rw [if_neg h2, if_neg h2]
 by_cases h4 : x.c = 114 ∨ x.c = 46
 · rw [if_pos h4, if_pos h4]; exact up_made hN _ _ _ _ _ (hr _)
 rw [if_neg h4, if_neg h4]
 by_cases h5 : hidesB x.c = true
 · rw [if_pos h5, if_pos h5]; exact up_fit _ _ _ _ _ _ h
 · rw [if_neg h5, if_neg h5]; exact up_made hN _ _ _ _ _ (hr _)
section
variable {N N' k : Nat} {T T' : Nat → Nat → Bool → List It → PS → PO}
theorem up_kids (h : UpT N k T T') (ks : List (List It)) : ∀ (fuel far : Nat) (st : PS) (t : List UInt8), st.vals ≤ N → UpR N k (kidsT T ks fuel far st t) (kidsT T' ks (fuel + k) far st t) := by
 induction ks with
 | nil => intro fuel far st t hv; exact up_fit _ _ _ _ _ _ hv
 | cons a ks ih =>
  intro fuel far st t hv
  have hT := h fuel far (silV a) a st hv
  rw [kidsT, kidsT]
  by_cases ok : (T fuel far (silV a) a st).ok = true
  · have e := hT.up (hT.e0 ok)
    rw [if_pos ok, e, if_pos ok]
    exact ih _ _ _ _ (hT.vals ok)
  · rw [if_neg ok]
    exact up_on hT ok _ fun e => by rw [if_neg (by rw [e]; exact ok)]
theorem up_many (h : UpT N k T T') (hN : N ≤ N') (kid : List It) : ∀ (c c' fuel far : Nat) (st : PS) (t : List UInt8), c ≤ c' → st.vals ≤ N → UpR N k (manyT T N kid c fuel far st t) (manyT T' N' kid c' (fuel + k) far st t) := by
 intro c
 induction c with
 | zero => intro c' fuel far st t _ hv; exact up_dead _ _ _ (by decide) _ _
 | succ c ih =>
  intro c' fuel far st t hc hv
  obtain ⟨d, rfl⟩ : ∃ d, c' = d + 1 := ⟨c' - 1, by omega⟩
  have hT := h fuel far false kid st hv
  rw [manyT, manyT]
  by_cases he : (T fuel far false kid st).e ≠ 0
  · rw [if_pos he]
    exact ⟨fun e => absurd e he, fun ok => absurd (hT.e0 ok) he, fun ok => absurd (hT.e0 ok) he⟩
  · have e := hT.up (by omega)
    rw [if_neg he, e, if_neg he]
    by_cases h2 : (T fuel far false kid st).ok = false ∨ (T fuel far false kid st).st.pl = st.pl
    · rw [if_pos h2, if_pos h2]; exact up_made hN _ _ _ _ _ hv
    · rw [if_neg h2, if_neg h2]
      exact ih _ _ _ _ _ (by omega) (hT.vals (by have : ¬ (T fuel far false kid st).ok = false := fun h => h2 (Or.inl h); simpa using this))
theorem up_times (h : UpT N k T T') (hN : N ≤ N') (kid : List It) (n : Nat) : ∀ (fuel far : Nat) (st : PS) (t : List UInt8), st.vals ≤ N → UpR N k (timesT T N kid n fuel far st t) (timesT T' N' kid n (fuel + k) far st t) := by
 induction n with
 | zero => intro fuel far st t hv; exact up_made hN _ _ _ _ _ hv
 | succ n ih =>
  intro fuel far st t hv
  have hT := h fuel far false kid st hv
  rw [timesT, timesT]
  by_cases ok : (T fuel far false kid st).ok = true
  · have e := hT.up (hT.e0 ok)
    rw [if_pos ok, e, if_pos ok]
    exact ih _ _ _ _ (hT.vals ok)
  · rw [if_neg ok]
    exact up_on hT ok _ fun e => by rw [if_neg (by rw [e]; exact ok)]
theorem up_chosen (hN : N ≤ N') (c : UInt8) {o o' : PO} (h : UpR N k o o') : UpR N k (chosen N c o) (chosen N' c o') := by
 unfold chosen
 by_cases ok : o.ok = true
 · have e := h.up (h.e0 ok)
   rw [if_pos ok, e, if_pos ok]
   exact up_made hN _ _ _ _ _ (h.vals ok)
 · rw [if_neg ok]
   exact up_on h ok _ fun e => by rw [if_neg (by rw [e]; exact ok)]
theorem up_choice (h : UpT N k T T') (hN : N ≤ N') (k0 k1 : List It) (fuel far : Nat) (st : PS) (hv : st.vals ≤ N) : UpR N k (choiceT T N k0 k1 fuel far st) (choiceT T' N' k0 k1 (fuel + k) far st) := by
 have hT := h fuel far false k0 st hv
 unfold choiceT choice2
 by_cases he : (T fuel far false k0 st).e ≠ 0
 · have ok : ¬ (T fuel far false k0 st).ok = true := fun ok => he (hT.e0 ok)
   rw [if_pos (Or.inr he)]
   unfold chosen
   rw [if_neg ok]
   exact ⟨fun e => absurd e he, fun k => absurd k ok, fun k => absurd k ok⟩
 · have e := hT.up (by omega)
   by_cases ok : (T fuel far false k0 st).ok = true
   · rw [if_pos (Or.inl ok), if_pos (Or.inl (by rw [e]; exact ok))]
     exact up_chosen hN _ hT
   · have hn : ¬ ((T fuel far false k0 st).ok = true ∨ (T fuel far false k0 st).e ≠ 0) := fun h => h.elim ok he
     rw [if_neg hn, e, if_neg hn]
     exact up_chosen hN _ (h _ _ _ _ _ hv)
theorem up_whole (h : UpT N k T T') (hN : N ≤ N') (ks : List (List It)) (fuel far : Nat) (st : PS) (hv : st.vals ≤ N) : UpR N k (wholeT T N ks fuel far st) (wholeT T' N' ks (fuel + k) far st) := by
 have hK := up_kids h ks fuel far { st with deps := fun _ => (0, 0) } [] hv
 unfold wholeT wholeE
 by_cases ok : (kidsT T ks fuel far { st with deps := fun _ => (0, 0) } []).ok = true
 · have e := hK.up (hK.e0 ok)
   rw [if_pos ok, e, if_pos ok]
   exact up_made hN _ _ _ _ _ (hK.vals ok)
 · rw [if_neg ok]
   exact up_on hK ok _ fun e => by rw [if_neg (by rw [e]; exact ok)]
theorem up_window (h : UpT N k T T') (d : Nat) (kid : List It) (fuel far : Nat) (st : PS) (hv : st.vals ≤ N) : UpR N k (windowT T d kid fuel far st) (windowT T' d kid (fuel + k) far st) := by
 have hK := h fuel far false kid { st with en := st.pl + d } hv
 unfold windowT
 by_cases hd : st.en - st.pl < d
 · rw [if_pos hd, if_pos hd]; exact up_fail _ _ _ _ _ _
 rw [if_neg hd, if_neg hd]
 unfold windowE
 by_cases ok : (T fuel far false kid { st with en := st.pl + d }).ok = true
 · have e := hK.up (hK.e0 ok)
   rw [if_pos ok, e, if_pos ok]
   by_cases h2 : (T fuel far false kid { st with en := st.pl + d }).st.pl ≠ st.pl + d
   · rw [if_pos h2, if_pos h2]; exact up_fail _ _ _ _ _ _
   · rw [if_neg h2, if_neg h2]; exact up_fit _ _ _ _ _ _ (hK.vals ok)
 · rw [if_neg ok]
   exact up_on hK ok _ fun e => by rw [if_neg (by rw [e]; exact ok)]
theorem up_at (h : UpT N k T T') (bs : ByteArray) (d : Nat) (kid : List It) (fuel far : Nat) (st : PS) (hv : st.vals ≤ N) : UpR N k (atT T bs d kid fuel far st) (atT T' bs d kid (fuel + k) far st) := by
 have hK := h fuel far false kid { st with pl := d, en := bs.size } hv
 unfold atT
 by_cases hd : bs.size < d
 · rw [if_pos hd, if_pos hd]; exact up_fail _ _ _ _ _ _
 rw [if_neg hd, if_neg hd]
 unfold atE
 by_cases ok : (T fuel far false kid { st with pl := d, en := bs.size }).ok = true
 · have e := hK.up (hK.e0 ok)
   rw [if_pos ok, e, if_pos ok]
   exact up_fit _ _ _ _ _ _ (hK.vals ok)
 · rw [if_neg ok]
   exact up_on hK ok _ fun e => by rw [if_neg (by rw [e]; exact ok)]
theorem up_summed (h : UpT N k T T') (bs : ByteArray) (d : Nat × Nat) (kid : List It) (fuel far : Nat) (st : PS) (hv : st.vals ≤ N) : UpR N k (summedT T bs d kid fuel far st) (summedT T' bs d kid (fuel + k) far st) := by
 have hK := h fuel far false kid st hv
 unfold summedT summedE
 by_cases ok : (T fuel far false kid st).ok = true
 · have e := hK.up (hK.e0 ok)
   rw [if_pos ok, e, if_pos ok]
   by_cases h2 : sumV (bs.extract st.pl (T fuel far false kid st).st.pl) d.2 (bs.extract st.pl (T fuel far false kid st).st.pl).size ≠ d.1
   · rw [if_pos h2, if_pos h2]; exact up_fail _ _ _ _ _ _
   · rw [if_neg h2, if_neg h2]; exact up_fit _ _ _ _ _ _ (hK.vals ok)
 · rw [if_neg ok]
   exact up_on hK ok _ fun e => by rw [if_neg (by rw [e]; exact ok)]
end
theorem up_try (G : Nat → List It) (bs : ByteArray) {N N' : Nat} (hN : N ≤ N') (k : Nat) : ∀ g g', g ≤ g' → UpT N k (tryT G bs N g) (tryT G bs N' g') := by
 intro g
 induction g with
 | zero => intro g' _ fuel far q s st hv; exact up_dead _ _ _ (by decide) _ _
 | succ g ih =>
  intro g' hg fuel far q s st hv
  obtain ⟨d, rfl⟩ : ∃ d, g' = d + 1 := ⟨g' - 1, by omega⟩
  have hT := ih d (by omega)
  cases s with
  | nil => exact up_dead _ _ _ (by decide) _ _
  | cons x r =>
   cases fuel with
   | zero => exact up_dead _ _ _ (by decide) _ _
   | succ fuel =>
    rw [show fuel + 1 + k = (fuel + k) + 1 by omega, tryT, tryT]
    repeat (first
     | (split; first | exact up_whole hT hN _ _ _ _ hv | exact up_choice hT hN _ _ _ _ _ hv | exact up_many hT hN _ _ _ _ _ _ _ (by omega) hv | exact hT _ _ _ _ _ hv | exact up_times hT hN _ _ _ _ _ _ hv | exact up_window hT _ _ _ _ _ hv | exact up_at hT _ _ _ _ _ _ hv | exact up_summed hT _ _ _ _ _ _ hv)
     | exact up_bytes hN _ _ _ _ _ _ _ hv)
def ErrT (o : PO) : Prop := o.e = 0 ∨ o.e = 6 ∨ o.e = 7
def ErrA (T : Nat → Nat → Bool → List It → PS → PO) : Prop := ∀ fuel far q s st, ErrT (T fuel far q s st)
theorem e_fail (fuel far a : Nat) (st : PS) : ErrT (failO fuel far a st) := Or.inl rfl
theorem e_fit (fuel far : Nat) (st : PS) (t : List UInt8) : ErrT (fitO fuel far st t) := Or.inl rfl
theorem e_dead (st : PS) : ErrT (deadO 6 st) := Or.inr (Or.inl rfl)
theorem e_made (N fuel far : Nat) (st : PS) (t : List UInt8) : ErrT (madeO N fuel far st t) := by
 unfold madeO
 split
 · exact Or.inr (Or.inr rfl)
 · exact Or.inl rfl
theorem e_bytes (bs : ByteArray) (N : Nat) (x : It) (q : Bool) (fuel far : Nat) (st : PS) : ErrT (bytesT bs N x q fuel far st) := by
 unfold bytesT
 repeat' split
 all_goals first | exact e_fail _ _ _ _ | exact e_fit _ _ _ _ | exact e_made _ _ _ _ _
section
variable {T : Nat → Nat → Bool → List It → PS → PO}
theorem e_kids (h : ErrA T) (ks : List (List It)) : ∀ (fuel far : Nat) (st : PS) (t : List UInt8), ErrT (kidsT T ks fuel far st t) := by
 induction ks with
 | nil => intro fuel far st t; exact e_fit _ _ _ _
 | cons a ks ih => intro fuel far st t; rw [kidsT]; split; exact ih _ _ _ _; exact h _ _ _ _ _
theorem e_many (h : ErrA T) (N : Nat) (kid : List It) (c : Nat) : ∀ (fuel far : Nat) (st : PS) (t : List UInt8), ErrT (manyT T N kid c fuel far st t) := by
 induction c with
 | zero => intro fuel far st t; exact e_dead _
 | succ c ih =>
  intro fuel far st t
  rw [manyT]
  split
  · exact h _ _ _ _ _
  · split
    · exact e_made _ _ _ _ _
    · exact ih _ _ _ _
theorem e_times (h : ErrA T) (N : Nat) (kid : List It) (c : Nat) : ∀ (fuel far : Nat) (st : PS) (t : List UInt8), ErrT (timesT T N kid c fuel far st t) := by
 induction c with
 | zero => intro fuel far st t; exact e_made _ _ _ _ _
 | succ c ih => intro fuel far st t; rw [timesT]; split; exact ih _ _ _ _; exact h _ _ _ _ _
theorem e_chosen (N : Nat) (c : UInt8) {o : PO} (h : ErrT o) : ErrT (chosen N c o) := by unfold chosen; split; exact e_made _ _ _ _ _; exact h
theorem e_choice (h : ErrA T) (N : Nat) (k0 k1 : List It) (fuel far : Nat) (st : PS) : ErrT (choiceT T N k0 k1 fuel far st) := by
 unfold choiceT choice2
 split
 · exact e_chosen _ _ (h _ _ _ _ _)
 · exact e_chosen _ _ (h _ _ _ _ _)
theorem e_whole (h : ErrA T) (N : Nat) (ks : List (List It)) (fuel far : Nat) (st : PS) : ErrT (wholeT T N ks fuel far st) := by
 unfold wholeT wholeE
 split
 · exact e_made _ _ _ _ _
 · exact e_kids h _ _ _ _ _
theorem e_window (h : ErrA T) (d : Nat) (kid : List It) (fuel far : Nat) (st : PS) : ErrT (windowT T d kid fuel far st) := by
 unfold windowT windowE
 repeat' split
 all_goals first | exact e_fail _ _ _ _ | exact e_fit _ _ _ _ | exact h _ _ _ _ _
theorem e_at (h : ErrA T) (bs : ByteArray) (d : Nat) (kid : List It) (fuel far : Nat) (st : PS) : ErrT (atT T bs d kid fuel far st) := by
 unfold atT atE
 repeat' split
 all_goals first | exact e_fail _ _ _ _ | exact e_fit _ _ _ _ | exact h _ _ _ _ _
theorem e_summed (h : ErrA T) (bs : ByteArray) (d : Nat × Nat) (kid : List It) (fuel far : Nat) (st : PS) : ErrT (summedT T bs d kid fuel far st) := by
 unfold summedT summedE
 repeat' split
 all_goals first | exact e_fail _ _ _ _ | exact e_fit _ _ _ _ | exact h _ _ _ _ _
end
theorem e_try (G : Nat → List It) (bs : ByteArray) (N : Nat) : ∀ g, ErrA (tryT G bs N g) := by
 intro g
 induction g with
 | zero => intro fuel far q s st; exact e_dead _
 | succ g ih =>
  intro fuel far q s st
  cases s with
  | nil => exact e_dead _
  | cons x r =>
   cases fuel with
   | zero => exact e_dead _
   | succ fuel =>
    rw [tryT]
    repeat' split
    all_goals first | exact e_whole ih _ _ _ _ _ | exact e_choice ih _ _ _ _ _ _ | exact e_many ih _ _ _ _ _ _ _ | exact ih _ _ _ _ _ | exact e_times ih _ _ _ _ _ _ _ | exact e_window ih _ _ _ _ _ | exact e_at ih _ _ _ _ _ _ | exact e_summed ih _ _ _ _ _ _ | exact e_bytes _ _ _ _ _ _ _
end Go.Proofs.YtmlkhhhjdpbhfaaGreatDoor
namespace Go.Proofs.YtmlkhhhjdpbhfaaGreatDoor
open Go.RowKit
theorem firstMiss_refs (th : Nat → Bool) (h1 : th 1 = true) (h2 : th 2 = true) (its : List It) (h : ∀ x, x ∈ its → x.c = 82 → x.r = 1 ∨ x.r = 2) : (firstMiss th its).2 = false := by
 induction its with
 | nil => rfl
 | cons x r ih =>
  rw [firstMiss_cons]
  have hm : missB th x = false := by
   by_cases hc : x.c = 82
   · rcases h x List.mem_cons_self hc with e | e
     · simp [missB, e, h1]
     · simp [missB, e, h2]
   · simp [missB, hc]
  rw [hm]
  exact ih fun y hy => h y (List.mem_cons_of_mem _ hy)
theorem rules_last (s : ByteArray) (k : Nat) (top : Int) (a : Nat) (r : Nat) (its : List It) (h0 : bt s a = 65 + r) (ht : (65 : Int) + r ≤ top) (h1 : bt s (a + 1) = 61) (hp : prs s r (s.size + 1) (a + 2) = ⟨true, s.size, its⟩) : rulesV s (k + 1) top a = ⟨true, s.size, [⟨r, a, its⟩]⟩ := by
 have e : bt s a - 65 = (r : Int) := by omega
 rw [rulesV, e, if_neg (by omega), if_neg (by omega), hp]
 simp
theorem rules_more (s : ByteArray) (k : Nat) (top : Int) (a i : Nat) (r : Nat) (its : List It) (h0 : bt s a = 65 + r) (ht : (65 : Int) + r ≤ top) (h1 : bt s (a + 1) = 61) (hp : prs s r (s.size + 1) (a + 2) = ⟨true, i, its⟩) (hi : i < s.size) (h59 : bt s i = 59) :
 rulesV s (k + 2) top a = (rulesV s (k + 1) 72 (i + 1)).pre [⟨r, a, its⟩] := by
 have e : bt s a - 65 = (r : Int) := by omega
 rw [rulesV, e, if_neg (by omega), if_neg (by omega), hp]
 simp only [not_true, if_false]
 rw [if_neg (by omega), if_neg (by omega)]
theorem made_ok (p1 p2 p3 : ByteArray) (h1 : PtC p1) (h2 : PtC p2) (h3 : PtC p3) (hs : (madeG p1 p2 p3).size ≤ 400) : pressV (madeG p1 p2 p3) = (0, 0) := by
 have hall : TxA (madeG p1 p2 p3) 0 (madeG p1 p2 p3) := TxA.refl _
 have hsz : (madeG p1 p2 p3).size = 8 + p1.size + p2.size + p3.size := by
  unfold madeG; simp only [ByteArray.size_append]
  have a1 : ruleA.size = 2 := rfl
  have a2 : ruleB.size = 3 := rfl
  have a3 : ruleC.size = 3 := rfl
  omega
 obtain ⟨s, es⟩ : ∃ s, s = madeG p1 p2 p3 := ⟨_, rfl⟩
 rw [← es] at hs hsz ⊢
 have c5 : TxA s 0 (ruleA ++ p1 ++ ruleB ++ p2 ++ ruleC ++ p3) := by rw [es]; exact hall
 have a6 : TxA s (5 + 3 + p1.size + p2.size) p3 := by
  have h := c5.snd
  rw [show 5 + 3 + p1.size + p2.size = 0 + (ruleA ++ p1 ++ ruleB ++ p2 ++ ruleC).size by
   simp only [ByteArray.size_append]
   have a1 : ruleA.size = 2 := rfl
   have a2 : ruleB.size = 3 := rfl
   have a3 : ruleC.size = 3 := rfl
   omega]
  exact h
 have a5 : TxA s (5 + p1.size + p2.size) ruleC := by
  have h := c5.fst.snd
  rw [show 5 + p1.size + p2.size = 0 + (ruleA ++ p1 ++ ruleB ++ p2).size by
   simp only [ByteArray.size_append]
   have a1 : ruleA.size = 2 := rfl
   have a2 : ruleB.size = 3 := rfl
   omega]
  exact h
 have a4 : TxA s (5 + p1.size) p2 := by
  have h := c5.fst.fst.snd
  rw [show 5 + p1.size = 0 + (ruleA ++ p1 ++ ruleB).size by
   simp only [ByteArray.size_append]
   have a1 : ruleA.size = 2 := rfl
   have a2 : ruleB.size = 3 := rfl
   omega]
  exact h
 have a3 : TxA s (2 + p1.size) ruleB := by
  have h := c5.fst.fst.fst.snd
  rw [show 2 + p1.size = 0 + (ruleA ++ p1).size by
   simp only [ByteArray.size_append]
   have a1 : ruleA.size = 2 := rfl
   omega]
  exact h
 have a2 : TxA s 2 p1 := c5.fst.fst.fst.fst.snd
 have a1 : TxA s 0 ruleA := c5.fst.fst.fst.fst.fst
 obtain ⟨_, q1, r1⟩ := h1
 obtain ⟨_, q2, r2⟩ := h2
 obtain ⟨_, q3, r3⟩ := h3
 obtain ⟨i1, e1, g1, w1⟩ := r1 s 0 2 (s.size + 1) a2 (by omega)
 obtain ⟨i2, e2, g2, w2⟩ := r2 s 1 (5 + p1.size) (s.size + 1) a4 (by omega)
 obtain ⟨i3, e3, g3, w3⟩ := r3 s 2 (5 + 3 + p1.size + p2.size) (s.size + 1) a6 (by omega)
 have b0 : bt s 0 = 65 := a1 0 (by decide)
 have b1 : bt s 1 = 61 := a1 1 (by decide)
 have b2 : bt s (2 + p1.size) = 59 := a3 0 (by decide)
 have b3 : bt s (2 + p1.size + 1) = 66 := a3 1 (by decide)
 have b4 : bt s (2 + p1.size + 2) = 61 := a3 2 (by decide)
 have b5 : bt s (5 + p1.size + p2.size) = 59 := a5 0 (by decide)
 have b6 : bt s (5 + p1.size + p2.size + 1) = 67 := a5 1 (by decide)
 have b7 : bt s (5 + p1.size + p2.size + 2) = 61 := a5 2 (by decide)
 have hf : formV s = ⟨true, s.size, [⟨0, 0, i1⟩, ⟨1, 2 + p1.size + 1, i2⟩, ⟨2, 5 + p1.size + p2.size + 1, i3⟩]⟩ := by
  unfold formV
  rw [rules_more s 6 65 0 (2 + p1.size) 0 i1 (by rw [b0]; rfl) (by decide) b1 e1 (by omega) b2,
   rules_more s 5 72 (2 + p1.size + 1) (5 + p1.size + p2.size) 1 i2 (by rw [b3]; rfl) (by decide) b4 (by rw [show 2 + p1.size + 1 + 2 = 5 + p1.size by omega]; exact e2) (by omega) b5,
   rules_last s 5 72 (5 + p1.size + p2.size + 1) 2 i3 (by rw [b6]; rfl) (by decide) b7 (by rw [show 5 + p1.size + p2.size + 1 + 2 = 5 + 3 + p1.size + p2.size by omega]; rw [show ((2 : Nat) : Int) = 2 from rfl, e3]; congr 1; omega)]
  simp [RRes.pre]
 unfold pressV
 rw [if_neg (by omega), hf]
 simp only [Bool.true_eq_false, if_false]
 have hth1 : inR [⟨0, 0, i1⟩, ⟨1, 2 + p1.size + 1, i2⟩, ⟨2, 5 + p1.size + p2.size + 1, i3⟩] 1 = true := by simp [inR, hasR]
 have hth2 : inR [⟨0, 0, i1⟩, ⟨1, 2 + p1.size + 1, i2⟩, ⟨2, 5 + p1.size + p2.size + 1, i3⟩] 2 = true := by simp [inR, hasR]
 generalize inR [⟨0, 0, i1⟩, ⟨1, 2 + p1.size + 1, i2⟩, ⟨2, 5 + p1.size + p2.size + 1, i3⟩] = th at *
 have hsc : scanR th [] [⟨0, 0, i1⟩, ⟨1, 2 + p1.size + 1, i2⟩, ⟨2, 5 + p1.size + p2.size + 1, i3⟩] = (0, false) := by
  rw [scanR, if_neg (by simp [hasR]), if_neg (by rw [firstMiss_refs th hth1 hth2 i1 g1.refs]; simp), scanR, if_neg (by simp [hasR]), if_neg (by rw [firstMiss_refs th hth1 hth2 i2 g2.refs]; simp), scanR, if_neg (by simp [hasR]), if_neg (by rw [firstMiss_refs th hth1 hth2 i3 g3.refs]; simp), scanR]
 rw [hsc]
 have hw : wrongD (s.size + 1) [⟨0, 0, i1⟩, ⟨1, 2 + p1.size + 1, i2⟩, ⟨2, 5 + p1.size + p2.size + 1, i3⟩] (0, false) = (0, false) := by
  have l1 := g1.len
  have l2 := g2.len
  have l3 := g3.len
  simp only [wrongD, List.foldl_cons, List.foldl_nil]
  rw [w1 _ _ _ _ (by omega), w2 _ _ _ _ (by omega), w3 _ _ _ _ (by omega)]
 rw [hw]
 simp
theorem endT_kinds (o : PO) (he : ErrT o) : ((endT o).2.1 = 0 ∨ (endT o).2.1 = 8 ∨ (endT o).2.1 = 6 ∨ (endT o).2.1 = 7) ∧ ((endT o).2.1 = 6 ∨ (endT o).2.1 = 7 → (endT o).1 = [] ∧ (endT o).2.2 = 0) ∧ ((endT o).2.1 = 0 ∨ (endT o).2.1 = 8 → o.e = 0) := by
 unfold endT
 by_cases h0 : o.e = 0
 · rw [if_neg (fun h => h h0)]
   by_cases h1 : o.ok = false
   · rw [if_pos h1]; simp [h0]
   · rw [if_neg h1]
     cases o.st.rd.findIdx? (fun b => !b) <;> simp [h0]
 · rw [if_pos h0]
   rcases he with h | h | h
   · exact absurd h h0
   · simp [h]
   · simp [h]
theorem parseV_in (s bs : ByteArray) (n v : Nat) (hp : pressV s = (0, 0)) (hbs : bs.size ≤ 4000) (hn : n ≤ 100000) (hv : v ≤ 10000) :
 parseV s bs n v = ((endT (outT s bs n v)).1, ((endT (outT s bs n v)).2.1 : Int), ((endT (outT s bs n v)).2.2 : Int)) := by
 unfold parseV
 rw [if_neg (by rw [hp]; simp), if_neg (by unfold badBud budB; simp; omega)]
 simp only [Int.toNat_natCast]
theorem bud_zero (s bs : ByteArray) (v : Nat) (hp : pressV s = (0, 0)) (hbs : bs.size ≤ 4000) (hv : v ≤ 10000) : (parseV s bs 0 v).2.1 = 6 := by
 rw [show (0 : Int) = ((0 : Nat) : Int) from rfl, parseV_in s bs 0 v hp hbs (by omega) hv]
 have h : (outT s bs 0 v).e = 6 := by
  unfold outT
  cases rulePt (rlsOf s) 0 <;> rfl
 unfold endT
 rw [if_pos (by rw [h]; decide)]
 simp only [h]
 rfl
theorem bud_up (s bs : ByteArray) (n v k j : Nat) (hp : pressV s = (0, 0)) (hbs : bs.size ≤ 4000) (hn : n + k ≤ 100000) (hv : v + j ≤ 10000) :
 ((parseV s bs n v).2.1 = 0 ∨ (parseV s bs n v).2.1 = 8 ∨ (parseV s bs n v).2.1 = 6 ∨ (parseV s bs n v).2.1 = 7) ∧ ((parseV s bs n v).2.1 = 6 ∨ (parseV s bs n v).2.1 = 7 → (parseV s bs n v).1 = [] ∧ (parseV s bs n v).2.2 = 0) ∧
 ((parseV s bs n v).2.1 = 0 ∨ (parseV s bs n v).2.1 = 8 → parseV s bs ((n : Int) + k) ((v : Int) + j) = parseV s bs n v) := by
 rw [show (n : Int) + k = ((n + k : Nat) : Int) by omega, show (v : Int) + j = ((v + j : Nat) : Int) by omega, parseV_in s bs n v hp hbs (by omega) (by omega), parseV_in s bs (n + k) (v + j) hp hbs hn hv]
 have hk := endT_kinds (outT s bs n v) (e_try _ _ _ _ _ _ _ _ _)
 have hu := up_try (rulePt (rlsOf s)) bs (show v ≤ v + j by omega) k (n + 1) (n + k + 1) (by omega) n 0 false (rulePt (rlsOf s) 0) (st0 bs) (Nat.zero_le _)
 obtain ⟨h1, h2, h3⟩ := hk
 simp only
 refine ⟨by omega, fun h => ?_, fun h => ?_⟩
 · have := h2 (by omega)
   exact ⟨this.1, by omega⟩
 · have e0 := h3 (by omega)
   have e1 : outT s bs (n + k) (v + j) = { outT s bs n v with fuel := (outT s bs n v).fuel + k } := hu.up e0
   rw [e1]
   rfl
theorem plain_ok : pressV ⟨#[65, 61, 110, 49]⟩ = (0, 0) := by decide +kernel
theorem known : parseV ⟨#[65, 61, 40, 110, 49, 108, 50, 41]⟩ ⟨#[5, 1, 2]⟩ 9 9 = ([40, 53, 32, 53, 49, 51, 41], 0, 0) := by decide +kernel
theorem RowN.up {w : World} {a b : Nat} {v : Value} {l : List Int} (h : RowN w a v l) (hab : a ≤ b) : RowN w b v l := by
 obtain ⟨h1, h2, o, cap, h3, h4⟩ := h
 refine ⟨h1, h2, o, cap, h3, fun i hi => ?_⟩
 obtain ⟨g, k, e, hg, hc⟩ := h4 i hi
 exact ⟨g, k, e, by omega, hc⟩
theorem RowN.below {w w' : World} {v : Value} {l : List Int} (h : RowN w w.heap.size v l) (hb : Below w.heap.size w w') : RowN w' w'.heap.size v l := (h.heap fun k hk => hb.block k hk).up hb.size
set_option maxRecDepth 100000 in
set_option maxHeartbeats 1000000 in
theorem parsed_calls (w : World) (hS : Shp w) (hP : PowW w) : Calls Tryz.prog 15 #[] w fun e w' => e = .returned (.bool true) ∧ Below w.heap.size w w' := by
 have HC := hide' (pface_calls ⟨#[65, 61, 40, 110, 49, 108, 50, 41]⟩ ⟨#[5, 1, 2]⟩ (by unfold maxLen; decide) (by unfold maxLen; decide) 9 9 w hS hP)
 rw [known] at HC
 clear hS hP
 go_enter Tryz.func15, Tryz.ntmps15
 go_wp2_with fail
 refine HC.out.mono ?_
 rintro e w1 ⟨rfl, hb⟩
 have HB := hide' hb
 clear hb HC
 go_wp2_with fail
 go_ret
 exact ⟨rfl, HB.out⟩
set_option maxRecDepth 100000 in
set_option maxHeartbeats 2000000 in
theorem budgeted_calls (w : World) (v1 v2 : Value) (l1 l2 : List Int) (h1 : RowN w w.heap.size v1 l1) (h2 : RowN w w.heap.size v2 l2) (fuel more nodes others : Int)
 (hf : -9223372036854775808 ≤ fuel ∧ fuel ≤ 9223372036854775807) (hm : -9223372036854775808 ≤ more ∧ more ≤ 9223372036854775807) (hn : -9223372036854775808 ≤ nodes ∧ nodes ≤ 9223372036854775807) (ho : -9223372036854775808 ≤ others ∧ others ≤ 9223372036854775807)
 (hS : Shp w) (hP : PowW w) :
 Calls Tryz.prog 4 #[v1, v2, .int .i64 fuel, .int .i64 more, .int .i64 nodes, .int .i64 others] w fun e w' => e = .returned (.bool true) ∧ Below w.heap.size w w' := by
 have H1 := hide' h1
 have H2 := hide' h2
 have Hf := hide' hf
 have Hm := hide' hm
 have Hn := hide' hn
 have Ho := hide' ho
 have HS := hide' hS
 have HP := hide' hP
 clear h1 h2 hf hm hn ho hS hP
 go_enter Tryz.func4, Tryz.ntmps4
 go_wp2_with fail
 refine (grammar_calls w v1 l1 H1.out).mono ?_
 rintro e w1 ⟨⟨p1, p2, p3, hp1, hp2, hp3, hor⟩, hb1⟩
 obtain ⟨g, hg, hgs, rfl⟩ : ∃ g : ByteArray, pressV g = (0, 0) ∧ g.size ≤ 400 ∧ e = .returned (.string g) := by
  rcases hor with ⟨_, he⟩ | ⟨hs, he⟩
  · exact ⟨_, plain_ok, by decide, he⟩
  · exact ⟨_, made_ok p1 p2 p3 hp1 hp2 hp3 hs, hs, he⟩
 have HG := hide' hg
 have HB1 := hide' hb1
 clear hp1 hp2 hp3 hor hg hb1
 go_wp2_with fail
 refine (kbytes_calls w1 v2 l2 (H2.out.below HB1.out)).mono ?_
 rintro e w2 ⟨⟨b, hbs, rfl⟩, hb2⟩
 have HB2 := hide' (HB1.out.trans (hb2.mono HB1.out.size))
 clear hb2 HB1
 go_wp2_with fail
 refine (pickN_calls fuel 100001 Hf.out.1 Hf.out.2 (by omega) (by omega) _).mono ?_
 rintro e w3 ⟨n, hn, rfl, hw3⟩
 rw [hw3]
 clear hw3 w3
 go_wp2_with fail
 refine (pickN_calls nodes 10001 Hn.out.1 Hn.out.2 (by omega) (by omega) _).mono ?_
 rintro e w3 ⟨v, hv, rfl, hw3⟩
 rw [hw3]
 clear hw3 w3
 have HS2 := hide' (HS.out.below HB2.out)
 have HP2 := hide' (HP.out.below HB2.out)
 go_wp2_with fail
 refine (pface_calls g b (by unfold maxLen; omega) (by unfold maxLen; omega) n v w2 HS2.out HP2.out).mono ?_
 rintro e w4 ⟨rfl, hb4⟩
 have HB4 := hide' (HB2.out.trans (hb4.mono HB2.out.size))
 clear hb4
 go_wp2_with fail
 refine (pickN_calls more (100001 - n) Hm.out.1 Hm.out.2 (by omega) (by omega) _).mono ?_
 rintro e w5 ⟨k, hk, rfl, hw5⟩
 rw [hw5]
 clear hw5 w5
 go_wp2_with fail
 refine (pickN_calls others (10001 - v) Ho.out.1 Ho.out.2 (by omega) (by omega) _).mono ?_
 rintro e w5 ⟨j, hj, rfl, hw5⟩
 rw [hw5]
 clear hw5 w5
 have HU := hide' (bud_up g b n v k j HG.out (by omega) (by omega) (by omega))
 have HZ := hide' (bud_zero g b v HG.out (by omega) (by omega))
 go_wp2_with fail
 refine (pface_calls g b (by unfold maxLen; omega) (by unfold maxLen; omega) (n + k) (v + j) w4 (HS.out.below HB4.out) (HP.out.below HB4.out)).mono ?_
 rintro e w6 ⟨rfl, hb6⟩
 have HB6 := hide' (HB4.out.trans (hb6.mono HB4.out.size))
 clear hb6
 go_wp2_with fail
 refine (pface_calls g b (by unfold maxLen; omega) (by unfold maxLen; omega) 0 v w6 (HS.out.below HB6.out) (HP.out.below HB6.out)).mono ?_
 rintro e w7 ⟨rfl, hb7⟩
 have HB7 := hide' (HB6.out.trans (hb7.mono HB6.out.size))
 clear hb7
 go_wp2_with fail
 refine (parsed_calls w7 (HS.out.below HB7.out) (HP.out.below HB7.out)).mono ?_
 rintro e w8 ⟨rfl, hb8⟩
 have HB8 := hide' (HB7.out.trans (hb8.mono HB7.out.size))
 clear hb8 HB7 HB6 HB4 HB2 HS HP HS2 HP2
 generalize parseV g b n v = q1 at *
 generalize parseV g b ((n : Int) + k) ((v : Int) + j) = q2 at *
 generalize parseV g b 0 v = q3 at *
 obtain ⟨t1, e1, a1⟩ := q1
 obtain ⟨t3, e3, a3⟩ := q3
 obtain ⟨u1, u2, u3⟩ := HU.out
 obtain rfl : e3 = 6 := HZ.out
 clear HU HZ
 simp only at u1 u2 u3 ⊢
 rcases u1 with rfl | rfl | rfl | rfl
 · obtain rfl := u3 (Or.inl rfl)
   clear u2 u3
   go_wp2_with fail
   go_ret
   exact ⟨by simp, HB8.out⟩
 · obtain rfl := u3 (Or.inr rfl)
   clear u2 u3
   go_wp2_with fail
   go_ret
   exact ⟨by simp, HB8.out⟩
 · obtain ⟨rfl, rfl⟩ := u2 (Or.inl rfl)
   clear u2 u3
   go_wp2_with fail
   go_ret
   exact ⟨by simp, HB8.out⟩
 · obtain ⟨rfl, rfl⟩ := u2 (Or.inr rfl)
   clear u2 u3
   go_wp2_with fail
   go_ret
   exact ⟨by simp, HB8.out⟩
end Go.Proofs.YtmlkhhhjdpbhfaaGreatDoor
namespace Go.Proofs.YtmlkhhhjdpbhfaaGreatDoor
open Go.ChangeShapes Go.WideShapes Go.ChangeAt Go.WideMaps Go.WideElems Go.RowKit
section
variable {H : Type} {enc : TypeId × Value → H} {P : Program} {w : World} {base : Nat} {spare : Nat → Bool} {held : Bool} {t t1 t2 t3 t4 t5 : TypeId}
theorem trodAll_six {args : Array Value} {ds : List (DataW H)} {ps : List MemPlace} (h : DataW.TrodAll enc P w base spare held [t, t1, t2, t3, t4, t5] args.toList ds ps) :
 ∃ v v1 v2 v3 v4 v5 d d1 d2 d3 d4 d5 p p1 p2 p3 p4 p5, args = #[v, v1, v2, v3, v4, v5] ∧ ds = [d, d1, d2, d3, d4, d5] ∧ ps = p ++ (p1 ++ (p2 ++ (p3 ++ (p4 ++ p5)))) ∧ DataW.Trod enc P w base spare held t v d p ∧ DataW.Trod enc P w base spare held t1 v1 d1 p1 ∧ DataW.Trod enc P w base spare held t2 v2 d2 p2 ∧ DataW.Trod enc P w base spare held t3 v3 d3 p3 ∧ DataW.Trod enc P w base spare held t4 v4 d4 p4 ∧ DataW.Trod enc P w base spare held t5 v5 d5 p5 := by
 obtain ⟨v, vs, d, ds0, p, q, hargs, rfl, rfl, hd, hr0⟩ := trodAll_cons h
 obtain ⟨v1, vs1, d1, ds1, p1, q1, rfl, rfl, rfl, hd1, hr1⟩ := trodAll_cons hr0
 obtain ⟨v2, vs2, d2, ds2, p2, q2, rfl, rfl, rfl, hd2, hr2⟩ := trodAll_cons hr1
 obtain ⟨v3, vs3, d3, ds3, p3, q3, rfl, rfl, rfl, hd3, hr3⟩ := trodAll_cons hr2
 obtain ⟨v4, vs4, d4, ds4, p4, q4, rfl, rfl, rfl, hd4, hr4⟩ := trodAll_cons hr3
 obtain ⟨v5, vs5, d5, ds5, p5, q5, rfl, rfl, rfl, hd5, hr5⟩ := trodAll_cons hr4
 obtain ⟨rfl, rfl, rfl⟩ := trodAll_nil hr5
 exact ⟨v, v1, v2, v3, v4, v5, d, d1, d2, d3, d4, d5, p, p1, p2, p3, p4, p5, by cases args; simp_all, rfl, by simp, hd, hd1, hd2, hd3, hd4, hd5⟩
theorem trodAll_mk6 {v v1 v2 v3 v4 v5 : Value} {d d1 d2 d3 d4 d5 : DataW H} {p p1 p2 p3 p4 p5 : List MemPlace} (h : DataW.Trod enc P w base spare held t v d p) (h1 : DataW.Trod enc P w base spare held t1 v1 d1 p1)
 (h2 : DataW.Trod enc P w base spare held t2 v2 d2 p2) (h3 : DataW.Trod enc P w base spare held t3 v3 d3 p3) (h4 : DataW.Trod enc P w base spare held t4 v4 d4 p4) (h5 : DataW.Trod enc P w base spare held t5 v5 d5 p5) : DataW.TrodAll enc P w base spare held [t, t1, t2, t3, t4, t5] [v, v1, v2, v3, v4, v5] [d, d1, d2, d3, d4, d5] (p ++ (p1 ++ (p2 ++ (p3 ++ (p4 ++ p5))))) :=
 ⟨p, p1 ++ (p2 ++ (p3 ++ (p4 ++ p5))), h, ⟨p1, p2 ++ (p3 ++ (p4 ++ p5)), h1, trodAll_mk4 h2 h3 h4 h5, rfl⟩, rfl⟩
end
set_option maxRecDepth 100000 in
theorem bud_lifted (os : Os) (started : os.Started) (H : Type) (enc : TypeId × Value → H) :
 ReturnsInHanded {} Tryz.checked os 4 .any (fun w args => (Rows.budgetedSpec.pre enc Tryz.prog Tryz.f4 [] false w args ∧ laidMetH Tryz.prog lawLaid w) ∧ sizedMet enc Tryz.prog Tryz.f4 (OpenSpec.ofChange Rows.budgetedSpec) false w args)
  (Rows.budgetedSpec.post enc Tryz.prog Tryz.f4 false true false false) := by
 refine returnsInHanded_of_change_and (C := Tryz.checked) (X := fun w _ => laidMetH Tryz.prog lawLaid w) (fun _ _ _ hh h => h.of_heap hh) law_own started (by kernel_rfl) Tryz.func4
  (ChangeSpec.witness_at (enc := enc) (C := Tryz.checked) (os := os) (X := fun w _ => laidMetH Tryz.prog lawLaid w) false ({ World.holding Tryz.prog os ⟨#[], #[], []⟩ with heap := parHeap (World.holding Tryz.prog os ⟨#[], #[], []⟩).heap } : World) #[.slice none 0 0, .slice none 0 0, .int .i64 0, .int .i64 0, .int .i64 0, .int .i64 0] 8 rfl (by kernel_rfl) (by kernel_rfl) (by kernel_rfl) (by kernel_rfl) (by kernel_rfl) (laidWorld_met os _)) ?_
 intro W base args ds gs before hval0 hW _ _ hL _
 have hval : ∀ (j : Nat) t v, Tryz.f4.params[j]? = some t → args[j]? = some v → Value.okWide Tryz.prog W .any base t v := hval0
 have hW' := hW
 obtain ⟨p, q, hA0, hV, rfl, hfz, hnd⟩ := hW
 have hA : DataW.TrodAll enc Tryz.prog W 0 (fun _ => true) true Tryz.f4.params.toList args.toList ds p := hA0
 rw [Tryz.params4] at hA hval
 obtain ⟨v0, v1, v2, v3, v4, v5, d0, d1, d2, d3, d4, d5, p0, p1, p2, p3, p4, p5, rfl, rfl, rfl, h0, h1, h2, h3, h4, h5⟩ := trodAll_six hA
 obtain ⟨rfl, rfl⟩ := trodVars_none hV
 obtain ⟨l0, r0, lt0⟩ := open_nums (okWide_slice Tryz.underlying24 (hval 0 24 v0 rfl rfl)) h0
 obtain ⟨l1, r1, lt1⟩ := open_nums (okWide_slice Tryz.underlying24 (hval 1 24 v1 rfl rfl)) h1
 obtain ⟨a2, rfl, rfl, rfl, w2⟩ := open_int Tryz.underlying3 (hval 2 3 v2 rfl rfl) h2
 obtain ⟨a3, rfl, rfl, rfl, w3⟩ := open_int Tryz.underlying3 (hval 3 3 v3 rfl rfl) h3
 obtain ⟨a4, rfl, rfl, rfl, w4⟩ := open_int Tryz.underlying3 (hval 4 3 v4 rfl rfl) h4
 obtain ⟨a5, rfl, rfl, rfl, w5⟩ := open_int Tryz.underlying3 (hval 5 3 v5 rfl rfl) h5
 have hS := shp_of hL
 have hP := pow_of hL
 clear hA0 hval0
 refine (budgeted_calls W v0 v1 l0 l1 r0 r1 a2 a3 a4 a5 (wf64 w2) (wf64 w3) (wf64 w4) (wf64 w5) hS hP).mono fun e W' ⟨he, bel⟩ => ?_
 subst he
 exact ⟨_, rfl, _, _, _, [], _, [], hW', trodAll_mk1 (shut_bool Tryz.underlying4 _), trodAll_mk6 (Below.trod keep_laidOut (by kernel_rfl) (of_decide_eq_true (by kernel_rfl)) h0 bel lt0) (Below.trod keep_laidOut (by kernel_rfl) (of_decide_eq_true (by kernel_rfl)) h1 bel lt1) (shut_int Tryz.underlying3 w2) (shut_int Tryz.underlying3 w3) (shut_int Tryz.underlying3 w4) (shut_int Tryz.underlying3 w5), rfl, bel.frame _, fun h => by cases h⟩
theorem budgeted_said : Rows.BudgetedSaid :=
 OpenClaim.holds_of_wide 4 Tryz.f4 rfl rfl rfl rfl rfl rfl rfl ⟨rfl, rfl, rfl, rfl, rfl⟩ rfl rfl rfl rfl rfl (by kernel_rfl) Tryz.func4 (by kernel_rfl)
  (of_decide_eq_true (by kernel_rfl)) (by unfold Func.isWrapper; first | (rw [if_pos (by decide +kernel)]; kernel_rfl) | (rw [if_neg (by decide +kernel)]; exact ⟨rfl, rfl⟩))
  (fun os started H enc _ => bud_lifted os started H enc)
theorem budgeted_holds : Rows.BudgetedCardSaid :=
 Claim7.holds_tied_plain_at .later [] [.data, .data, .data, .data] true (true, "6a1fd465f3fb11445f3add34bf3257ad4baedfe3326c66bb6f54bb55eadbdcba") true
  budgeted_said (fun _ h => by cases h) (by kernel_rfl) (fun _ h => by cases h) budgeted_row_tie rfl ⟨rfl, rfl⟩ (by kernel_rfl) rfl
  (fun f fn hf hfn => by
    obtain rfl : f = 4 := Option.some.inj ((show Tryz.prog.funcNamed Rows.budgetedRow.func = some 4 by kernel_rfl).symm.trans hf) |>.symm
    obtain rfl : fn = Tryz.f4 := (Option.some.inj (Tryz.func4.symm.trans hfn)).symm
    exact ⟨by kernel_rfl, fun j t ht => by
     rw [Tryz.params4] at ht
     have h9 : t = 24 ∨ t = 3 := by
      rcases j with _ | _ | _ | _ | _ | _ | j
      · exact Or.inl (by simpa using ht.symm)
      · exact Or.inl (by simpa using ht.symm)
      · exact Or.inr (by simpa using ht.symm)
      · exact Or.inr (by simpa using ht.symm)
      · exact Or.inr (by simpa using ht.symm)
      · exact Or.inr (by simpa using ht.symm)
      · simp at ht
     rcases h9 with rfl | rfl
     · exact (show Tryz.prog.wantsStandIn 24 = false by kernel_rfl)
     · exact (show Tryz.prog.wantsStandIn 3 = false by kernel_rfl)⟩)
  (by kernel_rfl)
#print axioms budgeted_holds
end Go.Proofs.YtmlkhhhjdpbhfaaGreatDoor

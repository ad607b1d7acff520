/- All names come back; cut short not all do; a pointer that does not lead below is refused. -/
import Derived.Test.YtmlkhhhjdpbhfaaDoorNmPlain
namespace Go.Proofs.YtmlkhhhjdpbhfaaDoor
open Go.RowKit

theorem findE_append_some {ends more : List (List UInt8 × Nat)} {l : List UInt8} {p : Nat} (h : findE (ends ++ more) l = some p) : findE ends l = some p ∨ (findE ends l = none ∧ ∃ q ∈ more, q.1 = l ∧ q.2 = p) := by
  unfold findE at *
  rw [List.find?_append] at h
  cases hf : ends.find? (fun q => q.1 == l) with
  | some q => rw [hf] at h; left; simpa using h
  | none =>
    right
    rw [hf] at h
    refine ⟨rfl, ?_⟩
    simp only [Option.none_or] at h
    obtain ⟨q, hq, hp⟩ := Option.map_eq_some_iff.1 h
    exact ⟨q, List.mem_of_find?_eq_some hq, by have := List.find?_some hq; simpa using this, hp⟩

/-- one name more: what it adds, and that the state is good again -/
theorem packN_good (st : List UInt8 × List (List UInt8 × Nat)) (hg : Good st) (h16 : st.1.length ≤ 15900) (l : List UInt8) (hl : nmOk l = true) :
    Good (packN l st) ∧ ∃ w, (packN l st).1 = st.1 ++ w ∧ w ≠ [] ∧ ∀ rest, nameF (bs (st.1 ++ w ++ rest)) st.1.length st.1.length = some (labsOf l, st.1.length + w.length) := by
  have hl2 : l.length ≤ 60 ∧ (pieces l).all (fun p => lblOk (bs p)) = true := by unfold nmOk at hl; simpa using hl
  obtain ⟨w, more, hw, hwn, hr, hm⟩ := pack_reads st hg (by omega) (l.length + 1) l st [] [] (by omega) (by simp) (by simp) (fun q hq => by simp at hq) hl2.2
  have hpn : packN l st = (st.1 ++ w, st.2 ++ more) := hw
  rw [hpn]
  refine ⟨fun x p hx => ?_, w, rfl, hwn, fun rest => hr rest st.1.length (Nat.le_refl _)⟩
  simp only at hx ⊢
  rcases findE_append_some hx with hx | ⟨_, q, hq, rfl, rfl⟩
  · obtain ⟨h1, h2⟩ := hg x p hx
    refine ⟨by simp; omega, fun rest => ?_⟩
    obtain ⟨e, he⟩ := h2 (w ++ rest)
    exact ⟨e, by rw [List.append_assoc]; exact he⟩
  · obtain ⟨m1, m2, _, m4⟩ := hm q hq
    exact ⟨by simp; omega, fun rest => ⟨_, m4 rest q.2 m1⟩⟩

theorem good_nil : Good ([], []) := fun l p h => by cases h

theorem joinN_pieces : ∀ (n : Nat) (l : List UInt8), l.length ≤ n → (pieces l).all (fun p => lblOk (bs p)) = true → joinN [] (labsOf l) = l := by
  intro n
  induction n with
  | zero =>
    intro l h hp
    have := (lbl_len (pieces_head hp).1).1
    rw [List.length_take] at this
    omega
  | succ n ih =>
    intro l h hp
    obtain ⟨h1, h2⟩ := pieces_head hp
    have hdl := dotAt_le l
    have hk := lbl_len h1
    by_cases hd : dotAt l = l.length
    · rw [labsOf_stop hd, joinN, if_pos rfl, joinN, bs_list]
    · have hr := ih (l.drop (dotAt l + 1)) (by rw [List.length_drop]; omega) (h2 hd)
      have hne : l.take (dotAt l) ≠ [] := by intro e; rw [e] at hk; simp at hk
      have hne2 : labsOf (l.drop (dotAt l + 1)) ≠ [] := by unfold labsOf; rw [pieces_eq]; simp
      have hok : ∀ t ∈ labsOf (l.drop (dotAt l + 1)), lblOk t = true := by
        intro t ht
        unfold labsOf at ht
        obtain ⟨p, hp1, rfl⟩ := List.mem_map.1 ht
        exact List.all_eq_true.1 (h2 hd) p hp1
      have hdot := joinN_nil _ hok
      rw [if_neg hne2, hr] at hdot
      rw [labsOf_go hd, joinN, if_pos rfl, bs_list, joinN_ne _ hne, hdot]
      have hlt : dotAt l < l.length := by omega
      have h46 : l[dotAt l] = 46 := by
        have : ∀ (l : List UInt8) (h : dotAt l < l.length), l[dotAt l] = 46 := by
          intro l
          induction l with
          | nil => intro h; simp at h
          | cons c r ih =>
            intro h
            by_cases hc : c = 46
            · have e : dotAt (c :: r) = 0 := by rw [dotAt_cons, if_pos hc]
              simp only [e, List.getElem_cons_zero]
              exact hc
            · have e : dotAt (c :: r) = dotAt r + 1 := by rw [dotAt_cons, if_neg hc]
              have h' : dotAt r < r.length := by rw [e] at h; simpa using h
              simp only [e, List.getElem_cons_succ]
              exact ih h'
        exact this l hlt
      conv => rhs; rw [← List.take_append_drop (dotAt l) l, List.drop_eq_getElem_cons hlt, h46]

theorem nameT_of {s : ByteArray} {a e : Nat} {l : List UInt8} (hl : nmOk l = true) (h : nameF s a a = some (labsOf l, e)) : nameT s a = some (bs l, e) := by
  have hl2 : l.length ≤ 60 ∧ (pieces l).all (fun p => lblOk (bs p)) = true := by unfold nmOk at hl; simpa using hl
  have h1 := lbl_len (pieces_head hl2.2).1
  rw [List.length_take] at h1
  unfold nameT
  rw [h]
  simp only
  rw [joinN_pieces l.length l (Nat.le_refl _) hl2.2, if_pos (by omega)]
  rfl

/-- the states along a list of names -/
theorem packL_good (ns : List (List UInt8)) (h : ns.all nmOk = true) (h40 : ns.length ≤ 40) : ∀ i, i ≤ ns.length → Good (packL (ns.take i)) := by
  intro i
  induction i with
  | zero => intro _; exact good_nil
  | succ i ih =>
    intro hi
    have hl := (packL_inv ns h i (by omega)).2
    rw [packL_take ns i (by omega)]
    exact (packN_good _ (ih (by omega)) (by omega) _ (List.all_eq_true.1 h _ (List.getElem_mem (by omega)))).1

/-- the i-th name of what was packed, whatever stands behind -/
theorem name_back (ns : List (List UInt8)) (h : ns.all nmOk = true) (h40 : ns.length ≤ 40) (i : Nat) (hi : i < ns.length) :
    (packL (ns.take i)).1.length < (packL (ns.take (i + 1))).1.length ∧ ∀ rest, nameT (bs ((packL (ns.take (i + 1))).1 ++ rest)) (packL (ns.take i)).1.length = some (bs ns[i], (packL (ns.take (i + 1))).1.length) := by
  have hl := (packL_inv ns h i (by omega)).2
  have hn : nmOk ns[i] = true := List.all_eq_true.1 h _ (List.getElem_mem hi)
  obtain ⟨_, w, hw, hwn, hr⟩ := packN_good _ (packL_good ns h h40 i (by omega)) (by omega) ns[i] hn
  have hwl : 0 < w.length := List.length_pos_iff.2 hwn
  rw [packL_take ns i hi, hw]
  refine ⟨by simp; omega, fun rest => ?_⟩
  rw [List.length_append]
  exact nameT_of hn (hr rest)

/-- what was packed first stands ahead of what was packed later -/
theorem packL_pre (ns : List (List UInt8)) (h : ns.all nmOk = true) (h40 : ns.length ≤ 40) : ∀ d i, i + d ≤ ns.length → ∃ w, (packL (ns.take (i + d))).1 = (packL (ns.take i)).1 ++ w := by
  intro d
  induction d with
  | zero => intro i _; exact ⟨[], by simp⟩
  | succ d ih =>
    intro i hi
    obtain ⟨w, hw⟩ := ih i (by omega)
    have hl := (packL_inv ns h (i + d) (by omega)).2
    have hn : nmOk ns[i + d] = true := List.all_eq_true.1 h _ (List.getElem_mem (by omega))
    obtain ⟨_, v, hv, _⟩ := packN_good _ (packL_good ns h h40 (i + d) (by omega)) (by omega) ns[i + d] hn
    refine ⟨w ++ v, ?_⟩
    rw [show i + (d + 1) = i + d + 1 by omega, packL_take ns (i + d) (by omega), hv, hw, List.append_assoc]

/-- reading from the i-th name on: to the end of the names, then on -/
theorem names_back (ns : List (List UInt8)) (h : ns.all nmOk = true) (h40 : ns.length ≤ 40) (rest : List UInt8) : ∀ d i, i + d = ns.length →
    namesF (bs ((packL ns).1 ++ rest)) (packL (ns.take i)).1.length i = match namesF (bs ((packL ns).1 ++ rest)) (packL ns).1.length ns.length with | .inl l => .inl ((ns.drop i).map bs ++ l) | .inr p => .inr p := by
  intro d
  induction d with
  | zero =>
    intro i hi
    have hii : i = ns.length := by omega
    subst hii
    rw [List.take_of_length_le (Nat.le_refl _), List.drop_of_length_le (Nat.le_refl _)]
    cases namesF (bs ((packL ns).1 ++ rest)) (packL ns).1.length ns.length <;> rfl
  | succ d ih =>
    intro i hi
    have hlt : i < ns.length := by omega
    obtain ⟨h1, h2⟩ := name_back ns h h40 i hlt
    obtain ⟨w, hw⟩ := packL_pre ns h h40 d (i + 1) (by omega)
    rw [show i + 1 + d = ns.length by omega, List.take_of_length_le (Nat.le_refl _)] at hw
    have hT := h2 (w ++ rest)
    rw [← List.append_assoc, ← hw] at hT
    have hsz : (packL (ns.take i)).1.length < (bs ((packL ns).1 ++ rest)).size := by rw [bs_size, List.length_append, hw, List.length_append]; omega
    rw [namesF_some hsz hT (by omega), ih (i + 1) (by omega), List.drop_eq_getElem_cons hlt]
    cases namesF (bs ((packL ns).1 ++ rest)) (packL ns).1.length ns.length <;> rfl

theorem packL_len (ns : List (List UInt8)) (h : ns.all nmOk = true) (h40 : ns.length ≤ 40) : (packL ns).1.length ≤ 2480 := by
  have := (packL_inv ns h ns.length (Nat.le_refl _)).2
  rw [List.take_of_length_le (Nat.le_refl _)] at this
  omega

theorem unp_back (ns : List (List UInt8)) (h : ns.all nmOk = true) (h40 : ns.length ≤ 40) : unpV (bs (packL ns).1) = (ns.map bs, 0, 0) := by
  have hl := packL_len ns h h40
  refine unpV_inl (by rw [bs_size]; omega) ?_
  have := names_back ns h h40 [] ns.length 0 (by omega)
  rw [List.append_nil, namesF_end (p := (packL ns).1.length) (by rw [bs_size]; omega), List.drop_zero] at this
  simp only [List.append_nil] at this
  exact this

/-- a name whose endings were not written before is written in full -/
theorem pack_full : ∀ (f : Nat) (l : List UInt8) (st : List UInt8 × List (List UInt8 × Nat)), l.length < f → (∀ q ∈ st.2, l.length < q.1.length) → ∃ w more, packF f l st = (st.1 ++ w ++ [0], st.2 ++ (l, st.1.length) :: more) ∧ w.length = l.length + 1 := by
  intro f
  induction f with
  | zero => intro l st h; omega
  | succ f ih =>
    intro l st hf h3
    have hdl := dotAt_le l
    have hno : findE st.2 l = none := by
      have := findE_long (ends := []) (extra := st.2) (l := l) h3
      rw [List.nil_append] at this
      rw [this]; rfl
    by_cases hd : dotAt l = l.length
    · refine ⟨UInt8.ofNat (dotAt l) :: l.take (dotAt l), [], packF_stop hno hd, ?_⟩
      rw [List.length_cons, List.length_take]; omega
    · obtain ⟨w, more, hw, hl⟩ := ih (l.drop (dotAt l + 1)) (st.1 ++ UInt8.ofNat (dotAt l) :: l.take (dotAt l), st.2 ++ [(l, st.1.length)]) (by rw [List.length_drop]; omega) (fun q hq => by
        rw [List.length_drop]
        rcases List.mem_append.1 hq with hq | hq
        · have := h3 q hq; omega
        · simp at hq; subst hq; simp only; omega)
      refine ⟨UInt8.ofNat (dotAt l) :: l.take (dotAt l) ++ w, (l.drop (dotAt l + 1), (st.1 ++ UInt8.ofNat (dotAt l) :: l.take (dotAt l)).length) :: more, ?_, ?_⟩
      · rw [packF_go hno hd, hw]
        simp
      · rw [List.length_append, List.length_cons, List.length_take, hl, List.length_drop]; omega

/-- the endings only grow -/
theorem packF_ends : ∀ (f : Nat) (l : List UInt8) (st : List UInt8 × List (List UInt8 × Nat)), ∃ more, (packF f l st).2 = st.2 ++ more := by
  intro f
  induction f with
  | zero => intro l st; exact ⟨[], by simp [packF]⟩
  | succ f ih =>
    intro l st
    cases hf : findE st.2 l with
    | some p => rw [packF_hit hf]; exact ⟨[], by simp⟩
    | none =>
      by_cases hd : dotAt l = l.length
      · rw [packF_stop hf hd]; exact ⟨_, rfl⟩
      · rw [packF_go hf hd]
        obtain ⟨more, hm⟩ := ih (l.drop (dotAt l + 1)) (st.1 ++ UInt8.ofNat (dotAt l) :: l.take (dotAt l), st.2 ++ [(l, st.1.length)])
        exact ⟨_, by rw [hm, List.append_assoc]⟩

theorem packL_first (n0 : List UInt8) (ns : List (List UInt8)) : ∃ w more, (packN n0 ([], [])) = (w ++ [0], (n0, 0) :: more) ∧ w.length = n0.length + 1 ∧ ∃ more2, (packL (n0 :: ns)).2 = (n0, 0) :: more2 := by
  obtain ⟨w, more, hw, hl⟩ := pack_full (n0.length + 1) n0 ([], []) (by omega) (fun q hq => by simp at hq)
  have hN : packN n0 ([], []) = (w ++ [0], (n0, 0) :: more) := by
    show packF _ _ _ = _
    rw [hw]; simp
  refine ⟨w, more, hN, hl, ?_⟩
  have key : ∀ (ns : List (List UInt8)) (st : List UInt8 × List (List UInt8 × Nat)), ∃ m, (ns.foldl (fun st n => packN n st) st).2 = st.2 ++ m := by
    intro ns
    induction ns with
    | nil => intro st; exact ⟨[], by simp⟩
    | cons n ns ih =>
      intro st
      obtain ⟨m, hm⟩ := ih (packN n st)
      obtain ⟨m2, hm2⟩ := packF_ends (n.length + 1) n st
      exact ⟨m2 ++ m, by rw [List.foldl_cons, hm]; show (packF _ _ _).2 ++ m = _; rw [hm2, List.append_assoc]⟩
  obtain ⟨m, hm⟩ := key ns (packN n0 ([], []))
  refine ⟨more ++ m, ?_⟩
  unfold packL
  rw [List.foldl_cons, hm, hN]
  rfl

/-- the first name once more is two bytes -/
theorem pack_again (n0 : List UInt8) (ns : List (List UInt8)) : (packL ((n0 :: ns) ++ [n0])).1 = (packL (n0 :: ns)).1 ++ [192, 0] := by
  obtain ⟨_, _, _, _, more2, h⟩ := packL_first n0 ns
  rw [packL_snoc]
  have hf : findE (packL (n0 :: ns)).2 n0 = some 0 := by rw [h]; simp [findE]
  show (packF (n0.length + 1) n0 (packL (n0 :: ns))).1 = _
  rw [packF_hit hf]
  rfl

/-- what was packed opens with the first name in full -/
theorem pack_open (n0 : List UInt8) (ns : List (List UInt8)) (h : (n0 :: ns).all nmOk = true) (h40 : (n0 :: ns).length ≤ 40) : ∃ w v, (packL (n0 :: ns)).1 = w ++ [0] ++ v ∧ w.length = n0.length + 1 := by
  obtain ⟨w, more, hN, hl, _⟩ := packL_first n0 ns
  obtain ⟨v, hv⟩ := packL_pre (n0 :: ns) h h40 ns.length 1 (by simp; omega)
  rw [List.take_of_length_le (by simp; omega)] at hv
  refine ⟨w, v, ?_, hl⟩
  rw [hv]
  have : packL ((n0 :: ns).take 1) = packN n0 ([], []) := rfl
  rw [this, hN]

/-- a name that is read whole in a piece is read so in all of it -/
theorem nameG_more (s t : List UInt8) : ∀ f a below r, nameG (bs s) f a below = some r → nameG (bs (s ++ t)) f a below = some r := by
  have hb : ∀ i, i < s.length → bt (bs (s ++ t)) i = bt (bs s) i := by
    intro i hi
    have h1 := bt_mid [] s t i hi
    have h2 := bt_mid [] s [] i hi
    simp only [List.nil_append, List.length_nil, Nat.zero_add, List.append_nil] at h1 h2
    rw [h1, h2]
  have hbn : ∀ i, i < s.length → btN (bs (s ++ t)) i = btN (bs s) i := fun i hi => by unfold btN; rw [hb i hi]
  have hex : ∀ i j, i ≤ j → j ≤ s.length → (bs (s ++ t)).extract i j = (bs s).extract i j := by
    intro i j hij hj
    rw [bs_extract, bs_extract]
    congr 1
    rw [List.drop_append, List.take_append_of_le_length (by rw [List.length_drop]; omega)]
  have hs1 : (bs s).size = s.length := bs_size s
  have hs2 : (bs (s ++ t)).size = s.length + t.length := by rw [bs_size]; simp
  intro f
  induction f with
  | zero => intro a below r h; cases h
  | succ f ih =>
    intro a below r h
    rw [nameG] at h ⊢
    by_cases ha : a < s.length
    · rw [if_pos (by rw [hs1]; exact ha)] at h
      rw [if_pos (by rw [hs2]; omega), hb a ha]
      by_cases h0 : bt (bs s) a = 0
      · rw [if_pos h0] at h ⊢; exact h
      · rw [if_neg h0] at h ⊢
        by_cases h1 : 192 ≤ bt (bs s) a
        · rw [if_pos h1] at h ⊢
          by_cases h2 : a + 1 < (bs s).size ∧ ptrV (bs s) a < below
          · rw [if_pos h2] at h
            have hp : ptrV (bs (s ++ t)) a = ptrV (bs s) a := by unfold ptrV; rw [hbn a ha, hbn (a + 1) (by rw [← hs1]; exact h2.1)]
            rw [hp, if_pos ⟨by rw [hs2]; have := h2.1; rw [hs1] at this; omega, h2.2⟩]
            obtain ⟨q, hq, rfl⟩ := Option.map_eq_some_iff.1 h
            rw [ih _ _ q hq]; rfl
          · rw [if_neg h2] at h; cases h
        · rw [if_neg h1] at h ⊢
          by_cases h3 : labV (bs s) a = true
          · rw [if_pos h3] at h
            have hin : a + btN (bs s) a < s.length := by unfold labV at h3; simp at h3; rw [← hs1]; exact h3.1.2.2.2
            have he := hex (a + 1) (a + 1 + btN (bs s) a) (by omega) (by omega)
            have h3' : labV (bs (s ++ t)) a = true := by
              unfold labV at h3 ⊢
              rw [hb a ha, hbn a ha, he, hs2]
              rw [hs1] at h3
              simp at h3 ⊢
              exact ⟨⟨by omega, h3.1.2.1, h3.1.2.2.1, by omega⟩, h3.2⟩
            rw [if_pos h3', hbn a ha, he]
            obtain ⟨q, hq, rfl⟩ := Option.map_eq_some_iff.1 h
            rw [ih _ _ q hq]; rfl
          · rw [if_neg h3] at h; cases h
    · rw [if_neg (by rw [hs1]; exact ha)] at h; cases h

theorem nameF_more (s t : List UInt8) (a below : Nat) (r : List ByteArray × Nat) (h : nameF (bs s) a below = some r) : nameF (bs (s ++ t)) a below = some r := by
  unfold nameF at *
  have h1 := nameG_more s t _ a below r h
  have hm : measN (bs s) a below ≤ measN (bs (s ++ t)) a below := by
    unfold measN
    rw [bs_size, bs_size, List.length_append]
    have : below * (s.length + 1) ≤ below * (s.length + t.length + 1) := Nat.mul_le_mul_left _ (by omega)
    omega
  have hmono : ∀ f g a below r, f ≤ g → nameG (bs (s ++ t)) f a below = some r → nameG (bs (s ++ t)) g a below = some r := by
    intro f
    induction f with
    | zero => intro g a below r _ h; cases h
    | succ f ih =>
      intro g a below r hfg h
      cases g with
      | zero => omega
      | succ g =>
        rw [nameG] at h ⊢
        split at h
        · rename_i ha
          rw [if_pos ha]
          split at h
          · rename_i h0; rw [if_pos h0]; exact h
          · rename_i h0
            rw [if_neg h0]
            split at h
            · rename_i h1
              rw [if_pos h1]
              split at h
              · rename_i h2
                rw [if_pos h2]
                obtain ⟨q, hq, rfl⟩ := Option.map_eq_some_iff.1 h
                rw [ih g _ _ q (by omega) hq]; rfl
              · cases h
            · rename_i h1
              rw [if_neg h1]
              split at h
              · rename_i h2
                rw [if_pos h2]
                obtain ⟨q, hq, rfl⟩ := Option.map_eq_some_iff.1 h
                rw [ih g _ _ q (by omega) hq]; rfl
              · cases h
        · cases h
  exact hmono _ _ a below r hm h1

theorem nameT_more (s t : List UInt8) (a : Nat) (r : ByteArray × Nat) (h : nameT (bs s) a = some r) : nameT (bs (s ++ t)) a = some r := by
  unfold nameT at h
  cases hf : nameF (bs s) a a with
  | none => rw [hf] at h; cases h
  | some q =>
    obtain ⟨ls, e⟩ := q
    rw [hf] at h
    unfold nameT
    rw [nameF_more s t a a _ hf]
    exact h

/-- cut short not all names are read -/
theorem cut_short (ns : List (List UInt8)) (h : ns.all nmOk = true) (h40 : ns.length ≤ 40) (k : Nat) (hk : k < (packL ns).1.length) : ∀ d i l, i + d = ns.length → (packL (ns.take i)).1.length ≤ k → namesF (bs ((packL ns).1.take k)) (packL (ns.take i)).1.length i = .inl l → i + l.length < ns.length := by
  have hsz : (bs ((packL ns).1.take k)).size = k := by rw [bs_size, List.length_take]; omega
  intro d
  induction d with
  | zero =>
    intro i l hi ha _
    rw [show i = ns.length by omega, List.take_of_length_le (Nat.le_refl _)] at ha
    omega
  | succ d ih =>
    intro i l hi ha hl
    have hlt : i < ns.length := by omega
    by_cases hak : (packL (ns.take i)).1.length = k
    · rw [namesF_end (by rw [hsz]; omega)] at hl
      cases hl
      simpa using hlt
    · have ha2 : (packL (ns.take i)).1.length < (bs ((packL ns).1.take k)).size := by rw [hsz]; omega
      cases hn : nameT (bs ((packL ns).1.take k)) (packL (ns.take i)).1.length with
      | none => rw [namesF_none ha2 hn] at hl; cases hl
      | some r =>
        obtain ⟨x, e⟩ := r
        have hn2 := nameT_more _ ((packL ns).1.drop k) _ _ hn
        rw [List.take_append_drop] at hn2
        obtain ⟨h1, h2⟩ := name_back ns h h40 i hlt
        obtain ⟨w, hw⟩ := packL_pre ns h h40 d (i + 1) (by omega)
        rw [show i + 1 + d = ns.length by omega, List.take_of_length_le (Nat.le_refl _)] at hw
        have h3 := h2 w
        rw [← hw, hn2] at h3
        have he : e = (packL (ns.take (i + 1))).1.length := by injection h3 with h3; injection h3
        have hok := (nameT_ok _ _ _ hn).2
        simp only at hok
        rw [hsz] at hok
        rw [namesF_some ha2 hn (by omega), he] at hl
        cases hr : namesF (bs ((packL ns).1.take k)) (packL (ns.take (i + 1))).1.length (i + 1) with
        | inr p => rw [hr] at hl; cases hl
        | inl l2 =>
          rw [hr] at hl
          have := ih (i + 1) l2 (by omega) (by omega) hr
          simp only [preS, Sum.inl.injEq] at hl
          subst hl
          simp; omega

theorem unp_short (ns : List (List UInt8)) (h : ns.all nmOk = true) (h40 : ns.length ≤ 40) (hn : ns ≠ []) (k : Nat) (hk : k < (packL ns).1.length) : (unpV (bs ((packL ns).1.take k))).1.length < ns.length ∧ ((unpV (bs ((packL ns).1.take k))).2.1 = 0 ∨ (unpV (bs ((packL ns).1.take k))).2.1 = 14) := by
  have hl := packL_len ns h h40
  have hpos : 0 < ns.length := List.length_pos_iff.2 hn
  have hsz : ¬ 4000 < (bs ((packL ns).1.take k)).size := by rw [bs_size, List.length_take]; omega
  cases hr : namesF (bs ((packL ns).1.take k)) 0 0 with
  | inl l =>
    rw [unpV_inl hsz hr]
    have := cut_short ns h h40 k hk ns.length 0 l (by omega) (by show 0 ≤ k; omega) hr
    exact ⟨by simpa using this, Or.inl rfl⟩
  | inr p =>
    rw [unpV_inr hsz hr]
    exact ⟨by simpa using hpos, Or.inr rfl⟩

/-- a pointer that does not lead below the name's beginning -/
theorem unp_bad (ns : List (List UInt8)) (h : ns.all nmOk = true) (h40 : ns.length ≤ 40) (p : Nat) (hp : (packL ns).1.length ≤ p) (hp2 : p < 16384) : unpV (bs ((packL ns).1 ++ ptrB p)) = ([], 14, ((packL ns).1.length : Int)) := by
  have hl := packL_len ns h h40
  have hsz : (bs ((packL ns).1 ++ ptrB p)).size = (packL ns).1.length + 2 := by rw [bs_size]; simp [ptrB]
  refine unpV_inr (by rw [hsz]; omega) ?_
  have hb := names_back ns h h40 (ptrB p) ns.length 0 (by omega)
  have hlast : namesF (bs ((packL ns).1 ++ ptrB p)) (packL ns).1.length ns.length = .inr (packL ns).1.length := by
    refine namesF_none (by rw [hsz]; omega) ?_
    unfold nameT
    have := ptr_at (packL ns).1 [] p (packL ns).1.length hp2
    rw [List.append_nil, if_neg (by omega)] at this
    rw [this]
  rw [hlast] at hb
  exact hb

end Go.Proofs.YtmlkhhhjdpbhfaaDoor

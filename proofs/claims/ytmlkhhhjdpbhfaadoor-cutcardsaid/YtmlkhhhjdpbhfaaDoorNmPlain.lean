/- What was packed is read back: plain mathematics. -/
import Derived.Test.YtmlkhhhjdpbhfaaDoorPkAll
import Derived.Test.YtmlkhhhjdpbhfaaDoorUnUnp
namespace Go.Proofs.YtmlkhhhjdpbhfaaDoor
open Go.RowKit

def labsOf (l : List UInt8) : List ByteArray := (pieces l).map bs

/-- bytes of a text that is given by parts -/
theorem bt_mid (a b c : List UInt8) (i : Nat) (h : i < b.length) : bt (bs (a ++ b ++ c)) (a.length + i) = (b[i].toNat : Int) := by
  rw [bt_in _ _ (by rw [bs_size]; simp; omega)]
  have e : (bs (a ++ b ++ c))[a.length + i]'(by rw [bs_size]; simp; omega) = b[i] := by
    show (a ++ b ++ c).toArray[a.length + i]'(by simp; omega) = b[i]
    simp only [List.getElem_toArray]
    rw [List.getElem_append_left (by simp; omega), List.getElem_append_right (by omega)]
    congr 1
    omega
  rw [e]

theorem btN_mid (a b c : List UInt8) (i : Nat) (h : i < b.length) : btN (bs (a ++ b ++ c)) (a.length + i) = b[i].toNat := by
  unfold btN; rw [bt_mid a b c i h]; simp

theorem ex_mid (a b c : List UInt8) : (bs (a ++ b ++ c)).extract a.length (a.length + b.length) = bs b := by
  rw [bs_extract, List.append_assoc, List.drop_left' rfl, Nat.add_sub_cancel_left, List.take_left' rfl]

/-- a label at a place -/
theorem lab_at (a l c : List UInt8) (hl : lblOk (bs l) = true) (hc : c ≠ []) (below : Nat) :
    nameF (bs (a ++ UInt8.ofNat l.length :: l ++ c)) a.length below = (nameF (bs (a ++ UInt8.ofNat l.length :: l ++ c)) (a.length + 1 + l.length) below).map fun r => (bs l :: r.1, r.2) := by
  obtain ⟨h1, h15⟩ := lbl_len hl
  have hk : (UInt8.ofNat l.length).toNat = l.length := by rw [UInt8.toNat_ofNat']; omega
  have hb : bt (bs (a ++ UInt8.ofNat l.length :: l ++ c)) a.length = (l.length : Int) := by
    have := bt_mid a (UInt8.ofNat l.length :: l) c 0 (by simp)
    rw [Nat.add_zero] at this
    rw [this]
    simp only [List.getElem_cons_zero, hk]
  have hbn : btN (bs (a ++ UInt8.ofNat l.length :: l ++ c)) a.length = l.length := by unfold btN; rw [hb]; simp
  have hex : (bs (a ++ UInt8.ofNat l.length :: l ++ c)).extract (a.length + 1) (a.length + 1 + l.length) = bs l := by
    have := ex_mid (a ++ [UInt8.ofNat l.length]) l c
    simp only [List.append_assoc, List.cons_append, List.nil_append, List.length_append, List.length_cons, List.length_nil] at this ⊢
    exact this
  have hsz : (bs (a ++ UInt8.ofNat l.length :: l ++ c)).size = a.length + 1 + l.length + c.length := by rw [bs_size]; simp; omega
  have hcl : 0 < c.length := List.length_pos_iff.2 hc
  have hlv : labV (bs (a ++ UInt8.ofNat l.length :: l ++ c)) a.length = true := by
    unfold labV
    rw [hbn, hb, hex, hl, hsz]
    simp; omega
  rw [nameF_lab (by rw [hb]; omega) (by rw [hb]; omega) hlv, hbn, hex]

theorem zero_at (a c : List UInt8) (below : Nat) : nameF (bs (a ++ [0] ++ c)) a.length below = some ([], a.length + 1) := by
  refine nameF_zero (by rw [bs_size]; simp) ?_
  have := bt_mid a [0] c 0 (by simp)
  rw [Nat.add_zero] at this
  rw [this]; rfl

theorem ptr_at (a c : List UInt8) (p below : Nat) (hp : p < 16384) : nameF (bs (a ++ ptrB p ++ c)) a.length below = if p < below then (nameF (bs (a ++ ptrB p ++ c)) p p).map fun r => (r.1, a.length + 2) else none := by
  have h0 := bt_mid a (ptrB p) c 0 (by simp [ptrB])
  rw [Nat.add_zero] at h0
  have e0 : ((ptrB p)[0]'(by simp [ptrB])).toNat = 192 + p / 256 := by simp only [ptrB, List.getElem_cons_zero]; rw [UInt8.toNat_ofNat']; omega
  have e1 : ((ptrB p)[1]'(by simp [ptrB])).toNat = p % 256 := by simp only [ptrB, List.getElem_cons_succ, List.getElem_cons_zero]; rw [UInt8.toNat_ofNat']; omega
  have n0 : btN (bs (a ++ ptrB p ++ c)) a.length = 192 + p / 256 := by have := btN_mid a (ptrB p) c 0 (by simp [ptrB]); rw [Nat.add_zero] at this; rw [this, e0]
  have n1 : btN (bs (a ++ ptrB p ++ c)) (a.length + 1) = p % 256 := by rw [btN_mid a (ptrB p) c 1 (by simp [ptrB]), e1]
  have hpt : ptrV (bs (a ++ ptrB p ++ c)) a.length = p := by unfold ptrV; rw [n0, n1]; omega
  have hsz : (bs (a ++ ptrB p ++ c)).size = a.length + 2 + c.length := by rw [bs_size]; simp [ptrB]; omega
  rw [nameF_ptr (by rw [hsz]; omega) (by rw [h0, e0]; omega)]
  unfold ledF
  rw [hpt, hsz]
  by_cases h : p < below
  · rw [if_pos ⟨by omega, h⟩, if_pos h]
  · rw [if_neg (fun e => h e.2), if_neg h]

/-- each ending of a finished state reads as what it is, whatever stands behind -/
def Good (st : List UInt8 × List (List UInt8 × Nat)) : Prop := ∀ l p, findE st.2 l = some p → p < st.1.length ∧ ∀ rest, ∃ e, nameF (bs (st.1 ++ rest)) p p = some (labsOf l, e)

theorem findE_long {ends : List (List UInt8 × Nat)} {extra : List (List UInt8 × Nat)} {l : List UInt8} (h : ∀ q ∈ extra, l.length < q.1.length) : findE (ends ++ extra) l = findE ends l := by
  unfold findE
  rw [List.find?_append]
  have : extra.find? (fun q => q.1 == l) = none := by
    rw [List.find?_eq_none]
    intro q hq e
    have := h q hq
    simp at e
    rw [e] at this
    omega
  rw [this]
  simp

theorem labsOf_stop {l : List UInt8} (h : dotAt l = l.length) : labsOf l = [bs l] := by
  unfold labsOf
  rw [pieces_eq, if_pos h, h, List.take_of_length_le (Nat.le_refl _)]
  rfl
theorem labsOf_go {l : List UInt8} (h : ¬ dotAt l = l.length) : labsOf l = bs (l.take (dotAt l)) :: labsOf (l.drop (dotAt l + 1)) := by
  unfold labsOf
  rw [pieces_eq, if_neg h]
  rfl

/-- one name more, from state st, st0 being the last finished one -/
theorem pack_reads (st0 : List UInt8 × List (List UInt8 × Nat)) (hg : Good st0) (h16 : st0.1.length ≤ 16000) : ∀ (f : Nat) (l : List UInt8) (st : List UInt8 × List (List UInt8 × Nat)) (extra : List (List UInt8 × Nat)) (mid : List UInt8),
    l.length < f → st.1 = st0.1 ++ mid → st.2 = st0.2 ++ extra → (∀ q ∈ extra, l.length < q.1.length) → (pieces l).all (fun p => lblOk (bs p)) = true →
    ∃ w more, packF f l st = (st.1 ++ w, st.2 ++ more) ∧ w ≠ [] ∧ (∀ rest below, st0.1.length ≤ below → nameF (bs (st.1 ++ w ++ rest)) st.1.length below = some (labsOf l, st.1.length + w.length)) ∧
      ∀ q ∈ more, st.1.length ≤ q.2 ∧ q.2 < st.1.length + w.length ∧ q.1.length ≤ l.length ∧ ∀ rest below, st0.1.length ≤ below → nameF (bs (st.1 ++ w ++ rest)) q.2 below = some (labsOf q.1, st.1.length + w.length) := by
  intro f
  induction f with
  | zero => intro l st extra mid h; omega
  | succ f ih =>
    intro l st extra mid hf h1 h2 h3 h4
    obtain ⟨hhead, htail⟩ := pieces_head h4
    have hlb := lbl_len hhead
    have hdl := dotAt_le l
    rw [List.length_take, Nat.min_eq_left hdl] at hlb
    have hfe : findE st.2 l = findE st0.2 l := by rw [h2]; exact findE_long h3
    cases hff : findE st0.2 l with
    | some p =>
      obtain ⟨hp, hrd⟩ := hg l p hff
      refine ⟨ptrB p, [], by rw [packF_hit (hfe.trans hff), List.append_nil], by simp [ptrB], fun rest below hb => ?_, fun q hq => by simp at hq⟩
      rw [ptr_at st.1 rest p below (by omega), if_pos (by omega)]
      obtain ⟨e, he⟩ := hrd (mid ++ ptrB p ++ rest)
      rw [h1]
      simp only [List.append_assoc] at he ⊢
      rw [he]
      rfl
    | none =>
      have hno := hfe.trans hff
      by_cases hd : dotAt l = l.length
      · have hw : packF (f + 1) l st = (st.1 ++ (UInt8.ofNat l.length :: l ++ [0]), st.2 ++ [(l, st.1.length)]) := by
          rw [packF_stop hno hd, hd, List.take_of_length_le (Nat.le_refl _), List.append_assoc]
        have hok : lblOk (bs l) = true := by rw [hd, List.take_of_length_le (Nat.le_refl _)] at hhead; exact hhead
        have hread : ∀ rest below, nameF (bs (st.1 ++ (UInt8.ofNat l.length :: l ++ [0]) ++ rest)) st.1.length below = some (labsOf l, st.1.length + (UInt8.ofNat l.length :: l ++ [0]).length) := by
          intro rest below
          have e1 := lab_at st.1 l ([0] ++ rest) hok (by simp) below
          have e2 := zero_at (st.1 ++ UInt8.ofNat l.length :: l) rest below
          simp only [List.append_assoc, List.cons_append, List.nil_append, List.length_append, List.length_cons] at e1 e2 ⊢
          rw [show st.1.length + 1 + l.length = st.1.length + (l.length + 1) by omega, e2] at e1
          rw [e1, labsOf_stop hd]
          simp; omega
        refine ⟨_, _, hw, by simp, fun rest below _ => hread rest below, fun q hq => ?_⟩
        simp at hq
        subst hq
        exact ⟨Nat.le_refl _, by simp, Nat.le_refl _, fun rest below _ => hread rest below⟩
      · have hk : (l.take (dotAt l)).length = dotAt l := by rw [List.length_take, Nat.min_eq_left hdl]
        obtain ⟨w, more, hw, hwn, hr, hm⟩ := ih (l.drop (dotAt l + 1)) (st.1 ++ UInt8.ofNat (dotAt l) :: l.take (dotAt l), st.2 ++ [(l, st.1.length)]) (extra ++ [(l, st.1.length)]) (mid ++ UInt8.ofNat (dotAt l) :: l.take (dotAt l))
          (by rw [List.length_drop]; omega) (by simp only; rw [h1, List.append_assoc]) (by simp only; rw [h2, List.append_assoc]) (fun q hq => by
            rw [List.length_drop]
            rcases List.mem_append.1 hq with hq | hq
            · have := h3 q hq; omega
            · simp at hq; subst hq; simp only; omega) (htail hd)
        simp only at hw hr hm
        have hlen : (st.1 ++ UInt8.ofNat (dotAt l) :: l.take (dotAt l)).length = st.1.length + 1 + dotAt l := by rw [List.length_append, List.length_cons, hk]; omega
        have hwl : (UInt8.ofNat (dotAt l) :: l.take (dotAt l) ++ w).length = 1 + dotAt l + w.length := by rw [List.length_append, List.length_cons, hk]; omega
        have hread : ∀ rest below, st0.1.length ≤ below → nameF (bs (st.1 ++ (UInt8.ofNat (dotAt l) :: l.take (dotAt l) ++ w) ++ rest)) st.1.length below = some (labsOf l, st.1.length + (UInt8.ofNat (dotAt l) :: l.take (dotAt l) ++ w).length) := by
          intro rest below hb
          have e1 := lab_at st.1 (l.take (dotAt l)) (w ++ rest) hhead (by simp [hwn]) below
          have e2 := hr rest below hb
          rw [hk] at e1
          rw [hlen] at e2
          have a1 : st.1 ++ (UInt8.ofNat (dotAt l) :: l.take (dotAt l) ++ w) ++ rest = st.1 ++ UInt8.ofNat (dotAt l) :: l.take (dotAt l) ++ (w ++ rest) := by simp
          have a2 : st.1 ++ UInt8.ofNat (dotAt l) :: l.take (dotAt l) ++ w ++ rest = st.1 ++ UInt8.ofNat (dotAt l) :: l.take (dotAt l) ++ (w ++ rest) := by simp
          rw [a2] at e2
          rw [a1, e1, e2, labsOf_go hd, hwl]
          simp; omega
        refine ⟨UInt8.ofNat (dotAt l) :: l.take (dotAt l) ++ w, (l, st.1.length) :: more, ?_, by simp, hread, fun q hq => ?_⟩
        · rw [packF_go hno hd, hw]
          simp
        · rcases List.mem_cons.1 hq with hq | hq
          · subst hq
            exact ⟨Nat.le_refl _, by rw [hwl]; simp only; omega, Nat.le_refl _, hread⟩
          · obtain ⟨m1, m2, m3, m4⟩ := hm q hq
            rw [hlen] at m1 m2
            rw [List.length_drop] at m3
            refine ⟨by omega, by rw [hwl]; omega, by omega, fun rest below hb => ?_⟩
            have e2 := m4 rest below hb
            have a2 : st.1 ++ UInt8.ofNat (dotAt l) :: l.take (dotAt l) ++ w ++ rest = st.1 ++ (UInt8.ofNat (dotAt l) :: l.take (dotAt l) ++ w) ++ rest := by simp
            rw [a2, hlen] at e2
            rw [e2, hwl]
            simp; omega

end Go.Proofs.YtmlkhhhjdpbhfaaDoor

/- Contracts of labels.Pack and press.PackNames. -/
import Derived.Test.YtmlkhhhjdpbhfaaDoorPkLoop
import Derived.Test.YtmlkhhhjdpbhfaaDoorUnRow
import Derived.Test.YtmlkhhhjdpbhfaaDoorUnUnp
namespace Go.Proofs.YtmlkhhhjdpbhfaaDoor
open Go.RowKit

theorem packF_inv : ∀ (f : Nat) (l : List UInt8) (st : List UInt8 × List (List UInt8 × Nat)), l.length < f → EndsIn st → EndsIn (packF f l st) ∧ (packF f l st).1.length ≤ st.1.length + l.length + 2 := by
  intro f
  induction f with
  | zero => intro l st h; omega
  | succ f ih =>
    intro l st hl h
    have hd := dotAt_le l
    cases hf : findE st.2 l with
    | some p => rw [packF_hit hf]; exact ⟨h.more _, by simp [ptrB]⟩
    | none =>
      by_cases hdl : dotAt l = l.length
      · rw [packF_stop hf hdl]
        exact ⟨(h.lab l (l.take (dotAt l)) _).more [0], by simp; omega⟩
      · rw [packF_go hf hdl]
        obtain ⟨h1, h2⟩ := ih (l.drop (dotAt l + 1)) _ (by rw [List.length_drop]; omega) (h.lab l (l.take (dotAt l)) (UInt8.ofNat (dotAt l)))
        refine ⟨h1, ?_⟩
        simp at h2
        omega

theorem packL_snoc (ns : List (List UInt8)) (n : List UInt8) : packL (ns ++ [n]) = packN n (packL ns) := by simp [packL, List.foldl_append]

theorem packL_take (ns : List (List UInt8)) (i : Nat) (h : i < ns.length) : packL (ns.take (i + 1)) = packN ns[i] (packL (ns.take i)) := by
  rw [List.take_succ_eq_append_getElem h, packL_snoc]

theorem packL_inv (ns : List (List UInt8)) (h : ns.all nmOk = true) : ∀ i, i ≤ ns.length → EndsIn (packL (ns.take i)) ∧ (packL (ns.take i)).1.length ≤ 62 * i := by
  intro i
  induction i with
  | zero => intro _; exact ⟨⟨by simp [packL], fun q hq => by simp [packL] at hq⟩, by simp [packL]⟩
  | succ i ih =>
    intro hi
    obtain ⟨h1, h2⟩ := ih (by omega)
    have hn : nmOk ns[i] = true := List.all_eq_true.1 h _ (List.getElem_mem (by omega))
    have hn60 : ns[i].length ≤ 60 := by unfold nmOk at hn; simp at hn; exact hn.1
    rw [packL_take ns i (by omega)]
    obtain ⟨h3, h4⟩ := packF_inv (ns[i].length + 1) ns[i] (packL (ns.take i)) (by omega) h1
    refine ⟨h3, ?_⟩
    show (packF (ns[i].length + 1) ns[i] (packL (ns.take i))).1.length ≤ _
    omega

/-- are the first k names names? -/
def nmTo (ns : List (List UInt8)) (k : Nat) : Bool := (ns.take k).all nmOk
theorem nmTo_succ (ns : List (List UInt8)) (k : Nat) (h : k < ns.length) : nmTo ns (k + 1) = (nmTo ns k && nmOk ns[k]) := by
  unfold nmTo
  rw [List.take_succ_eq_append_getElem h, List.all_append]
  simp
theorem nmTo_no (ns : List (List UInt8)) (k : Nat) (h : nmTo ns k = false) : ns.all nmOk = false := by
  rw [← List.take_append_drop k ns, List.all_append]
  unfold nmTo at h
  rw [h]; rfl
theorem nmTo_all (ns : List (List UInt8)) (k : Nat) (hk : ns.length ≤ k) : nmTo ns k = ns.all nmOk := by
  unfold nmTo
  rw [List.take_of_length_le hk]

def listsOf (l : List ByteArray) : List (List UInt8) := l.map fun b => b.data.toList
theorem listsOf_length (l : List ByteArray) : (listsOf l).length = l.length := by simp [listsOf]
theorem listsOf_get (l : List ByteArray) (i : Nat) (h : i < l.length) : (listsOf l)[i]'(by rw [listsOf_length]; exact h) = l[i].data.toList := by simp [listsOf]

def PkRes (r : ByteArray × Int) (w : World) (e : Ending) (w' : World) : Prop := e = .returned (.tuple #[.string r.1, .int .i64 r.2]) ∧ Below w.heap.size w w'

theorem packV_long {ns : List (List UInt8)} (h : 40 < ns.length) : packV ns = (ByteArray.empty, 1) := by unfold packV; rw [if_pos h]
theorem packV_no {ns : List (List UInt8)} (h : ¬ 40 < ns.length) (h2 : ns.all nmOk = false) : packV ns = (ByteArray.empty, 14) := by unfold packV; rw [if_neg h, if_neg (by simp [h2])]
theorem packV_ok {ns : List (List UInt8)} (h : ¬ 40 < ns.length) (h2 : ns.all nmOk = true) : packV ns = (bs (packL ns).1, 0) := by unfold packV; rw [if_neg h, if_pos h2]

set_option maxRecDepth 100000 in
/-- string(b) of a row of one's own, also of none -/
theorem nm_conv0 {w : World} {B : Nat} {p : Option Addr} {n cap : Nat} {l : List UInt8} (h : w.ownsRow B 5 1 (.slice p n cap) l.length (byC l)) : (convert 39 9 (.slice p n cap)).run Tryd.prog w = .ok (.string (bs l)) w := by
  by_cases h0 : 0 < l.length
  · exact nm_conv (owns_low h (Nat.zero_le _)) h0
  · have hl : l = [] := List.eq_nil_of_length_eq_zero (by omega)
    subst hl
    rcases h.2 with ⟨e, _⟩ | ⟨g, cap', cur, e, _⟩
    · injection e with e1 e2 e3
      subst e1 e2 e3
      rw [run_convert_bytes_string w 39 9 5 none 0 0 Tryd.underlying39 Tryd.underlying5 Tryd.underlying9]
      rfl
    · injection e with e1 e2 e3
      subst e1 e2 e3
      exact run_convert_bytes_back w 39 9 5 ⟨g, 0, none⟩ cap [] Tryd.underlying39 Tryd.underlying5 Tryd.underlying9 fun j hj => by simp at hj

set_option maxRecDepth 100000 in
set_option maxHeartbeats 4000000 in
theorem packAll_calls (w : World) (v : Value) (l : List ByteArray) (hv : RowS w v l) (hlm : l.length ≤ maxLen) (hsz : ∀ b ∈ l, b.size ≤ maxLen) (hM : MxW w) :
    Calls Tryd.prog 20 #[v] w fun e w' => PkRes (packV (listsOf l)) w e w' := by
  unfold maxLen at hlm
  obtain ⟨p, cap, rfl⟩ := hv.form
  have HLo := hid_of (listsOf_length l)
  by_cases h40 : 40 < l.length
  · have h40' : 40 < (l.length : Int) := by omega
    have HV := hid_of (packV_long (ns := listsOf l) (by rw [HLo.out]; exact h40))
    go_enter Tryd.func20, Tryd.ntmps20
    go_wp2_with fail
    go_ret2
    exact ⟨by rw [HV.out]; rfl, Below.refl _ _⟩
  have h40' : ¬ 40 < (l.length : Int) := by omega
  have HRow := hid_of hv
  have HSz := hid_of hsz
  have HM := hid_of hM
  have h1w := hM.lt
  clear hv hsz hM
  have hcell : ∀ (w1 : World), Below w.heap.size w w1 → ∀ i (hi : i < l.length), ∃ g o, p = some ⟨g, o, none⟩ ∧ w1.cell? ⟨g, o + i, none⟩ = some (.string l[i]) := fun w1 hb i hi => by
    rcases HRow.out with ⟨h1, h2⟩ | ⟨g, o, cap', h1, h2⟩
    · rw [h2] at hi; simp at hi
    · injection h1 with h1
      refine ⟨g, o, h1, ?_⟩
      have hc := h2 i hi
      rw [World.cell?_of_block (w := w) (hb.block g (World.block_lt_of_cell? w _ hc))]
      exact hc
  have HCell := hid_of hcell
  clear hcell
  have hl40 : l.length ≤ 40 := by omega
  go_enter Tryd.func20, Tryd.ntmps20
  go_wp2_with fail
  go_loopw [14, 5] (fun v14 _ wr => ∃ (W : World) (i : Nat), W = wr ∧ v14 = .int .i64 i ∧ i ≤ l.length ∧ Hid (nmTo (listsOf l) i = true) ∧ Hid (Below w.heap.size w W)) (fun v14 _ _ => l.length - (intOf v14).toNat)
  case atStart => exact ⟨_, 0, rfl, rfl, by omega, (show nmTo (listsOf l) 0 = true by rfl), Below.refl _ _⟩
  case round =>
    obtain ⟨wr, i, hwr, rfl, hi, h1, h2⟩ := hrel
    subst hwr
    by_cases hlt : i < l.length
    · have hlt' : (i : Int) < (l.length : Int) := by omega
      obtain ⟨g, o, hp, ci⟩ := HCell.out wr h2.out i hlt
      subst hp
      have HSu := hid_of (p := nmTo (listsOf l) (i + 1) = (nmTo (listsOf l) i && nmOk l[i].data.toList)) (by rw [nmTo_succ _ _ (by rw [HLo.out]; exact hlt), listsOf_get l i hlt])
      have HSi := hid_of (HSz.out l[i] (List.getElem_mem hlt))
      generalize hb : l[i] = b at *
      clear hb
      cases ho : nmOk b.data.toList
      · have HO := hid_of ho
        clear ho
        go_wp2_with fail
        refine (isName_calls b HSi.out wr (HM.out.below h2.out h1w)).mono ?_
        rintro e w2 ⟨rfl, hb2⟩
        have HB2 := hid_of hb2
        have HV := hid_of (p := packV (listsOf l) = (ByteArray.empty, 14)) (packV_no (by rw [HLo.out]; omega) (nmTo_no _ (i + 1) (by rw [HSu.out, HO.out, Bool.and_false])))
        clear hb2
        rw [HO.out]
        simp only
        go_wp2_with fail
        go_ret2
        have hs2 := h2.out.size
        exact ⟨by rw [HV.out]; rfl, h2.out.trans ⟨HB2.out.os, HB2.out.tape, HB2.out.output, HB2.out.size, fun k hk => HB2.out.block k (by omega)⟩⟩
      · have HO := hid_of ho
        clear ho
        go_wp2_with fail
        refine (isName_calls b HSi.out wr (HM.out.below h2.out h1w)).mono ?_
        rintro e w2 ⟨rfl, hb2⟩
        have HB2 := hid_of hb2
        clear hb2
        rw [HO.out]
        simp only
        go_wp2_with fail
        go_roundw
        case rel => exact ⟨w2, i + 1, rfl, by go_num, by omega, (show nmTo (listsOf l) (i + 1) = true by rw [HSu.out, HO.out, h1.out]; rfl), (show Below w.heap.size w w2 from h2.out.trans ⟨HB2.out.os, HB2.out.tape, HB2.out.output, HB2.out.size, fun k hk => HB2.out.block k (by have := h2.out.size; omega)⟩)⟩
        case measure => simp [intOf]; omega
    · have hlt' : ¬ (i : Int) < (l.length : Int) := by omega
      have HAll := hid_of (p := (listsOf l).all nmOk = true) (by rw [← nmTo_all _ i (by rw [HLo.out]; omega)]; exact h1.out)
      have hmm := @run_makeMap Tryd.prog
      go_wp2_with fail
      have hwr := h2.out.size
      have hP0 : PkV ((wr.alloc (.map #[] 0)).alloc (.cells #[.slice none 0 0, .map (some wr.heap.size)] 70)) wr.heap.size (wr.heap.size + 1) wr.heap.size (.slice none 0 0) (packL ((listsOf l).take 0)) := by
        have hsz : (wr.alloc (.map #[] 0)).heap.size = wr.heap.size + 1 := by simp
        have hnb := Blk.new (wr.alloc (.map #[] 0)) #[.slice none 0 0, .map (some wr.heap.size)] 70
        rw [hsz] at hnb
        refine ⟨hnb, World.ownsRow_nil _ _ _ _, ⟨.map [], (World.ownsMap_made wr Tryd.prog 9 (plainElem Tryd.prog 3)).alloc _, ⟨_, rfl⟩, fun x => ⟨rfl, fun q hq => by cases hq⟩⟩, by simp [Value.ownBlock], by omega, Nat.le_refl _⟩
      have hB0 : Below wr.heap.size wr ((wr.alloc (.map #[] 0)).alloc (.cells #[.slice none 0 0, .map (some wr.heap.size)] 70)) := ((Below.refl _ _).alloc (Nat.le_refl _) _).alloc (by simp) _
      have HP0 := hid_of hP0
      have HB0 := hid_of hB0
      clear hP0 hB0 hmm
      go_loopw [27, 8] (fun v27 _ w' => ∃ (W : World) (j : Nat) (bv : Value), W = w' ∧ v27 = .int .i64 j ∧ j ≤ l.length ∧ Hid (PkV W wr.heap.size (wr.heap.size + 1) wr.heap.size bv (packL ((listsOf l).take j))) ∧ Hid (Below wr.heap.size wr W)) (fun v27 _ _ => l.length - (intOf v27).toNat)
      case atStart => exact ⟨_, 0, _, rfl, rfl, by omega, HP0, HB0⟩
      case round =>
        obtain ⟨w1, j, bv, hw1, rfl, hj, HP, HB⟩ := hrel
        subst hw1
        clear HP0 HB0
        have hinv := packL_inv (listsOf l) HAll.out j (by rw [HLo.out]; exact hj)
        have hBw : Below w.heap.size w w1 := h2.out.trans ⟨HB.out.os, HB.out.tape, HB.out.output, HB.out.size, fun k hk => HB.out.block k (by omega)⟩
        have HBw := hid_of hBw
        clear hBw
        obtain ⟨hin, hlen⟩ := hinv
        have HIn := hid_of hin
        clear hin
        have hws := HB.out.size
        by_cases hjl : j < l.length
        · have hjl' : (j : Int) < (l.length : Int) := by omega
          obtain ⟨g, o, hp, cj⟩ := HCell.out w1 HBw.out j hjl
          subst hp
          have HTk := hid_of (p := packL ((listsOf l).take (j + 1)) = packN l[j].data.toList (packL ((listsOf l).take j))) (by rw [packL_take _ _ (by rw [HLo.out]; exact hjl), listsOf_get l j hjl])
          have hnm : nmOk l[j].data.toList = true := by
            have := List.all_eq_true.1 HAll.out l[j].data.toList (by unfold listsOf; exact List.mem_map.2 ⟨_, List.getElem_mem hjl, rfl⟩)
            exact this
          have hnl : l[j].data.toList.length ≤ 60 := by unfold nmOk at hnm; simp at hnm; rw [size_list]; exact hnm.1
          have HNm := hid_of hnm
          clear hnm
          generalize hb : l[j] = b at *
          clear hb
          go_wp2_with fail
          refine (pack_calls w1 wr.heap.size (wr.heap.size + 1) wr.heap.size bv _ HP.out (HM.out.below HBw.out h1w) (by omega) HIn.out b.data.toList HNm.out (by omega) hws).mono ?_
          rintro e w2 ⟨rfl, hb2, bv2, hp2⟩
          have HB2 := hid_of (p := Below wr.heap.size wr w2) (HB.out.trans hb2)
          have HP2 := hid_of hp2
          clear hb2 hp2
          simp only
          go_wp2_with fail
          go_roundw
          case rel => exact ⟨w2, j + 1, bv2, rfl, by go_num, by omega, (show PkV w2 wr.heap.size (wr.heap.size + 1) wr.heap.size bv2 (packL ((listsOf l).take (j + 1))) by rw [HTk.out]; exact HP2.out), HB2⟩
          case measure => simp [intOf]; omega
        · have hjl' : ¬ (j : Int) < (l.length : Int) := by omega
          have HV := hid_of (p := packV (listsOf l) = (bs (packL ((listsOf l).take j)).1, 0)) (by rw [packV_ok (by rw [HLo.out]; omega) HAll.out, List.take_of_length_le (by rw [HLo.out]; omega)])
          have c0 : w1.cell? ⟨wr.heap.size + 1, 0, none⟩ = some bv := HP.out.blk.cell 0
          obtain ⟨np, capv, hbv⟩ := owns_slice HP.out.row
          subst hbv
          have hcv := nm_conv0 HP.out.row
          go_wp2_with fail
          go_ret2
          exact ⟨by rw [HV.out]; rfl, HBw.out⟩

set_option maxHeartbeats 1000000 in
theorem packNames_calls (w : World) (v : Value) (l : List ByteArray) (hv : RowS w v l) (hlm : l.length ≤ maxLen) (hsz : ∀ b ∈ l, b.size ≤ maxLen) (hM : MxW w) :
    Calls Tryd.prog 11 #[v] w fun e w' => PkRes (packV (listsOf l)) w e w' := by
  have HC := hid_of (packAll_calls w v l hv hlm hsz hM)
  clear hv hlm hsz hM
  go_enter Tryd.func11, Tryd.ntmps11
  go_wp2_with fail
  refine HC.out.mono ?_
  rintro e w1 ⟨rfl, hb⟩
  have HB := hid_of hb
  clear hb
  simp only
  go_wp2_with fail
  go_ret2
  exact ⟨rfl, HB.out⟩

end Go.Proofs.YtmlkhhhjdpbhfaaDoor

/- Contracts of isOfLabels, isLabel and the reader's label. -/
import Derived.Test.YtmlkhhhjdpbhfaaDoorUnRd
import Derived.Laws.IdiomStrings
namespace Go.Proofs.YtmlkhhhjdpbhfaaDoor
open Go.RowKit

set_option maxHeartbeats 400000 in
theorem isOf_calls (c : Int) (w : World) : Calls Tryd.prog 58 #[.int .u8 c] w fun e w' => e = .returned (.bool (ofB c)) ∧ w' = w := by
  by_cases h1 : 97 ≤ c
  · by_cases h2 : c ≤ 122
    · go_enter Tryd.func58, Tryd.ntmps58
      go_wp2
      go_ret
      exact ⟨ret_bool (by unfold ofB; simp; omega), rfl⟩
    · have h3 : 48 ≤ c := by omega
      have h4 : ¬ c ≤ 57 := by omega
      go_enter Tryd.func58, Tryd.ntmps58
      go_wp2
      go_ret
      exact ⟨ret_bool (by unfold ofB; simp; omega), rfl⟩
  · by_cases h3 : 48 ≤ c
    · by_cases h4 : c ≤ 57
      · go_enter Tryd.func58, Tryd.ntmps58
        go_wp2
        go_ret
        exact ⟨ret_bool (by unfold ofB; simp; omega), rfl⟩
      · go_enter Tryd.func58, Tryd.ntmps58
        go_wp2
        go_ret
        exact ⟨ret_bool (by unfold ofB; simp; omega), rfl⟩
    · go_enter Tryd.func58, Tryd.ntmps58
      go_wp2
      go_ret
      exact ⟨ret_bool (by unfold ofB; simp; omega), rfl⟩

theorem convB (b : ByteArray) (w : World) : ∃ cap W, (convert 9 39 (.string b)).run Tryd.prog w = .ok (.slice (some ⟨w.heap.size, 0, none⟩) b.size cap) W ∧ Below w.heap.size w W ∧ W.heap.size = w.heap.size + 1 ∧ ∀ j, j < b.size → W.cell? ⟨w.heap.size, j, none⟩ = some (.int .u8 (bt b j)) := by
  refine ⟨_, _, run_bytes_of_string (P := Tryd.prog) w 9 39 5 b Tryd.underlying9 Tryd.underlying39 Tryd.underlying5, ?_, ?_, fun j hj => ?_⟩
  · exact ⟨rfl, rfl, rfl, by simp, fun k hk => Below.heap_alloc _ _ _ hk⟩
  · simp
  · rw [bt_in b j hj]
    have : (w.drew.alloc (.cells (bytesRow b (grownCap w b.size 0 5)) 5 ((bytesRow b (grownCap w b.size 0 5)).size, (bytesRow b (grownCap w b.size 0 5)).size + 1))).heap[w.heap.size]? = some (.cells (bytesRow b (grownCap w b.size 0 5)) 5 ((bytesRow b (grownCap w b.size 0 5)).size, (bytesRow b (grownCap w b.size 0 5)).size + 1)) := by
      show (w.heap.push _)[w.heap.size]? = _
      simp
    simp only [World.cell?, this]
    have hj2 : j < b.data.size := hj
    simp [bytesRow, Array.getElem?_append, hj]
    try rfl

/-- are the first k bytes of a text all of labels? -/
def ofTo (t : ByteArray) (k : Nat) : Bool := (t.data.toList.take k).all fun b => ofB b.toNat
theorem ofTo_succ (t : ByteArray) (k : Nat) (h : k < t.size) : ofTo t (k + 1) = (ofTo t k && ofB (bt t k)) := by
  unfold ofTo
  rw [List.take_succ_eq_append_getElem (by simpa using h), List.all_append, bt_in t k h]
  simp
  rfl
theorem ofTo_all (t : ByteArray) : ofTo t t.size = t.data.toList.all fun b => ofB b.toNat := by
  unfold ofTo
  rw [List.take_of_length_le (by simp)]
theorem ofTo_no (t : ByteArray) (k : Nat) (h : ofTo t k = false) : (t.data.toList.all fun b => ofB b.toNat) = false := by
  rw [← List.take_append_drop k t.data.toList, List.all_append]
  unfold ofTo at h
  rw [h]; rfl

set_option maxHeartbeats 1000000 in
theorem isLabel_calls (b : ByteArray) (hb : b.size ≤ 8000) (w : World) :
    Calls Tryd.prog 46 #[.string b] w fun e w' => e = .returned (.bool (lblOk b)) ∧ Below w.heap.size w w' := by
  by_cases hl : b.size < 1
  · have hl' : (b.size : Int) < 1 := by omega
    have HL := hid_of (p := lblOk b = false) (by unfold lblOk; rw [decide_eq_false (by omega)]; rfl)
    go_enter Tryd.func46, Tryd.ntmps46
    go_wp2_with fail
    go_ret
    exact ⟨ret_bool HL.out.symm, Below.refl _ _⟩
  by_cases hl2 : 15 < b.size
  · have hl' : ¬ (b.size : Int) < 1 := by omega
    have hl2' : 15 < (b.size : Int) := by omega
    have HL := hid_of (p := lblOk b = false) (by unfold lblOk; rw [decide_eq_false (by omega)]; rfl)
    go_enter Tryd.func46, Tryd.ntmps46
    go_wp2_with fail
    go_ret
    exact ⟨ret_bool HL.out.symm, Below.refl _ _⟩
  have hl' : ¬ (b.size : Int) < 1 := by omega
  have hl2' : ¬ 15 < (b.size : Int) := by omega
  have HL := hid_of (p := lblOk b = ofTo b b.size) (by unfold lblOk; rw [decide_eq_true (by omega), ofTo_all]; rfl)
  obtain ⟨cap, W, hcv, hbel, hsz, hcells⟩ := convB b w
  have HC := hid_of hcells
  have HB := hid_of hbel
  clear hcells hbel
  go_enter Tryd.func46, Tryd.ntmps46
  go_wp2_with fail
  go_loopw [16, 4] (fun v16 _ wr => ∃ (i : Nat), v16 = .int .i64 i ∧ i ≤ b.size ∧ Hid (ofTo b i = true) ∧ wr = W) (fun v16 _ _ => b.size - (intOf v16).toNat)
  case atStart => exact ⟨0, rfl, by omega, (show ofTo b 0 = true by rfl), rfl⟩
  case round =>
    obtain ⟨i, rfl, h1, h2, rfl⟩ := hrel
    by_cases hi : i < b.size
    · have hi' : (i : Int) < (b.size : Int) := by omega
      have ci := HC.out i hi
      have HS := hid_of (ofTo_succ b i hi)
      cases ho : ofB (bt b i)
      · have HO := hid_of ho
        clear ho
        go_wp2_with (go_at_call 58; refine (isOf_calls _ _).mono ?_; rintro e w' ⟨rfl, rfl⟩; rw [HO.out])
        go_ret
        refine ⟨ret_bool ?_, HB.out⟩
        rw [HL.out, ofTo_all, ofTo_no b (i + 1) (by rw [HS.out, HO.out]; simp)]
      · have HO := hid_of ho
        clear ho
        go_wp2_with (go_at_call 58; refine (isOf_calls _ _).mono ?_; rintro e w' ⟨rfl, rfl⟩; rw [HO.out])
        go_roundw
        case rel => exact ⟨i + 1, by go_num, by omega, (show ofTo b (i + 1) = true by rw [HS.out, HO.out, h2.out]; rfl), trivial⟩
        case measure => simp [intOf]; omega
    · have hi' : ¬ (i : Int) < (b.size : Int) := by omega
      have hib : i = b.size := by omega
      have HI := hid_of hib
      clear hib
      go_wp2_with fail
      go_ret
      exact ⟨ret_bool (by rw [HL.out, ← HI.out, h2.out]), HB.out⟩

/-- behind label -/
def LabT (t : TypeId) (s : ByteArray) (i : Nat) (rb : Nat) (w : World) (e : Ending) (w' : World) : Prop :=
  Fr w.heap.size rb w w' ∧ ((labV s i = true ∧ e = .returned (.tuple #[.string (s.extract (i + 1) (i + 1 + btN s i)), .bool true]) ∧ RdT t w' rb s (i + 1 + btN s i)) ∨
    (labV s i = false ∧ e = .returned (.tuple #[.string ByteArray.empty, .bool false]) ∧ ∃ j, j ≤ s.size ∧ RdT t w' rb s j))

set_option maxHeartbeats 2000000 in
theorem label_calls (t : TypeId) (w : World) (rb : Nat) (s : ByteArray) (i : Nat) (hr : RdT t w rb s i) (hs : s.size ≤ 8000) (hi : i ≤ s.size) :
    Calls Tryd.prog 62 #[.pointer (some ⟨rb, 0, none⟩)] w fun e w' => LabT t s i rb w e w' := by
  have HR := hid_of hr
  have hlt := hr.lt
  clear hr
  go_enter Tryd.func62, Tryd.ntmps62
  go_wp2_with fail
  refine (takeT_calls t w rb s i 1 15 HR.out hs hi).mono ?_
  rintro e w1 ⟨hsm, ⟨h1, rfl, h3⟩ | ⟨h1, rfl, h3⟩⟩
  rotate_left
  · have HL : Hid (labV s i = false) := by
      have : labV s i = false := by
        unfold tkOk at h1; unfold labV
        simp at h1
        rw [decide_eq_false (by rintro ⟨a, b, c, d⟩; have := h1 a b; omega)]
        rfl
      exact this
    clear h1
    simp only
    go_wp2_with fail
    go_ret2
    exact ⟨hsm.fr _, Or.inr ⟨HL.out, rfl, i, hi, h3⟩⟩
  · have HT := hid_of h1
    have hb : i < s.size ∧ 1 ≤ bt s i ∧ bt s i ≤ 15 := by unfold tkOk at h1; simpa using h1
    obtain ⟨hb0, hb1, hb2⟩ := hb
    obtain ⟨n, hbn, hnn⟩ : ∃ n : Nat, bt s i = (n : Int) ∧ btN s i = n := ⟨btN s i, (btN_eq s i).symm, rfl⟩
    rw [hbn] at hb1 hb2 ⊢
    have HBn := hid_of hbn
    have HNn := hid_of hnn
    have HR1 := hid_of h3
    have HSm := hid_of hsm
    have c0 : w1.cell? ⟨rb, 0, none⟩ = some (.string s) := h3.cell 0
    have c1 : w1.cell? ⟨rb, 1, none⟩ = some (.int .i64 ((i + 1 : Nat) : Int)) := h3.cell 1
    have f1 : w1.frozen? ⟨rb, 1, none⟩ = false := h3.frozen 1
    have hlt1 : rb < w1.heap.size := h3.lt
    clear h1 h3 hsm hbn hnn
    simp only
    by_cases hin : i + 1 + n ≤ s.size
    · have hin' : ¬ (s.size : Int) < (i : Int) + 1 + (n : Int) := by omega
      cases hlo : lblOk (s.extract (i + 1) (i + 1 + n))
      · have HLo := hid_of hlo
        clear hlo
        go_wp2_with fail
        refine (isLabel_calls (s.extract (i + 1) (i + 1 + n)) (by simp; omega) w1).mono ?_
        rintro e w2 ⟨rfl, hb2⟩
        have HB2 := hid_of hb2
        clear hb2
        rw [HLo.out]
        simp only
        go_wp2_with fail
        go_ret2
        refine ⟨(HSm.out.fr _).below HB2.out (by have := HSm.out.size; omega), Or.inr ⟨?_, rfl, i + 1, by omega, HR1.out.below HB2.out hlt1⟩⟩
        unfold labV
        rw [HNn.out, HLo.out, Bool.and_false]
      · have HLo := hid_of hlo
        clear hlo
        go_wp2_with fail
        refine (isLabel_calls (s.extract (i + 1) (i + 1 + n)) (by simp; omega) w1).mono ?_
        rintro e w2 ⟨rfl, hb2⟩
        have hR2 : RdT t w2 rb s (i + 1) := HR1.out.below hb2 hlt1
        have c02 : w2.cell? ⟨rb, 0, none⟩ = some (.string s) := hR2.cell 0
        have c12 : w2.cell? ⟨rb, 1, none⟩ = some (.int .i64 ((i + 1 : Nat) : Int)) := hR2.cell 1
        have f12 : w2.frozen? ⟨rb, 1, none⟩ = false := hR2.frozen 1
        have HR2 := hid_of hR2
        have HB2 := hid_of hb2
        clear hb2 hR2
        rw [HLo.out]
        simp only
        go_wp2_with fail
        go_ret2
        refine ⟨((HSm.out.fr _).below HB2.out (by have := HSm.out.size; omega)).setCell (Or.inl rfl) _, Or.inl ⟨?_, ?_, ?_⟩⟩
        · unfold labV
          rw [HNn.out, HBn.out, HLo.out, Bool.and_true]
          simp; omega
        · rw [HNn.out]; rfl
        · rw [HNn.out]; exact HR2.out.set 1 _
    · have hin' : (s.size : Int) < (i : Int) + 1 + (n : Int) := by omega
      go_wp2_with fail
      go_ret2
      refine ⟨HSm.out.fr _, Or.inr ⟨?_, rfl, i + 1, by omega, HR1.out⟩⟩
      unfold labV
      rw [HNn.out, decide_eq_false (by omega)]
      rfl

end Go.Proofs.YtmlkhhhjdpbhfaaDoor

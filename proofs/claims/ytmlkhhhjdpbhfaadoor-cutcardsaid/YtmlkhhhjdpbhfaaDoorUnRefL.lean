/- Contracts of the document's answer: letter, IsLabel. -/
import Derived.Test.YtmlkhhhjdpbhfaaDoorUnLab
namespace Go.Proofs.YtmlkhhhjdpbhfaaDoor
open Go.RowKit

set_option maxHeartbeats 400000 in
theorem letterT_calls (c a b : Int) (w : World) (h0 : 0 ≤ c) (h1 : c ≤ 255) (h2 : 0 ≤ a) :
    Calls Tryd.prog 35 #[.int .u8 c, .int .u8 a, .int .u8 b] w fun e w' => e = .returned (.int .i64 (letterV c a b)) ∧ w' = w := by
  by_cases ha : c < a
  · go_enter Tryd.func35, Tryd.ntmps35
    go_wp2
    go_ret
    exact ⟨ret_int (by simp [letterV, ha]), rfl⟩
  · by_cases hb : b < c
    · go_enter Tryd.func35, Tryd.ntmps35
      go_wp2
      go_ret
      exact ⟨ret_int (by simp [letterV, hb]), rfl⟩
    · go_enter Tryd.func35, Tryd.ntmps35
      go_wp2
      go_ret
      exact ⟨ret_int (by rw [letterV, if_neg (by omega)]), rfl⟩

theorem ofB_letter (c : Int) : ofB c = !(decide (letterV c 97 122 < 0) && decide (letterV c 48 57 < 0)) := by
  unfold ofB letterV
  rw [Bool.eq_iff_iff]
  simp only [decide_eq_true_eq, Bool.not_eq_true', Bool.and_eq_false_iff, decide_eq_false_iff_not]
  split <;> split <;> omega

set_option maxHeartbeats 1000000 in
theorem isLabelR_calls (b : ByteArray) (hb : b.size ≤ 8000) (w : World) :
    Calls Tryd.prog 44 #[.string b] w fun e w' => e = .returned (.bool (lblOk b)) ∧ w' = w := by
  go_enter Tryd.func44, Tryd.ntmps44
  go_wp2_with fail
  go_loop [3, 4, 5] (fun v3 _ _ => ∃ (i : Nat), v3 = .int .i64 i ∧ i ≤ b.size ∧ Hid (ofTo b i = true)) (fun v3 _ _ => b.size - (intOf v3).toNat)
  case atStart => exact ⟨0, rfl, by omega, (show ofTo b 0 = true by rfl)⟩
  case round =>
    obtain ⟨i, rfl, h1, h2⟩ := hrel
    by_cases hi : i < b.size
    · have hi' : (i : Int) < (b.size : Int) := by omega
      have HS := hid_of (ofTo_succ b i hi)
      have HBt := hid_of (bt_in b i hi)
      have hb0 : 0 ≤ (b[i].toNat : Int) := by omega
      have hb1 : (b[i].toNat : Int) ≤ 255 := by have := b[i].toNat_lt; omega
      have HO := hid_of (ofB_letter (b[i].toNat : Int))
      by_cases ha : letterV (b[i].toNat : Int) 97 122 < 0
      · by_cases hc : letterV (b[i].toNat : Int) 48 57 < 0
        · have HN := hid_of (p := ofB (b[i].toNat : Int) = false) (by rw [HO.out, decide_eq_true ha, decide_eq_true hc]; rfl)
          go_wp2_with (go_at_call 35; refine (letterT_calls _ _ _ _ hb0 hb1 (by omega)).mono ?_; rintro e w' ⟨rfl, rfl⟩)
          go_ret
          refine ⟨ret_bool ?_, rfl⟩
          unfold lblOk
          rw [ofTo_no b (i + 1) (by rw [HS.out, HBt.out, HN.out]; simp), Bool.and_false]
        · have HN := hid_of (p := ofB (b[i].toNat : Int) = true) (by rw [HO.out, decide_eq_true ha, decide_eq_false hc]; rfl)
          go_wp2_with (go_at_call 35; refine (letterT_calls _ _ _ _ hb0 hb1 (by omega)).mono ?_; rintro e w' ⟨rfl, rfl⟩)
          go_round
          case rel => exact ⟨i + 1, by go_num, by omega, (show ofTo b (i + 1) = true by rw [HS.out, HBt.out, HN.out, h2.out]; rfl)⟩
          case measure => simp [intOf]; omega
      · have HN := hid_of (p := ofB (b[i].toNat : Int) = true) (by rw [HO.out, decide_eq_false ha]; rfl)
        go_wp2_with (go_at_call 35; refine (letterT_calls _ _ _ _ hb0 hb1 (by omega)).mono ?_; rintro e w' ⟨rfl, rfl⟩)
        go_round
        case rel => exact ⟨i + 1, by go_num, by omega, (show ofTo b (i + 1) = true by rw [HS.out, HBt.out, HN.out, h2.out]; rfl)⟩
        case measure => simp [intOf]; omega
    · have hi' : ¬ (i : Int) < (b.size : Int) := by omega
      have HI := hid_of (p := (b.data.toList.all fun b => ofB b.toNat) = true) (by rw [← ofTo_all, ← h2.out]; congr 1; omega)
      by_cases h3 : 0 < b.size
      · have h3' : 0 < (b.size : Int) := by omega
        by_cases h4 : b.size < 16
        · have h4' : (b.size : Int) < 16 := by omega
          go_wp2_with fail
          go_ret
          refine ⟨ret_bool ?_, rfl⟩
          unfold lblOk
          rw [HI.out]; simp; omega
        · have h4' : ¬ (b.size : Int) < 16 := by omega
          go_wp2_with fail
          go_ret
          refine ⟨ret_bool ?_, rfl⟩
          unfold lblOk
          rw [HI.out]; simp; omega
      · have h3' : ¬ 0 < (b.size : Int) := by omega
        go_wp2_with fail
        go_ret
        refine ⟨ret_bool ?_, rfl⟩
        unfold lblOk
        rw [HI.out]; simp; omega

end Go.Proofs.YtmlkhhhjdpbhfaaDoor

import Derived.Test.YtmlkhhhjdpbhfaaDoorProg
import Derived.WalkKit
import Derived.WalkSpells
import Derived.WalkLawsBesides
import Derived.Test.YtmlkhhhjdpbhfaaDoorPlain
/- Contracts of the small functions of the document's answer: byteAt, letter, in, hex, in2, hides, uses. -/
namespace Go.Proofs.YtmlkhhhjdpbhfaaDoor
open Go.RowKit

set_option maxHeartbeats 400000 in
theorem byteAt_calls (s : ByteArray) (i : Int) (w : World) (_hs : s.size ≤ maxLen) (h0 : 0 ≤ i) :
    Calls Tryd.prog 36 #[.string s, .int .i64 i] w fun e w' => e = .returned (.int .u8 (bt s i.toNat)) ∧ w' = w := by
  obtain ⟨n, rfl⟩ := Int.eq_ofNat_of_zero_le h0
  unfold maxLen at _hs
  by_cases h : n < s.size
  · go_enter Tryd.func36, Tryd.ntmps36
    go_wp2
    go_ret
    exact ⟨ret_int (by simp [bt_in _ _ h]), rfl⟩
  · go_enter Tryd.func36, Tryd.ntmps36
    go_wp2
    go_ret
    exact ⟨ret_int (by simp [bt_out _ _ h]), rfl⟩

set_option maxHeartbeats 400000 in
theorem letter_calls (c a b : Int) (w : World) (h0 : 0 ≤ c) (h1 : c ≤ 255) (h2 : 0 ≤ a) :
    Calls Tryd.prog 35 #[.int .u8 c, .int .u8 a, .int .u8 b] w fun e w' => e = .returned (.int .i64 (letterV c a b)) ∧ w' = w := by
  by_cases ha : c < a
  · go_enter Tryd.func35, Tryd.ntmps35
    go_wp2
    go_ret
    exact ⟨ret_int (by simp [letterV, ha]), rfl⟩
  · by_cases hb : b < c
    · go_enter Tryd.func35, Tryd.ntmps35
      go_wp2
      go_ret
      exact ⟨ret_int (by simp [letterV, hb]), rfl⟩
    · go_enter Tryd.func35, Tryd.ntmps35
      go_wp2
      go_ret
      exact ⟨ret_int (by rw [letterV, if_neg (by omega)]), rfl⟩

set_option maxHeartbeats 400000 in
theorem in_calls (s : ByteArray) (c : Int) (w : World) (hs : s.size ≤ maxLen) :
    Calls Tryd.prog 56 #[.string s, .int .u8 c] w fun e w' => e = .returned (.bool (inB s.data.toList c)) ∧ w' = w := by
  unfold maxLen at hs
  go_enter Tryd.func56, Tryd.ntmps56
  go_wp2
  go_loop [5] (fun i => ∃ k : Nat, k ≤ s.size ∧ i = .int .i64 k ∧ Hid (inB (s.data.toList.take k) c = false)) (fun i => s.size - (intOf i).toNat)
  case atStart => exact ⟨0, Nat.zero_le _, rfl, (show inB (s.data.toList.take 0) c = false by simp [inB])⟩
  case round =>
    obtain ⟨k, hk, rfl, hf⟩ := hrel
    by_cases hlt : k < s.size
    · have HS : Hid (inB (s.data.toList.take (k + 1)) c = (inB (s.data.toList.take k) c || ((s[k].toNat : Int) == c))) := inB_take_succ s c k hlt
      by_cases he : ((s[k].toNat : Int) == c) = true
      · have HI : Hid (inB s.data.toList c = true) := by
          have h1 : inB (s.data.toList.take (k + 1)) c = true := by rw [HS.out, he]; simp
          simp only [inB, List.any_eq_true] at h1
          obtain ⟨x, hx, hxe⟩ := h1
          have : inB s.data.toList c = true := by simp only [inB, List.any_eq_true]; exact ⟨x, List.mem_of_mem_take hx, hxe⟩
          exact this
        go_wp2
        go_ret
        exact ⟨ret_bool HI.out.symm, rfl⟩
      · have he' : ((s[k].toNat : Int) == c) = false := by simpa using he
        clear he
        have HN : Hid (inB (s.data.toList.take (k + 1)) c = false) := by
          have : inB (s.data.toList.take (k + 1)) c = false := by rw [HS.out, he', hf.out]; rfl
          exact this
        go_wp2
        go_round
        case rel => exact ⟨k + 1, by omega, by go_num, HN⟩
        case measure => simp [intOf]; omega
    · go_wp2
      go_ret
      exact ⟨ret_bool (by have := hf.out; rw [List.take_of_length_le (by simp; omega)] at this; rw [this]), rfl⟩

set_option maxHeartbeats 400000 in
theorem in2_calls (b : Bool) (w : World) :
    Calls Tryd.prog 71 #[.bool b] w fun e w' => e = .returned (.int .i64 (if b then 1 else 0)) ∧ w' = w := by
  cases b <;>
  · go_enter Tryd.func71, Tryd.ntmps71
    go_wp2
    go_ret
    exact ⟨rfl, rfl⟩

set_option maxHeartbeats 400000 in
theorem num_calls (n : Int) (w : World) :
    Calls Tryd.prog 16 #[.int .i64 n] w fun e w' => e = .returned (.int .i64 n) ∧ w' = w := by
  go_enter Tryd.func16, Tryd.ntmps16
  go_wp2
  go_ret
  exact ⟨rfl, rfl⟩


def hexC (k : Nat) : Int := [48, 49, 50, 51, 52, 53, 54, 55, 56, 57, 97, 98, 99, 100, 101, 102].getD k 0

theorem hexC_eq (k : Nat) (h : k < 16) : hexC k = if k < 10 then 48 + (k : Int) else 87 + (k : Int) := by
  have h16 : k = 0 ∨ k = 1 ∨ k = 2 ∨ k = 3 ∨ k = 4 ∨ k = 5 ∨ k = 6 ∨ k = 7 ∨ k = 8 ∨ k = 9 ∨ k = 10 ∨ k = 11 ∨ k = 12 ∨ k = 13 ∨ k = 14 ∨ k = 15 := by omega
  rcases h16 with rfl | rfl | rfl | rfl | rfl | rfl | rfl | rfl | rfl | rfl | rfl | rfl | rfl | rfl | rfl | rfl <;> rfl

theorem hexV_of (k : Nat) (c : Int) (h : k < 16) (e : (hexC k == c) = true) : hexV c = k := by
  rw [hexC_eq k h, beq_iff_eq] at e
  subst e
  unfold hexV
  split <;> split <;> (try split) <;> omega

theorem hexV_none (c : Int) (h : ∀ j, j < 16 → (hexC j == c) = false) : hexV c = -1 := by
  unfold hexV
  split
  · rename_i hc
    have := h (c - 48).toNat (by omega)
    rw [hexC_eq _ (by omega), if_pos (by omega), beq_eq_false_iff_ne] at this
    omega
  · split
    · rename_i hc
      have := h (c - 87).toNat (by omega)
      rw [hexC_eq _ (by omega), if_neg (by omega), beq_eq_false_iff_ne] at this
      omega
    · rfl

theorem hexC_at (k : Nat) (h : k < 16) : hexC k = (((⟨#[48, 49, 50, 51, 52, 53, 54, 55, 56, 57, 97, 98, 99, 100, 101, 102]⟩ : ByteArray)[k]'h).toNat : Int) := by
  have h16 : k = 0 ∨ k = 1 ∨ k = 2 ∨ k = 3 ∨ k = 4 ∨ k = 5 ∨ k = 6 ∨ k = 7 ∨ k = 8 ∨ k = 9 ∨ k = 10 ∨ k = 11 ∨ k = 12 ∨ k = 13 ∨ k = 14 ∨ k = 15 := by omega
  rcases h16 with rfl | rfl | rfl | rfl | rfl | rfl | rfl | rfl | rfl | rfl | rfl | rfl | rfl | rfl | rfl | rfl <;> rfl

theorem snocAll {p : Nat → Bool} {k : Nat} (h : ∀ j, j < k → p j = false) (e : p k = false) : ∀ j, j < k + 1 → p j = false := by
  intro j hj
  by_cases hjk : j = k
  · rw [hjk]; exact e
  · exact h j (by omega)

set_option maxHeartbeats 1000000 in
theorem hex_calls (c : Int) (w : World) :
    Calls Tryd.prog 70 #[.int .u8 c] w fun e w' => e = .returned (.int .i64 (hexV c)) ∧ w' = w := by
  go_enter Tryd.func70, Tryd.ntmps70
  go_wp2
  go_loop [4] (fun i => ∃ k : Nat, k ≤ 16 ∧ i = .int .i64 k ∧ Hid (∀ j, j < k → (hexC j == c) = false)) (fun i => 16 - (intOf i).toNat)
  case atStart => exact ⟨0, Nat.zero_le _, rfl, fun j hj => by omega⟩
  case round =>
    obtain ⟨k, hk, rfl, hf⟩ := hrel
    by_cases hlt : k < 16
    · have e0 := hexC_at k hlt
      cases he0 : (hexC k == c)
      · have HN : Hid (∀ j, j < k + 1 → (hexC j == c) = false) := snocAll hf.out he0
        rw [e0] at he0
        clear hf e0
        go_wp2
        exact ⟨⟨k + 1, by omega, by go_num, HN⟩, by simp [intOf]; omega⟩
      · have HN : Hid (hexV c = k) := hexV_of k c hlt he0
        rw [e0] at he0
        clear hf e0
        go_wp2
        go_ret
        exact ⟨ret_int HN.out.symm, rfl⟩
    · go_wp2
      go_ret
      exact ⟨ret_int (by rw [hexV_none c (by have := hf.out; rwa [show k = 16 by omega] at this)]), rfl⟩

set_option maxHeartbeats 400000 in
theorem hides_calls (c : Int) (w : World) :
    Calls Tryd.prog 38 #[.int .u8 c] w fun e w' => e = .returned (.bool (c == 104 || c == 107)) ∧ w' = w := by
  go_enter Tryd.func38, Tryd.ntmps38
  go_wp2
  all_goals
    go_ret
    refine ⟨ret_bool ?_, rfl⟩
    simp [*]

set_option maxHeartbeats 400000 in
theorem uses_calls (c : Int) (w : World) :
    Calls Tryd.prog 39 #[.int .u8 c] w fun e w' => e = .returned (.bool (inB [114, 116, 119, 64, 115] c)) ∧ w' = w := by
  go_enter Tryd.func39, Tryd.ntmps39
  go_wp2_with (go_at_call 56; refine (in_calls _ _ _ (by simp [maxLen, ByteArray.size])).mono ?_; rintro e w' ⟨rfl, rfl⟩)
  go_ret
  exact ⟨rfl, rfl⟩

end Go.Proofs.YtmlkhhhjdpbhfaaDoor

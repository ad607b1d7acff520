import Derived.Test.YtmlkhhhjdpbhfaaDoorRefHead
/- The contract of the document's answer's head, letter by letter. -/
namespace Go.Proofs.YtmlkhhhjdpbhfaaDoor
open Go.RowKit

set_option maxHeartbeats 1000000 in
theorem head_wno_110 (s : ByteArray) (n : Nat) (w : World) (hs : s.size ≤ maxLen) (hn : n ≤ 1000) (hc : bt s n = 110) (h1 : ¬ (49 ≤ bt s (n + 1) ∧ bt s (n + 1) ≤ 52)) :
    Calls Tryd.prog 55 #[.string s, .int .i64 n] w fun e w' => HeadPost (headV s n) w e w' := by
  have H : Hid (headV s n = { ok := false, i := n + 1 }) := by
    have : headV s n = { ok := false, i := n + 1 } := by simp [headV, hc, kAny, kW, inB, h1]
    exact this
  have hl : letterV 110 65 72 = -1 := by decide
  have hw : inB [110, 108, 104, 107] 110 = true := by decide
  have hd : inB [104, 107, 114, 116, 119, 64, 115] 110 = false := by decide
  have ha : inB [110, 108, 40, 47, 42, 104, 107, 114, 116, 119, 64, 115, 46] 110 = true := by decide
  have hlw := letterV_no (bt s (n + 1)) 49 52 h1
  have blo := bt_lo s (n + 1)
  have bhi := bt_hi s (n + 1)
  clear h1
  go_enter Tryd.func55, Tryd.ntmps55
  go_wp2_with (first
    | (go_at_call 36; refine (byteAt_calls _ _ _ hs (by omega)).mono ?_; rintro e w' ⟨rfl, rfl⟩; simp only [Int.toNat_natCast, tn1])
    | (go_at_call 35; refine (letter_calls _ _ _ _ (by omega) (by omega) (by omega)).mono ?_; rintro e w' ⟨rfl, rfl⟩)
    | (go_at_call 70; refine (hex_calls _ _).mono ?_; rintro e w' ⟨rfl, rfl⟩)
    | (go_at_call 56; refine (in_calls _ _ _ (by simp [maxLen, ByteArray.size])).mono ?_; rintro e w' ⟨rfl, rfl⟩))
  refine bodyPost_ret (v := .tuple #[.agg (It.cells { c := 110, pl := n, w := 0 }), .int .i64 ((n : Int) + 1), .int .i64 (0), .bool false]) (by simp [results, Tryd.results55, go_sem, It.cells]) rfl ?_
  rw [H.out]
  exact headPost_mk { c := 110, pl := n, w := 0 } ((n : Int) + 1) (show ((n : Int) + 1) = ((n + 1 : Nat) : Int) by omega) (fun h => by cases h) rfl (below2 _ _ _)

set_option maxHeartbeats 1000000 in
theorem head_ok_110 (s : ByteArray) (n : Nat) (w : World) (hs : s.size ≤ maxLen) (hn : n ≤ 1000) (hc : bt s n = 110) (h1 : 49 ≤ bt s (n + 1)) (h2 : bt s (n + 1) ≤ 52) :
    Calls Tryd.prog 55 #[.string s, .int .i64 n] w fun e w' => HeadPost (headV s n) w e w' := by
  have H : Hid (headV s n = { ok := true, i := n + 2, inn := 0, it := { c := 110, w := bt s (n + 1) - 48, pl := n } }) := by
    have : headV s n = { ok := true, i := n + 2, inn := 0, it := { c := 110, w := bt s (n + 1) - 48, pl := n } } := by simp [headV, depHd, hc, kAny, kW, kD, kIn, inB, h1, h2]
    exact this
  have hl : letterV 110 65 72 = -1 := by decide
  have hw : inB [110, 108, 104, 107] 110 = true := by decide
  have hd : inB [104, 107, 114, 116, 119, 64, 115] 110 = false := by decide
  have ha : inB [110, 108, 40, 47, 42, 104, 107, 114, 116, 119, 64, 115, 46] 110 = true := by decide
  have hlw := letterV_yes (bt s (n + 1)) 49 52 ⟨h1, h2⟩
  have blo := bt_lo s (n + 1)
  go_enter Tryd.func55, Tryd.ntmps55
  go_wp2_with (first
    | (go_at_call 36; refine (byteAt_calls _ _ _ hs (by omega)).mono ?_; rintro e w' ⟨rfl, rfl⟩; simp only [Int.toNat_natCast, tn1])
    | (go_at_call 35; refine (letter_calls _ _ _ _ (by omega) (by omega) (by omega)).mono ?_; rintro e w' ⟨rfl, rfl⟩)
    | (go_at_call 70; refine (hex_calls _ _).mono ?_; rintro e w' ⟨rfl, rfl⟩)
    | (go_at_call 56; refine (in_calls _ _ _ (by simp [maxLen, ByteArray.size])).mono ?_; rintro e w' ⟨rfl, rfl⟩))
  refine bodyPost_ret (v := .tuple #[.agg (It.cells { c := 110, w := bt s (n + 1) - 49 + 1, pl := n }), .int .i64 ((n : Int) + 1 + 1), .int .i64 (0), .bool true]) (by simp [results, Tryd.results55, go_sem, It.cells]) rfl ?_
  rw [H.out]
  exact headPost_mk { c := 110, w := bt s (n + 1) - 49 + 1, pl := n } ((n : Int) + 1 + 1) (show ((n : Int) + 1 + 1) = ((n + 2 : Nat) : Int) by omega) (fun _ => it_eq (by omega) (by omega) (by omega)) rfl (below2 _ _ _)

set_option maxHeartbeats 1000000 in
theorem head_wno_108 (s : ByteArray) (n : Nat) (w : World) (hs : s.size ≤ maxLen) (hn : n ≤ 1000) (hc : bt s n = 108) (h1 : ¬ (49 ≤ bt s (n + 1) ∧ bt s (n + 1) ≤ 52)) :
    Calls Tryd.prog 55 #[.string s, .int .i64 n] w fun e w' => HeadPost (headV s n) w e w' := by
  have H : Hid (headV s n = { ok := false, i := n + 1 }) := by
    have : headV s n = { ok := false, i := n + 1 } := by simp [headV, hc, kAny, kW, inB, h1]
    exact this
  have hl : letterV 108 65 72 = -1 := by decide
  have hw : inB [110, 108, 104, 107] 108 = true := by decide
  have hd : inB [104, 107, 114, 116, 119, 64, 115] 108 = false := by decide
  have ha : inB [110, 108, 40, 47, 42, 104, 107, 114, 116, 119, 64, 115, 46] 108 = true := by decide
  have hlw := letterV_no (bt s (n + 1)) 49 52 h1
  have blo := bt_lo s (n + 1)
  have bhi := bt_hi s (n + 1)
  clear h1
  go_enter Tryd.func55, Tryd.ntmps55
  go_wp2_with (first
    | (go_at_call 36; refine (byteAt_calls _ _ _ hs (by omega)).mono ?_; rintro e w' ⟨rfl, rfl⟩; simp only [Int.toNat_natCast, tn1])
    | (go_at_call 35; refine (letter_calls _ _ _ _ (by omega) (by omega) (by omega)).mono ?_; rintro e w' ⟨rfl, rfl⟩)
    | (go_at_call 70; refine (hex_calls _ _).mono ?_; rintro e w' ⟨rfl, rfl⟩)
    | (go_at_call 56; refine (in_calls _ _ _ (by simp [maxLen, ByteArray.size])).mono ?_; rintro e w' ⟨rfl, rfl⟩))
  refine bodyPost_ret (v := .tuple #[.agg (It.cells { c := 108, pl := n, w := 0 }), .int .i64 ((n : Int) + 1), .int .i64 (0), .bool false]) (by simp [results, Tryd.results55, go_sem, It.cells]) rfl ?_
  rw [H.out]
  exact headPost_mk { c := 108, pl := n, w := 0 } ((n : Int) + 1) (show ((n : Int) + 1) = ((n + 1 : Nat) : Int) by omega) (fun h => by cases h) rfl (below2 _ _ _)

set_option maxHeartbeats 1000000 in
theorem head_ok_108 (s : ByteArray) (n : Nat) (w : World) (hs : s.size ≤ maxLen) (hn : n ≤ 1000) (hc : bt s n = 108) (h1 : 49 ≤ bt s (n + 1)) (h2 : bt s (n + 1) ≤ 52) :
    Calls Tryd.prog 55 #[.string s, .int .i64 n] w fun e w' => HeadPost (headV s n) w e w' := by
  have H : Hid (headV s n = { ok := true, i := n + 2, inn := 0, it := { c := 108, w := bt s (n + 1) - 48, pl := n } }) := by
    have : headV s n = { ok := true, i := n + 2, inn := 0, it := { c := 108, w := bt s (n + 1) - 48, pl := n } } := by simp [headV, depHd, hc, kAny, kW, kD, kIn, inB, h1, h2]
    exact this
  have hl : letterV 108 65 72 = -1 := by decide
  have hw : inB [110, 108, 104, 107] 108 = true := by decide
  have hd : inB [104, 107, 114, 116, 119, 64, 115] 108 = false := by decide
  have ha : inB [110, 108, 40, 47, 42, 104, 107, 114, 116, 119, 64, 115, 46] 108 = true := by decide
  have hlw := letterV_yes (bt s (n + 1)) 49 52 ⟨h1, h2⟩
  have blo := bt_lo s (n + 1)
  go_enter Tryd.func55, Tryd.ntmps55
  go_wp2_with (first
    | (go_at_call 36; refine (byteAt_calls _ _ _ hs (by omega)).mono ?_; rintro e w' ⟨rfl, rfl⟩; simp only [Int.toNat_natCast, tn1])
    | (go_at_call 35; refine (letter_calls _ _ _ _ (by omega) (by omega) (by omega)).mono ?_; rintro e w' ⟨rfl, rfl⟩)
    | (go_at_call 70; refine (hex_calls _ _).mono ?_; rintro e w' ⟨rfl, rfl⟩)
    | (go_at_call 56; refine (in_calls _ _ _ (by simp [maxLen, ByteArray.size])).mono ?_; rintro e w' ⟨rfl, rfl⟩))
  refine bodyPost_ret (v := .tuple #[.agg (It.cells { c := 108, w := bt s (n + 1) - 49 + 1, pl := n }), .int .i64 ((n : Int) + 1 + 1), .int .i64 (0), .bool true]) (by simp [results, Tryd.results55, go_sem, It.cells]) rfl ?_
  rw [H.out]
  exact headPost_mk { c := 108, w := bt s (n + 1) - 49 + 1, pl := n } ((n : Int) + 1 + 1) (show ((n : Int) + 1 + 1) = ((n + 2 : Nat) : Int) by omega) (fun _ => it_eq (by omega) (by omega) (by omega)) rfl (below2 _ _ _)

set_option maxHeartbeats 1000000 in
theorem head_ok_46 (s : ByteArray) (n : Nat) (w : World) (hs : s.size ≤ maxLen) (hn : n ≤ 1000) (hc : bt s n = 46)  :
    Calls Tryd.prog 55 #[.string s, .int .i64 n] w fun e w' => HeadPost (headV s n) w e w' := by
  have H : Hid (headV s n = { ok := true, i := n + 1, inn := 0, it := { c := 46, pl := n } }) := by
    have : headV s n = { ok := true, i := n + 1, inn := 0, it := { c := 46, pl := n } } := by simp [headV, depHd, hc, kAny, kW, kD, kIn, inB]
    exact this
  have hl : letterV 46 65 72 = -1 := by decide
  have hw : inB [110, 108, 104, 107] 46 = false := by decide
  have hd : inB [104, 107, 114, 116, 119, 64, 115] 46 = false := by decide
  have ha : inB [110, 108, 40, 47, 42, 104, 107, 114, 116, 119, 64, 115, 46] 46 = true := by decide
  go_enter Tryd.func55, Tryd.ntmps55
  go_wp2_with (first
    | (go_at_call 36; refine (byteAt_calls _ _ _ hs (by omega)).mono ?_; rintro e w' ⟨rfl, rfl⟩; simp only [Int.toNat_natCast])
    | (go_at_call 35; refine (letter_calls _ _ _ _ (by omega) (by omega) (by omega)).mono ?_; rintro e w' ⟨rfl, rfl⟩)
    | (go_at_call 70; refine (hex_calls _ _).mono ?_; rintro e w' ⟨rfl, rfl⟩)
    | (go_at_call 56; refine (in_calls _ _ _ (by simp [maxLen, ByteArray.size])).mono ?_; rintro e w' ⟨rfl, rfl⟩))
  refine bodyPost_ret (v := .tuple #[.agg (It.cells { c := 46, pl := n }), .int .i64 ((n : Int) + 1), .int .i64 (0), .bool true]) (by simp [results, Tryd.results55, go_sem, It.cells]) rfl ?_
  rw [H.out]
  exact headPost_mk { c := 46, pl := n } ((n : Int) + 1) (show ((n : Int) + 1) = ((n + 1 : Nat) : Int) by omega) (fun _ => it_eq (by omega) (by omega) (by omega)) rfl (below2 _ _ _)

end Go.Proofs.YtmlkhhhjdpbhfaaDoor

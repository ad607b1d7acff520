import Derived.Test.YtmlkhhhjdpbhfaaDoorRefHead
/- The contract of the document's answer's head, letter by letter. -/
namespace Go.Proofs.YtmlkhhhjdpbhfaaDoor
open Go.RowKit

set_option maxHeartbeats 1000000 in
theorem head_dno_119 (s : ByteArray) (n : Nat) (w : World) (hs : s.size ≤ maxLen) (hn : n ≤ 1000) (hc : bt s n = 119) (g1 : ¬ (97 ≤ bt s (n + 1) ∧ bt s (n + 1) ≤ 104)) :
    Calls Tryd.prog 55 #[.string s, .int .i64 n] w fun e w' => HeadPost (headV s n) w e w' := by
  have H : Hid (headV s n = { ok := false, i := n + 1 }) := by
    have : headV s n = { ok := false, i := n + 1 } := by simp [headV, depHd, hc, kAny, kW, kD, inB, g1]
    exact this
  have hl : letterV 119 65 72 = -1 := by decide
  have hw : inB [110, 108, 104, 107] 119 = false := by decide
  have hd : inB [104, 107, 114, 116, 119, 64, 115] 119 = true := by decide
  have ha : inB [110, 108, 40, 47, 42, 104, 107, 114, 116, 119, 64, 115, 46] 119 = true := by decide
  have hld := letterV_no (bt s (n + 1)) 97 104 g1
  have clo := bt_lo s (n + 1)
  have chi := bt_hi s (n + 1)
  clear g1
  go_enter Tryd.func55, Tryd.ntmps55
  go_wp2_with (first
    | (go_at_call 36; refine (byteAt_calls _ _ _ hs (by omega)).mono ?_; rintro e w' ⟨rfl, rfl⟩; simp only [Int.toNat_natCast, tn1])
    | (go_at_call 35; refine (letter_calls _ _ _ _ (by omega) (by omega) (by omega)).mono ?_; rintro e w' ⟨rfl, rfl⟩)
    | (go_at_call 70; refine (hex_calls _ _).mono ?_; rintro e w' ⟨rfl, rfl⟩)
    | (go_at_call 56; refine (in_calls _ _ _ (by simp [maxLen, ByteArray.size])).mono ?_; rintro e w' ⟨rfl, rfl⟩))
  refine bodyPost_ret (v := .tuple #[.agg (It.cells { c := 119, pl := (n : Int) + 1, w := 0, d := -1 }), .int .i64 ((n : Int) + 1), .int .i64 (0), .bool false]) (by simp [results, Tryd.results55, go_sem, It.cells]) rfl ?_
  rw [H.out]
  exact headPost_mk { c := 119, pl := (n : Int) + 1, w := 0, d := -1 } ((n : Int) + 1) (show ((n : Int) + 1) = ((n + 1 : Nat) : Int) by omega) (fun h => by cases h) rfl (below2 _ _ _)

set_option maxHeartbeats 1000000 in
theorem head_ok_119 (s : ByteArray) (n : Nat) (w : World) (hs : s.size ≤ maxLen) (hn : n ≤ 1000) (hc : bt s n = 119) (g1 : 97 ≤ bt s (n + 1)) (g2 : bt s (n + 1) ≤ 104) :
    Calls Tryd.prog 55 #[.string s, .int .i64 n] w fun e w' => HeadPost (headV s n) w e w' := by
  have H : Hid (headV s n = { ok := true, i := n + 2, inn := 1, it := { c := 119, w := 0, d := bt s (n + 1) - 97, pl := ((n + 1 : Nat) : Int) } }) := by
    have : headV s n = { ok := true, i := n + 2, inn := 1, it := { c := 119, w := 0, d := bt s (n + 1) - 97, pl := ((n + 1 : Nat) : Int) } } := by simp [headV, depHd, hc, kAny, kW, kD, kIn, inB, g1, g2]
    exact this
  have hl : letterV 119 65 72 = -1 := by decide
  have hw : inB [110, 108, 104, 107] 119 = false := by decide
  have hd : inB [104, 107, 114, 116, 119, 64, 115] 119 = true := by decide
  have ha : inB [110, 108, 40, 47, 42, 104, 107, 114, 116, 119, 64, 115, 46] 119 = true := by decide
  have hld := letterV_yes (bt s (n + 1)) 97 104 ⟨g1, g2⟩
  have clo := bt_lo s (n + 1)
  go_enter Tryd.func55, Tryd.ntmps55
  go_wp2_with (first
    | (go_at_call 36; refine (byteAt_calls _ _ _ hs (by omega)).mono ?_; rintro e w' ⟨rfl, rfl⟩; simp only [Int.toNat_natCast, tn1])
    | (go_at_call 35; refine (letter_calls _ _ _ _ (by omega) (by omega) (by omega)).mono ?_; rintro e w' ⟨rfl, rfl⟩)
    | (go_at_call 70; refine (hex_calls _ _).mono ?_; rintro e w' ⟨rfl, rfl⟩)
    | (go_at_call 56; refine (in_calls _ _ _ (by simp [maxLen, ByteArray.size])).mono ?_; rintro e w' ⟨rfl, rfl⟩))
  refine bodyPost_ret (v := .tuple #[.agg (It.cells { c := 119, w := 0, d := bt s (n + 1) - 97, pl := (n : Int) + 1 }), .int .i64 ((n : Int) + 1 + 1), .int .i64 (1), .bool true]) (by simp [results, Tryd.results55, go_sem, It.cells]) rfl ?_
  rw [H.out]
  exact headPost_mk { c := 119, w := 0, d := bt s (n + 1) - 97, pl := (n : Int) + 1 } ((n : Int) + 1 + 1) (show ((n : Int) + 1 + 1) = ((n + 2 : Nat) : Int) by omega) (fun _ => it_eq (by omega) (by omega) (by omega)) rfl (below2 _ _ _)

set_option maxHeartbeats 1000000 in
theorem head_dno_64 (s : ByteArray) (n : Nat) (w : World) (hs : s.size ≤ maxLen) (hn : n ≤ 1000) (hc : bt s n = 64) (g1 : ¬ (97 ≤ bt s (n + 1) ∧ bt s (n + 1) ≤ 104)) :
    Calls Tryd.prog 55 #[.string s, .int .i64 n] w fun e w' => HeadPost (headV s n) w e w' := by
  have H : Hid (headV s n = { ok := false, i := n + 1 }) := by
    have : headV s n = { ok := false, i := n + 1 } := by simp [headV, depHd, hc, kAny, kW, kD, inB, g1]
    exact this
  have hl : letterV 64 65 72 = -1 := by decide
  have hw : inB [110, 108, 104, 107] 64 = false := by decide
  have hd : inB [104, 107, 114, 116, 119, 64, 115] 64 = true := by decide
  have ha : inB [110, 108, 40, 47, 42, 104, 107, 114, 116, 119, 64, 115, 46] 64 = true := by decide
  have hld := letterV_no (bt s (n + 1)) 97 104 g1
  have clo := bt_lo s (n + 1)
  have chi := bt_hi s (n + 1)
  clear g1
  go_enter Tryd.func55, Tryd.ntmps55
  go_wp2_with (first
    | (go_at_call 36; refine (byteAt_calls _ _ _ hs (by omega)).mono ?_; rintro e w' ⟨rfl, rfl⟩; simp only [Int.toNat_natCast, tn1])
    | (go_at_call 35; refine (letter_calls _ _ _ _ (by omega) (by omega) (by omega)).mono ?_; rintro e w' ⟨rfl, rfl⟩)
    | (go_at_call 70; refine (hex_calls _ _).mono ?_; rintro e w' ⟨rfl, rfl⟩)
    | (go_at_call 56; refine (in_calls _ _ _ (by simp [maxLen, ByteArray.size])).mono ?_; rintro e w' ⟨rfl, rfl⟩))
  refine bodyPost_ret (v := .tuple #[.agg (It.cells { c := 64, pl := (n : Int) + 1, w := 0, d := -1 }), .int .i64 ((n : Int) + 1), .int .i64 (0), .bool false]) (by simp [results, Tryd.results55, go_sem, It.cells]) rfl ?_
  rw [H.out]
  exact headPost_mk { c := 64, pl := (n : Int) + 1, w := 0, d := -1 } ((n : Int) + 1) (show ((n : Int) + 1) = ((n + 1 : Nat) : Int) by omega) (fun h => by cases h) rfl (below2 _ _ _)

set_option maxHeartbeats 1000000 in
theorem head_ok_64 (s : ByteArray) (n : Nat) (w : World) (hs : s.size ≤ maxLen) (hn : n ≤ 1000) (hc : bt s n = 64) (g1 : 97 ≤ bt s (n + 1)) (g2 : bt s (n + 1) ≤ 104) :
    Calls Tryd.prog 55 #[.string s, .int .i64 n] w fun e w' => HeadPost (headV s n) w e w' := by
  have H : Hid (headV s n = { ok := true, i := n + 2, inn := 1, it := { c := 64, w := 0, d := bt s (n + 1) - 97, pl := ((n + 1 : Nat) : Int) } }) := by
    have : headV s n = { ok := true, i := n + 2, inn := 1, it := { c := 64, w := 0, d := bt s (n + 1) - 97, pl := ((n + 1 : Nat) : Int) } } := by simp [headV, depHd, hc, kAny, kW, kD, kIn, inB, g1, g2]
    exact this
  have hl : letterV 64 65 72 = -1 := by decide
  have hw : inB [110, 108, 104, 107] 64 = false := by decide
  have hd : inB [104, 107, 114, 116, 119, 64, 115] 64 = true := by decide
  have ha : inB [110, 108, 40, 47, 42, 104, 107, 114, 116, 119, 64, 115, 46] 64 = true := by decide
  have hld := letterV_yes (bt s (n + 1)) 97 104 ⟨g1, g2⟩
  have clo := bt_lo s (n + 1)
  go_enter Tryd.func55, Tryd.ntmps55
  go_wp2_with (first
    | (go_at_call 36; refine (byteAt_calls _ _ _ hs (by omega)).mono ?_; rintro e w' ⟨rfl, rfl⟩; simp only [Int.toNat_natCast, tn1])
    | (go_at_call 35; refine (letter_calls _ _ _ _ (by omega) (by omega) (by omega)).mono ?_; rintro e w' ⟨rfl, rfl⟩)
    | (go_at_call 70; refine (hex_calls _ _).mono ?_; rintro e w' ⟨rfl, rfl⟩)
    | (go_at_call 56; refine (in_calls _ _ _ (by simp [maxLen, ByteArray.size])).mono ?_; rintro e w' ⟨rfl, rfl⟩))
  refine bodyPost_ret (v := .tuple #[.agg (It.cells { c := 64, w := 0, d := bt s (n + 1) - 97, pl := (n : Int) + 1 }), .int .i64 ((n : Int) + 1 + 1), .int .i64 (1), .bool true]) (by simp [results, Tryd.results55, go_sem, It.cells]) rfl ?_
  rw [H.out]
  exact headPost_mk { c := 64, w := 0, d := bt s (n + 1) - 97, pl := (n : Int) + 1 } ((n : Int) + 1 + 1) (show ((n : Int) + 1 + 1) = ((n + 2 : Nat) : Int) by omega) (fun _ => it_eq (by omega) (by omega) (by omega)) rfl (below2 _ _ _)

set_option maxHeartbeats 1000000 in
theorem head_dno_115 (s : ByteArray) (n : Nat) (w : World) (hs : s.size ≤ maxLen) (hn : n ≤ 1000) (hc : bt s n = 115) (g1 : ¬ (97 ≤ bt s (n + 1) ∧ bt s (n + 1) ≤ 104)) :
    Calls Tryd.prog 55 #[.string s, .int .i64 n] w fun e w' => HeadPost (headV s n) w e w' := by
  have H : Hid (headV s n = { ok := false, i := n + 1 }) := by
    have : headV s n = { ok := false, i := n + 1 } := by simp [headV, depHd, hc, kAny, kW, kD, inB, g1]
    exact this
  have hl : letterV 115 65 72 = -1 := by decide
  have hw : inB [110, 108, 104, 107] 115 = false := by decide
  have hd : inB [104, 107, 114, 116, 119, 64, 115] 115 = true := by decide
  have ha : inB [110, 108, 40, 47, 42, 104, 107, 114, 116, 119, 64, 115, 46] 115 = true := by decide
  have hld := letterV_no (bt s (n + 1)) 97 104 g1
  have clo := bt_lo s (n + 1)
  have chi := bt_hi s (n + 1)
  clear g1
  go_enter Tryd.func55, Tryd.ntmps55
  go_wp2_with (first
    | (go_at_call 36; refine (byteAt_calls _ _ _ hs (by omega)).mono ?_; rintro e w' ⟨rfl, rfl⟩; simp only [Int.toNat_natCast, tn1])
    | (go_at_call 35; refine (letter_calls _ _ _ _ (by omega) (by omega) (by omega)).mono ?_; rintro e w' ⟨rfl, rfl⟩)
    | (go_at_call 70; refine (hex_calls _ _).mono ?_; rintro e w' ⟨rfl, rfl⟩)
    | (go_at_call 56; refine (in_calls _ _ _ (by simp [maxLen, ByteArray.size])).mono ?_; rintro e w' ⟨rfl, rfl⟩))
  refine bodyPost_ret (v := .tuple #[.agg (It.cells { c := 115, pl := (n : Int) + 1, w := 0, d := -1 }), .int .i64 ((n : Int) + 1), .int .i64 (0), .bool false]) (by simp [results, Tryd.results55, go_sem, It.cells]) rfl ?_
  rw [H.out]
  exact headPost_mk { c := 115, pl := (n : Int) + 1, w := 0, d := -1 } ((n : Int) + 1) (show ((n : Int) + 1) = ((n + 1 : Nat) : Int) by omega) (fun h => by cases h) rfl (below2 _ _ _)

set_option maxHeartbeats 1000000 in
theorem head_ok_115 (s : ByteArray) (n : Nat) (w : World) (hs : s.size ≤ maxLen) (hn : n ≤ 1000) (hc : bt s n = 115) (g1 : 97 ≤ bt s (n + 1)) (g2 : bt s (n + 1) ≤ 104) :
    Calls Tryd.prog 55 #[.string s, .int .i64 n] w fun e w' => HeadPost (headV s n) w e w' := by
  have H : Hid (headV s n = { ok := true, i := n + 2, inn := 1, it := { c := 115, w := 0, d := bt s (n + 1) - 97, pl := ((n + 1 : Nat) : Int) } }) := by
    have : headV s n = { ok := true, i := n + 2, inn := 1, it := { c := 115, w := 0, d := bt s (n + 1) - 97, pl := ((n + 1 : Nat) : Int) } } := by simp [headV, depHd, hc, kAny, kW, kD, kIn, inB, g1, g2]
    exact this
  have hl : letterV 115 65 72 = -1 := by decide
  have hw : inB [110, 108, 104, 107] 115 = false := by decide
  have hd : inB [104, 107, 114, 116, 119, 64, 115] 115 = true := by decide
  have ha : inB [110, 108, 40, 47, 42, 104, 107, 114, 116, 119, 64, 115, 46] 115 = true := by decide
  have hld := letterV_yes (bt s (n + 1)) 97 104 ⟨g1, g2⟩
  have clo := bt_lo s (n + 1)
  go_enter Tryd.func55, Tryd.ntmps55
  go_wp2_with (first
    | (go_at_call 36; refine (byteAt_calls _ _ _ hs (by omega)).mono ?_; rintro e w' ⟨rfl, rfl⟩; simp only [Int.toNat_natCast, tn1])
    | (go_at_call 35; refine (letter_calls _ _ _ _ (by omega) (by omega) (by omega)).mono ?_; rintro e w' ⟨rfl, rfl⟩)
    | (go_at_call 70; refine (hex_calls _ _).mono ?_; rintro e w' ⟨rfl, rfl⟩)
    | (go_at_call 56; refine (in_calls _ _ _ (by simp [maxLen, ByteArray.size])).mono ?_; rintro e w' ⟨rfl, rfl⟩))
  refine bodyPost_ret (v := .tuple #[.agg (It.cells { c := 115, w := 0, d := bt s (n + 1) - 97, pl := (n : Int) + 1 }), .int .i64 ((n : Int) + 1 + 1), .int .i64 (1), .bool true]) (by simp [results, Tryd.results55, go_sem, It.cells]) rfl ?_
  rw [H.out]
  exact headPost_mk { c := 115, w := 0, d := bt s (n + 1) - 97, pl := (n : Int) + 1 } ((n : Int) + 1 + 1) (show ((n : Int) + 1 + 1) = ((n + 2 : Nat) : Int) by omega) (fun _ => it_eq (by omega) (by omega) (by omega)) rfl (below2 _ _ _)

end Go.Proofs.YtmlkhhhjdpbhfaaDoor

import Derived.Test.YtmlkhhhjdpbhfaaGreatDoorPa29
namespace Go.Proofs.YtmlkhhhjdpbhfaaGreatDoor
open Go.RowKit
set_option maxHeartbeats 1000000 in
theorem head_wno (s : ByteArray) (n : Nat) (w : World) (hs : s.size ≤ maxLen) (hn : n ≤ 1000) (hc : bt s n = 110 ∨ bt s n = 108 ∨ bt s n = 104 ∨ bt s n = 107) (h1 : ¬ (49 ≤ bt s (n + 1) ∧ bt s (n + 1) ≤ 52)) :
 Calls Tryz.prog 162 #[.string s, .int .i64 n] w fun e w' => HeadPost (headV s n) w e w' := by
 rcases hc with hc | hc | hc | hc
 all_goals
  have H : Hid (headV s n = { ok := false, i := n + 1 }) := by
   have : headV s n = { ok := false, i := n + 1 } := by simp [headV, hc, kAny, kW, inB, h1]
   exact this
  have hl : letterV (bt s n) 65 72 = -1 := by rw [hc]; decide
  have hw : inB [110, 108, 104, 107] (bt s n) = true := by rw [hc]; decide
  first | have hd : inB [104, 107, 114, 116, 119, 64, 115] (bt s n) = true := by rw [hc]; decide | have hd : inB [104, 107, 114, 116, 119, 64, 115] (bt s n) = false := by rw [hc]; decide
  have ha : inB [110, 108, 40, 47, 42, 104, 107, 114, 116, 119, 64, 115, 46] (bt s n) = true := by rw [hc]; decide
  have hlw := letterV_no (bt s (n + 1)) 49 52 h1
  have blo := bt_lo s (n + 1)
  have bhi := bt_hi s (n + 1)
  clear h1
  rw [hc] at hl hw hd ha
  go_enter Tryz.func162, Tryz.ntmps162
  go_wp2_with (first
   | (go_at_call 83; refine (byteAt_calls _ _ _ hs (by omega)).mono ?_; rintro e w' ⟨rfl, rfl⟩; simp only [Int.toNat_natCast, tn1])
   | (go_at_call 82; refine (letter_calls _ _ _ _ (by omega) (by omega) (by omega)).mono ?_; rintro e w' ⟨rfl, rfl⟩)
   | (go_at_call 110; refine (hex_calls _ _).mono ?_; rintro e w' ⟨rfl, rfl⟩)
   | (go_at_call 118; refine (in_calls _ _ _ (by simp [maxLen, ByteArray.size])).mono ?_; rintro e w' ⟨rfl, rfl⟩))
  refine bodyPost_ret (v := .tuple #[.agg (It.cells { c := bt s n, pl := n, w := 0 }), .int .i64 ((n : Int) + 1), .int .i64 (0), .bool false]) (by simp [results, Tryz.results162, go_sem, It.cells, hc]) rfl ?_
  rw [H.out]
  exact headPost_mk { c := bt s n, pl := n, w := 0 } ((n : Int) + 1) (show ((n : Int) + 1) = ((n + 1 : Nat) : Int) by omega) (fun h => by cases h) rfl (below2 _ _ _)
set_option maxHeartbeats 1000000 in
theorem head_w (s : ByteArray) (n : Nat) (w : World) (hs : s.size ≤ maxLen) (hn : n ≤ 1000) (hc : bt s n = 110 ∨ bt s n = 108) (h1 : 49 ≤ bt s (n + 1)) (h2 : bt s (n + 1) ≤ 52) :
 Calls Tryz.prog 162 #[.string s, .int .i64 n] w fun e w' => HeadPost (headV s n) w e w' := by
 rcases hc with hc | hc
 all_goals
  have H : Hid (headV s n = { ok := true, i := n + 2, inn := 0, it := { c := bt s n, w := bt s (n + 1) - 48, pl := n } }) := by
   have : headV s n = { ok := true, i := n + 2, inn := 0, it := { c := bt s n, w := bt s (n + 1) - 48, pl := n } } := by simp [headV, depHd, hc, kAny, kW, kD, kIn, inB, h1, h2]
   exact this
  have hl : letterV (bt s n) 65 72 = -1 := by rw [hc]; decide
  have hw : inB [110, 108, 104, 107] (bt s n) = true := by rw [hc]; decide
  have hd : inB [104, 107, 114, 116, 119, 64, 115] (bt s n) = false := by rw [hc]; decide
  have ha : inB [110, 108, 40, 47, 42, 104, 107, 114, 116, 119, 64, 115, 46] (bt s n) = true := by rw [hc]; decide
  have hlw := letterV_yes (bt s (n + 1)) 49 52 ⟨h1, h2⟩
  have blo := bt_lo s (n + 1)
  rw [hc] at hl hw hd ha
  go_enter Tryz.func162, Tryz.ntmps162
  go_wp2_with (first
   | (go_at_call 83; refine (byteAt_calls _ _ _ hs (by omega)).mono ?_; rintro e w' ⟨rfl, rfl⟩; simp only [Int.toNat_natCast, tn1])
   | (go_at_call 82; refine (letter_calls _ _ _ _ (by omega) (by omega) (by omega)).mono ?_; rintro e w' ⟨rfl, rfl⟩)
   | (go_at_call 110; refine (hex_calls _ _).mono ?_; rintro e w' ⟨rfl, rfl⟩)
   | (go_at_call 118; refine (in_calls _ _ _ (by simp [maxLen, ByteArray.size])).mono ?_; rintro e w' ⟨rfl, rfl⟩))
  refine bodyPost_ret (v := .tuple #[.agg (It.cells { c := bt s n, w := bt s (n + 1) - 49 + 1, pl := n }), .int .i64 ((n : Int) + 1 + 1), .int .i64 (0), .bool true]) (by simp [results, Tryz.results162, go_sem, It.cells, hc]) rfl ?_
  rw [H.out]
  exact headPost_mk { c := bt s n, w := bt s (n + 1) - 49 + 1, pl := n } ((n : Int) + 1 + 1) (show ((n : Int) + 1 + 1) = ((n + 2 : Nat) : Int) by omega) (fun _ => it_eq (by omega) (by omega) (by omega)) rfl (below2 _ _ _)
set_option maxHeartbeats 1000000 in
theorem head_wd (s : ByteArray) (n : Nat) (w : World) (hs : s.size ≤ maxLen) (hn : n ≤ 1000) (hc : bt s n = 104 ∨ bt s n = 107) (h1 : 49 ≤ bt s (n + 1)) (h2 : bt s (n + 1) ≤ 52) (g1 : 97 ≤ bt s (n + 2)) (g2 : bt s (n + 2) ≤ 104) :
 Calls Tryz.prog 162 #[.string s, .int .i64 n] w fun e w' => HeadPost (headV s n) w e w' := by
 rcases hc with hc | hc
 all_goals
  have H : Hid (headV s n = { ok := true, i := n + 3, inn := 0, it := { c := bt s n, w := bt s (n + 1) - 48, d := bt s (n + 2) - 97, pl := ((n + 2 : Nat) : Int) } }) := by
   have : headV s n = { ok := true, i := n + 3, inn := 0, it := { c := bt s n, w := bt s (n + 1) - 48, d := bt s (n + 2) - 97, pl := ((n + 2 : Nat) : Int) } } := by simp [headV, depHd, hc, kAny, kW, kD, kIn, inB, h1, h2, g1, g2]
   exact this
  have hl : letterV (bt s n) 65 72 = -1 := by rw [hc]; decide
  have hw : inB [110, 108, 104, 107] (bt s n) = true := by rw [hc]; decide
  have hd : inB [104, 107, 114, 116, 119, 64, 115] (bt s n) = true := by rw [hc]; decide
  have ha : inB [110, 108, 40, 47, 42, 104, 107, 114, 116, 119, 64, 115, 46] (bt s n) = true := by rw [hc]; decide
  have hlw := letterV_yes (bt s (n + 1)) 49 52 ⟨h1, h2⟩
  have blo := bt_lo s (n + 1)
  have hld := letterV_yes (bt s (n + 2)) 97 104 ⟨g1, g2⟩
  have clo := bt_lo s (n + 2)
  rw [hc] at hl hw hd ha
  go_enter Tryz.func162, Tryz.ntmps162
  go_wp2_with (first
   | (go_at_call 83; refine (byteAt_calls _ _ _ hs (by omega)).mono ?_; rintro e w' ⟨rfl, rfl⟩; simp only [Int.toNat_natCast, tn1, tn11])
   | (go_at_call 82; refine (letter_calls _ _ _ _ (by omega) (by omega) (by omega)).mono ?_; rintro e w' ⟨rfl, rfl⟩)
   | (go_at_call 110; refine (hex_calls _ _).mono ?_; rintro e w' ⟨rfl, rfl⟩)
   | (go_at_call 118; refine (in_calls _ _ _ (by simp [maxLen, ByteArray.size])).mono ?_; rintro e w' ⟨rfl, rfl⟩))
  refine bodyPost_ret (v := .tuple #[.agg (It.cells { c := bt s n, w := bt s (n + 1) - 49 + 1, d := bt s (n + 2) - 97, pl := (n : Int) + 1 + 1 }), .int .i64 ((n : Int) + 1 + 1 + 1), .int .i64 (0), .bool true]) (by simp [results, Tryz.results162, go_sem, It.cells, hc]) rfl ?_
  rw [H.out]
  exact headPost_mk { c := bt s n, w := bt s (n + 1) - 49 + 1, d := bt s (n + 2) - 97, pl := (n : Int) + 1 + 1 } ((n : Int) + 1 + 1 + 1) (show ((n : Int) + 1 + 1 + 1) = ((n + 3 : Nat) : Int) by omega) (fun _ => it_eq (by omega) (by omega) (by omega)) rfl (below2 _ _ _)
set_option maxHeartbeats 1000000 in
theorem head_b (s : ByteArray) (n : Nat) (w : World) (hs : s.size ≤ maxLen) (hn : n ≤ 1000) (hc : bt s n = 46 ∨ bt s n = 40 ∨ bt s n = 47 ∨ bt s n = 42)  :
 Calls Tryz.prog 162 #[.string s, .int .i64 n] w fun e w' => HeadPost (headV s n) w e w' := by
 rcases hc with hc | hc | hc | hc
 all_goals
  have H : Hid (headV s n = { ok := true, i := n + 1, inn := kIn (bt s n), it := { c := bt s n, pl := n } }) := by
   have : headV s n = { ok := true, i := n + 1, inn := kIn (bt s n), it := { c := bt s n, pl := n } } := by simp [headV, depHd, hc, kAny, kW, kD, kIn, inB]
   exact this
  have hl : letterV (bt s n) 65 72 = -1 := by rw [hc]; decide
  have hw : inB [110, 108, 104, 107] (bt s n) = false := by rw [hc]; decide
  have hd : inB [104, 107, 114, 116, 119, 64, 115] (bt s n) = false := by rw [hc]; decide
  have ha : inB [110, 108, 40, 47, 42, 104, 107, 114, 116, 119, 64, 115, 46] (bt s n) = true := by rw [hc]; decide
  rw [hc] at hl hw hd ha
  go_enter Tryz.func162, Tryz.ntmps162
  go_wp2_with (first
   | (go_at_call 83; refine (byteAt_calls _ _ _ hs (by omega)).mono ?_; rintro e w' ⟨rfl, rfl⟩; simp only [Int.toNat_natCast])
   | (go_at_call 82; refine (letter_calls _ _ _ _ (by omega) (by omega) (by omega)).mono ?_; rintro e w' ⟨rfl, rfl⟩)
   | (go_at_call 110; refine (hex_calls _ _).mono ?_; rintro e w' ⟨rfl, rfl⟩)
   | (go_at_call 118; refine (in_calls _ _ _ (by simp [maxLen, ByteArray.size])).mono ?_; rintro e w' ⟨rfl, rfl⟩))
  refine bodyPost_ret (v := .tuple #[.agg (It.cells { c := bt s n, pl := n }), .int .i64 ((n : Int) + 1), .int .i64 (kIn (bt s n)), .bool true]) (by simp [results, Tryz.results162, go_sem, It.cells, hc, kIn, inB]) rfl ?_
  rw [H.out]
  exact headPost_mk { c := bt s n, pl := n } ((n : Int) + 1) (show ((n : Int) + 1) = ((n + 1 : Nat) : Int) by omega) (fun _ => it_eq (by omega) (by omega) (by omega)) rfl (below2 _ _ _)
set_option maxHeartbeats 1000000 in
theorem head_d (s : ByteArray) (n : Nat) (w : World) (hs : s.size ≤ maxLen) (hn : n ≤ 1000) (hc : bt s n = 114 ∨ bt s n = 116 ∨ bt s n = 119 ∨ bt s n = 64 ∨ bt s n = 115) (g1 : 97 ≤ bt s (n + 1)) (g2 : bt s (n + 1) ≤ 104) :
 Calls Tryz.prog 162 #[.string s, .int .i64 n] w fun e w' => HeadPost (headV s n) w e w' := by
 rcases hc with hc | hc | hc | hc | hc
 all_goals
  have H : Hid (headV s n = { ok := true, i := n + 2, inn := kIn (bt s n), it := { c := bt s n, w := 0, d := bt s (n + 1) - 97, pl := ((n + 1 : Nat) : Int) } }) := by
   have : headV s n = { ok := true, i := n + 2, inn := kIn (bt s n), it := { c := bt s n, w := 0, d := bt s (n + 1) - 97, pl := ((n + 1 : Nat) : Int) } } := by simp [headV, depHd, hc, kAny, kW, kD, kIn, inB, g1, g2]
   exact this
  have hl : letterV (bt s n) 65 72 = -1 := by rw [hc]; decide
  have hw : inB [110, 108, 104, 107] (bt s n) = false := by rw [hc]; decide
  have hd : inB [104, 107, 114, 116, 119, 64, 115] (bt s n) = true := by rw [hc]; decide
  have ha : inB [110, 108, 40, 47, 42, 104, 107, 114, 116, 119, 64, 115, 46] (bt s n) = true := by rw [hc]; decide
  have hld := letterV_yes (bt s (n + 1)) 97 104 ⟨g1, g2⟩
  have clo := bt_lo s (n + 1)
  rw [hc] at hl hw hd ha
  go_enter Tryz.func162, Tryz.ntmps162
  go_wp2_with (first
   | (go_at_call 83; refine (byteAt_calls _ _ _ hs (by omega)).mono ?_; rintro e w' ⟨rfl, rfl⟩; simp only [Int.toNat_natCast, tn1])
   | (go_at_call 82; refine (letter_calls _ _ _ _ (by omega) (by omega) (by omega)).mono ?_; rintro e w' ⟨rfl, rfl⟩)
   | (go_at_call 110; refine (hex_calls _ _).mono ?_; rintro e w' ⟨rfl, rfl⟩)
   | (go_at_call 118; refine (in_calls _ _ _ (by simp [maxLen, ByteArray.size])).mono ?_; rintro e w' ⟨rfl, rfl⟩))
  refine bodyPost_ret (v := .tuple #[.agg (It.cells { c := bt s n, w := 0, d := bt s (n + 1) - 97, pl := (n : Int) + 1 }), .int .i64 ((n : Int) + 1 + 1), .int .i64 (kIn (bt s n)), .bool true]) (by simp [results, Tryz.results162, go_sem, It.cells, hc, kIn, inB]) rfl ?_
  rw [H.out]
  exact headPost_mk { c := bt s n, w := 0, d := bt s (n + 1) - 97, pl := (n : Int) + 1 } ((n : Int) + 1 + 1) (show ((n : Int) + 1 + 1) = ((n + 2 : Nat) : Int) by omega) (fun _ => it_eq (by omega) (by omega) (by omega)) rfl (below2 _ _ _)
set_option maxHeartbeats 1000000 in
theorem head_wdno (s : ByteArray) (n : Nat) (w : World) (hs : s.size ≤ maxLen) (hn : n ≤ 1000) (hc : bt s n = 104 ∨ bt s n = 107) (h1 : 49 ≤ bt s (n + 1)) (h2 : bt s (n + 1) ≤ 52) (g1 : ¬ (97 ≤ bt s (n + 2) ∧ bt s (n + 2) ≤ 104)) :
 Calls Tryz.prog 162 #[.string s, .int .i64 n] w fun e w' => HeadPost (headV s n) w e w' := by
 rcases hc with hc | hc
 all_goals
  have H : Hid (headV s n = { ok := false, i := n + 2 }) := by
   have : headV s n = { ok := false, i := n + 2 } := by simp [headV, depHd, hc, kAny, kW, kD, inB, h1, h2, g1]
   exact this
  have hl : letterV (bt s n) 65 72 = -1 := by rw [hc]; decide
  have hw : inB [110, 108, 104, 107] (bt s n) = true := by rw [hc]; decide
  have hd : inB [104, 107, 114, 116, 119, 64, 115] (bt s n) = true := by rw [hc]; decide
  have ha : inB [110, 108, 40, 47, 42, 104, 107, 114, 116, 119, 64, 115, 46] (bt s n) = true := by rw [hc]; decide
  have hlw := letterV_yes (bt s (n + 1)) 49 52 ⟨h1, h2⟩
  have blo := bt_lo s (n + 1)
  have hld := letterV_no (bt s (n + 2)) 97 104 g1
  have clo := bt_lo s (n + 2)
  have chi := bt_hi s (n + 2)
  clear g1
  rw [hc] at hl hw hd ha
  go_enter Tryz.func162, Tryz.ntmps162
  go_wp2_with (first
   | (go_at_call 83; refine (byteAt_calls _ _ _ hs (by omega)).mono ?_; rintro e w' ⟨rfl, rfl⟩; simp only [Int.toNat_natCast, tn1, tn11])
   | (go_at_call 82; refine (letter_calls _ _ _ _ (by omega) (by omega) (by omega)).mono ?_; rintro e w' ⟨rfl, rfl⟩)
   | (go_at_call 110; refine (hex_calls _ _).mono ?_; rintro e w' ⟨rfl, rfl⟩)
   | (go_at_call 118; refine (in_calls _ _ _ (by simp [maxLen, ByteArray.size])).mono ?_; rintro e w' ⟨rfl, rfl⟩))
  refine bodyPost_ret (v := .tuple #[.agg (It.cells { c := bt s n, pl := (n : Int) + 1 + 1, w := bt s (n + 1) - 49 + 1, d := -1 }), .int .i64 ((n : Int) + 1 + 1), .int .i64 (0), .bool false]) (by simp [results, Tryz.results162, go_sem, It.cells, hc]) rfl ?_
  rw [H.out]
  exact headPost_mk { c := bt s n, pl := (n : Int) + 1 + 1, w := bt s (n + 1) - 49 + 1, d := -1 } ((n : Int) + 1 + 1) (show ((n : Int) + 1 + 1) = ((n + 2 : Nat) : Int) by omega) (fun h => by cases h) rfl (below2 _ _ _)
set_option maxHeartbeats 1000000 in
theorem head_dno (s : ByteArray) (n : Nat) (w : World) (hs : s.size ≤ maxLen) (hn : n ≤ 1000) (hc : bt s n = 114 ∨ bt s n = 116 ∨ bt s n = 119 ∨ bt s n = 64 ∨ bt s n = 115) (g1 : ¬ (97 ≤ bt s (n + 1) ∧ bt s (n + 1) ≤ 104)) :
 Calls Tryz.prog 162 #[.string s, .int .i64 n] w fun e w' => HeadPost (headV s n) w e w' := by
 rcases hc with hc | hc | hc | hc | hc
 all_goals
  have H : Hid (headV s n = { ok := false, i := n + 1 }) := by
   have : headV s n = { ok := false, i := n + 1 } := by simp [headV, depHd, hc, kAny, kW, kD, inB, g1]
   exact this
  have hl : letterV (bt s n) 65 72 = -1 := by rw [hc]; decide
  have hw : inB [110, 108, 104, 107] (bt s n) = false := by rw [hc]; decide
  have hd : inB [104, 107, 114, 116, 119, 64, 115] (bt s n) = true := by rw [hc]; decide
  have ha : inB [110, 108, 40, 47, 42, 104, 107, 114, 116, 119, 64, 115, 46] (bt s n) = true := by rw [hc]; decide
  have hld := letterV_no (bt s (n + 1)) 97 104 g1
  have clo := bt_lo s (n + 1)
  have chi := bt_hi s (n + 1)
  clear g1
  rw [hc] at hl hw hd ha
  go_enter Tryz.func162, Tryz.ntmps162
  go_wp2_with (first
   | (go_at_call 83; refine (byteAt_calls _ _ _ hs (by omega)).mono ?_; rintro e w' ⟨rfl, rfl⟩; simp only [Int.toNat_natCast, tn1])
   | (go_at_call 82; refine (letter_calls _ _ _ _ (by omega) (by omega) (by omega)).mono ?_; rintro e w' ⟨rfl, rfl⟩)
   | (go_at_call 110; refine (hex_calls _ _).mono ?_; rintro e w' ⟨rfl, rfl⟩)
   | (go_at_call 118; refine (in_calls _ _ _ (by simp [maxLen, ByteArray.size])).mono ?_; rintro e w' ⟨rfl, rfl⟩))
  refine bodyPost_ret (v := .tuple #[.agg (It.cells { c := bt s n, pl := (n : Int) + 1, w := 0, d := -1 }), .int .i64 ((n : Int) + 1), .int .i64 (0), .bool false]) (by simp [results, Tryz.results162, go_sem, It.cells, hc]) rfl ?_
  rw [H.out]
  exact headPost_mk { c := bt s n, pl := (n : Int) + 1, w := 0, d := -1 } ((n : Int) + 1) (show ((n : Int) + 1) = ((n + 1 : Nat) : Int) by omega) (fun h => by cases h) rfl (below2 _ _ _)
set_option maxHeartbeats 1000000 in
theorem head_fix0 (s : ByteArray) (n : Nat) (w : World) (hs : s.size ≤ maxLen) (hn : n ≤ 1000) (hc : bt s n = 39) (ha : hexV (bt s (n + 1)) < 0) :
 Calls Tryz.prog 162 #[.string s, .int .i64 n] w fun e w' => HeadPost (headV s n) w e w' := by
 have H : Hid (headV s n = { ok := false, i := n + 1 }) := by
  have : headV s n = { ok := false, i := n + 1 } := by simp [headV, hc, ha]
  exact this
 have hl : letterV 39 65 72 = -1 := by decide
 go_enter Tryz.func162, Tryz.ntmps162
 go_wp2_with (first
  | (go_at_call 83; refine (byteAt_calls _ _ _ hs (by omega)).mono ?_; rintro e w' ⟨rfl, rfl⟩; simp only [Int.toNat_natCast, tn1, tn2])
  | (go_at_call 82; refine (letter_calls _ _ _ _ (by omega) (by omega) (by omega)).mono ?_; rintro e w' ⟨rfl, rfl⟩)
  | (go_at_call 110; refine (hex_calls _ _).mono ?_; rintro e w' ⟨rfl, rfl⟩)
  | (go_at_call 118; refine (in_calls _ _ _ (by simp [maxLen, ByteArray.size])).mono ?_; rintro e w' ⟨rfl, rfl⟩))
 refine bodyPost_ret (v := .tuple #[.agg (It.cells { c := 39, pl := n }), .int .i64 ((n : Int) + 1), .int .i64 0, .bool false]) (by simp [results, Tryz.results162, go_sem, It.cells]) rfl ?_
 rw [H.out]
 exact headPost_mk { c := 39, pl := n } ((n : Int) + 1) (show ((n : Int) + 1) = ((n + 1 : Nat) : Int) by omega) (fun h => by cases h) rfl (below2 _ _ _)
theorem w64a (x : Int) (h : -100000 ≤ x) (h' : x ≤ 100000) : IntKind.i64.wrap x = x := by rw [IntKind.wrap_i64]; omega
theorem below2d (w : World) (a b : Obj) : Below w.heap.size w ((w.alloc a).alloc b).drew := (below2 w a b).drew
set_option maxHeartbeats 2000000 in
theorem head_fix1 (s : ByteArray) (n : Nat) (w : World) (hs : s.size ≤ maxLen) (hn : n ≤ 1000) (hc : bt s n = 39) (ha : 0 ≤ hexV (bt s (n + 1))) (hb : hexV (bt s (n + 2)) < 0) :
 Calls Tryz.prog 162 #[.string s, .int .i64 n] w fun e w' => HeadPost (headV s n) w e w' := by
 have H : Hid (headV s n = { ok := false, i := n + 2 }) := by
  have h0 : ¬ hexV (bt s (n + 1)) < 0 := by omega
  have h1 : hexV (bt s (n + 2)) < 0 := by omega
  have : headV s n = { ok := false, i := n + 2 } := by simp only [headV, hc, h0, h1, if_true, if_false]; simp
  exact this
 have hl : letterV 39 65 72 = -1 := by decide
 have b1 := hexV_bd (bt s (n + 1))
 have b2 := hexV_bd (bt s (n + 2))
 have hb' : ¬ 0 ≤ hexV (bt s (n + 2)) := by omega
 go_enter Tryz.func162, Tryz.ntmps162
 go_wp2_with (first
  | (go_at_call 83; refine (byteAt_calls _ _ _ hs (by omega)).mono ?_; rintro e w' ⟨rfl, rfl⟩; simp only [Int.toNat_natCast, tn1, tn2])
  | (go_at_call 82; refine (letter_calls _ _ _ _ (by omega) (by omega) (by omega)).mono ?_; rintro e w' ⟨rfl, rfl⟩)
  | (go_at_call 110; refine (hex_calls _ _).mono ?_; rintro e w' ⟨rfl, rfl⟩)
  | (go_at_call 118; refine (in_calls _ _ _ (by simp [maxLen, ByteArray.size])).mono ?_; rintro e w' ⟨rfl, rfl⟩))
 go_region_with (go_at_call 68; refine (in2_calls _ _).mono ?_; rintro e w' ⟨rfl, rfl⟩)
 all_goals
  go_wp2
  refine bodyPost_ret (v := .tuple #[.agg (It.cells { c := 39, b := 16 * hexV (bt s (n + 1)) + hexV (bt s (n + 2)), pl := n }), .int .i64 ((n : Int) + 2), .int .i64 0, .bool false]) (by simp [results, Tryz.results162, go_sem, It.cells, Act.put, hb]; rw [w64a ((n : Int) + 3) (by omega) (by omega), w64a _ (by omega) (by omega)]; try omega) rfl ?_
  rw [H.out]
  exact headPost_mk { c := 39, b := 16 * hexV (bt s (n + 1)) + hexV (bt s (n + 2)), pl := n } ((n : Int) + 2) (show ((n : Int) + 2) = ((n + 2 : Nat) : Int) by omega) (fun h => by cases h) rfl (below2d _ _ _)
set_option maxHeartbeats 2000000 in
theorem head_fix2 (s : ByteArray) (n : Nat) (w : World) (hs : s.size ≤ maxLen) (hn : n ≤ 1000) (hc : bt s n = 39) (ha : 0 ≤ hexV (bt s (n + 1))) (hb : 0 ≤ hexV (bt s (n + 2))) :
 Calls Tryz.prog 162 #[.string s, .int .i64 n] w fun e w' => HeadPost (headV s n) w e w' := by
 have H : Hid (headV s n = { ok := true, i := n + 3, it := { c := 39, b := 16 * hexV (bt s (n + 1)) + hexV (bt s (n + 2)), pl := n } }) := by
  have h0 : ¬ hexV (bt s (n + 1)) < 0 := by omega
  have h1 : ¬ hexV (bt s (n + 2)) < 0 := by omega
  have : headV s n = { ok := true, i := n + 3, it := { c := 39, b := 16 * hexV (bt s (n + 1)) + hexV (bt s (n + 2)), pl := n } } := by simp only [headV, hc, h0, h1, if_true, if_false]; simp
  exact this
 have hl : letterV 39 65 72 = -1 := by decide
 have b1 := hexV_bd (bt s (n + 1))
 have b2 := hexV_bd (bt s (n + 2))
 have hb' : ¬ hexV (bt s (n + 2)) < 0 := by omega
 go_enter Tryz.func162, Tryz.ntmps162
 go_wp2_with (first
  | (go_at_call 83; refine (byteAt_calls _ _ _ hs (by omega)).mono ?_; rintro e w' ⟨rfl, rfl⟩; simp only [Int.toNat_natCast, tn1, tn2])
  | (go_at_call 82; refine (letter_calls _ _ _ _ (by omega) (by omega) (by omega)).mono ?_; rintro e w' ⟨rfl, rfl⟩)
  | (go_at_call 110; refine (hex_calls _ _).mono ?_; rintro e w' ⟨rfl, rfl⟩)
  | (go_at_call 118; refine (in_calls _ _ _ (by simp [maxLen, ByteArray.size])).mono ?_; rintro e w' ⟨rfl, rfl⟩))
 go_region_with (go_at_call 68; refine (in2_calls _ _).mono ?_; rintro e w' ⟨rfl, rfl⟩)
 all_goals
  go_wp2
  refine bodyPost_ret (v := .tuple #[.agg (It.cells { c := 39, b := 16 * hexV (bt s (n + 1)) + hexV (bt s (n + 2)), pl := n }), .int .i64 ((n : Int) + 3), .int .i64 0, .bool true]) (by simp [results, Tryz.results162, go_sem, It.cells, Act.put]; rw [w64a ((n : Int) + 3) (by omega) (by omega), w64a _ (by omega) (by omega)]; try omega) rfl ?_
  rw [H.out]
  exact headPost_mk { c := 39, b := 16 * hexV (bt s (n + 1)) + hexV (bt s (n + 2)), pl := n } ((n : Int) + 3) (show ((n : Int) + 3) = ((n + 3 : Nat) : Int) by omega) (fun _ => rfl) rfl (below2d _ _ _)
theorem kAny_cases (c : Int) (h : kAny c = true) : c = 110 ∨ c = 108 ∨ c = 40 ∨ c = 47 ∨ c = 42 ∨ c = 104 ∨ c = 107 ∨ c = 114 ∨ c = 116 ∨ c = 119 ∨ c = 64 ∨ c = 115 ∨ c = 46 := by
 simp only [kAny, inB, List.any_cons, List.any_nil, Bool.or_false, Bool.or_eq_true, beq_iff_eq] at h
 rcases h with h | h | h | h | h | h | h | h | h | h | h | h | h <;> simp at h <;> omega
theorem head_calls (s : ByteArray) (a : Int) (w : World) (hs : s.size ≤ maxLen) (h0 : 0 ≤ a) (ha : a ≤ 1000) :
 Calls Tryz.prog 162 #[.string s, .int .i64 a] w fun e w' => HeadPost (headV s a.toNat) w e w' := by
 obtain ⟨n, rfl⟩ := Int.eq_ofNat_of_zero_le h0
 have hn : n ≤ 1000 := by omega
 rw [Int.toNat_natCast]
 by_cases hr : 65 ≤ bt s n ∧ bt s n ≤ 72
 · exact head_rule s n w hs hn hr.1 hr.2
 by_cases hf : bt s n = 39
 · by_cases f1 : hexV (bt s (n + 1)) < 0
   · exact head_fix0 s n w hs hn hf f1
   by_cases f2 : hexV (bt s (n + 2)) < 0
   · exact head_fix1 s n w hs hn hf (by omega) f2
   exact head_fix2 s n w hs hn hf (by omega) (by omega)
 by_cases hk : kAny (bt s n) = true
 rotate_left
 · exact head_none s n w hs hn (by simpa using hk) hr hf
 by_cases hd : 49 ≤ bt s (n + 1) ∧ bt s (n + 1) ≤ 52
 all_goals by_cases he : 97 ≤ bt s (n + 1) ∧ bt s (n + 1) ≤ 104
 all_goals by_cases hg : 97 ≤ bt s (n + 2) ∧ bt s (n + 2) ≤ 104
 all_goals rcases kAny_cases _ hk with hc | hc | hc | hc | hc | hc | hc | hc | hc | hc | hc | hc | hc
 all_goals first
  | (exact head_w s n w hs hn (by omega) hd.1 hd.2; done)
  | (exact head_wno s n w hs hn (by omega) hd; done)
  | (exact head_wd s n w hs hn (by omega) hd.1 hd.2 hg.1 hg.2; done)
  | (exact head_wdno s n w hs hn (by omega) hd.1 hd.2 hg; done)
  | (exact head_d s n w hs hn (by omega) he.1 he.2; done)
  | (exact head_dno s n w hs hn (by omega) he; done)
  | (exact head_b s n w hs hn (by omega); done)
end Go.Proofs.YtmlkhhhjdpbhfaaGreatDoor

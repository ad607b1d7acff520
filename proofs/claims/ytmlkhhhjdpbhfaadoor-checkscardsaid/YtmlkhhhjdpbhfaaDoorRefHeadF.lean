import Derived.Test.YtmlkhhhjdpbhfaaDoorRefHead
/- The contract of the document's answer's head, letter by letter. -/
namespace Go.Proofs.YtmlkhhhjdpbhfaaDoor
open Go.RowKit

set_option maxHeartbeats 1000000 in
theorem head_fix0 (s : ByteArray) (n : Nat) (w : World) (hs : s.size ≤ maxLen) (hn : n ≤ 1000) (hc : bt s n = 39) (ha : hexV (bt s (n + 1)) < 0) :
    Calls Tryd.prog 55 #[.string s, .int .i64 n] w fun e w' => HeadPost (headV s n) w e w' := by
  have H : Hid (headV s n = { ok := false, i := n + 1 }) := by
    have : headV s n = { ok := false, i := n + 1 } := by simp [headV, hc, ha]
    exact this
  have hl : letterV 39 65 72 = -1 := by decide
  go_enter Tryd.func55, Tryd.ntmps55
  go_wp2_with (first
    | (go_at_call 36; refine (byteAt_calls _ _ _ hs (by omega)).mono ?_; rintro e w' ⟨rfl, rfl⟩; simp only [Int.toNat_natCast, tn1, tn2])
    | (go_at_call 35; refine (letter_calls _ _ _ _ (by omega) (by omega) (by omega)).mono ?_; rintro e w' ⟨rfl, rfl⟩)
    | (go_at_call 70; refine (hex_calls _ _).mono ?_; rintro e w' ⟨rfl, rfl⟩)
    | (go_at_call 56; refine (in_calls _ _ _ (by simp [maxLen, ByteArray.size])).mono ?_; rintro e w' ⟨rfl, rfl⟩))
  refine bodyPost_ret (v := .tuple #[.agg (It.cells { c := 39, pl := n }), .int .i64 ((n : Int) + 1), .int .i64 0, .bool false]) (by simp [results, Tryd.results55, go_sem, It.cells]) rfl ?_
  rw [H.out]
  exact headPost_mk { c := 39, pl := n } ((n : Int) + 1) (show ((n : Int) + 1) = ((n + 1 : Nat) : Int) by omega) (fun h => by cases h) rfl (below2 _ _ _)

theorem w64a (x : Int) (h : -100000 ≤ x) (h' : x ≤ 100000) : IntKind.i64.wrap x = x := by rw [IntKind.wrap_i64]; omega

theorem below2d (w : World) (a b : Obj) : Below w.heap.size w ((w.alloc a).alloc b).drew := (below2 w a b).drew

set_option maxHeartbeats 2000000 in
theorem head_fix1 (s : ByteArray) (n : Nat) (w : World) (hs : s.size ≤ maxLen) (hn : n ≤ 1000) (hc : bt s n = 39) (ha : 0 ≤ hexV (bt s (n + 1))) (hb : hexV (bt s (n + 2)) < 0) :
    Calls Tryd.prog 55 #[.string s, .int .i64 n] w fun e w' => HeadPost (headV s n) w e w' := by
  have H : Hid (headV s n = { ok := false, i := n + 2 }) := by
    have h0 : ¬ hexV (bt s (n + 1)) < 0 := by omega
    have h1 : hexV (bt s (n + 2)) < 0 := by omega
    have : headV s n = { ok := false, i := n + 2 } := by simp only [headV, hc, h0, h1, if_true, if_false]; simp
    exact this
  have hl : letterV 39 65 72 = -1 := by decide
  have b1 := hexV_bd (bt s (n + 1))
  have b2 := hexV_bd (bt s (n + 2))
  have hb' : ¬ 0 ≤ hexV (bt s (n + 2)) := by omega
  go_enter Tryd.func55, Tryd.ntmps55
  go_wp2_with (first
    | (go_at_call 36; refine (byteAt_calls _ _ _ hs (by omega)).mono ?_; rintro e w' ⟨rfl, rfl⟩; simp only [Int.toNat_natCast, tn1, tn2])
    | (go_at_call 35; refine (letter_calls _ _ _ _ (by omega) (by omega) (by omega)).mono ?_; rintro e w' ⟨rfl, rfl⟩)
    | (go_at_call 70; refine (hex_calls _ _).mono ?_; rintro e w' ⟨rfl, rfl⟩)
    | (go_at_call 56; refine (in_calls _ _ _ (by simp [maxLen, ByteArray.size])).mono ?_; rintro e w' ⟨rfl, rfl⟩))
  go_region_with (go_at_call 71; refine (in2_calls _ _).mono ?_; rintro e w' ⟨rfl, rfl⟩)
  all_goals
    go_wp2
    refine bodyPost_ret (v := .tuple #[.agg (It.cells { c := 39, b := 16 * hexV (bt s (n + 1)) + hexV (bt s (n + 2)), pl := n }), .int .i64 ((n : Int) + 2), .int .i64 0, .bool false]) (by simp [results, Tryd.results55, go_sem, It.cells, Act.put, hb]; rw [w64a ((n : Int) + 3) (by omega) (by omega), w64a _ (by omega) (by omega)]; try omega) rfl ?_
    rw [H.out]
    exact headPost_mk { c := 39, b := 16 * hexV (bt s (n + 1)) + hexV (bt s (n + 2)), pl := n } ((n : Int) + 2) (show ((n : Int) + 2) = ((n + 2 : Nat) : Int) by omega) (fun h => by cases h) rfl (below2d _ _ _)

set_option maxHeartbeats 2000000 in
theorem head_fix2 (s : ByteArray) (n : Nat) (w : World) (hs : s.size ≤ maxLen) (hn : n ≤ 1000) (hc : bt s n = 39) (ha : 0 ≤ hexV (bt s (n + 1))) (hb : 0 ≤ hexV (bt s (n + 2))) :
    Calls Tryd.prog 55 #[.string s, .int .i64 n] w fun e w' => HeadPost (headV s n) w e w' := by
  have H : Hid (headV s n = { ok := true, i := n + 3, it := { c := 39, b := 16 * hexV (bt s (n + 1)) + hexV (bt s (n + 2)), pl := n } }) := by
    have h0 : ¬ hexV (bt s (n + 1)) < 0 := by omega
    have h1 : ¬ hexV (bt s (n + 2)) < 0 := by omega
    have : headV s n = { ok := true, i := n + 3, it := { c := 39, b := 16 * hexV (bt s (n + 1)) + hexV (bt s (n + 2)), pl := n } } := by simp only [headV, hc, h0, h1, if_true, if_false]; simp
    exact this
  have hl : letterV 39 65 72 = -1 := by decide
  have b1 := hexV_bd (bt s (n + 1))
  have b2 := hexV_bd (bt s (n + 2))
  have hb' : ¬ hexV (bt s (n + 2)) < 0 := by omega
  go_enter Tryd.func55, Tryd.ntmps55
  go_wp2_with (first
    | (go_at_call 36; refine (byteAt_calls _ _ _ hs (by omega)).mono ?_; rintro e w' ⟨rfl, rfl⟩; simp only [Int.toNat_natCast, tn1, tn2])
    | (go_at_call 35; refine (letter_calls _ _ _ _ (by omega) (by omega) (by omega)).mono ?_; rintro e w' ⟨rfl, rfl⟩)
    | (go_at_call 70; refine (hex_calls _ _).mono ?_; rintro e w' ⟨rfl, rfl⟩)
    | (go_at_call 56; refine (in_calls _ _ _ (by simp [maxLen, ByteArray.size])).mono ?_; rintro e w' ⟨rfl, rfl⟩))
  go_region_with (go_at_call 71; refine (in2_calls _ _).mono ?_; rintro e w' ⟨rfl, rfl⟩)
  all_goals
    go_wp2
    refine bodyPost_ret (v := .tuple #[.agg (It.cells { c := 39, b := 16 * hexV (bt s (n + 1)) + hexV (bt s (n + 2)), pl := n }), .int .i64 ((n : Int) + 3), .int .i64 0, .bool true]) (by simp [results, Tryd.results55, go_sem, It.cells, Act.put]; rw [w64a ((n : Int) + 3) (by omega) (by omega), w64a _ (by omega) (by omega)]; try omega) rfl ?_
    rw [H.out]
    exact headPost_mk { c := 39, b := 16 * hexV (bt s (n + 1)) + hexV (bt s (n + 2)), pl := n } ((n : Int) + 3) (show ((n : Int) + 3) = ((n + 3 : Nat) : Int) by omega) (fun _ => rfl) rfl (below2d _ _ _)

end Go.Proofs.YtmlkhhhjdpbhfaaDoor

import Derived.Test.YtmlkhhhjdpbhfaaDoorRefLeaf
import Derived.Test.YtmlkhhhjdpbhfaaDoorPlainCells
import Derived.Deep.RegionWith
import Derived.BigRegion
/- The contract of the document's answer's head. -/
namespace Go.Proofs.YtmlkhhhjdpbhfaaDoor
open Go.RowKit

/-- what head gives back: the part itself where it stands, some part where not -/
def HeadPost (h : Hd) (w : World) (e : Ending) (w' : World) : Prop :=
  ∃ it : It, (h.ok = true → it = h.it) ∧ e = .returned (.tuple #[.agg it.cells, .int .i64 h.i, .int .i64 h.inn, .bool h.ok]) ∧ Below w.heap.size w w'

theorem tn1 (n : Nat) : ((n : Int) + 1).toNat = n + 1 := by omega
theorem tn2 (n : Nat) : ((n : Int) + 2).toNat = n + 2 := by omega

theorem tn11 (n : Nat) : ((n : Int) + 1 + 1).toNat = n + 2 := by omega

theorem headPost_mk {h : Hd} {w w' : World} {e : Ending} (it : It) (i : Int) (hi : i = h.i) (hit : h.ok = true → it = h.it) (he : e = .returned (.tuple #[.agg it.cells, .int .i64 i, .int .i64 h.inn, .bool h.ok])) (hb : Below w.heap.size w w') : HeadPost h w e w' := by
  subst hi; exact ⟨it, hit, he, hb⟩

theorem it_eq {c w b r d pl nx rl w' d' pl' : Int} (hw : w = w') (hd : d = d') (hp : pl = pl') : It.mk c w b r d pl nx rl = It.mk c w' b r d' pl' nx rl := by subst hw hd hp; rfl

theorem below2 (w : World) (a b : Obj) : Below w.heap.size w ((w.alloc a).alloc b) := ((Below.refl _ _).alloc (Nat.le_refl _) _).alloc (by simp) _

set_option maxHeartbeats 1000000 in
theorem head_rule (s : ByteArray) (n : Nat) (w : World) (hs : s.size ≤ maxLen) (hn : n ≤ 1000) (h1 : 65 ≤ bt s n) (h2 : bt s n ≤ 72) :
    Calls Tryd.prog 55 #[.string s, .int .i64 n] w fun e w' => HeadPost (headV s n) w e w' := by
  have H : Hid (headV s n = { ok := true, i := n + 1, it := { c := 82, r := bt s n - 65, pl := n } }) := by
    have : headV s n = { ok := true, i := n + 1, it := { c := 82, r := bt s n - 65, pl := n } } := by unfold headV; rw [if_pos ⟨h1, h2⟩]
    exact this
  have hl := letterV_yes (bt s n) 65 72 ⟨h1, h2⟩
  go_enter Tryd.func55, Tryd.ntmps55
  go_wp2_with (first
    | (go_at_call 36; refine (byteAt_calls _ _ _ hs (by omega)).mono ?_; rintro e w' ⟨rfl, rfl⟩; simp only [Int.toNat_natCast])
    | (go_at_call 35; refine (letter_calls _ _ _ _ (by omega) (by omega) (by omega)).mono ?_; rintro e w' ⟨rfl, rfl⟩)
    | (go_at_call 70; refine (hex_calls _ _).mono ?_; rintro e w' ⟨rfl, rfl⟩)
    | (go_at_call 56; refine (in_calls _ _ _ (by simp [maxLen, ByteArray.size])).mono ?_; rintro e w' ⟨rfl, rfl⟩))
  refine bodyPost_ret (v := .tuple #[.agg (It.cells { c := 82, r := bt s n - 65, pl := n }), .int .i64 ((n : Int) + 1), .int .i64 0, .bool true]) (by simp [results, Tryd.results55, go_sem, It.cells]) rfl ?_
  rw [H.out]
  exact headPost_mk { c := 82, r := bt s n - 65, pl := n } ((n : Int) + 1) (by simp) (fun _ => rfl) rfl (below2 _ _ _)

set_option maxHeartbeats 1000000 in
theorem head_none (s : ByteArray) (n : Nat) (w : World) (hs : s.size ≤ maxLen) (hn : n ≤ 1000) (h1 : kAny (bt s n) = false) (h2 : ¬ (65 ≤ bt s n ∧ bt s n ≤ 72)) (h3 : bt s n ≠ 39) :
    Calls Tryd.prog 55 #[.string s, .int .i64 n] w fun e w' => HeadPost (headV s n) w e w' := by
  have H : Hid (headV s n = { ok := false, i := n }) := by
    have : headV s n = { ok := false, i := n } := by unfold headV; rw [if_neg h2, if_neg h3, if_neg (by simp [h1])]
    exact this
  have hl := letterV_no (bt s n) 65 72 h2
  have hlo := bt_lo s n
  have hhi := bt_hi s n
  have h1' : inB [110, 108, 40, 47, 42, 104, 107, 114, 116, 119, 64, 115, 46] (bt s n) = false := h1
  have h3' : (bt s n == 39) = false := by simpa using h3
  clear h1 h2 h3
  by_cases hz : (bt s n == 0) = true
  rotate_left
  simp only [Bool.not_eq_true] at hz
  all_goals
  go_enter Tryd.func55, Tryd.ntmps55
  go_wp2_with (first
    | (go_at_call 36; refine (byteAt_calls _ _ _ hs (by omega)).mono ?_; rintro e w' ⟨rfl, rfl⟩; simp only [Int.toNat_natCast])
    | (go_at_call 35; refine (letter_calls _ _ _ _ (by omega) (by omega) (by omega)).mono ?_; rintro e w' ⟨rfl, rfl⟩)
    | (go_at_call 70; refine (hex_calls _ _).mono ?_; rintro e w' ⟨rfl, rfl⟩)
    | (go_at_call 56; refine (in_calls _ _ _ (by simp [maxLen, ByteArray.size])).mono ?_; rintro e w' ⟨rfl, rfl⟩))
  refine bodyPost_ret (v := .tuple #[.agg (It.cells { c := bt s n, pl := n }), .int .i64 (n : Int), .int .i64 0, .bool false]) (by simp [results, Tryd.results55, go_sem, It.cells]) rfl ?_
  rw [H.out]
  exact headPost_mk { c := bt s n, pl := n } (n : Int) (by simp) (fun _ => by contradiction) rfl (below2 _ _ _)

end Go.Proofs.YtmlkhhhjdpbhfaaDoor

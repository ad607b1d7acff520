/- The contract of the keeper's pick. -/
import Derived.Test.YtmlkhhhjdpbhfaaDoorNmLaw
namespace Go.Proofs.YtmlkhhhjdpbhfaaDoor
open Go.RowKit

set_option maxHeartbeats 400000 in
theorem pick_calls (c n : Int) (h1 : -9223372036854775808 ≤ c) (h2 : c ≤ 9223372036854775807) (hn : 0 < n) (hn2 : n ≤ 16384) (w : World) :
    Calls Tryd.prog 13 #[.int .i64 c, .int .i64 n] w fun e w' => ∃ k : Nat, (k : Int) < n ∧ e = .returned (.int .i64 k) ∧ w' = w := by
  have key : ∀ d : Int, 0 ≤ d → ∃ k : Nat, (k : Int) < n ∧ d.tmod n = k := fun d hd => by
    refine ⟨(d.tmod n).toNat, ?_, ?_⟩
    · have := Int.tmod_lt_of_pos d hn
      have h0 := Int.tmod_nonneg n hd
      omega
    · have h0 := Int.tmod_nonneg n hd
      omega
  have HKey := hid_of key
  clear key
  have hn0 : (n == 0) = false := by simp; omega
  by_cases hc : c < 0
  · obtain ⟨k, hk, hke⟩ := HKey.out (-(c + 1)) (by omega)
    have HK := hid_of hk
    go_enter Tryd.func13, Tryd.ntmps13
    go_wp2_with fail
    go_ret
    exact ⟨k, HK.out, rfl, rfl⟩
  · obtain ⟨k, hk, hke⟩ := HKey.out c (by omega)
    have HK := hid_of hk
    go_enter Tryd.func13, Tryd.ntmps13
    go_wp2_with fail
    go_ret
    exact ⟨k, HK.out, rfl, rfl⟩

end Go.Proofs.YtmlkhhhjdpbhfaaDoor

import Derived.Test.YtmlkhhhjdpbhfaaDoorRefHeadA
import Derived.Test.YtmlkhhhjdpbhfaaDoorRefHeadB
import Derived.Test.YtmlkhhhjdpbhfaaDoorRefHeadC
import Derived.Test.YtmlkhhhjdpbhfaaDoorRefHeadD
import Derived.Test.YtmlkhhhjdpbhfaaDoorRefHeadE
import Derived.Test.YtmlkhhhjdpbhfaaDoorRefHeadF
/- The contract of the document's answer's head, whole. -/
namespace Go.Proofs.YtmlkhhhjdpbhfaaDoor
open Go.RowKit

theorem kAny_cases (c : Int) (h : kAny c = true) : c = 110 ∨ c = 108 ∨ c = 40 ∨ c = 47 ∨ c = 42 ∨ c = 104 ∨ c = 107 ∨ c = 114 ∨ c = 116 ∨ c = 119 ∨ c = 64 ∨ c = 115 ∨ c = 46 := by
  simp only [kAny, inB, List.any_cons, List.any_nil, Bool.or_false, Bool.or_eq_true, beq_iff_eq] at h
  rcases h with h | h | h | h | h | h | h | h | h | h | h | h | h <;> simp at h <;> omega

theorem head_calls (s : ByteArray) (a : Int) (w : World) (hs : s.size ≤ maxLen) (h0 : 0 ≤ a) (ha : a ≤ 1000) :
    Calls Tryd.prog 55 #[.string s, .int .i64 a] w fun e w' => HeadPost (headV s a.toNat) w e w' := by
  obtain ⟨n, rfl⟩ := Int.eq_ofNat_of_zero_le h0
  have hn : n ≤ 1000 := by omega
  rw [Int.toNat_natCast]
  by_cases hr : 65 ≤ bt s n ∧ bt s n ≤ 72
  · exact head_rule s n w hs hn hr.1 hr.2
  by_cases hf : bt s n = 39
  · by_cases f1 : hexV (bt s (n + 1)) < 0
    · exact head_fix0 s n w hs hn hf f1
    by_cases f2 : hexV (bt s (n + 2)) < 0
    · exact head_fix1 s n w hs hn hf (by omega) f2
    exact head_fix2 s n w hs hn hf (by omega) (by omega)
  by_cases hk : kAny (bt s n) = true
  rotate_left
  · exact head_none s n w hs hn (by simpa using hk) hr hf
  by_cases hd : 49 ≤ bt s (n + 1) ∧ bt s (n + 1) ≤ 52
  all_goals by_cases he : 97 ≤ bt s (n + 1) ∧ bt s (n + 1) ≤ 104
  all_goals by_cases hg : 97 ≤ bt s (n + 2) ∧ bt s (n + 2) ≤ 104
  all_goals rcases kAny_cases _ hk with hc | hc | hc | hc | hc | hc | hc | hc | hc | hc | hc | hc | hc
  all_goals first
    | (exact head_ok_110 s n w hs hn hc hd.1 hd.2; done)
    | (exact head_wno_110 s n w hs hn hc hd; done)
    | (exact head_ok_108 s n w hs hn hc hd.1 hd.2; done)
    | (exact head_wno_108 s n w hs hn hc hd; done)
    | (exact head_wno_104 s n w hs hn hc hd; done)
    | (exact head_ok_104 s n w hs hn hc hd.1 hd.2 hg.1 hg.2; done)
    | (exact head_dno_104 s n w hs hn hc hd.1 hd.2 hg; done)
    | (exact head_wno_107 s n w hs hn hc hd; done)
    | (exact head_ok_107 s n w hs hn hc hd.1 hd.2 hg.1 hg.2; done)
    | (exact head_dno_107 s n w hs hn hc hd.1 hd.2 hg; done)
    | (exact head_ok_114 s n w hs hn hc he.1 he.2; done)
    | (exact head_dno_114 s n w hs hn hc he; done)
    | (exact head_ok_116 s n w hs hn hc he.1 he.2; done)
    | (exact head_dno_116 s n w hs hn hc he; done)
    | (exact head_ok_119 s n w hs hn hc he.1 he.2; done)
    | (exact head_dno_119 s n w hs hn hc he; done)
    | (exact head_ok_64 s n w hs hn hc he.1 he.2; done)
    | (exact head_dno_64 s n w hs hn hc he; done)
    | (exact head_ok_115 s n w hs hn hc he.1 he.2; done)
    | (exact head_dno_115 s n w hs hn hc he; done)
    | (exact head_ok_40 s n w hs hn hc; done)
    | (exact head_ok_47 s n w hs hn hc; done)
    | (exact head_ok_42 s n w hs hn hc; done)
    | (exact head_ok_46 s n w hs hn hc; done)

end Go.Proofs.YtmlkhhhjdpbhfaaDoor

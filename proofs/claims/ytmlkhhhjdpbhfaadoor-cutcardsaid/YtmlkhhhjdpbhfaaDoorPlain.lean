import Derived.WalkKit
/- Plain mathematics for the statement on Check: bytes of a text, classes of bytes. It reaches nothing of the program. -/
namespace Go.Proofs.YtmlkhhhjdpbhfaaDoor
open Go.RowKit

/-- byte i of a text, 0 behind its end -/
def bt (s : ByteArray) (i : Nat) : Int := if h : i < s.size then (s[i].toNat : Int) else 0

theorem bt_lo (s : ByteArray) (i : Nat) : 0 ≤ bt s i := by unfold bt; split <;> omega
theorem bt_hi (s : ByteArray) (i : Nat) : bt s i ≤ 255 := by
  unfold bt; split
  · rename_i h; have := s[i].toNat_lt; omega
  · omega
theorem bt_in (s : ByteArray) (i : Nat) (h : i < s.size) : bt s i = (s[i].toNat : Int) := by unfold bt; rw [dif_pos h]
theorem bt_out (s : ByteArray) (i : Nat) (h : ¬ i < s.size) : bt s i = 0 := by unfold bt; rw [dif_neg h]

def letterV (c a b : Int) : Int := if c < a ∨ b < c then -1 else c - a

def inB (l : List UInt8) (c : Int) : Bool := l.any fun b => (b.toNat : Int) == c

def hexV (c : Int) : Int := if 48 ≤ c ∧ c ≤ 57 then c - 48 else if 97 ≤ c ∧ c ≤ 102 then c - 87 else -1

theorem ret_int {k : IntKind} {a b : Int} (h : a = b) : Ending.returned (.int k a) = .returned (.int k b) := by rw [h]
theorem ret_bool {a b : Bool} (h : a = b) : Ending.returned (.bool a) = .returned (.bool b) := by rw [h]

theorem inB_take_succ (s : ByteArray) (c : Int) (k : Nat) (h : k < s.size) :
    inB (s.data.toList.take (k + 1)) c = (inB (s.data.toList.take k) c || ((s[k].toNat : Int) == c)) := by
  rw [List.take_succ_eq_append_getElem (by simpa using h)]
  simp [inB, List.any_append]
  rfl

end Go.Proofs.YtmlkhhhjdpbhfaaDoor

/- How long a list that is handed in can be. -/
import Derived.Test.YtmlkhhhjdpbhfaaDoorDoorRow
namespace Go.Proofs.YtmlkhhhjdpbhfaaDoor
open Go.ChangeShapes Go.WideShapes Go.ChangeAt Go.WideMaps Go.WideElems Go.RowKit

theorem row_len {H : Type} {ts : List TypeId} {ds : List (DataW H)} {d : DataW H} {l : List ByteArray} (j : Nat) (hsz : (DataW.weightsEach Tryd.prog ts ds).all (· ≤ reachBytes) = true) (ht : ts[j]? = some 24) (hd : ds[j]? = some d) (h : (d = .nil ∧ l = []) ∨ ∃ e r, d = .slice e r ∧ l.length ≤ e.length) : l.length ≤ 8796093021960 := by
  rcases h with ⟨_, rfl⟩ | ⟨e, r, rfl, hl⟩
  · simp
  · have := sized_slice hsz (j := j) (t := 24) (e := 9) ht hd Tryd.underlying24
    rw [door_bytes] at this
    simp only [reachBytes] at this
    omega

end Go.Proofs.YtmlkhhhjdpbhfaaDoor

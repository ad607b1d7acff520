import Derived.Test.YtmlkhhhjdpbhfaaDoorPlainPrs
/- The cells of a list of parts as they lie in a row. -/
namespace Go.Proofs.YtmlkhhhjdpbhfaaDoor
open Go.RowKit

def It.cells (p : It) : Array Value := #[.int .u8 p.c, .int .i64 p.w, .int .i64 p.b, .int .i64 p.r, .int .i64 p.d, .int .i64 p.pl, .int .i64 p.nx, .int .i64 p.rl, .int .i64 0]

def It.off (p : It) (k : Nat) : It := { p with nx := k + p.nx }

def cellsL : Nat → List It → List Value
  | _, [] => []
  | k, x :: r => (x.off k).cells.toList ++ cellsL (k + 1) r

theorem cellsL_length (k : Nat) (l : List It) : (cellsL k l).length = l.length * 9 := by
  induction l generalizing k with
  | nil => rfl
  | cons x r ih => simp [cellsL, ih, It.cells]; omega

theorem cellsL_append (k : Nat) (l m : List It) : cellsL k (l ++ m) = cellsL k l ++ cellsL (k + l.length) m := by
  induction l generalizing k with
  | nil => simp [cellsL]
  | cons x r ih =>
    simp only [List.cons_append, cellsL, ih, List.append_assoc, List.length_cons]
    rw [show k + 1 + r.length = k + (r.length + 1) by omega]

/-- one cell of part j -/
theorem cellsL_get (k : Nat) (l : List It) (j q : Nat) (hq : q < 9) : (cellsL k l)[j * 9 + q]? = (l[j]?).bind fun x => (x.off (k + j)).cells[q]? := by
  induction l generalizing k j with
  | nil => simp [cellsL]
  | cons x r ih =>
    have hlen : (x.off k).cells.toList.length = 9 := rfl
    cases j with
    | zero =>
      simp only [cellsL, Nat.zero_mul, Nat.zero_add, List.getElem?_cons_zero, Option.bind_some, Nat.add_zero]
      rw [List.getElem?_append_left (by omega)]
      simp
    | succ j =>
      simp only [cellsL]
      rw [List.getElem?_append_right (by omega), hlen, show (j + 1) * 9 + q - 9 = j * 9 + q by omega, ih]
      simp only [List.getElem?_cons_succ, show k + 1 + j = k + (j + 1) by omega]

theorem set_append_right9 {α : Type} (a b : List α) (n : Nat) (x : α) (h : a.length ≤ n) : (a ++ b).set n x = a ++ b.set (n - a.length) x := by
  rw [List.set_append, if_neg (by omega)]

/-- the 'Next' of a part is set once those within it stand -/
theorem cellsL_next (l : List It) (x : It) (r : List It) (y : Int) :
    (cellsL 0 (l ++ { x with nx := -(l.length : Int) } :: r)).set (l.length * 9 + 6) (.int .i64 (l.length + y)) = cellsL 0 (l ++ { x with nx := y } :: r) := by
  rw [cellsL_append, cellsL_append, set_append_right9 _ _ _ _ (by rw [cellsL_length]; omega), cellsL_length]
  congr 1
  rw [show l.length * 9 + 6 - l.length * 9 = 6 by omega]
  simp [cellsL, It.cells, It.off]

end Go.Proofs.YtmlkhhhjdpbhfaaDoor

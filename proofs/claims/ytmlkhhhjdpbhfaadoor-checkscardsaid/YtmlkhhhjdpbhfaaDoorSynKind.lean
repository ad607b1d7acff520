import Derived.Test.YtmlkhhhjdpbhfaaDoorSynTail
import Derived.Deep.MidRow
import Derived.Deep.DeepCutAuto
import Derived.KernelRfl
/- The contract of kindOf: the table of shapes. -/
namespace Go.Proofs.YtmlkhhhjdpbhfaaDoor
open Go.RowKit

/-- one row of the table -/
structure Sh where
  a : Int := 0
  b : Int := 0
  w : Bool := false
  d : Bool := false
  v : Bool := false
  n : Int := 0

def shapesL : List Sh := [⟨110, 110, true, false, false, 0⟩, ⟨108, 108, true, false, false, 0⟩, ⟨39, 39, false, false, true, 0⟩, ⟨40, 40, false, false, false, -1⟩, ⟨47, 47, false, false, false, 2⟩, ⟨42, 42, false, false, false, 1⟩,
  ⟨65, 72, false, false, false, 0⟩, ⟨104, 104, true, true, false, 0⟩, ⟨107, 107, true, true, false, 0⟩, ⟨114, 114, false, true, false, 0⟩, ⟨116, 116, false, true, false, 1⟩, ⟨119, 119, false, true, false, 1⟩, ⟨64, 64, false, true, false, 1⟩,
  ⟨115, 115, false, true, false, 1⟩, ⟨46, 46, false, false, false, 0⟩]

def sh (j : Nat) : Sh := shapesL.getD j {}

def Sh.row (x : Sh) : Array Value := #[.int .u8 x.a, .int .u8 x.b, .bool x.w, .bool x.d, .bool x.v, .int .i64 x.n]

def shpL : List Value := shapesL.flatMap fun x => x.row.toList

/-- the table lies in block 0 -/
def Shp (w : World) : Prop := w.rangeAt 0 0 shpL ∧ 0 < w.heap.size

/-- the kind of the parts that begin with a byte: its number; 15: none -/
def kindV (c : Int) : Nat := shapesL.findIdx fun x => decide (x.a ≤ c) && decide (c ≤ x.b)

set_option maxRecDepth 100000 in
theorem idx_shp (j : Nat) (hj : j < 15) (w : World) : (Instr.index 138 (.agg shpL.toArray) (.int .i64 (j : Int))).run Tryd.prog w = .ok (.agg (sh j).row) w := by
  have h15 : j = 0 ∨ j = 1 ∨ j = 2 ∨ j = 3 ∨ j = 4 ∨ j = 5 ∨ j = 6 ∨ j = 7 ∨ j = 8 ∨ j = 9 ∨ j = 10 ∨ j = 11 ∨ j = 12 ∨ j = 13 ∨ j = 14 := by omega
  rcases h15 with rfl | rfl | rfl | rfl | rfl | rfl | rfl | rfl | rfl | rfl | rfl | rfl | rfl | rfl | rfl <;> rfl

theorem wpList_index_shp {ops : Array Oper} {rest : List Oper} {op : Oper} {a : Act} {w : World} {Q : Exit → Act → World → Prop} (hgd : op.guard = none) (x y : Operand) (ho : op.op = .index 138 x y)
    (j : Nat) (hj : j < 15) (hx : a.eval x = .agg shpL.toArray) (hy : a.eval y = .int .i64 (j : Int)) (h : wpList Tryd.prog ops Q rest (a.put op.dst (.agg (sh j).row)) w) : wpList Tryd.prog ops Q (op :: rest) a w :=
  wpList_plain hgd fun _ hK => by
    unfold Oper.wp execOp
    simp only [ho, hx, hy, idx_shp j hj, Sem.run_bind, Sem.run_pure, Result.andThen_ok]
    exact hK _ _ h

theorem kindV_at (c : Int) (j : Nat) (hj : j < 15) (h : (decide ((sh j).a ≤ c) && decide (c ≤ (sh j).b)) = true) (hn : ∀ i, i < j → (decide ((sh i).a ≤ c) && decide (c ≤ (sh i).b)) = false) : kindV c = j := by
  have hl : shapesL.length = 15 := rfl
  unfold kindV
  rw [List.findIdx_eq (by omega)]
  refine ⟨?_, fun i hi => ?_⟩
  · have := h; simp only [sh, getD_lt _ _ _ (show j < shapesL.length by omega)] at this; exact this
  · have := hn i hi; simp only [sh, getD_lt _ _ _ (show i < shapesL.length by omega)] at this; exact this
theorem kindV_none (c : Int) (hn : ∀ i, i < 15 → (decide ((sh i).a ≤ c) && decide (c ≤ (sh i).b)) = false) : kindV c = 15 := by
  have hl : shapesL.length = 15 := rfl
  unfold kindV
  rw [show (15 : Nat) = shapesL.length from rfl, List.findIdx_eq_length]
  intro x hx
  obtain ⟨i, hi, rfl⟩ := List.getElem_of_mem hx
  have := hn i (by omega)
  simp only [sh, getD_lt _ _ _ hi] at this
  exact this

def kindK (c : Int) : Int := if kindV c < 15 then (kindV c : Int) else 0
def kindB (c : Int) : Bool := decide (kindV c < 15)

theorem snocAllK {p : Nat → Bool} {k : Nat} (h : ∀ j, j < k → p j = false) (e : p k = false) : ∀ j, j < k + 1 → p j = false := by
  intro j hj
  by_cases hjk : j = k
  · rw [hjk]; exact e
  · exact h j (by omega)

set_option maxRecDepth 100000 in
set_option maxHeartbeats 4000000 in
theorem kindOf_calls (w : World) (c : Int) (hS : Shp w) :
    Calls Tryd.prog 76 #[.int .u8 c] w fun e w' => e = .returned (.tuple #[.int .i64 (kindK c), .bool (kindB c)]) ∧ Below w.heap.size w w' := by
  have HS : Hid (w.rangeAt 0 0 shpL) := hS.1
  clear hS
  go_enter Tryd.func76, Tryd.ntmps76
  go_wp2_with (refine wpList_load_mid rfl 138 _ rfl 0 0 rfl shpL (.array 15 137) HS.out Tryd.underlying138 rfl (by kernel_rfl) ?_)
  generalize hA : shpL.toArray = A at *
  have HA : Hid (shpL.toArray = A) := hA
  clear hA
  go_loopw [7] (fun v7 wr => ∃ j : Nat, v7 = .int .i64 j ∧ j ≤ 15 ∧ Hid (Below w.heap.size w wr) ∧ Hid (∀ i, i < j → (decide ((sh i).a ≤ c) && decide (c ≤ (sh i).b)) = false)) (fun v7 _ => 15 - (intOf v7).toNat)
  case atStart => exact ⟨0, rfl, by omega, Below.refl _ _, fun i hi => by omega⟩
  case round =>
    obtain ⟨j, rfl, hj, hbel, hno⟩ := hrel
    have hsz := hbel.out.size
    have HB2 : Hid (∀ o, Below w.heap.size w (wr.alloc o)) := fun o => hbel.out.alloc hsz o
    by_cases hlt : j < 15
    · have hj15 : (j : Int) < 15 := by omega
      cases hm : (decide ((sh j).a ≤ c) && decide (c ≤ (sh j).b))
      · have HN : Hid (∀ i, i < j + 1 → (decide ((sh i).a ≤ c) && decide (c ≤ (sh i).b)) = false) := snocAllK hno.out hm
        have hor : ¬ (sh j).a ≤ c ∨ ((sh j).a ≤ c ∧ ¬ c ≤ (sh j).b) := by
          by_cases h : (sh j).a ≤ c
          · refine Or.inr ⟨h, fun h2 => ?_⟩
            rw [decide_eq_true h, decide_eq_true h2] at hm
            cases hm
          · exact Or.inl h
        clear hm hno
        rcases hor with h | ⟨h, h'⟩
        all_goals
          go_wp2_with (refine wpList_index_shp rfl _ _ rfl j hlt (by rw [HA.out]; rfl) rfl ?_; simp only [Sh.row])
          go_roundw
          case rel => exact ⟨j + 1, by go_num, by omega, HB2.out _, HN⟩
          case measure => simp [intOf]; omega
      · have HK : Hid (kindV c = j) := kindV_at c j hlt hm hno.out
        have hand : (sh j).a ≤ c ∧ c ≤ (sh j).b := by simpa using hm
        obtain ⟨h, h'⟩ := hand
        clear hm hno
        go_wp2_with (refine wpList_index_shp rfl _ _ rfl j hlt (by rw [HA.out]; rfl) rfl ?_; simp only [Sh.row])
        go_ret2
        have e1 : kindK c = j := by unfold kindK; rw [HK.out, if_pos hlt]
        have e2 : kindB c = true := by unfold kindB; rw [HK.out]; simpa using hlt
        rw [e1, e2]
        exact ⟨rfl, HB2.out _⟩
    · have HK : Hid (kindV c = 15) := kindV_none c (by have := hno.out; rwa [show j = 15 by omega] at this)
      clear hno
      go_wp2_with fail
      go_ret2
      have e1 : kindK c = 0 := by unfold kindK; rw [HK.out]; rfl
      have e2 : kindB c = false := by unfold kindB; rw [HK.out]; rfl
      rw [e1, e2]
      exact ⟨rfl, hbel.out⟩

end Go.Proofs.YtmlkhhhjdpbhfaaDoor

/- Contracts of the reader's small steps, whatever holds the reader: AtEnd, Take, TakeJust. -/
import Derived.Test.YtmlkhhhjdpbhfaaDoorProg
import Derived.Test.YtmlkhhhjdpbhfaaDoorUnPlain
import Derived.Test.YtmlkhhhjdpbhfaaDoorHeap
import Derived.WalkLawsBesides
namespace Go.Proofs.YtmlkhhhjdpbhfaaDoor
open Go.RowKit

/-- a reader lies in block rb, of type t: its text, its place -/
def RdT (t : TypeId) (w : World) (rb : Nat) (s : ByteArray) (i : Nat) : Prop := Blk w rb #[.string s, .int .i64 i] t

/-- no block but rb has turned, and none is new -/
structure SameT (rb : Nat) (w w' : World) : Prop where
  os : w'.os = w.os
  tape : w'.tape = w.tape
  output : w'.output = w.output
  size : w'.heap.size = w.heap.size
  block : ∀ k, k ≠ rb → w'.heap[k]? = w.heap[k]?

theorem SameT.refl (rb : Nat) (w : World) : SameT rb w w := ⟨rfl, rfl, rfl, rfl, fun _ _ => rfl⟩
theorem SameT.drewN (rb : Nat) (w : World) (n : Nat) : SameT rb w (w.drewN n) := ⟨rfl, rfl, rfl, rfl, fun _ _ => rfl⟩
theorem SameT.trans {rb : Nat} {a b c : World} (h : SameT rb a b) (k : SameT rb b c) : SameT rb a c := ⟨k.os.trans h.os, k.tape.trans h.tape, k.output.trans h.output, k.size.trans h.size, fun i hi => (k.block i hi).trans (h.block i hi)⟩
theorem SameT.setCell {rb : Nat} {a b : World} (h : SameT rb a b) (j : Nat) (u : Value) : SameT rb a (b.setCell ⟨rb, j, none⟩ u) :=
  h.trans ⟨rfl, rfl, rfl, by simp [World.setCell], fun k hk => Below.heap_setCell _ _ _ _ hk⟩
theorem SameT.fr {rb : Nat} {w w' : World} (h : SameT rb w w') (B : Nat) : Fr B rb w w' := ⟨h.os, h.tape, h.output, by rw [h.size]; omega, fun k _ hk => h.block k hk⟩
theorem Blk.sameT {rb : Nat} {w w' : World} {b : Nat} {cs : Array Value} {t : TypeId} (h : Blk w b cs t) (hs : SameT rb w w') (hne : b ≠ rb) : Blk w' b cs t := by
  unfold Blk at *; rw [hs.block b hne]; exact h
theorem RdT.drewN {t : TypeId} {w : World} {rb : Nat} {s : ByteArray} {i : Nat} (h : RdT t w rb s i) (n : Nat) : RdT t (w.drewN n) rb s i := h

set_option maxHeartbeats 1000000 in
theorem atEndT_calls (t : TypeId) (w : World) (rb : Nat) (s : ByteArray) (i : Nat) (hr : RdT t w rb s i) (_hs : s.size ≤ 8000) (_hi : i ≤ s.size) :
    Calls Tryd.prog 30 #[.pointer (some ⟨rb, 0, none⟩)] w fun e w' => e = .returned (.bool (decide (i = s.size))) ∧ SameT rb w w' ∧ RdT t w' rb s i := by
  have c0 : w.cell? ⟨rb, 0, none⟩ = some (.string s) := hr.cell 0
  have c1 : w.cell? ⟨rb, 1, none⟩ = some (.int .i64 i) := hr.cell 1
  have HR : Hid (RdT t w rb s i) := hr
  clear hr
  go_enter Tryd.func30, Tryd.ntmps30
  go_wp2_with fail
  go_quiet (fail)
  go_wp2_with fail
  go_ret
  refine ⟨?_, SameT.drewN _ _ _, HR.out.drewN _⟩
  have e : ((i : Int) == (s.size : Int)) = decide (i = s.size) := by
    by_cases h : i = s.size
    · rw [decide_eq_true h]; simp; omega
    · rw [decide_eq_false h]; simp; omega
  rw [← e]
  rfl

def TakeT (t : TypeId) (s : ByteArray) (i : Nat) (a b : Int) (rb : Nat) (w : World) (e : Ending) (w' : World) : Prop :=
  SameT rb w w' ∧ ((tkOk s i a b = true ∧ e = .returned (.tuple #[.int .u8 (bt s i), .bool true]) ∧ RdT t w' rb s (i + 1)) ∨
    (tkOk s i a b = false ∧ e = .returned (.tuple #[.int .u8 0, .bool false]) ∧ RdT t w' rb s i))

set_option maxHeartbeats 2000000 in
theorem takeT_calls (t : TypeId) (w : World) (rb : Nat) (s : ByteArray) (i : Nat) (a b : Int) (hr : RdT t w rb s i) (hs : s.size ≤ 8000) (hi : i ≤ s.size) :
    Calls Tryd.prog 60 #[.pointer (some ⟨rb, 0, none⟩), .int .u8 a, .int .u8 b] w fun e w' => TakeT t s i a b rb w e w' := by
  by_cases hend : i = s.size
  · have hno : Hid (tkOk s i a b = false) := by
      have : tkOk s i a b = false := by
        unfold tkOk
        simp; omega
      exact this
    have HR : Hid (RdT t w rb s i) := hr
    have HEnd := Hid.out (p := i = s.size) hend
    go_enter Tryd.func60, Tryd.ntmps60
    go_wp2_with fail
    refine (atEndT_calls t w rb s i HR.out hs hi).mono ?_
    rintro e w1 ⟨rfl, hsm, hr1⟩
    rw [decide_eq_true HEnd]
    simp only
    clear hend HEnd hr
    go_wp2_with fail
    go_ret2
    exact ⟨hsm, Or.inr ⟨hno.out, rfl, hr1⟩⟩
  · have hlt : i < s.size := by omega
    have hlt' : (i : Int) < (s.size : Int) := by omega
    have HR : Hid (RdT t w rb s i) := hr
    have hbt : Hid (bt s i = (s[i].toNat : Int)) := bt_in s i hlt
    clear hr
    cases hok : tkOk s i a b
    · have hor : (s[i].toNat : Int) < a ∨ (¬ (s[i].toNat : Int) < a ∧ b < (s[i].toNat : Int)) := by
        unfold tkOk at hok
        rw [hbt.out] at hok
        simp at hok
        by_cases h : (s[i].toNat : Int) < a
        · exact Or.inl h
        · exact Or.inr ⟨h, hok hlt (by omega)⟩
      have HOK : Hid (tkOk s i a b = false) := hok
      clear hok
      rcases hor with h | ⟨h, h'⟩
      all_goals
        go_enter Tryd.func60, Tryd.ntmps60
        go_wp2_with fail
        refine (atEndT_calls t w rb s i HR.out hs hi).mono ?_
        rintro e w1 ⟨rfl, hsm, hr1⟩
        rw [decide_eq_false (by omega : ¬ i = s.size)]
        simp only
        have c0 : w1.cell? ⟨rb, 0, none⟩ = some (.string s) := hr1.cell 0
        have c1 : w1.cell? ⟨rb, 1, none⟩ = some (.int .i64 i) := hr1.cell 1
        have HR1 : Hid (RdT t w1 rb s i) := hr1
        clear hr1 hend
        go_wp2_with fail
        go_quiet (fail)
        go_wp2_with fail
        go_ret2
        exact ⟨hsm.trans (SameT.drewN _ _ _), Or.inr ⟨HOK.out, rfl, HR1.out.drewN _⟩⟩
    · have h1 : ¬ (s[i].toNat : Int) < a ∧ ¬ b < (s[i].toNat : Int) := by
        unfold tkOk at hok
        rw [hbt.out] at hok
        simp at hok
        omega
      obtain ⟨h, h'⟩ := h1
      have HOK : Hid (tkOk s i a b = true) := hok
      clear hok
      go_enter Tryd.func60, Tryd.ntmps60
      go_wp2_with fail
      refine (atEndT_calls t w rb s i HR.out hs hi).mono ?_
      rintro e w1 ⟨rfl, hsm, hr1⟩
      rw [decide_eq_false (by omega : ¬ i = s.size)]
      simp only
      have c0 : w1.cell? ⟨rb, 0, none⟩ = some (.string s) := hr1.cell 0
      have c1 : w1.cell? ⟨rb, 1, none⟩ = some (.int .i64 i) := hr1.cell 1
      have f1 : w1.frozen? ⟨rb, 1, none⟩ = false := hr1.frozen 1
      have HR1 : Hid (RdT t w1 rb s i) := hr1
      clear hr1 hend
      go_wp2_with fail
      go_quiet (fail)
      go_wp2_with fail
      go_ret2
      refine ⟨(hsm.trans (SameT.drewN _ _ _)).setCell _ _, Or.inl ⟨HOK.out, ?_, ?_⟩⟩
      · rw [hbt.out]; rfl
      · exact (HR1.out.drewN _).set 1 _

/-- behind TakeJust -/
def JustT (t : TypeId) (s : ByteArray) (i : Nat) (a : Int) (rb : Nat) (w : World) (e : Ending) (w' : World) : Prop :=
  SameT rb w w' ∧ ((tkOk s i a a = true ∧ e = .returned (.bool true) ∧ RdT t w' rb s (i + 1)) ∨ (tkOk s i a a = false ∧ e = .returned (.bool false) ∧ RdT t w' rb s i))

set_option maxHeartbeats 1000000 in
theorem takeJustT_calls (t : TypeId) (w : World) (rb : Nat) (s : ByteArray) (i : Nat) (a : Int) (hr : RdT t w rb s i) (hs : s.size ≤ 8000) (hi : i ≤ s.size) :
    Calls Tryd.prog 52 #[.pointer (some ⟨rb, 0, none⟩), .int .u8 a] w fun e w' => JustT t s i a rb w e w' := by
  have HR : Hid (RdT t w rb s i) := hr
  clear hr
  go_enter Tryd.func52, Tryd.ntmps52
  go_wp2_with fail
  refine (takeT_calls t w rb s i a a HR.out hs hi).mono ?_
  rintro e w1 ⟨hsm, ⟨h1, rfl, h3⟩ | ⟨h1, rfl, h3⟩⟩
  · have HE := hid_of h1
    clear h1
    simp only
    go_wp2_with fail
    go_ret
    exact ⟨hsm, Or.inl ⟨HE.out, rfl, h3⟩⟩
  · have HE := hid_of h1
    clear h1
    simp only
    go_wp2_with fail
    go_ret
    exact ⟨hsm, Or.inr ⟨HE.out, rfl, h3⟩⟩

end Go.Proofs.YtmlkhhhjdpbhfaaDoor

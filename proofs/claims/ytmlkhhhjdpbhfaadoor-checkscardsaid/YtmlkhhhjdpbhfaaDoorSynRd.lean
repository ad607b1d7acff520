import Derived.Test.YtmlkhhhjdpbhfaaDoorProg
import Derived.Test.YtmlkhhhjdpbhfaaDoorPlainRef
import Derived.Test.YtmlkhhhjdpbhfaaDoorHeap
import Derived.WalkLawsBesides
/- Contracts of the reader's small steps: atEnd, take, takeJust. -/
namespace Go.Proofs.YtmlkhhhjdpbhfaaDoor
open Go.RowKit

/-- the reader lies in block rb: its text, its place -/
def Rd (w : World) (rb : Nat) (s : ByteArray) (i : Nat) : Prop := Blk w rb #[.string s, .int .i64 i] 80

/-- no block but rb has turned, and none is new -/
structure Same (rb : Nat) (w w' : World) : Prop where
  os : w'.os = w.os
  tape : w'.tape = w.tape
  output : w'.output = w.output
  size : w'.heap.size = w.heap.size
  block : ∀ k, k ≠ rb → w'.heap[k]? = w.heap[k]?

theorem Same.refl (rb : Nat) (w : World) : Same rb w w := ⟨rfl, rfl, rfl, rfl, fun _ _ => rfl⟩
theorem Same.drewN (rb : Nat) (w : World) (n : Nat) : Same rb w (w.drewN n) := ⟨rfl, rfl, rfl, rfl, fun _ _ => rfl⟩
theorem Same.trans {rb : Nat} {a b c : World} (h : Same rb a b) (k : Same rb b c) : Same rb a c := ⟨k.os.trans h.os, k.tape.trans h.tape, k.output.trans h.output, k.size.trans h.size, fun i hi => (k.block i hi).trans (h.block i hi)⟩
theorem Same.setCell {rb : Nat} {a b : World} (h : Same rb a b) (j : Nat) (u : Value) : Same rb a (b.setCell ⟨rb, j, none⟩ u) :=
  h.trans ⟨rfl, rfl, rfl, by simp [World.setCell], fun k hk => Below.heap_setCell _ _ _ _ hk⟩
theorem Same.fr {rb : Nat} {w w' : World} (h : Same rb w w') (B : Nat) : Fr B rb w w' := ⟨h.os, h.tape, h.output, by rw [h.size]; omega, fun k _ hk => h.block k hk⟩
theorem Blk.same {rb : Nat} {w w' : World} {b : Nat} {cs : Array Value} {t : TypeId} (h : Blk w b cs t) (hs : Same rb w w') (hne : b ≠ rb) : Blk w' b cs t := by
  unfold Blk at *; rw [hs.block b hne]; exact h

theorem Rd.drewN {w : World} {rb : Nat} {s : ByteArray} {i : Nat} (h : Rd w rb s i) (n : Nat) : Rd (w.drewN n) rb s i := h

set_option maxHeartbeats 1000000 in
theorem atEnd_calls (w : World) (rb : Nat) (s : ByteArray) (i : Nat) (hr : Rd w rb s i) (_hs : s.size ≤ 400) (_hi : i ≤ s.size) :
    Calls Tryd.prog 30 #[.pointer (some ⟨rb, 0, none⟩)] w fun e w' => e = .returned (.bool (decide (i = s.size))) ∧ Same rb w w' ∧ Rd w' rb s i := by
  have c0 : w.cell? ⟨rb, 0, none⟩ = some (.string s) := hr.cell 0
  have c1 : w.cell? ⟨rb, 1, none⟩ = some (.int .i64 i) := hr.cell 1
  have HR := hr
  have HR : Hid (Rd w rb s i) := hr
  clear hr
  go_enter Tryd.func30, Tryd.ntmps30
  go_wp2_with fail
  go_quiet (fail)
  go_wp2_with fail
  go_ret
  refine ⟨?_, Same.drewN _ _ _, HR.out.drewN _⟩
  have e : ((i : Int) == (s.size : Int)) = decide (i = s.size) := by
    by_cases h : i = s.size
    · rw [decide_eq_true h]; simp; omega
    · rw [decide_eq_false h]; simp; omega
  rw [← e]
  rfl

def takeOk (s : ByteArray) (i : Nat) (a b : Int) : Bool := decide (a ≤ bt s i ∧ bt s i ≤ b)

def TakePost (s : ByteArray) (i : Nat) (a b : Int) (rb : Nat) (w : World) (e : Ending) (w' : World) : Prop :=
  Same rb w w' ∧ ((takeOk s i a b = true ∧ e = .returned (.tuple #[.int .u8 (bt s i), .bool true]) ∧ Rd w' rb s (i + 1)) ∨
    (takeOk s i a b = false ∧ e = .returned (.tuple #[.int .u8 0, .bool false]) ∧ Rd w' rb s i))

set_option maxHeartbeats 2000000 in
theorem take_calls (w : World) (rb : Nat) (s : ByteArray) (i : Nat) (a b : Int) (hr : Rd w rb s i) (hs : s.size ≤ 400) (hi : i ≤ s.size) (ha : 1 ≤ a) :
    Calls Tryd.prog 60 #[.pointer (some ⟨rb, 0, none⟩), .int .u8 a, .int .u8 b] w fun e w' => TakePost s i a b rb w e w' := by
  by_cases hend : i = s.size
  · have hno : Hid (takeOk s i a b = false) := by
      have : takeOk s i a b = false := by
        unfold takeOk
        rw [bt_out s i (by omega)]
        simp; omega
      exact this
    have HR : Hid (Rd w rb s i) := hr
    have HEnd := Hid.out (p := i = s.size) hend
    go_enter Tryd.func60, Tryd.ntmps60
    go_wp2_with fail
    refine (atEnd_calls w rb s i HR.out hs hi).mono ?_
    rintro e w1 ⟨rfl, hsm, hr1⟩
    rw [decide_eq_true HEnd]
    simp only
    clear hend HEnd hr
    go_wp2_with fail
    go_ret2
    exact ⟨hsm, Or.inr ⟨hno.out, rfl, hr1⟩⟩
  · have hlt : i < s.size := by omega
    have hlt' : (i : Int) < (s.size : Int) := by omega
    have HR : Hid (Rd w rb s i) := hr
    have hbt : Hid (bt s i = (s[i].toNat : Int)) := bt_in s i hlt
    clear hr
    cases hok : takeOk s i a b
    · have hor : (s[i].toNat : Int) < a ∨ (¬ (s[i].toNat : Int) < a ∧ b < (s[i].toNat : Int)) := by
        unfold takeOk at hok
        rw [hbt.out] at hok
        simp at hok
        by_cases h : (s[i].toNat : Int) < a
        · exact Or.inl h
        · exact Or.inr ⟨h, hok (by omega)⟩
      have HOK : Hid (takeOk s i a b = false) := hok
      clear hok
      rcases hor with h | ⟨h, h'⟩
      all_goals
        go_enter Tryd.func60, Tryd.ntmps60
        go_wp2_with fail
        refine (atEnd_calls w rb s i HR.out hs hi).mono ?_
        rintro e w1 ⟨rfl, hsm, hr1⟩
        rw [decide_eq_false (by omega : ¬ i = s.size)]
        simp only
        have c0 : w1.cell? ⟨rb, 0, none⟩ = some (.string s) := hr1.cell 0
        have c1 : w1.cell? ⟨rb, 1, none⟩ = some (.int .i64 i) := hr1.cell 1
        have HR1 : Hid (Rd w1 rb s i) := hr1
        clear hr1 hend
        go_wp2_with fail
        go_quiet (fail)
        go_wp2_with fail
        go_ret2
        exact ⟨hsm.trans (Same.drewN _ _ _), Or.inr ⟨HOK.out, rfl, HR1.out.drewN _⟩⟩
    · have h1 : ¬ (s[i].toNat : Int) < a ∧ ¬ b < (s[i].toNat : Int) := by
        unfold takeOk at hok
        rw [hbt.out] at hok
        simp at hok
        omega
      obtain ⟨h, h'⟩ := h1
      have HOK : Hid (takeOk s i a b = true) := hok
      clear hok
      go_enter Tryd.func60, Tryd.ntmps60
      go_wp2_with fail
      refine (atEnd_calls w rb s i HR.out hs hi).mono ?_
      rintro e w1 ⟨rfl, hsm, hr1⟩
      rw [decide_eq_false (by omega : ¬ i = s.size)]
      simp only
      have c0 : w1.cell? ⟨rb, 0, none⟩ = some (.string s) := hr1.cell 0
      have c1 : w1.cell? ⟨rb, 1, none⟩ = some (.int .i64 i) := hr1.cell 1
      have f1 : w1.frozen? ⟨rb, 1, none⟩ = false := hr1.frozen 1
      have HR1 : Hid (Rd w1 rb s i) := hr1
      clear hr1 hend
      go_wp2_with fail
      go_quiet (fail)
      go_wp2_with fail
      go_ret2
      refine ⟨(hsm.trans (Same.drewN _ _ _)).setCell _ _, Or.inl ⟨HOK.out, ?_, ?_⟩⟩
      · rw [hbt.out]; rfl
      · exact (HR1.out.drewN _).set 1 _

def adv (s : ByteArray) (i : Nat) (a : Int) : Nat := if bt s i = a then i + 1 else i
def isAt (s : ByteArray) (i : Nat) (a : Int) : Bool := decide (bt s i = a)

set_option maxHeartbeats 1000000 in
theorem takeJust_calls (w : World) (rb : Nat) (s : ByteArray) (i : Nat) (a : Int) (hr : Rd w rb s i) (hs : s.size ≤ 400) (hi : i ≤ s.size) (ha : 1 ≤ a) :
    Calls Tryd.prog 52 #[.pointer (some ⟨rb, 0, none⟩), .int .u8 a] w fun e w' => Same rb w w' ∧ e = .returned (.bool (isAt s i a)) ∧ Rd w' rb s (adv s i a) := by
  have HR : Hid (Rd w rb s i) := hr
  clear hr
  go_enter Tryd.func52, Tryd.ntmps52
  go_wp2_with fail
  refine (take_calls w rb s i a a HR.out hs hi ha).mono ?_
  rintro e w1 ⟨hsm, ⟨h1, rfl, h3⟩ | ⟨h1, rfl, h3⟩⟩
  · have he : bt s i = a := by unfold takeOk at h1; simp at h1; omega
    have HE : Hid (bt s i = a) := he
    clear he h1
    simp only
    go_wp2_with fail
    go_ret
    exact ⟨hsm, by rw [isAt, decide_eq_true HE.out]; rfl, by rw [adv, if_pos HE.out]; exact h3⟩
  · have he : ¬ bt s i = a := by unfold takeOk at h1; simp at h1; omega
    have HE : Hid (¬ bt s i = a) := he
    clear he h1
    simp only
    go_wp2_with fail
    go_ret
    exact ⟨hsm, by rw [isAt, decide_eq_false HE.out]; rfl, by rw [adv, if_neg HE.out]; exact h3⟩

end Go.Proofs.YtmlkhhhjdpbhfaaDoor

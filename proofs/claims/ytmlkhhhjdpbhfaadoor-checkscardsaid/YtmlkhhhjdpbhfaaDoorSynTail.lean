import Derived.Test.YtmlkhhhjdpbhfaaDoorSynRd
import Derived.Test.YtmlkhhhjdpbhfaaDoorPlainPrs
/- Contracts of what stands behind a part's first byte: width, dependency, digit, value. -/
namespace Go.Proofs.YtmlkhhhjdpbhfaaDoor
open Go.RowKit

/-- a part of the program in memory -/
structure Pt where
  k : Int
  pl : Int
  wd : Int := 0
  dp : Int := 0
  dpl : Int := 0
  vl : Int := 0
  ru : Int := 0
  sl : Bool := false
  v : Value := .slice none 0 0

def PtBlk (w : World) (pb : Nat) (p : Pt) : Prop := Blk w pb #[.int .i64 p.k, .int .i64 p.pl, .int .i64 p.wd, .int .i64 p.dp, .int .i64 p.dpl, .int .u8 p.vl, .int .i64 p.ru, .bool p.sl, p.v] 124

/-- no blocks but these two have turned, and none is new -/
structure Same2 (rb pb : Nat) (w w' : World) : Prop where
  os : w'.os = w.os
  tape : w'.tape = w.tape
  output : w'.output = w.output
  size : w'.heap.size = w.heap.size
  block : ∀ k, k ≠ rb → k ≠ pb → w'.heap[k]? = w.heap[k]?

theorem Same2.refl (rb pb : Nat) (w : World) : Same2 rb pb w w := ⟨rfl, rfl, rfl, rfl, fun _ _ _ => rfl⟩
theorem Same2.trans {rb pb : Nat} {a b c : World} (h : Same2 rb pb a b) (k : Same2 rb pb b c) : Same2 rb pb a c := ⟨k.os.trans h.os, k.tape.trans h.tape, k.output.trans h.output, k.size.trans h.size, fun i h1 h2 => (k.block i h1 h2).trans (h.block i h1 h2)⟩
theorem Same.two {rb : Nat} {w w' : World} (h : Same rb w w') (pb : Nat) : Same2 rb pb w w' := ⟨h.os, h.tape, h.output, h.size, fun k h1 _ => h.block k h1⟩
theorem Same2.setCell {rb pb : Nat} {a b : World} (h : Same2 rb pb a b) (j : Nat) (u : Value) : Same2 rb pb a (b.setCell ⟨pb, j, none⟩ u) :=
  h.trans ⟨rfl, rfl, rfl, by simp [World.setCell], fun k _ hk => Below.heap_setCell _ _ _ _ hk⟩
theorem Same2.drewN {rb pb : Nat} {a b : World} (h : Same2 rb pb a b) (n : Nat) : Same2 rb pb a (b.drewN n) := ⟨h.os, h.tape, h.output, h.size, h.block⟩

theorem Rd.other {w : World} {rb : Nat} {s : ByteArray} {i : Nat} (h : Rd w rb s i) (a : Addr) (hne : rb ≠ a.block) (u : Value) : Rd (w.setCell a u) rb s i := Blk.setOther h a hne u
theorem PtBlk.same {rb : Nat} {w w' : World} {pb : Nat} {p : Pt} (h : PtBlk w pb p) (hs : Same rb w w') (hne : pb ≠ rb) : PtBlk w' pb p := Blk.same h hs hne

theorem PtBlk.wd {w : World} {pb : Nat} {p : Pt} (h : PtBlk w pb p) (x : Int) : PtBlk (w.setCell ⟨pb, 2, none⟩ (.int .i64 x)) pb { p with wd := x } := Blk.set h 2 _
theorem PtBlk.dp {w : World} {pb : Nat} {p : Pt} (h : PtBlk w pb p) (x : Int) : PtBlk (w.setCell ⟨pb, 3, none⟩ (.int .i64 x)) pb { p with dp := x } := Blk.set h 3 _
theorem PtBlk.dpl {w : World} {pb : Nat} {p : Pt} (h : PtBlk w pb p) (x : Int) : PtBlk (w.setCell ⟨pb, 4, none⟩ (.int .i64 x)) pb { p with dpl := x } := Blk.set h 4 _
theorem PtBlk.vl {w : World} {pb : Nat} {p : Pt} (h : PtBlk w pb p) (x : Int) : PtBlk (w.setCell ⟨pb, 5, none⟩ (.int .u8 x)) pb { p with vl := x } := Blk.set h 5 _
theorem PtBlk.ru {w : World} {pb : Nat} {p : Pt} (h : PtBlk w pb p) (x : Int) : PtBlk (w.setCell ⟨pb, 6, none⟩ (.int .i64 x)) pb { p with ru := x } := Blk.set h 6 _
theorem PtBlk.pv {w : World} {pb : Nat} {p : Pt} (h : PtBlk w pb p) (x : Value) : PtBlk (w.setCell ⟨pb, 8, none⟩ x) pb { p with v := x } := Blk.set h 8 _
theorem PtBlk.sl {w : World} {pb : Nat} {p : Pt} (h : PtBlk w pb p) (x : Bool) : PtBlk (w.setCell ⟨pb, 7, none⟩ (.bool x)) pb { p with sl := x } := Blk.set h 7 _

def stepI (b : Bool) (i : Nat) : Nat := cond b (i + 1) i

def StepPost (s : ByteArray) (rb pb : Nat) (w : World) (ok : Bool) (i : Nat) (p : Pt) (e : Ending) (w' : World) : Prop :=
  e = .returned (.bool ok) ∧ Same2 rb pb w w' ∧ Rd w' rb s i ∧ ∃ p', PtBlk w' pb p' ∧ p'.v = p.v ∧ (ok = true → p' = p)

set_option maxHeartbeats 2000000 in
theorem width_calls (w : World) (rb pb : Nat) (s : ByteArray) (i : Nat) (p : Pt) (hr : Rd w rb s i) (hp : PtBlk w pb p) (hne : pb ≠ rb) (hs : s.size ≤ 400) (hi : i ≤ s.size) :
    Calls Tryd.prog 86 #[.pointer (some ⟨rb, 0, none⟩), .pointer (some ⟨pb, 0, none⟩)] w fun e w' =>
      StepPost s rb pb w (takeOk s i 49 52) (stepI (takeOk s i 49 52) i) { p with wd := bt s i - 48 } e w' := by
  have HR : Hid (Rd w rb s i) := hr
  have HP : Hid (PtBlk w pb p) := hp
  clear hr hp
  go_enter Tryd.func86, Tryd.ntmps86
  go_wp2_with fail
  refine (take_calls w rb s i 49 52 HR.out hs hi (by omega)).mono ?_
  rintro e w1 ⟨hsm, ⟨h1, rfl, h3⟩ | ⟨h1, rfl, h3⟩⟩
  · have hp1 := HP.out.same hsm hne
    have c2 : w1.cell? ⟨pb, 2, none⟩ = some (.int .i64 p.wd) := hp1.cell 2
    have f2 : w1.frozen? ⟨pb, 2, none⟩ = false := hp1.frozen 2
    have hb : 49 ≤ bt s i ∧ bt s i ≤ 52 := by unfold takeOk at h1; simpa using h1
    obtain ⟨hb1, hb2⟩ := hb
    have H1 : Hid (takeOk s i 49 52 = true) := h1
    have HP1 : Hid (PtBlk w1 pb p) := hp1
    clear h1 hp1
    simp only
    go_wp2_with fail
    go_ret
    rw [H1.out]
    exact ⟨rfl, (hsm.two pb).setCell _ _, Rd.other h3 _ (Ne.symm hne) _, _, HP1.out.wd _, rfl, fun _ => rfl⟩
  · have hp1 := HP.out.same hsm hne
    have c2 : w1.cell? ⟨pb, 2, none⟩ = some (.int .i64 p.wd) := hp1.cell 2
    have f2 : w1.frozen? ⟨pb, 2, none⟩ = false := hp1.frozen 2
    have H1 : Hid (takeOk s i 49 52 = false) := h1
    have HP1 : Hid (PtBlk w1 pb p) := hp1
    clear h1 hp1
    simp only
    go_wp2_with fail
    go_ret
    rw [H1.out]
    exact ⟨rfl, (hsm.two pb).setCell _ _, Rd.other h3 _ (Ne.symm hne) _, _, HP1.out.wd _, rfl, fun h => by cases h⟩

set_option maxHeartbeats 2000000 in
theorem dependency_calls (w : World) (rb pb : Nat) (s : ByteArray) (i : Nat) (p : Pt) (hr : Rd w rb s i) (hp : PtBlk w pb p) (hne : pb ≠ rb) (hs : s.size ≤ 400) (hi : i ≤ s.size) :
    Calls Tryd.prog 87 #[.pointer (some ⟨rb, 0, none⟩), .pointer (some ⟨pb, 0, none⟩)] w fun e w' =>
      StepPost s rb pb w (takeOk s i 97 104) (stepI (takeOk s i 97 104) i) { p with dpl := i, dp := bt s i - 97 } e w' := by
  have c1 : w.cell? ⟨rb, 1, none⟩ = some (.int .i64 i) := hr.cell 1
  have c4 : w.cell? ⟨pb, 4, none⟩ = some (.int .i64 p.dpl) := hp.cell 4
  have f4 : w.frozen? ⟨pb, 4, none⟩ = false := hp.frozen 4
  have HR : Hid (Rd w rb s i) := hr
  have HP : Hid (PtBlk w pb p) := hp
  clear hr hp
  go_enter Tryd.func87, Tryd.ntmps87
  go_wp2_with fail
  have HR0 : Hid (Rd (w.setCell ⟨pb, 4, none⟩ (.int .i64 i)) rb s i) := Rd.other HR.out _ (Ne.symm hne) _
  have HP0 : Hid (PtBlk (w.setCell ⟨pb, 4, none⟩ (.int .i64 i)) pb { p with dpl := i }) := HP.out.dpl _
  have hs0 : Same2 rb pb w (w.setCell ⟨pb, 4, none⟩ (.int .i64 i)) := (Same2.refl _ _ _).setCell _ _
  clear c1 c4 f4
  generalize w.setCell ⟨pb, 4, none⟩ (.int .i64 i) = w0 at *
  refine (take_calls w0 rb s i 97 104 HR0.out hs hi (by omega)).mono ?_
  rintro e w1 ⟨hsm, ⟨h1, rfl, h3⟩ | ⟨h1, rfl, h3⟩⟩
  · have hp1 := HP0.out.same hsm hne
    have c2 : w1.cell? ⟨pb, 3, none⟩ = some (.int .i64 p.dp) := hp1.cell 3
    have f2 : w1.frozen? ⟨pb, 3, none⟩ = false := hp1.frozen 3
    have hb : 97 ≤ bt s i ∧ bt s i ≤ 104 := by unfold takeOk at h1; simpa using h1
    obtain ⟨hb1, hb2⟩ := hb
    have H1 : Hid (takeOk s i 97 104 = true) := h1
    have HP1 : Hid (PtBlk w1 pb { p with dpl := i }) := hp1
    clear h1 hp1
    simp only
    go_wp2_with fail
    go_ret
    rw [H1.out]
    exact ⟨rfl, (hs0.trans (hsm.two pb)).setCell _ _, Rd.other h3 _ (Ne.symm hne) _, _, HP1.out.dp _, rfl, fun _ => rfl⟩
  · have hp1 := HP0.out.same hsm hne
    have c2 : w1.cell? ⟨pb, 3, none⟩ = some (.int .i64 p.dp) := hp1.cell 3
    have f2 : w1.frozen? ⟨pb, 3, none⟩ = false := hp1.frozen 3
    have H1 : Hid (takeOk s i 97 104 = false) := h1
    have HP1 : Hid (PtBlk w1 pb { p with dpl := i }) := hp1
    clear h1 hp1
    simp only
    go_wp2_with fail
    go_ret
    rw [H1.out]
    exact ⟨rfl, (hs0.trans (hsm.two pb)).setCell _ _, Rd.other h3 _ (Ne.symm hne) _, _, HP1.out.dp _, rfl, fun h => by cases h⟩


/-- the place behind two digits to the base 16, or the one that cannot be -/
def hexN (s : ByteArray) (i : Nat) : Nat := if hexV (bt s i) < 0 then i else i + 1
def hexOk (s : ByteArray) (i : Nat) : Bool := decide (0 ≤ hexV (bt s i))

set_option maxHeartbeats 2000000 in
theorem digit_calls (w : World) (rb : Nat) (s : ByteArray) (i : Nat) (hr : Rd w rb s i) (hs : s.size ≤ 400) (hi : i ≤ s.size) :
    Calls Tryd.prog 96 #[.pointer (some ⟨rb, 0, none⟩)] w fun e w' => ∃ x : Int, e = .returned (.tuple #[.int .u8 x, .bool (hexOk s i)]) ∧ Same rb w w' ∧ Rd w' rb s (hexN s i) ∧ (hexOk s i = true → x = hexV (bt s i)) := by
  have HR : Hid (Rd w rb s i) := hr
  clear hr
  go_enter Tryd.func96, Tryd.ntmps96
  go_wp2_with fail
  refine (take_calls w rb s i 48 57 HR.out hs hi (by omega)).mono ?_
  rintro e w1 ⟨hsm, ⟨h1, rfl, h3⟩ | ⟨h1, rfl, h3⟩⟩
  · have hb : 48 ≤ bt s i ∧ bt s i ≤ 57 := by unfold takeOk at h1; simpa using h1
    have H2 : Hid (hexV (bt s i) = bt s i - 48) := by
      have : hexV (bt s i) = bt s i - 48 := by unfold hexV; rw [if_pos hb]
      exact this
    obtain ⟨hb1, hb2⟩ := hb
    clear h1
    simp only
    go_wp2_with fail
    go_ret2
    have e1 : hexOk s i = true := by unfold hexOk; rw [H2.out]; simp; omega
    have e2 : hexN s i = i + 1 := by unfold hexN; rw [H2.out, if_neg (by omega)]
    rw [e1, e2]
    exact ⟨_, rfl, hsm, h3, fun _ => H2.out.symm⟩
  · have hb : ¬ (48 ≤ bt s i ∧ bt s i ≤ 57) := by unfold takeOk at h1; simpa using h1
    have Hb : Hid (¬ (48 ≤ bt s i ∧ bt s i ≤ 57)) := hb
    clear h1 hb
    simp only
    go_wp2_with fail
    refine (take_calls w1 rb s i 97 102 h3 hs hi (by omega)).mono ?_
    rintro e w2 ⟨hsm2, ⟨h4, rfl, h6⟩ | ⟨h4, rfl, h6⟩⟩
    · have hb2 : 97 ≤ bt s i ∧ bt s i ≤ 102 := by unfold takeOk at h4; simpa using h4
      have H2 : Hid (hexV (bt s i) = bt s i - 97 + 10) := by
        have : hexV (bt s i) = bt s i - 97 + 10 := by unfold hexV; rw [if_neg Hb.out, if_pos hb2]; omega
        exact this
      obtain ⟨hc1, hc2⟩ := hb2
      clear h4
      simp only
      go_wp2_with fail
      go_ret2
      have e1 : hexOk s i = true := by unfold hexOk; rw [H2.out]; simp; omega
      have e2 : hexN s i = i + 1 := by unfold hexN; rw [H2.out, if_neg (by omega)]
      rw [e1, e2]
      exact ⟨_, rfl, hsm.trans hsm2, h6, fun _ => H2.out.symm⟩
    · have hb2 : ¬ (97 ≤ bt s i ∧ bt s i ≤ 102) := by unfold takeOk at h4; simpa using h4
      have H2 : Hid (hexV (bt s i) = -1) := by
        have : hexV (bt s i) = -1 := by unfold hexV; rw [if_neg Hb.out, if_neg hb2]
        exact this
      clear h4 hb2
      simp only
      go_wp2_with fail
      go_ret2
      have e1 : hexOk s i = false := by unfold hexOk; rw [H2.out]; rfl
      have e2 : hexN s i = i := by unfold hexN; rw [H2.out, if_pos (by omega)]
      rw [e1, e2]
      exact ⟨_, rfl, hsm.trans hsm2, h6, fun h => by cases h⟩

theorem hexOk_lt (s : ByteArray) (i : Nat) (h : hexOk s i = true) : i < s.size ∧ hexN s i = i + 1 := by
  have h0 : 0 ≤ hexV (bt s i) := by unfold hexOk at h; simpa using h
  refine ⟨bt_pos_lt s i ?_, by unfold hexN; rw [if_neg (by omega)]⟩
  have := hexV_bd (bt s i)
  unfold hexV at h0
  split at h0 <;> (try split at h0) <;> omega
theorem hexOk_no (s : ByteArray) (i : Nat) (h : hexOk s i = false) : hexN s i = i := by
  have h0 : ¬ 0 ≤ hexV (bt s i) := by unfold hexOk at h; simpa using h
  unfold hexN; rw [if_pos (by omega)]

def valOk (s : ByteArray) (i : Nat) : Bool := hexOk s i && hexOk s (i + 1)
def valN (s : ByteArray) (i : Nat) : Nat := cond (hexOk s i) (hexN s (i + 1)) i

set_option maxHeartbeats 2000000 in
theorem twoDigits_calls (w : World) (rb : Nat) (s : ByteArray) (i : Nat) (hr : Rd w rb s i) (hs : s.size ≤ 400) (hi : i ≤ s.size) :
    Calls Tryd.prog 94 #[.pointer (some ⟨rb, 0, none⟩)] w fun e w' => ∃ x : Int, e = .returned (.tuple #[.int .u8 x, .bool (valOk s i)]) ∧ Same rb w w' ∧ Rd w' rb s (valN s i) ∧ (valOk s i = true → x = hexV (bt s i) * 16 + hexV (bt s (i + 1))) := by
  have HR : Hid (Rd w rb s i) := hr
  clear hr
  go_enter Tryd.func94, Tryd.ntmps94
  go_wp2_with fail
  refine (digit_calls w rb s i HR.out hs hi).mono ?_
  rintro e w1 ⟨x, rfl, hsm, h3, hx⟩
  cases hok : hexOk s i
  · have H1 : Hid (hexOk s i = false) := hok
    rw [hexOk_no s i hok] at h3
    clear hok hx
    simp only
    go_wp2_with fail
    go_ret2
    have e1 : valOk s i = false := by unfold valOk; rw [H1.out]; rfl
    have e2 : valN s i = i := by unfold valN; rw [H1.out]; rfl
    rw [e1, e2]
    exact ⟨_, rfl, hsm, h3, fun h => by cases h⟩
  · have H1 : Hid (hexOk s i = true) := hok
    obtain ⟨hlt, hn⟩ := hexOk_lt s i hok
    rw [hn] at h3
    have hx := hx hok
    have Hx : Hid (x = hexV (bt s i)) := hx
    have hbx := hexV_bd (bt s i)
    have hx0 : 0 ≤ x ∧ x ≤ 15 := by
      have : 0 ≤ hexV (bt s i) := by unfold hexOk at hok; simpa using hok
      omega
    obtain ⟨hxl, hxh⟩ := hx0
    clear hok hx hn hbx
    simp only
    go_wp2_with fail
    refine (digit_calls w1 rb s (i + 1) h3 hs (by omega)).mono ?_
    rintro e w2 ⟨y, rfl, hsm2, h5, hy⟩
    have hval : Hid (valN s i = hexN s (i + 1) ∧ valOk s i = hexOk s (i + 1)) := by
      refine ⟨?_, ?_⟩
      · unfold valN; rw [H1.out]; rfl
      · unfold valOk; rw [H1.out]; rfl
    cases hok2 : hexOk s (i + 1)
    · have H2 : Hid (hexOk s (i + 1) = false) := hok2
      clear hy hok2
      simp only
      go_wp2_with fail
      go_ret2
      rw [hval.out.1, hval.out.2, H2.out]
      exact ⟨_, rfl, hsm.trans hsm2, h5, fun h => by cases h⟩
    · have H2 : Hid (hexOk s (i + 1) = true) := hok2
      have hy := hy hok2
      have Hy : Hid (y = hexV (bt s (i + 1))) := hy
      have hby := hexV_bd (bt s (i + 1))
      have hy0 : 0 ≤ y ∧ y ≤ 15 := by
        have : 0 ≤ hexV (bt s (i + 1)) := by unfold hexOk at hok2; simpa using hok2
        omega
      obtain ⟨hyl, hyh⟩ := hy0
      clear hok2 hy hby
      simp only
      go_wp2_with fail
      go_ret2
      rw [hval.out.1, hval.out.2, H2.out]
      refine ⟨_, rfl, hsm.trans hsm2, h5, fun _ => ?_⟩
      rw [Hx.out, Hy.out]

set_option maxHeartbeats 2000000 in
theorem value_calls (w : World) (rb pb : Nat) (s : ByteArray) (i : Nat) (p : Pt) (hr : Rd w rb s i) (hp : PtBlk w pb p) (hne : pb ≠ rb) (hs : s.size ≤ 400) (hi : i ≤ s.size) :
    Calls Tryd.prog 88 #[.pointer (some ⟨rb, 0, none⟩), .pointer (some ⟨pb, 0, none⟩)] w fun e w' =>
      StepPost s rb pb w (valOk s i) (valN s i) { p with vl := hexV (bt s i) * 16 + hexV (bt s (i + 1)) } e w' := by
  have HR : Hid (Rd w rb s i) := hr
  have HP : Hid (PtBlk w pb p) := hp
  clear hr hp
  go_enter Tryd.func88, Tryd.ntmps88
  go_wp2_with fail
  refine (twoDigits_calls w rb s i HR.out hs hi).mono ?_
  rintro e w1 ⟨x, rfl, hsm, h3, hx⟩
  have hp2 := HP.out.same hsm hne
  have c5 : w1.cell? ⟨pb, 5, none⟩ = some (.int .u8 p.vl) := hp2.cell 5
  have f5 : w1.frozen? ⟨pb, 5, none⟩ = false := hp2.frozen 5
  have HP2 : Hid (PtBlk w1 pb p) := hp2
  have HX : Hid (valOk s i = true → x = hexV (bt s i) * 16 + hexV (bt s (i + 1))) := hx
  clear hp2 hx
  simp only
  go_wp2_with fail
  go_ret
  refine ⟨rfl, (hsm.two pb).setCell _ _, Rd.other h3 _ (Ne.symm hne) _, _, HP2.out.vl _, rfl, fun h => ?_⟩
  rw [HX.out h]

end Go.Proofs.YtmlkhhhjdpbhfaaDoor

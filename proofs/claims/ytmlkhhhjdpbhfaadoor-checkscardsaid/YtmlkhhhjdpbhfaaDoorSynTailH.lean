import Derived.Test.YtmlkhhhjdpbhfaaDoorSynPart
/- The contract of the reader's tail. -/
namespace Go.Proofs.YtmlkhhhjdpbhfaaDoor
open Go.RowKit

/-- what a part's head comes to behind its first byte: does it stand, the place, the part -/
structure TR where
  ok : Bool
  i : Nat
  p : Pt

def tailW (b : Bool) (s : ByteArray) (i : Nat) (p : Pt) : TR := if b then ⟨takeOk s i 49 52, stepI (takeOk s i 49 52) i, { p with wd := bt s i - 48 }⟩ else ⟨true, i, p⟩
def tailD (b : Bool) (s : ByteArray) (i : Nat) (p : Pt) : TR := if b then ⟨takeOk s i 97 104, stepI (takeOk s i 97 104) i, { p with dpl := i, dp := bt s i - 97 }⟩ else ⟨true, i, p⟩
def tailX (b : Bool) (s : ByteArray) (i : Nat) (p : Pt) : TR := if b then ⟨valOk s i, valN s i, { p with vl := hexV (bt s i) * 16 + hexV (bt s (i + 1)) }⟩ else ⟨true, i, p⟩
def tailH (x : Sh) (s : ByteArray) (i : Nat) (p : Pt) : TR :=
  if (tailW x.w s i p).ok then
    if (tailD x.d s (tailW x.w s i p).i (tailW x.w s i p).p).ok then tailX x.v s (tailD x.d s (tailW x.w s i p).i (tailW x.w s i p).p).i (tailD x.d s (tailW x.w s i p).i (tailW x.w s i p).p).p
    else tailD x.d s (tailW x.w s i p).i (tailW x.w s i p).p
  else tailW x.w s i p

/-- head and parts within -/
def tailR (P : Nat → Res) (s : ByteArray) (f : Nat) (n : Int) (t : TR) : Res := if t.ok then (if n < 0 then loopB P s f t.i else loopN P n.toNat t.i) else ⟨false, t.i, []⟩

def TailPost (s : ByteArray) (f : Nat) (rb pb : Nat) (w : World) (q : Pt) (n : Int) (r : Res) (e : Ending) (w' : World) : Prop :=
  e = .returned (.bool r.ok) ∧ Rd w' rb s r.i ∧ Fr pb rb w w' ∧ w.heap.size ≤ w'.heap.size ∧ (r.ok = true → ∃ kids v', Mk f w' pb (decide (n < 0)) { q with v := v' } kids ∧ kids.flatMap Prod.snd = r.its)

theorem Same2.fr {rb pb : Nat} {w w' : World} (h : Same2 rb pb w w') (B : Nat) (hB : B ≤ pb) : Fr B rb w w' := ⟨h.os, h.tape, h.output, by rw [h.size]; omega, fun k hk hne => h.block k hne (by omega)⟩

theorem Mk.step {f : Nat} {w w' : World} {_rb pb : Nat} {p p' : Pt} (_h : Mk f w pb false p []) (hp : PtBlk w' pb p') (hv : p'.v = p.v) (hn : p.v = .slice none 0 0) : Mk f w' pb false p' [] := by
  refine ⟨hp, ?_, fun q hq => by simp at hq⟩
  rw [hv, hn]
  exact World.ownsRow_nil _ _ _ _

theorem Mk.any {f : Nat} {w : World} {pb : Nat} {sl sl' : Bool} {p : Pt} (h : Mk f w pb sl p []) : Mk f w pb sl' p [] := ⟨h.blk, h.row, fun q hq => by simp at hq⟩

theorem tailH_sl (x : Sh) (s : ByteArray) (i : Nat) (p : Pt) : (tailH x s i p).p.sl = p.sl := by
  unfold tailH tailX tailD tailW
  repeat' split
  all_goals rfl

/-- what holds at the head of the loop over so many parts -/
structure AtN (s : ByteArray) (rule : Int) (f : Nat) (rb pb : Nat) (w : World) (p : Pt) (m i i' k : Nat) (kids : List (Nat × List It)) (v : Value) (wr : World) : Prop where
  rd : Rd wr rb s i'
  made : Mk f wr pb false { p with v := v } kids
  fr : Fr pb rb w wr
  sz : w.heap.size ≤ wr.heap.size
  hi : i' ≤ s.size
  ge : i ≤ i'
  hk : kids.length ≤ k
  km : k ≤ m
  eq : loopN (prs s rule f) m i = (loopN (prs s rule f) (m - k) i').pre (kids.flatMap Prod.snd)

theorem takeOk_lt (s : ByteArray) (i : Nat) (a b : Int) (h : takeOk s i a b = true) (ha : 1 ≤ a) : i < s.size := by
  unfold takeOk at h; simp at h; exact bt_pos_lt s i (by omega)

/-- the state between the steps of tail -/
structure St (s : ByteArray) (f : Nat) (rb pb bx : Nat) (x : Sh) (w0 : World) (i : Nat) (p : Pt) (w : World) : Prop where
  rd : Rd w rb s i
  made : Mk f w pb false p []
  nil : p.v = .slice none 0 0
  fr : Fr pb rb w0 w
  sz : w0.heap.size ≤ w.heap.size
  box : Blk w bx x.row 137

theorem St.next {s : ByteArray} {f : Nat} {rb pb bx : Nat} {x : Sh} {w0 w w' : World} {i i' : Nat} {p p' : Pt} (h : St s f rb pb bx x w0 i p w) (hs : Same2 rb pb w w') (hr : Rd w' rb s i') (hp : PtBlk w' pb p') (hv : p'.v = p.v) (h1 : rb < bx) (h2 : pb < bx) : St s f rb pb bx x w0 i' p' w' := by
  refine ⟨hr, h.made.step (_rb := rb) hp hv h.nil, by rw [hv]; exact h.nil, h.fr.trans (hs.fr _ (Nat.le_refl _)), by rw [hs.size]; exact h.sz, ?_⟩
  have := h.box
  unfold Blk at *
  rw [hs.block bx (by omega) (by omega)]; exact this

theorem valOk_lt (s : ByteArray) (i : Nat) (h : valOk s i = true) : i + 1 < s.size ∧ valN s i = i + 2 := by
  unfold valOk at h
  simp at h
  have h1 := hexOk_lt s i h.1
  have h2 := hexOk_lt s (i + 1) h.2
  refine ⟨h2.1, ?_⟩
  unfold valN
  rw [h.1]
  exact h2.2

end Go.Proofs.YtmlkhhhjdpbhfaaDoor

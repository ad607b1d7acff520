import Derived.Test.YtmlkhhhjdpbhfaaGreatDoorBk03
import Derived.Test.YtmlkhhhjdpbhfaaGreatDoorBk11
import Derived.Test.YtmlkhhhjdpbhfaaGreatDoorProg
import Derived.Test.YtmlkhhhjdpbhfaaGreatDoorBk01
import Derived.WalkLawsBesides
namespace Go.Proofs.YtmlkhhhjdpbhfaaGreatDoor
open Go.RowKit
def tkOk (s : ByteArray) (i : Nat) (a b : Int) : Bool := decide (i < s.size ∧ a ≤ bt s i ∧ bt s i ≤ b)
theorem tkOk_lt {s : ByteArray} {i : Nat} {a b : Int} (h : tkOk s i a b = true) : i < s.size := (of_decide_eq_true h).1
theorem tkOk_bt {s : ByteArray} {i : Nat} {a b : Int} (h : tkOk s i a b = true) : a ≤ bt s i ∧ bt s i ≤ b := (of_decide_eq_true h).2
structure Nd (T : Type) where
 k : Nat
 n : Nat
 run : List UInt8
 kids : List T
def Tr : Nat → Type
 | 0 => Empty
 | n + 1 => Nd (Tr n)
def digV (s : ByteArray) (a : Nat) : Nat := (bt s a - 48).toNat
def rdNum (s : ByteArray) : Nat → Nat → Nat → Nat × Nat
 | 0, n, a => (n, a)
 | f + 1, n, a => if tkOk s a 48 57 then rdNum s f (min (n * 10 + digV s a) 4294967296) (a + 1) else (n, a)
def numV (T : Type) (s : ByteArray) (a : Nat) : Option (Nd T) × Nat :=
 if tkOk s a 48 48 then (some ⟨0, 0, [], []⟩, a + 1)
 else if tkOk s a 49 57 then (if 4294967295 < (rdNum s s.size 0 a).1 then (none, (rdNum s s.size 0 a).2) else (some ⟨0, (rdNum s s.size 0 a).1, [], []⟩, (rdNum s s.size 0 a).2))
 else (none, a)
def rdRun (s : ByteArray) : Nat → Nat → List UInt8 → Option (List UInt8) × Nat
 | 0, a, _ => (none, a)
 | f + 1, a, acc =>
  if tkOk s a 34 34 then (some acc, a + 1)
  else if hexV (bt s a) < 0 then (none, a)
  else if hexV (bt s (a + 1)) < 0 then (none, a + 1)
  else rdRun s f (a + 2) (acc ++ [UInt8.ofNat (16 * hexV (bt s a) + hexV (bt s (a + 1))).toNat])
def runO (T : Type) (r : Option (List UInt8) × Nat) : Option (Nd T) × Nat := (r.1.map fun l => ⟨2, 0, l, []⟩, r.2)
def rdBetw {T : Type} (R : Nat → Option T × Nat) (s : ByteArray) (cl : Int) : Nat → Nat → List T → Option (List T) × Nat
 | 0, a, _ => (none, a)
 | f + 1, a, acc =>
  match (R a).1 with
  | none => (none, (R a).2)
  | some v => if tkOk s (R a).2 cl cl then (some (acc ++ [v]), (R a).2 + 1) else if tkOk s (R a).2 32 32 then rdBetw R s cl f ((R a).2 + 1) (acc ++ [v]) else (none, (R a).2)
def betwO {T : Type} (k : Nat) (r : Option (List T) × Nat) : Option (Nd T) × Nat := (r.1.map fun l => ⟨k, 0, [], l⟩, r.2)
def betwV {T : Type} (R : Nat → Option T × Nat) (s : ByteArray) (k : Nat) (cl : Int) (a : Nat) : Option (Nd T) × Nat :=
 if tkOk s a cl cl then (some ⟨k, 0, [], []⟩, a + 1) else betwO k (rdBetw R s cl s.size a [])
def choO {T : Type} (d : Nat) (r : Option T × Nat) : Option (Nd T) × Nat := (r.1.map fun v => ⟨5, d, [], [v]⟩, r.2)
def choV {T : Type} (R : Nat → Option T × Nat) (s : ByteArray) (a : Nat) : Option (Nd T) × Nat :=
 if tkOk s a 48 49 then (if tkOk s (a + 1) 32 32 then choO (digV s a) (R (a + 2)) else (none, a + 1)) else (none, a)
def valX {T : Type} (R : Nat → Option T × Nat) (s : ByteArray) (a : Nat) : Option (Nd T) × Nat :=
 if tkOk s a 45 45 then (some ⟨1, 0, [], []⟩, a + 1)
 else if tkOk s a 34 34 then runO T (rdRun s s.size (a + 1) [])
 else if tkOk s a 40 40 then betwV R s 3 41 (a + 1)
 else if tkOk s a 91 91 then betwV R s 4 93 (a + 1)
 else if tkOk s a 47 47 then choV R s (a + 1)
 else numV T s a
def valV (s : ByteArray) : (n : Nat) → Nat → Option (Tr n) × Nat
 | 0, a => (none, a)
 | n + 1, a => valX (valV s n) s a
def treeV (s : ByteArray) : Option (Tr (s.size + 1)) × Nat :=
 if 8000 < s.size then (none, 0)
 else if (valV s (s.size + 1) 0).2 = s.size then valV s (s.size + 1) 0 else (none, (valV s (s.size + 1) 0).2)
theorem rdNum_at (s : ByteArray) (f : Nat) : ∀ n a, a ≤ s.size → a ≤ (rdNum s f n a).2 ∧ (rdNum s f n a).2 ≤ s.size := by
 induction f with
 | zero => intro n a h; exact ⟨Nat.le_refl _, h⟩
 | succ f ih =>
  intro n a h
  rw [rdNum]
  split
  · rename_i ht
    have := ih (min (n * 10 + digV s a) 4294967296) (a + 1) (tkOk_lt ht)
    omega
  · exact ⟨Nat.le_refl _, h⟩
theorem rdRun_at (s : ByteArray) (f : Nat) : ∀ a acc, a ≤ s.size → a ≤ (rdRun s f a acc).2 ∧ (rdRun s f a acc).2 ≤ s.size := by
 induction f with
 | zero => intro a acc h; exact ⟨Nat.le_refl _, h⟩
 | succ f ih =>
  intro a acc h
  have hx : ∀ i, ¬ hexV (bt s i) < 0 → i < s.size := fun i hi => by
   by_cases hl : i < s.size
   · exact hl
   · rw [bt_out s i hl] at hi; exact absurd (by decide) hi
  rw [rdRun]
  split
  · rename_i ht; have := tkOk_lt ht; simp only; omega
  · split
    · exact ⟨Nat.le_refl _, h⟩
    · rename_i h1
      have := hx _ h1
      split
      · simp only; omega
      · rename_i h2
        have := hx _ h2
        have := ih (a + 2) (acc ++ [UInt8.ofNat (16 * hexV (bt s a) + hexV (bt s (a + 1))).toNat]) (by omega)
        omega
structure RdO {T : Type} (s : ByteArray) (a : Nat) (r : Option T × Nat) : Prop where
 ge : a ≤ r.2
 le : r.2 ≤ s.size
 lt : r.1.isSome = true → a < r.2
def VlAt {T : Type} (s : ByteArray) (R : Nat → Option T × Nat) : Prop := ∀ a, a ≤ s.size → RdO s a (R a)
theorem rdBetw_at {T : Type} (s : ByteArray) (R : Nat → Option T × Nat) (hR : VlAt s R) (cl : Int) (f : Nat) : ∀ a acc, a ≤ s.size → a ≤ (rdBetw R s cl f a acc).2 ∧ (rdBetw R s cl f a acc).2 ≤ s.size := by
 induction f with
 | zero => intro a acc h; exact ⟨Nat.le_refl _, h⟩
 | succ f ih =>
  intro a acc h
  have h1 := hR a h
  have h2 := h1.ge
  have h3 := h1.le
  rw [rdBetw]
  split
  · exact ⟨h2, h3⟩
  · split
    · rename_i ht; have := tkOk_lt ht; simp only; omega
    · split
      · rename_i v _ _ ht
        have := tkOk_lt ht
        have := ih ((R a).2 + 1) (acc ++ [v]) (by omega)
        omega
      · exact ⟨h2, h3⟩
theorem numV_at (T : Type) (s : ByteArray) (a : Nat) (h : a ≤ s.size) : RdO s a (numV T s a) := by
 unfold numV
 split
 · rename_i ht; have := tkOk_lt ht; exact ⟨by simp only; omega, by simp only; omega, fun _ => by simp only; omega⟩
 · split
   · rename_i ht
     have hl := tkOk_lt ht
     have hb := tkOk_bt ht
     have hr := rdNum_at s s.size 0 a h
     have hg : a < (rdNum s s.size 0 a).2 := by
      obtain ⟨f, hf⟩ : ∃ f, s.size = f + 1 := ⟨s.size - 1, by omega⟩
      rw [hf, rdNum, if_pos (show tkOk s a 48 57 = true from decide_eq_true ⟨hl, by omega, by omega⟩)]
      have := rdNum_at s f (min (0 * 10 + digV s a) 4294967296) (a + 1) (by omega)
      omega
     split
     · exact ⟨hr.1, hr.2, fun e => by cases e⟩
     · exact ⟨hr.1, hr.2, fun _ => hg⟩
   · exact ⟨Nat.le_refl _, h, fun e => by cases e⟩
theorem valX_at {T : Type} (s : ByteArray) (R : Nat → Option T × Nat) (hR : VlAt s R) : VlAt s (valX R s) := by
 intro a h
 have hb : ∀ k cl, a < s.size → RdO s a (betwV R s k cl (a + 1)) := fun k cl hl => by
  unfold betwV
  split
  · rename_i ht; have := tkOk_lt ht; exact ⟨by simp only; omega, by simp only; omega, fun _ => by simp only; omega⟩
  · have := rdBetw_at s R hR cl s.size (a + 1) [] (by omega)
    exact ⟨by simp only [betwO]; omega, by simp only [betwO]; omega, fun _ => by simp only [betwO]; omega⟩
 unfold valX
 split
 · rename_i ht; have := tkOk_lt ht; exact ⟨by simp only; omega, by simp only; omega, fun _ => by simp only; omega⟩
 split
 · rename_i ht; have := tkOk_lt ht
   have := rdRun_at s s.size (a + 1) [] (by omega)
   exact ⟨by simp only [runO]; omega, by simp only [runO]; omega, fun _ => by simp only [runO]; omega⟩
 split
 · rename_i ht; exact hb 3 41 (tkOk_lt ht)
 split
 · rename_i ht; exact hb 4 93 (tkOk_lt ht)
 split
 · rename_i ht; have := tkOk_lt ht
   unfold choV
   split
   · rename_i h1; have := tkOk_lt h1
     split
     · rename_i h2; have := tkOk_lt h2
       have h3 := hR (a + 1 + 2) (by omega)
       have := h3.ge
       have := h3.le
       exact ⟨by simp only [choO]; omega, by simp only [choO]; omega, fun _ => by simp only [choO]; omega⟩
     · exact ⟨by simp only; omega, by simp only; omega, fun e => by cases e⟩
   · exact ⟨by simp only; omega, by simp only; omega, fun e => by cases e⟩
 · exact numV_at T s a h
theorem valV_at (s : ByteArray) (n : Nat) : VlAt s (valV s n) := by
 induction n with
 | zero => intro a h; exact ⟨Nat.le_refl _, h, fun e => by cases e⟩
 | succ n ih => exact valX_at s _ ih
def inn : List It → List It
 | [] => []
 | x :: r => if inB [119, 64, 115] x.c then inn r else x :: r
def ruleEnd (G : Nat → List It) : Nat → List It → Option (List It)
 | 0, _ => none
 | _ + 1, [] => none
 | k + 1, x :: _ => match G x.r.toNat with
  | [] => none
  | y :: r => if y.c = 82 then ruleEnd G k (y :: r) else some (y :: r)
def hasKids {T : Type} (H : List It → T → Bool) : List (List It) → List T → Bool
 | [], vs => vs.isEmpty
 | k :: ks, vs => if silV k then hasKids H ks vs else match vs with
  | [] => false
  | y :: ys => H k y && hasKids H ks ys
def headB {T : Type} (H : T → Bool) : List T → Bool
 | [] => false
 | y :: _ => H y
def withinB (n w : Nat) : Bool := decide (n < 256 ^ w)
def hasTop {T : Type} (H : List It → T → Bool) : List It → Nd T → Bool
 | [], _ => false
 | x :: r, v =>
  if x.c = 110 ∨ x.c = 108 then decide (v.k = 0) && withinB v.n x.w.toNat
  else if x.c = 39 then decide (v.k = 1)
  else if x.c = 114 ∨ x.c = 46 then decide (v.k = 2)
  else if x.c = 40 then decide (v.k = 3) && hasKids H (segs r.length r) v.kids
  else if x.c = 47 then decide (v.k = 5) && headB (H ((segs r.length r).getD v.n [])) v.kids
  else if x.c = 42 ∨ x.c = 116 then decide (v.k = 4) && v.kids.all (H r)
  else false
def hasQ {T : Type} (G : Nat → List It) (H : List It → T → Bool) (k : List It) (v : Nd T) : Bool :=
 match k with
 | [] => false
 | x :: r => if x.c = 82 then (match ruleEnd G 8 (x :: r) with | none => false | some q => hasTop H q v) else hasTop H (x :: r) v
def hasT (G : Nat → List It) : (n : Nat) → List It → Tr n → Bool
 | 0, _, _ => false
 | n + 1, k, v => hasQ G (hasT G n) (inn k) v
def lowB : Nat → Nat → List UInt8
 | 0, _ => []
 | w + 1, n => UInt8.ofNat (n % 256) :: lowB w (n / 256)
def numB (low : Bool) (w n : Nat) : List UInt8 := if low then lowB w n else (lowB w n).reverse
theorem lowB_length (w : Nat) : ∀ n, (lowB w n).length = w := by
 induction w with
 | zero => intro n; rfl
 | succ w ih => intro n; simp [lowB, ih]
theorem numB_length (low : Bool) (w n : Nat) : (numB low w n).length = w := by unfold numB; split <;> simp [lowB_length]
structure Ho where
 pl : Nat
 w : Nat
 low : Bool
structure Wt where
 its : List It
 n : Nat
 v : Nd (Tr n)
 hid : Nat
 ho : Ho
structure Sp where
 a : Nat
 b : Nat
 ho : Ho
structure Wr where
 out : List UInt8
 wide : Bool
 wait : List Wt
 sums : List (List Sp)
 hol : List (Nat → Option Ho)
def Wr0 : Wr := ⟨[], false, [], [], []⟩
def ho0 : Ho := ⟨0, 0, false⟩
def holeOf (st : Wr) (hid : Option Nat) (d : Nat) : Ho := match hid with
 | none => ho0
 | some i => ((st.hol.getD i fun _ => none) d).getD ho0
def putAt (out : List UInt8) (h : Ho) (n : Nat) : List UInt8 := out.take h.pl ++ numB h.low h.w n ++ out.drop (h.pl + h.w)
def wPut (st : Wr) (h : Ho) (n : Nat) : Wr := { st with out := putAt st.out h n }
def wTell (st : Wr) (h : Ho) (n : Nat) : Wr := wPut { st with wide := st.wide || !withinB n h.w } h n
def wOut (st : Wr) (l : List UInt8) : Wr := { st with out := st.out ++ l }
def wHide (st : Wr) (i d : Nat) (h : Ho) : Wr := { st with hol := st.hol.modify i fun f k => if k = d then some h else f k }
def wSum (st : Wr) (s : Sp) : Wr := { st with sums := st.sums.dropLast ++ [st.sums.getLastD [] ++ [s]] }
def wWait (st : Wr) (e : Wt) : Wr := { st with wait := st.wait ++ [e] }
def wSil (k : List It) (i : Nat) (st : Wr) : Wr := match k with
 | [] => st
 | x :: _ => if x.c = 39 then wOut st [UInt8.ofNat x.b.toNat]
  else wOut (wHide st i x.d.toNat ⟨st.out.length, x.w.toNat, decide (x.c = 107)⟩) (List.replicate x.w.toNat 0)
def wKids {T : Type} (W : List It → Option Nat → T → Wr → Wr) (i : Nat) : List (List It) → List T → Wr → Wr
 | [], _, st => st
 | k :: ks, vs, st => if silV k then wKids W i ks vs (wSil k i st) else match vs with
  | [] => st
  | y :: ys => wKids W i ks ys (W k (some i) y st)
def wMany {T : Type} (W : List It → Option Nat → T → Wr → Wr) (k : List It) : List T → Wr → Wr
 | [], st => st
 | y :: ys, st => wMany W k ys (W k none y st)
def wHead {T : Type} (W : T → Wr → Wr) (vs : List T) (st : Wr) : Wr := match vs with
 | [] => st
 | y :: _ => W y st
def wTop {T : Type} (W : List It → Option Nat → T → Wr → Wr) (k : List It) (hid : Option Nat) (v : Nd T) (st : Wr) : Wr := match k with
 | [] => st
 | x :: r =>
  if x.c = 110 then wOut st (numB false x.w.toNat v.n)
  else if x.c = 108 then wOut st (numB true x.w.toNat v.n)
  else if x.c = 39 then wOut st [UInt8.ofNat x.b.toNat]
  else if x.c = 46 then wOut st v.run
  else if x.c = 114 then wOut (wTell st (holeOf st hid x.d.toNat) v.run.length) v.run
  else if x.c = 40 then wKids W st.hol.length (segs r.length r) v.kids { st with hol := st.hol ++ [fun _ => none] }
  else if x.c = 47 then wHead (W ((segs r.length r).getD v.n []) none) v.kids st
  else if x.c = 42 then wMany W r v.kids st
  else if x.c = 116 then wMany W r v.kids (wTell st (holeOf st hid x.d.toNat) v.kids.length)
  else st
def wIn {n : Nat} (G : Nat → List It) (W : List It → Option Nat → Tr n → Wr → Wr) : List It → Option Nat → Nd (Tr n) → Wr → Wr
 | [], _, _, st => st
 | x :: r, hid, v, st =>
  if x.c = 119 then wTell (wIn G W r hid v st) (holeOf (wIn G W r hid v st) hid x.d.toNat) ((wIn G W r hid v st).out.length - st.out.length)
  else if x.c = 115 then wSum (wIn G W r hid v st) ⟨st.out.length, (wIn G W r hid v st).out.length, holeOf (wIn G W r hid v st) hid x.d.toNat⟩
  else if x.c = 64 then wWait st ⟨r, n, v, hid.getD 0, holeOf st hid x.d.toNat⟩
  else if x.c = 82 then (match ruleEnd G 8 (x :: r) with | none => st | some q => wTop W q none v st)
  else wTop W (x :: r) hid v st
def writeT (G : Nat → List It) : (n : Nat) → List It → Option Nat → Tr n → Wr → Wr
 | 0, _, _, _, st => st
 | n + 1, k, hid, v, st => wIn G (writeT G n) k hid v st
def wPiece (G : Nat → List It) (n : Nat) (k : List It) (hid : Option Nat) (v : Nd (Tr n)) (st : Wr) : Wr := wIn G (writeT G n) k hid v { st with sums := st.sums ++ [[]] }
def wRest (G : Nat → List It) : Nat → Wr → Wr
 | 0, st => st
 | f + 1, st => match st.wait with
  | [] => st
  | e :: ws => wRest G f (wPiece G e.n e.its (some e.hid) e.v (wTell { st with wait := ws } e.ho st.out.length))
def putSp (out : List UInt8) (s : Sp) : List UInt8 := putAt out s.ho (sumV ⟨((out.drop s.a).take (s.b - s.a)).toArray⟩ s.ho.w (s.b - s.a))
def putSums (st : Wr) : List UInt8 := st.sums.reverse.foldl (fun o l => l.foldl putSp o) st.out
def szT : (n : Nat) → Tr n → Nat
 | 0, _ => 0
 | n + 1, v => 1 + (v : Nd (Tr n)).run.length + ((v : Nd (Tr n)).kids.map (szT n)).sum
def szN {n : Nat} (v : Nd (Tr n)) : Nat := 1 + v.run.length + (v.kids.map (szT n)).sum
def genT (G : Nat → List It) (n : Nat) (v : Nd (Tr n)) (most : Nat) : List UInt8 × Int :=
 if hasT G (n + 1) (G 0) v = false then ([], 10)
 else
  let st := wRest G ((G 0).length + 1001 * szN v) (wPiece G n (G 0) none v Wr0)
  if most < st.out.length then ([], 11) else if st.wide then ([], 12) else (putSums st, 0)
def RdT (t : TypeId) (w : World) (rb : Nat) (s : ByteArray) (i : Nat) : Prop := Blk w rb #[.string s, .int .i64 i] t
structure SameT (rb : Nat) (w w' : World) : Prop where
 os : w'.os = w.os
 tape : w'.tape = w.tape
 output : w'.output = w.output
 size : w'.heap.size = w.heap.size
 block : ∀ k, k ≠ rb → w'.heap[k]? = w.heap[k]?
theorem SameT.refl (rb : Nat) (w : World) : SameT rb w w := ⟨rfl, rfl, rfl, rfl, fun _ _ => rfl⟩
theorem SameT.drewN (rb : Nat) (w : World) (n : Nat) : SameT rb w (w.drewN n) := ⟨rfl, rfl, rfl, rfl, fun _ _ => rfl⟩
theorem SameT.trans {rb : Nat} {a b c : World} (h : SameT rb a b) (k : SameT rb b c) : SameT rb a c := ⟨k.os.trans h.os, k.tape.trans h.tape, k.output.trans h.output, k.size.trans h.size, fun i hi => (k.block i hi).trans (h.block i hi)⟩
theorem SameT.setCell {rb : Nat} {a b : World} (h : SameT rb a b) (j : Nat) (u : Value) : SameT rb a (b.setCell ⟨rb, j, none⟩ u) :=
 h.trans ⟨rfl, rfl, rfl, by simp [World.setCell], fun k hk => Below.heap_setCell _ _ _ _ hk⟩
theorem SameT.fr {rb : Nat} {w w' : World} (h : SameT rb w w') (B : Nat) : Fr B rb w w' := ⟨h.os, h.tape, h.output, by rw [h.size]; omega, fun k _ hk => h.block k hk⟩
theorem Blk.sameT {rb : Nat} {w w' : World} {b : Nat} {cs : Array Value} {t : TypeId} (h : Blk w b cs t) (hs : SameT rb w w') (hne : b ≠ rb) : Blk w' b cs t := by
 unfold Blk at *; rw [hs.block b hne]; exact h
theorem RdT.drewN {t : TypeId} {w : World} {rb : Nat} {s : ByteArray} {i : Nat} (h : RdT t w rb s i) (n : Nat) : RdT t (w.drewN n) rb s i := h
set_option maxHeartbeats 1000000 in
theorem atEndT_calls (t : TypeId) (w : World) (rb : Nat) (s : ByteArray) (i : Nat) (hr : RdT t w rb s i) (_hs : s.size ≤ 8000) (_hi : i ≤ s.size) :
 Calls Tryz.prog 49 #[.pointer (some ⟨rb, 0, none⟩)] w fun e w' => e = .returned (.bool (decide (i = s.size))) ∧ SameT rb w w' ∧ RdT t w' rb s i := by
 have c0 : w.cell? ⟨rb, 0, none⟩ = some (.string s) := hr.cell 0
 have c1 : w.cell? ⟨rb, 1, none⟩ = some (.int .i64 i) := hr.cell 1
 have HR : Hid (RdT t w rb s i) := hr
 clear hr
 go_enter Tryz.func49, Tryz.ntmps49
 go_wp2_with fail
 go_quiet (fail)
 go_wp2_with fail
 go_ret
 refine ⟨?_, SameT.drewN _ _ _, HR.out.drewN _⟩
 have e : ((i : Int) == (s.size : Int)) = decide (i = s.size) := by
  by_cases h : i = s.size
  · rw [decide_eq_true h]; simp; omega
  · rw [decide_eq_false h]; simp; omega
 rw [← e]
 rfl
def TakeT (t : TypeId) (s : ByteArray) (i : Nat) (a b : Int) (rb : Nat) (w : World) (e : Ending) (w' : World) : Prop :=
 SameT rb w w' ∧ ((tkOk s i a b = true ∧ e = .returned (.tuple #[.int .u8 (bt s i), .bool true]) ∧ RdT t w' rb s (i + 1)) ∨
  (tkOk s i a b = false ∧ e = .returned (.tuple #[.int .u8 0, .bool false]) ∧ RdT t w' rb s i))
set_option maxHeartbeats 2000000 in
theorem takeT_calls (t : TypeId) (w : World) (rb : Nat) (s : ByteArray) (i : Nat) (a b : Int) (hr : RdT t w rb s i) (hs : s.size ≤ 8000) (hi : i ≤ s.size) :
 Calls Tryz.prog 97 #[.pointer (some ⟨rb, 0, none⟩), .int .u8 a, .int .u8 b] w fun e w' => TakeT t s i a b rb w e w' := by
 by_cases hend : i = s.size
 · have hno : Hid (tkOk s i a b = false) := by
    have : tkOk s i a b = false := by
     unfold tkOk
     simp; omega
    exact this
   have HR : Hid (RdT t w rb s i) := hr
   have HEnd := Hid.out (p := i = s.size) hend
   go_enter Tryz.func97, Tryz.ntmps97
   go_wp2_with fail
   refine (atEndT_calls t w rb s i HR.out hs hi).mono ?_
   rintro e w1 ⟨rfl, hsm, hr1⟩
   rw [decide_eq_true HEnd]
   simp only
   clear hend HEnd hr
   go_wp2_with fail
   go_ret2
   exact ⟨hsm, Or.inr ⟨hno.out, rfl, hr1⟩⟩
 · have hlt : i < s.size := by omega
   have hlt' : (i : Int) < (s.size : Int) := by omega
   have HR : Hid (RdT t w rb s i) := hr
   have hbt : Hid (bt s i = (s[i].toNat : Int)) := bt_in s i hlt
   clear hr
   cases hok : tkOk s i a b
   · have hor : (s[i].toNat : Int) < a ∨ (¬ (s[i].toNat : Int) < a ∧ b < (s[i].toNat : Int)) := by
      unfold tkOk at hok
      rw [hbt.out] at hok
      simp at hok
      by_cases h : (s[i].toNat : Int) < a
      · exact Or.inl h
      · exact Or.inr ⟨h, hok hlt (by omega)⟩
     have HOK : Hid (tkOk s i a b = false) := hok
     clear hok
     rcases hor with h | ⟨h, h'⟩
     all_goals
      go_enter Tryz.func97, Tryz.ntmps97
      go_wp2_with fail
      refine (atEndT_calls t w rb s i HR.out hs hi).mono ?_
      rintro e w1 ⟨rfl, hsm, hr1⟩
      rw [decide_eq_false (by omega : ¬ i = s.size)]
      simp only
      have c0 : w1.cell? ⟨rb, 0, none⟩ = some (.string s) := hr1.cell 0
      have c1 : w1.cell? ⟨rb, 1, none⟩ = some (.int .i64 i) := hr1.cell 1
      have HR1 : Hid (RdT t w1 rb s i) := hr1
      clear hr1 hend
      go_wp2_with fail
      go_quiet (fail)
      go_wp2_with fail
      go_ret2
      exact ⟨hsm.trans (SameT.drewN _ _ _), Or.inr ⟨HOK.out, rfl, HR1.out.drewN _⟩⟩
   · have h1 : ¬ (s[i].toNat : Int) < a ∧ ¬ b < (s[i].toNat : Int) := by
      unfold tkOk at hok
      rw [hbt.out] at hok
      simp at hok
      omega
     obtain ⟨h, h'⟩ := h1
     have HOK : Hid (tkOk s i a b = true) := hok
     clear hok
     go_enter Tryz.func97, Tryz.ntmps97
     go_wp2_with fail
     refine (atEndT_calls t w rb s i HR.out hs hi).mono ?_
     rintro e w1 ⟨rfl, hsm, hr1⟩
     rw [decide_eq_false (by omega : ¬ i = s.size)]
     simp only
     have c0 : w1.cell? ⟨rb, 0, none⟩ = some (.string s) := hr1.cell 0
     have c1 : w1.cell? ⟨rb, 1, none⟩ = some (.int .i64 i) := hr1.cell 1
     have f1 : w1.frozen? ⟨rb, 1, none⟩ = false := hr1.frozen 1
     have HR1 : Hid (RdT t w1 rb s i) := hr1
     clear hr1 hend
     go_wp2_with fail
     go_quiet (fail)
     go_wp2_with fail
     go_ret2
     refine ⟨(hsm.trans (SameT.drewN _ _ _)).setCell _ _, Or.inl ⟨HOK.out, ?_, ?_⟩⟩
     · rw [hbt.out]; rfl
     · exact (HR1.out.drewN _).set 1 _
def JustT (t : TypeId) (s : ByteArray) (i : Nat) (a : Int) (rb : Nat) (w : World) (e : Ending) (w' : World) : Prop :=
 SameT rb w w' ∧ ((tkOk s i a a = true ∧ e = .returned (.bool true) ∧ RdT t w' rb s (i + 1)) ∨ (tkOk s i a a = false ∧ e = .returned (.bool false) ∧ RdT t w' rb s i))
set_option maxHeartbeats 1000000 in
theorem takeJustT_calls (t : TypeId) (w : World) (rb : Nat) (s : ByteArray) (i : Nat) (a : Int) (hr : RdT t w rb s i) (hs : s.size ≤ 8000) (hi : i ≤ s.size) :
 Calls Tryz.prog 59 #[.pointer (some ⟨rb, 0, none⟩), .int .u8 a] w fun e w' => JustT t s i a rb w e w' := by
 have HR : Hid (RdT t w rb s i) := hr
 clear hr
 go_enter Tryz.func59, Tryz.ntmps59
 go_wp2_with fail
 refine (takeT_calls t w rb s i a a HR.out hs hi).mono ?_
 rintro e w1 ⟨hsm, ⟨h1, rfl, h3⟩ | ⟨h1, rfl, h3⟩⟩
 · have HE := hide' h1
   clear h1
   simp only
   go_wp2_with fail
   go_ret
   exact ⟨hsm, Or.inl ⟨HE.out, rfl, h3⟩⟩
 · have HE := hide' h1
   clear h1
   simp only
   go_wp2_with fail
   go_ret
   exact ⟨hsm, Or.inr ⟨HE.out, rfl, h3⟩⟩
def DigT (t : TypeId) (s : ByteArray) (i : Nat) (rb : Nat) (w : World) (e : Ending) (w' : World) : Prop :=
 SameT rb w w' ∧ ((∃ d : Nat, d < 16 ∧ hexV (bt s i) = d ∧ i < s.size ∧ e = .returned (.tuple #[.int .u8 (d : Nat), .bool true]) ∧ RdT t w' rb s (i + 1)) ∨ (hexV (bt s i) < 0 ∧ (∃ x : Int, e = .returned (.tuple #[.int .u8 x, .bool false])) ∧ RdT t w' rb s i))
set_option maxHeartbeats 1000000 in
theorem digitT_calls (t : TypeId) (w : World) (rb : Nat) (s : ByteArray) (i : Nat) (hr : RdT t w rb s i) (hs : s.size ≤ 8000) (hi : i ≤ s.size) :
 Calls Tryz.prog 177 #[.pointer (some ⟨rb, 0, none⟩)] w fun e w' => DigT t s i rb w e w' := by
 have HR := hide' hr
 clear hr
 go_enter Tryz.func177, Tryz.ntmps177
 go_wp2_with fail
 refine (takeT_calls t w rb s i 48 57 HR.out hs hi).mono ?_
 rintro e w1 ⟨hsm, ⟨h1, rfl, h3⟩ | ⟨h1, rfl, h3⟩⟩
 · have hl := tkOk_lt h1
   have hb := tkOk_bt h1
   have HE := hide' h1
   obtain ⟨d, hd, hd2⟩ : ∃ d : Nat, d < 10 ∧ bt s i = 48 + d := ⟨(bt s i - 48).toNat, by omega, by omega⟩
   have hx : hexV (bt s i) = d := by unfold hexV; rw [if_pos ⟨hb.1, hb.2⟩]; omega
   have HX := hide' hx
   rw [hd2]
   have hw8 : IntKind.u8.wrap (48 + (d : Int) - 48) = d := by rw [IntKind.wrap_u8]; omega
   clear h1 hx hb hd2
   go_wp2_with fail
   go_ret2
   exact ⟨hsm, Or.inl ⟨d, by omega, HX.out, hl, rfl, h3⟩⟩
 · have HE := hide' h1
   clear h1
   go_wp2_with fail
   refine (takeT_calls t w1 rb s i 97 102 h3 hs hi).mono ?_
   rintro e w2 ⟨hsm2, ⟨h1, rfl, h4⟩ | ⟨h1, rfl, h4⟩⟩
   · have hl := tkOk_lt h1
     have hb := tkOk_bt h1
     obtain ⟨d, hd, hd2⟩ : ∃ d : Nat, d < 6 ∧ bt s i = 97 + d := ⟨(bt s i - 97).toNat, by omega, by omega⟩
     have hx : hexV (bt s i) = (10 + d : Nat) := by unfold hexV; rw [if_neg (by omega), if_pos ⟨hb.1, hb.2⟩]; omega
     have HX := hide' hx
     rw [hd2]
     have hw8 : IntKind.u8.wrap (97 + (d : Int) - 97) = d := by rw [IntKind.wrap_u8]; omega
     have hw9 : IntKind.u8.wrap ((d : Int) + 10) = (10 + d : Nat) := by rw [IntKind.wrap_u8]; omega
     clear h1 hx hb hd2
     go_wp2_with fail
     go_ret2
     exact ⟨hsm.trans hsm2, Or.inl ⟨10 + d, by omega, HX.out, hl, by rw [show ((10 + d : Nat) : Int) = 10 + (d : Int) by omega]; rfl, h4⟩⟩
   · have hx : hexV (bt s i) < 0 := by
      by_cases hl : i < s.size
      · have e1 := of_decide_eq_false HE.out
        have e2 := of_decide_eq_false h1
        unfold hexV
        rw [if_neg (by omega), if_neg (by omega)]
        omega
      · rw [bt_out s i hl]; decide
     have HX := hide' hx
     clear h1 hx
     go_wp2_with fail
     go_ret2
     exact ⟨hsm.trans hsm2, Or.inr ⟨HX.out, ⟨_, rfl⟩, h4⟩⟩
def TwoT (t : TypeId) (s : ByteArray) (i : Nat) (rb : Nat) (w : World) (e : Ending) (w' : World) : Prop :=
 SameT rb w w' ∧ ((¬ hexV (bt s i) < 0 ∧ ¬ hexV (bt s (i + 1)) < 0 ∧ i + 1 < s.size ∧ e = .returned (.tuple #[.int .u8 ((UInt8.ofNat (16 * hexV (bt s i) + hexV (bt s (i + 1))).toNat).toNat : Int), .bool true]) ∧ RdT t w' rb s (i + 2)) ∨
  (hexV (bt s i) < 0 ∧ (∃ x, e = .returned (.tuple #[x, .bool false])) ∧ RdT t w' rb s i) ∨ (¬ hexV (bt s i) < 0 ∧ hexV (bt s (i + 1)) < 0 ∧ i < s.size ∧ (∃ x, e = .returned (.tuple #[x, .bool false])) ∧ RdT t w' rb s (i + 1)))
set_option maxHeartbeats 1000000 in
theorem twoT_calls (t : TypeId) (w : World) (rb : Nat) (s : ByteArray) (i : Nat) (hr : RdT t w rb s i) (hs : s.size ≤ 8000) (hi : i ≤ s.size) :
 Calls Tryz.prog 119 #[.pointer (some ⟨rb, 0, none⟩)] w fun e w' => TwoT t s i rb w e w' := by
 have HR := hide' hr
 clear hr
 go_enter Tryz.func119, Tryz.ntmps119
 go_wp2_with fail
 refine (digitT_calls t w rb s i HR.out hs hi).mono ?_
 rintro e w1 ⟨hsm, ⟨d, hd, hx, hl, rfl, h3⟩ | ⟨hx, ⟨x, rfl⟩, h3⟩⟩
 · have HX := hide' hx
   clear hx
   go_wp2_with fail
   refine (digitT_calls t w1 rb s (i + 1) h3 hs hl).mono ?_
   rintro e w2 ⟨hsm2, ⟨d2, hd2, hx2, hl2, rfl, h4⟩ | ⟨hx2, ⟨x, rfl⟩, h4⟩⟩
   · have HX2 := hide' hx2
     have hw1 : IntKind.u8.wrap ((d : Int) * 16) = ((d * 16 : Nat) : Int) := by rw [IntKind.wrap_u8]; omega
     have hw2 : IntKind.u8.wrap (((d * 16 : Nat) : Int) + (d2 : Int)) = ((16 * d + d2 : Nat) : Int) := by rw [IntKind.wrap_u8]; omega
     have hw3 : ((UInt8.ofNat (16 * (d : Int) + (d2 : Int)).toNat).toNat : Int) = ((16 * d + d2 : Nat) : Int) := by
      rw [show (16 * (d : Int) + (d2 : Int)).toNat = 16 * d + d2 by omega]; simp; omega
     have HW := hide' hw3
     clear hx2 hw3
     go_wp2_with fail
     go_ret2
     refine ⟨hsm.trans hsm2, Or.inl ⟨by rw [HX.out]; omega, by rw [HX2.out]; omega, hl2, ?_, h4⟩⟩
     rw [HX.out, HX2.out, HW.out, show ((16 * d + d2 : Nat) : Int) = (d : Int) * 16 + (d2 : Int) by omega]
     rfl
   · have HX2 := hide' hx2
     clear hx2
     go_wp2_with fail
     go_ret2
     exact ⟨hsm.trans hsm2, Or.inr (Or.inr ⟨by rw [HX.out]; omega, HX2.out, hl, ⟨_, rfl⟩, h4⟩)⟩
 · have HX := hide' hx
   clear hx
   go_wp2_with fail
   go_ret2
   exact ⟨hsm, Or.inr (Or.inl ⟨HX.out, ⟨_, rfl⟩, h3⟩)⟩
theorem lowB_get (w : Nat) : ∀ (n i : Nat), i < w → (lowB w n).getD i 0 = UInt8.ofNat (n / 256 ^ i % 256) := by
 induction w with
 | zero => intro n i h; omega
 | succ w ih =>
  intro n i h
  cases i with
  | zero => simp [lowB]
  | succ i =>
   have := ih (n / 256) i (by omega)
   rw [Nat.div_div_eq_div_mul, show 256 * 256 ^ i = 256 ^ (i + 1) by rw [Nat.pow_succ]; omega] at this
   simpa [lowB] using this
structure PutS (w w' : World) (g off : Nat) (t : TypeId) (cur : Array Value) (l : List UInt8) : Prop where
 ex : ∃ cs, Blk w' g cs t ∧ cs.size = cur.size ∧ ∀ j, cs[j]? = if off ≤ j ∧ j < off + l.length then some (.int .u8 ((l.getD (j - off) 0).toNat : Int)) else cur[j]?
 same : SameT g w w'
theorem wrap_byte (n i : Nat) : IntKind.u8.wrap ((n : Int) / 2 ^ (8 * i)) = ((UInt8.ofNat (n / 256 ^ i % 256)).toNat : Int) := by
 rw [IntKind.wrap_u8]
 have h1 : (2 : Int) ^ (8 * i) = ((256 ^ i : Nat) : Int) := by rw [show (256 : Nat) = 2 ^ 8 from rfl, ← Nat.pow_mul]; simp
 rw [h1]
 have h2 : ((n : Int) / ((256 ^ i : Nat) : Int)) = ((n / 256 ^ i : Nat) : Int) := by simp
 rw [h2]
 generalize n / 256 ^ i = q
 simp
set_option maxRecDepth 100000 in
set_option maxHeartbeats 1000000 in
theorem putLow_calls (w : World) (g off m cp n : Nat) (t : TypeId) (cur : Array Value) (hb : Blk w g cur t) (hm : m ≤ 4) (hfit : off + m ≤ cur.size) (_hn : n < 4294967296) :
 Calls Tryz.prog 183 #[.slice (some ⟨g, off, none⟩) m cp, .int .u32 (n : Nat)] w fun e w' => e = .returned (.tuple #[]) ∧ PutS w w' g off t cur (numB true m n) := by
 have HB := hide' hb
 have hl : (numB true m n).length = m := numB_length _ _ _
 clear hb
 go_enter Tryz.func183, Tryz.ntmps183
 go_wp2_with fail
 go_loopw [7] (fun v7 wr => ∃ i : Nat, v7 = .int .i64 (i : Nat) ∧ i ≤ m ∧ Hid (SameT g w wr) ∧ Hid (∃ cs, Blk wr g cs t ∧ cs.size = cur.size ∧ ∀ j, cs[j]? = if off ≤ j ∧ j < off + i then some (.int .u8 (((numB true m n).getD (j - off) 0).toNat : Int)) else cur[j]?)) (fun v7 _ => m - (intOf v7).toNat)
 case atStart => exact ⟨0, rfl, by omega, SameT.refl _ _, (⟨cur, HB.out, rfl, fun j => by rw [if_neg (by omega)]⟩ : ∃ cs, Blk w g cs t ∧ cs.size = cur.size ∧ ∀ j, cs[j]? = if off ≤ j ∧ j < off + 0 then some (.int .u8 (((numB true m n).getD (j - off) 0).toNat : Int)) else cur[j]?)⟩
 case round =>
  obtain ⟨i, rfl, hi, hsm, hcs⟩ := hrel
  by_cases hlt : i < m
  · have hlt' : (i : Int) < (m : Int) := by omega
    obtain ⟨cs, hbk, hsz, hget⟩ := hcs.out
    have hlow : (numB true m n).getD i 0 = UInt8.ofNat (n / 256 ^ i % 256) := by unfold numB; rw [if_pos rfl]; exact lowB_get m n i hlt
    have hwb := wrap_byte n i
    rw [← hlow] at hwb
    have c0 : ∃ x, wr.cell? ⟨g, off + i, none⟩ = some x := ⟨cs[off + i]'(by omega), by rw [hbk.cell (off + i)]; simp⟩
    obtain ⟨x0, hx0⟩ := c0
    have hf := hbk.frozen (off + i)
    have HW := hide' hwb
    generalize hby : (((numB true m n).getD i 0).toNat : Int) = by' at *
    have HBy := hide' hby
    have HN : Hid (∃ cs', Blk (wr.setCell ⟨g, off + i, none⟩ (.int .u8 by')) g cs' t ∧ cs'.size = cur.size ∧ ∀ j, cs'[j]? = if off ≤ j ∧ j < off + (i + 1) then some (.int .u8 (((numB true m n).getD (j - off) 0).toNat : Int)) else cur[j]?) := by
     have : ∃ cs', Blk (wr.setCell ⟨g, off + i, none⟩ (.int .u8 by')) g cs' t ∧ cs'.size = cur.size ∧ ∀ j, cs'[j]? = if off ≤ j ∧ j < off + (i + 1) then some (.int .u8 (((numB true m n).getD (j - off) 0).toNat : Int)) else cur[j]? := by
      refine ⟨_, hbk.set (off + i) (.int .u8 by'), by simp [hsz], fun j => ?_⟩
      by_cases hj : j = off + i
      · subst hj
        have hlt2 : off + i < cs.size := by omega
        rw [if_pos (by omega), show off + i - off = i by omega, HBy.out]
        simp [hlt2]
      · rw [Array.getElem?_setIfInBounds_ne (by omega), hget j]
        by_cases h1 : off ≤ j ∧ j < off + i
        · rw [if_pos h1, if_pos (by omega)]
        · rw [if_neg h1, if_neg (by omega)]
     exact this
    clear hby hcs hget hbk hlow
    go_wp2_with fail
    exact ⟨⟨i + 1, by go_num, by omega, hsm.out.setCell _ _, HN⟩, by simp [intOf]; omega⟩
  · have hlt' : ¬ (i : Int) < (m : Int) := by omega
    obtain rfl : i = m := by omega
    go_wp2_with fail
    go_end0
    exact ⟨rfl, PutS.mk (by rw [hl]; exact hcs.out) hsm.out⟩
theorem numB_high (m n i : Nat) (h : i < m) : (numB false m n).getD (m - 1 - i) 0 = (lowB m n).getD i 0 := by
 unfold numB
 rw [if_neg (by simp)]
 have hl := lowB_length m n
 rw [List.getD_eq_getElem?_getD, List.getElem?_reverse (by omega), hl, List.getD_eq_getElem?_getD]
 congr 2
 omega
set_option maxRecDepth 100000 in
set_option maxHeartbeats 1000000 in
theorem putHigh_calls (w : World) (g off m cp n : Nat) (t : TypeId) (cur : Array Value) (hb : Blk w g cur t) (hm : m ≤ 4) (hfit : off + m ≤ cur.size) (_hn : n < 4294967296) :
 Calls Tryz.prog 180 #[.slice (some ⟨g, off, none⟩) m cp, .int .u32 (n : Nat)] w fun e w' => e = .returned (.tuple #[]) ∧ PutS w w' g off t cur (numB false m n) := by
 have HB := hide' hb
 have hl : (numB false m n).length = m := numB_length _ _ _
 clear hb
 go_enter Tryz.func180, Tryz.ntmps180
 go_wp2_with fail
 go_loopw [7] (fun v7 wr => ∃ i : Nat, v7 = .int .i64 (i : Nat) ∧ i ≤ m ∧ Hid (SameT g w wr) ∧ Hid (∃ cs, Blk wr g cs t ∧ cs.size = cur.size ∧ ∀ j, cs[j]? = if off + m - i ≤ j ∧ j < off + m then some (.int .u8 (((numB false m n).getD (j - off) 0).toNat : Int)) else cur[j]?)) (fun v7 _ => m - (intOf v7).toNat)
 case atStart => exact ⟨0, rfl, by omega, SameT.refl _ _, (⟨cur, HB.out, rfl, fun j => by rw [if_neg (by omega)]⟩ : ∃ cs, Blk w g cs t ∧ cs.size = cur.size ∧ ∀ j, cs[j]? = if off + m - 0 ≤ j ∧ j < off + m then some (.int .u8 (((numB false m n).getD (j - off) 0).toNat : Int)) else cur[j]?)⟩
 case round =>
  obtain ⟨i, rfl, hi, hsm, hcs⟩ := hrel
  by_cases hlt : i < m
  · have hlt' : (i : Int) < (m : Int) := by omega
    obtain ⟨cs, hbk, hsz, hget⟩ := hcs.out
    have hlow : (numB false m n).getD (m - 1 - i) 0 = UInt8.ofNat (n / 256 ^ i % 256) := by rw [← lowB_get m n i hlt]; exact numB_high m n i hlt
    have hwb := wrap_byte n i
    have hidx : (m : Int) - 1 - (i : Int) = ((m - 1 - i : Nat) : Int) := by omega
    have hib : ((m - 1 - i : Nat) : Int) < (m : Int) := by omega
    rw [← hlow] at hwb
    have c0 : ∃ x, wr.cell? ⟨g, off + (m - 1 - i), none⟩ = some x := ⟨cs[off + (m - 1 - i)]'(by omega), by rw [hbk.cell (off + (m - 1 - i))]; simp⟩
    obtain ⟨x0, hx0⟩ := c0
    have hf := hbk.frozen (off + (m - 1 - i))
    have HW := hide' hwb
    generalize hby : (((numB false m n).getD (m - 1 - i) 0).toNat : Int) = by' at *
    have HBy := hide' hby
    have HN : Hid (∃ cs', Blk (wr.setCell ⟨g, off + (m - 1 - i), none⟩ (.int .u8 by')) g cs' t ∧ cs'.size = cur.size ∧ ∀ j, cs'[j]? = if off + m - (i + 1) ≤ j ∧ j < off + m then some (.int .u8 (((numB false m n).getD (j - off) 0).toNat : Int)) else cur[j]?) := by
     have : ∃ cs', Blk (wr.setCell ⟨g, off + (m - 1 - i), none⟩ (.int .u8 by')) g cs' t ∧ cs'.size = cur.size ∧ ∀ j, cs'[j]? = if off + m - (i + 1) ≤ j ∧ j < off + m then some (.int .u8 (((numB false m n).getD (j - off) 0).toNat : Int)) else cur[j]? := by
      refine ⟨_, hbk.set (off + (m - 1 - i)) (.int .u8 by'), by simp [hsz], fun j => ?_⟩
      by_cases hj : j = off + (m - 1 - i)
      · subst hj
        have hlt2 : off + (m - 1 - i) < cs.size := by omega
        rw [if_pos (by omega), show off + (m - 1 - i) - off = m - 1 - i by omega, HBy.out]
        simp [hlt2]
      · rw [Array.getElem?_setIfInBounds_ne (by omega), hget j]
        by_cases h1 : off + m - i ≤ j ∧ j < off + m
        · rw [if_pos h1, if_pos (by omega)]
        · rw [if_neg h1, if_neg (by omega)]
     exact this
    clear hby hcs hget hbk hlow
    go_wp2_with fail
    exact ⟨⟨i + 1, by go_num, by omega, hsm.out.setCell _ _, HN⟩, by simp [intOf]; omega⟩
  · have hlt' : ¬ (i : Int) < (m : Int) := by omega
    obtain rfl : i = m := by omega
    go_wp2_with fail
    go_end0
    exact ⟨rfl, PutS.mk (by rw [hl]; have h := hcs.out; rwa [show off + i - i = off by omega] at h) hsm.out⟩
end Go.Proofs.YtmlkhhhjdpbhfaaGreatDoor

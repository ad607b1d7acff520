import Derived.Test.YtmlkhhhjdpbhfaaDoorSynKind
/- How the program's parts lie in memory: a part and the parts that it holds, against the list of parts in their order. -/
namespace Go.Proofs.YtmlkhhhjdpbhfaaDoor
open Go.RowKit

def kOf (c : Int) : Int := if c = 82 then 6 else kindV c

/-- a part in memory is this part of the list -/
structure ItPt (x : It) (p : Pt) : Prop where
  k : p.k = kOf x.c
  wd : p.wd = x.w
  vl : p.vl = x.b
  ru : x.c = 82 → p.pl = x.pl ∧ p.ru = x.r
  dp : kD x.c = true → p.dp = x.d ∧ p.dpl = x.pl

def ptrsL (l : List Nat) : List Value := l.map fun q => .pointer (some ⟨q, 0, none⟩)

def PtrsAt (w : World) (lo hi : Nat) (v : Value) (l : List Nat) : Prop :=
  (v = .slice none 0 0 ∧ l = []) ∨ ∃ g cap, v = .slice (some ⟨g, 0, none⟩) l.length cap ∧ lo ≤ g ∧ g < hi ∧ l.length ≤ cap ∧ ∀ j, j < l.length → w.cell? ⟨g, j, none⟩ = some (.pointer (some ⟨l.getD j 0, 0, none⟩))

/-- the part in block pb, with all that it holds, is this list; all of it lies in the blocks from lo to hi -/
def RepT : Nat → World → Nat → Nat → Nat → List It → Prop
  | 0, _, _, _, _, _ => False
  | f + 1, w, lo, hi, pb, seg => ∃ (x : It) (kids : List (Nat × List It)) (p : Pt), seg = x :: kids.flatMap Prod.snd ∧ x.nx = 1 + ((kids.flatMap Prod.snd).length : Int) ∧ lo ≤ pb ∧ pb < hi ∧ PtBlk w pb p ∧ ItPt x p ∧
      PtrsAt w lo hi p.v (kids.map Prod.fst) ∧ ∀ q, q ∈ kids → RepT f w lo hi q.1 q.2

theorem PtrsAt.mono {w w' : World} {lo hi lo' hi' : Nat} {v : Value} {l : List Nat} (h : PtrsAt w lo hi v l) (hw : ∀ k, lo ≤ k → k < hi → w'.heap[k]? = w.heap[k]?) (h1 : lo' ≤ lo) (h2 : hi ≤ hi') : PtrsAt w' lo' hi' v l := by
  rcases h with h | ⟨g, cap, hv, a, b, c, d⟩
  · exact Or.inl h
  · exact Or.inr ⟨g, cap, hv, by omega, by omega, c, fun j hj => by rw [World.cell?_of_block (w := w) (hw g a b)]; exact d j hj⟩

theorem RepT.mono {f : Nat} : ∀ {w w' : World} {lo hi lo' hi' pb : Nat} {seg : List It}, RepT f w lo hi pb seg → (∀ k, lo ≤ k → k < hi → w'.heap[k]? = w.heap[k]?) → lo' ≤ lo → hi ≤ hi' → RepT f w' lo' hi' pb seg := by
  induction f with
  | zero => intro w w' lo hi lo' hi' pb seg h; exact h.elim
  | succ f ih =>
    intro w w' lo hi lo' hi' pb seg h hw h1 h2
    obtain ⟨x, kids, p, e1, e2, a, b, c, d, e, k⟩ := h
    refine ⟨x, kids, p, e1, e2, by omega, by omega, ?_, d, e.mono hw h1 h2, fun q hq => ih (k q hq) hw h1 h2⟩
    unfold PtBlk Blk at *
    rw [hw pb a b]; exact c

theorem RepT.fuel {f : Nat} : ∀ {w : World} {lo hi pb : Nat} {seg : List It}, RepT f w lo hi pb seg → RepT (f + 1) w lo hi pb seg := by
  induction f with
  | zero => intro w lo hi pb seg h; exact h.elim
  | succ f ih =>
    intro w lo hi pb seg h
    obtain ⟨x, kids, p, e1, e2, a, b, c, d, e, k⟩ := h
    exact ⟨x, kids, p, e1, e2, a, b, c, d, e, fun q hq => ih (k q hq)⟩

theorem kindV_in (c : Int) (j : Nat) (h : kindV c = j) (hj : j < 15) : (sh j).a ≤ c ∧ c ≤ (sh j).b := by
  have hl : shapesL.length = 15 := rfl
  unfold kindV at h
  have h2 := List.findIdx_getElem (xs := shapesL) (p := fun x => decide (x.a ≤ c) && decide (c ≤ x.b)) (w := by omega)
  simp only [h] at h2
  simp only [Bool.and_eq_true, decide_eq_true_eq] at h2
  unfold sh
  rw [getD_lt _ _ _ (by omega)]
  exact h2

/-- a part's first byte is that of a fixed or hidden one -/
def silB (c : Int) : Bool := decide (c = 39) || decide (c = 104) || decide (c = 107)

/-- as RepT; and each part is told silent just where it is a struct's part itself (sl) and of such a kind; what a part holds lies behind it -/
def RepS : Nat → World → Nat → Nat → Nat → Bool → List It → Prop
  | 0, _, _, _, _, _, _ => False
  | f + 1, w, lo, hi, pb, sl, seg => ∃ (x : It) (kids : List (Nat × List It)) (p : Pt), seg = x :: kids.flatMap Prod.snd ∧ x.nx = 1 + ((kids.flatMap Prod.snd).length : Int) ∧ lo ≤ pb ∧ pb < hi ∧ PtBlk w pb p ∧ ItPt x p ∧ p.sl = (sl && silB x.c) ∧
      PtrsAt w (pb + 1) hi p.v (kids.map Prod.fst) ∧ ∀ q, q ∈ kids → RepS f w (pb + 1) hi q.1 (decide (x.c = 40)) q.2

theorem RepS.mono {f : Nat} : ∀ {w w' : World} {lo hi lo' hi' pb : Nat} {sl : Bool} {seg : List It}, RepS f w lo hi pb sl seg → (∀ k, lo ≤ k → k < hi → w'.heap[k]? = w.heap[k]?) → lo' ≤ lo → hi ≤ hi' → RepS f w' lo' hi' pb sl seg := by
  induction f with
  | zero => intro w w' lo hi lo' hi' pb sl seg h; exact h.elim
  | succ f ih =>
    intro w w' lo hi lo' hi' pb sl seg h hw h1 h2
    obtain ⟨x, kids, p, e1, e2, a, b, c, d, s, e, k⟩ := h
    refine ⟨x, kids, p, e1, e2, by omega, by omega, ?_, d, s, e.mono (fun k k1 k2 => hw k (by omega) k2) (Nat.le_refl _) h2, fun q hq => ih (k q hq) (fun k k1 k2 => hw k (by omega) k2) (Nat.le_refl _) h2⟩
    unfold PtBlk Blk at *
    rw [hw pb a b]; exact c

theorem RepS.toT {f : Nat} : ∀ {w : World} {lo hi pb : Nat} {sl : Bool} {seg : List It}, RepS f w lo hi pb sl seg → RepT f w lo hi pb seg := by
  induction f with
  | zero => intro w lo hi pb sl seg h; exact h.elim
  | succ f ih =>
    intro w lo hi pb sl seg h
    obtain ⟨x, kids, p, e1, e2, a, b, c, d, _, e, k⟩ := h
    exact ⟨x, kids, p, e1, e2, a, b, c, d, e.mono (fun _ _ _ => rfl) (by omega) (Nat.le_refl _), fun q hq => (ih (k q hq)).mono (fun _ _ _ => rfl) (by omega) (Nat.le_refl _)⟩

/-- the kind and the block of a part -/
theorem RepS.head {f : Nat} {w : World} {lo hi pb : Nat} {sl : Bool} {seg : List It} (h : RepS f w lo hi pb sl seg) : ∃ x rest p, seg = x :: rest ∧ PtBlk w pb p ∧ p.k = kOf x.c ∧ lo ≤ pb ∧ pb < hi := by
  cases f with
  | zero => exact h.elim
  | succ f =>
    obtain ⟨x, kids, p, e1, e2, a, b, c, d, _⟩ := h
    exact ⟨x, _, p, e1, c, d.k, a, b⟩

/-- a part becomes one that a struct holds itself -/
theorem RepS.tell {f : Nat} {w : World} {lo hi pb : Nat} {x : It} {rest : List It} (h : RepS f w lo hi pb false (x :: rest)) : RepS f (w.setCell ⟨pb, 7, none⟩ (.bool (silB x.c))) lo hi pb true (x :: rest) := by
  cases f with
  | zero => exact h.elim
  | succ f =>
    obtain ⟨x', kids, p, e1, e2, a, b, c, d, _, e, k⟩ := h
    cases e1
    have hk : ∀ k, pb + 1 ≤ k → k < hi → (w.setCell ⟨pb, 7, none⟩ (.bool (silB x.c))).heap[k]? = w.heap[k]? := fun k k1 _ => Below.heap_setCell _ _ _ _ (by simp; omega)
    refine ⟨x, kids, { p with sl := silB x.c }, rfl, e2, a, b, c.sl _, ⟨d.k, d.wd, d.vl, d.ru, d.dp⟩, by simp, e.mono hk (Nat.le_refl _) (Nat.le_refl _), fun q hq => (k q hq).mono hk (Nat.le_refl _) (Nat.le_refl _)⟩

/-- the parts that a part under making holds by now, all below block B; sl: they are told as a struct's -/
def KidsOk (f : Nat) (w : World) (pb B : Nat) (sl : Bool) (v : Value) (kids : List (Nat × List It)) : Prop :=
  ∀ q, q ∈ kids → ∃ lo hi, pb < lo ∧ hi ≤ B ∧ (∀ g, v.ownBlock = some g → g < lo ∨ hi ≤ g) ∧ RepS f w lo hi q.1 sl q.2

/-- a part under making: its block, the pointers that it holds, and what they lead to -/
structure Mk (f : Nat) (w : World) (pb : Nat) (sl : Bool) (p : Pt) (kids : List (Nat × List It)) : Prop where
  blk : PtBlk w pb p
  row : w.ownsRow (pb + 1) 102 1 p.v kids.length (ptrsL (kids.map Prod.fst))
  ok : KidsOk f w pb w.heap.size sl p.v kids

/-- likewise, and the last one is new: not told yet -/
structure MkN (f : Nat) (w : World) (pb : Nat) (sl : Bool) (p : Pt) (kids : List (Nat × List It)) (q : Nat × List It) : Prop where
  blk : PtBlk w pb p
  row : w.ownsRow (pb + 1) 102 1 p.v (kids ++ [q]).length (ptrsL ((kids ++ [q]).map Prod.fst))
  ok : ∃ B, pb < B ∧ KidsOk f w pb B sl p.v kids ∧ ∃ hi, hi ≤ w.heap.size ∧ (∀ g, p.v.ownBlock = some g → g < B ∨ hi ≤ g) ∧ RepS f w B hi q.1 false q.2

theorem KidsOk.bound {f : Nat} {w : World} {pb B B' : Nat} {sl : Bool} {v : Value} {kids : List (Nat × List It)} (h : KidsOk f w pb B sl v kids) (hB : B ≤ B') : KidsOk f w pb B' sl v kids := by
  intro q hq
  obtain ⟨lo, hi, a, b, c, d⟩ := h q hq
  exact ⟨lo, hi, a, by omega, c, d⟩

theorem MkN.lt {f : Nat} {w : World} {pb : Nat} {sl : Bool} {p : Pt} {kids : List (Nat × List It)} {q : Nat × List It} (h : MkN f w pb sl p kids q) : pb < q.1 ∧ q.1 < w.heap.size := by
  obtain ⟨B, hB, _, hi, h1, _, h2⟩ := h.ok
  obtain ⟨x, rest, p', e, b, k, l1, l2⟩ := h2.head
  exact ⟨by omega, by omega⟩

/-- nothing is told outside structs -/
theorem MkN.all {f : Nat} {w : World} {pb : Nat} {p : Pt} {kids : List (Nat × List It)} {q : Nat × List It} (h : MkN f w pb false p kids q) : Mk f w pb false p (kids ++ [q]) := by
  obtain ⟨B, hB, hk, hi, h1, h2, h3⟩ := h.ok
  refine ⟨h.blk, h.row, fun z hz => ?_⟩
  rcases List.mem_append.1 hz with hz | hz
  · exact hk.bound (by obtain ⟨x, rest, p', e, b, k, l1, l2⟩ := h3.head; omega) z hz
  · simp at hz
    subst hz
    exact ⟨B, hi, hB, h1, h2, h3⟩

/-- the last one is told -/
theorem MkN.tell {f : Nat} {w : World} {pb : Nat} {p : Pt} {kids : List (Nat × List It)} {q : Nat} {x : It} {rest : List It} (h : MkN f w pb true p kids (q, x :: rest)) : Mk f (w.setCell ⟨q, 7, none⟩ (.bool (silB x.c))) pb true p (kids ++ [(q, x :: rest)]) := by
  obtain ⟨B, hB, hk, hi, h1, h2, h3⟩ := h.ok
  obtain ⟨x', rest', p', e, b, k, l1, l2⟩ := h3.head
  simp only at l1 l2
  have hsz : (w.setCell ⟨q, 7, none⟩ (.bool (silB x.c))).heap.size = w.heap.size := by simp [World.setCell]
  have keep : ∀ k, k ≠ q → (w.setCell ⟨q, 7, none⟩ (.bool (silB x.c))).heap[k]? = w.heap[k]? := fun k hk => Below.heap_setCell _ _ _ _ hk
  refine ⟨?_, ?_, fun z hz => ?_⟩
  · have := h.blk
    unfold PtBlk Blk at *
    rw [keep pb (by omega)]; exact this
  · refine h.row.kept (row := some q) ⟨rfl, rfl, rfl, by rw [hsz]; exact Nat.le_refl _, fun k _ hne => keep k (by intro e; exact hne (by rw [e]))⟩ ?_
    cases hv : p.v.ownBlock with
    | none => exact Or.inl rfl
    | some g => exact Or.inr (by have := h2 g hv; intro e; cases e; omega)
  · rw [hsz]
    rcases List.mem_append.1 hz with hz | hz
    · obtain ⟨lo, hi', a, b, c, d⟩ := hk z hz
      exact ⟨lo, hi', a, by omega, c, d.mono (fun k k1 k2 => keep k (by omega)) (Nat.le_refl _) (Nat.le_refl _)⟩
    · simp at hz
      subst hz
      exact ⟨B, hi, hB, h1, h2, h3.tell⟩

theorem ptrs_of_own {w : World} {B : Nat} {v : Value} {l : List Nat} {lo hi : Nat} (h : w.ownsRow B 102 1 v l.length (ptrsL l)) (h1 : lo ≤ B) (h2 : w.heap.size ≤ hi) : PtrsAt w lo hi v l := by
  rcases h.2 with ⟨rfl, h0⟩ | ⟨g, cap, cur, rfl, hb, hg, hn, hm, hs, ht⟩
  · exact Or.inl ⟨rfl, List.eq_nil_of_length_eq_zero h0⟩
  · refine Or.inr ⟨g, cap, rfl, by omega, by have := (Array.getElem?_eq_some_iff.1 hg).1; omega, hn, fun j hj => ?_⟩
    rw [h.cellAt j (by omega)]
    simp [ptrsL, hj]

theorem Mk.rep {f : Nat} {w : World} {pb : Nat} {sl : Bool} {p : Pt} {kids : List (Nat × List It)} (h : Mk f w pb sl p kids) {x : It} (hx : ItPt x p) (hps : p.sl = false) (hsl : kids = [] ∨ sl = decide (x.c = 40)) (hn : x.nx = 1 + ((kids.flatMap Prod.snd).length : Int)) {lo : Nat} (hl : lo ≤ pb) : RepS (f + 1) w lo w.heap.size pb false (x :: kids.flatMap Prod.snd) := by
  refine ⟨x, kids, p, rfl, hn, hl, h.blk.lt, h.blk, hx, by simpa using hps, ptrs_of_own (by simpa using h.row) (Nat.le_refl _) (Nat.le_refl _), fun q hq => ?_⟩
  obtain ⟨lo', hi', a, b, _, c⟩ := h.ok q hq
  rcases hsl with hsl | hsl
  · rw [hsl] at hq; simp at hq
  · rw [← hsl]
    exact c.mono (fun _ _ _ => rfl) (by omega) b

/-- a call that writes rb alone among the old blocks -/
theorem Mk.fr {f : Nat} {w w' : World} {pb rb : Nat} {sl : Bool} {p : Pt} {kids : List (Nat × List It)} (h : Mk f w pb sl p kids) (hf : Fr w.heap.size rb w w') (hr : rb < pb) : Mk f w' pb sl p kids := by
  have hlt := h.blk.lt
  refine ⟨?_, ?_, ?_⟩
  · have := h.blk
    unfold PtBlk Blk at *
    rw [hf.block pb (by omega) (by omega)]; exact this
  · refine h.row.kept (row := some rb) ⟨hf.os, hf.tape, hf.output, hf.size, fun k hk hne => hf.block k hk (by intro e; exact hne (by rw [e]))⟩ ?_
    cases hv : p.v.ownBlock with
    | none => exact Or.inl rfl
    | some g => exact Or.inr (by have := (h.row.lt g hv).1; intro e; cases e; omega)
  · intro q hq
    obtain ⟨lo, hi, a, b, c, d⟩ := h.ok q hq
    exact ⟨lo, hi, a, by have := hf.size; omega, c, d.mono (fun k h1 h2 => hf.block k (by omega) (by omega)) (Nat.le_refl _) (Nat.le_refl _)⟩

end Go.Proofs.YtmlkhhhjdpbhfaaDoor

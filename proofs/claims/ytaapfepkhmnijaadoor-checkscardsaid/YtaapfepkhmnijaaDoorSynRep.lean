import Derived.Test.YtaapfepkhmnijaaDoorSynKind
/- How the program's parts lie in memory: a part and the parts that it holds, against the list of parts in their order. -/
namespace Go.Proofs.YtaapfepkhmnijaaDoor
open Go.RowKit

def kOf (c : Int) : Int := if c = 82 then 6 else kindV c

/-- a part in memory is this part of the list -/
structure ItPt (x : It) (p : Pt) : Prop where
  k : p.k = kOf x.c
  wd : p.wd = x.w
  vl : p.vl = x.b
  ru : x.c = 82 → p.pl = x.pl ∧ p.ru = x.r
  dp : kD x.c = true → p.dp = x.d ∧ p.dpl = x.pl

def ptrsL (l : List Nat) : List Value := l.map fun q => .pointer (some ⟨q, 0, none⟩)

def PtrsAt (w : World) (lo hi : Nat) (v : Value) (l : List Nat) : Prop :=
  (v = .slice none 0 0 ∧ l = []) ∨ ∃ g cap, v = .slice (some ⟨g, 0, none⟩) l.length cap ∧ lo ≤ g ∧ g < hi ∧ l.length ≤ cap ∧ ∀ j, j < l.length → w.cell? ⟨g, j, none⟩ = some (.pointer (some ⟨l.getD j 0, 0, none⟩))

/-- the part in block pb, with all that it holds, is this list; all of it lies in the blocks from lo to hi -/
def RepT : Nat → World → Nat → Nat → Nat → List It → Prop
  | 0, _, _, _, _, _ => False
  | f + 1, w, lo, hi, pb, seg => ∃ (x : It) (kids : List (Nat × List It)) (p : Pt), seg = x :: kids.flatMap Prod.snd ∧ x.nx = 1 + ((kids.flatMap Prod.snd).length : Int) ∧ lo ≤ pb ∧ pb < hi ∧ PtBlk w pb p ∧ ItPt x p ∧
      PtrsAt w lo hi p.v (kids.map Prod.fst) ∧ ∀ q, q ∈ kids → RepT f w lo hi q.1 q.2

theorem PtrsAt.mono {w w' : World} {lo hi lo' hi' : Nat} {v : Value} {l : List Nat} (h : PtrsAt w lo hi v l) (hw : ∀ k, lo ≤ k → k < hi → w'.heap[k]? = w.heap[k]?) (h1 : lo' ≤ lo) (h2 : hi ≤ hi') : PtrsAt w' lo' hi' v l := by
  rcases h with h | ⟨g, cap, hv, a, b, c, d⟩
  · exact Or.inl h
  · exact Or.inr ⟨g, cap, hv, by omega, by omega, c, fun j hj => by rw [World.cell?_of_block (w := w) (hw g a b)]; exact d j hj⟩

theorem RepT.mono {f : Nat} : ∀ {w w' : World} {lo hi lo' hi' pb : Nat} {seg : List It}, RepT f w lo hi pb seg → (∀ k, lo ≤ k → k < hi → w'.heap[k]? = w.heap[k]?) → lo' ≤ lo → hi ≤ hi' → RepT f w' lo' hi' pb seg := by
  induction f with
  | zero => intro w w' lo hi lo' hi' pb seg h; exact h.elim
  | succ f ih =>
    intro w w' lo hi lo' hi' pb seg h hw h1 h2
    obtain ⟨x, kids, p, e1, e2, a, b, c, d, e, k⟩ := h
    refine ⟨x, kids, p, e1, e2, by omega, by omega, ?_, d, e.mono hw h1 h2, fun q hq => ih (k q hq) hw h1 h2⟩
    unfold PtBlk Blk at *
    rw [hw pb a b]; exact c

theorem RepT.fuel {f : Nat} : ∀ {w : World} {lo hi pb : Nat} {seg : List It}, RepT f w lo hi pb seg → RepT (f + 1) w lo hi pb seg := by
  induction f with
  | zero => intro w lo hi pb seg h; exact h.elim
  | succ f ih =>
    intro w lo hi pb seg h
    obtain ⟨x, kids, p, e1, e2, a, b, c, d, e, k⟩ := h
    exact ⟨x, kids, p, e1, e2, a, b, c, d, e, fun q hq => ih (k q hq)⟩

/-- the parts that a part under making holds by now -/
def KidsOk (f : Nat) (w : World) (pb : Nat) (v : Value) (kids : List (Nat × List It)) : Prop :=
  ∀ q, q ∈ kids → ∃ lo hi, pb < lo ∧ hi ≤ w.heap.size ∧ (∀ g, v.ownBlock = some g → g < lo ∨ hi ≤ g) ∧ RepT f w lo hi q.1 q.2

/-- a part under making: its block, the pointers that it holds, and what they lead to -/
structure Mk (f : Nat) (w : World) (pb : Nat) (p : Pt) (kids : List (Nat × List It)) : Prop where
  blk : PtBlk w pb p
  row : w.ownsRow (pb + 1) 60 1 p.v kids.length (ptrsL (kids.map Prod.fst))
  ok : KidsOk f w pb p.v kids

theorem ptrs_of_own {w : World} {B : Nat} {v : Value} {l : List Nat} {lo hi : Nat} (h : w.ownsRow B 60 1 v l.length (ptrsL l)) (h1 : lo ≤ B) (h2 : w.heap.size ≤ hi) : PtrsAt w lo hi v l := by
  rcases h.2 with ⟨rfl, h0⟩ | ⟨g, cap, cur, rfl, hb, hg, hn, hm, hs, ht⟩
  · exact Or.inl ⟨rfl, List.eq_nil_of_length_eq_zero h0⟩
  · refine Or.inr ⟨g, cap, rfl, by omega, by have := (Array.getElem?_eq_some_iff.1 hg).1; omega, hn, fun j hj => ?_⟩
    rw [h.cellAt j (by omega)]
    simp [ptrsL, hj]

theorem Mk.rep {f : Nat} {w : World} {pb : Nat} {p : Pt} {kids : List (Nat × List It)} (h : Mk f w pb p kids) {x : It} (hx : ItPt x p) (hn : x.nx = 1 + ((kids.flatMap Prod.snd).length : Int)) {lo : Nat} (hl : lo ≤ pb) : RepT (f + 1) w lo w.heap.size pb (x :: kids.flatMap Prod.snd) := by
  refine ⟨x, kids, p, rfl, hn, hl, h.blk.lt, h.blk, hx, ptrs_of_own (by simpa using h.row) (by omega) (Nat.le_refl _), fun q hq => ?_⟩
  obtain ⟨lo', hi', a, b, _, c⟩ := h.ok q hq
  exact c.mono (fun _ _ _ => rfl) (by omega) b

/-- a call that writes rb alone among the old blocks -/
theorem Mk.fr {f : Nat} {w w' : World} {pb rb : Nat} {p : Pt} {kids : List (Nat × List It)} (h : Mk f w pb p kids) (hf : Fr w.heap.size rb w w') (hr : rb < pb) : Mk f w' pb p kids := by
  have hlt := h.blk.lt
  refine ⟨?_, ?_, ?_⟩
  · have := h.blk
    unfold PtBlk Blk at *
    rw [hf.block pb (by omega) (by omega)]; exact this
  · refine h.row.kept (row := some rb) ⟨hf.os, hf.tape, hf.output, hf.size, fun k hk hne => hf.block k hk (by intro e; exact hne (by rw [e]))⟩ ?_
    cases hv : p.v.ownBlock with
    | none => exact Or.inl rfl
    | some g => exact Or.inr (by have := (h.row.lt g hv).1; intro e; cases e; omega)
  · intro q hq
    obtain ⟨lo, hi, a, b, c, d⟩ := h.ok q hq
    exact ⟨lo, hi, a, by have := hf.size; omega, c, d.mono (fun k h1 h2 => hf.block k (by omega) (by omega)) (Nat.le_refl _) (Nat.le_refl _)⟩

end Go.Proofs.YtaapfepkhmnijaaDoor

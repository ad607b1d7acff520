import Derived.Test.YtmlkhhhjdpbhfaaGreatDoorBk01
import Derived.Deep.MidRow
import Derived.Deep.DeepCutAuto
import Derived.KernelRfl
import Derived.Deep.RegionHeld3
import Derived.Deep.DrawnRows
namespace Go.Proofs.YtmlkhhhjdpbhfaaGreatDoor
open Go.RowKit
structure Sh where
 a : Int := 0
 b : Int := 0
 w : Bool := false
 d : Bool := false
 v : Bool := false
 n : Int := 0
def shapesL : List Sh := [⟨110, 110, true, false, false, 0⟩, ⟨108, 108, true, false, false, 0⟩, ⟨39, 39, false, false, true, 0⟩, ⟨40, 40, false, false, false, -1⟩, ⟨47, 47, false, false, false, 2⟩, ⟨42, 42, false, false, false, 1⟩,
 ⟨65, 72, false, false, false, 0⟩, ⟨104, 104, true, true, false, 0⟩, ⟨107, 107, true, true, false, 0⟩, ⟨114, 114, false, true, false, 0⟩, ⟨116, 116, false, true, false, 1⟩, ⟨119, 119, false, true, false, 1⟩, ⟨64, 64, false, true, false, 1⟩,
 ⟨115, 115, false, true, false, 1⟩, ⟨46, 46, false, false, false, 0⟩]
def sh (j : Nat) : Sh := shapesL.getD j {}
def Sh.row (x : Sh) : Array Value := #[.int .u8 x.a, .int .u8 x.b, .bool x.w, .bool x.d, .bool x.v, .int .i64 x.n]
def shpL : List Value := shapesL.flatMap fun x => x.row.toList
def Shp (w : World) : Prop := w.rangeAt 0 0 shpL ∧ 0 < w.heap.size
def kindV (c : Int) : Nat := shapesL.findIdx fun x => decide (x.a ≤ c) && decide (c ≤ x.b)
set_option maxRecDepth 100000 in
theorem idx_shp (j : Nat) (hj : j < 15) (w : World) : (Instr.index 253 (.agg shpL.toArray) (.int .i64 j)).run Tryz.prog w = .ok (.agg (sh j).row) w := by
 have h15 : j = 0 ∨ j = 1 ∨ j = 2 ∨ j = 3 ∨ j = 4 ∨ j = 5 ∨ j = 6 ∨ j = 7 ∨ j = 8 ∨ j = 9 ∨ j = 10 ∨ j = 11 ∨ j = 12 ∨ j = 13 ∨ j = 14 := by omega
 rcases h15 with rfl | rfl | rfl | rfl | rfl | rfl | rfl | rfl | rfl | rfl | rfl | rfl | rfl | rfl | rfl <;> rfl
theorem wpList_index_shp {ops : Array Oper} {rest : List Oper} {op : Oper} {a : Act} {w : World} {Q : Exit → Act → World → Prop} (hgd : op.guard = none) (x y : Operand) (ho : op.op = .index 253 x y)
 (j : Nat) (hj : j < 15) (hx : a.eval x = .agg shpL.toArray) (hy : a.eval y = .int .i64 j) (h : wpList Tryz.prog ops Q rest (a.put op.dst (.agg (sh j).row)) w) : wpList Tryz.prog ops Q (op :: rest) a w :=
 wpList_plain hgd fun _ hK => by
  unfold Oper.wp execOp
  simp only [ho, hx, hy, idx_shp j hj, Sem.run_bind, Sem.run_pure, Result.andThen_ok]
  exact hK _ _ h
theorem kindV_at (c : Int) (j : Nat) (hj : j < 15) (h : (decide ((sh j).a ≤ c) && decide (c ≤ (sh j).b)) = true) (hn : ∀ i, i < j → (decide ((sh i).a ≤ c) && decide (c ≤ (sh i).b)) = false) : kindV c = j := by
 have hl : shapesL.length = 15 := rfl
 unfold kindV
 rw [List.findIdx_eq (by omega)]
 refine ⟨?_, fun i hi => ?_⟩
 · have := h; simp only [sh, getD_lt _ _ _ (show j < shapesL.length by omega)] at this; exact this
 · have := hn i hi; simp only [sh, getD_lt _ _ _ (show i < shapesL.length by omega)] at this; exact this
theorem kindV_none (c : Int) (hn : ∀ i, i < 15 → (decide ((sh i).a ≤ c) && decide (c ≤ (sh i).b)) = false) : kindV c = 15 := by
 have hl : shapesL.length = 15 := rfl
 unfold kindV
 rw [show (15 : Nat) = shapesL.length from rfl, List.findIdx_eq_length]
 intro x hx
 obtain ⟨i, hi, rfl⟩ := List.getElem_of_mem hx
 have := hn i (by omega)
 simp only [sh, getD_lt _ _ _ hi] at this
 exact this
def kindK (c : Int) : Int := if kindV c < 15 then (kindV c : Int) else 0
def kindB (c : Int) : Bool := decide (kindV c < 15)
theorem snocAllK {p : Nat → Bool} {k : Nat} (h : ∀ j, j < k → p j = false) (e : p k = false) : ∀ j, j < k + 1 → p j = false := by
 intro j hj
 by_cases hjk : j = k
 · rw [hjk]; exact e
 · exact h j (by omega)
set_option maxRecDepth 100000 in
set_option maxHeartbeats 4000000 in
theorem kindOf_calls (w : World) (c : Int) (hS : Shp w) :
 Calls Tryz.prog 171 #[.int .u8 c] w fun e w' => e = .returned (.tuple #[.int .i64 (kindK c), .bool (kindB c)]) ∧ Below w.heap.size w w' := by
 have HS : Hid (w.rangeAt 0 0 shpL) := hS.1
 clear hS
 go_enter Tryz.func171, Tryz.ntmps171
 go_wp2_with (refine wpList_load_mid rfl 253 _ rfl 0 0 rfl shpL (.array 15 252) HS.out Tryz.underlying253 rfl (by kernel_rfl) ?_)
 generalize hA : shpL.toArray = A at *
 have HA : Hid (shpL.toArray = A) := hA
 clear hA
 go_loopw [7] (fun v7 wr => ∃ j : Nat, v7 = .int .i64 j ∧ j ≤ 15 ∧ Hid (Below w.heap.size w wr) ∧ Hid (∀ i, i < j → (decide ((sh i).a ≤ c) && decide (c ≤ (sh i).b)) = false)) (fun v7 _ => 15 - (intOf v7).toNat)
 case atStart => exact ⟨0, rfl, by omega, Below.refl _ _, fun i hi => by omega⟩
 case round =>
  obtain ⟨j, rfl, hj, hbel, hno⟩ := hrel
  have hsz := hbel.out.size
  have HB2 : Hid (∀ o, Below w.heap.size w (wr.alloc o)) := fun o => hbel.out.alloc hsz o
  by_cases hlt : j < 15
  · have hj15 : (j : Int) < 15 := by omega
    cases hm : (decide ((sh j).a ≤ c) && decide (c ≤ (sh j).b))
    · have HN : Hid (∀ i, i < j + 1 → (decide ((sh i).a ≤ c) && decide (c ≤ (sh i).b)) = false) := snocAllK hno.out hm
      have hor : ¬ (sh j).a ≤ c ∨ ((sh j).a ≤ c ∧ ¬ c ≤ (sh j).b) := by
       by_cases h : (sh j).a ≤ c
       · refine Or.inr ⟨h, fun h2 => ?_⟩
         rw [decide_eq_true h, decide_eq_true h2] at hm
         cases hm
       · exact Or.inl h
      clear hm hno
      rcases hor with h | ⟨h, h'⟩
      all_goals
       go_wp2_with (refine wpList_index_shp rfl _ _ rfl j hlt (by rw [HA.out]; rfl) rfl ?_; simp only [Sh.row])
       go_roundw
       case rel => exact ⟨j + 1, by go_num, by omega, HB2.out _, HN⟩
       case measure => simp [intOf]; omega
    · have HK : Hid (kindV c = j) := kindV_at c j hlt hm hno.out
      have hand : (sh j).a ≤ c ∧ c ≤ (sh j).b := by simpa using hm
      obtain ⟨h, h'⟩ := hand
      clear hm hno
      go_wp2_with (refine wpList_index_shp rfl _ _ rfl j hlt (by rw [HA.out]; rfl) rfl ?_; simp only [Sh.row])
      go_ret2
      have e1 : kindK c = j := by unfold kindK; rw [HK.out, if_pos hlt]
      have e2 : kindB c = true := by unfold kindB; rw [HK.out]; simpa using hlt
      rw [e1, e2]
      exact ⟨rfl, HB2.out _⟩
  · have HK : Hid (kindV c = 15) := kindV_none c (by have := hno.out; rwa [show j = 15 by omega] at this)
    clear hno
    go_wp2_with fail
    go_ret2
    have e1 : kindK c = 0 := by unfold kindK; rw [HK.out]; rfl
    have e2 : kindB c = false := by unfold kindB; rw [HK.out]; rfl
    rw [e1, e2]
    exact ⟨rfl, hbel.out⟩
def kOf (c : Int) : Int := if c = 82 then 6 else kindV c
structure ItPt (x : It) (p : Pt) : Prop where
 k : p.k = kOf x.c
 wd : p.wd = x.w
 vl : p.vl = x.b
 ru : x.c = 82 → p.pl = x.pl ∧ p.ru = x.r
 dp : kD x.c = true → p.dp = x.d ∧ p.dpl = x.pl
def ptrsL (l : List Nat) : List Value := l.map fun q => .pointer (some ⟨q, 0, none⟩)
def PtrsAt (w : World) (lo hi : Nat) (v : Value) (l : List Nat) : Prop :=
 (v = .slice none 0 0 ∧ l = []) ∨ ∃ g cap, v = .slice (some ⟨g, 0, none⟩) l.length cap ∧ lo ≤ g ∧ g < hi ∧ l.length ≤ cap ∧ ∀ j, j < l.length → w.cell? ⟨g, j, none⟩ = some (.pointer (some ⟨l.getD j 0, 0, none⟩))
def RepT : Nat → World → Nat → Nat → Nat → List It → Prop
 | 0, _, _, _, _, _ => False
 | f + 1, w, lo, hi, pb, seg => ∃ (x : It) (kids : List (Nat × List It)) (p : Pt), seg = x :: kids.flatMap Prod.snd ∧ x.nx = 1 + ((kids.flatMap Prod.snd).length : Int) ∧ lo ≤ pb ∧ pb < hi ∧ PtBlk w pb p ∧ ItPt x p ∧
  PtrsAt w lo hi p.v (kids.map Prod.fst) ∧ ∀ q, q ∈ kids → RepT f w lo hi q.1 q.2
theorem PtrsAt.mono {w w' : World} {lo hi lo' hi' : Nat} {v : Value} {l : List Nat} (h : PtrsAt w lo hi v l) (hw : ∀ k, lo ≤ k → k < hi → w'.heap[k]? = w.heap[k]?) (h1 : lo' ≤ lo) (h2 : hi ≤ hi') : PtrsAt w' lo' hi' v l := by
 rcases h with h | ⟨g, cap, hv, a, b, c, d⟩
 · exact Or.inl h
 · exact Or.inr ⟨g, cap, hv, by omega, by omega, c, fun j hj => by rw [World.cell?_of_block (w := w) (hw g a b)]; exact d j hj⟩
theorem RepT.mono {f : Nat} : ∀ {w w' : World} {lo hi lo' hi' pb : Nat} {seg : List It}, RepT f w lo hi pb seg → (∀ k, lo ≤ k → k < hi → w'.heap[k]? = w.heap[k]?) → lo' ≤ lo → hi ≤ hi' → RepT f w' lo' hi' pb seg := by
 induction f with
 | zero => intro w w' lo hi lo' hi' pb seg h; exact h.elim
 | succ f ih =>
  intro w w' lo hi lo' hi' pb seg h hw h1 h2
  obtain ⟨x, kids, p, e1, e2, a, b, c, d, e, k⟩ := h
  refine ⟨x, kids, p, e1, e2, by omega, by omega, ?_, d, e.mono hw h1 h2, fun q hq => ih (k q hq) hw h1 h2⟩
  unfold PtBlk Blk at *
  rw [hw pb a b]; exact c
theorem RepT.fuel {f : Nat} : ∀ {w : World} {lo hi pb : Nat} {seg : List It}, RepT f w lo hi pb seg → RepT (f + 1) w lo hi pb seg := by
 induction f with
 | zero => intro w lo hi pb seg h; exact h.elim
 | succ f ih =>
  intro w lo hi pb seg h
  obtain ⟨x, kids, p, e1, e2, a, b, c, d, e, k⟩ := h
  exact ⟨x, kids, p, e1, e2, a, b, c, d, e, fun q hq => ih (k q hq)⟩
theorem kindV_in (c : Int) (j : Nat) (h : kindV c = j) (hj : j < 15) : (sh j).a ≤ c ∧ c ≤ (sh j).b := by
 have hl : shapesL.length = 15 := rfl
 unfold kindV at h
 have h2 := List.findIdx_getElem (xs := shapesL) (p := fun x => decide (x.a ≤ c) && decide (c ≤ x.b)) (w := by omega)
 simp only [h] at h2
 simp only [Bool.and_eq_true, decide_eq_true_eq] at h2
 unfold sh
 rw [getD_lt _ _ _ (by omega)]
 exact h2
def silB (c : Int) : Bool := decide (c = 39) || decide (c = 104) || decide (c = 107)
def RepS : Nat → World → Nat → Nat → Nat → Bool → List It → Prop
 | 0, _, _, _, _, _, _ => False
 | f + 1, w, lo, hi, pb, sl, seg => ∃ (x : It) (kids : List (Nat × List It)) (p : Pt), seg = x :: kids.flatMap Prod.snd ∧ x.nx = 1 + ((kids.flatMap Prod.snd).length : Int) ∧ lo ≤ pb ∧ pb < hi ∧ PtBlk w pb p ∧ ItPt x p ∧ p.sl = (sl && silB x.c) ∧
  PtrsAt w (pb + 1) hi p.v (kids.map Prod.fst) ∧ ∀ q, q ∈ kids → RepS f w (pb + 1) hi q.1 (decide (x.c = 40)) q.2
theorem RepS.mono {f : Nat} : ∀ {w w' : World} {lo hi lo' hi' pb : Nat} {sl : Bool} {seg : List It}, RepS f w lo hi pb sl seg → (∀ k, lo ≤ k → k < hi → w'.heap[k]? = w.heap[k]?) → lo' ≤ lo → hi ≤ hi' → RepS f w' lo' hi' pb sl seg := by
 induction f with
 | zero => intro w w' lo hi lo' hi' pb sl seg h; exact h.elim
 | succ f ih =>
  intro w w' lo hi lo' hi' pb sl seg h hw h1 h2
  obtain ⟨x, kids, p, e1, e2, a, b, c, d, s, e, k⟩ := h
  refine ⟨x, kids, p, e1, e2, by omega, by omega, ?_, d, s, e.mono (fun k k1 k2 => hw k (by omega) k2) (Nat.le_refl _) h2, fun q hq => ih (k q hq) (fun k k1 k2 => hw k (by omega) k2) (Nat.le_refl _) h2⟩
  unfold PtBlk Blk at *
  rw [hw pb a b]; exact c
theorem RepS.toT {f : Nat} : ∀ {w : World} {lo hi pb : Nat} {sl : Bool} {seg : List It}, RepS f w lo hi pb sl seg → RepT f w lo hi pb seg := by
 induction f with
 | zero => intro w lo hi pb sl seg h; exact h.elim
 | succ f ih =>
  intro w lo hi pb sl seg h
  obtain ⟨x, kids, p, e1, e2, a, b, c, d, _, e, k⟩ := h
  exact ⟨x, kids, p, e1, e2, a, b, c, d, e.mono (fun _ _ _ => rfl) (by omega) (Nat.le_refl _), fun q hq => (ih (k q hq)).mono (fun _ _ _ => rfl) (by omega) (Nat.le_refl _)⟩
theorem RepS.head {f : Nat} {w : World} {lo hi pb : Nat} {sl : Bool} {seg : List It} (h : RepS f w lo hi pb sl seg) : ∃ x rest p, seg = x :: rest ∧ PtBlk w pb p ∧ p.k = kOf x.c ∧ lo ≤ pb ∧ pb < hi := by
 cases f with
 | zero => exact h.elim
 | succ f =>
  obtain ⟨x, kids, p, e1, e2, a, b, c, d, _⟩ := h
  exact ⟨x, _, p, e1, c, d.k, a, b⟩
theorem RepS.tell {f : Nat} {w : World} {lo hi pb : Nat} {x : It} {rest : List It} (h : RepS f w lo hi pb false (x :: rest)) : RepS f (w.setCell ⟨pb, 7, none⟩ (.bool (silB x.c))) lo hi pb true (x :: rest) := by
 cases f with
 | zero => exact h.elim
 | succ f =>
  obtain ⟨x', kids, p, e1, e2, a, b, c, d, _, e, k⟩ := h
  cases e1
  have hk : ∀ k, pb + 1 ≤ k → k < hi → (w.setCell ⟨pb, 7, none⟩ (.bool (silB x.c))).heap[k]? = w.heap[k]? := fun k k1 _ => Below.heap_setCell _ _ _ _ (by simp; omega)
  refine ⟨x, kids, { p with sl := silB x.c }, rfl, e2, a, b, c.sl _, ⟨d.k, d.wd, d.vl, d.ru, d.dp⟩, by simp, e.mono hk (Nat.le_refl _) (Nat.le_refl _), fun q hq => (k q hq).mono hk (Nat.le_refl _) (Nat.le_refl _)⟩
def KidsOk (f : Nat) (w : World) (pb B : Nat) (sl : Bool) (v : Value) (kids : List (Nat × List It)) : Prop :=
 ∀ q, q ∈ kids → ∃ lo hi, pb < lo ∧ hi ≤ B ∧ (∀ g, v.ownBlock = some g → g < lo ∨ hi ≤ g) ∧ RepS f w lo hi q.1 sl q.2
structure Mk (f : Nat) (w : World) (pb : Nat) (sl : Bool) (p : Pt) (kids : List (Nat × List It)) : Prop where
 blk : PtBlk w pb p
 row : w.ownsRow (pb + 1) 121 1 p.v kids.length (ptrsL (kids.map Prod.fst))
 ok : KidsOk f w pb w.heap.size sl p.v kids
structure MkN (f : Nat) (w : World) (pb : Nat) (sl : Bool) (p : Pt) (kids : List (Nat × List It)) (q : Nat × List It) : Prop where
 blk : PtBlk w pb p
 row : w.ownsRow (pb + 1) 121 1 p.v (kids ++ [q]).length (ptrsL ((kids ++ [q]).map Prod.fst))
 ok : ∃ B, pb < B ∧ KidsOk f w pb B sl p.v kids ∧ ∃ hi, hi ≤ w.heap.size ∧ (∀ g, p.v.ownBlock = some g → g < B ∨ hi ≤ g) ∧ RepS f w B hi q.1 false q.2
theorem KidsOk.bound {f : Nat} {w : World} {pb B B' : Nat} {sl : Bool} {v : Value} {kids : List (Nat × List It)} (h : KidsOk f w pb B sl v kids) (hB : B ≤ B') : KidsOk f w pb B' sl v kids := by
 intro q hq
 obtain ⟨lo, hi, a, b, c, d⟩ := h q hq
 exact ⟨lo, hi, a, by omega, c, d⟩
theorem MkN.lt {f : Nat} {w : World} {pb : Nat} {sl : Bool} {p : Pt} {kids : List (Nat × List It)} {q : Nat × List It} (h : MkN f w pb sl p kids q) : pb < q.1 ∧ q.1 < w.heap.size := by
 obtain ⟨B, hB, _, hi, h1, _, h2⟩ := h.ok
 obtain ⟨x, rest, p', e, b, k, l1, l2⟩ := h2.head
 exact ⟨by omega, by omega⟩
theorem MkN.all {f : Nat} {w : World} {pb : Nat} {p : Pt} {kids : List (Nat × List It)} {q : Nat × List It} (h : MkN f w pb false p kids q) : Mk f w pb false p (kids ++ [q]) := by
 obtain ⟨B, hB, hk, hi, h1, h2, h3⟩ := h.ok
 refine ⟨h.blk, h.row, fun z hz => ?_⟩
 rcases List.mem_append.1 hz with hz | hz
 · exact hk.bound (by obtain ⟨x, rest, p', e, b, k, l1, l2⟩ := h3.head; omega) z hz
 · simp at hz
   subst hz
   exact ⟨B, hi, hB, h1, h2, h3⟩
theorem MkN.tell {f : Nat} {w : World} {pb : Nat} {p : Pt} {kids : List (Nat × List It)} {q : Nat} {x : It} {rest : List It} (h : MkN f w pb true p kids (q, x :: rest)) : Mk f (w.setCell ⟨q, 7, none⟩ (.bool (silB x.c))) pb true p (kids ++ [(q, x :: rest)]) := by
 obtain ⟨B, hB, hk, hi, h1, h2, h3⟩ := h.ok
 obtain ⟨x', rest', p', e, b, k, l1, l2⟩ := h3.head
 simp only at l1 l2
 have hsz : (w.setCell ⟨q, 7, none⟩ (.bool (silB x.c))).heap.size = w.heap.size := by simp [World.setCell]
 have keep : ∀ k, k ≠ q → (w.setCell ⟨q, 7, none⟩ (.bool (silB x.c))).heap[k]? = w.heap[k]? := fun k hk => Below.heap_setCell _ _ _ _ hk
 refine ⟨?_, ?_, fun z hz => ?_⟩
 · have := h.blk
   unfold PtBlk Blk at *
   rw [keep pb (by omega)]; exact this
 · refine h.row.kept (row := some q) ⟨rfl, rfl, rfl, by rw [hsz]; exact Nat.le_refl _, fun k _ hne => keep k (by intro e; exact hne (by rw [e]))⟩ ?_
   cases hv : p.v.ownBlock with
   | none => exact Or.inl rfl
   | some g => exact Or.inr (by have := h2 g hv; intro e; cases e; omega)
 · rw [hsz]
   rcases List.mem_append.1 hz with hz | hz
   · obtain ⟨lo, hi', a, b, c, d⟩ := hk z hz
     exact ⟨lo, hi', a, by omega, c, d.mono (fun k k1 k2 => keep k (by omega)) (Nat.le_refl _) (Nat.le_refl _)⟩
   · simp at hz
     subst hz
     exact ⟨B, hi, hB, h1, h2, h3.tell⟩
theorem ptrs_of_own {w : World} {B : Nat} {v : Value} {l : List Nat} {lo hi : Nat} (h : w.ownsRow B 121 1 v l.length (ptrsL l)) (h1 : lo ≤ B) (h2 : w.heap.size ≤ hi) : PtrsAt w lo hi v l := by
 rcases h.2 with ⟨rfl, h0⟩ | ⟨g, cap, cur, rfl, hb, hg, hn, hm, hs, ht⟩
 · exact Or.inl ⟨rfl, List.eq_nil_of_length_eq_zero h0⟩
 · refine Or.inr ⟨g, cap, rfl, by omega, by have := (Array.getElem?_eq_some_iff.1 hg).1; omega, hn, fun j hj => ?_⟩
   rw [h.cellAt j (by omega)]
   simp [ptrsL, hj]
theorem Mk.rep {f : Nat} {w : World} {pb : Nat} {sl : Bool} {p : Pt} {kids : List (Nat × List It)} (h : Mk f w pb sl p kids) {x : It} (hx : ItPt x p) (hps : p.sl = false) (hsl : kids = [] ∨ sl = decide (x.c = 40)) (hn : x.nx = 1 + ((kids.flatMap Prod.snd).length : Int)) {lo : Nat} (hl : lo ≤ pb) : RepS (f + 1) w lo w.heap.size pb false (x :: kids.flatMap Prod.snd) := by
 refine ⟨x, kids, p, rfl, hn, hl, h.blk.lt, h.blk, hx, by simpa using hps, ptrs_of_own (by simpa using h.row) (Nat.le_refl _) (Nat.le_refl _), fun q hq => ?_⟩
 obtain ⟨lo', hi', a, b, _, c⟩ := h.ok q hq
 rcases hsl with hsl | hsl
 · rw [hsl] at hq; simp at hq
 · rw [← hsl]
   exact c.mono (fun _ _ _ => rfl) (by omega) b
theorem Mk.fr {f : Nat} {w w' : World} {pb rb : Nat} {sl : Bool} {p : Pt} {kids : List (Nat × List It)} (h : Mk f w pb sl p kids) (hf : Fr w.heap.size rb w w') (hr : rb < pb) : Mk f w' pb sl p kids := by
 have hlt := h.blk.lt
 refine ⟨?_, ?_, ?_⟩
 · have := h.blk
   unfold PtBlk Blk at *
   rw [hf.block pb (by omega) (by omega)]; exact this
 · refine h.row.kept (row := some rb) ⟨hf.os, hf.tape, hf.output, hf.size, fun k hk hne => hf.block k hk (by intro e; exact hne (by rw [e]))⟩ ?_
   cases hv : p.v.ownBlock with
   | none => exact Or.inl rfl
   | some g => exact Or.inr (by have := (h.row.lt g hv).1; intro e; cases e; omega)
 · intro q hq
   obtain ⟨lo, hi, a, b, c, d⟩ := h.ok q hq
   exact ⟨lo, hi, a, by have := hf.size; omega, c, d.mono (fun k h1 h2 => hf.block k (by omega) (by omega)) (Nat.le_refl _) (Nat.le_refl _)⟩
theorem Tryz.infoPtr : (Tryz.prog.info? 121).map (fun i => (i.zero, i.size, i.bytes)) = some (some (.pointer none), 1, 8) := by kernel_rfl
def PartS (s : ByteArray) (rule : Int) (f : Nat) : Prop :=
 ∀ (w : World) (rb i : Nat), Rd w rb s i → Shp w → 0 < rb → i ≤ s.size → s.size + 1 - i ≤ f →
  Calls Tryz.prog 98 #[.pointer (some ⟨rb, 0, none⟩)] w fun e w' =>
   ∃ o, e = .returned (.tuple #[.pointer o, .bool (prs s rule f i).ok]) ∧ Rd w' rb s (prs s rule f i).i ∧ Fr w.heap.size rb w w' ∧
    ((prs s rule f i).ok = true → ∃ pb, o = some ⟨pb, 0, none⟩ ∧ RepS f w' w.heap.size w'.heap.size pb false (prs s rule f i).its)
theorem Shp.fr {w w' : World} {B rb : Nat} (h : Shp w) (hf : Fr B rb w w') (h0 : 0 < rb) (hB : 0 < B) : Shp w' := by
 refine ⟨fun j v hv => ?_, by have := hf.size; have := h.2; omega⟩
 rw [World.cell?_of_block (w := w) (hf.block 0 hB (by omega))]
 exact h.1 j v hv
def InnerPost (s : ByteArray) (f : Nat) (rb pb : Nat) (sl : Bool) (w : World) (p : Pt) (kids : List (Nat × List It)) (r : Res) (e : Ending) (w' : World) : Prop :=
 e = .returned (.bool r.ok) ∧ Rd w' rb s r.i ∧ Fr pb rb w w' ∧ w.heap.size ≤ w'.heap.size ∧ (r.ok = true → ∃ q v', MkN f w' pb sl { p with v := v' } kids (q, r.its))
theorem inner_fin {s : ByteArray} {f : Nat} {rb pb : Nat} {sl : Bool} {w w1 w2 : World} {p : Pt} {kids : List (Nat × List It)} {rok : Bool} {ri : Nat} {rits : List It} {o : Option Addr} {g cap : Nat} (hM0 : Mk f w pb sl p kids) (hM1 : Mk f w1 pb sl p kids) (hr1 : Rd w1 rb s ri) (hf1 : Fr w.heap.size rb w w1)
 (hrp : rb < pb) (hrep : rok = true → ∃ q, o = some ⟨q, 0, none⟩ ∧ RepS f w1 w.heap.size w1.heap.size q false rits)
 (hown2 : w2.ownsRow (pb + 1) 121 1 (.slice (some ⟨g, 0, none⟩) (kids.length + 1) cap) (kids.length + 1) (ptrsL (kids.map Prod.fst) ++ [.pointer o])) (ob : Obj) (hgrow : (w1.alloc ob).grownBy w2 p.v.ownBlock)
 (hat : p.v.ownBlock = some g ∨ g = w1.heap.size + 1) (hb2 : PtBlk w2 pb p) :
 InnerPost s f rb pb sl w p kids ⟨rok, ri, rits⟩ (.returned (.bool rok)) (w2.setCell ⟨pb, 8, none⟩ (.slice (some ⟨g, 0, none⟩) (kids.length + 1) cap)) := by
 have hpl := hM0.blk.lt
 have hs1 := hf1.size
 have hs2 := hgrow.size
 simp at hs2
 have hrow : ∀ k, p.v.ownBlock = some k → pb + 1 ≤ k := fun k e => (hM1.row.lt k e).1
 have keep : ∀ k, k < w1.heap.size → k ≠ pb → some k ≠ p.v.ownBlock → (w2.setCell ⟨pb, 8, none⟩ (.slice (some ⟨g, 0, none⟩) (kids.length + 1) cap)).heap[k]? = w1.heap[k]? := by
  intro k hk h1 h2
  rw [Below.heap_setCell _ _ _ _ h1, hgrow.block k (by simp; omega) h2, Below.heap_alloc _ _ _ hk]
 refine ⟨rfl, ?_, ?_, ?_, fun hok => ?_⟩
 · have := hr1
   unfold Rd Blk at *
   rw [keep rb (by omega) (by omega) (fun e => by have := hrow rb e.symm; omega)]
   exact this
 · refine ⟨?_, ?_, ?_, ?_, fun k hk hne => ?_⟩
   · show w2.os = _; rw [hgrow.os]; exact hf1.os
   · show w2.tape = _; rw [hgrow.tape]; exact hf1.tape
   · show w2.output = _; rw [hgrow.output]; exact hf1.output
   · simp [World.setCell]; omega
   · rw [keep k (by omega) (by omega) (fun e => by have := hrow k e.symm; omega)]
     exact hf1.block k (by omega) hne
 · simp [World.setCell]; omega
 · obtain ⟨q, rfl, hq⟩ := hrep hok
   refine ⟨q, .slice (some ⟨g, 0, none⟩) (kids.length + 1) cap, hb2.pv _, ?_, ?_⟩
   · have := ownsRow_setCell_below hown2 (a := ⟨pb, 8, none⟩) (by simp) (.slice (some ⟨g, 0, none⟩) (kids.length + 1) cap)
     simpa [ptrsL] using this
   · refine ⟨w.heap.size, hpl, fun z hz => ?_, w1.heap.size, by simp [World.setCell]; omega, fun g' e => ?_, hq.mono (fun k h1 h2 => keep k (by omega) (by omega) (fun e => ?_)) (Nat.le_refl _) (Nat.le_refl _)⟩
     · obtain ⟨lo, hi, a, b, c, d⟩ := hM0.ok z hz
       refine ⟨lo, hi, a, b, fun g' e => ?_, d.mono (fun k h1 h2 => ?_) (Nat.le_refl _) (Nat.le_refl _)⟩
       · simp [Value.ownBlock] at e
         subst e
         rcases hat with h | h
         · exact c g h
         · right; omega
       · rw [keep k (by omega) (by omega) (fun e => by rcases c k e.symm with h | h <;> omega)]
         exact hf1.block k (by omega) (by omega)
     · simp [Value.ownBlock] at e
       subst e
       rcases hat with h | h
       · left; exact (hM0.row.lt g h).2
       · right; omega
     · have := (hM0.row.lt k e.symm).2; omega
set_option maxRecDepth 100000 in
set_option maxHeartbeats 4000000 in
theorem innerPart_calls (s : ByteArray) (rule : Int) (f : Nat) (ih : PartS s rule f) (w : World) (rb pb i : Nat) (sl : Bool) (p : Pt) (kids : List (Nat × List It)) (hr : Rd w rb s i) (hS : Shp w) (h0 : 0 < rb) (hrp : rb < pb) (hi : i ≤ s.size) (hf : s.size + 1 - i ≤ f)
 (hM : Mk f w pb sl p kids) (hk : kids.length ≤ 1000) :
 Calls Tryz.prog 198 #[.pointer (some ⟨rb, 0, none⟩), .pointer (some ⟨pb, 0, none⟩)] w fun e w' => InnerPost s f rb pb sl w p kids (prs s rule f i) e w' := by
 obtain ⟨i0, hi0, hz0, hz1, hz2⟩ := info_parts Tryz.infoPtr
 have HR := hr
 have HM : Hid (Mk f w pb sl p kids) := hM
 have HS : Hid (Shp w) := hS
 have HI : Hid (PartS s rule f) := ih
 have HR : Hid (Rd w rb s i) := hr
 have hpl := hM.blk.lt
 clear hr hM hS ih
 go_enter Tryz.func198, Tryz.ntmps198
 go_wp2_with fail
 refine (HI.out w rb i HR.out HS.out h0 hi hf).mono ?_
 rintro e w1 ⟨o, rfl, hr1, hfr1, hrep⟩
 have hM1 := HM.out.fr hfr1 hrp
 generalize hp : prs s rule f i = r at *
 obtain ⟨rok, ri, rits⟩ := r
 have HPr : Hid (prs s rule f i = ⟨rok, ri, rits⟩) := hp
 clear hp
 have hsz := hfr1.size
 have c7 : w1.cell? ⟨pb, 8, none⟩ = some p.v := hM1.blk.cell 8
 have f7 : w1.frozen? ⟨pb, 8, none⟩ = false := hM1.blk.frozen 8
 have c7a : ∀ o, (w1.alloc o).cell? ⟨pb, 8, none⟩ = some p.v := fun o => (Blk.alloc hM1.blk o).cell 8
 have HM1 : Hid (Mk f w1 pb sl p kids) := hM1
 have hpl1 := hM1.blk.lt
 have HR1 : Hid (Rd w1 rb s ri) := hr1
 have HF1 : Hid (Fr w.heap.size rb w w1) := hfr1
 have HRep : Hid (rok = true → ∃ pb, o = some ⟨pb, 0, none⟩ ∧ RepS f w1 w.heap.size w1.heap.size pb false rits) := hrep
 clear hM1 hr1 hfr1 hrep
 simp only
 go_wp2_with
  (at_builtin
   refine wpList_append_lies _ rfl _ _ _ rfl (pb + 1) 121 i0 _ 1 8 Tryz.underlying183 hi0 hz0 hz1 hz2 rfl (by omega) p.v kids.length (ptrsL (kids.map Prod.fst)) rfl (HM1.out.row.alloc _) ⟨w1.heap.size, 0, none⟩ 1 1 [.pointer o] rfl rfl (World.news_of_block (cs := #[.pointer o]) (t := 121) (fr := (0, 0)) (heap_alloc_new w1 _)) (by simp [Value.oneCell']) (by omega) (by unfold maxLen; omega) (by omega) (by simp; omega) (w1.heap.size + 1) (by simp) ?_
   intro g cap w2 hown2 hgrow hat hlt2
   have hne : some pb ≠ p.v.ownBlock := fun e => by have := (HM1.out.row.lt pb e.symm).1; omega
   have hb2 : PtBlk w2 pb p := Blk.grown (Blk.alloc HM1.out.blk _) hgrow hne
   have c72 : w2.cell? ⟨pb, 8, none⟩ = some p.v := hb2.cell 8
   have f72 : w2.frozen? ⟨pb, 8, none⟩ = false := hb2.frozen 8)
 go_ret
 rw [HPr.out]
 exact inner_fin HM.out HM1.out HR1.out HF1.out hrp HRep.out hown2 _ hgrow hat hb2
def rdPl (w : World) (rb : Nat) : Nat := match w.cell? ⟨rb, 1, none⟩ with | some (.int _ n) => n.toNat | _ => 0
theorem rdPl_of {w : World} {rb : Nat} {s : ByteArray} {i : Nat} (h : Rd w rb s i) : rdPl w rb = i := by
 have : w.cell? ⟨rb, 1, none⟩ = some (.int .i64 i) := h.cell 1
 unfold rdPl; rw [this]; simp
theorem hide' {p : Prop} (h : p) : Hid p := h
theorem Res.pre_pre' (l m : List It) (q : Res) : (q.pre m).pre l = q.pre (l ++ m) := by simp [Res.pre]
def kHid (k : Int) : Bool := k == 7 || k == 8
def kSil (k : Int) : Bool := k == 2 || kHid k
set_option maxHeartbeats 1000000 in
theorem isHidden_calls (k : Int) (w : World) : Calls Tryz.prog 100 #[.int .i64 k] w fun e w' => e = .returned (.bool (kHid k)) ∧ w' = w := by
 go_enter Tryz.func100, Tryz.ntmps100
 go_wp2
 all_goals
  go_ret
  refine ⟨?_, rfl⟩
  first
   | rfl
   | (unfold kHid; simp [*])
set_option maxHeartbeats 1000000 in
theorem isSilent_calls (k : Int) (w : World) : Calls Tryz.prog 206 #[.int .i64 k] w fun e w' => e = .returned (.bool (kSil k)) ∧ w' = w := by
 go_enter Tryz.func206, Tryz.ntmps206
 by_cases h2 : k = 2
 · have h2' : (k == 2) = true := by simpa using h2
   go_wp2_with fail
   go_ret
   exact ⟨by simp [kSil, h2], rfl⟩
 · have h2' : (k == 2) = false := by simpa using h2
   go_wp2_with fail
   refine (isHidden_calls _ _).mono ?_
   rintro e w1 ⟨rfl, rfl⟩
   simp only
   go_wp2_with fail
   go_ret
   exact ⟨by simp [kSil, h2'], rfl⟩
theorem kOf_sil (c : Int) : kSil (kOf c) = silB c := by
 unfold kSil kHid silB kOf
 by_cases h82 : c = 82
 · subst h82; rfl
 · rw [if_neg h82]
   by_cases h1 : c = 39
   · subst h1; rfl
   · by_cases h2 : c = 104
     · subst h2; rfl
     · by_cases h3 : c = 107
       · subst h3; rfl
       · have n2 : kindV c ≠ 2 := fun h => by have := kindV_in c 2 h (by omega); simp [sh, shapesL] at this; omega
         have n7 : kindV c ≠ 7 := fun h => by have := kindV_in c 7 h (by omega); simp [sh, shapesL] at this; omega
         have n8 : kindV c ≠ 8 := fun h => by have := kindV_in c 8 h (by omega); simp [sh, shapesL] at this; omega
         have m2 : ¬ (kindV c : Int) = 2 := by omega
         have m7 : ¬ (kindV c : Int) = 7 := by omega
         have m8 : ¬ (kindV c : Int) = 8 := by omega
         simp [h1, h2, h3, m2, m7, m8]
theorem MkN.see {f : Nat} {w : World} {pb : Nat} {sl : Bool} {p : Pt} {kids : List (Nat × List It)} {q : Nat} {its : List It} (h : MkN f w pb sl p kids (q, its)) :
 ∃ x rest pq g cap, its = x :: rest ∧ PtBlk w q pq ∧ pq.k = kOf x.c ∧ p.v = .slice (some ⟨g, 0, none⟩) (kids.length + 1) cap ∧ w.cell? ⟨g, kids.length, none⟩ = some (.pointer (some ⟨q, 0, none⟩)) := by
 obtain ⟨B, hB, hk, hi, h1, h2, h3⟩ := h.ok
 obtain ⟨x, rest, p', e, b, k, l1, l2⟩ := h3.head
 obtain ⟨g, cap, hv, _, _⟩ := h.row.form (by simp)
 refine ⟨x, rest, p', g, cap, e, b, k, by simpa using hv, ?_⟩
 have hr := h.row
 rw [hv] at hr
 have := hr.cellAt kids.length (by simp)
 rw [this]
 simp [ptrsL]
structure AtB (s : ByteArray) (rule : Int) (f : Nat) (rb pb : Nat) (w : World) (p : Pt) (i i' n : Nat) (kids : List (Nat × List It)) (v : Value) (wr : World) : Prop where
 rd : Rd wr rb s i'
 made : Mk f wr pb true { p with v := v } kids
 fr : Fr pb rb w wr
 sz : w.heap.size ≤ wr.heap.size
 hi : i' ≤ s.size
 hn : n + i ≤ i'
 hk : kids.length ≤ n
 eq : loopB (prs s rule f) s f i = (loopB (prs s rule f) s (f - n) i').pre (kids.flatMap Prod.snd)
def BracketPost (s : ByteArray) (f : Nat) (rb pb : Nat) (w : World) (p : Pt) (kids : List (Nat × List It)) (r : Res) (e : Ending) (w' : World) : Prop :=
 e = .returned (.bool r.ok) ∧ Rd w' rb s r.i ∧ Fr pb rb w w' ∧ w.heap.size ≤ w'.heap.size ∧ (r.ok = true → ∃ more v', Mk f w' pb true { p with v := v' } (kids ++ more) ∧ more.flatMap Prod.snd = r.its)
set_option maxRecDepth 100000 in
set_option maxHeartbeats 4000000 in
theorem bracket_calls (s : ByteArray) (rule : Int) (hs : s.size ≤ 400) (f : Nat) (ih : PartS s rule f) (w : World) (rb pb i : Nat) (p : Pt) (hr : Rd w rb s i) (hS : Shp w) (h0 : 0 < rb) (hrp : rb < pb) (hi : i ≤ s.size) (hf : s.size + 1 - i ≤ f)
 (hM : Mk f w pb true p []) :
 Calls Tryz.prog 197 #[.pointer (some ⟨rb, 0, none⟩), .pointer (some ⟨pb, 0, none⟩)] w fun e w' => BracketPost s f rb pb w p [] (loopB (prs s rule f) s f i) e w' := by
 have HM : Hid (Mk f w pb true p []) := hM
 have HS : Hid (Shp w) := hS
 have HI : Hid (PartS s rule f) := ih
 have HR : Hid (Rd w rb s i) := hr
 have hpl := hM.blk.lt
 clear hr hM hS ih
 go_enter Tryz.func197, Tryz.ntmps197
 go_wp2_with fail
 go_loopw [4] (fun _ wr => ∃ (i' n : Nat) (kids : List (Nat × List It)) (v : Value), Hid (AtB s rule f rb pb w p i i' n kids v wr)) (fun _ wr => s.size + 1 - rdPl wr rb)
 case atStart =>
  exact ⟨i, 0, [], p.v, ⟨HR.out, HM.out, Fr.refl _ _ _, Nat.le_refl _, hi, by omega, by simp, by simp [Res.pre]⟩⟩
 case round =>
  obtain ⟨i', n, kids, v, hat⟩ := hrel
  obtain ⟨a1, a2, a3, a4, a5, a6, a7, a8⟩ := hat.out
  have hpl2 := rdPl_of a1
  have HPl : Hid (rdPl wr rb = i') := hpl2
  have Ha : Hid (AtB s rule f rb pb w p i i' n kids v wr) := hat
  have HS2 : Hid (Shp wr) := HS.out.fr a3 h0 (by omega)
  have HA8 : Hid (loopB (prs s rule f) s f i = (loopB (prs s rule f) s (f - n) i').pre (kids.flatMap Prod.snd)) := a8
  have HUn : Hid (loopB (prs s rule f) s (f - n) i' = if (prs s rule f i').ok = true then (if bt s (prs s rule f i').i = 41 then ⟨true, (prs s rule f i').i + 1, (prs s rule f i').its⟩ else (loopB (prs s rule f) s (f - (n + 1)) (prs s rule f i').i).pre (prs s rule f i').its) else ⟨false, (prs s rule f i').i, []⟩) := by
   have : loopB (prs s rule f) s (f - n) i' = if (prs s rule f i').ok = true then (if bt s (prs s rule f i').i = 41 then ⟨true, (prs s rule f i').i + 1, (prs s rule f i').its⟩ else (loopB (prs s rule f) s (f - (n + 1)) (prs s rule f i').i).pre (prs s rule f i').its) else ⟨false, (prs s rule f i').i, []⟩ := by
    rw [show f - n = (f - (n + 1)) + 1 by omega, loopB]
   exact this
  have hgood := prs_good s rule f i' a5
  have HGood : Hid ((prs s rule f i').i ≤ s.size ∧ i' ≤ (prs s rule f i').i ∧ ((prs s rule f i').ok = true → i' < (prs s rule f i').i ∧ (prs s rule f i').its.length ≤ (prs s rule f i').i - i')) := hgood
  clear hpl2 hat a8 hgood
  go_wp2_with fail
  refine (innerPart_calls s rule f HI.out wr rb pb i' true { p with v := v } kids Ha.out.rd HS2.out h0 hrp a5 (by omega) Ha.out.made (by omega)).mono ?_
  rintro e w2 ⟨rfl, b1, b2, b3, b4⟩
  clear a1 a2
  generalize hpr : prs s rule f i' = r at *
  have HPr := hide' hpr
  clear hpr
  obtain ⟨rok, ri, rits⟩ := r
  cases rok
  · have HF : Hid (loopB (prs s rule f) s f i = ⟨false, ri, kids.flatMap Prod.snd⟩) := by
     have : loopB (prs s rule f) s f i = ⟨false, ri, kids.flatMap Prod.snd⟩ := by
      have h := HUn.out
      rw [HA8.out, h]; simp [Res.pre]
     exact this
    clear HUn HA8
    simp only
    go_wp2_with fail
    go_ret
    rw [HF.out]
    exact ⟨rfl, b1, a3.trans b2, by omega, fun h => by cases h⟩
  · obtain ⟨q, v', hmk⟩ := b4 rfl
    obtain ⟨g1, g2, g3⟩ := HGood.out
    obtain ⟨g3, g4⟩ := g3 rfl
    simp only at b1 g1 g2 g3 g4
    have hplw := hmk.blk.lt
    obtain ⟨hq1, hq2⟩ := hmk.lt
    simp only at hq1 hq2
    obtain ⟨x, rest, pq, g, cap, rfl, hpq, hkq, hvv, hcg⟩ := hmk.see
    simp only at hvv
    subst hvv
    have HTL := hide' hmk.tell
    have c8 : w2.cell? ⟨pb, 8, none⟩ = some (.slice (some ⟨g, 0, none⟩) (kids.length + 1) cap) := hmk.blk.cell 8
    have q0 : w2.cell? ⟨q, 0, none⟩ = some (.int .i64 (kOf x.c)) := by rw [← hkq]; exact hpq.cell 0
    have q7 : w2.cell? ⟨q, 7, none⟩ = some (.bool pq.sl) := hpq.cell 7
    have qf : w2.frozen? ⟨q, 7, none⟩ = false := hpq.frozen 7
    have hkl : kids.length ≤ 400 := by omega
    have HB1 := hide' (Blk.setOther b1 ⟨q, 7, none⟩ (by simp only; omega) (.bool (silB x.c)))
    have HBF := hide' ((a3.trans b2).setCell (p := ⟨q, 7, none⟩) (Or.inr (by simp only; omega)) (.bool (silB x.c)))
    clear b4 hmk hpq hkq b1
    simp only
    go_wp2_with fail
    go_quiet (fail)
    go_wp2_with fail
    refine (isSilent_calls _ _).mono ?_
    rintro e w9 ⟨rfl, h9⟩
    subst h9
    simp only [kOf_sil]
    go_wp2_with fail
    have HMK : Hid (Mk f ((w2.drewN nq).setCell ⟨q, 7, none⟩ (.bool (silB x.c))) pb true { p with v := .slice (some ⟨g, 0, none⟩) (kids.length + 1) cap } (kids ++ [(q, x :: rest)])) := ⟨HTL.out.blk, HTL.out.row, fun z hz => by obtain ⟨lo, hi, z1, z2, z3, z4⟩ := HTL.out.ok z hz; exact ⟨lo, hi, z1, z2, z3, z4.mono (fun _ _ _ => rfl) (Nat.le_refl _) (Nat.le_refl _)⟩⟩
    have HB2 : Hid (Rd ((w2.drewN nq).setCell ⟨q, 7, none⟩ (.bool (silB x.c))) rb s ri) := HB1.out
    have HFW : Hid (Fr pb rb w ((w2.drewN nq).setCell ⟨q, 7, none⟩ (.bool (silB x.c)))) := ⟨HBF.out.os, HBF.out.tape, HBF.out.output, HBF.out.size, HBF.out.block⟩
    have hszW : ((w2.drewN nq).setCell ⟨q, 7, none⟩ (.bool (silB x.c))).heap.size = w2.heap.size := by simp [World.setCell]
    generalize (w2.drewN nq).setCell ⟨q, 7, none⟩ (.bool (silB x.c)) = W2 at *
    clear HTL HB1 HBF c8 q0 q7 qf hcg
    refine (takeJust_calls W2 rb s ri 41 HB2.out hs g1 (by omega)).mono ?_
    rintro e w3 ⟨hsm, rfl, hr3⟩
    have HM3 : Hid (Mk f w3 pb true { p with v := .slice (some ⟨g, 0, none⟩) (kids.length + 1) cap } (kids ++ [(q, x :: rest)])) := HMK.out.fr (hsm.fr _) hrp
    have HR3 : Hid (Rd w3 rb s (adv s ri 41)) := hr3
    have hs3 := hsm.size
    have HFr3 : Hid (Fr pb rb w w3) := HFW.out.trans (hsm.fr _)
    clear hr3
    cases hat41 : isAt s ri 41
    · have hn41 : ¬ bt s ri = 41 := by unfold isAt at hat41; simpa using hat41
      have HN : Hid (AtB s rule f rb pb w p i ri (n + 1) (kids ++ [(q, x :: rest)]) (.slice (some ⟨g, 0, none⟩) (kids.length + 1) cap) w3) := by
       refine ⟨?_, HM3.out, HFr3.out, by omega, g1, by omega, by simp; omega, ?_⟩
       · have := HR3.out; unfold adv at this; rwa [if_neg hn41] at this
       · have h := HUn.out
         rw [if_pos (by trivial), if_neg hn41] at h
         rw [HA8.out, h, Res.pre_pre']; simp
      have HPN : Hid (rdPl w3 rb = ri) := rdPl_of HN.out.rd
      clear HUn HA8
      simp only
      go_wp2_with fail
      go_roundw
      case rel => exact ⟨ri, n + 1, _, _, HN⟩
      case measure => rw [HPl.out, HPN.out]; omega
    · have h41 : bt s ri = 41 := by unfold isAt at hat41; simpa using hat41
      have HF : Hid (loopB (prs s rule f) s f i = ⟨true, ri + 1, kids.flatMap Prod.snd ++ (x :: rest)⟩) := by
       have : loopB (prs s rule f) s f i = ⟨true, ri + 1, kids.flatMap Prod.snd ++ (x :: rest)⟩ := by
        have h := HUn.out
        rw [if_pos (by trivial), if_pos h41] at h
        rw [HA8.out, h]; simp [Res.pre]
       exact this
      have HR4 : Hid (Rd w3 rb s (ri + 1)) := by
       have := HR3.out; unfold adv at this; rw [if_pos h41] at this; exact this
      clear HUn HA8 h41
      simp only
      go_wp2_with fail
      go_ret
      rw [HF.out]
      exact ⟨rfl, HR4.out, HFr3.out, by omega, fun _ => ⟨kids ++ [(q, x :: rest)], _, by simpa using HM3.out, by simp⟩⟩
end Go.Proofs.YtmlkhhhjdpbhfaaGreatDoor

import Derived.Test.YtmlkhhhjdpbhfaaDoorSynSame
import Derived.Test.YtmlkhhhjdpbhfaaDoorRows
import Derived.ProofKit
import Derived.MakeChecks
import Derived.LaidHandle
import Derived.LaidLaws
import Derived.OpenShut
import Derived.Stop.Joined
/- The contracts of the law's functions. -/
namespace Go.Proofs.YtmlkhhhjdpbhfaaDoor
open Go.RowKit

set_option maxHeartbeats 1000000 in
theorem check_calls (s : ByteArray) (hsl : s.size ≤ maxLen) (w : World) (hS : Shp w) (hform : s.size ≤ 400 → (formV s).ok = true → FormOk (formV s).rls) :
    Calls Tryd.prog 14 #[.string s] w fun e w' => e = .returned (.tuple #[.int .i64 (pressV s).1, .int .i64 (pressV s).2]) ∧ Below w.heap.size w w' := by
  have HC := hide' (sread_calls s hsl w hS hform)
  clear hS hform
  go_enter Tryd.func14, Tryd.ntmps14
  go_wp2_with fail
  refine HC.out.mono ?_
  rintro e w1 ⟨p, rfl, hb, _⟩
  simp only
  go_wp2_with fail
  go_ret2
  exact ⟨rfl, hb⟩

theorem Shp.below {w w' : World} (h : Shp w) (hb : Below w.heap.size w w') : Shp w' :=
  h.fr (B := w.heap.size) (rb := w.heap.size) ⟨hb.os, hb.tape, hb.output, hb.size, fun k hk _ => hb.block k hk⟩ h.2 h.2

set_option maxHeartbeats 1000000 in
theorem lcheck_calls (s : ByteArray) (hsl : s.size ≤ maxLen) (w : World) (hS : Shp w) :
    Calls Tryd.prog 7 #[.string s] w fun e w' => e = .returned (.bool true) ∧ Below w.heap.size w w' := by
  have HC := hide' (check_calls s hsl w hS (fun h1 h2 => form_ok s h1 h2))
  have HE := hide' (same s)
  clear hS
  go_enter Tryd.func7, Tryd.ntmps7
  go_wp2_with fail
  refine HC.out.mono ?_
  rintro e w1 ⟨rfl, hb⟩
  have HB := hide' hb
  clear hb
  simp only
  go_wp2_with fail
  refine (read_calls s hsl w1).mono ?_
  rintro e w2 ⟨p, rfl, hb2, _⟩
  have HB2 := hide' hb2
  clear hb2
  rw [HE.out]
  simp only
  go_wp2_with fail
  refine (num_calls _ w2).mono ?_
  rintro e w3 ⟨rfl, hw3⟩
  subst hw3
  simp only
  go_wp2_with fail
  go_ret
  refine ⟨by simp, HB.out.trans ⟨HB2.out.os, HB2.out.tape, HB2.out.output, HB2.out.size, fun k hk => HB2.out.block k (Nat.lt_of_lt_of_le hk HB.out.size)⟩⟩

theorem below_low {B C : Nat} {a b : World} (h : Below C a b) (k : B ≤ C) : Below B a b := ⟨h.os, h.tape, h.output, h.size, fun j hj => h.block j (Nat.lt_of_lt_of_le hj k)⟩

set_option maxHeartbeats 1000000 in
theorem checks_calls (s t : ByteArray) (hs : s.size ≤ maxLen) (ht : t.size ≤ maxLen) (w : World) (hS : Shp w) :
    Calls Tryd.prog 3 #[.string s, .string t] w fun e w' => e = .returned (.bool true) ∧ Below w.heap.size w w' := by
  have HS := hide' hS
  clear hS
  go_enter Tryd.func3, Tryd.ntmps3
  go_wp2_with fail
  refine (lcheck_calls s hs w HS.out).mono ?_
  rintro e w1 ⟨rfl, hb⟩
  have HB := hide' hb
  have HS1 := hide' (HS.out.below hb)
  clear hb
  simp only
  go_wp2_with fail
  refine (lcheck_calls t ht w1 HS1.out).mono ?_
  rintro e w2 ⟨rfl, hb⟩
  have HB2 := hide' hb
  have HS2 := hide' (HS1.out.below hb)
  clear hb
  simp only
  go_wp2_with fail
  refine (lcheck_calls s hs w2 HS2.out).mono ?_
  rintro e w3 ⟨rfl, hb⟩
  have HB3 := hide' hb
  clear hb
  simp only
  go_wp2_with fail
  go_ret
  have h1 := HB.out.size
  have h2 := HB2.out.size
  exact ⟨rfl, (HB.out.trans (below_low HB2.out h1)).trans (below_low HB3.out (Nat.le_trans h1 h2))⟩

end Go.Proofs.YtmlkhhhjdpbhfaaDoor

/- The row: for every input the law answers true. -/
namespace Go.Proofs.YtmlkhhhjdpbhfaaDoor
open Go.ChangeShapes Go.WideShapes Go.ChangeAt Go.WideMaps Go.WideElems Go.RowKit

theorem law_own : ownKnob Tryd.prog.godebug = none := by kernel_rfl
theorem law_g : Tryd.prog.globalNamed (Rows.checksRow.named.getD 0 "") = some 0 := by kernel_rfl
theorem law_t : (Tryd.prog.globals[0]?).map (·.type) = some 138 := by kernel_rfl
theorem law_c : Tryd.prog.cellsOf 137 = 6 := by kernel_rfl
theorem law_c15 : Tryd.prog.cellsOf 138 = 90 := by kernel_rfl
theorem law_ci : Tryd.prog.cellsOf 3 = 1 := by kernel_rfl
theorem law_cu : Tryd.prog.cellsOf 5 = 1 := by kernel_rfl
theorem law_cb : Tryd.prog.cellsOf 4 = 1 := by kernel_rfl

def shD {H : Type} (x : Sh) : DataW H := .agg [.lit (.int .u8 x.a), .lit (.int .u8 x.b), .lit (.bool x.w), .lit (.bool x.d), .lit (.bool x.v), .lit (.int .i64 x.n)]

theorem laid_is {H : Type} : (Rows.laid_press_syntax_shapes : DataW H) = .agg (shapesL.map shD) := rfl

theorem chunk (rows : List Sh) : ∀ cs : List Value, cs.length = rows.length * 6 → (∀ i (h : i < rows.length), (cs.drop (i * 6)).take 6 = rows[i].row.toList) → cs = rows.flatMap fun x => x.row.toList := by
  induction rows with
  | nil => intro cs h _; simp at h; simpa using h
  | cons x t ih =>
    intro cs h hr
    have h0 := hr 0 (by simp)
    simp only [Nat.zero_mul, List.drop_zero, List.getElem_cons_zero] at h0
    have h1 := ih (cs.drop 6) (by simp at h ⊢; omega) (fun i hi => by
      have := hr (i + 1) (by simp; omega)
      simp only [List.getElem_cons_succ] at this
      rw [List.drop_drop, show 6 + i * 6 = (i + 1) * 6 by omega]
      exact this)
    rw [List.flatMap_cons, ← h0, ← h1, List.take_append_drop]

set_option maxRecDepth 100000 in
/-- one row of the table, out of its reading -/
theorem row_of {H : Type} {enc : TypeId × Value → H} {w : World} {base : Nat} {sp : Nat → Bool} {held : Bool} {fuel : Nat} {cs : List Value} {x : DataW H × List MemPlace} (r : Sh)
    (h : DataW.trod enc Tryd.prog w base sp held fuel 137 cs = some x) (hx : x.1 = shD r) : cs = r.row.toList := by
  obtain ⟨xs, n, _, rfl, hl, hlen, hf⟩ := DataW.trod_struct Tryd.underlying137 h
  rw [law_c] at hl
  simp only [List.size_toArray, List.length_cons, List.length_nil] at hlen
  match xs, hlen, cs, hl with
  | [x0, x1, x2, x3, x4, x5], _, [c0, c1, c2, c3, c4, c5], _ =>
    have f0 : DataW.trod enc Tryd.prog w base sp held n 5 (([c0, c1, c2, c3, c4, c5].drop 0).take (Tryd.prog.cellsOf 5)) = some x0 := hf 0 _ rfl
    rw [law_cu] at f0
    change DataW.trod enc Tryd.prog w base sp held n 5 [c0] = some x0 at f0
    have f1 : DataW.trod enc Tryd.prog w base sp held n 5 (([c0, c1, c2, c3, c4, c5].drop 1).take (Tryd.prog.cellsOf 5)) = some x1 := hf 1 _ rfl
    rw [law_cu] at f1
    change DataW.trod enc Tryd.prog w base sp held n 5 [c1] = some x1 at f1
    have f2 : DataW.trod enc Tryd.prog w base sp held n 4 (([c0, c1, c2, c3, c4, c5].drop 2).take (Tryd.prog.cellsOf 4)) = some x2 := hf 2 _ rfl
    rw [law_cb] at f2
    change DataW.trod enc Tryd.prog w base sp held n 4 [c2] = some x2 at f2
    have f3 : DataW.trod enc Tryd.prog w base sp held n 4 (([c0, c1, c2, c3, c4, c5].drop 3).take (Tryd.prog.cellsOf 4)) = some x3 := hf 3 _ rfl
    rw [law_cb] at f3
    change DataW.trod enc Tryd.prog w base sp held n 4 [c3] = some x3 at f3
    have f4 : DataW.trod enc Tryd.prog w base sp held n 4 (([c0, c1, c2, c3, c4, c5].drop 4).take (Tryd.prog.cellsOf 4)) = some x4 := hf 4 _ rfl
    rw [law_cb] at f4
    change DataW.trod enc Tryd.prog w base sp held n 4 [c4] = some x4 at f4
    have f5 : DataW.trod enc Tryd.prog w base sp held n 3 (([c0, c1, c2, c3, c4, c5].drop 5).take (Tryd.prog.cellsOf 3)) = some x5 := hf 5 _ rfl
    rw [law_ci] at f5
    change DataW.trod enc Tryd.prog w base sp held n 3 [c5] = some x5 at f5
    obtain ⟨n0, a0, b0, _⟩ := DataW.trod_int Tryd.underlying5 f0
    obtain ⟨n1, a1, b1, _⟩ := DataW.trod_int Tryd.underlying5 f1
    obtain ⟨n2, a2, b2⟩ := DataW.trod_bool Tryd.underlying4 f2
    obtain ⟨n3, a3, b3⟩ := DataW.trod_bool Tryd.underlying4 f3
    obtain ⟨n4, a4, b4⟩ := DataW.trod_bool Tryd.underlying4 f4
    obtain ⟨n5, a5, b5, _⟩ := DataW.trod_int Tryd.underlying3 f5
    subst b0 b1 b2 b3 b4 b5
    simp only [List.cons.injEq, and_true] at a0 a1 a2 a3 a4 a5
    subst a0 a1 a2 a3 a4 a5
    simp only [shD, List.map_cons, List.map_nil, DataW.agg.injEq, List.cons.injEq, DataW.lit.injEq, Lit.int.injEq, Lit.bool.injEq, true_and, and_true] at hx
    obtain ⟨e0, e1, e2, e3, e4, e5⟩ := hx
    simp only [Sh.row, e0, e1, e2, e3, e4, e5]

/-- what the condition gives: the table lies there -/
theorem shp_of {W : World} (h0 : laidMetH Tryd.prog Rows.checksRow.laid W) : Shp W := by
  have h : laidMetH Tryd.prog [(Rows.checksRow.named.getD 0 "", Rows.laid_press_syntax_shapes)] W := h0
  rw [MakeChecks.laidMetH_plain _ _ _ (by kernel_rfl)] at h
  obtain ⟨ps, ⟨g0, t0, cs0, f0, p0, q0, hg0, ht0, hv0, hd0, _, _⟩, _, _⟩ := h
  obtain rfl := Option.some.inj (law_g.symm.trans hg0)
  obtain rfl := Option.some.inj (law_t.symm.trans ht0)
  obtain ⟨xs, m1, rfl, hx1, hlen, hn, hel⟩ := DataW.trod_array Tryd.underlying138 hd0
  rw [law_c15] at hlen
  rw [laid_is] at hx1
  simp only [Prod.mk.injEq, DataW.agg.injEq] at hx1
  have hsl : shapesL.length = 15 := rfl
  have hcs : cs0.toList = shpL := by
    refine chunk shapesL cs0.toList (by rw [hlen, hsl]) fun i hi => ?_
    have hi' : i < 15 := by omega
    have h1 := hel i hi'
    rw [law_c, List.getElem?_eq_getElem (by omega)] at h1
    refine row_of _ h1 ?_
    have h2 : (xs.map (·.1))[i]? = (shapesL.map shD)[i]? := by rw [hx1.1]
    rw [List.getElem?_map, List.getElem?_map, List.getElem?_eq_getElem (by omega), List.getElem?_eq_getElem hi] at h2
    simpa using h2
  have hc := World.var?_cell hg0 hv0
  refine ⟨fun j v hv => ?_, ?_⟩
  · rw [Nat.zero_add, hc j, ← Array.getElem?_toList, hcs]; exact hv
  · have h0 := hc 0
    rw [← Array.getElem?_toList, hcs] at h0
    by_cases hz : 0 < W.heap.size
    · exact hz
    · have hn : W.cell? ⟨0, 0, none⟩ = none := by
        unfold World.cell?
        rw [Array.getElem?_eq_none (by simp only; omega)]
      rw [hn] at h0
      exact absurd h0 (by simp [shpL, shapesL, Sh.row])

end Go.Proofs.YtmlkhhhjdpbhfaaDoor

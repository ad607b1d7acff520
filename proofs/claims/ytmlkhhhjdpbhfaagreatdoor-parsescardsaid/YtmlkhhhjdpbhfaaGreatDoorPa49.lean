/- For every grammar's text, any bytes, other bytes, and any two numbers the law Parses answers true, under what the card ties: Parse's tree, error and place are the document's answer's. -/
import Derived.Test.YtmlkhhhjdpbhfaaGreatDoorPa37
import Derived.Test.YtmlkhhhjdpbhfaaGreatDoorPa48
import Derived.Test.YtmlkhhhjdpbhfaaGreatDoorRows
import Derived.ProofKit
import Derived.MakeChecks
import Derived.LaidHandle
import Derived.LaidLaws
import Derived.OpenShut
import Derived.Stop.Joined
import Derived.Stop.LaidErr
import Derived.Carry
import Derived.Test.YtmlkhhhjdpbhfaaGreatDoorTie
import Derived.Test.YtmlkhhhjdpbhfaaGreatDoorCards
import Derived.SevenTiedAt
namespace Go.Proofs.YtmlkhhhjdpbhfaaGreatDoor
open Go.RowKit
theorem rx_of (s : ByteArray) (w : World) (gb g c fb : Nat) (fl : List Int) (hp : (pressV s).1 = 0) (hG : Grm w gb g c (.slice (some ⟨fb, 0, none⟩) 8 8) (.int .i64 (twiceV [] (formV s).rls)) (allIts (formV s).rls)) (hF : Blk w fb (intsI fl) 3) (hfi : Firsts fl (formV s).rls) (bs : ByteArray) (N : Nat) (hbs : bs.size ≤ 4000) (hN : N ≤ 10000) :
 RxOk ⟨w, gb, g, c, fb, w.heap.size, .int .i64 (twiceV [] (formV s).rls), allIts (formV s).rls, fl, bs, N, rulePt (rlsOf s), ruleHas (rlsOf s)⟩ := by
 obtain ⟨h1, hform, _, _⟩ := pressV_ok s hp
 have hlen := form_len s hform
 have hfo := form_ok s h1 hform
 refine ⟨hG, hF, hfi.1, Nat.le_refl _, hbs, hN, (rules_wf s 8 65 0 hform).1, by simp only; omega, fun r hr => ?_, fun r hr => rule_wf s hp r hr⟩
 have hr8 : r < 8 := by
  obtain ⟨i, hi, e1, _, _⟩ := ruleHas_find hr
  have := hfo.num _ (List.getElem_mem hi)
  omega
 obtain ⟨a1, a2⟩ := rule_at (formV s).rls (s.size + 1) (rules_tr s 8 65 0 hform) r hr
 exact ⟨hr8, startR (formV s).rls r, hfi.2.2 r hr8 hr, a1, _, a2⟩
set_option maxRecDepth 100000 in
set_option maxHeartbeats 1000000 in
theorem rface_calls (s bs : ByteArray) (hsl : s.size ≤ maxLen) (hbl : bs.size ≤ maxLen) (fuel N : Int) (w : World) :
 Calls Tryz.prog 22 #[.string s, .string bs, .int .i64 fuel, .int .i64 N] w fun e w' => e = .returned (.tuple #[.string ⟨(parseV s bs fuel N).1.toArray⟩, .int .i64 (parseV s bs fuel N).2.1, .int .i64 (parseV s bs fuel N).2.2]) ∧ Below w.heap.size w w' := by
 have HC := hide' (read_calls s hsl w)
 have HSame := hide' (same s)
 unfold maxLen at hbl
 go_enter Tryz.func22, Tryz.ntmps22
 go_wp2_with fail
 refine HC.out.mono ?_
 rintro e w1 ⟨p, rfl, hb, hpost⟩
 rw [← HSame.out] at hpost ⊢
 have HB := hide' hb
 have HPo := hide' hpost
 have hs1 := hb.size
 clear hb hpost
 by_cases hz : (pressV s).1 = 0
 · have hzz := pressV_zero s hz
   obtain ⟨gb, g, c, fb, fl, rfl, hG, hF, hfi⟩ := HPo.out hzz
   obtain ⟨_, hform, _, _⟩ := pressV_ok s hz
   rw [hzz]
   cases hbud : badBud bs fuel N
   · have HV : Hid (parseV s bs fuel N = ((endT (outT s bs fuel.toNat N.toNat)).1, ((endT (outT s bs fuel.toNat N.toNat)).2.1 : Int), ((endT (outT s bs fuel.toNat N.toNat)).2.2 : Int))) := by
      have : parseV s bs fuel N = ((endT (outT s bs fuel.toNat N.toNat)).1, ((endT (outT s bs fuel.toNat N.toNat)).2.1 : Int), ((endT (outT s bs fuel.toNat N.toNat)).2.2 : Int)) := by unfold parseV; rw [if_neg (fun h => h hz), if_neg (by rw [hbud]; simp)]
      exact this
     have hb3 : bs.size ≤ 4000 ∧ (0 ≤ fuel ∧ fuel ≤ 100000) ∧ 0 ≤ N ∧ N ≤ 10000 := by
      unfold badBud budB at hbud
      simp at hbud
      omega
     obtain ⟨k1, ⟨k2, k3⟩, k4, k5⟩ := hb3
     obtain ⟨fu, rfl⟩ : ∃ fu : Nat, fuel = (fu : Int) := ⟨fuel.toNat, by omega⟩
     obtain ⟨n, rfl⟩ : ∃ n : Nat, N = (n : Int) := ⟨N.toNat, by omega⟩
     simp only [Int.toNat_natCast] at HV
     have HPP := hide' (rparse_calls w1 gb g c fb _ _ fl bs fu n _ _ (rx_of s w1 gb g c fb fl hz hG hF hfi bs n k1 (by omega)) (form_first s hform) (by omega))
     have k1' : ¬ (4000 : Int) < (bs.size : Int) := by omega
     have k3' : ¬ (100000 : Int) < (fu : Int) := by omega
     have k5' : ¬ (10000 : Int) < (n : Int) := by omega
     clear hbud hG hF hfi HPo
     simp only
     go_wp2_with fail
     refine HPP.out.mono ?_
     rintro e w2 ⟨rfl, hb2⟩
     have HB2 := hide' hb2
     clear hb2
     simp only
     go_wp2_with fail
     go_ret3
     rw [HV.out]
     exact ⟨rfl, HB.out.trans (HB2.out.mono (by omega))⟩
   · have HV : Hid (parseV s bs fuel N = ([], 5, 0)) := by
      have : parseV s bs fuel N = ([], 5, 0) := by unfold parseV; rw [if_neg (fun h => h hz), if_pos hbud]
      exact this
     have hfive : (4000 : Int) < (bs.size : Int) ∨ (¬ (4000 : Int) < (bs.size : Int) ∧ fuel < 0) ∨ (¬ (4000 : Int) < (bs.size : Int) ∧ ¬ fuel < 0 ∧ 100000 < fuel) ∨ (¬ (4000 : Int) < (bs.size : Int) ∧ ¬ fuel < 0 ∧ ¬ 100000 < fuel ∧ N < 0) ∨ (¬ (4000 : Int) < (bs.size : Int) ∧ ¬ fuel < 0 ∧ ¬ 100000 < fuel ∧ ¬ N < 0 ∧ 10000 < N) := by
      unfold badBud budB at hbud
      simp at hbud
      omega
     clear hbud hG hF hfi HPo
     simp only
     rcases hfive with h1 | ⟨h1, h2⟩ | ⟨h1, h2, h3⟩ | ⟨h1, h2, h3, h4⟩ | ⟨h1, h2, h3, h4, h5⟩
     all_goals
      go_wp2_with fail
      go_ret3
      rw [HV.out]
      exact ⟨rfl, HB.out⟩
 · have HV : Hid (parseV s bs fuel N = ([], (pressV s).1, (pressV s).2)) := by
    have : parseV s bs fuel N = ([], (pressV s).1, (pressV s).2) := by unfold parseV; rw [if_pos hz]
    exact this
   clear HPo
   simp only
   go_wp2_with fail
   go_ret3
   rw [HV.out]
   exact ⟨rfl, HB.out⟩
set_option maxRecDepth 100000 in
set_option maxHeartbeats 1000000 in
theorem lparse_calls (s bs : ByteArray) (hsl : s.size ≤ maxLen) (hbl : bs.size ≤ maxLen) (fuel N : Int) (w : World) (hS : Shp w) (hP : PowW w) :
 Calls Tryz.prog 10 #[.string s, .string bs, .int .i64 fuel, .int .i64 N] w fun e w' => e = .returned (.bool true) ∧ Below w.heap.size w w' := by
 have HC := hide' (pface_calls s bs hsl hbl fuel N w hS hP)
 clear hS hP
 go_enter Tryz.func10, Tryz.ntmps10
 go_wp2_with fail
 refine HC.out.mono ?_
 rintro e w1 ⟨rfl, hb⟩
 have HB := hide' hb
 clear hb
 have HR := hide' (rface_calls s bs hsl hbl fuel N w1)
 simp only
 go_wp2_with fail
 refine HR.out.mono ?_
 rintro e w2 ⟨rfl, hb2⟩
 have HB2 := hide' hb2
 clear hb2
 generalize parseV s bs fuel N = q at *
 simp only
 go_wp2_with fail
 refine (num_calls _ w2).mono ?_
 rintro e w3 ⟨rfl, hw3⟩
 subst hw3
 simp only
 go_wp2_with fail
 go_ret
 exact ⟨by simp, HB.out.trans (HB2.out.mono HB.out.size)⟩
set_option maxRecDepth 100000 in
set_option maxHeartbeats 1000000 in
theorem parses_calls (s a b : ByteArray) (hs : s.size ≤ maxLen) (ha : a.size ≤ maxLen) (hb : b.size ≤ maxLen) (fuel N : Int) (w : World) (hS : Shp w) (hP : PowW w) :
 Calls Tryz.prog 3 #[.string s, .string a, .string b, .int .i64 fuel, .int .i64 N] w fun e w' => e = .returned (.bool true) ∧ Below w.heap.size w w' := by
 have HS := hide' hS
 have HP := hide' hP
 clear hS hP
 go_enter Tryz.func3, Tryz.ntmps3
 go_wp2_with fail
 refine (lparse_calls s a hs ha fuel N w HS.out HP.out).mono ?_
 rintro e w1 ⟨rfl, h1⟩
 have H1 := hide' h1
 clear h1
 simp only
 go_wp2_with fail
 refine (lparse_calls s b hs hb fuel N w1 (HS.out.below H1.out) (HP.out.below H1.out)).mono ?_
 rintro e w2 ⟨rfl, h2⟩
 have H2 := hide' (H1.out.trans (h2.mono H1.out.size))
 clear h2
 simp only
 go_wp2_with fail
 refine (lparse_calls s a hs ha fuel N w2 (HS.out.below H2.out) (HP.out.below H2.out)).mono ?_
 rintro e w3 ⟨rfl, h3⟩
 have H3 := hide' (H2.out.trans (h3.mono H2.out.size))
 clear h3
 simp only
 go_wp2_with fail
 go_ret
 exact ⟨rfl, H3.out⟩
end Go.Proofs.YtmlkhhhjdpbhfaaGreatDoor
namespace Go.Proofs.YtmlkhhhjdpbhfaaGreatDoor
open Go.ChangeShapes Go.WideShapes Go.ChangeAt Go.WideMaps Go.WideElems Go.RowKit
theorem law_own : ownKnob Tryz.prog.godebug = none := by kernel_rfl
theorem law_g : Tryz.prog.globalNamed (Rows.parsesRow.named.getD 0 "") = some 0 := by kernel_rfl
theorem law_t : (Tryz.prog.globals[0]?).map (·.type) = some 253 := by kernel_rfl
theorem law_c : Tryz.prog.cellsOf 252 = 6 := by kernel_rfl
theorem law_c15 : Tryz.prog.cellsOf 253 = 90 := by kernel_rfl
theorem law_ci : Tryz.prog.cellsOf 3 = 1 := by kernel_rfl
theorem law_cu : Tryz.prog.cellsOf 5 = 1 := by kernel_rfl
theorem law_cb : Tryz.prog.cellsOf 4 = 1 := by kernel_rfl
def shD {H : Type} (x : Sh) : DataW H := .agg [.lit (.int .u8 x.a), .lit (.int .u8 x.b), .lit (.bool x.w), .lit (.bool x.d), .lit (.bool x.v), .lit (.int .i64 x.n)]
theorem laid_is {H : Type} : (Rows.laid_press_syntax_shapes : DataW H) = .agg (shapesL.map shD) := rfl
theorem chunk (rows : List Sh) : ∀ cs : List Value, cs.length = rows.length * 6 → (∀ i (h : i < rows.length), (cs.drop (i * 6)).take 6 = rows[i].row.toList) → cs = rows.flatMap fun x => x.row.toList := by
 induction rows with
 | nil => intro cs h _; simp at h; simpa using h
 | cons x t ih =>
  intro cs h hr
  have h0 := hr 0 (by simp)
  simp only [Nat.zero_mul, List.drop_zero, List.getElem_cons_zero] at h0
  have h1 := ih (cs.drop 6) (by simp at h ⊢; omega) (fun i hi => by
   have := hr (i + 1) (by simp; omega)
   simp only [List.getElem_cons_succ] at this
   rw [List.drop_drop, show 6 + i * 6 = (i + 1) * 6 by omega]
   exact this)
  rw [List.flatMap_cons, ← h0, ← h1, List.take_append_drop]
set_option maxRecDepth 100000 in
theorem row_of {H : Type} {enc : TypeId × Value → H} {w : World} {base : Nat} {sp : Nat → Bool} {held : Bool} {fuel : Nat} {cs : List Value} {x : DataW H × List MemPlace} (r : Sh)
 (h : DataW.trod enc Tryz.prog w base sp held fuel 252 cs = some x) (hx : x.1 = shD r) : cs = r.row.toList := by
 obtain ⟨xs, n, _, rfl, hl, hlen, hf⟩ := DataW.trod_struct Tryz.underlying252 h
 rw [law_c] at hl
 simp only [List.size_toArray, List.length_cons, List.length_nil] at hlen
 match xs, hlen, cs, hl with
 | [x0, x1, x2, x3, x4, x5], _, [c0, c1, c2, c3, c4, c5], _ =>
  have f0 : DataW.trod enc Tryz.prog w base sp held n 5 (([c0, c1, c2, c3, c4, c5].drop 0).take (Tryz.prog.cellsOf 5)) = some x0 := hf 0 _ rfl
  rw [law_cu] at f0
  change DataW.trod enc Tryz.prog w base sp held n 5 [c0] = some x0 at f0
  have f1 : DataW.trod enc Tryz.prog w base sp held n 5 (([c0, c1, c2, c3, c4, c5].drop 1).take (Tryz.prog.cellsOf 5)) = some x1 := hf 1 _ rfl
  rw [law_cu] at f1
  change DataW.trod enc Tryz.prog w base sp held n 5 [c1] = some x1 at f1
  have f2 : DataW.trod enc Tryz.prog w base sp held n 4 (([c0, c1, c2, c3, c4, c5].drop 2).take (Tryz.prog.cellsOf 4)) = some x2 := hf 2 _ rfl
  rw [law_cb] at f2
  change DataW.trod enc Tryz.prog w base sp held n 4 [c2] = some x2 at f2
  have f3 : DataW.trod enc Tryz.prog w base sp held n 4 (([c0, c1, c2, c3, c4, c5].drop 3).take (Tryz.prog.cellsOf 4)) = some x3 := hf 3 _ rfl
  rw [law_cb] at f3
  change DataW.trod enc Tryz.prog w base sp held n 4 [c3] = some x3 at f3
  have f4 : DataW.trod enc Tryz.prog w base sp held n 4 (([c0, c1, c2, c3, c4, c5].drop 4).take (Tryz.prog.cellsOf 4)) = some x4 := hf 4 _ rfl
  rw [law_cb] at f4
  change DataW.trod enc Tryz.prog w base sp held n 4 [c4] = some x4 at f4
  have f5 : DataW.trod enc Tryz.prog w base sp held n 3 (([c0, c1, c2, c3, c4, c5].drop 5).take (Tryz.prog.cellsOf 3)) = some x5 := hf 5 _ rfl
  rw [law_ci] at f5
  change DataW.trod enc Tryz.prog w base sp held n 3 [c5] = some x5 at f5
  obtain ⟨n0, a0, b0, _⟩ := DataW.trod_int Tryz.underlying5 f0
  obtain ⟨n1, a1, b1, _⟩ := DataW.trod_int Tryz.underlying5 f1
  obtain ⟨n2, a2, b2⟩ := DataW.trod_bool Tryz.underlying4 f2
  obtain ⟨n3, a3, b3⟩ := DataW.trod_bool Tryz.underlying4 f3
  obtain ⟨n4, a4, b4⟩ := DataW.trod_bool Tryz.underlying4 f4
  obtain ⟨n5, a5, b5, _⟩ := DataW.trod_int Tryz.underlying3 f5
  subst b0 b1 b2 b3 b4 b5
  simp only [List.cons.injEq, and_true] at a0 a1 a2 a3 a4 a5
  subst a0 a1 a2 a3 a4 a5
  simp only [shD, List.map_cons, List.map_nil, DataW.agg.injEq, List.cons.injEq, DataW.lit.injEq, Lit.int.injEq, Lit.bool.injEq, true_and, and_true] at hx
  obtain ⟨e0, e1, e2, e3, e4, e5⟩ := hx
  simp only [Sh.row, e0, e1, e2, e3, e4, e5]
theorem shp_of {W : World} (h0 : laidMetH Tryz.prog Rows.parsesRow.laid W) : Shp W := by
 rw [MakeChecks.laidMetH_plain _ _ _ (by kernel_rfl)] at h0
 have h : laidMet Tryz.prog [(Rows.parsesRow.named.getD 0 "", Rows.laid_press_syntax_shapes)] W := h0.tail.tail.tail
 obtain ⟨ps, ⟨g0, t0, cs0, f0, p0, q0, hg0, ht0, hv0, hd0, _, _⟩, _, _⟩ := h
 obtain rfl := Option.some.inj (law_g.symm.trans hg0)
 obtain rfl := Option.some.inj (law_t.symm.trans ht0)
 obtain ⟨xs, m1, rfl, hx1, hlen, hn, hel⟩ := DataW.trod_array Tryz.underlying253 hd0
 rw [law_c15] at hlen
 rw [laid_is] at hx1
 simp only [Prod.mk.injEq, DataW.agg.injEq] at hx1
 have hsl : shapesL.length = 15 := rfl
 have hcs : cs0.toList = shpL := by
  refine chunk shapesL cs0.toList (by rw [hlen, hsl]) fun i hi => ?_
  have hi' : i < 15 := by omega
  have h1 := hel i hi'
  rw [law_c, List.getElem?_eq_getElem (by omega)] at h1
  refine row_of _ h1 ?_
  have h2 : (xs.map (·.1))[i]? = (shapesL.map shD)[i]? := by rw [hx1.1]
  rw [List.getElem?_map, List.getElem?_map, List.getElem?_eq_getElem (by omega), List.getElem?_eq_getElem hi] at h2
  simpa using h2
 have hc := World.var?_cell hg0 hv0
 refine ⟨fun j v hv => ?_, ?_⟩
 · rw [Nat.zero_add, hc j, ← Array.getElem?_toList, hcs]; exact hv
 · have h0 := hc 0
   rw [← Array.getElem?_toList, hcs] at h0
   by_cases hz : 0 < W.heap.size
   · exact hz
   · have hn : W.cell? ⟨0, 0, none⟩ = none := by
      unfold World.cell?
      rw [Array.getElem?_eq_none (by simp only; omega)]
     rw [hn] at h0
     exact absurd h0 (by simp [shpL, shapesL, Sh.row])
theorem pow_of {W : World} (h0 : laidMetH Tryz.prog Rows.parsesRow.laid W) : PowW W := by
 rw [MakeChecks.laidMetH_plain _ _ _ (by kernel_rfl)] at h0
 have h := h0.tail.tail
 refine Lib.tabIs_of_head (rest := [(Rows.parsesRow.named.getD 0 "", Rows.laid_press_syntax_shapes)]) (g := 1) (t := 291) (e := 222) (n := 20) (by kernel_rfl) (by kernel_rfl) Tryz.underlying291 Tryz.underlying222 (by kernel_rfl) (by kernel_rfl) ?_
 exact h
end Go.Proofs.YtmlkhhhjdpbhfaaGreatDoor
namespace Go.Proofs.YtmlkhhhjdpbhfaaGreatDoor
open Go.ChangeShapes Go.WideShapes Go.ChangeAt Go.WideMaps Go.WideElems Go.RowKit
def lawLaid : List (String × DataW Unit) := Rows.parsesRow.laid
def layT (cs : List Value) : Obj → Obj
 | .cells _ t frozen => .cells cs.toArray t frozen
 | o => o
def litC : DataW Unit → List Value
 | .lit (.int k n) => [.int k n]
 | _ => []
def tabC : DataW Unit → List Value
 | .agg l => l.flatMap litC
 | _ => []
def parHeap (h : Array Obj) : Array Obj := (((h.modify 0 (layT shpL)).modify 1 (layT (tabC Rows.laid_internal_strconv_uint64pow10))).modify 2 (layT (tabC Rows.laid_math_bits_deBruijn32tab))).modify 3 (layT (tabC Rows.laid_math_bits_deBruijn64tab))
section
variable {H : Type} {enc : TypeId × Value → H} {P : Program} {w : World} {base : Nat} {spare : Nat → Bool} {held : Bool} {t t1 t2 t3 t4 : TypeId}
theorem trodAll_five {args : Array Value} {ds : List (DataW H)} {ps : List MemPlace} (h : DataW.TrodAll enc P w base spare held [t, t1, t2, t3, t4] args.toList ds ps) :
 ∃ v v1 v2 v3 v4 d d1 d2 d3 d4 p p1 p2 p3 p4, args = #[v, v1, v2, v3, v4] ∧ ds = [d, d1, d2, d3, d4] ∧ ps = p ++ p1 ++ p2 ++ p3 ++ p4 ∧ DataW.Trod enc P w base spare held t v d p ∧ DataW.Trod enc P w base spare held t1 v1 d1 p1 ∧ DataW.Trod enc P w base spare held t2 v2 d2 p2 ∧ DataW.Trod enc P w base spare held t3 v3 d3 p3 ∧ DataW.Trod enc P w base spare held t4 v4 d4 p4 := by
 obtain ⟨v, vs, d, ds0, p, q, hargs, rfl, rfl, hd, hr0⟩ := trodAll_cons h
 obtain ⟨v1, vs1, d1, ds1, p1, q1, rfl, rfl, rfl, hd1, hr1⟩ := trodAll_cons hr0
 obtain ⟨v2, vs2, d2, ds2, p2, q2, rfl, rfl, rfl, hd2, hr2⟩ := trodAll_cons hr1
 obtain ⟨v3, vs3, d3, ds3, p3, q3, rfl, rfl, rfl, hd3, hr3⟩ := trodAll_cons hr2
 obtain ⟨v4, vs4, d4, ds4, p4, q4, rfl, rfl, rfl, hd4, hr4⟩ := trodAll_cons hr3
 obtain ⟨rfl, rfl, rfl⟩ := trodAll_nil hr4
 exact ⟨v, v1, v2, v3, v4, d, d1, d2, d3, d4, p, p1, p2, p3, p4, by cases args; simp_all, rfl, by simp, hd, hd1, hd2, hd3, hd4⟩
theorem trodAll_mk5 {v v1 v2 v3 v4 : Value} {d d1 d2 d3 d4 : DataW H} {p p1 p2 p3 p4 : List MemPlace} (h : DataW.Trod enc P w base spare held t v d p) (h1 : DataW.Trod enc P w base spare held t1 v1 d1 p1)
 (h2 : DataW.Trod enc P w base spare held t2 v2 d2 p2) (h3 : DataW.Trod enc P w base spare held t3 v3 d3 p3) (h4 : DataW.Trod enc P w base spare held t4 v4 d4 p4) : DataW.TrodAll enc P w base spare held [t, t1, t2, t3, t4] [v, v1, v2, v3, v4] [d, d1, d2, d3, d4] (p ++ (p1 ++ (p2 ++ (p3 ++ p4)))) := ⟨p, p1 ++ (p2 ++ (p3 ++ p4)), h, trodAll_mk4 h1 h2 h3 h4, rfl⟩
end
theorem laidWorld_met (os : Os) (args : Array Value) : laidMetH Tryz.prog lawLaid (({ World.holding Tryz.prog os ⟨#[], #[], []⟩ with heap := parHeap (World.holding Tryz.prog os ⟨#[], #[], []⟩).heap } : World).forCall (fun _ _ => 0) ⟨#[], args, []⟩).memory := by
 rw [MakeChecks.laidMetH_plain _ _ _ (by kernel_rfl)]
 exact laidMet_of_run' 8 (by kernel_rfl) (by kernel_rfl)
set_option maxRecDepth 100000 in
theorem law_lifted (os : Os) (started : os.Started) (H : Type) (enc : TypeId × Value → H) :
 ReturnsInHanded {} Tryz.checked os 3 .any (fun w args => (Rows.parsesSpec.pre enc Tryz.prog Tryz.f3 [] false w args ∧ laidMetH Tryz.prog lawLaid w) ∧ sizedMet enc Tryz.prog Tryz.f3 (OpenSpec.ofChange Rows.parsesSpec) false w args)
  (Rows.parsesSpec.post enc Tryz.prog Tryz.f3 false true false false) := by
 refine returnsInHanded_of_change_and (C := Tryz.checked) (X := fun w _ => laidMetH Tryz.prog lawLaid w) (fun _ _ _ hh h => h.of_heap hh) law_own started (by kernel_rfl) Tryz.func3
  (ChangeSpec.witness_at (enc := enc) (C := Tryz.checked) (os := os) (X := fun w _ => laidMetH Tryz.prog lawLaid w) false ({ World.holding Tryz.prog os ⟨#[], #[], []⟩ with heap := parHeap (World.holding Tryz.prog os ⟨#[], #[], []⟩).heap } : World) #[.string ByteArray.empty, .string ByteArray.empty, .string ByteArray.empty, .int .i64 0, .int .i64 0] 8 rfl (by kernel_rfl) (by kernel_rfl) (by kernel_rfl) (by kernel_rfl) (by kernel_rfl) (laidWorld_met os _)) ?_
 intro W base args ds gs before hval0 hW _ _ hL _
 have hval : ∀ (j : Nat) t v, Tryz.f3.params[j]? = some t → args[j]? = some v → Value.okWide Tryz.prog W .any base t v := hval0
 have hW' := hW
 obtain ⟨p, q, hA0, hV, rfl, hfz, hnd⟩ := hW
 have hA : DataW.TrodAll enc Tryz.prog W 0 (fun _ => true) true Tryz.f3.params.toList args.toList ds p := hA0
 rw [Tryz.params3] at hA hval
 obtain ⟨v0, v1, v2, v3, v4, d0, d1, d2, d3, d4, p0, p1, p2, p3, p4, rfl, rfl, rfl, h0, h1, h2, h3, h4⟩ := trodAll_five hA
 obtain ⟨rfl, rfl⟩ := trodVars_none hV
 obtain ⟨s, rfl, rfl, rfl, hs⟩ := ChangeMaps.open_string Tryz.underlying9 (hval 0 9 v0 rfl rfl) h0
 obtain ⟨t, rfl, rfl, rfl, ht⟩ := ChangeMaps.open_string Tryz.underlying9 (hval 1 9 v1 rfl rfl) h1
 obtain ⟨u, rfl, rfl, rfl, hu⟩ := ChangeMaps.open_string Tryz.underlying9 (hval 2 9 v2 rfl rfl) h2
 obtain ⟨n, rfl, rfl, rfl, hn⟩ := open_int Tryz.underlying3 (hval 3 3 v3 rfl rfl) h3
 obtain ⟨m, rfl, rfl, rfl, hm⟩ := open_int Tryz.underlying3 (hval 4 3 v4 rfl rfl) h4
 have hS := shp_of hL
 have hP := pow_of hL
 clear hA0 hval0
 refine (parses_calls s t u hs ht hu n m W hS hP).mono fun e W' ⟨he, hb⟩ => ?_
 subst he
 have e1 : Rows.parsesSpec.fn H ([.lit (.string s.data.toList), .lit (.string t.data.toList), .lit (.string u.data.toList), .lit (.int .i64 n), .lit (.int .i64 m)] ++ []) = { results := [.lit (.bool true)], args := [.lit (.string s.data.toList), .lit (.string t.data.toList), .lit (.string u.data.toList), .lit (.int .i64 n), .lit (.int .i64 m)] } := by simp [Rows.parsesSpec]
 refine ⟨_, rfl, _, _, _, [], [], [], hW', ?_, ?_, ?_, hb.frame _, fun h => by cases h⟩
 · rw [e1]; exact trodAll_mk1 (shut_bool Tryz.underlying4 true)
 · rw [e1]; exact trodAll_mk5 (ChangeMaps.shut_string Tryz.underlying9 hs) (ChangeMaps.shut_string Tryz.underlying9 ht) (ChangeMaps.shut_string Tryz.underlying9 hu) (shut_int Tryz.underlying3 hn) (shut_int Tryz.underlying3 hm)
 · rw [e1]; rfl
theorem parses_said : Rows.ParsesSaid :=
 OpenClaim.holds_of_wide 3 Tryz.f3 rfl rfl rfl rfl rfl rfl rfl ⟨rfl, rfl, rfl, rfl, rfl⟩ rfl rfl rfl rfl rfl (by kernel_rfl) Tryz.func3 (by kernel_rfl)
  (of_decide_eq_true (by kernel_rfl)) (by unfold Func.isWrapper; first | (rw [if_pos (by decide +kernel)]; kernel_rfl) | (rw [if_neg (by decide +kernel)]; exact ⟨rfl, rfl⟩))
  (fun os started H enc _ => law_lifted os started H enc)
theorem parses_holds : Rows.ParsesCardSaid :=
 Claim7.holds_tied_plain_at .later [] [.data, .data, .data, .data] true (true, "6a1fd465f3fb11445f3add34bf3257ad4baedfe3326c66bb6f54bb55eadbdcba") true
  parses_said (fun _ h => by cases h) (by kernel_rfl) (fun _ h => by cases h) parses_row_tie rfl ⟨rfl, rfl⟩ (by kernel_rfl) rfl
  (fun f fn hf hfn => by
    obtain rfl : f = 3 := Option.some.inj ((show Tryz.prog.funcNamed Rows.parsesRow.func = some 3 by kernel_rfl).symm.trans hf) |>.symm
    obtain rfl : fn = Tryz.f3 := (Option.some.inj (Tryz.func3.symm.trans hfn)).symm
    exact ⟨by kernel_rfl, fun j t ht => by
     rw [Tryz.params3] at ht
     have h9 : t = 9 ∨ t = 3 := by
      rcases j with _ | _ | _ | _ | _ | j
      · exact Or.inl (by simpa using ht.symm)
      · exact Or.inl (by simpa using ht.symm)
      · exact Or.inl (by simpa using ht.symm)
      · exact Or.inr (by simpa using ht.symm)
      · exact Or.inr (by simpa using ht.symm)
      · simp at ht
     rcases h9 with rfl | rfl
     · exact (show Tryz.prog.wantsStandIn 9 = false by kernel_rfl)
     · exact (show Tryz.prog.wantsStandIn 3 = false by kernel_rfl)⟩)
  (by kernel_rfl)
#print axioms parses_holds
end Go.Proofs.YtmlkhhhjdpbhfaaGreatDoor

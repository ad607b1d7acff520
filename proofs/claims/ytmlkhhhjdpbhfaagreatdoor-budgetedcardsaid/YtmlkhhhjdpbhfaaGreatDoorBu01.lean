import Derived.Test.YtmlkhhhjdpbhfaaGreatDoorPa37
import Derived.Test.YtmlkhhhjdpbhfaaGreatDoorRows
import Derived.ProofKit
import Derived.MakeChecks
import Derived.LaidHandle
import Derived.LaidLaws
import Derived.OpenShut
import Derived.Stop.Joined
import Derived.Stop.LaidErr
import Derived.Carry
import Derived.Test.YtmlkhhhjdpbhfaaGreatDoorPa01
import Derived.Test.YtmlkhhhjdpbhfaaGreatDoorPa03
import Derived.Test.YtmlkhhhjdpbhfaaGreatDoorPa22
import Derived.Deep.QuietTactic
namespace Go.Proofs.YtmlkhhhjdpbhfaaGreatDoor
open Go.ChangeShapes Go.WideShapes Go.ChangeAt Go.WideMaps Go.WideElems Go.RowKit
theorem law_own : ownKnob Tryz.prog.godebug = none := by kernel_rfl
theorem law_g : Tryz.prog.globalNamed (Rows.parsesRow.named.getD 0 "") = some 0 := by kernel_rfl
theorem law_t : (Tryz.prog.globals[0]?).map (·.type) = some 253 := by kernel_rfl
theorem law_c : Tryz.prog.cellsOf 252 = 6 := by kernel_rfl
theorem law_c15 : Tryz.prog.cellsOf 253 = 90 := by kernel_rfl
theorem law_ci : Tryz.prog.cellsOf 3 = 1 := by kernel_rfl
theorem law_cu : Tryz.prog.cellsOf 5 = 1 := by kernel_rfl
theorem law_cb : Tryz.prog.cellsOf 4 = 1 := by kernel_rfl
def shD {H : Type} (x : Sh) : DataW H := .agg [.lit (.int .u8 x.a), .lit (.int .u8 x.b), .lit (.bool x.w), .lit (.bool x.d), .lit (.bool x.v), .lit (.int .i64 x.n)]
theorem laid_is {H : Type} : (Rows.laid_press_syntax_shapes : DataW H) = .agg (shapesL.map shD) := rfl
theorem chunk (rows : List Sh) : ∀ cs : List Value, cs.length = rows.length * 6 → (∀ i (h : i < rows.length), (cs.drop (i * 6)).take 6 = rows[i].row.toList) → cs = rows.flatMap fun x => x.row.toList := by
 induction rows with
 | nil => intro cs h _; simp at h; simpa using h
 | cons x t ih =>
  intro cs h hr
  have h0 := hr 0 (by simp)
  simp only [Nat.zero_mul, List.drop_zero, List.getElem_cons_zero] at h0
  have h1 := ih (cs.drop 6) (by simp at h ⊢; omega) (fun i hi => by
   have := hr (i + 1) (by simp; omega)
   simp only [List.getElem_cons_succ] at this
   rw [List.drop_drop, show 6 + i * 6 = (i + 1) * 6 by omega]
   exact this)
  rw [List.flatMap_cons, ← h0, ← h1, List.take_append_drop]
set_option maxRecDepth 100000 in
theorem row_of {H : Type} {enc : TypeId × Value → H} {w : World} {base : Nat} {sp : Nat → Bool} {held : Bool} {fuel : Nat} {cs : List Value} {x : DataW H × List MemPlace} (r : Sh)
 (h : DataW.trod enc Tryz.prog w base sp held fuel 252 cs = some x) (hx : x.1 = shD r) : cs = r.row.toList := by
 obtain ⟨xs, n, _, rfl, hl, hlen, hf⟩ := DataW.trod_struct Tryz.underlying252 h
 rw [law_c] at hl
 simp only [List.size_toArray, List.length_cons, List.length_nil] at hlen
 match xs, hlen, cs, hl with
 | [x0, x1, x2, x3, x4, x5], _, [c0, c1, c2, c3, c4, c5], _ =>
  have f0 : DataW.trod enc Tryz.prog w base sp held n 5 (([c0, c1, c2, c3, c4, c5].drop 0).take (Tryz.prog.cellsOf 5)) = some x0 := hf 0 _ rfl
  rw [law_cu] at f0
  change DataW.trod enc Tryz.prog w base sp held n 5 [c0] = some x0 at f0
  have f1 : DataW.trod enc Tryz.prog w base sp held n 5 (([c0, c1, c2, c3, c4, c5].drop 1).take (Tryz.prog.cellsOf 5)) = some x1 := hf 1 _ rfl
  rw [law_cu] at f1
  change DataW.trod enc Tryz.prog w base sp held n 5 [c1] = some x1 at f1
  have f2 : DataW.trod enc Tryz.prog w base sp held n 4 (([c0, c1, c2, c3, c4, c5].drop 2).take (Tryz.prog.cellsOf 4)) = some x2 := hf 2 _ rfl
  rw [law_cb] at f2
  change DataW.trod enc Tryz.prog w base sp held n 4 [c2] = some x2 at f2
  have f3 : DataW.trod enc Tryz.prog w base sp held n 4 (([c0, c1, c2, c3, c4, c5].drop 3).take (Tryz.prog.cellsOf 4)) = some x3 := hf 3 _ rfl
  rw [law_cb] at f3
  change DataW.trod enc Tryz.prog w base sp held n 4 [c3] = some x3 at f3
  have f4 : DataW.trod enc Tryz.prog w base sp held n 4 (([c0, c1, c2, c3, c4, c5].drop 4).take (Tryz.prog.cellsOf 4)) = some x4 := hf 4 _ rfl
  rw [law_cb] at f4
  change DataW.trod enc Tryz.prog w base sp held n 4 [c4] = some x4 at f4
  have f5 : DataW.trod enc Tryz.prog w base sp held n 3 (([c0, c1, c2, c3, c4, c5].drop 5).take (Tryz.prog.cellsOf 3)) = some x5 := hf 5 _ rfl
  rw [law_ci] at f5
  change DataW.trod enc Tryz.prog w base sp held n 3 [c5] = some x5 at f5
  obtain ⟨n0, a0, b0, _⟩ := DataW.trod_int Tryz.underlying5 f0
  obtain ⟨n1, a1, b1, _⟩ := DataW.trod_int Tryz.underlying5 f1
  obtain ⟨n2, a2, b2⟩ := DataW.trod_bool Tryz.underlying4 f2
  obtain ⟨n3, a3, b3⟩ := DataW.trod_bool Tryz.underlying4 f3
  obtain ⟨n4, a4, b4⟩ := DataW.trod_bool Tryz.underlying4 f4
  obtain ⟨n5, a5, b5, _⟩ := DataW.trod_int Tryz.underlying3 f5
  subst b0 b1 b2 b3 b4 b5
  simp only [List.cons.injEq, and_true] at a0 a1 a2 a3 a4 a5
  subst a0 a1 a2 a3 a4 a5
  simp only [shD, List.map_cons, List.map_nil, DataW.agg.injEq, List.cons.injEq, DataW.lit.injEq, Lit.int.injEq, Lit.bool.injEq, true_and, and_true] at hx
  obtain ⟨e0, e1, e2, e3, e4, e5⟩ := hx
  simp only [Sh.row, e0, e1, e2, e3, e4, e5]
theorem shp_of {W : World} (h0 : laidMetH Tryz.prog Rows.parsesRow.laid W) : Shp W := by
 rw [MakeChecks.laidMetH_plain _ _ _ (by kernel_rfl)] at h0
 have h : laidMet Tryz.prog [(Rows.parsesRow.named.getD 0 "", Rows.laid_press_syntax_shapes)] W := h0.tail.tail.tail
 obtain ⟨ps, ⟨g0, t0, cs0, f0, p0, q0, hg0, ht0, hv0, hd0, _, _⟩, _, _⟩ := h
 obtain rfl := Option.some.inj (law_g.symm.trans hg0)
 obtain rfl := Option.some.inj (law_t.symm.trans ht0)
 obtain ⟨xs, m1, rfl, hx1, hlen, hn, hel⟩ := DataW.trod_array Tryz.underlying253 hd0
 rw [law_c15] at hlen
 rw [laid_is] at hx1
 simp only [Prod.mk.injEq, DataW.agg.injEq] at hx1
 have hsl : shapesL.length = 15 := rfl
 have hcs : cs0.toList = shpL := by
  refine chunk shapesL cs0.toList (by rw [hlen, hsl]) fun i hi => ?_
  have hi' : i < 15 := by omega
  have h1 := hel i hi'
  rw [law_c, List.getElem?_eq_getElem (by omega)] at h1
  refine row_of _ h1 ?_
  have h2 : (xs.map (·.1))[i]? = (shapesL.map shD)[i]? := by rw [hx1.1]
  rw [List.getElem?_map, List.getElem?_map, List.getElem?_eq_getElem (by omega), List.getElem?_eq_getElem hi] at h2
  simpa using h2
 have hc := World.var?_cell hg0 hv0
 refine ⟨fun j v hv => ?_, ?_⟩
 · rw [Nat.zero_add, hc j, ← Array.getElem?_toList, hcs]; exact hv
 · have h0 := hc 0
   rw [← Array.getElem?_toList, hcs] at h0
   by_cases hz : 0 < W.heap.size
   · exact hz
   · have hn : W.cell? ⟨0, 0, none⟩ = none := by
      unfold World.cell?
      rw [Array.getElem?_eq_none (by simp only; omega)]
     rw [hn] at h0
     exact absurd h0 (by simp [shpL, shapesL, Sh.row])
theorem pow_of {W : World} (h0 : laidMetH Tryz.prog Rows.parsesRow.laid W) : PowW W := by
 rw [MakeChecks.laidMetH_plain _ _ _ (by kernel_rfl)] at h0
 have h := h0.tail.tail
 refine Lib.tabIs_of_head (rest := [(Rows.parsesRow.named.getD 0 "", Rows.laid_press_syntax_shapes)]) (g := 1) (t := 291) (e := 222) (n := 20) (by kernel_rfl) (by kernel_rfl) Tryz.underlying291 Tryz.underlying222 (by kernel_rfl) (by kernel_rfl) ?_
 exact h
def lawLaid : List (String × DataW Unit) := Rows.parsesRow.laid
def layT (cs : List Value) : Obj → Obj
 | .cells _ t frozen => .cells cs.toArray t frozen
 | o => o
def litC : DataW Unit → List Value
 | .lit (.int k n) => [.int k n]
 | _ => []
def tabC : DataW Unit → List Value
 | .agg l => l.flatMap litC
 | _ => []
def parHeap (h : Array Obj) : Array Obj := (((h.modify 0 (layT shpL)).modify 1 (layT (tabC Rows.laid_internal_strconv_uint64pow10))).modify 2 (layT (tabC Rows.laid_math_bits_deBruijn32tab))).modify 3 (layT (tabC Rows.laid_math_bits_deBruijn64tab))
theorem laidWorld_met (os : Os) (args : Array Value) : laidMetH Tryz.prog lawLaid (({ World.holding Tryz.prog os ⟨#[], #[], []⟩ with heap := parHeap (World.holding Tryz.prog os ⟨#[], #[], []⟩).heap } : World).forCall (fun _ _ => 0) ⟨#[], args, []⟩).memory := by
 rw [MakeChecks.laidMetH_plain _ _ _ (by kernel_rfl)]
 exact laidMet_of_run' 8 (by kernel_rfl) (by kernel_rfl)
end Go.Proofs.YtmlkhhhjdpbhfaaGreatDoor
namespace Go.Proofs.YtmlkhhhjdpbhfaaGreatDoor
open Go.RowKit
theorem bt_app (a b : ByteArray) (i : Nat) : bt (a ++ b) i = if i < a.size then bt a i else bt b (i - a.size) := by
 by_cases h : i < a.size
 · rw [if_pos h, bt_in _ _ (by rw [ByteArray.size_append]; omega), bt_in _ _ h]
   congr 2
   exact ByteArray.getElem_append_left h
 · rw [if_neg h]
   by_cases h2 : i - a.size < b.size
   · rw [bt_in _ _ (by rw [ByteArray.size_append]; omega), bt_in _ _ h2]
     congr 2
     exact ByteArray.getElem_append_right (by omega)
   · rw [bt_out _ _ (by rw [ByteArray.size_append]; omega), bt_out _ _ h2]
def TxA (s : ByteArray) (a : Nat) (p : ByteArray) : Prop := ∀ i, i < p.size → bt s (a + i) = bt p i
theorem TxA.refl (s : ByteArray) : TxA s 0 s := fun i _ => by rw [Nat.zero_add]
theorem TxA.fst {s p q : ByteArray} {a : Nat} (h : TxA s a (p ++ q)) : TxA s a p := fun i hi => by
 rw [h i (by rw [ByteArray.size_append]; omega), bt_app, if_pos hi]
theorem TxA.snd {s p q : ByteArray} {a : Nat} (h : TxA s a (p ++ q)) : TxA s (a + p.size) q := fun i hi => by
 have := h (p.size + i) (by rw [ByteArray.size_append]; omega)
 rw [bt_app, if_neg (by omega)] at this
 rw [Nat.add_assoc, this]; congr 1; omega
theorem TxA.at0 {s p : ByteArray} {a : Nat} (h : TxA s a p) (hp : 0 < p.size) : bt s a = bt p 0 := h 0 hp
structure GI (L : Nat) (its : List It) : Prop where
 seg : SegOk its
 len : its.length ≤ L
 refs : ∀ x, x ∈ its → x.c = 82 → x.r = 1 ∨ x.r = 2
def PtX (Wk : List It → Prop) (p : ByteArray) : Prop :=
 bt p 0 ≠ 41 ∧ 0 < p.size ∧ ∀ s rule a f, TxA s a p → p.size ≤ f → ∃ its, prs s rule f a = ⟨true, a + p.size, its⟩ ∧ GI p.size its ∧ Wk its
def Clo (its : List It) : Prop := ∀ F own ar q, its.length ≤ F → walkV F own ar its q = q
def PtC (p : ByteArray) : Prop := PtX Clo p
def Sc2 (u h : Nat) (sc : Sc) : Prop := (∀ k, sc.hid k = none ↔ h ≤ k) ∧ ∀ k, sc.us k = decide (k < u)
def Uses (u n : Nat) (its : List It) : Prop := ∀ F own sc st, its.length ≤ F → Sc2 u n sc → ∃ sc', walkV F own true its (sc, st) = (sc', st) ∧ Sc2 n n sc'
def UseC (u n : Nat) (p : ByteArray) : Prop := PtX (Uses u n) p
def Kids (s : ByteArray) (rule : Int) (f : Nat) : Nat → List (List It) → Nat → Prop
 | a, [], e => a = e
 | a, k :: ks, e => ∃ i, prs s rule f a = ⟨true, i, k⟩ ∧ bt s a ≠ 41 ∧ a < i ∧ Kids s rule f i ks e
def SeqC (u h u' h' : Nat) (p : ByteArray) : Prop :=
 ∀ s rule a f, TxA s a p → p.size ≤ f → ∃ kids : List (List It), Kids s rule f a kids (a + p.size) ∧ (∀ k, k ∈ kids → SegOk k ∧ ∀ x, x ∈ k → x.c = 82 → x.r = 1 ∨ x.r = 2) ∧ kids.flatten.length ≤ p.size ∧
  ∀ F sc st, (∀ k, k ∈ kids → k.length ≤ F) → Sc2 u h sc → ∃ sc', kids.foldl (fun z k => walkV F true true k z) (sc, st) = (sc', st) ∧ Sc2 u' h' sc'
theorem Kids.app {s : ByteArray} {rule : Int} {f : Nat} (k1 k2 : List (List It)) : ∀ {a b e : Nat}, Kids s rule f a k1 b → Kids s rule f b k2 e → Kids s rule f a (k1 ++ k2) e := by
 induction k1 with
 | nil => intro a b e h1 h2; cases h1; exact h2
 | cons k ks ih => intro a b e h1 h2; obtain ⟨i, a1, a2, a3, a4⟩ := h1; exact ⟨i, a1, a2, a3, ih a4 h2⟩
theorem SeqC.nil (u h : Nat) : SeqC u h u h ⟨#[]⟩ := fun s rule a f _ _ => ⟨[], rfl, fun k hk => by simp at hk, by simp, fun F sc st _ hs => ⟨sc, rfl, hs⟩⟩
theorem SeqC.app {u h u1 h1 u2 h2 : Nat} {p q : ByteArray} (hp : SeqC u h u1 h1 p) (hq : SeqC u1 h1 u2 h2 q) : SeqC u h u2 h2 (p ++ q) := by
 intro s rule a f ha hf
 rw [ByteArray.size_append] at hf
 obtain ⟨k1, a1, a2, a3, a4⟩ := hp s rule a f ha.fst (by omega)
 obtain ⟨k2, b1, b2, b3, b4⟩ := hq s rule (a + p.size) f ha.snd (by omega)
 refine ⟨k1 ++ k2, ?_, fun k hk => ?_, ?_, fun F sc st hF hs => ?_⟩
 · rw [ByteArray.size_append, ← Nat.add_assoc]; exact Kids.app k1 k2 a1 b1
 · rcases List.mem_append.1 hk with h | h
   · exact a2 k h
   · exact b2 k h
 · rw [List.flatten_append, List.length_append, ByteArray.size_append]; omega
 · obtain ⟨sc1, e1, s1⟩ := a4 F sc st (fun k hk => hF k (List.mem_append_left _ hk)) hs
   obtain ⟨sc2, e2, s2⟩ := b4 F sc1 st (fun k hk => hF k (List.mem_append_right _ hk)) s1
   exact ⟨sc2, by rw [List.foldl_append, e1, e2], s2⟩
theorem PtX.seq {Wk : List It → Prop} {p : ByteArray} {u h u' h' : Nat} (hp : PtX Wk p) (hw : ∀ its, Wk its → ∀ F sc st, its.length ≤ F → Sc2 u h sc → ∃ sc', walkV F true true its (sc, st) = (sc', st) ∧ Sc2 u' h' sc') : SeqC u h u' h' p := by
 intro s rule a f ha hf
 obtain ⟨h0, h1, h2⟩ := hp
 obtain ⟨its, e, g, w⟩ := h2 s rule a f ha hf
 refine ⟨[its], ⟨_, e, by rw [ha.at0 h1]; exact h0, by omega, rfl⟩, fun k hk => ?_, by simpa using g.len, fun F sc st hF hs => ?_⟩
 · simp only [List.mem_singleton] at hk; subst hk; exact ⟨g.seg, g.refs⟩
 · obtain ⟨sc', e1, e2⟩ := hw its w F sc st (hF its (by simp)) hs
   exact ⟨sc', by simpa using e1, e2⟩
theorem PtC.seq {p : ByteArray} (hp : PtC p) (u h : Nat) : SeqC u h u h p := PtX.seq hp fun _ w F sc st hF hs => ⟨sc, w F true true (sc, st) hF, hs⟩
theorem UseC.seq {p : ByteArray} {u n : Nat} (hp : UseC u n p) : SeqC u n n n p := PtX.seq hp fun _ w F sc st hF hs => w F true sc st hF hs
theorem prs_leaf (s : ByteArray) (rule : Int) (f a : Nat) (h : Hd) (e : headV s a = h) (hk : h.ok = true) (hi : h.inn = 0) : prs s rule (f + 1) a = ⟨true, h.i, [{ h.it with rl := rule, nx := 1 }]⟩ := by
 rw [prs, e, if_pos hk]
 unfold inner
 rw [if_neg (by omega), hi]
 rfl
theorem prs_one (s : ByteArray) (rule : Int) (f a i : Nat) (its : List It) (h : Hd) (e : headV s a = h) (hk : h.ok = true) (hi : h.inn = 1) (h1 : prs s rule f h.i = ⟨true, i, its⟩) :
 prs s rule (f + 1) a = ⟨true, i, { h.it with rl := rule, nx := 1 + its.length } :: its⟩ := by
 rw [prs, e, if_pos hk]
 unfold inner
 rw [if_neg (by omega), hi]
 simp [loopN, h1, Res.pre]
theorem prs_two (s : ByteArray) (rule : Int) (f a i j : Nat) (its its2 : List It) (h : Hd) (e : headV s a = h) (hk : h.ok = true) (hi : h.inn = 2) (h1 : prs s rule f h.i = ⟨true, i, its⟩) (h2 : prs s rule f i = ⟨true, j, its2⟩) :
 prs s rule (f + 1) a = ⟨true, j, { h.it with rl := rule, nx := 1 + (its ++ its2).length } :: (its ++ its2)⟩ := by
 rw [prs, e, if_pos hk]
 unfold inner
 rw [if_neg (by omega), hi]
 simp [loopN, h1, h2, Res.pre]
theorem loopB_kids (s : ByteArray) (rule : Int) (f : Nat) (kids : List (List It)) : ∀ (c a e : Nat), kids ≠ [] → kids.length ≤ c → Kids s rule f a kids e → bt s e = 41 → loopB (prs s rule f) s c a = ⟨true, e + 1, kids.flatten⟩ := by
 induction kids with
 | nil => intro c a e h; exact absurd rfl h
 | cons k ks ih =>
  intro c a e _ hc hk he
  obtain ⟨i, h1, h2, h3, h4⟩ := hk
  cases c with
  | zero => simp at hc
  | succ c =>
   rw [loopB, h1]
   simp only [if_true]
   cases ks with
   | nil => cases h4; rw [if_pos he]; simp
   | cons k2 ks2 =>
    have h41 : ¬ bt s i = 41 := by obtain ⟨_, _, q, _⟩ := h4; exact q
    rw [if_neg h41, ih c i e (by simp) (by simp at hc ⊢; omega) h4 he]
    simp [Res.pre]
theorem Kids.len {s : ByteArray} {rule : Int} {f : Nat} (kids : List (List It)) : ∀ {a e : Nat}, Kids s rule f a kids e → a + kids.length ≤ e := by
 induction kids with
 | nil => intro a e h; cases h; simp
 | cons k ks ih => intro a e h; obtain ⟨i, _, _, h3, h4⟩ := h; have := ih h4; simp; omega
theorem segs_one {its : List It} (h : SegOk its) : segs its.length its = [its] := by
 have := segs_flat [its] (fun s hs => by simp only [List.mem_singleton] at hs; subst hs; exact h) its.length (by simp)
 simpa using this
theorem segs_two {a b : List It} (h : SegOk a) (h2 : SegOk b) : segs (a ++ b).length (a ++ b) = [a, b] := by
 have := segs_flat [a, b] (fun s hs => by simp only [List.mem_cons, List.not_mem_nil, or_false] at hs; rcases hs with rfl | rfl; exact h; exact h2) (a ++ b).length (by simp)
 simpa using this
theorem walk_leaf (F : Nat) (own ar : Bool) (x : It) (q : Sc × (Int × Bool)) (hc : x.c ≠ 40) (hF : 1 ≤ F) : walkV F own ar [x] q = stepV own ar x q := by
 obtain ⟨G, rfl⟩ : ∃ G, F = G + 1 := ⟨F - 1, by omega⟩
 rw [walkV, if_neg hc]; rfl
theorem walk_one (F : Nat) (own ar : Bool) (x : It) (its : List It) (q : Sc × (Int × Bool)) (hc : x.c ≠ 40) (h : SegOk its) : walkV (F + 1) own ar (x :: its) q = walkV F false (ar && inB [119, 64, 115] x.c) its (stepV own ar x q) := by
 rw [walkV, if_neg hc, segs_one h]; rfl
theorem walk_two (F : Nat) (own ar : Bool) (x : It) (a b : List It) (q : Sc × (Int × Bool)) (hc : x.c ≠ 40) (h : SegOk a) (h2 : SegOk b) :
 walkV (F + 1) own ar (x :: (a ++ b)) q = walkV F false (ar && inB [119, 64, 115] x.c) b (walkV F false (ar && inB [119, 64, 115] x.c) a (stepV own ar x q)) := by
 rw [walkV, if_neg hc, segs_two h h2]; rfl
theorem step_plain (own ar : Bool) (x : It) (q : Sc × (Int × Bool)) (h1 : hidesB x.c = false) (h2 : usesB x.c = false) : stepV own ar x q = q := by unfold stepV; rw [h1, h2]; rfl
theorem segOk_one (x : It) (h : x.nx = 1) : SegOk [x] := ⟨x, [], rfl, by simpa using h⟩
theorem segOk_cons (x : It) (its : List It) (h : x.nx = 1 + its.length) : SegOk (x :: its) := ⟨x, its, rfl, h⟩
theorem partC_leaf (p : ByteArray) (L : Nat) (hL : p.size = L) (hp : 0 < L) (h41 : bt p 0 ≠ 41) (it : Nat → It)
 (hh : ∀ s a, TxA s a p → headV s a = { ok := true, i := a + L, it := it a })
 (hc : ∀ a, (it a).c ≠ 40 ∧ hidesB (it a).c = false ∧ usesB (it a).c = false ∧ ((it a).c = 82 → (it a).r = 1 ∨ (it a).r = 2)) : PtC p := by
 subst hL
 refine ⟨h41, hp, fun s rule a f ha hf => ?_⟩
 obtain ⟨g, rfl⟩ : ∃ g, f = g + 1 := ⟨f - 1, by omega⟩
 obtain ⟨c1, c2, c3, c4⟩ := hc a
 refine ⟨_, prs_leaf s rule g a _ (hh s a ha) rfl rfl, ⟨segOk_one _ rfl, by simp; omega, fun x hx => ?_⟩, fun F own ar q hF => ?_⟩
 · simp only [List.mem_singleton] at hx; subst hx; exact c4
 · exact (walk_leaf F own ar _ q (by exact c1) (by simpa using hF)).trans (step_plain own ar _ q (by exact c2) (by exact c3))
theorem bt_one (c : UInt8) : bt ⟨#[c]⟩ 0 = (c.toNat : Int) := by rw [bt_in _ _ (by simp [ByteArray.size])]; rfl
theorem size_one (c : UInt8) : (⟨#[c]⟩ : ByteArray).size = 1 := rfl
theorem bt_app0 (c : UInt8) (q : ByteArray) : bt (⟨#[c]⟩ ++ q) 0 = (c.toNat : Int) := by rw [bt_app, if_pos (by rw [size_one]; omega), bt_one]
theorem at_one {s q : ByteArray} {a : Nat} {c : UInt8} (h : TxA s a (⟨#[c]⟩ ++ q)) : bt s a = (c.toNat : Int) := by
 rw [← bt_one c]; exact h.fst 0 (by rw [size_one]; omega)
theorem at_two {s q : ByteArray} {a : Nat} {c : UInt8} (h : TxA s a (⟨#[c]⟩ ++ q)) : TxA s (a + 1) q := h.snd
def WdS (p : ByteArray) : Prop := p.size = 1 ∧ 49 ≤ bt p 0 ∧ bt p 0 ≤ 52
def HxS (p : ByteArray) : Prop := p.size = 2 ∧ 0 ≤ hexV (bt p 0) ∧ 0 ≤ hexV (bt p 1)
def DpS (d : Nat) (p : ByteArray) : Prop := p.size = 1 ∧ bt p 0 = 97 + d ∧ d < 8
theorem partC_num (c : UInt8) (hc : c = 110 ∨ c = 108) (wd : ByteArray) (hw : WdS wd) : PtC (⟨#[c]⟩ ++ wd) := by
 obtain ⟨w1, w2, w3⟩ := hw
 refine partC_leaf _ 2 (by rw [ByteArray.size_append, size_one, w1]) (by omega) (by rw [bt_app0]; rcases hc with rfl | rfl <;> decide) (fun a => { c := (c.toNat : Int), w := bt wd 0 - 48, pl := a }) (fun s a h => ?_) (fun a => by rcases hc with rfl | rfl <;> simp [hidesB, usesB, inB])
 have h0 := at_one h
 have h1 : bt s (a + 1) = bt wd 0 := (at_two h).at0 (by omega)
 rcases hc with rfl | rfl
 · have h0 : bt s a = 110 := h0
   simp [headV, depHd, h0, h1, kAny, kW, kD, kIn, inB, w2, w3]
 · have h0 : bt s a = 108 := h0
   simp [headV, depHd, h0, h1, kAny, kW, kD, kIn, inB, w2, w3]
theorem partC_fix (hx : ByteArray) (hw : HxS hx) : PtC (⟨#[39]⟩ ++ hx) := by
 obtain ⟨w1, w2, w3⟩ := hw
 refine partC_leaf _ 3 (by rw [ByteArray.size_append, size_one, w1]) (by omega) (by rw [bt_app0]; decide) (fun a => { c := 39, b := 16 * hexV (bt hx 0) + hexV (bt hx 1), pl := a }) (fun s a h => ?_) (fun a => by simp [hidesB, usesB, inB])
 have h0 : bt s a = 39 := at_one h
 have h1 : bt s (a + 1) = bt hx 0 := (at_two h).at0 (by omega)
 have h2 : bt s (a + 2) = bt hx 1 := at_two h 1 (by omega)
 have k0 : ¬ hexV (bt hx 0) < 0 := by omega
 have k1 : ¬ hexV (bt hx 1) < 0 := by omega
 simp only [headV, h0, h1, h2, k0, k1, if_true, if_false]
 simp
theorem partC_rest : PtC ⟨#[46]⟩ := by
 refine partC_leaf _ 1 (size_one _) (by omega) (by rw [bt_one]; decide) (fun a => { c := 46, pl := a }) (fun s a h => ?_) (fun a => by simp [hidesB, usesB, inB])
 have h0 : bt s a = 46 := by rw [h.at0 (by rw [size_one]; omega), bt_one]; rfl
 simp [headV, depHd, h0, kAny, kW, kD, kIn, inB]
theorem partC_rule (c : UInt8) (hc : c = 66 ∨ c = 67) : PtC ⟨#[c]⟩ := by
 refine partC_leaf _ 1 (size_one _) (by omega) (by rw [bt_one]; rcases hc with rfl | rfl <;> decide) (fun a => { c := 82, r := (c.toNat : Int) - 65, pl := a }) (fun s a h => ?_) (fun a => ?_)
 · have h0 : bt s a = (c.toNat : Int) := by rw [h.at0 (by rw [size_one]; omega), bt_one]
   rcases hc with rfl | rfl
   · have h0 : bt s a = 66 := h0
     simp [headV, h0]
   · have h0 : bt s a = 67 := h0
     simp [headV, h0]
 · rcases hc with rfl | rfl <;> simp [hidesB, usesB, inB]
theorem gi_cons {L L' : Nat} {x : It} {its : List It} (g : GI L its) (hx : x.nx = 1 + its.length) (hL : L + 1 ≤ L') (hc : x.c ≠ 82) : GI L' (x :: its) :=
 ⟨segOk_cons _ _ hx, by have := g.len; simp; omega, fun y hy => by
  rcases List.mem_cons.1 hy with rfl | h
  · exact fun e => absurd e hc
  · exact g.refs y h⟩
theorem partC_many (p : ByteArray) (hp : PtC p) : PtC (⟨#[42]⟩ ++ p) := by
 obtain ⟨p1, p2, p3⟩ := hp
 refine ⟨by rw [bt_app0]; decide, by rw [ByteArray.size_append]; omega, fun s rule a f ha hf => ?_⟩
 rw [ByteArray.size_append, size_one] at hf ⊢
 obtain ⟨g, rfl⟩ : ∃ g, f = g + 1 := ⟨f - 1, by omega⟩
 obtain ⟨its, e, gi, w⟩ := p3 s rule (a + 1) g (at_two ha) (by omega)
 have h0 : bt s a = 42 := at_one ha
 have hh : headV s a = { ok := true, i := a + 1, inn := 1, it := { c := 42, pl := a } } := by simp [headV, depHd, h0, kAny, kW, kD, kIn, inB]
 refine ⟨_, prs_one s rule g a _ its _ hh rfl rfl (by rw [e]; congr 1; omega), gi_cons gi rfl (by omega) (by simp), fun F own ar q hF => ?_⟩
 obtain ⟨G, rfl⟩ : ∃ G, F = G + 1 := ⟨F - 1, by simp at hF; omega⟩
 rw [walk_one G own ar _ its q (by simp) gi.seg, w _ _ _ _ (by simpa using hF), step_plain _ _ _ _ (by rfl) (by rfl)]
theorem partC_choice (p q : ByteArray) (hp : PtC p) (hq : PtC q) : PtC (⟨#[47]⟩ ++ p ++ q) := by
 obtain ⟨p1, p2, p3⟩ := hp
 obtain ⟨q1, q2, q3⟩ := hq
 refine ⟨by rw [bt_app, if_pos (by rw [ByteArray.size_append, size_one]; omega), bt_app0]; decide, by rw [ByteArray.size_append]; omega, fun s rule a f ha hf => ?_⟩
 rw [ByteArray.size_append, ByteArray.size_append, size_one] at hf ⊢
 obtain ⟨g, rfl⟩ : ∃ g, f = g + 1 := ⟨f - 1, by omega⟩
 obtain ⟨its, e, gi, w⟩ := p3 s rule (a + 1) g (at_two ha.fst) (by omega)
 have ha2 := ha.snd
 rw [ByteArray.size_append, size_one] at ha2
 obtain ⟨its2, e2, gi2, w2⟩ := q3 s rule (a + (1 + p.size)) g ha2 (by omega)
 have h0 : bt s a = 47 := at_one ha.fst
 have hh : headV s a = { ok := true, i := a + 1, inn := 2, it := { c := 47, pl := a } } := by simp [headV, depHd, h0, kAny, kW, kD, kIn, inB]
 refine ⟨_, prs_two s rule g a _ _ its its2 _ hh rfl rfl e (by rw [show a + 1 + p.size = a + (1 + p.size) by omega, e2]; congr 1; omega), ⟨segOk_cons _ _ rfl, ?_, fun x hx => ?_⟩, fun F own ar q hF => ?_⟩
 · have := gi.len; have := gi2.len; simp; omega
 · rcases List.mem_cons.1 hx with rfl | h
   · intro e; simp at e
   · rcases List.mem_append.1 h with h | h
     · exact gi.refs x h
     · exact gi2.refs x h
 · obtain ⟨G, rfl⟩ : ∃ G, F = G + 1 := ⟨F - 1, by simp at hF; omega⟩
   rw [walk_two G own ar _ its its2 q (by simp) gi.seg gi2.seg, step_plain _ _ _ _ (by rfl) (by rfl), w _ _ _ _ (by simp at hF; omega), w2 _ _ _ _ (by simp at hF; omega)]
theorem endV_all (d : Nat) (sc : Sc) (st : Int × Bool) (h : Sc2 d d sc) : endV sc st = st := by
 have hs : ∀ k, endStep sc st k = st := fun k => by
  unfold endStep
  cases hk : sc.hid k with
  | none => rfl
  | some pl =>
   have h1 : ¬ d ≤ k := fun e => by have := (h.1 k).2 e; rw [hk] at this; cases this
   simp only
   rw [h.2 k, if_pos (by simp; omega)]
 unfold endV
 induction (List.range 8) with
 | nil => rfl
 | cons x l ih => rw [List.foldl_cons, hs, ih]
theorem sc2_zero : Sc2 0 0 Sc0 := ⟨fun k => by simp [Sc0], fun k => by simp [Sc0]⟩
theorem partC_struct (p : ByteArray) (d : Nat) (hp : SeqC 0 0 d d p) (h0 : 0 < p.size) : PtC (⟨#[40]⟩ ++ p ++ ⟨#[41]⟩) := by
 refine ⟨by rw [bt_app, if_pos (by rw [ByteArray.size_append, size_one]; omega), bt_app0]; decide, by rw [ByteArray.size_append]; have := size_one 41; omega, fun s rule a f ha hf => ?_⟩
 rw [ByteArray.size_append, ByteArray.size_append, size_one, size_one] at hf ⊢
 obtain ⟨g, rfl⟩ : ∃ g, f = g + 1 := ⟨f - 1, by omega⟩
 obtain ⟨kids, k1, k2, k3, k4⟩ := hp s rule (a + 1) g (at_two ha.fst) (by omega)
 have ha2 := ha.snd
 rw [ByteArray.size_append, size_one] at ha2
 have he : bt s (a + 1 + p.size) = 41 := by rw [show a + 1 + p.size = a + (1 + p.size) by omega, ha2.at0 (by rw [size_one]; omega), bt_one]; rfl
 have hc : bt s a = 40 := at_one ha.fst
 have hh : headV s a = { ok := true, i := a + 1, inn := -1, it := { c := 40, pl := a } } := by simp [headV, depHd, hc, kAny, kW, kD, kIn, inB]
 have hne : kids ≠ [] := by intro e; subst e; simp only [Kids] at k1; omega
 have hlen := Kids.len kids k1
 have hseg : segs kids.flatten.length kids.flatten = kids := segs_flat kids (fun s hs => (k2 s hs).1) _ (Nat.le_refl _)
 refine ⟨{ c := 40, pl := (a : Int), rl := rule, nx := 1 + kids.flatten.length } :: kids.flatten, ?_, ⟨segOk_cons _ _ rfl, by rw [List.length_cons]; omega, fun x hx => ?_⟩, fun F own ar q hF => ?_⟩
 · rw [prs, hh, if_pos rfl]
   unfold inner
   rw [if_pos (show (-1 : Int) < 0 by decide), loopB_kids s rule g kids g (a + 1) (a + 1 + p.size) hne (by omega) k1 he]
   simp only
   congr 1
   omega
 · rcases List.mem_cons.1 hx with rfl | h
   · intro e; simp at e
   · obtain ⟨k, hk, hx⟩ := List.mem_flatten.1 h
     exact (k2 k hk).2 x hx
 · obtain ⟨G, rfl⟩ : ∃ G, F = G + 1 := ⟨F - 1, by simp at hF; omega⟩
   obtain ⟨sc', e1, e2⟩ := k4 G Sc0 q.2 (fun k hk => by
    have := List.Sublist.length_le (List.sublist_flatten_of_mem hk)
    simp at hF; simp at this; omega) sc2_zero
   rw [walkV, if_pos rfl, hseg, e1]
   simp only
   rw [endV_all d sc' q.2 e2]
theorem use_step (d n : Nat) (hd : d < n) (x : It) (own : Bool) (sc : Sc) (st : Int × Bool) (hs : Sc2 d n sc) (h1 : hidesB x.c = false) (h2 : usesB x.c = true) (hx : x.d.toNat = d) :
 ∃ sc', stepV own true x (sc, st) = (sc', st) ∧ Sc2 (d + 1) n sc' := by
 have hn : sc.hid d ≠ none := fun e => by have := (hs.1 d).1 e; omega
 have hu : sc.us d = false := by rw [hs.2]; simp
 refine ⟨⟨sc.hid, fun k => if k = d then true else sc.us k⟩, ?_, hs.1, fun k => ?_⟩
 · unfold stepV useV
   rw [h1, h2]
   simp only [Bool.false_eq_true, if_false, if_true, hx, hu]
   rw [if_pos]
   cases h : sc.hid d with
   | none => exact absurd h hn
   | some v => rfl
 · simp only [hs.2]
   by_cases e : k = d
   · simp [e]
   · simp only [if_neg e]; congr 1; exact propext ⟨fun h => by omega, fun h => by omega⟩
theorem headC (c : UInt8) (hc : c = 104 ∨ c = 107) (wd dp : ByteArray) (d : Nat) (hw : WdS wd) (hd : DpS d dp) (u : Nat) : SeqC u d u (d + 1) (⟨#[c]⟩ ++ wd ++ dp) := by
 obtain ⟨w1, w2, w3⟩ := hw
 obtain ⟨d1, d2, d3⟩ := hd
 have hp : PtX (fun its => ∀ F sc st, its.length ≤ F → Sc2 u d sc → ∃ sc', walkV F true true its (sc, st) = (sc', st) ∧ Sc2 u (d + 1) sc') (⟨#[c]⟩ ++ wd ++ dp) := by
  refine ⟨by rw [bt_app, if_pos (by rw [ByteArray.size_append, size_one]; omega), bt_app0]; rcases hc with rfl | rfl <;> decide, by rw [ByteArray.size_append]; omega, fun s rule a f ha hf => ?_⟩
  rw [ByteArray.size_append, ByteArray.size_append, size_one, w1, d1] at hf ⊢
  obtain ⟨g, rfl⟩ : ∃ g, f = g + 1 := ⟨f - 1, by omega⟩
  have h1 : bt s (a + 1) = bt wd 0 := (at_two ha.fst).at0 (by omega)
  have ha2 := ha.snd
  rw [ByteArray.size_append, size_one, w1] at ha2
  have h2 : bt s (a + 2) = 97 + d := by rw [← d2]; exact ha2.at0 (by omega)
  have g1 : (97 : Int) ≤ 97 + d := by omega
  have g2 : (97 : Int) + d ≤ 104 := by omega
  have hh : headV s a = { ok := true, i := a + 3, it := { c := (c.toNat : Int), w := bt wd 0 - 48, d := d, pl := ((a + 2 : Nat) : Int) } } := by
   have h0 := at_one ha.fst
   rcases hc with rfl | rfl
   · have h0 : bt s a = 104 := h0
     simp [headV, depHd, h0, h1, h2, kAny, kW, kD, kIn, inB, w2, w3, g1, g2]; omega
   · have h0 : bt s a = 107 := h0
     simp [headV, depHd, h0, h1, h2, kAny, kW, kD, kIn, inB, w2, w3, g1, g2]; omega
  refine ⟨_, prs_leaf s rule g a _ hh rfl rfl, ⟨segOk_one _ rfl, by simp, fun x hx => ?_⟩, fun F sc st hF hs => ?_⟩
  · simp only [List.mem_singleton] at hx; subst hx
    rcases hc with rfl | rfl <;> (intro e; simp at e)
  · have hn : sc.hid d = none := (hs.1 d).2 (Nat.le_refl _)
    refine ⟨⟨fun k => if k = d then some ((a + 2 : Nat) : Int) else sc.hid k, sc.us⟩, ?_, fun k => ?_, hs.2⟩
    · rw [walk_leaf F true true _ _ (by rcases hc with rfl | rfl <;> simp) (by simpa using hF)]
      unfold stepV hideV
      have hb : hidesB (c.toNat : Int) = true := by rcases hc with rfl | rfl <;> rfl
      simp [hb, hn]
    · simp only
      by_cases e : k = d
      · simp [e]
      · rw [if_neg e, hs.1 k]; omega
 exact PtX.seq hp fun _ w F sc st hF hs => w F sc st hF hs
theorem useC_run (dp : ByteArray) (d : Nat) (hd : DpS d dp) : UseC d (d + 1) (⟨#[114]⟩ ++ dp) := by
 obtain ⟨d1, d2, d3⟩ := hd
 refine ⟨by rw [bt_app0]; decide, by rw [ByteArray.size_append]; omega, fun s rule a f ha hf => ?_⟩
 rw [ByteArray.size_append, size_one, d1] at hf ⊢
 obtain ⟨g, rfl⟩ : ∃ g, f = g + 1 := ⟨f - 1, by omega⟩
 have h0 : bt s a = 114 := at_one ha
 have h2 : bt s (a + 1) = 97 + d := by rw [← d2]; exact (at_two ha).at0 (by omega)
 have g1 : (97 : Int) ≤ 97 + d := by omega
 have g2 : (97 : Int) + d ≤ 104 := by omega
 have hh : headV s a = { ok := true, i := a + 2, it := { c := 114, d := d, pl := ((a + 1 : Nat) : Int) } } := by
  simp [headV, depHd, h0, h2, kAny, kW, kD, kIn, inB, g1, g2]; omega
 refine ⟨_, prs_leaf s rule g a _ hh rfl rfl, ⟨segOk_one _ rfl, by simp, fun x hx => ?_⟩, fun F own sc st hF hs => ?_⟩
 · simp only [List.mem_singleton] at hx; subst hx; intro e; simp at e
 · rw [walk_leaf F own true _ _ (by simp) (by simpa using hF)]
   exact use_step d (d + 1) (by omega) _ own sc st hs (by rfl) (by rfl) (by simp)
theorem useC_on (c : UInt8) (hc : c = 116 ∨ c = 119 ∨ c = 64 ∨ c = 115) (dp p : ByteArray) (d n : Nat) (hd : DpS d dp) (hdn : d < n) (Wk : List It → Prop) (hp : PtX Wk p)
 (hw : ∀ its, Wk its → ∀ F sc st, its.length ≤ F → Sc2 (d + 1) n sc → ∃ sc', walkV F false (inB [119, 64, 115] (c.toNat : Int)) its (sc, st) = (sc', st) ∧ Sc2 n n sc') : UseC d n (⟨#[c]⟩ ++ dp ++ p) := by
 obtain ⟨d1, d2, d3⟩ := hd
 obtain ⟨p1, p2, p3⟩ := hp
 refine ⟨by rw [bt_app, if_pos (by rw [ByteArray.size_append, size_one]; omega), bt_app0]; rcases hc with rfl | rfl | rfl | rfl <;> decide, by rw [ByteArray.size_append]; omega, fun s rule a f ha hf => ?_⟩
 rw [ByteArray.size_append, ByteArray.size_append, size_one, d1] at hf ⊢
 obtain ⟨g, rfl⟩ : ∃ g, f = g + 1 := ⟨f - 1, by omega⟩
 have h0 := at_one ha.fst
 have h2 : bt s (a + 1) = 97 + d := by rw [← d2]; exact (at_two ha.fst).at0 (by omega)
 have ha2 := ha.snd
 rw [ByteArray.size_append, size_one, d1] at ha2
 obtain ⟨its, e, gi, w⟩ := p3 s rule (a + 2) g ha2 (by omega)
 have g1 : (97 : Int) ≤ 97 + d := by omega
 have g2 : (97 : Int) + d ≤ 104 := by omega
 have hh : headV s a = { ok := true, i := a + 2, inn := 1, it := { c := (c.toNat : Int), d := d, pl := ((a + 1 : Nat) : Int) } } := by
  rcases hc with rfl | rfl | rfl | rfl
  · have h0 : bt s a = 116 := h0
    simp [headV, depHd, h0, h2, kAny, kW, kD, kIn, inB, g1, g2]; omega
  · have h0 : bt s a = 119 := h0
    simp [headV, depHd, h0, h2, kAny, kW, kD, kIn, inB, g1, g2]; omega
  · have h0 : bt s a = 64 := h0
    simp [headV, depHd, h0, h2, kAny, kW, kD, kIn, inB, g1, g2]; omega
  · have h0 : bt s a = 115 := h0
    simp [headV, depHd, h0, h2, kAny, kW, kD, kIn, inB, g1, g2]; omega
 refine ⟨_, prs_one s rule g a _ its _ hh rfl rfl (by rw [e]; congr 1; omega), gi_cons gi rfl (by omega) (by rcases hc with rfl | rfl | rfl | rfl <;> simp), fun F own sc st hF hs => ?_⟩
 obtain ⟨G, rfl⟩ : ∃ G, F = G + 1 := ⟨F - 1, by simp at hF; omega⟩
 rw [walk_one G own true _ its _ (by rcases hc with rfl | rfl | rfl | rfl <;> simp) gi.seg]
 obtain ⟨sc1, e1, s1⟩ := use_step d n hdn { c := (c.toNat : Int), d := d, pl := ((a + 1 : Nat) : Int), rl := rule, nx := 1 + its.length } own sc st hs (by rcases hc with rfl | rfl | rfl | rfl <;> rfl) (by rcases hc with rfl | rfl | rfl | rfl <;> rfl) (by simp)
 rw [e1, Bool.true_and]
 exact hw its w G sc1 st (by simpa using hF) s1
theorem useC_part (c : UInt8) (hc : c = 116 ∨ c = 119 ∨ c = 64 ∨ c = 115) (dp p : ByteArray) (d : Nat) (hd : DpS d dp) (hp : PtC p) : UseC d (d + 1) (⟨#[c]⟩ ++ dp ++ p) :=
 useC_on c hc dp p d (d + 1) hd (by omega) Clo hp fun its w F sc st hF hs => ⟨sc, w F false _ (sc, st) hF, hs⟩
theorem useC_more (c : UInt8) (hc : c = 119 ∨ c = 115) (dp p : ByteArray) (d n : Nat) (hd : DpS d dp) (hn : d + 1 < n) (hp : UseC (d + 1) n p) : UseC d n (⟨#[c]⟩ ++ dp ++ p) :=
 useC_on c (by rcases hc with rfl | rfl <;> simp) dp p d n hd (by omega) _ hp fun its w F sc st hF hs => by
  have : inB [119, 64, 115] (c.toNat : Int) = true := by rcases hc with rfl | rfl <;> rfl
  rw [this]
  exact w F false sc st hF hs
def ruleA : ByteArray := ⟨#[65, 61]⟩
def ruleB : ByteArray := ⟨#[59, 66, 61]⟩
def ruleC : ByteArray := ⟨#[59, 67, 61]⟩
def madeG (p1 p2 p3 : ByteArray) : ByteArray := ruleA ++ p1 ++ ruleB ++ p2 ++ ruleC ++ p3
def RowN (w : World) (mb : Nat) (v : Value) (l : List Int) : Prop :=
 (∀ x, x ∈ l → -9223372036854775808 ≤ x ∧ x ≤ 9223372036854775807) ∧ l.length ≤ 9223372036854775807 ∧
 ∃ o cap, v = .slice o l.length cap ∧ ∀ i (h : i < l.length), ∃ g k, o = some ⟨g, k, none⟩ ∧ g < mb ∧ w.cell? ⟨g, k + i, none⟩ = some (.int .i64 l[i])
structure Mkr (w : World) (mb : Nat) (v : Value) (l : List Int) : Prop where
 blk : ∃ k : Nat, k ≤ l.length ∧ Blk w mb #[v, .int .i64 k] 49
 row : RowN w mb v l
theorem RowN.heap {w w' : World} {mb : Nat} {v : Value} {l : List Int} (h : RowN w mb v l) (hk : ∀ k, k < mb → w'.heap[k]? = w.heap[k]?) : RowN w' mb v l := by
 obtain ⟨h1, h2, o, cap, h3, h4⟩ := h
 refine ⟨h1, h2, o, cap, h3, fun i hi => ?_⟩
 obtain ⟨g, k, e, hg, hc⟩ := h4 i hi
 refine ⟨g, k, e, hg, ?_⟩
 rw [← hc]
 unfold World.cell?
 simp only [hk g hg]
theorem Mkr.lt {w : World} {mb : Nat} {v : Value} {l : List Int} (h : Mkr w mb v l) : mb < w.heap.size := by obtain ⟨k, _, hb⟩ := h.blk; exact hb.lt
set_option maxHeartbeats 400000 in
theorem pickN_calls (c n : Int) (h1 : -9223372036854775808 ≤ c) (h2 : c ≤ 9223372036854775807) (hn : 0 < n) (hn2 : n ≤ 4294967296) (w : World) :
 Calls Tryz.prog 13 #[.int .i64 c, .int .i64 n] w fun e w' => ∃ k : Nat, (k : Int) < n ∧ e = .returned (.int .i64 k) ∧ w' = w := by
 have key : ∀ d : Int, 0 ≤ d → ∃ k : Nat, (k : Int) < n ∧ d.tmod n = k := fun d hd => by
  refine ⟨(d.tmod n).toNat, ?_, ?_⟩
  · have := Int.tmod_lt_of_pos d hn
    have h0 := Int.tmod_nonneg n hd
    omega
  · have h0 := Int.tmod_nonneg n hd
    omega
 have HKey := hide' key
 clear key
 have hn0 : (n == 0) = false := by simp; omega
 by_cases hc : c < 0
 · obtain ⟨k, hk, hke⟩ := HKey.out (-(c + 1)) (by omega)
   have HK := hide' hk
   go_enter Tryz.func13, Tryz.ntmps13
   go_wp2_with fail
   go_ret
   exact ⟨k, HK.out, rfl, rfl⟩
 · obtain ⟨k, hk, hke⟩ := HKey.out c (by omega)
   have HK := hide' hk
   go_enter Tryz.func13, Tryz.ntmps13
   go_wp2_with fail
   go_ret
   exact ⟨k, HK.out, rfl, rfl⟩
def MkPost (w : World) (mb : Nat) (v : Value) (l : List Int) (w' : World) : Prop := Mkr w' mb v l ∧ Fr w.heap.size mb w w'
theorem MkPost.trans {a b c : World} {mb : Nat} {v : Value} {l : List Int} (h : MkPost a mb v l b) (k : MkPost b mb v l c) : MkPost a mb v l c :=
 ⟨k.1, ⟨k.2.os.trans h.2.os, k.2.tape.trans h.2.tape, k.2.output.trans h.2.output, Nat.le_trans h.2.size k.2.size, fun i hi hn => (k.2.block i (by have := h.2.size; omega) hn).trans (h.2.block i hi hn)⟩⟩
theorem MkPost.refl {w : World} {mb : Nat} {v : Value} {l : List Int} (h : Mkr w mb v l) : MkPost w mb v l w := ⟨h, Fr.refl _ _ _⟩
theorem MkPost.drew {a b : World} {mb : Nat} {v : Value} {l : List Int} (h : MkPost a mb v l b) (n : Nat) : MkPost a mb v l { b with drawn := b.drawn + n } :=
 ⟨⟨h.1.blk, h.1.row⟩, ⟨h.2.os, h.2.tape, h.2.output, h.2.size, h.2.block⟩⟩
set_option maxRecDepth 100000 in
set_option maxHeartbeats 1000000 in
theorem next_calls (w : World) (mb : Nat) (v : Value) (l : List Int) (h : Mkr w mb v l) (n : Int) (hn : 0 < n) (hn2 : n ≤ 4294967296) :
 Calls Tryz.prog 33 #[.pointer (some ⟨mb, 0, none⟩), .int .i64 n] w fun e w' => (∃ k : Nat, (k : Int) < n ∧ e = .returned (.int .i64 k)) ∧ MkPost w mb v l w' := by
 have HM := hide' h
 obtain ⟨⟨at', hat, hb⟩, hr, hll, o, cap, rfl, hc⟩ := h
 have HB := hide' hb
 have c0 : w.cell? ⟨mb, 0, none⟩ = some (.slice o l.length cap) := hb.cell 0
 have c1 : w.cell? ⟨mb, 1, none⟩ = some (.int .i64 at') := hb.cell 1
 have cf : ∀ j, w.frozen? ⟨mb, j, none⟩ = false := fun j => hb.frozen j
 by_cases hlt : at' < l.length
 · have hlt' : (at' : Int) < (l.length : Int) := by omega
   obtain ⟨g, k, rfl, hg, hcell⟩ := hc at' hlt
   have hx := hr _ (List.getElem_mem hlt)
   have hne : g ≠ mb := by omega
   have hset : ∀ i, i ≠ mb → (w.setCell ⟨mb, 1, none⟩ (.int .i64 ((at' : Int) + 1))).heap[i]? = w.heap[i]? := fun i hi => Below.heap_setCell _ _ _ _ hi
   have HB2 := hide' (Blk.set hb 1 (.int .i64 ((at' + 1 : Nat) : Int)))
   have d0 : (w.setCell ⟨mb, 1, none⟩ (.int .i64 ((at' : Int) + 1))).cell? ⟨mb, 0, none⟩ = some (.slice (some ⟨g, k, none⟩) l.length cap) := (Blk.set hb 1 _).cell 0
   have d1 : (w.setCell ⟨mb, 1, none⟩ (.int .i64 ((at' : Int) + 1))).cell? ⟨mb, 1, none⟩ = some (.int .i64 ((at' : Int) + 1)) := (Blk.set hb 1 _).cell 1
   have d2 : (w.setCell ⟨mb, 1, none⟩ (.int .i64 ((at' : Int) + 1))).cell? ⟨g, k + at', none⟩ = some (.int .i64 l[at']) := by
    rw [← hcell]; unfold World.cell?; simp only [hset g hne]
   have HP : Hid (MkPost w mb (.slice (some ⟨g, k, none⟩) l.length cap) l (w.setCell ⟨mb, 1, none⟩ (.int .i64 ((at' : Int) + 1)))) := by
    have h : MkPost w mb (.slice (some ⟨g, k, none⟩) l.length cap) l (w.setCell ⟨mb, 1, none⟩ (.int .i64 ((at' : Int) + 1))) :=
     ⟨⟨⟨at' + 1, by omega, by have := HB2.out; simpa using this⟩, HM.out.row.heap fun i hi => hset i (by omega)⟩, Fr.setCell (p := ⟨mb, 1, none⟩) (Fr.refl _ _ _) (Or.inl rfl) _⟩
    exact h
   have HX1 := hide' hx.1
   have HX2 := hide' hx.2
   clear hr hc hcell hb hx HB2 hset
   generalize l[at'] = xv at *
   go_enter Tryz.func33, Tryz.ntmps33
   go_wp2_with fail
   go_quiet (fail)
   go_wp2_with fail
   have e0 : ((w.drewN nq).setCell ⟨mb, 1, none⟩ (.int .i64 ((at' : Int) + 1))).cell? ⟨mb, 0, none⟩ = some (.slice (some ⟨g, k, none⟩) l.length cap) := d0
   have e1 : ((w.drewN nq).setCell ⟨mb, 1, none⟩ (.int .i64 ((at' : Int) + 1))).cell? ⟨mb, 1, none⟩ = some (.int .i64 ((at' : Int) + 1)) := d1
   have e2 : ((w.drewN nq).setCell ⟨mb, 1, none⟩ (.int .i64 ((at' : Int) + 1))).cell? ⟨g, k + at', none⟩ = some (.int .i64 xv) := d2
   have HP2 : Hid (MkPost w mb (.slice (some ⟨g, k, none⟩) l.length cap) l ((w.drewN nq).setCell ⟨mb, 1, none⟩ (.int .i64 ((at' : Int) + 1)))) := HP.out.drew nq
   clear d0 d1 d2 HP
   generalize (w.drewN nq).setCell ⟨mb, 1, none⟩ (.int .i64 ((at' : Int) + 1)) = w2 at *
   refine wp_region_seg (fun W => W.cell? ⟨mb, 0, none⟩ = some (.slice (some ⟨g, k, none⟩) l.length cap) ∧ W.cell? ⟨mb, 1, none⟩ = some (.int .i64 ((at' : Int) + 1)) ∧ W.cell? ⟨g, k + at', none⟩ = some (.int .i64 xv)) [([0, 1, 2, 3, 4, 5, 6, 7, 8, 9, 10, 11], 12), ([], 13)] rfl (by kernel_rfl) (fun _ _ d _ _ h => by cases d <;> exact h) ⟨e0, e1, e2⟩ ?_
   simp only [wpSeg, List.filterMap_cons, List.filterMap_nil, List.getElem?_toArray, List.getElem?_cons_zero, List.getElem?_cons_succ]
   refine wpX_step _ rfl (fun W hW => rfl) ?_
   refine wpX_step (.pointer (some ⟨mb, 0, none⟩)) rfl (fun W hW => by go_simp) ?_
   refine wpX_step (.pointer (some ⟨mb, 0, none⟩)) rfl (fun W hW => by go_simp) ?_
   refine wpX_step (.slice (some ⟨g, k, none⟩) l.length cap) rfl (fun W hW => by obtain ⟨h0, h1, h2⟩ := hW; go_simp) ?_
   refine wpX_step _ rfl (fun W hW => rfl) ?_
   refine wpX_step (.pointer (some ⟨mb, 0, none⟩)) rfl (fun W hW => by go_simp) ?_
   refine wpX_step (.pointer (some ⟨mb, 1, none⟩)) rfl (fun W hW => by go_simp) ?_
   refine wpX_step (.int .i64 ((at' : Int) + 1)) rfl (fun W hW => by obtain ⟨h0, h1, h2⟩ := hW; go_simp) ?_
   refine wpX_step (.int .i64 at') rfl (fun W hW => by go_simp; rw [IntKind.wrap_i64]; omega) ?_
   refine wpX_step (.pointer (some ⟨g, k + at', none⟩)) rfl (fun W hW => by go_simp) ?_
   refine wpX_step (.int .i64 xv) rfl (fun W hW => by obtain ⟨h0, h1, h2⟩ := hW; go_simp) ?_
   refine wpX_step _ rfl (fun W hW => rfl) ?_
   refine wpX_nil ⟨_, rfl, rfl, ?_⟩
   unfold Oper.wp
   go_simp
   refine (pickN_calls xv n HX1.out HX2.out hn hn2 _).mono ?_
   rintro e w' ⟨k2, hk2, rfl, rfl⟩
   refine ⟨⟨e0, e1, e2⟩, ?_⟩
   refine wpX_nil ⟨_, rfl, rfl, ?_⟩
   unfold Oper.wp
   go_simp
   try refine ⟨⟨e0, e1, e2⟩, ?_⟩
   go_wp2_with fail
   go_ret
   exact ⟨⟨k2, hk2, rfl⟩, HP2.out.drew _⟩
 · have hlt' : ¬ (at' : Int) < (l.length : Int) := by omega
   have hge : (l.length : Int) ≤ (at' : Int) := by omega
   clear hr hc hb
   go_enter Tryz.func33, Tryz.ntmps33
   go_wp2_with fail
   go_quiet (fail)
   go_wp2_with fail
   go_ret
   exact ⟨⟨0, hn, rfl⟩, (MkPost.refl HM.out).drew _⟩
end Go.Proofs.YtmlkhhhjdpbhfaaGreatDoor

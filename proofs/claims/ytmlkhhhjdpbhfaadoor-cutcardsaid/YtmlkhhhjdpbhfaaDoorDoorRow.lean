/- What the rows of the names' laws share: the tables that must lie in the witness' world; the library's variable; slices of texts that came in. -/
import Derived.Test.YtmlkhhhjdpbhfaaDoorPkName
import Derived.Test.YtmlkhhhjdpbhfaaDoorUnRow
import Derived.Test.YtmlkhhhjdpbhfaaDoorRows
import Derived.ProofKit
import Derived.MakeChecks
import Derived.LaidHandle
import Derived.LaidLaws
import Derived.OpenShut
import Derived.SliceStrings
import Derived.SizedLaws
import Derived.Carry
import Derived.Stop.Joined
namespace Go.Proofs.YtmlkhhhjdpbhfaaDoor
open Go.ChangeShapes Go.WideShapes Go.ChangeAt Go.WideMaps Go.WideElems Go.RowKit

theorem door_own : ownKnob Tryd.prog.godebug = none := by kernel_rfl
theorem door_laidOut : laidOutB Tryd.prog = true := by kernel_rfl

section
variable {H : Type} {enc : TypeId × Value → H}
/-- the builder with a condition on the world, the sizes, and the world's shape -/
theorem returnsInHanded_and_shaped {a : Assume} {C : Checked} {os : Os} {f : FuncId} {fn : Func} {s : ChangeSpec} {conds : List PathCond} {apart fresh handsOn again : Bool} {X : World → Array Value → Prop}
    (hX : ∀ (w w' : World) (args : Array Value), w.heap = w'.heap → X w args → X w' args)
    (own : ownKnob C.prog.godebug = none) (started : os.Started) (noInit : C.prog.inits.idxOf? f = none) (hfn : C.prog.funcs[f]? = some fn)
    (witness : ∃ (w : World) (tape : Tape) (i : Input), w.os = os ∧ (w.forCall tape i).Shaped C.prog ∧ i.vars = [] ∧ Input.okWide C.prog (w.forCall tape i) .any w.heap.size f i ∧
      ((s.pre enc C.prog fn conds apart (w.forCall tape i).memory i.args ∧ X (w.forCall tape i).memory i.args) ∧ sizedMet enc C.prog fn (OpenSpec.ofChange s) apart (w.forCall tape i).memory i.args) ∧ a.holds C.prog (lone (Frame.enter C.prog f i.args .normal) [] (w.forCall tape i)))
    (contract : ∀ (W : World) (base : Nat) (args : Array Value) (ds gs : List (DataW H)) (before : List MemPlace),
      (∀ (j : Nat) t v, fn.params[j]? = some t → args[j]? = some v → Value.okWide C.prog W .any base t v) →
      DataW.Whole enc C.prog fn.params.toList s.vars apart W args.toList ds gs before →
      (DataW.weightsEach C.prog (fn.params.toList ++ s.plain.varTypes C.prog) (ds ++ gs)).all (· ≤ reachBytes) = true → X W args → W.ShapedOpen C.prog →
      Calls C.prog f args W fun e W' => ∃ v, e = .returned v ∧ s.post enc C.prog fn apart fresh handsOn again W args v W') :
    ReturnsInHanded a C os f .any (fun w args => (s.pre enc C.prog fn conds apart w args ∧ X w args) ∧ sizedMet enc C.prog fn (OpenSpec.ofChange s) apart w args) (s.post enc C.prog fn apart fresh handsOn again) := by
  refine returnsInHanded_of_calls own started noInit witness ?_
  intro w tape i _ hsh _ hok hpre _
  obtain ⟨_, _, _, fn', hfn', _, _, _, _, hval⟩ := hok
  have e : fn' = fn := Option.some.inj (hfn'.symm.trans hfn)
  subst e
  obtain ⟨⟨⟨ds, gs, before, hw, _⟩, hx⟩, hz⟩ := hpre
  have hw' := DataW.Whole.of_heap (w' := w.forCall tape i) (by rfl) hw
  refine (contract (w.forCall tape i) w.heap.size i.args ds gs before hval hw' (hz.weights hw) (hX _ _ _ (by rfl) hx) hsh).mono fun e W' ⟨v, he, hp⟩ => ?_
  subst he
  exact ChangeSpec.post_blind hp
end

def litC : DataW Unit → List Value
  | .lit (.int k n) => [.int k n]
  | .agg [.lit (.int k n), .lit (.int q m)] => [.int k n, .int q m]
  | _ => []
def tabC : DataW Unit → List Value
  | .agg l => l.flatMap litC
  | _ => []

/-- a table, laid -/
def layT (cs : List Value) : Obj → Obj
  | .cells _ t frozen => .cells cs.toArray t frozen
  | o => o

def doorHeap (h : Array Obj) : Array Obj := (h.modify 2 (layT (tabC Rows.laid_unicode_utf8_first))).modify 3 (layT (tabC Rows.laid_unicode_utf8_acceptRanges))
def doorLaid : List (String × DataW Unit) := Rows.packsRow.laid

theorem doorWorld_met (os : Os) (args : Array Value) : laidMetH Tryd.prog doorLaid (({ World.holding Tryd.prog os ⟨#[], #[], []⟩ with heap := doorHeap (World.holding Tryd.prog os ⟨#[], #[], []⟩).heap } : World).forCall (fun _ _ => 0) ⟨#[], args, []⟩).memory := by
  rw [MakeChecks.laidMetH_plain _ _ _ (by kernel_rfl)]
  exact laidMet_of_run' 8 (by kernel_rfl) (by kernel_rfl)

/-- the library's variable holds some number -/
theorem mxW_of {W : World} (h : W.ShapedOpen Tryd.prog) : MxW W := Tryd.laysM138.s1_3 W h

/-- a slice of texts that came in -/
theorem open_row {H : Type} {enc : TypeId × Value → H} {W : World} {v : Value} {d : DataW H} {p : List MemPlace} (hs : ∃ a n c, v = .slice a n c) (h : DataW.Trod enc Tryd.prog W 0 (fun _ => true) true 24 v d p) :
    ∃ l, RowS W v l ∧ (∀ b ∈ l, b.size ≤ maxLen) ∧ ((d = .nil ∧ l = []) ∨ ∃ e r, d = .slice e r ∧ l.length ≤ e.length) ∧ ∀ x ∈ p, x.block < W.heap.size := by
  have hlt : ∀ x ∈ p, x.block < W.heap.size := by obtain ⟨m, hm⟩ := h; exact DataW.trod_lt m _ _ _ hm
  obtain ⟨a, n, c, rfl⟩ := hs
  obtain ⟨fuel, hf⟩ := h
  rcases open_strings Tryd.underlying24 Tryd.underlying9 (by kernel_rfl) hf with ⟨hcs, hx⟩ | ⟨x, len, cap, ss, hcs, _, hl, hm, hss, hx, hcell, hsz⟩
  · simp [Value.cells] at hcs
    obtain ⟨rfl, rfl, rfl⟩ := hcs
    simp only [Prod.mk.injEq] at hx
    exact ⟨[], Or.inl ⟨⟨_, _, rfl⟩, rfl⟩, by simp, Or.inl ⟨hx.1, rfl⟩, hlt⟩
  · simp [Value.cells] at hcs
    obtain ⟨rfl, rfl, rfl⟩ := hcs
    simp only [Prod.mk.injEq] at hx
    simp only [if_true] at hss
    have hll : (ss.take n).length = n := by rw [List.length_take]; omega
    refine ⟨ss.take n, ?_, fun b hb => hsz b (List.mem_of_mem_take hb), Or.inr ⟨_, _, hx.1, by simp [strs]⟩, hlt⟩
    by_cases h0 : n = 0
    · subst h0
      exact Or.inl ⟨⟨_, _, rfl⟩, by simp⟩
    · have hc0 := hcell 0 (by omega)
      have hspot : x.spot = none := by
        have : x.add 0 = x := by simp [Addr.add]
        rw [this] at hc0
        unfold World.cell? at hc0
        split at hc0
        · split at hc0
          · cases hc0
          · rename_i h; simpa using h
        · cases hc0
      obtain ⟨g, o, sp⟩ := x
      simp only at hspot
      subst hspot
      refine Or.inr ⟨g, o, c, by rw [hll], fun i hi => ?_⟩
      rw [hll] at hi
      have hci := hcell i (by omega)
      have hadd : (⟨g, o, none⟩ : Addr).add i = ⟨g, o + i, none⟩ := by unfold Addr.add; split <;> simp_all
      rw [hadd] at hci
      rw [hci]
      have hg : ss.getD i ByteArray.empty = (ss.take n)[i]'(by rw [hll]; exact hi) := by
        rw [List.getElem_take, List.getD_eq_getElem?_getD, List.getElem?_eq_getElem (by omega)]
        rfl
      rw [hg]

theorem door_bytes : Tryd.prog.bytesOf 9 = 16 := by kernel_rfl

end Go.Proofs.YtmlkhhhjdpbhfaaDoor

/- For every two lists of texts the law Packs answers true, under what the card ties: PackNames is the document's answer's; what is handed in is as it was. -/
import Derived.Test.YtmlkhhhjdpbhfaaDoorPkLaw
import Derived.Test.YtmlkhhhjdpbhfaaDoorDoorRow
import Derived.Test.YtmlkhhhjdpbhfaaDoorTie
import Derived.Test.YtmlkhhhjdpbhfaaDoorCards
import Derived.SevenTiedAt
namespace Go.Proofs.YtmlkhhhjdpbhfaaDoor
open Go.ChangeShapes Go.WideShapes Go.ChangeAt Go.WideMaps Go.WideElems Go.RowKit

theorem row_len {H : Type} {ts : List TypeId} {ds : List (DataW H)} {d : DataW H} {l : List ByteArray} (j : Nat) (hsz : (DataW.weightsEach Tryd.prog ts ds).all (· ≤ reachBytes) = true) (ht : ts[j]? = some 24) (hd : ds[j]? = some d) (h : (d = .nil ∧ l = []) ∨ ∃ e r, d = .slice e r ∧ l.length ≤ e.length) : l.length ≤ 8796093021960 := by
  rcases h with ⟨_, rfl⟩ | ⟨e, r, rfl, hl⟩
  · simp
  · have := sized_slice hsz (j := j) (t := 24) (e := 9) ht hd Tryd.underlying24
    rw [door_bytes] at this
    simp only [reachBytes] at this
    omega

set_option maxRecDepth 100000 in
theorem packs_lifted (os : Os) (started : os.Started) (H : Type) (enc : TypeId × Value → H) :
    ReturnsInHanded {} Tryd.checked os 4 .any (fun w args => (Rows.packsSpec.pre enc Tryd.prog Tryd.f4 [] false w args ∧ laidMetH Tryd.prog doorLaid w) ∧ sizedMet enc Tryd.prog Tryd.f4 (OpenSpec.ofChange Rows.packsSpec) false w args)
      (Rows.packsSpec.post enc Tryd.prog Tryd.f4 false true false false) := by
  refine returnsInHanded_and_shaped (C := Tryd.checked) (X := fun w _ => laidMetH Tryd.prog doorLaid w) (fun _ _ _ hh h => h.of_heap hh) door_own started (by kernel_rfl) Tryd.func4
    (ChangeSpec.witness_at (enc := enc) (C := Tryd.checked) (os := os) (X := fun w _ => laidMetH Tryd.prog doorLaid w) false ({ World.holding Tryd.prog os ⟨#[], #[], []⟩ with heap := doorHeap (World.holding Tryd.prog os ⟨#[], #[], []⟩).heap } : World) #[.slice none 0 0, .slice none 0 0] 8 rfl (by kernel_rfl) (by kernel_rfl) (by kernel_rfl) (by kernel_rfl) (by kernel_rfl) (doorWorld_met os _)) ?_
  intro W base args ds gs before hval0 hW hsz0 _ hsh
  have hval : ∀ (j : Nat) t v, Tryd.f4.params[j]? = some t → args[j]? = some v → Value.okWide Tryd.prog W .any base t v := hval0
  have hsz : (DataW.weightsEach Tryd.prog (Tryd.f4.params.toList ++ Rows.packsSpec.plain.varTypes Tryd.prog) (ds ++ gs)).all (· ≤ reachBytes) = true := hsz0
  have hW' := hW
  obtain ⟨p, q, hA0, hV, rfl, hfz, hnd⟩ := hW
  have hA : DataW.TrodAll enc Tryd.prog W 0 (fun _ => true) true Tryd.f4.params.toList args.toList ds p := hA0
  rw [Tryd.params4] at hA hval hsz
  obtain ⟨v0, v1, d0, d1, p0, p1, rfl, rfl, rfl, h0, h1⟩ := trodAll_two hA
  obtain ⟨rfl, rfl⟩ := trodVars_none hV
  obtain ⟨l0, r0, s0, e0, lt0⟩ := open_row (okWide_slice Tryd.underlying24 (hval 0 24 v0 rfl rfl)) h0
  obtain ⟨l1, r1, s1, e1, lt1⟩ := open_row (okWide_slice Tryd.underlying24 (hval 1 24 v1 rfl rfl)) h1
  have n0 := row_len 0 hsz rfl rfl e0
  have n1 := row_len 1 hsz rfl rfl e1
  clear hA0 hval0 hsz0
  refine (packs_calls W v0 v1 l0 l1 r0 r1 n0 n1 s0 s1 (mxW_of hsh)).mono fun e W' ⟨he, bel⟩ => ?_
  subst he
  exact ⟨_, rfl, _, _, _, [], _, [], hW', trodAll_mk1 (shut_bool Tryd.underlying4 _), trodAll_mk2 (Below.trod door_laidOut (by kernel_rfl) (of_decide_eq_true (by kernel_rfl)) h0 bel lt0) (Below.trod door_laidOut (by kernel_rfl) (of_decide_eq_true (by kernel_rfl)) h1 bel lt1), rfl, bel.frame _, fun h => by cases h⟩

theorem packs_said : Rows.PacksSaid :=
  OpenClaim.holds_of_wide 4 Tryd.f4 rfl rfl rfl rfl rfl rfl rfl ⟨rfl, rfl, rfl, rfl, rfl⟩ rfl rfl rfl rfl rfl (by kernel_rfl) Tryd.func4 (by kernel_rfl)
    (of_decide_eq_true (by kernel_rfl)) (by unfold Func.isWrapper; first | (rw [if_pos (by decide +kernel)]; kernel_rfl) | (rw [if_neg (by decide +kernel)]; exact ⟨rfl, rfl⟩))
    (fun os started H enc _ => packs_lifted os started H enc)

theorem packs_holds : Rows.PacksCardSaid :=
  Claim7.holds_tied_plain_at .later [] [.data, .pinned] true (true, "392ec33597a1933f614d4cff5fd19693c3bc01fc3e1223f29e14dae28e5891de") false
    packs_said (fun _ h => by cases h) (by kernel_rfl) (fun _ h => by cases h) packs_row_tie rfl ⟨rfl, rfl⟩ (by kernel_rfl) rfl
    (fun f fn hf hfn => by
      obtain rfl : f = 4 := Option.some.inj ((show Tryd.prog.funcNamed Rows.packsRow.func = some 4 by kernel_rfl).symm.trans hf) |>.symm
      obtain rfl : fn = Tryd.f4 := (Option.some.inj (Tryd.func4.symm.trans hfn)).symm
      exact ⟨by kernel_rfl, fun j t ht => by
        rw [Tryd.params4] at ht
        have h9 : t = 24 := by
          rcases j with _ | _ | j
          · simpa using ht.symm
          · simpa using ht.symm
          · simp at ht
        subst h9
        exact (show Tryd.prog.wantsStandIn 24 = false by kernel_rfl)⟩)
    (by kernel_rfl)

#print axioms packs_holds
end Go.Proofs.YtmlkhhhjdpbhfaaDoor

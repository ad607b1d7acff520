import Derived.Test.YtmlkhhhjdpbhfaaDoorSynWalkI
import Derived.Test.YtmlkhhhjdpbhfaaDoorSynWalkK
import Derived.Test.YtmlkhhhjdpbhfaaDoorSynWalkU
import Derived.Test.YtmlkhhhjdpbhfaaDoorSynWalkP
import Derived.Test.YtmlkhhhjdpbhfaaDoorSynWrongG
/- The contract of the binder's walk, whole; of wrongDependency. -/
namespace Go.Proofs.YtmlkhhhjdpbhfaaDoor
open Go.RowKit

theorem walkV_struct (f : Nat) (own ar : Bool) (x : It) (kids : List (Nat × List It)) (hk : ∀ z, z ∈ kids → SegOk z.2) (q : Sc × (Int × Bool)) (hc : x.c = 40) :
    walkV (f + 1) own ar (x :: kids.flatMap Prod.snd) q = (q.1, endV (foldK f true true kids (Sc0, q.2)).1 (foldK f true true kids (Sc0, q.2)).2) := by
  rw [walkV, if_pos hc, segs_kids kids hk]; rfl
theorem walkV_other (f : Nat) (own ar : Bool) (x : It) (kids : List (Nat × List It)) (hk : ∀ z, z ∈ kids → SegOk z.2) (q : Sc × (Int × Bool)) (hc : ¬ x.c = 40) :
    walkV (f + 1) own ar (x :: kids.flatMap Prod.snd) q = foldK f false (ar && inB [119, 64, 115] x.c) kids (stepV own ar x q) := by
  rw [walkV, if_neg hc, segs_kids kids hk]; rfl

set_option maxRecDepth 100000 in
set_option maxHeartbeats 4000000 in
theorem walk_struct (f : Nat) (ih : WalkC f) (w : World) (lo hi pb : Nat) (x : It) (kids : List (Nat × List It)) (p : Pt) (B0 bb : Nat) (o : Option Nat) (q : Sc × (Int × Bool)) (u v : Value) (h : In0 f w lo hi pb x kids p B0 bb o q) (hc : (x.c == 40) = true) :
    Calls Tryd.prog 54 #[.pointer (some ⟨bb, 0, none⟩), .pointer (some ⟨pb, 0, none⟩), u, v] w fun e w' =>
      e = .returned (.tuple #[]) ∧ WS B0 bb o (q.1, endV (foldK f true true kids (Sc0, q.2)).1 (foldK f true true kids (Sc0, q.2)).2) w' ∧ FrW bb o w w' := by
  have hk3 : (p.k == 3) = true := by rw [h.it.k, h.lx.st]; exact hc
  have c0 : w.cell? ⟨pb, 0, none⟩ = some (.int .i64 p.k) := h.blk.cell 0
  have HC := hide' (struct_calls f ih w lo hi pb x kids p q B0 bb h.hpb h.hhi h.hB h.blk h.ptr h.rep h.lets h.len h.ws.bare)
  have HH := hide' h
  clear ih h
  go_enter Tryd.func54, Tryd.ntmps54
  go_wp2_with fail
  refine HC.out.mono ?_
  rintro e w1 ⟨rfl, k1, k2⟩
  have hup := HH.out.ws.up HH.out.hB k1 k2 rfl (fun s e => HH.out.ws.lt s e)
  have HN := hide' hup
  clear hup k1 k2
  simp only
  go_wp2_with fail
  exact bodyPost_ret (v := .tuple #[]) (by simp [results, Tryd.results54, go_sem]) rfl ⟨rfl, HN.out.1, HN.out.2⟩

theorem keep_uses (c : Int) (h : inB [119, 64, 115] c = true) : usesB c = true ∧ hidesB c = false := by
  simp only [inB, List.any_cons, List.any_nil, Bool.or_false, Bool.or_eq_true, beq_iff_eq] at h
  rcases h with h | h | h <;> (simp at h; rw [← h]; decide)

theorem walk_all (f : Nat) : WalkC f := by
  induction f with
  | zero => intro w lo hi pb seg own o q B0 bb h; exact h.elim
  | succ f ih =>
    intro w lo hi pb seg own o q B0 bb hrep hhi hB hws hlet hlen hown
    obtain ⟨x, kids, p, rfl, hnx, hlo, hpb, hblk, hit, hptr, hkids⟩ := hrep
    have hseg : ∀ z, z ∈ kids → SegOk z.2 := fun z hz => (hkids z hz).segOk
    have h0 : In0 f w lo hi pb x kids p B0 bb o q := ⟨hpb, hhi, hB, hblk, hptr, hkids, fun y hy => hlet y (List.mem_cons_of_mem _ hy), by simp at hlen; simp; omega, hws, hit, hlet x List.mem_cons_self⟩
    cases hc : (x.c == 40)
    rotate_left
    · rw [walkV_struct f own o.isSome x kids hseg q (by simpa using hc)]
      exact walk_struct f ih w lo hi pb x kids p B0 bb o q _ _ h0 hc
    rw [walkV_other f own o.isSome x kids hseg q (by simpa using hc)]
    cases o with
    | none =>
      have ho : own = false := by cases own; rfl; exact absurd (hown rfl) (by simp)
      subst ho
      simp only [Option.isSome_none, Bool.false_and]
      cases hk : inB [119, 64, 115] x.c
      · cases hh : hidesB x.c
        · cases hu : usesB x.c
          · exact walk_pn f ih w lo hi pb x kids p B0 bb q h0 hc hh hu hk
          · exact walk_un f ih w lo hi pb x kids p B0 bb q h0 hc hh hu hk
        · exact walk_hn f ih w lo hi pb x kids p B0 bb q h0 hc hh hk
      · exact walk_kn f ih w lo hi pb x kids p B0 bb q h0 hc (keep_uses _ hk).2 (keep_uses _ hk).1 hk
    | some sb =>
      simp only [Option.isSome_some, Bool.true_and]
      cases own
      · cases hk : inB [119, 64, 115] x.c
        · cases hh : hidesB x.c
          · cases hu : usesB x.c
            · exact walk_ps f ih w lo hi pb x kids p B0 bb sb q h0 hc hh hu hk
            · exact walk_us f ih w lo hi pb x kids p B0 bb sb q h0 hc hh hu hk
          · exact walk_hs f ih w lo hi pb x kids p B0 bb sb q h0 hc hh hk
        · exact walk_ks f ih w lo hi pb x kids p B0 bb sb q h0 hc (keep_uses _ hk).2 (keep_uses _ hk).1 hk
      · cases hk : inB [119, 64, 115] x.c
        · cases hh : hidesB x.c
          · cases hu : usesB x.c
            · exact walk_po f ih w lo hi pb x kids p B0 bb sb q h0 hc hh hu hk
            · exact walk_uo f ih w lo hi pb x kids p B0 bb sb q h0 hc hh hu hk
          · exact walk_ho f ih w lo hi pb x kids p B0 bb sb q h0 hc hh hk
        · exact walk_ko f ih w lo hi pb x kids p B0 bb sb q h0 hc (keep_uses _ hk).2 (keep_uses _ hk).1 hk

/-- the least wrong place over all rules -/
def wrongD (F : Nat) (rls : List Rl) (st : Int × Bool) : Int × Bool := rls.foldl (fun z r => (walkV F false false r.its (Sc0, z)).2) st

end Go.Proofs.YtmlkhhhjdpbhfaaDoor

import Derived.Test.YtmlkhhhjdpbhfaaDoorSynWalk
/- The contract of the binder's walk. -/
namespace Go.Proofs.YtmlkhhhjdpbhfaaDoor
open Go.RowKit

/-- what a walk over a part that is no struct begins with -/
structure In0 (f : Nat) (w : World) (lo hi pb : Nat) (x : It) (kids : List (Nat × List It)) (p : Pt) (B0 bb : Nat) (o : Option Nat) (q : Sc × (Int × Bool)) : Prop where
  hpb : pb < hi
  hhi : hi ≤ B0
  hB : B0 ≤ w.heap.size
  blk : PtBlk w pb p
  ptr : PtrsAt w lo hi p.v (kids.map Prod.fst)
  rep : ∀ z, z ∈ kids → RepT f w lo hi z.1 z.2
  lets : ∀ y, y ∈ kids.flatMap Prod.snd → LetOk y
  len : (kids.flatMap Prod.snd).length ≤ 1000
  ws : WS B0 bb o q w
  it : ItPt x p
  lx : LetOk x

theorem flat_ge' (l : List (Nat × List It)) (h : ∀ q, q ∈ l → SegOk q.2) : l.length ≤ (l.flatMap Prod.snd).length := by
  induction l with
  | nil => simp
  | cons x r ih =>
    obtain ⟨y, t, e, _⟩ := h x List.mem_cons_self
    have h2 := ih (fun q hq => h q (List.mem_cons_of_mem _ hq))
    simp only [List.flatMap_cons, List.length_append, List.length_cons, e]; omega

end Go.Proofs.YtmlkhhhjdpbhfaaDoor

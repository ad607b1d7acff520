import Derived.Test.YtmlkhhhjdpbhfaaDoorPlainRef
/- What the program's binder comes to, as a plain function of the list of parts. -/
namespace Go.Proofs.YtmlkhhhjdpbhfaaDoor
open Go.RowKit

/-- a scope: the place of the first hidden part of each d, and which d are used -/
structure Sc where
  hid : Nat → Option Int
  us : Nat → Bool

def Sc0 : Sc := ⟨fun _ => none, fun _ => false⟩

def bwV (st : Int × Bool) (d : Int) : Int × Bool := if !st.2 || decide (d < st.1) then (d, true) else st

/-- the lists of the parts that stand one behind the other -/
def segs : Nat → List It → List (List It)
  | 0, _ => []
  | _ + 1, [] => []
  | f + 1, x :: r => (x :: r.take (x.nx.toNat - 1)) :: segs f (r.drop (x.nx.toNat - 1))

def hideV (own : Bool) (x : It) (q : Sc × (Int × Bool)) : Sc × (Int × Bool) :=
  if own && (q.1.hid x.d.toNat).isNone then (⟨fun k => if k = x.d.toNat then some x.pl else q.1.hid k, q.1.us⟩, q.2) else (q.1, bwV q.2 x.pl)
def useV (ar : Bool) (x : It) (q : Sc × (Int × Bool)) : Sc × (Int × Bool) :=
  if ar && !(q.1.hid x.d.toNat).isNone && !(q.1.us x.d.toNat) then (⟨q.1.hid, fun k => if k = x.d.toNat then true else q.1.us k⟩, q.2) else (q.1, bwV q.2 x.pl)

def endStep (sc : Sc) (st : Int × Bool) (d : Nat) : Int × Bool := match sc.hid d with | some pl => if sc.us d then st else bwV st pl | none => st
def endV (sc : Sc) (st : Int × Bool) : Int × Bool := (List.range 8).foldl (endStep sc) st

def stepV (own ar : Bool) (x : It) (q : Sc × (Int × Bool)) : Sc × (Int × Bool) := if hidesB x.c then hideV own x q else if usesB x.c then useV ar x q else q

def walkV : Nat → Bool → Bool → List It → Sc × (Int × Bool) → Sc × (Int × Bool)
  | 0, _, _, _, q => q
  | _ + 1, _, _, [], q => q
  | f + 1, own, ar, x :: r, q =>
    if x.c = 40 then (q.1, endV ((segs r.length r).foldl (fun z s => walkV f true true s z) (Sc0, q.2)).1 ((segs r.length r).foldl (fun z s => walkV f true true s z) (Sc0, q.2)).2)
    else (segs r.length r).foldl (fun z s => walkV f false (ar && inB [119, 64, 115] x.c) s z) (stepV own ar x q)

/-- each list begins with a part that reaches to its end -/
def SegOk (l : List It) : Prop := ∃ x r, l = x :: r ∧ x.nx = 1 + (r.length : Int)

theorem segs_flat (kids : List (List It)) (h : ∀ s, s ∈ kids → SegOk s) : ∀ f, kids.flatten.length ≤ f → segs f kids.flatten = kids := by
  induction kids with
  | nil => intro f _; cases f <;> rfl
  | cons s t ih =>
    intro f hf
    obtain ⟨x, r, rfl, hx⟩ := h s List.mem_cons_self
    simp only [List.flatten_cons, List.cons_append, List.length_cons, List.length_append] at hf ⊢
    cases f with
    | zero => omega
    | succ f =>
      rw [segs]
      have e : x.nx.toNat - 1 = r.length := by omega
      rw [e, List.take_left, List.drop_left, ih (fun s hs => h s (List.mem_cons_of_mem _ hs)) f (by omega)]

end Go.Proofs.YtmlkhhhjdpbhfaaDoor

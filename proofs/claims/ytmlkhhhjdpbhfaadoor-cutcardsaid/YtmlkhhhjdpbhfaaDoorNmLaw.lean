/- Plain facts that the laws Named and Cut share. -/
import Derived.Test.YtmlkhhhjdpbhfaaDoorNmBack
import Derived.Test.YtmlkhhhjdpbhfaaDoorNmName
import Derived.Test.YtmlkhhhjdpbhfaaDoorUnLaw
namespace Go.Proofs.YtmlkhhhjdpbhfaaDoor
open Go.RowKit

theorem listsOf_bs (ns : List (List UInt8)) : listsOf (ns.map bs) = ns := by
  unfold listsOf
  rw [List.map_map]
  conv => rhs; rw [← List.map_id ns]
  rfl

def fullN (ns : List (List UInt8)) : Nat := (ns.map fun n => n.length + 2).sum
theorem fullN_snoc (ns : List (List UInt8)) (n : List UInt8) : fullN (ns ++ [n]) = fullN ns + (n.length + 2) := by simp [fullN]

/-- packed they are no longer than in full -/
theorem pack_le (ns : List (List UInt8)) : (packL ns).1.length ≤ fullN ns := by
  have key : ∀ i, i ≤ ns.length → EndsIn (packL (ns.take i)) ∧ (packL (ns.take i)).1.length ≤ fullN (ns.take i) := by
    intro i
    induction i with
    | zero => intro _; exact ⟨⟨by simp [packL], fun q hq => by simp [packL] at hq⟩, by simp [packL, fullN]⟩
    | succ i ih =>
      intro hi
      obtain ⟨h1, h2⟩ := ih (by omega)
      obtain ⟨h3, h4⟩ := packF_inv (ns[i].length + 1) ns[i] (packL (ns.take i)) (by omega) h1
      rw [packL_take ns i (by omega), List.take_succ_eq_append_getElem (by omega), fullN_snoc]
      exact ⟨h3, by show (packF _ _ _).1.length ≤ _; omega⟩
  have := (key ns.length (Nat.le_refl _)).2
  rwa [List.take_of_length_le (Nat.le_refl _)] at this

theorem fullN_le (ns : List (List UInt8)) (h : ns.all nmOk = true) : fullN ns ≤ 62 * ns.length := by
  have key : ∀ i, i ≤ ns.length → fullN (ns.take i) ≤ 62 * i := by
    intro i
    induction i with
    | zero => intro _; simp [fullN]
    | succ i ih =>
      intro hi
      have hn : nmOk ns[i] = true := List.all_eq_true.1 h _ (List.getElem_mem (by omega))
      have hn60 : ns[i].length ≤ 60 := by unfold nmOk at hn; simp at hn; exact hn.1
      rw [List.take_succ_eq_append_getElem (by omega), fullN_snoc]
      have := ih (by omega)
      omega
  have := key ns.length (Nat.le_refl _)
  rwa [List.take_of_length_le (Nat.le_refl _)] at this

theorem abc_pack : packV [[97, 46, 98], [99, 46, 98], [98]] = (⟨#[1, 97, 1, 98, 0, 1, 99, 192, 2, 192, 2]⟩, 0) := by decide

/-- the names that were made so far -/
structure MkAt (B : Nat) (w0 : World) (ns : List (List UInt8)) (lv : Value) (w : World) : Prop where
  ok : ns.all nmOk = true
  row : w.ownsRow B 9 1 lv ns.length (strC (ns.map bs))
  fr : Below B w0 w

theorem MkAt.step {B : Nat} {w0 w w2 : World} {ns : List (List UInt8)} {lv : Value} {x : List UInt8} {g cap : Nat} (h : MkAt B w0 ns lv w) (hB : B ≤ w.heap.size) (hx : nmOk x = true) (ob : Obj)
    (hown : w2.ownsRow B 9 1 (.slice (some ⟨g, 0, none⟩) (ns.length + 1) cap) (ns.length + 1) (strC (ns.map bs) ++ [.string (bs x)])) (hg : (w.alloc ob).grownBy w2 lv.ownBlock) : MkAt B w0 (ns ++ [x]) (.slice (some ⟨g, 0, none⟩) (ns.length + 1) cap) w2 := by
  have hz := hg.size
  simp at hz
  refine ⟨by rw [List.all_append, h.ok]; simpa using hx, by simpa [strC] using hown, h.fr.trans ⟨hg.os, hg.tape, hg.output, by omega, fun k hk => ?_⟩⟩
  rw [hg.block k (by simp; omega) (fun e => by have := (h.row.lt k e.symm).1; omega), Below.heap_alloc _ _ _ (by omega)]

end Go.Proofs.YtmlkhhhjdpbhfaaDoor

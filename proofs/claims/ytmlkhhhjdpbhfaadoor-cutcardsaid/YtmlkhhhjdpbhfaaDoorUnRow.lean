/- Slices of texts, as they lie. -/
import Derived.Test.YtmlkhhhjdpbhfaaDoorProg
import Derived.Test.YtmlkhhhjdpbhfaaDoorHeap
namespace Go.Proofs.YtmlkhhhjdpbhfaaDoor
open Go.RowKit

def strC (l : List ByteArray) : List Value := l.map .string
theorem strC_length (l : List ByteArray) : (strC l).length = l.length := by simp [strC]

theorem Tryd.infoStr : (Tryd.prog.info? 9).map (fun i => (i.zero, i.size, i.bytes)) = some (some (.string ByteArray.empty), 1, 16) := by kernel_rfl

/-- a slice of texts, as it lies -/
def RowS (w : World) (v : Value) (l : List ByteArray) : Prop := ((∃ p cap, v = .slice p 0 cap) ∧ l = []) ∨ ∃ g o cap, v = .slice (some ⟨g, o, none⟩) l.length cap ∧ ∀ i (h : i < l.length), w.cell? ⟨g, o + i, none⟩ = some (.string l[i])

theorem RowS.of_owns {w : World} {B : Nat} {v : Value} {l : List ByteArray} (h : w.ownsRow B 9 1 v l.length (strC l)) : RowS w v l := by
  rcases h.2 with ⟨h1, h2⟩ | ⟨g, cap, cur, h1, _⟩
  · exact Or.inl ⟨⟨_, _, h1⟩, List.eq_nil_of_length_eq_zero h2⟩
  · refine Or.inr ⟨g, 0, cap, h1, fun i hi => ?_⟩
    subst h1
    rw [Nat.zero_add]
    have := World.ownsRow.cells h (g := g) rfl i (.string l[i]) (by simp [strC, hi])
    have hadd : (⟨g, 0, none⟩ : Addr).add i = ⟨g, i, none⟩ := by unfold Addr.add; split <;> simp_all
    rw [hadd] at this
    exact this

theorem RowS.form {w : World} {v : Value} {l : List ByteArray} (h : RowS w v l) : ∃ p cap, v = .slice p l.length cap := by
  rcases h with ⟨⟨p, cap, h1⟩, h2⟩ | ⟨g, o, cap, h1, _⟩
  · exact ⟨p, cap, by rw [h1, h2]; rfl⟩
  · exact ⟨_, _, h1⟩
theorem RowS.lt {w : World} {v : Value} {l : List ByteArray} (h : RowS w v l) (hl : l ≠ []) : ∀ g, v.ownBlock = some g → g < w.heap.size := by
  intro g hg
  rcases h with ⟨_, h2⟩ | ⟨g', o, cap, h1, h2⟩
  · exact absurd h2 hl
  · rw [h1] at hg
    have e : g' = g := by simpa [Value.ownBlock] using hg
    have hc := h2 0 (by cases l with | nil => exact absurd rfl hl | cons _ _ => simp)
    rw [← e]
    exact World.block_lt_of_cell? w _ hc

end Go.Proofs.YtmlkhhhjdpbhfaaDoor

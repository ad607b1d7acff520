/- Contracts of the packing's write and point; the map of endings. -/
import Derived.Test.YtmlkhhhjdpbhfaaDoorPkName
import Derived.Test.YtmlkhhhjdpbhfaaDoorUnEnd2
import Derived.Maps.OwnSet
import Derived.Maps.Views
namespace Go.Proofs.YtmlkhhhjdpbhfaaDoor
open Go.RowKit

/-- the map in block b has just these endings -/
def MapV (w : World) (b : Nat) (ends : List (List UInt8 × Nat)) : Prop :=
  ∃ D : DataW Unit, w.ownsMap Tryd.prog 9 (plainElem Tryd.prog 3) b ends.length D ∧ Maps.IsMap D ∧ ∀ l, Maps.has D (.string l) = (findE ends l).isSome ∧ ∀ p, findE ends l = some p → ∀ z, D.atKey (.string l) z = .lit (.int .i64 p)

theorem MapV.of {w w' : World} {b : Nat} {ends : List (List UInt8 × Nat)} (h : MapV w b ends) (hb : w'.heap[b]? = w.heap[b]?) : MapV w' b ends := by
  obtain ⟨D, ⟨es, clock, h1, h2⟩, h3⟩ := h
  exact ⟨D, ⟨es, clock, by rw [hb]; exact h1, h2⟩, h3⟩
theorem MapV.lt {w : World} {b : Nat} {ends : List (List UInt8 × Nat)} (h : MapV w b ends) : b < w.heap.size := by
  obtain ⟨D, h1, _⟩ := h
  exact h1.lt
theorem MapV.ne {w : World} {b g : Nat} {ends : List (List UInt8 × Nat)} (h : MapV w b ends) {cs : Array Value} {t : TypeId} {fr : Nat × Nat} (hg : w.heap[g]? = some (.cells cs t fr)) : b ≠ g := by
  obtain ⟨D, ⟨es, clock, h1, _⟩, _⟩ := h
  intro e
  rw [e, hg] at h1
  cases h1
theorem owns_ne {w : World} {B b n : Nat} {e : TypeId} {size : Nat} {v : Value} {xs : List Value} {ends : List (List UInt8 × Nat)} (h : MapV w b ends) (ho : w.ownsRow B e size v n xs) : v.ownBlock ≠ some b := by
  rcases ho.2 with ⟨h1, _⟩ | ⟨g, cap, cur, h1, _, h3, _⟩
  · rw [h1]; simp [Value.ownBlock]
  · rw [h1]
    intro e
    simp [Value.ownBlock] at e
    exact h.ne h3 e.symm

/-- the packing in block pb, its map in block mb, all from block B on -/
structure PkV (w : World) (B pb mb : Nat) (bv : Value) (st : List UInt8 × List (List UInt8 × Nat)) : Prop where
  blk : Blk w pb #[bv, .map (some mb)] 70
  row : w.ownsRow B 5 1 bv st.1.length (byC st.1)
  map : MapV w mb st.2
  nb : bv.ownBlock ≠ some pb
  hp : B ≤ pb
  hm : B ≤ mb

/-- behind one append of bytes: u: how the row's value has come about -/
theorem PkV.app {w w1 w2 : World} {B pb mb : Nat} {bv : Value} {st : List UInt8 × List (List UInt8 × Nat)} (h : PkV w B pb mb bv st) (hs : w.heap.size ≤ w1.heap.size) (hk1 : ∀ k, k < w.heap.size → w1.heap[k]? = w.heap[k]?) (ho : w1.os = w.os ∧ w1.tape = w.tape ∧ w1.output = w.output)
    (m : List UInt8) (v : Value) (hown : w2.ownsRow B 5 1 v (st.1.length + m.length) (byC st.1 ++ byC m)) (hg : w1.grownBy w2 bv.ownBlock) (hv : v.ownBlock = bv.ownBlock ∨ ∃ g, v.ownBlock = some g ∧ w.heap.size ≤ g) :
    PkV (w2.setCell ⟨pb, 0, none⟩ v) B pb mb v (st.1 ++ m, st.2) ∧ Below B w (w2.setCell ⟨pb, 0, none⟩ v) ∧ Blk w2 pb #[bv, .map (some mb)] 70 := by
  have hpl := h.blk.lt
  have hml := h.map.lt
  have hsz := hg.size
  have hk2 : ∀ k, k < w.heap.size → some k ≠ bv.ownBlock → w2.heap[k]? = w.heap[k]? := fun k k1 k2 => by rw [hg.block k (by omega) k2]; exact hk1 k k1
  have hb2 : Blk w2 pb #[bv, .map (some mb)] 70 := by
    have := h.blk
    unfold Blk at *
    rw [hk2 pb hpl (fun e => h.nb e.symm)]; exact this
  have hnm : mb ≠ pb := h.map.ne h.blk
  have hvp : v.ownBlock ≠ some pb := by
    rcases hv with hv | ⟨g, hv, hg2⟩
    · rw [hv]; exact h.nb
    · rw [hv]; intro e; cases e; omega
  refine ⟨⟨hb2.set 0 _, ?_, ?_, hvp, h.hp, h.hm⟩, ⟨hg.os.trans ho.1, hg.tape.trans ho.2.1, hg.output.trans ho.2.2, by simp [World.setCell]; omega, fun k hk => ?_⟩, hb2⟩
  · have : byC (st.1 ++ m) = byC st.1 ++ byC m := by simp [byC]
    rw [List.length_append, this]
    exact owns_blocks hown fun k e => Below.heap_setCell _ _ _ _ (fun e2 => hvp (by rw [e, e2]))
  · refine h.map.of ?_
    rw [Below.heap_setCell _ _ _ _ hnm]
    exact hk2 mb hml (fun e => owns_ne h.map h.row e.symm)
  · have := h.hp
    rw [Below.heap_setCell _ _ _ _ (by simp only; omega)]
    exact hk2 k (by omega) (fun e => by have := (h.row.lt k e.symm).1; omega)

def PkPost (B pb mb : Nat) (st : List UInt8 × List (List UInt8 × Nat)) (w : World) (e : Ending) (w' : World) : Prop :=
  e = .returned (.tuple #[]) ∧ Below B w w' ∧ ∃ bv, PkV w' B pb mb bv st

/-- behind one append of some bytes that lay in a block of their own -/
theorem PkV.app1 {w w2 : World} {B pb mb g cap : Nat} {bv : Value} {st : List UInt8 × List (List UInt8 × Nat)} (h : PkV w B pb mb bv st) (ob : Obj) (m : List UInt8) (hown : w2.ownsRow B 5 1 (.slice (some ⟨g, 0, none⟩) (st.1.length + m.length) cap) (st.1.length + m.length) (byC st.1 ++ byC m))
    (hg : (w.alloc ob).grownBy w2 bv.ownBlock) (hat : bv.ownBlock = some g ∨ g = w.heap.size + 1) :
    PkV (w2.setCell ⟨pb, 0, none⟩ (.slice (some ⟨g, 0, none⟩) (st.1.length + m.length) cap)) B pb mb (.slice (some ⟨g, 0, none⟩) (st.1.length + m.length) cap) (st.1 ++ m, st.2) ∧ Below B w (w2.setCell ⟨pb, 0, none⟩ (.slice (some ⟨g, 0, none⟩) (st.1.length + m.length) cap)) ∧ Blk w2 pb #[bv, .map (some mb)] 70 := by
  refine h.app (w1 := w.alloc ob) (by simp) (fun k hk => Below.heap_alloc _ _ _ hk) ⟨rfl, rfl, rfl⟩ m _ hown hg ?_
  rcases hat with e | e
  · exact Or.inl e.symm
  · exact Or.inr ⟨g, rfl, by omega⟩

theorem byC_one (n : Nat) (h : n < 256) : byC [UInt8.ofNat n] = [.int .u8 (n : Int)] := by
  simp only [byC, List.map_cons, List.map_nil]
  rw [UInt8.toNat_ofNat', Nat.mod_eq_of_lt (by omega)]

set_option maxRecDepth 100000 in
set_option maxHeartbeats 2000000 in
theorem write_calls (w : World) (B pb mb : Nat) (bv : Value) (st : List UInt8 × List (List UInt8 × Nat)) (h : PkV w B pb mb bv st) (lab : ByteArray) (hl : lab.size ≤ 15) (hst : st.1.length ≤ 100000) (hB : B ≤ w.heap.size) :
    Calls Tryd.prog 49 #[.pointer (some ⟨pb, 0, none⟩), .string lab] w fun e w' => PkPost B pb mb (st.1 ++ UInt8.ofNat lab.size :: lab.data.toList, st.2) w e w' := by
  obtain ⟨i0, hi0, hz0, hz1, hz2⟩ := info_parts3 Tryd.infoU8
  have c0 : w.cell? ⟨pb, 0, none⟩ = some bv := h.blk.cell 0
  have c0a : ∀ o, (w.alloc o).cell? ⟨pb, 0, none⟩ = some bv := fun o => (Blk.alloc h.blk o).cell 0
  have hpl := h.blk.lt
  have hpB := h.hp
  have HP := hid_of h
  have HO := hid_of h.row
  clear h
  go_enter Tryd.func49, Tryd.ntmps49
  go_wp2_with
    (at_builtin
     first
       | (refine wpList_append_lies _ rfl _ _ _ rfl B 5 i0 _ 1 1 Tryd.underlying39 hi0 hz0 hz1 hz2 rfl (by omega) bv st.1.length (byC st.1) rfl (HO.out.alloc _) ⟨w.heap.size, 0, none⟩ 1 1 [.int .u8 lab.size] rfl rfl (World.news_of_block (cs := #[.int .u8 lab.size]) (t := 5) (fr := (0, 0)) (heap_alloc_new w _)) (by simp [Value.oneCell']) (by omega) (by unfold maxLen; omega) (by omega) (by simp; omega) (w.heap.size + 1) (by simp) ?_
          intro g2 cap2 w2 hown2 hgrow2 hat2 hlt2
          have hA := HP.out.app1 (g := g2) (cap := cap2) _ [UInt8.ofNat lab.size] (by rw [byC_one _ (by omega)]; exact hown2) hgrow2 hat2
          simp only [List.length_singleton] at hA
          have c2 : w2.cell? ⟨pb, 0, none⟩ = some bv := hA.2.2.cell 0
          have f2 : w2.frozen? ⟨pb, 0, none⟩ = false := hA.2.2.frozen 0
          have hpl2 := hA.2.2.lt
          have HA := hid_of hA.1
          have HAB := hid_of hA.2.1
          clear hA hown2 hgrow2 hat2 hlt2)
       | (refine wpList_append_str _ rfl _ _ 39 9 rfl B 5 i0 Tryd.underlying39 Tryd.underlying9 hi0 hz0 hz1 hz2 (.slice (some ⟨g2, 0, none⟩) (st.1.length + 1) cap2) (st.1.length + 1) (byC (st.1 ++ [UInt8.ofNat lab.size])) rfl (by have h := HA.out.row; simp only [List.length_append, List.length_cons, List.length_nil] at h; exact h) lab rfl (by unfold maxLen; omega) (by omega) (by simp [World.setCell]; omega) ?_
          intro v5 w5 hown5 hgrow5 hx5
          have hB2 := HA.out.app (w1 := w2.setCell ⟨pb, 0, none⟩ (.slice (some ⟨g2, 0, none⟩) (st.1.length + 1) cap2)) (Nat.le_refl _) (fun k hk => rfl) ⟨rfl, rfl, rfl⟩ lab.data.toList v5 (by
            rw [size_list]
            simp only [List.length_append, List.length_cons, List.length_nil]
            exact hown5) hgrow5 (by
            rcases hx5 with h | h
            · exact Or.inl h
            · exact Or.inr ⟨_, h, Nat.le_refl _⟩)
          have c5 : w5.cell? ⟨pb, 0, none⟩ = some (.slice (some ⟨g2, 0, none⟩) (st.1.length + 1) cap2) := hB2.2.2.cell 0
          have f5 : w5.frozen? ⟨pb, 0, none⟩ = false := hB2.2.2.frozen 0
          have HB := hid_of hB2.1
          have HBB := hid_of hB2.2.1
          obtain ⟨np, capv, hv5⟩ := owns_slice hown5
          subst hv5
          clear hB2 hown5 hgrow5 hx5))
  go_end0
  refine ⟨rfl, HAB.out.trans HBB.out, ?_⟩
  have := HB.out
  simp only [List.append_assoc, List.cons_append, List.nil_append] at this
  exact ⟨_, this⟩

theorem byC_ptr (p : Nat) (h : p < 16384) : byC (ptrB p) = [.int .u8 (192 + (p : Int) / 256), .int .u8 ((p : Int) % 256)] := by
  simp only [ptrB, byC, List.map_cons, List.map_nil]
  rw [UInt8.toNat_ofNat', UInt8.toNat_ofNat', Nat.mod_eq_of_lt (a := 192 + p / 256) (by omega), Nat.mod_eq_of_lt (a := p % 256) (by omega)]
  simp

set_option maxRecDepth 100000 in
set_option maxHeartbeats 2000000 in
theorem point_calls (w : World) (B pb mb : Nat) (bv : Value) (st : List UInt8 × List (List UInt8 × Nat)) (h : PkV w B pb mb bv st) (p : Nat) (hp : p < 16384) (hst : st.1.length ≤ 100000) (hB : B ≤ w.heap.size) :
    Calls Tryd.prog 47 #[.pointer (some ⟨pb, 0, none⟩), .int .i64 p] w fun e w' => PkPost B pb mb (st.1 ++ ptrB p, st.2) w e w' := by
  obtain ⟨i0, hi0, hz0, hz1, hz2⟩ := info_parts3 Tryd.infoU8
  have c0 : w.cell? ⟨pb, 0, none⟩ = some bv := h.blk.cell 0
  have c0a : ∀ o, (w.alloc o).cell? ⟨pb, 0, none⟩ = some bv := fun o => (Blk.alloc h.blk o).cell 0
  have hpl := h.blk.lt
  have hpB := h.hp
  have HP := hid_of h
  have HO := hid_of h.row
  clear h
  go_enter Tryd.func47, Tryd.ntmps47
  go_wp2_with
    (at_builtin
     refine wpList_append_lies _ rfl _ _ _ rfl B 5 i0 _ 1 1 Tryd.underlying39 hi0 hz0 hz1 hz2 rfl (by omega) bv st.1.length (byC st.1) rfl (HO.out.alloc _) ⟨w.heap.size, 0, none⟩ 2 2 [.int .u8 (192 + (p : Int) / 256), .int .u8 ((p : Int) % 256)] rfl rfl (World.news_of_block (cs := #[.int .u8 (192 + (p : Int) / 256), .int .u8 ((p : Int) % 256)]) (t := 5) (fr := (0, 0)) (heap_alloc_new w _)) (by simp [Value.oneCell']) (by omega) (by unfold maxLen; omega) (by omega) (by simp; omega) (w.heap.size + 1) (by simp) ?_
     intro g2 cap2 w2 hown2 hgrow2 hat2 hlt2
     have hA := HP.out.app1 (g := g2) (cap := cap2) _ (ptrB p) (by rw [byC_ptr p hp]; exact hown2) hgrow2 hat2
     have c2 : w2.cell? ⟨pb, 0, none⟩ = some bv := hA.2.2.cell 0
     have f2 : w2.frozen? ⟨pb, 0, none⟩ = false := hA.2.2.frozen 0
     have HA := hid_of hA.1
     have HAB := hid_of hA.2.1
     clear hA hown2 hgrow2 hat2 hlt2)
  go_end0
  exact ⟨rfl, HAB.out, _, HA.out⟩

end Go.Proofs.YtmlkhhhjdpbhfaaDoor

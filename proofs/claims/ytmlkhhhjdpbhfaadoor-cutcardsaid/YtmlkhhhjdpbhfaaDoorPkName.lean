/- Contracts of isName (the program's) and of IsName, dot (the document's answer's). -/
import Derived.Test.YtmlkhhhjdpbhfaaDoorPkPlain
import Derived.Test.YtmlkhhhjdpbhfaaDoorUnRefL
import Derived.Test.YtmlkhhhjdpbhfaaDoorShelf
import Derived.Shelf.Strings.PiecesUse
namespace Go.Proofs.YtmlkhhhjdpbhfaaDoor
open Go.RowKit

/-- the library's variable MaxLen is some number -/
def MxW (w : World) : Prop := ∃ m, w.cell? ⟨1, 0, none⟩ = some (.int .i64 m)
theorem MxW.of {w w' : World} (h : MxW w) (hb : w'.heap[1]? = w.heap[1]?) : MxW w' := by
  obtain ⟨m, hm⟩ := h
  exact ⟨m, by rw [World.cell?_of_block (w := w) hb]; exact hm⟩
theorem MxW.lt {w : World} (h : MxW w) : 1 < w.heap.size := by
  obtain ⟨m, hm⟩ := h
  exact World.block_lt_of_cell? w _ hm
theorem MxW.below {w w' : World} {B : Nat} (h : MxW w) (hb : Below B w w') (hB : 1 < B) : MxW w' := h.of (hb.block 1 hB)

/-- are the first k pieces labels? -/
def lblTo (ps : List ByteArray) (k : Nat) : Bool := (ps.take k).all lblOk
theorem lblTo_succ (ps : List ByteArray) (k : Nat) (h : k < ps.length) : lblTo ps (k + 1) = (lblTo ps k && lblOk ps[k]) := by
  unfold lblTo
  rw [List.take_succ_eq_append_getElem h, List.all_append]
  simp
theorem lblTo_no (ps : List ByteArray) (k : Nat) (h : lblTo ps k = false) : ps.all lblOk = false := by
  rw [← List.take_append_drop k ps, List.all_append]
  unfold lblTo at h
  rw [h]; rfl

theorem nmOk_split (s : ByteArray) : nmOk s.data.toList = (decide (s.size ≤ 60) && (Lib.splitB dotB 0 (Lib.countB s dotB) s).all lblOk) := by
  unfold nmOk
  rw [size_list, ← split_dot s.size s (Nat.le_refl _), List.all_map]
  rfl

set_option maxRecDepth 100000 in
set_option maxHeartbeats 2000000 in
theorem isName_calls (s : ByteArray) (hs : s.size ≤ maxLen) (w : World) (hM : MxW w) :
    Calls Tryd.prog 28 #[.string s] w fun e w' => e = .returned (.bool (nmOk s.data.toList)) ∧ Below w.heap.size w w' := by
  have HN := hid_of (nmOk_split s)
  unfold maxLen at hs
  by_cases h60 : 60 < s.size
  · have h60' : 60 < (s.size : Int) := by omega
    go_enter Tryd.func28, Tryd.ntmps28
    go_wp2_with fail
    go_ret
    exact ⟨ret_bool (by rw [HN.out, decide_eq_false (by omega)]; rfl), Below.refl _ _⟩
  have h60' : ¬ 60 < (s.size : Int) := by omega
  obtain ⟨m, hm⟩ := hM
  have HS := hid_of (Tryd.strings_Split s dotB m w (by omega) hm (by decide))
  have hlen := Lib.splitB_all dotB (by decide) 0 (Lib.countB s dotB) s rfl
  have hlb : Lib.countB s dotB + 1 ≤ 100 := by
    have h1 := split_dot s.size s (Nat.le_refl _)
    have h2 : ∀ l : List UInt8, (pieces l).length ≤ l.length + 1 := by
      intro l
      induction l with
      | nil => simp [pieces]
      | cons c r ih =>
        rw [pieces_cons]
        split
        · simp; omega
        · split
          · rename_i h; rw [h] at ih; simp at ih ⊢; omega
          · simp
    have h3 := h2 s.data.toList
    rw [← h1, List.length_map, hlen, size_list] at h3
    omega
  go_enter Tryd.func28, Tryd.ntmps28
  go_wp2_with fail
  refine HS.out.mono ?_
  rintro e w1 ⟨rfl, hw1⟩
  generalize hps : Lib.splitB dotB 0 (Lib.countB s dotB) s = ps at *
  generalize hcn : Lib.countB s dotB = cn at *
  have HC := hid_of (p := ∀ j (h : j < ps.length), w1.cell? ⟨w.heap.size, j, none⟩ = some (.string ps[j])) (fun j h => by rw [hw1]; exact Lib.pieces_cell_at w ps _ j _ (List.getElem?_eq_getElem h))
  have HB1 := hid_of (p := Below w.heap.size w w1) (by rw [hw1]; exact (Below.refl _ _).alloc (Nat.le_refl _) _)
  have hz1 : w.heap.size < w1.heap.size := by rw [hw1]; simp
  have HLen := hid_of hlen
  have HPs := hid_of (p := ∀ j (h : j < ps.length), ps[j].size ≤ 60) (fun j h => by
    have h1 : ps[j] ∈ Lib.splitB dotB 0 cn s := by have h0 : ps[j] ∈ ps := List.getElem_mem h; exact Eq.mpr (congrArg (fun z => ps[j] ∈ z) hps) h0
    have h2 : ∀ k (x : ByteArray), ∀ y ∈ Lib.splitB dotB 0 k x, y.size ≤ x.size := by
      intro k
      induction k with
      | zero => intro x y hy; simp [Lib.splitB] at hy; rw [hy]; exact Nat.le_refl _
      | succ k ih =>
        intro x y hy
        unfold Lib.splitB at hy
        split at hy
        · simp at hy; rw [hy]; exact Nat.le_refl _
        · rcases List.mem_cons.1 hy with hy | hy
          · rw [hy, ByteArray.size_extract]; omega
          · have := ih _ _ hy
            rw [ByteArray.size_extract] at this
            omega
    have := h2 _ s ps[j] h1
    omega)
  clear hw1 hps hcn hm HS
  have hlen2 : ps.length = cn + 1 := HLen.out
  clear hlen
  have HL2 := hid_of hlen2
  clear hlen2
  simp only
  go_wp2_with fail
  go_loopw [11, 4] (fun v11 _ wr => ∃ (W : World) (j : Nat), W = wr ∧ v11 = .int .i64 j ∧ j ≤ cn + 1 ∧ Hid (lblTo ps j = true) ∧ Hid (Below w1.heap.size w1 W)) (fun v11 _ _ => cn + 1 - (intOf v11).toNat)
  case atStart => exact ⟨_, 0, rfl, rfl, by omega, (show lblTo ps 0 = true by rfl), Below.refl _ _⟩
  case round =>
    obtain ⟨wr, j, hwr, rfl, hj, h1, h2⟩ := hrel
    subst hwr
    by_cases hlt : j < cn + 1
    · have hlt' : (j : Int) < ((cn : Int) + 1) := by omega
      have hjl : j < ps.length := by rw [HL2.out]; exact hlt
      have cj : wr.cell? ⟨w.heap.size, j, none⟩ = some (.string ps[j]) := by
        rw [World.cell?_of_block (w := w1) (h2.out.block _ hz1)]; exact HC.out j hjl
      have HSu := hid_of (lblTo_succ ps j hjl)
      have hsj := HPs.out j hjl
      generalize hpj : ps[j] = pj at *
      clear hpj
      cases ho : lblOk pj
      · have HO := hid_of ho
        clear ho
        go_wp2_with fail
        refine (isLabel_calls pj (by omega) wr).mono ?_
        rintro e w2 ⟨rfl, hb2⟩
        have HB2 := hid_of hb2
        clear hb2
        rw [HO.out]
        simp only
        go_wp2_with fail
        go_ret
        refine ⟨ret_bool ?_, ?_⟩
        · rw [HN.out, lblTo_no ps (j + 1) (by rw [HSu.out, HO.out, Bool.and_false]), Bool.and_false]
        · have hs2 := h2.out.size
          exact (HB1.out.trans ⟨h2.out.os, h2.out.tape, h2.out.output, h2.out.size, fun k hk => h2.out.block k (by omega)⟩).trans ⟨HB2.out.os, HB2.out.tape, HB2.out.output, HB2.out.size, fun k hk => HB2.out.block k (by omega)⟩
      · have HO := hid_of ho
        clear ho
        go_wp2_with fail
        refine (isLabel_calls pj (by omega) wr).mono ?_
        rintro e w2 ⟨rfl, hb2⟩
        have HB2 := hid_of hb2
        clear hb2
        rw [HO.out]
        simp only
        go_wp2_with fail
        go_roundw
        case rel => exact ⟨w2, j + 1, rfl, by go_num, by omega, (show lblTo ps (j + 1) = true by rw [HSu.out, HO.out, h1.out]; rfl), (show Below w1.heap.size w1 w2 from h2.out.trans ⟨HB2.out.os, HB2.out.tape, HB2.out.output, HB2.out.size, fun k hk => HB2.out.block k (by have := h2.out.size; omega)⟩)⟩
        case measure => simp [intOf]; omega
    · have hlt' : ¬ (j : Int) < ((cn : Int) + 1) := by omega
      have HAll := hid_of (p := ps.all lblOk = true) (by
        have h3 := h1.out
        unfold lblTo at h3
        rwa [List.take_of_length_le (by rw [HL2.out]; omega)] at h3)
      go_wp2_with fail
      go_ret
      refine ⟨ret_bool ?_, ?_⟩
      · rw [HN.out, HAll.out, decide_eq_true (by omega)]; rfl
      · exact HB1.out.trans ⟨h2.out.os, h2.out.tape, h2.out.output, h2.out.size, fun k hk => h2.out.block k (by omega)⟩

end Go.Proofs.YtmlkhhhjdpbhfaaDoor

/- Contracts of the book's pack and of the law Packs. -/
import Derived.Test.YtmlkhhhjdpbhfaaDoorPkRef3
import Derived.Test.YtmlkhhhjdpbhfaaDoorUnLaw
import Derived.Test.YtmlkhhhjdpbhfaaDoorUnHold
import Derived.Laws.CopyOwn
import Derived.Laws.OwnMore
namespace Go.Proofs.YtmlkhhhjdpbhfaaDoor
open Go.RowKit

theorem RowS.below {w w' : World} {B : Nat} {v : Value} {l : List ByteArray} (h : RowS w v l) (hb : Below B w w') (hB : l ≠ [] → ∀ g, v.ownBlock = some g → g < B) : RowS w' v l := by
  rcases h with h | ⟨g, o, cap, h1, h2⟩
  · exact Or.inl h
  · refine Or.inr ⟨g, o, cap, h1, fun i hi => ?_⟩
    rw [World.cell?_of_block (w := w) (hb.block g (hB (fun e => by rw [e] at hi; simp at hi) g (by rw [h1]; rfl)))]
    exact h2 i hi

theorem Tryd.sizeStr : (Tryd.prog.info? 9).map (·.size) = some 1 := by kernel_rfl

/-- the list that is handed in: a row of its own, two more behind it -/
theorem made_world (w : World) (n : Nat) (h16 : n ≤ 8796093022000) : ∃ W cur, (Instr.makeSlice 24 (.int .i64 ((n : Int) + 2)) (.int .i64 ((n : Int) + 2))).run Tryd.prog w = .ok (.slice (some ⟨w.heap.size, 0, none⟩) (n + 2) (n + 2)) W ∧ Blk W w.heap.size cur 9 ∧ cur.size = n + 2 ∧ Below w.heap.size w W := by
  obtain ⟨i0, hi0, hz0, hz1, hz2⟩ := info_parts3 Tryd.infoStr
  obtain ⟨W, hr, ho, hg⟩ := run_make_full (P := Tryd.prog) w w.heap.size 24 9 i0 _ 1 Tryd.underlying24 hi0 hz0 hz1 .i64 .i64 (n + 2) (by rw [hz2]; omega) (by unfold maxLen; omega) (Nat.le_refl _)
  rcases ho.2 with ⟨h1, _⟩ | ⟨g, cap, cur, h1, _, h3, _, _, h6, _⟩
  · cases h1
  · injection h1 with e1 e2 e3
    injection e1 with e1
    injection e1 with e1
    subst e1 e3
    refine ⟨W, cur, ?_, h3, by omega, ⟨hg.os, hg.tape, hg.output, hg.size, fun k hk => hg.block k hk (by simp)⟩⟩
    rw [show (n : Int) + 2 = ((n + 2 : Nat) : Int) by omega]
    exact hr

/-- what copy leaves -/
theorem copy_world (w W1 : World) (v : Value) (l : List ByteArray) (hv : RowS w v l) (cur : Array Value) (hb : Blk W1 w.heap.size cur 9) (hcs : cur.size = l.length + 2) (hB : Below w.heap.size w W1) (hvB : l ≠ [] → ∀ g, v.ownBlock = some g → g < w.heap.size) :
    ∃ W2 cur2, (∀ ty, (Builtin.copy_ #[24, 24] ty #[.slice (some ⟨w.heap.size, 0, none⟩) (l.length + 2) (l.length + 2), v]).run Tryd.prog W1 = .ok (goInt l.length) W2) ∧ Blk W2 w.heap.size cur2 9 ∧ cur2.size = l.length + 2 ∧ (∀ i (h : i < l.length), cur2[i]? = some (.string l[i])) ∧ Below w.heap.size w W2 := by
  rcases hv with ⟨⟨sp, scap, rfl⟩, rfl⟩ | ⟨g, o, cap, rfl, hc⟩
  · exact ⟨W1, cur, fun ty => run_copy_none (P := Tryd.prog) W1 _ _ ty 9 _ _ _ _ _ _ Tryd.underlying24 Tryd.sizeStr (by simp), hb, hcs, fun i h => by simp at h, hB⟩
  · refine ⟨W1.setRow w.heap.size (cur.toList.take 0 ++ strC l ++ cur.toList.drop (0 + (strC l).length)).toArray, (cur.toList.take 0 ++ strC l ++ cur.toList.drop (0 + (strC l).length)).toArray, fun ty => ?_, ?_, ?_, ?_, ?_⟩
    · have := run_copy_row (P := Tryd.prog) W1 24 24 ty 9 w.heap.size 0 (l.length + 2) (l.length + 2) ⟨g, o, none⟩ l.length cap cur 9 (strC l) Tryd.underlying24 Tryd.sizeStr hb (by rw [strC_length]; exact (Nat.min_eq_left (by omega)).symm) (fun j u hu => ?_) (by rw [strC_length]; omega) (fun u hu => by
        simp only [strC, List.mem_map] at hu
        obtain ⟨x, _, rfl⟩ := hu
        rfl)
      · rw [this, strC_length]
      · have hj : j < l.length := by have := (List.getElem?_eq_some_iff.1 hu).1; rwa [strC_length] at this
        have hadd : (⟨g, o, none⟩ : Addr).add j = ⟨g, o + j, none⟩ := by unfold Addr.add; split <;> simp_all
        rw [hadd, World.cell?_of_block (w := w) (hB.block g (hvB (fun e => by rw [e] at hj; simp at hj) g rfl)), hc j hj]
        simp [strC, hj] at hu
        rw [← hu]
    · exact setRow_heap W1 w.heap.size cur _ 9 (0, 0) hb
    · simp [strC_length]; omega
    · intro i h
      rw [List.getElem?_toArray, List.take_zero, List.nil_append, List.getElem?_append_left (by rw [strC_length]; exact h)]
      simp [strC, h]
    · exact hB.trans ⟨rfl, rfl, rfl, by simp [World.setRow], fun k hk => setRow_other W1 _ k _ (by omega)⟩

def callerB : ByteArray := ⟨#[116, 104, 101, 32, 99, 97, 108, 108, 101, 114, 39, 115]⟩

/-- the block of the list that was handed in, its two last places written -/
theorem full_row {W : World} {g : Nat} {cur : Array Value} {l : List ByteArray} (hb : Blk W g cur 9) (hcs : cur.size = l.length + 2) (hc : ∀ i (h : i < l.length), cur[i]? = some (.string l[i])) (B : Nat) (hB : B ≤ g) (hl : l.length ≤ 8796093022000) :
    ((W.setCell ⟨g, l.length, none⟩ (.string callerB)).setCell ⟨g, l.length + 1, none⟩ (.string callerB)).ownsRow B 9 1 (.slice (some ⟨g, 0, none⟩) (l.length + 2) (l.length + 2)) (l ++ [callerB, callerB]).length (strC (l ++ [callerB, callerB])) := by
  have h2 := (hb.set l.length (.string callerB)).set (l.length + 1) (.string callerB)
  refine ⟨by simp [strC], Or.inr ⟨g, l.length + 2, _, by simp, hB, h2, by simp, by unfold maxLen; omega, by simp; omega, ?_⟩⟩
  apply List.ext_getElem?
  intro j
  rw [List.getElem?_take]
  by_cases hj : j < l.length + 2
  · rw [if_pos (by simp; omega), Array.getElem?_toList, Array.getElem?_setIfInBounds, Array.getElem?_setIfInBounds]
    have hs : (strC (l ++ [callerB, callerB])) = strC l ++ [.string callerB, .string callerB] := by simp [strC]
    rw [hs]
    by_cases h1 : l.length + 1 = j
    · subst h1
      rw [if_pos rfl, if_pos (by simp; omega), List.getElem?_append_right (by rw [strC_length]; omega), strC_length, show l.length + 1 - l.length = 1 by omega]
      rfl
    · rw [if_neg h1]
      by_cases h3 : l.length = j
      · subst h3
        rw [if_pos rfl, if_pos (by omega), List.getElem?_append_right (by rw [strC_length]; omega), strC_length, Nat.sub_self]
        rfl
      · rw [if_neg h3, List.getElem?_append_left (by rw [strC_length]; omega), hc j (by omega)]
        simp [strC]
        rw [List.getElem?_eq_getElem (by omega)]
        rfl
  · rw [if_neg (by simp; omega), List.getElem?_eq_none (by simp [strC]; omega)]

set_option maxRecDepth 100000 in
set_option maxHeartbeats 4000000 in
theorem bpack_calls (w : World) (bb : Nat) (lv mv v : Value) (ls : List (Value × ByteArray)) (l : List ByteArray) (hB : BookV w bb lv mv (ls.map Prod.fst) (ls.map Prod.snd) ls) (hl : ls.length ≤ 100) (hv : RowS w v l) (hvB : l ≠ [] → ∀ g, v.ownBlock = some g → g < bb) (hn : l.length ≤ 8796093021960) (hsz : ∀ b ∈ l, b.size ≤ maxLen) (hM : MxW w) (hbb : 1 < bb) :
    Calls Tryd.prog 8 #[.pointer (some ⟨bb, 0, none⟩), v] w fun e w' => e = .returned (.bool true) ∧ Below bb w w' ∧ ∃ lv mv ls', BookV w' bb lv mv (ls'.map Prod.fst) (ls'.map Prod.snd) ls' ∧ ls'.length = ls.length + 4 := by
  have hbl := hB.blk.lt
  obtain ⟨p, cap, hpv⟩ := hv.form
  obtain ⟨W1, cur1, hmk, hb1, hcs1, hbel1⟩ := made_world w l.length (by omega)
  obtain ⟨W2, cur2, hcp, hb2, hcs2, hc2, hbel2⟩ := copy_world w W1 v l hv cur1 hb1 hcs1 hbel1 (fun hl g e => by have := hvB hl g e; omega)
  have HRow4 := hid_of (full_row hb2 hcs2 hc2 w.heap.size (Nat.le_refl _) (by omega))
  have cA : W2.cell? ⟨w.heap.size, l.length, none⟩ = cur2[l.length]? := hb2.cell _
  have cB : W2.cell? ⟨w.heap.size, l.length + 1, none⟩ = cur2[l.length + 1]? := hb2.cell _
  have hA0 : cur2[l.length]? = some cur2[l.length] := Array.getElem?_eq_getElem _
  have hB0 : cur2[l.length + 1]? = some cur2[l.length + 1] := Array.getElem?_eq_getElem _
  rw [hA0] at cA
  rw [hB0] at cB
  generalize cur2[l.length] = uA at *
  generalize cur2[l.length + 1] = uB at *
  have fA : W2.frozen? ⟨w.heap.size, l.length, none⟩ = false := hb2.frozen _
  have fB : W2.frozen? ⟨w.heap.size, l.length + 1, none⟩ = false := hb2.frozen _
  have HB := hid_of hB
  have HV := hid_of hv
  have HVB := hid_of hvB
  have HSz := hid_of hsz
  have HM := hid_of hM
  have HBel2 := hid_of hbel2
  have HCp := hid_of hcp
  clear hB hv hvB hsz hM hbel2 hcp hb1 hcs1 hbel1 hb2 hc2 hA0 hB0
  have HCs := hid_of hcs2
  clear hcs2
  subst hpv
  go_enter Tryd.func8, Tryd.ntmps8
  have hcp3 := HCp.out 3
  go_wp2_with fail
  have hbel4 : Below w.heap.size w ((W2.setCell ⟨w.heap.size, l.length, none⟩ (.string callerB)).setCell ⟨w.heap.size, l.length + 1, none⟩ (.string callerB)) := (HBel2.out.setCell (p := ⟨w.heap.size, l.length, none⟩) (Nat.le_refl _) _).setCell (p := ⟨w.heap.size, l.length + 1, none⟩) (Nat.le_refl _) _
  have HBel4 := hid_of hbel4
  clear hbel4 hcp3 hmk cA cB fA fB
  generalize hW4 : (W2.setCell ⟨w.heap.size, l.length, none⟩ (.string callerB)).setCell ⟨w.heap.size, l.length + 1, none⟩ (.string callerB) = W4 at HRow4 HBel4
  change Calls _ _ _ ((W2.setCell ⟨w.heap.size, l.length, none⟩ (.string callerB)).setCell ⟨w.heap.size, l.length + 1, none⟩ (.string callerB)) _
  rw [hW4]
  clear hW4
  have hcell4 : ∀ i (h : i < l.length + 2), W4.cell? ⟨w.heap.size, i, none⟩ = some (.string ((l ++ [callerB, callerB])[i]'(by simp; omega))) := fun i h => by
    have := World.ownsRow.cells HRow4.out (g := w.heap.size) rfl i (.string ((l ++ [callerB, callerB])[i]'(by simp; omega))) (by simp only [strC, List.getElem?_map]; rw [List.getElem?_eq_getElem (by simp; omega)]; rfl)
    rwa [add0] at this
  have HCell4 := hid_of hcell4
  clear hcell4
  have HRowS := hid_of (p := RowS W4 (.slice (some ⟨w.heap.size, 0, none⟩) l.length (l.length + 2)) l) (Or.inr ⟨_, 0, _, rfl, fun i h => by
    have := HCell4.out i (by omega)
    rw [Nat.zero_add, this]
    congr 2
    exact List.getElem_append_left h⟩)
  have hs4 := HBel4.out.size
  have hlt4 : w.heap.size < W4.heap.size := (HRow4.out.lt _ rfl).2
  refine (packNames_calls W4 _ l HRowS.out (by unfold maxLen; omega) HSz.out (HM.out.below HBel4.out (by omega))).mono ?_
  rintro e w5 ⟨rfl, hb5⟩
  have HB5 := hid_of hb5
  clear hb5
  have HE5 := hid_of (p := Below w.heap.size w w5) (HBel4.out.trans ⟨HB5.out.os, HB5.out.tape, HB5.out.output, HB5.out.size, fun k hk => HB5.out.block k (by omega)⟩)
  simp only
  go_wp2_with fail
  refine (packR_calls w5 (.slice p l.length cap) l (HV.out.below HE5.out (fun hl g e => by have := HVB.out hl g e; omega)) (by unfold maxLen; omega) HSz.out).mono ?_
  rintro e w6 ⟨rfl, hb6⟩
  have HB6 := hid_of (p := Below W4.heap.size W4 w6) (HB5.out.trans ⟨hb6.os, hb6.tape, hb6.output, hb6.size, fun k hk => hb6.block k (by have := HB5.out.size; omega)⟩)
  clear hb6
  have HE6 := hid_of (p := Below w.heap.size w w6) (HBel4.out.trans ⟨HB6.out.os, HB6.out.tape, HB6.out.output, HB6.out.size, fun k hk => HB6.out.block k (by omega)⟩)
  simp only
  go_wp2_with fail
  refine (sameTexts_calls w6 _ _ l (HRowS.out.below HB6.out (fun _ g e => by cases e; exact hlt4)) (HV.out.below HE6.out (fun hl g e => by have := HVB.out hl g e; omega)) (by unfold maxLen; omega)).mono ?_
  rintro e w7 ⟨rfl, n7, hw7⟩
  have HB7 := hid_of (p := Below W4.heap.size W4 w7) (by rw [hw7]; exact HB6.out.trans ⟨rfl, rfl, rfl, Nat.le_refl _, fun _ _ => rfl⟩)
  clear hw7
  have HE7 := hid_of (p := Below w.heap.size w w7) (HBel4.out.trans ⟨HB7.out.os, HB7.out.tape, HB7.out.output, HB7.out.size, fun k hk => HB7.out.block k (by omega)⟩)
  have cA : w7.cell? ⟨w.heap.size, l.length, none⟩ = some (.string callerB) := by
    rw [World.cell?_of_block (w := W4) (HB7.out.block _ hlt4), HCell4.out l.length (by omega)]
    congr 2
    rw [List.getElem_append_right (Nat.le_refl _)]; simp
  have cB : w7.cell? ⟨w.heap.size, l.length + 1, none⟩ = some (.string callerB) := by
    rw [World.cell?_of_block (w := W4) (HB7.out.block _ hlt4), HCell4.out (l.length + 1) (by omega)]
    congr 2
    rw [List.getElem_append_right (by omega)]; simp
  have HOwn7 := hid_of (p := w7.ownsRow w.heap.size 9 1 (.slice (some ⟨w.heap.size, 0, none⟩) (l.length + 2) (l.length + 2)) (l ++ [callerB, callerB]).length (strC (l ++ [callerB, callerB]))) (owns_blocks HRow4.out fun g e => by cases e; exact HB7.out.block _ hlt4)
  have hcl : callerB.toList = [116, 104, 101, 32, 99, 97, 108, 108, 101, 114, 39, 115] := by rw [ByteArray.toList_eq]; rfl
  simp only
  go_wp2_with fail
  refine (keep_calls w7 bb lv mv _ ls (l ++ [callerB, callerB]) (HB.out.below HE7.out) (owns_low HOwn7.out (by omega)) ?_ ?_ ?_ hl (by simp; omega)).mono ?_
  · intro g e e2
    simp [Value.ownBlock] at e
    have := (HB.out.rl.lt _ e2).2
    omega
  · intro g e e2
    simp [Value.ownBlock] at e
    have := (HB.out.rm.lt _ e2).2
    omega
  · intro q hq g e e2
    simp [Value.ownBlock] at e2
    have := ((HB.out.ok q hq).2.2.2 _ e).2
    omega
  rintro e w8 ⟨rfl, hb8, lv', mv', ls', hB8, hl8⟩
  have HB8 := hid_of hB8
  have HL8 := hid_of hl8
  have HE8 := hid_of (p := Below bb w w8) ((show Below bb w w7 from ⟨HE7.out.os, HE7.out.tape, HE7.out.output, HE7.out.size, fun k hk => HE7.out.block k (by omega)⟩).trans hb8)
  clear hB8 hl8 hb8
  simp only
  go_wp2_with (go_at_call 16; refine (numT_calls _ _).mono ?_; rintro e w' ⟨rfl, rfl⟩)
  go_ret
  refine ⟨by simp, HE8.out, _, _, _, HB8.out, HL8.out⟩

set_option maxRecDepth 100000 in
set_option maxHeartbeats 4000000 in
theorem packs_calls (w : World) (v1 v2 : Value) (l1 l2 : List ByteArray) (h1 : RowS w v1 l1) (h2 : RowS w v2 l2) (hn1 : l1.length ≤ 8796093021960) (hn2 : l2.length ≤ 8796093021960) (hs1 : ∀ b ∈ l1, b.size ≤ maxLen) (hs2 : ∀ b ∈ l2, b.size ≤ maxLen) (hM : MxW w) :
    Calls Tryd.prog 4 #[v1, v2] w fun e w' => e = .returned (.bool true) ∧ Below w.heap.size w w' := by
  have h1w := hM.lt
  have hb0 : Below w.heap.size w (w.alloc (.cells #[.slice none 0 0, .slice none 0 0] 28)) := (Below.refl _ _).alloc (Nat.le_refl _) _
  have hB0 : BookV (w.alloc (.cells #[.slice none 0 0, .slice none 0 0] 28)) w.heap.size (.slice none 0 0) (.slice none 0 0) (([] : List (Value × ByteArray)).map Prod.fst) (([] : List (Value × ByteArray)).map Prod.snd) [] :=
    ⟨Blk.new w _ _, World.ownsRow_nil _ _ _ _, World.ownsRow_nil _ _ _ _, fun g e => by simp [Value.ownBlock] at e, fun q hq => by simp at hq⟩
  have HB0 := hid_of hB0
  have HBel0 := hid_of hb0
  have HR1 := hid_of h1
  have HR2 := hid_of h2
  have HV1 := hid_of (p := l1 ≠ [] → ∀ g, v1.ownBlock = some g → g < w.heap.size) h1.lt
  have HV2 := hid_of (p := l2 ≠ [] → ∀ g, v2.ownBlock = some g → g < w.heap.size) h2.lt
  have HS1 := hid_of hs1
  have HS2 := hid_of hs2
  have HM := hid_of hM
  clear hB0 hb0 h1 h2 hs1 hs2 hM
  go_enter Tryd.func4, Tryd.ntmps4
  go_wp2_with fail
  refine (bpack_calls _ w.heap.size _ _ v1 [] l1 HB0.out (by simp) (HR1.out.below HBel0.out HV1.out) HV1.out hn1 HS1.out (HM.out.below HBel0.out h1w) h1w).mono ?_
  rintro e w1 ⟨rfl, hb1, lv1, mv1, ls1, hB1, hl1⟩
  have HB1 := hid_of hB1
  have HL1 := hid_of hl1
  have HE1 := hid_of (HBel0.out.trans hb1)
  clear hB1 hl1 hb1
  simp only
  go_wp2_with fail
  refine (bpack_calls _ w.heap.size _ _ v2 ls1 l2 HB1.out (by rw [HL1.out]; simp) (HR2.out.below HE1.out HV2.out) HV2.out hn2 HS2.out (HM.out.below HE1.out h1w) h1w).mono ?_
  rintro e w2 ⟨rfl, hb2, lv2, mv2, ls2, hB2, hl2⟩
  have HB2 := hid_of hB2
  have HL2 := hid_of hl2
  have HE2 := hid_of (HE1.out.trans hb2)
  clear hB2 hl2 hb2
  simp only
  go_wp2_with fail
  refine (bpack_calls _ w.heap.size _ _ v1 ls2 l1 HB2.out (by rw [HL2.out, HL1.out]; simp) (HR1.out.below HE2.out HV1.out) HV1.out hn1 HS1.out (HM.out.below HE2.out h1w) h1w).mono ?_
  rintro e w3 ⟨rfl, hb3, lv3, mv3, ls3, hB3, hl3⟩
  have HB3 := hid_of hB3
  have HL3 := hid_of hl3
  have HE3 := hid_of (HE2.out.trans hb3)
  clear hB3 hl3 hb3
  simp only
  go_wp2_with fail
  refine (holds_calls _ w.heap.size _ _ ls3 HB3.out (by rw [HL3.out, HL2.out, HL1.out]; simp)).mono ?_
  rintro e w4 ⟨rfl, n4, hw4⟩
  have HW4 := hid_of hw4
  clear hw4
  simp only
  go_wp2_with fail
  go_ret
  refine ⟨rfl, ?_⟩
  rw [HW4.out]
  exact HE3.out.trans ⟨rfl, rfl, rfl, Nat.le_refl _, fun _ _ => rfl⟩

end Go.Proofs.YtmlkhhhjdpbhfaaDoor

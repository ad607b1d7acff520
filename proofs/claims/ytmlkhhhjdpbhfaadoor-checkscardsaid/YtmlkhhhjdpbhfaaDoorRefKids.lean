import Derived.Test.YtmlkhhhjdpbhfaaDoorRefLeaf
import Derived.Test.YtmlkhhhjdpbhfaaDoorPlainRef
import Derived.Test.YtmlkhhhjdpbhfaaDoorHeap
import Derived.Deep.RegionHeld3
import Derived.Deep.LoopGhost
import Derived.Deep.DeepCutAuto
import Derived.Deep.DrawnRows
/- Contracts of among, often and kids of the document's answer. -/
namespace Go.Proofs.YtmlkhhhjdpbhfaaDoor
open Go.RowKit

/-- a slice of these numbers -/
def Ints (w : World) (v : Value) (l : List Nat) : Prop :=
  (v = .slice none 0 0 ∧ l = []) ∨ ∃ g cap, v = .slice (some ⟨g, 0, none⟩) l.length cap ∧ g < w.heap.size ∧ l.length ≤ cap ∧ cap ≤ maxLen ∧ ∀ j, j < l.length → w.cell? ⟨g, j, none⟩ = some (.int .i64 (l.getD j 0 : Nat))

theorem Ints.below {w w' : World} {v : Value} {l : List Nat} (h : Ints w v l) (hb : Below w.heap.size w w') : Ints w' v l := by
  rcases h with h | ⟨g, cap, rfl, hg, h1, h2, h3⟩
  · exact Or.inl h
  · exact Or.inr ⟨g, cap, rfl, by have := hb.size; omega, h1, h2, fun j hj => by rw [hb.cell (p := ⟨g, j, none⟩) hg]; exact h3 j hj⟩

/-- a grammar of the document's answer in memory -/
structure Grm (w : World) (gb g c : Nat) (fi tw : Value) (its : List It) : Prop where
  blk : Blk w gb #[.slice (some ⟨g, 0, none⟩) its.length c, fi, tw] 58
  lt : g < w.heap.size
  cell : ∀ k q, k < its.length → q < 9 → w.cell? ⟨g, k * 9 + q, none⟩ = ((itd its k).off k).cells[q]?

theorem Grm.below {w w' : World} {gb g c : Nat} {fi tw : Value} {its : List It} (h : Grm w gb g c fi tw its) (hb : Below w.heap.size w w') : Grm w' gb g c fi tw its :=
  ⟨h.blk.below hb h.blk.lt, by have := hb.size; have := h.lt; omega, fun k q hk hq => by rw [hb.cell (p := ⟨g, k * 9 + q, none⟩) h.lt]; exact h.cell k q hk hq⟩

theorem Grm.c {w : World} {gb g c : Nat} {fi tw : Value} {its : List It} (h : Grm w gb g c fi tw its) (k : Nat) (hk : k < its.length) : w.cell? ⟨g, k * 9, none⟩ = some (.int .u8 (itd its k).c) := by
  have := h.cell k 0 hk (by omega); simpa [It.cells, It.off] using this
theorem Grm.nx {w : World} {gb g c : Nat} {fi tw : Value} {its : List It} (h : Grm w gb g c fi tw its) (hwf : Wf its) (k : Nat) (hk : k < its.length) : w.cell? ⟨g, k * 9 + 6, none⟩ = some (.int .i64 (nxt its k : Nat)) := by
  have := h.cell k 6 hk (by omega)
  rw [this]
  have hp := (hwf.pos k hk).1
  simp [It.cells, It.off, nxt]
  omega
theorem Grm.top {w : World} {gb g c : Nat} {fi tw : Value} {its : List It} (h : Grm w gb g c fi tw its) : w.cell? ⟨gb, 0, none⟩ = some (.slice (some ⟨g, 0, none⟩) its.length c) := h.blk.cell 0

set_option maxHeartbeats 1000000 in
theorem among_calls (v : Value) (l : List Nat) (k : Nat) (w : World) (hl : Ints w v l) (hlen : l.length ≤ 2000000) (_hk : k ≤ 100000) (hlk : ∀ x, x ∈ l → x ≤ 100000) :
    Calls Tryd.prog 42 #[v, .int .i64 k] w fun e w' => e = .returned (.bool (memB l k)) ∧ w' = w := by
  obtain ⟨ao, cap, rfl, hcell⟩ : ∃ ao cap, v = .slice ao l.length cap ∧ (∀ j, j < l.length → ∃ g, ao = some ⟨g, 0, none⟩ ∧ w.cell? ⟨g, j, none⟩ = some (.int .i64 (l.getD j 0 : Nat))) := by
    rcases hl with ⟨rfl, rfl⟩ | ⟨g, cap, rfl, _, _, _, h⟩
    · exact ⟨none, 0, rfl, fun j hj => by simp at hj⟩
    · exact ⟨_, _, rfl, fun j hj => ⟨g, rfl, h j hj⟩⟩
  have HC : Hid (∀ j, j < l.length → ∃ g, ao = some ⟨g, 0, none⟩ ∧ w.cell? ⟨g, j, none⟩ = some (.int .i64 (l.getD j 0 : Nat))) := hcell
  clear hcell hl
  have HK : Hid (∀ x, x ∈ l → x ≤ 100000) := hlk
  clear hlk
  go_enter Tryd.func42, Tryd.ntmps42
  go_wp2
  go_loop [5] (fun i => ∃ j : Nat, j ≤ l.length ∧ i = .int .i64 j ∧ Hid (memB (l.take j) k = false)) (fun i => l.length - (intOf i).toNat)
  case atStart => exact ⟨0, Nat.zero_le _, rfl, (show memB (l.take 0) k = false by simp [memB])⟩
  case round =>
    obtain ⟨j, hj, rfl, hf⟩ := hrel
    by_cases hlt : j < l.length
    · obtain ⟨g, rfl, hc⟩ := HC.out j hlt
      have hx0 := HK.out (l.getD j 0) (by rw [getD_lt _ _ _ hlt]; exact List.getElem_mem hlt)
      have hts : l.take (j + 1) = l.take j ++ [l.getD j 0] := by rw [List.take_succ_eq_append_getElem hlt, getD_lt _ _ _ hlt]
      have HT : Hid (l.take (j + 1) = l.take j ++ [l.getD j 0]) := hts
      clear hts
      have hmem : Hid (l.getD j 0 ∈ l) := by
        have : l.getD j 0 ∈ l := by rw [getD_lt _ _ _ hlt]; exact List.getElem_mem hlt
        exact this
      generalize l.getD j 0 = x at *
      by_cases he : x = k
      · have heb : ((x : Int) == (k : Int)) = true := by simp; omega
        have HR : Hid (memB l k = true) := by
          have : memB l k = true := by rw [← he]; simpa [memB] using hmem.out
          exact this
        clear he
        go_wp2
        go_ret
        exact ⟨ret_bool HR.out.symm, rfl⟩
      · have heb : ((x : Int) == (k : Int)) = false := by simp; omega
        have HN : Hid (memB (l.take (j + 1)) k = false) := by
          have : memB (l.take (j + 1)) k = false := by
            have h1 := hf.out
            rw [HT.out]
            simp only [memB, decide_eq_false_iff_not, List.mem_append, List.mem_singleton] at h1 ⊢
            intro h
            rcases h with h | h
            · exact h1 h
            · exact he h.symm
          exact this
        clear he
        go_wp2
        exact ⟨⟨j + 1, by omega, by go_num, HN⟩, by simp [intOf]; omega⟩
    · go_wp2
      go_ret
      exact ⟨ret_bool (by have := hf.out; rw [List.take_of_length_le (by omega)] at this; rw [this]), rfl⟩

end Go.Proofs.YtmlkhhhjdpbhfaaDoor

/- The contract of kids of the document's answer. -/
namespace Go.Proofs.YtmlkhhhjdpbhfaaDoor
open Go.RowKit

theorem Tryd.infoInt : (Tryd.prog.info? 3).map (fun i => (i.zero, i.size, i.bytes)) = some (some (.int .i64 0), 1, 8) := by kernel_rfl

def intsL (l : List Nat) : List Value := l.map fun x => .int .i64 (x : Nat)

theorem Ints.of_own {w : World} {B : Nat} {v : Value} {l : List Nat} (h : w.ownsRow B 3 1 v l.length (intsL l)) : Ints w v l := by
  rcases h.2 with ⟨rfl, h0⟩ | ⟨g, cap, cur, rfl, hb, hg, hn, hm, hs, ht⟩
  · exact Or.inl ⟨rfl, List.eq_nil_of_length_eq_zero h0⟩
  · refine Or.inr ⟨g, cap, rfl, (Array.getElem?_eq_some_iff.1 hg).1, hn, hm, fun j hj => ?_⟩
    rw [h.cellAt j (by omega)]
    simp [intsL, hj]

set_option maxRecDepth 100000 in
set_option maxHeartbeats 2000000 in
theorem kids_calls (w : World) (gb g c : Nat) (fi tw : Value) (its : List It) (hG : Grm w gb g c fi tw its) (hwf : Wf its) (hlen : its.length ≤ 1000) (k : Nat) (hk : k < its.length) :
    Calls Tryd.prog 41 #[.pointer (some ⟨gb, 0, none⟩), .int .i64 k] w fun e w' => ∃ v, e = .returned v ∧ Ints w' v (kidsV its k) ∧ Below w.heap.size w w' := by
  obtain ⟨i0, hi0, hz0, hz1, hz2⟩ := info_parts Tryd.infoInt
  have hp := hwf.pos k hk
  have hnk : nxt its k ≤ its.length := by unfold nxt; omega
  have HG : Hid (Grm w gb g c fi tw its) := hG
  have HW : Hid (Wf its) := hwf
  have hgl := hG.lt
  have hgbl := hG.blk.lt
  clear hG hwf
  go_enter Tryd.func41, Tryd.ntmps41
  go_wp2_with fail
  go_loopw [5, 6] (fun vl vi wr => ∃ (i f : Nat) (acc : List Nat) (v : Value), vi = .int .i64 i ∧ v = vl ∧ i ≤ its.length ∧ its.length + 1 ≤ f + i ∧ acc.length ≤ i ∧ Hid (wr.ownsRow w.heap.size 3 1 v acc.length (intsL acc)) ∧ Hid (Below w.heap.size w wr) ∧ Hid (kidsV its k = acc ++ stepsV its (nxt its k) f i)) (fun _ vi _ => its.length - (intOf vi).toNat)
  case atStart =>
    exact ⟨k + 1, its.length, [], _, by go_num, rfl, by omega, by omega, by simp, World.ownsRow_nil _ _ _ _, Below.refl _ _, (by simp [kidsV] : kidsV its k = [] ++ stepsV its (nxt its k) its.length (k + 1))⟩
  case round =>
    obtain ⟨i, f, acc, vl, rfl, rfl, hi, hf, hacc, hown, hbel, heq⟩ := hrel
    have hGr := HG.out.below hbel.out
    have hsz := hbel.out.size
    have c0 : wr.cell? ⟨gb, 0, none⟩ = some (.slice (some ⟨g, 0, none⟩) its.length c) := hGr.top
    have cN : wr.cell? ⟨g, k * 9 + 6, none⟩ = some (.int .i64 (nxt its k : Nat)) := hGr.nx HW.out k hk
    have HGr : Hid (Grm wr gb g c fi tw its) := hGr
    clear hGr
    generalize nxt its k = lim at *
    by_cases hlt : i < lim
    · have hil : i < its.length := by omega
      have hpi := HW.out.pos i hil
      have hni : i < nxt its i := by unfold nxt; omega
      have hni2 : nxt its i ≤ its.length := by unfold nxt; omega
      have HS : Hid (kidsV its k = (acc ++ [i]) ++ stepsV its lim (f - 1) (nxt its i)) := by
        have : kidsV its k = (acc ++ [i]) ++ stepsV its lim (f - 1) (nxt its i) := by
          rw [heq.out, show f = (f - 1) + 1 by omega, stepsV, if_pos hlt]; simp
        exact this
      clear heq hpi
      go_wp2_with
        (at_builtin
         refine wpList_append_lies _ rfl _ _ _ rfl w.heap.size 3 i0 _ 1 8 Tryd.underlying56 hi0 hz0 hz1 hz2 rfl (by omega) vl acc.length (intsL acc) rfl (hown.out.alloc _) ⟨wr.heap.size, 0, none⟩ 1 1 [.int .i64 i] rfl rfl (World.news_of_block (cs := #[.int .i64 i]) (t := 3) (fr := (0, 0)) (heap_alloc_new wr _)) (by simp [Value.oneCell']) (by omega) (by unfold maxLen; omega) (by omega) (by simp; omega) (wr.heap.size + 1) (by simp) ?_
         intro g1 cap1 w1 hown1 hgrow hat hlt1
         have hb1 : Below w.heap.size w w1 := (hbel.out.alloc (by omega) _).grown hgrow (by simp; omega) (fun q e => (hown.out.lt q e).1)
         have c1 : w1.cell? ⟨gb, 0, none⟩ = some (.slice (some ⟨g, 0, none⟩) its.length c) := (HG.out.below hb1).top
         have cN1 : w1.cell? ⟨g, i * 9 + 6, none⟩ = some (.int .i64 (nxt its i : Nat)) := (HG.out.below hb1).nx HW.out i hil)
      go_roundw
      case rel =>
        exact ⟨nxt its i, f - 1, acc ++ [i], _, rfl, rfl, hni2, by omega, by simp; omega, by simpa [intsL, Hid] using hown1, hb1, HS⟩
      case measure => simp [intOf]; omega
    · have HS : Hid (kidsV its k = acc) := by
        have : kidsV its k = acc := by
          rw [heq.out]
          cases f with
          | zero => simp [stepsV]
          | succ f => rw [stepsV, if_neg hlt]; simp
        exact this
      clear heq
      go_wp2_with fail
      go_ret
      exact ⟨vl, rfl, by rw [HS.out]; exact Ints.of_own hown.out, hbel.out⟩

end Go.Proofs.YtmlkhhhjdpbhfaaDoor

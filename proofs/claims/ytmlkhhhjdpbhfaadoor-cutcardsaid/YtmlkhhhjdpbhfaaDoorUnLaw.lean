/- Contracts of the law's own functions: sameTexts, and the book of lists. -/
import Derived.Test.YtmlkhhhjdpbhfaaDoorUnUnp
import Derived.Test.YtmlkhhhjdpbhfaaDoorUnRow
namespace Go.Proofs.YtmlkhhhjdpbhfaaDoor
open Go.RowKit

set_option maxHeartbeats 1000000 in
theorem sameTexts_calls (w : World) (v1 v2 : Value) (l : List ByteArray) (h1 : RowS w v1 l) (h2 : RowS w v2 l) (hl : l.length ≤ maxLen) :
    Calls Tryd.prog 18 #[v1, v2] w fun e w' => e = .returned (.bool true) ∧ ∃ n, w' = w.drewN n := by
  unfold maxLen at hl
  rcases h1 with ⟨⟨p1, cap1, rfl⟩, rfl⟩ | ⟨g1, o1, cap1, rfl, hc1⟩
  · rcases h2 with ⟨⟨p2, cap2, rfl⟩, _⟩ | ⟨g2, o2, cap2, rfl, hc2⟩
    all_goals
      go_enter Tryd.func18, Tryd.ntmps18
      go_wp2_with fail
      go_loop [5] (fun v5 => v5 = .int .i64 0) (fun _ => 0)
      case atStart => rfl
      case round =>
        subst hrel
        go_wp2_with fail
        go_ret
        exact ⟨rfl, 0, rfl⟩
  · rcases h2 with ⟨⟨p2, cap2, rfl⟩, rfl⟩ | ⟨g2, o2, cap2, rfl, hc2⟩
    · go_enter Tryd.func18, Tryd.ntmps18
      go_wp2_with fail
      go_loop [5] (fun v5 => v5 = .int .i64 0) (fun _ => 0)
      case atStart => rfl
      case round =>
        subst hrel
        go_wp2_with fail
        go_ret
        exact ⟨rfl, 0, rfl⟩
    · have HC1 := hid_of hc1
      have HC2 := hid_of hc2
      clear hc1 hc2
      go_enter Tryd.func18, Tryd.ntmps18
      go_wp2_with fail
      go_loopw [5] (fun v5 wr => ∃ (i n : Nat), v5 = .int .i64 i ∧ i ≤ l.length ∧ wr = w.drewN n) (fun v5 _ => l.length - (intOf v5).toNat)
      case atStart => exact ⟨0, 0, rfl, by omega, rfl⟩
      case round =>
        obtain ⟨i, n, rfl, hi, rfl⟩ := hrel
        by_cases hlt : i < l.length
        · have hlt' : (i : Int) < (l.length : Int) := by omega
          have c1 := HC1.out i hlt
          have c2 := HC2.out i hlt
          go_wp2_with fail
          go_quiet (fail)
          go_wp2_with fail
          go_roundw
          case rel => exact ⟨i + 1, _, by go_num, by omega, rfl⟩
          case measure => simp [intOf]; omega
        · have hlt' : ¬ (i : Int) < (l.length : Int) := by omega
          go_wp2_with fail
          go_ret
          exact ⟨rfl, _, rfl⟩

def lenV : Value → Nat
  | .slice _ n _ => n
  | _ => 0

/-- a slice that lies from its block's beginning on -/
def AtHead (v : Value) : Prop := (∃ cap, v = .slice none 0 cap) ∨ ∃ g n cap, v = .slice (some ⟨g, 0, none⟩) n cap ∧ n ≤ maxLen
def Sep (a b : Value) : Prop := ∀ g, a.ownBlock = some g → b.ownBlock ≠ some g

/-- all of a list is its mark -/
def MarkL (w : World) (v : Value) (m : ByteArray) : Prop := AtHead v ∧ ∀ g, v.ownBlock = some g → ∀ j, j < lenV v → w.cell? ⟨g, j, none⟩ = some (.string m)

/-- the book: in block bb; its lists, its marks -/
structure BookV (w : World) (bb : Nat) (lv mv : Value) (vs : List Value) (ms : List ByteArray) (ls : List (Value × ByteArray)) : Prop where
  blk : Blk w bb #[lv, mv] 28
  rl : w.ownsRow (bb + 1) 24 1 lv vs.length vs
  rm : w.ownsRow (bb + 1) 9 1 mv ms.length (strC ms)
  sep : Sep lv mv
  ok : ∀ q ∈ ls, MarkL w q.1 q.2 ∧ Sep q.1 lv ∧ Sep q.1 mv ∧ ∀ g, q.1.ownBlock = some g → bb < g ∧ g < w.heap.size

/-- the mark's two letters -/
def markB (n : Nat) : List UInt8 := [UInt8.ofNat (97 + n % 26), UInt8.ofNat (97 + n / 26 % 26)]
theorem mark_conv (w : World) (n : Nat) : (convert 39 9 (.slice (some ⟨w.heap.size, 0, none⟩) 2 2)).run Tryd.prog (w.alloc (.cells #[.int .u8 (97 + (n : Int) % 26), .int .u8 (97 + (n : Int) / 26 % 26)] 5)).drew =
    .ok (.string ⟨(markB n).toArray⟩) (w.alloc (.cells #[.int .u8 (97 + (n : Int) % 26), .int .u8 (97 + (n : Int) / 26 % 26)] 5)).drew := by
  have hb : Blk (w.alloc (.cells #[.int .u8 (97 + (n : Int) % 26), .int .u8 (97 + (n : Int) / 26 % 26)] 5)).drew w.heap.size #[.int .u8 (97 + (n : Int) % 26), .int .u8 (97 + (n : Int) / 26 % 26)] 5 := Blk.new w _ _
  refine run_convert_bytes_back _ 39 9 5 ⟨w.heap.size, 0, none⟩ 2 (markB n) Tryd.underlying39 Tryd.underlying5 Tryd.underlying9 fun j hj => ?_
  have hadd : (⟨w.heap.size, 0, none⟩ : Addr).add j = ⟨w.heap.size, j, none⟩ := by unfold Addr.add; split <;> simp_all
  rw [hadd, hb.cell j]
  have e1 : ((UInt8.ofNat (97 + n % 26)).toNat : Int) = 97 + (n : Int) % 26 := by rw [UInt8.toNat_ofNat']; omega
  have e2 : ((UInt8.ofNat (97 + n / 26 % 26)).toNat : Int) = 97 + (n : Int) / 26 % 26 := by rw [UInt8.toNat_ofNat']; omega
  match j, hj with
  | 0, _ => simp only [markB, List.getElem_cons_zero, e1]; rfl
  | 1, _ => simp only [markB, List.getElem_cons_succ, List.getElem_cons_zero, e2]; rfl

theorem Sep.ne {a b : Value} (h : Sep a b) {g : Nat} (h1 : a.ownBlock = some g) : some g ≠ b.ownBlock := fun e => h g h1 e.symm

/-- a book whose blocks stay as they are -/
theorem BookV.stay {w w' : World} {bb : Nat} {lv mv : Value} {vs : List Value} {ms : List ByteArray} {ls : List (Value × ByteArray)} (h : BookV w bb lv mv vs ms ls) (hs : w.heap.size ≤ w'.heap.size) (hb : w'.heap[bb]? = w.heap[bb]?)
    (hl : ∀ g, lv.ownBlock = some g → w'.heap[g]? = w.heap[g]?) (hm : ∀ g, mv.ownBlock = some g → w'.heap[g]? = w.heap[g]?) (hq : ∀ q ∈ ls, ∀ g, q.1.ownBlock = some g → ∀ j, j < lenV q.1 → w'.cell? ⟨g, j, none⟩ = w.cell? ⟨g, j, none⟩) : BookV w' bb lv mv vs ms ls := by
  refine ⟨by have := h.blk; unfold Blk at *; rw [hb]; exact this, owns_blocks h.rl hl, owns_blocks h.rm hm, h.sep, fun q hqm => ?_⟩
  obtain ⟨h1, h2, h3, h4⟩ := h.ok q hqm
  exact ⟨⟨h1.1, fun g hg j hj => by rw [hq q hqm g hg j hj]; exact h1.2 g hg j hj⟩, h2, h3, fun g hg => by have := h4 g hg; omega⟩

theorem BookV.below {w w' : World} {bb : Nat} {lv mv : Value} {vs : List Value} {ms : List ByteArray} {ls : List (Value × ByteArray)} (h : BookV w bb lv mv vs ms ls) (hb : Below w.heap.size w w') : BookV w' bb lv mv vs ms ls :=
  h.stay hb.size (hb.block bb h.blk.lt) (fun g hg => hb.block g (h.rl.lt g hg).2) (fun g hg => hb.block g (h.rm.lt g hg).2) fun q hq g hg _ _ => World.cell?_of_block (hb.block g ((h.ok q hq).2.2.2 g hg).2)

/-- the first loop: i of v's places are written over -/
structure FillAt (w0 : World) (bb : Nat) (lv mv v : Value) (ls : List (Value × ByteArray)) (xs : List ByteArray) (m : ByteArray) (i : Nat) (w : World) : Prop where
  book : BookV w bb lv mv (ls.map Prod.fst) (ls.map Prod.snd) ls
  row : w.ownsRow (bb + 1) 9 1 v xs.length (List.replicate i (.string m) ++ (strC xs).drop i)
  s1 : Sep v lv
  s2 : Sep v mv
  s3 : ∀ q ∈ ls, Sep q.1 v
  le : i ≤ xs.length
  fr : Below bb w0 w

theorem FillAt.step {w0 w : World} {bb : Nat} {lv mv : Value} {ls : List (Value × ByteArray)} {xs : List ByteArray} {m : ByteArray} {i g cap : Nat} (h : FillAt w0 bb lv mv (.slice (some ⟨g, 0, none⟩) xs.length cap) ls xs m i w) (hi : i < xs.length) : FillAt w0 bb lv mv (.slice (some ⟨g, 0, none⟩) xs.length cap) ls xs m (i + 1) (w.setCell ⟨g, i, none⟩ (.string m)) := by
  have hg : (Value.slice (some ⟨g, 0, none⟩) xs.length cap).ownBlock = some g := rfl
  have hgb := h.row.lt g hg
  have hne : ∀ k, k ≠ g → (w.setCell ⟨g, i, none⟩ (.string m)).heap[k]? = w.heap[k]? := fun k hk => Below.heap_setCell _ _ _ _ hk
  refine ⟨h.book.stay (by simp [World.setCell]) (hne bb (by omega)) (fun k hk => hne k ?_) (fun k hk => hne k ?_) (fun q hq k hk j _ => World.cell?_of_block (hne k ?_)), ?_, h.s1, h.s2, h.s3, hi, h.fr.setCell (p := ⟨g, i, none⟩) (by simp only; omega) _⟩
  · intro e; subst e; exact h.s1 k hg hk
  · intro e; subst e; exact h.s2 k hg hk
  · intro e; subst e; exact h.s3 q hq k hk hg
  · rcases h.row.2 with ⟨hv, _⟩ | ⟨g', cap', cur, hv, hb, hcur, hn, hm, hs, ht⟩
    · cases hv
    · injection hv with e1 e2 e3
      injection e1 with e1
      injection e1 with e1
      subst e1 e3
      refine ⟨by simp [strC]; omega, Or.inr ⟨g, cap, cur.setIfInBounds i (.string m), rfl, hb, ?_, hn, hm, by simpa using hs, ?_⟩⟩
      · simp [World.setCell, Array.getElem?_modify, hcur]
      · rw [Array.toList_setIfInBounds, List.take_set, ht]
        apply List.ext_getElem?
        intro j
        rw [List.getElem?_set]
        have hlen : (List.replicate i (Value.string m) ++ (strC xs).drop i).length = xs.length := by simp [strC]; omega
        by_cases hj : i = j
        · subst hj
          rw [if_pos rfl, if_pos (by omega), List.getElem?_append_left (by simp), List.getElem?_replicate, if_pos (by omega)]
        · rw [if_neg hj]
          by_cases hji : j < i
          · rw [List.getElem?_append_left (by simpa using hji), List.getElem?_append_left (by simp; omega), List.getElem?_replicate, List.getElem?_replicate, if_pos hji, if_pos (by omega)]
          · rw [List.getElem?_append_right (by simp; omega), List.getElem?_append_right (by simp; omega), List.getElem?_drop, List.getElem?_drop]
            simp
            congr 1
            omega

/-- the second loop: v has been noted some times and has grown -/
structure KP (w0 : World) (bb : Nat) (lv mv : Value) (vs : List Value) (ms : List ByteArray) (ls : List (Value × ByteArray)) (v : Value) (n : Nat) (m : ByteArray) (w : World) : Prop where
  book : BookV w bb lv mv vs ms ls
  row : w.ownsRow (bb + 1) 9 1 v n (List.replicate n (.string m))
  s1 : Sep v lv
  s2 : Sep v mv
  s3 : ∀ q ∈ ls, ∀ g, q.1.ownBlock = some g → v.ownBlock = some g → lenV q.1 ≤ n
  fr : Below bb w0 w

theorem KP.stepA {w0 w w2 : World} {bb n g cap : Nat} {lv mv v : Value} {vs : List Value} {ms : List ByteArray} {ls : List (Value × ByteArray)} {m : ByteArray} (h : KP w0 bb lv mv vs ms ls v n m w) (ob : Obj)
    (hown : w2.ownsRow (bb + 1) 24 1 (.slice (some ⟨g, 0, none⟩) (vs.length + 1) cap) (vs.length + 1) (vs ++ [v])) (hg : (w.alloc ob).grownBy w2 lv.ownBlock) (hat : lv.ownBlock = some g ∨ g = w.heap.size + 1) :
    KP w0 bb (.slice (some ⟨g, 0, none⟩) (vs.length + 1) cap) mv (vs ++ [v]) ms ls v n m (w2.setCell ⟨bb, 0, none⟩ (.slice (some ⟨g, 0, none⟩) (vs.length + 1) cap)) := by
  have hbl := h.book.blk.lt
  have hsz := hg.size
  simp at hsz
  have hk : ∀ k, k < w.heap.size → k ≠ bb → some k ≠ lv.ownBlock → (w2.setCell ⟨bb, 0, none⟩ (.slice (some ⟨g, 0, none⟩) (vs.length + 1) cap)).heap[k]? = w.heap[k]? := fun k h1 h2 h3 => by
    rw [Below.heap_setCell _ _ _ _ h2, hg.block k (by simp; omega) h3, Below.heap_alloc _ _ _ h1]
  have hlvb : some bb ≠ lv.ownBlock := fun e => by have := (h.book.rl.lt bb e.symm).1; omega
  have hb2 : Blk w2 bb #[lv, mv] 28 := Blk.grown (Blk.alloc h.book.blk ob) hg hlvb
  have hgb : bb + 1 ≤ g := (hown.lt g rfl).1
  have own' : (Value.slice (some ⟨g, 0, none⟩) (vs.length + 1) cap).ownBlock = some g := rfl
  have sepL : ∀ x : Value, Sep x lv → (∀ k, x.ownBlock = some k → k < w.heap.size) → Sep x (.slice (some ⟨g, 0, none⟩) (vs.length + 1) cap) := fun x hx hlt k hxk e => by
    rw [own'] at e; cases e
    rcases hat with h1 | h1
    · exact hx g hxk h1
    · have := hlt g hxk; omega
  have hmv : ∀ k, mv.ownBlock = some k → bb + 1 ≤ k ∧ k < w.heap.size := fun k e => h.book.rm.lt k e
  have hvv : ∀ k, v.ownBlock = some k → bb + 1 ≤ k ∧ k < w.heap.size := fun k e => h.row.lt k e
  refine ⟨⟨hb2.set 0 _, ?_, owns_blocks h.book.rm fun k e => hk k (hmv k e).2 (by have := (hmv k e).1; omega) (fun e2 => h.book.sep k e2.symm e), ?_, fun q hq => ?_⟩,
    owns_blocks h.row fun k e => hk k (hvv k e).2 (by have := (hvv k e).1; omega) (h.s1.ne e), sepL v h.s1 fun k e => (hvv k e).2, h.s2, h.s3, ?_⟩
  · rw [List.length_append]
    exact owns_blocks hown fun k e => Below.heap_setCell _ _ _ _ (by rw [own'] at e; cases e; simp only; omega)
  · intro k e e2
    rw [own'] at e; cases e
    rcases hat with h1 | h1
    · exact h.book.sep g h1 e2
    · have := (hmv g e2).2; omega
  · obtain ⟨h1, h2, h3, h4⟩ := h.book.ok q hq
    refine ⟨⟨h1.1, fun k e j hj => ?_⟩, sepL q.1 h2 fun k e => (h4 k e).2, h3, fun k e => ?_⟩
    · rw [World.cell?_of_block (w := w) (hk k (h4 k e).2 (by have := (h4 k e).1; omega) (h2.ne e))]
      exact h1.2 k e j hj
    · have := h4 k e; simp [World.setCell]; omega
  · refine h.fr.trans ⟨hg.os, hg.tape, hg.output, by simp [World.setCell]; omega, fun k hkb => hk k (by omega) (by omega) (fun e => by have := (h.book.rl.lt k e.symm).1; omega)⟩

theorem KP.stepB {w0 w w2 : World} {bb n g cap : Nat} {lv mv v : Value} {vs : List Value} {ms : List ByteArray} {ls : List (Value × ByteArray)} {m : ByteArray} (h : KP w0 bb lv mv vs ms ls v n m w) (ob : Obj)
    (hown : w2.ownsRow (bb + 1) 9 1 (.slice (some ⟨g, 0, none⟩) (ms.length + 1) cap) (ms.length + 1) (strC ms ++ [.string m])) (hg : (w.alloc ob).grownBy w2 mv.ownBlock) (hat : mv.ownBlock = some g ∨ g = w.heap.size + 1) :
    KP w0 bb lv (.slice (some ⟨g, 0, none⟩) (ms.length + 1) cap) vs (ms ++ [m]) ls v n m (w2.setCell ⟨bb, 1, none⟩ (.slice (some ⟨g, 0, none⟩) (ms.length + 1) cap)) := by
  have hbl := h.book.blk.lt
  have hsz := hg.size
  simp at hsz
  have hk : ∀ k, k < w.heap.size → k ≠ bb → some k ≠ mv.ownBlock → (w2.setCell ⟨bb, 1, none⟩ (.slice (some ⟨g, 0, none⟩) (ms.length + 1) cap)).heap[k]? = w.heap[k]? := fun k h1 h2 h3 => by
    rw [Below.heap_setCell _ _ _ _ h2, hg.block k (by simp; omega) h3, Below.heap_alloc _ _ _ h1]
  have hlvb : some bb ≠ mv.ownBlock := fun e => by have := (h.book.rm.lt bb e.symm).1; omega
  have hb2 : Blk w2 bb #[lv, mv] 28 := Blk.grown (Blk.alloc h.book.blk ob) hg hlvb
  have hgb : bb + 1 ≤ g := (hown.lt g rfl).1
  have own' : (Value.slice (some ⟨g, 0, none⟩) (ms.length + 1) cap).ownBlock = some g := rfl
  have sepL : ∀ x : Value, Sep x mv → (∀ k, x.ownBlock = some k → k < w.heap.size) → Sep x (.slice (some ⟨g, 0, none⟩) (ms.length + 1) cap) := fun x hx hlt k hxk e => by
    rw [own'] at e; cases e
    rcases hat with h1 | h1
    · exact hx g hxk h1
    · have := hlt g hxk; omega
  have hmv : ∀ k, lv.ownBlock = some k → bb + 1 ≤ k ∧ k < w.heap.size := fun k e => h.book.rl.lt k e
  have hvv : ∀ k, v.ownBlock = some k → bb + 1 ≤ k ∧ k < w.heap.size := fun k e => h.row.lt k e
  refine ⟨⟨hb2.set 1 _, owns_blocks h.book.rl fun k e => hk k (hmv k e).2 (by have := (hmv k e).1; omega) (h.book.sep.ne e), ?_, sepL lv h.book.sep fun k e => (hmv k e).2, fun q hq => ?_⟩,
    owns_blocks h.row fun k e => hk k (hvv k e).2 (by have := (hvv k e).1; omega) (h.s2.ne e), h.s1, sepL v h.s2 fun k e => (hvv k e).2, h.s3, ?_⟩
  · rw [List.length_append, show strC (ms ++ [m]) = strC ms ++ [.string m] by simp [strC]]
    exact owns_blocks hown fun k e => Below.heap_setCell _ _ _ _ (by rw [own'] at e; cases e; simp only; omega)
  · obtain ⟨h1, h2, h3, h4⟩ := h.book.ok q hq
    refine ⟨⟨h1.1, fun k e j hj => ?_⟩, h2, sepL q.1 h3 fun k e => (h4 k e).2, fun k e => ?_⟩
    · rw [World.cell?_of_block (w := w) (hk k (h4 k e).2 (by have := (h4 k e).1; omega) (h3.ne e))]
      exact h1.2 k e j hj
    · have := h4 k e; simp [World.setCell]; omega
  · refine h.fr.trans ⟨hg.os, hg.tape, hg.output, by simp [World.setCell]; omega, fun k hkb => hk k (by omega) (by omega) (fun e => by have := (h.book.rm.lt k e.symm).1; omega)⟩

theorem owns_head {w : World} {B n : Nat} {e : TypeId} {v : Value} {xs : List Value} (h : w.ownsRow B e 1 v n xs) : AtHead v := by
  rcases h.2 with ⟨h1, h2⟩ | ⟨g, cap, cur, h1, _, _, h2, h3, _⟩
  · exact Or.inl ⟨_, h1⟩
  · exact Or.inr ⟨_, _, _, h1, Nat.le_trans h2 h3⟩

theorem owns_mark {w : World} {B n : Nat} {v : Value} {m : ByteArray} (h : w.ownsRow B 9 1 v n (List.replicate n (.string m))) : MarkL w v m := by
  refine ⟨owns_head h, fun g hg j hj => ?_⟩
  rcases h.2 with ⟨h1, h2⟩ | ⟨g', cap, cur, h1, _⟩
  · rw [h1] at hg; cases hg
  · subst h1
    cases hg
    have := World.ownsRow.cells h (g := g') rfl j (.string m) (by simp [List.getElem?_replicate]; exact hj)
    have hadd : (⟨g', 0, none⟩ : Addr).add j = ⟨g', j, none⟩ := by unfold Addr.add; split <;> simp_all
    rw [hadd] at this
    exact this

theorem KP.stepC {w0 w w2 : World} {bb n g cap : Nat} {lv mv v : Value} {vs : List Value} {ms : List ByteArray} {ls : List (Value × ByteArray)} {m : ByteArray} (h : KP w0 bb lv mv vs ms ls v n m w) (ob : Obj)
    (hown : w2.ownsRow (bb + 1) 9 1 (.slice (some ⟨g, 0, none⟩) (n + 1) cap) (n + 1) (List.replicate n (.string m) ++ [.string m])) (hg : (w.alloc ob).grownBy w2 v.ownBlock) (hat : v.ownBlock = some g ∨ g = w.heap.size + 1)
    (hkeep : ∀ k, v.ownBlock = some k → ∀ j, j < n * 1 → w2.cell? ⟨k, j, none⟩ = (w.alloc ob).cell? ⟨k, j, none⟩) :
    KP w0 bb lv mv vs ms (ls ++ [(v, m)]) (.slice (some ⟨g, 0, none⟩) (n + 1) cap) (n + 1) m w2 := by
  have hbl := h.book.blk.lt
  have hsz := hg.size
  simp at hsz
  have hk : ∀ k, k < w.heap.size → some k ≠ v.ownBlock → w2.heap[k]? = w.heap[k]? := fun k h1 h3 => by
    rw [hg.block k (by simp; omega) h3, Below.heap_alloc _ _ _ h1]
  have own' : (Value.slice (some ⟨g, 0, none⟩) (n + 1) cap).ownBlock = some g := rfl
  have sepV : ∀ x : Value, Sep v x → (∀ k, x.ownBlock = some k → k < w.heap.size) → Sep (.slice (some ⟨g, 0, none⟩) (n + 1) cap) x := fun x hx hlt k hxk e => by
    rw [own'] at hxk; cases hxk
    rcases hat with h1 | h1
    · exact hx g h1 e
    · have := hlt g e; omega
  have hlv : ∀ k, lv.ownBlock = some k → bb + 1 ≤ k ∧ k < w.heap.size := fun k e => h.book.rl.lt k e
  have hmv : ∀ k, mv.ownBlock = some k → bb + 1 ≤ k ∧ k < w.heap.size := fun k e => h.book.rm.lt k e
  have hvv : ∀ k, v.ownBlock = some k → bb + 1 ≤ k ∧ k < w.heap.size := fun k e => h.row.lt k e
  have hrep : List.replicate n (Value.string m) ++ [.string m] = List.replicate (n + 1) (.string m) := by rw [List.replicate_succ']
  have hlen : lenV v = n := by obtain ⟨p, cap, e⟩ := owns_slice h.row; rw [e]; rfl
  have cellv : ∀ k, v.ownBlock = some k → ∀ j, j < n → w2.cell? ⟨k, j, none⟩ = w.cell? ⟨k, j, none⟩ := fun k e j hj => by
    rw [hkeep k e j (by omega)]
    exact World.cell?_of_block (Below.heap_alloc _ _ _ (hvv k e).2)
  refine ⟨⟨?_, owns_blocks h.book.rl fun k e => hk k (hlv k e).2 (fun e2 => h.s1 k e2.symm e), owns_blocks h.book.rm fun k e => hk k (hmv k e).2 (fun e2 => h.s2 k e2.symm e), h.book.sep, fun q hq => ?_⟩,
    by rw [← hrep]; exact hown, sepV lv h.s1 fun k e => (hlv k e).2, sepV mv h.s2 fun k e => (hmv k e).2, fun q hq k e e2 => ?_, ?_⟩
  · have := h.book.blk
    unfold Blk at *
    rw [hk bb hbl (fun e => by have := (hvv bb e.symm).1; omega)]; exact this
  · rcases List.mem_append.1 hq with hq | hq
    · obtain ⟨h1, h2, h3, h4⟩ := h.book.ok q hq
      refine ⟨⟨h1.1, fun k e j hj => ?_⟩, h2, h3, fun k e => by have := h4 k e; omega⟩
      by_cases hkv : v.ownBlock = some k
      · rw [cellv k hkv j (by have := h.s3 q hq k e hkv; omega)]
        exact h1.2 k e j hj
      · rw [World.cell?_of_block (w := w) (hk k (h4 k e).2 (fun e2 => hkv e2.symm))]
        exact h1.2 k e j hj
    · simp at hq
      subst hq
      refine ⟨⟨owns_head h.row, fun k e j hj => ?_⟩, h.s1, h.s2, fun k e => by have := hvv k e; omega⟩
      simp only at hj e ⊢
      rw [cellv k e j (by omega)]
      exact (owns_mark h.row).2 k e j hj
  · rw [own'] at e2; cases e2
    rcases List.mem_append.1 hq with hq | hq
    · rcases hat with h1 | h1
      · have := h.s3 q hq g e h1; omega
      · have := ((h.book.ok q hq).2.2.2 g e).2; omega
    · simp at hq
      subst hq
      simp only
      omega
  · refine h.fr.trans ⟨hg.os, hg.tape, hg.output, by omega, fun k hkb => hk k (by omega) (fun e => by have := (hvv k e.symm).1; omega)⟩

theorem Tryd.infoSlS : (Tryd.prog.info? 24).map (fun i => (i.zero, i.size, i.bytes)) = some (some (.slice none 0 0), 1, 24) := by kernel_rfl

theorem size_set (w : World) (a : Addr) (v : Value) : (w.setCell a v).heap.size = w.heap.size := by simp [World.setCell]
theorem new_set (w : World) (a : Addr) (v : Value) (o : Obj) : ((w.setCell a v).alloc o).heap[w.heap.size]? = some o := by
  have := heap_alloc_new (w.setCell a v) o
  rwa [size_set] at this

def KeptPost (bb n : Nat) (w : World) (e : Ending) (w' : World) : Prop :=
  e = .returned (.tuple #[]) ∧ Below bb w w' ∧ ∃ lv mv ls, BookV w' bb lv mv (ls.map Prod.fst) (ls.map Prod.snd) ls ∧ ls.length = n + 4

set_option maxRecDepth 100000 in
set_option maxHeartbeats 4000000 in
theorem keep_calls (w : World) (bb : Nat) (lv mv v : Value) (ls : List (Value × ByteArray)) (xs : List ByteArray) (hB : BookV w bb lv mv (ls.map Prod.fst) (ls.map Prod.snd) ls) (hv : w.ownsRow (bb + 1) 9 1 v xs.length (strC xs)) (hs1 : Sep v lv) (hs2 : Sep v mv) (hs3 : ∀ q ∈ ls, Sep q.1 v) (hl : ls.length ≤ 100) (hn : xs.length ≤ 8796093022000) :
    Calls Tryd.prog 19 #[.pointer (some ⟨bb, 0, none⟩), v] w fun e w' => KeptPost bb ls.length w e w' := by
  obtain ⟨i0, hi0, hz0, hz1, hz2⟩ := info_parts3 Tryd.infoStr
  obtain ⟨i1, hi1, hy0, hy1, hy2⟩ := info_parts3 Tryd.infoSlS
  have c0 : w.cell? ⟨bb, 0, none⟩ = some lv := hB.blk.cell 0
  have hbl := hB.blk.lt
  obtain ⟨lp, lcap, hlv⟩ := owns_slice hB.rl
  obtain ⟨vp, vcap, hvv⟩ := owns_slice hv
  subst hlv hvv
  rw [List.length_map] at *
  obtain ⟨mb, hms, hcv⟩ : ∃ mb : ByteArray, mb.size = 2 ∧ (convert 39 9 (.slice (some ⟨w.heap.size, 0, none⟩) 2 2)).run Tryd.prog (w.alloc (.cells #[.int .u8 (97 + (ls.length : Int) % 26), .int .u8 (97 + (ls.length : Int) / 26 % 26)] 5)).drew =
    .ok (.string mb) (w.alloc (.cells #[.int .u8 (97 + (ls.length : Int) % 26), .int .u8 (97 + (ls.length : Int) / 26 % 26)] 5)).drew := ⟨_, rfl, mark_conv w ls.length⟩
  have HF0 := hid_of (p := ∀ m, FillAt w bb (.slice lp ls.length lcap) mv (.slice vp xs.length vcap) ls xs m 0 (w.alloc (.cells #[.int .u8 (97 + (ls.length : Int) % 26), .int .u8 (97 + (ls.length : Int) / 26 % 26)] 5)).drew) (fun m => by
    have hb : Below w.heap.size w (w.alloc (.cells #[.int .u8 (97 + (ls.length : Int) % 26), .int .u8 (97 + (ls.length : Int) / 26 % 26)] 5)).drew := ⟨rfl, rfl, rfl, by simp, fun k hk => Below.heap_alloc _ _ _ hk⟩
    exact ⟨hB.below hb, by simpa using owns_blocks hv fun g e => hb.block g (hv.lt g e).2, hs1, hs2, hs3, by omega, ⟨hb.os, hb.tape, hb.output, hb.size, fun k hk => hb.block k (by omega)⟩⟩)
  clear hB hv hs1 hs2 hs3
  go_enter Tryd.func19, Tryd.ntmps19
  go_wp2_with fail
  go_region
  go_wp2_with fail
  generalize hmm : ({ data := #[116, 104, 101, 32, 111, 119, 110, 101, 114, 39, 115, 32] } : ByteArray) ++ mb = m
  clear hmm hcv hms c0
  go_loopw [5] (fun v5 wr => ∃ (W : World) (i : Nat), W = wr ∧ v5 = .int .i64 i ∧ i ≤ xs.length ∧ Hid (FillAt w bb (.slice lp ls.length lcap) mv (.slice vp xs.length vcap) ls xs m i W)) (fun v5 _ => xs.length - (intOf v5).toNat)
  case atStart => exact ⟨_, 0, rfl, rfl, by omega, HF0.out m⟩
  case round =>
    obtain ⟨wr, i, hwr, rfl, hi, HF⟩ := hrel
    subst hwr
    by_cases hlt : i < xs.length
    · have hlt' : (i : Int) < (xs.length : Int) := by omega
      have hrow := HF.out.row
      obtain ⟨g, cap, hv, hg1, hg2⟩ := hrow.form (by omega)
      injection hv with e1 e2 e3
      subst e1 e3
      have cI : wr.cell? ⟨g, i, none⟩ = some (.string xs[i]) := by
        have := World.ownsRow.cells hrow (g := g) rfl i (.string xs[i]) (by rw [List.getElem?_append_right (by simp), List.getElem?_drop]; simp [strC, hlt])
        have hadd : (⟨g, 0, none⟩ : Addr).add i = ⟨g, i, none⟩ := by unfold Addr.add; split <;> simp_all
        rw [hadd] at this
        exact this
      have fI : wr.frozen? ⟨g, i, none⟩ = false := by
        rcases hrow.2 with ⟨hv, _⟩ | ⟨g', cap', cur, hv, hb, hcur, _⟩
        · cases hv
        · injection hv with e1
          injection e1 with e1
          injection e1 with e1
          subst e1
          simp [World.frozen?, hcur]
      clear hrow
      go_wp2_with fail
      go_roundw
      case rel => exact ⟨_, i + 1, rfl, by go_num, by omega, HF.out.step hlt⟩
      case measure => simp [intOf]; omega
    · have hlt' : ¬ (i : Int) < (xs.length : Int) := by omega
      go_wp2_with fail
      have HK0 := hid_of (p := KP w bb (.slice lp ls.length lcap) mv (ls.map Prod.fst) (ls.map Prod.snd) ls (.slice vp xs.length vcap) xs.length m wr) (by
        have h := HF.out
        have hie : i = xs.length := by omega
        subst hie
        exact ⟨h.book, by have h1 := h.row; rw [List.drop_of_length_le (by simp [strC]), List.append_nil] at h1; exact h1, h.s1, h.s2, fun q hq g e e2 => absurd e2 (h.s3 q hq g e), h.fr⟩)
      clear HF HF0
      go_loopw [1, 6] (fun v1 v6 wr => ∃ (W : World) (k : Nat) (vv lv' mv' : Value) (ls' : List (Value × ByteArray)), W = wr ∧ v6 = .int .i64 k ∧ k ≤ 4 ∧ vv = v1 ∧ ls'.length = ls.length + k ∧ Hid (KP w bb lv' mv' (ls'.map Prod.fst) (ls'.map Prod.snd) ls' vv (xs.length + k) m W)) (fun _ v6 _ => 4 - (intOf v6).toNat)
      case atStart => exact ⟨_, 0, _, _, _, _, rfl, rfl, by omega, rfl, by omega, HK0⟩
      case round =>
        obtain ⟨w1, k, vv, lv', mv', ls', hw1, rfl, hk, hvv, hls, HK⟩ := hrel
        subst hw1 hvv
        have HLs := hid_of hls
        have hls2 : ls'.length ≤ 104 := by omega
        clear HK0 hls
        by_cases hk4 : k < 4
        · have hk4' : (k : Int) < 4 := by omega
          obtain ⟨vq, vqc, hvq⟩ := owns_slice HK.out.row
          subst hvq
          have hb1 := HK.out.book.blk
          have hbl1 := hb1.lt
          have c0 : w1.cell? ⟨bb, 0, none⟩ = some lv' := hb1.cell 0
          have f0 : w1.frozen? ⟨bb, 0, none⟩ = false := hb1.frozen 0
          have c0a : ∀ o, (w1.alloc o).cell? ⟨bb, 0, none⟩ = some lv' := fun o => (Blk.alloc hb1 o).cell 0
          clear hb1
          have hrl := HK.out.book.rl
          rw [List.length_map] at hrl
          have HRl := hid_of hrl
          clear hrl
          go_wp2_with
            (at_builtin
             first
               | (refine wpList_append_lies _ rfl _ _ _ rfl (bb + 1) 24 i1 _ 1 24 Tryd.underlying26 hi1 hy0 hy1 hy2 rfl (by omega) lv' ls'.length (ls'.map Prod.fst) rfl (HRl.out.alloc _) ⟨w1.heap.size, 0, none⟩ 1 1 [.slice vq (xs.length + k) vqc] rfl rfl (World.news_of_block (cs := #[.slice vq (xs.length + k) vqc]) (t := 24) (fr := (0, 0)) (heap_alloc_new w1 _)) (by simp [Value.oneCell']) (by omega) (by unfold maxLen; omega) (by omega) (by simp; omega) (w1.heap.size + 1) (by simp) ?_
                  intro g2 cap2 w2 hown2 hgrow2 hat2 hlt2
                  have hA := HK.out.stepA (g := g2) (cap := cap2) _ (by rw [List.length_map]; exact hown2) hgrow2 hat2
                  rw [List.length_map] at hA
                  have hb2 : Blk w2 bb #[lv', mv'] 28 := Blk.grown (Blk.alloc HK.out.book.blk _) hgrow2 (fun e => by have := (HK.out.book.rl.lt bb e.symm).1; omega)
                  have hbl2 := hb2.lt
                  have c2 : w2.cell? ⟨bb, 0, none⟩ = some lv' := hb2.cell 0
                  have f2 : w2.frozen? ⟨bb, 0, none⟩ = false := hb2.frozen 0
                  have c2b : w2.cell? ⟨bb, 1, none⟩ = some mv' := hb2.cell 1
                  have f2b : w2.frozen? ⟨bb, 1, none⟩ = false := hb2.frozen 1
                  have HA := hid_of hA
                  clear hA hown2 hgrow2 hat2 hlt2 hb2)
               | (refine wpList_append_lies _ rfl _ _ _ rfl (bb + 1) 9 i0 _ 1 16 Tryd.underlying24 hi0 hz0 hz1 hz2 rfl (by omega) mv' ls'.length (strC (ls'.map Prod.snd)) rfl (by have h := HA.out.book.rm; rw [List.length_map] at h; exact h.alloc _) ⟨w2.heap.size, 0, none⟩ 1 1 [.string m] rfl rfl (World.news_of_block (cs := #[.string m]) (t := 9) (fr := (0, 0)) (new_set _ _ _ _)) (by simp [Value.oneCell']) (by omega) (by unfold maxLen; omega) (by omega) (by simp; omega) (w2.heap.size + 1) (by simp) ?_
                  intro g4 cap4 w4 hown4 hgrow4 hat4 hlt4
                  have hBb := HA.out.stepB (g := g4) (cap := cap4) _ (by rw [List.length_map]; exact hown4) hgrow4 (by rw [size_set]; exact hat4)
                  rw [List.length_map] at hBb
                  have hb4 : Blk w4 bb #[.slice (some ⟨g2, 0, none⟩) (ls'.length + 1) cap2, mv'] 28 := Blk.grown (Blk.alloc HA.out.book.blk _) hgrow4 (fun e => by have := (HA.out.book.rm.lt bb e.symm).1; omega)
                  have hbl4 := hb4.lt
                  have c4b : w4.cell? ⟨bb, 1, none⟩ = some mv' := hb4.cell 1
                  have f4b : w4.frozen? ⟨bb, 1, none⟩ = false := hb4.frozen 1
                  have HB := hid_of hBb
                  clear hBb hown4 hgrow4 hat4 hlt4 hb4)
               | (refine wpList_append_keep _ rfl _ _ _ rfl (bb + 1) 9 i0 _ 1 16 Tryd.underlying24 hi0 hz0 hz1 hz2 rfl (by omega) (.slice vq (xs.length + k) vqc) (xs.length + k) (List.replicate (xs.length + k) (.string m)) rfl (HB.out.row.alloc _) ⟨w4.heap.size, 0, none⟩ 1 1 [.string m] rfl rfl (World.news_of_block (cs := #[.string m]) (t := 9) (fr := (0, 0)) (new_set _ _ _ _)) (by simp [Value.oneCell']) (by omega) (by unfold maxLen; omega) (by omega) (by simp; omega) (w4.heap.size + 1) (by simp) ?_
                  intro g6 cap6 w6 hown6 hgrow6 hat6 hlt6 hkeep6
                  have hC := HB.out.stepC (g := g6) (cap := cap6) _ hown6 hgrow6 (by rw [size_set]; exact hat6) hkeep6
                  have HC := hid_of hC
                  clear hC hown6 hgrow6 hat6 hlt6 hkeep6))
          go_roundw
          case rel => exact ⟨_, k + 1, _, _, _, ls' ++ [(.slice vq (xs.length + k) vqc, m)], rfl, by go_num, by omega, rfl, by have := HLs.out; simp; omega, by rw [List.map_append, List.map_append]; exact HC⟩
          case measure => simp [intOf]; omega
        · have hk4' : ¬ (k : Int) < 4 := by omega
          go_wp2_with fail
          go_end0
          exact ⟨rfl, HK.out.fr, _, _, _, HK.out.book, by have := HLs.out; omega⟩

end Go.Proofs.YtmlkhhhjdpbhfaaDoor

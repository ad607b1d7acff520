import Derived.Test.YtmlkhhhjdpbhfaaGreatDoorPa03
import Derived.Deep.RegionHeld3
import Derived.Deep.DrawnRows
import Derived.WalkLawsBesides
import Derived.Laws.EntriesVeiled
import Derived.Recover
import Derived.Defers
import Derived.Deep.MidRow
import Derived.Deep.RegionLaw
import Derived.Deep.DeepCutAuto
namespace Go.Proofs.YtmlkhhhjdpbhfaaGreatDoor
open Go.RowKit
structure Ts where
 fuel : Nat
 nodes : Nat
 far : Nat
 read : List Bool
 spans : List (Nat × Nat)
 sv : Value
def fnV (n : Nat) : Value := .func (.func n) #[] #[]
def doFns : List Value := [fnV 120, fnV 121, fnV 122,
 fnV 123, fnV 121, fnV 124,
 fnV 125, fnV 126, fnV 127,
 fnV 128, fnV 129, fnV 130,
 fnV 131, fnV 132, fnV 133,
 fnV 134, fnV 135, fnV 136,
 fnV 137, fnV 138, fnV 139,
 fnV 140, fnV 141, fnV 142,
 fnV 143, fnV 141, fnV 144,
 fnV 145, fnV 146, fnV 147,
 fnV 148, fnV 135, fnV 149,
 fnV 150, fnV 151, fnV 152,
 fnV 153, fnV 151, fnV 154,
 fnV 155, fnV 151, fnV 156,
 fnV 157, fnV 146, fnV 158]
def trTail (gb rb : Nat) (bs : ByteArray) (s : Ts) : List Value := [.pointer (some ⟨gb, 0, none⟩), .string bs, .int .i64 s.fuel, .int .i64 s.nodes, .slice (some ⟨rb, 0, none⟩) bs.size bs.size, s.sv, .int .i64 s.far]
def trCells (gb rb : Nat) (bs : ByteArray) (s : Ts) : Array Value := (doFns ++ trTail gb rb bs s).toArray
def spanC (l : List (Nat × Nat)) : List Value := l.flatMap fun p => [.int .i64 p.1, .int .i64 p.2]
structure TrAt (gb rb tb : Nat) (bs : ByteArray) (w : World) (s : Ts) : Prop where
 blk : Blk w tb (trCells gb rb bs s) 154
 rd : Blk w rb (s.read.map Value.bool).toArray 4
 len : s.read.length = bs.size
 own : w.ownsRow (tb + 1) 288 2 s.sv s.spans.length (spanC s.spans)
 lt : rb < tb
def tsFar (s : Ts) (a : Nat) : Ts := { s with far := max s.far a }
theorem trCells_far (gb rb : Nat) (bs : ByteArray) (s : Ts) (n : Nat) : (trCells gb rb bs s).setIfInBounds 51 (.int .i64 n) = trCells gb rb bs { s with far := n } := rfl
theorem trCells_fuel (gb rb : Nat) (bs : ByteArray) (s : Ts) (n : Nat) : (trCells gb rb bs s).setIfInBounds 47 (.int .i64 n) = trCells gb rb bs { s with fuel := n } := rfl
theorem trCells_nodes (gb rb : Nat) (bs : ByteArray) (s : Ts) (n : Nat) : (trCells gb rb bs s).setIfInBounds 48 (.int .i64 n) = trCells gb rb bs { s with nodes := n } := rfl
theorem trCells_sv (gb rb : Nat) (bs : ByteArray) (s : Ts) (v : Value) : (trCells gb rb bs s).setIfInBounds 50 v = trCells gb rb bs { s with sv := v } := rfl
theorem TrAt.set {gb rb tb : Nat} {bs : ByteArray} {w : World} {s s' : Ts} (h : TrAt gb rb tb bs w s) (j : Nat) (u : Value) (hc : (trCells gb rb bs s).setIfInBounds j u = trCells gb rb bs s') (h1 : s'.read = s.read) (h2 : s'.spans = s.spans) (h3 : s'.sv = s.sv) : TrAt gb rb tb bs (w.setCell ⟨tb, j, none⟩ u) s' := by
 have hlt := h.lt
 refine ⟨?_, ?_, by rw [h1]; exact h.len, ?_, hlt⟩
 · rw [← hc]; exact Blk.set h.blk j u
 · rw [h1]; exact Blk.setOther h.rd _ (by simp only; omega) u
 · rw [h2, h3]
   exact ownsRow_setCell_below h.own (a := ⟨tb, j, none⟩) (by simp) u
theorem TrAt.alloc {gb rb tb : Nat} {bs : ByteArray} {w : World} {s : Ts} (h : TrAt gb rb tb bs w s) (o : Obj) : TrAt gb rb tb bs (w.alloc o) s := ⟨Blk.alloc h.blk o, Blk.alloc h.rd o, h.len, h.own.alloc o, h.lt⟩
theorem TrAt.drewN {gb rb tb : Nat} {bs : ByteArray} {w : World} {s : Ts} (h : TrAt gb rb tb bs w s) (n : Nat) : TrAt gb rb tb bs (w.drewN n) s := ⟨h.blk, h.rd, h.len, h.own, h.lt⟩
theorem TrAt.cfuel {gb rb tb : Nat} {bs : ByteArray} {w : World} {s : Ts} (h : TrAt gb rb tb bs w s) : w.cell? ⟨tb, 47, none⟩ = some (.int .i64 s.fuel) := h.blk.cell 47
theorem TrAt.cnodes {gb rb tb : Nat} {bs : ByteArray} {w : World} {s : Ts} (h : TrAt gb rb tb bs w s) : w.cell? ⟨tb, 48, none⟩ = some (.int .i64 s.nodes) := h.blk.cell 48
theorem TrAt.cread {gb rb tb : Nat} {bs : ByteArray} {w : World} {s : Ts} (h : TrAt gb rb tb bs w s) : w.cell? ⟨tb, 49, none⟩ = some (.slice (some ⟨rb, 0, none⟩) bs.size bs.size) := h.blk.cell 49
theorem TrAt.csv {gb rb tb : Nat} {bs : ByteArray} {w : World} {s : Ts} (h : TrAt gb rb tb bs w s) : w.cell? ⟨tb, 50, none⟩ = some s.sv := h.blk.cell 50
theorem TrAt.cfar {gb rb tb : Nat} {bs : ByteArray} {w : World} {s : Ts} (h : TrAt gb rb tb bs w s) : w.cell? ⟨tb, 51, none⟩ = some (.int .i64 s.far) := h.blk.cell 51
theorem TrAt.cbytes {gb rb tb : Nat} {bs : ByteArray} {w : World} {s : Ts} (h : TrAt gb rb tb bs w s) : w.cell? ⟨tb, 46, none⟩ = some (.string bs) := h.blk.cell 46
theorem TrAt.cgram {gb rb tb : Nat} {bs : ByteArray} {w : World} {s : Ts} (h : TrAt gb rb tb bs w s) : w.cell? ⟨tb, 45, none⟩ = some (.pointer (some ⟨gb, 0, none⟩)) := h.blk.cell 45
set_option maxHeartbeats 1000000 in
theorem fail_calls (gb rb tb : Nat) (bs : ByteArray) (w : World) (s : Ts) (h : TrAt gb rb tb bs w s) (a : Nat) :
 Calls Tryz.prog 185 #[.pointer (some ⟨tb, 0, none⟩), .int .i64 a] w fun e w' => e = .returned (.tuple #[.pointer none, .int .i64 0, .bool false]) ∧ w' = w.setCell ⟨tb, 51, none⟩ (.int .i64 (max s.far a : Nat)) := by
 have c := h.cfar
 have f : w.frozen? ⟨tb, 51, none⟩ = false := h.blk.frozen 51
 clear h
 go_enter Tryz.func185, Tryz.ntmps185
 go_wp2_with fail
 all_goals
  go_ret3
  refine ⟨rfl, ?_⟩
  congr
  omega
def outV (n : Int) : List PanicEntry := [{ v := .iface 81 (.agg #[.int .i64 n]), recovered := false }]
set_option maxHeartbeats 1000000 in
theorem made_none (gb rb tb : Nat) (bs : ByteArray) (w : World) (s : Ts) (h : TrAt gb rb tb bs w s) (k n : Int) (r : ByteArray) (v : Value) (h0 : s.nodes = 0) (_hv : v.oneCell' = true) :
 Calls Tryz.prog 186 #[.pointer (some ⟨tb, 0, none⟩), .agg #[.int .i64 k, .int .u32 n, .string r, v]] w fun e w' => e = .panicked (outV 7) ∧ w' = w.alloc (.cells #[.int .i64 k, .int .u32 n, .string r, v] 177) := by
 have c : ∀ o, (w.alloc o).cell? ⟨tb, 48, none⟩ = some (.int .i64 0) := fun o => by rw [(h.alloc o).cnodes, h0]; rfl
 clear h
 go_enter Tryz.func186, Tryz.ntmps186
 go_wp2_with fail
 exact ⟨rfl, rfl, rfl⟩
set_option maxHeartbeats 400000 in
theorem rec_idle (p1 p2 p3 : Addr) (w : World) :
 CallsD Tryz.prog 40 #[.pointer (some p1), .pointer (some p2), .pointer (some p3)] .returning w fun e u' w' => e = .returned (.tuple #[]) ∧ u' = .returning ∧ w' = w := by
 refine callsD_of_wpS Tryz.func40 rfl fun c₀ cs hu => ?_
 apply wpS_seq
 apply wpS_region
 simp [wpOpsS, go_sem, recoverD, hu, Tryz.ntmps40, Exit.thenS]
 apply wpS_seq
 apply wpS_seq
 apply wpS_region
 simp [wpOpsS, go_sem, Exit.thenS]
 refine wpS_cond (t := true) (by simp [Act.eval, Array.replicate]) ?_
 simp only [if_true]
 refine wpS_of_wp (wp_ret ?_)
 cases c₀
 simp_all [bodyPostS, results, Tryz.results40, Exit.thenS, go_sem]
def tsNew (fuel N n : Nat) : Ts := ⟨fuel, N, 0, List.replicate n false, [], .slice none 0 0⟩
theorem Tryz.infoBool : (Tryz.prog.info? 4).map (fun i => (i.zero, i.size, i.bytes)) = some (some (.bool false), 1, 1) := by kernel_rfl
theorem made_bools (n : Nat) : madeCells (Value.bool false).cells (n * 1) = ((List.replicate n false).map Value.bool).toArray := by
 apply Array.ext
 · simp [madeCells]
 · intro i h1 h2
   simp only [madeCells, Array.getElem_map, Value.cells]
   simp [Nat.mod_one]
theorem mk_read (n : Nat) (hn : n ≤ 4000) (W : World) : Sem.run Tryz.prog (Instr.makeSlice 137 (.int .i64 n) (.int .i64 n)) W = .ok (.slice (some ⟨W.heap.size, 0, none⟩) n n) (W.alloc (.cells ((List.replicate n false).map Value.bool).toArray 4)) := by
 obtain ⟨i0, hi0, hz0, hz1, hz2⟩ := info_parts Tryz.infoBool
 have := run_makeSlice (P := Tryz.prog) W 137 4 i0 (.bool false) Tryz.underlying137 hi0 hz0 .i64 .i64 n n (by omega) (by omega) (by rw [hz1]; omega) (by rw [hz2]; omega) (by omega)
 rw [hz1] at this
 simp only [Int.toNat_natCast] at this
 rw [made_bools] at this
 exact this
structure TF (tb rb : Nat) (sb hb : Option Nat) (w w' : World) : Prop where
 os : w'.os = w.os
 tape : w'.tape = w.tape
 output : w'.output = w.output
 size : w.heap.size ≤ w'.heap.size
 block : ∀ k, k < w.heap.size → k ≠ tb → k ≠ rb → some k ≠ sb → some k ≠ hb → w'.heap[k]? = w.heap[k]?
theorem TF.refl (tb rb : Nat) (sb hb : Option Nat) (w : World) : TF tb rb sb hb w w := ⟨rfl, rfl, rfl, Nat.le_refl _, fun _ _ _ _ _ _ => rfl⟩
theorem TF.trans {tb rb : Nat} {sb sb' hb hb' : Option Nat} {a b c : World} (h : TF tb rb sb hb a b) (k : TF tb rb sb' hb' b c) (hs : sb' = sb ∨ ∀ g, sb' = some g → a.heap.size ≤ g) (hh : hb' = hb ∨ ∀ g, hb' = some g → a.heap.size ≤ g) : TF tb rb sb hb a c := by
 refine ⟨k.os.trans h.os, k.tape.trans h.tape, k.output.trans h.output, Nat.le_trans h.size k.size, fun i hi h1 h2 h3 h4 => ?_⟩
 rw [k.block i (by have := h.size; omega) h1 h2 ?_ ?_, h.block i hi h1 h2 h3 h4]
 · rcases hs with hs | hs
   · rw [hs]; exact h3
   · intro e; have := hs i e.symm; omega
 · rcases hh with hh | hh
   · rw [hh]; exact h4
   · intro e; have := hh i e.symm; omega
theorem TF.alloc {tb rb : Nat} {sb hb : Option Nat} {a b : World} (h : TF tb rb sb hb a b) (o : Obj) : TF tb rb sb hb a (b.alloc o) :=
 ⟨h.os, h.tape, h.output, by have := h.size; simp; omega, fun k hk h1 h2 h3 h4 => by rw [Below.heap_alloc _ _ _ (by have := h.size; omega), h.block k hk h1 h2 h3 h4]⟩
theorem TF.drewN {tb rb : Nat} {sb hb : Option Nat} {a b : World} (h : TF tb rb sb hb a b) (n : Nat) : TF tb rb sb hb a (b.drewN n) := ⟨h.os, h.tape, h.output, h.size, h.block⟩
theorem TF.setCell {tb rb : Nat} {sb hb : Option Nat} {a b : World} (h : TF tb rb sb hb a b) (p : Addr) (u : Value) (hp : p.block = tb ∨ p.block = rb ∨ some p.block = sb ∨ some p.block = hb ∨ a.heap.size ≤ p.block) : TF tb rb sb hb a (b.setCell p u) :=
 ⟨h.os, h.tape, h.output, by have := h.size; simp [World.setCell]; omega, fun k hk h1 h2 h3 h4 => by
  rw [Below.heap_setCell _ _ _ _ (by rcases hp with e | e | e | e | e <;> first | (rintro rfl; exact absurd e (by first | exact h1 | exact h2)) | (rintro rfl; exact h3 e) | (rintro rfl; exact h4 e) | omega), h.block k hk h1 h2 h3 h4]⟩
theorem TF.below {tb rb B : Nat} {sb hb : Option Nat} {a b : World} (h : TF tb rb sb hb a b) (hB : B ≤ a.heap.size) (h1 : B ≤ tb) (h2 : B ≤ rb) (h3 : ∀ g, sb = some g → B ≤ g) (h4 : ∀ g, hb = some g → B ≤ g) : Below B a b :=
 ⟨h.os, h.tape, h.output, h.size, fun k hk => h.block k (by omega) (by omega) (by omega) (fun e => by have := h3 k e.symm; omega) (fun e => by have := h4 k e.symm; omega)⟩
theorem TF.blk {tb rb : Nat} {sb hb : Option Nat} {a b : World} (h : TF tb rb sb hb a b) {k : Nat} {cs : Array Value} {t : TypeId} (hk : Blk a k cs t) (h1 : k ≠ tb) (h2 : k ≠ rb) (h3 : some k ≠ sb) (h4 : some k ≠ hb) : Blk b k cs t := by
 have := hk.lt; unfold Blk at *; rw [h.block k this h1 h2 h3 h4]; exact hk
theorem TrAt.svform {gb rb tb : Nat} {bs : ByteArray} {w : World} {s : Ts} (h : TrAt gb rb tb bs w s) : ∃ p cap, s.sv = .slice p s.spans.length cap := by
 rcases h.own.2 with ⟨e, h0⟩ | ⟨g, cap, cur, e, _⟩
 · exact ⟨none, 0, by rw [e, h0]⟩
 · exact ⟨_, cap, e⟩
theorem TrAt.svlt {gb rb tb : Nat} {bs : ByteArray} {w : World} {s : Ts} (h : TrAt gb rb tb bs w s) (g : Nat) (e : s.sv.ownBlock = some g) : tb < g ∧ g < w.heap.size := by
 have := h.own.lt g e; omega
set_option maxHeartbeats 1000000 in
theorem made_some (gb rb tb : Nat) (bs : ByteArray) (w : World) (s : Ts) (h : TrAt gb rb tb bs w s) (k n : Int) (r : ByteArray) (v : Value) (m : Nat) (h0 : s.nodes = m + 1) (hm : m ≤ 1000000) (_hv : v.oneCell' = true) :
 Calls Tryz.prog 186 #[.pointer (some ⟨tb, 0, none⟩), .agg #[.int .i64 k, .int .u32 n, .string r, v]] w fun e w' => e = .returned (.pointer (some ⟨w.heap.size, 0, none⟩)) ∧
  TrAt gb rb tb bs w' { s with nodes := m } ∧ TF tb rb none none w w' ∧ Blk w' w.heap.size #[.int .i64 k, .int .u32 n, .string r, v] 177 ∧ w'.heap.size = w.heap.size + 1 := by
 have hlt := h.blk.lt
 have HT := h
 have c : ∀ o, (w.alloc o).cell? ⟨tb, 48, none⟩ = some (.int .i64 ((m : Int) + 1)) := fun o => by rw [(h.alloc o).cnodes, h0]; rfl
 have f : ∀ o, (w.alloc o).frozen? ⟨tb, 48, none⟩ = false := fun o => (h.alloc o).blk.frozen 48
 have hne : ¬ ((m : Int) + 1 == 0) = true := by simp; omega
 have hne2 : ¬ w.heap.size = tb := by omega
 have hne3 : ¬ tb = w.heap.size := by omega
 clear h
 go_enter Tryz.func186, Tryz.ntmps186
 go_wp2_with fail
 go_ret
 refine ⟨rfl, ?_, ?_, ?_, ?_⟩
 · exact (HT.set (s' := { s with nodes := m }) 48 _ (trCells_nodes gb rb bs s m) rfl rfl rfl).alloc _
 · exact ((TF.refl tb rb none none w).setCell ⟨tb, 48, none⟩ _ (Or.inl rfl)).alloc _
 · have := Blk.new (w.setCell ⟨tb, 48, none⟩ (.int .i64 m)) #[.int .i64 k, .int .u32 n, .string r, v] 177
   rwa [show (w.setCell ⟨tb, 48, none⟩ (.int .i64 m)).heap.size = w.heap.size by simp [World.setCell]] at this
 · simp [World.setCell]
set_option maxHeartbeats 1000000 in
theorem mark_calls (gb rb tb : Nat) (bs : ByteArray) (w : World) (s : Ts) (h : TrAt gb rb tb bs w s) :
 Calls Tryz.prog 187 #[.pointer (some ⟨tb, 0, none⟩)] w fun e w' => e = .returned (.agg #[.int .i64 s.spans.length, .int .i64 s.nodes]) ∧ TrAt gb rb tb bs w' s ∧ TF tb rb none none w w' ∧ w'.heap.size = w.heap.size + 1 := by
 have hlt := h.blk.lt
 have HT := hide' h
 obtain ⟨p, cap, hsv⟩ := h.svform
 have c20 : ∀ o, (w.alloc o).cell? ⟨tb, 50, none⟩ = some (.slice p s.spans.length cap) := fun o => by rw [(h.alloc o).csv, hsv]
 have c18 : ∀ o, (w.alloc o).cell? ⟨tb, 48, none⟩ = some (.int .i64 s.nodes) := fun o => (h.alloc o).cnodes
 clear h hsv
 go_enter Tryz.func187, Tryz.ntmps187
 go_wp2_with fail
 go_region
 go_wp2_with fail
 refine bodyPost_ret (v := .agg #[.int .i64 s.spans.length, .int .i64 s.nodes]) (by simp [results, Tryz.results187, go_sem]) rfl ?_
 refine ⟨rfl, (HT.out.alloc _).drewN 1, ((TF.refl tb rb none none w).alloc _).drewN 1, ?_⟩
 simp
theorem setR_none (l : List Bool) (a b : Nat) (v : Bool) (h : b ≤ a) : setR l a b v = l := by
 apply List.ext_getElem (by rw [setR_len])
 intro i h1 h2
 rw [setR_get _ _ _ _ _ h2, if_neg (by omega)]
theorem setR_step (l : List Bool) (a i : Nat) (v : Bool) (ha : a ≤ i) : (setR l a i v).set i v = setR l a (i + 1) v := by
 apply List.ext_getElem (by simp [setR_len])
 intro j h1 h2
 have hj : j < l.length := by simpa [setR_len] using h2
 rw [List.getElem_set, setR_get _ _ _ _ _ hj, setR_get _ _ _ _ _ hj]
 by_cases hij : i = j
 · subst hij; rw [if_pos rfl, if_pos (by omega)]
 · rw [if_neg hij]
   by_cases h : a ≤ j ∧ j < i
   · rw [if_pos h, if_pos (by omega)]
   · rw [if_neg h, if_neg (by omega)]
theorem rdBools_set (l : List Bool) (i : Nat) (v : Bool) : (l.map Value.bool).toArray.setIfInBounds i (.bool v) = ((l.set i v).map Value.bool).toArray := by simp [List.map_set]
theorem TrAt.setRead {gb rb tb : Nat} {bs : ByteArray} {w : World} {s : Ts} (h : TrAt gb rb tb bs w s) (i : Nat) (v : Bool) : TrAt gb rb tb bs (w.setCell ⟨rb, i, none⟩ (.bool v)) { s with read := s.read.set i v } := by
 have hlt := h.lt
 refine ⟨Blk.setOther h.blk _ (by simp only; omega) _, ?_, by simp [h.len], ?_, hlt⟩
 · have := Blk.set h.rd i (.bool v)
   rwa [rdBools_set] at this
 · exact ownsRow_setCell_below h.own (a := ⟨rb, i, none⟩) (by simp; omega) _
set_option maxRecDepth 100000 in
set_option maxHeartbeats 2000000 in
theorem setRead_calls (gb rb tb : Nat) (bs : ByteArray) (hbs : bs.size ≤ 4000) (w : World) (s : Ts) (h : TrAt gb rb tb bs w s) (a b : Nat) (v : Bool) (hab : a ≤ b) (hb : b ≤ bs.size) :
 Calls Tryz.prog 205 #[.pointer (some ⟨tb, 0, none⟩), .agg #[.int .i64 a, .int .i64 b], .bool v] w fun e w' => e = .returned (.tuple #[]) ∧ TrAt gb rb tb bs w' { s with read := setR s.read a b v } ∧ TF tb rb none none w w' ∧ w'.heap.size = w.heap.size + 1 := by
 have hlt := h.blk.lt
 have hlt2 := h.lt
 have HT := hide' (h.alloc (.cells #[.int .i64 a, .int .i64 b] 288))
 have HB := hide' (Blk.new w #[.int .i64 a, .int .i64 b] 288)
 have HF := hide' ((TF.refl tb rb none none w).alloc (.cells #[.int .i64 a, .int .i64 b] 288))
 have hsz : (w.alloc (.cells #[.int .i64 a, .int .i64 b] 288)).heap.size = w.heap.size + 1 := by simp
 clear h
 go_enter Tryz.func205, Tryz.ntmps205
 go_wp2_with fail
 generalize w.alloc (.cells #[.int .i64 a, .int .i64 b] 288) = W at *
 go_loopw [6] (fun v6 wr => ∃ i : Nat, v6 = .int .i64 i ∧ a ≤ i ∧ i ≤ b ∧ Hid (TrAt gb rb tb bs wr { s with read := setR s.read a i v }) ∧ Hid (Blk wr w.heap.size #[.int .i64 a, .int .i64 b] 288) ∧ Hid (TF tb rb none none w wr) ∧ wr.heap.size = w.heap.size + 1) (fun v6 _ => b - (intOf v6).toNat)
 case atStart => exact ⟨a, rfl, Nat.le_refl _, hab, by rw [setR_none _ _ _ _ (Nat.le_refl _)]; exact HT, HB, HF, hsz⟩
 case round =>
  obtain ⟨i, rfl, h1, h2, ht, hb2, hf, hs⟩ := hrel
  have b1 : wr.cell? ⟨w.heap.size, 1, none⟩ = some (.int .i64 b) := hb2.out.cell 1
  by_cases hlt : i < b
  · have hi' : (i : Int) < (b : Int) := by omega
    have hi2 : (i : Int) < (bs.size : Int) := by omega
    have cr := ht.out.cread
    have hi3 : i < (setR s.read a i v).length := by rw [setR_len]; have := ht.out.len; simp only [setR_len] at this; omega
    have ci : wr.cell? ⟨rb, i, none⟩ = some (.bool ((setR s.read a i v)[i]'hi3)) := by rw [ht.out.rd.cell i]; simp [hi3]
    have fi : wr.frozen? ⟨rb, i, none⟩ = false := ht.out.rd.frozen i
    have HN := hide' (ht.out.setRead i v)
    have HN2 : Hid (TrAt gb rb tb bs (wr.setCell ⟨rb, i, none⟩ (.bool v)) { s with read := setR s.read a (i + 1) v }) := by
     have h := HN.out
     simp only [setR_step _ _ _ _ h1] at h
     exact h
    have HB2 := hide' (hb2.out.setOther ⟨rb, i, none⟩ (by simp only; omega) (.bool v))
    have HF2 := hide' (hf.out.setCell ⟨rb, i, none⟩ (.bool v) (Or.inr (Or.inl rfl)))
    clear HN ht hb2 hf
    go_wp2_with fail
    go_roundw
    case rel => exact ⟨i + 1, by go_num, by omega, by omega, HN2, HB2, HF2, by simpa [World.setCell] using hs⟩
    case measure => simp [intOf]; omega
  · have hi' : ¬ (i : Int) < (b : Int) := by omega
    have hib : i = b := by omega
    subst hib
    go_wp2_with fail
    go_end0
    exact ⟨rfl, ht.out, hf.out, hs⟩
def FirstB (r : Nat → Bool) (b : Bool) (n : Nat) (k : Int) : Prop := (∃ i : Nat, k = i ∧ i < n ∧ r i = b ∧ ∀ j, j < i → r j ≠ b) ∨ (k = -1 ∧ ∀ j, j < n → r j ≠ b)
set_option maxRecDepth 100000 in
set_option maxHeartbeats 2000000 in
theorem index_calls (w : World) (av : Option Addr) (n cap : Nat) (r : Nat → Bool) (b : Bool) (hn : n ≤ 4000) (hc : ∀ j, j < n → ∃ g o, av = some ⟨g, o, none⟩ ∧ w.cell? ⟨g, o + j, none⟩ = some (.bool (r j))) :
 Calls Tryz.prog 63 #[.slice av n cap, .bool b] w fun e w' => ∃ k, e = .returned (.int .i64 k) ∧ w' = w ∧ FirstB r b n k := by
 have HC := hide' hc
 clear hc
 go_enter Tryz.func63, Tryz.ntmps63
 go_wp2_with fail
 go_loopw [8, 5] (fun v8 _ wr => ∃ i : Nat, v8 = .int .i64 i ∧ i ≤ n ∧ Hid (∀ j, j < i → r j ≠ b) ∧ wr = w) (fun v8 _ _ => n - (intOf v8).toNat)
 case atStart => exact ⟨0, rfl, by omega, (fun j hj => by omega), rfl⟩
 case round =>
  obtain ⟨i, rfl, h1, hno, rfl⟩ := hrel
  by_cases hlt : i < n
  · have hi' : (i : Int) < (n : Int) := by omega
    obtain ⟨g, o, rfl, hci⟩ := HC.out i hlt
    cases hr : r i <;> cases b <;> rw [hr] at hci
    all_goals
     have HR := hide' hr
     clear hr
     go_wp2_with fail
    · go_ret
      exact ⟨_, rfl, rfl, Or.inl ⟨i, rfl, hlt, HR.out, hno.out⟩⟩
    · go_roundw
      case rel => exact ⟨i + 1, by go_num, by omega, (fun j hj => if hji : j = i then by subst hji; rw [HR.out]; simp else hno.out j (by omega)), trivial⟩
      case measure => simp [intOf]; omega
    · go_roundw
      case rel => exact ⟨i + 1, by go_num, by omega, (fun j hj => if hji : j = i then by subst hji; rw [HR.out]; simp else hno.out j (by omega)), trivial⟩
      case measure => simp [intOf]; omega
    · go_ret
      exact ⟨_, rfl, rfl, Or.inl ⟨i, rfl, hlt, HR.out, hno.out⟩⟩
  · have hi' : ¬ (i : Int) < (n : Int) := by omega
    go_wp2_with fail
    go_ret
    exact ⟨_, rfl, rfl, Or.inr ⟨rfl, fun j hj => hno.out j (by omega)⟩⟩
set_option maxHeartbeats 1000000 in
theorem contains_calls (w : World) (av : Option Addr) (n cap : Nat) (r : Nat → Bool) (hn : n ≤ 4000) (hc : ∀ j, j < n → ∃ g o, av = some ⟨g, o, none⟩ ∧ w.cell? ⟨g, o + j, none⟩ = some (.bool (r j))) (c : Bool) (hcc : c = true ↔ ∃ j, j < n ∧ r j = true) :
 Calls Tryz.prog 204 #[.slice av n cap, .bool true] w fun e w' => e = .returned (.bool c) ∧ w' = w := by
 have HI := hide' (index_calls w av n cap r true hn hc)
 have HC := hide' hcc
 clear hc hcc
 go_enter Tryz.func204, Tryz.ntmps204
 go_wp2_with fail
 refine HI.out.mono ?_
 rintro e w1 ⟨k, rfl, rfl, hk⟩
 have hd : c = decide (0 ≤ k) := by
  rcases hk with ⟨i, rfl, h1, h2, h3⟩ | ⟨rfl, h1⟩
  · rw [HC.out.2 ⟨i, h1, h2⟩]; simp
  · cases c
    · rfl
    · obtain ⟨j, hj, hr⟩ := HC.out.1 rfl
      exact absurd hr (h1 j hj)
 have HD := hide' hd
 clear hd hk
 simp only
 go_wp2_with fail
 all_goals
  go_ret
  exact ⟨by rw [HD.out]; simp [*], rfl⟩
def spotV (a e : Nat) (ho : Option Addr) : Value := .agg #[.int .i64 a, .int .i64 e, .pointer ho]
def spotC (a e : Nat) (ho : Option Addr) : Obj := .cells #[.int .i64 a, .int .i64 e, .pointer ho] 159
def spanO (a b : Nat) : Obj := .cells #[.int .i64 a, .int .i64 b] 288
theorem Tryz.infoSpan : (Tryz.prog.info? 288).map (fun i => (i.zero, i.size, i.bytes)) = some (some (.agg #[.int .i64 0, .int .i64 0]), 2, 16) := by kernel_rfl
theorem any_iff (rd : List Bool) (a n : Nat) : ((List.range n).any fun j => rd.getD (a + j) false) = true ↔ ∃ j, j < n ∧ rd.getD (a + j) false = true := by
 rw [List.any_eq_true]; simp
theorem TrAt.rcell {gb rb tb : Nat} {bs : ByteArray} {w : World} {s : Ts} (h : TrAt gb rb tb bs w s) (j : Nat) (hj : j < bs.size) : w.cell? ⟨rb, j, none⟩ = some (.bool (s.read.getD j false)) := by
 have hl := h.len
 rw [h.rd.cell j]
 simp [show j < s.read.length by omega]
set_option maxRecDepth 100000 in
set_option maxHeartbeats 4000000 in
theorem readOn_no (gb rb tb : Nat) (bs : ByteArray) (hbs : bs.size ≤ 4000) (w : World) (s : Ts) (h : TrAt gb rb tb bs w s) (a e n : Nat) (ho : Option Addr) (hae : a ≤ e) (he : e ≤ bs.size) (hn : n < 4294967296) (hc : canRead s.read a e n = false) :
 Calls Tryz.prog 184 #[.pointer (some ⟨tb, 0, none⟩), spotV a e ho, .int .u32 n] w fun e' w' => e' = .returned (.tuple #[.string ByteArray.empty, .bool false]) ∧ TrAt gb rb tb bs w' s ∧ TF tb rb none none w w' := by
 have hlt := h.blk.lt
 have hlt2 := h.lt
 have HT := hide' h
 clear h
 by_cases h1 : e - a < n
 · have h1' : ((e : Int) - (a : Int)) < (n : Int) := by omega
   unfold spotV
   go_enter Tryz.func184, Tryz.ntmps184
   go_wp2_with fail
   go_ret2
   exact ⟨rfl, HT.out.alloc _, (TF.refl tb rb none none w).alloc _⟩
 · have h1' : ¬ ((e : Int) - (a : Int)) < (n : Int) := by omega
   have hany : ((List.range n).any fun j => s.read.getD (a + j) false) = true := by
    unfold canRead at hc
    rw [decide_eq_true (by omega)] at hc
    simpa using hc
   have HC : Hid (∃ j, j < n ∧ s.read.getD (a + j) false = true) := (any_iff _ _ _).1 hany
   clear hany hc
   have HT2 := hide' ((HT.out.alloc (spotC a e ho)).alloc (spanO a (a + n)))
   have HF2 := hide' (((TF.refl tb rb none none w).alloc (spotC a e ho)).alloc (spanO a (a + n)))
   unfold spanO spotC at HT2 HF2
   have hcast : ((a + n : Nat) : Int) = (a : Int) + (n : Int) := by omega
   rw [hcast] at HT2 HF2
   have hle1 : (a : Int) ≤ (a : Int) + (n : Int) := by omega
   have hle2 : (a : Int) + (n : Int) ≤ (bs.size : Int) := by omega
   unfold spotV
   go_enter Tryz.func184, Tryz.ntmps184
   go_wp2_with fail
   have b0 : ((w.alloc (.cells #[.int .i64 a, .int .i64 e, .pointer ho] 159)).alloc (.cells #[.int .i64 a, .int .i64 ((a : Int) + (n : Int))] 288)).cell? ⟨w.heap.size + 1, 0, none⟩ = some (.int .i64 a) := by simp [go_sem]
   have b1 : ((w.alloc (.cells #[.int .i64 a, .int .i64 e, .pointer ho] 159)).alloc (.cells #[.int .i64 a, .int .i64 ((a : Int) + (n : Int))] 288)).cell? ⟨w.heap.size + 1, 1, none⟩ = some (.int .i64 ((a : Int) + (n : Int))) := by simp [go_sem]
   generalize (w.alloc (.cells #[.int .i64 a, .int .i64 e, .pointer ho] 159)).alloc (.cells #[.int .i64 a, .int .i64 ((a : Int) + (n : Int))] 288) = W at *
   have cr := HT2.out.cread
   have HQ : Hid (∀ m, Calls Tryz.prog 204 #[.slice (if bs.size = a then some ⟨rb, 0, none⟩ else some ⟨rb, a, none⟩) n (bs.size - a), .bool true] (W.drewN m) fun e w' => e = .returned (.bool true) ∧ w' = W.drewN m) := fun m =>
    contains_calls (W.drewN m) _ n _ (fun j => s.read.getD (a + j) false) (by omega) (fun j hj => ⟨rb, a, by rw [if_neg (by omega)], (HT2.out.drewN m).rcell (a + j) (by omega)⟩) true ⟨fun _ => HC.out, fun _ => rfl⟩
   go_quiet (first | (go_at_call 204; exact Calls.quiet_of_same (HQ.out _)))
   generalize (if bs.size = a then some ⟨rb, 0, none⟩ else some ⟨rb, a, none⟩ : Option Addr) = av
   go_wp2_with fail
   go_ret2
   exact ⟨rfl, HT2.out.drewN _, HF2.out.drewN _⟩
theorem TF.grown {tb rb : Nat} {sb hb row : Option Nat} {a b c : World} (h : TF tb rb sb hb a b) (hg : b.grownBy c row) (hr : row = sb ∨ ∀ g, row = some g → a.heap.size ≤ g) : TF tb rb sb hb a c :=
 ⟨hg.os.trans h.os, hg.tape.trans h.tape, hg.output.trans h.output, Nat.le_trans h.size hg.size, fun k hk h1 h2 h3 h4 => by
  rw [hg.block k (by have := h.size; omega) (hr.elim (fun e => by rw [e]; exact h3) (fun e e2 => by have := e k e2.symm; omega)), h.block k hk h1 h2 h3 h4]⟩
theorem TF.any {tb rb : Nat} {a b : World} (h : TF tb rb none none a b) (sb hb : Option Nat) : TF tb rb sb hb a b := ⟨h.os, h.tape, h.output, h.size, fun k hk h1 h2 _ _ => h.block k hk h1 h2 (by simp) (by simp)⟩
theorem TrAt.push {gb rb tb : Nat} {bs : ByteArray} {w w' : World} {s : Ts} (h : TrAt gb rb tb bs w s) (x y : Nat) (gg cap1 : Nat) (hown : w'.ownsRow (tb + 1) 288 2 (.slice (some ⟨gg, 0, none⟩) (s.spans.length + 1) cap1) (s.spans.length + 1) (spanC s.spans ++ [.int .i64 x, .int .i64 y]))
 (hgrow : w.grownBy w' s.sv.ownBlock) : TrAt gb rb tb bs (w'.setCell ⟨tb, 50, none⟩ (.slice (some ⟨gg, 0, none⟩) (s.spans.length + 1) cap1)) { s with spans := s.spans ++ [(x, y)], sv := .slice (some ⟨gg, 0, none⟩) (s.spans.length + 1) cap1 } := by
 have hlt := h.lt
 have hne1 : some tb ≠ s.sv.ownBlock := fun e => by have := (h.svlt tb e.symm).1; omega
 have hne2 : some rb ≠ s.sv.ownBlock := fun e => by have := (h.svlt rb e.symm).1; omega
 refine ⟨?_, Blk.setOther (h.rd.grown hgrow hne2) _ (by simp only; omega) _, h.len, ?_, hlt⟩
 · exact Blk.set (h.blk.grown hgrow hne1) 50 _
 · have := ownsRow_setCell_below hown (a := ⟨tb, 50, none⟩) (by simp) (.slice (some ⟨gg, 0, none⟩) (s.spans.length + 1) cap1)
   simpa [spanC] using this
def tsRead (s : Ts) (a n : Nat) (sv : Value) : Ts := { s with read := setR s.read a (a + n) true, spans := s.spans ++ [(a, a + n)], sv := sv }
set_option maxRecDepth 100000 in
set_option maxHeartbeats 4000000 in
theorem readOn_yes (gb rb tb : Nat) (bs : ByteArray) (hbs : bs.size ≤ 4000) (w : World) (s : Ts) (h : TrAt gb rb tb bs w s) (a e n : Nat) (ho : Option Addr) (hae : a ≤ e) (he : e ≤ bs.size) (hn : n < 4294967296) (hc : canRead s.read a e n = true) (hsl : s.spans.length ≤ 1000000) :
 Calls Tryz.prog 184 #[.pointer (some ⟨tb, 0, none⟩), spotV a e ho, .int .u32 n] w fun e' w' => e' = .returned (.tuple #[.string (bs.extract a (a + n)), .bool true]) ∧
  ∃ sv, TrAt gb rb tb bs w' (tsRead s a n sv) ∧ TF tb rb s.sv.ownBlock none w w' ∧ (sv.ownBlock = s.sv.ownBlock ∨ ∃ g, sv.ownBlock = some g ∧ w.heap.size ≤ g) := by
 obtain ⟨i0, hi0, hz0, hz1, hz2⟩ := info_parts Tryz.infoSpan
 have hlt := h.blk.lt
 have hlt2 := h.lt
 have HT := hide' h
 clear h
 unfold canRead at hc
 simp only [Bool.and_eq_true, decide_eq_true_eq] at hc
 obtain ⟨h1, hany⟩ := hc
 have h1' : ¬ ((e : Int) - (a : Int)) < (n : Int) := by omega
 have HC : Hid (¬ ∃ j, j < n ∧ s.read.getD (a + j) false = true) := by
  have : ¬ ∃ j, j < n ∧ s.read.getD (a + j) false = true := fun h => by
   rw [(any_iff _ _ _).2 h] at hany; cases hany
  exact this
 clear hany
 have HT2 := hide' ((HT.out.alloc (spotC a e ho)).alloc (spanO a (a + n)))
 have HF2 := hide' (((TF.refl tb rb none none w).alloc (spotC a e ho)).alloc (spanO a (a + n)))
 have HB2 := hide' (Blk.new (w.alloc (spotC a e ho)) #[.int .i64 a, .int .i64 ((a + n : Nat) : Int)] 288)
 have hsW : ((w.alloc (spotC a e ho)).alloc (spanO a (a + n))).heap.size = w.heap.size + 2 := by simp
 unfold spanO spotC at HT2 HF2 hsW
 unfold spotC at HB2
 have hcast : ((a + n : Nat) : Int) = (a : Int) + (n : Int) := by omega
 rw [hcast] at HT2 HF2 HB2 hsW
 rw [show (w.alloc (.cells #[.int .i64 a, .int .i64 e, .pointer ho] 159)).heap.size = w.heap.size + 1 by simp] at HB2
 have hle1 : (a : Int) ≤ (a : Int) + (n : Int) := by omega
 have hle2 : (a : Int) + (n : Int) ≤ (bs.size : Int) := by omega
 unfold spotV
 go_enter Tryz.func184, Tryz.ntmps184
 go_wp2_with fail
 have b0 : ((w.alloc (.cells #[.int .i64 a, .int .i64 e, .pointer ho] 159)).alloc (.cells #[.int .i64 a, .int .i64 ((a : Int) + (n : Int))] 288)).cell? ⟨w.heap.size + 1, 0, none⟩ = some (.int .i64 a) := by simp [go_sem]
 have b1 : ((w.alloc (.cells #[.int .i64 a, .int .i64 e, .pointer ho] 159)).alloc (.cells #[.int .i64 a, .int .i64 ((a : Int) + (n : Int))] 288)).cell? ⟨w.heap.size + 1, 1, none⟩ = some (.int .i64 ((a : Int) + (n : Int))) := by simp [go_sem]
 generalize (w.alloc (.cells #[.int .i64 a, .int .i64 e, .pointer ho] 159)).alloc (.cells #[.int .i64 a, .int .i64 ((a : Int) + (n : Int))] 288) = W at *
 have cr := HT2.out.cread
 have HQ : Hid (∀ m, Calls Tryz.prog 204 #[.slice (if bs.size = a then some ⟨rb, 0, none⟩ else some ⟨rb, a, none⟩) n (bs.size - a), .bool true] (W.drewN m) fun e w' => e = .returned (.bool false) ∧ w' = W.drewN m) := fun m =>
  contains_calls (W.drewN m) _ n _ (fun j => s.read.getD (a + j) false) (by omega) (fun j hj => ⟨rb, a, by rw [if_neg (by omega)], (HT2.out.drewN m).rcell (a + j) (by omega)⟩) false ⟨fun h => (by cases h), fun h => absurd h HC.out⟩
 go_quiet (first | (go_at_call 204; exact Calls.quiet_of_same (HQ.out _)))
 generalize (if bs.size = a then some ⟨rb, 0, none⟩ else some ⟨rb, a, none⟩ : Option Addr) = av
 have HB3 := hide' (show Blk (W.drewN nq) (w.heap.size + 1) _ _ from HB2.out)
 have HT3 := hide' (HT2.out.drewN nq)
 have HF3 := hide' (HF2.out.drewN nq)
 have hsW3 : (W.drewN nq).heap.size = w.heap.size + 2 := hsW
 generalize W.drewN nq = W3 at *
 clear HB2 HT2 HF2 HQ cr
 have c0 : W3.cell? ⟨w.heap.size + 1, 0, none⟩ = some (.int .i64 a) := HB3.out.cell 0
 have c1 : W3.cell? ⟨w.heap.size + 1, 1, none⟩ = some (.int .i64 ((a : Int) + (n : Int))) := HB3.out.cell 1
 go_wp2_with fail
 have hsr := setRead_calls gb rb tb bs hbs W3 s HT3.out a (a + n) true (by omega) (by omega)
 rw [hcast] at hsr
 refine hsr.mono ?_
 rintro e4 W4 ⟨rfl, ht4, hf4, hs4⟩
 have hft := HF3.out.trans hf4 (Or.inl rfl) (Or.inl rfl)
 have HB4 := hide' (hf4.blk HB3.out (by omega) (by omega) (by simp) (by simp))
 have HT4 := hide' ht4
 have HF4 := hide' hft
 have hs5 : w.heap.size + 3 ≤ W4.heap.size := by omega
 clear hsr ht4 hf4 hft c0 c1 b0 b1 hs4 hsW3 hsW
 have c0 : W4.cell? ⟨w.heap.size + 1, 0, none⟩ = some (.int .i64 a) := HB4.out.cell 0
 have c1 : W4.cell? ⟨w.heap.size + 1, 1, none⟩ = some (.int .i64 ((a : Int) + (n : Int))) := HB4.out.cell 1
 obtain ⟨p, cap, hsv⟩ := HT4.out.svform
 simp only at hsv
 have c20 : W4.cell? ⟨tb, 50, none⟩ = some (.slice p s.spans.length cap) := by rw [← hsv]; exact HT4.out.csv
 have c20a : ∀ o, (W4.alloc o).cell? ⟨tb, 50, none⟩ = some (.slice p s.spans.length cap) := fun o => by rw [← hsv]; exact (HT4.out.alloc o).csv
 have hown : W4.ownsRow (tb + 1) 288 2 (.slice p s.spans.length cap) s.spans.length (spanC s.spans) := by rw [← hsv]; exact HT4.out.own
 have htl4 : tb < W4.heap.size := by omega
 have HSV := hide' hsv
 have HNE : Hid (some (w.heap.size + 1) ≠ s.sv.ownBlock) := (fun e => by have := HT.out.svlt _ e.symm; omega : some (w.heap.size + 1) ≠ s.sv.ownBlock)
 clear hsv
 simp only
 go_wp2_with fail
 go_cut [] (fun wc => ∃ sv, TrAt gb rb tb bs wc (tsRead s a n sv) ∧ TF tb rb s.sv.ownBlock none w wc ∧ (sv.ownBlock = s.sv.ownBlock ∨ ∃ g, sv.ownBlock = some g ∧ w.heap.size ≤ g) ∧ Blk wc (w.heap.size + 1) #[.int .i64 a, .int .i64 ((a : Int) + (n : Int))] 288)
 case first =>
  go_region_law (
   (refine step_append_lies _ (by rfl) _ _ _ (by rfl) (tb + 1) 288 i0 _ 2 16 Tryz.underlying152 hi0 hz0 hz1 hz2 rfl (by omega) (.slice p s.spans.length cap) s.spans.length (spanC s.spans) (by rfl) ((hown.alloc _).drew)
     ⟨W4.heap.size, 0, none⟩ 1 1 [.int .i64 a, .int .i64 ((a : Int) + (n : Int))] (by rfl) (by rfl)
     (World.news_of_block (cs := #[.int .i64 a, .int .i64 ((a : Int) + (n : Int))]) (t := 288) (fr := (0, 0)) (heap_alloc_new W4 _)) (by simp [Value.oneCell'])
     (by omega) (by unfold maxLen; omega) (by omega) (by simp; omega) (W4.heap.size + 1) (by simp) ?_
    intro gg cap1 W5 hown1 hgrow hat hlt5
    have hne1 : some tb ≠ (Value.slice p s.spans.length cap).ownBlock := fun e => by rw [← HSV.out] at e; have := (HT4.out.svlt tb e.symm).1; omega
    have hB5 := ((HT4.out.blk.alloc _).drew).grown hgrow hne1
    have c5 : W5.cell? ⟨tb, 50, none⟩ = some (.slice p s.spans.length cap) := by rw [← HSV.out]; exact hB5.cell 50
    have f5 : W5.frozen? ⟨tb, 50, none⟩ = false := hB5.frozen 50))
  all_goals
   go_wp2_with fail
   go_meet
   case rel =>
    rw [← HSV.out] at hgrow hat
    refine ⟨_, TrAt.push ((HT4.out.alloc _).drewN 1) a (a + n) gg cap1 (by rw [hcast]; exact hown1) hgrow, ?_, ?_, ?_⟩
    · exact ((((HF4.out.any s.sv.ownBlock none).alloc _).drewN 1).grown hgrow (Or.inl rfl)).setCell _ _ (Or.inl rfl)
    · rcases hat with h | h
      · exact Or.inl (by rw [h]; rfl)
      · exact Or.inr ⟨gg, rfl, by omega⟩
    · have h5 := ((HB4.out.alloc _).drew).grown hgrow (HNE.out)
      exact h5.setOther _ (by simp only; omega) _
 case rest =>
  obtain ⟨sv, ht5, hf5, hs6, hb5⟩ := hcut
  have c16 := ht5.cbytes
  have d0 : wc.cell? ⟨w.heap.size + 1, 0, none⟩ = some (.int .i64 a) := hb5.cell 0
  have d1 : wc.cell? ⟨w.heap.size + 1, 1, none⟩ = some (.int .i64 ((a : Int) + (n : Int))) := hb5.cell 1
  have HT5 := hide' ht5
  have HF5 := hide' hf5
  have HS6 := hide' hs6
  clear ht5 hf5 hs6 hb5 c20 c20a hown c0 c1 HT4 HF4 HB4
  go_wp2_with fail
  go_quiet (fail)
  go_wp2_with fail
  go_ret2
  exact ⟨rfl, sv, HT5.out.drewN _, HF5.out.drewN _, HS6.out⟩
end Go.Proofs.YtmlkhhhjdpbhfaaGreatDoor

import Derived.Test.YtmlkhhhjdpbhfaaGreatDoorPa38
import Derived.Test.YtmlkhhhjdpbhfaaGreatDoorPa04
import Derived.Test.YtmlkhhhjdpbhfaaGreatDoorPa22
import Derived.Test.YtmlkhhhjdpbhfaaGreatDoorPa18
namespace Go.Proofs.YtmlkhhhjdpbhfaaGreatDoor
open Go.RowKit
theorem setR_nil (l : List Bool) (a : Nat) : setR l a a true = l := by
 apply List.ext_getElem (by rw [setR_len])
 intro i h1 h2
 rw [setR_get _ _ _ _ _ h2, if_neg (by omega)]
theorem setR_snoc (l : List Bool) (a b : Nat) (hab : a ≤ b) : (setR l a b true).set b true = setR l a (b + 1) true := by
 apply List.ext_getElem (by rw [List.length_set, setR_len, setR_len])
 intro i h1 h2
 rw [setR_len] at h2
 rw [List.getElem_set, setR_get _ _ _ _ _ h2, setR_get _ _ _ _ _ h2]
 by_cases hi : b = i
 · subst hi; rw [if_pos rfl, if_pos (by omega)]
 · rw [if_neg hi]
   by_cases h3 : a ≤ i ∧ i < b
   · rw [if_pos h3, if_pos (by omega)]
   · rw [if_neg h3, if_neg (by omega)]
theorem rdC_set (rd : List Bool) (b : Nat) (v : Bool) : (rdC rd).setIfInBounds b (.bool v) = rdC (rd.set b v) := by
 unfold rdC
 rw [List.map_set]; simp
theorem canRead_long (rd : List Bool) (a e n : Nat) (h : ¬ n ≤ e - a) : canRead rd a e n = false := by simp [canRead, h]
theorem canRead_hit (rd : List Bool) (a e n j : Nat) (hj : j < n) (h : rd.getD (a + j) false = true) : canRead rd a e n = false := by
 have : ((List.range n).any fun j => rd.getD (a + j) false) = true := by rw [List.any_eq_true]; exact ⟨j, List.mem_range.2 hj, h⟩
 unfold canRead; rw [this]; simp
theorem canRead_yes (rd : List Bool) (a e n : Nat) (h : n ≤ e - a) (hn : ∀ j, j < n → rd.getD (a + j) false = false) : canRead rd a e n = true := by
 have : ((List.range n).any fun j => rd.getD (a + j) false) = false := by
  rw [List.any_eq_false]; intro j hj; rw [hn j (List.mem_range.1 hj)]; simp
 unfold canRead; rw [this]; simp [h]
def ReadsPost (w : World) (st : PS) (rb m db n : Nat) (e : Ending) (w' : World) : Prop :=
 Below w.heap.size w w' ∧ (canRead st.rd st.pl st.en n = true → ∃ rb', e = .returned (.tuple #[.agg (rsC (readS st n) rb' m db), .bool true]) ∧ RdAt w' rb' (readS st n).rd ∧ w.heap.size ≤ rb') ∧
 (canRead st.rd st.pl st.en n = false → e = .returned (.tuple #[.agg (rsC st rb m db), .bool false]))
theorem Tryz.sizeBool : (Tryz.prog.info? 4).map (·.size) = some 1 := by kernel_rfl
theorem rows_ready (w : World) (o1 o2 : Obj) (rb m : Nat) (rd : List Bool) (hr : RdAt w rb rd) (hm : rd.length = m) (hm4 : m ≤ 4000) :
 ∃ W1 W2, Sem.run Tryz.prog (Instr.makeSlice 137 (.int .i64 m) (.int .i64 m)) ((w.alloc o1).alloc o2) = .ok (.slice (some ⟨w.heap.size + 1 + 1, 0, none⟩) m m) W1 ∧
  (∀ ty, Sem.run Tryz.prog (Builtin.copy_ #[137, 137] ty #[.slice (some ⟨w.heap.size + 1 + 1, 0, none⟩) m m, .slice (some ⟨rb, 0, none⟩) m m]) W1 = .ok (.int .i64 m) W2) ∧
  Blk W2 (w.heap.size + 1 + 1) (rdC rd) 4 ∧ Below (w.heap.size + 1 + 1) ((w.alloc o1).alloc o2) W2 ∧ W2.heap.size = w.heap.size + 3 ∧ Below (w.heap.size + 1 + 1) ((w.alloc o1).alloc o2) W1 := by
 have hrl := hr.lt
 have hs2 : ((w.alloc o1).alloc o2).heap.size = w.heap.size + 1 + 1 := by simp
 have hmk := mk_read m hm4 ((w.alloc o1).alloc o2)
 rw [hs2] at hmk
 have hb1 : Blk (((w.alloc o1).alloc o2).alloc (.cells ((List.replicate m false).map Value.bool).toArray 4)) (w.heap.size + 1 + 1) ((List.replicate m false).map Value.bool).toArray 4 := by
  have := Blk.new ((w.alloc o1).alloc o2) ((List.replicate m false).map Value.bool).toArray 4
  rw [hs2] at this; exact this
 have hr1 : RdAt (((w.alloc o1).alloc o2).alloc (.cells ((List.replicate m false).map Value.bool).toArray 4)) rb rd := Blk.alloc (Blk.alloc (Blk.alloc hr _) _) _
 refine ⟨_, (((w.alloc o1).alloc o2).alloc (.cells ((List.replicate m false).map Value.bool).toArray 4)).setRow (w.heap.size + 1 + 1) (rdC rd), hmk, fun ty => ?_, ?_, ?_, ?_, (Below.refl _ _).alloc (by simp) _⟩
 · have := run_copy_row (P := Tryz.prog) _ 137 137 ty 4 (w.heap.size + 1 + 1) 0 m m ⟨rb, 0, none⟩ m m ((List.replicate m false).map Value.bool).toArray 4 (rd.map Value.bool) Tryz.underlying137 Tryz.sizeBool hb1 (by simp [hm]) (fun j u hu => ?_) (by simp [hm]) (fun u hu => by
    obtain ⟨x, _, rfl⟩ := List.mem_map.1 hu; rfl)
   · have e1 : goInt (rd.map Value.bool).length = .int .i64 m := by rw [List.length_map, hm]; rfl
     have e2 : ((((List.replicate m false).map Value.bool).toArray.toList.take 0 ++ rd.map Value.bool ++ ((List.replicate m false).map Value.bool).toArray.toList.drop (0 + (rd.map Value.bool).length)).toArray) = rdC rd := by
      rw [List.take_zero, List.nil_append, List.drop_eq_nil_of_le (by simp [hm]), List.append_nil]; rfl
     rw [e1, e2] at this
     exact this
   · have : (⟨rb, 0, none⟩ : Addr).add j = ⟨rb, j, none⟩ := by unfold Addr.add; split <;> simp_all
     rw [this, hr1.cell j]
     simpa [rdC] using hu
 · exact setRow_heap _ _ _ _ _ _ hb1
 · exact below_setRow ((Below.refl _ _).alloc (by simp) _) (Nat.le_refl _) _
 · simp [World.setRow]
set_option maxRecDepth 100000 in
set_option maxHeartbeats 1000000 in
theorem reads_calls (w : World) (pv : Value) (st : PS) (rb m db n : Nat) (hr : RdAt w rb st.rd) (hm : st.rd.length = m) (hm4 : m ≤ 4000) (hpl : st.pl ≤ st.en) (hen : st.en ≤ m) (hn : n ≤ 4294967296) :
 Calls Tryz.prog 163 #[pv, .agg (rsC st rb m db), .int .i64 n] w fun e w' => ReadsPost w st rb m db n e w' := by
 have hrl := hr.lt
 have HR := hide' hr
 have HM := hide' hm
 clear hr hm
 unfold rsC
 by_cases hlong : n ≤ st.en - st.pl
 · have hl' : ¬ (st.en : Int) - (st.pl : Int) < (n : Int) := by omega
   obtain ⟨W1, W2, hmk, hcp, hb2, hbel2, hs2, hbel1⟩ := rows_ready w (.cells (rsC st rb m db) 140) (.cells #[.int .i64 0, .int .i64 0, .slice none 0 0, .slice none 0 0, .int .i64 0] 140) rb m st.rd HR.out HM.out hm4
   have hB2 : Blk W2 w.heap.size (rsC st rb m db) 140 := (Blk.alloc (Blk.new w (rsC st rb m db) 140) _).below hbel2 (by omega)
   have hZ2 : Blk W2 (w.heap.size + 1) #[.int .i64 0, .int .i64 0, .slice none 0 0, .slice none 0 0, .int .i64 0] 140 := by
    have := Blk.new (w.alloc (.cells (rsC st rb m db) 140)) #[.int .i64 0, .int .i64 0, .slice none 0 0, .slice none 0 0, .int .i64 0] 140
    have h2 := this.below hbel2 (by simp)
    simpa using h2
   have hW2 : Below w.heap.size w W2 := (((Below.refl w.heap.size w).alloc (Nat.le_refl _) _).alloc (by simp) _).trans (hbel2.mono (by omega))
   have z2 : W1.cell? ⟨w.heap.size, 2, none⟩ = some (.slice (some ⟨rb, 0, none⟩) m m) := ((Blk.alloc (Blk.new w (rsC st rb m db) 140) _).below hbel1 (by omega)).cell 2
   have HB2 := hide' hB2
   have HZ2 := hide' hZ2
   have HW2 := hide' hW2
   have HR2 := hide' hb2
   clear hbel2 hb2 hB2 hZ2 hW2 hbel1
   have hcp3 := hcp 3
   have s0 : W2.cell? ⟨w.heap.size, 0, none⟩ = some (.int .i64 st.pl) := HB2.out.cell 0
   unfold rsC at hmk
   clear hcp
   go_enter Tryz.func163, Tryz.ntmps163
   go_wp2_with fail
   go_loopw [9] (fun v9 wr => ∃ i : Nat, v9 = .int .i64 i ∧ st.pl ≤ i ∧ i ≤ st.pl + n ∧ Hid (∀ j, j < i - st.pl → st.rd.getD (st.pl + j) false = false) ∧ Hid (Blk wr (w.heap.size + 1 + 1) (rdC (setR st.rd st.pl i true)) 4) ∧ Hid (Below (w.heap.size + 1 + 1) W2 wr)) (fun v9 _ => st.pl + n - (intOf v9).toNat)
   case atStart =>
    refine ⟨st.pl, rfl, Nat.le_refl _, by omega, fun j hj => by omega, ?_, Below.refl _ _⟩
    have h := HR2.out
    rw [← setR_nil st.rd st.pl] at h
    exact h
   case round =>
    obtain ⟨i, rfl, hi1, hi2, hno, hrow, hbel⟩ := hrel
    have hsz := hbel.out.size
    have HBr := hide' (HB2.out.below hbel.out (by omega))
    have HZr := hide' (HZ2.out.below hbel.out (by omega))
    have r0 : wr.cell? ⟨w.heap.size, 0, none⟩ = some (.int .i64 st.pl) := HBr.out.cell 0
    clear s0
    by_cases hlt : i < st.pl + n
    · have hlt' : (i : Int) < (st.pl : Int) + (n : Int) := by omega
      have him : i < m := by omega
      have ri : wr.cell? ⟨w.heap.size + 1 + 1, i, none⟩ = some (.bool (st.rd.getD i false)) := by
       have h := hrow.out.cell i
       rw [rdC_get _ _ (by rw [setR_len, HM.out]; exact him), setR_getD _ _ _ _ _ (by rw [HM.out]; exact him), if_neg (by omega)] at h
       exact h
      cases hb : st.rd.getD i false
      · rw [hb] at ri
        have rf : wr.frozen? ⟨w.heap.size + 1 + 1, i, none⟩ = false := hrow.out.frozen i
        have HNo : Hid (∀ j, j < i + 1 - st.pl → st.rd.getD (st.pl + j) false = false) := fun j hj => by
         by_cases hj2 : j < i - st.pl
         · exact hno.out j hj2
         · rw [show st.pl + j = i by omega]; exact hb
        have HRow := hide' (hrow.out.set i (.bool true))
        rw [rdC_set, setR_snoc _ _ _ hi1] at HRow
        clear hno hb
        go_wp2_with fail
        go_roundw
        case rel => exact ⟨i + 1, by go_num, by omega, by omega, HNo, HRow, hbel.out.setCell (p := ⟨w.heap.size + 1 + 1, i, none⟩) (Nat.le_refl _) _⟩
        case measure => simp [intOf]; omega
      · rw [hb] at ri
        have HCn := hide' (canRead_hit st.rd st.pl st.en n (i - st.pl) (by omega) (by rw [show st.pl + (i - st.pl) = i by omega]; exact hb))
        have r1 : wr.cell? ⟨w.heap.size, 1, none⟩ = some (.int .i64 st.en) := HBr.out.cell 1
        have r2 : wr.cell? ⟨w.heap.size, 2, none⟩ = some (.slice (some ⟨rb, 0, none⟩) m m) := HBr.out.cell 2
        have r3 : wr.cell? ⟨w.heap.size, 3, none⟩ = some (.slice (some ⟨db, 0, none⟩) 8 8) := HBr.out.cell 3
        have r4 : wr.cell? ⟨w.heap.size, 4, none⟩ = some (.int .i64 st.vals) := HBr.out.cell 4
        have z0 : wr.cell? ⟨w.heap.size + 1, 0, none⟩ = some (.int .i64 0) := HZr.out.cell 0
        have z1 : wr.cell? ⟨w.heap.size + 1, 1, none⟩ = some (.int .i64 0) := HZr.out.cell 1
        have z2' : wr.cell? ⟨w.heap.size + 1, 2, none⟩ = some (.slice none 0 0) := HZr.out.cell 2
        have z3 : wr.cell? ⟨w.heap.size + 1, 3, none⟩ = some (.slice none 0 0) := HZr.out.cell 3
        have z4 : wr.cell? ⟨w.heap.size + 1, 4, none⟩ = some (.int .i64 0) := HZr.out.cell 4
        have zf : ∀ j, wr.frozen? ⟨w.heap.size + 1, j, none⟩ = false := fun j => HZr.out.frozen j
        clear hno hb
        go_wp2_with fail
        refine bodyPost_ret (v := .tuple #[.agg (rsC st rb m db), .bool false]) (by simp [results, Tryz.results163, go_sem, rsC, z0, z1, z2', z3, z4]) rfl ?_
        refine ⟨below_set5 (HW2.out.trans (hbel.out.mono (by omega))) (b := w.heap.size + 1) (by omega) _ _ _ _ _, fun h => ?_, fun _ => rfl⟩
        rw [HCn.out] at h; cases h
    · have hlt' : ¬ (i : Int) < (st.pl : Int) + (n : Int) := by omega
      have hie : i = st.pl + n := by omega
      subst hie
      have HCy := hide' (canRead_yes st.rd st.pl st.en n (by omega) (fun j hj => hno.out j (by omega)))
      have r1 : wr.cell? ⟨w.heap.size, 1, none⟩ = some (.int .i64 st.en) := HBr.out.cell 1
      have r2 : wr.cell? ⟨w.heap.size, 2, none⟩ = some (.slice (some ⟨rb, 0, none⟩) m m) := HBr.out.cell 2
      have r3 : wr.cell? ⟨w.heap.size, 3, none⟩ = some (.slice (some ⟨db, 0, none⟩) 8 8) := HBr.out.cell 3
      have r4 : wr.cell? ⟨w.heap.size, 4, none⟩ = some (.int .i64 st.vals) := HBr.out.cell 4
      have rf : ∀ j, wr.frozen? ⟨w.heap.size, j, none⟩ = false := fun j => HBr.out.frozen j
      have z0 : wr.cell? ⟨w.heap.size + 1, 0, none⟩ = some (.int .i64 0) := HZr.out.cell 0
      have z1 : wr.cell? ⟨w.heap.size + 1, 1, none⟩ = some (.int .i64 0) := HZr.out.cell 1
      have z2' : wr.cell? ⟨w.heap.size + 1, 2, none⟩ = some (.slice none 0 0) := HZr.out.cell 2
      have z3 : wr.cell? ⟨w.heap.size + 1, 3, none⟩ = some (.slice none 0 0) := HZr.out.cell 3
      have z4 : wr.cell? ⟨w.heap.size + 1, 4, none⟩ = some (.int .i64 0) := HZr.out.cell 4
      have zf : ∀ j, wr.frozen? ⟨w.heap.size + 1, j, none⟩ = false := fun j => HZr.out.frozen j
      clear hno
      go_wp2_with fail
      refine bodyPost_ret (v := .tuple #[.agg (rsC (readS st n) (w.heap.size + 1 + 1) m db), .bool true]) (by simp [results, Tryz.results163, go_sem, rsC, readS, z0, z1, z2', z3, z4]) rfl ?_
      refine ⟨below_set5 (((HW2.out.trans (hbel.out.mono (by omega))).setCell (p := ⟨w.heap.size, 2, none⟩) (Nat.le_refl _) _).setCell (p := ⟨w.heap.size, 0, none⟩) (Nat.le_refl _) _) (b := w.heap.size + 1) (by omega) _ _ _ _ _, fun _ => ⟨w.heap.size + 1 + 1, rfl, ?_, by omega⟩, fun h => ?_⟩
      · exact ((hrow.out.setOther ⟨w.heap.size, 2, none⟩ (by simp only; omega) _).setOther ⟨w.heap.size, 0, none⟩ (by simp only; omega) _).other5 (b := w.heap.size + 1) (by omega) _ _ _ _ _
      · rw [HCy.out] at h; cases h
 · have hl' : (st.en : Int) - (st.pl : Int) < (n : Int) := by omega
   have HC := hide' (canRead_long st.rd st.pl st.en n hlong)
   clear hlong
   go_enter Tryz.func163, Tryz.ntmps163
   go_wp2_with fail
   refine bodyPost_ret (v := .tuple #[.agg (rsC st rb m db), .bool false]) (by simp [results, Tryz.results163, go_sem, rsC]) rfl ?_
   refine ⟨((Below.refl _ _).alloc (Nat.le_refl _) _).alloc (by simp) _, fun h => ?_, fun _ => rfl⟩
   rw [HC.out] at h; cases h
theorem Blk.five {w : World} {b : Nat} {a0 a1 a2 a3 a4 : Value} {t : TypeId} (h : Blk w b #[a0, a1, a2, a3, a4] t) :
 w.cell? ⟨b, 0, none⟩ = some a0 ∧ w.cell? ⟨b, 1, none⟩ = some a1 ∧ w.cell? ⟨b, 2, none⟩ = some a2 ∧ w.cell? ⟨b, 3, none⟩ = some a3 ∧ w.cell? ⟨b, 4, none⟩ = some a4 ∧ ∀ j, w.frozen? ⟨b, j, none⟩ = false :=
 ⟨h.cell 0, h.cell 1, h.cell 2, h.cell 3, h.cell 4, fun j => h.frozen j⟩
def zero5 : Array Value := #[.int .i64 0, .int .i64 0, .slice none 0 0, .slice none 0 0, .int .i64 0]
theorem madeR_form (N e : Nat) (st : PS) (rb n db : Nat) (t : List UInt8) : ∃ (s' : PS) (t' : List UInt8) (ok : Bool), (madeR N e st rb n db t).1 = rsR s' rb n db t' ok := by
 unfold madeR
 by_cases h : st.vals = N
 · rw [if_pos h]; exact ⟨st, [], false, rfl⟩
 · rw [if_neg h]; exact ⟨_, t, true, rfl⟩
structure U5 (W : World) (b : Nat) (v0 v1 v2 v3 v4 : Value) : Prop where
 c0 : W.cell? ⟨b, 0, none⟩ = some v0
 c1 : W.cell? ⟨b, 1, none⟩ = some v1
 c2 : W.cell? ⟨b, 2, none⟩ = some v2
 c3 : W.cell? ⟨b, 3, none⟩ = some v3
 c4 : W.cell? ⟨b, 4, none⟩ = some v4
structure BAt (c : Rx) (w : World) (st : PS) (rb db fuel far : Nat) (W : World) : Prop where
 fr : Fr w.heap.size c.pb w W
 pg : PgAt W c.pb c.gb c.bs fuel c.N far 0
 sa : StAt c W st rb db
 box : Blk W w.heap.size (rsC st rb c.bs.size db) 140
 res : Blk W (w.heap.size + 1) zero5 140
 lt : c.pb < w.heap.size
theorem BAt.new {c : Rx} {w : World} {st : PS} {rb db fuel far : Nat} (hp : RPre c w st rb db fuel far) :
 BAt c w st rb db fuel far ((w.alloc (.cells (rsC st rb c.bs.size db) 140)).alloc (.cells zero5 140)) := by
 have hf : Fr w.heap.size c.pb w ((w.alloc (.cells (rsC st rb c.bs.size db) 140)).alloc (.cells zero5 140)) := ((Fr.refl _ _ w).alloc (Nat.le_refl _) _).alloc (by simp) _
 refine ⟨hf, Blk.alloc (Blk.alloc hp.pg _) _, hp.st.fr hf (Nat.le_refl _), Blk.alloc (Blk.new w _ _) _, ?_, hp.pg.lt⟩
 have := Blk.new (w.alloc (.cells (rsC st rb c.bs.size db) 140)) zero5 140
 simpa using this
theorem BAt.below {c : Rx} {w : World} {st : PS} {rb db fuel far : Nat} {W W' : World} (h : BAt c w st rb db fuel far W) (hb : Below W.heap.size W W') : BAt c w st rb db fuel far W' := by
 have hs := h.fr.size
 have hr := h.res.lt
 have hfr : Fr w.heap.size c.pb w W' := h.fr.below hb hs
 refine ⟨hfr, Blk.below h.pg hb h.pg.lt, ⟨Blk.below h.sa.rd hb h.sa.rd.lt, Blk.below h.sa.dp hb h.sa.dp.lt, h.sa.rne, h.sa.dne⟩, h.box.below hb h.box.lt, h.res.below hb h.res.lt, h.lt⟩
theorem BAt.drewN {c : Rx} {w : World} {st : PS} {rb db fuel far : Nat} {W : World} (h : BAt c w st rb db fuel far W) (n : Nat) : BAt c w st rb db fuel far (W.drewN n) :=
 ⟨h.fr.drewN n, h.pg, ⟨h.sa.rd, h.sa.dp, h.sa.rne, h.sa.dne⟩, h.box, h.res, h.lt⟩
theorem BAt.next {c : Rx} {w : World} {st : PS} {rb db fuel far fuel' far' e' : Nat} {W W' : World} (h : BAt c w st rb db fuel far W) (hf : Fr W.heap.size c.pb W W') (_hp : PgAt W' c.pb c.gb c.bs fuel' c.N far' e') :
 Fr w.heap.size c.pb w W' ∧ StAt c W' st rb db ∧ Blk W' w.heap.size (rsC st rb c.bs.size db) 140 ∧ Blk W' (w.heap.size + 1) zero5 140 := by
 have hs := h.fr.size
 have hl := h.lt
 exact ⟨h.fr.trans (hf.low hs), h.sa.fr hf (Nat.le_refl _), hf.blk h.box h.box.lt (by omega), hf.blk h.res h.res.lt (by omega)⟩
theorem canRead_le {rd : List Bool} {a e n : Nat} (h : canRead rd a e n = true) : n ≤ e - a := by
 unfold canRead at h; simp only [Bool.and_eq_true, decide_eq_true_eq] at h; exact h.1
theorem Tryz.infoDep : (Tryz.prog.info? 240).map (fun i => (i.zero, i.size, i.bytes)) = some (some (.agg #[.int .i64 0, .int .i64 0]), 2, 16) := by kernel_rfl
theorem Tryz.sizeDep : (Tryz.prog.info? 240).map (·.size) = some 2 := by kernel_rfl
theorem mk_deps (W : World) : Sem.run Tryz.prog (Instr.makeSlice 138 (.int .i64 8) (.int .i64 8)) W = .ok (.slice (some ⟨W.heap.size, 0, none⟩) 8 8) (W.alloc (.cells (dpC fun _ => (0, 0)) 240)) := by
 obtain ⟨i0, hi0, hz0, hz1, hz2⟩ := info_parts Tryz.infoDep
 have := run_makeSlice (P := Tryz.prog) W 138 240 i0 (.agg #[.int .i64 0, .int .i64 0]) Tryz.underlying138 hi0 hz0 .i64 .i64 8 8 (by omega) (by omega) (by rw [hz1]; omega) (by rw [hz2]; omega) (by omega)
 rw [hz1] at this
 have e : madeCells (Value.agg #[.int .i64 0, .int .i64 0]).cells ((8 : Int).toNat * 2) = dpC fun _ => (0, 0) := by
  have hc : (Value.agg #[.int .i64 0, .int .i64 0]).cells = #[.int .i64 0, .int .i64 0] := by simp [Value.cells]
  have hr : dpC (fun _ => (0, 0)) = Array.replicate 16 (.int .i64 0) := rfl
  rw [hc, hr]
  apply Array.ext
  · simp [madeCells]
  · intro i h1 h2
    have hm : i % 2 = 0 ∨ i % 2 = 1 := by omega
    simp only [madeCells, Array.getElem_map, Array.getElem_range, Array.getElem_replicate]
    rcases hm with h | h <;> simp [h]
 rw [e] at this
 exact this
theorem dpC_set (deps : Nat → Nat × Nat) (d : Nat) (h : d < 8) (v n : Nat) : ((dpC deps).setIfInBounds (d * 2) (.int .i64 v)).setIfInBounds (d * 2 + 1) (.int .i64 n) = dpC fun k => if k = d then (v, n) else deps k := by
 have h8 : d = 0 ∨ d = 1 ∨ d = 2 ∨ d = 3 ∨ d = 4 ∨ d = 5 ∨ d = 6 ∨ d = 7 := by omega
 rcases h8 with rfl | rfl | rfl | rfl | rfl | rfl | rfl | rfl <;> rfl
theorem dpC_one (deps : Nat → Nat × Nat) : ∀ v ∈ (dpC deps).toList, v.oneCell' = true := by
 intro v hv
 simp only [dpC, List.mem_flatMap] at hv
 obtain ⟨d, _, h⟩ := hv
 simp only [List.mem_cons, List.not_mem_nil, or_false] at h
 rcases h with rfl | rfl <;> rfl
theorem deps_ready (W : World) (db : Nat) (deps : Nat → Nat × Nat) (hd : DpAt W db deps) :
 ∃ W1 W2, Sem.run Tryz.prog (Instr.makeSlice 138 (.int .i64 8) (.int .i64 8)) W = .ok (.slice (some ⟨W.heap.size, 0, none⟩) 8 8) W1 ∧
  (∀ ty, Sem.run Tryz.prog (Builtin.copy_ #[138, 138] ty #[.slice (some ⟨W.heap.size, 0, none⟩) 8 8, .slice (some ⟨db, 0, none⟩) 8 8]) W1 = .ok (.int .i64 8) W2) ∧
  Blk W2 W.heap.size (dpC deps) 240 ∧ Below W.heap.size W W2 ∧ W2.heap.size = W.heap.size + 1 ∧ Below W.heap.size W W1 := by
 have hb1 : Blk (W.alloc (.cells (dpC fun _ => (0, 0)) 240)) W.heap.size (dpC fun _ => (0, 0)) 240 := Blk.new _ _ _
 have hd1 : DpAt (W.alloc (.cells (dpC fun _ => (0, 0)) 240)) db deps := Blk.alloc hd _
 refine ⟨_, (W.alloc (.cells (dpC fun _ => (0, 0)) 240)).setRow W.heap.size (dpC deps), mk_deps W, fun ty => ?_, ?_, ?_, ?_, (Below.refl _ _).alloc (Nat.le_refl _) _⟩
 · generalize W.alloc (.cells (dpC fun _ => (0, 0)) 240) = W1 at *
   have hl := run_loadCells_list (P := Tryz.prog) W1 ⟨db, 0, none⟩ (dpC deps).toList (fun j u hu => by
    have : (⟨db, 0, none⟩ : Addr).add j = ⟨db, j, none⟩ := by unfold Addr.add; split <;> simp_all
    rw [this, hd1.cell j]; simpa using hu)
   have hst := run_storeCells_at (P := Tryz.prog) W.heap.size 0 240 (dpC deps).toList 0 (dpC fun _ => (0, 0)) W1 hb1 (by simp [dpC_size]) (dpC_one deps)
   have e2 : ((dpC fun _ => (0, 0)).toList.take (0 + 0) ++ (dpC deps).toList ++ (dpC fun _ => (0, 0)).toList.drop (0 + 0 + (dpC deps).toList.length)).toArray = dpC deps := by
    rw [show (dpC fun _ => (0, 0)).toList.take (0 + 0) = [] from rfl, List.nil_append, List.drop_eq_nil_of_le (by simp [dpC_size]), List.append_nil]
   rw [e2] at hst
   have hlen : (dpC deps).toList.length = 16 := by simp [dpC_size]
   rw [hlen] at hl
   have hsz := Tryz.sizeDep
   cases hq : Tryz.prog.info? 240 with
   | none => rw [hq] at hsz; cases hsz
   | some i =>
    have hi : i.size = 2 := by rw [hq] at hsz; simpa using hsz
    simp [Builtin.copy_, run_underlying Tryz.underlying138, Builtin.lenOf, Builtin.firstCells, sizeOf, typeInfo, hq, hi, hl, hst, goInt]
 · exact setRow_heap _ _ _ _ _ _ hb1
 · exact below_setRow ((Below.refl _ _).alloc (Nat.le_refl _) _) (Nat.le_refl _) _
 · simp [World.setRow]
theorem RPost.fit {c : Rx} {w w' : World} {e : Ending} {st : PS} {rb db fuel far : Nat} {t : List UInt8} (hf : Fr w.heap.size c.pb w w') (he : e = rsR st rb c.bs.size db t true) (hp : PgAt w' c.pb c.gb c.bs fuel c.N far 0) (hs : StAt c w' st rb db) : RPost c w (fitO fuel far st t) e w' :=
 ⟨hf, st, rb, db, fuel, far, t, he, hp, fun _ => ⟨rfl, rfl⟩, fun _ => ⟨rfl, rfl, hs⟩⟩
theorem BAt.made {c : Rx} {w : World} {st0 st : PS} {rb0 db0 rb db fuel far : Nat} {W w5 : World} {e : Ending} {t : List UInt8} (h : BAt c w st0 rb0 db0 fuel far W) (hs : StAt c W st rb db) (he : e = (madeR c.N 0 st rb c.bs.size db t).1) (hp : PgAt w5 c.pb c.gb c.bs fuel c.N far (madeR c.N 0 st rb c.bs.size db t).2) (hf : Fr W.heap.size c.pb W w5) :
 ∃ (s' : PS) (t' : List UInt8) (ok' : Bool), e = rsR s' rb c.bs.size db t' ok' ∧ Blk w5 (w.heap.size + 1) zero5 140 ∧
  RPost c w (madeO c.N fuel far st t) (rsR s' rb c.bs.size db t' ok') (st5 w5 (w.heap.size + 1) (.int .i64 s'.pl) (.int .i64 s'.en) (.slice (some ⟨rb, 0, none⟩) c.bs.size c.bs.size) (.slice (some ⟨db, 0, none⟩) 8 8) (.int .i64 s'.vals)) := by
 obtain ⟨g1, g2, g3, g4⟩ := h.next hf hp
 obtain ⟨s', t', ok', hform⟩ := madeR_form c.N 0 st rb c.bs.size db t
 have hs5 := hs.fr hf (Nat.le_refl _)
 have hlt := h.lt
 refine ⟨s', t', ok', he.trans hform, g4, ?_⟩
 exact RPost.made (g1.set5 (b := w.heap.size + 1) (by omega) _ _ _ _ _) hform.symm (Blk.other5 hp (b := w.heap.size + 1) (by omega) _ _ _ _ _) ⟨Blk.other5 hs5.rd (b := w.heap.size + 1) (blk_ne hs5.rd g4 (by decide)) _ _ _ _ _, Blk.other5 hs5.dp (b := w.heap.size + 1) (blk_ne hs5.dp g4 (by decide)) _ _ _ _ _, hs.rne, hs.dne⟩
theorem StAt.below {c : Rx} {W W' : World} {st : PS} {rb db : Nat} (h : StAt c W st rb db) (hb : Below W.heap.size W W') : StAt c W' st rb db := ⟨Blk.below h.rd hb h.rd.lt, Blk.below h.dp hb h.dp.lt, h.rne, h.dne⟩
theorem StAt.drewN {c : Rx} {W : World} {st : PS} {rb db : Nat} (h : StAt c W st rb db) (n : Nat) : StAt c (W.drewN n) st rb db := ⟨h.rd, h.dp, h.rne, h.dne⟩
theorem StAt.set5 {c : Rx} {W : World} {st : PS} {rb db b : Nat} {cs : Array Value} (h : StAt c W st rb db) (hb : Blk W b cs 140) (v0 v1 v2 v3 v4 : Value) : StAt c (st5 W b v0 v1 v2 v3 v4) st rb db :=
 ⟨Blk.other5 h.rd (blk_ne h.rd hb (by decide)) _ _ _ _ _, Blk.other5 h.dp (blk_ne h.dp hb (by decide)) _ _ _ _ _, h.rne, h.dne⟩
def fuelPg (w : World) (pb : Nat) : Nat := match w.cell? ⟨pb, 2, none⟩ with | some (.int _ n) => n.toNat | _ => 0
theorem fuelPg_of {w : World} {pb gb : Nat} {bs : ByteArray} {fuel N far e : Nat} (h : PgAt w pb gb bs fuel N far e) : fuelPg w pb = fuel := by
 unfold fuelPg
 rw [show w.cell? ⟨pb, 2, none⟩ = some (.int .i64 fuel) from h.cell 2]; simp
theorem BAt.pre {c : Rx} (hc : RxOk c) {w : World} {st : PS} {rb db fuel far : Nat} {W : World} (h : BAt c w st rb db fuel far W) (hb : Below c.w0.heap.size c.w0 w) (hi : PInv c.bs c.N st) : RPre c W st rb db fuel far := by
 have h1 := hc.pb
 have h2 := h.lt
 exact ⟨h.pg, hb.trans ⟨h.fr.os, h.fr.tape, h.fr.output, h.fr.size, fun k hk => h.fr.block k (by omega) (by omega)⟩, h.sa.rd, h.sa.dp, hi⟩
structure MAt (c : Rx) (T : Nat → Nat → Bool → List It → PS → PO) (r : List It) (w : World) (O : PO) (gj : Nat) (t : List UInt8) (st : PS) (rb db fuel far : Nat) (wr : World) : Prop where
 bat : BAt c w st rb db fuel far wr
 inv : PInv c.bs c.N st
 rem : O = manyT T c.N r gj fuel far st t
 gas : fuel < gj
 len : t.length ≤ 8011 * st.vals
theorem RPost.dead {c : Rx} {w w' : World} {e : Ending} {o : PO} {st' : PS} {rb db fuel far : Nat} (hf : Fr w.heap.size c.pb w w') (he : e = rsR st' rb c.bs.size db [] false) (ho : o.ok = false) (h0 : o.e ≠ 0) (hp : PgAt w' c.pb c.gb c.bs fuel c.N far o.e) : RPost c w o e w' :=
 ⟨hf, st', rb, db, fuel, far, [], by rw [ho]; exact he, hp, fun h => absurd h h0, fun h => by rw [ho] at h; cases h⟩
theorem RPost.none {c : Rx} {w w' : World} {e : Ending} {o : PO} {st' : PS} {rb db : Nat} (hf : Fr w.heap.size c.pb w w') (he : e = rsR st' rb c.bs.size db [] false) (ho : o.ok = false) {fuel far : Nat} (hp : PgAt w' c.pb c.gb c.bs fuel c.N far o.e) (hh : o.e = 0 → fuel = o.fuel ∧ far = o.far) : RPost c w o e w' :=
 ⟨hf, st', rb, db, fuel, far, [], by rw [ho]; exact he, hp, hh, fun h => by rw [ho] at h; cases h⟩
theorem brack (t : List UInt8) : (({ data := #[91] } : ByteArray) ++ ⟨t.toArray⟩) ++ { data := #[93] } = ⟨(91 :: t ++ [93]).toArray⟩ := by
 rw [show ({ data := #[91] } : ByteArray) = ⟨[91].toArray⟩ from rfl, show ({ data := #[93] } : ByteArray) = ⟨[93].toArray⟩ from rfl, mk_app, mk_app]; simp
set_option maxRecDepth 100000 in
set_option maxHeartbeats 2000000 in
theorem rmany_calls (c : Rx) (hc : RxOk c) (g : Nat) (ih : RTry c g) (w : World) (st : PS) (rb db fuel far : Nat) (hp : RPre c w st rb db fuel far) (b : Nat) (x : It) (r : List It) (f : Nat) (ha : At c.its b (x :: r)) (htr : TrS f r) (hw : TrW c.R false false r) (hfu : fuel ≤ 100000) (hg : fuel < g) :
 Calls Tryz.prog 94 #[.pointer (some ⟨c.pb, 0, none⟩), .int .i64 b, .agg (rsC st rb c.bs.size db)] w fun e w' => RPost c w (manyT (tryT c.G c.bs c.N g) c.N r (fuel + 1) fuel far st []) e w' := by
 have hbl : b < c.its.length := by have := ha.le; simp at this; omega
 have hlen := hc.len
 have hbs := hc.bs
 have hN := hc.N
 have hpl := hp.pg.lt
 have HA := hide' ha.tail
 have HTr := hide' htr
 have HW := hide' hw
 have HI := hide' ih
 have HC := hide' hc
 have HBel := hide' hp.bel
 have HM0 : Hid (MAt c (tryT c.G c.bs c.N g) r w (manyT (tryT c.G c.bs c.N g) c.N r (fuel + 1) fuel far st []) (fuel + 1) [] st rb db fuel far ((w.alloc (.cells (rsC st rb c.bs.size db) 140)).alloc (.cells zero5 140))) := ⟨BAt.new hp, hp.inv, rfl, by omega, by simp⟩
 have hs0 : ((w.alloc (.cells (rsC st rb c.bs.size db) 140)).alloc (.cells zero5 140)).heap.size = w.heap.size + 1 + 1 := by simp
 clear hp hc ih ha htr hw
 generalize manyT (tryT c.G c.bs c.N g) c.N r (fuel + 1) fuel far st [] = O at *
 unfold rsC zero5 at HM0 hs0
 unfold rsC
 go_enter Tryz.func94, Tryz.ntmps94
 go_wp2_with fail
 generalize (w.alloc (.cells #[.int .i64 st.pl, .int .i64 st.en, .slice (some ⟨rb, 0, none⟩) c.bs.size c.bs.size, .slice (some ⟨db, 0, none⟩) 8 8, .int .i64 st.vals] 140)).alloc (.cells #[.int .i64 0, .int .i64 0, .slice none 0 0, .slice none 0 0, .int .i64 0] 140) = W0 at *
 go_loopw [9, 10, 11, 12, 13] (fun v9 _ _ _ _ wr => ∃ (gj : Nat) (t : List UInt8) (stj : PS) (rbj dbj fuelj farj : Nat), v9 = .string ⟨t.toArray⟩ ∧ fuelj ≤ fuel ∧ w.heap.size + 1 < wr.heap.size ∧ Hid (MAt c (tryT c.G c.bs c.N g) r w O gj t stj rbj dbj fuelj farj wr)) (fun _ _ _ _ _ wr => fuelPg wr c.pb)
 case atStart => exact ⟨fuel + 1, [], st, rb, db, fuel, far, rfl, Nat.le_refl _, by omega, HM0⟩
 case round =>
  clear HM0 hs0
  obtain ⟨gj, t, stj, rbj, dbj, fuelj, farj, rfl, hfj, hszr, hat⟩ := hrel
  have hpre := hat.out.bat.pre HC.out HBel.out hat.out.inv
  obtain ⟨b0, b1, b2, b3, b4, _⟩ := hat.out.bat.box.five
  have hcall := HI.out wr stj rbj dbj fuelj farj r (b + 1) f false false false hpre HA.out HTr.out HW.out (by omega) (by omega)
  have HOk : Hid ((tryT c.G c.bs c.N g fuelj farj false r stj).ok = true → ((Keeps c.bs c.N stj (hidV r) (tryT c.G c.bs c.N g fuelj farj false r stj) ∧ (tryT c.G c.bs c.N g fuelj farj false r stj).e = 0) ∧ (tryT c.G c.bs c.N g fuelj farj false r stj).fuel < fuelj) ∧ Lng stj (silK false r) (tryT c.G c.bs c.N g fuelj farj false r stj)) := fun hok => ⟨⟨(tryT_ok c.G HC.out.trw g).fit fuelj farj false false false r _ HW.out hat.out.inv hok, tryT_strict c.G HC.out.trw g fuelj farj false r stj hok⟩, tryT_lng hbs c.G HC.out.trw g fuelj farj false false false r stj HW.out hat.out.inv hok⟩
  obtain ⟨gk, hgk⟩ : ∃ gk, gj = gk + 1 := ⟨gj - 1, by have := hat.out.gas; omega⟩
  have hrem := hat.out.rem
  rw [hgk] at hrem
  have HO1 := hide' (hrem.trans (manyT_succ _ _ _ gk _ _ _ _))
  clear hrem
  generalize ho' : tryT c.G c.bs c.N g fuelj farj false r stj = o at *
  clear ho'
  have HCall := hide' hcall
  have HAt := hat
  clear hcall hpre hat
  unfold rsC at HCall
  simp only [Int.natCast_add] at HCall
  go_wp2_with fail
  refine HCall.out.mono ?_
  clear HCall b0 b1 b2 b3 b4
  rintro e w2 ⟨hf2, st', rb', db', fu', fa', t', rfl, hp2, hfe, hok2⟩
  obtain ⟨g1, g2, g3, g4⟩ := HAt.out.bat.next hf2 hp2
  have hs2 := hf2.size
  have hl0 : w.heap.size < w2.heap.size := by omega
  have hl1 : w.heap.size + 1 < w2.heap.size := by omega
  have hl3 : c.pb < w2.heap.size := by omega
  have hl4 : ¬ w2.heap.size = c.pb := by omega
  have hl5 : ¬ w2.heap.size = w.heap.size := by omega
  have hl6 : ¬ w2.heap.size = w.heap.size + 1 := by omega
  have p5 : w2.cell? ⟨c.pb, 5, none⟩ = some (.int .i64 o.e) := hp2.cell 5
  obtain ⟨b0, b1, b2, b3, b4, bf⟩ := g3.five
  obtain ⟨z0, z1, z2, z3, z4, zf⟩ := g4.five
  have HF2 := hide' g1
  have HP2 := hide' hp2
  have HS2 := hide' g2
  have HX2 := hide' g3
  have HZ2 := hide' g4
  have HFe := hide' hfe
  have HOk2 := hide' hok2
  clear g1 g2 g3 g4 hp2 hfe hok2 hf2
  have hsl : stj.vals ≤ c.N := HAt.out.inv.vals
  have htl : (⟨t.toArray⟩ : ByteArray).size ≤ 80110000 := by rw [mk_size]; have := HAt.out.len; omega
  unfold rsR rsC
  by_cases hde : o.e ≠ 0
  · have hde' : ¬ (o.e : Int) = 0 := by omega
    rw [if_pos hde] at HO1
    have hno : o.ok = false := by
     cases h : o.ok with
     | false => rfl
     | true => exact absurd (HOk.out h).1.1.2 hde
    rw [hno]
    go_wp2_with fail
    refine bodyPost_ret (v := .tuple #[.agg (rsC stj rbj c.bs.size dbj), .string ⟨#[]⟩, .bool false]) (by simp [results, Tryz.results94, go_sem, rsC, z0, z1, z2, z3, z4, hl1]) rfl ?_
    rw [HO1.out]
    exact RPost.dead ((HF2.out.set5 (b := w.heap.size + 1) (by omega) _ _ _ _ _).alloc (by rw [st5_size]; omega) _) rfl hno hde (Blk.alloc (Blk.other5 HP2.out (b := w.heap.size + 1) (by omega) _ _ _ _ _) _)
  rw [if_neg hde] at HO1
  have hde0 : o.e = 0 := by omega
  rw [hde0] at p5
  have HB2 : Hid (BAt c w stj rbj dbj o.fuel o.far w2) := by
   have h : BAt c w stj rbj dbj o.fuel o.far w2 := ⟨HF2.out, by have := HP2.out; rw [hde0, (HFe.out hde0).1, (HFe.out hde0).2] at this; exact this, HS2.out, HX2.out, HZ2.out, hpl⟩
   exact h
  by_cases hend : o.ok = false ∨ o.st.pl = stj.pl
  · rw [if_pos hend] at HO1
    have HA3 := hide' (brack t)
    generalize (⟨t.toArray⟩ : ByteArray) = TB at *
    have hgo : ∀ b', o.ok = b' → b' = false ∨ (b' = true ∧ (st'.pl : Int) = (stj.pl : Int)) := fun b' e => by
     cases b' with
     | false => exact Or.inl rfl
     | true =>
      refine Or.inr ⟨rfl, ?_⟩
      rcases hend with h | h
      · rw [h] at e; cases e
      · rw [(HOk2.out e).1, h]
    rcases hgo _ rfl with hb | ⟨hb, hk⟩
    all_goals
     rw [hb]
     go_wp2_with fail
     rw [HA3.out]
     have hcall := fun ob => made_calls' (w2.alloc ob) c.pb c.gb c.bs o.fuel c.N o.far 0 stj rbj c.bs.size dbj (91 :: t ++ [93]) (HB2.out.below ((Below.refl _ _).alloc (Nat.le_refl _) ob)).pg hN hsl
     unfold rsC at hcall
     refine (hcall _).mono ?_
     clear hcall
     rintro e w5 ⟨he5, hp5, hf5⟩
     obtain ⟨s', t2, ok', he6, hz5, hpost⟩ := (HB2.out.below ((Below.refl _ _).alloc (Nat.le_refl _) _)).made (HB2.out.sa.below ((Below.refl _ _).alloc (Nat.le_refl _) _)) he5 hp5 hf5
     rw [← HO1.out] at hpost
     have HPost := hide' hpost
     subst he6
     obtain ⟨zz0, zz1, zz2, zz3, zz4, zzf⟩ := hz5.five
     clear hp5 hf5 he5 hz5 hpost
     unfold rsR rsC
     go_wp2_with fail
     refine bodyPost_ret (v := .tuple #[.agg (rsC s' rbj c.bs.size dbj), .string ⟨t2.toArray⟩, .bool ok']) (by simp [results, Tryz.results94, go_sem, rsC, zz0, zz1, zz2, zz3, zz4]) rfl ?_
     exact HPost.out
  · rw [if_neg hend] at HO1
    have hok : o.ok = true := by
     cases h : o.ok with
     | false => exact absurd (Or.inl h) hend
     | true => rfl
    obtain ⟨⟨⟨hkp, _⟩, hst⟩, hlng⟩ := HOk.out hok
    obtain ⟨e1, e2, hsa⟩ := HOk2.out hok
    subst e1
    subst e2
    rw [hok]
    have HKp := hide' hkp
    have HSa := hide' hsa
    have HB3 := hide' (HB2.out.below ((Below.refl _ _).alloc (Nat.le_refl _) (.cells #[.int .i64 o.st.pl, .int .i64 o.st.en, .slice (some ⟨rb', 0, none⟩) c.bs.size c.bs.size, .slice (some ⟨db', 0, none⟩) 8 8, .int .i64 o.st.vals] 140)))
    have hlv := hlng.vals
    have hll := hlng.len
    rw [silK_not HW.out rfl] at hll
    simp only [Bool.false_eq_true, if_false] at hll
    have hov := hkp.inv.vals
    have hpne : ¬ (o.st.pl : Int) = (stj.pl : Int) := fun e => hend (Or.inr (by omega))
    have htl0 := HAt.out.len
    have hjl := joinT_le t o.t
    have HJ := hide' (fun W => joined_calls t o.t W (by omega) (by omega))
    clear hkp hsa hend
    go_wp2_with
     (go_at_call 170
      refine (HJ.out _).mono ?_
      rintro e w9 ⟨rfl, rfl⟩)
    have hBN : BAt c w o.st rb' db' o.fuel o.far ((st5 w2 w.heap.size (.int .i64 o.st.pl) (.int .i64 o.st.en) (.slice (some ⟨rb', 0, none⟩) c.bs.size c.bs.size) (.slice (some ⟨db', 0, none⟩) 8 8) (.int .i64 o.st.vals)).alloc (.cells #[.int .i64 o.st.pl, .int .i64 o.st.en, .slice (some ⟨rb', 0, none⟩) c.bs.size c.bs.size, .slice (some ⟨db', 0, none⟩) 8 8, .int .i64 o.st.vals] 140)) := by
     have h5 : BAt c w o.st rb' db' o.fuel o.far (st5 w2 w.heap.size (.int .i64 o.st.pl) (.int .i64 o.st.en) (.slice (some ⟨rb', 0, none⟩) c.bs.size c.bs.size) (.slice (some ⟨db', 0, none⟩) 8 8) (.int .i64 o.st.vals)) :=
      ⟨HF2.out.set5 (Nat.le_refl _) _ _ _ _ _, Blk.other5 HB2.out.pg (by omega) _ _ _ _ _, HSa.out.set5 HX2.out _ _ _ _ _, Blk.set5 HX2.out _ _ _ _ _, Blk.other5 HZ2.out (by omega) _ _ _ _ _, hpl⟩
     exact h5.below ((Below.refl _ _).alloc (Nat.le_refl _) _)
    have hMN : MAt c (tryT c.G c.bs c.N g) r w O gk (joinT t o.t) o.st rb' db' o.fuel o.far _ := ⟨hBN, HKp.out.inv, HO1.out, by have := HAt.out.gas; omega, by omega⟩
    have HMN := hide' hMN
    have hms := fuelPg_of hBN.pg
    have hms2 := fuelPg_of HAt.out.bat.pg
    have hsN := hBN.res.lt
    clear hMN hBN
    go_roundw
    case rel => exact ⟨gk, joinT t o.t, o.st, rb', db', o.fuel, o.far, rfl, by omega, hsN, HMN⟩
    case measure => rw [hms2]; exact lt_of_eq_of_lt hms hst
end Go.Proofs.YtmlkhhhjdpbhfaaGreatDoor

import Derived.Test.YtmlkhhhjdpbhfaaGreatDoorBk37
namespace Go.Proofs.YtmlkhhhjdpbhfaaGreatDoor
open Go.RowKit
def WrPost (c : Cx) (B : Nat) (w : World) (wb : Nat) (hbs : List Nat) (st : Wr) (e : Ending) (w' : World) : Prop :=
 e = .returned (.tuple #[]) ∧ Below B w w' ∧ ∃ bv tv sv svs more, WrM c B w' wb bv tv sv svs (hbs ++ more) st
theorem numB_zero (out : List UInt8) (low : Bool) (m n : Nat) : putAt (out ++ List.replicate m 0) ⟨out.length, m, low⟩ n = out ++ numB low m n := by
 unfold putAt
 simp only
 rw [List.take_left, List.drop_eq_nil_of_le (by simp)]
 simp
theorem WrM.row {c : Cx} {B : Nat} {w : World} {wb g m cap : Nat} {tv sv : Value} {svs : List Value} {hbs : List Nat} {st : Wr} (h : WrM c B w wb (.slice (some ⟨g, 0, none⟩) (st.out.length + m) cap) tv sv svs hbs (wOut st (List.replicate m 0))) :
 ∃ cur, Blk w g cur 5 ∧ st.out.length + m ≤ cur.size := by
 rcases h.out.2 with ⟨e, _⟩ | ⟨g', cap', cur, e, _, hg, hn, _, hs, _⟩
 · cases e
 · injection e with e1 e2 e3
   injection e1 with e1
   injection e1 with e1
   subst e1
   refine ⟨cur, hg, ?_⟩
   rw [hs]
   simp [wOut] at hn
   omega
theorem WrM.num {c : Cx} {B : Nat} {w w2 : World} {wb g m cap : Nat} {tv sv : Value} {svs : List Value} {hbs : List Nat} {st : Wr} (h : WrM c B w wb (.slice (some ⟨g, 0, none⟩) (st.out.length + m) cap) tv sv svs hbs (wOut st (List.replicate m 0))) (low : Bool) (n : Nat) (cur : Array Value) (hg : Blk w g cur 5)
 (hp : PutS w w2 g st.out.length 5 cur (numB low m n)) : WrM c B w2 wb (.slice (some ⟨g, 0, none⟩) (st.out.length + m) cap) tv sv svs hbs (wOut st (numB low m n)) ∧ Below B w w2 := by
 have hlen : (wOut st (List.replicate m 0)).out.length = st.out.length + m := by simp [wOut]
 have := h.put (w1 := w) ⟨st.out.length, m, low⟩ n g cap cur (by rw [hlen]) (Below.refl _ _) hg hp (by rw [hlen]; exact Nat.le_refl _)
 have he : wPut (wOut st (List.replicate m 0)) ⟨st.out.length, m, low⟩ n = wOut st (numB low m n) := by
  unfold wPut wOut
  simp only
  rw [numB_zero]
 rw [he] at this
 exact this
set_option maxRecDepth 100000 in
set_option maxHeartbeats 1000000 in
theorem writeNumber_calls (c : Cx) (B : Nat) (w : World) (wb : Nat) (bv tv sv : Value) (svs : List Value) (hbs : List Nat) (st : Wr) (h : WrM c B w wb bv tv sv svs hbs st) (hl : st.out.length ≤ 1000000000) (pb vb k n m : Nat) (run : ByteArray) (vv hv : Value) (p : Pt) (hpt : PtBlk w pb p) (hpb : pb < B) (hnd : NdB w vb k n run vv) (hvb : vb < B) (hw : p.wd = (m : Int)) (hm0 : 1 ≤ m) (hm : m ≤ 4) :
 Calls Tryz.prog 122 #[.pointer (some ⟨wb, 0, none⟩), .pointer (some ⟨pb, 0, none⟩), .pointer (some ⟨vb, 0, none⟩), hv] w fun e w' => WrPost c B w wb hbs (wOut st (numB false m n)) e w' := by
 have hn := hnd.n
 have hC : ∀ W, Below B w W → W.cell? ⟨pb, 2, none⟩ = some (.int .i64 (m : Nat)) ∧ W.cell? ⟨vb, 1, none⟩ = some (.int .u32 (n : Nat)) := fun W hW => by
  refine ⟨?_, ?_⟩
  · rw [World.cell?_of_block (w := w) (hW.block pb hpb), ← hw]; exact hpt.cell 2
  · rw [World.cell?_of_block (w := w) (hW.block vb hvb)]; exact hnd.blk.cell 1
 have HC := hide' hC
 have HM := hide' h
 clear h hC hpt hnd
 go_enter Tryz.func122, Tryz.ntmps122
 go_wp2_with fail
 have hdr : Below B w (w.drewN 1) := ⟨rfl, rfl, rfl, Nat.le_refl _, fun _ _ => rfl⟩
 refine wp_region_seg (fun W => Below B w W) [([0, 1, 2, 3, 4, 6, 7, 8, 9], 5), ([], 10)] rfl (by kernel_rfl) (fun _ _ d _ _ h => by cases d <;> exact h) hdr ?_
 simp only [wpSeg, List.filterMap_cons, List.filterMap_nil, List.getElem?_toArray, List.getElem?_cons_zero, List.getElem?_cons_succ]
 refine wpX_step _ rfl (fun W hW => rfl) ?_
 refine wpX_step _ rfl (fun W hW => rfl) ?_
 refine wpX_step (.pointer (some ⟨pb, 0, none⟩)) rfl (fun W hW => by go_simp) ?_
 refine wpX_step (.pointer (some ⟨pb, 2, none⟩)) rfl (fun W hW => by go_simp) ?_
 refine wpX_step (.int .i64 (m : Nat)) rfl (fun W hW => by obtain ⟨h0, h1⟩ := HC.out W hW; go_simp) ?_
 refine wpX_step _ rfl (fun W hW => rfl) ?_
 refine wpX_step (.pointer (some ⟨vb, 0, none⟩)) rfl (fun W hW => by go_simp) ?_
 refine wpX_step (.pointer (some ⟨vb, 1, none⟩)) rfl (fun W hW => by go_simp) ?_
 refine wpX_step (.int .u32 (n : Nat)) rfl (fun W hW => by obtain ⟨h0, h1⟩ := HC.out W hW; go_simp) ?_
 refine wpX_nil ⟨_, rfl, rfl, ?_⟩
 unfold Oper.wp
 go_simp
 have hMd := HM.out.keep hdr (fun _ _ _ => rfl)
 refine (space_calls c B _ wb bv tv sv svs hbs st hMd m (by omega) hm hl).mono ?_
 rintro e w2 ⟨g, cap, rfl, hm2, hb2⟩
 have hb2' : Below B w w2 := hdr.trans hb2
 have HM2 := hide' hm2
 clear hm2
 refine ⟨hb2', ?_⟩
 refine wpX_nil ⟨_, rfl, rfl, ?_⟩
 unfold Oper.wp
 go_simp
 obtain ⟨cur, hcur, hfit⟩ := HM2.out.row
 refine (putHigh_calls w2 g st.out.length m _ n 5 cur hcur hm hfit hn).mono ?_
 rintro e w3 ⟨rfl, hput⟩
 have HN := hide' (HM2.out.num false n cur hcur hput)
 have HB3 := hide' (hb2'.trans HN.out.2)
 clear hput
 refine ⟨HB3.out, ?_⟩
 go_wp2_with fail
 go_end0
 exact ⟨rfl, HB3.out, _, _, _, _, [], by rw [List.append_nil]; exact HN.out.1⟩
set_option maxRecDepth 100000 in
set_option maxHeartbeats 1000000 in
theorem writeLowNumber_calls (c : Cx) (B : Nat) (w : World) (wb : Nat) (bv tv sv : Value) (svs : List Value) (hbs : List Nat) (st : Wr) (h : WrM c B w wb bv tv sv svs hbs st) (hl : st.out.length ≤ 1000000000) (pb vb k n m : Nat) (run : ByteArray) (vv hv : Value) (p : Pt) (hpt : PtBlk w pb p) (hpb : pb < B) (hnd : NdB w vb k n run vv) (hvb : vb < B) (hw : p.wd = (m : Int)) (hm0 : 1 ≤ m) (hm : m ≤ 4) :
 Calls Tryz.prog 124 #[.pointer (some ⟨wb, 0, none⟩), .pointer (some ⟨pb, 0, none⟩), .pointer (some ⟨vb, 0, none⟩), hv] w fun e w' => WrPost c B w wb hbs (wOut st (numB true m n)) e w' := by
 have hn := hnd.n
 have hC : ∀ W, Below B w W → W.cell? ⟨pb, 2, none⟩ = some (.int .i64 (m : Nat)) ∧ W.cell? ⟨vb, 1, none⟩ = some (.int .u32 (n : Nat)) := fun W hW => by
  refine ⟨?_, ?_⟩
  · rw [World.cell?_of_block (w := w) (hW.block pb hpb), ← hw]; exact hpt.cell 2
  · rw [World.cell?_of_block (w := w) (hW.block vb hvb)]; exact hnd.blk.cell 1
 have HC := hide' hC
 have HM := hide' h
 clear h hC hpt hnd
 go_enter Tryz.func124, Tryz.ntmps124
 go_wp2_with fail
 have hdr : Below B w (w.drewN 1) := ⟨rfl, rfl, rfl, Nat.le_refl _, fun _ _ => rfl⟩
 refine wp_region_seg (fun W => Below B w W) [([0, 1, 2, 3, 4, 6, 7, 8, 9], 5), ([], 10)] rfl (by kernel_rfl) (fun _ _ d _ _ h => by cases d <;> exact h) hdr ?_
 simp only [wpSeg, List.filterMap_cons, List.filterMap_nil, List.getElem?_toArray, List.getElem?_cons_zero, List.getElem?_cons_succ]
 refine wpX_step _ rfl (fun W hW => rfl) ?_
 refine wpX_step _ rfl (fun W hW => rfl) ?_
 refine wpX_step (.pointer (some ⟨pb, 0, none⟩)) rfl (fun W hW => by go_simp) ?_
 refine wpX_step (.pointer (some ⟨pb, 2, none⟩)) rfl (fun W hW => by go_simp) ?_
 refine wpX_step (.int .i64 (m : Nat)) rfl (fun W hW => by obtain ⟨h0, h1⟩ := HC.out W hW; go_simp) ?_
 refine wpX_step _ rfl (fun W hW => rfl) ?_
 refine wpX_step (.pointer (some ⟨vb, 0, none⟩)) rfl (fun W hW => by go_simp) ?_
 refine wpX_step (.pointer (some ⟨vb, 1, none⟩)) rfl (fun W hW => by go_simp) ?_
 refine wpX_step (.int .u32 (n : Nat)) rfl (fun W hW => by obtain ⟨h0, h1⟩ := HC.out W hW; go_simp) ?_
 refine wpX_nil ⟨_, rfl, rfl, ?_⟩
 unfold Oper.wp
 go_simp
 have hMd := HM.out.keep hdr (fun _ _ _ => rfl)
 refine (space_calls c B _ wb bv tv sv svs hbs st hMd m (by omega) hm hl).mono ?_
 rintro e w2 ⟨g, cap, rfl, hm2, hb2⟩
 have hb2' : Below B w w2 := hdr.trans hb2
 have HM2 := hide' hm2
 clear hm2
 refine ⟨hb2', ?_⟩
 refine wpX_nil ⟨_, rfl, rfl, ?_⟩
 unfold Oper.wp
 go_simp
 obtain ⟨cur, hcur, hfit⟩ := HM2.out.row
 refine (putLow_calls w2 g st.out.length m _ n 5 cur hcur hm hfit hn).mono ?_
 rintro e w3 ⟨rfl, hput⟩
 have HN := hide' (HM2.out.num true n cur hcur hput)
 have HB3 := hide' (hb2'.trans HN.out.2)
 clear hput
 refine ⟨HB3.out, ?_⟩
 go_wp2_with fail
 go_end0
 exact ⟨rfl, HB3.out, _, _, _, _, [], by rw [List.append_nil]; exact HN.out.1⟩
set_option maxRecDepth 100000 in
set_option maxHeartbeats 2000000 in
theorem write_walk (c : Cx) (w : World) (wb pb : Nat) (vv hv : Value) (p : Pt) (kd fn : Nat) (R : World → Prop) (hp : HPre c w wb) (hpt : PtBlk w pb p) (hk : p.k = (kd : Int)) (hkd : kd < 15) (hfn : doFns[kd * 3 + 2]? = some (fnV fn))
 (hrun : ∀ args W, Sem.run Tryz.prog (callFunc fn args) W = .ok (.enter fn args) W)
 (hcall : Calls Tryz.prog fn #[.pointer (some ⟨wb, 0, none⟩), .pointer (some ⟨pb, 0, none⟩), vv, hv] (w.drewN 1) fun e w' => e = .returned (.tuple #[]) ∧ R w') :
 Calls Tryz.prog 159 #[.pointer (some ⟨wb, 0, none⟩), .pointer (some ⟨pb, 0, none⟩), vv, hv] w fun e w' => e = .returned (.tuple #[]) ∧ R w' := by
 have hkd' : (kd : Int) < 15 := by omega
 have hfc : w.cell? ⟨wb, kd * 3 + 2, none⟩ = some (.func (.func fn) #[] #[]) := hp.fns _ _ hfn
 have p0 : w.cell? ⟨pb, 0, none⟩ = some (.int .i64 kd) := by rw [← hk]; exact hpt.cell 0
 have HCall := hide' hcall
 clear hp hpt hcall hfn
 go_enter Tryz.func159, Tryz.ntmps159
 go_wp2_with fail
 refine wp_region_mid 15 _ rfl rfl (by kernel_rfl) (by kernel_rfl) ?_
 simp only [List.take_succ_cons, List.take_zero, List.drop_succ_cons, List.drop_zero]
 repeat still_step
 refine wpStill_nil ?_
 unfold Oper.wp
 go_simp
 refine HCall.out.mono fun e4 w4 hpo => ?_
 obtain ⟨rfl, hr⟩ := hpo
 have HR := hide' hr
 clear hr
 simp only
 refine wpStill_nil ?_
 go_wp2_with fail
 go_end0
 exact ⟨rfl, HR.out⟩
set_option maxRecDepth 100000 in
set_option maxHeartbeats 2000000 in
theorem writeFixed_calls (c : Cx) (B : Nat) (w : World) (wb : Nat) (bv tv sv : Value) (svs : List Value) (hbs : List Nat) (st : Wr) (h : WrM c B w wb bv tv sv svs hbs st) (hl : st.out.length ≤ 1000000000) (pb b : Nat) (vv hv : Value) (p : Pt) (hpt : PtBlk w pb p) (_hpb : pb < B) (hb : p.vl = (b : Int)) (hb2 : b < 256) :
 Calls Tryz.prog 127 #[.pointer (some ⟨wb, 0, none⟩), .pointer (some ⟨pb, 0, none⟩), vv, hv] w fun e w' => WrPost c B w wb hbs (wOut st [UInt8.ofNat b]) e w' := by
 obtain ⟨i0, hi0, hz0, hz1, hz2⟩ := info_parts Tryz.infoByte
 have hwb := h.ge wb List.mem_cons_self
 have hub : ((UInt8.ofNat b).toNat : Int) = b := by simp; omega
 obtain ⟨q, cp, rfl⟩ := owns_form h.out
 have c46 : w.cell? ⟨wb, 46, none⟩ = some (.slice q st.out.length cp) := h.blk.cell 46
 have c46a : ∀ o, (w.alloc o).cell? ⟨wb, 46, none⟩ = some (.slice q st.out.length cp) := fun o => (Blk.alloc h.blk o).cell 46
 have p5 : w.cell? ⟨pb, 5, none⟩ = some (.int .u8 (b : Nat)) := by rw [← hb]; exact hpt.cell 5
 have p5a : ∀ o, (w.alloc o).cell? ⟨pb, 5, none⟩ = some (.int .u8 (b : Nat)) := fun o => by rw [← hb]; exact (Blk.alloc hpt o).cell 5
 have HM := hide' h
 have hown := h.out
 have hne1 : some wb ≠ (Value.slice q st.out.length cp).ownBlock := fun e => h.nb wb e.symm List.mem_cons_self
 clear h hpt
 go_enter Tryz.func127, Tryz.ntmps127
 go_wp2_with fail
 go_region_law (
  (refine step_append_lies _ (by rfl) _ _ _ (by rfl) B 5 i0 _ 1 1 Tryz.underlying40 hi0 hz0 hz1 hz2 rfl (by omega) (.slice q st.out.length cp) st.out.length (byteC st.out) (by rfl) ((hown.alloc _).drew)
    ⟨w.heap.size, 0, none⟩ 1 1 [.int .u8 b] (by rfl) (by rfl)
    (World.news_of_block (cs := #[.int .u8 b]) (t := 5) (fr := (0, 0)) (heap_alloc_new w _)) (by simp [Value.oneCell'])
    (by omega) (by unfold maxLen; omega) (by omega) (by simp; omega) (w.heap.size + 1) (by simp) ?_
   intro g1 cap1 w5 hown5 hgrow hat5 hlt5
   have hB5 := ((HM.out.blk.alloc _).drew).grown hgrow hne1
   have c5 : w5.cell? ⟨wb, 46, none⟩ = some (.slice q st.out.length cp) := hB5.cell 46
   have f5 : w5.frozen? ⟨wb, 46, none⟩ = false := hB5.frozen 46))
 all_goals
  go_wp2_with fail
  go_end0
  have hbA : Below B w (w.alloc (.cells #[.int .u8 b] 5)).drew := ((Below.refl B w).alloc (by omega) _).drew
  have hkp := HM.out.keep (w' := (w.alloc (.cells #[.int .u8 b] 5)).drew) hbA (fun k _ h2 => Below.heap_alloc _ _ _ h2)
  have happ := hkp.app g1 cap1 (st.out.length + 1) [UInt8.ofNat b] hgrow (by unfold byteC; rw [List.map_append, List.map_cons, List.map_nil, hub, List.length_append]; exact hown5) (by
   rcases hat5 with e | e
   · exact Or.inl e
   · refine Or.inr ?_
     show (w.alloc (.cells #[.int .u8 b] 5)).heap.size ≤ g1
     simp; omega)
  exact ⟨rfl, hbA.trans happ.2, _, _, _, _, [], by rw [List.append_nil]; exact happ.1⟩
end Go.Proofs.YtmlkhhhjdpbhfaaGreatDoor
namespace Go.Proofs.YtmlkhhhjdpbhfaaGreatDoor
open Go Go.RowKit
section
variable {P : Program} (w : World)
theorem run_append_own_str (base : Nat) (t u ty e : TypeId) (i : TypeInfo) (ht : P.underlying t = some (.slice e)) (hu : P.underlying u = some .string) (hi : P.info? e = some i) (hz : i.zero = some (.int .u8 0)) (hsize : i.size = 1) (hby : i.bytes = 1)
 (v : Value) (n : Nat) (xs : List Value) (hown : w.ownsRow base e 1 v n xs) (s : ByteArray) (hbytes : n + s.size ≤ 140737488355328) (hbase : base ≤ w.heap.size) :
 ∃ v' w', (Builtin.append_ #[t, u] ty #[v, .string s]).run P w = .ok v' w' ∧ w'.ownsRow base e 1 v' (n + s.size) (xs ++ Lib.strCells s) ∧ w.grownBy w' v.ownBlock ∧ (v'.ownBlock = v.ownBlock ∨ ∃ g, v'.ownBlock = some g ∧ w.heap.size ≤ g) := by
 have hxl : xs.length = n := by simpa using hown.1
 have hlen : (xs ++ Lib.strCells s).length = (n + s.size) * 1 := by rw [List.length_append, hxl, Lib.strCells_length, Nat.mul_one]
 have grown : ∀ (old : Nat) (row : Option Nat),
  (w.drew.alloc (.cells (xs.toArray ++ (Lib.strCells s).toArray ++ Builtin.zeroCells (Value.int .u8 0).cells (grownCap w (n + s.size) old e - (n + s.size))) e)).ownsRow base e 1
    (.slice (some ⟨w.heap.size, 0, none⟩) (n + s.size) (grownCap w (n + s.size) old e)) (n + s.size) (xs ++ Lib.strCells s) ∧
  w.grownBy (w.drew.alloc (.cells (xs.toArray ++ (Lib.strCells s).toArray ++ Builtin.zeroCells (Value.int .u8 0).cells (grownCap w (n + s.size) old e - (n + s.size))) e)) row := by
  intro old row
  have hge := grownCap_ge w (n + s.size) old e
  have hcm : grownCap w (n + s.size) old e ≤ maxLen := grownCap_le_maxLen w (n + s.size) old e (by unfold maxLen; omega)
  refine ⟨⟨hlen, .inr ⟨w.heap.size, _, _, rfl, hbase, heap_alloc_new w.drew _, hge, hcm, ?_, ?_⟩⟩, ⟨rfl, rfl, rfl, by simp, fun k hk _ => Below.heap_alloc w.drew _ k hk⟩⟩
  · have hz1 : (Value.int IntKind.u8 0).cells.size = 1 := rfl
    simp only [Array.size_append, List.size_toArray, size_zeroCells, hz1, hxl, Lib.strCells_length]
    omega
  · simp only [Array.toList_append, List.append_assoc]
    rw [← List.append_assoc, ← hlen]
    exact List.take_left
 rcases hown.2 with ⟨rfl, rfl⟩ | ⟨g, cap, cur, rfl, hbg, hg, hnc, hcm, hcs, htake⟩
 · have hx : xs = [] := List.eq_nil_of_length_eq_zero hxl
   subst hx
   by_cases hm : s.size = 0
   · have hn : Lib.strCells s = [] := List.eq_nil_of_length_eq_zero (by rw [Lib.strCells_length]; exact hm)
     refine ⟨.slice none 0 0, w, ?_, by rw [hm, hn]; exact World.ownsRow_nil w base e 1, ⟨rfl, rfl, rfl, Nat.le_refl _, fun _ _ _ => rfl⟩, Or.inl rfl⟩
     have hf := Lib.run_firstCells_string (P := P) w 1 s
     rw [hm] at hf
     simp [Builtin.append_, run_underlying ht, run_underlying hu, sizeOf, typeInfo, hi, hsize, Builtin.lenOf, hm, hf]
   · have hr := run_append_nil_string (P := P) w t u ty e i (.int .u8 0) ht hu hi hz s (by omega) (by omega) (by rw [hby]; omega)
     have hgr := grown 0 (Value.ownBlock (.slice none 0 0))
     simp only [Nat.zero_add, List.nil_append, Array.empty_append] at hgr ⊢
     have e1 : (s.data.map fun b => Value.int .u8 b.toNat) = (Lib.strCells s).toArray := by
      apply Array.ext'
      simp [Lib.strCells]
     rw [e1] at hr
     exact ⟨_, _, hr, hgr.1, hgr.2, Or.inr ⟨_, rfl, Nat.le_refl _⟩⟩
 · by_cases hroom : n + s.size ≤ cap
   · have hcs' : cur.size = cap := by simpa using hcs
     have hr := Lib.run_append_room_string (P := P) w t u ty e i ht hu hi hsize g n cap cur hg s hroom (by omega)
     refine ⟨_, _, hr, ⟨hlen, .inr ⟨g, cap, _, rfl, hbg, setRow_heap w g cur _ e _ hg, hroom, hcm, ?_, ?_⟩⟩, ⟨rfl, rfl, rfl, by simp, fun k _ hk => setRow_other w g k _ (fun e => hk (by simp [Value.ownBlock, e]))⟩, Or.inl rfl⟩
     · simp only [List.size_toArray, List.length_append, List.length_take, List.length_drop, Array.length_toList, Lib.strCells_length]
       omega
     · have ht' : cur.toList.take n = xs := by simpa using htake
       rw [ht', ← hlen]
       exact List.take_left
   · have holds : ∀ j u, xs[j]? = some u → w.cell? ((⟨g, 0, none⟩ : Addr).add j) = some u := hown.cells (g := g) rfl
     have hr := Lib.run_append_grow_string (P := P) w t u ty e i (.int .u8 0) ht hu hi hz ⟨g, 0, none⟩ n cap xs (by rw [hsize]; simpa using hxl) holds s (by omega) (by omega) (by rw [hby]; exact growslice_fits (by omega) (by omega))
     have hgr := grown cap (Value.ownBlock (.slice (some ⟨g, 0, none⟩) n cap))
     exact ⟨_, _, hr, hgr.1, hgr.2, Or.inr ⟨_, rfl, Nat.le_refl _⟩⟩
end
theorem mk_sz (a : List UInt8) : (⟨a.toArray⟩ : ByteArray).size = a.length := by simp [ByteArray.size]
theorem WrM.append {c : Cx} {B : Nat} {w w1 : World} {wb : Nat} {bv bv' tv sv : Value} {svs : List Value} {hbs : List Nat} {st : Wr} (h : WrM c B w wb bv tv sv svs hbs st) (l : List UInt8) (hg : w.grownBy w1 bv.ownBlock)
 (hown : w1.ownsRow B 5 1 bv' (st.out ++ l).length (byteC (st.out ++ l))) (hat : bv'.ownBlock = bv.ownBlock ∨ ∃ g, bv'.ownBlock = some g ∧ w.heap.size ≤ g) :
 WrM c B (w1.setCell ⟨wb, 46, none⟩ bv') wb bv' tv sv svs hbs (wOut st l) ∧ Below B w (w1.setCell ⟨wb, 46, none⟩ bv') := by
 have hwb := h.ge wb List.mem_cons_self
 have hnb : ∀ q, bv'.ownBlock = some q → q ∉ wb :: rst tv sv svs hbs := fun q e => by
  rcases hat with h1 | ⟨g, h1, h2⟩
  · exact h.nb q (h1 ▸ e)
  · rw [h1] at e
    injection e with e
    intro hm; have := (h.ge q hm).2; omega
 have hne : some wb ≠ bv.ownBlock := fun e => h.nb wb e.symm List.mem_cons_self
 have hbel : Below B w (w1.setCell ⟨wb, 46, none⟩ bv') := by
  refine ⟨hg.os, hg.tape, hg.output, by have := hg.size; simp [World.setCell]; omega, fun k hk => ?_⟩
  rw [Below.heap_setCell _ _ _ _ (by simp only; omega)]
  exact hg.block k (by omega) (fun e => by have := (h.out.lt k e.symm).1; omega)
 have hblk1 : Blk w1 wb (wrC c.gb bv st.wide tv sv) 120 := by
  have := h.blk; unfold Blk at *; rw [hg.block wb hwb.2 hne]; exact this
 refine ⟨?_, hbel⟩
 refine WrM.next (bv' := bv') (wide := st.wide) (out := st.out ++ l) h hbel (fun b hm => ?_) (by have := hblk1.set 46 bv'; rw [wrC_out] at this; exact this) (ownsRow_blocks hown fun q e => ?_) hnb
 · have hbm := List.mem_cons_of_mem wb hm
   have hb1 : b ≠ wb := fun e => by have := h.nd; rw [List.nodup_cons] at this; exact this.1 (e ▸ hm)
   rw [Below.heap_setCell _ _ _ _ hb1]
   exact hg.block b (h.ge b hbm).2 (fun e => h.nb b e.symm hbm)
 · exact Below.heap_setCell _ _ _ _ (fun e2 => hnb q e (by simp only at e2; rw [e2]; exact List.mem_cons_self))
theorem step_append_run {P : Program} {w : World} {ops : Array Oper} {o : Oper} {a : Act} {K : Act → World → Prop} {Q : Exit → Act → World → Prop} {E : Prop} (hgd : o.guard = none) (s x : Operand) (t tn : TypeId)
 (ho : o.op = .call { callee := .builtin .append, args := #[s, x], argTypes := #[t, tn] }) (vs vx : Value) (hs : a.eval s = vs) (hx : a.eval x = vx)
 (v' : Value) (w' : World) (hr : (Builtin.append_ #[t, tn] o.type #[vs, vx]).run P w = .ok v' w') (hK : K (a.put o.dst v') w') :
 if Region.wanted o (yielded ops a.tmps) = true then Oper.wp P o a w K Q else E := by
 rw [if_pos (by simp [Region.wanted, hgd])]
 exact Lib.wp_append_run w s x t tn ho vs vx hs hx v' w' hr hK
set_option maxRecDepth 100000 in
set_option maxHeartbeats 2000000 in
theorem writeRest_calls (c : Cx) (B : Nat) (w : World) (wb : Nat) (bv tv sv : Value) (svs : List Value) (hbs : List Nat) (st : Wr) (h : WrM c B w wb bv tv sv svs hbs st) (hl : st.out.length ≤ 1000000000) (pb vb k n : Nat) (run : List UInt8) (vv hv : Value) (hnd : NdB w vb k n ⟨run.toArray⟩ vv) (hrl : run.length ≤ 8000) :
 Calls Tryz.prog 158 #[.pointer (some ⟨wb, 0, none⟩), .pointer (some ⟨pb, 0, none⟩), .pointer (some ⟨vb, 0, none⟩), hv] w fun e w' => WrPost c B w wb hbs (wOut st run) e w' := by
 obtain ⟨i0, hi0, hz0, hz1, hz2⟩ := info_parts Tryz.infoByte
 have hwb := h.ge wb List.mem_cons_self
 have hrs : (⟨run.toArray⟩ : ByteArray).size = run.length := mk_sz run
 have hbA : Below B w w.drew := ⟨rfl, rfl, rfl, Nat.le_refl _, fun _ _ => rfl⟩
 have hkp := h.keep (w' := w.drew) hbA (fun k _ h2 => rfl)
 obtain ⟨v', w1, hr, hown', hgr, hat⟩ := run_append_own_str (P := Tryz.prog) w.drew B 40 9 40 5 i0 Tryz.underlying40 Tryz.underlying9 hi0 hz0 hz1 hz2 bv st.out.length (byteC st.out) hkp.out ⟨run.toArray⟩ (by rw [hrs]; omega) (by have : w.drew.heap.size = w.heap.size := rfl; omega)
 have happ := hkp.append (bv' := v') run hgr (by
  rw [hrs] at hown'
  have e1 : byteC (st.out ++ run) = byteC st.out ++ Lib.strCells ⟨run.toArray⟩ := by simp [byteC, Lib.strCells]
  rw [e1, List.length_append]; exact hown') hat
 have HApp := hide' happ
 obtain ⟨q, cp, rfl⟩ := owns_form h.out
 have c46 : w.cell? ⟨wb, 46, none⟩ = some (.slice q st.out.length cp) := h.blk.cell 46
 have v2 : w.cell? ⟨vb, 2, none⟩ = some (.string ⟨run.toArray⟩) := hnd.blk.cell 2
 have hblk1 : Blk w1 wb (wrC c.gb (.slice q st.out.length cp) st.wide tv sv) 120 := by
  have := hkp.blk; unfold Blk at *; rw [hgr.block wb hwb.2 (fun e => h.nb wb e.symm List.mem_cons_self)]; exact this
 have d46 : w1.cell? ⟨wb, 46, none⟩ = some (.slice q st.out.length cp) := hblk1.cell 46
 have f46 : w1.frozen? ⟨wb, 46, none⟩ = false := hblk1.frozen 46
 obtain ⟨q', cp', rfl⟩ := owns_form hown'
 have HBA := hide' hbA
 clear happ hkp hown' hgr hat hblk1 h hnd hbA
 go_enter Tryz.func158, Tryz.ntmps158
 go_wp2_with fail
 go_region_law (
  (refine step_append_run (by rfl) _ _ _ _ (by rfl) _ _ (by rfl) (by rfl) _ _ hr ?_))
 all_goals
  go_wp2_with fail
  go_end0
  exact ⟨rfl, HBA.out.trans HApp.out.2, _, _, _, _, [], by rw [List.append_nil]; exact HApp.out.1⟩
end Go.Proofs.YtmlkhhhjdpbhfaaGreatDoor
namespace Go.Proofs.YtmlkhhhjdpbhfaaGreatDoor
open Go.RowKit
structure HoAt (w : World) (hb d : Nat) (ho : Ho) : Prop where
 c0 : w.cell? ⟨hb, d * 3, none⟩ = some (.int .i64 (ho.pl : Nat))
 c1 : w.cell? ⟨hb, d * 3 + 1, none⟩ = some (.int .i64 (ho.w : Nat))
 c2 : w.cell? ⟨hb, d * 3 + 2, none⟩ = some (.func (.func (putF ho.low)) #[] #[])
theorem WrM.hole {c : Cx} {B : Nat} {w : World} {wb : Nat} {bv tv sv : Value} {svs : List Value} {hbs : List Nat} {st : Wr} (h : WrM c B w wb bv tv sv svs hbs st) {i hb d : Nat} {f : Nat → Option Ho} {ho : Ho} (h1 : hbs[i]? = some hb) (h2 : st.hol[i]? = some f) (h3 : f d = some ho) (hd : d < 8) : HoAt w hb d ho := by
 have hb := h.hol i hb f h1 h2
 obtain ⟨a, b, e⟩ := holC_cell f d hd
 rw [h3] at a b e
 rw [Nat.mul_comm] at a b e
 exact ⟨(hb.cell (d * 3)).trans a, (hb.cell (d * 3 + 1)).trans b, (hb.cell (d * 3 + 2)).trans e⟩
theorem WrM.appText {c : Cx} {B : Nat} {w : World} {wb : Nat} {bv tv sv : Value} {svs : List Value} {hbs : List Nat} {st : Wr} (h : WrM c B w wb bv tv sv svs hbs st) (hl : st.out.length ≤ 1000000000) (run : List UInt8) (hrl : run.length ≤ 8000) :
 ∃ q cp q' cp' w1, bv = .slice q st.out.length cp ∧ w.cell? ⟨wb, 46, none⟩ = some (.slice q st.out.length cp) ∧ (Builtin.append_ #[40, 9] 40 #[.slice q st.out.length cp, .string ⟨run.toArray⟩]).run Tryz.prog w.drew = .ok (.slice q' (st.out.length + run.length) cp') w1 ∧
  w1.cell? ⟨wb, 46, none⟩ = some (.slice q st.out.length cp) ∧ w1.frozen? ⟨wb, 46, none⟩ = false ∧ WrM c B (w1.setCell ⟨wb, 46, none⟩ (.slice q' (st.out.length + run.length) cp')) wb (.slice q' (st.out.length + run.length) cp') tv sv svs hbs (wOut st run) ∧ Below B w (w1.setCell ⟨wb, 46, none⟩ (.slice q' (st.out.length + run.length) cp')) := by
 obtain ⟨i0, hi0, hz0, hz1, hz2⟩ := info_parts Tryz.infoByte
 have hwb := h.ge wb List.mem_cons_self
 have hrs : (⟨run.toArray⟩ : ByteArray).size = run.length := mk_sz run
 have hbA : Below B w w.drew := ⟨rfl, rfl, rfl, Nat.le_refl _, fun _ _ => rfl⟩
 have hkp := h.keep (w' := w.drew) hbA (fun k _ h2 => rfl)
 obtain ⟨v', w1, hr, hown', hgr, hat⟩ := run_append_own_str (P := Tryz.prog) w.drew B 40 9 40 5 i0 Tryz.underlying40 Tryz.underlying9 hi0 hz0 hz1 hz2 bv st.out.length (byteC st.out) hkp.out ⟨run.toArray⟩ (by rw [hrs]; omega) (by have : w.drew.heap.size = w.heap.size := rfl; omega)
 rw [hrs] at hown'
 have happ := hkp.append (bv' := v') run hgr (by
  have e1 : byteC (st.out ++ run) = byteC st.out ++ Lib.strCells ⟨run.toArray⟩ := by simp [byteC, Lib.strCells]
  rw [e1, List.length_append]; exact hown') hat
 obtain ⟨q, cp, rfl⟩ := owns_form h.out
 have hblk1 : Blk w1 wb (wrC c.gb (.slice q st.out.length cp) st.wide tv sv) 120 := by
  have := hkp.blk; unfold Blk at *; rw [hgr.block wb hwb.2 (fun e => h.nb wb e.symm List.mem_cons_self)]; exact this
 obtain ⟨q', cp', rfl⟩ := owns_form hown'
 exact ⟨q, cp, q', cp', w1, rfl, h.blk.cell 46, hr, hblk1.cell 46, hblk1.frozen 46, happ.1, hbA.trans happ.2⟩
set_option maxRecDepth 100000 in
set_option maxHeartbeats 2000000 in
theorem writeRun_calls' (c : Cx) (B : Nat) (w : World) (wb : Nat) (bv tv sv : Value) (svs : List Value) (hbs : List Nat) (st : Wr) (h : WrM c B w wb bv tv sv svs hbs st) (hl : st.out.length ≤ 1000000000) (pb vb k n hb d : Nat) (ho : Ho) (run : List UInt8) (vv : Value) (p : Pt) (hpt : PtBlk w pb p) (hnd : NdB w vb k n ⟨run.toArray⟩ vv) (hvb : vb < B) (hrl : run.length ≤ 8000)
 (hdp : p.dp = (d : Int)) (hd8 : d < 8) (hho : HoAt w hb d ho) (hok : HoOk ho st.out.length) :
 Calls Tryz.prog 147 #[.pointer (some ⟨wb, 0, none⟩), .pointer (some ⟨pb, 0, none⟩), .pointer (some ⟨vb, 0, none⟩), .pointer (some ⟨hb, 0, none⟩)] w fun e w' => WrPost c B w wb hbs (wOut (wTell st ho run.length) run) e w' := by
 obtain ⟨i0, hi0, hz0, hz1, hz2⟩ := info_parts Tryz.infoByte
 have hrs : (⟨run.toArray⟩ : ByteArray).size = run.length := mk_sz run
 have p3 : w.cell? ⟨pb, 3, none⟩ = some (.int .i64 (d : Nat)) := by rw [← hdp]; exact hpt.cell 3
 have v2 : w.cell? ⟨vb, 2, none⟩ = some (.string ⟨run.toArray⟩) := hnd.blk.cell 2
 have hc0 := hho.c0
 have hc1 := hho.c1
 have hc2 := hho.c2
 have hd8' : (d : Int) < 8 := by omega
 have HM := hide' h
 have HV : Hid (∀ W, Below B w W → W.cell? ⟨vb, 2, none⟩ = some (.string ⟨run.toArray⟩)) := by
  have : ∀ W, Below B w W → W.cell? ⟨vb, 2, none⟩ = some (.string ⟨run.toArray⟩) := fun W hW => by rw [World.cell?_of_block (w := w) (hW.block vb hvb)]; exact v2
  exact this
 have HRs := hide' hrs
 clear h hpt hnd hho
 generalize hrb : (⟨run.toArray⟩ : ByteArray) = rb at *
 have HRb := hide' hrb
 clear hrb
 go_enter Tryz.func147, Tryz.ntmps147
 go_wp2_with fail
 refine wp_region_mid 14 _ rfl rfl (by kernel_rfl) (by kernel_rfl) ?_
 simp only [List.take_succ_cons, List.take_zero, List.drop_succ_cons, List.drop_zero]
 repeat still_step
 refine wpStill_nil ?_
 unfold Oper.wp
 go_simp
 have hdr : Below B w (w.drewN 1) := ⟨rfl, rfl, rfl, Nat.le_refl _, fun _ _ => rfl⟩
 refine (tell_calls c B (w.drewN 1) wb bv tv sv svs hbs st (HM.out.keep hdr (fun _ _ _ => rfl)) ho hok run.length (by omega) hl).mono ?_
 rintro e w2 ⟨rfl, hm2, hb2⟩
 have hb2' := hdr.trans hb2
 have v22 := HV.out w2 hb2'
 have hlen : (wTell st ho run.length).out.length = st.out.length := by unfold wTell wPut; exact putAt_length _ _ _ hok.lt
 obtain ⟨q, cp, q', cp', w3, rfl, c46, hr, d46, f46, hm3, hb3⟩ := hm2.appText (by rw [hlen]; exact hl) run hrl
 simp only [hlen] at c46 hr d46 hm3 hb3
 rw [HRb.out] at hr
 have HM3 := hide' hm3
 have HB3 := hide' (hb2'.trans hb3)
 clear hlen hm2 hm3 hb3 hb2 hb2' hc0 hc1 hc2 p3 v2
 simp only
 refine wpStill_nil ?_
 go_wp2_with fail
 go_region_law (
  (refine step_append_run (by rfl) _ _ _ _ (by rfl) _ _ (by rfl) (by rfl) _ _ hr ?_))
 all_goals
  go_wp2_with fail
  go_end0
  exact ⟨rfl, HB3.out, _, _, _, _, [], by rw [List.append_nil]; exact HM3.out⟩
end Go.Proofs.YtmlkhhhjdpbhfaaGreatDoor

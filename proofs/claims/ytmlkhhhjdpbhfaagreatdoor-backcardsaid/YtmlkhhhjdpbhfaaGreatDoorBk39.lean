import Derived.Test.YtmlkhhhjdpbhfaaGreatDoorBk38
import Derived.Test.YtmlkhhhjdpbhfaaGreatDoorBk37
namespace Go.Proofs.YtmlkhhhjdpbhfaaGreatDoor
open Go.RowKit
theorem nodup_at {l : List Nat} (h : l.Nodup) {i j : Nat} (hi : i < l.length) (hj : j < l.length) (e : l[i] = l[j]) : i = j := by
 have hp := List.pairwise_iff_getElem.1 h
 rcases Nat.lt_trichotomy i j with h1 | h1 | h1
 · exact absurd e (hp i j hi hj h1)
 · exact h1
 · exact absurd e.symm (hp j i hj hi h1)
def setHo (w : World) (hb d : Nat) (ho : Ho) : World := ((w.setCell ⟨hb, d * 3, none⟩ (.int .i64 (ho.pl : Nat))).setCell ⟨hb, d * 3 + 1, none⟩ (.int .i64 (ho.w : Nat))).setCell ⟨hb, d * 3 + 2, none⟩ (.func (.func (putF ho.low)) #[] #[])
theorem setHo_other (w : World) (hb d : Nat) (ho : Ho) (k : Nat) (h : k ≠ hb) : (setHo w hb d ho).heap[k]? = w.heap[k]? := by
 unfold setHo
 rw [Below.heap_setCell _ _ _ _ h, Below.heap_setCell _ _ _ _ h, Below.heap_setCell _ _ _ _ h]
theorem holC_set (f : Nat → Option Ho) (d : Nat) (hd : d < 8) (ho : Ho) : (((holC f).setIfInBounds (d * 3) (.int .i64 (ho.pl : Nat))).setIfInBounds (d * 3 + 1) (.int .i64 (ho.w : Nat))).setIfInBounds (d * 3 + 2) (.func (.func (putF ho.low)) #[] #[]) = holC (fun k => if k = d then some ho else f k) := by
 have h8 : d = 0 ∨ d = 1 ∨ d = 2 ∨ d = 3 ∨ d = 4 ∨ d = 5 ∨ d = 6 ∨ d = 7 := by omega
 rcases h8 with rfl | rfl | rfl | rfl | rfl | rfl | rfl | rfl <;> rfl
theorem WrM.hideAt {c : Cx} {B : Nat} {w : World} {wb : Nat} {bv tv sv : Value} {svs : List Value} {hbs : List Nat} {st : Wr} (h : WrM c B w wb bv tv sv svs hbs st) {i hb d : Nat} {f : Nat → Option Ho} (ho : Ho) (h1 : hbs[i]? = some hb) (h2 : st.hol[i]? = some f) (hd : d < 8) :
 WrM c B (setHo w hb d ho) wb bv tv sv svs hbs (wHide st i d ho) ∧ Below B w (setHo w hb d ho) := by
 have hm : hb ∈ hbs := List.mem_of_getElem? h1
 have hmem : hb ∈ wb :: rst tv sv svs hbs := List.mem_cons_of_mem _ (mem_rst_hbs h1)
 have hhb := h.ge hb hmem
 have hnd := h.nd
 rw [List.nodup_cons] at hnd
 have hne : wb ≠ hb := fun e => hnd.1 (e ▸ mem_rst_hbs h1)
 have hn2 := hnd.2
 unfold rst at hn2
 rw [List.nodup_append, List.nodup_append, List.nodup_append] at hn2
 obtain ⟨_, ⟨_, ⟨_, hnh, e3⟩, e2⟩, e1⟩ := hn2
 have n1 : ∀ g, tv.ownBlock = some g → g ≠ hb := fun g e => e1 g (by simp [e]) hb (by simp [hm])
 have n2 : ∀ g, sv.ownBlock = some g → g ≠ hb := fun g e => e2 g (by simp [e]) hb (by simp [hm])
 have n3 : ∀ s g, s ∈ svs → s.ownBlock = some g → g ≠ hb := fun s g hs e => e3 g (List.mem_filterMap.2 ⟨s, hs, e⟩) hb hm
 have hsz : (setHo w hb d ho).heap.size = w.heap.size := by simp [setHo, World.setCell]
 have hbel : Below B w (setHo w hb d ho) := ⟨rfl, rfl, rfl, by omega, fun k hk => setHo_other w hb d ho k (by omega)⟩
 refine ⟨⟨?_, ?_, h.wait.keep hbel (fun g e => setHo_other w hb d ho g (n1 g e)), ?_, h.sumsL, fun j s l a b => ?_, fun j b g a e => ?_, ?_, h.nd, h.nb, fun b hb' => by rw [hsz]; exact h.ge b hb', h.bel.trans (hbel.mono h.leB), h.leB⟩, hbel⟩
 · have := h.blk
   unfold Blk at *
   rw [setHo_other w hb d ho wb hne]; exact this
 · exact ownsRow_blocks h.out fun g e => setHo_other w hb d ho g (fun e2 => h.nb g e (e2 ▸ hmem))
 · exact ownsRow_blocks h.sums fun g e => setHo_other w hb d ho g (n2 g e)
 · exact ownsRow_blocks (h.sum j s l a b) fun g e => setHo_other w hb d ho g (n3 s g (List.mem_of_getElem? a) e)
 · have hj : (wHide st i d ho).hol[j]? = if i = j then (st.hol[j]?).map (fun f k => if k = d then some ho else f k) else st.hol[j]? := by
    unfold wHide
    simp only [List.getElem?_modify]
    split <;> simp
   rw [hj] at e
   by_cases hij : i = j
   · subst hij
     rw [if_pos rfl, h2] at e
     rw [h1] at a
     cases a
     cases e
     have hbk := h.hol i hb f h1 h2
     have := ((hbk.set (d * 3) (.int .i64 (ho.pl : Nat))).set (d * 3 + 1) (.int .i64 (ho.w : Nat))).set (d * 3 + 2) (.func (.func (putF ho.low)) #[] #[])
     rw [holC_set f d hd ho] at this
     exact this
   · rw [if_neg hij] at e
     have hbj : b ≠ hb := fun eb => hij (by
      subst eb
      obtain ⟨hi', hi2⟩ := List.getElem?_eq_some_iff.1 h1
      obtain ⟨hj', hj2⟩ := List.getElem?_eq_some_iff.1 a
      exact nodup_at hnh hi' hj' (hi2.trans hj2.symm))
     have := h.hol j b g a e
     unfold Blk at *
     rw [setHo_other w hb d ho b hbj]; exact this
 · rw [h.holL]; simp [wHide]
set_option maxRecDepth 100000 in
set_option maxHeartbeats 2000000 in
theorem hidOrd_calls (c : Cx) (B : Nat) (w : World) (wb : Nat) (bv tv sv : Value) (svs : List Value) (hbs : List Nat) (st : Wr) (h : WrM c B w wb bv tv sv svs hbs st) (hl : st.out.length ≤ 1000000000) (pb hb d m i : Nat) (f : Nat → Option Ho) (low : Bool) (p : Pt) (hpt : PtBlk w pb p) (hpb : pb < B)
 (hdp : p.dp = (d : Int)) (hd8 : d < 8) (hw : p.wd = (m : Int)) (hm0 : 1 ≤ m) (hm : m ≤ 4) (h1 : hbs[i]? = some hb) (h2 : st.hol[i]? = some f) :
 Calls Tryz.prog 191 #[.pointer (some ⟨wb, 0, none⟩), .pointer (some ⟨pb, 0, none⟩), .pointer (some ⟨hb, 0, none⟩), .func (.func (putF low)) #[] #[]] w fun e w' => WrPost c B w wb hbs (wOut (wHide st i d ⟨st.out.length, m, low⟩) (List.replicate m 0)) e w' := by
 have p3 : w.cell? ⟨pb, 3, none⟩ = some (.int .i64 (d : Nat)) := by rw [← hdp]; exact hpt.cell 3
 have p2 : w.cell? ⟨pb, 2, none⟩ = some (.int .i64 (m : Nat)) := by rw [← hw]; exact hpt.cell 2
 obtain ⟨q, cp, rfl⟩ := owns_form h.out
 have c46 : w.cell? ⟨wb, 46, none⟩ = some (.slice q st.out.length cp) := h.blk.cell 46
 have hbk := h.hol i hb f h1 h2
 obtain ⟨a, b, e⟩ := holC_cell f d hd8
 rw [Nat.mul_comm] at a b e
 have k0 := (hbk.cell (d * 3)).trans a
 have k1 := (hbk.cell (d * 3 + 1)).trans b
 have k2 := (hbk.cell (d * 3 + 2)).trans e
 have g0 := hbk.frozen (d * 3)
 have g1 := hbk.frozen (d * 3 + 1)
 have g2 := hbk.frozen (d * 3 + 2)
 have hd8' : (d : Int) < 8 := by omega
 have hmem : hb ∈ wb :: rst tv sv svs hbs := List.mem_cons_of_mem _ (mem_rst_hbs h1)
 have hhb := h.ge hb hmem
 have hne1 : ¬ hb = wb := fun e => by have := h.nd; rw [List.nodup_cons] at this; exact this.1 (e ▸ mem_rst_hbs h1)
 have hne2 : ¬ wb = hb := fun e => hne1 e.symm
 have hne3 : ¬ hb = pb := by omega
 have hne4 : ¬ pb = hb := by omega
 have HM := hide' h
 clear a b e
 generalize hoF (f d) = fv at *
 go_enter Tryz.func191, Tryz.ntmps191
 go_wp2_with fail
 go_region
 have hW : ((w.setCell ⟨hb, d * 3, none⟩ (.int .i64 st.out.length)).setCell ⟨hb, d * 3 + 1, none⟩ (.int .i64 m)).setCell ⟨hb, d * 3 + 2, none⟩ (.func (.func (putF low)) #[] #[]) = setHo w hb d ⟨st.out.length, m, low⟩ := rfl
 rw [hW]
 have hha := HM.out.hideAt ⟨st.out.length, m, low⟩ h1 h2 hd8
 have hdr : Below B (setHo w hb d ⟨st.out.length, m, low⟩) (setHo w hb d ⟨st.out.length, m, low⟩).drew := ⟨rfl, rfl, rfl, Nat.le_refl _, fun _ _ => rfl⟩
 have HMh := hide' (hha.1.keep hdr (fun _ _ _ => rfl))
 have HBh := hide' (hha.2.trans hdr)
 clear hha hdr hW k0 k1 k2 g0 g1 g2 c46 p3
 generalize (setHo w hb d ⟨st.out.length, m, low⟩).drew = W at *
 have p2W : W.cell? ⟨pb, 2, none⟩ = some (.int .i64 (m : Nat)) := by rw [World.cell?_of_block (w := w) (HBh.out.block pb hpb)]; exact p2
 go_wp2_with fail
 refine (space_calls c B W wb _ tv sv svs hbs _ HMh.out m (by omega) hm hl).mono ?_
 rintro e w2 ⟨g, cap, rfl, hm2, hb2⟩
 have HM2 := hide' hm2
 have HB2 := hide' (HBh.out.trans hb2)
 clear hm2 hb2
 go_wp2_with fail
 go_end0
 exact ⟨rfl, HB2.out, _, _, _, _, [], by rw [List.append_nil]; exact HM2.out⟩
set_option maxHeartbeats 1000000 in
theorem writeHidden_calls (c : Cx) (B : Nat) (w : World) (wb : Nat) (bv tv sv : Value) (svs : List Value) (hbs : List Nat) (st : Wr) (h : WrM c B w wb bv tv sv svs hbs st) (hl : st.out.length ≤ 1000000000) (pb hb d m i : Nat) (vv : Value) (f : Nat → Option Ho) (p : Pt) (hpt : PtBlk w pb p) (hpb : pb < B)
 (hdp : p.dp = (d : Int)) (hd8 : d < 8) (hw : p.wd = (m : Int)) (hm0 : 1 ≤ m) (hm : m ≤ 4) (h1 : hbs[i]? = some hb) (h2 : st.hol[i]? = some f) :
 Calls Tryz.prog 142 #[.pointer (some ⟨wb, 0, none⟩), .pointer (some ⟨pb, 0, none⟩), vv, .pointer (some ⟨hb, 0, none⟩)] w fun e w' => WrPost c B w wb hbs (wOut (wHide st i d ⟨st.out.length, m, false⟩) (List.replicate m 0)) e w' := by
 have HC := hide' (hidOrd_calls c B w wb bv tv sv svs hbs st h hl pb hb d m i f false p hpt hpb hdp hd8 hw hm0 hm h1 h2)
 clear h hpt
 go_enter Tryz.func142, Tryz.ntmps142
 go_wp2_with fail
 refine HC.out.mono ?_
 rintro e w2 ⟨rfl, hr⟩
 have HR := hide' hr
 clear hr
 go_wp2_with fail
 go_end0
 exact ⟨rfl, HR.out⟩
set_option maxHeartbeats 1000000 in
theorem writeLowHidden_calls (c : Cx) (B : Nat) (w : World) (wb : Nat) (bv tv sv : Value) (svs : List Value) (hbs : List Nat) (st : Wr) (h : WrM c B w wb bv tv sv svs hbs st) (hl : st.out.length ≤ 1000000000) (pb hb d m i : Nat) (vv : Value) (f : Nat → Option Ho) (p : Pt) (hpt : PtBlk w pb p) (hpb : pb < B)
 (hdp : p.dp = (d : Int)) (hd8 : d < 8) (hw : p.wd = (m : Int)) (hm0 : 1 ≤ m) (hm : m ≤ 4) (h1 : hbs[i]? = some hb) (h2 : st.hol[i]? = some f) :
 Calls Tryz.prog 144 #[.pointer (some ⟨wb, 0, none⟩), .pointer (some ⟨pb, 0, none⟩), vv, .pointer (some ⟨hb, 0, none⟩)] w fun e w' => WrPost c B w wb hbs (wOut (wHide st i d ⟨st.out.length, m, true⟩) (List.replicate m 0)) e w' := by
 have HC := hide' (hidOrd_calls c B w wb bv tv sv svs hbs st h hl pb hb d m i f true p hpt hpb hdp hd8 hw hm0 hm h1 h2)
 clear h hpt
 go_enter Tryz.func144, Tryz.ntmps144
 go_wp2_with fail
 refine HC.out.mono ?_
 rintro e w2 ⟨rfl, hr⟩
 have HR := hide' hr
 clear hr
 go_wp2_with fail
 go_end0
 exact ⟨rfl, HR.out⟩
def HvIn (hid : Option Nat) (hv : Value) (hbs : List Nat) : Prop := match hid with
 | none => True
 | some i => ∃ hb, hv = .pointer (some ⟨hb, 0, none⟩) ∧ hbs[i]? = some hb
def KidW (c : Cx) (B wb : Nat) (w0 : World) (qb : Nat) (vv hv : Value) (hid : Option Nat) (st st' : Wr) : Prop := ∀ w bv tv sv svs hbs, Below B w0 w → WrM c B w wb bv tv sv svs hbs st → HvIn hid hv hbs →
 Calls Tryz.prog 159 #[.pointer (some ⟨wb, 0, none⟩), .pointer (some ⟨qb, 0, none⟩), vv, hv] w fun e w' => WrPost c B w wb hbs st' e w'
theorem app_at {α : Type} {l m : List α} {i : Nat} {x : α} (h : l[i]? = some x) : (l ++ m)[i]? = some x := by
 rw [List.getElem?_append_left (List.getElem?_eq_some_iff.1 h).1]; exact h
set_option maxRecDepth 100000 in
set_option maxHeartbeats 2000000 in
theorem writeWindow_calls (c : Cx) (B : Nat) (w : World) (wb : Nat) (bv tv sv : Value) (svs : List Value) (hbs : List Nat) (st st1 : Wr) (h : WrM c B w wb bv tv sv svs hbs st) (hl : st1.out.length ≤ 1000000000) (hlo : st.out.length ≤ st1.out.length) (pb g cap qb hb d i : Nat) (ho : Ho) (f : Nat → Option Ho) (vv : Value) (p : Pt) (hpt : PtBlk w pb p) (hpb : pb < B) (_hgB : g < B)
 (hdp : p.dp = (d : Int)) (hd8 : d < 8) (hpv : p.v = .slice (some ⟨g, 0, none⟩) 1 cap) (hq : w.cell? ⟨g, 0, none⟩ = some (.pointer (some ⟨qb, 0, none⟩)))
 (hk : KidW c B wb w qb vv (.pointer (some ⟨hb, 0, none⟩)) (some i) st st1) (h1 : hbs[i]? = some hb) (h2 : st1.hol[i]? = some f) (h3 : f d = some ho) (hok : HoOk ho st1.out.length) :
 Calls Tryz.prog 152 #[.pointer (some ⟨wb, 0, none⟩), .pointer (some ⟨pb, 0, none⟩), vv, .pointer (some ⟨hb, 0, none⟩)] w fun e w' => WrPost c B w wb hbs (wTell st1 ho (st1.out.length - st.out.length)) e w' := by
 obtain ⟨q, cp, hbv⟩ := owns_form h.out
 have c46 : w.cell? ⟨wb, 46, none⟩ = some (.slice q st.out.length cp) := by rw [← hbv]; exact h.blk.cell 46
 have p8 : w.cell? ⟨pb, 8, none⟩ = some (.slice (some ⟨g, 0, none⟩) 1 cap) := by rw [← hpv]; exact hpt.cell 8
 have p3 : w.cell? ⟨pb, 3, none⟩ = some (.int .i64 (d : Nat)) := by rw [← hdp]; exact hpt.cell 3
 have hd8' : (d : Int) < 8 := by omega
 have HM := hide' h
 have HK := hide' hk
 clear h hk hpt hbv
 go_enter Tryz.func152, Tryz.ntmps152
 go_wp2_with fail
 refine (HK.out w bv tv sv svs hbs (Below.refl _ _) HM.out ⟨hb, rfl, h1⟩).mono ?_
 rintro e w2 ⟨rfl, hb2, bv2, tv2, sv2, svs2, more, hm2⟩
 have HM2 := hide' hm2
 have HB2 := hide' hb2
 have hho := hm2.hole (app_at (m := more) h1) h2 h3 hd8
 have k0 := hho.c0
 have k1 := hho.c1
 have k2 := hho.c2
 obtain ⟨q2, cp2, hbv2⟩ := owns_form hm2.out
 have d46 : w2.cell? ⟨wb, 46, none⟩ = some (.slice q2 st1.out.length cp2) := by rw [← hbv2]; exact hm2.blk.cell 46
 have p32 : w2.cell? ⟨pb, 3, none⟩ = some (.int .i64 (d : Nat)) := by rw [World.cell?_of_block (w := w) (hb2.block pb hpb)]; exact p3
 clear hho hm2 hb2 hbv2 c46 p8 p3 hq
 have hsub : IntKind.i64.wrap ((st1.out.length : Int) - (st.out.length : Int)) = ((st1.out.length - st.out.length : Nat) : Int) := by rw [IntKind.wrap_i64]; omega
 go_wp2_with fail
 refine wp_region_mid 16 _ rfl rfl (by kernel_rfl) (by kernel_rfl) ?_
 simp only [List.take_succ_cons, List.take_zero, List.drop_succ_cons, List.drop_zero]
 repeat still_step
 refine wpStill_nil ?_
 unfold Oper.wp
 go_simp
 have hdr : Below B w2 (w2.drewN 1) := ⟨rfl, rfl, rfl, Nat.le_refl _, fun _ _ => rfl⟩
 refine (tell_calls c B (w2.drewN 1) wb bv2 tv2 sv2 svs2 (hbs ++ more) st1 (HM2.out.keep hdr (fun _ _ _ => rfl)) ho hok (st1.out.length - st.out.length) (by omega) hl).mono ?_
 rintro e w3 ⟨rfl, hm3, hb3⟩
 have HM3 := hide' hm3
 have HB3 := hide' (HB2.out.trans (hdr.trans hb3))
 clear hm3 hb3
 simp only
 refine wpStill_nil ?_
 go_wp2_with fail
 go_end0
 exact ⟨rfl, HB3.out, _, _, _, _, _, HM3.out⟩
theorem wMany_fold {T : Type} (W : List It → Option Nat → T → Wr → Wr) (k : List It) (vs : List T) : ∀ st, wMany W k vs st = vs.foldl (fun s y => W k none y s) st := by
 induction vs with
 | nil => intro st; rfl
 | cons y ys ih => intro st; exact ih _
def stJ {T : Type} (F : T → Wr → Wr) (kids : List (Nat × T)) (st : Wr) (j : Nat) : Wr := (kids.take j).foldl (fun s q => F q.2 s) st
theorem stJ_succ {T : Type} (F : T → Wr → Wr) (kids : List (Nat × T)) (st : Wr) (j : Nat) (h : j < kids.length) : stJ F kids st (j + 1) = F kids[j].2 (stJ F kids st j) := by
 unfold stJ
 rw [List.take_succ_eq_append_getElem h, List.foldl_append]
 rfl
set_option maxRecDepth 100000 in
set_option maxHeartbeats 2000000 in
theorem writeMany_calls {T : Type} (F : T → Wr → Wr) (c : Cx) (B : Nat) (w : World) (wb : Nat) (bv tv sv : Value) (svs : List Value) (hbs : List Nat) (st : Wr) (h : WrM c B w wb bv tv sv svs hbs st) (pb g cap qb vb k n lo hi : Nat) (run : ByteArray) (vv hv : Value) (p : Pt) (kids : List (Nat × T)) (hpt : PtBlk w pb p) (hpb : pb < B) (hgB : g < B) (hnd : NdB w vb k n run vv) (_hvb : vb < B) (hhi : hi ≤ B)
 (hpv : p.v = .slice (some ⟨g, 0, none⟩) 1 cap) (hq : w.cell? ⟨g, 0, none⟩ = some (.pointer (some ⟨qb, 0, none⟩))) (hks : PtrsAt w lo hi vv (kids.map Prod.fst)) (hlen : kids.length ≤ 8000)
 (hk : ∀ j (hj : j < kids.length), KidW c B wb w qb (.pointer (some ⟨kids[j].1, 0, none⟩)) (.pointer none) none (stJ F kids st j) (stJ F kids st (j + 1))) :
 Calls Tryz.prog 136 #[.pointer (some ⟨wb, 0, none⟩), .pointer (some ⟨pb, 0, none⟩), .pointer (some ⟨vb, 0, none⟩), hv] w fun e w' => WrPost c B w wb hbs (stJ F kids st kids.length) e w' := by
 obtain ⟨q, cp, rfl⟩ := hks.form
 have v3 : w.cell? ⟨vb, 3, none⟩ = some (.slice q kids.length cp) := by have := hnd.blk.cell 3; rw [List.length_map] at this; exact this
 have p8 : w.cell? ⟨pb, 8, none⟩ = some (.slice (some ⟨g, 0, none⟩) 1 cap) := by rw [← hpv]; exact hpt.cell 8
 have HM := hide' h
 have HK := hide' hk
 have HKs := hide' hks
 clear h hk hks hpt hnd
 go_enter Tryz.func136, Tryz.ntmps136
 go_wp2_with fail
 go_loopw [15] (fun v15 wr => ∃ j : Nat, v15 = .int .i64 (j : Nat) ∧ j ≤ kids.length ∧ Hid (Below B w wr) ∧ Hid (∃ bv tv sv svs more, WrM c B wr wb bv tv sv svs (hbs ++ more) (stJ F kids st j))) (fun v15 _ => kids.length - (intOf v15).toNat)
 case atStart => exact ⟨0, rfl, by omega, Below.refl _ _, (⟨bv, tv, sv, svs, [], by rw [List.append_nil]; exact HM.out⟩ : ∃ bv tv sv svs more, WrM c B w wb bv tv sv svs (hbs ++ more) (stJ F kids st 0))⟩
 case round =>
  obtain ⟨j, rfl, hj, hbel, hex⟩ := hrel
  by_cases hjl : j < kids.length
  · have hjl' : (j : Int) < (kids.length : Int) := by omega
    obtain ⟨g2, cap2, e2, h3, h4, _, h5⟩ := HKs.out.at (by simp; omega)
    injection e2 with e2 e3 e4
    subst e2
    have hc2 : wr.cell? ⟨g2, j, none⟩ = some (.pointer (some ⟨kids[j].1, 0, none⟩)) := by
     rw [World.cell?_of_block (w := w) (hbel.out.block g2 (by omega)), h5 j (by simp; omega)]
     simp [hjl]
    have c8 : wr.cell? ⟨pb, 8, none⟩ = some (.slice (some ⟨g, 0, none⟩) 1 cap) := by rw [World.cell?_of_block (w := w) (hbel.out.block pb hpb)]; exact p8
    have hq2 : wr.cell? ⟨g, 0, none⟩ = some (.pointer (some ⟨qb, 0, none⟩)) := by rw [World.cell?_of_block (w := w) (hbel.out.block g hgB)]; exact hq
    have HKj := hide' (HK.out j hjl)
    clear h5 e4
    generalize kids[j] = kj at *
    obtain ⟨bv1, tv1, sv1, svs1, more, hm1⟩ := hex.out
    have HM1 := hide' hm1
    clear hm1 hex
    go_wp2_with fail
    refine (HKj.out wr bv1 tv1 sv1 svs1 (hbs ++ more) hbel.out HM1.out trivial).mono ?_
    rintro e w2 ⟨rfl, hb2, bv2, tv2, sv2, svs2, more2, hm2⟩
    have HB2 := hide' (hbel.out.trans hb2)
    have HE : Hid (∃ bv tv sv svs more, WrM c B w2 wb bv tv sv svs (hbs ++ more) (stJ F kids st (j + 1))) := by
     have : ∃ bv tv sv svs more, WrM c B w2 wb bv tv sv svs (hbs ++ more) (stJ F kids st (j + 1)) := ⟨bv2, tv2, sv2, svs2, more ++ more2, by rw [← List.append_assoc]; exact hm2⟩
     exact this
    clear hm2 hb2
    go_wp2_with fail
    go_roundw
    case rel => exact ⟨j + 1, by go_num, by omega, HB2, HE⟩
    case measure => simp [intOf]; omega
  · have hjl' : ¬ (j : Int) < (kids.length : Int) := by omega
    obtain rfl : j = kids.length := by omega
    go_wp2_with fail
    go_end0
    obtain ⟨bv1, tv1, sv1, svs1, more, hm1⟩ := hex.out
    exact ⟨rfl, hbel.out, _, _, _, _, _, hm1⟩
set_option maxRecDepth 100000 in
set_option maxHeartbeats 2000000 in
theorem writeChoice_calls (c : Cx) (B : Nat) (w : World) (wb : Nat) (bv tv sv : Value) (svs : List Value) (hbs : List Nat) (st st1 : Wr) (h : WrM c B w wb bv tv sv svs hbs st) (pb vb n g cap qb g2 cap2 yb : Nat) (run : ByteArray) (hv : Value) (p : Pt) (hpt : PtBlk w pb p) (hnd : NdB w vb 5 n run (.slice (some ⟨g2, 0, none⟩) 1 cap2)) (hn : n < 2) (hpv : p.v = .slice (some ⟨g, 0, none⟩) 2 cap)
 (hq : w.cell? ⟨g, n, none⟩ = some (.pointer (some ⟨qb, 0, none⟩))) (hy : w.cell? ⟨g2, 0, none⟩ = some (.pointer (some ⟨yb, 0, none⟩))) (hk : KidW c B wb w qb (.pointer (some ⟨yb, 0, none⟩)) (.pointer none) none st st1) :
 Calls Tryz.prog 133 #[.pointer (some ⟨wb, 0, none⟩), .pointer (some ⟨pb, 0, none⟩), .pointer (some ⟨vb, 0, none⟩), hv] w fun e w' => WrPost c B w wb hbs st1 e w' := by
 have h1 : w.cell? ⟨vb, 1, none⟩ = some (.int .u32 (n : Nat)) := hnd.blk.cell 1
 have h3 : w.cell? ⟨vb, 3, none⟩ = some (.slice (some ⟨g2, 0, none⟩) 1 cap2) := hnd.blk.cell 3
 have h8 : w.cell? ⟨pb, 8, none⟩ = some (.slice (some ⟨g, 0, none⟩) 2 cap) := by rw [← hpv]; exact hpt.cell 8
 have hn2 : (n : Int) < 2 := by omega
 have HM := hide' h
 have HK := hide' hk
 clear h hk hpt hnd hpv
 go_enter Tryz.func133, Tryz.ntmps133
 go_wp2_with fail
 refine wp_region_mid 17 _ rfl rfl (by kernel_rfl) (by kernel_rfl) ?_
 simp only [List.take_succ_cons, List.take_zero, List.drop_succ_cons, List.drop_zero]
 repeat still_step
 refine wpStill_nil ?_
 unfold Oper.wp
 go_simp
 have hdr : Below B w (w.drewN 1) := ⟨rfl, rfl, rfl, Nat.le_refl _, fun _ _ => rfl⟩
 refine (HK.out (w.drewN 1) bv tv sv svs hbs hdr (HM.out.keep hdr (fun _ _ _ => rfl)) trivial).mono ?_
 rintro e w2 ⟨rfl, hb2, hr⟩
 have HR := hide' hr
 have HB2 := hide' (hdr.trans hb2)
 clear hr hb2
 simp only
 refine wpStill_nil ?_
 go_wp2_with fail
 go_end0
 exact ⟨rfl, HB2.out, HR.out⟩
structure Bnd (g : Nat) (st : Wr) : Prop where
 out : st.out.length + g ≤ 1000000000
 wait : st.wait.length + g ≤ 100000000
 sums : st.sums.length ≤ 100000000
 sum : (st.sums.getLastD []).length + g ≤ 100000000
theorem Bnd.mono {g g' : Nat} {st : Wr} (h : Bnd g st) (hg : g' ≤ g) : Bnd g' st := ⟨by have := h.out; omega, by have := h.wait; omega, h.sums, by have := h.sum; omega⟩
theorem Bnd.up {N g g' m : Nat} {st st' : Wr} (h : Bnd m st) (hu : WUp N g st st') (hm : g + g' ≤ m) : Bnd g' st' :=
 ⟨by have := hu.le; have := h.out; omega, by have := hu.wait; have := h.wait; omega, by rw [hu.sums]; exact h.sums, by have := hu.sum; have := h.sum; omega⟩
def joV : List (List It) → Nat → Nat
 | [], _ => 0
 | _ :: _, 0 => 0
 | k :: ks, j + 1 => joV ks j + (if silV k = true then 0 else 1)
theorem joV_zero (ks : List (List It)) : joV ks 0 = 0 := by cases ks <;> rfl
theorem joV_succ : ∀ (ks : List (List It)) (j : Nat) (hj : j < ks.length), joV ks (j + 1) = joV ks j + (if silV ks[j] = true then 0 else 1)
 | [], _, hj => by simp at hj
 | k :: ks, 0, _ => by simp only [joV, joV_zero, List.getElem_cons_zero]
 | k :: ks, j + 1, hj => by
  have := joV_succ ks j (by simpa using hj)
  show joV ks (j + 1) + _ = joV ks j + _ + _
  rw [this, List.getElem_cons_succ]
  omega
structure KidAt {T : Type} (H : List It → T → Bool) (s : T → Nat) (W : List It → Option Nat → T → Wr → Wr) (i : Nat) (k : List It) (vs : List T) (j : Nat) (st st' : Wr) : Prop where
 sil : silV k = true → st' = wSil k i st
 val : silV k = false → ∃ h : j < vs.length, st' = W k (some i) vs[j] st ∧ H k vs[j] = true ∧ Bnd (10000 * s vs[j]) st
 sc : ∃ sc, ScG true true k sc ∧ HolAt st (some i) sc
 inv : WInv st
 lt : i < st.hol.length
 bd : Bnd 0 st
theorem KidAt.cons {T : Type} {H : List It → T → Bool} {s : T → Nat} {W : List It → Option Nat → T → Wr → Wr} {i : Nat} {k : List It} {y : T} {vs : List T} {j : Nat} {st st' : Wr} (h : KidAt H s W i k vs j st st') : KidAt H s W i k (y :: vs) (j + 1) st st' :=
 ⟨h.sil, fun e => by
  obtain ⟨a, b⟩ := h.val e
  exact ⟨by simpa using a, by simpa using b⟩, h.sc, h.inv, h.lt, h.bd⟩
theorem wKids_s {T : Type} {W : List It → Option Nat → T → Wr → Wr} {i : Nat} {k : List It} {ks : List (List It)} {vs : List T} {st : Wr} (h : silV k = true) : wKids W i (k :: ks) vs st = wKids W i ks vs (wSil k i st) := by
 conv => lhs; unfold wKids
 rw [if_pos h]
theorem wKids_v {T : Type} {W : List It → Option Nat → T → Wr → Wr} {i : Nat} {k : List It} {ks : List (List It)} {y : T} {ys : List T} {st : Wr} (h : ¬ silV k = true) : wKids W i (k :: ks) (y :: ys) st = wKids W i ks ys (W k (some i) y st) := by
 conv => lhs; unfold wKids
 rw [if_neg h]
theorem kids_seq {T : Type} {H : List It → T → Bool} {s : T → Nat} {W : List It → Option Nat → T → Wr → Wr} (hU : WOk s W) (i : Nat) : ∀ (ks : List (List It)) (vs : List T) (st : Wr) (sc : Sc), (∀ k ∈ ks, KOk k) → ScKs ks sc → HolAt st (some i) sc → i < st.hol.length → WInv st → hasKids H ks vs = true → Bnd (8 * ks.length + 10000 * (vs.map s).sum) st →
 ∀ j (hj : j < ks.length), KidAt H s W i ks[j] vs (joV ks j) (wKids W i (ks.take j) vs st) (wKids W i (ks.take (j + 1)) vs st)
 | [], _, _, _, _, _, _, _, _, _, _, j, hj => by simp at hj
 | k :: ks, vs, st, sc, hk, hs, ha, hi, hv, hh, hbd, j, hj => by
  have hk1 := hk k List.mem_cons_self
  obtain ⟨hs1, sc', hs2, hs3, hs4⟩ := hs
  by_cases hsil : silV k = true
  · have a := wSil_up (i := i) hv hk1 hsil
    have hw : ∀ l, wKids W i (k :: l) vs st = wKids W i l vs (wSil k i st) := fun l => wKids_s hsil
    have hh' : hasKids H ks vs = true := by rw [hasKids_s hsil] at hh; exact hh
    have ha' : HolAt (wSil k i st) (some i) sc' := by
     cases k with
     | nil => cases hsil
     | cons x r =>
      cases hh : hidesB x.c with
      | false => exact ha.up a (hs2 fun y t e => by cases e; exact hh)
      | true =>
       intro d hd
       rw [hs3 x r rfl hh] at hd
       by_cases hdx : d = x.d.toNat
       · have h39 : x.c ≠ 39 := fun e => by rw [e] at hh; revert hh; decide
         refine ⟨i, fun k => if k = x.d.toNat then some ⟨st.out.length, x.w.toNat, decide (x.c = 107)⟩ else (st.hol[i]) k, ⟨st.out.length, x.w.toNat, decide (x.c = 107)⟩, rfl, ?_, by simp [hdx]⟩
         unfold wSil
         simp only [if_neg h39, wOut, wHide]
         rw [List.getElem?_modify, List.getElem?_eq_getElem hi]
         simp
       · simp only [hdx, if_false] at hd
         exact ha.up a (sc' := sc) rfl d hd
    cases j with
    | zero =>
     refine ⟨fun _ => hw [], fun e => ?_, ⟨sc, hs1, ha⟩, hv, hi, hbd.mono (Nat.zero_le _)⟩
     rw [List.getElem_cons_zero, hsil] at e; cases e
    | succ j =>
     have := kids_seq (H := H) hU i ks vs (wSil k i st) sc' (fun k h => hk k (List.mem_cons_of_mem _ h)) hs4 ha' (Nat.lt_of_lt_of_le hi a.holL) a.inv hh' (hbd.up a (by simp only [List.length_cons]; omega)) j (by simpa using hj)
     rw [List.take_succ_cons, List.take_succ_cons, hw, hw, List.getElem_cons_succ, joV, if_pos hsil]
     exact this
  · cases vs with
    | nil => rw [hasKids_n hsil] at hh; cases hh
    | cons y ys =>
     have hw : ∀ l, wKids W i (k :: l) (y :: ys) st = wKids W i l ys (W k (some i) y st) := fun l => wKids_v hsil
     rw [hasKids_v hsil] at hh
     simp only [Bool.and_eq_true] at hh
     have a := hU k (some i) y st hk1 hv
     have hnh : ∀ y t, k = y :: t → hidesB y.c = false := fun y t e => by
      subst e
      cases hh : hidesB y.c with
      | false => rfl
      | true => exact absurd (by simp [silV, hh]) hsil
     cases j with
     | zero =>
      refine ⟨fun e => absurd e hsil, fun _ => ⟨by simp [joV], ?_⟩, ⟨sc, hs1, ha⟩, hv, hi, hbd.mono (Nat.zero_le _)⟩
      refine ⟨hw [], hh.1, hbd.mono ?_⟩
      simp only [joV, List.getElem_cons_zero, List.map_cons, List.sum_cons]
      omega
     | succ j =>
      have := kids_seq (H := H) hU i ks ys (W k (some i) y st) sc' (fun k h => hk k (List.mem_cons_of_mem _ h)) hs4 (ha.up a (hs2 hnh)) (Nat.lt_of_lt_of_le hi a.holL) a.inv hh.2 (hbd.up a (by simp only [List.length_cons, List.map_cons, List.sum_cons]; omega)) j (by simpa using hj)
      rw [List.take_succ_cons, List.take_succ_cons, hw, hw, List.getElem_cons_succ, joV, if_neg hsil]
      exact this.cons
theorem many_seq {T : Type} {s : T → Nat} {W : List It → Option Nat → T → Wr → Wr} (hU : WOk s W) {k : List It} (hk : KOk k) : ∀ (kids : List (Nat × T)) (st : Wr), WInv st → Bnd (10000 * ((kids.map Prod.snd).map s).sum) st →
 ∀ j (hj : j < kids.length), WInv (stJ (fun y s => W k none y s) kids st j) ∧ Bnd (10000 * s kids[j].2) (stJ (fun y s => W k none y s) kids st j)
 | [], _, _, _, j, hj => by simp at hj
 | q :: kids, st, hv, hb, j, hj => by
  cases j with
  | zero => exact ⟨hv, hb.mono (by simp only [List.getElem_cons_zero, List.map_cons, List.sum_cons]; omega)⟩
  | succ j =>
   have a := hU k none q.2 st hk hv
   exact many_seq hU hk kids (W k none q.2 st) a.inv (hb.up a (by simp only [List.map_cons, List.sum_cons]; omega)) j (by simpa using hj)
theorem stJ_all {T : Type} (W : List It → Option Nat → T → Wr → Wr) (k : List It) (kids : List (Nat × T)) (st : Wr) : stJ (fun y s => W k none y s) kids st kids.length = wMany W k (kids.map Prod.snd) st := by
 rw [wMany_fold, stJ, List.take_length, List.foldl_map]
set_option maxRecDepth 100000 in
set_option maxHeartbeats 2000000 in
theorem writeTimes_calls {T : Type} (F : T → Wr → Wr) (c : Cx) (B : Nat) (w : World) (wb : Nat) (bv tv sv : Value) (svs : List Value) (hbs : List Nat) (st : Wr) (h : WrM c B w wb bv tv sv svs hbs st) (hl : st.out.length ≤ 1000000000) (pb g cap qb vb k n lo hi hb d i : Nat) (ho : Ho) (f : Nat → Option Ho) (run : ByteArray) (vv : Value) (p : Pt) (kids : List (Nat × T)) (hpt : PtBlk w pb p) (hpb : pb < B) (hgB : g < B) (hnd : NdB w vb k n run vv) (hvb : vb < B) (hhi : hi ≤ B)
 (hdp : p.dp = (d : Int)) (hd8 : d < 8) (hpv : p.v = .slice (some ⟨g, 0, none⟩) 1 cap) (hq : w.cell? ⟨g, 0, none⟩ = some (.pointer (some ⟨qb, 0, none⟩))) (hks : PtrsAt w lo hi vv (kids.map Prod.fst)) (hlen : kids.length ≤ 8000)
 (h1 : hbs[i]? = some hb) (h2 : st.hol[i]? = some f) (h3 : f d = some ho) (hok : HoOk ho st.out.length)
 (hk : ∀ j (hj : j < kids.length), KidW c B wb w qb (.pointer (some ⟨kids[j].1, 0, none⟩)) (.pointer none) none (stJ F kids (wTell st ho kids.length) j) (stJ F kids (wTell st ho kids.length) (j + 1))) :
 Calls Tryz.prog 149 #[.pointer (some ⟨wb, 0, none⟩), .pointer (some ⟨pb, 0, none⟩), .pointer (some ⟨vb, 0, none⟩), .pointer (some ⟨hb, 0, none⟩)] w fun e w' => WrPost c B w wb hbs (stJ F kids (wTell st ho kids.length) kids.length) e w' := by
 obtain ⟨q, cp, hvv⟩ := hks.form
 have v3 : w.cell? ⟨vb, 3, none⟩ = some (.slice q kids.length cp) := by have := hnd.blk.cell 3; rw [hvv, List.length_map] at this; exact this
 have p3 : w.cell? ⟨pb, 3, none⟩ = some (.int .i64 (d : Nat)) := by rw [← hdp]; exact hpt.cell 3
 have hho := h.hole h1 h2 h3 hd8
 have k0 := hho.c0
 have k1 := hho.c1
 have k2 := hho.c2
 have hd8' : (d : Int) < 8 := by omega
 have HM := hide' h
 have HK := hide' hk
 have HKs := hide' hks
 have HPt := hide' hpt
 have HNd := hide' hnd
 clear h hk hks hpt hnd hho
 go_enter Tryz.func149, Tryz.ntmps149
 go_wp2_with fail
 refine wp_region_mid 14 _ rfl rfl (by kernel_rfl) (by kernel_rfl) ?_
 simp only [List.take_succ_cons, List.take_zero, List.drop_succ_cons, List.drop_zero]
 repeat still_step
 refine wpStill_nil ?_
 unfold Oper.wp
 go_simp
 have hdr : Below B w (w.drewN 1) := ⟨rfl, rfl, rfl, Nat.le_refl _, fun _ _ => rfl⟩
 refine (tell_calls c B (w.drewN 1) wb bv tv sv svs hbs st (HM.out.keep hdr (fun _ _ _ => rfl)) ho hok kids.length (by omega) hl).mono ?_
 rintro e w2 ⟨rfl, hm2, hb2⟩
 have hb2' := hdr.trans hb2
 have hq2 : w2.cell? ⟨g, 0, none⟩ = some (.pointer (some ⟨qb, 0, none⟩)) := by rw [World.cell?_of_block (w := w) (hb2'.block g hgB)]; exact hq
 have HCall := hide' (writeMany_calls F c B w2 wb bv tv sv svs hbs (wTell st ho kids.length) hm2 pb g cap qb vb k n lo hi run vv (.pointer (some ⟨hb, 0, none⟩)) p kids (Blk.below HPt.out hb2' hpb) hpb hgB ⟨Blk.below HNd.out.blk hb2' hvb, HNd.out.n⟩ hvb hhi hpv hq2 (HKs.out.mono (fun k _ k2 => hb2'.block k (by omega)) (Nat.le_refl _) (Nat.le_refl _)) hlen
  (fun j hj w3 bv3 tv3 sv3 svs3 hbs3 hb3 hm3 hv3 => HK.out j hj w3 bv3 tv3 sv3 svs3 hbs3 (hb2'.trans hb3) hm3 hv3))
 have HB2 := hide' hb2'
 clear hm2 hb2 hb2'
 simp only
 refine wpStill_nil ?_
 go_wp2_with fail
 refine HCall.out.mono ?_
 rintro e w4 ⟨rfl, hb4, hr⟩
 have HR := hide' hr
 have HB4 := hide' (HB2.out.trans hb4)
 clear hr hb4
 go_wp2_with fail
 go_end0
 exact ⟨rfl, HB4.out, HR.out⟩
set_option maxRecDepth 100000 in
set_option maxHeartbeats 2000000 in
theorem writeRule_calls (c : Cx) (hc : CxOk c) (B : Nat) (w : World) (wb : Nat) (bv tv sv : Value) (svs : List Value) (hbs : List Nat) (st st1 : Wr) (h : WrM c B w wb bv tv sv svs hbs st) (pb r : Nat) (vv hv : Value) (p : Pt) (hpt : PtBlk w pb p) (hpb : pb < B) (hru : p.ru = (r : Int)) (hR : c.R r = true)
 (hk : ∀ qb f lo hi, RepS f c.w0 lo hi qb false (c.G r) → hi ≤ c.w0.heap.size → KidW c B wb w qb vv (.pointer none) none st st1) :
 Calls Tryz.prog 139 #[.pointer (some ⟨wb, 0, none⟩), .pointer (some ⟨pb, 0, none⟩), vv, hv] w fun e w' => WrPost c B w wb hbs st1 e w' := by
 have hC : ∀ W, Below B w W → W.cell? ⟨pb, 6, none⟩ = some (.int .i64 (r : Nat)) := fun W hW => by rw [World.cell?_of_block (w := w) (hW.block pb hpb), ← hru]; exact hpt.cell 6
 have c45 : w.cell? ⟨wb, 45, none⟩ = some (.pointer (some ⟨c.gb, 0, none⟩)) := h.blk.cell 45
 have HC := hide' hC
 have HM := hide' h
 have HK := hide' hk
 have HCx := hide' hc
 clear h hk hpt hC hc
 go_enter Tryz.func139, Tryz.ntmps139
 go_wp2_with fail
 have hdr : Below B w (w.drewN 1) := ⟨rfl, rfl, rfl, Nat.le_refl _, fun _ _ => rfl⟩
 refine wp_region_seg (fun W => Below B w W ∧ W.cell? ⟨wb, 45, none⟩ = some (.pointer (some ⟨c.gb, 0, none⟩))) [([0, 1, 2, 3, 4, 5, 6, 7, 8, 9, 11], 10), ([], 12)] rfl (by kernel_rfl) (fun _ _ d _ _ h => by cases d <;> exact h) ⟨hdr, c45⟩ ?_
 simp only [wpSeg, List.filterMap_cons, List.filterMap_nil, List.getElem?_toArray, List.getElem?_cons_zero, List.getElem?_cons_succ]
 refine wpX_step _ rfl (fun W hW => rfl) ?_
 refine wpX_step _ rfl (fun W hW => rfl) ?_
 refine wpX_step (.pointer (some ⟨wb, 0, none⟩)) rfl (fun W hW => by go_simp) ?_
 refine wpX_step (.pointer (some ⟨wb, 0, none⟩)) rfl (fun W hW => by go_simp) ?_
 refine wpX_step (.pointer (some ⟨wb, 45, none⟩)) rfl (fun W hW => by go_simp) ?_
 refine wpX_step (.pointer (some ⟨c.gb, 0, none⟩)) rfl (fun W hW => by obtain ⟨h0, h1⟩ := hW; go_simp) ?_
 refine wpX_step _ rfl (fun W hW => rfl) ?_
 refine wpX_step (.pointer (some ⟨pb, 0, none⟩)) rfl (fun W hW => by go_simp) ?_
 refine wpX_step (.pointer (some ⟨pb, 6, none⟩)) rfl (fun W hW => by go_simp) ?_
 refine wpX_step (.int .i64 (r : Nat)) rfl (fun W hW => by obtain ⟨h0, h1⟩ := hW; have h2 := HC.out W h0; go_simp) ?_
 refine wpX_step _ rfl (fun W hW => rfl) ?_
 refine wpX_nil ⟨_, rfl, rfl, ?_⟩
 unfold Oper.wp
 go_simp
 have hMd := HM.out.keep hdr (fun _ _ _ => rfl)
 refine (partOf_calls c HCx.out (w.drewN 1) hMd.bel r hR).mono ?_
 rintro e w2 ⟨qb, f2, lo2, hi2, rfl, hb2, hrep2, hhi2⟩
 have hgb := hMd.ge wb List.mem_cons_self
 have hb2B : Below B (w.drewN 1) w2 := hb2.mono (by omega)
 have hM2 := hMd.keep hb2B (fun k _ k2 => hb2.block k k2)
 have HKc := hide' (HK.out qb f2 lo2 hi2 hrep2 hhi2 w2 bv tv sv svs hbs (hdr.trans hb2B) hM2 trivial)
 have HB2 := hide' (hdr.trans hb2B)
 have d45 : w2.cell? ⟨wb, 45, none⟩ = some (.pointer (some ⟨c.gb, 0, none⟩)) := hM2.blk.cell 45
 clear hrep2 hb2 hM2 hMd
 refine ⟨⟨HB2.out, d45⟩, ?_⟩
 refine wpX_nil ⟨_, rfl, rfl, ?_⟩
 unfold Oper.wp
 go_simp
 refine HKc.out.mono ?_
 rintro e w3 ⟨rfl, hb3, bv3, tv3, sv3, svs3, more, hm3⟩
 have HB3 := hide' (HB2.out.trans hb3)
 have HM3 := hide' hm3
 have e45 : w3.cell? ⟨wb, 45, none⟩ = some (.pointer (some ⟨c.gb, 0, none⟩)) := hm3.blk.cell 45
 clear hm3 hb3
 refine ⟨⟨HB3.out, e45⟩, ?_⟩
 go_wp2_with fail
 go_end0
 exact ⟨rfl, HB3.out, _, _, _, _, _, HM3.out⟩
end Go.Proofs.YtmlkhhhjdpbhfaaGreatDoor

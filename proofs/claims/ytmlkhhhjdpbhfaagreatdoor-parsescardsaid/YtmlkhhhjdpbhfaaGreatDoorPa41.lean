import Derived.Test.YtmlkhhhjdpbhfaaGreatDoorPa40
import Derived.Test.YtmlkhhhjdpbhfaaGreatDoorPa32
namespace Go.Proofs.YtmlkhhhjdpbhfaaGreatDoor
open Go.RowKit
structure KRd (W : World) (kg j k : Nat) (bx : Nat) (v0 v1 v2 v3 v4 : Value) : Prop where
 kid : W.cell? ⟨kg, j, none⟩ = some (.int .i64 k)
 box : U5 W bx v0 v1 v2 v3 v4
structure CAt (c : Rx) (w : World) (st : PS) (rb db kg j k : Nat) (o : PO) (ub : Nat) (st' : PS) (rb' db' fu' fa' : Nat) (t' : List UInt8) (wc : World) : Prop where
 fr : Fr w.heap.size c.pb w wc
 pg : PgAt wc c.pb c.gb c.bs fu' c.N fa' o.e
 sa : StAt c wc st rb db
 box : Blk wc w.heap.size (rsC st rb c.bs.size db) 140
 res : Blk wc (w.heap.size + 1) zero5 140
 uk : Blk wc ub (rsC st' rb' c.bs.size db') 140
 ul : w.heap.size + 1 < ub
 kid : wc.cell? ⟨kg, j, none⟩ = some (.int .i64 k)
 kl : kg < wc.heap.size
 kub : kg ≠ ub
 fe : o.e = 0 → fu' = o.fuel ∧ fa' = o.far
 ok : o.ok = true → st' = o.st ∧ t' = o.t ∧ StAt c wc o.st rb' db'
theorem Fr.cellK {B g : Nat} {w w' : World} (h : Fr B g w w') {kg : Nat} (hk : kg < B) (hne : kg ≠ g) (j : Nat) : w'.cell? ⟨kg, j, none⟩ = w.cell? ⟨kg, j, none⟩ :=
 World.cell?_of_block (h.block kg hk hne)
theorem slash (k : UInt8) (t : List UInt8) : ({ data := #[47, k, 32] } : ByteArray) ++ ⟨t.toArray⟩ = ⟨(47 :: k :: 32 :: t).toArray⟩ := by
 rw [show ({ data := #[47, k, 32] } : ByteArray) = ⟨[47, k, 32].toArray⟩ from rfl, mk_app]; simp
set_option maxRecDepth 100000 in
set_option maxHeartbeats 1000000 in
theorem rchoice_calls (c : Rx) (hc : RxOk c) (g : Nat) (ih : RTry c g) (w : World) (st : PS) (rb db fuel far : Nat) (hp : RPre c w st rb db fuel far) (b : Nat) (x : It) (r k0 k1 : List It) (b0 b1 f : Nat) (ha : At c.its b (x :: r)) (hk : kidsV c.its b = [b0, b1])
 (ha0 : At c.its b0 k0) (ha1 : At c.its b1 k1) (ht0 : TrS f k0) (ht1 : TrS f k1) (hw0 : TrW c.R false false k0) (hw1 : TrW c.R false false k1) (hfu : fuel ≤ 100000) (hg : fuel < g) :
 Calls Tryz.prog 93 #[.pointer (some ⟨c.pb, 0, none⟩), .int .i64 b, .agg (rsC st rb c.bs.size db)] w fun e w' => RPost c w (choiceT (tryT c.G c.bs c.N g) c.N k0 k1 fuel far st) e w' := by
 have hbl : b < c.its.length := by have := ha.le; simp at this; omega
 have hlen := hc.len
 have hbs := hc.bs
 have hN := hc.N
 have hpl := hp.pg.lt
 have HI := hide' ih
 have HC := hide' hc
 have HBel := hide' hp.bel
 have HIn := hide' hp.inv
 have HA0 := hide' ha0
 have HA1 := hide' ha1
 have HT0 := hide' ht0
 have HT1 := hide' ht1
 have HW0 := hide' hw0
 have HW1 := hide' hw1
 have hB0 := BAt.new hp
 have hpre0 := hB0.pre hc hp.bel hp.inv
 have HK := hide' (kids_calls _ c.gb c.g c.cap _ c.tw c.its (hpre0.grm hc) hc.wf (by omega) b hbl)
 have HB0 := hide' hB0
 have hs0 : ((w.alloc (.cells (rsC st rb c.bs.size db) 140)).alloc (.cells zero5 140)).heap.size = w.heap.size + 1 + 1 := by simp
 have p0 : w.cell? ⟨c.pb, 0, none⟩ = some (.pointer (some ⟨c.gb, 0, none⟩)) := hp.pg.cell 0
 have HT : Hid (choiceT (tryT c.G c.bs c.N g) c.N k0 k1 fuel far st = choice2 (tryT c.G c.bs c.N g) c.N k1 st (tryT c.G c.bs c.N g fuel far false k0 st)) := rfl
 have HOk : Hid ((tryT c.G c.bs c.N g fuel far false k0 st).ok = true → (Keeps c.bs c.N st (hidV k0) (tryT c.G c.bs c.N g fuel far false k0 st) ∧ (tryT c.G c.bs c.N g fuel far false k0 st).e = 0) ∧ Lng st (silK false k0) (tryT c.G c.bs c.N g fuel far false k0 st)) := fun hok => ⟨(tryT_ok c.G HC.out.trw g).fit fuel far false false false k0 _ HW0.out HIn.out hok, tryT_lng hbs c.G HC.out.trw g fuel far false false false k0 st HW0.out HIn.out hok⟩
 have hless : (tryT c.G c.bs c.N g fuel far false k0 st).fuel ≤ fuel := (tryT_ok (R := c.R) c.G HC.out.trw g).less fuel far false k0 st
 have HCall : Hid (∀ W, RPre c W st rb db fuel far → Calls Tryz.prog 56 #[.pointer (some ⟨c.pb, 0, none⟩), .int .i64 b0, .agg (rsC st rb c.bs.size db), .bool false] W fun e w' => RPost c W (tryT c.G c.bs c.N g fuel far false k0 st) e w') := fun W h => HI.out W st rb db fuel far k0 b0 f false false false h HA0.out HT0.out HW0.out hfu hg
 generalize choiceT (tryT c.G c.bs c.N g) c.N k0 k1 fuel far st = O at *
 generalize tryT c.G c.bs c.N g fuel far false k0 st = o at *
 have HKv := hide' hk
 clear hp hc ih ha hB0 hpre0 hk ha0 ha1 ht0 ht1 hw0 hw1
 unfold rsC zero5 at HB0 hs0 HK
 unfold rsC
 go_enter Tryz.func93, Tryz.ntmps93
 go_wp2_with fail
 generalize (w.alloc (.cells #[.int .i64 st.pl, .int .i64 st.en, .slice (some ⟨rb, 0, none⟩) c.bs.size c.bs.size, .slice (some ⟨db, 0, none⟩) 8 8, .int .i64 st.vals] 140)).alloc (.cells #[.int .i64 0, .int .i64 0, .slice none 0 0, .slice none 0 0, .int .i64 0] 140) = W0 at *
 refine HK.out.mono ?_
 rintro e w1 ⟨v, rfl, hints, hb1⟩
 rw [HKv.out] at hints
 obtain ⟨kg, kcap, rfl, hkl, hkc, hkm, hkcell⟩ : ∃ kg cap, v = .slice (some ⟨kg, 0, none⟩) 2 cap ∧ kg < w1.heap.size ∧ 2 ≤ cap ∧ cap ≤ maxLen ∧ ∀ j, j < 2 → w1.cell? ⟨kg, j, none⟩ = some (.int .i64 (([b0, b1].getD j 0 : Nat) : Int)) := by
  rcases hints with ⟨_, h⟩ | h
  · cases h
  · exact h
 have h10 : w1.cell? ⟨kg, 0, none⟩ = some (.int .i64 b0) := hkcell 0 (by omega)
 have h11 : w1.cell? ⟨kg, 1, none⟩ = some (.int .i64 b1) := hkcell 1 (by omega)
 have HB1 := hide' (HB0.out.below hb1)
 have hkp : kg ≠ c.pb := by
  rintro rfl
  rw [show w1.cell? ⟨c.pb, 0, none⟩ = some (.pointer (some ⟨c.gb, 0, none⟩)) from HB1.out.pg.cell 0] at h10
  cases h10
 have hs1 := hb1.size
 have HK10 := hide' h10
 have HK11 := hide' h11
 clear hints hkcell hb1 HB0 HK p0 h10 h11
 go_wp2_with fail
 go_cut [10, 11, 12] (fun v10 v11 v12 wc => ∃ (ub : Nat) (st' : PS) (rb' db' fu' fa' : Nat) (t' : List UInt8), v10 = .pointer (some ⟨ub, 0, none⟩) ∧ v11 = .string ⟨t'.toArray⟩ ∧ v12 = .bool o.ok ∧ Hid (CAt c w st rb db kg 1 b1 o ub st' rb' db' fu' fa' t' wc))
 case first =>
  have HRd : Hid (∀ W, BAt c w st rb db fuel far W → W.cell? ⟨kg, 0, none⟩ = some (.int .i64 b0) → KRd W kg 0 b0 w.heap.size (.int .i64 st.pl) (.int .i64 st.en) (.slice (some ⟨rb, 0, none⟩) c.bs.size c.bs.size) (.slice (some ⟨db, 0, none⟩) 8 8) (.int .i64 st.vals)) := fun W h h2 => ⟨h2, h.box.cell 0, h.box.cell 1, h.box.cell 2, h.box.cell 3, h.box.cell 4⟩
  have HRd2 : Hid (∀ W, W.cell? ⟨kg, 0, none⟩ = some (.int .i64 b0) → Blk W w.heap.size (rsC st rb c.bs.size db) 140 → KRd W kg 0 b0 w.heap.size (.int .i64 st.pl) (.int .i64 st.en) (.slice (some ⟨rb, 0, none⟩) c.bs.size c.bs.size) (.slice (some ⟨db, 0, none⟩) 8 8) (.int .i64 st.vals)) := fun W h2 h => ⟨h2, h.cell 0, h.cell 1, h.cell 2, h.cell 3, h.cell 4⟩
  refine wp_region_fork (fun W => KRd W kg 0 b0 w.heap.size (.int .i64 st.pl) (.int .i64 st.en) (.slice (some ⟨rb, 0, none⟩) c.bs.size c.bs.size) (.slice (some ⟨db, 0, none⟩) 8 8) (.int .i64 st.vals)) [0, 1, 2, 3, 4] 5 10 [([6, 7, 8, 9], 10), ([], 11), ([], 12), ([], 13)] [([], 5), ([6, 7, 8, 9], 11), ([], 12), ([], 13)] rfl (by kernel_rfl) (fun _ _ d _ _ h => by cases d <;> exact h) (HRd.out _ (HB1.out.drewN 1) HK10.out) ?_
  simp only [List.filterMap_cons, List.filterMap_nil, List.getElem?_toArray, List.getElem?_cons_zero, List.getElem?_cons_succ]
  refine wpX_step _ rfl (fun W hW => rfl) ?_
  refine wpX_step _ rfl (fun W hW => rfl) ?_
  refine wpX_step _ rfl (fun W hW => by go_simp; rfl) ?_
  refine wpX_step (.int .i64 b0) rfl (fun W hW => by obtain ⟨h0, h1⟩ := hW; go_simp) ?_
  refine wpX_step (.agg #[.int .i64 st.pl, .int .i64 st.en, .slice (some ⟨rb, 0, none⟩) c.bs.size c.bs.size, .slice (some ⟨db, 0, none⟩) 8 8, .int .i64 st.vals]) rfl (fun W hW => by obtain ⟨h0, ⟨h1, h2, h3, h4, h5⟩⟩ := hW; go_simp) ?_
  refine wpX_nil ⟨⟨_, rfl, rfl, ?_⟩, ⟨_, rfl, rfl, ?_⟩⟩
  · unfold Oper.wp
    go_simp
    have hB2 := HB1.out.drewN 1
    have hcall := HCall.out (w1.drewN 1) (hB2.pre HC.out HBel.out HIn.out)
    unfold rsC at hcall
    refine hcall.mono ?_
    clear hcall
    rintro e w2 ⟨hf2, st', rb', db', fu', fa', t', rfl, hp2, hfe, hok2⟩
    obtain ⟨g1, g2, g3, g4⟩ := hB2.next hf2 hp2
    have g5 : w2.cell? ⟨kg, 0, none⟩ = some (.int .i64 b0) := (hf2.cellK hkl hkp 0).trans HK10.out
    have g6 : w2.cell? ⟨kg, 1, none⟩ = some (.int .i64 b1) := (hf2.cellK hkl hkp 1).trans HK11.out
    have hs2 : w1.heap.size ≤ w2.heap.size := hf2.size
    have HC3 : Hid (CAt c w st rb db kg 1 b1 o w2.heap.size st' rb' db' fu' fa' t' (st5 (w2.alloc (.cells zero5 140)) w2.heap.size (.int .i64 st'.pl) (.int .i64 st'.en) (.slice (some ⟨rb', 0, none⟩) c.bs.size c.bs.size) (.slice (some ⟨db', 0, none⟩) 8 8) (.int .i64 st'.vals))) := by
     have hz := Blk.new w2 zero5 140
     have h : CAt c w st rb db kg 1 b1 o w2.heap.size st' rb' db' fu' fa' t' (st5 (w2.alloc (.cells zero5 140)) w2.heap.size (.int .i64 st'.pl) (.int .i64 st'.en) (.slice (some ⟨rb', 0, none⟩) c.bs.size c.bs.size) (.slice (some ⟨db', 0, none⟩) 8 8) (.int .i64 st'.vals)) := by
      refine ⟨(g1.alloc (by omega) _).set5 (by omega) _ _ _ _ _, Blk.other5 (Blk.alloc hp2 _) (by omega) _ _ _ _ _, (g2.below ((Below.refl _ _).alloc (Nat.le_refl _) _)).set5 hz _ _ _ _ _, Blk.other5 (Blk.alloc g3 _) (by omega) _ _ _ _ _, Blk.other5 (Blk.alloc g4 _) (by omega) _ _ _ _ _, Blk.set5 hz _ _ _ _ _, by omega, ?_, ?_, by omega, hfe, fun hok => ?_⟩
      · have hne : kg ≠ w2.heap.size := by omega
        rw [show (st5 (w2.alloc (.cells zero5 140)) w2.heap.size (.int .i64 st'.pl) (.int .i64 st'.en) (.slice (some ⟨rb', 0, none⟩) c.bs.size c.bs.size) (.slice (some ⟨db', 0, none⟩) 8 8) (.int .i64 st'.vals)).cell? ⟨kg, 1, none⟩ = w2.cell? ⟨kg, 1, none⟩ from World.cell?_of_block (by
         simp only [st5]
         rw [Below.heap_setCell _ _ _ _ hne, Below.heap_setCell _ _ _ _ hne, Below.heap_setCell _ _ _ _ hne, Below.heap_setCell _ _ _ _ hne, Below.heap_setCell _ _ _ _ hne, Below.heap_alloc _ _ _ (by omega)])]
        exact g6
      · rw [st5_size]; simp; omega
      · obtain ⟨e1, e2, hsa⟩ := hok2 hok
        exact ⟨e1, e2, (hsa.below ((Below.refl _ _).alloc (Nat.le_refl _) _)).set5 hz _ _ _ _ _⟩
     exact h
    have HR2 := hide' (HRd2.out w2 g5 g3)
    have HR3 := hide' (HRd2.out (w2.alloc (.cells zero5 140)) (by
     rw [show (w2.alloc (.cells zero5 140)).cell? ⟨kg, 0, none⟩ = w2.cell? ⟨kg, 0, none⟩ from World.cell?_of_block (Below.heap_alloc w2 _ kg (by omega))]
     exact g5) (Blk.alloc g3 _))
    have HR4 := hide' (HRd2.out (st5 (w2.alloc (.cells zero5 140)) w2.heap.size (.int .i64 st'.pl) (.int .i64 st'.en) (.slice (some ⟨rb', 0, none⟩) c.bs.size c.bs.size) (.slice (some ⟨db', 0, none⟩) 8 8) (.int .i64 st'.vals)) (by
     have hne : kg ≠ w2.heap.size := by omega
     rw [show (st5 (w2.alloc (.cells zero5 140)) w2.heap.size (.int .i64 st'.pl) (.int .i64 st'.en) (.slice (some ⟨rb', 0, none⟩) c.bs.size c.bs.size) (.slice (some ⟨db', 0, none⟩) 8 8) (.int .i64 st'.vals)).cell? ⟨kg, 0, none⟩ = w2.cell? ⟨kg, 0, none⟩ from World.cell?_of_block (by
      simp only [st5]
      rw [Below.heap_setCell _ _ _ _ hne, Below.heap_setCell _ _ _ _ hne, Below.heap_setCell _ _ _ _ hne, Below.heap_setCell _ _ _ _ hne, Below.heap_setCell _ _ _ _ hne, Below.heap_alloc _ _ _ (by omega)])]
     exact g5) (Blk.other5 (Blk.alloc g3 _) (by omega) _ _ _ _ _))
    have HZ := hide' (Blk.new w2 zero5 140)
    clear g1 g2 g3 g4 g5 g6 hp2 hfe hok2 hf2 hB2
    unfold zero5 at HR3 HC3 HR4 HZ
    unfold rsR rsC
    simp only
    refine ⟨HR2.out, ?_⟩
    simp only [wpSeg, List.filterMap_cons, List.filterMap_nil, List.getElem?_toArray, List.getElem?_cons_zero, List.getElem?_cons_succ]
    refine wpX_step _ rfl (fun W hW => rfl) ?_
    refine wpX_step (.agg #[.int .i64 st'.pl, .int .i64 st'.en, .slice (some ⟨rb', 0, none⟩) c.bs.size c.bs.size, .slice (some ⟨db', 0, none⟩) 8 8, .int .i64 st'.vals]) rfl (fun W hW => by go_simp) ?_
    refine wpX_step (.string ⟨t'.toArray⟩) rfl (fun W hW => by go_simp) ?_
    refine wpX_step (.bool o.ok) rfl (fun W hW => by go_simp) ?_
    refine wpX_nil ⟨_, rfl, rfl, ?_⟩
    unfold Oper.wp
    go_simp
    refine ⟨HR3.out, ?_⟩
    have z0 := HZ.out.cell 0
    have z1 := HZ.out.cell 1
    have z2 := HZ.out.cell 2
    have z3 := HZ.out.cell 3
    have z4 := HZ.out.cell 4
    have zf : ∀ j, (w2.alloc (.cells #[.int .i64 0, .int .i64 0, .slice none 0 0, .slice none 0 0, .int .i64 0] 140)).frozen? ⟨w2.heap.size, j, none⟩ = false := fun j => HZ.out.frozen j
    generalize w2.alloc (.cells #[.int .i64 0, .int .i64 0, .slice none 0 0, .slice none 0 0, .int .i64 0] 140) = W3 at *
    simp only [List.getElem?_toArray, List.getElem?_cons_zero, List.getElem?_cons_succ] at z0 z1 z2 z3 z4
    refine wpX_nil ⟨_, rfl, rfl, ?_⟩
    unfold Oper.wp
    go_simp
    refine ⟨HR4.out, ?_⟩
    refine wpX_nil ⟨_, rfl, rfl, ?_⟩
    unfold Oper.wp
    go_simp
    refine ⟨HR4.out, ?_⟩
    refine wpX_nil ⟨_, rfl, rfl, ?_⟩
    unfold Oper.wp
    go_simp
    refine ⟨HR4.out, ?_⟩
    go_wp2_with fail
    go_meet
    case rel => exact ⟨w2.heap.size, st', rb', db', fu', fa', t', rfl, rfl, rfl, HC3⟩
  · unfold Oper.wp
    go_simp
    have hB2 : BAt c w st rb db fuel far (w1.alloc (.cells zero5 140)).drew := (HB1.out.below ((Below.refl _ _).alloc (Nat.le_refl _) (.cells zero5 140))).drewN 1
    have hz2 : Blk (w1.alloc (.cells zero5 140)).drew w1.heap.size zero5 140 := Blk.new w1 zero5 140
    have hk0 : (w1.alloc (.cells zero5 140)).drew.cell? ⟨kg, 0, none⟩ = some (.int .i64 b0) := by
     rw [show (w1.alloc (.cells zero5 140)).drew.cell? ⟨kg, 0, none⟩ = w1.cell? ⟨kg, 0, none⟩ from World.cell?_of_block (w' := (w1.alloc (.cells zero5 140)).drew) (Below.heap_alloc w1 (.cells zero5 140) kg (by omega))]
     exact HK10.out
    have hk1 : (w1.alloc (.cells zero5 140)).drew.cell? ⟨kg, 1, none⟩ = some (.int .i64 b1) := by
     rw [show (w1.alloc (.cells zero5 140)).drew.cell? ⟨kg, 1, none⟩ = w1.cell? ⟨kg, 1, none⟩ from World.cell?_of_block (w' := (w1.alloc (.cells zero5 140)).drew) (Below.heap_alloc w1 (.cells zero5 140) kg (by omega))]
     exact HK11.out
    have hs2 : (w1.alloc (.cells zero5 140)).drew.heap.size = w1.heap.size + 1 := by simp
    unfold zero5 at hB2 hz2 hk0 hk1 hs2
    generalize (w1.alloc (.cells #[.int .i64 0, .int .i64 0, .slice none 0 0, .slice none 0 0, .int .i64 0] 140)).drew = W2 at *
    refine ⟨HRd.out _ hB2 hk0, ?_⟩
    simp only [wpSeg, List.filterMap_cons, List.filterMap_nil, List.getElem?_toArray, List.getElem?_cons_zero, List.getElem?_cons_succ]
    refine wpX_nil ⟨_, rfl, rfl, ?_⟩
    unfold Oper.wp
    go_simp
    have hcall := HCall.out W2 (hB2.pre HC.out HBel.out HIn.out)
    unfold rsC at hcall
    refine hcall.mono ?_
    clear hcall
    rintro e w3 ⟨hf3, st', rb', db', fu', fa', t', rfl, hp3, hfe, hok3⟩
    obtain ⟨g1, g2, g3, g4⟩ := hB2.next hf3 hp3
    have g5 : w3.cell? ⟨kg, 0, none⟩ = some (.int .i64 b0) := (hf3.cellK (by omega) hkp 0).trans hk0
    have g6 : w3.cell? ⟨kg, 1, none⟩ = some (.int .i64 b1) := (hf3.cellK (by omega) hkp 1).trans hk1
    have g7 := hf3.blk hz2 (by omega) (by omega)
    have hs3 := hf3.size
    have hne : kg ≠ w1.heap.size := by omega
    have hcu : ∀ j, (st5 w3 w1.heap.size (.int .i64 st'.pl) (.int .i64 st'.en) (.slice (some ⟨rb', 0, none⟩) c.bs.size c.bs.size) (.slice (some ⟨db', 0, none⟩) 8 8) (.int .i64 st'.vals)).cell? ⟨kg, j, none⟩ = w3.cell? ⟨kg, j, none⟩ := fun j => World.cell?_of_block (by
     simp only [st5]
     rw [Below.heap_setCell _ _ _ _ hne, Below.heap_setCell _ _ _ _ hne, Below.heap_setCell _ _ _ _ hne, Below.heap_setCell _ _ _ _ hne, Below.heap_setCell _ _ _ _ hne])
    have HC3 : Hid (CAt c w st rb db kg 1 b1 o w1.heap.size st' rb' db' fu' fa' t' (st5 w3 w1.heap.size (.int .i64 st'.pl) (.int .i64 st'.en) (.slice (some ⟨rb', 0, none⟩) c.bs.size c.bs.size) (.slice (some ⟨db', 0, none⟩) 8 8) (.int .i64 st'.vals))) := by
     have h : CAt c w st rb db kg 1 b1 o w1.heap.size st' rb' db' fu' fa' t' (st5 w3 w1.heap.size (.int .i64 st'.pl) (.int .i64 st'.en) (.slice (some ⟨rb', 0, none⟩) c.bs.size c.bs.size) (.slice (some ⟨db', 0, none⟩) 8 8) (.int .i64 st'.vals)) := by
      refine ⟨g1.set5 (by omega) _ _ _ _ _, Blk.other5 hp3 (by omega) _ _ _ _ _, g2.set5 g7 _ _ _ _ _, Blk.other5 g3 (by omega) _ _ _ _ _, Blk.other5 g4 (by omega) _ _ _ _ _, Blk.set5 g7 _ _ _ _ _, by omega, (hcu 1).trans g6, by rw [st5_size]; omega, hne, hfe, fun hok => ?_⟩
      obtain ⟨e1, e2, hsa⟩ := hok3 hok
      exact ⟨e1, e2, hsa.set5 g7 _ _ _ _ _⟩
     exact h
    have HR2 := hide' (HRd2.out w3 g5 g3)
    have HR4 := hide' (HRd2.out (st5 w3 w1.heap.size (.int .i64 st'.pl) (.int .i64 st'.en) (.slice (some ⟨rb', 0, none⟩) c.bs.size c.bs.size) (.slice (some ⟨db', 0, none⟩) 8 8) (.int .i64 st'.vals)) ((hcu 0).trans g5) (Blk.other5 g3 (by omega) _ _ _ _ _))
    obtain ⟨z0, z1, z2, z3, z4, zf⟩ := g7.five
    clear g1 g2 g3 g4 g5 g6 g7 hp3 hfe hok3 hf3 hB2 hz2 hk0 hk1 hcu
    unfold rsR rsC
    simp only
    refine ⟨HR2.out, ?_⟩
    refine wpX_step _ rfl (fun W hW => rfl) ?_
    refine wpX_step (.agg #[.int .i64 st'.pl, .int .i64 st'.en, .slice (some ⟨rb', 0, none⟩) c.bs.size c.bs.size, .slice (some ⟨db', 0, none⟩) 8 8, .int .i64 st'.vals]) rfl (fun W hW => by go_simp) ?_
    refine wpX_step (.string ⟨t'.toArray⟩) rfl (fun W hW => by go_simp) ?_
    refine wpX_step (.bool o.ok) rfl (fun W hW => by go_simp) ?_
    refine wpX_nil ⟨_, rfl, rfl, ?_⟩
    unfold Oper.wp
    go_simp
    refine ⟨HR4.out, ?_⟩
    refine wpX_nil ⟨_, rfl, rfl, ?_⟩
    unfold Oper.wp
    go_simp
    refine ⟨HR4.out, ?_⟩
    refine wpX_nil ⟨_, rfl, rfl, ?_⟩
    unfold Oper.wp
    go_simp
    refine ⟨HR4.out, ?_⟩
    go_wp2_with fail
    go_meet
    case rel => exact ⟨w1.heap.size, st', rb', db', fu', fa', t', rfl, rfl, rfl, HC3⟩
 case rest =>
  obtain ⟨ub, st', rb', db', fu', fa', t', rfl, rfl, rfl, hcat⟩ := hcut
  have HCt := hcat
  have hul := hcat.out.ul
  have p5 : wc.cell? ⟨c.pb, 5, none⟩ = some (.int .i64 o.e) := hcat.out.pg.cell 5
  obtain ⟨bx0, bx1, bx2, bx3, bx4, _⟩ := hcat.out.box.five
  obtain ⟨uu0, uu1, uu2, uu3, uu4, _⟩ := hcat.out.uk.five
  obtain ⟨z0, z1, z2, z3, z4, zf⟩ := hcat.out.res.five
  have hubz : ¬ ub = w.heap.size + 1 := by omega
  clear hcat
  cases hok : o.ok
  · by_cases hde : o.e ≠ 0
    · have hde' : ¬ (o.e : Int) = 0 := by omega
      have HO1 : Hid (O = o) := by
       have : O = o := by rw [HT.out]; unfold choice2 chosen; rw [if_pos (Or.inr hde), if_neg (by rw [hok]; simp)]
       exact this
      go_wp2_with fail
      refine bodyPost_ret (v := .tuple #[.agg (rsC st rb c.bs.size db), .string ⟨#[]⟩, .bool false]) (by simp [results, Tryz.results93, go_sem, rsC, z0, z1, z2, z3, z4]) rfl ?_
      rw [HO1.out]
      exact RPost.dead (HCt.out.fr.set5 (b := w.heap.size + 1) (by omega) _ _ _ _ _) rfl hok hde (Blk.other5 HCt.out.pg (b := w.heap.size + 1) (by omega) _ _ _ _ _)
    · have hde0 : o.e = 0 := by omega
      rw [hde0] at p5
      obtain ⟨e3, e4⟩ := HCt.out.fe hde0
      have HB3 : Hid (BAt c w st rb db o.fuel o.far wc) := by
       have h : BAt c w st rb db o.fuel o.far wc := ⟨HCt.out.fr, by have := HCt.out.pg; rw [hde0, e3, e4] at this; exact this, HCt.out.sa, HCt.out.box, HCt.out.res, hpl⟩
       exact h
      have HO1 : Hid (O = chosen c.N 49 (tryT c.G c.bs c.N g o.fuel o.far false k1 st)) := by
       have : O = chosen c.N 49 (tryT c.G c.bs c.N g o.fuel o.far false k1 st) := by rw [HT.out]; unfold choice2; rw [if_neg (fun h => by rcases h with h | h; (rw [hok] at h; cases h); exact hde h)]
       exact this
      have HOk3 : Hid ((tryT c.G c.bs c.N g o.fuel o.far false k1 st).ok = true → (Keeps c.bs c.N st (hidV k1) (tryT c.G c.bs c.N g o.fuel o.far false k1 st) ∧ (tryT c.G c.bs c.N g o.fuel o.far false k1 st).e = 0) ∧ Lng st (silK false k1) (tryT c.G c.bs c.N g o.fuel o.far false k1 st)) := fun hok => ⟨(tryT_ok c.G HC.out.trw g).fit o.fuel o.far false false false k1 _ HW1.out HIn.out hok, tryT_lng hbs c.G HC.out.trw g o.fuel o.far false false false k1 st HW1.out HIn.out hok⟩
      have HCall3 : Hid (∀ W, RPre c W st rb db o.fuel o.far → Calls Tryz.prog 56 #[.pointer (some ⟨c.pb, 0, none⟩), .int .i64 b1, .agg (rsC st rb c.bs.size db), .bool false] W fun e w' => RPost c W (tryT c.G c.bs c.N g o.fuel o.far false k1 st) e w') := fun W h => HI.out W st rb db o.fuel o.far k1 b1 f false false false h HA1.out HT1.out HW1.out (by omega) (by omega)
      generalize tryT c.G c.bs c.N g o.fuel o.far false k1 st = o3 at *
      have HRd2 : Hid (∀ W, W.cell? ⟨kg, 1, none⟩ = some (.int .i64 b1) → Blk W w.heap.size (rsC st rb c.bs.size db) 140 → KRd W kg 1 b1 w.heap.size (.int .i64 st.pl) (.int .i64 st.en) (.slice (some ⟨rb, 0, none⟩) c.bs.size c.bs.size) (.slice (some ⟨db, 0, none⟩) 8 8) (.int .i64 st.vals)) := fun W h2 h => ⟨h2, h.cell 0, h.cell 1, h.cell 2, h.cell 3, h.cell 4⟩
      go_wp2_with fail
      refine wp_region_seg (fun W => KRd W kg 1 b1 w.heap.size (.int .i64 st.pl) (.int .i64 st.en) (.slice (some ⟨rb, 0, none⟩) c.bs.size c.bs.size) (.slice (some ⟨db, 0, none⟩) 8 8) (.int .i64 st.vals)) [([0, 1, 2, 3, 4], 5), ([6, 7, 8, 9], 10), ([], 11), ([], 12)] rfl (by kernel_rfl) (fun _ _ d _ _ h => by cases d <;> exact h) (HRd2.out _ HCt.out.kid HCt.out.box) ?_
      simp only [wpSeg, List.filterMap_cons, List.filterMap_nil, List.getElem?_toArray, List.getElem?_cons_zero, List.getElem?_cons_succ]
      refine wpX_step _ rfl (fun W hW => rfl) ?_
      refine wpX_step _ rfl (fun W hW => rfl) ?_
      refine wpX_step _ rfl (fun W hW => by go_simp; rfl) ?_
      refine wpX_step (.int .i64 b1) rfl (fun W hW => by obtain ⟨h0, h1⟩ := hW; go_simp) ?_
      refine wpX_step (.agg #[.int .i64 st.pl, .int .i64 st.en, .slice (some ⟨rb, 0, none⟩) c.bs.size c.bs.size, .slice (some ⟨db, 0, none⟩) 8 8, .int .i64 st.vals]) rfl (fun W hW => by obtain ⟨h0, ⟨h1, h2, h3, h4, h5⟩⟩ := hW; go_simp) ?_
      refine wpX_nil ⟨_, rfl, rfl, ?_⟩
      unfold Oper.wp
      go_simp
      have hB4 := HB3.out.drewN 1
      have hcall := HCall3.out (wc.drewN 1) (hB4.pre HC.out HBel.out HIn.out)
      unfold rsC at hcall
      refine hcall.mono ?_
      clear hcall
      rintro e w3 ⟨hf3, st3, rb3, db3, fu3, fa3, t3, rfl, hp3, hfe3, hok3⟩
      obtain ⟨g1, g2, g3, g4⟩ := hB4.next hf3 hp3
      have hkl2 := HCt.out.kl
      have g6 : w3.cell? ⟨kg, 1, none⟩ = some (.int .i64 b1) := (hf3.cellK hkl2 hkp 1).trans HCt.out.kid
      have hubl := HCt.out.uk.lt
      have g7 := hf3.blk (show Blk (wc.drewN 1) ub _ _ from HCt.out.uk) hubl (by omega)
      have hs3 : wc.heap.size ≤ w3.heap.size := hf3.size
      have hkub := HCt.out.kub
      have hcu : (st5 w3 ub (.int .i64 st3.pl) (.int .i64 st3.en) (.slice (some ⟨rb3, 0, none⟩) c.bs.size c.bs.size) (.slice (some ⟨db3, 0, none⟩) 8 8) (.int .i64 st3.vals)).cell? ⟨kg, 1, none⟩ = w3.cell? ⟨kg, 1, none⟩ := World.cell?_of_block (by
       simp only [st5]
       rw [Below.heap_setCell _ _ _ _ hkub, Below.heap_setCell _ _ _ _ hkub, Below.heap_setCell _ _ _ _ hkub, Below.heap_setCell _ _ _ _ hkub, Below.heap_setCell _ _ _ _ hkub])
      have HR2 := hide' (HRd2.out w3 g6 g3)
      have HR4 := hide' (HRd2.out (st5 w3 ub (.int .i64 st3.pl) (.int .i64 st3.en) (.slice (some ⟨rb3, 0, none⟩) c.bs.size c.bs.size) (.slice (some ⟨db3, 0, none⟩) 8 8) (.int .i64 st3.vals)) (hcu.trans g6) (Blk.other5 g3 (by omega) _ _ _ _ _))
      have HFn := hide' (g1.set5 (b := ub) (by omega) (.int .i64 st3.pl) (.int .i64 st3.en) (.slice (some ⟨rb3, 0, none⟩) c.bs.size c.bs.size) (.slice (some ⟨db3, 0, none⟩) 8 8) (.int .i64 st3.vals))
      have HPn := hide' (Blk.other5 hp3 (b := ub) (by omega) (.int .i64 st3.pl) (.int .i64 st3.en) (.slice (some ⟨rb3, 0, none⟩) c.bs.size c.bs.size) (.slice (some ⟨db3, 0, none⟩) 8 8) (.int .i64 st3.vals))
      have HSn := hide' (g2.set5 g7 (.int .i64 st3.pl) (.int .i64 st3.en) (.slice (some ⟨rb3, 0, none⟩) c.bs.size c.bs.size) (.slice (some ⟨db3, 0, none⟩) 8 8) (.int .i64 st3.vals))
      have HXn := hide' (Blk.other5 g3 (b := ub) (by omega) (.int .i64 st3.pl) (.int .i64 st3.en) (.slice (some ⟨rb3, 0, none⟩) c.bs.size c.bs.size) (.slice (some ⟨db3, 0, none⟩) 8 8) (.int .i64 st3.vals))
      have HZn := hide' (Blk.other5 g4 (b := ub) (by omega) (.int .i64 st3.pl) (.int .i64 st3.en) (.slice (some ⟨rb3, 0, none⟩) c.bs.size c.bs.size) (.slice (some ⟨db3, 0, none⟩) 8 8) (.int .i64 st3.vals))
      have HUn := hide' (Blk.set5 g7 (.int .i64 st3.pl) (.int .i64 st3.en) (.slice (some ⟨rb3, 0, none⟩) c.bs.size c.bs.size) (.slice (some ⟨db3, 0, none⟩) 8 8) (.int .i64 st3.vals))
      have HFe := hide' hfe3
      have HKn : Hid (o3.ok = true → st3 = o3.st ∧ t3 = o3.t ∧ StAt c (st5 w3 ub (.int .i64 st3.pl) (.int .i64 st3.en) (.slice (some ⟨rb3, 0, none⟩) c.bs.size c.bs.size) (.slice (some ⟨db3, 0, none⟩) 8 8) (.int .i64 st3.vals)) o3.st rb3 db3) := fun h => ⟨(hok3 h).1, (hok3 h).2.1, (hok3 h).2.2.set5 g7 _ _ _ _ _⟩
      obtain ⟨y0, y1, y2, y3, y4, yf⟩ := g7.five
      clear g1 g2 g3 g4 g6 g7 hp3 hfe3 hok3 hf3 hB4 hcu uu0 uu1 uu2 uu3 uu4 bx0 bx1 bx2 bx3 bx4 z0 z1 z2 z3 z4 zf p5
      unfold rsR rsC
      simp only
      refine ⟨HR2.out, ?_⟩
      refine wpX_step _ rfl (fun W hW => rfl) ?_
      refine wpX_step (.agg #[.int .i64 st3.pl, .int .i64 st3.en, .slice (some ⟨rb3, 0, none⟩) c.bs.size c.bs.size, .slice (some ⟨db3, 0, none⟩) 8 8, .int .i64 st3.vals]) rfl (fun W hW => by go_simp) ?_
      refine wpX_step (.string ⟨t3.toArray⟩) rfl (fun W hW => by go_simp) ?_
      refine wpX_step (.bool o3.ok) rfl (fun W hW => by go_simp) ?_
      refine wpX_nil ⟨_, rfl, rfl, ?_⟩
      unfold Oper.wp
      go_simp
      refine ⟨HR4.out, ?_⟩
      refine wpX_nil ⟨_, rfl, rfl, ?_⟩
      unfold Oper.wp
      go_simp
      refine ⟨HR4.out, ?_⟩
      refine wpX_nil ⟨_, rfl, rfl, ?_⟩
      unfold Oper.wp
      go_simp
      refine ⟨HR4.out, ?_⟩
      clear y0 y1 y2 y3 y4 yf HR2 HR4
      unfold st5 at HFn HPn HSn HXn HZn HUn HKn
      generalize ((((w3.setCell ⟨ub, 0, none⟩ (.int .i64 st3.pl)).setCell ⟨ub, 1, none⟩ (.int .i64 st3.en)).setCell ⟨ub, 2, none⟩ (.slice (some ⟨rb3, 0, none⟩) c.bs.size c.bs.size)).setCell ⟨ub, 3, none⟩ (.slice (some ⟨db3, 0, none⟩) 8 8)).setCell ⟨ub, 4, none⟩ (.int .i64 st3.vals) = Wn at *
      obtain ⟨bn0, bn1, bn2, bn3, bn4, _⟩ := HXn.out.five
      obtain ⟨un0, un1, un2, un3, un4, _⟩ := HUn.out.five
      obtain ⟨zn0, zn1, zn2, zn3, zn4, znf⟩ := HZn.out.five
      cases hokv : o3.ok
      · have HO2 : Hid (O = o3) := by
         have : O = o3 := by rw [HO1.out]; unfold chosen; rw [if_neg (by rw [hokv]; simp)]
         exact this
        go_wp2_with fail
        refine bodyPost_ret (v := .tuple #[.agg (rsC st rb c.bs.size db), .string ⟨#[]⟩, .bool false]) (by simp [results, Tryz.results93, go_sem, rsC, zn0, zn1, zn2, zn3, zn4]) rfl ?_
        rw [HO2.out]
        exact RPost.none (HFn.out.set5 (b := w.heap.size + 1) (by omega) _ _ _ _ _) rfl hokv (Blk.other5 HPn.out (b := w.heap.size + 1) (by omega) _ _ _ _ _) HFe.out
      · obtain ⟨⟨hkp3, hoe3⟩, hlng3⟩ := HOk3.out hokv
        obtain ⟨e5, e6, hsa3⟩ := HKn.out hokv
        obtain ⟨e7, e8⟩ := HFe.out hoe3
        subst e5
        subst e6
        have HO1' : Hid (O = madeO c.N o3.fuel o3.far o3.st (47 :: 49 :: 32 :: o3.t)) := by
         have : O = madeO c.N o3.fuel o3.far o3.st (47 :: 49 :: 32 :: o3.t) := by rw [HO1.out]; unfold chosen; rw [if_pos hokv]
         exact this
        have HSa3 := hide' hsa3
        have hov := hkp3.inv.vals
        have hll := hlng3.len
        have htl : (⟨o3.t.toArray⟩ : ByteArray).size ≤ 80110000 := by rw [mk_size]; have : o3.st.vals - st.vals ≤ 10000 := (by omega); omega
        have HA3 := hide' (slash 49 o3.t)
        have HB5 : Hid (BAt c w st rb db o3.fuel o3.far Wn) := by
         have h : BAt c w st rb db o3.fuel o3.far Wn := ⟨HFn.out, by have := HPn.out; rw [hoe3, e7, e8] at this; exact this, HSn.out, HXn.out, HZn.out, hpl⟩
         exact h
        clear hkp3 hlng3 hsa3 HO1
        have HO1 := HO1'
        generalize (⟨o3.t.toArray⟩ : ByteArray) = TB at *
        go_wp2_with fail
        rw [HA3.out]
        have hcall := made_calls' Wn c.pb c.gb c.bs o3.fuel c.N o3.far 0 o3.st rb3 c.bs.size db3 (47 :: 49 :: 32 :: o3.t) (HB5.out).pg hN hov
        unfold rsC at hcall
        refine hcall.mono ?_
        clear hcall
        rintro e w5 ⟨he5, hp5, hf5⟩
        obtain ⟨s', t2, ok', he6, hz5, hpost⟩ := (HB5.out).made HSa3.out he5 hp5 hf5
        rw [← HO1.out] at hpost
        have HPost := hide' hpost
        subst he6
        obtain ⟨zz0, zz1, zz2, zz3, zz4, zzf⟩ := hz5.five
        clear hp5 hf5 he5 hz5 hpost
        unfold rsR rsC
        go_wp2_with fail
        refine bodyPost_ret (v := .tuple #[.agg (rsC s' rb3 c.bs.size db3), .string ⟨t2.toArray⟩, .bool ok']) (by simp [results, Tryz.results93, go_sem, rsC, zz0, zz1, zz2, zz3, zz4]) rfl ?_
        exact HPost.out
  · obtain ⟨⟨hkp2, hoe⟩, hlng⟩ := HOk.out hok
    obtain ⟨e1, e2, hsa⟩ := HCt.out.ok hok
    obtain ⟨e3, e4⟩ := HCt.out.fe hoe
    subst e1
    subst e2
    have HO1 : Hid (O = madeO c.N o.fuel o.far o.st (47 :: 48 :: 32 :: o.t)) := by
     have : O = madeO c.N o.fuel o.far o.st (47 :: 48 :: 32 :: o.t) := by rw [HT.out]; unfold choice2 chosen; rw [if_pos (Or.inl hok), if_pos hok]
     exact this
    have HB3 : Hid (BAt c w st rb db o.fuel o.far wc) := by
     have h : BAt c w st rb db o.fuel o.far wc := ⟨HCt.out.fr, by have := HCt.out.pg; rw [hoe, e3, e4] at this; exact this, HCt.out.sa, HCt.out.box, HCt.out.res, hpl⟩
     exact h
    have HSa := hide' hsa
    have hov := hkp2.inv.vals
    have hll := hlng.len
    have htl : (⟨o.t.toArray⟩ : ByteArray).size ≤ 80110000 := by rw [mk_size]; have : o.st.vals - st.vals ≤ 10000 := (by omega); omega
    have HA3 := hide' (slash 48 o.t)
    clear hkp2 hlng hsa
    generalize (⟨o.t.toArray⟩ : ByteArray) = TB at *
    go_wp2_with fail
    rw [HA3.out]
    have hcall := made_calls' wc c.pb c.gb c.bs o.fuel c.N o.far 0 o.st rb' c.bs.size db' (47 :: 48 :: 32 :: o.t) (HB3.out).pg hN hov
    unfold rsC at hcall
    refine hcall.mono ?_
    clear hcall
    rintro e w5 ⟨he5, hp5, hf5⟩
    obtain ⟨s', t2, ok', he6, hz5, hpost⟩ := (HB3.out).made HSa.out he5 hp5 hf5
    rw [← HO1.out] at hpost
    have HPost := hide' hpost
    subst he6
    obtain ⟨zz0, zz1, zz2, zz3, zz4, zzf⟩ := hz5.five
    clear hp5 hf5 he5 hz5 hpost
    unfold rsR rsC
    go_wp2_with fail
    refine bodyPost_ret (v := .tuple #[.agg (rsC s' rb' c.bs.size db'), .string ⟨t2.toArray⟩, .bool ok']) (by simp [results, Tryz.results93, go_sem, rsC, zz0, zz1, zz2, zz3, zz4]) rfl ?_
    exact HPost.out
set_option maxRecDepth 100000 in
set_option maxHeartbeats 2000000 in
theorem rkids_calls (w : World) (gb g c : Nat) (fi tw : Value) (its : List It) (hG : Grm w gb g c fi tw its) (hwf : Wf its) (hlen : its.length ≤ 1000) (k : Nat) (hk : k < its.length) :
 Calls Tryz.prog 88 #[.pointer (some ⟨gb, 0, none⟩), .int .i64 k] w fun e w' => ∃ v, e = .returned v ∧ Ints w' v (kidsV its k) ∧ Below w.heap.size w w' ∧ ∀ b, v.ownBlock = some b → w.heap.size ≤ b := by
 obtain ⟨i0, hi0, hz0, hz1, hz2⟩ := info_parts Tryz.infoInt
 have hp := hwf.pos k hk
 have hnk : nxt its k ≤ its.length := by unfold nxt; omega
 have HG : Hid (Grm w gb g c fi tw its) := hG
 have HW : Hid (Wf its) := hwf
 have hgl := hG.lt
 have hgbl := hG.blk.lt
 clear hG hwf
 go_enter Tryz.func88, Tryz.ntmps88
 go_wp2_with fail
 go_loopw [5, 6] (fun vl vi wr => ∃ (i f : Nat) (acc : List Nat) (v : Value), vi = .int .i64 i ∧ v = vl ∧ i ≤ its.length ∧ its.length + 1 ≤ f + i ∧ acc.length ≤ i ∧ Hid (wr.ownsRow w.heap.size 3 1 v acc.length (intsL acc)) ∧ Hid (Below w.heap.size w wr) ∧ Hid (kidsV its k = acc ++ stepsV its (nxt its k) f i)) (fun _ vi _ => its.length - (intOf vi).toNat)
 case atStart =>
  exact ⟨k + 1, its.length, [], _, by go_num, rfl, by omega, by omega, by simp, World.ownsRow_nil _ _ _ _, Below.refl _ _, (by simp [kidsV] : kidsV its k = [] ++ stepsV its (nxt its k) its.length (k + 1))⟩
 case round =>
  obtain ⟨i, f, acc, vl, rfl, rfl, hi, hf, hacc, hown, hbel, heq⟩ := hrel
  have hGr := HG.out.below hbel.out
  have hsz := hbel.out.size
  have c0 : wr.cell? ⟨gb, 0, none⟩ = some (.slice (some ⟨g, 0, none⟩) its.length c) := hGr.top
  have cN : wr.cell? ⟨g, k * 9 + 6, none⟩ = some (.int .i64 (nxt its k : Nat)) := hGr.nx HW.out k hk
  have HGr : Hid (Grm wr gb g c fi tw its) := hGr
  clear hGr
  generalize nxt its k = lim at *
  by_cases hlt : i < lim
  · have hil : i < its.length := by omega
    have hpi := HW.out.pos i hil
    have hni : i < nxt its i := by unfold nxt; omega
    have hni2 : nxt its i ≤ its.length := by unfold nxt; omega
    have HS : Hid (kidsV its k = (acc ++ [i]) ++ stepsV its lim (f - 1) (nxt its i)) := by
     have : kidsV its k = (acc ++ [i]) ++ stepsV its lim (f - 1) (nxt its i) := by
      rw [heq.out, show f = (f - 1) + 1 by omega, stepsV, if_pos hlt]; simp
     exact this
    clear heq hpi
    go_wp2_with
     (at_builtin
      refine wpList_append_lies _ rfl _ _ _ rfl w.heap.size 3 i0 _ 1 8 Tryz.underlying24 hi0 hz0 hz1 hz2 rfl (by omega) vl acc.length (intsL acc) rfl (hown.out.alloc _) ⟨wr.heap.size, 0, none⟩ 1 1 [.int .i64 i] rfl rfl (World.news_of_block (cs := #[.int .i64 i]) (t := 3) (fr := (0, 0)) (heap_alloc_new wr _)) (by simp [Value.oneCell']) (by omega) (by unfold maxLen; omega) (by omega) (by simp; omega) (wr.heap.size + 1) (by simp) ?_
      intro g1 cap1 w1 hown1 hgrow hat hlt1
      have hb1 : Below w.heap.size w w1 := (hbel.out.alloc (by omega) _).grown hgrow (by simp; omega) (fun q e => (hown.out.lt q e).1)
      have c1 : w1.cell? ⟨gb, 0, none⟩ = some (.slice (some ⟨g, 0, none⟩) its.length c) := (HG.out.below hb1).top
      have cN1 : w1.cell? ⟨g, i * 9 + 6, none⟩ = some (.int .i64 (nxt its i : Nat)) := (HG.out.below hb1).nx HW.out i hil)
    go_roundw
    case rel =>
     exact ⟨nxt its i, f - 1, acc ++ [i], _, rfl, rfl, hni2, by omega, by simp; omega, by simpa [intsL, Hid] using hown1, hb1, HS⟩
    case measure => simp [intOf]; omega
  · have HS : Hid (kidsV its k = acc) := by
     have : kidsV its k = acc := by
      rw [heq.out]
      cases f with
      | zero => simp [stepsV]
      | succ f => rw [stepsV, if_neg hlt]; simp
     exact this
    clear heq
    go_wp2_with fail
    go_ret
    exact ⟨vl, rfl, by rw [HS.out]; exact Ints.of_own hown.out, hbel.out, fun b e => (hown.out.lt b e).1⟩
end Go.Proofs.YtmlkhhhjdpbhfaaGreatDoor

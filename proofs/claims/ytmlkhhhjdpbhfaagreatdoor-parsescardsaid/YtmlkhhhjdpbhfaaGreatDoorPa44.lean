import Derived.Test.YtmlkhhhjdpbhfaaGreatDoorPa39
namespace Go.Proofs.YtmlkhhhjdpbhfaaGreatDoor
open Go.RowKit
set_option maxRecDepth 100000 in
set_option maxHeartbeats 1000000 in
theorem bytes_run (c : Rx) (hc : RxOk c) (w : World) (st : PS) (rb db fuel far : Nat) (hp : RPre c w st rb db fuel far) (b : Nat) (x : It) (r : List It) (ha : At c.its b (x :: r)) (hx : ItR x) (hcc : x.c = 114) (q : Bool) :
 Calls Tryz.prog 91 #[.pointer (some ⟨c.pb, 0, none⟩), .int .i64 b, .agg (rsC st rb c.bs.size db), .bool q] w fun e w' => RPost c w (bytesT c.bs c.N x q fuel far st) e w' := by
 have hG := hp.grm hc
 obtain ⟨q0, q1, q2, q3, q4, q5, q6, q7, q8⟩ := hG.nine ha
 have c0 : w.cell? ⟨c.gb, 0, none⟩ = some (.slice (some ⟨c.g, 0, none⟩) c.its.length c.cap) := hG.top
 have p0 : w.cell? ⟨c.pb, 0, none⟩ = some (.pointer (some ⟨c.gb, 0, none⟩)) := hp.pg.cell 0
 have hgl := hG.lt
 have hgbl := hG.blk.lt
 have hpl := hp.pg.lt
 have hbl : b < c.its.length := by have := ha.le; simp at this; omega
 have hlen := hc.len
 have hbs := hc.bs
 have i1 := hp.inv.pl
 have i2 := hp.inv.en
 have i3 := hp.inv.rd
 have i4 := hp.inv.vals
 have hN := hc.N
 rw [hcc] at q0
 obtain ⟨d, hd⟩ : ∃ d : Nat, x.d = (d : Int) := ⟨x.d.toNat, by have := hx.it.d (by rw [hcc]; rfl); omega⟩
 have hd8 : d < 8 := by have := hx.it.d (by rw [hcc]; rfl); omega
 have hd8' : (d : Int) < 8 := by omega
 have hn : (st.deps d).1 = lenT x st := by unfold lenT; rw [if_neg (by omega), if_pos hcc, hd]; simp
 have dv : w.cell? ⟨db, d * 2, none⟩ = some (.int .i64 ((lenT x st : Nat) : Int)) := by
  have := hp.dp.cell (2 * d)
  rw [(dpC_v st.deps d hd8).1, hn] at this
  rw [Nat.mul_comm d 2]; exact this
 have hdl := hp.dp.lt
 have dv3 : ∀ o1 o2 o3, (((w.alloc o1).alloc o2).alloc o3).cell? ⟨db, d * 2, none⟩ = some (.int .i64 ((lenT x st : Nat) : Int)) := fun o1 o2 o3 => by
  have := (Blk.alloc (Blk.alloc (Blk.alloc hp.dp o1) o2) o3).cell (2 * d)
  rw [(dpC_v st.deps d hd8).1, hn] at this
  rw [Nat.mul_comm d 2]; exact this
 have hn2 : lenT x st < 4294967296 := by rw [← hn]; exact (hp.inv.deps d).1
 rw [hd] at q4
 have HT : Hid (bytesT c.bs c.N x q fuel far st = if canRead st.rd st.pl st.en (lenT x st) then madeO c.N fuel far (readS st (lenT x st)) (quoteT (c.bs.extract st.pl (st.pl + lenT x st))) else failO fuel far st.pl st) := by
  have : bytesT c.bs c.N x q fuel far st = if canRead st.rd st.pl st.en (lenT x st) then madeO c.N fuel far (readS st (lenT x st)) (quoteT (c.bs.extract st.pl (st.pl + lenT x st))) else failO fuel far st.pl st := by
   unfold bytesT; rw [if_neg (show ¬ x.c = 39 by omega), if_pos (show x.c = 114 ∨ x.c = 46 from Or.inl hcc)]
  exact this
 generalize lenT x st = n at *
 have HP := hide' hp
 have HC := hide' hc
 have HB0 := hide' (BAt.new hp)
 clear hG ha hp hc hcc hn hx hd
 have hs0 : ((w.alloc (.cells (rsC st rb c.bs.size db) 140)).alloc (.cells zero5 140)).heap.size = w.heap.size + 1 + 1 := by simp
 unfold rsC zero5 at HB0 hs0
 unfold rsC
 go_enter Tryz.func91, Tryz.ntmps91
 go_wp2_with fail
 generalize (w.alloc (.cells #[.int .i64 st.pl, .int .i64 st.en, .slice (some ⟨rb, 0, none⟩) c.bs.size c.bs.size, .slice (some ⟨db, 0, none⟩) 8 8, .int .i64 st.vals] 140)).alloc (.cells #[.int .i64 0, .int .i64 0, .slice none 0 0, .slice none 0 0, .int .i64 0] 140) = W0 at *
 have HB1 := hide' (HB0.out.below ((Below.refl _ _).alloc (Nat.le_refl _) (.cells #[.int .u8 114, .int .i64 x.w, .int .i64 x.b, .int .i64 x.r, .int .i64 d, .int .i64 x.pl, .int .i64 (b + x.nx), .int .i64 x.rl, .int .i64 0] 132)))
 have HX1 := hide' (Blk.new W0 #[.int .u8 114, .int .i64 x.w, .int .i64 x.b, .int .i64 x.r, .int .i64 d, .int .i64 x.pl, .int .i64 (b + x.nx), .int .i64 x.rl, .int .i64 0] 132)
 rw [hs0] at HX1
 have hs1 : (W0.alloc (.cells #[.int .u8 114, .int .i64 x.w, .int .i64 x.b, .int .i64 x.r, .int .i64 d, .int .i64 x.pl, .int .i64 (b + x.nx), .int .i64 x.rl, .int .i64 0] 132)).heap.size = w.heap.size + 3 := by simp; omega
 generalize W0.alloc (.cells #[.int .u8 114, .int .i64 x.w, .int .i64 x.b, .int .i64 x.r, .int .i64 d, .int .i64 x.pl, .int .i64 (b + x.nx), .int .i64 x.rl, .int .i64 0] 132) = W1 at *
 clear dv dv3 HB0 q0 q1 q2 q3 q4 q5 q6 q7 q8 c0 p0
 refine (reads_calls W1 _ st rb c.bs.size db n HB1.out.sa.rd i3 hbs i1 i2 (by omega)).mono ?_
 rintro e w2 ⟨hb2, hyes, hno⟩
 have HB2 := hide' (HB1.out.below hb2)
 have hX2 := HX1.out.below hb2 HX1.out.lt
 have hs2 := hb2.size
 have hl0 : w.heap.size < w2.heap.size := by omega
 have hl1 : w.heap.size + 1 < w2.heap.size := by omega
 have hl2 : w.heap.size + 1 + 1 < w2.heap.size := by omega
 have hl3 : c.pb < w2.heap.size := by omega
 have hl4 : ¬ w2.heap.size = c.pb := by omega
 have f1 : w2.cell? ⟨c.pb, 1, none⟩ = some (.string c.bs) := HB2.out.pg.cell 1
 obtain ⟨b0, b1, b2, b3, b4, _⟩ := HB2.out.box.five
 have x0 : w2.cell? ⟨w.heap.size + 1 + 1, 0, none⟩ = some (.int .u8 114) := hX2.cell 0
 cases hcr : canRead st.rd st.pl st.en n
 · rw [hno hcr]
   rw [hcr] at HT
   clear hyes hno hcr
   unfold rsC
   go_wp2_with fail
   have HB3 := hide' (HB2.out.below ((Below.refl _ _).alloc (Nat.le_refl _) (.cells #[.int .i64 st.pl, .int .i64 st.en, .slice (some ⟨rb, 0, none⟩) c.bs.size c.bs.size, .slice (some ⟨db, 0, none⟩) 8 8, .int .i64 st.vals] 140)))
   refine (fails_calls _ c.pb c.gb c.bs fuel c.N far 0 st.pl st rb c.bs.size db HB3.out.pg).mono ?_
   rintro e w4 ⟨rfl, hp4, hf4⟩
   obtain ⟨g1, g2, g3, g4⟩ := HB3.out.next hf4 hp4
   obtain ⟨z0, z1, z2, z3, z4, zf⟩ := g4.five
   have HF4 := hide' g1
   have HP4 := hide' hp4
   clear g1 g2 g3 g4 hp4 hf4
   unfold rsR rsC
   go_wp2_with fail
   refine bodyPost_ret (v := .tuple #[.agg (rsC st rb c.bs.size db), .string ⟨#[]⟩, .bool false]) (by simp [results, Tryz.results91, go_sem, rsC, z0, z1, z2, z3, z4]) rfl ?_
   rw [HT.out]
   simp only [Bool.false_eq_true, if_false]
   exact RPost.fail (HF4.out.set5 (b := w.heap.size + 1) (by omega) _ _ _ _ _) rfl (Blk.other5 HP4.out (b := w.heap.size + 1) (by omega) _ _ _ _ _)
 · obtain ⟨rb', he, hrb', hrl'⟩ := hyes hcr
   rw [he]
   rw [hcr] at HT
   have HR' := hide' hrb'
   have hen3 : st.pl + n ≤ c.bs.size := by have := canRead_le hcr; omega
   clear hyes hno hcr hrb'
   have HB3 := hide' (HB2.out.below ((Below.refl _ _).alloc (Nat.le_refl _) (.cells (rsC (readS st n) rb' c.bs.size db) 140)))
   have HU3 := hide' (Blk.new w2 (rsC (readS st n) rb' c.bs.size db) 140)
   unfold rsC readS at HB3 HU3
   simp only [Int.natCast_add] at HB3 HU3
   unfold rsC readS
   go_wp2_with fail
   have HX3 := hide' (Blk.alloc hX2 (.cells #[.int .i64 ((st.pl : Int) + (n : Int)), .int .i64 st.en, .slice (some ⟨rb', 0, none⟩) c.bs.size c.bs.size, .slice (some ⟨db, 0, none⟩) 8 8, .int .i64 st.vals] 140))
   have HR3 := hide' (Blk.alloc HR'.out (.cells #[.int .i64 ((st.pl : Int) + (n : Int)), .int .i64 st.en, .slice (some ⟨rb', 0, none⟩) c.bs.size c.bs.size, .slice (some ⟨db, 0, none⟩) 8 8, .int .i64 st.vals] 140))
   generalize w2.alloc (.cells #[.int .i64 ((st.pl : Int) + (n : Int)), .int .i64 st.en, .slice (some ⟨rb', 0, none⟩) c.bs.size c.bs.size, .slice (some ⟨db, 0, none⟩) 8 8, .int .i64 st.vals] 140) = W3 at *
   have u0 : W3.cell? ⟨w2.heap.size, 0, none⟩ = some (.int .i64 ((st.pl : Int) + (n : Int))) := HU3.out.cell 0
   have v0 : W3.cell? ⟨w.heap.size, 0, none⟩ = some (.int .i64 st.pl) := HB3.out.box.cell 0
   have k1 : W3.cell? ⟨c.pb, 1, none⟩ = some (.string c.bs) := HB3.out.pg.cell 1
   have y0 : W3.cell? ⟨w.heap.size + 1 + 1, 0, none⟩ = some (.int .u8 114) := HX3.out.cell 0
   clear b0 b1 b2 b3 b4 f1 x0
   go_quiet (fail)
   go_wp2_with fail
   have HU := hide' (fun (W : World) (h : Blk W w2.heap.size #[.int .i64 ((st.pl : Int) + (n : Int)), .int .i64 st.en, .slice (some ⟨rb', 0, none⟩) c.bs.size c.bs.size, .slice (some ⟨db, 0, none⟩) 8 8, .int .i64 st.vals] 140) => (⟨h.cell 0, h.cell 1, h.cell 2, h.cell 3, h.cell 4⟩ : U5 W w2.heap.size (.int .i64 ((st.pl : Int) + (n : Int))) (.int .i64 st.en) (.slice (some ⟨rb', 0, none⟩) c.bs.size c.bs.size) (.slice (some ⟨db, 0, none⟩) 8 8) (.int .i64 st.vals)))
   refine wp_region_seg (fun W => U5 W w2.heap.size (.int .i64 ((st.pl : Int) + (n : Int))) (.int .i64 st.en) (.slice (some ⟨rb', 0, none⟩) c.bs.size c.bs.size) (.slice (some ⟨db, 0, none⟩) 8 8) (.int .i64 st.vals)) [([0, 1, 2], 3), ([], 4), ([5, 6, 7], 8), ([], 9), ([], 10)] rfl (by kernel_rfl) (fun _ _ d _ _ h => by cases d <;> exact h) (HU.out _ HU3.out) ?_
   simp only [wpSeg, List.filterMap_cons, List.filterMap_nil, List.getElem?_toArray, List.getElem?_cons_zero, List.getElem?_cons_succ]
   refine wpX_step _ rfl (fun W hW => rfl) ?_
   refine wpX_step (.agg #[.int .i64 ((st.pl : Int) + (n : Int)), .int .i64 st.en, .slice (some ⟨rb', 0, none⟩) c.bs.size c.bs.size, .slice (some ⟨db, 0, none⟩) 8 8, .int .i64 st.vals]) rfl (fun W hW => by obtain ⟨h0, h1, h2, h3, h4⟩ := hW; go_simp) ?_
   refine wpX_step _ rfl (fun W hW => rfl) ?_
   refine wpX_nil ⟨_, rfl, rfl, ?_⟩
   unfold Oper.wp
   go_simp
   refine (quoted_calls (c.bs.extract st.pl (st.pl + n)) ?_ _).mono ?_
   · rw [ByteArray.size_extract]; omega
   rintro e w4 ⟨rfl, m4, hw4⟩
   have HB4 : Hid (BAt c w st rb db fuel far w4) := by
    have h : BAt c w st rb db fuel far w4 := by rw [hw4]; exact ((HB3.out.drewN nq).drewN 1).drewN m4
    exact h
   have HU4 : Hid (Blk w4 w2.heap.size #[.int .i64 ((st.pl : Int) + (n : Int)), .int .i64 st.en, .slice (some ⟨rb', 0, none⟩) c.bs.size c.bs.size, .slice (some ⟨db, 0, none⟩) 8 8, .int .i64 st.vals] 140) := by rw [hw4]; exact HU3.out
   have HR4 : Hid (Blk w4 rb' (rdC (readS st n).rd) 4) := by rw [hw4]; exact HR3.out
   have hs4 : w2.heap.size < w4.heap.size := HU4.out.lt
   clear hw4
   refine ⟨HU.out _ HU4.out, ?_⟩
   refine wpX_nil ⟨_, rfl, rfl, ?_⟩
   unfold Oper.wp
   go_simp
   have hcall := made_calls' w4 c.pb c.gb c.bs fuel c.N far 0 (readS st n) rb' c.bs.size db (quoteT (c.bs.extract st.pl (st.pl + n))) HB4.out.pg hN i4
   unfold rsC readS at hcall
   simp only [Int.natCast_add] at hcall
   refine hcall.mono ?_
   clear hcall
   rintro e w5 ⟨he5, hp5, hf5⟩
   obtain ⟨g1, g2, g3, g4⟩ := HB4.out.next hf5 hp5
   have hU5 := hf5.blk HU4.out HU4.out.lt (by omega)
   have hR5 := hf5.blk HR4.out HR4.out.lt (blk_ne HR4.out HB4.out.pg (by decide))
   obtain ⟨s', t', ok', hform⟩ := madeR_form c.N 0 (readS st n) rb' c.bs.size db (quoteT (c.bs.extract st.pl (st.pl + n)))
   have hD5 := g2.dp
   have HPost : Hid (RPost c w (bytesT c.bs c.N x q fuel far st) (rsR s' rb' c.bs.size db t' ok') (st5 w5 (w.heap.size + 1) (.int .i64 s'.pl) (.int .i64 s'.en) (.slice (some ⟨rb', 0, none⟩) c.bs.size c.bs.size) (.slice (some ⟨db, 0, none⟩) 8 8) (.int .i64 s'.vals))) := by
    have h : RPost c w (bytesT c.bs c.N x q fuel far st) (rsR s' rb' c.bs.size db t' ok') (st5 w5 (w.heap.size + 1) (.int .i64 s'.pl) (.int .i64 s'.en) (.slice (some ⟨rb', 0, none⟩) c.bs.size c.bs.size) (.slice (some ⟨db, 0, none⟩) 8 8) (.int .i64 s'.vals)) := by
     rw [HT.out, if_pos trivial]
     refine RPost.made (st := readS st n) (rb := rb') (db := db) (g1.set5 (b := w.heap.size + 1) (by omega) _ _ _ _ _) hform.symm (Blk.other5 hp5 (b := w.heap.size + 1) (by omega) _ _ _ _ _) ⟨Blk.other5 hR5 (b := w.heap.size + 1) (by omega) _ _ _ _ _, Blk.other5 hD5 (b := w.heap.size + 1) (fun e => ?_) _ _ _ _ _, ?_, g2.dne⟩
     · exact blk_ne hD5 g4 (by decide) e
     · exact blk_ne hR5 hp5 (by decide)
    exact h
   have he6 : e = rsR s' rb' c.bs.size db t' ok' := he5.trans hform
   subst he6
   have HU5b := hide' (Blk.other5 hU5 (b := w.heap.size + 1) (by omega) (.int .i64 s'.pl) (.int .i64 s'.en) (.slice (some ⟨rb', 0, none⟩) c.bs.size c.bs.size) (.slice (some ⟨db, 0, none⟩) 8 8) (.int .i64 s'.vals))
   have HU5 := hide' hU5
   obtain ⟨z0, z1, z2, z3, z4, zf⟩ := g4.five
   clear g1 g2 g3 g4 hp5 hf5 hU5 hR5 hD5 hform he5
   unfold rsR rsC
   simp only
   refine ⟨HU.out _ HU5.out, ?_⟩
   refine wpX_step (.agg #[.int .i64 s'.pl, .int .i64 s'.en, .slice (some ⟨rb', 0, none⟩) c.bs.size c.bs.size, .slice (some ⟨db, 0, none⟩) 8 8, .int .i64 s'.vals]) rfl (fun W hW => by go_simp) ?_
   refine wpX_step (.string ⟨t'.toArray⟩) rfl (fun W hW => by go_simp) ?_
   refine wpX_step (.bool ok') rfl (fun W hW => by go_simp) ?_
   refine wpX_nil ⟨_, rfl, rfl, ?_⟩
   unfold Oper.wp
   go_simp
   refine ⟨HU.out _ HU5b.out, ?_⟩
   refine wpX_nil ⟨_, rfl, rfl, ?_⟩
   unfold Oper.wp
   go_simp
   refine ⟨HU.out _ HU5b.out, ?_⟩
   refine wpX_nil ⟨_, rfl, rfl, ?_⟩
   unfold Oper.wp
   go_simp
   refine ⟨HU.out _ HU5b.out, ?_⟩
   go_wp2_with fail
   refine bodyPost_ret (v := .tuple #[.agg (rsC s' rb' c.bs.size db), .string ⟨t'.toArray⟩, .bool ok']) (by simp [results, Tryz.results91, go_sem, rsC, z0, z1, z2, z3, z4]) rfl ?_
   exact HPost.out
set_option maxRecDepth 100000 in
set_option maxHeartbeats 1000000 in
theorem bytes_num (c : Rx) (hc : RxOk c) (w : World) (st : PS) (rb db fuel far : Nat) (hp : RPre c w st rb db fuel far) (b : Nat) (x : It) (r : List It) (ha : At c.its b (x :: r)) (hx : ItR x) (q : Bool) (kk : Int) (hcc : x.c = kk) (hkk : kk = 110 ∨ kk = 108) :
 Calls Tryz.prog 91 #[.pointer (some ⟨c.pb, 0, none⟩), .int .i64 b, .agg (rsC st rb c.bs.size db), .bool q] w fun e w' => RPost c w (bytesT c.bs c.N x q fuel far st) e w' := by
 have hG := hp.grm hc
 obtain ⟨q0, q1, q2, q3, q4, q5, q6, q7, q8⟩ := hG.nine ha
 have c0 : w.cell? ⟨c.gb, 0, none⟩ = some (.slice (some ⟨c.g, 0, none⟩) c.its.length c.cap) := hG.top
 have p0 : w.cell? ⟨c.pb, 0, none⟩ = some (.pointer (some ⟨c.gb, 0, none⟩)) := hp.pg.cell 0
 have hgl := hG.lt
 have hgbl := hG.blk.lt
 have hpl := hp.pg.lt
 have hbl : b < c.its.length := by have := ha.le; simp at this; omega
 have hlen := hc.len
 have hbs := hc.bs
 have i1 := hp.inv.pl
 have i2 := hp.inv.en
 have i3 := hp.inv.rd
 have i4 := hp.inv.vals
 have hN := hc.N
 rw [hcc] at q0
 have hxw := hx.w (by rw [hcc]; rcases hkk with rfl | rfl <;> rfl)
 have hn : lenT x st = x.w.toNat := by unfold lenT; rw [if_neg (by omega), if_neg (by omega), if_neg (by omega)]
 have hni : x.w = ((lenT x st : Nat) : Int) := by rw [hn]; omega
 have hn4 : lenT x st ≤ 4 := by omega
 rw [hni] at q1
 have HV := hide' (numT_lt x (c.bs.extract st.pl (st.pl + lenT x st)) (by have := extract_le c.bs st.pl (lenT x st); omega))
 have hh0 : hidesB kk = false := by rcases hkk with rfl | rfl <;> rfl
 have HT : Hid (bytesT c.bs c.N x q fuel far st = if canRead st.rd st.pl st.en (lenT x st) then madeO c.N fuel far (readS st (lenT x st)) (decT (numT x (c.bs.extract st.pl (st.pl + lenT x st)))) else failO fuel far st.pl st) := by
  have : bytesT c.bs c.N x q fuel far st = if canRead st.rd st.pl st.en (lenT x st) then madeO c.N fuel far (readS st (lenT x st)) (decT (numT x (c.bs.extract st.pl (st.pl + lenT x st)))) else failO fuel far st.pl st := by
   unfold bytesT; rw [if_neg (show ¬ x.c = 39 by omega), if_neg (show ¬ (x.c = 114 ∨ x.c = 46) by omega), if_neg (show ¬ hidesB x.c = true by rw [hcc]; rcases hkk with rfl | rfl <;> decide)]
  exact this
 generalize lenT x st = n at *
 have HP := hide' hp
 have HCC := hide' hcc
 have HC := hide' hc
 have HB0 := hide' (BAt.new hp)
 clear hG ha hp hc hcc hn hx hxw hni
 have hs0 : ((w.alloc (.cells (rsC st rb c.bs.size db) 140)).alloc (.cells zero5 140)).heap.size = w.heap.size + 1 + 1 := by simp
 unfold rsC zero5 at HB0 hs0
 unfold rsC
 go_enter Tryz.func91, Tryz.ntmps91
 go_wp2_with fail
 generalize (w.alloc (.cells #[.int .i64 st.pl, .int .i64 st.en, .slice (some ⟨rb, 0, none⟩) c.bs.size c.bs.size, .slice (some ⟨db, 0, none⟩) 8 8, .int .i64 st.vals] 140)).alloc (.cells #[.int .i64 0, .int .i64 0, .slice none 0 0, .slice none 0 0, .int .i64 0] 140) = W0 at *
 have HB1 := hide' (HB0.out.below ((Below.refl _ _).alloc (Nat.le_refl _) (.cells #[.int .u8 kk, .int .i64 n, .int .i64 x.b, .int .i64 x.r, .int .i64 x.d, .int .i64 x.pl, .int .i64 (b + x.nx), .int .i64 x.rl, .int .i64 0] 132)))
 have HX1 := hide' (Blk.new W0 #[.int .u8 kk, .int .i64 n, .int .i64 x.b, .int .i64 x.r, .int .i64 x.d, .int .i64 x.pl, .int .i64 (b + x.nx), .int .i64 x.rl, .int .i64 0] 132)
 rw [hs0] at HX1
 have hs1 : (W0.alloc (.cells #[.int .u8 kk, .int .i64 n, .int .i64 x.b, .int .i64 x.r, .int .i64 x.d, .int .i64 x.pl, .int .i64 (b + x.nx), .int .i64 x.rl, .int .i64 0] 132)).heap.size = w.heap.size + 3 := by simp; omega
 generalize W0.alloc (.cells #[.int .u8 kk, .int .i64 n, .int .i64 x.b, .int .i64 x.r, .int .i64 x.d, .int .i64 x.pl, .int .i64 (b + x.nx), .int .i64 x.rl, .int .i64 0] 132) = W1 at *
 clear HB0 q0 q1 q2 q3 q4 q5 q6 q7 q8 c0 p0
 refine (reads_calls W1 _ st rb c.bs.size db n HB1.out.sa.rd i3 hbs i1 i2 (by omega)).mono ?_
 rintro e w2 ⟨hb2, hyes, hno⟩
 have HB2 := hide' (HB1.out.below hb2)
 have hX2 := HX1.out.below hb2 HX1.out.lt
 have hs2 := hb2.size
 have hl0 : w.heap.size < w2.heap.size := by omega
 have hl1 : w.heap.size + 1 < w2.heap.size := by omega
 have hl2 : w.heap.size + 1 + 1 < w2.heap.size := by omega
 have hl3 : c.pb < w2.heap.size := by omega
 have hl4 : ¬ w2.heap.size = c.pb := by omega
 have f1 : w2.cell? ⟨c.pb, 1, none⟩ = some (.string c.bs) := HB2.out.pg.cell 1
 obtain ⟨b0, b1, b2, b3, b4, _⟩ := HB2.out.box.five
 have x0 : w2.cell? ⟨w.heap.size + 1 + 1, 0, none⟩ = some (.int .u8 kk) := hX2.cell 0
 cases hcr : canRead st.rd st.pl st.en n
 · rw [hno hcr]
   rw [hcr] at HT
   clear hyes hno hcr
   unfold rsC
   go_wp2_with fail
   have HB3 := hide' (HB2.out.below ((Below.refl _ _).alloc (Nat.le_refl _) (.cells #[.int .i64 st.pl, .int .i64 st.en, .slice (some ⟨rb, 0, none⟩) c.bs.size c.bs.size, .slice (some ⟨db, 0, none⟩) 8 8, .int .i64 st.vals] 140)))
   refine (fails_calls _ c.pb c.gb c.bs fuel c.N far 0 st.pl st rb c.bs.size db HB3.out.pg).mono ?_
   rintro e w4 ⟨rfl, hp4, hf4⟩
   obtain ⟨g1, g2, g3, g4⟩ := HB3.out.next hf4 hp4
   obtain ⟨z0, z1, z2, z3, z4, zf⟩ := g4.five
   have HF4 := hide' g1
   have HP4 := hide' hp4
   clear g1 g2 g3 g4 hp4 hf4
   unfold rsR rsC
   go_wp2_with fail
   refine bodyPost_ret (v := .tuple #[.agg (rsC st rb c.bs.size db), .string ⟨#[]⟩, .bool false]) (by simp [results, Tryz.results91, go_sem, rsC, z0, z1, z2, z3, z4]) rfl ?_
   rw [HT.out]
   simp only [Bool.false_eq_true, if_false]
   exact RPost.fail (HF4.out.set5 (b := w.heap.size + 1) (by omega) _ _ _ _ _) rfl (Blk.other5 HP4.out (b := w.heap.size + 1) (by omega) _ _ _ _ _)
 · obtain ⟨rb', he, hrb', hrl'⟩ := hyes hcr
   rw [he]
   rw [hcr] at HT
   have HR' := hide' hrb'
   have hen3 : st.pl + n ≤ c.bs.size := by have := canRead_le hcr; omega
   clear hyes hno hcr hrb'
   have HB3 := hide' (HB2.out.below ((Below.refl _ _).alloc (Nat.le_refl _) (.cells (rsC (readS st n) rb' c.bs.size db) 140)))
   have HU3 := hide' (Blk.new w2 (rsC (readS st n) rb' c.bs.size db) 140)
   unfold rsC readS at HB3 HU3
   simp only [Int.natCast_add] at HB3 HU3
   unfold rsC readS
   go_wp2_with fail
   have HX3 := hide' (Blk.alloc hX2 (.cells #[.int .i64 ((st.pl : Int) + (n : Int)), .int .i64 st.en, .slice (some ⟨rb', 0, none⟩) c.bs.size c.bs.size, .slice (some ⟨db, 0, none⟩) 8 8, .int .i64 st.vals] 140))
   have HR3 := hide' (Blk.alloc HR'.out (.cells #[.int .i64 ((st.pl : Int) + (n : Int)), .int .i64 st.en, .slice (some ⟨rb', 0, none⟩) c.bs.size c.bs.size, .slice (some ⟨db, 0, none⟩) 8 8, .int .i64 st.vals] 140))
   generalize w2.alloc (.cells #[.int .i64 ((st.pl : Int) + (n : Int)), .int .i64 st.en, .slice (some ⟨rb', 0, none⟩) c.bs.size c.bs.size, .slice (some ⟨db, 0, none⟩) 8 8, .int .i64 st.vals] 140) = W3 at *
   have u0 : W3.cell? ⟨w2.heap.size, 0, none⟩ = some (.int .i64 ((st.pl : Int) + (n : Int))) := HU3.out.cell 0
   have v0 : W3.cell? ⟨w.heap.size, 0, none⟩ = some (.int .i64 st.pl) := HB3.out.box.cell 0
   have k1 : W3.cell? ⟨c.pb, 1, none⟩ = some (.string c.bs) := HB3.out.pg.cell 1
   have y0 : W3.cell? ⟨w.heap.size + 1 + 1, 0, none⟩ = some (.int .u8 kk) := HX3.out.cell 0
   rcases hkk with hkk | hkk
   all_goals
    rw [hkk] at y0 hh0
    clear b0 b1 b2 b3 b4 f1 x0
    go_quiet (fail)
    go_wp2_with fail
    refine (value_any x (c.bs.extract st.pl (st.pl + n)) (by rw [ByteArray.size_extract]; omega) _ (by rw [HCC.out, hkk]; rfl) _).mono ?_
    rintro e w9 ⟨rfl, rfl⟩
    generalize numT x (c.bs.extract st.pl (st.pl + n)) = vv at *
    have hvv : vv < 4294967296 := HV.out
    go_wp2_with (first
     | (go_at_call 85; refine (hidesB_calls _ _).mono ?_; rintro e w9 ⟨rfl, rfl⟩))
    have HU := hide' (fun (W : World) (h : Blk W w2.heap.size #[.int .i64 ((st.pl : Int) + (n : Int)), .int .i64 st.en, .slice (some ⟨rb', 0, none⟩) c.bs.size c.bs.size, .slice (some ⟨db, 0, none⟩) 8 8, .int .i64 st.vals] 140) => (⟨h.cell 0, h.cell 1, h.cell 2, h.cell 3, h.cell 4⟩ : U5 W w2.heap.size (.int .i64 ((st.pl : Int) + (n : Int))) (.int .i64 st.en) (.slice (some ⟨rb', 0, none⟩) c.bs.size c.bs.size) (.slice (some ⟨db, 0, none⟩) 8 8) (.int .i64 st.vals)))
    refine wp_region_seg (fun W => U5 W w2.heap.size (.int .i64 ((st.pl : Int) + (n : Int))) (.int .i64 st.en) (.slice (some ⟨rb', 0, none⟩) c.bs.size c.bs.size) (.slice (some ⟨db, 0, none⟩) 8 8) (.int .i64 st.vals)) [([0, 1, 2], 3), ([], 4), ([5, 6, 7], 8), ([], 9), ([], 10)] rfl (by kernel_rfl) (fun _ _ d _ _ h => by cases d <;> exact h) (HU.out _ HU3.out) ?_
    simp only [wpSeg, List.filterMap_cons, List.filterMap_nil, List.getElem?_toArray, List.getElem?_cons_zero, List.getElem?_cons_succ]
    refine wpX_step _ rfl (fun W hW => rfl) ?_
    refine wpX_step (.agg #[.int .i64 ((st.pl : Int) + (n : Int)), .int .i64 st.en, .slice (some ⟨rb', 0, none⟩) c.bs.size c.bs.size, .slice (some ⟨db, 0, none⟩) 8 8, .int .i64 st.vals]) rfl (fun W hW => by obtain ⟨h0, h1, h2, h3, h4⟩ := hW; go_simp) ?_
    refine wpX_step _ rfl (fun W hW => rfl) ?_
    refine wpX_nil ⟨_, rfl, rfl, ?_⟩
    unfold Oper.wp
    go_simp
    refine (decimal_calls vv hvv _).mono ?_
    rintro e w4 ⟨rfl, m4, hw4⟩
    have HB4 : Hid (BAt c w st rb db fuel far w4) := by
     have h : BAt c w st rb db fuel far w4 := by rw [hw4]; exact ((HB3.out.drewN nq).drewN 1).drewN m4
     exact h
    have HU4 : Hid (Blk w4 w2.heap.size #[.int .i64 ((st.pl : Int) + (n : Int)), .int .i64 st.en, .slice (some ⟨rb', 0, none⟩) c.bs.size c.bs.size, .slice (some ⟨db, 0, none⟩) 8 8, .int .i64 st.vals] 140) := by rw [hw4]; exact HU3.out
    have HR4 : Hid (Blk w4 rb' (rdC (readS st n).rd) 4) := by rw [hw4]; exact HR3.out
    have hs4 : w2.heap.size < w4.heap.size := HU4.out.lt
    clear hw4
    refine ⟨HU.out _ HU4.out, ?_⟩
    refine wpX_nil ⟨_, rfl, rfl, ?_⟩
    unfold Oper.wp
    go_simp
    have hcall := made_calls' w4 c.pb c.gb c.bs fuel c.N far 0 (readS st n) rb' c.bs.size db (decT vv) HB4.out.pg hN i4
    unfold rsC readS at hcall
    simp only [Int.natCast_add] at hcall
    refine hcall.mono ?_
    clear hcall
    rintro e w5 ⟨he5, hp5, hf5⟩
    obtain ⟨g1, g2, g3, g4⟩ := HB4.out.next hf5 hp5
    have hU5 := hf5.blk HU4.out HU4.out.lt (by omega)
    have hR5 := hf5.blk HR4.out HR4.out.lt (blk_ne HR4.out HB4.out.pg (by decide))
    obtain ⟨s', t', ok', hform⟩ := madeR_form c.N 0 (readS st n) rb' c.bs.size db (decT vv)
    have hD5 := g2.dp
    have HPost : Hid (RPost c w (bytesT c.bs c.N x q fuel far st) (rsR s' rb' c.bs.size db t' ok') (st5 w5 (w.heap.size + 1) (.int .i64 s'.pl) (.int .i64 s'.en) (.slice (some ⟨rb', 0, none⟩) c.bs.size c.bs.size) (.slice (some ⟨db, 0, none⟩) 8 8) (.int .i64 s'.vals))) := by
     have h : RPost c w (bytesT c.bs c.N x q fuel far st) (rsR s' rb' c.bs.size db t' ok') (st5 w5 (w.heap.size + 1) (.int .i64 s'.pl) (.int .i64 s'.en) (.slice (some ⟨rb', 0, none⟩) c.bs.size c.bs.size) (.slice (some ⟨db, 0, none⟩) 8 8) (.int .i64 s'.vals)) := by
      rw [HT.out, if_pos trivial]
      refine RPost.made (st := readS st n) (rb := rb') (db := db) (g1.set5 (b := w.heap.size + 1) (by omega) _ _ _ _ _) hform.symm (Blk.other5 hp5 (b := w.heap.size + 1) (by omega) _ _ _ _ _) ⟨Blk.other5 hR5 (b := w.heap.size + 1) (by omega) _ _ _ _ _, Blk.other5 hD5 (b := w.heap.size + 1) (fun e => ?_) _ _ _ _ _, ?_, g2.dne⟩
      · exact blk_ne hD5 g4 (by decide) e
      · exact blk_ne hR5 hp5 (by decide)
     exact h
    have he6 : e = rsR s' rb' c.bs.size db t' ok' := he5.trans hform
    subst he6
    have HU5b := hide' (Blk.other5 hU5 (b := w.heap.size + 1) (by omega) (.int .i64 s'.pl) (.int .i64 s'.en) (.slice (some ⟨rb', 0, none⟩) c.bs.size c.bs.size) (.slice (some ⟨db, 0, none⟩) 8 8) (.int .i64 s'.vals))
    have HU5 := hide' hU5
    obtain ⟨z0, z1, z2, z3, z4, zf⟩ := g4.five
    clear g1 g2 g3 g4 hp5 hf5 hU5 hR5 hD5 hform he5
    unfold rsR rsC
    simp only
    refine ⟨HU.out _ HU5.out, ?_⟩
    refine wpX_step (.agg #[.int .i64 s'.pl, .int .i64 s'.en, .slice (some ⟨rb', 0, none⟩) c.bs.size c.bs.size, .slice (some ⟨db, 0, none⟩) 8 8, .int .i64 s'.vals]) rfl (fun W hW => by go_simp) ?_
    refine wpX_step (.string ⟨t'.toArray⟩) rfl (fun W hW => by go_simp) ?_
    refine wpX_step (.bool ok') rfl (fun W hW => by go_simp) ?_
    refine wpX_nil ⟨_, rfl, rfl, ?_⟩
    unfold Oper.wp
    go_simp
    refine ⟨HU.out _ HU5b.out, ?_⟩
    refine wpX_nil ⟨_, rfl, rfl, ?_⟩
    unfold Oper.wp
    go_simp
    refine ⟨HU.out _ HU5b.out, ?_⟩
    refine wpX_nil ⟨_, rfl, rfl, ?_⟩
    unfold Oper.wp
    go_simp
    refine ⟨HU.out _ HU5b.out, ?_⟩
    go_wp2_with fail
    refine bodyPost_ret (v := .tuple #[.agg (rsC s' rb' c.bs.size db), .string ⟨t'.toArray⟩, .bool ok']) (by simp [results, Tryz.results91, go_sem, rsC, z0, z1, z2, z3, z4]) rfl ?_
    exact HPost.out
end Go.Proofs.YtmlkhhhjdpbhfaaGreatDoor

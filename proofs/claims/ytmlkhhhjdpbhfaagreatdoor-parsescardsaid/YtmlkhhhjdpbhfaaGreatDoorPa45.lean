import Derived.Test.YtmlkhhhjdpbhfaaGreatDoorPa39
namespace Go.Proofs.YtmlkhhhjdpbhfaaGreatDoor
open Go.RowKit
set_option maxRecDepth 100000 in
set_option maxHeartbeats 1000000 in
theorem bytes_hid (c : Rx) (hc : RxOk c) (w : World) (st : PS) (rb db fuel far : Nat) (hp : RPre c w st rb db fuel far) (b : Nat) (x : It) (r : List It) (ha : At c.its b (x :: r)) (hx : ItR x) (q : Bool) (kk : Int) (hcc : x.c = kk) (hkk : kk = 104 ∨ kk = 107) :
 Calls Tryz.prog 91 #[.pointer (some ⟨c.pb, 0, none⟩), .int .i64 b, .agg (rsC st rb c.bs.size db), .bool q] w fun e w' => RPost c w (bytesT c.bs c.N x q fuel far st) e w' := by
 have hG := hp.grm hc
 obtain ⟨q0, q1, q2, q3, q4, q5, q6, q7, q8⟩ := hG.nine ha
 have c0 : w.cell? ⟨c.gb, 0, none⟩ = some (.slice (some ⟨c.g, 0, none⟩) c.its.length c.cap) := hG.top
 have p0 : w.cell? ⟨c.pb, 0, none⟩ = some (.pointer (some ⟨c.gb, 0, none⟩)) := hp.pg.cell 0
 have hgl := hG.lt
 have hgbl := hG.blk.lt
 have hpl := hp.pg.lt
 have hbl : b < c.its.length := by have := ha.le; simp at this; omega
 have hlen := hc.len
 have hbs := hc.bs
 have i1 := hp.inv.pl
 have i2 := hp.inv.en
 have i3 := hp.inv.rd
 have i4 := hp.inv.vals
 have hN := hc.N
 rw [hcc] at q0
 have hxw := hx.w (by rw [hcc]; rcases hkk with rfl | rfl <;> rfl)
 have hn : lenT x st = x.w.toNat := by unfold lenT; rw [if_neg (by omega), if_neg (by omega), if_neg (by omega)]
 have hni : x.w = ((lenT x st : Nat) : Int) := by rw [hn]; omega
 have hn4 : lenT x st ≤ 4 := by omega
 rw [hni] at q1
 obtain ⟨d, hd⟩ : ∃ d : Nat, x.d = (d : Int) := ⟨x.d.toNat, by have := hx.it.d (by rw [hcc]; rcases hkk with rfl | rfl <;> rfl); omega⟩
 have hd8 : d < 8 := by have := hx.it.d (by rw [hcc]; rcases hkk with rfl | rfl <;> rfl); omega
 have hd8' : (d : Int) < 8 := by omega
 rw [hd] at q4
 have HV := hide' (numT_lt x (c.bs.extract st.pl (st.pl + lenT x st)) (by have := extract_le c.bs st.pl (lenT x st); omega))
 have hh0 : hidesB kk = true := by rcases hkk with rfl | rfl <;> rfl
 have HT : Hid (bytesT c.bs c.N x q fuel far st = if canRead st.rd st.pl st.en (lenT x st) then fitO fuel far { readS st (lenT x st) with deps := fun k => if k = d then (numT x (c.bs.extract st.pl (st.pl + lenT x st)), lenT x st) else st.deps k } [] else failO fuel far st.pl st) := by
  have : bytesT c.bs c.N x q fuel far st = if canRead st.rd st.pl st.en (lenT x st) then fitO fuel far { readS st (lenT x st) with deps := fun k => if k = d then (numT x (c.bs.extract st.pl (st.pl + lenT x st)), lenT x st) else st.deps k } [] else failO fuel far st.pl st := by
   unfold bytesT; rw [if_neg (show ¬ x.c = 39 by omega), if_neg (show ¬ (x.c = 114 ∨ x.c = 46) by omega), if_pos (show hidesB x.c = true by rw [hcc]; rcases hkk with rfl | rfl <;> decide), show x.d.toNat = d by omega, ← hn]
  exact this
 generalize lenT x st = n at *
 have HP := hide' hp
 have HCC := hide' hcc
 have HC := hide' hc
 have HB0 := hide' (BAt.new hp)
 clear hG ha hp hc hcc hn hx hxw hni hd
 have hs0 : ((w.alloc (.cells (rsC st rb c.bs.size db) 140)).alloc (.cells zero5 140)).heap.size = w.heap.size + 1 + 1 := by simp
 unfold rsC zero5 at HB0 hs0
 unfold rsC
 go_enter Tryz.func91, Tryz.ntmps91
 go_wp2_with fail
 generalize (w.alloc (.cells #[.int .i64 st.pl, .int .i64 st.en, .slice (some ⟨rb, 0, none⟩) c.bs.size c.bs.size, .slice (some ⟨db, 0, none⟩) 8 8, .int .i64 st.vals] 140)).alloc (.cells #[.int .i64 0, .int .i64 0, .slice none 0 0, .slice none 0 0, .int .i64 0] 140) = W0 at *
 have HB1 := hide' (HB0.out.below ((Below.refl _ _).alloc (Nat.le_refl _) (.cells #[.int .u8 kk, .int .i64 n, .int .i64 x.b, .int .i64 x.r, .int .i64 d, .int .i64 x.pl, .int .i64 (b + x.nx), .int .i64 x.rl, .int .i64 0] 132)))
 have HX1 := hide' (Blk.new W0 #[.int .u8 kk, .int .i64 n, .int .i64 x.b, .int .i64 x.r, .int .i64 d, .int .i64 x.pl, .int .i64 (b + x.nx), .int .i64 x.rl, .int .i64 0] 132)
 rw [hs0] at HX1
 have hs1 : (W0.alloc (.cells #[.int .u8 kk, .int .i64 n, .int .i64 x.b, .int .i64 x.r, .int .i64 d, .int .i64 x.pl, .int .i64 (b + x.nx), .int .i64 x.rl, .int .i64 0] 132)).heap.size = w.heap.size + 3 := by simp; omega
 generalize W0.alloc (.cells #[.int .u8 kk, .int .i64 n, .int .i64 x.b, .int .i64 x.r, .int .i64 d, .int .i64 x.pl, .int .i64 (b + x.nx), .int .i64 x.rl, .int .i64 0] 132) = W1 at *
 clear HB0 q0 q1 q2 q3 q4 q5 q6 q7 q8 c0 p0
 refine (reads_calls W1 _ st rb c.bs.size db n HB1.out.sa.rd i3 hbs i1 i2 (by omega)).mono ?_
 rintro e w2 ⟨hb2, hyes, hno⟩
 have HB2 := hide' (HB1.out.below hb2)
 have hX2 := HX1.out.below hb2 HX1.out.lt
 have hs2 := hb2.size
 have hl0 : w.heap.size < w2.heap.size := by omega
 have hl1 : w.heap.size + 1 < w2.heap.size := by omega
 have hl2 : w.heap.size + 1 + 1 < w2.heap.size := by omega
 have hl3 : c.pb < w2.heap.size := by omega
 have hl4 : ¬ w2.heap.size = c.pb := by omega
 have f1 : w2.cell? ⟨c.pb, 1, none⟩ = some (.string c.bs) := HB2.out.pg.cell 1
 obtain ⟨b0, b1, b2, b3, b4, _⟩ := HB2.out.box.five
 have x0 : w2.cell? ⟨w.heap.size + 1 + 1, 0, none⟩ = some (.int .u8 kk) := hX2.cell 0
 cases hcr : canRead st.rd st.pl st.en n
 · rw [hno hcr]
   rw [hcr] at HT
   clear hyes hno hcr
   unfold rsC
   go_wp2_with fail
   have HB3 := hide' (HB2.out.below ((Below.refl _ _).alloc (Nat.le_refl _) (.cells #[.int .i64 st.pl, .int .i64 st.en, .slice (some ⟨rb, 0, none⟩) c.bs.size c.bs.size, .slice (some ⟨db, 0, none⟩) 8 8, .int .i64 st.vals] 140)))
   refine (fails_calls _ c.pb c.gb c.bs fuel c.N far 0 st.pl st rb c.bs.size db HB3.out.pg).mono ?_
   rintro e w4 ⟨rfl, hp4, hf4⟩
   obtain ⟨g1, g2, g3, g4⟩ := HB3.out.next hf4 hp4
   obtain ⟨z0, z1, z2, z3, z4, zf⟩ := g4.five
   have HF4 := hide' g1
   have HP4 := hide' hp4
   clear g1 g2 g3 g4 hp4 hf4
   unfold rsR rsC
   go_wp2_with fail
   refine bodyPost_ret (v := .tuple #[.agg (rsC st rb c.bs.size db), .string ⟨#[]⟩, .bool false]) (by simp [results, Tryz.results91, go_sem, rsC, z0, z1, z2, z3, z4]) rfl ?_
   rw [HT.out]
   simp only [Bool.false_eq_true, if_false]
   exact RPost.fail (HF4.out.set5 (b := w.heap.size + 1) (by omega) _ _ _ _ _) rfl (Blk.other5 HP4.out (b := w.heap.size + 1) (by omega) _ _ _ _ _)
 · obtain ⟨rb', he, hrb', hrl'⟩ := hyes hcr
   rw [he]
   rw [hcr] at HT
   have HR' := hide' hrb'
   have hen3 : st.pl + n ≤ c.bs.size := by have := canRead_le hcr; omega
   clear hyes hno hcr hrb'
   have HB3 := hide' (HB2.out.below ((Below.refl _ _).alloc (Nat.le_refl _) (.cells (rsC (readS st n) rb' c.bs.size db) 140)))
   have HU3 := hide' (Blk.new w2 (rsC (readS st n) rb' c.bs.size db) 140)
   unfold rsC readS at HB3 HU3
   simp only [Int.natCast_add] at HB3 HU3
   unfold rsC readS
   go_wp2_with fail
   have HX3 := hide' (Blk.alloc hX2 (.cells #[.int .i64 ((st.pl : Int) + (n : Int)), .int .i64 st.en, .slice (some ⟨rb', 0, none⟩) c.bs.size c.bs.size, .slice (some ⟨db, 0, none⟩) 8 8, .int .i64 st.vals] 140))
   have HR3 := hide' (Blk.alloc HR'.out (.cells #[.int .i64 ((st.pl : Int) + (n : Int)), .int .i64 st.en, .slice (some ⟨rb', 0, none⟩) c.bs.size c.bs.size, .slice (some ⟨db, 0, none⟩) 8 8, .int .i64 st.vals] 140))
   generalize w2.alloc (.cells #[.int .i64 ((st.pl : Int) + (n : Int)), .int .i64 st.en, .slice (some ⟨rb', 0, none⟩) c.bs.size c.bs.size, .slice (some ⟨db, 0, none⟩) 8 8, .int .i64 st.vals] 140) = W3 at *
   have u0 : W3.cell? ⟨w2.heap.size, 0, none⟩ = some (.int .i64 ((st.pl : Int) + (n : Int))) := HU3.out.cell 0
   have v0 : W3.cell? ⟨w.heap.size, 0, none⟩ = some (.int .i64 st.pl) := HB3.out.box.cell 0
   have k1 : W3.cell? ⟨c.pb, 1, none⟩ = some (.string c.bs) := HB3.out.pg.cell 1
   have y0 : W3.cell? ⟨w.heap.size + 1 + 1, 0, none⟩ = some (.int .u8 kk) := HX3.out.cell 0
   rcases hkk with hkk | hkk
   all_goals
    rw [hkk] at y0 hh0
    clear b0 b1 b2 b3 b4 f1 x0
    have y1 : W3.cell? ⟨w.heap.size + 1 + 1, 1, none⟩ = some (.int .i64 n) := HX3.out.cell 1
    have y4 : W3.cell? ⟨w.heap.size + 1 + 1, 4, none⟩ = some (.int .i64 d) := HX3.out.cell 4
    go_quiet (fail)
    go_wp2_with fail
    refine (value_any x (c.bs.extract st.pl (st.pl + n)) (by rw [ByteArray.size_extract]; omega) _ (by rw [HCC.out, hkk]; rfl) _).mono ?_
    rintro e w9 ⟨rfl, rfl⟩
    generalize numT x (c.bs.extract st.pl (st.pl + n)) = vv at *
    have HB4 := hide' (HB3.out.drewN nq)
    have HU4 : Hid (Blk (W3.drewN nq) w2.heap.size #[.int .i64 ((st.pl : Int) + (n : Int)), .int .i64 st.en, .slice (some ⟨rb', 0, none⟩) c.bs.size c.bs.size, .slice (some ⟨db, 0, none⟩) 8 8, .int .i64 st.vals] 140) := HU3.out
    have HX4 : Hid (Blk (W3.drewN nq) (w.heap.size + 1 + 1) #[.int .u8 kk, .int .i64 n, .int .i64 x.b, .int .i64 x.r, .int .i64 d, .int .i64 x.pl, .int .i64 (b + x.nx), .int .i64 x.rl, .int .i64 0] 132) := HX3.out
    have HR4 : Hid (Blk (W3.drewN nq) rb' (rdC (readS st n).rd) 4) := HR3.out
    clear u0 v0 k1 y0 y1 y4 HB3 HU3 HX3 HR3
    generalize W3.drewN nq = W4 at *
    obtain ⟨W5, W6, hmk, hcp, hD6, hbel6, hs6, hbel5⟩ := deps_ready W4 db st.deps HB4.out.sa.dp
    have hcp3 := hcp 3
    have hU4l := HU4.out.lt
    have HU6 := hide' (HU4.out.below hbel6 hU4l)
    have HX6 := hide' (HX4.out.below hbel6 HX4.out.lt)
    have HR6 := hide' (HR4.out.below hbel6 HR4.out.lt)
    have HB6 := hide' (HB4.out.below hbel6)
    have HD6 := hide' hD6
    have u3 : W5.cell? ⟨w2.heap.size, 3, none⟩ = some (.slice (some ⟨db, 0, none⟩) 8 8) := (HU4.out.below hbel5 hU4l).cell 3
    have x04 : W4.cell? ⟨w.heap.size + 1 + 1, 0, none⟩ = some (.int .u8 kk) := HX4.out.cell 0
    have y1 : W6.cell? ⟨w.heap.size + 1 + 1, 1, none⟩ = some (.int .i64 n) := HX6.out.cell 1
    have y4 : W6.cell? ⟨w.heap.size + 1 + 1, 4, none⟩ = some (.int .i64 d) := HX6.out.cell 4
    have d0 : W6.cell? ⟨W4.heap.size, d * 2, none⟩ = some (.int .i64 ((st.deps d).1 : Int)) := by have := HD6.out.cell (2 * d); rw [(dpC_v st.deps d hd8).1] at this; rw [Nat.mul_comm d 2]; exact this
    have d1 : W6.cell? ⟨W4.heap.size, d * 2 + 1, none⟩ = some (.int .i64 ((st.deps d).2 : Int)) := by have := HD6.out.cell (2 * d + 1); rw [(dpC_v st.deps d hd8).2] at this; rw [Nat.mul_comm d 2]; exact this
    have df : ∀ j, W6.frozen? ⟨W4.heap.size, j, none⟩ = false := fun j => HD6.out.frozen j
    obtain ⟨e0, e1, e2, e3, e4, ef⟩ := HU6.out.five
    obtain ⟨z0, z1, z2, z3, z4, zf⟩ := HB6.out.res.five
    have hn1 : ¬ W4.heap.size = w.heap.size + 1 := by omega
    have hn2 : ¬ W4.heap.size = w.heap.size + 1 + 1 := by omega
    have hn3 : ¬ W4.heap.size = w2.heap.size := by omega
    have hn4' : ¬ w2.heap.size = w.heap.size + 1 := by omega
    have hn5 : ¬ w2.heap.size = w.heap.size + 1 + 1 := by omega
    clear hcp hD6 hbel6 hbel5
    go_wp2_with (first
     | (go_at_call 85; refine (hidesB_calls _ _).mono ?_; rintro e w9 ⟨rfl, rfl⟩))
    have hRl : rb' < w9.heap.size := by have := HR4.out.lt; omega
    have hRU : rb' ≠ w2.heap.size := blk_ne HR6.out HU6.out (by decide)
    have hRZ : rb' ≠ w.heap.size + 1 := blk_ne HR6.out HB6.out.res (by decide)
    have hRP : rb' ≠ c.pb := blk_ne HR6.out HB6.out.pg (by decide)
    have hsz := HB4.out.fr.size
    have hD7 := (HD6.out.set (d * 2) (.int .i64 vv)).set (d * 2 + 1) (.int .i64 n)
    rw [dpC_set st.deps d hd8] at hD7
    refine bodyPost_ret (v := .tuple #[.agg (rsC { readS st n with deps := fun k => if k = d then (vv, n) else st.deps k } rb' c.bs.size w9.heap.size), .string ⟨#[]⟩, .bool true]) (by simp [results, Tryz.results91, go_sem, rsC, readS, z0, z1, z2, z3, z4]) rfl ?_
    rw [HT.out, if_pos trivial]
    refine RPost.fit (rb := rb') (db := w9.heap.size) ((((HB6.out.fr.setCell (p := ⟨w9.heap.size, d * 2, none⟩) (Or.inr (by simp only; omega)) _).setCell (p := ⟨w9.heap.size, d * 2 + 1, none⟩) (Or.inr (by simp only; omega)) _).setCell (p := ⟨w2.heap.size, 3, none⟩) (Or.inr (by simp only; omega)) _).set5 (b := w.heap.size + 1) (by omega) _ _ _ _ _) rfl ?_ ⟨?_, ?_, hRP, by omega⟩
    · exact Blk.other5 (((Blk.setOther HB6.out.pg ⟨w9.heap.size, d * 2, none⟩ (by simp only; omega) _).setOther ⟨w9.heap.size, d * 2 + 1, none⟩ (by simp only; omega) _).setOther ⟨w2.heap.size, 3, none⟩ (by simp only; omega) _) (b := w.heap.size + 1) (by omega) _ _ _ _ _
    · exact Blk.other5 (((HR6.out.setOther ⟨w9.heap.size, d * 2, none⟩ (by simp only; omega) _).setOther ⟨w9.heap.size, d * 2 + 1, none⟩ (by simp only; omega) _).setOther ⟨w2.heap.size, 3, none⟩ hRU _) (b := w.heap.size + 1) hRZ _ _ _ _ _
    · exact Blk.other5 (hD7.setOther ⟨w2.heap.size, 3, none⟩ hn3 _) (b := w.heap.size + 1) hn1 _ _ _ _ _
theorem ext_byte (s : ByteArray) (a : Nat) (h : a + 1 ≤ s.size) (bb : ByteArray) (e : bb = s.extract a (a + 1)) : ∃ h0 : 0 < bb.size, (bb[0]'h0).toNat = bn s a := by
 subst e
 have h0 : 0 < (s.extract a (a + 1)).size := by rw [ByteArray.size_extract]; omega
 refine ⟨h0, ?_⟩
 have h1 := bt_in s a (by omega)
 have h2 := bn_cast s a
 rw [h1] at h2
 have h3 : (s.extract a (a + 1))[0] = s[a]'(by omega) := by simp [ByteArray.getElem_extract]
 rw [h3]
 omega
set_option maxRecDepth 100000 in
set_option maxHeartbeats 1000000 in
theorem bytes_fix (c : Rx) (hc : RxOk c) (w : World) (st : PS) (rb db fuel far : Nat) (hp : RPre c w st rb db fuel far) (b : Nat) (x : It) (r : List It) (ha : At c.its b (x :: r)) (hx : ItR x) (hcc : x.c = 39) (q : Bool) :
 Calls Tryz.prog 91 #[.pointer (some ⟨c.pb, 0, none⟩), .int .i64 b, .agg (rsC st rb c.bs.size db), .bool q] w fun e w' => RPost c w (bytesT c.bs c.N x q fuel far st) e w' := by
 have hG := hp.grm hc
 obtain ⟨q0, q1, q2, q3, q4, q5, q6, q7, q8⟩ := hG.nine ha
 have c0 : w.cell? ⟨c.gb, 0, none⟩ = some (.slice (some ⟨c.g, 0, none⟩) c.its.length c.cap) := hG.top
 have p0 : w.cell? ⟨c.pb, 0, none⟩ = some (.pointer (some ⟨c.gb, 0, none⟩)) := hp.pg.cell 0
 have hgl := hG.lt
 have hgbl := hG.blk.lt
 have hpl := hp.pg.lt
 have hbl : b < c.its.length := by have := ha.le; simp at this; omega
 have hlen := hc.len
 have hbs := hc.bs
 have i1 := hp.inv.pl
 have i2 := hp.inv.en
 have i3 := hp.inv.rd
 have i4 := hp.inv.vals
 have hN := hc.N
 rw [hcc] at q0
 have hxb := hx.b hcc
 have HT : Hid (bytesT c.bs c.N x q fuel far st = if canRead st.rd st.pl st.en 1 then (if (bn c.bs st.pl : Int) ≠ x.b then failO fuel far st.pl st else if q then fitO fuel far (readS st 1) [] else madeO c.N fuel far (readS st 1) [45]) else failO fuel far st.pl st) := by
  have : bytesT c.bs c.N x q fuel far st = if canRead st.rd st.pl st.en 1 then (if (bn c.bs st.pl : Int) ≠ x.b then failO fuel far st.pl st else if q then fitO fuel far (readS st 1) [] else madeO c.N fuel far (readS st 1) [45]) else failO fuel far st.pl st := by
   unfold bytesT lenT; simp only [if_pos hcc]
  exact this
 have HP := hide' hp
 have HC := hide' hc
 have HB0 := hide' (BAt.new hp)
 clear hG ha hp hc hcc hx
 have hs0 : ((w.alloc (.cells (rsC st rb c.bs.size db) 140)).alloc (.cells zero5 140)).heap.size = w.heap.size + 1 + 1 := by simp
 unfold rsC zero5 at HB0 hs0
 unfold rsC
 go_enter Tryz.func91, Tryz.ntmps91
 go_wp2_with fail
 generalize (w.alloc (.cells #[.int .i64 st.pl, .int .i64 st.en, .slice (some ⟨rb, 0, none⟩) c.bs.size c.bs.size, .slice (some ⟨db, 0, none⟩) 8 8, .int .i64 st.vals] 140)).alloc (.cells #[.int .i64 0, .int .i64 0, .slice none 0 0, .slice none 0 0, .int .i64 0] 140) = W0 at *
 have HB1 := hide' (HB0.out.below ((Below.refl _ _).alloc (Nat.le_refl _) (.cells #[.int .u8 39, .int .i64 x.w, .int .i64 x.b, .int .i64 x.r, .int .i64 x.d, .int .i64 x.pl, .int .i64 (b + x.nx), .int .i64 x.rl, .int .i64 0] 132)))
 have HX1 := hide' (Blk.new W0 #[.int .u8 39, .int .i64 x.w, .int .i64 x.b, .int .i64 x.r, .int .i64 x.d, .int .i64 x.pl, .int .i64 (b + x.nx), .int .i64 x.rl, .int .i64 0] 132)
 rw [hs0] at HX1
 have hs1 : (W0.alloc (.cells #[.int .u8 39, .int .i64 x.w, .int .i64 x.b, .int .i64 x.r, .int .i64 x.d, .int .i64 x.pl, .int .i64 (b + x.nx), .int .i64 x.rl, .int .i64 0] 132)).heap.size = w.heap.size + 3 := by simp; omega
 generalize W0.alloc (.cells #[.int .u8 39, .int .i64 x.w, .int .i64 x.b, .int .i64 x.r, .int .i64 x.d, .int .i64 x.pl, .int .i64 (b + x.nx), .int .i64 x.rl, .int .i64 0] 132) = W1 at *
 clear HB0 q0 q1 q2 q3 q4 q5 q6 q7 q8 c0 p0
 refine (reads_calls W1 _ st rb c.bs.size db 1 HB1.out.sa.rd i3 hbs i1 i2 (by omega)).mono ?_
 rintro e w2 ⟨hb2, hyes, hno⟩
 have HB2 := hide' (HB1.out.below hb2)
 have hX2 := HX1.out.below hb2 HX1.out.lt
 have hs2 := hb2.size
 have hl0 : w.heap.size < w2.heap.size := by omega
 have hl1 : w.heap.size + 1 < w2.heap.size := by omega
 have hl2 : w.heap.size + 1 + 1 < w2.heap.size := by omega
 have hl3 : c.pb < w2.heap.size := by omega
 have hl4 : ¬ w2.heap.size = c.pb := by omega
 have f1 : w2.cell? ⟨c.pb, 1, none⟩ = some (.string c.bs) := HB2.out.pg.cell 1
 obtain ⟨b0, b1, b2, b3, b4, _⟩ := HB2.out.box.five
 have x0 : w2.cell? ⟨w.heap.size + 1 + 1, 0, none⟩ = some (.int .u8 39) := hX2.cell 0
 cases hcr : canRead st.rd st.pl st.en 1
 · rw [hno hcr]
   rw [hcr] at HT
   clear hyes hno hcr
   unfold rsC
   go_wp2_with fail
   have HB3 := hide' (HB2.out.below ((Below.refl _ _).alloc (Nat.le_refl _) (.cells #[.int .i64 st.pl, .int .i64 st.en, .slice (some ⟨rb, 0, none⟩) c.bs.size c.bs.size, .slice (some ⟨db, 0, none⟩) 8 8, .int .i64 st.vals] 140)))
   refine (fails_calls _ c.pb c.gb c.bs fuel c.N far 0 st.pl st rb c.bs.size db HB3.out.pg).mono ?_
   rintro e w4 ⟨rfl, hp4, hf4⟩
   obtain ⟨g1, g2, g3, g4⟩ := HB3.out.next hf4 hp4
   obtain ⟨z0, z1, z2, z3, z4, zf⟩ := g4.five
   have HF4 := hide' g1
   have HP4 := hide' hp4
   clear g1 g2 g3 g4 hp4 hf4
   unfold rsR rsC
   go_wp2_with fail
   refine bodyPost_ret (v := .tuple #[.agg (rsC st rb c.bs.size db), .string ⟨#[]⟩, .bool false]) (by simp [results, Tryz.results91, go_sem, rsC, z0, z1, z2, z3, z4]) rfl ?_
   rw [HT.out]
   simp only [Bool.false_eq_true, if_false]
   exact RPost.fail (HF4.out.set5 (b := w.heap.size + 1) (by omega) _ _ _ _ _) rfl (Blk.other5 HP4.out (b := w.heap.size + 1) (by omega) _ _ _ _ _)
 · obtain ⟨rb', he, hrb', hrl'⟩ := hyes hcr
   rw [he]
   rw [hcr] at HT
   have HR' := hide' hrb'
   have hen3 : st.pl + 1 ≤ c.bs.size := by have := canRead_le hcr; omega
   clear hyes hno hcr hrb'
   have HB3 := hide' (HB2.out.below ((Below.refl _ _).alloc (Nat.le_refl _) (.cells (rsC (readS st 1) rb' c.bs.size db) 140)))
   have HU3 := hide' (Blk.new w2 (rsC (readS st 1) rb' c.bs.size db) 140)
   unfold rsC readS at HB3 HU3
   simp only [Int.natCast_add] at HB3 HU3
   unfold rsC readS
   go_wp2_with fail
   have HX3 := hide' (Blk.alloc hX2 (.cells #[.int .i64 ((st.pl : Int) + 1), .int .i64 st.en, .slice (some ⟨rb', 0, none⟩) c.bs.size c.bs.size, .slice (some ⟨db, 0, none⟩) 8 8, .int .i64 st.vals] 140))
   have HR3 := hide' (Blk.alloc HR'.out (.cells #[.int .i64 ((st.pl : Int) + 1), .int .i64 st.en, .slice (some ⟨rb', 0, none⟩) c.bs.size c.bs.size, .slice (some ⟨db, 0, none⟩) 8 8, .int .i64 st.vals] 140))
   generalize w2.alloc (.cells #[.int .i64 ((st.pl : Int) + 1), .int .i64 st.en, .slice (some ⟨rb', 0, none⟩) c.bs.size c.bs.size, .slice (some ⟨db, 0, none⟩) 8 8, .int .i64 st.vals] 140) = W3 at *
   have u0 : W3.cell? ⟨w2.heap.size, 0, none⟩ = some (.int .i64 ((st.pl : Int) + 1)) := HU3.out.cell 0
   have v0 : W3.cell? ⟨w.heap.size, 0, none⟩ = some (.int .i64 st.pl) := HB3.out.box.cell 0
   have k1 : W3.cell? ⟨c.pb, 1, none⟩ = some (.string c.bs) := HB3.out.pg.cell 1
   have y0 : W3.cell? ⟨w.heap.size + 1 + 1, 0, none⟩ = some (.int .u8 39) := HX3.out.cell 0
   clear b0 b1 b2 b3 b4 f1 x0
   have y2 : W3.cell? ⟨w.heap.size + 1 + 1, 2, none⟩ = some (.int .i64 x.b) := HX3.out.cell 2
   go_quiet (fail)
   go_wp2_with fail
   have hbb : (c.bs.extract st.pl (st.pl + 1)).size = 1 := by rw [ByteArray.size_extract]; omega
   obtain ⟨h0, hv0⟩ := ext_byte c.bs st.pl hen3 _ rfl
   have hv8 := bn_lt c.bs st.pl
   generalize c.bs.extract st.pl (st.pl + 1) = bb at *
   generalize bn c.bs st.pl = bv at *
   have HB4 := hide' (HB3.out.drewN nq)
   have HU4 : Hid (Blk (W3.drewN nq) w2.heap.size #[.int .i64 ((st.pl : Int) + 1), .int .i64 st.en, .slice (some ⟨rb', 0, none⟩) c.bs.size c.bs.size, .slice (some ⟨db, 0, none⟩) 8 8, .int .i64 st.vals] 140) := HU3.out
   have HX4 : Hid (Blk (W3.drewN nq) (w.heap.size + 1 + 1) #[.int .u8 39, .int .i64 x.w, .int .i64 x.b, .int .i64 x.r, .int .i64 x.d, .int .i64 x.pl, .int .i64 (b + x.nx), .int .i64 x.rl, .int .i64 0] 132) := HX3.out
   have HR4 : Hid (Blk (W3.drewN nq) rb' (rdC (readS st 1).rd) 4) := HR3.out
   clear u0 v0 k1 y0 y2 HB3 HU3 HX3 HR3
   generalize W3.drewN nq = W4 at *
   have y2 : W4.cell? ⟨w.heap.size + 1 + 1, 2, none⟩ = some (.int .i64 x.b) := HX4.out.cell 2
   have hU4l := HU4.out.lt
   obtain ⟨b0, b1, b2, b3, b4, _⟩ := HB4.out.box.five
   obtain ⟨e0, e1, e2, e3, e4, _⟩ := HU4.out.five
   obtain ⟨z0, z1, z2, z3, z4, zf⟩ := HB4.out.res.five
   have hRZ : rb' ≠ w.heap.size + 1 := blk_ne HR4.out HB4.out.res (by decide)
   have hRP : rb' ≠ c.pb := blk_ne HR4.out HB4.out.pg (by decide)
   have hDZ : db ≠ w.heap.size + 1 := blk_ne HB4.out.sa.dp HB4.out.res (by decide)
   by_cases hbx : (bv : Int) = x.b
   · rw [if_pos trivial, if_neg (fun h => h hbx)] at HT
     cases q with
     | true =>
      rw [if_pos rfl] at HT
      go_quiet (fail)
      go_wp2_with fail
      refine bodyPost_ret (v := .tuple #[.agg (rsC (readS st 1) rb' c.bs.size db), .string ⟨#[]⟩, .bool true]) (by simp [results, Tryz.results91, go_sem, rsC, readS, z0, z1, z2, z3, z4]) rfl ?_
      rw [HT.out]
      have HB5 := HB4.out.drewN nq
      exact RPost.fit (rb := rb') (db := db) (HB5.fr.set5 (b := w.heap.size + 1) (by omega) _ _ _ _ _) rfl (Blk.other5 HB5.pg (b := w.heap.size + 1) (by omega) _ _ _ _ _) ⟨Blk.other5 (blkN HR4.out nq) (b := w.heap.size + 1) hRZ _ _ _ _ _, Blk.other5 HB5.sa.dp (b := w.heap.size + 1) hDZ _ _ _ _ _, hRP, HB5.sa.dne⟩
     | false =>
      rw [if_neg (by simp)] at HT
      go_quiet (fail)
      go_wp2_with fail
      have HB5 := hide' (HB4.out.drewN nq)
      have hcall := made_calls' (W4.drewN nq) c.pb c.gb c.bs fuel c.N far 0 (readS st 1) rb' c.bs.size db [45] HB5.out.pg hN i4
      unfold rsC readS at hcall
      simp only [Int.natCast_add] at hcall
      refine hcall.mono ?_
      clear hcall
      rintro e w5 ⟨he5, hp5, hf5⟩
      obtain ⟨g1, g2, g3, g4⟩ := HB5.out.next hf5 hp5
      have hR5 := hf5.blk (blkN HR4.out nq) HR4.out.lt hRP
      obtain ⟨s', t', ok', hform⟩ := madeR_form c.N 0 (readS st 1) rb' c.bs.size db [45]
      have hD5 := g2.dp
      have HPost : Hid (RPost c w (bytesT c.bs c.N x false fuel far st) (rsR s' rb' c.bs.size db t' ok') (st5 w5 (w.heap.size + 1) (.int .i64 s'.pl) (.int .i64 s'.en) (.slice (some ⟨rb', 0, none⟩) c.bs.size c.bs.size) (.slice (some ⟨db, 0, none⟩) 8 8) (.int .i64 s'.vals))) := by
       have h : RPost c w (bytesT c.bs c.N x false fuel far st) (rsR s' rb' c.bs.size db t' ok') (st5 w5 (w.heap.size + 1) (.int .i64 s'.pl) (.int .i64 s'.en) (.slice (some ⟨rb', 0, none⟩) c.bs.size c.bs.size) (.slice (some ⟨db, 0, none⟩) 8 8) (.int .i64 s'.vals)) := by
        rw [HT.out]
        exact RPost.made (st := readS st 1) (rb := rb') (db := db) (g1.set5 (b := w.heap.size + 1) (by omega) _ _ _ _ _) hform.symm (Blk.other5 hp5 (b := w.heap.size + 1) (by omega) _ _ _ _ _) ⟨Blk.other5 hR5 (b := w.heap.size + 1) hRZ _ _ _ _ _, Blk.other5 hD5 (b := w.heap.size + 1) hDZ _ _ _ _ _, hRP, g2.dne⟩
       exact h
      have he6 : e = rsR s' rb' c.bs.size db t' ok' := he5.trans hform
      subst he6
      obtain ⟨zz0, zz1, zz2, zz3, zz4, zzf⟩ := g4.five
      clear g1 g2 g3 g4 hp5 hf5 hR5 hD5 hform he5
      unfold rsR rsC
      go_wp2_with fail
      refine bodyPost_ret (v := .tuple #[.agg (rsC s' rb' c.bs.size db), .string ⟨t'.toArray⟩, .bool ok']) (by simp [results, Tryz.results91, go_sem, rsC, zz0, zz1, zz2, zz3, zz4]) rfl ?_
      exact HPost.out
   · rw [if_pos trivial, if_pos hbx] at HT
     go_quiet (fail)
     go_wp2_with fail
     have HB5 := hide' (HB4.out.drewN nq)
     refine (fails_calls _ c.pb c.gb c.bs fuel c.N far 0 st.pl st rb c.bs.size db HB5.out.pg).mono ?_
     rintro e w5 ⟨rfl, hp5, hf5⟩
     obtain ⟨g1, g2, g3, g4⟩ := HB5.out.next hf5 hp5
     obtain ⟨zz0, zz1, zz2, zz3, zz4, zzf⟩ := g4.five
     have HF5 := hide' g1
     have HP5 := hide' hp5
     clear g1 g2 g3 g4 hp5 hf5
     unfold rsR rsC
     go_wp2_with fail
     refine bodyPost_ret (v := .tuple #[.agg (rsC st rb c.bs.size db), .string ⟨#[]⟩, .bool false]) (by simp [results, Tryz.results91, go_sem, rsC, zz0, zz1, zz2, zz3, zz4]) rfl ?_
     rw [HT.out]
     exact RPost.fail (HF5.out.set5 (b := w.heap.size + 1) (by omega) _ _ _ _ _) rfl (Blk.other5 HP5.out (b := w.heap.size + 1) (by omega) _ _ _ _ _)
structure WAt (c : Rx) (w : World) (st : PS) (rb db fuel far : Nat) (xs : Array Value) (n kw : Nat) (us : PS) (W : World) : Prop where
 bat : BAt c w st rb db fuel far W
 part : Blk W (w.heap.size + 1 + 1) xs 132
 dep : Blk W (w.heap.size + 1 + 1 + 1) #[.int .i64 n, .int .i64 kw] 240
 ub : Blk W (w.heap.size + 1 + 1 + 1 + 1) (rsC us rb c.bs.size db) 140
theorem WAt.new {c : Rx} {w : World} {st us : PS} {rb db fuel far n kw : Nat} {xs : Array Value} {W0 : World} (h : BAt c w st rb db fuel far W0) (hs : W0.heap.size = w.heap.size + 1 + 1) :
 WAt c w st rb db fuel far xs n kw us (((W0.alloc (.cells xs 132)).alloc (.cells #[.int .i64 n, .int .i64 kw] 240)).alloc (.cells (rsC us rb c.bs.size db) 140)) := by
 have h1 := Blk.new W0 xs 132
 have h2 := Blk.new (W0.alloc (.cells xs 132)) #[.int .i64 n, .int .i64 kw] 240
 have h3 := Blk.new ((W0.alloc (.cells xs 132)).alloc (.cells #[.int .i64 n, .int .i64 kw] 240)) (rsC us rb c.bs.size db) 140
 have e1 : (W0.alloc (.cells xs 132)).heap.size = w.heap.size + 1 + 1 + 1 := by simp [hs]
 have e2 : ((W0.alloc (.cells xs 132)).alloc (.cells #[.int .i64 n, .int .i64 kw] 240)).heap.size = w.heap.size + 1 + 1 + 1 + 1 := by simp [hs]
 rw [hs] at h1
 rw [e1] at h2
 rw [e2] at h3
 exact ⟨((h.below ((Below.refl _ _).alloc (Nat.le_refl _) _)).below ((Below.refl _ _).alloc (Nat.le_refl _) _)).below ((Below.refl _ _).alloc (Nat.le_refl _) _), Blk.alloc (Blk.alloc h1 _) _, Blk.alloc h2 _, h3⟩
theorem WAt.drewN {c : Rx} {w : World} {st us : PS} {rb db fuel far n kw : Nat} {xs : Array Value} {W : World} (h : WAt c w st rb db fuel far xs n kw us W) (m : Nat) : WAt c w st rb db fuel far xs n kw us (W.drewN m) :=
 ⟨h.bat.drewN m, h.part, h.dep, h.ub⟩
theorem WAt.next {c : Rx} {w : World} {st us : PS} {rb db fuel far fuel' far' n kw : Nat} {xs : Array Value} {W W' : World} (h : WAt c w st rb db fuel far xs n kw us W) (hf : Fr W.heap.size c.pb W W') (hp : PgAt W' c.pb c.gb c.bs fuel' c.N far' 0) : WAt c w st rb db fuel' far' xs n kw us W' := by
 obtain ⟨g1, g2, g3, g4⟩ := h.bat.next hf hp
 have hl := h.bat.lt
 exact ⟨⟨g1, hp, g2, g3, g4, hl⟩, hf.blk h.part h.part.lt (by omega), hf.blk h.dep h.dep.lt (by omega), hf.blk h.ub h.ub.lt (by omega)⟩
theorem WAt.below {c : Rx} {w : World} {st us : PS} {rb db fuel far n kw : Nat} {xs : Array Value} {W W' : World} (h : WAt c w st rb db fuel far xs n kw us W) (hb : Below W.heap.size W W') : WAt c w st rb db fuel far xs n kw us W' :=
 ⟨h.bat.below hb, h.part.below hb h.part.lt, h.dep.below hb h.dep.lt, h.ub.below hb h.ub.lt⟩
theorem WAt.setU {c : Rx} {w : World} {st us : PS} {rb db fuel far n kw : Nat} {xs : Array Value} {W : World} (h : WAt c w st rb db fuel far xs n kw us W) (a e : Nat) :
 WAt c w st rb db fuel far xs n kw { us with pl := a, en := e } ((W.setCell ⟨w.heap.size + 1 + 1 + 1 + 1, 0, none⟩ (.int .i64 a)).setCell ⟨w.heap.size + 1 + 1 + 1 + 1, 1, none⟩ (.int .i64 e)) := by
 have hl := h.bat.lt
 have n1 : rb ≠ w.heap.size + 1 + 1 + 1 + 1 := blk_ne h.bat.sa.rd h.ub (by decide)
 have n2 : db ≠ w.heap.size + 1 + 1 + 1 + 1 := blk_ne h.bat.sa.dp h.ub (by decide)
 refine ⟨⟨(h.bat.fr.setCell (p := ⟨w.heap.size + 1 + 1 + 1 + 1, 0, none⟩) (Or.inr (by simp only; omega)) _).setCell (p := ⟨w.heap.size + 1 + 1 + 1 + 1, 1, none⟩) (Or.inr (by simp only; omega)) _, ?_, ⟨?_, ?_, h.bat.sa.rne, h.bat.sa.dne⟩, ?_, ?_, hl⟩, ?_, ?_, ?_⟩
 · exact Blk.setOther (Blk.setOther h.bat.pg ⟨w.heap.size + 1 + 1 + 1 + 1, 0, none⟩ (by simp only; omega) _) ⟨w.heap.size + 1 + 1 + 1 + 1, 1, none⟩ (by simp only; omega) _
 · exact Blk.setOther (Blk.setOther h.bat.sa.rd ⟨w.heap.size + 1 + 1 + 1 + 1, 0, none⟩ n1 _) ⟨w.heap.size + 1 + 1 + 1 + 1, 1, none⟩ n1 _
 · exact Blk.setOther (Blk.setOther h.bat.sa.dp ⟨w.heap.size + 1 + 1 + 1 + 1, 0, none⟩ n2 _) ⟨w.heap.size + 1 + 1 + 1 + 1, 1, none⟩ n2 _
 · exact Blk.setOther (Blk.setOther h.bat.box ⟨w.heap.size + 1 + 1 + 1 + 1, 0, none⟩ (by simp only; omega) _) ⟨w.heap.size + 1 + 1 + 1 + 1, 1, none⟩ (by simp only; omega) _
 · exact Blk.setOther (Blk.setOther h.bat.res ⟨w.heap.size + 1 + 1 + 1 + 1, 0, none⟩ (by simp only; omega) _) ⟨w.heap.size + 1 + 1 + 1 + 1, 1, none⟩ (by simp only; omega) _
 · exact Blk.setOther (Blk.setOther h.part ⟨w.heap.size + 1 + 1 + 1 + 1, 0, none⟩ (by simp only; omega) _) ⟨w.heap.size + 1 + 1 + 1 + 1, 1, none⟩ (by simp only; omega) _
 · exact Blk.setOther (Blk.setOther h.dep ⟨w.heap.size + 1 + 1 + 1 + 1, 0, none⟩ (by simp only; omega) _) ⟨w.heap.size + 1 + 1 + 1 + 1, 1, none⟩ (by simp only; omega) _
 · exact (h.ub.set 0 _).set 1 _
end Go.Proofs.YtmlkhhhjdpbhfaaGreatDoor

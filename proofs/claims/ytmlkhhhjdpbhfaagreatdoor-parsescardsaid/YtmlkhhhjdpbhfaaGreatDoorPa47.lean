import Derived.Test.YtmlkhhhjdpbhfaaGreatDoorPa45
import Derived.Test.YtmlkhhhjdpbhfaaGreatDoorPa43
import Derived.Test.YtmlkhhhjdpbhfaaGreatDoorPa44
import Derived.Test.YtmlkhhhjdpbhfaaGreatDoorPa46
import Derived.Test.YtmlkhhhjdpbhfaaGreatDoorPa22
namespace Go.Proofs.YtmlkhhhjdpbhfaaGreatDoor
open Go.RowKit
set_option maxRecDepth 100000 in
set_option maxHeartbeats 2000000 in
theorem within_at (c : Rx) (hc : RxOk c) (g : Nat) (ih : RTry c g) (w : World) (st : PS) (rb db fuel far : Nat) (hp : RPre c w st rb db fuel far) (b : Nat) (x : It) (r : List It) (f : Nat) (ctx : Bool) (ha : At c.its b (x :: r)) (hx : ItR x) (hcc : x.c = 64) (hcond : ¬ c.bs.size < (st.deps x.d.toNat).1) (htr : TrS f r) (hw : TrW c.R false ctx r) (hfu : fuel ≤ 100000) (hg : fuel < g) :
 Calls Tryz.prog 96 #[.pointer (some ⟨c.pb, 0, none⟩), .int .i64 b, .agg (rsC st rb c.bs.size db)] w fun e w' => RPost c w (atT (tryT c.G c.bs c.N g) c.bs (st.deps x.d.toNat).1 r fuel far st) e w' := by
 have hG := hp.grm hc
 obtain ⟨q0, q1, q2, q3, q4, q5, q6, q7, q8⟩ := hG.nine ha
 have c0 : w.cell? ⟨c.gb, 0, none⟩ = some (.slice (some ⟨c.g, 0, none⟩) c.its.length c.cap) := hG.top
 have p0 : w.cell? ⟨c.pb, 0, none⟩ = some (.pointer (some ⟨c.gb, 0, none⟩)) := hp.pg.cell 0
 have hgl := hG.lt
 have hgbl := hG.blk.lt
 have hpl := hp.pg.lt
 have hbl : b < c.its.length := by have := ha.le; simp at this; omega
 have hlen := hc.len
 have hbs := hc.bs
 have hN := hc.N
 have i1 := hp.inv.pl
 have i2 := hp.inv.en
 obtain ⟨d, hd⟩ : ∃ d : Nat, x.d = (d : Int) := ⟨x.d.toNat, by have := hx.it.d (by rw [hcc]; rfl); omega⟩
 have hd8 : d < 8 := by have := hx.it.d (by rw [hcc]; rfl); omega
 have hd8' : (d : Int) < 8 := by omega
 have hdl := hp.dp.lt
 have hdn : x.d.toNat = d := by omega
 rw [hdn] at hcond ⊢
 have hn2 : (st.deps d).1 < 4294967296 := (hp.inv.deps d).1
 have hk4 : (st.deps d).2 ≤ 4 := (hp.inv.deps d).2
 obtain ⟨n, hn⟩ : ∃ n, (st.deps d).1 = n := ⟨_, rfl⟩
 obtain ⟨kw, hkw⟩ : ∃ k, (st.deps d).2 = k := ⟨_, rfl⟩
 have dv3 : ∀ o1 o2 o3, (((w.alloc o1).alloc o2).alloc o3).cell? ⟨db, d * 2, none⟩ = some (.int .i64 n) := fun o1 o2 o3 => by
  have := (Blk.alloc (Blk.alloc (Blk.alloc hp.dp o1) o2) o3).cell (2 * d)
  rw [(dpC_v st.deps d hd8).1, hn] at this
  rw [Nat.mul_comm d 2]; exact this
 have dw3 : ∀ o1 o2 o3, (((w.alloc o1).alloc o2).alloc o3).cell? ⟨db, d * 2 + 1, none⟩ = some (.int .i64 kw) := fun o1 o2 o3 => by
  have := (Blk.alloc (Blk.alloc (Blk.alloc hp.dp o1) o2) o3).cell (2 * d + 1)
  rw [(dpC_v st.deps d hd8).2, hkw] at this
  rw [Nat.mul_comm d 2]; exact this
 rw [hd] at q4
 rw [hcc] at q0
 rw [hn] at hn2 hcond
 rw [hkw] at hk4
 have HA := hide' ha.tail
 have HTr := hide' htr
 have HW := hide' hw
 have HI := hide' ih
 have HC := hide' hc
 have HBel := hide' hp.bel
 have HInv := hide' hp.inv
 have HB0 := hide' (BAt.new hp)
 have HT : Hid (atT (tryT c.G c.bs c.N g) c.bs (st.deps d).1 r fuel far st = atE st (tryT c.G c.bs c.N g fuel far false r { st with pl := n, en := c.bs.size })) := by
  have : atT (tryT c.G c.bs c.N g) c.bs (st.deps d).1 r fuel far st = atE st (tryT c.G c.bs c.N g fuel far false r { st with pl := n, en := c.bs.size }) := by unfold atT; rw [hn]; rw [if_neg hcond]
  exact this
 generalize atT (tryT c.G c.bs c.N g) c.bs (st.deps d).1 r fuel far st = O at *
 have hs0 : ((w.alloc (.cells (rsC st rb c.bs.size db) 140)).alloc (.cells zero5 140)).heap.size = w.heap.size + 1 + 1 := by simp
 clear hG hp hc ih ha htr hw hx hcc hn hkw
 unfold rsC zero5 at HB0 hs0
 unfold rsC
 have hcd : ¬ (c.bs.size : Int) < (n : Int) := by omega
 go_enter Tryz.func96, Tryz.ntmps96
 go_wp2_with fail
 generalize (w.alloc (.cells #[.int .i64 st.pl, .int .i64 st.en, .slice (some ⟨rb, 0, none⟩) c.bs.size c.bs.size, .slice (some ⟨db, 0, none⟩) 8 8, .int .i64 st.vals] 140)).alloc (.cells #[.int .i64 0, .int .i64 0, .slice none 0 0, .slice none 0 0, .int .i64 0] 140) = W0 at *
 have HW1 : Hid (WAt c w st rb db fuel far #[.int .u8 64, .int .i64 x.w, .int .i64 x.b, .int .i64 x.r, .int .i64 d, .int .i64 x.pl, .int .i64 (b + x.nx), .int .i64 x.rl, .int .i64 0] n kw st (((W0.alloc (.cells #[.int .u8 64, .int .i64 x.w, .int .i64 x.b, .int .i64 x.r, .int .i64 d, .int .i64 x.pl, .int .i64 (b + x.nx), .int .i64 x.rl, .int .i64 0] 132)).alloc (.cells #[.int .i64 n, .int .i64 kw] 240)).alloc (.cells #[.int .i64 st.pl, .int .i64 st.en, .slice (some ⟨rb, 0, none⟩) c.bs.size c.bs.size, .slice (some ⟨db, 0, none⟩) 8 8, .int .i64 st.vals] 140))) := WAt.new (us := st) HB0.out hs0
 clear HB0 q0 q1 q2 q3 q4 q5 q6 q7 q8 c0 p0 dv3 dw3
 generalize ((W0.alloc (.cells #[.int .u8 64, .int .i64 x.w, .int .i64 x.b, .int .i64 x.r, .int .i64 d, .int .i64 x.pl, .int .i64 (b + x.nx), .int .i64 x.rl, .int .i64 0] 132)).alloc (.cells #[.int .i64 n, .int .i64 kw] 240)).alloc (.cells #[.int .i64 st.pl, .int .i64 st.en, .slice (some ⟨rb, 0, none⟩) c.bs.size c.bs.size, .slice (some ⟨db, 0, none⟩) 8 8, .int .i64 st.vals] 140) = W1 at *
 have d0 : W1.cell? ⟨w.heap.size + 1 + 1 + 1, 0, none⟩ = some (.int .i64 n) := HW1.out.dep.cell 0
 have p1 : W1.cell? ⟨c.pb, 1, none⟩ = some (.string c.bs) := HW1.out.bat.pg.cell 1
 obtain ⟨b0, b1, b2, b3, b4, _⟩ := HW1.out.bat.box.five
 obtain ⟨u0, u1, u2, u3, u4, uf⟩ := HW1.out.ub.five
 have hnp : ¬ w.heap.size + 1 + 1 + 1 + 1 = c.pb := by omega
 go_quiet (fail)
 go_wp2_with fail
 have HW2 : Hid (WAt c w st rb db fuel far #[.int .u8 64, .int .i64 x.w, .int .i64 x.b, .int .i64 x.r, .int .i64 d, .int .i64 x.pl, .int .i64 (b + x.nx), .int .i64 x.rl, .int .i64 0] n kw { st with pl := n, en := c.bs.size } (((W1.drewN nq).setCell ⟨w.heap.size + 1 + 1 + 1 + 1, 0, none⟩ (.int .i64 n)).setCell ⟨w.heap.size + 1 + 1 + 1 + 1, 1, none⟩ (.int .i64 c.bs.size))) := (HW1.out.drewN nq).setU n c.bs.size
 clear HW1 d0 p1 b0 b1 b2 b3 b4 u0 u1 u2 u3 u4 uf
 generalize ((W1.drewN nq).setCell ⟨w.heap.size + 1 + 1 + 1 + 1, 0, none⟩ (.int .i64 n)).setCell ⟨w.heap.size + 1 + 1 + 1 + 1, 1, none⟩ (.int .i64 c.bs.size) = W1 at *
 have HW1 := HW2
 have hpre0 := HW1.out.bat.pre HC.out HBel.out HInv.out
 have hpre : RPre c W1 ({ st with pl := n, en := c.bs.size }) rb db fuel far := ⟨hpre0.pg, hpre0.bel, hpre0.rd, hpre0.dp, ⟨by simp only; omega, Nat.le_refl _, HInv.out.rd, HInv.out.vals, HInv.out.deps⟩⟩
 have hcall := HI.out W1 ({ st with pl := n, en := c.bs.size }) rb db fuel far r (b + 1) f false ctx false hpre HA.out HTr.out HW.out hfu hg
 have HOk : Hid ((tryT c.G c.bs c.N g fuel far false r ({ st with pl := n, en := c.bs.size })).ok = true → Keeps c.bs c.N ({ st with pl := n, en := c.bs.size }) (hidV r) (tryT c.G c.bs c.N g fuel far false r ({ st with pl := n, en := c.bs.size })) ∧ (tryT c.G c.bs c.N g fuel far false r ({ st with pl := n, en := c.bs.size })).e = 0) := fun hok => (tryT_ok c.G HC.out.trw g).fit fuel far false false ctx r _ HW.out hpre.inv hok
 generalize ho' : tryT c.G c.bs c.N g fuel far false r ({ st with pl := n, en := c.bs.size }) = o at *
 clear ho'
 have HCall := hide' hcall
 clear hcall hpre hpre0
 unfold rsC at HCall
 simp only [Int.natCast_add] at HCall
 refine HCall.out.mono ?_
 clear HCall
 rintro e w2 ⟨hf2, st', rb', db', fu', fa', t', rfl, hp2, hfe, hok2⟩
 obtain ⟨g1, g2, g3, g4⟩ := HW1.out.bat.next hf2 hp2
 have hs2 := hf2.size
 have hub := HW1.out.ub.lt
 have hl0 : w.heap.size < w2.heap.size := by omega
 have hl1 : w.heap.size + 1 < w2.heap.size := by omega
 have hl5 : ¬ w2.heap.size = w.heap.size := by omega
 have hl6 : ¬ w2.heap.size = w.heap.size + 1 := by omega
 obtain ⟨b0, b1, b2, b3, b4, _⟩ := g3.five
 obtain ⟨z0, z1, z2, z3, z4, zf⟩ := g4.five
 have HF2 := hide' g1
 have HP2 := hide' hp2
 have HFe := hide' hfe
 have HOk2 := hide' hok2
 have HFr2 := hide' hf2
 clear g1 g2 g3 g4 hp2 hfe hok2 hf2
 unfold rsR rsC
 cases hok : o.ok
 · have HO1 : Hid (O = o) := by
    have : O = o := by rw [HT.out]; unfold atE; rw [if_neg (by rw [hok]; simp)]
    exact this
   go_wp2_with fail
   refine bodyPost_ret (v := .tuple #[.agg (rsC st rb c.bs.size db), .string ⟨#[]⟩, .bool false]) (by simp [results, Tryz.results96, go_sem, rsC, z0, z1, z2, z3, z4, hl1]) rfl ?_
   rw [HO1.out]
   exact RPost.none ((HF2.out.set5 (b := w.heap.size + 1) (by omega) _ _ _ _ _).alloc (by rw [st5_size]; omega) _) rfl hok (Blk.alloc (Blk.other5 HP2.out (b := w.heap.size + 1) (by omega) _ _ _ _ _) _) HFe.out
 · obtain ⟨hkp, hoe⟩ := HOk.out hok
   obtain ⟨e1, e2, hsa⟩ := HOk2.out hok
   obtain ⟨e3, e4⟩ := HFe.out hoe
   subst e1
   subst e2
   subst e3
   subst e4
   rw [hoe] at HP2
   have k1 := hkp.ge
   have k2 := hkp.inv.pl
   have k3 := hkp.inv.en
   have k4 := hkp.inv.vals
   have K5 := hide' hkp.en
   try simp only at k1
   have hW3 := (HW1.out.next HFr2.out HP2.out).below ((Below.refl _ _).alloc (Nat.le_refl _) (.cells (rsC o.st rb' c.bs.size db') 140))
   have hV3 := Blk.new w2 (rsC o.st rb' c.bs.size db') 140
   have hS3 := hsa.below ((Below.refl _ _).alloc (Nat.le_refl _) (.cells (rsC o.st rb' c.bs.size db') 140))
   have hs3 : w2.heap.size < (w2.alloc (.cells (rsC o.st rb' c.bs.size db') 140)).heap.size := hV3.lt
   unfold rsC at hW3 hV3 hS3 hs3
   have x0 : w2.cell? ⟨w.heap.size + 1 + 1, 0, none⟩ = some (.int .u8 64) := (HW1.out.next HFr2.out HP2.out).part.cell 0
   have ux1 : w2.cell? ⟨w.heap.size + 1 + 1 + 1 + 1, 1, none⟩ = some (.int .i64 ((c.bs.size : Int))) := (HW1.out.next HFr2.out HP2.out).ub.cell 1
   have hl2 : w.heap.size + 1 + 1 < w2.heap.size := by omega
   have hl3 : w.heap.size + 1 + 1 + 1 < w2.heap.size := by omega
   have hl4 : w.heap.size + 1 + 1 + 1 + 1 < w2.heap.size := by omega
   have HO1 : Hid (O = fitO o.fuel o.far { o.st with pl := st.pl, en := st.en } o.t) := by
    have : O = fitO o.fuel o.far { o.st with pl := st.pl, en := st.en } o.t := by rw [HT.out]; unfold atE; rw [if_pos hok]
    exact this
   go_wp2_with fail
   have HW3 := hide' hW3
   have HV3 := hide' hV3
   have HS3 := hide' hS3
   clear hW3 hV3 hS3 b0 b1 b2 b3 b4 z0 z1 z2 z3 z4 zf x0 ux1
   generalize w2.alloc (.cells #[.int .i64 o.st.pl, .int .i64 o.st.en, .slice (some ⟨rb', 0, none⟩) c.bs.size c.bs.size, .slice (some ⟨db', 0, none⟩) 8 8, .int .i64 o.st.vals] 140) = W3 at *
   obtain ⟨b0, b1, b2, b3, b4, _⟩ := HW3.out.bat.box.five
   have x0 : W3.cell? ⟨w.heap.size + 1 + 1, 0, none⟩ = some (.int .u8 64) := HW3.out.part.cell 0
   have d0 : W3.cell? ⟨w.heap.size + 1 + 1 + 1, 0, none⟩ = some (.int .i64 n) := HW3.out.dep.cell 0
   have d1 : W3.cell? ⟨w.heap.size + 1 + 1 + 1, 1, none⟩ = some (.int .i64 kw) := HW3.out.dep.cell 1
   obtain ⟨v0, v1, v2, v3, v4, vf⟩ := HV3.out.five
   have p1 : W3.cell? ⟨c.pb, 1, none⟩ = some (.string c.bs) := HW3.out.bat.pg.cell 1
   obtain ⟨z0, z1, z2, z3, z4, zf⟩ := HW3.out.bat.res.five
   go_quiet (fail)
   go_wp2_with fail
   have hRV : rb' ≠ w2.heap.size := blk_ne HS3.out.rd HV3.out (by decide)
   have hDV : db' ≠ w2.heap.size := blk_ne HS3.out.dp HV3.out (by decide)
   have hRZ : rb' ≠ w.heap.size + 1 := blk_ne HS3.out.rd HW3.out.bat.res (by decide)
   have hDZ : db' ≠ w.heap.size + 1 := blk_ne HS3.out.dp HW3.out.bat.res (by decide)
   refine bodyPost_ret (v := .tuple #[.agg (rsC ({ o.st with pl := st.pl, en := st.en }) rb' c.bs.size db'), .string ⟨o.t.toArray⟩, .bool true]) (by simp [results, Tryz.results96, go_sem, rsC, z0, z1, z2, z3, z4]) rfl ?_
   rw [HO1.out]
   have hB5 := HW3.out.bat.drewN nq
   refine RPost.fit (rb := rb') (db := db') ((((hB5.fr).setCell (p := ⟨w2.heap.size, 0, none⟩) (Or.inr (by simp only; omega)) _).setCell (p := ⟨w2.heap.size, 1, none⟩) (Or.inr (by simp only; omega)) _).set5 (b := w.heap.size + 1) (by omega) _ _ _ _ _) rfl (Blk.other5 (Blk.setOther (Blk.setOther (hB5.pg) ⟨w2.heap.size, 0, none⟩ (by simp only; omega) _) ⟨w2.heap.size, 1, none⟩ (by simp only; omega) _) (b := w.heap.size + 1) (by omega) _ _ _ _ _) ⟨Blk.other5 (Blk.setOther (Blk.setOther (blkN HS3.out.rd nq) ⟨w2.heap.size, 0, none⟩ hRV _) ⟨w2.heap.size, 1, none⟩ hRV _) (b := w.heap.size + 1) hRZ _ _ _ _ _, Blk.other5 (Blk.setOther (Blk.setOther (blkN HS3.out.dp nq) ⟨w2.heap.size, 0, none⟩ hDV _) ⟨w2.heap.size, 1, none⟩ hDV _) (b := w.heap.size + 1) hDZ _ _ _ _ _, HS3.out.rne, HS3.out.dne⟩
set_option maxRecDepth 100000 in
set_option maxHeartbeats 2000000 in
theorem within_atfar (c : Rx) (hc : RxOk c) (g : Nat) (ih : RTry c g) (w : World) (st : PS) (rb db fuel far : Nat) (hp : RPre c w st rb db fuel far) (b : Nat) (x : It) (r : List It) (f : Nat) (ctx : Bool) (ha : At c.its b (x :: r)) (hx : ItR x) (hcc : x.c = 64) (hcond : c.bs.size < (st.deps x.d.toNat).1) (htr : TrS f r) (hw : TrW c.R false ctx r) (_hfu : fuel ≤ 100000) (_hg : fuel < g) :
 Calls Tryz.prog 96 #[.pointer (some ⟨c.pb, 0, none⟩), .int .i64 b, .agg (rsC st rb c.bs.size db)] w fun e w' => RPost c w (atT (tryT c.G c.bs c.N g) c.bs (st.deps x.d.toNat).1 r fuel far st) e w' := by
 have hG := hp.grm hc
 obtain ⟨q0, q1, q2, q3, q4, q5, q6, q7, q8⟩ := hG.nine ha
 have c0 : w.cell? ⟨c.gb, 0, none⟩ = some (.slice (some ⟨c.g, 0, none⟩) c.its.length c.cap) := hG.top
 have p0 : w.cell? ⟨c.pb, 0, none⟩ = some (.pointer (some ⟨c.gb, 0, none⟩)) := hp.pg.cell 0
 have hgl := hG.lt
 have hgbl := hG.blk.lt
 have hpl := hp.pg.lt
 have hbl : b < c.its.length := by have := ha.le; simp at this; omega
 have hlen := hc.len
 have hbs := hc.bs
 have hN := hc.N
 have i1 := hp.inv.pl
 have i2 := hp.inv.en
 obtain ⟨d, hd⟩ : ∃ d : Nat, x.d = (d : Int) := ⟨x.d.toNat, by have := hx.it.d (by rw [hcc]; rfl); omega⟩
 have hd8 : d < 8 := by have := hx.it.d (by rw [hcc]; rfl); omega
 have hd8' : (d : Int) < 8 := by omega
 have hdl := hp.dp.lt
 have hdn : x.d.toNat = d := by omega
 rw [hdn] at hcond ⊢
 have hn2 : (st.deps d).1 < 4294967296 := (hp.inv.deps d).1
 have hk4 : (st.deps d).2 ≤ 4 := (hp.inv.deps d).2
 obtain ⟨n, hn⟩ : ∃ n, (st.deps d).1 = n := ⟨_, rfl⟩
 obtain ⟨kw, hkw⟩ : ∃ k, (st.deps d).2 = k := ⟨_, rfl⟩
 have dv3 : ∀ o1 o2 o3, (((w.alloc o1).alloc o2).alloc o3).cell? ⟨db, d * 2, none⟩ = some (.int .i64 n) := fun o1 o2 o3 => by
  have := (Blk.alloc (Blk.alloc (Blk.alloc hp.dp o1) o2) o3).cell (2 * d)
  rw [(dpC_v st.deps d hd8).1, hn] at this
  rw [Nat.mul_comm d 2]; exact this
 have dw3 : ∀ o1 o2 o3, (((w.alloc o1).alloc o2).alloc o3).cell? ⟨db, d * 2 + 1, none⟩ = some (.int .i64 kw) := fun o1 o2 o3 => by
  have := (Blk.alloc (Blk.alloc (Blk.alloc hp.dp o1) o2) o3).cell (2 * d + 1)
  rw [(dpC_v st.deps d hd8).2, hkw] at this
  rw [Nat.mul_comm d 2]; exact this
 rw [hd] at q4
 rw [hcc] at q0
 rw [hn] at hn2 hcond
 rw [hkw] at hk4
 have HA := hide' ha.tail
 have HTr := hide' htr
 have HW := hide' hw
 have HI := hide' ih
 have HC := hide' hc
 have HBel := hide' hp.bel
 have HInv := hide' hp.inv
 have HB0 := hide' (BAt.new hp)
 have HT : Hid (atT (tryT c.G c.bs c.N g) c.bs (st.deps d).1 r fuel far st = failO fuel far st.pl st) := by
  have : atT (tryT c.G c.bs c.N g) c.bs (st.deps d).1 r fuel far st = failO fuel far st.pl st := by unfold atT; rw [hn]; rw [if_pos hcond]
  exact this
 generalize atT (tryT c.G c.bs c.N g) c.bs (st.deps d).1 r fuel far st = O at *
 have hs0 : ((w.alloc (.cells (rsC st rb c.bs.size db) 140)).alloc (.cells zero5 140)).heap.size = w.heap.size + 1 + 1 := by simp
 clear hG hp hc ih ha htr hw hx hcc hn hkw
 unfold rsC zero5 at HB0 hs0
 unfold rsC
 have hcd : (c.bs.size : Int) < (n : Int) := by omega
 go_enter Tryz.func96, Tryz.ntmps96
 go_wp2_with fail
 generalize (w.alloc (.cells #[.int .i64 st.pl, .int .i64 st.en, .slice (some ⟨rb, 0, none⟩) c.bs.size c.bs.size, .slice (some ⟨db, 0, none⟩) 8 8, .int .i64 st.vals] 140)).alloc (.cells #[.int .i64 0, .int .i64 0, .slice none 0 0, .slice none 0 0, .int .i64 0] 140) = W0 at *
 have HW1 : Hid (WAt c w st rb db fuel far #[.int .u8 64, .int .i64 x.w, .int .i64 x.b, .int .i64 x.r, .int .i64 d, .int .i64 x.pl, .int .i64 (b + x.nx), .int .i64 x.rl, .int .i64 0] n kw st (((W0.alloc (.cells #[.int .u8 64, .int .i64 x.w, .int .i64 x.b, .int .i64 x.r, .int .i64 d, .int .i64 x.pl, .int .i64 (b + x.nx), .int .i64 x.rl, .int .i64 0] 132)).alloc (.cells #[.int .i64 n, .int .i64 kw] 240)).alloc (.cells #[.int .i64 st.pl, .int .i64 st.en, .slice (some ⟨rb, 0, none⟩) c.bs.size c.bs.size, .slice (some ⟨db, 0, none⟩) 8 8, .int .i64 st.vals] 140))) := WAt.new (us := st) HB0.out hs0
 clear HB0 q0 q1 q2 q3 q4 q5 q6 q7 q8 c0 p0 dv3 dw3
 generalize ((W0.alloc (.cells #[.int .u8 64, .int .i64 x.w, .int .i64 x.b, .int .i64 x.r, .int .i64 d, .int .i64 x.pl, .int .i64 (b + x.nx), .int .i64 x.rl, .int .i64 0] 132)).alloc (.cells #[.int .i64 n, .int .i64 kw] 240)).alloc (.cells #[.int .i64 st.pl, .int .i64 st.en, .slice (some ⟨rb, 0, none⟩) c.bs.size c.bs.size, .slice (some ⟨db, 0, none⟩) 8 8, .int .i64 st.vals] 140) = W1 at *
 have d0 : W1.cell? ⟨w.heap.size + 1 + 1 + 1, 0, none⟩ = some (.int .i64 n) := HW1.out.dep.cell 0
 have p1 : W1.cell? ⟨c.pb, 1, none⟩ = some (.string c.bs) := HW1.out.bat.pg.cell 1
 obtain ⟨b0, b1, b2, b3, b4, _⟩ := HW1.out.bat.box.five
 obtain ⟨u0, u1, u2, u3, u4, uf⟩ := HW1.out.ub.five
 have hnp : ¬ w.heap.size + 1 + 1 + 1 + 1 = c.pb := by omega
 go_quiet (fail)
 go_wp2_with fail
 refine (fails_calls _ c.pb c.gb c.bs fuel c.N far 0 st.pl st rb c.bs.size db (HW1.out.drewN nq).bat.pg).mono ?_
 rintro e w5 ⟨rfl, hp5, hf5⟩
 obtain ⟨g1, g2, g3, g4⟩ := (HW1.out.drewN nq).bat.next hf5 hp5
 obtain ⟨zz0, zz1, zz2, zz3, zz4, zzf⟩ := g4.five
 have HF5 := hide' g1
 have HP5 := hide' hp5
 clear g1 g2 g3 g4 hp5 hf5
 unfold rsR rsC
 go_wp2_with fail
 refine bodyPost_ret (v := .tuple #[.agg (rsC st rb c.bs.size db), .string ⟨#[]⟩, .bool false]) (by simp [results, Tryz.results96, go_sem, rsC, zz0, zz1, zz2, zz3, zz4]) rfl ?_
 rw [HT.out]
 exact RPost.fail (HF5.out.set5 (b := w.heap.size + 1) (by omega) _ _ _ _ _) rfl (Blk.other5 HP5.out (b := w.heap.size + 1) (by omega) _ _ _ _ _)
theorem withSt_snd (zs : List (List It)) : ∀ b, (withSt b zs).map Prod.snd = zs := by
 induction zs with
 | nil => intro b; rfl
 | cons z zs ih => intro b; rw [withSt, List.map_cons, ih]
theorem rtry_all (c : Rx) (hc : RxOk c) : ∀ g, RTry c g := by
 intro g
 induction g with
 | zero => intro w st rb db fuel far k b f own ctx q _ _ _ _ _ hg; omega
 | succ g ih =>
  intro w st rb db fuel far k b f own ctx q hp ha ht hw hfu hg
  obtain ⟨f0, hw0⟩ := hw
  cases f0 with
  | zero => exact hw0.elim
  | succ f0 =>
  cases k with
  | nil => exact hw0.elim
  | cons x r =>
  obtain ⟨hx, hown, hctx, hrule, h2, h1, hkids⟩ := hw0
  cases fuel with
  | zero => exact try_none c w st rb db far hp b q
  | succ fuel =>
  cases f with
  | zero => exact ht.elim
  | succ f =>
  obtain ⟨x', kids, hxr, hnx, hz, _⟩ := ht
  obtain ⟨rfl, rfl⟩ : x = x' ∧ r = kids.flatten := by cases hxr; exact ⟨rfl, rfl⟩
  have hseg := segs_tr kids hz
  rw [hseg] at h2 h1 hkids
  have hkv := kids_eq ha hnx hz
  have hm := withSt_mem kids (b + 1) ha.tail
  unfold tryT
  by_cases c40 : x.c = 40
  · rw [if_pos c40, hseg]
    refine try_of c hc w st rb db fuel far hp b x _ ha q (by omega) _ _ (Or.inl ⟨c40, rfl⟩) (fun W hW => ?_)
    have := rwhole_calls c hc g ih W st rb db fuel far hW b x _ (withSt (b + 1) kids) f ha hkv (fun p hp => ⟨(hm p hp).2.1, hz _ (hm p hp).1, f0, by have := hkids _ (hm p hp).1; simpa [c40] using this⟩) (by omega) (by omega)
    rw [withSt_snd] at this
    exact this
  rw [if_neg c40]
  have hkid : ∀ k, k ∈ kids → TrW c.R false (ctx && inB [119, 64, 115] x.c) k := fun k hk => ⟨f0, by have := hkids k hk; simp only [c40, decide_false, Bool.false_or] at this; exact this⟩
  by_cases c47 : x.c = 47
  · rw [if_pos c47, hseg]
    obtain ⟨k0, k1, hk2⟩ : ∃ k0 k1, kids = [k0, k1] := by
     have hl := h2 c47
     match kids, hl with
     | [k0, k1], _ => exact ⟨k0, k1, rfl⟩
    subst hk2
    have hc2 : (ctx && inB [119, 64, 115] x.c) = false := by rw [c47]; simp [inB]
    rw [hc2] at hkid
    refine try_of c hc w st rb db fuel far hp b x _ ha q (by omega) _ _ (Or.inr (Or.inl ⟨c47, rfl⟩)) (fun W hW => ?_)
    exact rchoice_calls c hc g ih W st rb db fuel far hW b x _ k0 k1 (b + 1) (b + 1 + k0.length) f ha hkv (hm (b + 1, k0) (by simp [withSt])).2.1 (hm (b + 1 + k0.length, k1) (by simp [withSt])).2.1 (hz k0 (by simp)) (hz k1 (by simp)) (hkid k0 (by simp)) (hkid k1 (by simp)) (by omega) (by omega)
  rw [if_neg c47]
  have one : ∀ {c' : Int}, x.c = c' → inB [42, 116, 119, 64, 115] c' = true → TrS f kids.flatten ∧ TrW c.R false (ctx && inB [119, 64, 115] x.c) kids.flatten := fun e h => by
   have hk1 := h1 (by rw [e]; exact h)
   have hm1 : kids.flatten ∈ kids := by
    have : kids.flatten ∈ [kids.flatten] := List.mem_cons_self
    rw [← hk1] at this; exact this
   exact ⟨hz _ hm1, hkid _ hm1⟩
  by_cases c42 : x.c = 42
  · rw [if_pos c42]
    obtain ⟨o1, o2⟩ := one c42 rfl
    have hc2 : (ctx && inB [119, 64, 115] x.c) = false := by rw [c42]; simp [inB]
    rw [hc2] at o2
    exact try_of c hc w st rb db fuel far hp b x _ ha q (by omega) _ _ (Or.inr (Or.inr (Or.inl ⟨c42, rfl⟩))) (fun W hW => rmany_calls c hc g ih W st rb db fuel far hW b x _ f ha o1 o2 (by omega) (by omega))
  rw [if_neg c42]
  by_cases c82 : x.c = 82
  · rw [if_pos c82]
    obtain ⟨hr8, b2, hb2, hat, f2, htr⟩ := hc.rule _ (hrule c82)
    have hxr := hx.it.r c82
    exact try_rule c hc w st rb db fuel far hp b x _ ha q (by omega) _ x.r.toNat b2 (by omega) hr8 hb2 c82 (fun W hW => ih W st rb db fuel far _ b2 f2 false false false hW hat htr (hc.trw _ (hrule c82)) (by omega) (by omega))
  rw [if_neg c82]
  by_cases c116 : x.c = 116
  · rw [if_pos c116]
    obtain ⟨o1, o2⟩ := one c116 rfl
    have hc2 : (ctx && inB [119, 64, 115] x.c) = false := by rw [c116]; simp [inB]
    rw [hc2] at o2
    exact try_of c hc w st rb db fuel far hp b x _ ha q (by omega) _ _ (Or.inr (Or.inr (Or.inr ⟨c116, rfl⟩))) (fun W hW => rtimes_calls c hc g ih W st rb db fuel far hW b x _ f ha hx c116 o1 o2 (by omega) (by omega))
  rw [if_neg c116]
  by_cases c119 : x.c = 119
  · rw [if_pos c119]
    obtain ⟨o1, o2⟩ := one c119 rfl
    refine try_within c hc w st rb db fuel far hp b x _ ha q (by omega) _ (Or.inl c119) (fun W hW => ?_)
    by_cases hcond : st.en - st.pl < (st.deps x.d.toNat).1
    · exact within_winfar c hc g ih W st rb db fuel far hW b x _ f _ ha hx c119 hcond o1 o2 (by omega) (by omega)
    · exact within_win c hc g ih W st rb db fuel far hW b x _ f _ ha hx c119 hcond o1 o2 (by omega) (by omega)
  rw [if_neg c119]
  by_cases c64 : x.c = 64
  · rw [if_pos c64]
    obtain ⟨o1, o2⟩ := one c64 rfl
    refine try_within c hc w st rb db fuel far hp b x _ ha q (by omega) _ (Or.inr (Or.inl c64)) (fun W hW => ?_)
    by_cases hcond : c.bs.size < (st.deps x.d.toNat).1
    · exact within_atfar c hc g ih W st rb db fuel far hW b x _ f _ ha hx c64 hcond o1 o2 (by omega) (by omega)
    · exact within_at c hc g ih W st rb db fuel far hW b x _ f _ ha hx c64 hcond o1 o2 (by omega) (by omega)
  rw [if_neg c64]
  by_cases c115 : x.c = 115
  · rw [if_pos c115]
    obtain ⟨o1, o2⟩ := one c115 rfl
    exact try_within c hc w st rb db fuel far hp b x _ ha q (by omega) _ (Or.inr (Or.inr c115)) (fun W hW => within_sum c hc g ih W st rb db fuel far hW b x _ f _ ha hx c115 o1 o2 (by omega) (by omega))
  rw [if_neg c115]
  have hlet : x.c = 110 ∨ x.c = 108 ∨ x.c = 104 ∨ x.c = 107 ∨ x.c = 39 ∨ x.c = 114 ∨ x.c = 46 := by
   have := kAny_list x.c hx.it.c
   omega
  refine try_bytes c hc w st rb db fuel far hp b x _ ha q (by omega) _ hlet (fun W hW => ?_)
  rcases hlet with h | h | h | h | h | h | h
  · exact bytes_num c hc W st rb db fuel far hW b x _ ha hx q _ h (Or.inl rfl)
  · exact bytes_num c hc W st rb db fuel far hW b x _ ha hx q _ h (Or.inr rfl)
  · exact bytes_hid c hc W st rb db fuel far hW b x _ ha hx q _ h (Or.inl rfl)
  · exact bytes_hid c hc W st rb db fuel far hW b x _ ha hx q _ h (Or.inr rfl)
  · exact bytes_fix c hc W st rb db fuel far hW b x _ ha hx h q
  · exact bytes_run c hc W st rb db fuel far hW b x _ ha hx h q
  · exact bytes_rest c hc W st rb db fuel far hW b x _ ha h q
end Go.Proofs.YtmlkhhhjdpbhfaaGreatDoor
namespace Go.Proofs.YtmlkhhhjdpbhfaaGreatDoor
open Go
section
variable {P : Program} {md : Region.Mode} {C : World → Prop} {Q : Exit → Act → World → Prop} {l : List Oper}
theorem wpC_two {ops : Array Oper} {f : Nat} {listed : Array Bool} {a : Act} {w : World} (n m : Nat) (hr : Region.ready md ops listed = [n, m]) (hC : C w)
 (h1 : opH P ops Q n (fun a2 w2 => wpC P md ops C Q f (listed.setIfInBounds n true) a2 w2) a w) (h2 : opH P ops Q m (fun a2 w2 => wpC P md ops C Q f (listed.setIfInBounds m true) a2 w2) a w) : wpC P md ops C Q (f + 1) listed a w := by
 refine ⟨hC, fun h0 => by rw [hr] at h0; simp at h0, fun i hi => ?_⟩
 rw [hr] at hi
 have hin : i = n ∨ i = m := by simpa using hi
 rcases hin with rfl | rfl
 · exact opH_opC (fun _ _ h => h) h1
 · exact opH_opC (fun _ _ h => h) h2
theorem wpC_three {ops : Array Oper} {f : Nat} {listed : Array Bool} {a : Act} {w : World} (n m k : Nat) (hr : Region.ready md ops listed = [n, m, k]) (hC : C w)
 (h1 : opH P ops Q n (fun a2 w2 => wpC P md ops C Q f (listed.setIfInBounds n true) a2 w2) a w) (h2 : opH P ops Q m (fun a2 w2 => wpC P md ops C Q f (listed.setIfInBounds m true) a2 w2) a w)
 (h3 : opH P ops Q k (fun a2 w2 => wpC P md ops C Q f (listed.setIfInBounds k true) a2 w2) a w) : wpC P md ops C Q (f + 1) listed a w := by
 refine ⟨hC, fun h0 => by rw [hr] at h0; simp at h0, fun i hi => ?_⟩
 rw [hr] at hi
 have hin : i = n ∨ i = m ∨ i = k := by simpa using hi
 rcases hin with rfl | rfl | rfl
 · exact opH_opC (fun _ _ h => h) h1
 · exact opH_opC (fun _ _ h => h) h2
 · exact opH_opC (fun _ _ h => h) h3
theorem opH_mono {ops : Array Oper} {n : Nat} {K K' : Act → World → Prop} {a : Act} {w : World} (hk : ∀ a w, K a w → K' a w) (h : opH P ops Q n K a w) : opH P ops Q n K' a w := by
 obtain ⟨o, ho, hg, h⟩ := h
 exact ⟨o, ho, hg, Oper.wp_mono (fun a2 w2 h2 => hk a2 w2 h2) h⟩
def wpFork (P : Program) (ops : Array Oper) (C : World → Prop) (Q : Exit → Act → World → Prop) (ix : List Nat) (n m : Nat) (s1 s2 : List (List Nat × Nat)) (a : Act) (w : World) : Prop :=
 wpX P ops C (fun a' => opH P ops Q n (fun a2 w2 => C w2 ∧ wpSeg P ops C Q s1 a2 w2) a' w ∧ opH P ops Q m (fun a2 w2 => C w2 ∧ wpSeg P ops C Q s2 a2 w2) a' w) (ix.filterMap fun i => ops[i]?) a
def forkB (md : Region.Mode) (ops : Array Oper) (ix : List Nat) (n m : Nat) (s1 s2 : List (List Nat × Nat)) (listed : Array Bool) : Bool :=
 ix.all (fun i => decide (i < ops.size)) && walkFrom md ops (fun ls => decide (Region.ready md ops ls = [n, m]) && segB md ops s1 (ls.setIfInBounds n true) && segB md ops s2 (ls.setIfInBounds m true)) ix listed
theorem fork_wpC (hQ : ∀ ch a d v w, Q (.panic ch) (Act.put a d v) w → Q (.panic ch) a w) (hsel : Region.noSelect l.toArray = true) (ix : List Nat) (n m : Nat) (s1 s2 : List (List Nat × Nat)) (he : segN s1 = segN s2)
 (listed : Array Bool) (a : Act) (w : World) (hB : forkB md l.toArray ix n m s1 s2 listed = true) (hC : C w) (h : wpFork P l.toArray C Q ix n m s1 s2 a w) : wpC P md l.toArray C Q (ix.length + (segN s1 + 1)) listed a w := by
 simp only [forkB, Bool.and_eq_true] at hB
 obtain ⟨b1, b2⟩ := picked2 ix hB.1
 refine walk_lex hQ hsel (fun ls a' hf hop => ?_) ix _ _ a b1 b2 hB.2 h
 simp only [Bool.and_eq_true, decide_eq_true_eq] at hf
 refine wpC_two n m hf.1.1 hC ?_ ?_
 · exact opH_mono (fun a2 w2 h2 => seg_wpC hQ hsel s1 _ a2 w2 hf.1.2 h2.1 h2.2) hop.1
 · exact opH_mono (fun a2 w2 h2 => by have := seg_wpC hQ hsel s2 _ a2 w2 hf.2 h2.1 h2.2; rw [← he] at this; exact this) hop.2
theorem wp_region_tree {id : Nat} {a : Act} {w : World} (C : World → Prop) (hx ix : List Nat) (p q n m : Nat) (s1 s2 sp sq : List (List Nat × Nat)) (hm : P.follows .mixedOrders = true)
 (hB : (Region.noSelect l.toArray && decide (segN s1 = segN s2) && decide (segN sp = ix.length + (segN s1 + 1)) && decide (segN sq = ix.length + (segN s1 + 1)) && decide (hx.length + (ix.length + (segN s1 + 1) + 1 + 1) = l.length) && hx.all (fun i => decide (i < l.toArray.size)) &&
   walkFrom .any l.toArray (fun ls => decide (Region.ready .any l.toArray ls = [p, q, m]) &&
    (decide (Region.ready .any l.toArray (ls.setIfInBounds p true) = [q, m]) && forkB .any l.toArray ix n m s1 s2 ((ls.setIfInBounds p true).setIfInBounds q true) && segB .any l.toArray sq ((ls.setIfInBounds p true).setIfInBounds m true)) &&
    (decide (Region.ready .any l.toArray (ls.setIfInBounds q true) = [p, m]) && forkB .any l.toArray ix n m s1 s2 ((ls.setIfInBounds q true).setIfInBounds p true) && segB .any l.toArray sp ((ls.setIfInBounds q true).setIfInBounds m true)) &&
    (decide (Region.ready .any l.toArray (ls.setIfInBounds m true) = [p, q]) && segB .any l.toArray sq ((ls.setIfInBounds m true).setIfInBounds p true) && segB .any l.toArray sp ((ls.setIfInBounds m true).setIfInBounds q true))) hx (Array.replicate l.toArray.size false)) = true)
 (hQ : ∀ ch a d v w, Q (.panic ch) (Act.put a d v) w → Q (.panic ch) a w) (hC : C { w with drawn := w.drawn + 1 })
 (h : wpX P l.toArray C (fun a' =>
   opH P l.toArray Q p (fun a2 w2 => C w2 ∧ opH P l.toArray Q q (fun a3 w3 => C w3 ∧ wpFork P l.toArray C Q ix n m s1 s2 a3 w3) a2 w2 ∧ opH P l.toArray Q m (fun a3 w3 => C w3 ∧ wpSeg P l.toArray C Q sq a3 w3) a2 w2) a' { w with drawn := w.drawn + 1 } ∧
   opH P l.toArray Q q (fun a2 w2 => C w2 ∧ opH P l.toArray Q p (fun a3 w3 => C w3 ∧ wpFork P l.toArray C Q ix n m s1 s2 a3 w3) a2 w2 ∧ opH P l.toArray Q m (fun a3 w3 => C w3 ∧ wpSeg P l.toArray C Q sp a3 w3) a2 w2) a' { w with drawn := w.drawn + 1 } ∧
   opH P l.toArray Q m (fun a2 w2 => C w2 ∧ opH P l.toArray Q p (fun a3 w3 => C w3 ∧ wpSeg P l.toArray C Q sq a3 w3) a2 w2 ∧ opH P l.toArray Q q (fun a3 w3 => C w3 ∧ wpSeg P l.toArray C Q sp a3 w3) a2 w2) a' { w with drawn := w.drawn + 1 }) (hx.filterMap fun i => l.toArray[i]?) a) : (Code.region id l.toArray true).wp P Q a w := by
 simp only [Bool.and_eq_true, decide_eq_true_eq] at hB
 obtain ⟨⟨⟨⟨⟨⟨hsel, e1⟩, e2⟩, e3⟩, hl⟩, hall⟩, hw⟩ := hB
 refine wp_region_any hm (wpC_any (C := C) _ _ _ _ ?_)
 obtain ⟨b1, b2⟩ := picked2 hx hall
 have e : l.toArray.size = hx.length + (ix.length + (segN s1 + 1) + 1 + 1) := by simp [hl]
 have h2 := walk_lex (md := .any) (g := ix.length + (segN s1 + 1) + 1 + 1) (w := { w with drawn := w.drawn + 1 }) hQ hsel (fun ls a' hf hop => ?_) hx _ _ a b1 b2 hw h
 · rw [e] at h2 ⊢
   exact h2
 · simp only [Bool.and_eq_true, decide_eq_true_eq] at hf
   obtain ⟨⟨⟨r0, ⟨r1, f1⟩, g1⟩, ⟨r2, f2⟩, g2⟩, ⟨r3, g3⟩, g4⟩ := hf
   obtain ⟨k1, k2, k3⟩ := hop
   have sg : ∀ (s : List (List Nat × Nat)) (ls : Array Bool) (a2 : Act) (w2 : World), segN s = ix.length + (segN s1 + 1) → segB .any l.toArray s ls = true → C w2 → wpSeg P l.toArray C Q s a2 w2 → wpC P .any l.toArray C Q (ix.length + (segN s1 + 1)) ls a2 w2 := fun s ls a2 w2 es hs hc hh => by
    have := seg_wpC (md := .any) hQ hsel s ls a2 w2 hs hc hh
    rw [es] at this; exact this
   refine wpC_three p q m r0 hC ?_ ?_ ?_
   · exact opH_mono (fun a2 w2 h => wpC_two q m r1 h.1 (opH_mono (fun a3 w3 h => fork_wpC hQ hsel ix n m s1 s2 e1 _ a3 w3 f1 h.1 h.2) h.2.1) (opH_mono (fun a3 w3 h => sg sq _ a3 w3 e3 g1 h.1 h.2) h.2.2)) k1
   · exact opH_mono (fun a2 w2 h => wpC_two p m r2 h.1 (opH_mono (fun a3 w3 h => fork_wpC hQ hsel ix n m s1 s2 e1 _ a3 w3 f2 h.1 h.2) h.2.1) (opH_mono (fun a3 w3 h => sg sp _ a3 w3 e2 g2 h.1 h.2) h.2.2)) k2
   · exact opH_mono (fun a2 w2 h => wpC_two p q r3 h.1 (opH_mono (fun a3 w3 h => sg sq _ a3 w3 e3 g3 h.1 h.2) h.2.1) (opH_mono (fun a3 w3 h => sg sp _ a3 w3 e2 g4 h.1 h.2) h.2.2)) k3
end
end Go.Proofs.YtmlkhhhjdpbhfaaGreatDoor

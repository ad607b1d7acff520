import Derived.Test.YtmlkhhhjdpbhfaaGreatDoorPa45
namespace Go.Proofs.YtmlkhhhjdpbhfaaGreatDoor
open Go.RowKit
set_option maxRecDepth 100000 in
set_option maxHeartbeats 2000000 in
theorem within_sum (c : Rx) (hc : RxOk c) (g : Nat) (ih : RTry c g) (w : World) (st : PS) (rb db fuel far : Nat) (hp : RPre c w st rb db fuel far) (b : Nat) (x : It) (r : List It) (f : Nat) (ctx : Bool) (ha : At c.its b (x :: r)) (hx : ItR x) (hcc : x.c = 115) (htr : TrS f r) (hw : TrW c.R false ctx r) (hfu : fuel ≤ 100000) (hg : fuel < g) :
 Calls Tryz.prog 96 #[.pointer (some ⟨c.pb, 0, none⟩), .int .i64 b, .agg (rsC st rb c.bs.size db)] w fun e w' => RPost c w (summedT (tryT c.G c.bs c.N g) c.bs (st.deps x.d.toNat) r fuel far st) e w' := by
 have hG := hp.grm hc
 obtain ⟨q0, q1, q2, q3, q4, q5, q6, q7, q8⟩ := hG.nine ha
 have c0 : w.cell? ⟨c.gb, 0, none⟩ = some (.slice (some ⟨c.g, 0, none⟩) c.its.length c.cap) := hG.top
 have p0 : w.cell? ⟨c.pb, 0, none⟩ = some (.pointer (some ⟨c.gb, 0, none⟩)) := hp.pg.cell 0
 have hgl := hG.lt
 have hgbl := hG.blk.lt
 have hpl := hp.pg.lt
 have hbl : b < c.its.length := by have := ha.le; simp at this; omega
 have hlen := hc.len
 have hbs := hc.bs
 have hN := hc.N
 have i1 := hp.inv.pl
 have i2 := hp.inv.en
 obtain ⟨d, hd⟩ : ∃ d : Nat, x.d = (d : Int) := ⟨x.d.toNat, by have := hx.it.d (by rw [hcc]; rfl); omega⟩
 have hd8 : d < 8 := by have := hx.it.d (by rw [hcc]; rfl); omega
 have hd8' : (d : Int) < 8 := by omega
 have hdl := hp.dp.lt
 have hdn : x.d.toNat = d := by omega
 rw [hdn]
 have hn2 : (st.deps d).1 < 4294967296 := (hp.inv.deps d).1
 have hk4 : (st.deps d).2 ≤ 4 := (hp.inv.deps d).2
 obtain ⟨n, hn⟩ : ∃ n, (st.deps d).1 = n := ⟨_, rfl⟩
 obtain ⟨kw, hkw⟩ : ∃ k, (st.deps d).2 = k := ⟨_, rfl⟩
 have dv3 : ∀ o1 o2 o3, (((w.alloc o1).alloc o2).alloc o3).cell? ⟨db, d * 2, none⟩ = some (.int .i64 n) := fun o1 o2 o3 => by
  have := (Blk.alloc (Blk.alloc (Blk.alloc hp.dp o1) o2) o3).cell (2 * d)
  rw [(dpC_v st.deps d hd8).1, hn] at this
  rw [Nat.mul_comm d 2]; exact this
 have dw3 : ∀ o1 o2 o3, (((w.alloc o1).alloc o2).alloc o3).cell? ⟨db, d * 2 + 1, none⟩ = some (.int .i64 kw) := fun o1 o2 o3 => by
  have := (Blk.alloc (Blk.alloc (Blk.alloc hp.dp o1) o2) o3).cell (2 * d + 1)
  rw [(dpC_v st.deps d hd8).2, hkw] at this
  rw [Nat.mul_comm d 2]; exact this
 rw [hd] at q4
 rw [hcc] at q0
 rw [hn] at hn2
 rw [hkw] at hk4
 have HA := hide' ha.tail
 have HTr := hide' htr
 have HW := hide' hw
 have HI := hide' ih
 have HC := hide' hc
 have HBel := hide' hp.bel
 have HInv := hide' hp.inv
 have HB0 := hide' (BAt.new hp)
 have HT : Hid (summedT (tryT c.G c.bs c.N g) c.bs (st.deps d) r fuel far st = summedE c.bs (n, kw) st (tryT c.G c.bs c.N g fuel far false r st)) := by
  have : summedT (tryT c.G c.bs c.N g) c.bs (st.deps d) r fuel far st = summedE c.bs (n, kw) st (tryT c.G c.bs c.N g fuel far false r st) := by rw [show st.deps d = (n, kw) by rw [← hn, ← hkw]]; rfl
  exact this
 generalize summedT (tryT c.G c.bs c.N g) c.bs (st.deps d) r fuel far st = O at *
 have hs0 : ((w.alloc (.cells (rsC st rb c.bs.size db) 140)).alloc (.cells zero5 140)).heap.size = w.heap.size + 1 + 1 := by simp
 clear hG hp hc ih ha htr hw hx hcc hn hkw
 unfold rsC zero5 at HB0 hs0
 unfold rsC
 go_enter Tryz.func96, Tryz.ntmps96
 go_wp2_with fail
 generalize (w.alloc (.cells #[.int .i64 st.pl, .int .i64 st.en, .slice (some ⟨rb, 0, none⟩) c.bs.size c.bs.size, .slice (some ⟨db, 0, none⟩) 8 8, .int .i64 st.vals] 140)).alloc (.cells #[.int .i64 0, .int .i64 0, .slice none 0 0, .slice none 0 0, .int .i64 0] 140) = W0 at *
 have HW1 : Hid (WAt c w st rb db fuel far #[.int .u8 115, .int .i64 x.w, .int .i64 x.b, .int .i64 x.r, .int .i64 d, .int .i64 x.pl, .int .i64 (b + x.nx), .int .i64 x.rl, .int .i64 0] n kw st (((W0.alloc (.cells #[.int .u8 115, .int .i64 x.w, .int .i64 x.b, .int .i64 x.r, .int .i64 d, .int .i64 x.pl, .int .i64 (b + x.nx), .int .i64 x.rl, .int .i64 0] 132)).alloc (.cells #[.int .i64 n, .int .i64 kw] 240)).alloc (.cells #[.int .i64 st.pl, .int .i64 st.en, .slice (some ⟨rb, 0, none⟩) c.bs.size c.bs.size, .slice (some ⟨db, 0, none⟩) 8 8, .int .i64 st.vals] 140))) := WAt.new (us := st) HB0.out hs0
 clear HB0 q0 q1 q2 q3 q4 q5 q6 q7 q8 c0 p0 dv3 dw3
 generalize ((W0.alloc (.cells #[.int .u8 115, .int .i64 x.w, .int .i64 x.b, .int .i64 x.r, .int .i64 d, .int .i64 x.pl, .int .i64 (b + x.nx), .int .i64 x.rl, .int .i64 0] 132)).alloc (.cells #[.int .i64 n, .int .i64 kw] 240)).alloc (.cells #[.int .i64 st.pl, .int .i64 st.en, .slice (some ⟨rb, 0, none⟩) c.bs.size c.bs.size, .slice (some ⟨db, 0, none⟩) 8 8, .int .i64 st.vals] 140) = W1 at *
 have hpre0 := HW1.out.bat.pre HC.out HBel.out HInv.out
 have hpre : RPre c W1 (st) rb db fuel far := ⟨hpre0.pg, hpre0.bel, hpre0.rd, hpre0.dp, HInv.out⟩
 have hcall := HI.out W1 (st) rb db fuel far r (b + 1) f false ctx false hpre HA.out HTr.out HW.out hfu hg
 have HOk : Hid ((tryT c.G c.bs c.N g fuel far false r (st)).ok = true → Keeps c.bs c.N (st) (hidV r) (tryT c.G c.bs c.N g fuel far false r (st)) ∧ (tryT c.G c.bs c.N g fuel far false r (st)).e = 0) := fun hok => (tryT_ok c.G HC.out.trw g).fit fuel far false false ctx r _ HW.out hpre.inv hok
 generalize ho' : tryT c.G c.bs c.N g fuel far false r (st) = o at *
 clear ho'
 have HCall := hide' hcall
 clear hcall hpre hpre0
 unfold rsC at HCall
 simp only [Int.natCast_add] at HCall
 refine HCall.out.mono ?_
 clear HCall
 rintro e w2 ⟨hf2, st', rb', db', fu', fa', t', rfl, hp2, hfe, hok2⟩
 obtain ⟨g1, g2, g3, g4⟩ := HW1.out.bat.next hf2 hp2
 have hs2 := hf2.size
 have hub := HW1.out.ub.lt
 have hl0 : w.heap.size < w2.heap.size := by omega
 have hl1 : w.heap.size + 1 < w2.heap.size := by omega
 have hl5 : ¬ w2.heap.size = w.heap.size := by omega
 have hl6 : ¬ w2.heap.size = w.heap.size + 1 := by omega
 obtain ⟨b0, b1, b2, b3, b4, _⟩ := g3.five
 obtain ⟨z0, z1, z2, z3, z4, zf⟩ := g4.five
 have HF2 := hide' g1
 have HP2 := hide' hp2
 have HFe := hide' hfe
 have HOk2 := hide' hok2
 have HFr2 := hide' hf2
 clear g1 g2 g3 g4 hp2 hfe hok2 hf2
 unfold rsR rsC
 cases hok : o.ok
 · have HO1 : Hid (O = o) := by
    have : O = o := by rw [HT.out]; unfold summedE; rw [if_neg (by rw [hok]; simp)]
    exact this
   go_wp2_with fail
   refine bodyPost_ret (v := .tuple #[.agg (rsC st rb c.bs.size db), .string ⟨#[]⟩, .bool false]) (by simp [results, Tryz.results96, go_sem, rsC, z0, z1, z2, z3, z4, hl1]) rfl ?_
   rw [HO1.out]
   exact RPost.none ((HF2.out.set5 (b := w.heap.size + 1) (by omega) _ _ _ _ _).alloc (by rw [st5_size]; omega) _) rfl hok (Blk.alloc (Blk.other5 HP2.out (b := w.heap.size + 1) (by omega) _ _ _ _ _) _) HFe.out
 · obtain ⟨hkp, hoe⟩ := HOk.out hok
   obtain ⟨e1, e2, hsa⟩ := HOk2.out hok
   obtain ⟨e3, e4⟩ := HFe.out hoe
   subst e1
   subst e2
   subst e3
   subst e4
   rw [hoe] at HP2
   have k1 := hkp.ge
   have k2 := hkp.inv.pl
   have k3 := hkp.inv.en
   have k4 := hkp.inv.vals
   have K5 := hide' hkp.en
   try simp only at k1
   have hW3 := (HW1.out.next HFr2.out HP2.out).below ((Below.refl _ _).alloc (Nat.le_refl _) (.cells (rsC o.st rb' c.bs.size db') 140))
   have hV3 := Blk.new w2 (rsC o.st rb' c.bs.size db') 140
   have hS3 := hsa.below ((Below.refl _ _).alloc (Nat.le_refl _) (.cells (rsC o.st rb' c.bs.size db') 140))
   have hs3 : w2.heap.size < (w2.alloc (.cells (rsC o.st rb' c.bs.size db') 140)).heap.size := hV3.lt
   unfold rsC at hW3 hV3 hS3 hs3
   have x0 : w2.cell? ⟨w.heap.size + 1 + 1, 0, none⟩ = some (.int .u8 115) := (HW1.out.next HFr2.out HP2.out).part.cell 0
   have ux1 : w2.cell? ⟨w.heap.size + 1 + 1 + 1 + 1, 1, none⟩ = some (.int .i64 ((st.en : Int))) := (HW1.out.next HFr2.out HP2.out).ub.cell 1
   have hl2 : w.heap.size + 1 + 1 < w2.heap.size := by omega
   have hl3 : w.heap.size + 1 + 1 + 1 < w2.heap.size := by omega
   have hl4 : w.heap.size + 1 + 1 + 1 + 1 < w2.heap.size := by omega
   go_wp2_with fail
   have HW3 := hide' hW3
   have HV3 := hide' hV3
   have HS3 := hide' hS3
   clear hW3 hV3 hS3 b0 b1 b2 b3 b4 z0 z1 z2 z3 z4 zf x0 ux1
   generalize w2.alloc (.cells #[.int .i64 o.st.pl, .int .i64 o.st.en, .slice (some ⟨rb', 0, none⟩) c.bs.size c.bs.size, .slice (some ⟨db', 0, none⟩) 8 8, .int .i64 o.st.vals] 140) = W3 at *
   obtain ⟨b0, b1, b2, b3, b4, _⟩ := HW3.out.bat.box.five
   have x0 : W3.cell? ⟨w.heap.size + 1 + 1, 0, none⟩ = some (.int .u8 115) := HW3.out.part.cell 0
   have d0 : W3.cell? ⟨w.heap.size + 1 + 1 + 1, 0, none⟩ = some (.int .i64 n) := HW3.out.dep.cell 0
   have d1 : W3.cell? ⟨w.heap.size + 1 + 1 + 1, 1, none⟩ = some (.int .i64 kw) := HW3.out.dep.cell 1
   obtain ⟨v0, v1, v2, v3, v4, vf⟩ := HV3.out.five
   have p1 : W3.cell? ⟨c.pb, 1, none⟩ = some (.string c.bs) := HW3.out.bat.pg.cell 1
   obtain ⟨z0, z1, z2, z3, z4, zf⟩ := HW3.out.bat.res.five
   have HSum := hide' (fun W => Sum_calls (c.bs.extract st.pl o.st.pl) (by rw [ByteArray.size_extract]; omega) kw hk4 W)
   by_cases hsv : sumV (c.bs.extract st.pl o.st.pl) kw (c.bs.extract st.pl o.st.pl).size = n
   · have HO1 : Hid (O = fitO o.fuel o.far { o.st with en := st.en } o.t) := by
      have : O = fitO o.fuel o.far { o.st with en := st.en } o.t := by rw [HT.out]; unfold summedE; rw [if_pos hok, if_neg (fun h => h hsv)]
      exact this
     rw [hsv] at HSum
     go_quiet (first
      | (go_at_call 47
         exact Calls.quiet_of (HSum.out _)))
     go_wp2_with fail
     have hRV : rb' ≠ w2.heap.size := blk_ne HS3.out.rd HV3.out (by decide)
     have hDV : db' ≠ w2.heap.size := blk_ne HS3.out.dp HV3.out (by decide)
     have hRZ : rb' ≠ w.heap.size + 1 := blk_ne HS3.out.rd HW3.out.bat.res (by decide)
     have hDZ : db' ≠ w.heap.size + 1 := blk_ne HS3.out.dp HW3.out.bat.res (by decide)
     refine bodyPost_ret (v := .tuple #[.agg (rsC ({ o.st with en := st.en }) rb' c.bs.size db'), .string ⟨o.t.toArray⟩, .bool true]) (by simp [results, Tryz.results96, go_sem, rsC, z0, z1, z2, z3, z4]) rfl ?_
     rw [HO1.out]
     have hB5 := HW3.out.bat.drewN nq
     refine RPost.fit (rb := rb') (db := db') (((hB5.fr).setCell (p := ⟨w2.heap.size, 1, none⟩) (Or.inr (by simp only; omega)) _).set5 (b := w.heap.size + 1) (by omega) _ _ _ _ _) rfl (Blk.other5 (Blk.setOther (hB5.pg) ⟨w2.heap.size, 1, none⟩ (by simp only; omega) _) (b := w.heap.size + 1) (by omega) _ _ _ _ _) ⟨Blk.other5 (Blk.setOther (blkN HS3.out.rd nq) ⟨w2.heap.size, 1, none⟩ hRV _) (b := w.heap.size + 1) hRZ _ _ _ _ _, Blk.other5 (Blk.setOther (blkN HS3.out.dp nq) ⟨w2.heap.size, 1, none⟩ hDV _) (b := w.heap.size + 1) hDZ _ _ _ _ _, HS3.out.rne, HS3.out.dne⟩
   · have HO1 : Hid (O = failO o.fuel o.far st.pl st) := by
      have : O = failO o.fuel o.far st.pl st := by rw [HT.out]; unfold summedE; rw [if_pos hok, if_pos hsv]
      exact this
     generalize sumV (c.bs.extract st.pl o.st.pl) kw (c.bs.extract st.pl o.st.pl).size = sv at *
     have hsv' : ¬ (sv : Int) = (n : Int) := by omega
     go_quiet (first
      | (go_at_call 47
         exact Calls.quiet_of (HSum.out _)))
     go_wp2_with fail
     have HB5 := hide' (HW3.out.bat.drewN nq)
     refine (fails_calls _ c.pb c.gb c.bs o.fuel c.N o.far 0 st.pl st rb c.bs.size db HB5.out.pg).mono ?_
     rintro e w5 ⟨rfl, hp5, hf5⟩
     obtain ⟨g1, g2, g3, g4⟩ := HB5.out.next hf5 hp5
     obtain ⟨zz0, zz1, zz2, zz3, zz4, zzf⟩ := g4.five
     have HF5 := hide' g1
     have HP5 := hide' hp5
     clear g1 g2 g3 g4 hp5 hf5
     unfold rsR rsC
     go_wp2_with fail
     refine bodyPost_ret (v := .tuple #[.agg (rsC st rb c.bs.size db), .string ⟨#[]⟩, .bool false]) (by simp [results, Tryz.results96, go_sem, rsC, zz0, zz1, zz2, zz3, zz4]) rfl ?_
     rw [HO1.out]
     exact RPost.fail (HF5.out.set5 (b := w.heap.size + 1) (by omega) _ _ _ _ _) rfl (Blk.other5 HP5.out (b := w.heap.size + 1) (by omega) _ _ _ _ _)
set_option maxRecDepth 100000 in
set_option maxHeartbeats 2000000 in
theorem within_win (c : Rx) (hc : RxOk c) (g : Nat) (ih : RTry c g) (w : World) (st : PS) (rb db fuel far : Nat) (hp : RPre c w st rb db fuel far) (b : Nat) (x : It) (r : List It) (f : Nat) (ctx : Bool) (ha : At c.its b (x :: r)) (hx : ItR x) (hcc : x.c = 119) (hcond : ¬ st.en - st.pl < (st.deps x.d.toNat).1) (htr : TrS f r) (hw : TrW c.R false ctx r) (hfu : fuel ≤ 100000) (hg : fuel < g) :
 Calls Tryz.prog 96 #[.pointer (some ⟨c.pb, 0, none⟩), .int .i64 b, .agg (rsC st rb c.bs.size db)] w fun e w' => RPost c w (windowT (tryT c.G c.bs c.N g) (st.deps x.d.toNat).1 r fuel far st) e w' := by
 have hG := hp.grm hc
 obtain ⟨q0, q1, q2, q3, q4, q5, q6, q7, q8⟩ := hG.nine ha
 have c0 : w.cell? ⟨c.gb, 0, none⟩ = some (.slice (some ⟨c.g, 0, none⟩) c.its.length c.cap) := hG.top
 have p0 : w.cell? ⟨c.pb, 0, none⟩ = some (.pointer (some ⟨c.gb, 0, none⟩)) := hp.pg.cell 0
 have hgl := hG.lt
 have hgbl := hG.blk.lt
 have hpl := hp.pg.lt
 have hbl : b < c.its.length := by have := ha.le; simp at this; omega
 have hlen := hc.len
 have hbs := hc.bs
 have hN := hc.N
 have i1 := hp.inv.pl
 have i2 := hp.inv.en
 obtain ⟨d, hd⟩ : ∃ d : Nat, x.d = (d : Int) := ⟨x.d.toNat, by have := hx.it.d (by rw [hcc]; rfl); omega⟩
 have hd8 : d < 8 := by have := hx.it.d (by rw [hcc]; rfl); omega
 have hd8' : (d : Int) < 8 := by omega
 have hdl := hp.dp.lt
 have hdn : x.d.toNat = d := by omega
 rw [hdn] at hcond ⊢
 have hn2 : (st.deps d).1 < 4294967296 := (hp.inv.deps d).1
 have hk4 : (st.deps d).2 ≤ 4 := (hp.inv.deps d).2
 obtain ⟨n, hn⟩ : ∃ n, (st.deps d).1 = n := ⟨_, rfl⟩
 obtain ⟨kw, hkw⟩ : ∃ k, (st.deps d).2 = k := ⟨_, rfl⟩
 have dv3 : ∀ o1 o2 o3, (((w.alloc o1).alloc o2).alloc o3).cell? ⟨db, d * 2, none⟩ = some (.int .i64 n) := fun o1 o2 o3 => by
  have := (Blk.alloc (Blk.alloc (Blk.alloc hp.dp o1) o2) o3).cell (2 * d)
  rw [(dpC_v st.deps d hd8).1, hn] at this
  rw [Nat.mul_comm d 2]; exact this
 have dw3 : ∀ o1 o2 o3, (((w.alloc o1).alloc o2).alloc o3).cell? ⟨db, d * 2 + 1, none⟩ = some (.int .i64 kw) := fun o1 o2 o3 => by
  have := (Blk.alloc (Blk.alloc (Blk.alloc hp.dp o1) o2) o3).cell (2 * d + 1)
  rw [(dpC_v st.deps d hd8).2, hkw] at this
  rw [Nat.mul_comm d 2]; exact this
 rw [hd] at q4
 rw [hcc] at q0
 rw [hn] at hn2 hcond
 rw [hkw] at hk4
 have HA := hide' ha.tail
 have HTr := hide' htr
 have HW := hide' hw
 have HI := hide' ih
 have HC := hide' hc
 have HBel := hide' hp.bel
 have HInv := hide' hp.inv
 have HB0 := hide' (BAt.new hp)
 have HT : Hid (windowT (tryT c.G c.bs c.N g) (st.deps d).1 r fuel far st = windowE n st (tryT c.G c.bs c.N g fuel far false r { st with en := st.pl + n })) := by
  have : windowT (tryT c.G c.bs c.N g) (st.deps d).1 r fuel far st = windowE n st (tryT c.G c.bs c.N g fuel far false r { st with en := st.pl + n }) := by unfold windowT; rw [hn]; rw [if_neg hcond]
  exact this
 generalize windowT (tryT c.G c.bs c.N g) (st.deps d).1 r fuel far st = O at *
 have hs0 : ((w.alloc (.cells (rsC st rb c.bs.size db) 140)).alloc (.cells zero5 140)).heap.size = w.heap.size + 1 + 1 := by simp
 clear hG hp hc ih ha htr hw hx hcc hn hkw
 unfold rsC zero5 at HB0 hs0
 unfold rsC
 have hcd : ¬ (st.en : Int) - (st.pl : Int) < (n : Int) := by omega
 go_enter Tryz.func96, Tryz.ntmps96
 go_wp2_with fail
 generalize (w.alloc (.cells #[.int .i64 st.pl, .int .i64 st.en, .slice (some ⟨rb, 0, none⟩) c.bs.size c.bs.size, .slice (some ⟨db, 0, none⟩) 8 8, .int .i64 st.vals] 140)).alloc (.cells #[.int .i64 0, .int .i64 0, .slice none 0 0, .slice none 0 0, .int .i64 0] 140) = W0 at *
 have HW1 : Hid (WAt c w st rb db fuel far #[.int .u8 119, .int .i64 x.w, .int .i64 x.b, .int .i64 x.r, .int .i64 d, .int .i64 x.pl, .int .i64 (b + x.nx), .int .i64 x.rl, .int .i64 0] n kw { st with en := st.pl + n } (((W0.alloc (.cells #[.int .u8 119, .int .i64 x.w, .int .i64 x.b, .int .i64 x.r, .int .i64 d, .int .i64 x.pl, .int .i64 (b + x.nx), .int .i64 x.rl, .int .i64 0] 132)).alloc (.cells #[.int .i64 n, .int .i64 kw] 240)).alloc (.cells #[.int .i64 st.pl, .int .i64 ((st.pl : Int) + (n : Int)), .slice (some ⟨rb, 0, none⟩) c.bs.size c.bs.size, .slice (some ⟨db, 0, none⟩) 8 8, .int .i64 st.vals] 140))) := WAt.new (us := { st with en := st.pl + n }) HB0.out hs0
 clear HB0 q0 q1 q2 q3 q4 q5 q6 q7 q8 c0 p0 dv3 dw3
 generalize ((W0.alloc (.cells #[.int .u8 119, .int .i64 x.w, .int .i64 x.b, .int .i64 x.r, .int .i64 d, .int .i64 x.pl, .int .i64 (b + x.nx), .int .i64 x.rl, .int .i64 0] 132)).alloc (.cells #[.int .i64 n, .int .i64 kw] 240)).alloc (.cells #[.int .i64 st.pl, .int .i64 ((st.pl : Int) + (n : Int)), .slice (some ⟨rb, 0, none⟩) c.bs.size c.bs.size, .slice (some ⟨db, 0, none⟩) 8 8, .int .i64 st.vals] 140) = W1 at *
 have hpre0 := HW1.out.bat.pre HC.out HBel.out HInv.out
 have hpre : RPre c W1 ({ st with en := st.pl + n }) rb db fuel far := ⟨hpre0.pg, hpre0.bel, hpre0.rd, hpre0.dp, ⟨by simp only; omega, by simp only; omega, HInv.out.rd, HInv.out.vals, HInv.out.deps⟩⟩
 have hcall := HI.out W1 ({ st with en := st.pl + n }) rb db fuel far r (b + 1) f false ctx false hpre HA.out HTr.out HW.out hfu hg
 have HOk : Hid ((tryT c.G c.bs c.N g fuel far false r ({ st with en := st.pl + n })).ok = true → Keeps c.bs c.N ({ st with en := st.pl + n }) (hidV r) (tryT c.G c.bs c.N g fuel far false r ({ st with en := st.pl + n })) ∧ (tryT c.G c.bs c.N g fuel far false r ({ st with en := st.pl + n })).e = 0) := fun hok => (tryT_ok c.G HC.out.trw g).fit fuel far false false ctx r _ HW.out hpre.inv hok
 generalize ho' : tryT c.G c.bs c.N g fuel far false r ({ st with en := st.pl + n }) = o at *
 clear ho'
 have HCall := hide' hcall
 clear hcall hpre hpre0
 unfold rsC at HCall
 simp only [Int.natCast_add] at HCall
 refine HCall.out.mono ?_
 clear HCall
 rintro e w2 ⟨hf2, st', rb', db', fu', fa', t', rfl, hp2, hfe, hok2⟩
 obtain ⟨g1, g2, g3, g4⟩ := HW1.out.bat.next hf2 hp2
 have hs2 := hf2.size
 have hub := HW1.out.ub.lt
 have hl0 : w.heap.size < w2.heap.size := by omega
 have hl1 : w.heap.size + 1 < w2.heap.size := by omega
 have hl5 : ¬ w2.heap.size = w.heap.size := by omega
 have hl6 : ¬ w2.heap.size = w.heap.size + 1 := by omega
 obtain ⟨b0, b1, b2, b3, b4, _⟩ := g3.five
 obtain ⟨z0, z1, z2, z3, z4, zf⟩ := g4.five
 have HF2 := hide' g1
 have HP2 := hide' hp2
 have HFe := hide' hfe
 have HOk2 := hide' hok2
 have HFr2 := hide' hf2
 clear g1 g2 g3 g4 hp2 hfe hok2 hf2
 unfold rsR rsC
 cases hok : o.ok
 · have HO1 : Hid (O = o) := by
    have : O = o := by rw [HT.out]; unfold windowE; rw [if_neg (by rw [hok]; simp)]
    exact this
   go_wp2_with fail
   refine bodyPost_ret (v := .tuple #[.agg (rsC st rb c.bs.size db), .string ⟨#[]⟩, .bool false]) (by simp [results, Tryz.results96, go_sem, rsC, z0, z1, z2, z3, z4, hl1]) rfl ?_
   rw [HO1.out]
   exact RPost.none ((HF2.out.set5 (b := w.heap.size + 1) (by omega) _ _ _ _ _).alloc (by rw [st5_size]; omega) _) rfl hok (Blk.alloc (Blk.other5 HP2.out (b := w.heap.size + 1) (by omega) _ _ _ _ _) _) HFe.out
 · obtain ⟨hkp, hoe⟩ := HOk.out hok
   obtain ⟨e1, e2, hsa⟩ := HOk2.out hok
   obtain ⟨e3, e4⟩ := HFe.out hoe
   subst e1
   subst e2
   subst e3
   subst e4
   rw [hoe] at HP2
   have k1 := hkp.ge
   have k2 := hkp.inv.pl
   have k3 := hkp.inv.en
   have k4 := hkp.inv.vals
   have K5 := hide' hkp.en
   try simp only at k1
   have hW3 := (HW1.out.next HFr2.out HP2.out).below ((Below.refl _ _).alloc (Nat.le_refl _) (.cells (rsC o.st rb' c.bs.size db') 140))
   have hV3 := Blk.new w2 (rsC o.st rb' c.bs.size db') 140
   have hS3 := hsa.below ((Below.refl _ _).alloc (Nat.le_refl _) (.cells (rsC o.st rb' c.bs.size db') 140))
   have hs3 : w2.heap.size < (w2.alloc (.cells (rsC o.st rb' c.bs.size db') 140)).heap.size := hV3.lt
   unfold rsC at hW3 hV3 hS3 hs3
   have x0 : w2.cell? ⟨w.heap.size + 1 + 1, 0, none⟩ = some (.int .u8 119) := (HW1.out.next HFr2.out HP2.out).part.cell 0
   have ux1 : w2.cell? ⟨w.heap.size + 1 + 1 + 1 + 1, 1, none⟩ = some (.int .i64 ((st.pl : Int) + (n : Int))) := (HW1.out.next HFr2.out HP2.out).ub.cell 1
   have hl2 : w.heap.size + 1 + 1 < w2.heap.size := by omega
   have hl3 : w.heap.size + 1 + 1 + 1 < w2.heap.size := by omega
   have hl4 : w.heap.size + 1 + 1 + 1 + 1 < w2.heap.size := by omega
   by_cases hpe : o.st.pl = st.pl + n
   · have HO1 : Hid (O = fitO o.fuel o.far { o.st with en := st.en } o.t) := by
      have : O = fitO o.fuel o.far { o.st with en := st.en } o.t := by rw [HT.out]; unfold windowE; rw [if_pos hok, if_neg (fun h => h hpe)]
      exact this
     have hpi : (o.st.pl : Int) = (st.pl : Int) + (n : Int) := by omega
     simp only [hpi] at hW3 hV3 hS3 hs3 ⊢
     go_wp2_with fail
     have HW3 := hide' hW3
     have HV3 := hide' hV3
     have HS3 := hide' hS3
     clear hW3 hV3 hS3 b0 b1 b2 b3 b4 z0 z1 z2 z3 z4 zf x0 ux1
     generalize w2.alloc (.cells #[.int .i64 ((st.pl : Int) + (n : Int)), .int .i64 o.st.en, .slice (some ⟨rb', 0, none⟩) c.bs.size c.bs.size, .slice (some ⟨db', 0, none⟩) 8 8, .int .i64 o.st.vals] 140) = W3 at *
     obtain ⟨b0, b1, b2, b3, b4, _⟩ := HW3.out.bat.box.five
     have x0 : W3.cell? ⟨w.heap.size + 1 + 1, 0, none⟩ = some (.int .u8 119) := HW3.out.part.cell 0
     have d0 : W3.cell? ⟨w.heap.size + 1 + 1 + 1, 0, none⟩ = some (.int .i64 n) := HW3.out.dep.cell 0
     have d1 : W3.cell? ⟨w.heap.size + 1 + 1 + 1, 1, none⟩ = some (.int .i64 kw) := HW3.out.dep.cell 1
     obtain ⟨v0, v1, v2, v3, v4, vf⟩ := HV3.out.five
     have p1 : W3.cell? ⟨c.pb, 1, none⟩ = some (.string c.bs) := HW3.out.bat.pg.cell 1
     obtain ⟨z0, z1, z2, z3, z4, zf⟩ := HW3.out.bat.res.five
     go_quiet (fail)
     go_wp2_with fail
     have hRV : rb' ≠ w2.heap.size := blk_ne HS3.out.rd HV3.out (by decide)
     have hDV : db' ≠ w2.heap.size := blk_ne HS3.out.dp HV3.out (by decide)
     have hRZ : rb' ≠ w.heap.size + 1 := blk_ne HS3.out.rd HW3.out.bat.res (by decide)
     have hDZ : db' ≠ w.heap.size + 1 := blk_ne HS3.out.dp HW3.out.bat.res (by decide)
     refine bodyPost_ret (v := .tuple #[.agg (rsC ({ o.st with en := st.en }) rb' c.bs.size db'), .string ⟨o.t.toArray⟩, .bool true]) (by simp [results, Tryz.results96, go_sem, rsC, hpi, z0, z1, z2, z3, z4]) rfl ?_
     rw [HO1.out]
     have hB5 := HW3.out.bat.drewN nq
     refine RPost.fit (rb := rb') (db := db') (((hB5.fr).setCell (p := ⟨w2.heap.size, 1, none⟩) (Or.inr (by simp only; omega)) _).set5 (b := w.heap.size + 1) (by omega) _ _ _ _ _) rfl (Blk.other5 (Blk.setOther (hB5.pg) ⟨w2.heap.size, 1, none⟩ (by simp only; omega) _) (b := w.heap.size + 1) (by omega) _ _ _ _ _) ⟨Blk.other5 (Blk.setOther (blkN HS3.out.rd nq) ⟨w2.heap.size, 1, none⟩ hRV _) (b := w.heap.size + 1) hRZ _ _ _ _ _, Blk.other5 (Blk.setOther (blkN HS3.out.dp nq) ⟨w2.heap.size, 1, none⟩ hDV _) (b := w.heap.size + 1) hDZ _ _ _ _ _, HS3.out.rne, HS3.out.dne⟩
   · have HO1 : Hid (O = failO o.fuel o.far o.st.pl st) := by
      have : O = failO o.fuel o.far o.st.pl st := by rw [HT.out]; unfold windowE; rw [if_pos hok, if_pos hpe]
      exact this
     have hpi : ¬ (o.st.pl : Int) = (st.pl : Int) + (n : Int) := by omega
     go_wp2_with fail
     have HW3 := hide' hW3
     have HV3 := hide' hV3
     have HS3 := hide' hS3
     clear hW3 hV3 hS3 b0 b1 b2 b3 b4 z0 z1 z2 z3 z4 zf x0 ux1
     generalize w2.alloc (.cells #[.int .i64 o.st.pl, .int .i64 o.st.en, .slice (some ⟨rb', 0, none⟩) c.bs.size c.bs.size, .slice (some ⟨db', 0, none⟩) 8 8, .int .i64 o.st.vals] 140) = W3 at *
     obtain ⟨b0, b1, b2, b3, b4, _⟩ := HW3.out.bat.box.five
     have x0 : W3.cell? ⟨w.heap.size + 1 + 1, 0, none⟩ = some (.int .u8 119) := HW3.out.part.cell 0
     have d0 : W3.cell? ⟨w.heap.size + 1 + 1 + 1, 0, none⟩ = some (.int .i64 n) := HW3.out.dep.cell 0
     have d1 : W3.cell? ⟨w.heap.size + 1 + 1 + 1, 1, none⟩ = some (.int .i64 kw) := HW3.out.dep.cell 1
     obtain ⟨v0, v1, v2, v3, v4, vf⟩ := HV3.out.five
     have p1 : W3.cell? ⟨c.pb, 1, none⟩ = some (.string c.bs) := HW3.out.bat.pg.cell 1
     obtain ⟨z0, z1, z2, z3, z4, zf⟩ := HW3.out.bat.res.five
     have HB5 := hide' HW3.out.bat
     refine (fails_calls _ c.pb c.gb c.bs o.fuel c.N o.far 0 o.st.pl st rb c.bs.size db HB5.out.pg).mono ?_
     rintro e w5 ⟨rfl, hp5, hf5⟩
     obtain ⟨g1, g2, g3, g4⟩ := HB5.out.next hf5 hp5
     obtain ⟨zz0, zz1, zz2, zz3, zz4, zzf⟩ := g4.five
     have HF5 := hide' g1
     have HP5 := hide' hp5
     clear g1 g2 g3 g4 hp5 hf5
     unfold rsR rsC
     go_wp2_with fail
     refine bodyPost_ret (v := .tuple #[.agg (rsC st rb c.bs.size db), .string ⟨#[]⟩, .bool false]) (by simp [results, Tryz.results96, go_sem, rsC, zz0, zz1, zz2, zz3, zz4]) rfl ?_
     rw [HO1.out]
     exact RPost.fail (HF5.out.set5 (b := w.heap.size + 1) (by omega) _ _ _ _ _) rfl (Blk.other5 HP5.out (b := w.heap.size + 1) (by omega) _ _ _ _ _)
set_option maxRecDepth 100000 in
set_option maxHeartbeats 2000000 in
theorem within_winfar (c : Rx) (hc : RxOk c) (g : Nat) (ih : RTry c g) (w : World) (st : PS) (rb db fuel far : Nat) (hp : RPre c w st rb db fuel far) (b : Nat) (x : It) (r : List It) (f : Nat) (ctx : Bool) (ha : At c.its b (x :: r)) (hx : ItR x) (hcc : x.c = 119) (hcond : st.en - st.pl < (st.deps x.d.toNat).1) (htr : TrS f r) (hw : TrW c.R false ctx r) (_hfu : fuel ≤ 100000) (_hg : fuel < g) :
 Calls Tryz.prog 96 #[.pointer (some ⟨c.pb, 0, none⟩), .int .i64 b, .agg (rsC st rb c.bs.size db)] w fun e w' => RPost c w (windowT (tryT c.G c.bs c.N g) (st.deps x.d.toNat).1 r fuel far st) e w' := by
 have hG := hp.grm hc
 obtain ⟨q0, q1, q2, q3, q4, q5, q6, q7, q8⟩ := hG.nine ha
 have c0 : w.cell? ⟨c.gb, 0, none⟩ = some (.slice (some ⟨c.g, 0, none⟩) c.its.length c.cap) := hG.top
 have p0 : w.cell? ⟨c.pb, 0, none⟩ = some (.pointer (some ⟨c.gb, 0, none⟩)) := hp.pg.cell 0
 have hgl := hG.lt
 have hgbl := hG.blk.lt
 have hpl := hp.pg.lt
 have hbl : b < c.its.length := by have := ha.le; simp at this; omega
 have hlen := hc.len
 have hbs := hc.bs
 have hN := hc.N
 have i1 := hp.inv.pl
 have i2 := hp.inv.en
 obtain ⟨d, hd⟩ : ∃ d : Nat, x.d = (d : Int) := ⟨x.d.toNat, by have := hx.it.d (by rw [hcc]; rfl); omega⟩
 have hd8 : d < 8 := by have := hx.it.d (by rw [hcc]; rfl); omega
 have hd8' : (d : Int) < 8 := by omega
 have hdl := hp.dp.lt
 have hdn : x.d.toNat = d := by omega
 rw [hdn] at hcond ⊢
 have hn2 : (st.deps d).1 < 4294967296 := (hp.inv.deps d).1
 have hk4 : (st.deps d).2 ≤ 4 := (hp.inv.deps d).2
 obtain ⟨n, hn⟩ : ∃ n, (st.deps d).1 = n := ⟨_, rfl⟩
 obtain ⟨kw, hkw⟩ : ∃ k, (st.deps d).2 = k := ⟨_, rfl⟩
 have dv3 : ∀ o1 o2 o3, (((w.alloc o1).alloc o2).alloc o3).cell? ⟨db, d * 2, none⟩ = some (.int .i64 n) := fun o1 o2 o3 => by
  have := (Blk.alloc (Blk.alloc (Blk.alloc hp.dp o1) o2) o3).cell (2 * d)
  rw [(dpC_v st.deps d hd8).1, hn] at this
  rw [Nat.mul_comm d 2]; exact this
 have dw3 : ∀ o1 o2 o3, (((w.alloc o1).alloc o2).alloc o3).cell? ⟨db, d * 2 + 1, none⟩ = some (.int .i64 kw) := fun o1 o2 o3 => by
  have := (Blk.alloc (Blk.alloc (Blk.alloc hp.dp o1) o2) o3).cell (2 * d + 1)
  rw [(dpC_v st.deps d hd8).2, hkw] at this
  rw [Nat.mul_comm d 2]; exact this
 rw [hd] at q4
 rw [hcc] at q0
 rw [hn] at hn2 hcond
 rw [hkw] at hk4
 have HA := hide' ha.tail
 have HTr := hide' htr
 have HW := hide' hw
 have HI := hide' ih
 have HC := hide' hc
 have HBel := hide' hp.bel
 have HInv := hide' hp.inv
 have HB0 := hide' (BAt.new hp)
 have HT : Hid (windowT (tryT c.G c.bs c.N g) (st.deps d).1 r fuel far st = failO fuel far st.pl st) := by
  have : windowT (tryT c.G c.bs c.N g) (st.deps d).1 r fuel far st = failO fuel far st.pl st := by unfold windowT; rw [hn]; rw [if_pos hcond]
  exact this
 generalize windowT (tryT c.G c.bs c.N g) (st.deps d).1 r fuel far st = O at *
 have hs0 : ((w.alloc (.cells (rsC st rb c.bs.size db) 140)).alloc (.cells zero5 140)).heap.size = w.heap.size + 1 + 1 := by simp
 clear hG hp hc ih ha htr hw hx hcc hn hkw
 unfold rsC zero5 at HB0 hs0
 unfold rsC
 have hcd : (st.en : Int) - (st.pl : Int) < (n : Int) := by omega
 go_enter Tryz.func96, Tryz.ntmps96
 go_wp2_with fail
 generalize (w.alloc (.cells #[.int .i64 st.pl, .int .i64 st.en, .slice (some ⟨rb, 0, none⟩) c.bs.size c.bs.size, .slice (some ⟨db, 0, none⟩) 8 8, .int .i64 st.vals] 140)).alloc (.cells #[.int .i64 0, .int .i64 0, .slice none 0 0, .slice none 0 0, .int .i64 0] 140) = W0 at *
 have HW1 : Hid (WAt c w st rb db fuel far #[.int .u8 119, .int .i64 x.w, .int .i64 x.b, .int .i64 x.r, .int .i64 d, .int .i64 x.pl, .int .i64 (b + x.nx), .int .i64 x.rl, .int .i64 0] n kw st (((W0.alloc (.cells #[.int .u8 119, .int .i64 x.w, .int .i64 x.b, .int .i64 x.r, .int .i64 d, .int .i64 x.pl, .int .i64 (b + x.nx), .int .i64 x.rl, .int .i64 0] 132)).alloc (.cells #[.int .i64 n, .int .i64 kw] 240)).alloc (.cells #[.int .i64 st.pl, .int .i64 st.en, .slice (some ⟨rb, 0, none⟩) c.bs.size c.bs.size, .slice (some ⟨db, 0, none⟩) 8 8, .int .i64 st.vals] 140))) := WAt.new (us := st) HB0.out hs0
 clear HB0 q0 q1 q2 q3 q4 q5 q6 q7 q8 c0 p0 dv3 dw3
 generalize ((W0.alloc (.cells #[.int .u8 119, .int .i64 x.w, .int .i64 x.b, .int .i64 x.r, .int .i64 d, .int .i64 x.pl, .int .i64 (b + x.nx), .int .i64 x.rl, .int .i64 0] 132)).alloc (.cells #[.int .i64 n, .int .i64 kw] 240)).alloc (.cells #[.int .i64 st.pl, .int .i64 st.en, .slice (some ⟨rb, 0, none⟩) c.bs.size c.bs.size, .slice (some ⟨db, 0, none⟩) 8 8, .int .i64 st.vals] 140) = W1 at *
 refine (fails_calls _ c.pb c.gb c.bs fuel c.N far 0 st.pl st rb c.bs.size db (HW1.out).bat.pg).mono ?_
 rintro e w5 ⟨rfl, hp5, hf5⟩
 obtain ⟨g1, g2, g3, g4⟩ := (HW1.out).bat.next hf5 hp5
 obtain ⟨zz0, zz1, zz2, zz3, zz4, zzf⟩ := g4.five
 have HF5 := hide' g1
 have HP5 := hide' hp5
 clear g1 g2 g3 g4 hp5 hf5
 unfold rsR rsC
 go_wp2_with fail
 refine bodyPost_ret (v := .tuple #[.agg (rsC st rb c.bs.size db), .string ⟨#[]⟩, .bool false]) (by simp [results, Tryz.results96, go_sem, rsC, zz0, zz1, zz2, zz3, zz4]) rfl ?_
 rw [HT.out]
 exact RPost.fail (HF5.out.set5 (b := w.heap.size + 1) (by omega) _ _ _ _ _) rfl (Blk.other5 HP5.out (b := w.heap.size + 1) (by omega) _ _ _ _ _)
end Go.Proofs.YtmlkhhhjdpbhfaaGreatDoor

import Derived.Test.YtmlkhhhjdpbhfaaGreatDoorPa39
namespace Go.Proofs.YtmlkhhhjdpbhfaaGreatDoor
open Go.RowKit
structure XAt (c : Rx) (T : Nat → Nat → Bool → List It → PS → PO) (r : List It) (w : World) (st : PS) (rb db : Nat) (O : PO) (nj : Nat) (t : List UInt8) (stj : PS) (rbj dbj fuel far : Nat) (wr : World) : Prop where
 bat : BAt c w st rb db fuel far wr
 ub : Blk wr (w.heap.size + 1 + 1) (rsC stj rbj c.bs.size dbj) 140
 sj : StAt c wr stj rbj dbj
 inv : PInv c.bs c.N stj
 rem : O = timesT T c.N r nj fuel far stj t
 len : t.length ≤ 8011 * stj.vals
set_option maxRecDepth 100000 in
set_option maxHeartbeats 2000000 in
theorem rtimes_calls (c : Rx) (hc : RxOk c) (g : Nat) (ih : RTry c g) (w : World) (st : PS) (rb db fuel far : Nat) (hp : RPre c w st rb db fuel far) (b : Nat) (x : It) (r : List It) (f : Nat) (ha : At c.its b (x :: r)) (hx : ItR x) (hcc : x.c = 116) (htr : TrS f r) (hw : TrW c.R false false r) (hfu : fuel ≤ 100000) (hg : fuel < g) :
 Calls Tryz.prog 95 #[.pointer (some ⟨c.pb, 0, none⟩), .int .i64 b, .agg (rsC st rb c.bs.size db)] w fun e w' => RPost c w (timesT (tryT c.G c.bs c.N g) c.N r (st.deps x.d.toNat).1 fuel far st []) e w' := by
 have hpl := hp.pg.lt
 have hbl : b < c.its.length := by have := ha.le; simp at this; omega
 have hlen := hc.len
 have hbs := hc.bs
 have hN := hc.N
 obtain ⟨d, hd⟩ : ∃ d : Nat, x.d = (d : Int) := ⟨x.d.toNat, by have := hx.it.d (by rw [hcc]; rfl); omega⟩
 have hd8 : d < 8 := by have := hx.it.d (by rw [hcc]; rfl); omega
 have hd8' : (d : Int) < 8 := by omega
 have hdn : x.d.toNat = d := by omega
 rw [hdn]
 have hn2 : (st.deps d).1 < 4294967296 := (hp.inv.deps d).1
 have HAx := hide' ha
 have HIn := hide' hp.inv
 have HA := hide' ha.tail
 have HTr := hide' htr
 have HW := hide' hw
 have HI := hide' ih
 have HC := hide' hc
 have HBel := hide' hp.bel
 have hB0 := BAt.new hp
 have HM0 : Hid (XAt c (tryT c.G c.bs c.N g) r w st rb db (timesT (tryT c.G c.bs c.N g) c.N r (st.deps d).1 fuel far st []) (st.deps d).1 [] st rb db fuel far (((w.alloc (.cells (rsC st rb c.bs.size db) 140)).alloc (.cells zero5 140)).alloc (.cells (rsC st rb c.bs.size db) 140))) := by
  have h := hB0.below ((Below.refl _ _).alloc (Nat.le_refl _) (.cells (rsC st rb c.bs.size db) 140))
  have h2 := Blk.new ((w.alloc (.cells (rsC st rb c.bs.size db) 140)).alloc (.cells zero5 140)) (rsC st rb c.bs.size db) 140
  have h3 : XAt c (tryT c.G c.bs c.N g) r w st rb db (timesT (tryT c.G c.bs c.N g) c.N r (st.deps d).1 fuel far st []) (st.deps d).1 [] st rb db fuel far (((w.alloc (.cells (rsC st rb c.bs.size db) 140)).alloc (.cells zero5 140)).alloc (.cells (rsC st rb c.bs.size db) 140)) := ⟨h, by simpa using h2, h.sa, hp.inv, rfl, by simp⟩
  exact h3
 have hs0 : (((w.alloc (.cells (rsC st rb c.bs.size db) 140)).alloc (.cells zero5 140)).alloc (.cells (rsC st rb c.bs.size db) 140)).heap.size = w.heap.size + 3 := by simp
 obtain ⟨n, hn⟩ : ∃ n, (st.deps d).1 = n := ⟨_, rfl⟩
 have HDn := hide' hn
 rw [hn] at hn2 HM0
 rw [hn]
 clear hp hc ih ha htr hw hB0 hx hcc hn
 generalize timesT (tryT c.G c.bs c.N g) c.N r n fuel far st [] = O at *
 unfold rsC zero5 at HM0 hs0
 unfold rsC
 go_enter Tryz.func95, Tryz.ntmps95
 go_wp2_with fail
 generalize ((w.alloc (.cells #[.int .i64 st.pl, .int .i64 st.en, .slice (some ⟨rb, 0, none⟩) c.bs.size c.bs.size, .slice (some ⟨db, 0, none⟩) 8 8, .int .i64 st.vals] 140)).alloc (.cells #[.int .i64 0, .int .i64 0, .slice none 0 0, .slice none 0 0, .int .i64 0] 140)).alloc (.cells #[.int .i64 st.pl, .int .i64 st.en, .slice (some ⟨rb, 0, none⟩) c.bs.size c.bs.size, .slice (some ⟨db, 0, none⟩) 8 8, .int .i64 st.vals] 140) = W0 at *
 have hpre0 := HM0.out.bat.pre HC.out HBel.out HM0.out.inv
 have hG0 := hpre0.grm HC.out
 obtain ⟨q0, q1, q2, q3, q4, q5, q6, q7, q8⟩ := hG0.nine HAx.out
 have c0 : W0.cell? ⟨c.gb, 0, none⟩ = some (.slice (some ⟨c.g, 0, none⟩) c.its.length c.cap) := hG0.top
 have p0 : W0.cell? ⟨c.pb, 0, none⟩ = some (.pointer (some ⟨c.gb, 0, none⟩)) := HM0.out.bat.pg.cell 0
 have b3 : W0.cell? ⟨w.heap.size, 3, none⟩ = some (.slice (some ⟨db, 0, none⟩) 8 8) := HM0.out.bat.box.cell 3
 have dv : W0.cell? ⟨db, d * 2, none⟩ = some (.int .i64 n) := by
  have := hpre0.dp.cell (2 * d)
  rw [(dpC_v st.deps d hd8).1, HDn.out] at this
  rw [Nat.mul_comm d 2]; exact this
 rw [hd] at q4
 clear hpre0 hG0 q0 q1 q2 q3 q5 q6 q7 q8
 go_quiet (fail)
 go_wp2_with fail
 clear c0 p0 b3 dv q4
 have HM1 : Hid (XAt c (tryT c.G c.bs c.N g) r w st rb db O n [] st rb db fuel far (W0.drewN nq)) := by
  have h := HM0.out
  exact (⟨h.bat.drewN nq, h.ub, h.sj.drewN nq, h.inv, h.rem, h.len⟩ : XAt c (tryT c.G c.bs c.N g) r w st rb db O n [] st rb db fuel far (W0.drewN nq))
 have hs1 : (W0.drewN nq).heap.size = w.heap.size + 3 := hs0
 clear HM0 hs0
 generalize W0.drewN nq = W1 at *
 go_loopw [9, 12] (fun v9 v12 wr => ∃ (i : Nat) (t : List UInt8) (stj : PS) (rbj dbj fuelj farj : Nat), v9 = .string ⟨t.toArray⟩ ∧ v12 = .int .i64 i ∧ i ≤ n ∧ fuelj ≤ fuel ∧ w.heap.size + 1 + 1 < wr.heap.size ∧ Hid (XAt c (tryT c.G c.bs c.N g) r w st rb db O (n - i) t stj rbj dbj fuelj farj wr)) (fun _ v12 _ => n - (intOf v12).toNat)
 case atStart => exact ⟨0, [], st, rb, db, fuel, far, rfl, rfl, Nat.zero_le _, Nat.le_refl _, by omega, HM1⟩
 case round =>
  clear HM1 hs1
  obtain ⟨i, t, stj, rbj, dbj, fuelj, farj, rfl, rfl, hin, hfj, hszr, hat⟩ := hrel
  have hsl : stj.vals ≤ c.N := hat.out.inv.vals
  have htl : (⟨t.toArray⟩ : ByteArray).size ≤ 80110000 := by rw [mk_size]; have := hat.out.len; omega
  obtain ⟨u0, u1, u2, u3, u4, _⟩ := hat.out.ub.five
  by_cases hlt : i < n
  · have hlt' : (i : Int) < (n : Int) := by omega
    have hpb := hat.out.bat.pre HC.out HBel.out HIn.out
    have hpre : RPre c wr stj rbj dbj fuelj farj := ⟨hpb.pg, hpb.bel, hat.out.sj.rd, hat.out.sj.dp, hat.out.inv⟩
    have hcall := HI.out wr stj rbj dbj fuelj farj r (b + 1) f false false false hpre HA.out HTr.out HW.out (by omega) (by omega)
    have HOk : Hid ((tryT c.G c.bs c.N g fuelj farj false r stj).ok = true → (Keeps c.bs c.N stj (hidV r) (tryT c.G c.bs c.N g fuelj farj false r stj) ∧ (tryT c.G c.bs c.N g fuelj farj false r stj).e = 0) ∧ Lng stj (silK false r) (tryT c.G c.bs c.N g fuelj farj false r stj)) := fun hok => ⟨(tryT_ok c.G HC.out.trw g).fit fuelj farj false false false r _ HW.out hat.out.inv hok, tryT_lng hbs c.G HC.out.trw g fuelj farj false false false r stj HW.out hat.out.inv hok⟩
    have hless : (tryT c.G c.bs c.N g fuelj farj false r stj).fuel ≤ fuelj := (tryT_ok (R := c.R) c.G HC.out.trw g).less fuelj farj false r stj
    have hrem := hat.out.rem
    rw [show n - i = (n - (i + 1)) + 1 by omega, timesT] at hrem
    have HO1 := hide' hrem
    clear hrem
    generalize ho' : tryT c.G c.bs c.N g fuelj farj false r stj = o at *
    clear ho'
    have HCall := hide' hcall
    have HAt := hat
    clear hcall hpre hpb hat
    unfold rsC at HCall
    simp only [Int.natCast_add] at HCall
    go_wp2_with fail
    refine HCall.out.mono ?_
    clear HCall u0 u1 u2 u3 u4
    rintro e w2 ⟨hf2, st', rb', db', fu', fa', t', rfl, hp2, hfe, hok2⟩
    obtain ⟨g1, g2, g3, g4⟩ := HAt.out.bat.next hf2 hp2
    have g5 := hf2.blk HAt.out.ub HAt.out.ub.lt (by omega)
    have hs2 := hf2.size
    have hl0 : w.heap.size < w2.heap.size := by omega
    have hl1 : w.heap.size + 1 < w2.heap.size := by omega
    have hl2 : w.heap.size + 1 + 1 < w2.heap.size := by omega
    have hl5 : ¬ w2.heap.size = w.heap.size := by omega
    have hl6 : ¬ w2.heap.size = w.heap.size + 1 := by omega
    have hl7 : ¬ w2.heap.size = w.heap.size + 1 + 1 := by omega
    obtain ⟨b0, b1, b2, b3, b4, _⟩ := g3.five
    obtain ⟨z0, z1, z2, z3, z4, zf⟩ := g4.five
    obtain ⟨v0, v1, v2, v3, v4, vf⟩ := g5.five
    have HF2 := hide' g1
    have HP2 := hide' hp2
    have HS2 := hide' g2
    have HX2 := hide' g3
    have HZ2 := hide' g4
    have HV2 := hide' g5
    have HFe := hide' hfe
    have HOk2 := hide' hok2
    clear g1 g2 g3 g4 g5 hp2 hfe hok2 hf2
    unfold rsR rsC
    cases hok : o.ok
    · rw [if_neg (by rw [hok]; simp)] at HO1
      go_wp2_with fail
      refine bodyPost_ret (v := .tuple #[.agg (rsC st rb c.bs.size db), .string ⟨#[]⟩, .bool false]) (by simp [results, Tryz.results95, go_sem, rsC, z0, z1, z2, z3, z4, hl1]) rfl ?_
      rw [HO1.out]
      exact RPost.none ((HF2.out.set5 (b := w.heap.size + 1) (by omega) _ _ _ _ _).alloc (by rw [st5_size]; omega) _) rfl hok (Blk.alloc (Blk.other5 HP2.out (b := w.heap.size + 1) (by omega) _ _ _ _ _) _) HFe.out
    · rw [if_pos hok] at HO1
      obtain ⟨⟨hkp, hoe⟩, hlng⟩ := HOk.out hok
      obtain ⟨e1, e2, hsa⟩ := HOk2.out hok
      obtain ⟨e3, e4⟩ := HFe.out hoe
      subst e1
      subst e2
      subst e3
      subst e4
      rw [hoe] at HP2
      have HKp := hide' hkp
      have HSa := hide' hsa
      have hlv := hlng.vals
      have hll := hlng.len
      rw [silK_not HW.out rfl] at hll
      simp only [Bool.false_eq_true, if_false] at hll
      have hov := hkp.inv.vals
      have htl0 := HAt.out.len
      have hjl := joinT_le t o.t
      have HJ := hide' (fun W => joined_calls t o.t W (by omega) (by omega))
      clear hkp hsa hlng
      go_wp2_with
       (go_at_call 170
        refine (HJ.out _).mono ?_
        rintro e w9 ⟨rfl, rfl⟩)
      have hXN : XAt c (tryT c.G c.bs c.N g) r w st rb db O (n - (i + 1)) (joinT t o.t) o.st rb' db' o.fuel o.far ((st5 w2 (w.heap.size + 1 + 1) (.int .i64 o.st.pl) (.int .i64 o.st.en) (.slice (some ⟨rb', 0, none⟩) c.bs.size c.bs.size) (.slice (some ⟨db', 0, none⟩) 8 8) (.int .i64 o.st.vals)).alloc (.cells #[.int .i64 o.st.pl, .int .i64 o.st.en, .slice (some ⟨rb', 0, none⟩) c.bs.size c.bs.size, .slice (some ⟨db', 0, none⟩) 8 8, .int .i64 o.st.vals] 140)) := by
       have h5 : BAt c w st rb db o.fuel o.far (st5 w2 (w.heap.size + 1 + 1) (.int .i64 o.st.pl) (.int .i64 o.st.en) (.slice (some ⟨rb', 0, none⟩) c.bs.size c.bs.size) (.slice (some ⟨db', 0, none⟩) 8 8) (.int .i64 o.st.vals)) :=
        ⟨HF2.out.set5 (by omega) _ _ _ _ _, Blk.other5 HP2.out (by omega) _ _ _ _ _, HS2.out.set5 HV2.out _ _ _ _ _, Blk.other5 HX2.out (by omega) _ _ _ _ _, Blk.other5 HZ2.out (by omega) _ _ _ _ _, hpl⟩
       exact ⟨h5.below ((Below.refl _ _).alloc (Nat.le_refl _) _), Blk.alloc (Blk.set5 HV2.out _ _ _ _ _) _, (HSa.out.set5 HV2.out _ _ _ _ _).below ((Below.refl _ _).alloc (Nat.le_refl _) _), HKp.out.inv, HO1.out, by omega⟩
      have hsN := hXN.ub.lt
      have HXN := hide' hXN
      clear hXN
      go_roundw
      case rel => exact ⟨i + 1, joinT t o.t, o.st, rb', db', o.fuel, o.far, rfl, by go_num, by omega, by omega, hsN, HXN⟩
      case measure => simp [intOf]; omega
  · have hlt' : ¬ (i : Int) < (n : Int) := by omega
    have hie : i = n := by omega
    subst hie
    have hrem := hat.out.rem
    rw [Nat.sub_self, timesT] at hrem
    have HO1 := hide' hrem
    have HAt := hat
    clear hrem hat
    have HA3 := hide' (brack t)
    generalize (⟨t.toArray⟩ : ByteArray) = TB at *
    go_wp2_with fail
    rw [HA3.out]
    have hcall := made_calls' wr c.pb c.gb c.bs fuelj c.N farj 0 stj rbj c.bs.size dbj (91 :: t ++ [93]) HAt.out.bat.pg hN hsl
    unfold rsC at hcall
    refine hcall.mono ?_
    clear hcall
    rintro e w5 ⟨he5, hp5, hf5⟩
    obtain ⟨s', t2, ok', he6, hz5, hpost⟩ := HAt.out.bat.made HAt.out.sj he5 hp5 hf5
    rw [← HO1.out] at hpost
    have HPost := hide' hpost
    subst he6
    obtain ⟨zz0, zz1, zz2, zz3, zz4, zzf⟩ := hz5.five
    clear hp5 hf5 he5 hz5 hpost
    unfold rsR rsC
    go_wp2_with fail
    refine bodyPost_ret (v := .tuple #[.agg (rsC s' rbj c.bs.size dbj), .string ⟨t2.toArray⟩, .bool ok']) (by simp [results, Tryz.results95, go_sem, rsC, zz0, zz1, zz2, zz3, zz4]) rfl ?_
    exact HPost.out
end Go.Proofs.YtmlkhhhjdpbhfaaGreatDoor

import Derived.Test.YtmlkhhhjdpbhfaaGreatDoorPa41
namespace Go.Proofs.YtmlkhhhjdpbhfaaGreatDoor
open Go.RowKit
def KRow (w wr : World) (ao : Option Addr) (kl : List Nat) : Prop :=
 kl = [] ∨ ∃ kg, ao = some ⟨kg, 0, none⟩ ∧ w.heap.size + 1 + 1 < kg ∧ kg < wr.heap.size ∧ ∀ j, j < kl.length → wr.cell? ⟨kg, j, none⟩ = some (.int .i64 (kl.getD j 0 : Nat))
structure HAt (c : Rx) (w : World) (st : PS) (rb db : Nat) (ao : Option Addr) (kl : List Nat) (stj : PS) (rbj dbj fuel far : Nat) (wr : World) : Prop where
 bat : BAt c w st rb db fuel far wr
 uk : Blk wr (w.heap.size + 1 + 1) (rsC stj rbj c.bs.size dbj) 140
 sj : StAt c wr stj rbj dbj
 inv : PInv c.bs c.N stj
 row : KRow w wr ao kl
structure VAt (c : Rx) (w : World) (st : PS) (rb db kg : Nat) (kl : List Nat) (stj : PS) (rbj dbj : Nat) (o : PO) (vb : Nat) (st' : PS) (rb' db' fu' fa' : Nat) (t' : List UInt8) (wc : World) : Prop where
 fr : Fr w.heap.size c.pb w wc
 pg : PgAt wc c.pb c.gb c.bs fu' c.N fa' o.e
 sa : StAt c wc st rb db
 box : Blk wc w.heap.size (rsC st rb c.bs.size db) 140
 res : Blk wc (w.heap.size + 1) zero5 140
 uk : Blk wc (w.heap.size + 1 + 1) (rsC stj rbj c.bs.size dbj) 140
 vk : Blk wc vb (rsC st' rb' c.bs.size db') 140
 vl : w.heap.size + 1 + 1 < vb
 kid : ∀ j, j < kl.length → wc.cell? ⟨kg, j, none⟩ = some (.int .i64 (kl.getD j 0 : Nat))
 kgl : kg < wc.heap.size
 fe : o.e = 0 → fu' = o.fuel ∧ fa' = o.far
 ok : o.ok = true → st' = o.st ∧ t' = o.t ∧ StAt c wc o.st rb' db'
theorem BAt.setOne {c : Rx} {w : World} {st : PS} {rb db fuel far : Nat} {W : World} (h : BAt c w st rb db fuel far W) {b : Nat} {cs : Array Value} (hb : Blk W b cs 140) (hl : w.heap.size + 1 < b) (j : Nat) (v : Value) : BAt c w st rb db fuel far (W.setCell ⟨b, j, none⟩ v) := by
 have hlt := h.lt
 refine ⟨h.fr.setCell (p := ⟨b, j, none⟩) (Or.inr (by simp only; omega)) v, Blk.setOther h.pg ⟨b, j, none⟩ (by simp only; omega) v, ⟨Blk.setOther h.sa.rd ⟨b, j, none⟩ (blk_ne h.sa.rd hb (by decide)) v, Blk.setOther h.sa.dp ⟨b, j, none⟩ (blk_ne h.sa.dp hb (by decide)) v, h.sa.rne, h.sa.dne⟩, h.box.setOther ⟨b, j, none⟩ (by simp only; omega) v, h.res.setOther ⟨b, j, none⟩ (by simp only; omega) v, hlt⟩
theorem paren (t : List UInt8) : (({ data := #[40] } : ByteArray) ++ ⟨t.toArray⟩) ++ { data := #[41] } = ⟨(40 :: t ++ [41]).toArray⟩ := by
 rw [show ({ data := #[40] } : ByteArray) = ⟨[40].toArray⟩ from rfl, show ({ data := #[41] } : ByteArray) = ⟨[41].toArray⟩ from rfl, mk_app, mk_app]; simp
theorem cell5 (W : World) (b kg j : Nat) (hne : kg ≠ b) (v0 v1 v2 v3 v4 : Value) : (st5 W b v0 v1 v2 v3 v4).cell? ⟨kg, j, none⟩ = W.cell? ⟨kg, j, none⟩ := World.cell?_of_block (by
 simp only [st5]
 rw [Below.heap_setCell _ _ _ _ hne, Below.heap_setCell _ _ _ _ hne, Below.heap_setCell _ _ _ _ hne, Below.heap_setCell _ _ _ _ hne, Below.heap_setCell _ _ _ _ hne])
theorem cellA (W : World) (o : Obj) (kg j : Nat) (h : kg < W.heap.size) : (W.alloc o).cell? ⟨kg, j, none⟩ = W.cell? ⟨kg, j, none⟩ := World.cell?_of_block (Below.heap_alloc W o kg h)
theorem kidsT_rcons (T : Nat → Nat → Bool → List It → PS → PO) (k : List It) (ks : List (List It)) (fuel far : Nat) (st : PS) (t : List UInt8) : kidsT T (k :: ks) fuel far st t =
 if (T fuel far (silV k) k st).ok = true then kidsT T ks (T fuel far (silV k) k st).fuel (T fuel far (silV k) k st).far (T fuel far (silV k) k st).st (if silV k then t else joinT t (T fuel far (silV k) k st).t) else T fuel far (silV k) k st := rfl
set_option maxRecDepth 100000 in
set_option maxHeartbeats 1000000 in
theorem rwhole_calls (c : Rx) (hc : RxOk c) (g : Nat) (ih : RTry c g) (w : World) (st : PS) (rb db fuel far : Nat) (hp : RPre c w st rb db fuel far) (b : Nat) (x : It) (r : List It) (qs : List (Nat × List It)) (f : Nat) (ha : At c.its b (x :: r)) (hk : kidsV c.its b = qs.map Prod.fst)
 (hz : ∀ q, q ∈ qs → At c.its q.1 q.2 ∧ TrS f q.2 ∧ TrW c.R true true q.2) (hfu : fuel ≤ 100000) (hg : fuel < g) :
 Calls Tryz.prog 92 #[.pointer (some ⟨c.pb, 0, none⟩), .int .i64 b, .agg (rsC st rb c.bs.size db)] w fun e w' => RPost c w (wholeT (tryT c.G c.bs c.N g) c.N (qs.map Prod.snd) fuel far st) e w' := by
 have hbl : b < c.its.length := by have := ha.le; simp at this; omega
 have hlen := hc.len
 have hbs := hc.bs
 have hN := hc.N
 have hpl := hp.pg.lt
 have hmk := mk_deps
 have HI := hide' ih
 have HC := hide' hc
 have HBel := hide' hp.bel
 have HIn := hide' hp.inv
 have HQ := hide' hz
 have HKv := hide' hk
 have hst0 : PInv c.bs c.N { st with deps := fun _ => (0, 0) } := ⟨hp.inv.pl, hp.inv.en, hp.inv.rd, hp.inv.vals, fun _ => ⟨by simp, by simp⟩⟩
 have HI0 := hide' hst0
 have p0 : ∀ o1 o2 o3 o4, ((((w.alloc o1).alloc o2).alloc o3).alloc o4).cell? ⟨c.pb, 0, none⟩ = some (.pointer (some ⟨c.gb, 0, none⟩)) := fun o1 o2 o3 o4 => (Blk.alloc (Blk.alloc (Blk.alloc (Blk.alloc hp.pg o1) o2) o3) o4).cell 0
 have HB0 := hide' (BAt.new hp)
 have hs0 : ((w.alloc (.cells (rsC st rb c.bs.size db) 140)).alloc (.cells zero5 140)).heap.size = w.heap.size + 1 + 1 := by simp
 have HT : Hid (wholeT (tryT c.G c.bs c.N g) c.N (qs.map Prod.snd) fuel far st = wholeE c.N st.deps (kidsT (tryT c.G c.bs c.N g) (qs.map Prod.snd) fuel far { st with deps := fun _ => (0, 0) } [])) := rfl
 generalize wholeT (tryT c.G c.bs c.N g) c.N (qs.map Prod.snd) fuel far st = O at *
 generalize hKO : kidsT (tryT c.G c.bs c.N g) (qs.map Prod.snd) fuel far { st with deps := fun _ => (0, 0) } [] = KO at *
 have HKO := hide' hKO
 clear hp hc ih ha hk hz hst0 hKO
 unfold rsC zero5 at HB0 hs0
 unfold rsC
 go_enter Tryz.func92, Tryz.ntmps92
 go_wp2_with fail
 generalize (w.alloc (.cells #[.int .i64 st.pl, .int .i64 st.en, .slice (some ⟨rb, 0, none⟩) c.bs.size c.bs.size, .slice (some ⟨db, 0, none⟩) 8 8, .int .i64 st.vals] 140)).alloc (.cells #[.int .i64 0, .int .i64 0, .slice none 0 0, .slice none 0 0, .int .i64 0] 140) = W0 at *
 have hu0 := Blk.new W0 #[.int .i64 st.pl, .int .i64 st.en, .slice (some ⟨rb, 0, none⟩) c.bs.size c.bs.size, .slice (some ⟨w.heap.size + 1 + 1 + 1, 0, none⟩) 8 8, .int .i64 st.vals] 140
 have hd0 := Blk.new (W0.alloc (.cells #[.int .i64 st.pl, .int .i64 st.en, .slice (some ⟨rb, 0, none⟩) c.bs.size c.bs.size, .slice (some ⟨w.heap.size + 1 + 1 + 1, 0, none⟩) 8 8, .int .i64 st.vals] 140)) (dpC fun _ => (0, 0)) 240
 have hs3 : (W0.alloc (.cells #[.int .i64 st.pl, .int .i64 st.en, .slice (some ⟨rb, 0, none⟩) c.bs.size c.bs.size, .slice (some ⟨w.heap.size + 1 + 1 + 1, 0, none⟩) 8 8, .int .i64 st.vals] 140)).heap.size = w.heap.size + 1 + 1 + 1 := by simp; omega
 rw [hs0] at hu0
 rw [hs3] at hd0
 have HB4 := hide' ((HB0.out.below ((Below.refl _ _).alloc (Nat.le_refl _) (.cells #[.int .i64 st.pl, .int .i64 st.en, .slice (some ⟨rb, 0, none⟩) c.bs.size c.bs.size, .slice (some ⟨w.heap.size + 1 + 1 + 1, 0, none⟩) 8 8, .int .i64 st.vals] 140))).below ((Below.refl _ _).alloc (Nat.le_refl _) (.cells (dpC fun _ => (0, 0)) 240)))
 have HU4 := hide' (Blk.alloc hu0 (.cells (dpC fun _ => (0, 0)) 240))
 have HD4 := hide' hd0
 have hs4 : ((W0.alloc (.cells #[.int .i64 st.pl, .int .i64 st.en, .slice (some ⟨rb, 0, none⟩) c.bs.size c.bs.size, .slice (some ⟨w.heap.size + 1 + 1 + 1, 0, none⟩) 8 8, .int .i64 st.vals] 140)).alloc (.cells (dpC fun _ => (0, 0)) 240)).heap.size = w.heap.size + 1 + 1 + 1 + 1 := by simp; omega
 clear hu0 hd0 HB0 p0
 generalize (W0.alloc (.cells #[.int .i64 st.pl, .int .i64 st.en, .slice (some ⟨rb, 0, none⟩) c.bs.size c.bs.size, .slice (some ⟨w.heap.size + 1 + 1 + 1, 0, none⟩) 8 8, .int .i64 st.vals] 140)).alloc (.cells (dpC fun _ => (0, 0)) 240) = W4 at *
 have hpre4 := HB4.out.pre HC.out HBel.out HIn.out
 refine (rkids_calls W4 c.gb c.g c.cap _ c.tw c.its (hpre4.grm HC.out) HC.out.wf (by omega) b hbl).mono ?_
 rintro e w1 ⟨v, rfl, hints, hb1, hown⟩
 rw [HKv.out] at hints
 have hs1 := hb1.size
 obtain ⟨ao, kcap, hvv, hcapm, hrow⟩ : ∃ ao cap, v = .slice ao qs.length cap ∧ qs.length ≤ maxLen ∧ KRow w w1 ao (qs.map Prod.fst) := by
  rcases hints with ⟨h1, h2⟩ | ⟨kg, cap, h1, h2, h3, h4, h5⟩
  · have : qs = [] := by simpa using h2
    subst this
    exact ⟨none, 0, by rw [h1]; rfl, by simp, Or.inl rfl⟩
  · refine ⟨some ⟨kg, 0, none⟩, cap, by rw [h1, List.length_map], by rw [List.length_map] at h3; omega, Or.inr ⟨kg, rfl, ?_, h2, h5⟩⟩
    have := hown kg (by rw [h1]; rfl)
    omega
 subst hvv
 have HM : Hid (HAt c w st rb db ao (qs.map Prod.fst) { st with deps := fun _ => (0, 0) } rb (w.heap.size + 1 + 1 + 1) fuel far w1) := by
  have h1 := HB4.out.below hb1
  have h2 : StAt c W4 { st with deps := fun _ => (0, 0) } rb (w.heap.size + 1 + 1 + 1) := ⟨HB4.out.sa.rd, HD4.out, HB4.out.sa.rne, by omega⟩
  have h : HAt c w st rb db ao (qs.map Prod.fst) { st with deps := fun _ => (0, 0) } rb (w.heap.size + 1 + 1 + 1) fuel far w1 := ⟨h1, HU4.out.below hb1 HU4.out.lt, h2.below hb1, HI0.out, hrow⟩
  exact h
 have hs1' : w.heap.size + 1 + 1 < w1.heap.size := by omega
 unfold maxLen at hcapm
 clear hints hb1 hown hrow HB4 HU4 HD4 hpre4 hs4 hs3 hs1
 go_wp2_with fail
 go_loopw [10, 12] (fun v10 v12 wr => ∃ (i : Nat) (t : List UInt8) (stj : PS) (rbj dbj fuelj farj : Nat), v10 = .string ⟨t.toArray⟩ ∧ v12 = .int .i64 i ∧ i ≤ qs.length ∧ fuelj ≤ fuel ∧ w.heap.size + 1 + 1 < wr.heap.size ∧ t.length ≤ 8011 * stj.vals ∧ Hid (KO = kidsT (tryT c.G c.bs c.N g) ((qs.drop i).map Prod.snd) fuelj farj stj t) ∧ Hid (HAt c w st rb db ao (qs.map Prod.fst) stj rbj dbj fuelj farj wr)) (fun _ v12 _ => qs.length - (intOf v12).toNat)
 case atStart => exact ⟨0, [], { st with deps := fun _ => (0, 0) }, rb, w.heap.size + 1 + 1 + 1, fuel, far, rfl, rfl, Nat.zero_le _, Nat.le_refl _, hs1', by simp, (by rw [List.drop_zero]; exact HKO.out.symm : KO = kidsT (tryT c.G c.bs c.N g) ((qs.drop 0).map Prod.snd) fuel far { st with deps := fun _ => (0, 0) } []), HM⟩
 case round =>
  clear HM
  obtain ⟨i, t, stj, rbj, dbj, fuelj, farj, rfl, rfl, hin, hfj, hszr, htl, hrem, hat⟩ := hrel
  have hsl : stj.vals ≤ c.N := hat.out.inv.vals
  by_cases hlt : i < qs.length
  · have hlt' : (i : Int) < (qs.length : Int) := by omega
    obtain ⟨kg, hao, hkg1, hkg2, hkc⟩ : ∃ kg, ao = some ⟨kg, 0, none⟩ ∧ w.heap.size + 1 + 1 < kg ∧ kg < wr.heap.size ∧ ∀ j, j < (qs.map Prod.fst).length → wr.cell? ⟨kg, j, none⟩ = some (.int .i64 ((qs.map Prod.fst).getD j 0 : Nat)) := by
     rcases hat.out.row with h | h
     · have : qs = [] := by simpa using h
       rw [this] at hlt; simp at hlt
     · exact h
    subst hao
    obtain ⟨hka, hkt, hkw⟩ := HQ.out qs[i] (List.getElem_mem hlt)
    have hgi : (qs.map Prod.fst).getD i 0 = qs[i].1 := by rw [getD_lt _ _ _ (by simpa using hlt)]; simp
    have hki : wr.cell? ⟨kg, i, none⟩ = some (.int .i64 (qs[i].1 : Int)) := by rw [hkc i (by simpa using hlt), hgi]
    have hdr : (qs.drop i).map Prod.snd = qs[i].2 :: (qs.drop (i + 1)).map Prod.snd := by rw [List.drop_eq_getElem_cons hlt]; rfl
    rw [hdr] at hrem
    have HO1 := hide' (hrem.out.trans (kidsT_rcons _ _ _ _ _ _ _))
    have HKc := hide' hkc
    clear hrem hdr hgi hkc
    obtain ⟨kb, hkb⟩ : ∃ kb, qs[i].1 = kb := ⟨_, rfl⟩
    obtain ⟨k, hkk⟩ : ∃ k, qs[i].2 = k := ⟨_, rfl⟩
    rw [hkb] at hki hka
    rw [hkk] at hka hkt hkw HO1
    clear hkb hkk
    obtain ⟨y, ys, rfl⟩ : ∃ y ys, k = y :: ys := by
     cases f with
     | zero => exact hkt.elim
     | succ f => obtain ⟨y, kids, e, _⟩ := hkt; exact ⟨y, kids.flatten, e⟩
    have hpb := hat.out.bat.pre HC.out HBel.out HIn.out
    have hG := hpb.grm HC.out
    obtain ⟨q0, _, _, _, _, _, _, _, _⟩ := hG.nine hka
    have c0 : wr.cell? ⟨c.gb, 0, none⟩ = some (.slice (some ⟨c.g, 0, none⟩) c.its.length c.cap) := hG.top
    have p0 : wr.cell? ⟨c.pb, 0, none⟩ = some (.pointer (some ⟨c.gb, 0, none⟩)) := hat.out.bat.pg.cell 0
    have hkbl : kb < c.its.length := by have := hka.le; simp at this; omega
    have hpre : RPre c wr stj rbj dbj fuelj farj := ⟨hpb.pg, hpb.bel, hat.out.sj.rd, hat.out.sj.dp, hat.out.inv⟩
    have hsil : silD y.c = silV (y :: ys) := rfl
    have HOk : Hid ((tryT c.G c.bs c.N g fuelj farj (silV (y :: ys)) (y :: ys) stj).ok = true → (Keeps c.bs c.N stj (hidV (y :: ys)) (tryT c.G c.bs c.N g fuelj farj (silV (y :: ys)) (y :: ys) stj) ∧ (tryT c.G c.bs c.N g fuelj farj (silV (y :: ys)) (y :: ys) stj).e = 0) ∧ Lng stj (silV (y :: ys)) (tryT c.G c.bs c.N g fuelj farj (silV (y :: ys)) (y :: ys) stj)) := fun hok => ⟨(tryT_ok c.G HC.out.trw g).fit fuelj farj (silV (y :: ys)) true true (y :: ys) _ hkw hat.out.inv hok, by have := tryT_lng hbs c.G HC.out.trw g fuelj farj (silV (y :: ys)) true true (y :: ys) stj hkw hat.out.inv hok; rw [silK_sil] at this; exact this⟩
    have hless : (tryT c.G c.bs c.N g fuelj farj (silV (y :: ys)) (y :: ys) stj).fuel ≤ fuelj := (tryT_ok (R := c.R) c.G HC.out.trw g).less fuelj farj (silV (y :: ys)) (y :: ys) stj
    have HCall : Hid (∀ W, RPre c W stj rbj dbj fuelj farj → Calls Tryz.prog 56 #[.pointer (some ⟨c.pb, 0, none⟩), .int .i64 kb, .agg (rsC stj rbj c.bs.size dbj), .bool (silV (y :: ys))] W fun e w' => RPost c W (tryT c.G c.bs c.N g fuelj farj (silV (y :: ys)) (y :: ys) stj) e w') := fun W h => HI.out W stj rbj dbj fuelj farj (y :: ys) kb f true true (silV (y :: ys)) h hka hkt hkw (by omega) (by omega)
    generalize tryT c.G c.bs c.N g fuelj farj (silV (y :: ys)) (y :: ys) stj = o at *
    generalize silV (y :: ys) = sil at *
    have HA9 := hat
    have hgl := hG.lt
    have HSil := hide' (fun W => silent_calls y.c W)
    rw [hsil] at HSil
    clear hat hG hpb hka hkt hkw hpre hsil
    go_wp2_with fail
    go_quiet (first
     | (go_at_call 169
        exact Calls.quiet_of_same (HSil.out _)))
    go_wp2_with fail
    have HQt : Hid (HAt c w st rb db (some ⟨kg, 0, none⟩) (qs.map Prod.fst) stj rbj dbj fuelj farj (wr.drewN nq)) := by
     have h := HA9.out
     have h2 : HAt c w st rb db (some ⟨kg, 0, none⟩) (qs.map Prod.fst) stj rbj dbj fuelj farj (wr.drewN nq) := ⟨h.bat.drewN nq, h.uk, h.sj.drewN nq, h.inv, h.row⟩
     exact h2
    have HKi : Hid ((wr.drewN nq).cell? ⟨kg, i, none⟩ = some (.int .i64 kb)) := hki
    have HKq : Hid (∀ j, j < (qs.map Prod.fst).length → (wr.drewN nq).cell? ⟨kg, j, none⟩ = some (.int .i64 ((qs.map Prod.fst).getD j 0 : Nat))) := HKc.out
    have hkq : kg < (wr.drewN nq).heap.size := hkg2
    have hszq : w.heap.size + 1 + 1 < (wr.drewN nq).heap.size := hszr
    clear HA9 hki HKc hkg2 hszr q0 c0 p0
    generalize wr.drewN nq = w1 at *
    go_cut [14, 15, 16] (fun v14 v15 v16 wc => ∃ (vb : Nat) (st' : PS) (rb' db' fu' fa' : Nat) (t' : List UInt8), v14 = .pointer (some ⟨vb, 0, none⟩) ∧ v15 = .string ⟨t'.toArray⟩ ∧ v16 = .bool o.ok ∧ Hid (VAt c w st rb db kg (qs.map Prod.fst) stj rbj dbj o vb st' rb' db' fu' fa' t' wc))
    case first =>
     have hkp : kg ≠ c.pb := by omega
     have hkl : kg < w1.heap.size := hkq
     have HRd2 : Hid (∀ W, W.cell? ⟨kg, i, none⟩ = some (.int .i64 kb) → Blk W (w.heap.size + 1 + 1) (rsC stj rbj c.bs.size dbj) 140 → KRd W kg i kb (w.heap.size + 1 + 1) (.int .i64 stj.pl) (.int .i64 stj.en) (.slice (some ⟨rbj, 0, none⟩) c.bs.size c.bs.size) (.slice (some ⟨dbj, 0, none⟩) 8 8) (.int .i64 stj.vals)) := fun W h2 h => ⟨h2, h.cell 0, h.cell 1, h.cell 2, h.cell 3, h.cell 4⟩
     refine wp_region_fork (fun W => KRd W kg i kb (w.heap.size + 1 + 1) (.int .i64 stj.pl) (.int .i64 stj.en) (.slice (some ⟨rbj, 0, none⟩) c.bs.size c.bs.size) (.slice (some ⟨dbj, 0, none⟩) 8 8) (.int .i64 stj.vals)) [0, 1, 2, 3, 4, 5, 6] 7 12 [([8, 9, 10, 11], 12), ([], 13), ([], 14), ([], 15)] [([], 7), ([8, 9, 10, 11], 13), ([], 14), ([], 15)] rfl (by kernel_rfl) (fun _ _ d _ _ h => by cases d <;> exact h) (HRd2.out _ HKi.out HQt.out.uk) ?_
     simp only [List.filterMap_cons, List.filterMap_nil, List.getElem?_toArray, List.getElem?_cons_zero, List.getElem?_cons_succ]
     refine wpX_step _ rfl (fun W hW => rfl) ?_
     refine wpX_step _ rfl (fun W hW => rfl) ?_
     refine wpX_step _ rfl (fun W hW => rfl) ?_
     refine wpX_step (.pointer (some ⟨kg, i, none⟩)) rfl (fun W hW => by go_simp) ?_
     refine wpX_step (.int .i64 kb) rfl (fun W hW => by obtain ⟨h0, h1⟩ := hW; go_simp) ?_
     refine wpX_step (.agg #[.int .i64 stj.pl, .int .i64 stj.en, .slice (some ⟨rbj, 0, none⟩) c.bs.size c.bs.size, .slice (some ⟨dbj, 0, none⟩) 8 8, .int .i64 stj.vals]) rfl (fun W hW => by obtain ⟨h0, ⟨h1, h2, h3, h4, h5⟩⟩ := hW; go_simp) ?_
     refine wpX_step _ rfl (fun W hW => rfl) ?_
     refine wpX_nil ⟨⟨_, rfl, rfl, ?_⟩, ⟨_, rfl, rfl, ?_⟩⟩
     · unfold Oper.wp
       go_simp
       have hB2 := HQt.out.bat.drewN 1
       have hpb := hB2.pre HC.out HBel.out HIn.out
       have hcall := HCall.out (w1.drewN 1) ⟨hpb.pg, hpb.bel, HQt.out.sj.rd, HQt.out.sj.dp, HQt.out.inv⟩
       unfold rsC at hcall
       refine hcall.mono ?_
       clear hcall hpb
       rintro e w2 ⟨hf2, st', rb', db', fu', fa', t', rfl, hp2, hfe, hok2⟩
       obtain ⟨g1, g2, g3, g4⟩ := hB2.next hf2 hp2
       have g8 := hf2.blk (show Blk (w1.drewN 1) (w.heap.size + 1 + 1) _ _ from HQt.out.uk) HQt.out.uk.lt (by omega)
       have g5 : w2.cell? ⟨kg, i, none⟩ = some (.int .i64 kb) := (hf2.cellK hkl hkp i).trans HKi.out
       have g6 : ∀ j, j < (qs.map Prod.fst).length → w2.cell? ⟨kg, j, none⟩ = some (.int .i64 ((qs.map Prod.fst).getD j 0 : Nat)) := fun j hj => (hf2.cellK hkl hkp j).trans (HKq.out j hj)
       have hs2 : w1.heap.size ≤ w2.heap.size := hf2.size
       have hne : kg ≠ w2.heap.size := by omega
       have HC3 : Hid (VAt c w st rb db kg (qs.map Prod.fst) stj rbj dbj o w2.heap.size st' rb' db' fu' fa' t' (st5 (w2.alloc (.cells zero5 140)) w2.heap.size (.int .i64 st'.pl) (.int .i64 st'.en) (.slice (some ⟨rb', 0, none⟩) c.bs.size c.bs.size) (.slice (some ⟨db', 0, none⟩) 8 8) (.int .i64 st'.vals))) := by
        have hz := Blk.new w2 zero5 140
        have h : VAt c w st rb db kg (qs.map Prod.fst) stj rbj dbj o w2.heap.size st' rb' db' fu' fa' t' (st5 (w2.alloc (.cells zero5 140)) w2.heap.size (.int .i64 st'.pl) (.int .i64 st'.en) (.slice (some ⟨rb', 0, none⟩) c.bs.size c.bs.size) (.slice (some ⟨db', 0, none⟩) 8 8) (.int .i64 st'.vals)) := by
         refine ⟨(g1.alloc (by omega) _).set5 (by omega) _ _ _ _ _, Blk.other5 (Blk.alloc hp2 _) (by omega) _ _ _ _ _, (g2.below ((Below.refl _ _).alloc (Nat.le_refl _) _)).set5 hz _ _ _ _ _, Blk.other5 (Blk.alloc g3 _) (by omega) _ _ _ _ _, Blk.other5 (Blk.alloc g4 _) (by omega) _ _ _ _ _, Blk.other5 (Blk.alloc g8 _) (by omega) _ _ _ _ _, Blk.set5 hz _ _ _ _ _, by omega, fun j hj => ?_, ?_, hfe, fun hok => ?_⟩
         · rw [cell5 _ _ _ _ hne, cellA _ _ _ _ (by omega)]; exact g6 j hj
         · rw [st5_size]; simp; omega
         · obtain ⟨e1, e2, hsa⟩ := hok2 hok
           exact ⟨e1, e2, (hsa.below ((Below.refl _ _).alloc (Nat.le_refl _) _)).set5 hz _ _ _ _ _⟩
        exact h
       have HR2 := hide' (HRd2.out w2 g5 g8)
       have HR3 := hide' (HRd2.out (w2.alloc (.cells zero5 140)) (by rw [cellA _ _ _ _ (by omega)]; exact g5) (Blk.alloc g8 _))
       have HR4 := hide' (HRd2.out (st5 (w2.alloc (.cells zero5 140)) w2.heap.size (.int .i64 st'.pl) (.int .i64 st'.en) (.slice (some ⟨rb', 0, none⟩) c.bs.size c.bs.size) (.slice (some ⟨db', 0, none⟩) 8 8) (.int .i64 st'.vals)) (by rw [cell5 _ _ _ _ hne, cellA _ _ _ _ (by omega)]; exact g5) (Blk.other5 (Blk.alloc g8 _) (by omega) _ _ _ _ _))
       have HZ := hide' (Blk.new w2 zero5 140)
       clear g1 g2 g3 g4 g5 g6 g8 hp2 hfe hok2 hf2 hB2
       unfold zero5 at HR3 HC3 HR4 HZ
       unfold rsR rsC
       simp only
       refine ⟨HR2.out, ?_⟩
       simp only [wpSeg, List.filterMap_cons, List.filterMap_nil, List.getElem?_toArray, List.getElem?_cons_zero, List.getElem?_cons_succ]
       refine wpX_step _ rfl (fun W hW => rfl) ?_
       refine wpX_step (.agg #[.int .i64 st'.pl, .int .i64 st'.en, .slice (some ⟨rb', 0, none⟩) c.bs.size c.bs.size, .slice (some ⟨db', 0, none⟩) 8 8, .int .i64 st'.vals]) rfl (fun W hW => by go_simp) ?_
       refine wpX_step (.string ⟨t'.toArray⟩) rfl (fun W hW => by go_simp) ?_
       refine wpX_step (.bool o.ok) rfl (fun W hW => by go_simp) ?_
       refine wpX_nil ⟨_, rfl, rfl, ?_⟩
       unfold Oper.wp
       go_simp
       refine ⟨HR3.out, ?_⟩
       have z0 := HZ.out.cell 0
       have z1 := HZ.out.cell 1
       have z2 := HZ.out.cell 2
       have z3 := HZ.out.cell 3
       have z4 := HZ.out.cell 4
       have zf : ∀ j, (w2.alloc (.cells #[.int .i64 0, .int .i64 0, .slice none 0 0, .slice none 0 0, .int .i64 0] 140)).frozen? ⟨w2.heap.size, j, none⟩ = false := fun j => HZ.out.frozen j
       generalize w2.alloc (.cells #[.int .i64 0, .int .i64 0, .slice none 0 0, .slice none 0 0, .int .i64 0] 140) = W3 at *
       simp only [List.getElem?_toArray, List.getElem?_cons_zero, List.getElem?_cons_succ] at z0 z1 z2 z3 z4
       refine wpX_nil ⟨_, rfl, rfl, ?_⟩
       unfold Oper.wp
       go_simp
       refine ⟨HR4.out, ?_⟩
       refine wpX_nil ⟨_, rfl, rfl, ?_⟩
       unfold Oper.wp
       go_simp
       refine ⟨HR4.out, ?_⟩
       refine wpX_nil ⟨_, rfl, rfl, ?_⟩
       unfold Oper.wp
       go_simp
       refine ⟨HR4.out, ?_⟩
       go_wp2_with fail
       go_meet
       case rel => exact ⟨w2.heap.size, st', rb', db', fu', fa', t', rfl, rfl, rfl, HC3⟩
     · unfold Oper.wp
       go_simp
       have hB2 : BAt c w st rb db fuelj farj (w1.alloc (.cells zero5 140)).drew := (HQt.out.bat.below ((Below.refl _ _).alloc (Nat.le_refl _) (.cells zero5 140))).drewN 1
       have hz2 : Blk (w1.alloc (.cells zero5 140)).drew w1.heap.size zero5 140 := Blk.new w1 zero5 140
       have hu2 : Blk (w1.alloc (.cells zero5 140)).drew (w.heap.size + 1 + 1) (rsC stj rbj c.bs.size dbj) 140 := Blk.alloc HQt.out.uk _
       have hj2 : StAt c (w1.alloc (.cells zero5 140)).drew stj rbj dbj := (HQt.out.sj.below ((Below.refl _ _).alloc (Nat.le_refl _) _)).drewN 1
       have hk2 : ∀ j, (w1.alloc (.cells zero5 140)).drew.cell? ⟨kg, j, none⟩ = w1.cell? ⟨kg, j, none⟩ := fun j => cellA w1 _ kg j hkl
       have hs2 : (w1.alloc (.cells zero5 140)).drew.heap.size = w1.heap.size + 1 := by simp
       unfold zero5 at hB2 hz2 hu2 hj2 hk2 hs2
       generalize (w1.alloc (.cells #[.int .i64 0, .int .i64 0, .slice none 0 0, .slice none 0 0, .int .i64 0] 140)).drew = W2 at *
       refine ⟨HRd2.out _ ((hk2 i).trans HKi.out) hu2, ?_⟩
       simp only [wpSeg, List.filterMap_cons, List.filterMap_nil, List.getElem?_toArray, List.getElem?_cons_zero, List.getElem?_cons_succ]
       refine wpX_nil ⟨_, rfl, rfl, ?_⟩
       unfold Oper.wp
       go_simp
       have hpb := hB2.pre HC.out HBel.out HIn.out
       have hcall := HCall.out W2 ⟨hpb.pg, hpb.bel, hj2.rd, hj2.dp, HQt.out.inv⟩
       unfold rsC at hcall
       refine hcall.mono ?_
       clear hcall hpb
       rintro e w3 ⟨hf3, st', rb', db', fu', fa', t', rfl, hp3, hfe, hok3⟩
       obtain ⟨g1, g2, g3, g4⟩ := hB2.next hf3 hp3
       have g8 := hf3.blk hu2 hu2.lt (by omega)
       have g5 : w3.cell? ⟨kg, i, none⟩ = some (.int .i64 kb) := (hf3.cellK (by omega) hkp i).trans ((hk2 i).trans HKi.out)
       have g6 : ∀ j, j < (qs.map Prod.fst).length → w3.cell? ⟨kg, j, none⟩ = some (.int .i64 ((qs.map Prod.fst).getD j 0 : Nat)) := fun j hj => (hf3.cellK (by omega) hkp j).trans ((hk2 j).trans (HKq.out j hj))
       have g7 := hf3.blk hz2 (by omega) (by omega)
       have hs3 := hf3.size
       have hne : kg ≠ w1.heap.size := by omega
       have HC3 : Hid (VAt c w st rb db kg (qs.map Prod.fst) stj rbj dbj o w1.heap.size st' rb' db' fu' fa' t' (st5 w3 w1.heap.size (.int .i64 st'.pl) (.int .i64 st'.en) (.slice (some ⟨rb', 0, none⟩) c.bs.size c.bs.size) (.slice (some ⟨db', 0, none⟩) 8 8) (.int .i64 st'.vals))) := by
        have h : VAt c w st rb db kg (qs.map Prod.fst) stj rbj dbj o w1.heap.size st' rb' db' fu' fa' t' (st5 w3 w1.heap.size (.int .i64 st'.pl) (.int .i64 st'.en) (.slice (some ⟨rb', 0, none⟩) c.bs.size c.bs.size) (.slice (some ⟨db', 0, none⟩) 8 8) (.int .i64 st'.vals)) := by
         refine ⟨g1.set5 (by omega) _ _ _ _ _, Blk.other5 hp3 (by omega) _ _ _ _ _, g2.set5 g7 _ _ _ _ _, Blk.other5 g3 (by omega) _ _ _ _ _, Blk.other5 g4 (by omega) _ _ _ _ _, Blk.other5 g8 (by omega) _ _ _ _ _, Blk.set5 g7 _ _ _ _ _, by omega, fun j hj => ?_, by rw [st5_size]; omega, hfe, fun hok => ?_⟩
         · rw [cell5 _ _ _ _ hne]; exact g6 j hj
         · obtain ⟨e1, e2, hsa⟩ := hok3 hok
           exact ⟨e1, e2, hsa.set5 g7 _ _ _ _ _⟩
        exact h
       have HR2 := hide' (HRd2.out w3 g5 g8)
       have HR4 := hide' (HRd2.out (st5 w3 w1.heap.size (.int .i64 st'.pl) (.int .i64 st'.en) (.slice (some ⟨rb', 0, none⟩) c.bs.size c.bs.size) (.slice (some ⟨db', 0, none⟩) 8 8) (.int .i64 st'.vals)) (by rw [cell5 _ _ _ _ hne]; exact g5) (Blk.other5 g8 (by omega) _ _ _ _ _))
       obtain ⟨z0, z1, z2, z3, z4, zf⟩ := g7.five
       clear g1 g2 g3 g4 g5 g6 g7 g8 hp3 hfe hok3 hf3 hB2 hz2 hu2 hj2 hk2
       unfold rsR rsC
       simp only
       refine ⟨HR2.out, ?_⟩
       refine wpX_step _ rfl (fun W hW => rfl) ?_
       refine wpX_step (.agg #[.int .i64 st'.pl, .int .i64 st'.en, .slice (some ⟨rb', 0, none⟩) c.bs.size c.bs.size, .slice (some ⟨db', 0, none⟩) 8 8, .int .i64 st'.vals]) rfl (fun W hW => by go_simp) ?_
       refine wpX_step (.string ⟨t'.toArray⟩) rfl (fun W hW => by go_simp) ?_
       refine wpX_step (.bool o.ok) rfl (fun W hW => by go_simp) ?_
       refine wpX_nil ⟨_, rfl, rfl, ?_⟩
       unfold Oper.wp
       go_simp
       refine ⟨HR4.out, ?_⟩
       refine wpX_nil ⟨_, rfl, rfl, ?_⟩
       unfold Oper.wp
       go_simp
       refine ⟨HR4.out, ?_⟩
       refine wpX_nil ⟨_, rfl, rfl, ?_⟩
       unfold Oper.wp
       go_simp
       refine ⟨HR4.out, ?_⟩
       go_wp2_with fail
       go_meet
       case rel => exact ⟨w1.heap.size, st', rb', db', fu', fa', t', rfl, rfl, rfl, HC3⟩
    case rest =>
     clear HQt HKi HKq hkq hszq
     obtain ⟨vb, st', rb', db', fu', fa', t', rfl, rfl, rfl, hcat⟩ := hcut
     have HCt := hcat
     have hvl := hcat.out.vl
     have hukl := hcat.out.uk.lt
     obtain ⟨bx0, bx1, bx2, bx3, bx4, _⟩ := hcat.out.box.five
     obtain ⟨vv0, vv1, vv2, vv3, vv4, _⟩ := hcat.out.vk.five
     obtain ⟨uu0, uu1, uu2, uu3, uu4, _⟩ := hcat.out.uk.five
     obtain ⟨z0, z1, z2, z3, z4, zf⟩ := hcat.out.res.five
     have uf : ∀ j, wc.frozen? ⟨w.heap.size + 1 + 1, j, none⟩ = false := fun j => hcat.out.uk.frozen j
     clear hcat
     cases hok : o.ok
     · rw [if_neg (by rw [hok]; simp)] at HO1
       have HO2 : Hid (O = o) := by
        have : O = o := by rw [HT.out, HO1.out]; unfold wholeE; rw [if_neg (by rw [hok]; simp)]
        exact this
       go_wp2_with fail
       refine bodyPost_ret (v := .tuple #[.agg (rsC st rb c.bs.size db), .string ⟨#[]⟩, .bool false]) (by simp [results, Tryz.results92, go_sem, rsC, z0, z1, z2, z3, z4]) rfl ?_
       rw [HO2.out]
       exact RPost.none (HCt.out.fr.set5 (b := w.heap.size + 1) (by omega) _ _ _ _ _) rfl hok (Blk.other5 HCt.out.pg (b := w.heap.size + 1) (by omega) _ _ _ _ _) HCt.out.fe
     · rw [if_pos hok] at HO1
       obtain ⟨⟨hkp, hoe⟩, hlng⟩ := HOk.out hok
       obtain ⟨e1, e2, hsa⟩ := HCt.out.ok hok
       obtain ⟨e3, e4⟩ := HCt.out.fe hoe
       subst e1
       subst e2
       have HKp := hide' hkp
       have HSa := hide' hsa
       have hlv := hlng.vals
       have hll := hlng.len
       have hov := hkp.inv.vals
       have hjl := joinT_le t o.t
       have HN : Hid (HAt c w st rb db (some ⟨kg, 0, none⟩) (qs.map Prod.fst) o.st rb' db' o.fuel o.far (st5 wc (w.heap.size + 1 + 1) (.int .i64 o.st.pl) (.int .i64 o.st.en) (.slice (some ⟨rb', 0, none⟩) c.bs.size c.bs.size) (.slice (some ⟨db', 0, none⟩) 8 8) (.int .i64 o.st.vals))) := by
        have hpg : PgAt wc c.pb c.gb c.bs o.fuel c.N o.far 0 := by have := HCt.out.pg; rw [hoe, e3, e4] at this; exact this
        have hB : BAt c w st rb db o.fuel o.far (st5 wc (w.heap.size + 1 + 1) (.int .i64 o.st.pl) (.int .i64 o.st.en) (.slice (some ⟨rb', 0, none⟩) c.bs.size c.bs.size) (.slice (some ⟨db', 0, none⟩) 8 8) (.int .i64 o.st.vals)) := ⟨HCt.out.fr.set5 (by omega) _ _ _ _ _, Blk.other5 hpg (by omega) _ _ _ _ _, HCt.out.sa.set5 HCt.out.uk _ _ _ _ _, Blk.other5 HCt.out.box (by omega) _ _ _ _ _, Blk.other5 HCt.out.res (by omega) _ _ _ _ _, hpl⟩
        have hR : KRow w (st5 wc (w.heap.size + 1 + 1) (.int .i64 o.st.pl) (.int .i64 o.st.en) (.slice (some ⟨rb', 0, none⟩) c.bs.size c.bs.size) (.slice (some ⟨db', 0, none⟩) 8 8) (.int .i64 o.st.vals)) (some ⟨kg, 0, none⟩) (qs.map Prod.fst) := Or.inr ⟨kg, rfl, hkg1, by rw [st5_size]; exact HCt.out.kgl, fun j hj => by rw [cell5 _ _ _ _ (by omega)]; exact HCt.out.kid j hj⟩
        have h : HAt c w st rb db (some ⟨kg, 0, none⟩) (qs.map Prod.fst) o.st rb' db' o.fuel o.far (st5 wc (w.heap.size + 1 + 1) (.int .i64 o.st.pl) (.int .i64 o.st.en) (.slice (some ⟨rb', 0, none⟩) c.bs.size c.bs.size) (.slice (some ⟨db', 0, none⟩) 8 8) (.int .i64 o.st.vals)) := ⟨hB, Blk.set5 HCt.out.uk _ _ _ _ _, HSa.out.set5 HCt.out.uk _ _ _ _ _, HKp.out.inv, hR⟩
        exact h
       have hszN : w.heap.size + 1 + 1 < (st5 wc (w.heap.size + 1 + 1) (.int .i64 o.st.pl) (.int .i64 o.st.en) (.slice (some ⟨rb', 0, none⟩) c.bs.size c.bs.size) (.slice (some ⟨db', 0, none⟩) 8 8) (.int .i64 o.st.vals)).heap.size := by rw [st5_size]; omega
       have htJ : t.length ≤ 1000000000 := by omega
       have htJ2 : o.t.length ≤ 1000000000 := by
        have : o.st.vals - stj.vals ≤ 10000 := by omega
        omega
       have HJ := hide' (fun W => joined_calls t o.t W htJ htJ2)
       clear hkp hsa hlng
       cases sil with
       | true =>
        simp only [if_true] at HO1 hll
        go_wp2_with fail
        go_roundw
        case rel => exact ⟨i + 1, t, o.st, rb', db', o.fuel, o.far, rfl, by go_num, by omega, by omega, hszN, by omega, HO1, HN⟩
        case measure => simp [intOf]; omega
       | false =>
        simp only [Bool.false_eq_true, if_false] at HO1 hll
        go_wp2_with
         (go_at_call 170
          refine (HJ.out _).mono ?_
          rintro e w9 ⟨rfl, hw9⟩
          subst hw9)
        go_roundw
        case rel => exact ⟨i + 1, joinT t o.t, o.st, rb', db', o.fuel, o.far, rfl, by go_num, by omega, by omega, hszN, by omega, HO1, HN⟩
        case measure => simp [intOf]; omega
  · have hlt' : ¬ (i : Int) < (qs.length : Int) := by omega
    have hie : i = qs.length := by omega
    subst hie
    have hKO : KO = fitO fuelj farj stj t := by have := hrem.out; rw [List.drop_length] at this; exact this
    have HO1 : Hid (O = madeO c.N fuelj farj { stj with deps := st.deps } (40 :: t ++ [41])) := by
     have : O = madeO c.N fuelj farj { stj with deps := st.deps } (40 :: t ++ [41]) := by rw [HT.out, hKO]; rfl
     exact this
    have htb : (⟨t.toArray⟩ : ByteArray).size ≤ 80110000 := by rw [mk_size]; omega
    have HA3 := hide' (paren t)
    have HA9 := hat
    have bx3 : wr.cell? ⟨w.heap.size, 3, none⟩ = some (.slice (some ⟨db, 0, none⟩) 8 8) := hat.out.bat.box.cell 3
    obtain ⟨uu0, uu1, uu2, uu3, uu4, _⟩ := hat.out.uk.five
    have uf : ∀ j, wr.frozen? ⟨w.heap.size + 1 + 1, j, none⟩ = false := fun j => hat.out.uk.frozen j
    have HBn := hide' (hat.out.bat.setOne hat.out.uk (by omega) 3 (.slice (some ⟨db, 0, none⟩) 8 8))
    have HSn : Hid (StAt c (wr.setCell ⟨w.heap.size + 1 + 1, 3, none⟩ (.slice (some ⟨db, 0, none⟩) 8 8)) { stj with deps := st.deps } rbj db) := by
     have h : StAt c (wr.setCell ⟨w.heap.size + 1 + 1, 3, none⟩ (.slice (some ⟨db, 0, none⟩) 8 8)) { stj with deps := st.deps } rbj db := ⟨Blk.setOther hat.out.sj.rd ⟨w.heap.size + 1 + 1, 3, none⟩ (blk_ne hat.out.sj.rd hat.out.uk (by decide)) _, HBn.out.sa.dp, hat.out.sj.rne, HBn.out.sa.dne⟩
     exact h
    clear hat hrem hKO
    generalize (⟨t.toArray⟩ : ByteArray) = TB at *
    go_wp2_with fail
    rw [HA3.out]
    have hcall := made_calls' _ c.pb c.gb c.bs fuelj c.N farj 0 { stj with deps := st.deps } rbj c.bs.size db (40 :: t ++ [41]) HBn.out.pg hN hsl
    unfold rsC at hcall
    refine hcall.mono ?_
    clear hcall
    rintro e w5 ⟨he5, hp5, hf5⟩
    obtain ⟨s', t2, ok', he6, hz5, hpost⟩ := HBn.out.made HSn.out he5 hp5 hf5
    rw [← HO1.out] at hpost
    have HPost := hide' hpost
    subst he6
    obtain ⟨zz0, zz1, zz2, zz3, zz4, zzf⟩ := hz5.five
    clear hp5 hf5 he5 hz5 hpost
    unfold rsR rsC
    go_wp2_with fail
    refine bodyPost_ret (v := .tuple #[.agg (rsC s' rbj c.bs.size db), .string ⟨t2.toArray⟩, .bool ok']) (by simp [results, Tryz.results92, go_sem, rsC, zz0, zz1, zz2, zz3, zz4]) rfl ?_
    exact HPost.out
theorem rpost_up {c : Rx} {w W w2 : World} {st : PS} {rb db fuel far : Nat} {o : PO} {e : Ending} (hB : BAt c w st rb db fuel far W) (h : RPost c W o e w2) :
 ∃ (st' : PS) (rb' db' : Nat) (t' : List UInt8), e = rsR st' rb' c.bs.size db' t' o.ok ∧ Blk w2 (w.heap.size + 1) zero5 140 ∧
  RPost c w o (rsR st' rb' c.bs.size db' t' o.ok) (st5 w2 (w.heap.size + 1) (.int .i64 st'.pl) (.int .i64 st'.en) (.slice (some ⟨rb', 0, none⟩) c.bs.size c.bs.size) (.slice (some ⟨db', 0, none⟩) 8 8) (.int .i64 st'.vals)) := by
 obtain ⟨hf, st', rb', db', fu, fa, t, rfl, hp, hfe, hok⟩ := h
 obtain ⟨g1, g2, g3, g4⟩ := hB.next hf hp
 have hlt := hB.lt
 refine ⟨st', rb', db', t, rfl, g4, g1.set5 (by omega) _ _ _ _ _, st', rb', db', fu, fa, t, rfl, Blk.other5 hp (by omega) _ _ _ _ _, hfe, fun h => ?_⟩
 obtain ⟨e1, e2, hs⟩ := hok h
 exact ⟨e1, e2, hs.set5 g4 _ _ _ _ _⟩
theorem RPre.less {c : Rx} (hc : RxOk c) {w : World} {st : PS} {rb db fuel far : Nat} (h : RPre c w st rb db (fuel + 1) far) : RPre c (w.setCell ⟨c.pb, 2, none⟩ (.int .i64 fuel)) st rb db fuel far :=
 ⟨h.pg.set 2 _, h.bel.setCell (p := ⟨c.pb, 2, none⟩) hc.pb _, Blk.setOther h.rd _ h.rne _, Blk.setOther h.dp _ h.dne _, h.inv⟩
theorem rpost_less {c : Rx} {w w' : World} {o : PO} {e : Ending} {v : Value} (h : RPost c (w.setCell ⟨c.pb, 2, none⟩ v) o e w') : RPost c w o e w' := by
 obtain ⟨hf, h2⟩ := h
 have hs : (w.setCell ⟨c.pb, 2, none⟩ v).heap.size = w.heap.size := by simp [World.setCell]
 rw [hs] at hf
 exact ⟨((Fr.refl w.heap.size c.pb w).setCell (p := ⟨c.pb, 2, none⟩) (Or.inl rfl) v).trans hf, h2⟩
set_option maxRecDepth 100000 in
set_option maxHeartbeats 1000000 in
theorem try_none (c : Rx) (w : World) (st : PS) (rb db far : Nat) (hp : RPre c w st rb db 0 far) (b : Nat) (q : Bool) :
 Calls Tryz.prog 56 #[.pointer (some ⟨c.pb, 0, none⟩), .int .i64 b, .agg (rsC st rb c.bs.size db), .bool q] w fun e w' => RPost c w (deadO 6 st) e w' := by
 have hpl := hp.pg.lt
 have hne : ¬ w.heap.size = c.pb := by omega
 have hne1 : ¬ w.heap.size + 1 = c.pb := by omega
 have p2 : ∀ o1 o2, ((w.alloc o1).alloc o2).cell? ⟨c.pb, 2, none⟩ = some (.int .i64 0) := fun o1 o2 => (Blk.alloc (Blk.alloc hp.pg o1) o2).cell 2
 have p5 : ∀ o1 o2, ((w.alloc o1).alloc o2).cell? ⟨c.pb, 5, none⟩ = some (.int .i64 0) := fun o1 o2 => (Blk.alloc (Blk.alloc hp.pg o1) o2).cell 5
 have f5 : ∀ o1 o2, ((w.alloc o1).alloc o2).frozen? ⟨c.pb, 5, none⟩ = false := fun o1 o2 => (Blk.alloc (Blk.alloc hp.pg o1) o2).frozen 5
 have HP := hide' hp
 clear hp
 unfold rsC
 go_enter Tryz.func56, Tryz.ntmps56
 go_wp2_with fail
 refine bodyPost_ret (v := .tuple #[.agg (rsC st rb c.bs.size db), .string ⟨#[]⟩, .bool false]) (by simp [results, Tryz.results56, go_sem, rsC]) rfl ?_
 refine RPost.dead (fuel := 0) (far := far) ?_ rfl rfl (by simp [deadO]) ?_
 · exact (((Fr.refl w.heap.size c.pb w).setCell (p := ⟨c.pb, 5, none⟩) (Or.inl rfl) _).alloc (by simp [World.setCell]) _).alloc (by simp [World.setCell]) _
 · exact Blk.alloc (Blk.alloc (HP.out.pg.set 5 (.int .i64 6)) _) _
end Go.Proofs.YtmlkhhhjdpbhfaaGreatDoor

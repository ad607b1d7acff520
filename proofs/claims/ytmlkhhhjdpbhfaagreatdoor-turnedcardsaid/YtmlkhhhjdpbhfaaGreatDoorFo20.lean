import Derived.Test.YtmlkhhhjdpbhfaaGreatDoorFo19
namespace Go.Proofs.YtmlkhhhjdpbhfaaGreatDoor
open Go.RowKit
theorem timesT_succ (T:Nat→Nat→Bool→List It→PS→PO)(N:Nat)(kid:List It)(n fuel far:Nat)(st:PS)(t:List UInt8):timesT T N kid (n+1) fuel far st t=
 if (T fuel far false kid st).ok=true then timesT T N kid n (T fuel far false kid st).fuel (T fuel far false kid st).far (T fuel far false kid st).st (joinT t (T fuel far false kid st).t) else T fuel far false kid st:=rfl
structure AtT (c:Cx) (T:Nat→Nat→Bool→List It→PS→PO) (r:List It) (w:World) (s:Ts) (ho:Option Nat) (hoa:Option Addr) (st:PS) (O:PO) (n j:Nat) (v:Value) (kids:List (Nat × List UInt8)) (stj:PS) (wr:World) (sj:Ts):Prop where
 pre:TPre c wr sj stj ho
 core:Core c w s none sj.fuel sj.far wr sj
 box:Blk wr w.heap.size #[.int .i64 stj.pl,.int .i64 stj.en,.pointer hoa] 159
 kid:KidV wr (w.heap.size+1) sj.sv.ownBlock v kids
 rem:O=timesT T c.N r (n-j) sj.fuel sj.far stj (joinL (kids.map Prod.snd))
 cnt:kids.length+sj.fuel≤s.fuel
 nb:∀ g,sj.sv.ownBlock=some g→g≠w.heap.size
 deps:stj.deps=st.deps
 sz:w.heap.size<wr.heap.size
set_option maxRecDepth 100000 in
set_option maxHeartbeats 4000000 in
theorem times_calls (c:Cx)(hc:CxOk c)(gg:Nat)(ih:TryC c gg)(w:World)(s:Ts)(st:PS)(h:Nat)(pb:Nat)(p:Pt)(x:It)(r:List It)(hp:TPre c w s st (some h))(hpt:PtBlk c.w0 pb p)(hi:ItPt x p)(hx:ItR x)(hxc:x.c=116)(hk1:OneKid c w p r)(hwf:TrW c.R false false r)(hf:s.fuel≤gg):
 Calls Tryz.prog 148 #[.pointer (some ⟨c.tb,0,none⟩),.pointer (some ⟨pb,0,none⟩),spotV st.pl st.en (adr (some h))] w fun e w'=>TPost c w s none false (timesT (tryT c.G c.bs c.N gg) c.N r (st.deps x.d.toNat).1 s.fuel s.far st []) e w':=by
 have hd:=hx.it.d (by rw[hxc];rfl)
 obtain ⟨d,hdd⟩:∃ d:Nat,x.d=(d:Int):=⟨x.d.toNat,by omega⟩
 rw[hdd]
 simp only[Int.toNat_natCast]
 have hd8:d<8:=by omega
 have hd8':(d:Int)<8:=by omega
 have hdp':p.dp=(d:Int):=by rw[(hi.dp (by rw[hxc];rfl)).1,hdd]
 have hdv:=(hp.inv.deps d).1
 generalize hdv':(st.deps d).1=dv at *
 have HDV:=hide' hdv'
 clear hdv'
 obtain ⟨i0,hi0,hz0,hz1,hz2⟩:=info_parts Tryz.infoVal
 obtain ⟨g,cap,qb,f2,lo2,hi2,hpv,hgl,hg0,hrep,hhi2⟩:=hk1.ex
 have hlt:=hp.tr.blk.lt
 have hlt2:=hc.lt
 have hle:=hc.le
 have hbs:=hc.bs
 have hptl:=hpt.lt
 have hbud0:=hp.bud
 have hnh:=hwf.notHid rfl
 have HP:=hide' hp
 have HC:=hide' hc
 have HI:=hide' ih
 have HWf:=hide' hwf
 have HRep:=hide' hrep
 have HPt:=hide' hpt
 have hP1:=hp.alloc hc (spotC st.pl st.en (adr (some h)))
 have HB1:=hide' (Blk.new w #[.int .i64 st.pl,.int .i64 st.en,.pointer (adr (some h))] 159)
 have HR1:Hid (Core c w s .none s.fuel s.far (w.alloc (spotC st.pl st.en (adr (some h)))) s):=Core.refl (hp.tr.alloc _) ((TF.refl c.tb c.rb .none .none w).alloc _) hp.bud _
 have HP1:=hide' hP1
 have hs1:(w.alloc (spotC st.pl st.en (adr (some h)))).heap.size=w.heap.size+1:=by simp
 obtain ⟨hh1,hh2,hh3⟩:=hp.hid h rfl
 have hhl:=Blk.lt hh1
 have HH1:=hide' (show HdAt (w.alloc (spotC st.pl st.en (adr (some h)))) h st.deps from Blk.alloc hh1 _)
 unfold spotC at HP1 HR1 hs1 HH1
 clear hp hc hpt ih hk1 hrep hP1 hh1
 unfold spotV
 simp only[adr,Option.map_some] at HP1 HB1 HR1 hs1 HH1 ⊢
 go_enter Tryz.func148,Tryz.ntmps148
 go_wp2_with fail
 generalize w.alloc (.cells #[.int .i64 st.pl,.int .i64 st.en,.pointer (some ⟨h,0,none⟩)] 159)=W1 at *
 have a2:W1.cell? ⟨w.heap.size,2,none⟩=some (.pointer (some ⟨h,0,none⟩)):=HB1.out.cell 2
 have p3:W1.cell? ⟨pb,3,none⟩=some (.int .i64 d):=by rw[← hdp',HP1.out.bel.cell (p:=⟨pb,3,none⟩) hptl];exact HPt.out.cell 3
 have h0:W1.cell? ⟨h,d*2,none⟩=some (.int .u32 dv):=by rw[← HDV.out];exact (HH1.out.cell d hd8).1
 go_quiet (fail)
 have HST:Hid (AtT c (tryT c.G c.bs c.N gg) r w s (some h) (some ⟨h,0,none⟩) st (timesT (tryT c.G c.bs c.N gg) c.N r dv s.fuel s.far st []) dv 0 (.slice none 0 0) [] st (W1.drewN nq) s):=by
  refine ⟨HP1.out.drewN nq,HR1.out.drewN nq,HB1.out,KidV.nil _ _ _,rfl,by simp,fun g e=>?_,rfl,?_⟩
  · have:=HP.out.tr.svlt g e
    omega
  · show w.heap.size<W1.heap.size;omega
 generalize W1.drewN nq=W2 at *
 clear HP1 HR1 HB1 a2 p3 h0 HH1
 go_wp2_with fail
 go_loopw [23,9,10,11,12] (fun v23 v9 _ _ _ wr=>∃ (j:Nat) (kids:List (Nat × List UInt8)) (stj:PS) (sj:Ts),v23=.int .u32 j∧j≤dv∧Hid (AtT c (tryT c.G c.bs c.N gg) r w s (some h) (some ⟨h,0,none⟩) st (timesT (tryT c.G c.bs c.N gg) c.N r dv s.fuel s.far st []) dv j v9 kids stj wr sj)) (fun v23 _ _ _ _ _=>dv-(intOf v23).toNat)
 case atStart=>exact ⟨0,[],st,s,rfl,by omega,HST⟩
 case round=>
  clear HST
  obtain ⟨j,kids,stj,sj,rfl,hj,hat⟩:=hrel
  obtain ⟨b1,b2,b3,b4,b5,b7,b8,b9,b10⟩:=hat.out
  obtain ⟨po9,cap9,h9⟩:=b4.form
  subst h9
  have HAt:=hat
  clear hat b1 b2 b3 b4 b5 b9
  by_cases hjn:j<dv
  · have hjn':(j:Int)<(dv:Int):=by omega
    have hk9:∀ g,(Value.slice po9 kids.length cap9).ownBlock=some g→w.heap.size+1≤g∧g<wr.heap.size:=fun g e=>HAt.out.kid.row.lt g e
    have a0:wr.cell? ⟨w.heap.size,0,none⟩=some (.int .i64 stj.pl):=HAt.out.box.cell 0
    have a1:wr.cell? ⟨w.heap.size,1,none⟩=some (.int .i64 stj.en):=HAt.out.box.cell 1
    have a2:wr.cell? ⟨w.heap.size,2,none⟩=some (.pointer (some ⟨h,0,none⟩)):=HAt.out.box.cell 2
    have p8:wr.cell? ⟨pb,8,none⟩=some (.slice (some ⟨g,0,none⟩) 1 cap):=by rw[← hpv,HAt.out.pre.bel.cell (p:=⟨pb,8,none⟩) hptl];exact HPt.out.cell 8
    have k0:wr.cell? ⟨g,0,none⟩=some (.pointer (some ⟨qb,0,none⟩)):=by rw[HAt.out.pre.bel.cell (p:=⟨g,0,none⟩) hgl];exact hg0
    go_wp2_with fail
    refine wp_region_mid 8 _ rfl rfl (by kernel_rfl) (by kernel_rfl) ?_
    simp only[List.take_succ_cons,List.take_zero,List.drop_succ_cons,List.drop_zero]
    repeat still_step
    refine wpStill_nil ?_
    unfold Oper.wp
    go_simp
    have hcall:=HI.out (wr.drewN 1) sj stj (some h) r false false false false f2 lo2 hi2 qb (HAt.out.pre.drewN 1) HRep.out hhi2 HWf.out (fun h=>by rcases h with h | h<;>cases h) rfl (by omega)
    rw[hidV_hidK hnh,silK_false hnh] at hcall
    unfold spotV at hcall
    simp only[adr,Option.map_some] at hcall
    have HOk:Hid ((tryT c.G c.bs c.N gg sj.fuel sj.far false r stj).ok=true→(Keeps c.bs c.N stj false (tryT c.G c.bs c.N gg sj.fuel sj.far false r stj)∧(tryT c.G c.bs c.N gg sj.fuel sj.far false r stj).e=0)∧(tryT c.G c.bs c.N gg sj.fuel sj.far false r stj).fuel<sj.fuel):=fun hok=>⟨by have:=(tryT_ok c.G HC.out.wf gg).fit sj.fuel sj.far false false false r _ HWf.out HAt.out.pre.inv hok;rw[hnh] at this;exact this,tryT_strict c.G HC.out.wf gg sj.fuel sj.far false r stj hok⟩
    obtain ⟨gk,hgk⟩:∃ gk,dv-j=gk+1:=⟨dv-j-1,by omega⟩
    have hrem:=HAt.out.rem
    rw[hgk] at hrem
    have HO1:=hide' (hrem.trans (timesT_succ _ _ _ gk _ _ _ _))
    clear hrem
    generalize ho':tryT c.G c.bs c.N gg sj.fuel sj.far false r stj=o at *
    clear ho'
    refine hcall.mono fun e3 w3 hpo=>?_
    have hk:=hpo.keeps
    have hs4:wr.heap.size≤w3.heap.size:=hk.size
    have hnb:some w.heap.size≠sj.sv.ownBlock:=fun e=>b8 _ e.symm rfl
    have HB4:=hide' (hk.blk (show Blk (wr.drewN 1) w.heap.size _ _ from HAt.out.box) (by omega) (by omega) hnb (by simp))
    have HK3':=hide' (HAt.out.kid.keep (((TF.refl c.tb c.rb none none wr).drewN 1).any sj.sv.ownBlock none) (by omega) (by omega) (Or.inl rfl) (Or.inl rfl))
    have HKF:=hide' hk
    have hpo2:=TPost.ahead (HAt.out.core.drewN 1) hpo
    clear a0 a1 a2 p8 k0 hcall hk
    rcases hpo with ⟨d1,d2,d3⟩ | ⟨d1,d2,s',v,d3,d4,d5,d6,d7,d8⟩ | ⟨d1,d2,s',v,k,d3,d4⟩
    · subst d2
      have HH:Hid (TPost c w s .none false (timesT (tryT c.G c.bs c.N gg) c.N r dv s.fuel s.far st []) (.panicked (outV o.e)) w3):=by
       have hno:o.ok=false:=by
        cases hok:o.ok with
        | false=>rfl
        | true=>exact absurd (HOk.out hok).1.2 d1
       have h2:TPost c w s .none false (timesT (tryT c.G c.bs c.N gg) c.N r dv s.fuel s.far st []) (.panicked (outV o.e)) w3:=by rw[HO1.out,if_neg (by rw[hno];simp)];exact hpo2
       exact h2
      clear d1 d3 hpo2 HO1
      simp only
      exact ⟨rfl,HH.out⟩
    rotate_left
    · subst d3
      have HH:Hid (TPost c w s .none false (timesT (tryT c.G c.bs c.N gg) c.N r dv s.fuel s.far st []) (.returned (.tuple #[.pointer none,.int .i64 0,.bool false])) w3):=by
       have h2:TPost c w s .none false (timesT (tryT c.G c.bs c.N gg) c.N r dv s.fuel s.far st []) (.returned (.tuple #[.pointer none,.int .i64 0,.bool false])) w3:=by
        rw[HO1.out,if_neg (by rw[d2];simp)]
        exact Or.inr (Or.inr ⟨d1,d2,s',_,0,rfl,(HAt.out.core.drewN 1).trans d4 (Or.inl rfl)⟩)
       exact h2
      clear d1 d2 d4 hpo2 HO1
      simp only
      repeat still_step
      refine wpStill_nil ?_
      go_wp2_with fail
      go_ret3
      exact HH.out
    · have hok:=d2
      rw[if_pos hok] at HO1
      obtain ⟨⟨hkp,_⟩,hst⟩:=HOk.out hok
      subst d3
      obtain ⟨vb,fv,hvv,hrv⟩:∃ vb fv,v=.pointer (some ⟨vb,0,none⟩)∧RepV fv w3 (wr.drewN 1).heap.size w3.heap.size s'.sv.ownBlock vb o.t:=by
       rcases d7 with ⟨i1,_⟩ | ⟨_,fv,vb,i2,i3⟩
       · cases i1
       · exact ⟨vb,fv,i2,i3⟩
      subst hvv
      have HRV:=hide' hrv
      have HCr:=hide' d4
      have HC4:=hide' ((HAt.out.core.drewN 1).trans d4 (Or.inl rfl))
      have HD5:=hide' d5
      have HD6:=hide' d6
      have HKp:=hide' hkp
      have HK4:=hide' (HK3'.out.keep HKF.out (by omega) (by omega) (Or.inl rfl) d4.sv)
      clear d1 d2 d4 d5 d6 d7 d8 hrv hkp hok hpo2
      have n0:w3.cell? ⟨w.heap.size,0,none⟩=some (.int .i64 stj.pl):=HB4.out.cell 0
      have nf:w3.frozen? ⟨w.heap.size,0,none⟩=false:=HB4.out.frozen 0
      have hkl:kids.length≤100000:=by omega
      have hne9:some w.heap.size≠(Value.slice po9 kids.length cap9).ownBlock:=fun e=>by have:=hk9 _ e.symm;omega
      generalize hopl:o.st.pl=opl at *
      have HOPL:=hide' hopl
      clear hopl
      simp only
      repeat still_step
      refine wpStill_nil ?_
      go_wp2_with
       (at_builtin
        refine wpList_append_lies _ rfl _ _ _ rfl (w.heap.size+1) 55 i0 _ 1 8 Tryz.underlying175 hi0 hz0 hz1 hz2 rfl (by omega) (.slice po9 kids.length cap9) kids.length (ptrsL (kids.map Prod.fst)) rfl (HK4.out.row.alloc _) ⟨w3.heap.size,0,none⟩ 1 1 [.pointer (some ⟨vb,0,none⟩)] rfl rfl (World.news_of_block (cs:=#[.pointer (some ⟨vb,0,none⟩)]) (t:=55) (fr:=(0,0)) (heap_alloc_new w3 _)) (by simp[Value.oneCell']) (by omega) (by unfold maxLen;omega) (by omega) (by simp;omega) (w3.heap.size+1) (by simp) ?_
        intro g1 cap1 w5 hown5 hgrow hat5 hlt5
        have hb5:=Blk.grown (Blk.alloc HB4.out (.cells #[.pointer (some ⟨vb,0,none⟩)] 55)) hgrow hne9
        have c5:w5.cell? ⟨w.heap.size,0,none⟩=some (.int .i64 stj.pl):=hb5.cell 0
        have f5:w5.frozen? ⟨w.heap.size,0,none⟩=false:=hb5.frozen 0)
      have hs5:=hgrow.size
      simp at hs5
      have hsd:(wr.drewN 1).heap.size=wr.heap.size:=rfl
      have hnbs:∀ g,s'.sv.ownBlock=some g→g≠w.heap.size:=fun g e=>by
       rcases HCr.out.sv with h | ⟨g',h,l⟩
       · rw[h] at e;exact b8 g e
       · rw[h] at e;cases e;omega
      have HCN:Hid (Core c w s none o.fuel o.far (w5.setCell ⟨w.heap.size,0,none⟩ (.int .i64 opl)) s'):=HC4.out.own (by omega) (by omega) hgrow.os hgrow.tape hgrow.output (by simp[World.setCell];omega) (fun k k1 k2=>by
       have h1:k≠w.heap.size:=by
        rcases k2 with h | h
        · omega
        · exact hnbs k h.symm
       have h2:some k≠(Value.slice po9 kids.length cap9).ownBlock:=fun e=>by
        rcases k2 with h | h
        · have:=hk9 k e.symm;omega
        · exact HK4.out.nsb k e.symm h
       rw[Below.heap_setCell _ _ _ _ h1,hgrow.block k (by simp;omega) h2,Below.heap_alloc _ _ _ k1])
      have HKN:Hid (KidV (w5.setCell ⟨w.heap.size,0,none⟩ (.int .i64 opl)) (w.heap.size+1) s'.sv.ownBlock (.slice (some ⟨g1,0,none⟩) (kids.length+1) cap1) (kids++[(vb,o.t)])):=
       (HK4.out.push (w:=wr.drewN 1) (fun g e=>by have:=hk9 g e;omega) (by omega) (by omega) HRV.out _ (fun g e=>(HC4.out.tr.svlt g e).2) hown5 hgrow hat5).keep (tb:=w.heap.size) (rb:=w.heap.size) (((TF.refl w.heap.size w.heap.size s'.sv.ownBlock none w5)).setCell _ _ (Or.inl rfl)) (by omega) (by omega) (Or.inl rfl) (Or.inl rfl)
      have HBN:=hide' (Blk.set hb5 0 (.int .i64 opl))
      have hdp:o.st.deps=st.deps:=(HKp.out.deps rfl).trans HAt.out.deps
      have hof:=HCr.out.fuel
      have hor:=HCr.out.far
      have HN:Hid (AtT c (tryT c.G c.bs c.N gg) r w s (some h) (some ⟨h,0,none⟩) st (timesT (tryT c.G c.bs c.N gg) c.N r dv s.fuel s.far st []) dv (j+1) (.slice (some ⟨g1,0,none⟩) (kids.length+1) cap1) (kids++[(vb,o.t)]) o.st (w5.setCell ⟨w.heap.size,0,none⟩ (.int .i64 opl)) s'):=by
       refine ⟨TPre.next HC.out HP.out HCN.out (Or.inl rfl) HD5.out HD6.out HKp.out.inv (fun _ _ _=>hdp) (fun _ e=>by cases e),?_,?_,HKN.out,?_,by simp;omega,hnbs,hdp,?_⟩
       · rw[hof,hor];exact HCN.out
       · rw[HOPL.out,HKp.out.en];exact HBN.out
       · rw[show dv-(j+1)=gk by omega,HO1.out,hof,hor,List.map_append,List.map_cons,List.map_nil,joinL_snoc]
       · simp[World.setCell];omega
      clear hgrow hown5 hat5 hb5 c5 f5
      go_roundw
      case rel=>exact ⟨j+1,_,_,_,by go_num,by omega,HN⟩
      case measure=>simp[intOf];omega
  · have hjn':¬ (j:Int)<(dv:Int):=by omega
    have hj3:dv-j=0:=by omega
    have hrem:=HAt.out.rem
    rw[hj3] at hrem
    have HO1:Hid (timesT (tryT c.G c.bs c.N gg) c.N r dv s.fuel s.far st []=madeO c.N sj.fuel sj.far stj (91::joinL (kids.map Prod.snd)++[93])):=hrem
    clear hrem
    have q0:wr.cell? ⟨w.heap.size,0,none⟩=some (.int .i64 stj.pl):=HAt.out.box.cell 0
    have hnd:=HAt.out.pre.nd
    have hval:=HAt.out.pre.inv.vals
    go_wp2_with fail
    cases hm:sj.nodes with
    | zero=>
     have HMN:=hide' (fun W (h:TrAt c.gb c.rb c.tb c.bs W sj)=>made_none c.gb c.rb c.tb c.bs W _ h 4 0 ByteArray.empty (.slice po9 kids.length cap9) hm rfl)
     refine wp_region_one (fun W=>W.cell? ⟨w.heap.size,0,none⟩=some (.int .i64 stj.pl)) [0,1,2,4,5] 3 6 _ _ _ rfl rfl rfl rfl (by kernel_rfl) (by kernel_rfl) (fun _ _ d _ _ h=>by cases d<;>exact h) ?_ q0
     simp only[List.filterMap_cons,List.filterMap_nil,List.getElem?_cons_zero,List.getElem?_cons_succ,List.drop_succ_cons,List.drop_zero]
     refine wpX_step _ rfl (fun W hW=>rfl) ?_
     refine wpX_step _ rfl (fun W hW=>rfl) ?_
     refine wpX_step _ rfl (fun W hW=>by go_simp;rfl) ?_
     refine wpX_step _ rfl (fun W hW=>rfl) ?_
     refine wpX_step (.int .i64 stj.pl) rfl (fun W hW=>by go_simp) ?_
     refine wpX_nil ?_
     unfold Oper.wp
     go_simp
     refine (HMN.out _ (HAt.out.core.tr.drewN 1)).mono ?_
     rintro e w7 ⟨rfl,rfl⟩
     simp only
     refine ⟨rfl,?_⟩
     rw[HO1.out]
     exact TPost.dead (HAt.out.core.drewN 1) _ (by omega)
    | succ m=>
     have HMS:=hide' (fun W (h:TrAt c.gb c.rb c.tb c.bs W sj)=>made_some c.gb c.rb c.tb c.bs W _ h 4 0 ByteArray.empty (.slice po9 kids.length cap9) m hm (by have:=HC.out.N;omega) rfl)
     refine wp_region_one (fun W=>W.cell? ⟨w.heap.size,0,none⟩=some (.int .i64 stj.pl)) [0,1,2,4,5] 3 6 _ _ _ rfl rfl rfl rfl (by kernel_rfl) (by kernel_rfl) (fun _ _ d _ _ h=>by cases d<;>exact h) ?_ q0
     simp only[List.filterMap_cons,List.filterMap_nil,List.getElem?_cons_zero,List.getElem?_cons_succ,List.drop_succ_cons,List.drop_zero]
     refine wpX_step _ rfl (fun W hW=>rfl) ?_
     refine wpX_step _ rfl (fun W hW=>rfl) ?_
     refine wpX_step _ rfl (fun W hW=>by go_simp;rfl) ?_
     refine wpX_step _ rfl (fun W hW=>rfl) ?_
     refine wpX_step (.int .i64 stj.pl) rfl (fun W hW=>by go_simp) ?_
     refine wpX_nil ?_
     unfold Oper.wp
     go_simp
     refine (HMS.out _ (HAt.out.core.tr.drewN 1)).mono ?_
     rintro e w7 ⟨rfl,ht7,hf7,hb7,hs7⟩
     have HC7:=hide' ((HAt.out.core.drewN 1).made ht7 hf7)
     have HB7:=hide' (hf7.blk (show Blk (wr.drewN 1) w.heap.size _ _ from HAt.out.box) (by omega) (by omega) (by simp) (by simp))
     have hf7':TF c.tb c.rb none none wr w7:=((TF.refl c.tb c.rb none none wr).drewN 1).trans hf7 (Or.inl rfl) (Or.inl rfl)
     have hb7':Blk w7 wr.heap.size #[.int .i64 4,.int .u32 0,.string ByteArray.empty,(.slice po9 kids.length cap9)] 177:=hb7
     have HV7:=hide' (HAt.out.kid.made (lo:=w.heap.size) hf7' hb7' (by omega) (by omega) (by omega) (by omega) (Or.inr rfl) (fun g e=>(HAt.out.core.tr.svlt g e).2))
     clear ht7 hf7 hb7 hf7' hb7'
     simp only
     refine ⟨HB7.out.cell 0,?_⟩
     repeat still_step
     refine wpStill_nil ?_
     go_wp2_with fail
     go_ret3
     rw[HO1.out]
     have hne:¬ stj.vals=c.N:=by omega
     unfold madeO
     rw[if_neg hne]
     obtain ⟨fv,hfv⟩:=HV7.out
     refine Or.inr (Or.inl ⟨rfl,rfl,_,_,rfl,HC7.out,?_,?_,Or.inr ⟨rfl,fv,wr.heap.size,rfl,?_⟩,fun h e=>by cases e⟩)
     · exact HAt.out.pre.rd
     · simp only[fitO];omega
     · exact hfv
end Go.Proofs.YtmlkhhhjdpbhfaaGreatDoor

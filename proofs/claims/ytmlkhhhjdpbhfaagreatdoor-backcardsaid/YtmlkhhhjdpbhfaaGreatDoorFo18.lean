import Derived.Test.YtmlkhhhjdpbhfaaGreatDoorFo17
namespace Go.Proofs.YtmlkhhhjdpbhfaaGreatDoor
open Go.RowKit
set_option maxRecDepth 100000 in
set_option maxHeartbeats 8000000 in
theorem summed_calls (c:Cx)(hc:CxOk c)(gg:Nat)(ih:TryC c gg)(w:World)(s:Ts)(st:PS)(h:Nat)(pb:Nat)(p:Pt)(x:It)(r:List It)(ctx:Bool)(hp:TPre c w s st (some h))(hpt:PtBlk w pb p)(hi:ItPt x p)(hx:ItR x)(hxc:x.c=115)(hk1:OneKid c w p r)(hwf:TrW c.R false ctx r)(hpb:pb<c.rb)(hf:s.fuel≤gg):
 Calls Tryz.prog 155 #[.pointer (some ⟨c.tb,0,none⟩),.pointer (some ⟨pb,0,none⟩),spotV st.pl st.en (adr (some h))] w fun e w'=>TPost c w s none false (summedT (tryT c.G c.bs c.N gg) c.bs (st.deps x.d.toNat) r s.fuel s.far st) e w':=by
 have hd:=hx.it.d (by rw[hxc];rfl)
 obtain ⟨d,hdd⟩:∃ d:Nat,x.d=(d:Int):=⟨x.d.toNat,by omega⟩
 rw[hdd]
 simp only[Int.toNat_natCast]
 have hd8:d<8:=by omega
 have hd8':(d:Int)<8:=by omega
 have hdp:p.dp=(d:Int):=by rw[(hi.dp (by rw[hxc];rfl)).1,hdd]
 have hdv:=hp.inv.deps d
 obtain ⟨g,cap,qb,f2,lo2,hi2,hpv,hgl,hg0,hrep,hhi2⟩:=hk1.ex
 have hlt:=hp.tr.blk.lt
 have hlt2:=hc.lt
 have hle:=hc.le
 have hbs:=hc.bs
 have hpl:=hp.inv.pl
 have hen:=hp.inv.en
 have hptl:=hpt.lt
 have hnh:=hwf.notHid rfl
 have HP:=hide' hp
 have HC:=hide' hc
 have HI:=hide' ih
 have HWf:=hide' hwf
 have HRep:=hide' hrep
 have HP1:=hide' (hp.alloc hc (spotC st.pl st.en (adr (some h))))
 have HB1:=hide' (Blk.new w #[.int .i64 st.pl,.int .i64 st.en,.pointer (adr (some h))] 159)
 have HQ1:=hide' (show PtBlk (w.alloc (spotC st.pl st.en (adr (some h)))) pb p from Blk.alloc hpt _)
 have HR1:Hid (Core c w s .none s.fuel s.far (w.alloc (spotC st.pl st.en (adr (some h)))) s):=Core.refl (hp.tr.alloc _) ((TF.refl c.tb c.rb .none .none w).alloc _) hp.bud _
 have hs1:(w.alloc (spotC st.pl st.en (adr (some h)))).heap.size=w.heap.size+1:=by simp
 obtain ⟨hh1,hh2,hh3⟩:=hp.hid h rfl
 have hhl:=Blk.lt hh1
 have HH1:=hide' (show HdAt (w.alloc (spotC st.pl st.en (adr (some h)))) h st.deps from Blk.alloc hh1 _)
 unfold spotC at HP1 HQ1 HR1 hs1 HH1
 clear hp hc hpt ih hh1 hk1 hrep
 unfold spotV
 simp only[adr,Option.map_some] at HP1 HB1 HQ1 HR1 hs1 HH1 ⊢
 go_enter Tryz.func155,Tryz.ntmps155
 go_wp2_with fail
 generalize w.alloc (.cells #[.int .i64 st.pl,.int .i64 st.en,.pointer (some ⟨h,0,none⟩)] 159)=W1 at *
 have a0:W1.cell? ⟨w.heap.size,0,none⟩=some (.int .i64 st.pl):=HB1.out.cell 0
 have a1:W1.cell? ⟨w.heap.size,1,none⟩=some (.int .i64 st.en):=HB1.out.cell 1
 have a2:W1.cell? ⟨w.heap.size,2,none⟩=some (.pointer (some ⟨h,0,none⟩)):=HB1.out.cell 2
 have p8:W1.cell? ⟨pb,8,none⟩=some (.slice (some ⟨g,0,none⟩) 1 cap):=by rw[← hpv];exact HQ1.out.cell 8
 have k0:W1.cell? ⟨g,0,none⟩=some (.pointer (some ⟨qb,0,none⟩)):=by rw[HP1.out.bel.cell (p:=⟨g,0,none⟩) hgl];exact hg0
 have hnb:some w.heap.size≠s.sv.ownBlock:=fun e=>by have:=HP.out.tr.svlt _ e.symm;omega
 have hnp:some pb≠s.sv.ownBlock:=fun e=>by have:=HP.out.tr.svlt _ e.symm;omega
 refine wp_region_mid 8 _ rfl rfl (by kernel_rfl) (by kernel_rfl) ?_
 simp only[List.take_succ_cons,List.take_zero,List.drop_succ_cons,List.drop_zero]
 repeat still_step
 refine wpStill_nil ?_
 unfold Oper.wp
 go_simp
 have hcall:=HI.out (W1.drewN 1) s st (some h) r false ctx false false f2 lo2 hi2 qb (HP1.out.drewN 1) HRep.out hhi2 HWf.out (fun _=>rfl) rfl hf
 rw[hidV_hidK hnh,silK_false hnh] at hcall
 unfold spotV at hcall
 simp only[adr,Option.map_some] at hcall
 have HOk:Hid ((tryT c.G c.bs c.N gg s.fuel s.far false r st).ok=true→Keeps c.bs c.N st false (tryT c.G c.bs c.N gg s.fuel s.far false r st)∧(tryT c.G c.bs c.N gg s.fuel s.far false r st).e=0):=fun hok=>by have:=(tryT_ok c.G HC.out.wf gg).fit s.fuel s.far false false ctx r _ HWf.out HP1.out.inv hok;rw[hnh] at this;exact this
 have hO1:summedT (tryT c.G c.bs c.N gg) c.bs (st.deps d) r s.fuel s.far st=summedE c.bs (st.deps d) st (tryT c.G c.bs c.N gg s.fuel s.far false r st):=rfl
 have HO1:=hide' hO1
 clear hO1
 generalize tryT c.G c.bs c.N gg s.fuel s.far false r st=o at *
 refine hcall.mono fun e3 w3 hpo=>?_
 have hk:=hpo.keeps
 have HB4:=hide' (hk.blk (show Blk (W1.drewN 1) w.heap.size _ _ from HB1.out) (by omega) (by omega) hnb (by simp))
 have HQ4:=hide' (show PtBlk w3 pb p from hk.blk (show PtBlk (W1.drewN 1) pb p from HQ1.out) (by omega) (by omega) hnp (by simp))
 have HH4:=hide' (show HdAt w3 h st.deps from hk.blk (show HdAt (W1.drewN 1) h st.deps from HH1.out) (by omega) (by omega) hh3 (by simp))
 have hs4:w.heap.size+1≤w3.heap.size:=by have:=hk.size;have h5:(W1.drewN 1).heap.size=W1.heap.size:=rfl;omega
 have hpo2:=TPost.ahead (HR1.out.drewN 1) hpo
 clear a0 a1 a2 p8 k0 hcall hpo hk HP1 HB1 HQ1 HR1 HH1
 rcases hpo2 with ⟨a1,a2,a3⟩ | ⟨a1,a2,s',v,a3,a4,a5,a6,a7,a8⟩ | ⟨a1,a2,s',v,k,a3,a4⟩
 · subst a2
   have HH:Hid (TPost c w s .none false (summedE c.bs (st.deps d) st o) (.panicked (outV o.e)) w3):=by
    have hno:o.ok=false:=by
     cases hok:o.ok with
     | false=>rfl
     | true=>exact absurd (HOk.out hok).2 a1
    have:summedE c.bs (st.deps d) st o=o:=by unfold summedE;rw[hno];simp
    have h2:TPost c w s .none false (summedE c.bs (st.deps d) st o) (.panicked (outV o.e)) w3:=by rw[this];exact Or.inl ⟨a1,rfl,a3⟩
    exact h2
   clear a1 a3
   simp only
   refine ⟨rfl,?_⟩
   rw[HO1.out]
   exact HH.out
 · subst a3
   have hkp:=(HOk.out a2).1
   have hpl2:=hkp.ge
   have hen2:=hkp.inv.pl
   have hen3:=hkp.inv.en
   have HE:Hid (summedE c.bs (st.deps d) st o=if sumV (c.bs.extract st.pl o.st.pl) (st.deps d).2 (c.bs.extract st.pl o.st.pl).size≠(st.deps d).1 then failO o.fuel o.far st.pl st else fitO o.fuel o.far { o.st with en:=st.en } o.t):=by
    have:summedE c.bs (st.deps d) st o=if sumV (c.bs.extract st.pl o.st.pl) (st.deps d).2 (c.bs.extract st.pl o.st.pl).size≠(st.deps d).1 then failO o.fuel o.far st.pl st else fitO o.fuel o.far { o.st with en:=st.en } o.t:=by unfold summedE;rw[if_pos a2]
    exact this
   have HA4:=hide' a4
   have HA5:=hide' a5
   have HA6:=hide' a6
   have HA7:=hide' a7
   clear a1 a2 a4 a5 a6 a7 a8 hkp
   have b2:w3.cell? ⟨w.heap.size,2,none⟩=some (.pointer (some ⟨h,0,none⟩)):=HB4.out.cell 2
   have p3:w3.cell? ⟨pb,3,none⟩=some (.int .i64 d):=by rw[← hdp];exact HQ4.out.cell 3
   have h0:=(HH4.out.cell d hd8).1
   have h1:=(HH4.out.cell d hd8).2
   have b2a:∀ o,(w3.alloc o).cell? ⟨w.heap.size,2,none⟩=some (.pointer (some ⟨h,0,none⟩)):=fun o=>(Blk.alloc HB4.out o).cell 2
   have p3a:∀ o,(w3.alloc o).cell? ⟨pb,3,none⟩=some (.int .i64 d):=fun o=>by rw[← hdp];exact (Blk.alloc HQ4.out o).cell 3
   have h0a:∀ o,(w3.alloc o).cell? ⟨h,d*2,none⟩=some (.int .u32 (st.deps d).1):=fun o=>(HdAt.cell (show HdAt (w3.alloc o) h st.deps from Blk.alloc HH4.out o) d hd8).1
   have h1a:∀ o,(w3.alloc o).cell? ⟨h,d*2+1,none⟩=some (.int .i64 (st.deps d).2):=fun o=>(HdAt.cell (show HdAt (w3.alloc o) h st.deps from Blk.alloc HH4.out o) d hd8).2
   generalize hopl:o.st.pl=opl at *
   have HOPL:=hide' hopl
   clear hopl
   simp only
   repeat still_step
   refine wpStill_nil ?_
   go_wp2_with fail
   go_region
   have HC5:=hide' ((HA4.out.belowAll ((Below.refl w3.heap.size w3).alloc (Nat.le_refl _) (.cells #[.int .u32 (st.deps d).1,.int .i64 (st.deps d).2] 266))).drewN 1)
   have HB5:Hid (Blk (w3.alloc (.cells #[.int .u32 (st.deps d).1,.int .i64 (st.deps d).2] 266)).drew w.heap.size #[.int .i64 st.pl,.int .i64 st.en,.pointer (some ⟨h,0,none⟩)] 159):=Blk.alloc HB4.out _
   have HN5:Hid (Blk (w3.alloc (.cells #[.int .u32 (st.deps d).1,.int .i64 (st.deps d).2] 266)).drew w3.heap.size #[.int .u32 (st.deps d).1,.int .i64 (st.deps d).2] 266):=Blk.new _ _ _
   have HV5:Hid (VOk (w3.alloc (.cells #[.int .u32 (st.deps d).1,.int .i64 (st.deps d).2] 266)).drew w.heap.size s'.sv.ownBlock false v o.t):=by
    have h5:VOk (w3.alloc (.cells #[.int .u32 (st.deps d).1,.int .i64 (st.deps d).2] 266)).drew w.heap.size s'.sv.ownBlock false v o.t:=by
     rcases HA7.out with ⟨i1,i2⟩ | ⟨i1,fu,vb,i2,i3⟩
     · cases i1
     · exact Or.inr ⟨i1,fu,vb,i2,i3.mono (fun k _ hk h=>⟨Below.heap_alloc _ _ _ hk,h⟩) (Nat.le_refl _) (by simp)⟩
    exact h5
   have hs5:(w3.alloc (.cells #[.int .u32 (st.deps d).1,.int .i64 (st.deps d).2] 266)).drew.heap.size=w3.heap.size+1:=by simp
   generalize hW5:(w3.alloc (.cells #[.int .u32 (st.deps d).1,.int .i64 (st.deps d).2] 266)).drew=W5 at *
   change Hid (Core c w s none o.fuel o.far (w3.alloc (.cells #[.int .u32 (st.deps d).1,.int .i64 (st.deps d).2] 266)).drew s') at HC5
   rw[hW5] at HC5
   clear hW5 b2 p3 h0 h1 b2a p3a h0a h1a
   generalize hnb':w3.heap.size=nb at *
   clear hnb'
   go_wp2_with fail
   have hi1:(st.pl:Int)≤(opl:Int):=by omega
   have hi2':(opl:Int)≤(c.bs.size:Int):=by omega
   refine wp_region_one (fun W=>W.cell? ⟨nb,0,none⟩=some (.int .u32 (st.deps d).1)∧W.cell? ⟨nb,1,none⟩=some (.int .i64 (st.deps d).2)∧W.cell? ⟨c.tb,46,none⟩=some (.string c.bs)∧W.cell? ⟨w.heap.size,0,none⟩=some (.int .i64 st.pl)) [0,1,2,3,4,5,6,7,8,9,10,11] 12 13 _ _ _ rfl rfl rfl rfl (by kernel_rfl) (by kernel_rfl) (fun _ _ d _ _ h=>by cases d<;>exact h) ?_ ⟨HN5.out.cell 0,HN5.out.cell 1,HC5.out.tr.cbytes,HB5.out.cell 0⟩
   simp only[List.filterMap_cons,List.filterMap_nil,List.getElem?_cons_zero,List.getElem?_cons_succ,List.drop_succ_cons,List.drop_zero]
   refine wpX_stepK (.pointer (some ⟨nb,0,none⟩)) rfl (fun W hW=>by obtain ⟨c0,c1,c2,c3⟩:=hW;go_simp) (fun K hK=>?_)
   go_simp
   refine hK _ ?_
   clear hK K
   refine wpX_stepK (.int .u32 (st.deps d).1) rfl (fun W hW=>by obtain ⟨c0,c1,c2,c3⟩:=hW;go_simp) (fun K hK=>?_)
   go_simp
   refine hK _ ?_
   clear hK K
   refine wpX_stepK (.pointer (some ⟨c.tb,0,none⟩)) rfl (fun W hW=>by obtain ⟨c0,c1,c2,c3⟩:=hW;go_simp) (fun K hK=>?_)
   go_simp
   refine hK _ ?_
   clear hK K
   refine wpX_stepK (.pointer (some ⟨c.tb,0,none⟩)) rfl (fun W hW=>by obtain ⟨c0,c1,c2,c3⟩:=hW;go_simp) (fun K hK=>?_)
   go_simp
   refine hK _ ?_
   clear hK K
   refine wpX_stepK (.pointer (some ⟨c.tb,46,none⟩)) rfl (fun W hW=>by obtain ⟨c0,c1,c2,c3⟩:=hW;go_simp) (fun K hK=>?_)
   go_simp
   refine hK _ ?_
   clear hK K
   refine wpX_stepK (.string c.bs) rfl (fun W hW=>by obtain ⟨c0,c1,c2,c3⟩:=hW;go_simp) (fun K hK=>?_)
   go_simp
   refine hK _ ?_
   clear hK K
   refine wpX_stepK (.pointer (some ⟨w.heap.size,0,none⟩)) rfl (fun W hW=>by obtain ⟨c0,c1,c2,c3⟩:=hW;go_simp) (fun K hK=>?_)
   go_simp
   refine hK _ ?_
   clear hK K
   refine wpX_stepK (.int .i64 st.pl) rfl (fun W hW=>by obtain ⟨c0,c1,c2,c3⟩:=hW;go_simp) (fun K hK=>?_)
   go_simp
   refine hK _ ?_
   clear hK K
   refine wpX_stepK (.int .i64 opl) rfl (fun W hW=>by obtain ⟨c0,c1,c2,c3⟩:=hW;go_simp) (fun K hK=>?_)
   go_simp
   refine hK _ ?_
   clear hK K
   refine wpX_stepK (.string (c.bs.extract st.pl opl)) rfl (fun W hW=>by obtain ⟨c0,c1,c2,c3⟩:=hW;go_simp) (fun K hK=>?_)
   go_simp
   refine hK _ ?_
   clear hK K
   refine wpX_stepK (.pointer (some ⟨nb,1,none⟩)) rfl (fun W hW=>by obtain ⟨c0,c1,c2,c3⟩:=hW;go_simp) (fun K hK=>?_)
   go_simp
   refine hK _ ?_
   clear hK K
   refine wpX_stepK (.int .i64 (st.deps d).2) rfl (fun W hW=>by obtain ⟨c0,c1,c2,c3⟩:=hW;go_simp) (fun K hK=>?_)
   go_simp
   refine hK _ ?_
   clear hK K
   refine wpX_nil ?_
   unfold Oper.wp
   go_simp
   refine (sum_calls (c.bs.extract st.pl opl) (by rw[ByteArray.size_extract];omega) (st.deps d).2 hdv.2 (W5.drewN 1)).mono ?_
   rintro e w6 ⟨rfl,hb6⟩
   have hb6':Below W5.heap.size W5 w6:=⟨hb6.os,hb6.tape,hb6.output,hb6.size,hb6.block⟩
   have hs6:=hb6'.size
   have HC6:=hide' (HC5.out.belowAll hb6')
   have HB6:=hide' (HB5.out.below hb6' HB5.out.lt)
   have HN6:=hide' (HN5.out.below hb6' HN5.out.lt)
   have HV6:Hid (VOk w6 w.heap.size s'.sv.ownBlock false v o.t):=by
    have h5:VOk w6 w.heap.size s'.sv.ownBlock false v o.t:=by
     rcases HV5.out with ⟨i1,i2⟩ | ⟨i1,fu,vb,i2,i3⟩
     · cases i1
     · exact Or.inr ⟨i1,fu,vb,i2,i3.mono (fun k _ hk h=>⟨hb6'.block k hk,h⟩) (Nat.le_refl _) hs6⟩
    exact h5
   clear hb6 hb6' HC5 HB5 HN5 HV5
   have a0:w6.cell? ⟨w.heap.size,0,none⟩=some (.int .i64 st.pl):=HB6.out.cell 0
   simp only
   refine ⟨⟨HN6.out.cell 0,HN6.out.cell 1,HC6.out.tr.cbytes,a0⟩,?_⟩
   have hsl:=sumV_lt (c.bs.extract st.pl opl) (st.deps d).2 (c.bs.extract st.pl opl).size
   have hp4:=pow_le4 (st.deps d).2 hdv.2
   generalize hsv:sumV (c.bs.extract st.pl opl) (st.deps d).2 (c.bs.extract st.pl opl).size=sv6 at *
   by_cases heq:(st.deps d).1=sv6
   · have heq':(((st.deps d).1:Int) != (sv6:Int))=false:=by simp[heq]
     have HE2:Hid (summedE c.bs (st.deps d) st o=fitO o.fuel o.far { o.st with en:=st.en } o.t):=by
      have:summedE c.bs (st.deps d) st o=fitO o.fuel o.far { o.st with en:=st.en } o.t:=by rw[HE.out,if_neg (by simp[heq])]
      exact this
     clear HE heq hsv
     repeat still_step
     refine wpStill_nil ?_
     go_wp2_with fail
     go_ret3
     rw[HO1.out,HE2.out]
     exact Or.inr (Or.inl ⟨rfl,rfl,s',v,by simp[fitO,HOPL.out],HC6.out,HA5.out,HA6.out,HV6.out,fun _ e=>by cases e⟩)
   · have heq':(((st.deps d).1:Int) != (sv6:Int))=true:=by simp;omega
     have HE2:Hid (summedE c.bs (st.deps d) st o=failO o.fuel o.far st.pl st):=by
      have:summedE c.bs (st.deps d) st o=failO o.fuel o.far st.pl st:=by rw[HE.out,if_pos (fun e=>heq e.symm)]
      exact this
     clear HE heq hsv
     repeat still_step
     refine wpStill_nil ?_
     go_wp2_with fail
     refine (fail_calls c.gb c.rb c.tb c.bs w6 s' HC6.out.tr st.pl).mono ?_
     rintro e w7 ⟨rfl,hw7⟩
     have HW7:=hide' hw7
     clear hw7
     simp only
     go_wp2_with fail
     go_ret3
     rw[HO1.out,HE2.out]
     exact TPost.fail st.pl st HC6.out HW7.out _ _
 · subst a3
   have HH:Hid (TPost c w s .none false (summedE c.bs (st.deps d) st o) (.returned (.tuple #[.pointer none,.int .i64 0,.bool false])) w3):=by
    have:summedE c.bs (st.deps d) st o=o:=by unfold summedE;rw[a2];simp
    have h2:TPost c w s .none false (summedE c.bs (st.deps d) st o) (.returned (.tuple #[.pointer none,.int .i64 0,.bool false])) w3:=by rw[this];exact Or.inr (Or.inr ⟨a1,a2,s',_,0,rfl,a4⟩)
    exact h2
   clear a1 a2 a4
   simp only
   repeat still_step
   refine wpStill_nil ?_
   go_wp2_with fail
   go_ret3
   rw[HO1.out]
   exact HH.out
theorem Core.undo {c:Cx}{w w3 w4:World}{s s':Ts}{hb:Option Nat}{f r nd:Nat}{sv:Value}(h:Core c w s hb f r w3 s')(ht:TrAt c.gb c.rb c.tb c.bs w4 { s' with read:=undoR (s'.spans.drop s.spans.length) s'.read,spans:=s'.spans.take s.spans.length,nodes:=nd,sv:=sv })(hf:TF c.tb c.rb none none w3 w4)(hv:sv.ownBlock=s'.sv.ownBlock):
 Core c w s hb f r w4 { s' with read:=s.read,spans:=s.spans,nodes:=nd,sv:=sv }:=by
 obtain ⟨new,e1,e2⟩:=h.sp
 have ht':TrAt c.gb c.rb c.tb c.bs w4 { s' with read:=s.read,spans:=s.spans,nodes:=nd,sv:=sv }:=by
  rw[e1] at ht
  rw[List.drop_left,List.take_left,e2.undo] at ht
  exact ht
 refine ⟨ht',h.fuel,h.far,⟨[],by simp,rfl⟩,?_,h.fr.trans (hf.any s.sv.ownBlock hb) (Or.inl rfl) (Or.inl rfl),?_⟩
 · have:=h.bud
   rw[e1] at this
   simp only[List.length_append] at this ⊢
   omega
 · simp only
   rw[hv];exact h.sv
theorem Core.spans {c:Cx}{w w':World}{s s':Ts}{st:PS}{ho hb:Option Nat}{f r:Nat}(hp:TPre c w s st ho)(h:Core c w s hb f r w' s'):(∀ p,p∈s'.spans→p.1≤p.2∧p.2≤c.bs.size)∧s.spans.length≤s'.spans.length:=by
 obtain ⟨new,e1,e2⟩:=h.sp
 refine ⟨fun p hpp=>?_,by rw[e1];simp⟩
 rw[e1] at hpp
 rcases List.mem_append.1 hpp with h1 | h1
 · exact hp.sp p h1
 · have:=e2.in p h1
   rw[hp.rd,hp.inv.rd] at this
   exact this
structure TwoKids (c:Cx) (p:Pt) (k0 k1:List It):Prop where
 ex:∃ g cap q0 q1 f lo hi,p.v=.slice (some ⟨g,0,none⟩) 2 cap∧g<c.w0.heap.size∧c.w0.cell? ⟨g,0,none⟩=some (.pointer (some ⟨q0,0,none⟩))∧c.w0.cell? ⟨g,1,none⟩=some (.pointer (some ⟨q1,0,none⟩))∧RepS f c.w0 lo hi q0 false k0∧RepS f c.w0 lo hi q1 false k1∧hi≤c.w0.heap.size
def RemC (T:Nat→Nat→Bool→List It→PS→PO)(N:Nat)(k0 k1:List It)(st:PS)(O:PO)(j:Nat)(s:Ts):Prop:=
 (j=0→O=choice2 T N k1 st (T s.fuel s.far false k0 st))∧(j=1→O=chosen N 49 (T s.fuel s.far false k1 st))∧(j=2→O.e=0∧O.ok=false∧O.fuel=s.fuel∧O.far=s.far)
theorem RemC.dead {T:Nat→Nat→Bool→List It→PS→PO}{N:Nat}{k0 k1 k:List It}{st:PS}{O:PO}{j:Nat}{s:Ts}(h:RemC T N k0 k1 st O j s)(hj:j<2)(hk:k=if j=0 then k0 else k1)(he:(T s.fuel s.far false k st).e≠0)(hok:(T s.fuel s.far false k st).ok=false):O=T s.fuel s.far false k st:=by
 obtain ⟨a,b,_⟩:=h
 have h01:j=0∨j=1:=by omega
 rcases h01 with rfl | rfl
 · simp only[if_true] at hk;subst hk
   rw[a rfl];unfold choice2;rw[if_pos (Or.inr he)];unfold chosen;rw[hok];simp
 · simp at hk;subst hk
   rw[b rfl];unfold chosen;rw[hok];simp
theorem RemC.fit {T:Nat→Nat→Bool→List It→PS→PO}{N:Nat}{k0 k1 k:List It}{st:PS}{O:PO}{j:Nat}{s:Ts}(h:RemC T N k0 k1 st O j s)(hj:j<2)(hk:k=if j=0 then k0 else k1)(hok:(T s.fuel s.far false k st).ok=true):O=madeO N (T s.fuel s.far false k st).fuel (T s.fuel s.far false k st).far (T s.fuel s.far false k st).st (47::hexT j::32::(T s.fuel s.far false k st).t):=by
 obtain ⟨a,b,_⟩:=h
 have h01:j=0∨j=1:=by omega
 rcases h01 with rfl | rfl
 · simp only[if_true] at hk;subst hk
   rw[a rfl];unfold choice2;rw[if_pos (Or.inl hok)];unfold chosen;rw[if_pos hok];rfl
 · simp at hk;subst hk
   rw[b rfl];unfold chosen;rw[if_pos hok];rfl
theorem RemC.fail {T:Nat→Nat→Bool→List It→PS→PO}{N:Nat}{k0 k1 k:List It}{st:PS}{O:PO}{j:Nat}{s s4:Ts}(h:RemC T N k0 k1 st O j s)(hj:j<2)(hk:k=if j=0 then k0 else k1)(he:(T s.fuel s.far false k st).e=0)(hok:(T s.fuel s.far false k st).ok=false)(h1:s4.fuel=(T s.fuel s.far false k st).fuel)(h2:s4.far=(T s.fuel s.far false k st).far):RemC T N k0 k1 st O (j+1) s4:=by
 obtain ⟨a,b,_⟩:=h
 have h01:j=0∨j=1:=by omega
 rcases h01 with rfl | rfl
 · simp only[if_true] at hk;subst hk
   refine ⟨fun h=>by omega,fun _=>?_,fun h=>by omega⟩
   rw[a rfl,h1,h2];unfold choice2;rw[if_neg (by rw[hok,he];simp)]
 · simp at hk;subst hk
   refine ⟨fun h=>by omega,fun h=>by omega,fun _=>?_⟩
   rw[b rfl];unfold chosen;rw[hok,h1,h2];simp[he,hok]
structure AtC (c:Cx) (T:Nat→Nat→Bool→List It→PS→PO) (k0 k1:List It) (w:World) (s:Ts) (st:PS) (ho:Option Nat) (hoa:Option Addr) (O:PO) (pb mb:Nat) (p:Pt) (j:Nat) (wr:World) (sj:Ts):Prop where
 pre:TPre c wr sj st ho
 core:Core c w s none sj.fuel sj.far wr sj
 eqs:sj.spans=s.spans∧sj.nodes=s.nodes
 le:sj.fuel≤s.fuel
 box:Blk wr w.heap.size #[.int .i64 st.pl,.int .i64 st.en,.pointer hoa] 159
 mark:Blk wr mb #[.int .i64 s.spans.length,.int .i64 s.nodes] 272
 rem:RemC T c.N k0 k1 st O j sj
 nb:∀ g,sj.sv.ownBlock=some g→g≠w.heap.size∧g≠mb
 sz:mb<wr.heap.size
set_option maxRecDepth 100000 in
set_option maxHeartbeats 8000000 in
theorem choice_calls (c:Cx)(hc:CxOk c)(gg:Nat)(ih:TryC c gg)(w:World)(s:Ts)(st:PS)(ho:Option Nat)(pb:Nat)(p:Pt)(k0 k1:List It)(hp:TPre c w s st ho)(hpt:PtBlk w pb p)(hk2:TwoKids c p k0 k1)(hwf0:TrW c.R false false k0)(hwf1:TrW c.R false false k1)(hpb:pb<c.rb)(hf:s.fuel≤gg):
 Calls Tryz.prog 131 #[.pointer (some ⟨c.tb,0,none⟩),.pointer (some ⟨pb,0,none⟩),spotV st.pl st.en (adr ho)] w fun e w'=>TPost c w s none false (choiceT (tryT c.G c.bs c.N gg) c.N k0 k1 s.fuel s.far st) e w':=by
 obtain ⟨g,cap,q0,q1,f2,lo2,hi2,hpv,hgl,hg0,hg1,hrep0,hrep1,hhi2⟩:=hk2.ex
 have hlt:=hp.tr.blk.lt
 have hlt2:=hc.lt
 have hle:=hc.le
 have hbs:=hc.bs
 have hptl:=hpt.lt
 have hnh0:=hwf0.notHid rfl
 have hnh1:=hwf1.notHid rfl
 have HP:=hide' hp
 have HC:=hide' hc
 have HI:=hide' ih
 have HWf0:=hide' hwf0
 have HWf1:=hide' hwf1
 have HRep0:=hide' hrep0
 have HRep1:=hide' hrep1
 have hP1:=hp.alloc hc (spotC st.pl st.en (adr ho))
 have HB1:=hide' (Blk.new w #[.int .i64 st.pl,.int .i64 st.en,.pointer (adr ho)] 159)
 have HQ1:=hide' (show PtBlk (w.alloc (spotC st.pl st.en (adr ho))) pb p from Blk.alloc hpt _)
 have HR1:Hid (Core c w s .none s.fuel s.far (w.alloc (spotC st.pl st.en (adr ho))) s):=Core.refl (hp.tr.alloc _) ((TF.refl c.tb c.rb .none .none w).alloc _) hp.bud _
 have HP1:=hide' hP1
 have hs1:(w.alloc (spotC st.pl st.en (adr ho))).heap.size=w.heap.size+1:=by simp
 unfold spotC at HP1 HQ1 HR1 hs1
 clear hp hc hpt ih hk2 hrep0 hrep1 hP1
 unfold spotV
 generalize hoa':adr ho=hoa at *
 have HOA:=hide' hoa'
 clear hoa'
 go_enter Tryz.func131,Tryz.ntmps131
 go_wp2_with fail
 generalize w.alloc (.cells #[.int .i64 st.pl,.int .i64 st.en,.pointer hoa] 159)=W1 at *
 refine (mark_calls c.gb c.rb c.tb c.bs W1 s HP1.out.tr).mono ?_
 rintro e w2 ⟨rfl,ht2,hf2,hs2⟩
 have HB2:=hide' (hf2.blk HB1.out (by omega) (by omega) (by simp) (by simp))
 have HQ2:=hide' (show PtBlk w2 pb p from hf2.blk HQ1.out (by omega) (by omega) (by simp) (by simp))
 have hR2:Core c W1 s none s.fuel s.far w2 s:=Core.refl ht2 hf2 HP.out.bud none
 have HP2:Hid (TPre c w2 s st ho):=TPre.next HC.out HP1.out hR2 (Or.inl rfl) HP.out.rd HP.out.nd HP.out.inv (fun _ _ _=>rfl) (fun _ e=>by cases e)
 have HR2:=hide' (HR1.out.trans hR2 (Or.inl rfl))
 have HM2:=hide' (Blk.new w2 #[.int .i64 s.spans.length,.int .i64 s.nodes] 272)
 clear ht2 hf2 hR2 HP1 HB1 HQ1 HR1
 have p8:∀ o,(w2.alloc o).cell? ⟨pb,8,none⟩=some (.slice (some ⟨g,0,none⟩) 2 cap):=fun o=>by rw[← hpv];exact (Blk.alloc HQ2.out o).cell 8
 have HST:Hid (AtC c (tryT c.G c.bs c.N gg) k0 k1 w s st ho hoa (choiceT (tryT c.G c.bs c.N gg) c.N k0 k1 s.fuel s.far st) pb w2.heap.size p 0 (w2.alloc (.cells #[.int .i64 s.spans.length,.int .i64 s.nodes] 272)) s):=by
  refine ⟨HP2.out.alloc HC.out _,HR2.out.belowAll ((Below.refl _ _).alloc (Nat.le_refl _) _),⟨rfl,rfl⟩,Nat.le_refl _,Blk.alloc HB2.out _,HM2.out,⟨fun _=>rfl,fun h=>by omega,fun h=>by omega⟩,fun g e=>?_,by simp⟩
  have:=HP.out.tr.svlt g e
  omega
 simp only
 go_wp2_with fail
 generalize hW:w2.alloc (.cells #[.int .i64 s.spans.length,.int .i64 s.nodes] 272)=W3 at *
 clear hW p8 HM2
 generalize hmb:w2.heap.size=mb at *
 have hmb2:mb=w.heap.size+2:=by omega
 clear hmb
 go_loopw [23,10,11,12,13,14,15] (fun v23 _ _ _ _ _ _ wr=>∃ (j:Nat) (sj:Ts),v23=.int .i64 j∧j≤2∧Hid (AtC c (tryT c.G c.bs c.N gg) k0 k1 w s st ho hoa (choiceT (tryT c.G c.bs c.N gg) c.N k0 k1 s.fuel s.far st) pb mb p j wr sj)) (fun v23 _ _ _ _ _ _ _=>2-(intOf v23).toNat)
 case atStart=>exact ⟨0,s,rfl,by omega,HST⟩
 case round=>
  clear HST
  obtain ⟨j,sj,rfl,hj,hat⟩:=hrel
  obtain ⟨b1,b2,b3,b4,b5,b6,b7,b8,b9⟩:=hat.out
  by_cases hj2:j<2
  · have hj2':(j:Int)<2:=by omega
    have HX:Hid (∃ qj kj,wr.cell? ⟨g,j,none⟩=some (.pointer (some ⟨qj,0,none⟩))∧RepS f2 c.w0 lo2 hi2 qj false kj∧TrW c.R false false kj∧kj=if j=0 then k0 else k1):=by
     have h01:j=0∨j=1:=by omega
     rcases h01 with rfl | rfl
     · exact ⟨q0,k0,by rw[b1.bel.cell (p:=⟨g,0,none⟩) hgl];exact hg0,HRep0.out,HWf0.out,rfl⟩
     · exact ⟨q1,k1,by rw[b1.bel.cell (p:=⟨g,1,none⟩) hgl];exact hg1,HRep1.out,HWf1.out,rfl⟩
    obtain ⟨qj,kj,hcj,hrepj,hwfj,hkj⟩:=HX.out
    have hnh:=hwfj.notHid rfl
    have a0:wr.cell? ⟨w.heap.size,0,none⟩=some (.int .i64 st.pl):=b5.cell 0
    have a1:wr.cell? ⟨w.heap.size,1,none⟩=some (.int .i64 st.en):=b5.cell 1
    have a2:wr.cell? ⟨w.heap.size,2,none⟩=some (.pointer hoa):=b5.cell 2
    have hcall:=HI.out wr sj st ho kj false false false false f2 lo2 hi2 qj b1 hrepj hhi2 hwfj (fun h=>by rcases h with h | h<;>cases h) rfl (by omega)
    rw[hidV_hidK hnh,silK_false hnh,HOA.out] at hcall
    unfold spotV at hcall
    have HCall:=hide' hcall
    have HOk:Hid ((tryT c.G c.bs c.N gg sj.fuel sj.far false kj st).ok=true→Keeps c.bs c.N st false (tryT c.G c.bs c.N gg sj.fuel sj.far false kj st)∧(tryT c.G c.bs c.N gg sj.fuel sj.far false kj st).e=0):=fun hok=>by have:=(tryT_ok c.G HC.out.wf gg).fit sj.fuel sj.far false false false kj _ hwfj b1.inv hok;rw[hnh] at this;exact this
    have hless:=(tryT_ok (R:=c.R) (bs:=c.bs) (N:=c.N) c.G HC.out.wf gg).less sj.fuel sj.far false kj st
    have HAt:=hat
    have HKj:=hide' hkj
    have hnb:some w.heap.size≠sj.sv.ownBlock:=fun e=>(b8 _ e.symm).1 rfl
    have hnm:some mb≠sj.sv.ownBlock:=fun e=>(b8 _ e.symm).2 rfl
    clear hat b1 b2 b3 b4 b5 b6 b7 hrepj hwfj HX hkj hcall
    go_wp2_with fail
    have hcall:=HCall.out
    clear HCall
    generalize ho':tryT c.G c.bs c.N gg sj.fuel sj.far false kj st=o at *
    have HOo:=hide' ho'
    clear ho'
    refine hcall.mono fun e3 w3 hpo=>?_
    have hk:=hpo.keeps
    have HB4:=hide' (hk.blk HAt.out.box (by omega) (by omega) hnb (by simp))
    have HM4:=hide' (hk.blk HAt.out.mark (by omega) (by omega) hnm (by simp))
    have hs4:=hk.size
    have hpo2:=TPost.ahead HAt.out.core hpo
    rcases hpo with ⟨d1,d2,d3⟩ | ⟨d1,d2,s',v,d3,d4,d5,d6,d7,d8⟩ | ⟨d1,d2,s',v,k,d3,d4⟩
    · subst d2
      have HH:Hid (TPost c w s .none false (choiceT (tryT c.G c.bs c.N gg) c.N k0 k1 s.fuel s.far st) (.panicked (outV o.e)) w3):=by
       have hno:o.ok=false:=by
        cases hok:o.ok with
        | false=>rfl
        | true=>exact absurd (HOk.out hok).2 d1
       have:=HAt.out.rem.dead hj2 HKj.out (by rw[HOo.out];exact d1) (by rw[HOo.out];exact hno)
       rw[HOo.out] at this
       have h2:TPost c w s .none false (choiceT (tryT c.G c.bs c.N gg) c.N k0 k1 s.fuel s.far st) (.panicked (outV o.e)) w3:=by rw[this];exact hpo2
       exact h2
      clear d1 d3 hpo2 hk hcall
      simp only
      exact ⟨rfl,HH.out⟩
    · subst d3
      have hE:=HAt.out.rem.fit hj2 HKj.out (by rw[HOo.out];exact d2)
      rw[HOo.out] at hE
      have HE:=hide' hE
      have HKp:=hide' (HOk.out d2).1
      obtain ⟨vb,fv,hvv,hrv⟩:∃ vb fv,v=.pointer (some ⟨vb,0,none⟩)∧RepV fv w3 wr.heap.size w3.heap.size s'.sv.ownBlock vb o.t:=by
       rcases d7 with ⟨i1,_⟩ | ⟨_,fv,vb,i2,i3⟩
       · cases i1
       · exact ⟨vb,fv,i2,i3⟩
      subst hvv
      have HRV:=hide' hrv
      have HC4:=hide' (HAt.out.core.trans d4 (Or.inl rfl))
      have HD5:=hide' d5
      have HD6:=hide' d6
      have hsz:HAt.out.core.fr.size=HAt.out.core.fr.size:=rfl
      have hwsz:=HAt.out.core.fr.size
      clear d1 d2 d4 d5 d6 d7 d8 hpo2 hk hcall hE hrv hsz
      generalize hopl:o.st.pl=opl at *
      have HOPL:=hide' hopl
      clear hopl
      simp only
      go_wp2_with fail
      have hbl:Below w3.heap.size w3 ((w3.alloc (.cells #[.pointer (some ⟨vb,0,none⟩)] 55)).alloc (.cells #[.int .i64 5,.int .u32 j,.string ByteArray.empty,.slice (some ⟨w3.heap.size,0,none⟩) 1 1] 177)):=((Below.refl _ _).alloc (Nat.le_refl _) _).alloc (by simp) _
      have HC5:=hide' (HC4.out.belowAll hbl)
      have HG5:Hid (Blk ((w3.alloc (.cells #[.pointer (some ⟨vb,0,none⟩)] 55)).alloc (.cells #[.int .i64 5,.int .u32 j,.string ByteArray.empty,.slice (some ⟨w3.heap.size,0,none⟩) 1 1] 177)) w3.heap.size #[.pointer (some ⟨vb,0,none⟩)] 55):=Blk.alloc (Blk.new _ _ _) _
      have hRV5:=HRV.out.mono (w':=(w3.alloc (.cells #[.pointer (some ⟨vb,0,none⟩)] 55)).alloc (.cells #[.int .i64 5,.int .u32 j,.string ByteArray.empty,.slice (some ⟨w3.heap.size,0,none⟩) 1 1] 177)) (sb':=s'.sv.ownBlock) (lo':=w.heap.size) (hi':=w3.heap.size) (fun k _ hk h=>⟨hbl.block k hk,h⟩) (by omega) (Nat.le_refl _)
      have HRV5:=hide' hRV5
      have hs5:((w3.alloc (.cells #[.pointer (some ⟨vb,0,none⟩)] 55)).alloc (.cells #[.int .i64 5,.int .u32 j,.string ByteArray.empty,.slice (some ⟨w3.heap.size,0,none⟩) 1 1] 177)).heap.size=w3.heap.size+2:=by simp
      change Calls Tryz.prog 186 #[.pointer (some ⟨c.tb,0,none⟩),.agg #[.int .i64 5,.int .u32 j,.string ByteArray.empty,.slice (some ⟨w3.heap.size,0,none⟩) 1 1]] ((w3.alloc (.cells #[.pointer (some ⟨vb,0,none⟩)] 55)).alloc (.cells #[.int .i64 5,.int .u32 j,.string ByteArray.empty,.slice (some ⟨w3.heap.size,0,none⟩) 1 1] 177)) _
      generalize (w3.alloc (.cells #[.pointer (some ⟨vb,0,none⟩)] 55)).alloc (.cells #[.int .i64 5,.int .u32 j,.string ByteArray.empty,.slice (some ⟨w3.heap.size,0,none⟩) 1 1] 177)=W5 at *
      clear hRV5 hbl HRV
      have hnd:=HD6.out
      have hval:=HKp.out.inv.vals
      cases hm:s'.nodes with
      | zero=>
       refine (made_none c.gb c.rb c.tb c.bs W5 s' HC5.out.tr 5 j ByteArray.empty (.slice (some ⟨w3.heap.size,0,none⟩) 1 1) hm rfl).mono ?_
       rintro e w6 ⟨rfl,rfl⟩
       simp only
       refine ⟨rfl,?_⟩
       rw[HE.out]
       exact TPost.dead HC5.out _ (by omega)
      | succ m=>
       refine (made_some c.gb c.rb c.tb c.bs W5 s' HC5.out.tr 5 j ByteArray.empty (.slice (some ⟨w3.heap.size,0,none⟩) 1 1) m hm (by have:=HC.out.N;omega) rfl).mono ?_
       rintro e w6 ⟨rfl,ht6,hf6,hb6,hs6⟩
       have HC6:=hide' (HC5.out.made ht6 hf6)
       have HV6:=hide' hb6
       have hW5l:=HG5.out.lt
       have hnT:∀ k,w.heap.size≤k→k≠c.tb∧k≠c.rb:=fun k hk=>⟨by omega,by omega⟩
       have HG6:=hide' (hf6.blk HG5.out (by omega) (by omega) (by simp) (by simp))
       have hRV6:=HRV5.out.mono (w':=w6) (sb':=s'.sv.ownBlock) (lo':=w.heap.size) (hi':=w6.heap.size) (fun k k1 k2 h=>⟨hf6.block k (by omega) (hnT k k1).1 (hnT k k1).2 (by simp) (by simp),h⟩) (Nat.le_refl _) (by omega)
       have HRV6:=hide' hRV6
       clear ht6 hf6 hb6 hRV6
       simp only
       go_wp2_with fail
       go_ret3
       rw[HE.out]
       have hne:¬ o.st.vals=c.N:=by omega
       unfold madeO
       rw[if_neg hne]
       refine Or.inr (Or.inl ⟨rfl,rfl,_,_,?_,HC6.out,HD5.out,?_,Or.inr ⟨rfl,fv+1,W5.heap.size,rfl,?_⟩,fun h e=>by cases e⟩)
       · simp only[fitO,HOPL.out];rfl
       · simp only[fitO];omega
       · have hsvl:∀ g,s'.sv.ownBlock=some g→g<w3.heap.size:=fun g e=>(HC4.out.tr.svlt g e).2
         refine ⟨5,j,ByteArray.empty,_,[(vb,o.t)],HV6.out,by omega,by omega,fun e=>by have:=hsvl _ e.symm;omega,Or.inr ⟨w3.heap.size,1,rfl,by omega,by omega,fun e=>by have:=hsvl _ e.symm;omega,fun i hi=>?_⟩,fun q hq=>?_,?_,⟨by omega,by omega⟩,⟨by omega,by omega⟩,fun _=>⟨by omega,rfl⟩,by simp⟩
         · simp at hi
           subst hi
           exact HG6.out.cell 0
         · simp at hq
           subst hq
           exact HRV6.out
         · simp[fitO,textV]
    · subst d3
      have HC4:=hide' (HAt.out.core.trans d4 (Or.inl rfl))
      obtain ⟨hsp1,hsp2⟩:=Core.spans HP.out HC4.out
      have hbud:=d4.bud
      have HNx:=fun (s4:Ts) (h1:s4.fuel=o.fuel) (h2:s4.far=o.far)=>HAt.out.rem.fail (s4:=s4) hj2 HKj.out (by rw[HOo.out];exact d1) (by rw[HOo.out];exact d2) (by rw[HOo.out];exact h1) (by rw[HOo.out];exact h2)
      have HNX:=hide' HNx
      have HD4f:=hide' d4.fuel
      have HD4r:=hide' d4.far
      have HD4s:=hide' d4.sv
      clear d1 d2 d4 hpo2 hk hcall HNx
      have m0:w3.cell? ⟨w.heap.size+1+1,0,none⟩=some (.int .i64 s.spans.length):=by rw[show w.heap.size+1+1=mb by omega];exact HM4.out.cell 0
      have m1:w3.cell? ⟨w.heap.size+1+1,1,none⟩=some (.int .i64 s.nodes):=by rw[show w.heap.size+1+1=mb by omega];exact HM4.out.cell 1
      simp only
      go_wp2_with fail
      refine (undo_calls c.gb c.rb c.tb c.bs hbs w3 s' HC4.out.tr s.spans.length s.nodes hsp2 hsp1 (by omega)).mono ?_
      rintro e w6 ⟨rfl,sv6,ht6,hf6,hv6⟩
      have hC6:=HC4.out.undo ht6 hf6 hv6
      have HB6:=hide' (hf6.blk HB4.out (by omega) (by omega) (by simp) (by simp))
      have HM6:=hide' (hf6.blk HM4.out (by omega) (by omega) (by simp) (by simp))
      have hs6:=hf6.size
      have HN:Hid (AtC c (tryT c.G c.bs c.N gg) k0 k1 w s st ho hoa (choiceT (tryT c.G c.bs c.N gg) c.N k0 k1 s.fuel s.far st) pb mb p (j+1) w6 { s' with read:=s.read,spans:=s.spans,nodes:=s.nodes,sv:=sv6 }):=by
       refine ⟨TPre.next HC.out HP.out hC6 (Or.inl rfl) HP.out.rd HP.out.nd HP.out.inv (fun _ _ _=>rfl) (fun _ e=>by cases e),?_,⟨rfl,rfl⟩,?_,HB6.out,HM6.out,HNX.out _ HD4f.out HD4r.out,fun g e=>?_,by omega⟩
       · have h1:=HD4f.out
         have h2:=HD4r.out
         exact ⟨hC6.tr,rfl,rfl,hC6.sp,hC6.bud,hC6.fr,hC6.sv⟩
       · have:=HAt.out.le;have h1:=HD4f.out;simp only;omega
       · simp only at e
         rw[hv6] at e
         rcases HD4s.out with h | ⟨g',h,l⟩
         · rw[h] at e;exact HAt.out.nb g e
         · rw[h] at e;cases e;have:=HAt.out.sz;exact ⟨by omega,by omega⟩
      clear ht6 hf6 hv6 hC6
      simp only
      go_wp2_with fail
      go_roundw
      case rel=>exact ⟨j+1,_,by go_num,by omega,HN⟩
      case measure=>simp[intOf];omega
  · have hj':¬ (j:Int)<2:=by omega
    have hj3:j=2:=by omega
    obtain ⟨e1,e2,e3,e4⟩:=b7.2.2 hj3
    have HH:Hid (TPost c w s .none false (choiceT (tryT c.G c.bs c.N gg) c.N k0 k1 s.fuel s.far st) (.returned (.tuple #[.pointer none,.int .i64 0,.bool false])) wr):=by
     have h2:TPost c w s .none false (choiceT (tryT c.G c.bs c.N gg) c.N k0 k1 s.fuel s.far st) (.returned (.tuple #[.pointer none,.int .i64 0,.bool false])) wr:=Or.inr (Or.inr ⟨e1,e2,sj,_,0,rfl,by rw[e3,e4];exact b2⟩)
     exact h2
    clear hat b1 b2 b3 b4 b5 b6 b7 b8 e1 e2 e3 e4
    go_wp2_with fail
    go_ret3
    exact HH.out
end Go.Proofs.YtmlkhhhjdpbhfaaGreatDoor

import Derived.Test.YtmlkhhhjdpbhfaaGreatDoorFo16
namespace Go.Proofs.YtmlkhhhjdpbhfaaGreatDoor
open Go.RowKit
theorem RepS.segOk {f:Nat}{w:World}{lo hi pb:Nat}{sl:Bool}{k:List It}(h:RepS f w lo hi pb sl k):SegOk k:=by
 cases f with
 | zero=>exact h.elim
 | succ f=>
  obtain ⟨x,kids,p,e1,e2,_⟩:=h
  exact ⟨x,_,e1,e2⟩
theorem RepS.open {f:Nat}{w:World}{lo hi pb:Nat}{sl:Bool}{x:It}{r:List It}(h:RepS f w lo hi pb sl (x::r)):
 ∃ (f':Nat) (kids:List (Nat × List It)) (p:Pt),PtBlk w pb p∧ItPt x p∧p.sl=(sl&&silB x.c)∧PtrsAt w (pb+1) hi p.v (kids.map Prod.fst)∧(∀ q,q∈kids→RepS f' w (pb+1) hi q.1 (decide (x.c=40)) q.2)∧kids.map Prod.snd=segs r.length r∧lo≤pb∧pb<hi:=by
 cases f with
 | zero=>exact h.elim
 | succ f=>
  obtain ⟨x',kids,p,e1,e2,a,b,c,d,s,e,k⟩:=h
  cases e1
  refine ⟨f,kids,p,c,d,s,e,k,?_,a,b⟩
  have h1:kids.flatMap Prod.snd=(kids.map Prod.snd).flatten:=by rw[List.flatMap_def]
  rw[h1]
  exact (segs_flat (kids.map Prod.snd) (fun s hs=>by obtain ⟨q,hq,rfl⟩:=List.mem_map.1 hs;exact (k q hq).segOk) _ (Nat.le_refl _)).symm
structure OneKid (c:Cx) (w:World) (p:Pt) (r:List It):Prop where
 ex:∃ g cap qb f lo hi,p.v=.slice (some ⟨g,0,none⟩) 1 cap∧g<c.w0.heap.size∧c.w0.cell? ⟨g,0,none⟩=some (.pointer (some ⟨qb,0,none⟩))∧RepS f c.w0 lo hi qb false r∧hi≤c.w0.heap.size
set_option maxRecDepth 100000 in
set_option maxHeartbeats 8000000 in
theorem window_calls (c:Cx)(hc:CxOk c)(gg:Nat)(ih:TryC c gg)(w:World)(s:Ts)(st:PS)(h:Nat)(pb:Nat)(p:Pt)(x:It)(r:List It)(ctx:Bool)(hp:TPre c w s st (some h))(hpt:PtBlk w pb p)(hi:ItPt x p)(hx:ItR x)(hxc:x.c=119)(hk1:OneKid c w p r)(hwf:TrW c.R false ctx r)(hpb:pb<c.rb)(hf:s.fuel≤gg):
 Calls Tryz.prog 150 #[.pointer (some ⟨c.tb,0,none⟩),.pointer (some ⟨pb,0,none⟩),spotV st.pl st.en (adr (some h))] w fun e w'=>TPost c w s none false (windowT (tryT c.G c.bs c.N gg) (st.deps x.d.toNat).1 r s.fuel s.far st) e w':=by
 have hd:=hx.it.d (by rw[hxc];rfl)
 obtain ⟨d,hdd⟩:∃ d:Nat,x.d=(d:Int):=⟨x.d.toNat,by omega⟩
 rw[hdd]
 simp only[Int.toNat_natCast]
 have hd8:d<8:=by omega
 have hd8':(d:Int)<8:=by omega
 have hdp:p.dp=(d:Int):=by rw[(hi.dp (by rw[hxc];rfl)).1,hdd]
 have hdv:=(hp.inv.deps d).1
 generalize hdv':(st.deps d).1=dv at *
 have HDV:=hide' hdv'
 clear hdv'
 obtain ⟨g,cap,qb,f2,lo2,hi2,hpv,hgl,hg0,hrep,hhi2⟩:=hk1.ex
 have hlt:=hp.tr.blk.lt
 have hlt2:=hc.lt
 have hle:=hc.le
 have hbs:=hc.bs
 have hpl:=hp.inv.pl
 have hen:=hp.inv.en
 have hptl:=hpt.lt
 have hnh:=hwf.notHid rfl
 have HP:=hide' hp
 have HC:=hide' hc
 have HI:=hide' ih
 have HWf:=hide' hwf
 have HRep:=hide' hrep
 have HP1:=hide' (hp.alloc hc (spotC st.pl st.en (adr (some h))))
 have HB1:=hide' (Blk.new w #[.int .i64 st.pl,.int .i64 st.en,.pointer (adr (some h))] 159)
 have HQ1:=hide' (show PtBlk (w.alloc (spotC st.pl st.en (adr (some h)))) pb p from Blk.alloc hpt _)
 have HR1:Hid (Core c w s .none s.fuel s.far (w.alloc (spotC st.pl st.en (adr (some h)))) s):=Core.refl (hp.tr.alloc _) ((TF.refl c.tb c.rb .none .none w).alloc _) hp.bud _
 have hs1:(w.alloc (spotC st.pl st.en (adr (some h)))).heap.size=w.heap.size+1:=by simp
 obtain ⟨hh1,hh2,hh3⟩:=hp.hid h rfl
 have hhl:=Blk.lt hh1
 have HH1:=hide' (show HdAt (w.alloc (spotC st.pl st.en (adr (some h)))) h st.deps from Blk.alloc hh1 _)
 unfold spotC at HP1 HQ1 HR1 hs1 HH1
 clear hp hc hpt ih hh1 hk1 hrep
 unfold spotV
 simp only[adr,Option.map_some] at HP1 HB1 HQ1 HR1 hs1 HH1 ⊢
 go_enter Tryz.func150,Tryz.ntmps150
 go_wp2_with fail
 generalize w.alloc (.cells #[.int .i64 st.pl,.int .i64 st.en,.pointer (some ⟨h,0,none⟩)] 159)=W1 at *
 have a2:W1.cell? ⟨w.heap.size,2,none⟩=some (.pointer (some ⟨h,0,none⟩)):=HB1.out.cell 2
 have p3:W1.cell? ⟨pb,3,none⟩=some (.int .i64 d):=by rw[← hdp];exact HQ1.out.cell 3
 have h0:W1.cell? ⟨h,d*2,none⟩=some (.int .u32 dv):=by rw[← HDV.out];exact (HH1.out.cell d hd8).1
 go_quiet (fail)
 have HP2:=hide' (HP1.out.drewN nq)
 have HB2:Hid (Blk (W1.drewN nq) w.heap.size #[.int .i64 st.pl,.int .i64 st.en,.pointer (some ⟨h,0,none⟩)] 159):=HB1.out
 have HQ2:Hid (PtBlk (W1.drewN nq) pb p):=HQ1.out
 have HR2:=hide' (HR1.out.drewN nq)
 have hs2:(W1.drewN nq).heap.size=w.heap.size+1:=hs1
 generalize W1.drewN nq=W2 at *
 clear a2 p3 h0 HP1 HB1 HQ1 HR1 HH1 hs1
 have a0:W2.cell? ⟨w.heap.size,0,none⟩=some (.int .i64 st.pl):=HB2.out.cell 0
 have a1:W2.cell? ⟨w.heap.size,1,none⟩=some (.int .i64 st.en):=HB2.out.cell 1
 have a2:W2.cell? ⟨w.heap.size,2,none⟩=some (.pointer (some ⟨h,0,none⟩)):=HB2.out.cell 2
 have f1:W2.frozen? ⟨w.heap.size,1,none⟩=false:=HB2.out.frozen 1
 by_cases hbig:st.en-st.pl<dv
 · have hbig':((st.en:Int)-(st.pl:Int))<(dv:Int):=by omega
   have HO:Hid (windowT (tryT c.G c.bs c.N gg) dv r s.fuel s.far st=failO s.fuel s.far st.pl st):=by
    have:windowT (tryT c.G c.bs c.N gg) dv r s.fuel s.far st=failO s.fuel s.far st.pl st:=by unfold windowT;rw[if_pos hbig]
    exact this
   go_wp2_with fail
   refine (fail_calls c.gb c.rb c.tb c.bs W2 s HP2.out.tr st.pl).mono ?_
   rintro e w5 ⟨rfl,hw5⟩
   have HW5:=hide' hw5
   clear hw5
   simp only
   go_wp2_with fail
   go_ret3
   rw[HO.out]
   exact TPost.fail st.pl st HR2.out HW5.out _ _
 · have hbig':¬ ((st.en:Int)-(st.pl:Int))<(dv:Int):=by omega
   have hO1:windowT (tryT c.G c.bs c.N gg) dv r s.fuel s.far st=windowE dv st (tryT c.G c.bs c.N gg s.fuel s.far false r { st with en:=st.pl+dv }):=by unfold windowT;rw[if_neg hbig]
   have HO1:=hide' hO1
   clear hO1
   have hdv4:dv≤4000:=by omega
   go_wp2_with fail
   have HB3:Hid (Blk (W2.setCell ⟨w.heap.size,1,none⟩ (.int .i64 ((st.pl:Int)+(dv:Int)))) w.heap.size #[.int .i64 st.pl,.int .i64 ((st.pl:Int)+(dv:Int)),.pointer (some ⟨h,0,none⟩)] 159):=HB2.out.set 1 _
   have HQ3:Hid (PtBlk (W2.setCell ⟨w.heap.size,1,none⟩ (.int .i64 ((st.pl:Int)+(dv:Int)))) pb p):=Blk.setOther HQ2.out _ (by simp only;omega) _
   have hnb:some w.heap.size≠s.sv.ownBlock:=fun e=>by have:=HP.out.tr.svlt _ e.symm;omega
   have hnp:some pb≠s.sv.ownBlock:=fun e=>by have:=HP.out.tr.svlt _ e.symm;omega
   have HR3:Hid (Core c w s .none s.fuel s.far (W2.setCell ⟨w.heap.size,1,none⟩ (.int .i64 ((st.pl:Int)+(dv:Int)))) s):=⟨HR2.out.tr.setOther _ _ (by simp only;omega) (by simp only;omega) (by simpa using hnb),rfl,rfl,⟨[],by simp,rfl⟩,HP.out.bud,HR2.out.fr.setCell _ _ (Or.inr (Or.inr (Or.inr (Or.inr (Nat.le_refl _))))),Or.inl rfl⟩
   have hs3:(W2.setCell ⟨w.heap.size,1,none⟩ (.int .i64 ((st.pl:Int)+(dv:Int)))).heap.size=w.heap.size+1:=by simp[World.setCell];omega
   generalize W2.setCell ⟨w.heap.size,1,none⟩ (.int .i64 ((st.pl:Int)+(dv:Int)))=W3 at *
   have HP3:Hid (TPre c W3 s { st with en:=st.pl+dv } (some h)):=TPre.next HC.out HP.out HR3.out (Or.inl rfl) HP.out.rd HP.out.nd ⟨by simp,by simp only;omega,HP.out.inv.rd,HP.out.inv.vals,HP.out.inv.deps⟩ (fun _ _ _=>rfl) (fun _ e=>by cases e)
   clear a0 a1 a2 f1 HP2 HB2 HQ2 HR2
   have a0:W3.cell? ⟨w.heap.size,0,none⟩=some (.int .i64 st.pl):=HB3.out.cell 0
   have a1:W3.cell? ⟨w.heap.size,1,none⟩=some (.int .i64 ((st.pl:Int)+(dv:Int))):=HB3.out.cell 1
   have a2:W3.cell? ⟨w.heap.size,2,none⟩=some (.pointer (some ⟨h,0,none⟩)):=HB3.out.cell 2
   have p8:W3.cell? ⟨pb,8,none⟩=some (.slice (some ⟨g,0,none⟩) 1 cap):=by rw[← hpv];exact HQ3.out.cell 8
   have k0:W3.cell? ⟨g,0,none⟩=some (.pointer (some ⟨qb,0,none⟩)):=by rw[HP3.out.bel.cell (p:=⟨g,0,none⟩) hgl];exact hg0
   refine wp_region_mid 8 _ rfl rfl (by kernel_rfl) (by kernel_rfl) ?_
   simp only[List.take_succ_cons,List.take_zero,List.drop_succ_cons,List.drop_zero]
   repeat still_step
   refine wpStill_nil ?_
   unfold Oper.wp
   go_simp
   have hcall:=HI.out (W3.drewN 1) s { st with en:=st.pl+dv } (some h) r false ctx false false f2 lo2 hi2 qb (HP3.out.drewN 1) HRep.out hhi2 HWf.out (fun _=>rfl) rfl hf
   rw[hidV_hidK hnh,silK_false hnh] at hcall
   unfold spotV at hcall
   simp only[adr,Option.map_some,Int.natCast_add] at hcall
   have HOk:Hid ((tryT c.G c.bs c.N gg s.fuel s.far false r { st with en:=st.pl+dv }).ok=true→(tryT c.G c.bs c.N gg s.fuel s.far false r { st with en:=st.pl+dv }).e=0):=fun hok=>((tryT_ok c.G HC.out.wf gg).fit s.fuel s.far false false ctx r _ HWf.out HP3.out.inv hok).2
   generalize tryT c.G c.bs c.N gg s.fuel s.far false r { st with en:=st.pl+dv }=o at *
   refine hcall.mono fun e3 w3 hpo=>?_
   have hk:=hpo.keeps
   have HB4:=hide' (hk.blk (show Blk (W3.drewN 1) w.heap.size _ _ from HB3.out) (by omega) (by omega) hnb (by simp))
   have hpo2:=TPost.ahead (HR3.out.drewN 1) hpo
   clear a0 a1 a2 p8 k0 hcall hpo hk
   have b1:w3.cell? ⟨w.heap.size,1,none⟩=some (.int .i64 ((st.pl:Int)+(dv:Int))):=HB4.out.cell 1
   rcases hpo2 with ⟨a1,a2,a3⟩ | ⟨a1,a2,s',v,a3,a4,a5,a6,a7,a8⟩ | ⟨a1,a2,s',v,k,a3,a4⟩
   · subst a2
     have HH:Hid (TPost c w s .none false (windowE dv st o) (.panicked (outV o.e)) w3):=by
      have hno:o.ok=false:=by
       cases hok:o.ok with
       | false=>rfl
       | true=>exact absurd (HOk.out hok) a1
      have:windowE dv st o=o:=by unfold windowE;rw[hno];simp
      have h2:TPost c w s .none false (windowE dv st o) (.panicked (outV o.e)) w3:=by rw[this];exact Or.inl ⟨a1,rfl,a3⟩
      exact h2
     clear a1 a3
     simp only
     refine ⟨rfl,?_⟩
     rw[HO1.out]
     exact HH.out
   · subst a3
     by_cases hpe:o.st.pl=st.pl+dv
     · have hpe':((o.st.pl:Int) != (st.pl:Int)+(dv:Int))=false:=by simp;omega
       have HH:Hid (TPost c w s .none false (windowE dv st o) (.returned (.tuple #[v,.int .i64 o.st.pl,.bool true])) w3):=by
        have:windowE dv st o=fitO o.fuel o.far { o.st with en:=st.en } o.t:=by unfold windowE;rw[if_pos a2,if_neg (by simpa using hpe)]
        have h2:TPost c w s .none false (windowE dv st o) (.returned (.tuple #[v,.int .i64 o.st.pl,.bool true])) w3:=by
         rw[this];exact Or.inr (Or.inl ⟨rfl,rfl,s',v,rfl,a4,a5,a6,a7,fun _ e=>by cases e⟩)
        exact h2
       clear a1 a2 a4 a5 a6 a7 a8 hpe
       generalize o.st.pl=opl at *
       simp only
       repeat still_step
       refine wpStill_nil ?_
       go_wp2_with fail
       go_ret3
       rw[HO1.out]
       exact HH.out
     · have hpe':((o.st.pl:Int) != (st.pl:Int)+(dv:Int))=true:=by simp;omega
       have hE:windowE dv st o=failO o.fuel o.far o.st.pl st:=by unfold windowE;rw[if_pos a2,if_pos hpe]
       have HE:=hide' hE
       have HA4:=hide' a4
       clear a1 a2 a4 a5 a6 a7 a8 hpe hE
       generalize hopl:o.st.pl=opl at *
       have HOPL:=hide' hopl
       clear hopl
       simp only
       repeat still_step
       refine wpStill_nil ?_
       go_wp2_with fail
       refine (fail_calls c.gb c.rb c.tb c.bs w3 s' HA4.out.tr opl).mono ?_
       rintro e w5 ⟨rfl,hw5⟩
       have HW5:=hide' hw5
       clear hw5
       simp only
       go_wp2_with fail
       go_ret3
       rw[HO1.out,HE.out]
       exact TPost.fail opl st HA4.out HW5.out _ _
   · subst a3
     have HH:Hid (TPost c w s .none false (windowE dv st o) (.returned (.tuple #[v,.int .i64 k,.bool false])) w3):=by
      have:windowE dv st o=o:=by unfold windowE;rw[a2];simp
      have h2:TPost c w s .none false (windowE dv st o) (.returned (.tuple #[v,.int .i64 k,.bool false])) w3:=by rw[this];exact Or.inr (Or.inr ⟨a1,a2,s',v,k,rfl,a4⟩)
      exact h2
     clear a1 a2 a4
     simp only
     repeat still_step
     refine wpStill_nil ?_
     go_wp2_with fail
     go_ret3
     rw[HO1.out]
     exact HH.out
theorem RepV.drewN {f:Nat}{w:World}{lo hi vb:Nat}{sb:Option Nat}{t:List UInt8}(h:RepV f w lo hi sb vb t)(n:Nat):RepV f (w.drewN n) lo hi sb vb t:=h.mono (fun _ _ _ h=>⟨rfl,h⟩) (Nat.le_refl _) (Nat.le_refl _)
theorem TPost.drewN {c:Cx}{w w':World}{s:Ts}{hb:Option Nat}{sil:Bool}{o:PO}{e:Ending}(h:TPost c w s hb sil o e w')(n:Nat):TPost c w s hb sil o e (w'.drewN n):=by
 rcases h with ⟨a,b,d⟩ | ⟨a,b,s',v,d,e,f,g,i,j⟩ | ⟨a,b,s',v,k,d,e⟩
 · exact Or.inl ⟨a,b,d.drewN n⟩
 · refine Or.inr (Or.inl ⟨a,b,s',v,d,e.drewN n,f,g,?_,fun h e=>j h e⟩)
   rcases i with ⟨i1,i2⟩ | ⟨i1,fu,vb,i2,i3⟩
   · exact Or.inl ⟨i1,i2⟩
   · exact Or.inr ⟨i1,fu,vb,i2,i3.drewN n⟩
 · exact Or.inr (Or.inr ⟨a,b,s',v,k,d,e.drewN n⟩)
set_option maxRecDepth 100000 in
set_option maxHeartbeats 8000000 in
theorem at_calls (c:Cx)(hc:CxOk c)(gg:Nat)(ih:TryC c gg)(w:World)(s:Ts)(st:PS)(h:Nat)(pb:Nat)(p:Pt)(x:It)(r:List It)(ctx:Bool)(hp:TPre c w s st (some h))(hpt:PtBlk w pb p)(hi:ItPt x p)(hx:ItR x)(hxc:x.c=64)(hk1:OneKid c w p r)(hwf:TrW c.R false ctx r)(hpb:pb<c.rb)(hf:s.fuel≤gg):
 Calls Tryz.prog 153 #[.pointer (some ⟨c.tb,0,none⟩),.pointer (some ⟨pb,0,none⟩),spotV st.pl st.en (adr (some h))] w fun e w'=>TPost c w s none false (atT (tryT c.G c.bs c.N gg) c.bs (st.deps x.d.toNat).1 r s.fuel s.far st) e w':=by
 have hd:=hx.it.d (by rw[hxc];rfl)
 obtain ⟨d,hdd⟩:∃ d:Nat,x.d=(d:Int):=⟨x.d.toNat,by omega⟩
 rw[hdd]
 simp only[Int.toNat_natCast]
 have hd8:d<8:=by omega
 have hd8':(d:Int)<8:=by omega
 have hdp:p.dp=(d:Int):=by rw[(hi.dp (by rw[hxc];rfl)).1,hdd]
 have hdv:=(hp.inv.deps d).1
 generalize hdv':(st.deps d).1=dv at *
 have HDV:=hide' hdv'
 clear hdv'
 obtain ⟨g,cap,qb,f2,lo2,hi2,hpv,hgl,hg0,hrep,hhi2⟩:=hk1.ex
 have hlt:=hp.tr.blk.lt
 have hlt2:=hc.lt
 have hle:=hc.le
 have hbs:=hc.bs
 have hpl:=hp.inv.pl
 have hen:=hp.inv.en
 have hptl:=hpt.lt
 have hnh:=hwf.notHid rfl
 have HP:=hide' hp
 have HC:=hide' hc
 have HI:=hide' ih
 have HWf:=hide' hwf
 have HRep:=hide' hrep
 have HP1:=hide' (hp.alloc hc (spotC st.pl st.en (adr (some h))))
 have HB1:=hide' (Blk.new w #[.int .i64 st.pl,.int .i64 st.en,.pointer (adr (some h))] 159)
 have HQ1:=hide' (show PtBlk (w.alloc (spotC st.pl st.en (adr (some h)))) pb p from Blk.alloc hpt _)
 have HR1:Hid (Core c w s .none s.fuel s.far (w.alloc (spotC st.pl st.en (adr (some h)))) s):=Core.refl (hp.tr.alloc _) ((TF.refl c.tb c.rb .none .none w).alloc _) hp.bud _
 have hs1:(w.alloc (spotC st.pl st.en (adr (some h)))).heap.size=w.heap.size+1:=by simp
 obtain ⟨hh1,hh2,hh3⟩:=hp.hid h rfl
 have hhl:=Blk.lt hh1
 have HH1:=hide' (show HdAt (w.alloc (spotC st.pl st.en (adr (some h)))) h st.deps from Blk.alloc hh1 _)
 unfold spotC at HP1 HQ1 HR1 hs1 HH1
 clear hp hc hpt ih hh1 hk1 hrep
 unfold spotV
 simp only[adr,Option.map_some] at HP1 HB1 HQ1 HR1 hs1 HH1 ⊢
 go_enter Tryz.func153,Tryz.ntmps153
 go_wp2_with fail
 generalize w.alloc (.cells #[.int .i64 st.pl,.int .i64 st.en,.pointer (some ⟨h,0,none⟩)] 159)=W1 at *
 have a2:W1.cell? ⟨w.heap.size,2,none⟩=some (.pointer (some ⟨h,0,none⟩)):=HB1.out.cell 2
 have p3:W1.cell? ⟨pb,3,none⟩=some (.int .i64 d):=by rw[← hdp];exact HQ1.out.cell 3
 have h0:W1.cell? ⟨h,d*2,none⟩=some (.int .u32 dv):=by rw[← HDV.out];exact (HH1.out.cell d hd8).1
 go_quiet (fail)
 have HP2:=hide' (HP1.out.drewN nq)
 have HB2:Hid (Blk (W1.drewN nq) w.heap.size #[.int .i64 st.pl,.int .i64 st.en,.pointer (some ⟨h,0,none⟩)] 159):=HB1.out
 have HQ2:Hid (PtBlk (W1.drewN nq) pb p):=HQ1.out
 have HR2:=hide' (HR1.out.drewN nq)
 have hs2:(W1.drewN nq).heap.size=w.heap.size+1:=hs1
 generalize W1.drewN nq=W2 at *
 clear a2 p3 h0 HP1 HB1 HQ1 HR1 HH1 hs1
 have a0:W2.cell? ⟨w.heap.size,0,none⟩=some (.int .i64 st.pl):=HB2.out.cell 0
 have a1:W2.cell? ⟨w.heap.size,1,none⟩=some (.int .i64 st.en):=HB2.out.cell 1
 have a2:W2.cell? ⟨w.heap.size,2,none⟩=some (.pointer (some ⟨h,0,none⟩)):=HB2.out.cell 2
 have f1:W2.frozen? ⟨w.heap.size,1,none⟩=false:=HB2.out.frozen 1
 have c16:=HP2.out.tr.cbytes
 by_cases hbig:c.bs.size<dv
 · have hbig':(c.bs.size:Int)<(dv:Int):=by omega
   have HO:Hid (atT (tryT c.G c.bs c.N gg) c.bs dv r s.fuel s.far st=failO s.fuel s.far st.pl st):=by
    have:atT (tryT c.G c.bs c.N gg) c.bs dv r s.fuel s.far st=failO s.fuel s.far st.pl st:=by unfold atT;rw[if_pos hbig]
    exact this
   go_wp2_with fail
   refine (fail_calls c.gb c.rb c.tb c.bs W2 s HP2.out.tr st.pl).mono ?_
   rintro e w5 ⟨rfl,hw5⟩
   have HW5:=hide' hw5
   clear hw5
   simp only
   go_wp2_with fail
   go_ret3
   rw[HO.out]
   exact TPost.fail st.pl st HR2.out HW5.out _ _
 · have hbig':¬ (c.bs.size:Int)<(dv:Int):=by omega
   have hO1:atT (tryT c.G c.bs c.N gg) c.bs dv r s.fuel s.far st=atE st (tryT c.G c.bs c.N gg s.fuel s.far false r { st with pl:=dv,en:=c.bs.size }):=by unfold atT;rw[if_neg hbig]
   have HO1:=hide' hO1
   clear hO1
   have hdv4:dv≤4000:=by omega
   have hnb:some w.heap.size≠s.sv.ownBlock:=fun e=>by have:=HP.out.tr.svlt _ e.symm;omega
   have hnp:some pb≠s.sv.ownBlock:=fun e=>by have:=HP.out.tr.svlt _ e.symm;omega
   have HP3:Hid (TPre c W2 s { st with pl:=dv,en:=c.bs.size } (some h)):=TPre.next HC.out HP.out HR2.out (Or.inl rfl) HP.out.rd HP.out.nd ⟨by simp only;omega,Nat.le_refl _,HP.out.inv.rd,HP.out.inv.vals,HP.out.inv.deps⟩ (fun _ _ _=>rfl) (fun _ e=>by cases e)
   go_wp2_with fail
   have p8:W2.cell? ⟨pb,8,none⟩=some (.slice (some ⟨g,0,none⟩) 1 cap):=by rw[← hpv];exact HQ2.out.cell 8
   have k0:W2.cell? ⟨g,0,none⟩=some (.pointer (some ⟨qb,0,none⟩)):=by rw[HP3.out.bel.cell (p:=⟨g,0,none⟩) hgl];exact hg0
   refine wp_region_mid 17 _ rfl rfl (by kernel_rfl) (by kernel_rfl) ?_
   simp only[List.take_succ_cons,List.take_zero,List.drop_succ_cons,List.drop_zero]
   repeat still_step
   refine wpStill_nil ?_
   unfold Oper.wp
   go_simp
   rw[wrapI64 (dv:Int) (by omega) (by omega)]
   have hcall:=HI.out (W2.drewN 1) s { st with pl:=dv,en:=c.bs.size } (some h) r false ctx false false f2 lo2 hi2 qb (HP3.out.drewN 1) HRep.out hhi2 HWf.out (fun _=>rfl) rfl hf
   rw[hidV_hidK hnh,silK_false hnh] at hcall
   unfold spotV at hcall
   simp only[adr,Option.map_some] at hcall
   have HOk:Hid ((tryT c.G c.bs c.N gg s.fuel s.far false r { st with pl:=dv,en:=c.bs.size }).ok=true→(tryT c.G c.bs c.N gg s.fuel s.far false r { st with pl:=dv,en:=c.bs.size }).e=0):=fun hok=>((tryT_ok c.G HC.out.wf gg).fit s.fuel s.far false false ctx r _ HWf.out HP3.out.inv hok).2
   generalize tryT c.G c.bs c.N gg s.fuel s.far false r { st with pl:=dv,en:=c.bs.size }=o at *
   refine hcall.mono fun e3 w3 hpo=>?_
   have hk:=hpo.keeps
   have HB4:=hide' (hk.blk (show Blk (W2.drewN 1) w.heap.size _ _ from HB2.out) (by omega) (by omega) hnb (by simp))
   have hpo2:=TPost.ahead (HR2.out.drewN 1) hpo
   clear a0 a1 a2 p8 k0 hcall hpo hk c16
   have b0:w3.cell? ⟨w.heap.size,0,none⟩=some (.int .i64 st.pl):=HB4.out.cell 0
   rcases hpo2 with ⟨a1,a2,a3⟩ | ⟨a1,a2,s',v,a3,a4,a5,a6,a7,a8⟩ | ⟨a1,a2,s',v,k,a3,a4⟩
   · subst a2
     have HH:Hid (TPost c w s .none false (atE st o) (.panicked (outV o.e)) w3):=by
      have hno:o.ok=false:=by
       cases hok:o.ok with
       | false=>rfl
       | true=>exact absurd (HOk.out hok) a1
      have:atE st o=o:=by unfold atE;rw[hno];simp
      have h2:TPost c w s .none false (atE st o) (.panicked (outV o.e)) w3:=by rw[this];exact Or.inl ⟨a1,rfl,a3⟩
      exact h2
     clear a1 a3
     simp only
     refine ⟨rfl,?_⟩
     rw[HO1.out]
     exact HH.out
   · subst a3
     have HH:Hid (TPost c w s .none false (atE st o) (.returned (.tuple #[v,.int .i64 st.pl,.bool true])) w3):=by
      have:atE st o=fitO o.fuel o.far { o.st with pl:=st.pl,en:=st.en } o.t:=by unfold atE;rw[if_pos a2]
      have h2:TPost c w s .none false (atE st o) (.returned (.tuple #[v,.int .i64 st.pl,.bool true])) w3:=by
       rw[this];exact Or.inr (Or.inl ⟨rfl,rfl,s',v,rfl,a4,a5,a6,a7,fun _ e=>by cases e⟩)
      exact h2
     clear a1 a2 a4 a5 a6 a7 a8
     generalize o.st.pl=opl at *
     simp only
     repeat still_step
     refine wpStill_nil ?_
     go_wp2_with fail
     go_quiet (fail)
     go_wp2_with fail
     go_ret3
     rw[HO1.out]
     exact TPost.drewN HH.out nq
   · subst a3
     have HH:Hid (TPost c w s .none false (atE st o) (.returned (.tuple #[v,.int .i64 st.pl,.bool false])) w3):=by
      have:atE st o=o:=by unfold atE;rw[a2];simp
      have h2:TPost c w s .none false (atE st o) (.returned (.tuple #[v,.int .i64 st.pl,.bool false])) w3:=by rw[this];exact Or.inr (Or.inr ⟨a1,a2,s',v,st.pl,rfl,a4⟩)
      exact h2
     clear a1 a2 a4
     simp only
     repeat still_step
     refine wpStill_nil ?_
     go_wp2_with fail
     go_quiet (fail)
     go_wp2_with fail
     go_ret3
     rw[HO1.out]
     exact TPost.drewN HH.out nq
end Go.Proofs.YtmlkhhhjdpbhfaaGreatDoor

import Derived.Test.YtmlkhhhjdpbhfaaGreatDoorFo20
namespace Go.Proofs.YtmlkhhhjdpbhfaaGreatDoor
open Go.RowKit
def noDeps:Nat→Nat × Nat:=fun _=>(0,0)
theorem TPost.keeps2 {c:Cx}{w w':World}{s:Ts}{hb:Option Nat}{sil:Bool}{o:PO}{e:Ending}(h:TPost c w s hb sil o e w'):TF c.tb c.rb s.sv.ownBlock hb w w':=by
 rcases h with ⟨_,_,d⟩ | ⟨_,_,s',v,_,e,_⟩ | ⟨_,_,s',v,k,_,e⟩
 · exact d
 · exact e.fr
 · exact e.fr
theorem kidsT_cons (T:Nat→Nat→Bool→List It→PS→PO)(k:List It)(ks:List (List It))(fuel far:Nat)(st:PS)(t:List UInt8):kidsT T (k::ks) fuel far st t=
 if (T fuel far (silV k) k st).ok=true then kidsT T ks (T fuel far (silV k) k st).fuel (T fuel far (silV k) k st).far (T fuel far (silV k) k st).st (if silV k then t else joinT t (T fuel far (silV k) k st).t) else T fuel far (silV k) k st:=rfl
theorem silB_silV (x:It)(r:List It):silB x.c=silV (x::r):=by
 simp[silB,silV,hidesB,Bool.or_assoc]
 rfl
theorem silK_silV (x:It)(r:List It):silK (silV (x::r)) (x::r)=silV (x::r):=by
 simp only[silK,silV]
 cases hidesB x.c<;>cases decide (x.c=39)<;>rfl
structure AtS (c:Cx) (T:Nat→Nat→Bool→List It→PS→PO) (ks:List (List It)) (w:World) (s:Ts) (st:PS) (O:PO) (j:Nat) (v:Value) (kids:List (Nat × List UInt8)) (stj:PS) (wr:World) (sj:Ts):Prop where
 pre:TPre c wr sj stj (some (w.heap.size+1))
 core:Core c w s none sj.fuel sj.far wr sj
 box:Blk wr w.heap.size #[.int .i64 stj.pl,.int .i64 stj.en,.pointer (some ⟨w.heap.size+1,0,none⟩)] 159
 kid:KidV wr (w.heap.size+2) sj.sv.ownBlock v kids
 rem:O=wholeE c.N st.deps (kidsT T (ks.drop j) sj.fuel sj.far stj (joinL (kids.map Prod.snd)))
 cnt:kids.length≤j∧j+sj.fuel≤s.fuel
 nb:∀ g,sj.sv.ownBlock=some g→g≠w.heap.size
 sz:w.heap.size+1<wr.heap.size
set_option maxRecDepth 100000 in
set_option maxHeartbeats 4000000 in
theorem tstruct_calls (c:Cx)(hc:CxOk c)(gg:Nat)(ih:TryC c gg)(w:World)(s:Ts)(st:PS)(ho:Option Nat)(pb:Nat)(p:Pt)(qs:List (Nat × List It))(f2 lo2 hi2:Nat)(hp:TPre c w s st ho)(hpt:PtBlk c.w0 pb p)(hps:PtrsAt c.w0 lo2 hi2 p.v (qs.map Prod.fst))(hks:∀ q,q∈qs→RepS f2 c.w0 lo2 hi2 q.1 true q.2)(hhi2:hi2≤c.w0.heap.size)(hwf:∀ q,q∈qs→TrW c.R true true q.2)(hf:s.fuel≤gg):
 Calls Tryz.prog 128 #[.pointer (some ⟨c.tb,0,none⟩),.pointer (some ⟨pb,0,none⟩),spotV st.pl st.en (adr ho)] w fun e w'=>TPost c w s none false (wholeT (tryT c.G c.bs c.N gg) c.N (qs.map Prod.snd) s.fuel s.far st) e w':=by
 obtain ⟨i0,hi0,hz0,hz1,hz2⟩:=info_parts Tryz.infoVal
 have hlt:=hp.tr.blk.lt
 have hlt2:=hc.lt
 have hle:=hc.le
 have hbs:=hc.bs
 have hptl:=hpt.lt
 have hbud0:=hp.bud
 have HP:=hide' hp
 have HC:=hide' hc
 have HI:=hide' ih
 have HWf:=hide' hwf
 have HRep:=hide' hks
 have HPt:=hide' hpt
 obtain ⟨pov,capv,hpv,HCell⟩:∃ pov capv,p.v=.slice pov qs.length capv∧Hid (∀ j,j<qs.length→∃ g,pov=some ⟨g,0,none⟩∧g<c.w0.heap.size∧c.w0.cell? ⟨g,j,none⟩=some (.pointer (some ⟨(qs.map Prod.fst).getD j 0,0,none⟩))):=by
  rcases hps with ⟨h1,h2⟩ | ⟨g,cap,h1,h2,h3,h4,h5⟩
  · have h0:qs=[]:=by simpa using h2
    exact ⟨none,0,by rw[h1,h0];rfl,hide' fun j hj=>by rw[h0] at hj;simp at hj⟩
  · exact ⟨_,cap,by rw[h1];simp,hide' fun j hj=>⟨g,rfl,by omega,h5 j (by simpa using hj)⟩⟩
 have p8:∀ o o',((w.alloc o).alloc o').cell? ⟨pb,8,none⟩=some (.slice pov qs.length capv):=fun o o'=>by rw[← hpv,((hp.alloc hc o).alloc hc o').bel.cell (p:=⟨pb,8,none⟩) hptl];exact HPt.out.cell 8
 have hTr:=(hp.tr.alloc (.cells #[.int .i64 st.pl,.int .i64 st.en,.pointer (some ⟨w.heap.size+1,0,none⟩)] 159)).alloc (.cells (hdCells noDeps) 268)
 have HR2:Hid (Core c w s .none s.fuel s.far ((w.alloc (.cells #[.int .i64 st.pl,.int .i64 st.en,.pointer (some ⟨w.heap.size+1,0,none⟩)] 159)).alloc (.cells (hdCells noDeps) 268)) s):=Core.refl hTr (((TF.refl c.tb c.rb .none .none w).alloc _).alloc _) hp.bud _
 have HB2:=hide' (Blk.alloc (Blk.new w #[.int .i64 st.pl,.int .i64 st.en,.pointer (some ⟨w.heap.size+1,0,none⟩)] 159) (.cells (hdCells noDeps) 268))
 have HH2:=hide' (Blk.new (w.alloc (.cells #[.int .i64 st.pl,.int .i64 st.en,.pointer (some ⟨w.heap.size+1,0,none⟩)] 159)) (hdCells noDeps) 268)
 have hs2:((w.alloc (.cells #[.int .i64 st.pl,.int .i64 st.en,.pointer (some ⟨w.heap.size+1,0,none⟩)] 159)).alloc (.cells (hdCells noDeps) 268)).heap.size=w.heap.size+2:=by simp
 rw[show (w.alloc (.cells #[.int .i64 st.pl,.int .i64 st.en,.pointer (some ⟨w.heap.size+1,0,none⟩)] 159)).heap.size=w.heap.size+1 by simp] at HH2
 have hz:hdCells noDeps=#[.int .u32 0,.int .i64 0,.int .u32 0,.int .i64 0,.int .u32 0,.int .i64 0,.int .u32 0,.int .i64 0,.int .u32 0,.int .i64 0,.int .u32 0,.int .i64 0,.int .u32 0,.int .i64 0,.int .u32 0,.int .i64 0]:=rfl
 have HZ:=hide' hz
 rw[hz] at HR2 HB2 HH2 hs2
 clear hTr hz
 clear hp hc hpt ih hks hps
 unfold spotV
 generalize hoa':adr ho=hoa at *
 have HOA:=hide' hoa'
 clear hoa'
 go_enter Tryz.func128,Tryz.ntmps128
 go_wp2_with fail
 clear p8
 generalize (w.alloc (.cells #[.int .i64 st.pl,.int .i64 st.en,.pointer (some ⟨w.heap.size+1,0,none⟩)] 159)).alloc (.cells #[.int .u32 0,.int .i64 0,.int .u32 0,.int .i64 0,.int .u32 0,.int .i64 0,.int .u32 0,.int .i64 0,.int .u32 0,.int .i64 0,.int .u32 0,.int .i64 0,.int .u32 0,.int .i64 0,.int .u32 0,.int .i64 0] 268)=W2 at *
 have HST:Hid (AtS c (tryT c.G c.bs c.N gg) (qs.map Prod.snd) w s st (wholeT (tryT c.G c.bs c.N gg) c.N (qs.map Prod.snd) s.fuel s.far st) 0 (.slice none 0 0) [] { st with deps:=noDeps } W2 s):=by
  refine ⟨⟨HR2.out.tr,HR2.out.bel HC.out HP.out (fun g e=>by cases e),HP.out.nd,HP.out.rd,⟨HP.out.inv.pl,HP.out.inv.en,HP.out.inv.rd,HP.out.inv.vals,fun d=>⟨by simp[noDeps],by simp[noDeps]⟩⟩,HP.out.sp,HP.out.bud,fun h e=>?_⟩,HR2.out,HB2.out,KidV.nil _ _ _,rfl,⟨by simp,by omega⟩,fun g e=>?_,by omega⟩
  · cases e
    refine ⟨?_,by omega,fun e=>?_⟩
    · unfold HdAt;rw[HZ.out];exact HH2.out
    · have:=HP.out.tr.svlt _ e.symm;omega
  · have:=HP.out.tr.svlt g e;omega
 clear HR2 HB2 HH2
 go_loopw [23,9,11,12,13,14] (fun v23 v9 _ _ _ _ wr=>∃ (j:Nat) (kids:List (Nat × List UInt8)) (stj:PS) (sj:Ts),v23=.int .i64 j∧j≤qs.length∧Hid (AtS c (tryT c.G c.bs c.N gg) (qs.map Prod.snd) w s st (wholeT (tryT c.G c.bs c.N gg) c.N (qs.map Prod.snd) s.fuel s.far st) j v9 kids stj wr sj)) (fun v23 _ _ _ _ _ _=>qs.length-(intOf v23).toNat)
 case atStart=>exact ⟨0,[],_,s,rfl,by omega,HST⟩
 case round=>
  clear HST
  obtain ⟨j,kids,stj,sj,rfl,hj,hat⟩:=hrel
  obtain ⟨b1,b2,b3,b4,b5,⟨b6,b7⟩,b8,b10⟩:=hat.out
  obtain ⟨po9,cap9,h9⟩:=b4.form
  subst h9
  have HAt:=hat
  clear hat b1 b2 b3 b4 b5
  by_cases hjn:j<qs.length
  · have hjn':(j:Int)<(qs.length:Int):=by omega
    obtain ⟨⟨qb,k⟩,hqj⟩:∃ q,q=qs[j]:=⟨_,rfl⟩
    have hqm:(qb,k)∈qs:=by rw[hqj];exact List.getElem_mem hjn
    have hfst:(qs.map Prod.fst).getD j 0=qb:=by rw[List.getD_eq_getElem?_getD,List.getElem?_map,List.getElem?_eq_getElem hjn,← hqj];rfl
    have hdrop:(qs.map Prod.snd).drop j=k::(qs.map Prod.snd).drop (j+1):=by
     rw[List.drop_eq_getElem_cons (by simpa using hjn),List.getElem_map,← hqj]
    clear hqj
    have hrepk:=HRep.out _ hqm
    have hwfk:=HWf.out _ hqm
    simp only at hrepk hwfk
    obtain ⟨x,rr,hxr⟩:∃ x rr,k=x::rr:=by
     obtain ⟨x,rest,p',e,b,k,l1,l2⟩:=hrepk.head
     exact ⟨x,rest,e⟩
    obtain ⟨p',hpt',hsl',hql⟩:∃ p',PtBlk c.w0 qb p'∧p'.sl=silV k∧qb<c.w0.heap.size:=by
     rw[hxr] at hrepk
     obtain ⟨f',kids',p',a1,a2,a3,a4,a5,a6,a7,a8⟩:=hrepk.open
     refine ⟨p',a1,?_,by omega⟩
     rw[a3,hxr,Bool.true_and]
     exact silB_silV x rr
    have hsilk:silK (silV k) k=silV k:=by rw[hxr];exact silK_silV x rr
    have hh:∀ g,hidK k (some (w.heap.size+1))=some g→g=w.heap.size+1:=fun g e=>by
     unfold hidK at e;split at e<;>cases e;rfl
    obtain ⟨g,hpo,hgl,hgc⟩:=HCell.out j hjn
    subst hpo
    rw[hfst] at hgc
    have hk9:∀ g,(Value.slice po9 kids.length cap9).ownBlock=some g→w.heap.size+2≤g∧g<wr.heap.size:=fun g e=>HAt.out.kid.row.lt g e
    have a0:wr.cell? ⟨w.heap.size,0,none⟩=some (.int .i64 stj.pl):=HAt.out.box.cell 0
    have a1:wr.cell? ⟨w.heap.size,1,none⟩=some (.int .i64 stj.en):=HAt.out.box.cell 1
    have a2:wr.cell? ⟨w.heap.size,2,none⟩=some (.pointer (some ⟨w.heap.size+1,0,none⟩)):=HAt.out.box.cell 2
    have k0:wr.cell? ⟨g,j,none⟩=some (.pointer (some ⟨qb,0,none⟩)):=by rw[HAt.out.pre.bel.cell (p:=⟨g,j,none⟩) hgl];exact hgc
    have HRepk:=hide' hrepk
    have HWfk:=hide' hwfk
    have HPt':=hide' hpt'
    have HHh:=hide' hh
    have HSilk:=hide' hsilk
    have HDrop:=hide' hdrop
    clear hrepk hwfk hpt' hxr hsilk hdrop hfst hgc
    go_wp2_with fail
    have hcall:=HI.out wr sj stj (some (w.heap.size+1)) k true true true (silV k) f2 lo2 hi2 qb HAt.out.pre HRepk.out hhi2 HWfk.out (fun _=>rfl) (by simp) (by omega)
    rw[HSilk.out] at hcall
    unfold spotV at hcall
    simp only[adr,Option.map_some] at hcall
    have HOk:Hid ((tryT c.G c.bs c.N gg sj.fuel sj.far (silV k) k stj).ok=true→(Keeps c.bs c.N stj (hidV k) (tryT c.G c.bs c.N gg sj.fuel sj.far (silV k) k stj)∧(tryT c.G c.bs c.N gg sj.fuel sj.far (silV k) k stj).e=0)∧(tryT c.G c.bs c.N gg sj.fuel sj.far (silV k) k stj).fuel<sj.fuel):=fun hok=>⟨(tryT_ok c.G HC.out.wf gg).fit sj.fuel sj.far (silV k) true true k _ HWfk.out HAt.out.pre.inv hok,tryT_strict c.G HC.out.wf gg sj.fuel sj.far (silV k) k stj hok⟩
    have hrem:=HAt.out.rem
    rw[HDrop.out,kidsT_cons] at hrem
    have HO1:=hide' hrem
    clear hrem
    generalize ho':tryT c.G c.bs c.N gg sj.fuel sj.far (silV k) k stj=o at *
    clear ho'
    refine hcall.mono fun e3 w3 hpo=>?_
    have hk:=hpo.keeps2
    have hs4:wr.heap.size≤w3.heap.size:=hk.size
    have hnb:some w.heap.size≠sj.sv.ownBlock:=fun e=>b8 _ e.symm rfl
    have hnh:some w.heap.size≠hidK k (some (w.heap.size+1)):=fun e=>by have:=HHh.out _ e.symm;omega
    obtain ⟨hd1,hd2,hd3⟩:=HAt.out.pre.hid _ rfl
    have HB4:=hide' (hk.blk HAt.out.box (by omega) (by omega) hnb hnh)
    have HKF:=hide' hk
    have HD1:=hide' hd1
    clear a0 a1 a2 k0 hcall hk hd1
    have hcoresv:sj.sv.ownBlock=s.sv.ownBlock∨∀ g,sj.sv.ownBlock=some g→w.heap.size≤g:=by
     rcases HAt.out.core.sv with e | ⟨g,e,l⟩
     · exact Or.inl e
     · exact Or.inr fun g' e'=>by rw[e] at e';cases e';exact l
    rcases hpo with ⟨d1,d2,d3⟩ | ⟨d1,d2,s',v,d3,d4,d5,d6,d7,d8⟩ | ⟨d1,d2,s',v,kk,d3,d4⟩
    · subst d2
      have HH:Hid (TPost c w s .none false (wholeT (tryT c.G c.bs c.N gg) c.N (qs.map Prod.snd) s.fuel s.far st) (.panicked (outV o.e)) w3):=by
       have hno:o.ok=false:=by
        cases hok:o.ok with
        | false=>rfl
        | true=>exact absurd (HOk.out hok).1.2 d1
       have h2:TPost c w s .none false (wholeT (tryT c.G c.bs c.N gg) c.N (qs.map Prod.snd) s.fuel s.far st) (.panicked (outV o.e)) w3:=by
        rw[HO1.out,if_neg (by rw[hno];simp)]
        unfold wholeE
        rw[if_neg (by rw[hno];simp)]
        exact Or.inl ⟨d1,rfl,HAt.out.core.fr.trans d3 hcoresv (Or.inr fun g e=>by have:=HHh.out g e;omega)⟩
       exact h2
      clear d1 d3 HO1
      simp only
      exact ⟨rfl,HH.out⟩
    rotate_left
    · subst d3
      have HH:Hid (TPost c w s .none false (wholeT (tryT c.G c.bs c.N gg) c.N (qs.map Prod.snd) s.fuel s.far st) (.returned (.tuple #[.pointer none,.int .i64 0,.bool false])) w3):=by
       have h2:TPost c w s .none false (wholeT (tryT c.G c.bs c.N gg) c.N (qs.map Prod.snd) s.fuel s.far st) (.returned (.tuple #[.pointer none,.int .i64 0,.bool false])) w3:=by
        rw[HO1.out,if_neg (by rw[d2];simp)]
        unfold wholeE
        rw[if_neg (by rw[d2];simp)]
        exact Or.inr (Or.inr ⟨d1,d2,s',_,0,rfl,HAt.out.core.trans d4 (Or.inr (Or.inr fun g e=>by have:=HHh.out g e;omega))⟩)
       exact h2
      clear d1 d2 d4 HO1
      simp only
      go_wp2_with fail
      go_ret3
      exact HH.out
    · have hok:=d2
      rw[if_pos hok] at HO1
      obtain ⟨⟨hkp,_⟩,hst⟩:=HOk.out hok
      subst d3
      have HCr:=hide' d4
      have HC4:=hide' (HAt.out.core.trans d4 (Or.inr (Or.inr fun g e=>by have:=HHh.out g e;omega)))
      have HD5:=hide' d5
      have HD6:=hide' d6
      have HKp:=hide' hkp
      have HK4:=hide' (HAt.out.kid.keep HKF.out (by omega) (by omega) (Or.inr fun g e=>by have:=HHh.out g e;omega) d4.sv)
      have HH4:Hid (HdAt w3 (w.heap.size+1) o.st.deps):=by
       have:HdAt w3 (w.heap.size+1) o.st.deps:=by
        cases hv:hidV k with
        | true=>exact d8 _ (by unfold hidK;rw[hv];rfl)
        | false=>
         have hnn:hidK k (some (w.heap.size+1))=none:=by unfold hidK;rw[hv];rfl
         rw[hv] at hkp
         rw[hkp.deps rfl]
         have h6:=HKF.out
         rw[hnn] at h6
         exact h6.blk HD1.out (by omega) (by omega) hd3 (by simp)
       exact this
      have hnbs:∀ g,s'.sv.ownBlock=some g→g≠w.heap.size∧g≠w.heap.size+1:=fun g e=>by
       rcases d4.sv with h | ⟨g',h,l⟩
       · rw[h] at e;exact ⟨b8 g e,fun e2=>hd3 (by rw[e,e2])⟩
       · rw[h] at e;cases e;exact ⟨by omega,by omega⟩
      have hvv:VOk w3 wr.heap.size s'.sv.ownBlock (silV k) v o.t:=d7
      clear d1 d2 d4 d5 d6 d7 d8 hkp hok
      have n0:w3.cell? ⟨w.heap.size,0,none⟩=some (.int .i64 stj.pl):=HB4.out.cell 0
      have nf:w3.frozen? ⟨w.heap.size,0,none⟩=false:=HB4.out.frozen 0
      have p7:w3.cell? ⟨qb,7,none⟩=some (.bool (silV k)):=by
       rw[(HC4.out.bel HC.out HP.out (fun g e=>by cases e)).cell (p:=⟨qb,7,none⟩) hql,← hsl']
       exact HPt'.out.cell 7
      have hkl:kids.length≤100000:=by omega
      have hj64:j≤100000:=by omega
      have hne9:some w.heap.size≠(Value.slice po9 kids.length cap9).ownBlock:=fun e=>by have:=hk9 _ e.symm;omega
      generalize hopl:o.st.pl=opl at *
      have HOPL:=hide' hopl
      clear hopl
      cases hsil:silV k with
      | true=>
       rw[hsil] at p7 hvv HO1
       rcases hvv with ⟨_,hvv⟩ | ⟨e,_⟩
       rotate_left
       · cases e
       subst hvv
       simp only
       go_wp2_with fail
       have HCN:Hid (Core c w s none o.fuel o.far (w3.setCell ⟨w.heap.size,0,none⟩ (.int .i64 opl)) s'):=HC4.out.own (by omega) (by omega) rfl rfl rfl (by simp[World.setCell]) (fun k k1 k2=>by
        have h1:k≠w.heap.size:=by
         rcases k2 with h | h
         · omega
         · exact (hnbs k h.symm).1
        rw[Below.heap_setCell _ _ _ _ h1])
       have HKN:Hid (KidV (w3.setCell ⟨w.heap.size,0,none⟩ (.int .i64 opl)) (w.heap.size+2) s'.sv.ownBlock (.slice po9 kids.length cap9) kids):=
        HK4.out.keep (tb:=w.heap.size) (rb:=w.heap.size) (((TF.refl w.heap.size w.heap.size s'.sv.ownBlock none w3)).setCell _ _ (Or.inl rfl)) (by omega) (by omega) (Or.inl rfl) (Or.inl rfl)
       have HBN:=hide' (Blk.set HB4.out 0 (.int .i64 opl))
       have HHN:Hid (HdAt (w3.setCell ⟨w.heap.size,0,none⟩ (.int .i64 opl)) (w.heap.size+1) o.st.deps):=Blk.setOther HH4.out _ (by simp only;omega) _
       have hof:=HCr.out.fuel
       have hor:=HCr.out.far
       have HN:Hid (AtS c (tryT c.G c.bs c.N gg) (qs.map Prod.snd) w s st (wholeT (tryT c.G c.bs c.N gg) c.N (qs.map Prod.snd) s.fuel s.far st) (j+1) (.slice po9 kids.length cap9) kids o.st (w3.setCell ⟨w.heap.size,0,none⟩ (.int .i64 opl)) s'):=by
        refine ⟨⟨HCN.out.tr,HCN.out.bel HC.out HP.out (fun g e=>by cases e),HD6.out,HD5.out,HKp.out.inv,(Core.spans HP.out HCN.out).1,HCN.out.bud,fun h e=>?_⟩,?_,?_,HKN.out,?_,⟨by omega,by omega⟩,fun g e=>(hnbs g e).1,by simp[World.setCell];omega⟩
        · cases e
          exact ⟨HHN.out,by omega,fun e=>(hnbs _ e.symm).2 rfl⟩
        · rw[hof,hor];exact HCN.out
        · rw[HOPL.out,HKp.out.en];exact HBN.out
        · rw[HO1.out,hof,hor];rfl
       go_roundw
       case rel=>exact ⟨j+1,_,_,_,by go_num,by omega,HN⟩
       case measure=>simp[intOf];omega
      | false=>
       rw[hsil] at p7 hvv HO1
       rcases hvv with ⟨e,_⟩ | ⟨_,fv,vb,hvv,hrv⟩
       · cases e
       subst hvv
       have HRV:=hide' hrv
       clear hrv
       simp only
       go_wp2_with
        (at_builtin
         refine wpList_append_lies _ rfl _ _ _ rfl (w.heap.size+2) 55 i0 _ 1 8 Tryz.underlying175 hi0 hz0 hz1 hz2 rfl (by omega) (.slice po9 kids.length cap9) kids.length (ptrsL (kids.map Prod.fst)) rfl (HK4.out.row.alloc _) ⟨w3.heap.size,0,none⟩ 1 1 [.pointer (some ⟨vb,0,none⟩)] rfl rfl (World.news_of_block (cs:=#[.pointer (some ⟨vb,0,none⟩)]) (t:=55) (fr:=(0,0)) (heap_alloc_new w3 _)) (by simp[Value.oneCell']) (by omega) (by unfold maxLen;omega) (by omega) (by simp;omega) (w3.heap.size+1) (by simp) ?_
         intro g1 cap1 w5 hown5 hgrow hat5 hlt5
         have hb5:=Blk.grown (Blk.alloc HB4.out (.cells #[.pointer (some ⟨vb,0,none⟩)] 55)) hgrow hne9
         have c5:w5.cell? ⟨w.heap.size,0,none⟩=some (.int .i64 stj.pl):=hb5.cell 0
         have f5:w5.frozen? ⟨w.heap.size,0,none⟩=false:=hb5.frozen 0)
       have hs5:=hgrow.size
       simp at hs5
       have HCN:Hid (Core c w s none o.fuel o.far (w5.setCell ⟨w.heap.size,0,none⟩ (.int .i64 opl)) s'):=HC4.out.own (by omega) (by omega) hgrow.os hgrow.tape hgrow.output (by simp[World.setCell];omega) (fun k k1 k2=>by
        have h1:k≠w.heap.size:=by
         rcases k2 with h | h
         · omega
         · exact (hnbs k h.symm).1
        have h2:some k≠(Value.slice po9 kids.length cap9).ownBlock:=fun e=>by
         rcases k2 with h | h
         · have:=hk9 k e.symm;omega
         · exact HK4.out.nsb k e.symm h
        rw[Below.heap_setCell _ _ _ _ h1,hgrow.block k (by simp;omega) h2,Below.heap_alloc _ _ _ k1])
       have HKN:Hid (KidV (w5.setCell ⟨w.heap.size,0,none⟩ (.int .i64 opl)) (w.heap.size+2) s'.sv.ownBlock (.slice (some ⟨g1,0,none⟩) (kids.length+1) cap1) (kids++[(vb,o.t)])):=
        (HK4.out.push (w:=wr) (fun g e=>by have:=hk9 g e;omega) (by omega) (by omega) HRV.out _ (fun g e=>(HC4.out.tr.svlt g e).2) hown5 hgrow hat5).keep (tb:=w.heap.size) (rb:=w.heap.size) (((TF.refl w.heap.size w.heap.size s'.sv.ownBlock none w5)).setCell _ _ (Or.inl rfl)) (by omega) (by omega) (Or.inl rfl) (Or.inl rfl)
       have HBN:=hide' (Blk.set hb5 0 (.int .i64 opl))
       have hb6:HdAt w5 (w.heap.size+1) o.st.deps:=Blk.grown (Blk.alloc HH4.out (.cells #[.pointer (some ⟨vb,0,none⟩)] 55)) hgrow (fun e=>by have:=hk9 _ e.symm;omega)
       have HHN:Hid (HdAt (w5.setCell ⟨w.heap.size,0,none⟩ (.int .i64 opl)) (w.heap.size+1) o.st.deps):=Blk.setOther hb6 _ (by simp only;omega) _
       have hof:=HCr.out.fuel
       have hor:=HCr.out.far
       have HN:Hid (AtS c (tryT c.G c.bs c.N gg) (qs.map Prod.snd) w s st (wholeT (tryT c.G c.bs c.N gg) c.N (qs.map Prod.snd) s.fuel s.far st) (j+1) (.slice (some ⟨g1,0,none⟩) (kids.length+1) cap1) (kids++[(vb,o.t)]) o.st (w5.setCell ⟨w.heap.size,0,none⟩ (.int .i64 opl)) s'):=by
        refine ⟨⟨HCN.out.tr,HCN.out.bel HC.out HP.out (fun g e=>by cases e),HD6.out,HD5.out,HKp.out.inv,(Core.spans HP.out HCN.out).1,HCN.out.bud,fun h e=>?_⟩,?_,?_,HKN.out,?_,⟨by simp;omega,by omega⟩,fun g e=>(hnbs g e).1,by simp[World.setCell];omega⟩
        · cases e
          exact ⟨HHN.out,by omega,fun e=>(hnbs _ e.symm).2 rfl⟩
        · rw[hof,hor];exact HCN.out
        · rw[HOPL.out,HKp.out.en];exact HBN.out
        · rw[HO1.out,hof,hor,List.map_append,List.map_cons,List.map_nil,joinL_snoc];rfl
       clear hgrow hown5 hat5 hb5 c5 f5 hb6
       go_roundw
       case rel=>exact ⟨j+1,_,_,_,by go_num,by omega,HN⟩
       case measure=>simp[intOf];omega
  · have hjn':¬ (j:Int)<(qs.length:Int):=by omega
    have hj3:(qs.map Prod.snd).drop j=[]:=List.drop_eq_nil_of_le (by simp;omega)
    have hrem:=HAt.out.rem
    rw[hj3] at hrem
    have HO1:Hid (wholeT (tryT c.G c.bs c.N gg) c.N (qs.map Prod.snd) s.fuel s.far st=madeO c.N sj.fuel sj.far { stj with deps:=st.deps } (40::joinL (kids.map Prod.snd)++[41])):=hrem
    clear hrem
    have q0:wr.cell? ⟨w.heap.size,0,none⟩=some (.int .i64 stj.pl):=HAt.out.box.cell 0
    have hnd:=HAt.out.pre.nd
    have hval:=HAt.out.pre.inv.vals
    go_wp2_with fail
    cases hm:sj.nodes with
    | zero=>
     have HMN:=hide' (fun W (h:TrAt c.gb c.rb c.tb c.bs W sj)=>made_none c.gb c.rb c.tb c.bs W _ h 3 0 ByteArray.empty (.slice po9 kids.length cap9) hm rfl)
     refine wp_region_one (fun W=>W.cell? ⟨w.heap.size,0,none⟩=some (.int .i64 stj.pl)) [0,1,2,4,5] 3 6 _ _ _ rfl rfl rfl rfl (by kernel_rfl) (by kernel_rfl) (fun _ _ d _ _ h=>by cases d<;>exact h) ?_ q0
     simp only[List.filterMap_cons,List.filterMap_nil,List.getElem?_cons_zero,List.getElem?_cons_succ,List.drop_succ_cons,List.drop_zero]
     refine wpX_step _ rfl (fun W hW=>rfl) ?_
     refine wpX_step _ rfl (fun W hW=>rfl) ?_
     refine wpX_step _ rfl (fun W hW=>by go_simp;rfl) ?_
     refine wpX_step _ rfl (fun W hW=>rfl) ?_
     refine wpX_step (.int .i64 stj.pl) rfl (fun W hW=>by go_simp) ?_
     refine wpX_nil ?_
     unfold Oper.wp
     go_simp
     refine (HMN.out _ (HAt.out.core.tr.drewN 1)).mono ?_
     rintro e w7 ⟨rfl,rfl⟩
     simp only
     refine ⟨rfl,?_⟩
     rw[HO1.out]
     exact TPost.dead (HAt.out.core.drewN 1) _ (show stj.vals=c.N by omega)
    | succ m=>
     have HMS:=hide' (fun W (h:TrAt c.gb c.rb c.tb c.bs W sj)=>made_some c.gb c.rb c.tb c.bs W _ h 3 0 ByteArray.empty (.slice po9 kids.length cap9) m hm (by have:=HC.out.N;omega) rfl)
     refine wp_region_one (fun W=>W.cell? ⟨w.heap.size,0,none⟩=some (.int .i64 stj.pl)) [0,1,2,4,5] 3 6 _ _ _ rfl rfl rfl rfl (by kernel_rfl) (by kernel_rfl) (fun _ _ d _ _ h=>by cases d<;>exact h) ?_ q0
     simp only[List.filterMap_cons,List.filterMap_nil,List.getElem?_cons_zero,List.getElem?_cons_succ,List.drop_succ_cons,List.drop_zero]
     refine wpX_step _ rfl (fun W hW=>rfl) ?_
     refine wpX_step _ rfl (fun W hW=>rfl) ?_
     refine wpX_step _ rfl (fun W hW=>by go_simp;rfl) ?_
     refine wpX_step _ rfl (fun W hW=>rfl) ?_
     refine wpX_step (.int .i64 stj.pl) rfl (fun W hW=>by go_simp) ?_
     refine wpX_nil ?_
     unfold Oper.wp
     go_simp
     refine (HMS.out _ (HAt.out.core.tr.drewN 1)).mono ?_
     rintro e w7 ⟨rfl,ht7,hf7,hb7,hs7⟩
     have HC7:=hide' ((HAt.out.core.drewN 1).made ht7 hf7)
     have HB7:=hide' (hf7.blk (show Blk (wr.drewN 1) w.heap.size _ _ from HAt.out.box) (by omega) (by omega) (by simp) (by simp))
     have hf7':TF c.tb c.rb none none wr w7:=((TF.refl c.tb c.rb none none wr).drewN 1).trans hf7 (Or.inl rfl) (Or.inl rfl)
     have hb7':Blk w7 wr.heap.size #[.int .i64 3,.int .u32 0,.string ByteArray.empty,(.slice po9 kids.length cap9)] 177:=hb7
     have HV7:=hide' (HAt.out.kid.made (lo:=w.heap.size) hf7' hb7' (by omega) (by omega) (by omega) (by omega) (Or.inl rfl) (fun g e=>(HAt.out.core.tr.svlt g e).2))
     clear ht7 hf7 hb7 hf7' hb7'
     simp only
     refine ⟨HB7.out.cell 0,?_⟩
     repeat still_step
     refine wpStill_nil ?_
     go_wp2_with fail
     go_ret3
     rw[HO1.out]
     have hne:¬ ({ stj with deps:=st.deps }:PS).vals=c.N:=by simp only;omega
     unfold madeO
     rw[if_neg hne]
     obtain ⟨fv,hfv⟩:=HV7.out
     refine Or.inr (Or.inl ⟨rfl,rfl,_,_,rfl,HC7.out,?_,?_,Or.inr ⟨rfl,fv,wr.heap.size,rfl,?_⟩,fun h e=>by cases e⟩)
     · exact HAt.out.pre.rd
     · simp only[fitO];omega
     · exact hfv
set_option maxRecDepth 100000 in
set_option maxHeartbeats 2000000 in
theorem try_zero (c:Cx)(w:World)(s:Ts)(st:PS)(ho hb:Option Nat)(sil:Bool)(pb:Nat)(hp:TPre c w s st ho)(h0:s.fuel=0):
 Calls Tryz.prog 62 #[.pointer (some ⟨c.tb,0,none⟩),.pointer (some ⟨pb,0,none⟩),spotV st.pl st.en (adr ho)] w fun e w'=>TPost c w s hb sil (deadO 6 st) e w':=by
 have c17:∀ o,(w.alloc o).cell? ⟨c.tb,47,none⟩=some (.int .i64 0):=fun o=>by rw[(hp.tr.alloc o).cfuel,h0];rfl
 have HF:=hide' (fun o=>((TF.refl c.tb c.rb s.sv.ownBlock hb w).alloc o))
 clear hp
 unfold spotV
 generalize adr ho=hoa
 go_enter Tryz.func62,Tryz.ntmps62
 go_wp2_with fail
 refine ⟨rfl,Or.inl ⟨by simp[deadO],rfl,HF.out _⟩⟩
set_option maxRecDepth 100000 in
set_option maxHeartbeats 4000000 in
theorem try_walk (c:Cx)(hc:CxOk c)(w:World)(s:Ts)(st:PS)(ho hb:Option Nat)(sil:Bool)(O:PO)(pb:Nat)(p:Pt)(kd fn f:Nat)(hp:TPre c w s st ho)(hpt:PtBlk w pb p)(hpb:pb<c.rb)(hk:p.k=(kd:Int))(hkd:kd<15)(hfn:doFns[kd*3]? = some (fnV fn))(hrun:∀ args W,Sem.run Tryz.prog (callFunc fn args) W=.ok (.enter fn args) W)(hf:s.fuel=f+1)(hcall:∀ W,TPre c W { s with fuel:=f } st ho→PtBlk W pb p→Calls Tryz.prog fn #[.pointer (some ⟨c.tb,0,none⟩),.pointer (some ⟨pb,0,none⟩),spotV st.pl st.en (adr ho)] W fun e w'=>TPost c W { s with fuel:=f } hb sil O e w'):
 Calls Tryz.prog 62 #[.pointer (some ⟨c.tb,0,none⟩),.pointer (some ⟨pb,0,none⟩),spotV st.pl st.en (adr ho)] w fun e w'=>TPost c w s hb sil O e w':=by
 have hlt:=hp.tr.blk.lt
 have hlt2:=hc.lt
 have hptl:=hpt.lt
 have hbud:=hp.bud
 have hne2:¬ w.heap.size=c.tb:=by omega
 have hne3:¬ c.tb=w.heap.size:=by omega
 have hne4:¬ w.heap.size=pb:=by omega
 have hne5:¬ pb=w.heap.size:=by omega
 have hne6:¬ pb=c.tb:=by omega
 have hkd':(kd:Int)<15:=by omega
 have hne:¬ ((f:Int)+1==0)=true:=by simp;omega
 have c17:∀ o,(w.alloc o).cell? ⟨c.tb,47,none⟩=some (.int .i64 ((f:Int)+1)):=fun o=>by rw[(hp.tr.alloc o).cfuel,hf];rfl
 have f17:∀ o,(w.alloc o).frozen? ⟨c.tb,47,none⟩=false:=fun o=>(hp.tr.alloc o).blk.frozen 47
 have hT:TrAt c.gb c.rb c.tb c.bs ((w.setCell ⟨c.tb,47,none⟩ (.int .i64 f)).alloc (spotC st.pl st.en (adr ho))) { s with fuel:=f }:=(hp.tr.set (s':={ s with fuel:=f }) 47 (.int .i64 f) (trCells_fuel c.gb c.rb c.bs s f) rfl rfl rfl).alloc _
 have HQ:Hid (PtBlk ((w.setCell ⟨c.tb,47,none⟩ (.int .i64 f)).alloc (spotC st.pl st.en (adr ho))) pb p):=Blk.alloc (Blk.setOther hpt _ (by simp only;omega) _) _
 have HB:Hid (Blk ((w.setCell ⟨c.tb,47,none⟩ (.int .i64 f)).alloc (spotC st.pl st.en (adr ho))) w.heap.size #[.int .i64 st.pl,.int .i64 st.en,.pointer (adr ho)] 159):=by
  have:=Blk.new (w.setCell ⟨c.tb,47,none⟩ (.int .i64 f)) #[.int .i64 st.pl,.int .i64 st.en,.pointer (adr ho)] 159
  rw[show (w.setCell ⟨c.tb,47,none⟩ (.int .i64 f)).heap.size=w.heap.size by simp[World.setCell]] at this
  exact this
 have HR:Hid (Core c w s none f s.far ((w.setCell ⟨c.tb,47,none⟩ (.int .i64 f)).alloc (spotC st.pl st.en (adr ho))) { s with fuel:=f }):=
  ⟨hT,rfl,rfl,⟨[],by simp,rfl⟩,by simp only;omega,((TF.refl c.tb c.rb s.sv.ownBlock none w).setCell _ _ (Or.inl rfl)).alloc _,Or.inl rfl⟩
 have HP:=hide' hp
 have HC:=hide' hc
 have HCall:=hide' hcall
 have HP2:Hid (TPre c ((w.setCell ⟨c.tb,47,none⟩ (.int .i64 f)).alloc (spotC st.pl st.en (adr ho))) { s with fuel:=f } st ho):=TPre.next hc hp HR.out (Or.inl rfl) hp.rd hp.nd hp.inv (fun _ _ _=>rfl) (fun _ e=>by cases e)
 have hfnc:=HR.out.tr.blk.cell (kd*3)
 have hfc:((w.setCell ⟨c.tb,47,none⟩ (.int .i64 f)).alloc (spotC st.pl st.en (adr ho))).cell? ⟨c.tb,kd*3,none⟩=some (.func (.func fn) #[] #[]):=by
  rw[hfnc]
  unfold trCells
  rw[List.getElem?_toArray,List.getElem?_append_left (by have:doFns.length=45:=rfl;omega),hfn]
  rfl
 have p0:((w.setCell ⟨c.tb,47,none⟩ (.int .i64 f)).alloc (spotC st.pl st.en (adr ho))).cell? ⟨pb,0,none⟩=some (.int .i64 kd):=by rw[← hk];exact HQ.out.cell 0
 have a0:((w.setCell ⟨c.tb,47,none⟩ (.int .i64 f)).alloc (spotC st.pl st.en (adr ho))).cell? ⟨w.heap.size,0,none⟩=some (.int .i64 st.pl):=HB.out.cell 0
 have a1:((w.setCell ⟨c.tb,47,none⟩ (.int .i64 f)).alloc (spotC st.pl st.en (adr ho))).cell? ⟨w.heap.size,1,none⟩=some (.int .i64 st.en):=HB.out.cell 1
 have a2:((w.setCell ⟨c.tb,47,none⟩ (.int .i64 f)).alloc (spotC st.pl st.en (adr ho))).cell? ⟨w.heap.size,2,none⟩=some (.pointer (adr ho)):=HB.out.cell 2
 clear hp hc hpt hcall hT hfnc hfn
 unfold spotC at *
 unfold spotV at *
 generalize hoa':adr ho=hoa at *
 clear hoa'
 go_enter Tryz.func62,Tryz.ntmps62
 go_wp2_with fail
 generalize ((w.setCell ⟨c.tb,47,none⟩ (.int .i64 f)).alloc (.cells #[.int .i64 st.pl,.int .i64 st.en,.pointer hoa] 159))=W at *
 clear c17 f17
 refine wp_region_mid 14 _ rfl rfl (by kernel_rfl) (by kernel_rfl) ?_
 simp only[List.take_succ_cons,List.take_zero,List.drop_succ_cons,List.drop_zero]
 repeat still_step
 refine wpStill_nil ?_
 unfold Oper.wp
 go_simp
 refine (HCall.out (W.drewN 1) (HP2.out.drewN 1) HQ.out).mono fun e4 w4 hpo=>?_
 have hpo2:=TPost.ahead (HR.out.drewN 1) hpo
 clear hpo
 have HPO:=hide' hpo2
 rcases hpo2 with ⟨d1,d2,d3⟩ | ⟨d1,d2,s',v,d3,d4⟩ | ⟨d1,d2,s',v,k,d3,d4⟩
 · subst d2
   clear d1 d3
   simp only
   exact ⟨rfl,HPO.out⟩
 · subst d3
   clear d1 d2 d4
   simp only
   repeat still_step
   refine wpStill_nil ?_
   go_wp2_with fail
   go_ret3
   exact HPO.out
 · subst d3
   clear d1 d2 d4
   simp only
   repeat still_step
   refine wpStill_nil ?_
   go_wp2_with fail
   go_ret3
   exact HPO.out
theorem run_tryNumber:∀ args W,Sem.run Tryz.prog (callFunc 120 args) W=.ok (.enter 120 args) W:=fun args W=>by
 unfold callFunc
 go_simp
 simp[Tryz.f120]
theorem run_tryLowNumber:∀ args W,Sem.run Tryz.prog (callFunc 123 args) W=.ok (.enter 123 args) W:=fun args W=>by
 unfold callFunc
 go_simp
 simp[Tryz.f123]
theorem run_tryFixed:∀ args W,Sem.run Tryz.prog (callFunc 125 args) W=.ok (.enter 125 args) W:=fun args W=>by
 unfold callFunc
 go_simp
 simp[Tryz.f125]
theorem run_tryStruct:∀ args W,Sem.run Tryz.prog (callFunc 128 args) W=.ok (.enter 128 args) W:=fun args W=>by
 unfold callFunc
 go_simp
 simp[Tryz.f128]
theorem run_tryChoice:∀ args W,Sem.run Tryz.prog (callFunc 131 args) W=.ok (.enter 131 args) W:=fun args W=>by
 unfold callFunc
 go_simp
 simp[Tryz.f131]
theorem run_tryMany:∀ args W,Sem.run Tryz.prog (callFunc 134 args) W=.ok (.enter 134 args) W:=fun args W=>by
 unfold callFunc
 go_simp
 simp[Tryz.f134]
theorem run_tryRule:∀ args W,Sem.run Tryz.prog (callFunc 137 args) W=.ok (.enter 137 args) W:=fun args W=>by
 unfold callFunc
 go_simp
 simp[Tryz.f137]
theorem run_tryHidden:∀ args W,Sem.run Tryz.prog (callFunc 140 args) W=.ok (.enter 140 args) W:=fun args W=>by
 unfold callFunc
 go_simp
 simp[Tryz.f140]
theorem run_tryLowHidden:∀ args W,Sem.run Tryz.prog (callFunc 143 args) W=.ok (.enter 143 args) W:=fun args W=>by
 unfold callFunc
 go_simp
 simp[Tryz.f143]
theorem run_tryRun:∀ args W,Sem.run Tryz.prog (callFunc 145 args) W=.ok (.enter 145 args) W:=fun args W=>by
 unfold callFunc
 go_simp
 simp[Tryz.f145]
theorem run_tryTimes:∀ args W,Sem.run Tryz.prog (callFunc 148 args) W=.ok (.enter 148 args) W:=fun args W=>by
 unfold callFunc
 go_simp
 simp[Tryz.f148]
theorem run_tryWindow:∀ args W,Sem.run Tryz.prog (callFunc 150 args) W=.ok (.enter 150 args) W:=fun args W=>by
 unfold callFunc
 go_simp
 simp[Tryz.f150]
theorem run_tryAt:∀ args W,Sem.run Tryz.prog (callFunc 153 args) W=.ok (.enter 153 args) W:=fun args W=>by
 unfold callFunc
 go_simp
 simp[Tryz.f153]
theorem run_trySummed:∀ args W,Sem.run Tryz.prog (callFunc 155 args) W=.ok (.enter 155 args) W:=fun args W=>by
 unfold callFunc
 go_simp
 simp[Tryz.f155]
theorem run_tryRest:∀ args W,Sem.run Tryz.prog (callFunc 157 args) W=.ok (.enter 157 args) W:=fun args W=>by
 unfold callFunc
 go_simp
 simp[Tryz.f157]
end Go.Proofs.YtmlkhhhjdpbhfaaGreatDoor

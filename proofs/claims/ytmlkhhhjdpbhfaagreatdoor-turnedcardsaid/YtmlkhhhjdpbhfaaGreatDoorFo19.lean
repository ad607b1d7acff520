import Derived.Test.YtmlkhhhjdpbhfaaGreatDoorFo18
namespace Go.Proofs.YtmlkhhhjdpbhfaaGreatDoor
open Go.RowKit
theorem Tryz.infoVal:(Tryz.prog.info? 55).map (fun i=>(i.zero,i.size,i.bytes))=some (some (.pointer none),1,8):=by kernel_rfl
structure KidV (w:World) (B:Nat) (sb:Option Nat) (v:Value) (kids:List (Nat × List UInt8)):Prop where
 row:w.ownsRow B 55 1 v kids.length (ptrsL (kids.map Prod.fst))
 nsb:∀ g,v.ownBlock=some g→some g≠sb
 ok:∃ f,∀ q,q∈kids→∃ lo hi,B≤lo∧hi≤w.heap.size∧(∀ g,v.ownBlock=some g→g<lo∨hi≤g)∧RepV f w lo hi sb q.1 q.2
theorem KidV.nil (w:World)(B:Nat)(sb:Option Nat):KidV w B sb (.slice none 0 0) []:=
 ⟨World.ownsRow_nil _ _ _ _,fun g e=>by simp[Value.ownBlock] at e,⟨0,fun q hq=>by simp at hq⟩⟩
theorem ownsRow_blocks {w w':World}{B:Nat}{e:TypeId}{size n:Nat}{v:Value}{xs:List Value}(h:w.ownsRow B e size v n xs)(hw:∀ g,v.ownBlock=some g→w'.heap[g]? = w.heap[g]?):w'.ownsRow B e size v n xs:=by
 refine ⟨h.1,?_⟩
 rcases h.2 with ⟨h1,h2⟩ | ⟨g,cap,cur,h1,h2,h3,h4⟩
 · exact Or.inl ⟨h1,h2⟩
 · exact Or.inr ⟨g,cap,cur,h1,h2,by rw[hw g (by rw[h1];rfl)];exact h3,h4⟩
theorem KidV.keep {w w':World}{B tb rb:Nat}{sb sb' hb:Option Nat}{v:Value}{kids:List (Nat × List UInt8)}(h:KidV w B sb v kids)(hf:TF tb rb sb hb w w')(h1:tb<B)(h2:rb<B)(h3:hb=none∨∀ g,hb=some g→g<B)(hs:sb'=sb∨∃ g,sb'=some g∧w.heap.size≤g):KidV w' B sb' v kids:=by
 have hsz:=hf.size
 have hk:∀ k,B≤k→k<w.heap.size→some k≠sb→w'.heap[k]? = w.heap[k]? ∧ some k≠sb':=fun k k1 k2 k3=>by
  refine ⟨hf.block k k2 (by omega) (by omega) k3 (fun e=>?_),fun e=>?_⟩
  · rcases h3 with h3 | h3
    · rw[h3] at e;cases e
    · have:=h3 k e.symm;omega
  · rcases hs with hs | ⟨g,hs,l⟩
    · rw[hs] at e;exact k3 e
    · rw[hs] at e;cases e;omega
 refine ⟨ownsRow_blocks h.row fun g e=>?_,fun g e=>?_,?_⟩
 · have:=h.row.lt g e;exact (hk g this.1 this.2 (h.nsb g e)).1
 · have:=h.row.lt g e;exact (hk g this.1 this.2 (h.nsb g e)).2
 · obtain ⟨f,hq⟩:=h.ok
   refine ⟨f,fun q hm=>?_⟩
   obtain ⟨lo,hi,a,b,c,d⟩:=hq q hm
   exact ⟨lo,hi,a,by omega,c,d.mono (fun k k1 k2 k3=>hk k (by omega) (by omega) k3) (Nat.le_refl _) (Nat.le_refl _)⟩
theorem KidV.ptrs {w:World}{B lo:Nat}{sb:Option Nat}{v:Value}{kids:List (Nat × List UInt8)}(h:KidV w B sb v kids)(hl:lo≤B):PtrsV w lo w.heap.size sb v (kids.map Prod.fst):=by
 rcases h.row.2 with ⟨e,h0⟩ | ⟨g,cap,cur,e,hb,hg,hn,hm,hs,ht⟩
 · exact Or.inl ⟨e,by rw[List.eq_nil_of_length_eq_zero h0];rfl⟩
 · subst e
   have hlt:=h.row.lt g rfl
   refine Or.inr ⟨g,cap,by simp,by omega,hlt.2,h.nsb g rfl,fun j hj=>?_⟩
   rw[h.row.cellAt j (by simpa using hj)]
   simp at hj
   simp[ptrsL,hj]
theorem KidV.reps {w:World}{B lo:Nat}{sb:Option Nat}{v:Value}{kids:List (Nat × List UInt8)}(h:KidV w B sb v kids)(hl:lo≤B):∃ f,∀ q,q∈kids→RepV f w lo w.heap.size sb q.1 q.2:=by
 obtain ⟨f,hq⟩:=h.ok
 refine ⟨f,fun q hm=>?_⟩
 obtain ⟨a,b,c,d,e,g⟩:=hq q hm
 exact g.mono (fun _ _ _ h=>⟨rfl,h⟩) (by omega) d
theorem KidV.push {w w1 w2:World}{B f vb g cap:Nat}{sb:Option Nat}{v:Value}{kids:List (Nat × List UInt8)}{t:List UInt8}(h:KidV w1 B sb v kids)(hv:∀ g,v.ownBlock=some g→g<w.heap.size)(hB:B≤w.heap.size)(_hle:w.heap.size≤w1.heap.size)(hr:RepV f w1 w.heap.size w1.heap.size sb vb t)(ob:Obj)(hsb:∀ g,sb=some g→g<w1.heap.size)(hown:w2.ownsRow B 55 1 (.slice (some ⟨g,0,none⟩) (kids.length+1) cap) (kids.length+1) (ptrsL (kids.map Prod.fst)++[.pointer (some ⟨vb,0,none⟩)]))(hgrow:(w1.alloc ob).grownBy w2 v.ownBlock)(hat:v.ownBlock=some g∨g=w1.heap.size+1):KidV w2 B sb (.slice (some ⟨g,0,none⟩) (kids.length+1) cap) (kids++[(vb,t)]):=by
 have hs2:=hgrow.size
 simp at hs2
 have keep:∀ k,k<w1.heap.size→some k≠v.ownBlock→w2.heap[k]? = w1.heap[k]? := fun k hk hne=>by
  rw[hgrow.block k (by simp;omega) hne,Below.heap_alloc _ _ _ hk]
 obtain ⟨f1,hq⟩:=h.ok
 refine ⟨by simpa[ptrsL] using hown,fun g' e=>?_,⟨max f f1,fun q hm=>?_⟩⟩
 · simp[Value.ownBlock] at e
   subst e
   rcases hat with h1 | h1
   · exact h.nsb g h1
   · intro e;have:=hsb g e.symm;omega
 · rcases List.mem_append.1 hm with hm | hm
   · obtain ⟨lo,hi,a,b,c,d⟩:=hq q hm
     refine ⟨lo,hi,a,by omega,fun g' e=>?_,(d.mono (fun k k1 k2 k3=>⟨keep k (by omega) (fun e=>by have:=c k e.symm;omega),k3⟩) (Nat.le_refl _) (Nat.le_refl _)).fuel (by omega)⟩
     simp[Value.ownBlock] at e
     subst e
     rcases hat with h1 | h1
     · exact c g h1
     · right;omega
   · simp at hm
     subst hm
     refine ⟨w.heap.size,w1.heap.size,hB,by omega,fun g' e=>?_,(hr.mono (fun k k1 k2 k3=>⟨keep k k2 (fun e=>by have:=hv k e.symm;omega),k3⟩) (Nat.le_refl _) (Nat.le_refl _)).fuel (by omega)⟩
     simp[Value.ownBlock] at e
     subst e
     rcases hat with h1 | h1
     · left;exact hv g h1
     · right;omega
theorem Core.own {c:Cx}{w w1 w2:World}{s s1:Ts}{hb:Option Nat}{f r:Nat}(h:Core c w s hb f r w1 s1)(h1:c.tb<w.heap.size)(h2:c.rb<w.heap.size)(ho:w2.os=w1.os)(ht:w2.tape=w1.tape)(hu:w2.output=w1.output)(hs:w1.heap.size≤w2.heap.size)(hk:∀ k,k<w1.heap.size→k<w.heap.size∨some k=s1.sv.ownBlock→w2.heap[k]? = w1.heap[k]?):Core c w s hb f r w2 s1:=by
 have hsz:=h.fr.size
 refine ⟨⟨?_,?_,h.tr.len,?_,h.tr.lt⟩,h.fuel,h.far,h.sp,h.bud,⟨ho.trans h.fr.os,ht.trans h.fr.tape,hu.trans h.fr.output,by omega,fun k k1 k2 k3 k4 k5=>?_⟩,h.sv⟩
 · have:=h.tr.blk;unfold Blk at *;rw[hk c.tb (by omega) (Or.inl h1)];exact this
 · have:=h.tr.rd;unfold Blk at *;rw[hk c.rb (by omega) (Or.inl h2)];exact this
 · exact ownsRow_blocks h.tr.own fun g e=>hk g (h.tr.own.lt g e).2 (Or.inr e.symm)
 · rw[hk k (by omega) (Or.inl k1)];exact h.fr.block k k1 k2 k3 k4 k5
theorem joinL_snoc (l:List (List UInt8))(t:List UInt8):joinL (l++[t])=joinT (joinL l) t:=by simp[joinL,List.foldl_append]
theorem tryT_strict {R:Nat→Bool}{bs:ByteArray}{N:Nat}(G:Nat→List It)(hG:∀ r,R r=true→TrW R false false (G r))(g fuel far:Nat)(q:Bool)(k:List It)(st:PS)(ho:(tryT G bs N g fuel far q k st).ok=true):(tryT G bs N g fuel far q k st).fuel<fuel:=by
 cases g with
 | zero=>cases ho
 | succ g=>
  cases k with
  | nil=>cases ho
  | cons x r=>
   cases fuel with
   | zero=>cases ho
   | succ fuel=>
    have ih:=tryT_ok (R:=R) (bs:=bs) (N:=N) G hG g
    clear ho
    refine Nat.lt_succ_of_le ?_
    unfold tryT
    repeat' split
    all_goals first | exact wholeT_less ih _ _ _ _ | exact choiceT_less ih _ _ _ _ _ | exact manyT_less ih _ _ _ _ _ _ | exact ih.less _ _ _ _ _ | exact timesT_less ih _ _ _ _ _ _ | exact windowT_less ih _ _ _ _ _ | exact atT_less ih _ _ _ _ _ | exact summedT_less ih _ _ _ _ _ | exact bytesT_less _ _ _ _ _ _ _
theorem manyT_succ (T:Nat→Nat→Bool→List It→PS→PO)(N:Nat)(kid:List It)(g fuel far:Nat)(st:PS)(t:List UInt8):manyT T N kid (g+1) fuel far st t=
 if (T fuel far false kid st).e≠0 then T fuel far false kid st
 else if (T fuel far false kid st).ok=false∨(T fuel far false kid st).st.pl=st.pl then madeO N (T fuel far false kid st).fuel (T fuel far false kid st).far st (91::t++[93])
 else manyT T N kid g (T fuel far false kid st).fuel (T fuel far false kid st).far (T fuel far false kid st).st (joinT t (T fuel far false kid st).t):=rfl
theorem KidV.form {w:World}{B:Nat}{sb:Option Nat}{v:Value}{kids:List (Nat × List UInt8)}(h:KidV w B sb v kids):∃ p cap,v=.slice p kids.length cap:=by
 rcases h.row.2 with ⟨e,h0⟩ | ⟨g,cap,cur,e,_⟩
 · exact ⟨none,0,by rw[e,h0]⟩
 · exact ⟨_,cap,e⟩
theorem KidV.made {W w6:World}{B lo tb rb:Nat}{sb:Option Nat}{v:Value}{kids:List (Nat × List UInt8)}{k:Int}(h:KidV W B sb v kids)(hf:TF tb rb none none W w6)(hb:Blk w6 W.heap.size #[.int .i64 k,.int .u32 0,.string ByteArray.empty,v] 177)(hl:lo≤B)(hB:B≤W.heap.size)(h1:tb<B)(h2:rb<B)(hk:k=3∨k=4)(hsb:∀ g,sb=some g→g<W.heap.size):
 ∃ f,RepV f w6 lo w6.heap.size sb W.heap.size (textV k 0 ByteArray.empty (kids.map Prod.snd)):=by
 have h6:=h.keep (hf.any sb none) h1 h2 (Or.inl rfl) (Or.inl rfl)
 obtain ⟨f,hr⟩:=h6.reps hl
 exact ⟨f+1,k,0,ByteArray.empty,v,kids,hb,by omega,hb.lt,fun e=>by have:=hsb _ e.symm;omega,h6.ptrs hl,hr,rfl,by omega,⟨by omega,by omega⟩,fun e=>by omega,by simp⟩
def fuelAt (w:World)(tb:Nat):Nat:=match w.cell? ⟨tb,47,none⟩ with | some (.int _ n)=>n.toNat | _=>0
theorem fuelAt_of {gb rb tb:Nat}{bs:ByteArray}{w:World}{s:Ts}(h:TrAt gb rb tb bs w s):fuelAt w tb=s.fuel:=by unfold fuelAt;rw[h.cfuel];simp
structure AtM (c:Cx) (T:Nat→Nat→Bool→List It→PS→PO) (r:List It) (w:World) (s:Ts) (ho:Option Nat) (hoa:Option Addr) (st:PS) (O:PO) (gj:Nat) (v:Value) (kids:List (Nat × List UInt8)) (stj:PS) (wr:World) (sj:Ts):Prop where
 pre:TPre c wr sj stj ho
 core:Core c w s none sj.fuel sj.far wr sj
 box:Blk wr w.heap.size #[.int .i64 stj.pl,.int .i64 stj.en,.pointer hoa] 159
 kid:KidV wr (w.heap.size+1) sj.sv.ownBlock v kids
 rem:O=manyT T c.N r gj sj.fuel sj.far stj (joinL (kids.map Prod.snd))
 gas:sj.fuel<gj
 cnt:kids.length+sj.fuel≤s.fuel
 nb:∀ g,sj.sv.ownBlock=some g→g≠w.heap.size
 deps:stj.deps=st.deps
 sz:w.heap.size<wr.heap.size
set_option maxRecDepth 100000 in
set_option maxHeartbeats 2000000 in
theorem many_calls (c:Cx)(hc:CxOk c)(gg:Nat)(ih:TryC c gg)(w:World)(s:Ts)(st:PS)(ho:Option Nat)(pb:Nat)(p:Pt)(r:List It)(hp:TPre c w s st ho)(hpt:PtBlk c.w0 pb p)(hk1:OneKid c w p r)(hwf:TrW c.R false false r)(hf:s.fuel≤gg):
 Calls Tryz.prog 134 #[.pointer (some ⟨c.tb,0,none⟩),.pointer (some ⟨pb,0,none⟩),spotV st.pl st.en (adr ho)] w fun e w'=>TPost c w s none false (manyT (tryT c.G c.bs c.N gg) c.N r (s.fuel+1) s.fuel s.far st []) e w':=by
 obtain ⟨i0,hi0,hz0,hz1,hz2⟩:=info_parts Tryz.infoVal
 obtain ⟨g,cap,qb,f2,lo2,hi2,hpv,hgl,hg0,hrep,hhi2⟩:=hk1.ex
 have hlt:=hp.tr.blk.lt
 have hlt2:=hc.lt
 have hle:=hc.le
 have hbs:=hc.bs
 have hptl:=hpt.lt
 have hbud0:=hp.bud
 have hnh:=hwf.notHid rfl
 have HP:=hide' hp
 have HC:=hide' hc
 have HI:=hide' ih
 have HWf:=hide' hwf
 have HRep:=hide' hrep
 have HPt:=hide' hpt
 have hP1:=hp.alloc hc (spotC st.pl st.en (adr ho))
 have HB1:=hide' (Blk.new w #[.int .i64 st.pl,.int .i64 st.en,.pointer (adr ho)] 159)
 have HR1:Hid (Core c w s .none s.fuel s.far (w.alloc (spotC st.pl st.en (adr ho))) s):=Core.refl (hp.tr.alloc _) ((TF.refl c.tb c.rb .none .none w).alloc _) hp.bud _
 have HP1:=hide' hP1
 have hs1:(w.alloc (spotC st.pl st.en (adr ho))).heap.size=w.heap.size+1:=by simp
 unfold spotC at HP1 HR1 hs1
 clear hp hc hpt ih hk1 hrep hP1
 unfold spotV
 generalize hoa':adr ho=hoa at *
 have HOA:=hide' hoa'
 clear hoa'
 go_enter Tryz.func134,Tryz.ntmps134
 go_wp2_with fail
 generalize w.alloc (.cells #[.int .i64 st.pl,.int .i64 st.en,.pointer hoa] 159)=W1 at *
 have HST:Hid (AtM c (tryT c.G c.bs c.N gg) r w s ho hoa st (manyT (tryT c.G c.bs c.N gg) c.N r (s.fuel+1) s.fuel s.far st []) (s.fuel+1) (.slice none 0 0) [] st W1 s):=by
  refine ⟨HP1.out,HR1.out,HB1.out,KidV.nil _ _ _,rfl,by omega,by simp,fun g e=>?_,rfl,by omega⟩
  have:=HP.out.tr.svlt g e
  omega
 clear HP1 HR1 HB1
 go_loopw [9,10,11,12,13] (fun v9 _ _ _ _ wr=>∃ (kids:List (Nat × List UInt8)) (stj:PS) (sj:Ts) (gj:Nat),Hid (AtM c (tryT c.G c.bs c.N gg) r w s ho hoa st (manyT (tryT c.G c.bs c.N gg) c.N r (s.fuel+1) s.fuel s.far st []) gj v9 kids stj wr sj)) (fun _ _ _ _ _ wr=>fuelAt wr c.tb)
 case atStart=>exact ⟨[],st,s,s.fuel+1,HST⟩
 case round=>
  clear HST
  obtain ⟨kids,stj,sj,gj,hat⟩:=hrel
  obtain ⟨b1,b2,b3,b4,b5,b6,b7,b8,b9,b10⟩:=hat.out
  obtain ⟨po9,cap9,h9⟩:=b4.form
  subst h9
  have HAt:=hat
  clear hat b1 b2 b3 b4 b5 b9
  go_wp2_with fail
  refine (mark_calls c.gb c.rb c.tb c.bs wr sj HAt.out.pre.tr).mono ?_
  rintro e w2 ⟨rfl,ht2,hf2,hs2⟩
  have hR2:Core c wr sj none sj.fuel sj.far w2 sj:=Core.refl ht2 hf2 HAt.out.pre.bud none
  have HB2:=hide' (hf2.blk HAt.out.box (by omega) (by omega) (by simp) (by simp))
  have HK2:=hide' (HAt.out.kid.keep (hf2.any sj.sv.ownBlock none) (by omega) (by omega) (Or.inl rfl) (Or.inl rfl))
  have HP2:Hid (TPre c w2 sj stj ho):=TPre.next HC.out HAt.out.pre hR2 (Or.inl rfl) HAt.out.pre.rd HAt.out.pre.nd HAt.out.pre.inv (fun _ _ _=>rfl) (fun _ e=>by cases e)
  have HR2:=hide' (HAt.out.core.trans hR2 (Or.inl rfl))
  clear ht2 hf2 hR2
  simp only
  go_wp2_with fail
  have HP3:=hide' (HP2.out.alloc HC.out (.cells #[.int .i64 sj.spans.length,.int .i64 sj.nodes] 272))
  have HR3:=hide' (HR2.out.belowAll ((Below.refl w2.heap.size w2).alloc (Nat.le_refl _) (.cells #[.int .i64 sj.spans.length,.int .i64 sj.nodes] 272)))
  have HB3:=hide' (Blk.alloc HB2.out (.cells #[.int .i64 sj.spans.length,.int .i64 sj.nodes] 272))
  have HM3:=hide' (Blk.new w2 #[.int .i64 sj.spans.length,.int .i64 sj.nodes] 272)
  have HK3:=hide' (HK2.out.keep (((TF.refl c.tb c.rb none none w2).alloc (.cells #[.int .i64 sj.spans.length,.int .i64 sj.nodes] 272)).any sj.sv.ownBlock none) (by omega) (by omega) (Or.inl rfl) (Or.inl rfl))
  have hs3:(w2.alloc (.cells #[.int .i64 sj.spans.length,.int .i64 sj.nodes] 272)).heap.size=wr.heap.size+2:=by simp;omega
  rw[hs2] at HM3
  generalize w2.alloc (.cells #[.int .i64 sj.spans.length,.int .i64 sj.nodes] 272)=W3 at *
  clear HP2 HR2 HB2 HK2
  have hk9:∀ g,(Value.slice po9 kids.length cap9).ownBlock=some g→w.heap.size+1≤g∧g<wr.heap.size:=fun g e=>HAt.out.kid.row.lt g e
  have a0:W3.cell? ⟨w.heap.size,0,none⟩=some (.int .i64 stj.pl):=HB3.out.cell 0
  have a1:W3.cell? ⟨w.heap.size,1,none⟩=some (.int .i64 stj.en):=HB3.out.cell 1
  have a2:W3.cell? ⟨w.heap.size,2,none⟩=some (.pointer hoa):=HB3.out.cell 2
  have p8:W3.cell? ⟨pb,8,none⟩=some (.slice (some ⟨g,0,none⟩) 1 cap):=by rw[← hpv,HP3.out.bel.cell (p:=⟨pb,8,none⟩) hptl];exact HPt.out.cell 8
  have k0:W3.cell? ⟨g,0,none⟩=some (.pointer (some ⟨qb,0,none⟩)):=by rw[HP3.out.bel.cell (p:=⟨g,0,none⟩) hgl];exact hg0
  refine wp_region_mid 8 _ rfl rfl (by kernel_rfl) (by kernel_rfl) ?_
  simp only[List.take_succ_cons,List.take_zero,List.drop_succ_cons,List.drop_zero]
  repeat still_step
  refine wpStill_nil ?_
  unfold Oper.wp
  go_simp
  have hcall:=HI.out (W3.drewN 1) sj stj ho r false false false false f2 lo2 hi2 qb (HP3.out.drewN 1) HRep.out hhi2 HWf.out (fun h=>by rcases h with h | h<;>cases h) rfl (by omega)
  rw[hidV_hidK hnh,silK_false hnh,HOA.out] at hcall
  unfold spotV at hcall
  have HOk:Hid ((tryT c.G c.bs c.N gg sj.fuel sj.far false r stj).ok=true→(Keeps c.bs c.N stj false (tryT c.G c.bs c.N gg sj.fuel sj.far false r stj)∧(tryT c.G c.bs c.N gg sj.fuel sj.far false r stj).e=0)∧(tryT c.G c.bs c.N gg sj.fuel sj.far false r stj).fuel<sj.fuel):=fun hok=>⟨by have:=(tryT_ok c.G HC.out.wf gg).fit sj.fuel sj.far false false false r _ HWf.out HP3.out.inv hok;rw[hnh] at this;exact this,tryT_strict c.G HC.out.wf gg sj.fuel sj.far false r stj hok⟩
  obtain ⟨gk,hgk⟩:∃ gk,gj=gk+1:=⟨gj-1,by omega⟩
  have hrem:=HAt.out.rem
  rw[hgk] at hrem
  have HO1:=hide' (hrem.trans (manyT_succ _ _ _ gk _ _ _ _))
  clear hrem
  generalize ho':tryT c.G c.bs c.N gg sj.fuel sj.far false r stj=o at *
  clear ho'
  refine hcall.mono fun e3 w3 hpo=>?_
  have hk:=hpo.keeps
  have hs4:wr.heap.size+2≤w3.heap.size:=by have:=hk.size;have h5:(W3.drewN 1).heap.size=W3.heap.size:=rfl;omega
  have hnb:some w.heap.size≠sj.sv.ownBlock:=fun e=>b8 _ e.symm rfl
  have hnm:some (wr.heap.size+1)≠sj.sv.ownBlock:=fun e=>by have:=HAt.out.pre.tr.svlt _ e.symm;omega
  have HB4:=hide' (hk.blk (show Blk (W3.drewN 1) w.heap.size _ _ from HB3.out) (by omega) (by omega) hnb (by simp))
  have HM4:=hide' (hk.blk (show Blk (W3.drewN 1) (wr.heap.size+1) _ _ from HM3.out) (by omega) (by omega) hnm (by simp))
  have HK3':=hide' (HK3.out.keep (((TF.refl c.tb c.rb none none W3).drewN 1).any sj.sv.ownBlock none) (by omega) (by omega) (Or.inl rfl) (Or.inl rfl))
  have HKF:=hide' hk
  have hpo2:=TPost.ahead (HR3.out.drewN 1) hpo
  clear a0 a1 a2 p8 k0 hcall hk
  by_cases hde:o.e≠0
  · rcases hpo2 with ⟨d1,d2,d3⟩ | ⟨d1,d2,s',v,d3,d4,d5,d6,d7,d8⟩ | ⟨d1,d2,s',v,k,d3,d4⟩
    rotate_left
    · exact absurd d1 hde
    · exact absurd d1 hde
    subst d2
    have HH:Hid (TPost c w s .none false (manyT (tryT c.G c.bs c.N gg) c.N r (s.fuel+1) s.fuel s.far st []) (.panicked (outV o.e)) w3):=by
     have h2:TPost c w s .none false (manyT (tryT c.G c.bs c.N gg) c.N r (s.fuel+1) s.fuel s.far st []) (.panicked (outV o.e)) w3:=by rw[HO1.out,if_pos hde];exact Or.inl ⟨d1,rfl,d3⟩
     exact h2
    clear d1 d3 hpo hde HO1
    simp only
    exact ⟨rfl,HH.out⟩
  rw[if_neg hde] at HO1
  clear hpo2
  by_cases hend:o.ok=false∨o.st.pl=stj.pl
  · rw[if_pos hend] at HO1
    have HEnd:Hid (∃ s' v k b,e3=.returned (.tuple #[v,.int .i64 k,.bool b])∧Core c (W3.drewN 1) sj none o.fuel o.far w3 s'∧(b=true→k=(stj.pl:Int))):=by
     have:∃ s' v k b,e3=.returned (.tuple #[v,.int .i64 k,.bool b])∧Core c (W3.drewN 1) sj none o.fuel o.far w3 s'∧(b=true→k=(stj.pl:Int)):=by
      rcases hpo with ⟨d1,d2,d3⟩ | ⟨d1,d2,s',v,d3,d4,d5,d6,d7,d8⟩ | ⟨d1,d2,s',v,k,d3,d4⟩
      · exact absurd d1 hde
      · refine ⟨s',v,_,true,d3,d4,fun _=>?_⟩
        rcases hend with h | h
        · rw[d2] at h;cases h
        · rw[h]
      · exact ⟨s',v,k,false,d3,d4,fun h=>by cases h⟩
     exact this
    obtain ⟨s',v,k,b,he3,hcore,hkp⟩:=HEnd.out
    subst he3
    have HC4:=hide' ((HR3.out.drewN 1).trans hcore (Or.inl rfl))
    obtain ⟨hsp1,hsp2⟩:=Core.spans (HP3.out.drewN 1) hcore
    have hbud:=hcore.bud
    have HCr:=hide' hcore
    clear hpo HEnd hcore hde hend
    have m0:w3.cell? ⟨wr.heap.size+1,0,none⟩=some (.int .i64 sj.spans.length):=HM4.out.cell 0
    have m1:w3.cell? ⟨wr.heap.size+1,1,none⟩=some (.int .i64 sj.nodes):=HM4.out.cell 1
    have n0:w3.cell? ⟨w.heap.size,0,none⟩=some (.int .i64 stj.pl):=HB4.out.cell 0
    have hgo:∀ b',b=b'→b'=false∨(b'=true∧k=(stj.pl:Int)):=fun b' e=>by cases b' with | false=>exact Or.inl rfl | true=>exact Or.inr ⟨rfl,hkp e⟩
    clear hkp
    rcases hgo b rfl with hb | ⟨hb,hk⟩
    all_goals
     (try subst hk)
     subst hb
     clear hgo
     simp only
     repeat still_step
     refine wpStill_nil ?_
     go_wp2_with fail
     refine (undo_calls c.gb c.rb c.tb c.bs hbs w3 s' HCr.out.tr sj.spans.length sj.nodes hsp2 hsp1 (by omega)).mono ?_
     rintro e w6 ⟨rfl,sv6,ht6,hf6,hv6⟩
     have hC6:=HCr.out.undo ht6 hf6 hv6
     have HC6:=hide' ((HR3.out.drewN 1).trans hC6 (Or.inl rfl))
     have HB6:=hide' (hf6.blk HB4.out (by omega) (by omega) (by simp) (by simp))
     have HK6:Hid (KidV w6 (w.heap.size+1) sv6.ownBlock (.slice po9 kids.length cap9) kids):=(HK3'.out.keep HKF.out (by omega) (by omega) (Or.inl rfl) HCr.out.sv).keep (hf6.any s'.sv.ownBlock none) (by omega) (by omega) (Or.inl rfl) (Or.inl hv6)
     have hs6:=hf6.size
     have q0:w6.cell? ⟨w.heap.size,0,none⟩=some (.int .i64 stj.pl):=HB6.out.cell 0
     clear ht6 hf6 hC6 m0 m1 n0
     generalize hS6:({ s' with read:=sj.read,spans:=sj.spans,nodes:=sj.nodes,sv:=sv6 }:Ts)=S6 at *
     have e1:S6.nodes=sj.nodes:=by rw[← hS6]
     have e2:S6.read=sj.read:=by rw[← hS6]
     have e3:S6.sv=sv6:=by rw[← hS6]
     clear hS6
     simp only
     go_wp2_with fail
     have hnd:=HAt.out.pre.nd
     have hval:=HAt.out.pre.inv.vals
     cases hm:sj.nodes with
     | zero=>
      have HMN:=hide' (fun W (h:TrAt c.gb c.rb c.tb c.bs W S6)=>made_none c.gb c.rb c.tb c.bs W _ h 4 0 ByteArray.empty (.slice po9 kids.length cap9) (by rw[e1];exact hm) rfl)
      refine wp_region_one (fun W=>W.cell? ⟨w.heap.size,0,none⟩=some (.int .i64 stj.pl)) [0,1,2,4,5] 3 6 _ _ _ rfl rfl rfl rfl (by kernel_rfl) (by kernel_rfl) (fun _ _ d _ _ h=>by cases d<;>exact h) ?_ q0
      simp only[List.filterMap_cons,List.filterMap_nil,List.getElem?_cons_zero,List.getElem?_cons_succ,List.drop_succ_cons,List.drop_zero]
      refine wpX_step _ rfl (fun W hW=>rfl) ?_
      refine wpX_step _ rfl (fun W hW=>rfl) ?_
      refine wpX_step _ rfl (fun W hW=>by go_simp;rfl) ?_
      refine wpX_step _ rfl (fun W hW=>rfl) ?_
      refine wpX_step (.int .i64 stj.pl) rfl (fun W hW=>by go_simp) ?_
      refine wpX_nil ?_
      unfold Oper.wp
      go_simp
      refine (HMN.out _ (HC6.out.tr.drewN 1)).mono ?_
      rintro e w7 ⟨rfl,rfl⟩
      simp only
      refine ⟨rfl,?_⟩
      rw[HO1.out]
      exact TPost.dead (HC6.out.drewN 1) _ (by omega)
     | succ m=>
      have HMS:=hide' (fun W (h:TrAt c.gb c.rb c.tb c.bs W S6)=>made_some c.gb c.rb c.tb c.bs W _ h 4 0 ByteArray.empty (.slice po9 kids.length cap9) m (by rw[e1];exact hm) (by have:=HC.out.N;omega) rfl)
      refine wp_region_one (fun W=>W.cell? ⟨w.heap.size,0,none⟩=some (.int .i64 stj.pl)) [0,1,2,4,5] 3 6 _ _ _ rfl rfl rfl rfl (by kernel_rfl) (by kernel_rfl) (fun _ _ d _ _ h=>by cases d<;>exact h) ?_ q0
      simp only[List.filterMap_cons,List.filterMap_nil,List.getElem?_cons_zero,List.getElem?_cons_succ,List.drop_succ_cons,List.drop_zero]
      refine wpX_step _ rfl (fun W hW=>rfl) ?_
      refine wpX_step _ rfl (fun W hW=>rfl) ?_
      refine wpX_step _ rfl (fun W hW=>by go_simp;rfl) ?_
      refine wpX_step _ rfl (fun W hW=>rfl) ?_
      refine wpX_step (.int .i64 stj.pl) rfl (fun W hW=>by go_simp) ?_
      refine wpX_nil ?_
      unfold Oper.wp
      go_simp
      refine (HMS.out _ (HC6.out.tr.drewN 1)).mono ?_
      rintro e w7 ⟨rfl,ht7,hf7,hb7,hs7⟩
      have HC7:=hide' ((HC6.out.drewN 1).made ht7 hf7)
      have HB7:=hide' (hf7.blk (show Blk (w6.drewN 1) w.heap.size _ _ from HB6.out) (by omega) (by omega) (by simp) (by simp))
      have hf7':TF c.tb c.rb none none w6 w7:=((TF.refl c.tb c.rb none none w6).drewN 1).trans hf7 (Or.inl rfl) (Or.inl rfl)
      have hb7':Blk w7 w6.heap.size #[.int .i64 4,.int .u32 0,.string ByteArray.empty,(.slice po9 kids.length cap9)] 177:=hb7
      have HV7:=hide' (HK6.out.made (lo:=w.heap.size) hf7' hb7' (by omega) (by omega) (by omega) (by omega) (Or.inr rfl) (fun g e=>by rw[← e3] at e;exact (HC6.out.tr.svlt g e).2))
      clear ht7 hf7 hb7 hf7' hb7'
      simp only
      refine ⟨HB7.out.cell 0,?_⟩
      repeat still_step
      refine wpStill_nil ?_
      go_wp2_with fail
      go_ret3
      rw[HO1.out]
      have hne:¬ stj.vals=c.N:=by omega
      unfold madeO
      rw[if_neg hne]
      obtain ⟨fv,hfv⟩:=HV7.out
      refine Or.inr (Or.inl ⟨rfl,rfl,_,_,rfl,HC7.out,?_,?_,Or.inr ⟨rfl,fv,w6.heap.size,rfl,?_⟩,fun h e=>by cases e⟩)
      · simp only[fitO];rw[e2];exact HAt.out.pre.rd
      · simp only[fitO];omega
      · simp only[fitO];rw[e3];exact hfv
  · rw[if_neg hend] at HO1
    have hok:o.ok=true:=by
     cases h:o.ok with
     | false=>exact absurd (Or.inl h) hend
     | true=>rfl
    obtain ⟨⟨hkp,_⟩,hst⟩:=HOk.out hok
    rcases hpo with ⟨d1,d2,d3⟩ | ⟨d1,d2,s',v,d3,d4,d5,d6,d7,d8⟩ | ⟨d1,d2,s',v,k,d3,d4⟩
    · exact absurd d1 hde
    rotate_left
    · rw[hok] at d2;cases d2
    subst d3
    obtain ⟨vb,fv,hvv,hrv⟩:∃ vb fv,v=.pointer (some ⟨vb,0,none⟩)∧RepV fv w3 (W3.drewN 1).heap.size w3.heap.size s'.sv.ownBlock vb o.t:=by
     rcases d7 with ⟨i1,_⟩ | ⟨_,fv,vb,i2,i3⟩
     · cases i1
     · exact ⟨vb,fv,i2,i3⟩
    subst hvv
    have HRV:=hide' hrv
    have HCr:=hide' d4
    have HC4:=hide' ((HR3.out.drewN 1).trans d4 (Or.inl rfl))
    have HD5:=hide' d5
    have HD6:=hide' d6
    have HKp:=hide' hkp
    have HK4:=hide' (HK3'.out.keep HKF.out (by omega) (by omega) (Or.inl rfl) d4.sv)
    have hpne:¬ (o.st.pl:Int)=(stj.pl:Int):=fun e=>hend (Or.inr (by omega))
    clear d1 d2 d4 d5 d6 d7 d8 hrv hkp hde hend hok
    have n0:w3.cell? ⟨w.heap.size,0,none⟩=some (.int .i64 stj.pl):=HB4.out.cell 0
    have nf:w3.frozen? ⟨w.heap.size,0,none⟩=false:=HB4.out.frozen 0
    have hkl:kids.length≤100000:=by omega
    have hne9:some w.heap.size≠(Value.slice po9 kids.length cap9).ownBlock:=fun e=>by have:=hk9 _ e.symm;omega
    generalize hopl:o.st.pl=opl at *
    have HOPL:=hide' hopl
    clear hopl
    simp only
    repeat still_step
    refine wpStill_nil ?_
    go_wp2_with
     (at_builtin
      refine wpList_append_lies _ rfl _ _ _ rfl (w.heap.size+1) 55 i0 _ 1 8 Tryz.underlying175 hi0 hz0 hz1 hz2 rfl (by omega) (.slice po9 kids.length cap9) kids.length (ptrsL (kids.map Prod.fst)) rfl (HK4.out.row.alloc _) ⟨w3.heap.size,0,none⟩ 1 1 [.pointer (some ⟨vb,0,none⟩)] rfl rfl (World.news_of_block (cs:=#[.pointer (some ⟨vb,0,none⟩)]) (t:=55) (fr:=(0,0)) (heap_alloc_new w3 _)) (by simp[Value.oneCell']) (by omega) (by unfold maxLen;omega) (by omega) (by simp;omega) (w3.heap.size+1) (by simp) ?_
      intro g1 cap1 w5 hown5 hgrow hat5 hlt5
      have hb5:=Blk.grown (Blk.alloc HB4.out (.cells #[.pointer (some ⟨vb,0,none⟩)] 55)) hgrow hne9
      have c5:w5.cell? ⟨w.heap.size,0,none⟩=some (.int .i64 stj.pl):=hb5.cell 0
      have f5:w5.frozen? ⟨w.heap.size,0,none⟩=false:=hb5.frozen 0)
    have hs5:=hgrow.size
    simp at hs5
    have hsd:(W3.drewN 1).heap.size=W3.heap.size:=rfl
    have hnbs:∀ g,s'.sv.ownBlock=some g→g≠w.heap.size:=fun g e=>by
     rcases HCr.out.sv with h | ⟨g',h,l⟩
     · rw[h] at e;exact b8 g e
     · rw[h] at e;cases e;omega
    have HCN:Hid (Core c w s none o.fuel o.far (w5.setCell ⟨w.heap.size,0,none⟩ (.int .i64 opl)) s'):=HC4.out.own (by omega) (by omega) hgrow.os hgrow.tape hgrow.output (by simp[World.setCell];omega) (fun k k1 k2=>by
     have h1:k≠w.heap.size:=by
      rcases k2 with h | h
      · omega
      · exact hnbs k h.symm
     have h2:some k≠(Value.slice po9 kids.length cap9).ownBlock:=fun e=>by
      rcases k2 with h | h
      · have:=hk9 k e.symm;omega
      · exact HK4.out.nsb k e.symm h
     rw[Below.heap_setCell _ _ _ _ h1,hgrow.block k (by simp;omega) h2,Below.heap_alloc _ _ _ k1])
    have HKN:Hid (KidV (w5.setCell ⟨w.heap.size,0,none⟩ (.int .i64 opl)) (w.heap.size+1) s'.sv.ownBlock (.slice (some ⟨g1,0,none⟩) (kids.length+1) cap1) (kids++[(vb,o.t)])):=
     (HK4.out.push (w:=W3.drewN 1) (fun g e=>by have:=hk9 g e;omega) (by omega) (by omega) HRV.out _ (fun g e=>(HC4.out.tr.svlt g e).2) hown5 hgrow hat5).keep (tb:=w.heap.size) (rb:=w.heap.size) (((TF.refl w.heap.size w.heap.size s'.sv.ownBlock none w5)).setCell _ _ (Or.inl rfl)) (by omega) (by omega) (Or.inl rfl) (Or.inl rfl)
    have HBN:=hide' (Blk.set hb5 0 (.int .i64 opl))
    have hdp:o.st.deps=st.deps:=(HKp.out.deps rfl).trans HAt.out.deps
    have hof:=HCr.out.fuel
    have hor:=HCr.out.far
    have HN:Hid (AtM c (tryT c.G c.bs c.N gg) r w s ho hoa st (manyT (tryT c.G c.bs c.N gg) c.N r (s.fuel+1) s.fuel s.far st []) gk (.slice (some ⟨g1,0,none⟩) (kids.length+1) cap1) (kids++[(vb,o.t)]) o.st (w5.setCell ⟨w.heap.size,0,none⟩ (.int .i64 opl)) s'):=by
     refine ⟨TPre.next HC.out HP.out HCN.out (Or.inl rfl) HD5.out HD6.out HKp.out.inv (fun _ _ _=>hdp) (fun _ e=>by cases e),?_,?_,HKN.out,?_,by omega,by simp;omega,hnbs,hdp,?_⟩
     · rw[hof,hor];exact HCN.out
     · rw[HOPL.out,HKp.out.en];exact HBN.out
     · rw[HO1.out,hof,hor,List.map_append,List.map_cons,List.map_nil,joinL_snoc]
     · simp[World.setCell];omega
    have hms:fuelAt (w5.setCell ⟨w.heap.size,0,none⟩ (.int .i64 opl)) c.tb<fuelAt wr c.tb:=by
     rw[fuelAt_of HN.out.pre.tr,fuelAt_of HAt.out.pre.tr];omega
    clear hgrow hown5 hat5 hb5 c5 f5
    go_roundw
    case rel=>exact ⟨_,_,_,_,HN⟩
    case measure=>exact hms
end Go.Proofs.YtmlkhhhjdpbhfaaGreatDoor

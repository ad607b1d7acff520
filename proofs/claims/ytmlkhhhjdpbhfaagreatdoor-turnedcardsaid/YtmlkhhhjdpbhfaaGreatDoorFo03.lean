import Derived.Test.YtmlkhhhjdpbhfaaGreatDoorFo02
import Derived.Deep.RegionHeld3
import Derived.Deep.DrawnRows
import Derived.Test.YtmlkhhhjdpbhfaaGreatDoorFo01
import Derived.Laws.Bits64b
namespace Go.Proofs.YtmlkhhhjdpbhfaaGreatDoor
open Go.RowKit
theorem Tryz.infoPtr:(Tryz.prog.info? 121).map (fun i=>(i.zero,i.size,i.bytes))=some (some (.pointer none),1,8):=by kernel_rfl
def PartS (s:ByteArray)(rule:Int)(f:Nat):Prop:=
 ∀ (w:World) (rb i:Nat),Rd w rb s i→Shp w→0<rb→i≤s.size→s.size+1-i≤f→
  Calls Tryz.prog 98 #[.pointer (some ⟨rb,0,none⟩)] w fun e w'=>
   ∃ o,e=.returned (.tuple #[.pointer o,.bool (prs s rule f i).ok])∧Rd w' rb s (prs s rule f i).i∧Fr w.heap.size rb w w'∧
    ((prs s rule f i).ok=true→∃ pb,o=some ⟨pb,0,none⟩∧RepS f w' w.heap.size w'.heap.size pb false (prs s rule f i).its)
theorem Shp.fr {w w':World}{B rb:Nat}(h:Shp w)(hf:Fr B rb w w')(h0:0<rb)(hB:0<B):Shp w':=by
 refine ⟨fun j v hv=>?_,by have:=hf.size;have:=h.2;omega⟩
 rw[World.cell?_of_block (w:=w) (hf.block 0 hB (by omega))]
 exact h.1 j v hv
def InnerPost (s:ByteArray)(f:Nat)(rb pb:Nat)(sl:Bool)(w:World)(p:Pt)(kids:List (Nat × List It))(r:Res)(e:Ending)(w':World):Prop:=
 e=.returned (.bool r.ok)∧Rd w' rb s r.i∧Fr pb rb w w'∧w.heap.size≤w'.heap.size∧(r.ok=true→∃ q v',MkN f w' pb sl { p with v:=v' } kids (q,r.its))
theorem inner_fin {s:ByteArray}{f:Nat}{rb pb:Nat}{sl:Bool}{w w1 w2:World}{p:Pt}{kids:List (Nat × List It)}{rok:Bool}{ri:Nat}{rits:List It}{o:Option Addr}{g cap:Nat}(hM0:Mk f w pb sl p kids)(hM1:Mk f w1 pb sl p kids)(hr1:Rd w1 rb s ri)(hf1:Fr w.heap.size rb w w1)(hrp:rb<pb)(hrep:rok=true→∃ q,o=some ⟨q,0,none⟩∧RepS f w1 w.heap.size w1.heap.size q false rits)(hown2:w2.ownsRow (pb+1) 121 1 (.slice (some ⟨g,0,none⟩) (kids.length+1) cap) (kids.length+1) (ptrsL (kids.map Prod.fst)++[.pointer o]))(ob:Obj)(hgrow:(w1.alloc ob).grownBy w2 p.v.ownBlock)(hat:p.v.ownBlock=some g∨g=w1.heap.size+1)(hb2:PtBlk w2 pb p):
 InnerPost s f rb pb sl w p kids ⟨rok,ri,rits⟩ (.returned (.bool rok)) (w2.setCell ⟨pb,8,none⟩ (.slice (some ⟨g,0,none⟩) (kids.length+1) cap)):=by
 have hpl:=hM0.blk.lt
 have hs1:=hf1.size
 have hs2:=hgrow.size
 simp at hs2
 have hrow:∀ k,p.v.ownBlock=some k→pb+1≤k:=fun k e=>(hM1.row.lt k e).1
 have keep:∀ k,k<w1.heap.size→k≠pb→some k≠p.v.ownBlock→(w2.setCell ⟨pb,8,none⟩ (.slice (some ⟨g,0,none⟩) (kids.length+1) cap)).heap[k]? = w1.heap[k]? := by
  intro k hk h1 h2
  rw[Below.heap_setCell _ _ _ _ h1,hgrow.block k (by simp;omega) h2,Below.heap_alloc _ _ _ hk]
 refine ⟨rfl,?_,?_,?_,fun hok=>?_⟩
 · have:=hr1
   unfold Rd Blk at *
   rw[keep rb (by omega) (by omega) (fun e=>by have:=hrow rb e.symm;omega)]
   exact this
 · refine ⟨?_,?_,?_,?_,fun k hk hne=>?_⟩
   · show w2.os=_;rw[hgrow.os];exact hf1.os
   · show w2.tape=_;rw[hgrow.tape];exact hf1.tape
   · show w2.output=_;rw[hgrow.output];exact hf1.output
   · simp[World.setCell];omega
   · rw[keep k (by omega) (by omega) (fun e=>by have:=hrow k e.symm;omega)]
     exact hf1.block k (by omega) hne
 · simp[World.setCell];omega
 · obtain ⟨q,rfl,hq⟩:=hrep hok
   refine ⟨q,.slice (some ⟨g,0,none⟩) (kids.length+1) cap,hb2.pv _,?_,?_⟩
   · have:=ownsRow_setCell_below hown2 (a:=⟨pb,8,none⟩) (by simp) (.slice (some ⟨g,0,none⟩) (kids.length+1) cap)
     simpa[ptrsL] using this
   · refine ⟨w.heap.size,hpl,fun z hz=>?_,w1.heap.size,by simp[World.setCell];omega,fun g' e=>?_,hq.mono (fun k h1 h2=>keep k (by omega) (by omega) (fun e=>?_)) (Nat.le_refl _) (Nat.le_refl _)⟩
     · obtain ⟨lo,hi,a,b,c,d⟩:=hM0.ok z hz
       refine ⟨lo,hi,a,b,fun g' e=>?_,d.mono (fun k h1 h2=>?_) (Nat.le_refl _) (Nat.le_refl _)⟩
       · simp[Value.ownBlock] at e
         subst e
         rcases hat with h | h
         · exact c g h
         · right;omega
       · rw[keep k (by omega) (by omega) (fun e=>by rcases c k e.symm with h | h<;>omega)]
         exact hf1.block k (by omega) (by omega)
     · simp[Value.ownBlock] at e
       subst e
       rcases hat with h | h
       · left;exact (hM0.row.lt g h).2
       · right;omega
     · have:=(hM0.row.lt k e.symm).2;omega
set_option maxRecDepth 100000 in
set_option maxHeartbeats 4000000 in
theorem innerPart_calls (s:ByteArray)(rule:Int)(f:Nat)(ih:PartS s rule f)(w:World)(rb pb i:Nat)(sl:Bool)(p:Pt)(kids:List (Nat × List It))(hr:Rd w rb s i)(hS:Shp w)(h0:0<rb)(hrp:rb<pb)(hi:i≤s.size)(hf:s.size+1-i≤f)(hM:Mk f w pb sl p kids)(hk:kids.length≤1000):
 Calls Tryz.prog 198 #[.pointer (some ⟨rb,0,none⟩),.pointer (some ⟨pb,0,none⟩)] w fun e w'=>InnerPost s f rb pb sl w p kids (prs s rule f i) e w':=by
 obtain ⟨i0,hi0,hz0,hz1,hz2⟩:=info_parts Tryz.infoPtr
 have HR:=hr
 have HM:Hid (Mk f w pb sl p kids):=hM
 have HS:Hid (Shp w):=hS
 have HI:Hid (PartS s rule f):=ih
 have HR:Hid (Rd w rb s i):=hr
 have hpl:=hM.blk.lt
 clear hr hM hS ih
 go_enter Tryz.func198,Tryz.ntmps198
 go_wp2_with fail
 refine (HI.out w rb i HR.out HS.out h0 hi hf).mono ?_
 rintro e w1 ⟨o,rfl,hr1,hfr1,hrep⟩
 have hM1:=HM.out.fr hfr1 hrp
 generalize hp:prs s rule f i=r at *
 obtain ⟨rok,ri,rits⟩:=r
 have HPr:Hid (prs s rule f i=⟨rok,ri,rits⟩):=hp
 clear hp
 have hsz:=hfr1.size
 have c7:w1.cell? ⟨pb,8,none⟩=some p.v:=hM1.blk.cell 8
 have f7:w1.frozen? ⟨pb,8,none⟩=false:=hM1.blk.frozen 8
 have c7a:∀ o,(w1.alloc o).cell? ⟨pb,8,none⟩=some p.v:=fun o=>(Blk.alloc hM1.blk o).cell 8
 have HM1:Hid (Mk f w1 pb sl p kids):=hM1
 have hpl1:=hM1.blk.lt
 have HR1:Hid (Rd w1 rb s ri):=hr1
 have HF1:Hid (Fr w.heap.size rb w w1):=hfr1
 have HRep:Hid (rok=true→∃ pb,o=some ⟨pb,0,none⟩∧RepS f w1 w.heap.size w1.heap.size pb false rits):=hrep
 clear hM1 hr1 hfr1 hrep
 simp only
 go_wp2_with
  (at_builtin
   refine wpList_append_lies _ rfl _ _ _ rfl (pb+1) 121 i0 _ 1 8 Tryz.underlying183 hi0 hz0 hz1 hz2 rfl (by omega) p.v kids.length (ptrsL (kids.map Prod.fst)) rfl (HM1.out.row.alloc _) ⟨w1.heap.size,0,none⟩ 1 1 [.pointer o] rfl rfl (World.news_of_block (cs:=#[.pointer o]) (t:=121) (fr:=(0,0)) (heap_alloc_new w1 _)) (by simp[Value.oneCell']) (by omega) (by unfold maxLen;omega) (by omega) (by simp;omega) (w1.heap.size+1) (by simp) ?_
   intro g cap w2 hown2 hgrow hat hlt2
   have hne:some pb≠p.v.ownBlock:=fun e=>by have:=(HM1.out.row.lt pb e.symm).1;omega
   have hb2:PtBlk w2 pb p:=Blk.grown (Blk.alloc HM1.out.blk _) hgrow hne
   have c72:w2.cell? ⟨pb,8,none⟩=some p.v:=hb2.cell 8
   have f72:w2.frozen? ⟨pb,8,none⟩=false:=hb2.frozen 8)
 go_ret
 rw[HPr.out]
 exact inner_fin HM.out HM1.out HR1.out HF1.out hrp HRep.out hown2 _ hgrow hat hb2
def rdPl (w:World)(rb:Nat):Nat:=match w.cell? ⟨rb,1,none⟩ with | some (.int _ n)=>n.toNat | _=>0
theorem rdPl_of {w:World}{rb:Nat}{s:ByteArray}{i:Nat}(h:Rd w rb s i):rdPl w rb=i:=by
 have:w.cell? ⟨rb,1,none⟩=some (.int .i64 i):=h.cell 1
 unfold rdPl;rw[this];simp
theorem hide' {p:Prop}(h:p):Hid p:=h
theorem Res.pre_pre' (l m:List It)(q:Res):(q.pre m).pre l=q.pre (l++m):=by simp[Res.pre]
def kHid (k:Int):Bool:=k==7||k==8
def kSil (k:Int):Bool:=k==2||kHid k
set_option maxHeartbeats 1000000 in
theorem isHidden_calls (k:Int)(w:World):Calls Tryz.prog 100 #[.int .i64 k] w fun e w'=>e=.returned (.bool (kHid k))∧w'=w:=by
 go_enter Tryz.func100,Tryz.ntmps100
 go_wp2
 all_goals
  go_ret
  refine ⟨?_,rfl⟩
  first
   | rfl
   | (unfold kHid;simp[*])
set_option maxHeartbeats 1000000 in
theorem isSilent_calls (k:Int)(w:World):Calls Tryz.prog 206 #[.int .i64 k] w fun e w'=>e=.returned (.bool (kSil k))∧w'=w:=by
 go_enter Tryz.func206,Tryz.ntmps206
 by_cases h2:k=2
 · have h2':(k==2)=true:=by simpa using h2
   go_wp2_with fail
   go_ret
   exact ⟨by simp[kSil,h2],rfl⟩
 · have h2':(k==2)=false:=by simpa using h2
   go_wp2_with fail
   refine (isHidden_calls _ _).mono ?_
   rintro e w1 ⟨rfl,rfl⟩
   simp only
   go_wp2_with fail
   go_ret
   exact ⟨by simp[kSil,h2'],rfl⟩
theorem kOf_sil (c:Int):kSil (kOf c)=silB c:=by
 unfold kSil kHid silB kOf
 by_cases h82:c=82
 · subst h82;rfl
 · rw[if_neg h82]
   by_cases h1:c=39
   · subst h1;rfl
   · by_cases h2:c=104
     · subst h2;rfl
     · by_cases h3:c=107
       · subst h3;rfl
       · have n2:kindV c≠2:=fun h=>by have:=kindV_in c 2 h (by omega);simp[sh,shapesL] at this;omega
         have n7:kindV c≠7:=fun h=>by have:=kindV_in c 7 h (by omega);simp[sh,shapesL] at this;omega
         have n8:kindV c≠8:=fun h=>by have:=kindV_in c 8 h (by omega);simp[sh,shapesL] at this;omega
         have m2:¬ (kindV c:Int)=2:=by omega
         have m7:¬ (kindV c:Int)=7:=by omega
         have m8:¬ (kindV c:Int)=8:=by omega
         simp[h1,h2,h3,m2,m7,m8]
theorem MkN.see {f:Nat}{w:World}{pb:Nat}{sl:Bool}{p:Pt}{kids:List (Nat × List It)}{q:Nat}{its:List It}(h:MkN f w pb sl p kids (q,its)):
 ∃ x rest pq g cap,its=x::rest∧PtBlk w q pq∧pq.k=kOf x.c∧p.v=.slice (some ⟨g,0,none⟩) (kids.length+1) cap∧w.cell? ⟨g,kids.length,none⟩=some (.pointer (some ⟨q,0,none⟩)):=by
 obtain ⟨B,hB,hk,hi,h1,h2,h3⟩:=h.ok
 obtain ⟨x,rest,p',e,b,k,l1,l2⟩:=h3.head
 obtain ⟨g,cap,hv,_,_⟩:=h.row.form (by simp)
 refine ⟨x,rest,p',g,cap,e,b,k,by simpa using hv,?_⟩
 have hr:=h.row
 rw[hv] at hr
 have:=hr.cellAt kids.length (by simp)
 rw[this]
 simp[ptrsL]
structure AtB (s:ByteArray) (rule:Int) (f:Nat) (rb pb:Nat) (w:World) (p:Pt) (i i' n:Nat) (kids:List (Nat × List It)) (v:Value) (wr:World):Prop where
 rd:Rd wr rb s i'
 made:Mk f wr pb true { p with v:=v } kids
 fr:Fr pb rb w wr
 sz:w.heap.size≤wr.heap.size
 hi:i'≤s.size
 hn:n+i≤i'
 hk:kids.length≤n
 eq:loopB (prs s rule f) s f i=(loopB (prs s rule f) s (f-n) i').pre (kids.flatMap Prod.snd)
def BracketPost (s:ByteArray)(f:Nat)(rb pb:Nat)(w:World)(p:Pt)(kids:List (Nat × List It))(r:Res)(e:Ending)(w':World):Prop:=
 e=.returned (.bool r.ok)∧Rd w' rb s r.i∧Fr pb rb w w'∧w.heap.size≤w'.heap.size∧(r.ok=true→∃ more v',Mk f w' pb true { p with v:=v' } (kids++more)∧more.flatMap Prod.snd=r.its)
set_option maxRecDepth 100000 in
set_option maxHeartbeats 4000000 in
theorem bracket_calls (s:ByteArray)(rule:Int)(hs:s.size≤400)(f:Nat)(ih:PartS s rule f)(w:World)(rb pb i:Nat)(p:Pt)(hr:Rd w rb s i)(hS:Shp w)(h0:0<rb)(hrp:rb<pb)(hi:i≤s.size)(hf:s.size+1-i≤f)(hM:Mk f w pb true p []):
 Calls Tryz.prog 197 #[.pointer (some ⟨rb,0,none⟩),.pointer (some ⟨pb,0,none⟩)] w fun e w'=>BracketPost s f rb pb w p [] (loopB (prs s rule f) s f i) e w':=by
 have HM:Hid (Mk f w pb true p []):=hM
 have HS:Hid (Shp w):=hS
 have HI:Hid (PartS s rule f):=ih
 have HR:Hid (Rd w rb s i):=hr
 have hpl:=hM.blk.lt
 clear hr hM hS ih
 go_enter Tryz.func197,Tryz.ntmps197
 go_wp2_with fail
 go_loopw [4] (fun _ wr=>∃ (i' n:Nat) (kids:List (Nat × List It)) (v:Value),Hid (AtB s rule f rb pb w p i i' n kids v wr)) (fun _ wr=>s.size+1-rdPl wr rb)
 case atStart=>
  exact ⟨i,0,[],p.v,⟨HR.out,HM.out,Fr.refl _ _ _,Nat.le_refl _,hi,by omega,by simp,by simp[Res.pre]⟩⟩
 case round=>
  obtain ⟨i',n,kids,v,hat⟩:=hrel
  obtain ⟨a1,a2,a3,a4,a5,a6,a7,a8⟩:=hat.out
  have hpl2:=rdPl_of a1
  have HPl:Hid (rdPl wr rb=i'):=hpl2
  have Ha:Hid (AtB s rule f rb pb w p i i' n kids v wr):=hat
  have HS2:Hid (Shp wr):=HS.out.fr a3 h0 (by omega)
  have HA8:Hid (loopB (prs s rule f) s f i=(loopB (prs s rule f) s (f-n) i').pre (kids.flatMap Prod.snd)):=a8
  have HUn:Hid (loopB (prs s rule f) s (f-n) i'=if (prs s rule f i').ok=true then (if bt s (prs s rule f i').i=41 then ⟨true,(prs s rule f i').i+1,(prs s rule f i').its⟩ else (loopB (prs s rule f) s (f-(n+1)) (prs s rule f i').i).pre (prs s rule f i').its) else ⟨false,(prs s rule f i').i,[]⟩):=by
   have:loopB (prs s rule f) s (f-n) i'=if (prs s rule f i').ok=true then (if bt s (prs s rule f i').i=41 then ⟨true,(prs s rule f i').i+1,(prs s rule f i').its⟩ else (loopB (prs s rule f) s (f-(n+1)) (prs s rule f i').i).pre (prs s rule f i').its) else ⟨false,(prs s rule f i').i,[]⟩:=by
    rw[show f-n=(f-(n+1))+1 by omega,loopB]
   exact this
  have hgood:=prs_good s rule f i' a5
  have HGood:Hid ((prs s rule f i').i≤s.size∧i'≤(prs s rule f i').i∧((prs s rule f i').ok=true→i'<(prs s rule f i').i∧(prs s rule f i').its.length≤(prs s rule f i').i-i')):=hgood
  clear hpl2 hat a8 hgood
  go_wp2_with fail
  refine (innerPart_calls s rule f HI.out wr rb pb i' true { p with v:=v } kids Ha.out.rd HS2.out h0 hrp a5 (by omega) Ha.out.made (by omega)).mono ?_
  rintro e w2 ⟨rfl,b1,b2,b3,b4⟩
  clear a1 a2
  generalize hpr:prs s rule f i'=r at *
  have HPr:=hide' hpr
  clear hpr
  obtain ⟨rok,ri,rits⟩:=r
  cases rok
  · have HF:Hid (loopB (prs s rule f) s f i=⟨false,ri,kids.flatMap Prod.snd⟩):=by
     have:loopB (prs s rule f) s f i=⟨false,ri,kids.flatMap Prod.snd⟩:=by
      have h:=HUn.out
      rw[HA8.out,h];simp[Res.pre]
     exact this
    clear HUn HA8
    simp only
    go_wp2_with fail
    go_ret
    rw[HF.out]
    exact ⟨rfl,b1,a3.trans b2,by omega,fun h=>by cases h⟩
  · obtain ⟨q,v',hmk⟩:=b4 rfl
    obtain ⟨g1,g2,g3⟩:=HGood.out
    obtain ⟨g3,g4⟩:=g3 rfl
    simp only at b1 g1 g2 g3 g4
    have hplw:=hmk.blk.lt
    obtain ⟨hq1,hq2⟩:=hmk.lt
    simp only at hq1 hq2
    obtain ⟨x,rest,pq,g,cap,rfl,hpq,hkq,hvv,hcg⟩:=hmk.see
    simp only at hvv
    subst hvv
    have HTL:=hide' hmk.tell
    have c8:w2.cell? ⟨pb,8,none⟩=some (.slice (some ⟨g,0,none⟩) (kids.length+1) cap):=hmk.blk.cell 8
    have q0:w2.cell? ⟨q,0,none⟩=some (.int .i64 (kOf x.c)):=by rw[← hkq];exact hpq.cell 0
    have q7:w2.cell? ⟨q,7,none⟩=some (.bool pq.sl):=hpq.cell 7
    have qf:w2.frozen? ⟨q,7,none⟩=false:=hpq.frozen 7
    have hkl:kids.length≤400:=by omega
    have HB1:=hide' (Blk.setOther b1 ⟨q,7,none⟩ (by simp only;omega) (.bool (silB x.c)))
    have HBF:=hide' ((a3.trans b2).setCell (p:=⟨q,7,none⟩) (Or.inr (by simp only;omega)) (.bool (silB x.c)))
    clear b4 hmk hpq hkq b1
    simp only
    go_wp2_with fail
    go_quiet (fail)
    go_wp2_with fail
    refine (isSilent_calls _ _).mono ?_
    rintro e w9 ⟨rfl,h9⟩
    subst h9
    simp only[kOf_sil]
    go_wp2_with fail
    have HMK:Hid (Mk f ((w2.drewN nq).setCell ⟨q,7,none⟩ (.bool (silB x.c))) pb true { p with v:=.slice (some ⟨g,0,none⟩) (kids.length+1) cap } (kids++[(q,x::rest)])):=⟨HTL.out.blk,HTL.out.row,fun z hz=>by obtain ⟨lo,hi,z1,z2,z3,z4⟩:=HTL.out.ok z hz;exact ⟨lo,hi,z1,z2,z3,z4.mono (fun _ _ _=>rfl) (Nat.le_refl _) (Nat.le_refl _)⟩⟩
    have HB2:Hid (Rd ((w2.drewN nq).setCell ⟨q,7,none⟩ (.bool (silB x.c))) rb s ri):=HB1.out
    have HFW:Hid (Fr pb rb w ((w2.drewN nq).setCell ⟨q,7,none⟩ (.bool (silB x.c)))):=⟨HBF.out.os,HBF.out.tape,HBF.out.output,HBF.out.size,HBF.out.block⟩
    have hszW:((w2.drewN nq).setCell ⟨q,7,none⟩ (.bool (silB x.c))).heap.size=w2.heap.size:=by simp[World.setCell]
    generalize (w2.drewN nq).setCell ⟨q,7,none⟩ (.bool (silB x.c))=W2 at *
    clear HTL HB1 HBF c8 q0 q7 qf hcg
    refine (takeJust_calls W2 rb s ri 41 HB2.out hs g1 (by omega)).mono ?_
    rintro e w3 ⟨hsm,rfl,hr3⟩
    have HM3:Hid (Mk f w3 pb true { p with v:=.slice (some ⟨g,0,none⟩) (kids.length+1) cap } (kids++[(q,x::rest)])):=HMK.out.fr (hsm.fr _) hrp
    have HR3:Hid (Rd w3 rb s (adv s ri 41)):=hr3
    have hs3:=hsm.size
    have HFr3:Hid (Fr pb rb w w3):=HFW.out.trans (hsm.fr _)
    clear hr3
    cases hat41:isAt s ri 41
    · have hn41:¬ bt s ri=41:=by unfold isAt at hat41;simpa using hat41
      have HN:Hid (AtB s rule f rb pb w p i ri (n+1) (kids++[(q,x::rest)]) (.slice (some ⟨g,0,none⟩) (kids.length+1) cap) w3):=by
       refine ⟨?_,HM3.out,HFr3.out,by omega,g1,by omega,by simp;omega,?_⟩
       · have:=HR3.out;unfold adv at this;rwa [if_neg hn41] at this
       · have h:=HUn.out
         rw[if_pos (by trivial),if_neg hn41] at h
         rw[HA8.out,h,Res.pre_pre'];simp
      have HPN:Hid (rdPl w3 rb=ri):=rdPl_of HN.out.rd
      clear HUn HA8
      simp only
      go_wp2_with fail
      go_roundw
      case rel=>exact ⟨ri,n+1,_,_,HN⟩
      case measure=>rw[HPl.out,HPN.out];omega
    · have h41:bt s ri=41:=by unfold isAt at hat41;simpa using hat41
      have HF:Hid (loopB (prs s rule f) s f i=⟨true,ri+1,kids.flatMap Prod.snd++(x::rest)⟩):=by
       have:loopB (prs s rule f) s f i=⟨true,ri+1,kids.flatMap Prod.snd++(x::rest)⟩:=by
        have h:=HUn.out
        rw[if_pos (by trivial),if_pos h41] at h
        rw[HA8.out,h];simp[Res.pre]
       exact this
      have HR4:Hid (Rd w3 rb s (ri+1)):=by
       have:=HR3.out;unfold adv at this;rw[if_pos h41] at this;exact this
      clear HUn HA8 h41
      simp only
      go_wp2_with fail
      go_ret
      rw[HF.out]
      exact ⟨rfl,HR4.out,HFr3.out,by omega,fun _=>⟨kids++[(q,x::rest)],_,by simpa using HM3.out,by simp⟩⟩
def bn (s:ByteArray)(i:Nat):Nat:=(bt s i).toNat
theorem bn_lt (s:ByteArray)(i:Nat):bn s i<256:=by have:=bt_lo s i;have:=bt_hi s i;unfold bn;omega
theorem bn_cast (s:ByteArray)(i:Nat):((bn s i:Nat):Int)=bt s i:=by have:=bt_lo s i;unfold bn;omega
def hiV (b:ByteArray):Nat→Nat
 | 0=>0
 | i+1=>hiV b i*256+bn b i
def loV (b:ByteArray):Nat→Nat
 | 0=>0
 | i+1=>loV b i+bn b i*256 ^ i
def sumV (b:ByteArray)(w:Nat):Nat→Nat
 | 0=>0
 | i+1=>(sumV b w i*31+bn b i) % 256 ^ w
theorem hiV_lt (b:ByteArray)(i:Nat):hiV b i<256 ^ i:=by
 induction i with
 | zero=>simp[hiV]
 | succ i ih=>have:=bn_lt b i;rw[hiV,Nat.pow_succ];omega
theorem loV_lt (b:ByteArray)(i:Nat):loV b i<256 ^ i:=by
 induction i with
 | zero=>simp[loV]
 | succ i ih=>
  have h:=bn_lt b i
  have:bn b i*256 ^ i≤255*256 ^ i:=Nat.mul_le_mul_right _ (by omega)
  rw[loV,Nat.pow_succ];omega
theorem sumV_lt (b:ByteArray)(w i:Nat):sumV b w i<256 ^ w:=by
 cases i with
 | zero=>exact Nat.pow_pos (by omega)
 | succ i=>exact Nat.mod_lt _ (Nat.pow_pos (by omega))
theorem pow_le4 (i:Nat)(h:i≤4):256 ^ i≤4294967296:=by
 have:256 ^ i≤256 ^ 4:=Nat.pow_le_pow_right (by omega) h
 omega
theorem pow_le3 (i:Nat)(h:i≤3):256 ^ i≤16777216:=by
 have:256 ^ i≤256 ^ 3:=Nat.pow_le_pow_right (by omega) h
 omega
theorem wrapU32 (x:Int):IntKind.u32.wrap x=x % 4294967296:=by first | exact IntKind.wrap_u32 x | rfl | (simp[IntKind.wrap])
theorem bits_nat (a b:Nat)(ha:a<4294967296)(hb:b<4294967296):bits .or .u32 (a:Int) (b:Int)=((a ||| b:Nat):Int)∧bits .and .u32 (a:Int) (b:Int)=((a &&& b:Nat):Int):=by
 have e1:(BitVec.ofInt 32 (a:Int)).toNat=a:=by rw[BitVec.ofInt_natCast,BitVec.toNat_ofNat];exact Nat.mod_eq_of_lt (by omega)
 have e2:(BitVec.ofInt 32 (b:Int)).toNat=b:=by rw[BitVec.ofInt_natCast,BitVec.toNat_ofNat];exact Nat.mod_eq_of_lt (by omega)
 have l1:a ||| b<2 ^ 32:=Nat.or_lt_two_pow (by omega) (by omega)
 have l2:a &&& b<2 ^ 32:=Nat.and_lt_two_pow _ (by omega)
 constructor
 · have:bits .or .u32 (a:Int) (b:Int)=IntKind.u32.wrap ((BitVec.ofInt 32 (a:Int) ||| BitVec.ofInt 32 (b:Int)).toNat:Int):=rfl
   rw[this,BitVec.toNat_or,e1,e2,wrapU32];omega
 · have:bits .and .u32 (a:Int) (b:Int)=IntKind.u32.wrap ((BitVec.ofInt 32 (a:Int) &&& BitVec.ofInt 32 (b:Int)).toNat:Int):=rfl
   rw[this,BitVec.toNat_and,e1,e2,wrapU32];omega
theorem or_add (x c i:Nat)(hc:c<2 ^ i):(x*2 ^ i) ||| c=x*2 ^ i+c:=by
 have:=Nat.two_pow_add_eq_or_of_lt hc x
 rw[Nat.mul_comm x];exact this.symm
theorem pow256 (i:Nat):(256:Nat) ^ i=2 ^ (8*i):=by rw[Nat.pow_mul]
structure Sc where
 hid:Nat→Option Int
 us:Nat→Bool
def Sc0:Sc:=⟨fun _=>none,fun _=>false⟩
def bwV (st:Int × Bool)(d:Int):Int × Bool:=if !st.2||decide (d<st.1) then (d,true) else st
def segs:Nat→List It→List (List It)
 | 0,_=>[]
 | _+1,[]=>[]
 | f+1,x::r=>(x::r.take (x.nx.toNat-1))::segs f (r.drop (x.nx.toNat-1))
def hideV (own:Bool)(x:It)(q:Sc × (Int × Bool)):Sc × (Int × Bool):=
 if own&&(q.1.hid x.d.toNat).isNone then (⟨fun k=>if k=x.d.toNat then some x.pl else q.1.hid k,q.1.us⟩,q.2) else (q.1,bwV q.2 x.pl)
def useV (ar:Bool)(x:It)(q:Sc × (Int × Bool)):Sc × (Int × Bool):=
 if ar && !(q.1.hid x.d.toNat).isNone && !(q.1.us x.d.toNat) then (⟨q.1.hid,fun k=>if k=x.d.toNat then true else q.1.us k⟩,q.2) else (q.1,bwV q.2 x.pl)
def endStep (sc:Sc)(st:Int × Bool)(d:Nat):Int × Bool:=match sc.hid d with | some pl=>if sc.us d then st else bwV st pl | none=>st
def endV (sc:Sc)(st:Int × Bool):Int × Bool:=(List.range 8).foldl (endStep sc) st
def stepV (own ar:Bool)(x:It)(q:Sc × (Int × Bool)):Sc × (Int × Bool):=if hidesB x.c then hideV own x q else if usesB x.c then useV ar x q else q
def walkV:Nat→Bool→Bool→List It→Sc × (Int × Bool)→Sc × (Int × Bool)
 | 0,_,_,_,q=>q
 | _+1,_,_,[],q=>q
 | f+1,own,ar,x::r,q=>
  if x.c=40 then (q.1,endV ((segs r.length r).foldl (fun z s=>walkV f true true s z) (Sc0,q.2)).1 ((segs r.length r).foldl (fun z s=>walkV f true true s z) (Sc0,q.2)).2)
  else (segs r.length r).foldl (fun z s=>walkV f false (ar&&inB [119,64,115] x.c) s z) (stepV own ar x q)
def SegOk (l:List It):Prop:=∃ x r,l=x::r∧x.nx=1+(r.length:Int)
theorem segs_flat (kids:List (List It))(h:∀ s,s∈kids→SegOk s):∀ f,kids.flatten.length≤f→segs f kids.flatten=kids:=by
 induction kids with
 | nil=>intro f _;cases f<;>rfl
 | cons s t ih=>
  intro f hf
  obtain ⟨x,r,rfl,hx⟩:=h s List.mem_cons_self
  simp only[List.flatten_cons,List.cons_append,List.length_cons,List.length_append] at hf ⊢
  cases f with
  | zero=>omega
  | succ f=>
   rw[segs]
   have e:x.nx.toNat-1=r.length:=by omega
   rw[e,List.take_left,List.drop_left,ih (fun s hs=>h s (List.mem_cons_of_mem _ hs)) f (by omega)]
end Go.Proofs.YtmlkhhhjdpbhfaaGreatDoor

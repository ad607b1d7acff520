import Derived.Test.YtmlkhhhjdpbhfaaGreatDoorGe24
namespace Go.Proofs.YtmlkhhhjdpbhfaaGreatDoor
open Go.RowKit Go.Proofs.Tryz
set_option maxHeartbeats 4000000
set_option maxRecDepth 100000
variable{p q:Prop}(z:q)
section
open Go.Shelf
theorem C8(h:p:=by
 rw[ab];omega):p:=h
attribute [local go_sem] Oper.semAt_some
theorem OR(c x w b O ar bh f am st)(K:BO c x w b O ar bh f am st)(cl:st.out.length<=4000)(ap:st.Au≠[])(d6:st.Au.length<=100000000)(co:∀ l∈st.Au,∀ s∈l,KT s st.out.length):
 Calls prog 53 #[P0 b] w fun a w'=>a=.returned (.tuple #[])/\BO c x w' b O ar bh f am {st with out:=B8 st}/\Below x w w':=by
 have eu:=K.ge b aG;have eh:0<f.length:=by rw[K.FV];exact gO.2 ap
 obtain⟨j,r,rfl,dt⟩:∃ j r,bh=S0 j f.length r/\j<w.heap.size:=by
  rcases K.Au.2 with⟨_,h0⟩|⟨j,r,df,a,_,M,_⟩;omega;exact⟨j,r,a,(cW.1 M).1⟩
 have dd:∀ k,(w.alloc k).cell? (A0 b 49)=some (S0 j f.length r):=fun k=>(Ac.alloc K.Ap k).cell 49
 have J:=Aa K;have bv:=Aa co;clear K co ap;refine(callsIn_wide (n:=9)).1 ?_;refine callsIn_of_wp_marks func53 rfl trivial ?_ rfl;simp only[ntmps53,dJ,aX,cP,Nat.reduceAdd,Nat.reduceSub,iE,iD,iP,iF,cL,cA]
 gi_wp2_with (refine⟨trivial,?_⟩;gi_at_call 79;refine(Aed Fence.wide 8 trivial rfl _ _ _ _).mono ?_;rintro a w'⟨rfl,rfl⟩)
 have a3:=(Boxed.new w 107 (P0 b)).alloc (.cells #[S0 j f.length r] 118);have av:=Boxed.new (w.alloc (.cells #[P0 b] 107)) 118 (S0 j f.length r);simp only[World.size_alloc]at av;have ah:Below w.heap.size w ((w.alloc (.cells #[P0 b] 107)).alloc (.cells #[S0 j f.length r] 118)):=((aO _ w).alloc (aB _) _).alloc kY _;have d7:((w.alloc (.cells #[P0 b] 107)).alloc (.cells #[S0 j f.length r] 118)).heap.size=w.heap.size+2:=kY;obtain⟨ak,cc⟩:∃ ak,(w.alloc (.cells #[P0 b] 107)).alloc (.cells #[S0 j f.length r] 118)=ak:=⟨_,rfl⟩;rw[cc]at a3 av ah d7⊢;clear cc;have cg:∀ F,F<f.length->ak.cell? (A0 j F)=some (Ri f F):=fun F a9=>by
  rw[aL (w:=w) (ah.block j dt),J.o.Au.cellAt F kX];unfold Ri;rw[bA a9];rfl
 have a4:OwnFrom ak.heap.size (fun(pre:aD Nat) (W:aE)=>(BO c x W b O ar (S0 j f.length r) f am {st with out:=GG st pre}/\Boxed W w.heap.size 107 (P0 b)/\Boxed W (w.heap.size+1) 118 (S0 j f.length r))/\Below x w W):=by
  intro pre bz b0 eb I M d0;have ap:∀ o,o<ak.heap.size->some o≠eb:=fun o dk a=>by have:=(d0 o a.symm).1;omega
  have eg:=I.2.size;have a7:∀ o,o<w.heap.size->b0.heap[o]? = bz.heap[o]? := fun o dk=>M.block o kX (ap o kX)
  have cd:Below x bz b0:=⟨M.os,M.tape,M.output,M.size,fun g du=>a7 g kX⟩;refine⟨⟨I.1.1.Z5 cd (fun o aw=>a7 o (J.o.ge o aw).2) (fun o a=>a7 o (J.o.out.lt o a).2),?_⟩,I.2.trans cd⟩;exact⟨I.1.2.1.kept M (ap _ kX),I.1.2.2.kept M (ap _ kX)⟩
 refine wpIn_rangeFunc_ownF rfl kX (gf:=161) (lb:=#[P0 (w.heap.size+1)]) rfl trivial (enters_of func161 kZ rfl)
  (W5 Fence.wide 8 trivial rfl kX (w.heap.size+1) j f.length r (Ri f) (by rw[J.o.FV];exact d6) ak kX kX av.cell cg) YG.trans ?hKb (aO _ _) (fun _=>rfl)
  _ (fun _ _ _=>False) a4 (fun _ _ _ _ _ I _ _=>I) ?h0
  (fun e=>{tmps:=#[P0 b,P0 w.heap.size,undef,Ri f e,undef,undef,P0 b,P0 b,.pointer (some (A0 b 49)),S0 j f.length r,.func (.func 161) #[] #[P0 (w.heap.size+1)],I0 (e:Nat),Ri f e,undef,undef,undef,undef,undef,undef,undef,undef,undef,undef,undef,undef,undef,undef,undef,undef,undef,undef,undef,undef,undef,undef,undef,undef,undef],defers:=[]})
  ?assign ?body ?done ?stop
 case hKb=>
  intro W l k d9 L z _ _;have eo:=(cW.1 z).1;have cj:=grownBy_putObj' W l d9;exact⟨cj.block j kX (fun a=>by cases a;omega),cj.block (w.heap.size+1) kX (fun a=>by cases a;omega)⟩
 case h0=>
  refine⟨⟨?_,a3,av⟩,ah.mono kX⟩;exact J.o.Z5 (ah.mono kX) (fun o aw=>ah.block o (J.o.ge o aw).2) (fun o a=>ah.block o (J.o.out.lt o a).2)
 case assign=>
  intro l e W ec ay
  gi_wp2
  exact ay
 case body=>
  rintro l pre e W⟨⟨Z,ai,an⟩,al⟩ _;have bf:W.ownsRow x 199 5 (Ri f e) (Ec st e).length ((Ec st e).flatMap S6):=Z.ZA e;obtain⟨cv,de,bd⟩:=B3 bf;have bx:Hid (∀ s∈Ec st e,KT s st.out.length):=by
   have:∀ s∈Ec st e,KT s st.out.length:=fun s I=>by
    obtain⟨l,cl,aw⟩:=SI I;exact bv.o l cl s aw
   exact this
  have c3:=Aa (Pj bv.o pre);have da:=Aa (Ut st pre e);have c7:=Aa bd;simp only[bd];have ep:(Ec st e).length<=9223372036854775807:=by
   rcases bf.2 with⟨_,h0⟩|⟨_,_,_,_,_,_,L,z,_⟩;omega;unfold maxLen at z;omega
  have bq:=Aa Z;have bl:=Aa ai;have bk:=Aa an;have bj:=Aa al;clear Z ai an al bf bd cg ah a3 av dd a4
  gi_wp2
  gi_loopw [15] (fun bi wr=>∃ g:Nat,bi=I0 (g:Nat)/\g<=(Ec st e).length/\Hid (BO c x wr b O ar (S0 j f.length r) f am {st with out:=((Ec st e).take g).foldl Dw (GG st pre)})/\Hid (Boxed wr w.heap.size 107 (P0 b))/\Hid (Boxed wr (w.heap.size+1) 118 (S0 j f.length r))/\Hid (Below x w wr)/\Hid (KeepsOthers W wr)/\Hid (YG j (w.heap.size+1) W wr)) (fun bi _=>(Ec st e).length-(intOf bi).toNat)
  case atStart=>exact⟨0,rfl,by omega,bq,bl,bk,bj,KeepsOthers.refl _,(⟨rfl,rfl⟩:YG j (w.heap.size+1) W W)⟩
  case round=>
   clear bq bl bk bj;obtain⟨g,rfl,du,Z,ai,an,al,b6,b8⟩:=hrel;by_cases bb:g<(Ec st e).length
   . have dv:(g:Int)<((Ec st e).length:Int):=by omega
     have be:wr.ownsRow x 199 5 (.slice cv (Ec st e).length de) (Ec st e).length ((Ec st e).flatMap S6):=by rw[<- c7.o];exact Z.out.ZA e
     obtain⟨af,rfl⟩:∃ af,cv=some (A0 af 0):=by
      rcases be.2 with⟨_,h0⟩|⟨af,_,_,a,_⟩;omega;injection a with ae ed ee;exact⟨af,ae⟩
     have ao:∀ F,F<5->wr.cell? (A0 af (g*5+F))=(S6 (Ec st e)[g])[F]? := fun F a9=>by rw[be.cellAt (g*5+F) kX,ZY _ g bb F a9]
     have cq:wr.cell? (A0 af (g*5))=_:=ao 0 kX;have cr:=ao 1 kX;have cs:=ao 2 kX;have ct:=ao 3 kX;have d8:q_ wr af (g*5+4) (.func (.func (BR (Ec st e)[g].ho.low)) #[] #[]):=ao 4 kX;simp only[S6,VG,fP,cA,cL,aJ,aK]at cq cr cs ct;have c8:=Aa (bx.o _ (aU bb));have dc:=Aa (show((Ec st e).take (g+1)).foldl Dw (GG st pre)=Dw (((Ec st e).take g).foldl Dw (GG st pre)) (Ec st e)[g]by
      rw[bN bb,dK];rfl)
     have c2:=Aa (show(((Ec st e).take g).foldl Dw (GG st pre)).length=st.out.length from Gd _ _ _ c3.o fun s I=>bx.o s (fL I));clear be ao;generalize(Ec st e)[g]=s at*;generalize((Ec st e).take g).foldl Dw (GG st pre)=k at*
     gi_wp2
     have b1:=Ac.new wr #[I0 (s.a:Nat),I0 (s.b:Nat),I0 (s.ho.pl:Nat),I0 (s.ho.w:Nat),.func (.func (BR s.ho.low)) #[] #[]] 199;have az:=(aO wr.heap.size wr).alloc (aB _) (.cells #[I0 (s.a:Nat),I0 (s.b:Nat),I0 (s.ho.pl:Nat),I0 (s.ho.w:Nat),.func (.func (BR s.ho.low)) #[] #[]] 199);have et:=al.out.size;have cb:=Z.out.B9 (az.mono kX) (fun g _ z=>az.block g z);have cf:=ai.out.alloc (.cells #[I0 (s.a:Nat),I0 (s.b:Nat),I0 (s.ho.pl:Nat),I0 (s.ho.w:Nat),.func (.func (BR s.ho.low)) #[] #[]] 199);have y:=Aa b1;have a2:=Aa az;have au:=Aa cb;have ax:=Aa cf;have d5:(wr.alloc (.cells #[I0 (s.a:Nat),I0 (s.b:Nat),I0 (s.ho.pl:Nat),I0 (s.ho.w:Nat),.func (.func (BR s.ho.low)) #[] #[]] 199)).heap.size=wr.heap.size+1:=kY;clear b1 az cb cf cq cr cs ct d8;generalize wr.alloc (.cells #[I0 (s.a:Nat),I0 (s.b:Nat),I0 (s.ho.pl:Nat),I0 (s.ho.w:Nat),.func (.func (BR s.ho.low)) #[] #[]] 199)=h at*;obtain⟨es,d3,a0⟩:=c8.o;have eq:=a0.lt;have er:=a0.pos;have cn:=a0.le;have bp:=c2.o;obtain⟨u,v,ac,dp⟩:∃ u v,O=S0 u k.length v/\k.length<=v:=by
      rcases au.o.out.2 with⟨_,h0⟩|⟨u,v,_,a,_,_,L,_⟩;simp only at h0;omega;exact⟨u,v,a,L⟩
     have ei:(s.a:Int)<=(s.b:Int):=kX;have ej:(s.b:Int)<=(v:Int):=kX;have ek:¬ (v<s.b):=kX;have el:¬ ((v:Int)<(s.b:Int)):=kX;have em:¬ ((s.b:Int)<(s.a:Int)):=kX;have dm:s.a<=s.b:=kX;have dq:Below x h (h.drewN 1):=⟨rfl,rfl,rfl,aB _,fun _ _=>rfl⟩;have a5:=au.o.B9 dq (fun _ _ _=>rfl);have ch:=ZX (by have:=a5.out;rw[ac]at this;exact this) s.a s.b dm kX dp (v-s.a);have bg:(⟨((k.drop s.a).take (s.b-s.a)).toArray⟩:aA).size=s.b-s.a:=by
      show((k.drop s.a).take (s.b-s.a)).toArray.size=_;rw[dJ,cX,dQ];omega
     have c9:=Aa (fun W=>Pv ⟨((k.drop s.a).take (s.b-s.a)).toArray⟩ (by rw[bg];omega) s.ho.w cn W);have c6:Hid (Dw k s=putAt k s.ho (CB ⟨((k.drop s.a).take (s.b-s.a)).toArray⟩ s.ho.w (s.b-s.a))):=(rfl:Dw k s=putAt k s.ho (CB ⟨((k.drop s.a).take (s.b-s.a)).toArray⟩ s.ho.w (s.b-s.a)));have db:=Aa bg;have c5:=Aa (show k.length<=4000 by omega);have cz:=Aa (show Jx s.ho k.length by rw[bp];exact a0);have bu:=Aa a5;clear bp bg a5;generalize(⟨((k.drop s.a).take (s.b-s.a)).toArray⟩:aA)=aj at*;refine Mc (fun p=>p.cell? (A0 w.heap.size 0)=some (P0 b)/\p.cell? (A0 b 46)=some (S0 u k.length v)/\p.cell? (A0 wr.heap.size 0)=some (I0 (s.a:Nat))/\p.cell? (A0 wr.heap.size 1)=some (I0 (s.b:Nat))/\p.cell? (A0 wr.heap.size 2)=some (I0 (s.ho.pl:Nat))/\p.cell? (A0 wr.heap.size 3)=some (I0 (s.ho.w:Nat))/\p.cell? (A0 wr.heap.size 4)=some (.func (.func (BR s.ho.low)) #[] #[]))
      [([0,1,2,3,4,5,6,7,8,9,10,11,13,14,15],12),([],16),([],17)] rfl kZ (fun _ _ d _ _ K=>by cases d<;>exact K) ?hC ?seg
     case hC=>exact⟨ax.o.cell,by have:=au.o.Ap.cell 46;rw[ac]at this;exact this,y.o.cell 0,y.o.cell 1,y.o.cell 2,y.o.cell 3,y.o.cell 4⟩
     case seg=>
      refine kJ ?_;refine Ab (P0 b) rfl (fun p hC=>by obtain⟨S,d1,d2,U,V,X,Y⟩:=hC;go_simp) ?_;refine Ab (.pointer (some (A0 wr.heap.size 2))) rfl (fun p hC=>by go_simp) ?_;refine Ab (.agg #[I0 (s.ho.pl:Nat),I0 (s.ho.w:Nat),.func (.func (BR s.ho.low)) #[] #[]]) rfl (fun p hC=>by obtain⟨S,d1,d2,U,V,X,Y⟩:=hC;go_simp) ?_;refine Ab (P0 b) rfl (fun p hC=>by obtain⟨S,d1,d2,U,V,X,Y⟩:=hC;go_simp) ?_;refine Ab (P0 b) rfl (fun p hC=>by go_simp) ?_;refine Ab (.pointer (some (A0 b 46))) rfl (fun p hC=>by go_simp) ?_;refine Ab (S0 u k.length v) rfl (fun p hC=>by obtain⟨S,d1,d2,U,V,X,Y⟩:=hC;go_simp) ?_;refine Ab (P0 wr.heap.size) rfl (fun p hC=>by go_simp) ?_;refine Ab (I0 (s.a:Nat)) rfl (fun p hC=>by obtain⟨S,d1,d2,U,V,X,Y⟩:=hC;go_simp) ?_;refine Ab (.pointer (some (A0 wr.heap.size 1))) rfl (fun p hC=>by go_simp) ?_;refine Ab (I0 (s.b:Nat)) rfl (fun p hC=>by obtain⟨S,d1,d2,U,V,X,Y⟩:=hC;go_simp) ?_;refine Ab (.slice (if v=s.a then some (A0 u 0)else some (A0 u s.a)) (s.b-s.a) (v-s.a)) rfl (fun p hC=>by go_simp) ?_;refine Ab (.pointer (some (A0 wr.heap.size 2))) rfl (fun p hC=>by go_simp) ?_;refine Ab (.pointer (some (A0 wr.heap.size 3))) rfl (fun p hC=>by go_simp) ?_;refine Ab (I0 (s.ho.w:Nat)) rfl (fun p hC=>by obtain⟨S,d1,d2,U,V,X,Y⟩:=hC;go_simp) ?_;refine Ag ⟨_,rfl,rfl,?_⟩;unfold Oper.wp;go_simp;have ci:Sem.run prog (convert 40 9 (.slice (if v=s.a then some (A0 u 0)else some (A0 u s.a)) (s.b-s.a) (v-s.a))) h.drew=.ok (.string aj) h.drew:=ch;rw[ci];clear ch ci;have b3:h.drew.cell? (A0 w.heap.size 0)=some (P0 b)/\h.drew.cell? (A0 b 46)=some (S0 u k.length v)/\h.drew.cell? (A0 wr.heap.size 0)=some (I0 (s.a:Nat))/\h.drew.cell? (A0 wr.heap.size 1)=some (I0 (s.b:Nat))/\h.drew.cell? (A0 wr.heap.size 2)=some (I0 (s.ho.pl:Nat))/\h.drew.cell? (A0 wr.heap.size 3)=some (I0 (s.ho.w:Nat))/\h.drew.cell? (A0 wr.heap.size 4)=some (.func (.func (BR s.ho.low)) #[] #[]):=⟨ax.o.cell,by have:=au.o.Ap.cell 46;rw[ac]at this;exact this,y.o.cell 0,y.o.cell 1,y.o.cell 2,y.o.cell 3,y.o.cell 4⟩;have a1:=Aa b3;clear b3;refine⟨a1.o,?_⟩;refine Ag ⟨_,rfl,rfl,?_⟩;unfold Oper.wp;go_simp;refine(c9.o _).mono ?_;rintro a w2⟨rfl,E⟩;have ab:h.drew.heap.size=wr.heap.size+1:=d5;have b4:w2.cell? (A0 w.heap.size 0)=some (P0 b)/\w2.cell? (A0 b 46)=some (S0 u k.length v)/\w2.cell? (A0 wr.heap.size 0)=some (I0 (s.a:Nat))/\w2.cell? (A0 wr.heap.size 1)=some (I0 (s.b:Nat))/\w2.cell? (A0 wr.heap.size 2)=some (I0 (s.ho.pl:Nat))/\w2.cell? (A0 wr.heap.size 3)=some (I0 (s.ho.w:Nat))/\w2.cell? (A0 wr.heap.size 4)=some (.func (.func (BR s.ho.low)) #[] #[]):=by
       obtain⟨S,d1,d2,U,V,X,Y⟩:=a1.o;have dl:=ax.o.lt;refine⟨?_,?_,?_,?_,?_,?_,?_⟩;rw[aL (w:=h.drew) (E.block w.heap.size dl)];exact S;rw[aL (w:=h.drew) (E.block b C8)];exact d1;rw[aL (w:=h.drew) (E.block wr.heap.size C8)];exact d2;rw[aL (w:=h.drew) (E.block wr.heap.size C8)];exact U;rw[aL (w:=h.drew) (E.block wr.heap.size C8)];exact V;rw[aL (w:=h.drew) (E.block wr.heap.size C8)];exact X;rw[aL (w:=h.drew) (E.block wr.heap.size C8)];exact Y
      have bm:=Aa b4;have br:=Aa (bu.o.B9 (w':=w2) (E.mono kX) (fun g _ z=>E.block g z));have ad:=Aa E;have d3:=E.size;clear b4 E;refine⟨bm.o,?_⟩;refine Ag ⟨_,rfl,rfl,?_⟩;unfold Oper.wp;go_simp;have dx:CB aj s.ho.w aj.size<4294967296:=by
       have L:=FX aj s.ho.w aj.size;have z:=DS s.ho.w cn;omega
      refine(Jj c x w2 b O ar _ f am _ br.o s.ho cz.o (CB aj s.ho.w aj.size) dx (by have:=c5.o;simp only;omega)).mono ?_;rintro a B⟨rfl,bc,a6,ck⟩;have en:=J.o.out.lt u (by rw[ac];rfl);have cp:O.ownBlock=some u:=by rw[ac];rfl
      have ds:j≠u:=fun a=>J.o.nb u cp (by rw[<- a];exact aH _ (Dg (sv:=S0 j f.length r) rfl))
      have ba:∀ q,q<wr.heap.size+1->q≠u->B.heap[q]? = h.heap[q]? := fun q L z=>by
       rw[ck q kX (fun a=>z (by rw[cp]at a;injection a))];exact ad.o.block q (by rw[ab];exact L)
      have aq:∀ q,q<wr.heap.size->q≠u->B.heap[q]? = wr.heap[q]? := fun q L z=>(ba q kX z).trans (a2.o.block q L)
      have d4:wr.heap.size<=B.heap.size:=by have:=a6.size;omega
      have dw:=ai.out.lt;have cm:=an.out.lt;have a8:Boxed B w.heap.size 107 (P0 b):=(aq w.heap.size dw kX).trans ai.out;have ce:Boxed B (w.heap.size+1) 118 (S0 j f.length r):=(aq (w.heap.size+1) cm kX).trans an.out;have b7:=b6.out.trans ⟨d4,fun q ew A dy=>by
       have dz:=(cW.1 A).1;refine(aq q dz (fun a=>?_)).trans A;subst a;rcases Z.out.out.2 with⟨a,_⟩|⟨ef,_,df,a,_,dr,_⟩;rw[ac]at a;cases a
       rw[ac]at a;injection a with ae;injection ae with ae;injection ae with ae;subst ae;rw[dr]at A
       cases A
       cases dy⟩
      have b9:=b8.out.trans ⟨aq j kX ds,aq (w.heap.size+1) cm kX⟩;have b2:Below x w B:=by
       have L:Below x wr h:=a2.o.mono kX;have z:Below x h w2:=⟨ad.o.os,ad.o.tape,ad.o.output,ad.o.size,fun q A=>ad.o.block q C8⟩;exact al.out.trans (L.trans (z.trans a6))
      have b5:B.cell? (A0 w.heap.size 0)=some (P0 b)/\B.cell? (A0 b 46)=some (S0 u k.length v)/\B.cell? (A0 wr.heap.size 0)=some (I0 (s.a:Nat))/\B.cell? (A0 wr.heap.size 1)=some (I0 (s.b:Nat))/\B.cell? (A0 wr.heap.size 2)=some (I0 (s.ho.pl:Nat))/\B.cell? (A0 wr.heap.size 3)=some (I0 (s.ho.w:Nat))/\B.cell? (A0 wr.heap.size 4)=some (.func (.func (BR s.ho.low)) #[] #[]):=by
       have A:=ba wr.heap.size kX kX;refine⟨a8.cell,by have:=bc.Ap.cell 46;rw[ac]at this;exact this,?_,?_,?_,?_,?_⟩;rw[aL (w:=h) A];exact y.o.cell 0;rw[aL (w:=h) A];exact y.o.cell 1;rw[aL (w:=h) A];exact y.o.cell 2;rw[aL (w:=h) A];exact y.o.cell 3;rw[aL (w:=h) A];exact y.o.cell 4
      have ca:BO c x B b O ar (S0 j f.length r) f am {st with out:=((Ec st e).take (g+1)).foldl Dw (GG st pre)}:=by
       rw[dc.o,c6.o,<- db.o];exact bc
      have c4:=Aa ca;have cy:=Aa a8;have cx:=Aa ce;have cw:=Aa b2;have c0:=Aa b7;have c1:=Aa b9;have bo:=Aa b5;clear bc a6 ck ba aq b5 ca a8 ce b2 b7 b9 bm a1 au a2 y ax bu br ad;refine⟨bo.o,?_⟩;clear bo
      gi_wp2
      go_roundw
      case rel=>exact⟨g+1,by go_num,by omega,c4,cy,cx,cw,c0,c1⟩
      case measure=>simp[intOf];omega
   have dv:¬ (g:Int)<((Ec st e).length:Int):=kX;obtain rfl:g=(Ec st e).length:=kX
   gi_wp2
   have A:=Z.out;rw[fQ,<- da.o]at A;exact⟨b6.out,b8.out,⟨A,ai.out,an.out⟩,al.out⟩
 case done=>
  rintro D ex W dh rfl di ay
  gi_wp2
  refine⟨by simp,.inl ⟨_,_,rfl,run_takeDeferred ay,?_⟩⟩;have dj:=a4.putObj (.deferred none) di dh ay rfl;obtain⟨⟨cu,_,_⟩,ea⟩:=dj;have a:GG st (Ee f.length 0)=B8 st:=by rw[J.o.FV];exact PR st
  rw[a]at cu;exact⟨_,results_none rfl _ _ _,rfl,cu,ea⟩
 case stop=>
  rintro D c pre W _ _ K _;exact K.elim
end

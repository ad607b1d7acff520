import Derived.Lib.AppendZeros
import Derived.ArgAppend
import Derived.Test.YtmlkhhhjdpbhfaaGreatDoorGe05
import Derived.Test.YtmlkhhhjdpbhfaaGreatDoorGe06
import Derived.Test.YtmlkhhhjdpbhfaaGreatDoorGe07
namespace Go.Proofs.YtmlkhhhjdpbhfaaGreatDoor
open Go.RowKit Go.Proofs.Tryz
set_option maxHeartbeats 4000000
set_option maxRecDepth 100000
variable{p q:Prop}(z:q)
theorem jo(h:p:=by
 simp only;repeat still_step
 refine bL ?_;go_wp2_with fail;go_quiet (fail);go_wp2;go_ret3;rw[y.o];exact Az.drewN ao.o nq):p:=h
theorem FA.drewN{b w lo e f sb t}(a:FA b w lo e sb f t)(n):FA b (w.drewN n) lo e sb f t:=a.mono (fun _ _ _ a=>⟨rfl,a⟩) (aB _) (aB _)
theorem Az.drewN{c w w' s p u r a}(f:Az c w s p u r a w')(n):Az c w s p u r a (w'.drewN n):=by
 rcases f with⟨b,e,d⟩|⟨b,e,j,o,d,a,v,y,i,A⟩|⟨b,e,j,o,k,d,a⟩;exact Or.inl ⟨b,e,d.drewN n⟩;refine Or.inr (Or.inl ⟨b,e,j,o,d,a.drewN n,v,y,?_,fun f a=>A f a⟩);rcases i with⟨g,h⟩|⟨g,x,B,h,z⟩;exact Or.inl ⟨g,h⟩;exact Or.inr ⟨g,x,B,h,z.drewN n⟩;exact Or.inr (Or.inr ⟨b,e,j,o,k,d,a.drewN n⟩)
theorem Yn(c)(p:DO c)(I)(am:QI c I)(w s st h b j x F X)(o:Cc c w s st (some h))(ah:Am w b j)(cb:He x j)(al:Kc x)(hxc:x.c=64)(a2:K2 c w j F)(bk:BK c.R false X F)(cn:b<c.rb)(ca:s.fuel<=I):
 Calls prog 153 #[P0 c.tb,P0 b,Bb st.pl st.en (Ce (some h))] w fun e w'=>Az c w s none false (Nf (tryT c.G c.bs c.N I) c.bs (st.Ai x.d.toNat).1 F s.fuel s.far st) e w':=by
 refine l0 ?_;intro ak d az ba bm;have b9:j.dp=(d:Int):=by rw[(cb.dp AL).1,az]
 have cl:=(o.inv.Ai d).1;generalize bx:(st.Ai d).1=B at*;have b1:=Aa bx;clear bx;refine li ?_;intro g aq a7 au z k a5 bd a9 bc bb av ay bh ae aj ar bi a4 af ai ap;refine lj ?_;intro a6 a8 f a3 v A a a1 be bg r;go_enter func153,ntmps153;go_wp2_with fail;generalize w.alloc (.cells (X_3 st.pl st.en h) 159)=K at*;have E:=a3.o.c2;have cf:K.cell? (A0 b 3)=some (I0 d):=by rw[<- b9];exact v.o.cell 3
 have h0:K.cell? (A0 h (d*2))=some (.int .u32 B):=by rw[<- b1.o];exact(r.o.cell d ba).1
 go_quiet (fail);have b3:=Aa (f.o.drewN nq);have M:Hid (Ac (K.drewN nq) w.heap.size (X_3 st.pl st.en h) 159):=a3.o;have b4:Hid (Am (K.drewN nq) b j):=v.o;have a0:=Aa (A.o.drewN nq);have co:(K.drewN nq).heap.size=w.heap.size+1:=a;generalize K.drewN nq=ad at*;clear E cf h0 f a3 v A r a;have b5:=M.o.c0;have ac:=M.o.c1;have E:=M.o.c2;have ck:=M.o.frozen 1;have b7:=b3.o.tr.QL;by_cases bv:c.bs.size<B;have b8:(c.bs.size:Int)<(B:Int):=kX;have an:=Aa (show Nf (tryT c.G c.bs c.N I) c.bs B F s.fuel s.far st=CK s.fuel s.far st.pl st by unfold Nf;rw[aF bv]);exact jp;have b8:¬ (c.bs.size:Int)<(B:Int):=kX;have bu:Nf (tryT c.G c.bs c.N I) c.bs B F s.fuel s.far st=PC st (tryT c.G c.bs c.N I s.fuel s.far false F {st with pl:=B,en:=c.bs.size}):=by unfold Nf;rw[aC bv]
 have y:=Aa bu;clear bu;have cm:B<=4000:=kX;refine k7 ?_;intro aw ax;have V:Hid (Cc c ad s {st with pl:=B,en:=c.bs.size} (some h)):=Cc.next ai.o af.o a0.o (Or.inl rfl) af.o.rd af.o.nd ⟨by simp only;omega,aB _,af.o.inv.rd,af.o.inv.Af,af.o.inv.Ai⟩ (fun _ _ _=>rfl) (fun _ e=>by cases e);go_wp2_with fail;have cg:ad.cell? (A0 b 8)=some (S0 g 1 aq):=by rw[<- a5];exact b4.o.cell 8
 have ce:ad.cell? (A0 g 0)=some (P0 a7):=by rw[V.o.A9.cell (p:=(A0 g 0)) bd];exact a9
 refine AX 17 _ rfl rfl kZ kZ ?_;refine gq ?_;rw[QV (B:Int) kX kX];have U:=ap.o (ad.drewN 1) s {st with pl:=B,en:=c.bs.size} (some h) F false X false false au z k a7 (V.o.drewN 1) a8.o bb a6.o (fun _=>rfl) rfl ca;rw[EV a4,D2 a4]at U;unfold Bb at U;simp only[Ce,cO]at U;have b2:Hid ((tryT c.G c.bs c.N I s.fuel s.far false F {st with pl:=B,en:=c.bs.size}).ok=true->(tryT c.G c.bs c.N I s.fuel s.far false F {st with pl:=B,en:=c.bs.size}).e=0):=fun Y=>((BQ c.G ai.o.wf I).fit s.fuel s.far false false X F _ a6.o V.o.inv Y).2
 generalize tryT c.G c.bs c.N I s.fuel s.far false F {st with pl:=B,en:=c.bs.size}=u at*;refine U.mono fun cj L Z=>?_
 have bz:=Z.keeps;have b0:=Aa (bz.Ap (show Ac (ad.drewN 1) w.heap.size _ _ from M.o) kX kX aw kY);have cd:=Az.ahead (a0.o.drewN 1) Z;clear b5 ac E cg ce U Z bz b7;have ch:=b0.o.c0;rcases cd with⟨ac,E,ab⟩|⟨ac,E,bo,J,ab,O,bp,bq,br,b6⟩|⟨ac,E,bo,J,cp,ab,O⟩;subst E;have ao:Hid (Az c w s .none false (PC st u) (.panicked (F7 u.e)) L):=by
  have cc:u.ok=false:=by
   cases Y:u.ok with
   | false=>rfl
   | true=>exact absurd (b2.o Y) ac
  have:PC st u=u:=by unfold PC;rw[cc];simp
  have S:Az c w s .none false (PC st u) (.panicked (F7 u.e)) L:=by rw[this];exact Or.inl ⟨ac,rfl,ab⟩
  exact S
 exact mc;subst ab;have ao:Hid (Az c w s .none false (PC st u) (.returned (.tuple #[J,I0 st.pl,.bool true])) L):=by
  have:PC st u=BW u.fuel u.far {u.st with pl:=st.pl,en:=st.en} u.t:=by unfold PC;rw[aF E]
  have S:Az c w s .none false (PC st u) (.returned (.tuple #[J,I0 st.pl,.bool true])) L:=by
   rw[this];exact Or.inr (Or.inl ⟨rfl,rfl,bo,J,rfl,O,bp,bq,br,fun _ e=>by cases e⟩)
  exact S
 clear ac E O bp bq br b6;generalize u.st.pl=cq at*;exact jo;subst ab;have ao:Hid (Az c w s .none false (PC st u) (.returned (.tuple #[J,I0 st.pl,.bool false])) L):=by
  have:PC st u=u:=by unfold PC;rw[E];simp
  have S:Az c w s .none false (PC st u) (.returned (.tuple #[J,I0 st.pl,.bool false])) L:=by rw[this];exact Or.inr (Or.inr ⟨ac,E,bo,J,st.pl,rfl,O⟩)
  exact S
 clear ac E O;exact jo
theorem Qx(c)(p:DO c)(U)(am:QI c U)(w s st h b j x S b8)(o:Cc c w s st (some h))(ah:Am w b j)(dc:He x j)(al:Kc x)(hxc:x.c=115)(a2:K2 c w j S)(bk:BK c.R false b8 S)(dt:b<c.rb)(db:s.fuel<=U):
 Calls prog 155 #[P0 c.tb,P0 b,Bb st.pl st.en (Ce (some h))] w fun e w'=>Az c w s none false (DB (tryT c.G c.bs c.N U) c.bs (st.Ai x.d.toNat) S s.fuel s.far st) e w':=by
 refine l0 ?_;intro ak d az ba bm;have cr:j.dp=(d:Int):=by rw[(dc.dp AL).1,az]
 have c9:=o.inv.Ai d;refine li ?_;intro g aq a7 au z k a5 bd a9 bc bb av ay bh ae aj ar bi a4 af ai ap;refine lj ?_;intro a6 a8 f a3 v A a a1 be bg r;go_enter func155,ntmps155;go_wp2_with fail;generalize w.alloc (.cells (X_3 st.pl st.en h) 159)=ad at*;have b7:=a3.o.c0;have ac:=a3.o.c1;have J:=a3.o.c2;have dl:ad.cell? (A0 b 8)=some (S0 g 1 aq):=by rw[<- a5];exact v.o.cell 8
 have di:ad.cell? (A0 g 0)=some (P0 a7):=by rw[f.o.A9.cell (p:=(A0 g 0)) bd];exact a9
 refine k7 ?_;intro aw ax;refine AX 8 _ rfl rfl kZ kZ ?_;refine gq ?_;have bq:=ap.o (ad.drewN 1) s st (some h) S false b8 false false au z k a7 (f.o.drewN 1) a8.o bb a6.o (fun _=>rfl) rfl db;rw[EV a4,D2 a4]at bq;unfold Bb at bq;simp only[Ce,cO]at bq;have cj:Hid ((tryT c.G c.bs c.N U s.fuel s.far false S st).ok=true->Dt c.bs c.N st false (tryT c.G c.bs c.N U s.fuel s.far false S st)/\(tryT c.G c.bs c.N U s.fuel s.far false S st).e=0):=fun cc=>by have:=(BQ c.G ai.o.wf U).fit s.fuel s.far false false b8 S _ a6.o f.o.inv cc;rw[a4]at this;exact this
 have cp:DB (tryT c.G c.bs c.N U) c.bs (st.Ai d) S s.fuel s.far st=Cm c.bs (st.Ai d) st (tryT c.G c.bs c.N U s.fuel s.far false S st):=rfl;have y:=Aa cp;clear cp;generalize tryT c.G c.bs c.N U s.fuel s.far false S st=u at*;refine bq.mono fun dm I cd=>?_
 have X:=cd.keeps;have b4:=Aa (X.Ap (show Ac (ad.drewN 1) w.heap.size _ _ from a3.o) kX kX aw kY);have ck:=Aa (show Am I b j from X.Ap (show Am (ad.drewN 1) b j from v.o) kX kX ax kY);have b0:=Aa (show EG I h st.Ai from X.Ap (show EG (ad.drewN 1) h st.Ai from r.o) kX kX be kY);have df:=Az.ahead (A.o.drewN 1) cd;clear b7 ac J dl di bq cd X f a3 v A r;rcases df with⟨ac,J,ab⟩|⟨ac,J,V,bj,ab,bp,cm,cn,co,c3⟩|⟨ac,J,V,bj,cf,ab,bp⟩;subst J;have ao:Hid (Az c w s .none false (Cm c.bs (st.Ai d) st u) (.panicked (F7 u.e)) I):=by
  have de:u.ok=false:=by
   cases cc:u.ok with
   | false=>rfl
   | true=>exact absurd (cj.o cc).2 ac
  have:Cm c.bs (st.Ai d) st u=u:=by unfold Cm;rw[de];simp
  have ca:Az c w s .none false (Cm c.bs (st.Ai d) st u) (.panicked (F7 u.e)) I:=by rw[this];exact Or.inl ⟨ac,rfl,ab⟩
  exact ca
 exact mc
 . subst ab;have b1:=(cj.o J).1;have du:=b1.ge;have dp:=b1.inv.pl;have dq:=b1.inv.en;have bz:=Aa (show Cm c.bs (st.Ai d) st u=if CB (c.bs.extract st.pl u.st.pl) (st.Ai d).2 (c.bs.extract st.pl u.st.pl).size≠(st.Ai d).1 then CK u.fuel u.far st.pl st else BW u.fuel u.far {u.st with en:=st.en} u.t by unfold Cm;rw[aF J]);have cv:=Aa bp;have cw:=Aa cm;have cx:=Aa cn;have cy:=Aa co;clear ac J bp cm cn co c3 b1;have c4:I.cell? (A0 w.heap.size 2)=some (P0 h):=b4.o.c2;have dj:I.cell? (A0 b 3)=some (I0 d):=by rw[<- cr];exact ck.o.cell 3
   have h0:=(b0.o.cell d ba).1;have c7:=(b0.o.cell d ba).2;have c5:∀ u,(I.alloc u).cell? (A0 w.heap.size 2)=some (P0 h):=fun u=>(Ac.alloc b4.o u).cell 2
   have dk:∀ u,(I.alloc u).cell? (A0 b 3)=some (I0 d):=fun u=>by rw[<- cr];exact(Ac.alloc ck.o u).cell 3
   have c6:∀ u,(I.alloc u).cell? (A0 h (d*2))=some (.int .u32 (st.Ai d).1):=fun u=>(EG.cell (show EG (I.alloc u) h st.Ai from Ac.alloc b0.o u) d ba).1
   have c8:∀ u,(I.alloc u).cell? (A0 h (d*2+1))=some (I0 (st.Ai d).2):=fun u=>(EG.cell (show EG (I.alloc u) h st.Ai from Ac.alloc b0.o u) d ba).2
   generalize cs:u.st.pl=Z at*;have c0:=Aa cs;clear cs;simp only;repeat still_step
   refine bL ?_;go_wp2_with fail;go_region
   have bl:=Aa ((cv.o.Du ((aO I.heap.size I).alloc (aB _) (.cells #[.int .u32 (st.Ai d).1,I0 (st.Ai d).2] 266))).drewN 1);have bv:Hid (Ac (I.alloc (.cells #[.int .u32 (st.Ai d).1,I0 (st.Ai d).2] 266)).drew w.heap.size (X_3 st.pl st.en h) 159):=Ac.alloc b4.o _;have bo:Hid (Ac (I.alloc (.cells #[.int .u32 (st.Ai d).1,I0 (st.Ai d).2] 266)).drew I.heap.size #[.int .u32 (st.Ai d).1,I0 (st.Ai d).2] 266):=Ac.new _ _ _;have cl:Hid (VOk (I.alloc (.cells #[.int .u32 (st.Ai d).1,I0 (st.Ai d).2] 266)).drew w.heap.size V.sv.ownBlock false bj u.t):=by
    have cb:VOk (I.alloc (.cells #[.int .u32 (st.Ai d).1,I0 (st.Ai d).2] 266)).drew w.heap.size V.sv.ownBlock false bj u.t:=by
     rcases cy.o with⟨Y,bu⟩|⟨Y,b9,ch,bu,ce⟩
     cases Y
     exact Or.inr ⟨Y,b9,ch,bu,ce.mono (fun cf _ X h=>⟨bC _ _ _ X,h⟩) (aB _) kY⟩
    exact cb
   generalize cq:(I.alloc (.cells #[.int .u32 (st.Ai d).1,I0 (st.Ai d).2] 266)).drew=b6 at*;change Hid (Core c w s none u.fuel u.far (I.alloc (.cells #[.int .u32 (st.Ai d).1,I0 (st.Ai d).2] 266)).drew V)at bl;rw[cq]at bl;clear cq c4 dj h0 c7 c5 dk c6 c8;generalize dd:I.heap.size=b2 at*;clear dd;go_wp2_with fail;have dr:(st.pl:Int)<=(Z:Int):=kX;have ds:(Z:Int)<=(c.bs.size:Int):=kX;refine BF (fun W=>W.cell? (A0 b2 0)=some (.int .u32 (st.Ai d).1)/\W.cell? (A0 b2 1)=some (I0 (st.Ai d).2)/\W.cell? (A0 c.tb 46)=some (.string c.bs)/\W.cell? (A0 w.heap.size 0)=some (I0 st.pl)) [0,1,2,3,4,5,6,7,8,9,10,11] 12 13 _ _ _ rfl rfl rfl rfl kZ kZ (fun _ _ d _ _ h=>by cases d<;>exact h) ?_ ⟨bo.o.cell 0,bo.o.cell 1,bl.o.tr.QL,bv.o.cell 0⟩;refine l2 ?_;refine AH (P0 b2) rfl (fun W F=>by obtain⟨K,L,M,O⟩:=F;go_simp) (fun E B=>?_);go_simp;refine B _ ?_;clear B E;refine AH (.int .u32 (st.Ai d).1) rfl (fun W F=>by obtain⟨K,L,M,O⟩:=F;go_simp) (fun E B=>?_);go_simp;refine B _ ?_;clear B E;refine AH (P0 c.tb) rfl (fun W F=>by obtain⟨K,L,M,O⟩:=F;go_simp) (fun E B=>?_);go_simp;refine B _ ?_;clear B E;refine AH (P0 c.tb) rfl (fun W F=>by obtain⟨K,L,M,O⟩:=F;go_simp) (fun E B=>?_);go_simp;refine B _ ?_;clear B E;refine AH (.pointer (some (A0 c.tb 46))) rfl (fun W F=>by obtain⟨K,L,M,O⟩:=F;go_simp) (fun E B=>?_);go_simp;refine B _ ?_;clear B E;refine AH (.string c.bs) rfl (fun W F=>by obtain⟨K,L,M,O⟩:=F;go_simp) (fun E B=>?_);go_simp;refine B _ ?_;clear B E;refine AH (P0 w.heap.size) rfl (fun W F=>by obtain⟨K,L,M,O⟩:=F;go_simp) (fun E B=>?_);go_simp;refine B _ ?_;clear B E;refine AH (I0 st.pl) rfl (fun W F=>by obtain⟨K,L,M,O⟩:=F;go_simp) (fun E B=>?_);go_simp;refine B _ ?_;clear B E;refine AH (I0 Z) rfl (fun W F=>by obtain⟨K,L,M,O⟩:=F;go_simp) (fun E B=>?_);go_simp;refine B _ ?_;clear B E;refine AH (.string (c.bs.extract st.pl Z)) rfl (fun W F=>by obtain⟨K,L,M,O⟩:=F;go_simp) (fun E B=>?_);go_simp;refine B _ ?_;clear B E;refine AH (.pointer (some (A0 b2 1))) rfl (fun W F=>by obtain⟨K,L,M,O⟩:=F;go_simp) (fun E B=>?_);go_simp;refine B _ ?_;clear B E;refine AH (I0 (st.Ai d).2) rfl (fun W F=>by obtain⟨K,L,M,O⟩:=F;go_simp) (fun E B=>?_);go_simp;refine B _ ?_;clear B E;refine Ag ?_;unfold Oper.wp;go_simp;refine(Pv (c.bs.extract st.pl Z) lG (st.Ai d).2 c9.2 (b6.drewN 1)).mono ?_;rintro e b3⟨rfl,an⟩;have a0:Below b6.heap.size b6 b3:=⟨an.os,an.tape,an.output,an.size,an.block⟩;have dh:=a0.size;have bx:=Aa (bl.o.Du a0);have cz:=Aa (bv.o.below a0 bv.o.lt);have ci:=Aa (bo.o.below a0 bo.o.lt);have c1:Hid (VOk b3 w.heap.size V.sv.ownBlock false bj u.t):=by
    have cb:VOk b3 w.heap.size V.sv.ownBlock false bj u.t:=by
     rcases cl.o with⟨Y,bu⟩|⟨Y,b9,ch,bu,ce⟩
     cases Y
     exact Or.inr ⟨Y,b9,ch,bu,ce.mono (fun cf _ X h=>⟨a0.block cf X,h⟩) (aB _) dh⟩
    exact cb
   clear an a0 bl bv bo cl;have b7:=cz.o.c0;simp only;refine⟨⟨ci.o.cell 0,ci.o.cell 1,bx.o.tr.QL,b7⟩,?_⟩;generalize ct:CB (c.bs.extract st.pl Z) (st.Ai d).2 (c.bs.extract st.pl Z).size=cg at*;by_cases br:(st.Ai d).1=cg
   . have da:(((st.Ai d).1:Int) != (cg:Int))=false:=by simp[br]
     have b5:=Aa (show Cm c.bs (st.Ai d) st u=BW u.fuel u.far {u.st with en:=st.en} u.t by rw[bz.o,aC (by simp[br])]);clear bz br ct;repeat still_step
     refine bL ?_;go_wp2;go_ret3;rw[y.o,b5.o];exact Or.inr (Or.inl ⟨rfl,rfl,V,bj,by simp[BW,c0.o],bx.o,cw.o,cx.o,c1.o,fun _ e=>by cases e⟩)
   . have da:(((st.Ai d).1:Int) != (cg:Int))=true:=by simp;omega
     have b5:=Aa (show Cm c.bs (st.Ai d) st u=CK u.fuel u.far st.pl st by rw[bz.o,aF (fun e=>br e.symm)]);clear bz br ct;repeat still_step
     refine bL ?_;go_wp2_with fail;refine(DE c.gb c.rb c.tb c.bs b3 V bx.o.tr st.pl).mono ?_;rintro e dv⟨rfl,cu⟩;have c2:=Aa cu;clear cu;simp only;go_wp2;go_ret3;rw[y.o,b5.o];exact Az.fail st.pl st bx.o c2.o _ _
 subst ab;have ao:Hid (Az c w s .none false (Cm c.bs (st.Ai d) st u) (.returned (.tuple #[.pointer none,I0 0,.bool false])) I):=by
  have:Cm c.bs (st.Ai d) st u=u:=by unfold Cm;rw[J];simp
  have ca:Az c w s .none false (Cm c.bs (st.Ai d) st u) (.returned (.tuple #[.pointer none,I0 0,.bool false])) I:=by rw[this];exact Or.inr (Or.inr ⟨ac,J,V,_,0,rfl,bp⟩)
  exact ca
 clear ac J bp;exact h6
theorem Pw(h:p:=by
 rcases ad with⟨bx,_⟩|⟨_,u,p,b1,bh⟩
 cases bx
 exact⟨p,u,b1,bh⟩):p:=h
theorem Core.Acu{c w p e s a f k o h sv}(b:Core c w s f k o p a)(g:A7 c.gb c.rb c.tb c.bs e {a with read:=FG (a.Aw.drop s.Aw.length) a.read,Aw:=a.Aw.take s.Aw.length,nodes:=h,sv:=sv})(u:TF c.tb c.rb none none p e)(x:sv.ownBlock=a.sv.ownBlock):
 Core c w s f k o e {a with read:=s.read,Aw:=s.Aw,nodes:=h,sv:=sv}:=by
 obtain⟨y,j,r⟩:=b.sp;have v:A7 c.gb c.rb c.tb c.bs e {a with read:=s.read,Aw:=s.Aw,nodes:=h,sv:=sv}:=by
  rw[j]at g;rw[jO,eT,r.Acu]at g;exact g
 refine⟨v,b.fuel,b.far,⟨[],by simp,rfl⟩,?_,b.fr.trans (u.any s.sv.ownBlock f) (Or.inl rfl) (Or.inl rfl),?_⟩;have:=b.HX;rw[j]at this;simp only[aR]at this⊢;omega;simp only;rw[x];exact b.sv
theorem Core.Aw{c w w' s f st r p k u}(e:Cc c w s st r)(o:Core c w s p k u w' f):(∀ a,a∈f.Aw->a.1<=a.2/\a.2<=c.bs.size)/\s.Aw.length<=f.Aw.length:=by
 obtain⟨v,g,j⟩:=o.sp;refine⟨fun a h=>?_,by rw[g];simp⟩;rw[g]at h;rcases aV.1 h with b|b;exact e.sp a b;have:=j.in a b;rw[e.rd,e.inv.rd]at this;exact this
structure U3 (c:Cx) (p:Pt) (k0 k1:aD It):Prop where
 ex:∃ g cap q0 q1 f lo hi,p.v=S0 g 2 cap/\g<c.w0.heap.size/\c.w0.cell? (A0 g 0)=some (P0 q0)/\c.w0.cell? (A0 g 1)=some (P0 q1)/\BM f c.w0 lo hi q0 false k0/\BM f c.w0 lo hi q1 false k1/\hi<=c.w0.heap.size
def R1(T:Nat->Nat->Bool->aD It->PS->PO)(N:Nat)(f e:aD It)(st:PS)(a:PO)(b:Nat)(s:Ts):Prop:=
 (b=0->a=EC T N e st (T s.fuel s.far false f st))/\(b=1->a=C6 N 49 (T s.fuel s.far false e st))/\(b=2->a.e=0/\a.ok=false/\a.fuel=s.fuel/\a.far=s.far)
theorem R1.dead{T:Nat->Nat->Bool->aD It->PS->PO}{N j k f st g a s}(p:R1 T N j k st g a s)(v:a<2)(e:f=if a=0 then j else k)(u:(T s.fuel s.far false f st).e≠0)(h:(T s.fuel s.far false f st).ok=false):g=T s.fuel s.far false f st:=by
 obtain⟨o,b,_⟩:=p;have r:a=0\/a=1:=kX;rcases r with rfl|rfl;simp only[dU]at e;subst e;rw[o rfl];unfold EC;rw[aF (Or.inr u)];unfold C6;rw[h];simp;simp at e;subst e;rw[b rfl];unfold C6;rw[h];simp
theorem R1.fit{T:Nat->Nat->Bool->aD It->PS->PO}{N j k e st h a s}(p:R1 T N j k st h a s)(u:a<2)(f:e=if a=0 then j else k)(g:(T s.fuel s.far false e st).ok=true):h=Bs N (T s.fuel s.far false e st).fuel (T s.fuel s.far false e st).far (T s.fuel s.far false e st).st (47::F4 a::32::(T s.fuel s.far false e st).t):=by
 obtain⟨o,b,_⟩:=p;have r:a=0\/a=1:=kX;rcases r with rfl|rfl;simp only[dU]at f;subst f;rw[o rfl];unfold EC;rw[aF (Or.inl g)];unfold C6;rw[aF g];rfl;simp at f;subst f;rw[b rfl];unfold C6;rw[aF g];rfl
theorem R1.fail{T:Nat->Nat->Bool->aD It->PS->PO}{N j k f st o a s s4}(e:R1 T N j k st o a s)(y:a<2)(g:f=if a=0 then j else k)(u:(T s.fuel s.far false f st).e=0)(h:(T s.fuel s.far false f st).ok=false)(p:s4.fuel=(T s.fuel s.far false f st).fuel)(r:s4.far=(T s.fuel s.far false f st).far):R1 T N j k st o (a+1) s4:=by
 obtain⟨v,b,_⟩:=e;have x:a=0\/a=1:=kX;rcases x with rfl|rfl;simp only[dU]at g;subst g;refine⟨fun e=>by omega,fun _=>?_,fun e=>by omega⟩;rw[v rfl,p,r];unfold EC;rw[aC (by rw[h,u];simp)];simp at g;subst g;refine⟨fun e=>by omega,fun e=>by omega,fun _=>?_⟩;rw[b rfl];unfold C6;rw[h,p,r];simp[u,h]
structure AtC (c:Cx) (T:Nat->Nat->Bool->aD It->PS->PO) (k0 k1:aD It) (w:aE) (s:Ts) (st:PS) (ho:aM Nat) (hoa:aM Addr) (O:PO) (pb mb:Nat) (p:Pt) (j:Nat) (wr:aE) (sj:Ts):Prop where
 pre:Cc c wr sj st ho
 core:Core c w s none sj.fuel sj.far wr sj
 eqs:sj.Aw=s.Aw/\sj.nodes=s.nodes
 le:sj.fuel<=s.fuel
 box:Ac wr w.heap.size (X_1 st.pl st.en hoa) 159
 mark:Ac wr mb #[I0 s.Aw.length,I0 s.nodes] 272
 rem:R1 T c.N k0 k1 st O j sj
 nb:∀ g,sj.sv.ownBlock=some g->g≠w.heap.size/\g≠mb
 sz:mb<wr.heap.size
theorem QY(c)(X:DO c)(h)(d3:QI c h)(w s st f b j y k)(o:Cc c w s st f)(ah:Am w b j)(db:U3 c j y k)(dz:BK c.R false false y)(d0:BK c.R false false k)(ew:b<c.rb)(el:s.fuel<=h):
 Calls prog 131 #[P0 c.tb,P0 b,Bb st.pl st.en (Ce f)] w fun a w'=>Az c w s none false (Cn (tryT c.G c.bs c.N h) c.N y k s.fuel s.far st) a w':=by
 obtain⟨B,cv,d4,d5,ba,bp,bi,dm,bf,c7,c8,dp,dq,c9⟩:=db.ex;have er:=o.tr.Ap.lt;have es:=X.lt;have ep:=X.le;have c6:=X.bs;have ex:=ah.lt;have I:=Aa o;have ai:=Aa X;have b7:=Aa d3;have cp:=Aa dz;have cq:=Aa d0;have cl:=Aa dp;have cm:=Aa dq;have c2:=o.alloc X (AD st.pl st.en (Ce f));refine m2 ?_;intro a3 v A;have ap:=Aa c2;have dt:(w.alloc (AD st.pl st.en (Ce f))).heap.size=w.heap.size+1:=kY;unfold AD at ap v A dt;unfold Bb;generalize dj:Ce f=aj at*;have cd:=Aa dj;go_enter func131,ntmps131;go_wp2_with fail;generalize w.alloc (.cells (X_1 st.pl st.en aj) 159)=cs at*;refine(MT c.gb c.rb c.tb c.bs cs s ap.o.tr).mono ?_;rintro a w2⟨rfl,dx,av,ey⟩;have br:=Aa (av.Ap a3.o kX kX kY kY);have cg:=Aa (show Am w2 b j from av.Ap v.o kX kX kY kY);have bc:=Core.refl dx av I.o.HX none;have cf:Hid (Cc c w2 s st f):=Cc.next ai.o ap.o bc (Or.inl rfl) I.o.rd I.o.nd I.o.inv (fun _ _ _=>rfl) (fun _ a=>by cases a);have ch:=Aa (A.o.trans bc (Or.inl rfl));have b8:=Aa (Ac.new w2 #[I0 s.Aw.length,I0 s.nodes] 272);have e6:∀ z,(w2.alloc z).cell? (A0 b 8)=some (S0 B 2 cv):=fun z=>by rw[<- dm];exact(Ac.alloc cg.o z).cell 8
 have cn:Hid (AtC c (tryT c.G c.bs c.N h) y k w s st f aj (Cn (tryT c.G c.bs c.N h) c.N y k s.fuel s.far st) b w2.heap.size j 0 (w2.alloc (.cells #[I0 s.Aw.length,I0 s.nodes] 272)) s):=by
  refine⟨cf.o.alloc ai.o _,ch.o.Du ((aO _ _).alloc (aB _) _),⟨rfl,rfl⟩,aB _,Ac.alloc br.o _,b8.o,⟨fun _=>rfl,fun x=>by omega,fun x=>by omega⟩,fun B a=>?_,by simp⟩;have:=I.o.tr.D0 B a;omega
 simp only;go_wp2_with fail;generalize ei:w2.alloc (.cells #[I0 s.Aw.length,I0 s.nodes] 272)=d8 at*;generalize et:w2.heap.size=Z at*;go_loopw [23,10,11,12,13,14,15] (fun a4 _ _ _ _ _ _ wr=>∃ (g:Nat) (r:Ts),a4=I0 g/\g<=2/\Hid (AtC c (tryT c.G c.bs c.N h) y k w s st f aj (Cn (tryT c.G c.bs c.N h) c.N y k s.fuel s.far st) b Z j g wr r)) (fun a4 _ _ _ _ _ _ _=>2-(intOf a4).toNat)
 case atStart=>exact⟨0,s,rfl,by omega,cn⟩
 case round=>
  obtain⟨g,r,rfl,em,bd⟩:=hrel;obtain⟨ae,ct,ec,ed,ar,ee,cu,a8,ef⟩:=bd.out;by_cases aw:g<2
  . have eo:(g:Int)<2:=by omega
    have cr:Hid (∃ ak F,wr.cell? (A0 B g)=some (P0 ak)/\BM ba c.w0 bp bi ak false F/\BK c.R false false F/\F=if g=0 then y else k):=by
     have c1:g=0\/g=1:=kX;rcases c1 with rfl|rfl;exact⟨d4,y,by rw[ae.A9.cell (p:=(A0 B 0)) bf];exact c7,cl.o,cp.o,rfl⟩;exact⟨d5,k,by rw[ae.A9.cell (p:=(A0 B 1)) bf];exact c8,cm.o,cq.o,rfl⟩
    obtain⟨ak,F,ek,dr,a1,dc⟩:=cr.o;have ax:=a1.CA rfl;have d9:=ar.c0;have ea:=ar.c1;have eb:=ar.c2;have Y:=b7.o wr r st f F false false false false ba bp bi ak ae dr c9 a1 (fun x=>by rcases x with x|x<;>cases x) rfl kX;rw[EV ax,D2 ax,cd.o]at Y;unfold Bb at Y;have b0:=Aa Y;have a7:Hid ((tryT c.G c.bs c.N h r.fuel r.far false F st).ok=true->Dt c.bs c.N st false (tryT c.G c.bs c.N h r.fuel r.far false F st)/\(tryT c.G c.bs c.N h r.fuel r.far false F st).e=0):=fun ay=>by have:=(BQ c.G ai.o.wf h).fit r.fuel r.far false false false F _ a1 ae.inv ay;rw[ax]at this;exact this
    have eq:=(BQ (R:=c.R) (bs:=c.bs) (N:=c.N) c.G ai.o.wf h).less r.fuel r.far false F st;have By:=bd;have an:=Aa dc;have dd:some w.heap.size≠r.sv.ownBlock:=fun a=>(a8 _ a.symm).1 rfl
    have df:some Z≠r.sv.ownBlock:=fun a=>(a8 _ a.symm).2 rfl
    go_wp2_with fail;have Y:=b0.o;generalize di:tryT c.G c.bs c.N h r.fuel r.far false F st=z at*;have K:=Aa di;refine Y.mono fun a9 e az=>?_
    have V:=az.keeps;have bu:=Aa (V.Ap By.o.box kX kX dd kY);have ao:=Aa (V.Ap By.o.mark kX kX df kY);have ez:=V.size;have dl:=Az.ahead By.o.core az;rcases az with⟨d1,d2,af⟩|⟨d1,d2,J,bq,af,M,cw,cx,ad,eg⟩|⟨d1,d2,J,bq,E,af,M⟩;subst d2;have am:Hid (Az c w s .none false (Cn (tryT c.G c.bs c.N h) c.N y k s.fuel s.far st) (.panicked (F7 z.e)) e):=by
     have dh:z.ok=false:=by
      cases ay:z.ok with
      | false=>rfl
      | true=>exact absurd (a7.o ay).2 d1
     have:=By.o.rem.dead aw an.o (by rw[K.o];exact d1) (by rw[K.o];exact dh);rw[K.o]at this;have S:Az c w s .none false (Cn (tryT c.G c.bs c.N h) c.N y k s.fuel s.far st) (.panicked (F7 z.e)) e:=by rw[this];exact dl
     exact S
    simp only;exact⟨rfl,am.o⟩
    . subst af;have bb:=By.o.rem.fit aw an.o (by rw[K.o];exact d2);rw[K.o]at bb;have a6:=Aa bb;have d7:=Aa (a7.o d2).1;obtain⟨p,u,dy,ds⟩:∃ p u,bq=P0 p/\FA u e wr.heap.size e.heap.size J.sv.ownBlock p z.t:=by
       exact Pw
      subst dy;have ci:=Aa ds;have O:=Aa (By.o.core.trans M (Or.inl rfl));have b3:=Aa cw;have b4:=Aa cx;have e1:=By.o.core.fr.size;generalize dk:z.st.pl=e5 at*;have ce:=Aa dk;simp only;go_wp2_with fail;have be:Below e.heap.size e ((e.alloc (.cells #[P0 p] 55)).alloc (.cells (X_9 g ByteArray.empty e.heap.size) 177)):=((aO _ _).alloc (aB _) _).alloc kY _;have ac:=Aa (O.o.Du be);have b5:Hid (Ac ((e.alloc (.cells #[P0 p] 55)).alloc (.cells (X_9 g ByteArray.empty e.heap.size) 177)) e.heap.size #[P0 p] 55):=Ac.alloc (Ac.new _ _ _) _;have c3:=ci.o.mono (w':=(e.alloc (.cells #[P0 p] 55)).alloc (.cells (X_9 g ByteArray.empty e.heap.size) 177)) (sb':=J.sv.ownBlock) (lo':=w.heap.size) (hi':=e.heap.size) (fun E _ V x=>⟨be.block E V,x⟩) kX (aB _);have cj:=Aa c3;have e0:((e.alloc (.cells #[P0 p] 55)).alloc (.cells (X_9 g ByteArray.empty e.heap.size) 177)).heap.size=e.heap.size+2:=kY;change Calls prog 186 #[P0 c.tb,.agg (X_9 g ByteArray.empty e.heap.size)] ((e.alloc (.cells #[P0 p] 55)).alloc (.cells (X_9 g ByteArray.empty e.heap.size) 177)) _;generalize(e.alloc (.cells #[P0 p] 55)).alloc (.cells (X_9 g ByteArray.empty e.heap.size) 177)=aq at*;have eu:=b4.o
      cases bj:J.nodes with
      | zero=>
       refine(Fb c.gb c.rb c.tb c.bs aq J ac.o.tr 5 g ByteArray.empty (S0 e.heap.size 1 1) bj rfl).mono ?_;rintro a ab⟨rfl,rfl⟩;simp only;refine⟨rfl,?_⟩;rw[a6.o];exact Az.dead ac.o _ kX
      | succ m=>
       refine(Fs c.gb c.rb c.tb c.bs aq J ac.o.tr 5 g ByteArray.empty (S0 e.heap.size 1 1) m bj Co rfl).mono ?_;rintro a ab⟨rfl,a0,L,c5,du⟩;have bz:=Aa (ac.o.made a0 L);have co:=Aa c5;have bk:∀ E,w.heap.size<=E->E≠c.tb/\E≠c.rb:=fun E V=>⟨by omega,by omega⟩
       have b6:=Aa (L.Ap b5.o kX kX kY kY);have c4:=cj.o.mono (w':=ab) (sb':=J.sv.ownBlock) (lo':=w.heap.size) (hi':=ab.heap.size) (fun E k e2 x=>⟨L.block E kX (bk E k).1 (bk E k).2 kY kY,x⟩) (aB _) kX;have ck:=Aa c4;simp only;go_wp2;go_ret3;rw[a6.o];have de:¬ z.st.Af=c.N:=kX;unfold Bs;rw[aC de];refine Or.inr (Or.inl ⟨rfl,rfl,_,_,?_,bz.o,b3.o,?_,Or.inr ⟨rfl,u+1,aq.heap.size,rfl,?_⟩,fun x a=>by cases a⟩);simp only[BW,ce.o];rfl;simp only[BW];omega;have bm:∀ B,J.sv.ownBlock=some B->B<e.heap.size:=fun B a=>(O.o.tr.D0 B a).2
       refine⟨5,g,ByteArray.empty,_,[(p,z.t)],co.o,by omega,by omega,fun a=>by have:=bm _ a.symm;omega,Or.inr ⟨e.heap.size,1,rfl,by omega,by omega,fun a=>by have:=bm _ a.symm;omega,fun i bg=>?_⟩,fun q bl=>?_,?_,⟨by omega,by omega⟩,⟨by omega,by omega⟩,fun _=>⟨by omega,rfl⟩,by simp⟩;simp at bg;subst bg;exact b6.o.cell 0;simp at bl;subst bl;exact ck.o;simp[BW,HQ]
    . subst af;have O:=Aa (By.o.core.trans M (Or.inl rfl));obtain⟨dv,dw⟩:=Core.Aw I.o O.o;have ej:=M.HX;have cc:=fun(a2:Ts) (au:a2.fuel=z.fuel) (S:a2.far=z.far)=>By.o.rem.fail (s4:=a2) aw an.o (by rw[K.o];exact d1) (by rw[K.o];exact d2) (by rw[K.o];exact au) (by rw[K.o];exact S)
      have cb:=Aa cc;have al:=Aa M.fuel;have a5:=Aa M.far;have b2:=Aa M.sv;have e3:e.cell? (A0 (w.heap.size+1+1) 0)=some (I0 s.Aw.length):=by rw[show w.heap.size+1+1=Z by omega];exact ao.o.cell 0
      have e4:e.cell? (A0 (w.heap.size+1+1) 1)=some (I0 s.nodes):=by rw[show w.heap.size+1+1=Z by omega];exact ao.o.cell 1
      simp only;go_wp2_with fail;refine(NI c.gb c.rb c.tb c.bs c6 e J O.o.tr s.Aw.length s.nodes dw dv kX).mono ?_;rintro a ab⟨rfl,d6,a0,L,bo⟩;have U:=O.o.Acu a0 L bo;have bv:=Aa (L.Ap bu.o kX kX kY kY);have b9:=Aa (L.Ap ao.o kX kX kY kY);have du:=L.size;have ca:Hid (AtC c (tryT c.G c.bs c.N h) y k w s st f aj (Cn (tryT c.G c.bs c.N h) c.N y k s.fuel s.far st) b Z j (g+1) ab {J with read:=s.read,Aw:=s.Aw,nodes:=s.nodes,sv:=d6}):=by
       refine⟨Cc.next ai.o I.o U (Or.inl rfl) I.o.rd I.o.nd I.o.inv (fun _ _ _=>rfl) (fun _ a=>by cases a),?_,⟨rfl,rfl⟩,?_,bv.o,b9.o,cb.o _ al.o a5.o,fun B a=>?_,by omega⟩;have au:=al.o;have S:=a5.o;exact⟨U.tr,rfl,rfl,U.sp,U.HX,U.fr,U.sv⟩;have:=By.o.le;have au:=al.o;simp only;omega;simp only at a;rw[bo]at a;rcases b2.o with x|⟨eh,x,l⟩;rw[x]at a;exact By.o.nb B a;rw[x]at a;cases a;have:=By.o.sz;exact⟨by omega,by omega⟩
      simp only;go_wp2;go_roundw
      case rel=>exact⟨g+1,_,by go_num,by omega,ca⟩
      case measure=>simp[intOf];omega
  have en:¬ (g:Int)<2:=kX;have da:g=2:=kX;obtain⟨cy,cz,a9,c0⟩:=cu.2.2 da;have am:Hid (Az c w s .none false (Cn (tryT c.G c.bs c.N h) c.N y k s.fuel s.far st) (.returned (.tuple #[.pointer none,I0 0,.bool false])) wr):=by
   have S:Az c w s .none false (Cn (tryT c.G c.bs c.N h) c.N y k s.fuel s.far st) (.returned (.tuple #[.pointer none,I0 0,.bool false])) wr:=Or.inr (Or.inr ⟨cy,cz,r,_,0,rfl,by rw[a9,c0];exact ct⟩);exact S
  go_wp2;go_ret3;exact am.o
theorem ms(h:p:=by
 simp[Value.ownBlock]at e;subst e;rcases ah with ab|ab;left;exact ae g ab;right;omega):p:=h
theorem Mw:(prog.info? 55).map (fun i=>(i.zero,i.size,i.bytes))=some (some (.pointer none),1,8):=kZ
structure Fg (w:aE) (B:Nat) (sb:aM Nat) (v:aI) (kids:aD (Nat × aD UInt8)):Prop where
 row:w.ownsRow B 55 1 v kids.length (ER (kids.map Prod.fst))
 nsb:∀ g,v.ownBlock=some g->some g≠sb
 ok:∃ f,∀ q,q∈kids->∃ lo hi,B<=lo/\hi<=w.heap.size/\(∀ g,v.ownBlock=some g->g<lo\/hi<=g)/\FA f w lo hi sb q.1 q.2
theorem Fg.nil(w a f):Fg w a f (.slice none 0 0) []:=
 ⟨cC _ _ _ _,fun g b=>by simp[Value.ownBlock]at b,⟨0,fun q e=>by simp at e⟩⟩
theorem An{w w':aE}{g:Nat}{h:TypeId}{k n:Nat}{f:aI}{o:aD aI}(j:w.ownsRow g h k f n o)(x:∀ a,f.ownBlock=some a->w'.heap[a]? = w.heap[a]?):w'.ownsRow g h k f n o:=by
 refine⟨j.1,?_⟩;rcases j.2 with⟨b,e⟩|⟨a,p,r,b,e,u,v⟩;exact Or.inl ⟨b,e⟩;exact Or.inr ⟨a,p,r,b,e,by rw[x a (by rw[b];rfl)];exact u,v⟩
theorem Fg.B9{w w' f tb rb o p r z}{y:aD (Nat × aD UInt8)}(g:Fg w f o z y)(v:TF tb rb o r w w')(M:tb<f)(O:rb<f)(h:r=none\/∀ b,r=some b->b<f)(j:p=o\/∃ b,p=some b/\w.heap.size<=b):Fg w' f p z y:=by
 have S:=v.size;have u:∀ e,f<=e->e<w.heap.size->some e≠o->w'.heap[e]? = w.heap[e]? /\ some e≠p:=fun e J x k=>by
  refine⟨v.block e x kX kX k (fun a=>?_),fun a=>?_⟩;rcases h with h|h;rw[h]at a;cases a
  have:=h e a.symm;omega;rcases j with j|⟨b,j,l⟩;rw[j]at a;exact k a;rw[j]at a;cases a;omega
 refine⟨An g.row fun b a=>?_,fun b a=>?_,?_⟩;have:=g.row.lt b a;exact(u b this.1 this.2 (g.nsb b a)).1;have:=g.row.lt b a;exact(u b this.1 this.2 (g.nsb b a)).2;obtain⟨B,I⟩:=g.ok;refine⟨B,fun q F=>?_⟩;obtain⟨K,E,A,L,c,d⟩:=I q F;exact⟨K,E,A,by omega,c,d.mono (fun e J x k=>u e kX kX k) (aB _) (aB _)⟩
theorem Fg.Ahg{w f h j k}{g:aD (Nat × aD UInt8)}(a:Fg w f j k g)(y:h<=f):Pz w h w.heap.size j k (g.map Prod.fst):=by
 rcases a.row.2 with⟨b,h0⟩|⟨e,o,u,b,v,x,A,z,B,E⟩;exact Or.inl ⟨b,by rw[cG h0];rfl⟩;subst b;have p:=a.row.lt e rfl;refine Or.inr ⟨e,o,by simp,by omega,p.2,a.nsb e rfl,fun r ad=>?_⟩;rw[a.row.cellAt r AM];simp at ad;simp[ER,ad]
theorem Fg.Ahc{w e g h p}{f:aD (Nat × aD UInt8)}(b:Fg w e h p f)(x:g<=e):∃ a,∀ q,q∈f->FA a w g w.heap.size h q.1 q.2:=by
 obtain⟨a,o⟩:=b.ok;refine⟨a,fun q k=>?_⟩;obtain⟨r,u,c,d,v,j⟩:=o q k;exact j.mono (fun _ _ _ b=>⟨rfl,b⟩) kX d
theorem Fg.push{w w1 w2:aE}{j u p g r:Nat}{k:aM Nat}{h:aI}{f:aD (Nat × aD UInt8)}{t:aD UInt8}(x:Fg w1 j k h f)(ae:∀ g,h.ownBlock=some g->g<w.heap.size)(F:j<=w.heap.size)(_hle:w.heap.size<=w1.heap.size)(O:FA u w1 w.heap.size w1.heap.size k p t)(Y:Obj)(U:∀ g,k=some g->g<w1.heap.size)(L:w2.ownsRow j 55 1 (S0 g (f.length+1) r) (f.length+1) (ER (f.map Prod.fst)++[P0 p]))(y:(w1.alloc Y).grownBy w2 h.ownBlock)(ah:h.ownBlock=some g\/g=w1.heap.size+1):Fg w2 j k (S0 g (f.length+1) r) (f++[(p,t)]):=by
 have S:=y.size;simp at S;have A:∀ a,a<w1.heap.size->some a≠h.ownBlock->w2.heap[a]? = w1.heap[a]? := fun a J K=>by
  rw[y.block a lA K,bC _ _ _ J]
 obtain⟨E,M⟩:=x.ok;refine⟨by simpa[ER]using L,fun v e=>?_,⟨max u E,fun q b=>?_⟩⟩;simp[Value.ownBlock]at e;subst e;rcases ah with ab|ab;exact x.nsb g ab;intro e;have:=U g e.symm;omega;rcases aV.1 b with b|b;obtain⟨X,I,B,Z,c,d⟩:=M q b;refine⟨X,I,B,by omega,fun v e=>?_,(d.mono (fun a V z o=>⟨A a kX (fun e=>by have:=c a e.symm;omega),o⟩) (aB _) (aB _)).fuel kX⟩;simp[Value.ownBlock]at e;subst e;rcases ah with ab|ab;exact c g ab;right;omega;simp at b;subst b;refine⟨w.heap.size,w1.heap.size,F,by omega,fun v e=>?_,(O.mono (fun a V z o=>⟨A a z (fun e=>by have:=ae a e.symm;omega),o⟩) (aB _) (aB _)).fuel kX⟩;exact ms
theorem Core.own{c}{w w1 w2}{s f}{k}{h p}(a:Core c w s k h p w1 f)(r:c.tb<w.heap.size)(u:c.rb<w.heap.size)(v:w2.os=w1.os)(x:w2.tape=w1.tape)(hu:w2.output=w1.output)(E:w1.heap.size<=w2.heap.size)(e:∀ b,b<w1.heap.size->b<w.heap.size\/some b=f.sv.ownBlock->w2.heap[b]? = w1.heap[b]?):Core c w s k h p w2 f:=by
 have F:=a.fr.size;refine⟨⟨?_,?_,a.tr.len,?_,a.tr.lt⟩,a.fuel,a.far,a.sp,a.HX,⟨v.trans a.fr.os,x.trans a.fr.tape,hu.trans a.fr.output,by omega,fun b o y z A B=>?_⟩,a.sv⟩;have:=a.tr.Ap;unfold Ac at*;rw[e c.tb kX (Or.inl r)];exact this;have:=a.tr.rd;unfold Ac at*;rw[e c.rb kX (Or.inl u)];exact this;exact An a.tr.own fun j g=>e j (a.tr.own.lt j g).2 (Or.inr g.symm)
 rw[e b kX (Or.inl o)];exact a.fr.block b o y z A B
theorem HK(l t):CN (l++[t])=Dk (CN l) t:=by simp[CN]
theorem h4(h:p:=by
 rcases ab with h|h;have:=ae k e.symm;omega;exact ac.o.nsb k e.symm h):p:=h
theorem nN(h:p:=by
 rcases j.o.sv with h|⟨ax,h,l⟩;rw[h]at e;exact ar g e;rw[h]at e;cases e;omega):p:=h
abbrev kc(h:PLift q->p:=by
 intro aa;refine BF (fun W=>W.cell? (A0 w.heap.size 0)=some (I0 b.pl)) [0,1,2,4,5] 3 6 _ _ _ rfl rfl rfl rfl kZ kZ (fun _ _ d _ _ h=>by cases d<;>exact h) ?_ ah;simp only[aP,aS,aJ,aK,bK,bS];refine Ab _ rfl (fun W a=>rfl) ?_;refine Ab _ rfl (fun W a=>rfl) ?_;refine Ab _ rfl (fun W a=>by go_simp;rfl) ?_;refine Ab _ rfl (fun W a=>rfl) ?_;refine Ab (I0 b.pl) rfl (fun W a=>by go_simp) ?_;refine Ag ?_;unfold Oper.wp;go_simp;exact aa.1):p:=h ⟨z⟩
abbrev lm(h:PLift q->p:=by
 intro aa;simp only;refine⟨af.o.cell 0,?_⟩;repeat still_step
 refine bL ?_;go_wp2;go_ret3;rw[y.o];exact aa.1):p:=h ⟨z⟩
theorem GH{R bs N}(G)(k:∀ h,R h=true->BK R false false (G h))(e b j q g st)(f:(tryT G bs N e b j q g st).ok=true):(tryT G bs N e b j q g st).fuel<b:=by
 cases e with
 | zero=>cases f
 | succ e=>
  cases g with
  | nil=>cases f
  | cons o h=>
   cases b with
   | zero=>cases f
   | succ b=>
    have a:=BQ (R:=R) (bs:=bs) (N:=N) G k e;refine Nat.lt_succ_of_le ?_;unfold tryT;repeat' split
    all_goals first|exact Lq a _ _ _ _|exact Kg a _ _ _ _ _|exact Ns a _ _ _ _ _ _|exact a.less _ _ _ _ _|exact LN a _ _ _ _ _ _|exact JP a _ _ _ _ _|exact Sb a _ _ _ _ _|exact JQ a _ _ _ _ _|exact LH _ _ _ _ _ _ _
theorem MI(T:Nat->Nat->Bool->aD It->PS->PO)(N a f e b st t):manyT T N a (f+1) e b st t=
 if(T e b false a st).e≠0 then T e b false a st
 else if(T e b false a st).ok=false\/(T e b false a st).st.pl=st.pl then Bs N (T e b false a st).fuel (T e b false a st).far st (91::t++[93])
 else manyT T N a f (T e b false a st).fuel (T e b false a st).far (T e b false a st).st (Dk t (T e b false a st).t):=rfl
theorem Fg.form{w g k f}{e:aD (Nat × aD UInt8)}(h:Fg w g k f e):∃ j a,f=.slice j e.length a:=by
 rcases h.row.2 with⟨b,h0⟩|⟨p,a,o,b,_⟩;exact⟨none,0,by rw[b,h0]⟩;exact⟨_,a,b⟩
theorem Fg.made{W f a lo v rb e j}{h:aD (Nat × aD UInt8)}{b}(x:Fg W a e j h)(A:TF v rb none none W f)(r:Ac f W.heap.size #[I0 b,.int .u32 0,.string ByteArray.empty,j] 177)(u:lo<=a)(F:a<=W.heap.size)(y:v<a)(z:rb<a)(I:b=3\/b=4)(E:∀ o,e=some o->o<W.heap.size):
 ∃ g,FA g f lo f.heap.size e W.heap.size (HQ b 0 ByteArray.empty (h.map Prod.snd)):=by
 have p:=x.B9 (A.any e none) y z (Or.inl rfl) (Or.inl rfl);obtain⟨g,B⟩:=p.Ahc u;exact⟨g+1,b,0,ByteArray.empty,j,h,r,by omega,r.lt,fun k=>by have:=E _ k.symm;omega,p.Ahg u,B,rfl,by omega,⟨by omega,by omega⟩,fun k=>by omega,by simp⟩
def MU(w:aE)(a:Nat):Nat:=match w.cell? (A0 a 47)with|some (.int _ n)=>n.toNat|_=>0
theorem O8{b f a bs w s}(e:A7 b f a bs w s):MU w a=s.fuel:=by unfold MU;rw[e.Yj];simp
structure AtM (c:Cx) (T:Nat->Nat->Bool->aD It->PS->PO) (r:aD It) (w:aE) (s:Ts) (ho:aM Nat) (hoa:aM Addr) (st:PS) (O:PO) (gj:Nat) (v:aI) (kids:aD (Nat × aD UInt8)) (stj:PS) (wr:aE) (sj:Ts):Prop where
 pre:Cc c wr sj stj ho
 core:Core c w s none sj.fuel sj.far wr sj
 box:Ac wr w.heap.size (X_1 stj.pl stj.en hoa) 159
 Oh:Fg wr (w.heap.size+1) sj.sv.ownBlock v kids
 rem:O=manyT T c.N r gj sj.fuel sj.far stj (CN (kids.map Prod.snd))
 gas:sj.fuel<gj
 cnt:kids.length+sj.fuel<=s.fuel
 nb:∀ g,sj.sv.ownBlock=some g->g≠w.heap.size
 Ai:stj.Ai=st.Ai
 sz:w.heap.size<wr.heap.size
theorem UF(c)(al:DO c)(v)(er:QI c v)(w s st E a3 cg o)(U:Cc c w s st E)(cc:Am c.w0 a3 cg)(dy:K2 c w cg o)(cf:BK c.R false false o)(fd:s.fuel<=v):
 Calls prog 134 #[P0 c.tb,P0 a3,Bb st.pl st.en (Ce E)] w fun e w'=>Az c w s none false (manyT (tryT c.G c.bs c.N v) c.N o (s.fuel+1) s.fuel s.far st []) e w':=by
 obtain⟨eq,dw,en,eo,ep⟩:=cY Mw;obtain⟨g,da,ch,dc,et,dx,eb,dt,dr,ec,dv⟩:=dy.ex;have fg:=U.tr.Ap.lt;have fh:=al.lt;have ff:=al.le;have dl:=al.bs;have ea:=cc.lt;have fc:=U.HX;have bf:=cf.CA rfl;have bq:=Aa U;have ai:=Aa al;have cr:=Aa er;have bv:=Aa cf;have c5:=Aa ec;have c2:=Aa cc;have dh:=U.alloc al (AD st.pl st.en (Ce E));have cj:=Aa (Ac.new w (X_1 st.pl st.en (Ce E)) 159);have bu:Hid (Core c w s .none s.fuel s.far (w.alloc (AD st.pl st.en (Ce E))) s):=Core.refl (U.tr.alloc _) ((TF.refl c.tb c.rb .none .none w).alloc _) U.HX _;have br:=Aa dh;have ee:(w.alloc (AD st.pl st.en (Ce E))).heap.size=w.heap.size+1:=kY;unfold AD at br bu ee;unfold Bb;generalize d6:Ce E=a1 at*;have cy:=Aa d6;go_enter func134,ntmps134;go_wp2_with fail;generalize w.alloc (.cells (X_1 st.pl st.en a1) 159)=c8 at*;have c6:Hid (AtM c (tryT c.G c.bs c.N v) o w s E a1 st (manyT (tryT c.G c.bs c.N v) c.N o (s.fuel+1) s.fuel s.far st []) (s.fuel+1) (.slice none 0 0) [] st c8 s):=by
  refine⟨br.o,bu.o,cj.o,Fg.nil _ _ _,rfl,by omega,by simp,fun g e=>?_,rfl,by omega⟩;have:=bq.o.tr.D0 g e;omega
 go_loopw [9,10,11,12,13] (fun ew _ _ _ _ wr=>∃ (x:aD (Nat × aD UInt8)) (b:PS) (f:Ts) (ay:Nat),Hid (AtM c (tryT c.G c.bs c.N v) o w s E a1 st (manyT (tryT c.G c.bs c.N v) c.N o (s.fuel+1) s.fuel s.far st []) ay ew x b wr f)) (fun _ _ _ _ _ wr=>MU wr c.tb)
 case atStart=>exact⟨[],st,s,s.fuel+1,c6⟩
 case round=>
  obtain⟨x,b,f,ay,b5⟩:=hrel;obtain⟨e0,e2,e3,c9,e4,e5,e6,ar,e7,e1⟩:=b5.out;obtain⟨L,K,de⟩:=c9.form;subst de;have By:=b5;go_wp2_with fail;refine(MT c.gb c.rb c.tb c.bs wr f By.o.pre.tr).mono ?_;rintro e w2⟨rfl,ej,bc,ef⟩;have b4:=Core.refl ej bc By.o.pre.HX none;have ck:=Aa (bc.Ap By.o.box kX kX kY kY);have cs:=Aa (By.o.Oh.B9 (bc.any f.sv.ownBlock none) kX kX (Or.inl rfl) (Or.inl rfl));have c1:Hid (Cc c w2 f b E):=Cc.next ai.o By.o.pre b4 (Or.inl rfl) By.o.pre.rd By.o.pre.nd By.o.pre.inv (fun _ _ _=>rfl) (fun _ e=>by cases e);have c3:=Aa (By.o.core.trans b4 (Or.inl rfl));simp only;go_wp2_with fail;have Y:=Aa (c1.o.alloc ai.o (.cells #[I0 f.Aw.length,I0 f.nodes] 272));have av:=Aa (c3.o.Du ((aO w2.heap.size w2).alloc (aB _) (.cells #[I0 f.Aw.length,I0 f.nodes] 272)));have au:=Aa (Ac.alloc ck.o (.cells #[I0 f.Aw.length,I0 f.nodes] 272));have bm:=Aa (Ac.new w2 #[I0 f.Aw.length,I0 f.nodes] 272);have ct:=Aa (cs.o.B9 (((TF.refl c.tb c.rb none none w2).alloc (.cells #[I0 f.Aw.length,I0 f.nodes] 272)).any f.sv.ownBlock none) kX kX (Or.inl rfl) (Or.inl rfl));have fm:(w2.alloc (.cells #[I0 f.Aw.length,I0 f.nodes] 272)).heap.size=wr.heap.size+2:=lA;rw[ef]at bm;generalize w2.alloc (.cells #[I0 f.Aw.length,I0 f.nodes] 272)=A at*;have ae:∀ g,(Value.slice L x.length K).ownBlock=some g->w.heap.size+1<=g/\g<wr.heap.size:=fun g e=>By.o.Oh.row.lt g e
  have ex:=au.o.c0;have ey:=au.o.c1;have ez:=au.o.c2;have fw:A.cell? (A0 a3 8)=some (S0 g 1 da):=by rw[<- eb,Y.o.A9.cell (p:=(A0 a3 8)) ea];exact c2.o.cell 8
  have fs:A.cell? (A0 g 0)=some (P0 ch):=by rw[Y.o.A9.cell (p:=(A0 g 0)) dt];exact dr
  refine AX 8 _ rfl rfl kZ kZ ?_;refine gq ?_;have bb:=cr.o (A.drewN 1) f b E o false false false false dc et dx ch (Y.o.drewN 1) c5.o dv bv.o (fun h=>by rcases h with h|h<;>cases h) rfl kX;rw[EV bf,D2 bf,cy.o]at bb;unfold Bb at bb;have c0:Hid ((tryT c.G c.bs c.N v f.fuel f.far false o b).ok=true->(Dt c.bs c.N b false (tryT c.G c.bs c.N v f.fuel f.far false o b)/\(tryT c.G c.bs c.N v f.fuel f.far false o b).e=0)/\(tryT c.G c.bs c.N v f.fuel f.far false o b).fuel<f.fuel):=fun an=>⟨by have:=(BQ c.G ai.o.wf v).fit f.fuel f.far false false false o _ bv.o Y.o.inv an;rw[bf]at this;exact this,GH c.G ai.o.wf v f.fuel f.far false o b an⟩
  obtain⟨gk,ds⟩:∃ gk,ay=gk+1:=⟨ay-1,by omega⟩;have cd:=By.o.rem;rw[ds]at cd;have y:=Aa (cd.trans (MI _ _ _ gk _ _ _ _));generalize fk:tryT c.G c.bs c.N v f.fuel f.far false o b=z at*;refine bb.mono fun aw J a2=>?_
  have S:=a2.keeps;have fn:wr.heap.size+2<=J.heap.size:=by have:=S.size;have fa:(A.drewN 1).heap.size=A.heap.size:=rfl;omega
  have d0:some w.heap.size≠f.sv.ownBlock:=fun e=>ar _ e.symm rfl
  have d5:some (wr.heap.size+1)≠f.sv.ownBlock:=fun e=>by have:=By.o.pre.tr.D0 _ e.symm;omega
  have V:=Aa (S.Ap (show Ac (A.drewN 1) w.heap.size _ _ from au.o) kX kX d0 kY);have bo:=Aa (S.Ap (show Ac (A.drewN 1) (wr.heap.size+1) _ _ from bm.o) kX kX d5 kY);have bk:=Aa (ct.o.B9 (((TF.refl c.tb c.rb none none A).drewN 1).any f.sv.ownBlock none) kX kX (Or.inl rfl) (Or.inl rfl));have bl:=Aa S;have d9:=Az.ahead (av.o.drewN 1) a2;by_cases O:z.e≠0
  . rcases d9 with⟨d1,d2,B⟩|⟨d1,d2,r,F,B,I,a6,a7,ad,b0⟩|⟨d1,d2,r,F,k,B,I⟩
    rotate_left;exact absurd d1 O;exact absurd d1 O;subst d2;have cq:Hid (Az c w s .none false (manyT (tryT c.G c.bs c.N v) c.N o (s.fuel+1) s.fuel s.far st []) (.panicked (F7 z.e)) J):=by
     have a8:Az c w s .none false (manyT (tryT c.G c.bs c.N v) c.N o (s.fuel+1) s.fuel s.far st []) (.panicked (F7 z.e)) J:=by rw[y.o,aF O];exact Or.inl ⟨d1,rfl,B⟩
     exact a8
    simp only;exact⟨rfl,cq.o⟩
  rw[aC O]at y;by_cases am:z.ok=false\/z.st.pl=b.pl
  . rw[aF am]at y;have cp:=Aa (show∃ r F k aj,aw=.returned (.tuple #[F,I0 k,.bool aj])/\Core c (A.drewN 1) f none z.fuel z.far J r/\(aj=true->k=(b.pl:Int))by
     rcases a2 with⟨d1,d2,B⟩|⟨d1,d2,r,F,B,I,a6,a7,ad,b0⟩|⟨d1,d2,r,F,k,B,I⟩;exact absurd d1 O;refine⟨r,F,_,true,B,I,fun _=>?_⟩;rcases am with h|h;rw[d2]at h;cases h
     rw[h];exact⟨r,F,k,false,B,I,fun h=>by cases h⟩)
    obtain⟨r,F,k,aj,dm,az,be⟩:=cp.o;subst dm;have a4:=Aa ((av.o.drewN 1).trans az (Or.inl rfl));obtain⟨eh,ei⟩:=Core.Aw (Y.o.drewN 1) az;have fb:=az.HX;have j:=Aa az;have ft:=bo.o.c0;have fu:=bo.o.c1;have eu:=V.o.c0;have du:∀ ak,aj=ak->ak=false\/(ak=true/\k=(b.pl:Int)):=fun ak e=>by cases ak with|false=>exact Or.inl rfl|true=>exact Or.inr ⟨rfl,be e⟩
    rcases du aj rfl with b6|⟨b6,S⟩;all_goals
     (try subst S);subst b6;simp only;repeat still_step
     refine bL ?_;go_wp2_with fail;refine(NI c.gb c.rb c.tb c.bs dl J r j.o.tr f.Aw.length f.nodes ei eh kX).mono ?_;rintro e aq⟨rfl,bg,ek,a0,ce⟩;have df:=j.o.Acu ek a0 ce;have X:=Aa ((av.o.drewN 1).trans df (Or.inl rfl));have bi:=Aa (a0.Ap V.o kX kX kY kY);have cu:Hid (Fg aq (w.heap.size+1) bg.ownBlock (.slice L x.length K) x):=(bk.out.B9 bl.o kX kX (Or.inl rfl) j.o.sv).B9 (a0.any r.sv.ownBlock none) kX kX (Or.inl rfl) (Or.inl ce);have fo:=a0.size;have ah:=bi.o.c0;generalize a9:({r with read:=f.read,Aw:=f.Aw,nodes:=f.nodes,sv:=bg}:Ts)=Z at*;have b2:Z.nodes=f.nodes:=by rw[<- a9]
     have db:Z.read=f.read:=by rw[<- a9]
     have aw:Z.sv=bg:=by rw[<- a9]
     simp only;go_wp2_with fail;have fj:=By.o.pre.nd
     cases b8:f.nodes with
     | zero=>
      have cw:=Aa (fun W (h:A7 c.gb c.rb c.tb c.bs W Z)=>Fb c.gb c.rb c.tb c.bs W _ h 4 0 ByteArray.empty (.slice L x.length K) (by rw[b2];exact b8) rfl);refine kc ?_;refine(cw.o _ (X.o.tr.drewN 1)).mono ?_;rintro e ci⟨rfl,rfl⟩;simp only;refine⟨rfl,?_⟩;rw[y.o];exact Az.dead (X.o.drewN 1) _ kX
     | succ m=>
      have cx:=Aa (fun W (h:A7 c.gb c.rb c.tb c.bs W Z)=>Fs c.gb c.rb c.tb c.bs W _ h 4 0 ByteArray.empty (.slice L x.length K) m (by rw[b2];exact b8) Co rfl);refine kc ?_;refine(cx.o _ (X.o.tr.drewN 1)).mono ?_;rintro e ci⟨rfl,el,bd,dj,fp⟩;have cm:=Aa ((X.o.drewN 1).made el bd);have af:=Aa (bd.Ap (show Ac (aq.drewN 1) w.heap.size _ _ from bi.o) kX kX kY kY);have dp:=((TF.refl c.tb c.rb none none aq).drewN 1).trans bd (Or.inl rfl) (Or.inl rfl);have dk:Ac ci aq.heap.size #[I0 4,.int .u32 0,.string ByteArray.empty,(.slice L x.length K)] 177:=dj;have c7:=Aa (cu.o.made (lo:=w.heap.size) dp dk kX kX kX kX (Or.inr rfl) (fun g e=>by rw[<- aw]at e;exact(X.o.tr.D0 g e).2));refine lm ?_;have d3:¬ b.Af=c.N:=kX;unfold Bs;rw[aC d3];obtain⟨u,dq⟩:=c7.o;refine Or.inr (Or.inl ⟨rfl,rfl,_,_,rfl,cm.o,?_,?_,Or.inr ⟨rfl,u,aq.heap.size,rfl,?_⟩,fun h e=>by cases e⟩);simp only[BW];rw[db];exact By.o.pre.rd;simp only[BW];omega;simp only[BW];rw[aw];exact dq
  rw[aC am]at y;have an:z.ok=true:=by
   cases h:z.ok with
   | false=>exact absurd (Or.inl h) am
   | true=>rfl
  obtain⟨⟨be,_⟩,fr⟩:=c0.o an;rcases a2 with⟨d1,d2,B⟩|⟨d1,d2,r,F,B,I,a6,a7,ad,b0⟩|⟨d1,d2,r,F,k,B,I⟩;exact absurd d1 O
  rotate_left;rw[an]at d2;cases d2
  subst B;obtain⟨p,u,em,ed⟩:∃ p u,F=P0 p/\FA u J (A.drewN 1).heap.size J.heap.size r.sv.ownBlock p z.t:=by
   exact Pw
  subst em;have c4:=Aa ed;have j:=Aa I;have a4:=Aa ((av.o.drewN 1).trans I (Or.inl rfl));have cn:=Aa a6;have co:=Aa a7;have a5:=Aa be;have ac:=Aa (bk.out.B9 bl.o kX kX (Or.inl rfl) I.sv);have fl:¬ (z.st.pl:Int)=(b.pl:Int):=fun e=>am (Or.inr kX)
  have eu:=V.o.c0;have fv:=V.o.frozen 0;have fe:x.length<=100000:=kX;have d4:some w.heap.size≠(Value.slice L x.length K).ownBlock:=fun e=>by have:=ae _ e.symm;omega
  generalize d7:z.st.pl=ao at*;have cz:=Aa d7;simp only;repeat still_step
  refine bL ?_;go_wp2_with
   (at_builtin
    refine cS _ rfl _ _ _ rfl (w.heap.size+1) 55 eq _ 1 8 underlying175 dw en eo ep rfl kX (.slice L x.length K) x.length (ER (x.map Prod.fst)) rfl (ac.o.row.alloc _) (A0 J.heap.size 0) 1 1 [P0 p] rfl rfl (cD (cs:=#[P0 p]) (t:=55) (fr:=(0,0)) (cJ J _)) (by simp[Value.oneCell']) kX lD kX lA (J.heap.size+1) kY ?_;intro b3 bz ap d8 M di fi;have ba:=Ac.grown (Ac.alloc V.o (.cells #[P0 p] 55)) M d4;have e8:=ba.c0;have e9:=ba.frozen 0)
  have eg:=M.size;simp at eg;have fq:(A.drewN 1).heap.size=A.heap.size:=rfl;have b9:∀ g,r.sv.ownBlock=some g->g≠w.heap.size:=fun g e=>by
   exact nN
  have bj:Hid (Core c w s none z.fuel z.far (ap.setCell (A0 w.heap.size 0) (I0 ao)) r):=a4.o.own kX kX M.os M.tape M.output (by simp[World.setCell];omega) (fun k es ab=>by
   have dd:k≠w.heap.size:=by
    rcases ab with h|h;omega;exact b9 k h.symm
   have a8:some k≠(Value.slice L x.length K).ownBlock:=fun e=>by
    exact h4
   rw[aN _ _ _ _ dd,M.block k lA a8,bC _ _ _ es])
  have cv:Hid (Fg (ap.setCell (A0 w.heap.size 0) (I0 ao)) (w.heap.size+1) r.sv.ownBlock (S0 b3 (x.length+1) bz) (x++[(p,z.t)])):=
   (ac.o.push (w:=A.drewN 1) (fun g e=>by have:=ae g e;omega) kX kX c4.o _ (fun g e=>(a4.o.tr.D0 g e).2) d8 M di).B9 (tb:=w.heap.size) (rb:=w.heap.size) (((TF.refl w.heap.size w.heap.size r.sv.ownBlock none ap)).setCell _ _ (Or.inl rfl)) kX kX (Or.inl rfl) (Or.inl rfl)
  have cl:=Aa (Ac.set ba 0 (I0 ao));have b7:=(a5.o.Ai rfl).trans By.o.Ai;have ca:=j.o.fuel;have cb:=j.o.far;have bp:Hid (AtM c (tryT c.G c.bs c.N v) o w s E a1 st (manyT (tryT c.G c.bs c.N v) c.N o (s.fuel+1) s.fuel s.far st []) gk (S0 b3 (x.length+1) bz) (x++[(p,z.t)]) z.st (ap.setCell (A0 w.heap.size 0) (I0 ao)) r):=by
   refine⟨Cc.next ai.o bq.o bj.o (Or.inl rfl) cn.o co.o a5.o.inv (fun _ _ _=>b7) (fun _ e=>by cases e),?_,?_,cv.o,?_,by omega,by simp;omega,b9,b7,?_⟩;rw[ca,cb];exact bj.o;rw[cz.o,a5.o.en];exact cl.o;rw[y.o,ca,cb,dO,bX,dV,HK];simp[World.setCell];omega
  have dz:MU (ap.setCell (A0 w.heap.size 0) (I0 ao)) c.tb<MU wr c.tb:=by
   rw[O8 bp.o.pre.tr,O8 By.o.pre.tr];omega
  go_roundw
  case rel=>exact⟨_,_,_,_,bp⟩
  case measure=>exact dz
theorem jw(h:p:=by
 unfold Bs;rw[aC aj];obtain⟨u,ay⟩:=aw.o;refine Or.inr (Or.inl ⟨rfl,rfl,_,_,rfl,am.o,?_,?_,Or.inr ⟨rfl,u,wr.heap.size,rfl,?_⟩,fun h e=>by cases e⟩);exact By.o.pre.rd;simp only[BW];omega;exact ay):p:=h
theorem h5(h:p:=by
 go_roundw
 case rel=>exact⟨f+1,_,_,_,by go_num,by omega,an⟩
 case measure=>simp[intOf];omega):p:=h
abbrev m9(h:PLift q->p:=by
 intro aa;refine(av.o _ (By.o.core.tr.drewN 1)).mono ?_;rintro e bc⟨rfl,aq,o,ao,au⟩;have am:=Aa ((By.o.core.drewN 1).made aq o);have af:=Aa (o.Ap (show Ac (wr.drewN 1) w.heap.size _ _ from By.o.box) kX kX kY kY);have ap:=((TF.refl c.tb c.rb none none wr).drewN 1).trans o (Or.inl rfl) (Or.inl rfl);revert bc aq o ao au am af ap;exact aa.1):p:=h ⟨z⟩
theorem RO(T:Nat->Nat->Bool->aD It->PS->PO)(N a n e b st t):Bq T N a (n+1) e b st t=
 if(T e b false a st).ok=true then Bq T N a n (T e b false a st).fuel (T e b false a st).far (T e b false a st).st (Dk t (T e b false a st).t)else T e b false a st:=rfl
structure AtT (c:Cx) (T:Nat->Nat->Bool->aD It->PS->PO) (r:aD It) (w:aE) (s:Ts) (ho:aM Nat) (hoa:aM Addr) (st:PS) (O:PO) (n j:Nat) (v:aI) (kids:aD (Nat × aD UInt8)) (stj:PS) (wr:aE) (sj:Ts):Prop where
 pre:Cc c wr sj stj ho
 core:Core c w s none sj.fuel sj.far wr sj
 box:Ac wr w.heap.size (X_1 stj.pl stj.en hoa) 159
 Oh:Fg wr (w.heap.size+1) sj.sv.ownBlock v kids
 rem:O=Bq T c.N r (n-j) sj.fuel sj.far stj (CN (kids.map Prod.snd))
 cnt:kids.length+sj.fuel<=s.fuel
 nb:∀ g,sj.sv.ownBlock=some g->g≠w.heap.size
 Ai:stj.Ai=st.Ai
 sz:w.heap.size<wr.heap.size
theorem SQ(c)(Y:DO c)(A)(dw:QI c A)(w s st h S a4 x v)(I:Cc c w s st (some h))(b7:Am c.w0 S a4)(c7:He x a4)(al:Kc x)(hxc:x.c=116)(dc:K2 c w a4 v)(ca:BK c.R false false v)(ej:s.fuel<=A):
 Calls prog 148 #[P0 c.tb,P0 S,Bb st.pl st.en (Ce (some h))] w fun e w'=>Az c w s none false (Bq (tryT c.G c.bs c.N A) c.N v (st.Ai x.d.toNat).1 s.fuel s.far st []) e w':=by
 refine l0 ?_;intro ak d az ba bm;have c1:a4.dp=(d:Int):=by rw[(c7.dp AL).1,az]
 have ei:=(I.inv.Ai d).1;generalize c2:(st.Ai d).1=z at*;have cg:=Aa c2;obtain⟨dv,c8,ds,dt,du⟩:=cY Mw;obtain⟨g,cs,cb,cv,dy,c9,dl,c5,c3,dm,c6⟩:=dc.ex;have er:=I.tr.Ap.lt;have es:=Y.lt;have eq:=Y.le;have eg:=Y.bs;have b8:=b7.lt;have eh:=I.HX;have bg:=ca.CA rfl;have bp:=Aa I;have ai:=Aa Y;have ch:=Aa dw;have br:=Aa ca;have co:=Aa dm;have bq:=Aa b7;have cy:=I.alloc Y (AD st.pl st.en (Ce (some h)));have a6:=Aa (Ac.new w (X_1 st.pl st.en (Ce (some h))) 159);have bd:Hid (Core c w s .none s.fuel s.far (w.alloc (AD st.pl st.en (Ce (some h)))) s):=Core.refl (I.tr.alloc _) ((TF.refl c.tb c.rb .none .none w).alloc _) I.HX _;have a0:=Aa cy;have b9:(w.alloc (AD st.pl st.en (Ce (some h)))).heap.size=w.heap.size+1:=kY;obtain⟨b2,ek,el⟩:=I.hid h rfl;have em:=Ac.lt b2;have a9:=Aa (show EG (w.alloc (AD st.pl st.en (Ce (some h)))) h st.Ai from Ac.alloc b2 _);unfold AD at a0 bd b9 a9;unfold Bb;simp only[Ce,cO]at a0 a6 bd b9 a9⊢;go_enter func148,ntmps148;go_wp2_with fail;generalize w.alloc (.cells (X_3 st.pl st.en h) 159)=U at*;have cq:=a6.o.c2;have e3:U.cell? (A0 S 3)=some (I0 d):=by rw[<- c1,a0.o.A9.cell (p:=(A0 S 3)) b8];exact bq.o.cell 3
 have h0:U.cell? (A0 h (d*2))=some (.int .u32 z):=by rw[<- cg.o];exact(a9.o.cell d ba).1
 go_quiet (fail);have cp:Hid (AtT c (tryT c.G c.bs c.N A) v w s (some h) (some (A0 h 0)) st (Bq (tryT c.G c.bs c.N A) c.N v z s.fuel s.far st []) z 0 (.slice none 0 0) [] st (U.drewN nq) s):=by
  refine⟨a0.o.drewN nq,bd.o.drewN nq,a6.o,Fg.nil _ _ _,rfl,by simp,fun g e=>?_,rfl,?_⟩;have:=bp.o.tr.D0 g e;omega;show w.heap.size<U.heap.size;omega
 generalize U.drewN nq=d0 at*;go_wp2;go_loopw [23,9,10,11,12] (fun bj dz _ _ _ wr=>∃ (f:Nat) (B:aD (Nat × aD UInt8)) (b:PS) (r:Ts),bj=.int .u32 f/\f<=z/\Hid (AtT c (tryT c.G c.bs c.N A) v w s (some h) (some (A0 h 0)) st (Bq (tryT c.G c.bs c.N A) c.N v z s.fuel s.far st []) z f dz B b wr r)) (fun bj _ _ _ _ _=>z-(intOf bj).toNat)
 case atStart=>exact⟨0,[],st,s,rfl,by omega,cp⟩
 case round=>
  obtain⟨f,B,b,r,rfl,en,bz⟩:=hrel;obtain⟨d5,d7,d8,cr,d9,ea,ar,eb,d6⟩:=bz.out;obtain⟨O,K,cx⟩:=cr.form;subst cx;have By:=bz;by_cases eo:f<z
  . have db:(f:Int)<(z:Int):=by omega
    have ae:∀ g,(Value.slice O B.length K).ownBlock=some g->w.heap.size+1<=g/\g<wr.heap.size:=fun g e=>By.o.Oh.row.lt g e
    have d3:=By.o.box.c0;have d4:=By.o.box.c1;have cq:=By.o.box.c2;have e4:wr.cell? (A0 S 8)=some (S0 g 1 cs):=by rw[<- dl,By.o.pre.A9.cell (p:=(A0 S 8)) b8];exact bq.o.cell 8
    have e0:wr.cell? (A0 g 0)=some (P0 cb):=by rw[By.o.pre.A9.cell (p:=(A0 g 0)) c5];exact c3
    go_wp2_with fail;refine AX 8 _ rfl rfl kZ kZ ?_;refine gq ?_;have a2:=ch.o (wr.drewN 1) r b (some h) v false false false false cv dy c9 cb (By.o.pre.drewN 1) co.o c6 br.o (fun h=>by rcases h with h|h<;>cases h) rfl kX;rw[EV bg,D2 bg]at a2;unfold Bb at a2;simp only[Ce,cO]at a2;have bo:Hid ((tryT c.G c.bs c.N A r.fuel r.far false v b).ok=true->(Dt c.bs c.N b false (tryT c.G c.bs c.N A r.fuel r.far false v b)/\(tryT c.G c.bs c.N A r.fuel r.far false v b).e=0)/\(tryT c.G c.bs c.N A r.fuel r.far false v b).fuel<r.fuel):=fun M=>⟨by have:=(BQ c.G ai.o.wf A).fit r.fuel r.far false false false v _ br.o By.o.pre.inv M;rw[bg]at this;exact this,GH c.G ai.o.wf A r.fuel r.far false v b M⟩
    obtain⟨gk,c4⟩:∃ gk,z-f=gk+1:=⟨z-f-1,by omega⟩;have Z:=By.o.rem;rw[c4]at Z;have y:=Aa (Z.trans (RO _ _ _ gk _ _ _ _));generalize ew:tryT c.G c.bs c.N A r.fuel r.far false v b=E at*;refine a2.mono fun ee F bi=>?_
    have bf:=bi.keeps;have ex:wr.heap.size<=F.heap.size:=bf.size;have de:some w.heap.size≠r.sv.ownBlock:=fun e=>ar _ e.symm rfl
    have a7:=Aa (bf.Ap (show Ac (wr.drewN 1) w.heap.size _ _ from By.o.box) kX kX de kY);have ci:=Aa (By.o.Oh.B9 (((TF.refl c.tb c.rb none none wr).drewN 1).any r.sv.ownBlock none) kX kX (Or.inl rfl) (Or.inl rfl));have cj:=Aa bf;have dk:=Az.ahead (By.o.core.drewN 1) bi;rcases bi with⟨d1,d2,a1⟩|⟨d1,d2,J,cc,a1,V,ct,cu,ad,ed⟩|⟨d1,d2,J,cc,k,a1,V⟩;subst d2;have a8:Hid (Az c w s .none false (Bq (tryT c.G c.bs c.N A) c.N v z s.fuel s.far st []) (.panicked (F7 E.e)) F):=by
     have dh:E.ok=false:=by
      cases M:E.ok with
      | false=>rfl
      | true=>exact absurd (bo.o M).1.2 d1
     have X:Az c w s .none false (Bq (tryT c.G c.bs c.N A) c.N v z s.fuel s.far st []) (.panicked (F7 E.e)) F:=by rw[y.o,aC (by rw[dh];simp)];exact dk
     exact X
    simp only;exact⟨rfl,a8.o⟩
    rotate_left
    . subst a1;have a8:Hid (Az c w s .none false (Bq (tryT c.G c.bs c.N A) c.N v z s.fuel s.far st []) (.returned (.tuple #[.pointer none,I0 0,.bool false])) F):=by
       have X:Az c w s .none false (Bq (tryT c.G c.bs c.N A) c.N v z s.fuel s.far st []) (.returned (.tuple #[.pointer none,I0 0,.bool false])) F:=by
        rw[y.o,aC (by rw[d2];simp)];exact Or.inr (Or.inr ⟨d1,d2,J,_,0,rfl,(By.o.core.drewN 1).trans V (Or.inl rfl)⟩)
       exact X
      simp only;repeat still_step
      refine bL ?_;go_wp2;go_ret3;exact a8.o
    . have M:=d2;rw[aF M]at y;obtain⟨⟨dd,_⟩,ez⟩:=bo.o M;subst a1;obtain⟨p,u,dr,dp⟩:∃ p u,cc=P0 p/\FA u F (wr.drewN 1).heap.size F.heap.size J.sv.ownBlock p E.t:=by
       exact Pw
      subst dr;have cn:=Aa dp;have j:=Aa V;have bk:=Aa ((By.o.core.drewN 1).trans V (Or.inl rfl));have ce:=Aa ct;have cf:=Aa cu;have bb:=Aa dd;have ac:=Aa (ci.out.B9 cj.o kX kX (Or.inl rfl) V.sv);have e1:=a7.o.c0;have e2:=a7.o.frozen 0;have ep:B.length<=100000:=kX;have df:some w.heap.size≠(Value.slice O B.length K).ownBlock:=fun e=>by have:=ae _ e.symm;omega
      generalize di:E.st.pl=a3 at*;have cm:=Aa di;simp only;repeat still_step
      refine bL ?_;go_wp2_with
       (at_builtin
        refine cS _ rfl _ _ _ rfl (w.heap.size+1) 55 dv _ 1 8 underlying175 c8 ds dt du rfl kX (.slice O B.length K) B.length (ER (B.map Prod.fst)) rfl (ac.o.row.alloc _) (A0 F.heap.size 0) 1 1 [P0 p] rfl rfl (cD (cs:=#[P0 p]) (t:=55) (fr:=(0,0)) (cJ F _)) (by simp[Value.oneCell']) kX lD kX lA (F.heap.size+1) kY ?_;intro bv bu a5 dj L cz et;have be:=Ac.grown (Ac.alloc a7.o (.cells #[P0 p] 55)) L df;have ec:=be.c0;have ef:=be.frozen 0)
      have dq:=L.size;simp at dq;have ey:(wr.drewN 1).heap.size=wr.heap.size:=rfl;have b4:∀ g,J.sv.ownBlock=some g->g≠w.heap.size:=fun g e=>by
       exact nN
      have bl:Hid (Core c w s none E.fuel E.far (a5.setCell (A0 w.heap.size 0) (I0 a3)) J):=bk.o.own kX kX L.os L.tape L.output (by simp[World.setCell];omega) (fun k dx ab=>by
       have cw:k≠w.heap.size:=by
        rcases ab with h|h;omega;exact b4 k h.symm
       have X:some k≠(Value.slice O B.length K).ownBlock:=fun e=>by
        exact h4
       rw[aN _ _ _ _ cw,L.block k lA X,bC _ _ _ dx])
      have ck:Hid (Fg (a5.setCell (A0 w.heap.size 0) (I0 a3)) (w.heap.size+1) J.sv.ownBlock (S0 bv (B.length+1) bu) (B++[(p,E.t)])):=
       (ac.o.push (w:=wr.drewN 1) (fun g e=>by have:=ae g e;omega) kX kX cn.o _ (fun g e=>(bk.o.tr.D0 g e).2) dj L cz).B9 (tb:=w.heap.size) (rb:=w.heap.size) (((TF.refl w.heap.size w.heap.size J.sv.ownBlock none a5)).setCell _ _ (Or.inl rfl)) kX kX (Or.inl rfl) (Or.inl rfl)
      have cd:=Aa (Ac.set be 0 (I0 a3));have b0:=(bb.o.Ai rfl).trans By.o.Ai;have b5:=j.o.fuel;have b6:=j.o.far;have an:Hid (AtT c (tryT c.G c.bs c.N A) v w s (some h) (some (A0 h 0)) st (Bq (tryT c.G c.bs c.N A) c.N v z s.fuel s.far st []) z (f+1) (S0 bv (B.length+1) bu) (B++[(p,E.t)]) E.st (a5.setCell (A0 w.heap.size 0) (I0 a3)) J):=by
       refine⟨Cc.next ai.o bp.o bl.o (Or.inl rfl) ce.o cf.o bb.o.inv (fun _ _ _=>b0) (fun _ e=>by cases e),?_,?_,ck.o,?_,by simp;omega,b4,b0,?_⟩;rw[b5,b6];exact bl.o;rw[cm.o,bb.o.en];exact cd.o;rw[show z-(f+1)=gk by omega,y.o,b5,b6,dO,bX,dV,HK];simp[World.setCell];omega
      exact h5
  have db:¬ (f:Int)<(z:Int):=kX;have da:z-f=0:=kX;have Z:=By.o.rem;rw[da]at Z;have y:Hid (Bq (tryT c.G c.bs c.N A) c.N v z s.fuel s.far st []=Bs c.N r.fuel r.far b (91::CN (B.map Prod.snd)++[93])):=Z;have ah:=By.o.box.c0;have eu:=By.o.pre.nd;go_wp2_with fail
  cases b3:r.nodes with
  | zero=>
   have cl:=Aa (fun W (h:A7 c.gb c.rb c.tb c.bs W r)=>Fb c.gb c.rb c.tb c.bs W _ h 4 0 ByteArray.empty (.slice O B.length K) b3 rfl);refine kc ?_;refine(cl.o _ (By.o.core.tr.drewN 1)).mono ?_;rintro e bc⟨rfl,rfl⟩;simp only;refine⟨rfl,?_⟩;rw[y.o];exact Az.dead (By.o.core.drewN 1) _ kX
  | succ m=>
   have av:=Aa (fun W (h:A7 c.gb c.rb c.tb c.bs W r)=>Fs c.gb c.rb c.tb c.bs W _ h 4 0 ByteArray.empty (.slice O B.length K) m b3 Co rfl);refine kc ?_;refine m9 ?_;intro bc aq o ao au am af ap;have c0:Ac bc wr.heap.size #[I0 4,.int .u32 0,.string ByteArray.empty,(.slice O B.length K)] 177:=ao;have aw:=Aa (By.o.Oh.made (lo:=w.heap.size) ap c0 kX kX kX kX (Or.inr rfl) (fun g e=>(By.o.core.tr.D0 g e).2));refine lm ?_;have aj:¬ b.Af=c.N:=kX;exact jw
structure Afs {T:Type} (x:Nd T):Prop where
 k:x.k<=5
 n:x.n<4294967296
 cho:x.k=5->x.n<2/\x.kids.length=1
 run:x.run.length<=8000
 kids:x.kids.length<=8000
def GS{T:Type}(R:aE->Nat->Nat->Nat->T->Prop)(w:aE)(e a f:Nat)(x:Nd T):Prop:=
 ∃ (g:aI) (b:aD (Nat × T)),Ac w f (X_11 (x.k:Nat) (x.n:Nat) (⟨x.run.toArray⟩) g) 177/\(e<=f/\f<a)/\BZ w e a g (b.map Prod.fst)/\(∀ q,q∈b->R w e a q.1 q.2)/\x.kids=b.map Prod.snd/\Afs x
def Cb:(n:Nat)->aE->Nat->Nat->Nat->Tr n->Prop
 | 0=>fun _ _ _ _ _=>False
 | n+1=>GS (Cb n)
theorem Cb.mono(n):∀ {w w':aE} {b a lo' hi' e:Nat} {x:Tr n},Cb n w b a e x->(∀ f,b<=f->f<a->w'.heap[f]? = w.heap[f]?)->lo'<=b->a<=hi'->Cb n w' lo' hi' e x:=by
 induction n with
 | zero=>intro w w' b a lo' hi' e x g;exact g.elim
 | succ n A=>
  intro w w' b a lo' hi' e x g h j k;obtain⟨B,z,o,⟨p,r⟩,c,d,u,v⟩:=g;refine⟨B,z,?_,by omega,c.mono h j k,fun q y=>A (d q y) h j k,u,v⟩;unfold Ac at*;rw[h e p r];exact o
structure JE (n:Nat) (w:aE) (B:Nat) (v:aI) (kids:aD (Nat × Tr n)):Prop where
 row:w.ownsRow B 55 1 v kids.length (ER (kids.map Prod.fst))
 ok:∀ q,q∈kids->∃ lo hi,B<=lo/\hi<=w.heap.size/\(∀ g,v.ownBlock=some g->g<lo\/hi<=g)/\Cb n w lo hi q.1 q.2
theorem JE.nil(n w a):JE n w a (.slice none 0 0) []:=⟨cC _ _ _ _,fun q b=>by simp at b⟩
theorem JE.B9{n w w' b j}{h:aD (Nat × Tr n)}(e:JE n w b j h)(x:w.heap.size<=w'.heap.size)(g:∀ a,b<=a->a<w.heap.size->w'.heap[a]? = w.heap[a]?):JE n w' b j h:=
 ⟨An e.row fun f o=>by have:=e.row.lt f o;exact g f this.1 this.2,fun q r=>by
  obtain⟨u,p,k,v,c,d⟩:=e.ok q r;exact⟨u,p,k,by omega,c,d.mono n (fun a y z=>g a kX kX) (aB _) (aB _)⟩⟩
theorem JE.push{n}{w w1 w2:aE}{j k g o:Nat}{h:aI}{f:aD (Nat × Tr n)}{v:Tr n}(z:JE n w1 j h f)(ae:∀ g,h.ownBlock=some g->g<w.heap.size)(A:j<=w.heap.size)(_hle:w.heap.size<=w1.heap.size)(J:Cb n w1 w.heap.size w1.heap.size k v)(O:Obj)(I:w2.ownsRow j 55 1 (S0 g (f.length+1) o) (f.length+1) (ER (f.map Prod.fst)++[P0 k]))(p:(w1.alloc O).grownBy w2 h.ownBlock)(ah:h.ownBlock=some g\/g=w1.heap.size+1):JE n w2 j (S0 g (f.length+1) o) (f++[(k,v)]):=by
 have K:=p.size;simp at K;have u:∀ a,a<w1.heap.size->some a≠h.ownBlock->w2.heap[a]? = w1.heap[a]? := fun a E F=>by
  rw[p.block a lA F,bC _ _ _ E]
 refine⟨by simpa[ER]using I,fun q b=>?_⟩;rcases aV.1 b with b|b;obtain⟨M,B,x,S,c,d⟩:=z.ok q b;refine⟨M,B,x,by omega,fun y e=>?_,d.mono n (fun a L r=>u a kX (fun e=>by have:=c a e.symm;omega)) (aB _) (aB _)⟩;simp[Value.ownBlock]at e;subst e;rcases ah with ab|ab;exact c g ab;right;omega;simp at b;subst b;refine⟨w.heap.size,w1.heap.size,A,by omega,fun y e=>?_,J.mono n (fun a L r=>u a r (fun e=>by have:=ae a e.symm;omega)) (aB _) (aB _)⟩;exact ms
theorem JE.node{n w j p o h k}{f:aD (Nat × Tr n)}(e:JE n w p k f)(g:Ac w o #[I0 (h:Nat),.int .u32 0,.string ⟨#[]⟩,k] 177)(v:j<=o)(I:j<=p)(K:h<=4)(x:f.length<=8000):
 GS (Cb n) w j w.heap.size o ⟨h,0,[],f.map Prod.snd⟩:=by
 refine⟨k,f,g,⟨v,g.lt⟩,?_,fun q r=>?_,rfl,⟨by simp only;omega,by simp,fun a=>by simp only at a;omega,by simp,by simpa using x⟩⟩;rcases e.row.2 with⟨a,h0⟩|⟨b,u,F,a,g,J,z,r,L,M⟩;exact Or.inl ⟨a,by rw[cG h0];rfl⟩;subst a;have y:=e.row.lt b rfl;refine Or.inr ⟨b,u,by simp,by omega,y.2,by simpa using z,fun A ad=>?_⟩;rw[e.row.cellAt A AM];simp at ad;simp[ER,ad];obtain⟨B,E,c,d,a,b⟩:=e.ok q r;exact b.mono n (fun _ _ _=>rfl) kX d
theorem GS.leaf{T:Type}(R:aE->Nat->Nat->Nat->T->Prop)(w g e a m b)(f:Ac w e #[I0 (a:Nat),.int .u32 (m:Nat),.string ⟨b.toArray⟩,.slice none 0 0] 177)(j:g<=e)(r:a<=4)(k:m<4294967296)(p:b.length<=8000):GS R w g w.heap.size e ⟨a,m,b,[]⟩:=
 ⟨_,[],f,⟨j,f.lt⟩,Or.inl ⟨rfl,rfl⟩,fun q o=>by simp at o,rfl,⟨by simp only;omega,k,fun h=>by simp only at h;omega,p,by simp⟩⟩
structure Dn {T:Type} (R:aE->Nat->Nat->Nat->T->Prop) (s:aA) (rb:Nat) (w:aE) (r:aM T × Nat) (e:Ending) (w':aE):Prop where
 rd:G8 104 w' rb s r.2
 fr:Fr w.heap.size rb w w'
 out:(r.1=none/\e=.returned (.tuple #[.pointer none,.bool false]))\/∃ x vb,r.1=some x/\e=.returned (.tuple #[P0 vb,.bool true])/\R w' w.heap.size w'.heap.size vb x
theorem Dn.form{T:Type}{R:aE->Nat->Nat->Nat->T->Prop}{s g w}{f:aM T × Nat}{b w'}(a:Dn R s g w f b w'):∃ h e,b=.returned (.tuple #[h,.bool e]):=by
 rcases a.out with⟨_,a⟩|⟨_,_,_,a,_⟩;exact⟨_,_,a⟩;exact⟨_,_,a⟩
theorem Dn.same{T:Type}{R:aE->Nat->Nat->Nat->T->Prop}{s e h w}{g:aM T × Nat}{f w'}(a:Dn R s e w g f w')(b:CI e h w):Dn R s e h g f w':=by
 refine⟨a.rd,(b.fr _).trans (by rw[<- b.size];exact a.fr),?_⟩;rw[<- b.size];exact a.out
def Z7(s:aA)(n:Nat):Prop:=∀ w b a,G8 104 w b s a->b<w.heap.size->a<=s.size->s.size<a+n->
 Calls prog 48 #[P0 b] w fun e w'=>Dn (Cb n) s b w (A4 s n a) e w'
theorem Hs{t w a s i}(b:G8 t w a s i):KH w a=i:=by
 have:w.cell? (A0 a 1)=some (I0 i):=b.cell 1;unfold KH;rw[this];simp
def inn:aD It->aD It
 | []=>[]
 | x::r=>if AY [119,64,115] x.c then inn r else x::r
def ruleEnd(G:Nat->aD It):Nat->aD It->aM (aD It)
 | 0,_=>none
 | _+1,[]=>none
 | k+1,x::_=>match G x.r.toNat with
  | []=>none
  | y::r=>if y.c=82 then ruleEnd G k (y::r)else some (y::r)
def hasKids{T:Type}(H:aD It->T->Bool):aD (aD It)->aD T->Bool
 | [],vs=>vs.isEmpty
 | k::ks,vs=>if silV k then hasKids H ks vs else match vs with
  | []=>false
  | y::ys=>H k y&&hasKids H ks ys
def Ly{T:Type}(H:T->Bool):aD T->Bool
 | []=>false
 | y::_=>H y
def CG(n w:Nat):Bool:=decide (n<256 ^ w)
def Ds{T:Type}(H:aD It->T->Bool):aD It->Nd T->Bool
 | [],_=>false
 | x::b,a=>
  if x.c=110\/x.c=108 then decide (a.k=0)&&CG a.n x.w.toNat
  else if x.c=39 then decide (a.k=1)
  else if x.c=114\/x.c=46 then decide (a.k=2)
  else if x.c=40 then decide (a.k=3)&&hasKids H (segs b.length b) a.kids
  else if x.c=47 then decide (a.k=5)&&Ly (H ((segs b.length b).getD a.n [])) a.kids
  else if x.c=42\/x.c=116 then decide (a.k=4)&&a.kids.all (H b)
  else false
def hasQ{T:Type}(G:Nat->aD It)(H:aD It->T->Bool)(b:aD It)(a:Nd T):Bool:=
 match b with
 | []=>false
 | x::r=>if x.c=82 then(match ruleEnd G 8 (x::r)with|none=>false|some q=>Ds H q a)else Ds H (x::r) a
def Db(G:Nat->aD It):(n:Nat)->aD It->Tr n->Bool
 | 0,_,_=>false
 | n+1,a,v=>hasQ G (Db G n) (inn a) v
def lowB:Nat->Nat->aD UInt8
 | 0,_=>[]
 | w+1,n=>UInt8.ofNat (n % 256)::lowB w (n / 256)
def BP(a:Bool)(w n:Nat):aD UInt8:=if a then lowB w n else(lowB w n).reverse
theorem LW(w):∀ n,(lowB w n).length=w:=by
 induction w with
 | zero=>intro n;rfl
 | succ w a=>intro n;simp[lowB,a]
theorem BE(a w n):(BP a w n).length=w:=by unfold BP;split<;>simp[LW]
structure Ho where
 pl:Nat
 w:Nat
 low:Bool
structure Wt where
 As:aD It
 n:Nat
 v:Nd (Tr n)
 hid:Nat
 ho:Ho
structure Sp where
 a:Nat
 b:Nat
 ho:Ho
structure Wr where
 out:aD UInt8
 wide:Bool
 wait:aD Wt
 Au:aD (aD Sp)
 AS:aD (Nat->aM Ho)
def IM:Wr:=⟨[],false,[],[],[]⟩
def MB:Ho:=⟨0,0,false⟩
def holeOf(st:Wr)(hid:aM Nat)(d:Nat):Ho:=match hid with
 | none=>MB
 | some i=>((st.AS.getD i fun _=>none) d).getD MB
def putAt(b:aD UInt8)(a:Ho)(n:Nat):aD UInt8:=b.take a.pl++BP a.low a.w n++b.drop (a.pl+a.w)
def L3(st:Wr)(a:Ho)(n:Nat):Wr:={st with out:=putAt st.out a n}
def Ba(st:Wr)(a:Ho)(n:Nat):Wr:=L3 {st with wide:=st.wide || !CG n a.w} a n
def B5(st:Wr)(l:aD UInt8):Wr:={st with out:=st.out++l}
def Ef(st:Wr)(i d:Nat)(e:Ho):Wr:={st with AS:=st.AS.modify i fun b a=>if a=d then some e else b a}
def Jr(st:Wr)(s:Sp):Wr:={st with Au:=st.Au.dropLast++[st.Au.getLastD []++[s]]}
def HR(st:Wr)(a:Wt):Wr:={st with wait:=st.wait++[a]}
def wSil(a:aD It)(i:Nat)(st:Wr):Wr:=match a with
 | []=>st
 | x::_=>if x.c=39 then B5 st [UInt8.ofNat x.b.toNat]
  else B5 (Ef st i x.d.toNat ⟨st.out.length,x.w.toNat,decide (x.c=107)⟩) (List.replicate x.w.toNat 0)
def wKids{T:Type}(W:aD It->aM Nat->T->Wr->Wr)(i:Nat):aD (aD It)->aD T->Wr->Wr
 | [],_,st=>st
 | k::ks,vs,st=>if silV k then wKids W i ks vs (wSil k i st)else match vs with
  | []=>st
  | y::ys=>wKids W i ks ys (W k (some i) y st)
def wMany{T:Type}(W:aD It->aM Nat->T->Wr->Wr)(a:aD It):aD T->Wr->Wr
 | [],st=>st
 | y::ys,st=>wMany W a ys (W a none y st)
def Rp{T:Type}(W:T->Wr->Wr)(a:aD T)(st:Wr):Wr:=match a with
 | []=>st
 | y::_=>W y st
def GB{T:Type}(W:aD It->aM Nat->T->Wr->Wr)(e:aD It)(hid:aM Nat)(a:Nd T)(st:Wr):Wr:=match e with
 | []=>st
 | x::b=>
  if x.c=110 then B5 st (BP false x.w.toNat a.n)
  else if x.c=108 then B5 st (BP true x.w.toNat a.n)
  else if x.c=39 then B5 st [UInt8.ofNat x.b.toNat]
  else if x.c=46 then B5 st a.run
  else if x.c=114 then B5 (Ba st (holeOf st hid x.d.toNat) a.run.length) a.run
  else if x.c=40 then wKids W st.AS.length (segs b.length b) a.kids {st with AS:=st.AS++[fun _=>none]}
  else if x.c=47 then Rp (W ((segs b.length b).getD a.n []) none) a.kids st
  else if x.c=42 then wMany W b a.kids st
  else if x.c=116 then wMany W b a.kids (Ba st (holeOf st hid x.d.toNat) a.kids.length)
  else st
def wIn{n:Nat}(G:Nat->aD It)(W:aD It->aM Nat->Tr n->Wr->Wr):aD It->aM Nat->Nd (Tr n)->Wr->Wr
 | [],_,_,st=>st
 | x::a,hid,b,st=>
  if x.c=119 then Ba (wIn G W a hid b st) (holeOf (wIn G W a hid b st) hid x.d.toNat) ((wIn G W a hid b st).out.length-st.out.length)
  else if x.c=115 then Jr (wIn G W a hid b st) ⟨st.out.length,(wIn G W a hid b st).out.length,holeOf (wIn G W a hid b st) hid x.d.toNat⟩
  else if x.c=64 then HR st ⟨a,n,b,hid.getD 0,holeOf st hid x.d.toNat⟩
  else if x.c=82 then(match ruleEnd G 8 (x::a)with|none=>st|some q=>GB W q none b st)
  else GB W (x::a) hid b st
def BH(G:Nat->aD It):(n:Nat)->aD It->aM Nat->Tr n->Wr->Wr
 | 0,_,_,_,st=>st
 | n+1,k,hid,v,st=>wIn G (BH G n) k hid v st
def D6(G:Nat->aD It)(n:Nat)(a:aD It)(hid:aM Nat)(b:Nd (Tr n))(st:Wr):Wr:=wIn G (BH G n) a hid b {st with Au:=st.Au++[[]]}
def wRest(G:Nat->aD It):Nat->Wr->Wr
 | 0,st=>st
 | f+1,st=>match st.wait with
  | []=>st
  | e::ws=>wRest G f (D6 G e.n e.As (some e.hid) e.v (Ba {st with wait:=ws} e.ho st.out.length))
def Dw(a:aD UInt8)(s:Sp):aD UInt8:=putAt a s.ho (CB ⟨((a.drop s.a).take (s.b-s.a)).toArray⟩ s.ho.w (s.b-s.a))
def B8(st:Wr):aD UInt8:=st.Au.reverse.foldl (fun a l=>l.foldl Dw a) st.out
def szT:(n:Nat)->Tr n->Nat
 | 0,_=>0
 | n+1,a=>1+(a:Nd (Tr n)).run.length+((a:Nd (Tr n)).kids.map (szT n)).sum
def Tw{n:Nat}(a:Nd (Tr n)):Nat:=1+a.run.length+(a.kids.map (szT n)).sum
def HY(G:Nat->aD It)(n:Nat)(a:Nd (Tr n))(b:Nat):aD UInt8 × Int:=
 if Db G (n+1) (G 0) a=false then([],10)
 else
  let st:=wRest G ((G 0).length+1001*Tw a) (D6 G n (G 0) none a IM)
  if b<st.out.length then([],11)else if st.wide then([],12)else(B8 st,0)
theorem n8(h:p:=by
 go_wp2_with fail;exact⟨⟨i+1,by go_num,by omega,y.out.setCell _ _,an⟩,by simp[intOf];omega⟩):p:=h
theorem Rk(w):∀ n i,i<w->(lowB w n).getD i 0=UInt8.ofNat (n / 256 ^ i % 256):=by
 induction w with
 | zero=>intro n i a;omega
 | succ w b=>
  intro n i a
  cases i with
  | zero=>simp[lowB]
  | succ i=>
   have:=b (n / 256) i kX;rw[hO,show 256*256 ^ i=256 ^ (i+1)by rw[fC];omega]at this;simpa[lowB]using this
structure Up (w w':aE) (g off:Nat) (t:TypeId) (cur:Array aI) (l:aD UInt8):Prop where
 ex:∃ cs,Ac w' g cs t/\cs.size=cur.size/\∀ j,cs[j]? = if off<=j/\j<off+l.length then some (.int .u8 ((l.getD (j-off) 0).toNat:Int))else cur[j]?
 same:CI g w w'
theorem O1(n i:Nat):IntKind.u8.wrap ((n:Int) / 2 ^ (8*i))=((UInt8.ofNat (n / 256 ^ i % 256)).toNat:Int):=by
 rw[eU];have a:(2:Int) ^ (8*i)=((256 ^ i:Nat):Int):=by rw[show(256:Nat)=2^8 from rfl,<- kN];simp
 rw[a];have b:((n:Int) / ((256 ^ i:Nat):Int))=((n / 256 ^ i:Nat):Int):=kY;rw[b];generalize n / 256 ^ i=q;simp
theorem JL(w g a m z n t f)(B:Ac w g f t)(aa:m<=4)(Y:a+m<=f.size)(_hn:n<4294967296):
 Calls prog 183 #[.slice (some (A0 g a)) m z,.int .u32 (n:Nat)] w fun A w'=>A=.returned (.tuple #[])/\Up w w' g a t f (BP true m n):=by
 have u:=Aa B;have J:(BP true m n).length=m:=BE _ _ _;go_enter func183,ntmps183;go_wp2;go_loopw [7] (fun k wr=>∃ i:Nat,k=I0 (i:Nat)/\i<=m/\Hid (CI g w wr)/\Hid (∃ e,Ac wr g e t/\e.size=f.size/\∀ b,e[b]? = if a<=b/\b<a+i then some (.int .u8 (((BP true m n).getD (b-a) 0).toNat:Int))else f[b]?)) (fun k _=>m-(intOf k).toNat)
 case atStart=>exact⟨0,rfl,by omega,CI.refl _ _,(⟨f,u.o,rfl,fun b=>by rw[aC kX]⟩:∃ e,Ac w g e t/\e.size=f.size/\∀ b,e[b]? = if a<=b/\b<a+0 then some (.int .u8 (((BP true m n).getD (b-a) 0).toNat:Int))else f[b]?)⟩
 case round=>
  obtain⟨i,rfl,Z,y,r⟩:=hrel;by_cases L:i<m;have M:(i:Int)<(m:Int):=kX;obtain⟨e,j,S,F⟩:=r.out;have K:(BP true m n).getD i 0=UInt8.ofNat (n / 256 ^ i % 256):=by unfold BP;rw[aF rfl];exact Rk m n i L
  have U:=O1 n i;rw[<- K]at U;have x:∃ V,wr.cell? (A0 g (a+i))=some V:=⟨e[a+i]'kX,by rw[j.cell (a+i)];simp⟩;obtain⟨ac,ab⟩:=x;have X:=j.frozen (a+i);generalize E:(((BP true m n).getD i 0).toNat:Int)=o at*;have v:=Aa E;have an:=Aa (show∃ h,Ac (wr.setCell (A0 g (a+i)) (.int .u8 o)) g h t/\h.size=f.size/\∀ b,h[b]? = if a<=b/\b<a+(i+1)then some (.int .u8 (((BP true m n).getD (b-a) 0).toNat:Int))else f[b]? by
   refine⟨_,j.set (a+i) (.int .u8 o),by simp[S],fun b=>?_⟩;by_cases I:b=a+i;subst I;have O:a+i<e.size:=kX;rw[aF kX,show a+i-a=i by omega,v.o];simp[O];rw[iU kX,F b];by_cases p:a<=b/\b<a+i;rw[aF p,aF kX];rw[aC p,aC kX])
  exact n8;have M:¬ (i:Int)<(m:Int):=kX;obtain rfl:i=m:=kX;go_wp2;go_end0;exact⟨rfl,Up.mk (by rw[J];exact r.out) y.out⟩
theorem VJ(m n i)(b:i<m):(BP false m n).getD (m-1-i) 0=(lowB m n).getD i 0:=by
 unfold BP;rw[aC kY];have a:=LW m n;rw[aZ,List.getElem?_reverse kX,a,aZ];congr 2;omega
theorem Jf(w g a m A n t f)(F:Ac w g f t)(ad:m<=4)(Z:a+m<=f.size)(_hn:n<4294967296):
 Calls prog 180 #[.slice (some (A0 g a)) m A,.int .u32 (n:Nat)] w fun B w'=>B=.returned (.tuple #[])/\Up w w' g a t f (BP false m n):=by
 have v:=Aa F;have L:(BP false m n).length=m:=BE _ _ _;go_enter func180,ntmps180;go_wp2;go_loopw [7] (fun k wr=>∃ i:Nat,k=I0 (i:Nat)/\i<=m/\Hid (CI g w wr)/\Hid (∃ e,Ac wr g e t/\e.size=f.size/\∀ b,e[b]? = if a+m-i<=b/\b<a+m then some (.int .u8 (((BP false m n).getD (b-a) 0).toNat:Int))else f[b]?)) (fun k _=>m-(intOf k).toNat)
 case atStart=>exact⟨0,rfl,by omega,CI.refl _ _,(⟨f,v.o,rfl,fun b=>by rw[aC kX]⟩:∃ e,Ac w g e t/\e.size=f.size/\∀ b,e[b]? = if a+m-0<=b/\b<a+m then some (.int .u8 (((BP false m n).getD (b-a) 0).toNat:Int))else f[b]?)⟩
 case round=>
  obtain⟨i,rfl,aa,y,r⟩:=hrel;by_cases u:i<m;have O:(i:Int)<(m:Int):=kX;obtain⟨e,j,U,J⟩:=r.out;have M:(BP false m n).getD (m-1-i) 0=UInt8.ofNat (n / 256 ^ i % 256):=by rw[<- Rk m n i u];exact VJ m n i u
  have V:=O1 n i;have ac:(m:Int)-1-(i:Int)=((m-1-i:Nat):Int):=kX;have ab:((m-1-i:Nat):Int)<(m:Int):=kX;rw[<- M]at V;have z:∃ X,wr.cell? (A0 g (a+(m-1-i)))=some X:=⟨e[a+(m-1-i)]'kX,by rw[j.cell (a+(m-1-i))];simp⟩;obtain⟨af,ae⟩:=z;have Y:=j.frozen (a+(m-1-i));generalize I:(((BP false m n).getD (m-1-i) 0).toNat:Int)=o at*;have x:=Aa I;have an:=Aa (show∃ h,Ac (wr.setCell (A0 g (a+(m-1-i))) (.int .u8 o)) g h t/\h.size=f.size/\∀ b,h[b]? = if a+m-(i+1)<=b/\b<a+m then some (.int .u8 (((BP false m n).getD (b-a) 0).toNat:Int))else f[b]? by
   refine⟨_,j.set (a+(m-1-i)) (.int .u8 o),by simp[U],fun b=>?_⟩;by_cases K:b=a+(m-1-i);subst K;have S:a+(m-1-i)<e.size:=kX;rw[aF kX,show a+(m-1-i)-a=m-1-i by omega,x.o];simp[S];rw[iU kX,J b];by_cases p:a+m-i<=b/\b<a+m;rw[aF p,aF kX];rw[aC p,aC kX])
  exact n8;have O:¬ (i:Int)<(m:Int):=kX;obtain rfl:i=m:=kX;go_wp2;go_end0;exact⟨rfl,Up.mk (by rw[L];have E:=r.out;rwa [show a+i-i=a by omega]at E) y.out⟩
section
open Go
theorem mw(h:p:=by
 simp only[iG,bO];rw[<- bO,<- ar];exact eT):p:=h
theorem mx(h:p:=by
 have ah:aa.toList.take n=a:=by simpa using ab
 rw[ah,<- ar];exact eT):p:=h
section
variable {P:Program} (w:aE)
def S8(n:Nat):aD aI:=List.replicate n (.int .u8 0)
theorem Gf(n):(S8 n).length=n:=by simp[S8]
theorem Aba(n):∀ a∈S8 n,a.oneCell'=true:=fun a hu=>by rw[(List.mem_replicate.1 hu).2];rfl
theorem HM(n):Builtin.zeroCells (Value.int .u8 0).cells n=(S8 n).toArray:=by
 apply Array.ext;simp[Builtin.zeroCells,S8,Value.cells];intro e a b;simp[Builtin.zeroCells,S8,Value.cells,Nat.mod_one]
theorem HW(t j J f)(I:IntKind)(i:TypeInfo)(A:P.underlying t=some (.slice f))(B:P.underlying j=some (.int I))(x:P.info? f=some i)(F:i.zero=some (.int .u8 0))(z:i.size=1)(r:i.bytes=1)(e a g m)(b)(v:w.heap[e]? = some (.cells b f (0,0)))(h0:0<m)(K:m<=4)(y:a+m<=g)(u:a+m<=b.size):
 (Builtin.append_ #[t,j] J #[S0 e a g,I0 (m:Nat)]).run P w=
   .ok (S0 e (a+m) g) (w.setRow e (b.toList.take a++S8 m++b.toList.drop (a+m)).toArray):=by
 have h:=run_storeCells_at P e a f (S8 m) 0 b w v (by simpa[Gf]using u) (Aba m);simp only[Nat.add_zero,Gf]at h;have E:IntKind.i64.wrap (m:Int)=m:=lI;have k:¬ ((m:Int)<0):=kX;have o:¬ (281474976710656<(m:Int)*(i.bytes:Int)):=by rw[r];omega
 have p:¬ (m=0):=kX;simp[Builtin.append_,fJ A,fJ B,sizeOf,typeInfo,zeroValue,x,F,z,asInt,asIntOf,E,k,o,p,y,HM,gA,h]
theorem HZ(t o M e)(L:IntKind)(i:TypeInfo)(F:P.underlying t=some (.slice e))(I:P.underlying o=some (.int L))(A:P.info? e=some i)(K:i.zero=some (.int .u8 0))(h:i.size=1)(z:i.bytes=1)(g)(a b m)(f:aD aI)(V:f.length=a)(E:∀ k p,f[k]? = some p->w.cell? (g.add k)=some p)(h0:0<m)(X:m<=4)(U:b<a+m)(O:((a+m:Nat):Int)<=9223372036854775807)(S:Builtin.nextslicecap (a+m) b<=281474976710656):
 (Builtin.append_ #[t,o] M #[.slice (some g) a b,I0 (m:Nat)]).run P w=
   .ok (S0 w.heap.size (a+m) (grownCap w (a+m) b e))
    (w.drew.alloc (.cells (f.toArray++(S8 m).toArray++Builtin.zeroCells (Value.int .u8 0).cells (grownCap w (a+m) b e-(a+m))) e)):=by
 have B:¬ (a+m<=b):=kX;have y:¬ (9223372036854775807<((a:Int)+(m:Int))):=kX;have x:¬ (281474976710656<Builtin.nextslicecap (a+m) b):=kX;have j:=run_firstCells_some (P:=P) w.drew i.size a g a b f (by rw[h];omega) (by simpa using E);rw[h]at j;have J:IntKind.i64.wrap (m:Int)=m:=lI;have r:¬ ((m:Int)<0):=kX;have u:¬ (281474976710656<(m:Int)):=kX;have v:¬ (m=0):=kX;simp[Builtin.append_,fJ F,fJ I,sizeOf,typeInfo,zeroValue,A,K,h,z,asInt,asIntOf,J,r,u,v,B,y,x,HM,Question.forced,j,newRow,grownCap]
theorem Ib(base)(t k r b)(p:IntKind)(i:TypeInfo)(B:P.underlying t=some (.slice b))(E:P.underlying k=some (.int p))(y:P.info? b=some i)(F:i.zero=some (.int .u8 0))(O:i.size=1)(v:i.bytes=1)(u)(n m)(a)(A:w.ownsRow base b 1 u n a)(h0:0<m)(L:m<=4)(af:n+m<=140737488355328)(U:base<=w.heap.size):
 ∃ e f w',(Builtin.append_ #[t,k] r #[u,I0 (m:Nat)]).run P w=.ok (S0 e (n+m) f) w'/\w'.ownsRow base b 1 (S0 e (n+m) f) (n+m) (a++S8 m)/\w.grownBy w' u.ownBlock/\(u.ownBlock=some e\/w.heap.size<=e):=by
 have o:a.length=n:=by simpa using A.1
 have ar:(a++S8 m).length=(n+m)*1:=by rw[aR,o,Gf,Nat.mul_one]
 have J:∀ (j:Nat) (S:aM Nat),
  (w.drew.alloc (.cells (a.toArray++(S8 m).toArray++Builtin.zeroCells (Value.int .u8 0).cells (grownCap w (n+m) j b-(n+m))) b)).ownsRow base b 1
    (S0 w.heap.size (n+m) (grownCap w (n+m) j b)) (n+m) (a++S8 m)/\
  w.grownBy (w.drew.alloc (.cells (a.toArray++(S8 m).toArray++Builtin.zeroCells (Value.int .u8 0).cells (grownCap w (n+m) j b-(n+m))) b)) S:=by
  intro j S;have Y:=kK w (n+m) j b;have x:=iJ w (n+m) j b lD;refine⟨⟨ar,.inr ⟨w.heap.size,_,_,rfl,U,cJ w.drew _,Y,x,?_,?_⟩⟩,⟨rfl,rfl,rfl,by simp,fun I z _=>bC w.drew _ I z⟩⟩;have ad:(Value.int IntKind.u8 0).cells.size=1:=rfl;simp only[iS,dJ,jM,ad,o,Gf];omega;exact mw
 rcases A.2 with⟨rfl,rfl⟩|⟨e,f,aa,rfl,V,K,aj,x,X,ab⟩;have ac:=cG o;subst ac;have h:=Lib.run_append_nil_zeros (P:=P) w t k r b i (.int .u8 0) .i64 p B E y F m h0 kX kX (by rw[v];omega);rw[HM m]at h;have g:=J 0 (Value.ownBlock (.slice none 0 0));simp only[eC,cL,Array.empty_append]at g⊢;exact⟨_,_,_,h,g.1,g.2,Or.inr (aB _)⟩;by_cases M:n+m<=f;have ai:aa.size=f:=by simpa using X
 have h:=HW (P:=P) w t k r b p i B E y F O v e n f m aa K h0 L M kX;refine⟨_,_,_,h,⟨ar,.inr ⟨e,f,_,rfl,V,jD w e aa _ b _ K,M,x,?_,?_⟩⟩,⟨rfl,rfl,rfl,by simp,fun I _ z=>setRow_other w e I _ (fun b=>z (by simp[Value.ownBlock,b]))⟩,Or.inl rfl⟩;simp only[dJ,aR,cX,dQ,fU,Gf];omega;exact mx;have Z:=A.cells (g:=e) rfl;have h:=HZ (P:=P) w t k r b p i B E y F O v (A0 e 0) n f m a o Z h0 L kX kX (by have ae:=jN (bytes:=1) (need:=n+m) (old:=f) kX kX;omega);have g:=J f (Value.ownBlock (S0 e n f));exact⟨_,_,_,h,g.1,g.2,Or.inr (aB _)⟩
end
end
section
open Go
def Cr(w:aE)(base:Nat)(k:TypeId)(g:Nat)(h:aI)(n:Nat)(j:aD aI):Prop:=
 j.length=n*g/\((h=.slice none 0 0/\n=0)\/∃ e f a b,h=.slice (some (A0 e f)) n a/\base<=e/\w.heap[e]? = some (.cells b k (0,0))/\n<=a/\a<=maxLen/\f+a*g<=b.size/\(b.toList.drop f).take (n*g)=j)
theorem Cr.blocks{w w' base f g e n h}(b:Cr w base f g e n h)(u:∀ a,e.ownBlock=some a->w'.heap[a]? = w.heap[a]?):Cr w' base f g e n h:=by
 refine⟨b.1,?_⟩;rcases b.2 with b|⟨a,v,j,k,rfl,o,p,r⟩;exact Or.inl b;exact Or.inr ⟨a,v,j,k,rfl,o,by rw[u a rfl];exact p,r⟩
theorem Cr.lt{w base e k b n o}(f:Cr w base e k b n o){g}(a:b.ownBlock=some g):base<=g/\g<w.heap.size:=by
 rcases f.2 with⟨rfl,_⟩|⟨q,v,p,r,rfl,h,j,u⟩
 cases a
 simp[Value.ownBlock]at a;subst a;exact⟨h,(cW.1 j).1⟩
theorem Cr.nil(w base a b):Cr w base a b (.slice none 0 0) 0 []:=⟨by simp,Or.inl ⟨rfl,rfl⟩⟩
theorem HV(a):∀ (e:aD aI) (b:Nat) (w:aE),(w.setCells a b e).heap.size=w.heap.size
 | [],_,_=>rfl
 | v::r,b,w=>by rw[World.setCells,HV a r];simp[World.setCell]
theorem Ia(b a)(e:a≠b):∀ (g:aD aI) (f:Nat) (w:aE),(w.setCells b f g).heap[a]? = w.heap[a]?
 | [],_,_=>rfl
 | v::r,f,w=>by rw[World.setCells,Ia b a e r,heap_setCell_other _ _ _ _ e]
theorem Fv(a):∀ (e:aD aI) (b:Nat) (w:aE),(w.setCells a b e).os=w.os/\(w.setCells a b e).tape=w.tape/\(w.setCells a b e).output=w.output
 | [],_,_=>⟨rfl,rfl,rfl⟩
 | v::r,b,w=>by rw[World.setCells];exact Fv a r _ _
theorem Kt(e t):∀ (j:aD aI) (a:Nat) (w:aE) (b:Array aI),w.heap[e]? = some (.cells b t (0,0))->a+j.length<=b.size->
 ∃ g,(w.setCells e a j).heap[e]? = some (.cells g t (0,0))/\g.toList=b.toList.take a++j++b.toList.drop (a+j.length)
 | [],a,w,b,k,_=>⟨b,k,by simp⟩
 | v::f,a,w,b,k,hs=>by
  simp only[aX]at hs;obtain⟨g,o,p⟩:=Kt e t f (a+1) (w.setCell (A0 e a) v) (b.setIfInBounds a v) (heap_setCell_same w e a b t v k) lA;refine⟨g,o,?_⟩;rw[p];have r:(b.setIfInBounds a v).toList=b.toList.take a++v::b.toList.drop (a+1):=by
   rw[jQ,List.set_eq_take_append_cons_drop,aF lA]
  have h:(b.toList.take a).length=a:=lA;have d1:(b.toList.take a++v::b.toList.drop (a+1)).take (a+1)=b.toList.take a++[v]:=by
   rw[List.take_append,h,show a+1-a=1 by omega,bV (by rw[h];omega)];rfl
  have d2:(b.toList.take a++v::b.toList.drop (a+1)).drop (a+1+f.length)=b.toList.drop (a+(f.length+1)):=by
   rw[List.drop_append,h,show a+1+f.length-a=f.length+1 by omega,kE (by rw[h];omega),cL,bK,iC];congr 1;omega
  rw[r,d1,d2];simp
section
variable {P:Program} (w:aE)
theorem NP(t E)(base)(g)(i:TypeInfo)(I)(k bytes)(S:P.underlying t=some (.slice g))(L:P.info? g=some i)(ah:i.zero=some I)(ae:i.size=k)(aa:i.bytes=bytes)(ai:I.cells.size=k)(a3:0<k)(F)(n)(y)(ac:Cr w base g k F n y)(r)(m c)(h)(u:h.length=m*k)(O:∀ e o,h[e]? = some o->w.cell? (r.add e)=some o)(Y:∀ o∈h,o.oneCell'=true)(a1:0<m)(K:n+m<=maxLen)(ab:(n+m)*bytes<=140737488355328)(Z:base<=w.heap.size):
 ∃ a f b w',(Builtin.append_ #[t,t] E #[F,.slice (some r) m c]).run P w=.ok (.slice (some (A0 a f)) (n+m) b) w'/\
  Cr w' base g k (.slice (some (A0 a f)) (n+m) b) (n+m) (y++h)/\w.grownBy w' F.ownBlock/\(F.ownBlock=some a\/w.heap.size<=a):=by
 have B:=ac.1;have v:(y++h).length=(n+m)*k:=by rw[aR,B,u,gJ]
 rcases ac.2 with⟨rfl,rfl⟩|⟨a,f,b,j,rfl,av,A,a9,ax,a8,af⟩;have a5:=cG (by simpa using B);subst a5;obtain⟨a,b,w',x,ar,au,z,a7⟩:=run_append_lies (P:=P) w t E base g i I k bytes S L ah ae aa ai a3 (.slice none 0 0) 0 [] (cC _ _ _ _) r m c h u O Y a1 K ab Z w.heap.size rfl;refine⟨a,0,b,w',x,⟨v,?_⟩,au,?_⟩;rcases ar.2 with⟨J,_⟩|⟨q,ap,j,J,ak,al,am,an,a6,ao⟩
 cases J
 refine Or.inr ⟨q,0,ap,j,J,ak,al,am,an,by omega,by simpa using ao⟩;rcases z with z|z
 cases z
 exact Or.inr kX;subst ae;have bb:n*i.size+m*i.size<=b*i.size\/b<n+m:=by
  by_cases aq:n+m<=b;left;rw[<- gJ];exact fK _ aq;right;omega
 by_cases ad:n+m<=b;have ba:n*i.size+m*i.size<=b*i.size:=kX;have aw:∀ e,e<h.length->w.cell? (A0 a (f+n*i.size+e))=j[f+n*i.size+e]? := fun e _=>cell_of_row w a _ j g (0,0) A
 have x:=run_append_room_cells (P:=P) w t E g i S L a f n b r m c h u O Y ad
  (fun e p=>by rw[aw e p,Array.getElem?_eq_getElem kX];rfl)
  (fun e p=>by simp[World.frozen?,A])
 obtain⟨X,aj,V⟩:=Kt a g h (f+n*i.size) w j A kX;have bc:X.size=j.size:=by
  rw[<- fU,V];simp only[aR,cX,dQ,fU];omega
 refine⟨a,f,b,_,x,⟨v,Or.inr ⟨a,f,b,X,rfl,av,aj,ad,ax,by omega,?_⟩⟩,⟨(Fv a h _ w).1,(Fv a h _ w).2.1,(Fv a h _ w).2.2,by rw[HV];omega,fun U _ M=>Ia a U (fun g=>M (by simp[Value.ownBlock,g])) _ _ _⟩,Or.inl rfl⟩;have a4:(j.toList.take (f+n*i.size)).length=f+n*i.size:=lA;rw[V,bO,dL (by rw[a4];omega),List.drop_take,show f+n*i.size-f=n*i.size by omega,af,<- bO,<- v];exact eT;have a2:∀ e o,y[e]? = some o->w.cell? (((A0 a f):Addr).add e)=some o:=fun e o p=>by
  rw[gA,cell_of_row w a _ j g (0,0) A,<- fH];rw[<- af]at p;have a0:e<n*i.size:=by
   have:=(bI.1 p).1;rw[cX]at this;omega
  rw[eB a0,eM]at p;exact p
 have az:=kK w (n+m) b g;have ay:=iJ w (n+m) b g K;subst aa;have x:=run_append_grow (P:=P) w t E g i I S L ah (A0 a f) n b y B a2 r m c h u O kX (by simp only[maxLen]at K;omega) (jN kX ab);refine⟨w.heap.size,0,_,_,x,⟨v,Or.inr ⟨w.heap.size,0,_,_,rfl,Z,cJ w.drew _,az,ay,?_,?_⟩⟩,⟨rfl,rfl,rfl,by simp,fun U M _=>bC w.drew _ U M⟩,Or.inr (aB _)⟩;simp only[iS,dJ,jM,ai,B,u,<- gJ,eC];refine eQ ?_;congr 1;omega;simp only[iG,bO,bS];rw[<- bO,<- v];exact eT
theorem Mg{ops}{a}{e}{x:Act->aE->Prop}{Q:Exit->Act->aE->Prop}{A:Prop}(S:a.guard=none)(s z:Operand)(t)(Z:a.op=.call {callee:=.builtin .append,args:=#[s,z],argTypes:=#[t,t]})(base)(g)(i:TypeInfo)(v)(b bytes)(af:P.underlying t=some (.slice g))(U:P.info? g=some i)(aj:i.zero=some v)(ad:i.size=b)(M:i.bytes=bytes)(ak:v.cells.size=b)(ae:0<b)(j)(n)(u)(ac:e.eval s=j)(aa:Cr w base g b j n u)(r)(m c)(h)(ai:e.eval z=.slice (some r) m c)(V:h.length=m*b)(Y:∀ y p,h[y]? = some p->w.cell? (r.add y)=some p)(E:∀ p∈h,p.oneCell'=true)(X:0<m)(K:n+m<=maxLen)(O:(n+m)*bytes<=140737488355328)(L:base<=w.heap.size)(B:∀ f o k w',Cr w' base g b (.slice (some (A0 f o)) (n+m) k) (n+m) (u++h)->w.grownBy w' j.ownBlock->(j.ownBlock=some f\/w.heap.size<=f)->x (e.put a.dst (.slice (some (A0 f o)) (n+m) k)) w'):
 if Region.wanted a (yielded ops e.tmps)=true then Oper.wp P a e w x Q else A:=by
 have ah:Region.wanted a (yielded ops e.tmps)=true:=by simp[Region.wanted,S]
 rw[aF ah];obtain⟨f,o,k,w',ab,F,I,J⟩:=NP (P:=P) w t a.type base g i v b bytes af U aj ad M ak ae j n u aa r m c h V Y E X K O L;unfold Oper.wp execOp;simp only[Z,resolve,invoke,builtin,fY,fO,gV,List.map_toArray,bX,dV,ac,ai,ab];exact B f o k w' F I J
end
end
theorem h9(h:p:=by
 go_wp2;go_roundw
 case rel=>exact⟨i+1,v / 256,_,by go_num,rfl,by go_num,by omega,by omega,x _ b.o,b,ah,ad⟩
 case measure=>simp[intOf];omega):p:=h
theorem PV:∀ i n,lowB (i+1) n=lowB i n++[UInt8.ofNat (n / 256 ^ i % 256)]
 | 0,n=>by simp[lowB]
 | i+1,n=>by
  rw[lowB,PV i (n / 256),lowB];simp[hO,fC,dB]
theorem W4(a i n b)(e:b=n / 256 ^ i):BP a (i+1) n=if a then BP a i n++[UInt8.ofNat (b % 256)]else UInt8.ofNat (b % 256)::BP a i n:=by
 subst e
 cases a<;>simp[BP,PV]
theorem XJ(W:aE)(n:Nat):(convert 40 9 (S0 W.heap.size 1 1)).run prog (W.alloc (.cells #[.int .u8 ((n:Int) % 256)] 5))=.ok (.string ⟨#[UInt8.ofNat (n % 256)]⟩) (W.alloc (.cells #[.int .u8 ((n:Int) % 256)] 5)):=by
 refine eE _ 40 9 5 (A0 W.heap.size 0) 1 [UInt8.ofNat (n % 256)] underlying40 underlying5 underlying9 fun b a=>?_
 obtain rfl:b=0:=by simp at a;omega
 have:=(Ac.new W #[.int .u8 ((n:Int) % 256)] 5).cell 0;rw[show((A0 W.heap.size 0):Addr).add 0=(A0 W.heap.size 0)from rfl,this];simp
theorem J8(n m a)(z:n<4294967296)(L:m<=4)(w):
 Calls prog 71 #[I0 (n:Nat),I0 (m:Nat),.bool a] w fun f w'=>f=.returned (.string ⟨(BP a m n).toArray⟩)/\Below w.heap.size w w':=by
 go_enter func71,ntmps71;go_wp2;go_loopw [0,7,8] (fun B E h wr=>∃ (i v:Nat) (e:aA),B=I0 v/\E=.string e/\h=I0 i/\i<=m/\v<4294967296/\e.size<=4/\Hid (e=⟨(BP a i n).toArray⟩)/\Hid (v=n / 256 ^ i)/\Hid (Below w.heap.size w wr)) (fun _ _ h _=>m-(intOf h).toNat)
 case atStart=>exact⟨0,n,⟨#[]⟩,rfl,rfl,rfl,bR _,z,by decide,(by cases a<;>rfl:(⟨#[]⟩:aA)=⟨(BP a 0 n).toArray⟩),(by simp:n=n / 256^0),aO _ _⟩
 case round=>
  obtain⟨i,v,e,rfl,rfl,rfl,J,M,F,p,r,g⟩:=hrel;by_cases K:i<m
  . have y:(i:Int)<(m:Int):=by omega
    have A:=g.out.size;have I:=XJ wr v;have ah:=Aa (show v / 256=n / 256 ^ (i+1)by rw[r.out,hO,fC]);have o:=Aa (W4 a i n v r.out);have ad:=Aa (g.out.alloc A (.cells #[.int .u8 ((v:Int) % 256)] 5));have x:∀ j:aA,j=⟨(BP a (i+1) n).toArray⟩->j.size<=4:=fun j f=>by
     rw[f];show(BP a (i+1) n).toArray.size<=4;rw[dJ,BE];omega
    have k:=p
    cases a with
    | true=>
     have b:Hid (e++⟨#[UInt8.ofNat (v % 256)]⟩=⟨(BP true (i+1) n).toArray⟩):=by
      have:e++⟨#[UInt8.ofNat (v % 256)]⟩=(⟨(BP true (i+1) n).toArray⟩:aA):=by
       rw[k.o,o.o,aF rfl];apply gE;simp
      exact this
     exact h9
    | false=>
     have b:Hid ((⟨#[UInt8.ofNat (v % 256)]⟩:aA)++e=⟨(BP false (i+1) n).toArray⟩):=by
      have:(⟨#[UInt8.ofNat (v % 256)]⟩:aA)++e=(⟨(BP false (i+1) n).toArray⟩:aA):=by
       rw[k.o,o.o,aC kY];apply gE;simp
      exact this
     exact h9
  have y:¬ (i:Int)<(m:Int):=kX;have u:i=m:=kX;subst u;go_wp2;go_ret;exact⟨by rw[p.out];rfl,g.out⟩
theorem QO(b k g e)(a:aD (Nat × aD It))(j:∀ f,f∈a->I4 f.2)(q:Sc × (Int × Bool))(h:e.c=40):
 walkV (b+1) k g (e::a.flatMap Prod.snd) q=(q.1,Sa (DZ b true true a (FN,q.2)).1 (DZ b true true a (FN,q.2)).2):=by
 rw[walkV,aF h,PI a j];rfl
theorem RX(f g e b)(a:aD (Nat × aD It))(k:∀ h,h∈a->I4 h.2)(q:Sc × (Int × Bool))(j:¬ b.c=40):
 walkV (f+1) g e (b::a.flatMap Prod.snd) q=DZ f false (e&&AY [119,64,115] b.c) a (Dj g e b q):=by
 rw[walkV,aC j,PI a k];rfl
theorem Sr(e)(B:VF e)(w x v p r)(g:aD (Nat × aD It))(o h b k)(q:Sc × (Int × Bool))(I J)(a:In0 e w x v p r g o h b k q)(z:(r.c==40)=true):
 Calls prog 61 #[P0 b,P0 p,I,J] w fun f w'=>
  f=.returned (.tuple #[])/\WS h b k (q.1,Sa (DZ e true true g (FN,q.2)).1 (DZ e true true g (FN,q.2)).2) w'/\KD b k w w':=by
 have L:(o.k==3)=true:=by rw[a.it.k,a.lx.st];exact z
 have K:=a.Ap.c0;have y:=Aa (Q7 e B w x v p r g o q h b a.hpb a.hhi a.hB a.Ap a.ptr a.rep a.lets a.len a.ws.bare);have j:=Aa a;go_enter func61,ntmps61;go_wp2_with fail;refine y.o.mono ?_;rintro f w1⟨rfl,E,F⟩;have A:=j.o.ws.up j.o.hB E F rfl (fun s f=>j.o.ws.lt s f);have u:=Aa A;simp only;go_wp2;exact aT (v:=.tuple #[]) (by simp[results,results61,go_sem]) rfl ⟨rfl,u.o.1,u.o.2⟩
theorem ZT(a):VF a:=by
 induction a with
 | zero=>intro w o k r X p f q g h B;exact B.elim
 | succ a A=>
  intro w o k r X p f q g h O I E S y J K;obtain⟨b,e,v,rfl,aa,Z,L,F,Cj,M,x⟩:=O;have z:∀ u,u∈e->I4 u.2:=fun u V=>(x u V).Jh
  have h0:In0 a w o k r b e v g h f q:=⟨L,I,E,F,M,x,fun Y U=>y Y (aH _ U),by simp at J;simp;omega,S,Cj,y b aG⟩
  cases j:(b.c==40)
  rotate_left;rw[QO a p f.isSome b e z q (by simpa using j)];exact Sr a A w o k r b e v g h f q _ _ h0 j;rw[RX a p f.isSome b e z q (by simpa using j)];exact Zd a A w o k r b e v g h f p q h0 K j _ _ rfl (by cases AY [119,64,115] b.c<;>simp)
def BL(a:Nat)(e:aD Rl)(st:Int × Bool):Int × Bool:=e.foldl (fun f b=>(walkV a false false b.As (FN,f)).2) st

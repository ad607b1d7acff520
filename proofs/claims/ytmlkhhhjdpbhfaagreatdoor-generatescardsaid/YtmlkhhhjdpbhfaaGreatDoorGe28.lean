import Derived.Test.YtmlkhhhjdpbhfaaGreatDoorGe26
import Derived.Test.YtmlkhhhjdpbhfaaGreatDoorGe27
namespace Go.Proofs.YtmlkhhhjdpbhfaaGreatDoor
open Go.RowKit Go.Proofs.Tryz
set_option maxHeartbeats 4000000
set_option maxRecDepth 100000
variable{p q:Prop}(z:q)
theorem Bx(h:p:=by
 first|exact(a3.o.alloc kX _).drew|exact((a3.o.alloc kX _).alloc lA _).drew|exact(((a3.o.alloc kX _).alloc lA _).alloc lA _).drew):p:=h
theorem CU{w:aE}{b:Nat}(e:w.heap.size=b)(a t):Ac (w.alloc (.cells a t)) b a t:=by subst e;exact Ac.new w a t
def ag(bs:aA)(a b:Nat):aI:=.agg #[I0 0,I0 bs.size,S0 a bs.size bs.size,S0 b 8 8,I0 0]
structure PRd (W:aE) (gb fb b2:Nat):Prop where
 g1:W.cell? (A0 gb 1)=some (S0 fb 8 8)
 f:W.cell? (A0 fb 0)=some (I0 b2)
structure PAt (c:Rx) (w:aE) (o:PO) (vb:Nat) (st':PS) (rb' db' fu' fa':Nat) (t':aD UInt8) (wc:aE):Prop where
 A9:Below w.heap.size w wc
 pg:FW wc c.pb c.gb c.bs fu' c.N fa' o.e
 vk:Ac wc vb (AA st' rb' c.bs.size db') 140
 fe:o.e=0->fu'=o.fuel/\fa'=o.far
 ok:o.ok=true->st'=o.st/\t'=o.t/\Ez c wc o.st rb' db'
theorem U4(bs N):Eb bs N (Ey bs):=⟨bR _,aB _,by simp[Ey],bR _,fun d=>⟨by simp[Ey],by simp[Ey]⟩⟩
theorem Sx{c:Rx}{w W e:aE}(h:c.pb=w.heap.size)(b:Below w.heap.size w W)(a:Fr W.heap.size c.pb W e):Below w.heap.size w e:=
 b.trans ⟨a.os,a.tape,a.output,a.size,fun f g=>a.block f (by have:=b.size;omega) kX⟩
theorem Ye{c w W f p r}(J:c.pb=w.heap.size)(B:Below w.heap.size w W){vb}(y:Ac W vb AE 140)(L:w.heap.size<vb)(k:AO c W p r f):
 ∃ a e b j h g,r=EI a e c.bs.size b g p.ok/\Below w.heap.size w f/\Ac f vb AE 140/\PAt c w p vb a e b j h g (E8 f vb (I0 a.pl) (I0 a.en) (S0 e c.bs.size c.bs.size) (S0 b 8 8) (I0 a.Af))/\Below w.heap.size w (E8 f vb (I0 a.pl) (I0 a.en) (S0 e c.bs.size c.bs.size) (S0 b 8 8) (I0 a.Af)):=by
 obtain⟨x,a,e,b,j,h,g,rfl,I,E,F⟩:=k;have u:=Sx J B x;have o:=x.Ap y y.lt kX;have v:Below w.heap.size w (E8 f vb (I0 a.pl) (I0 a.en) (S0 e c.bs.size c.bs.size) (S0 b 8 8) (I0 a.Af)):=Hl u kX _ _ _ _ _;refine⟨a,e,b,j,h,g,rfl,u,o,⟨v,Ac.Ar I kX _ _ _ _ _,Ac.BB o _ _ _ _ _,E,fun k=>?_⟩,v⟩;obtain⟨z,A,K⟩:=F k;exact⟨z,A,K.BB o _ _ _ _ _⟩
theorem Agd{c w W b o p}(J:c.pb=w.heap.size)(B:Below w.heap.size w W)(L:w.heap.size<W.heap.size)(k:AO c W o p b):
 ∃ a f e j h g,p=EI a f c.bs.size e g o.ok/\Below w.heap.size w b/\Below w.heap.size w (b.alloc (.cells AE 140))/\PAt c w o b.heap.size a f e j h g (E8 (b.alloc (.cells AE 140)) b.heap.size (I0 a.pl) (I0 a.en) (S0 f c.bs.size c.bs.size) (S0 e 8 8) (I0 a.Af))/\Below w.heap.size w (E8 (b.alloc (.cells AE 140)) b.heap.size (I0 a.pl) (I0 a.en) (S0 f c.bs.size c.bs.size) (S0 e 8 8) (I0 a.Af)):=by
 obtain⟨x,a,f,e,j,h,g,rfl,I,E,F⟩:=k;have r:=Sx J B x;have M:=x.size;have v:Below w.heap.size w (b.alloc (.cells AE 140)):=r.alloc kX _;have y:=Ac.new b AE 140;have u:Below w.heap.size w (E8 (b.alloc (.cells AE 140)) b.heap.size (I0 a.pl) (I0 a.en) (S0 f c.bs.size c.bs.size) (S0 e 8 8) (I0 a.Af)):=Hl v kX _ _ _ _ _;refine⟨a,f,e,j,h,g,rfl,r,v,⟨u,Ac.Ar (Ac.alloc I _) kX _ _ _ _ _,Ac.BB y _ _ _ _ _,E,fun k=>?_⟩,u⟩;obtain⟨z,A,K⟩:=F k;exact⟨z,A,(K.below ((aO _ _).alloc (aB _) _)).BB y _ _ _ _ _⟩
theorem rparse_calls(w g ab V o ai af E bs)(e N:Nat)(G:Nat->aD It)(R:Nat->Bool)(h:DK ⟨w,g,ab,V,o,w.heap.size,ai,af,E,bs,N,G,R⟩)(h0:R 0=true)(bq:e<=100000):
 Calls prog 32 #[P0 g,.string bs,I0 e,I0 N] w fun Y w'=>Y=.returned (.tuple #[.string ⟨(endT (tryT G bs N (e+1) e 0 false (G 0) (Ey bs))).1.toArray⟩,I0 ((endT (tryT G bs N (e+1) e 0 false (G 0) (Ey bs))).2.1:Int),I0 ((endT (tryT G bs N (e+1) e 0 false (G 0) (Ey bs))).2.2:Int)])/\Below w.heap.size w w':=by
 have bm:bs.size<=4000:=h.bs;obtain⟨_,M,al,av,bj,a1⟩:=h.Ig 0 h0;have br:g<w.heap.size:=h.Fw.Ap.lt;have bp:o<w.heap.size:=h.fst.lt;have j:Hid (∀ W,Below w.heap.size w W->PRd W g o M):=fun W p=>⟨(h.Fw.Ap.below p br).cell 1,by
  have k:=(h.fst.below p bp).cell 0;have b7:E.length=8:=h.fl;rw[k];simp only at al;simp[Ci,<- al,List.getD,show 0<E.length by omega]⟩
 have bc:Hid (∀ W ah X,Cp ⟨w,g,ab,V,o,w.heap.size,ai,af,E,bs,N,G,R⟩ W (Ey bs) ah X e 0->Calls prog 56 #[P0 w.heap.size,I0 M,.agg #[I0 0,I0 bs.size,S0 ah bs.size bs.size,S0 X 8 8,I0 0],.bool false] W fun Y w'=>AO ⟨w,g,ab,V,o,w.heap.size,ai,af,E,bs,N,G,R⟩ W (tryT G bs N (e+1) e 0 false (G 0) (Ey bs)) Y w'):=fun W ah X k=>Zs _ h (e+1) W (Ey bs) ah X e 0 (G 0) M bj false false false k av a1 (h.JI 0 h0) bq kX
 have bd:Hid ((tryT G bs N (e+1) e 0 false (G 0) (Ey bs)).ok=true->Dt bs N (Ey bs) (hidV (G 0)) (tryT G bs N (e+1) e 0 false (G 0) (Ey bs))/\(tryT G bs N (e+1) e 0 false (G 0) (Ey bs)).e=0):=fun r=>(BQ (R:=R) G h.JI (e+1)).fit e 0 false false false (G 0) _ (h.JI 0 h0) (U4 bs N) r
 generalize tryT G bs N (e+1) e 0 false (G 0) (Ey bs)=b at*;have ca:=Qu bs.size bm;have be:=Aa (show Q9 (Ey bs).rd=Array.replicate bs.size (.bool false)by simp[Q9,Ey]);have cb:=Q3;have b3:=Aa h;clear h av a1 al;go_enter func32,ntmps32;go_wp2_with fail;have aq:Hid (FW (w.alloc (.cells #[P0 g,.string bs,I0 e,I0 N,I0 0,I0 0] 136)) w.heap.size g bs e N 0 0):=Ac.new w _ _;have a3:Hid (Below w.heap.size w (w.alloc (.cells #[P0 g,.string bs,I0 e,I0 N,I0 0,I0 0] 136))):=(aO _ _).alloc (aB _) _;have cc:(w.alloc (.cells #[P0 g,.string bs,I0 e,I0 N,I0 0,I0 0] 136)).heap.size=w.heap.size+1:=kY;generalize w.alloc (.cells #[P0 g,.string bs,I0 e,I0 N,I0 0,I0 0] 136)=b4 at*;go_cut [12,13,14] (fun bz b0 b1 wc=>∃ (aj:Nat) (z:PS) (y O Z S:Nat) (J:aD UInt8),bz=P0 aj/\b0=.string ⟨J.toArray⟩/\b1=.bool b.ok/\Hid (PAt ⟨w,g,ab,V,o,w.heap.size,ai,af,E,bs,N,G,R⟩ w b aj z y O Z S J wc))
 case first=>
  refine N8 (fun W=>PRd W g o M) [0,1,2,3,4,5,6,7,8,9,10] [13] 11 12 14 19 [([15,16,17,18],19),([],20),([],21),([],22)] [([],14),([15,16,17,18],20),([],21),([],22)] [([],11),([13],14),([15,16,17,18],20),([],21),([],22)] [([],12),([13],14),([15,16,17,18],20),([],21),([],22)] rfl kZ (fun _ _ d _ _ k=>by cases d<;>exact k) (j.o _ a3.o.drew) ?_;simp only[Qa,wpSeg,aP,aS,aQ,aJ,aK];refine k5 ?_;refine Ab (P0 g) rfl (fun W a=>by go_simp) ?_;refine Ab (.pointer (some (A0 g 1))) rfl (fun W a=>by go_simp) ?_;refine Ab (S0 o 8 8) rfl (fun W a=>by have bk:=a.g1;go_simp) ?_;refine Ab (P0 o) rfl (fun W a=>by go_simp) ?_;refine Ab (I0 M) rfl (fun W a=>by have bk:=a.f;go_simp) ?_;refine Ab _ rfl (fun W a=>rfl) ?_;refine Ab (I0 bs.size) rfl (fun W a=>by go_simp) ?_;refine Ab _ rfl (fun W a=>rfl) ?_;refine Ab (I0 bs.size) rfl (fun W a=>by go_simp) ?_;refine Ag ⟨⟨_,rfl,rfl,?_⟩,⟨_,rfl,rfl,?_⟩,⟨_,rfl,rfl,?_⟩⟩;all_goals
   unfold Oper.wp;go_simp;refine⟨j.o _ Bx,⟨_,rfl,rfl,?_⟩,⟨_,rfl,rfl,?_⟩⟩
  all_goals
   unfold Oper.wp;go_simp;refine⟨j.o _ Bx,?_⟩
  any_goals (refine Ag ⟨_,rfl,rfl,?_⟩;unfold Oper.wp;go_simp;refine⟨j.o _ Bx,?_⟩)
  all_goals
   first
   | (refine Ab (ag bs (w.heap.size+1) (w.heap.size+1+1)) rfl ?sideag ?_;case sideag=>(intro W a;unfold ag;go_simp;done))
   | (refine Ab (ag bs (w.heap.size+1) (w.heap.size+1+1+1)) rfl ?sideag ?_;case sideag=>(intro W a;unfold ag;go_simp;done))
   | (refine Ab (ag bs (w.heap.size+1+1) (w.heap.size+1)) rfl ?sideag ?_;case sideag=>(intro W a;unfold ag;go_simp;done))
   | (refine Ab (ag bs (w.heap.size+1+1+1) (w.heap.size+1)) rfl ?sideag ?_;case sideag=>(intro W a;unfold ag;go_simp;done))
   | (refine Ab (ag bs (w.heap.size+1+1) (w.heap.size+1+1+1)) rfl ?sideag ?_;case sideag=>(intro W a;unfold ag;go_simp;done))
   | (refine Ab (ag bs (w.heap.size+1+1+1) (w.heap.size+1+1)) rfl ?sideag ?_;case sideag=>(intro W a;unfold ag;go_simp;done))
   unfold ag
  any_goals refine Ag ⟨⟨_,rfl,rfl,?_⟩,⟨_,rfl,rfl,?_⟩⟩
  any_goals refine Ag ⟨_,rfl,rfl,?_⟩
  all_goals
   unfold Oper.wp;go_simp
  any_goals (refine⟨j.o _ Bx,?_⟩;refine Ag ⟨_,rfl,rfl,?_⟩;unfold Oper.wp;go_simp)
  all_goals
   refine(bc.o _ _ _ ⟨by first|exact Ac.alloc (Ac.alloc aq.o _) _|exact Ac.alloc (Ac.alloc (Ac.alloc aq.o _) _) _,by first|exact(a3.o.alloc kX _).drew|exact((a3.o.alloc kX _).alloc lA _).drew|exact(((a3.o.alloc kX _).alloc lA _).alloc lA _).drew,by(unfold TV;rw[be.o];first|exact CU lM _ _|exact Ac.alloc (CU lM _ _) _|exact Ac.alloc (Ac.alloc (CU lM _ _) _) _),by first|exact CU lM _ _|exact Ac.alloc (CU lM _ _) _|exact Ac.alloc (Ac.alloc (CU lM _ _) _) _,U4 bs N⟩).mono ?_;intro Y A U
   first
   | (have ae:=Ye (vb:=w.heap.size+1+1+1) rfl Bx ?sidehz kX U;case sidehz=>(first|(refine CU ?_ _ _;first|omega|(simp<;>omega))|(refine Ac.alloc (CU ?_ _ _) _;first|omega|(simp<;>omega))|(refine Ac.alloc (Ac.alloc (CU ?_ _ _) _) _;first|omega|(simp<;>omega))))
   | (have ae:=Ye (vb:=w.heap.size+1+1) rfl Bx ?sidehz kX U;case sidehz=>(first|(refine CU ?_ _ _;first|omega|(simp<;>omega))|(refine Ac.alloc (CU ?_ _ _) _;first|omega|(simp<;>omega))|(refine Ac.alloc (Ac.alloc (CU ?_ _ _) _) _;first|omega|(simp<;>omega))))
   | (have ae:=Ye (vb:=w.heap.size+1) rfl Bx ?sidehz kX U;case sidehz=>(first|(refine CU ?_ _ _;first|omega|(simp<;>omega))|(refine Ac.alloc (CU ?_ _ _) _;first|omega|(simp<;>omega))|(refine Ac.alloc (Ac.alloc (CU ?_ _ _) _) _;first|omega|(simp<;>omega))))
   | have ae:=Agd rfl Bx lM U
   obtain⟨z,y,O,Z,S,J,bo,bl,u,ay,ac⟩:=ae;subst bo;have ar:=Aa ay
   first
   | (have a6:A.cell? _=some (I0 0):=u.cell 0
      have a7:A.cell? _=some (I0 0):=u.cell 1;have a8:A.cell? _=some (.slice none 0 0):=u.cell 2;have a9:A.cell? _=some (.slice none 0 0):=u.cell 3;have ba:A.cell? _=some (I0 0):=u.cell 4;have b2:=fun f=>u.frozen f
      clear u)
   | (have x:=Aa (Ac.new A AE 140)
      have aw:=u;clear u;unfold AE at ar aw ac x)
   clear ay U;unfold EI AA;simp only;refine⟨j.o _ bl,?_⟩;refine Ab _ rfl (fun W a=>rfl) ?_;refine Ab (.agg (X_0 z.pl z.en y bs.size bs.size O z.Af)) rfl (fun W a=>by go_simp) ?_;refine Ab (.string ⟨J.toArray⟩) rfl (fun W a=>by go_simp) ?_;refine Ab (.bool b.ok) rfl (fun W a=>by go_simp) ?_;refine Ag ⟨_,rfl,rfl,?_⟩;unfold Oper.wp;go_simp
  any_goals
   refine⟨j.o _ aw,?_⟩;have a6:=x.o.cell 0;have a7:=x.o.cell 1;have a8:=x.o.cell 2;have a9:=x.o.cell 3;have ba:=x.o.cell 4;have b2:=fun f=>x.o.frozen f
   generalize A.alloc (.cells X_2 140)=b5 at*;simp only[aQ,aJ,aK]at a6 a7 a8 a9 ba;refine Ag ⟨_,rfl,rfl,?_⟩;unfold Oper.wp;go_simp
  all_goals
   refine⟨j.o _ ac,?_⟩;refine Ag ⟨_,rfl,rfl,?_⟩;unfold Oper.wp;go_simp;refine⟨j.o _ ac,?_⟩;refine Ag ⟨_,rfl,rfl,?_⟩;unfold Oper.wp;go_simp;refine⟨j.o _ ac,?_⟩;go_wp2_with fail;go_meet
   case rel=>exact⟨_,z,y,O,Z,S,J,rfl,rfl,rfl,ar⟩
 case rest=>
  obtain⟨aj,z,y,O,Z,S,J,rfl,rfl,rfl,ad⟩:=hcut;have v:=ad;have a4:wc.cell? (A0 w.heap.size 5)=some (I0 b.e):=ad.out.pg.cell 5;have a2:wc.cell? (A0 w.heap.size 4)=some (I0 S):=ad.out.pg.cell 4;clear ad;by_cases am:b.e≠0
  . have b8:¬ (b.e:Int)=0:=by omega
    have B:=Aa (show endT b=([],b.e,0)by unfold endT;rw[aF am]);go_wp2_with fail;go_quiet (fail);go_wp2;refine aT (v:=.tuple #[.string ⟨#[]⟩,I0 b.e,I0 0]) (by simp[results,results32,go_sem]) rfl ?_;rw[B.o];exact⟨rfl,below_drewN v.o.A9 _⟩
  have ax:b.e=0:=kX;rw[ax]at a4
  cases r:b.ok
  . obtain⟨b6,bi⟩:=v.o.fe ax;have B:=Aa (show endT b=([],8,b.far)by unfold endT;rw[aC am,aF r]);rw[bi]at a2;go_wp2_with fail;go_quiet (fail);go_wp2;refine aT (v:=.tuple #[.string ⟨#[]⟩,I0 8,I0 b.far]) (by simp[results,results32,go_sem]) rfl ?_;rw[B.o];exact⟨rfl,below_drewN v.o.A9 _⟩
  obtain⟨bg,bh,a0⟩:=v.o.ok r;subst bg;subst bh;have az:=(bd.o r).1.inv.rd;have au:endT b=match b.st.rd.findIdx? (fun L=>!L)with|some i=>([],8,i)|none=>(b.t,0,0):=by
   unfold endT;rw[aC am,aC Bc];rfl
  have B:=Aa au;have bf:=Aa a0;have K:=Aa az;have cd:q_ wc aj 2 (S0 y bs.size bs.size):=v.o.vk.cell 2;clear au a0 az a2;go_wp2_with fail;clear a4;go_loopw [15] (fun ap wr=>∃ i:Nat,ap=I0 i/\i<=bs.size/\wr=wc/\Hid (∀ f,f<i->b.st.rd.getD f false=true)) (fun ap _=>bs.size-(intOf ap).toNat)
  case atStart=>exact⟨0,rfl,bR _,rfl,fun f I=>by omega⟩
  case round=>
   obtain⟨i,rfl,b9,rfl,F⟩:=hrel;by_cases ao:i<bs.size
   . have bv:(i:Int)<(bs.size:Int):=by omega
     have a5:wr.cell? (A0 y i)=some (.bool (b.st.rd.getD i false)):=by
      have k:=bf.o.rd.cell i;rw[Vd _ _ (by rw[K.o];exact ao)]at k;exact k
     cases p:b.st.rd.getD i false
     . rw[p]at a5;have ak:Hid (endT b=([],8,i)):=by
        have an:b.st.rd.findIdx? (fun L=>!L)=some i:=by
         rw[iM];refine⟨by rw[K.o];exact ao,?_,fun f I=>?_⟩;rw[<- A3 _ _ false (by rw[K.o];exact ao),p];rfl;rw[<- A3 _ _ false (by rw[K.o];omega),F.out f I];simp
        have:endT b=([],8,i):=by rw[B.o,an]
        exact this
       clear p F;go_wp2;refine aT (v:=.tuple #[.string ⟨#[]⟩,I0 8,I0 i]) (by simp[results,results32,go_sem]) rfl ?_;rw[ak.o];exact⟨rfl,v.o.A9⟩
     . rw[p]at a5;have bb:Hid (∀ f,f<i+1->b.st.rd.getD f false=true):=fun f I=>by
        by_cases k:f<i;exact F.out f k;rw[show f=i by omega];exact p
       clear p F;go_wp2;go_roundw
       case rel=>exact⟨i+1,by go_num,by omega,lH,bb⟩
       case measure=>simp[intOf];omega
   have bv:¬ (i:Int)<(bs.size:Int):=kX;have bu:i=bs.size:=kX;subst bu;have ak:Hid (endT b=(b.t,0,0)):=by
    have an:b.st.rd.findIdx? (fun L=>!L)=none:=by
     rw[jT];intro ce bx;obtain⟨f,I,rfl⟩:=fT bx;have:=F.out f (by rw[<- K.o];exact I);rw[A3 _ _ false I]at this;simp[this]
    have:endT b=(b.t,0,0):=by rw[B.o,an]
    exact this
   clear F;go_wp2;refine aT (v:=.tuple #[.string ⟨b.t.toArray⟩,I0 0,I0 0]) (by simp[results,results32,go_sem]) rfl ?_;rw[ak.o];exact⟨rfl,v.o.A9⟩
theorem Agn(s w j h c f g)(o:(Be s).1=0)(x:H2 w j h c (S0 f 8 8) (I0 (twiceV [] (Ah s).Bj)) (Ao (Ah s).Bj))(hF:Ac w f (Ci g) 3)(k:KY g (Ah s).Bj)(bs N)(z:bs.size<=4000)(y:N<=10000):
 DK ⟨w,j,h,c,f,w.heap.size,I0 (twiceV [] (Ah s).Bj),Ao (Ah s).Bj,g,bs,N,rulePt (Cy s),BY (Cy s)⟩:=by
 obtain⟨v,e,_,_⟩:=F8 s o;have F:=RJ s e;have A:=U0 s v e;refine⟨x,hF,k.1,aB _,z,y,(NL s 8 65 0 e).1,by simp only;omega,fun a b=>?_,fun a b=>GC s o a b⟩;have p:a<8:=by
  obtain⟨i,B,E,_,_⟩:=E7 b;have:=A.num _ (aU B);omega
 obtain⟨r,u⟩:=Abn (Ah s).Bj (s.size+1) (R7 s 8 65 0 e) a b;exact⟨p,startR (Ah s).Bj a,k.2.2 a p b,r,_,u⟩
def Y5(e:Array aI):Array aI:=
 Array.foldl (fun b a=>b.setIfInBounds a.snd a.fst) #[.nilFunc,.nilFunc,.nilFunc,.nilFunc,.nilFunc,.nilFunc,.nilFunc,.nilFunc,.nilFunc,.nilFunc,.nilFunc,.nilFunc,.nilFunc,.nilFunc,.nilFunc,.nilFunc,.nilFunc,.nilFunc,.nilFunc,.nilFunc,.nilFunc,.nilFunc,.nilFunc,.nilFunc,.nilFunc,.nilFunc,.nilFunc,.nilFunc,.nilFunc,.nilFunc,.nilFunc,.nilFunc,.nilFunc,.nilFunc,.nilFunc,.nilFunc,.nilFunc,.nilFunc,.nilFunc,.nilFunc,.nilFunc,.nilFunc,.nilFunc,.nilFunc,.nilFunc,.pointer none,.slice none 0 0,.bool false,.slice none 0 0,.slice none 0 0] e.zipIdx 0 46
theorem XZ(a):Y5 (XM a)=KE a (.slice none 0 0) false (.slice none 0 0) (.slice none 0 0):=kZ
theorem BO.fresh(c W)(b:Below c.w0.heap.size c.w0 W):
 BO c c.w0.heap.size (W.alloc (.cells (KE c.gb (.slice none 0 0) false (.slice none 0 0) (.slice none 0 0)) 120)) W.heap.size (.slice none 0 0) (.slice none 0 0) (.slice none 0 0) [] [] IM:=by
 have f:=b.size;refine⟨Ac.new W _ _,cC _ _ _ _,⟨[],Cr.nil _ _ _ _,fun p j=>by simp[IM]at j⟩,cC _ _ _ _,rfl,fun i s l a=>by simp at a,fun i g k a=>by simp at a,rfl,by simp[E6,Value.ownBlock],fun o h=>by simp[Value.ownBlock]at h,fun g e=>?_,b.alloc f _,aB _⟩;simp[E6,Value.ownBlock]at e;subst e;simp;exact f
theorem YL{w g f l}(e:w.ownsRow g 5 1 f l.length (BT l)):(convert 40 9 f).run prog w=.ok (.string ⟨l.toArray⟩) w:=by
 rcases e.2 with⟨rfl,h0⟩|⟨a,h,k,rfl,o,p,u,r,v,x⟩;obtain rfl:=cG h0;rw[run_convert_bytes_string w 40 9 5 none 0 0 underlying40 underlying5 underlying9];rfl;refine eE w 40 9 5 (A0 a 0) h l underlying40 underlying5 underlying9 fun b j=>?_
 have:=e.cellAt b kX;rw[show Addr.add (A0 a 0) b=(A0 a b)by unfold Addr.add;split<;>simp_all,this];simp[BT,j]
theorem T7(b)(F)(G)(R)(w)(_hgb:b<w.heap.size)(a4:∀ ae ar,w.heap.size<=ae->ae<ar->DO ⟨w,b,ae,ar,⟨#[]⟩,0,G,R,F⟩)(a5:VD R G)(am:R 0=true)(a3:∃ a k n Z u J O A,Ac w b #[a] 77/\a=S0 k n Z/\0<n/\k<w.heap.size/\w.cell? (A0 k 2)=some (P0 u)/\BM J w O A u false (G 0)/\A<=w.heap.size)(n E r v)(a:Nd (Tr n))(bo:GS (Cb n) w E r v a)(bf:r<=w.heap.size)(bm:Tw a<=8000)(e)(b8:e<=4000):
 Calls prog 30 #[P0 b,P0 v,I0 (e:Nat)] w fun p w'=>p=.returned (.tuple #[.string ⟨(HY G n a e).1.toArray⟩,I0 (HY G n a e).2])/\Below w.heap.size w w'/\((HY G n a e).2=0->(HY G n a e).1.length<=e):=by
 have bb:=a4 w.heap.size (w.heap.size+1) (aB _) kX;obtain⟨g,o,az,a1,aw⟩:∃ (g o:Array aI),Hid (Y5 g=KE b (.slice none 0 0) false (.slice none 0 0) (.slice none 0 0))/\Hid (g.size=46)/\Hid (∀ W:aE,Calls prog 50 #[P0 b] W fun p w'=>p=.returned (.agg g)/\w'=(W.alloc (.cells g 115)).alloc (.cells o 113)):=
  ⟨XM b,E2.toArray,XZ b,rfl,fun W=>KB W b⟩
 obtain⟨cd,k,bu,Z,u,J,O,A,ao,be,b9,bd,bc,bk,ap⟩:=a3;subst be;have af:=Aa bb;have X:=Aa a5;have ah:=Aa bk;have ai:=Aa bo;have b1:=Aa ao;have cb:=a1.o;have b7:=Po;have b5:∀ h j c:Obj,(((w.alloc h).alloc j).alloc c).cell? (A0 b 0)=some (S0 k bu Z):=fun h j c=>(Ac.alloc (Ac.alloc (Ac.alloc ao h) j) c).cell 0
 have b6:∀ h j c:Obj,(((w.alloc h).alloc j).alloc c).cell? (A0 k 2)=some (P0 u):=fun h j c=>by
  have a6:Below w.heap.size w (((w.alloc h).alloc j).alloc c):=(((aO _ _).alloc (aB _) _).alloc kY _).alloc lA _;rw[aL (w:=w) (a6.block k bd)];exact bc
 go_enter func30,ntmps30;go_wp2_with fail;refine(aw.o _).mono ?_;rintro _ _⟨rfl,rfl⟩;go_wp2_with fail;have al:=az.o;unfold Y5 at al;rw[al];have an:Below w.heap.size w ((w.alloc (.cells g 115)).alloc (.cells o 113)):=((aO _ _).alloc (aB _) _).alloc kY _;have K:=BO.fresh ⟨w,b,w.heap.size,w.heap.size+1,⟨#[]⟩,0,G,R,F⟩ _ an;rw[show((w.alloc (.cells g 115)).alloc (.cells o 113)).heap.size=w.heap.size+1+1 by simp]at K;simp only at K;have aa:Below w.heap.size w (((w.alloc (.cells g 115)).alloc (.cells o 113)).alloc (.cells (KE b (.slice none 0 0) false (.slice none 0 0) (.slice none 0 0)) 120)):=an.alloc lA _;generalize((w.alloc (.cells g 115)).alloc (.cells o 113)).alloc (.cells (KE b (.slice none 0 0) false (.slice none 0 0) (.slice none 0 0)) 120)=Y at*;generalize w.heap.size+1+1=x at*;have ca:=aa.size;have bp:GS (Cb n) Y E r v a:=Cb.mono (n+1) (x:=a) ai.o (fun B _ br=>aa.block B kX) (aB _) (aB _);have bh:=X.o.1 0;have bg:=Ach ⟨w,b,w.heap.size,w.heap.size+1,⟨#[]⟩,0,G,R,F⟩ af.o (n+1) Y x (G 0) false false false J O A u E r v a K.pre ah.o ap (X.o.2 0 am).1 bh.1 bp kX;refine(bg Y (aO _ _)).mono ?_;rintro p w1⟨rfl,ab⟩;have S:=Aa (aa.trans (ab.mono kX));have ax:=Aa (K.B9 (w':=w1) (ab.mono kX) (fun B _ a2=>ab.block B a2))
 cases ac:Db G (n+1) (G 0) a
 . have y:=Aa (show HY G n a e=([],10)by unfold HY;rw[aF ac]);go_wp2;go_ret2;rw[y.o];exact⟨rfl,S.o,fun z=>by cases z⟩
 have bq:GS (Cb n) w1 E r v a:=Cb.mono (n+1) (x:=a) ai.o (fun B _ br=>S.o.block B kX) (aB _) (aB _);have av:=Aa (N0 ⟨w,b,w.heap.size,w.heap.size+1,⟨#[]⟩,0,G,R,F⟩ af.o X.o w.heap.size w1 x _ _ _ _ _ ax.o u v n E r J O A a am ah.o ap bq bf ac bm);have y:=Aa (show HY G n a e=if e<(JR G n a).out.length then([],11)else if(JR G n a).wide=true then([],12)else(B8 (JR G n a),0)by unfold HY;rw[aC (by rw[ac];simp)];rfl);go_wp2_with fail;refine av.o.mono ?_;rintro p w2⟨rfl,a7,⟨b2,bz,bv,bx,a9,L⟩,bi⟩;have I:=Aa bi;have ay:=Aa L;have U:=Aa (S.o.trans a7);generalize JR G n a=f at*;obtain⟨q,ak,rfl⟩:=B3 L.out;have b3:q_ w2 x 46 (.slice q f.out.length ak):=L.Ap.cell 46;have aj:w2.cell? (A0 x 47)=some (.bool f.wide):=L.Ap.cell 47;by_cases ad:e<f.out.length
 . have bj:(e:Int)<(f.out.length:Int):=by omega
   go_wp2;go_ret2;rw[y.o,aF ad];exact⟨rfl,U.o,fun z=>by cases z⟩
 have bj:¬ (e:Int)<(f.out.length:Int):=kX
 cases M:f.wide
 . rw[M]at aj;have a0:=Aa (OR ⟨w,b,w.heap.size,w.heap.size+1,⟨#[]⟩,0,G,R,F⟩ w.heap.size w2 x _ bz bv bx a9 f ay.o kX I.o.inv.Au (by have:=I.o.cnt;omega) I.o.wt.su);have V:=Aa (show HY G n a e=(B8 f,0)by rw[y.o,aC ad,aC (by rw[M];simp)]);go_wp2_with fail;refine a0.o.mono ?_;rintro p b0⟨rfl,aq,a8⟩;have ba:=YL aq.out;have b4:q_ b0 x 46 (.slice q f.out.length ak):=aq.Ap.cell 46;have au:=Aa (U.o.trans a8);simp only at ba;generalize bl:(⟨(B8 f).toArray⟩:aA)=cc at*;go_wp2;go_ret2;rw[V.o];exact⟨by rw[<- bl];rfl,au.o,fun _=>by show(B8 f).length<=e;rw[RZ I.o.wt.su];omega⟩
 rw[M]at aj;have V:=Aa (show HY G n a e=([],12)by rw[y.o,aC ad,aF M]);go_wp2;go_ret2;rw[V.o];exact⟨rfl,U.o,fun z=>by cases z⟩
def FL(s a:aA)(e:Nd (Tr a.size))(b:Nat):aD UInt8 × Int:=HY (rulePt (Cy s)) a.size e b
def EK(s a:aA)(b:Int):aD UInt8 × Int × Int:=
 if(Be s).1≠0 then([],(Be s).1,(Be s).2)
 else match(C1 a).1 with
  | none=>([],9,((C1 a).2:Int))
  | some e=>if IX b 4000=false then([],5,0)
   else if(FL s a e b.toNat).2≠0 then([],(FL s a e b.toNat).2,0)
   else if(⟨(endT (G9 s ⟨(FL s a e b.toNat).1.toArray⟩ 100000 10000)).1.toArray⟩:aA)=a then((FL s a e b.toNat).1,0,0)
   else([],13,0)
theorem YM(s w e)(o:RD s w e)(p:(Be s).1=0)(k:(Ah s).ok=true)(n r f g)(b:Nd (Tr n))(U:GS (Cb n) w r f g b)(J:f<=w.heap.size)(S:Tw b<=8000)(a)(L:a<=4000):
 Calls prog 30 #[P0 e,P0 g,I0 (a:Nat)] w fun v w'=>v=.returned (.tuple #[.string ⟨(HY (rulePt (Cy s)) n b a).1.toArray⟩,I0 (HY (rulePt (Cy s)) n b a).2])/\Below w.heap.size w w'/\((HY (rulePt (Cy s)) n b a).2=0->(HY (rulePt (Cy s)) n b a).1.length<=a):=by
 obtain⟨x,t,al,O⟩:=Pk s k;obtain⟨ac,l,h,j,bo⟩:=o.ex;refine T7 e s _ _ w h.lt (fun Z ab E F=>Ac5 s w e o p ⟨#[]⟩ 0 lC kX Z ab E F) (Z0 s p) (Fo s k) ?_ n r f g b U J S a L;obtain⟨B,u,y,z,A⟩:=j.shape;obtain⟨q,aa,rfl⟩:∃ q aa,l=q::aa:=by
  exact mm
 have M:q.1=x:=by
  rw[show(Ah s).Bj=x::t from al]at bo;simpa using(jW bo).1
 obtain⟨V,K,_,X,Y⟩:=j.rep q aG;have I:=(A 0 kY).2.2;refine⟨ac,B,_,u,q.2,s.size+1,V,K,h,y,by simp,z,by simpa using I,?_,X⟩;rw[show rulePt (Cy s) 0=q.1.As by rw[al,M];exact LD O];exact Y
theorem Y2(s:aA)(b:Tr (s.size+1))(a:(C1 s).1=some b):Tw (b:Nd (Tr s.size))<=8000:=by
 unfold C1 at a;split at a
 cases a
 rename_i g;split at a;have e:=Qd s (s.size+1) 0 b a;have f:szT (s.size+1) b=Tw (b:Nd (Tr s.size)):=rfl;omega
 cases a
theorem RG(s a)(bd:s.size<=maxLen)(bf:a.size<=maxLen)(f w)(av:Eu w)(ap:MO w):
 Calls prog 19 #[.string s,.string a,I0 f] w fun h w'=>h=.returned (.tuple #[.string ⟨(EK s a f).1.toArray⟩,I0 (EK s a f).2.1,I0 (EK s a f).2.2])/\Below w.heap.size w w'/\((EK s a f).2.1=0->((EK s a f).1.length:Int)<=f):=by
 have ac:=Aa (RL s bd w av (fun F v=>U0 s F v));have ah:=Aa ap;have ak:=Aa (fun W=>UE a bf W);have V:=Aa (fun(al am:Int) (W:aE)=>Ob al am W);go_enter func19,ntmps19;go_wp2_with fail;refine ac.o.mono ?_;rintro h w1⟨bp,rfl,ax,a9⟩;have u:=Aa ax;have aj:=Aa a9;by_cases g:(Be s).1=0
 . obtain⟨r,rfl,aa,a1⟩:=aj.o g;obtain⟨_,J,_,_⟩:=F8 s g;have bg:=LV s g;rw[bg];have ad:=Aa a1;have bc:=u.o.size;have aq:=Aa (ah.o.below u.o);simp only;go_wp2_with fail;refine(ak.o _).mono ?_;rintro h w2⟨x,a8⟩;have bm:=x.size;have B:=Aa (u.o.trans (x.mono bc));rcases a8 with⟨a6,rfl⟩|⟨b,bh,L,rfl,bb⟩
   . have j:=Aa (show EK s a f=([],9,((C1 a).2:Int))by unfold EK;rw[aC (fun e=>e g),a6]);go_wp2;go_ret3;rw[j.o];exact⟨rfl,B.o,fun e=>by cases e⟩
   . have K:=ad.o.below x;have bk:r<w2.heap.size:=by obtain⟨br,l,an,_,_⟩:=K.ex;exact an.lt
     have ar:=Aa (aq.out.below x)
     cases z:IX f 4000
     . have j:=Aa (show EK s a f=([],5,0)by unfold EK;rw[aC (fun e=>e g),L];simp only;rw[aF z]);go_wp2_with (first
        | (go_at_call 26;refine(V.o _ _ _).mono ?_;rintro h bi⟨rfl,M⟩;subst M))
       go_ret3;rw[j.o];exact⟨rfl,B.o,fun e=>by cases e⟩
     . obtain⟨m,rfl,a5⟩:∃ m:Nat,f=(m:Int)/\m<=4000:=by
        unfold IX at z;simp at z;exact⟨f.toNat,by omega,by omega⟩
       have be:=Y2 a b L;have ae:=Aa (YM s w2 r K g J a.size w1.heap.size w2.heap.size bh b bb (aB _) be m a5);have X:=Aa (show EK s a m=if(FL s a b m).2≠0 then([],(FL s a b m).2,0)else if(⟨(endT (G9 s ⟨(FL s a b m).1.toArray⟩ 100000 10000)).1.toArray⟩:aA)=a then((FL s a b m).1,0,0)else([],13,0)by unfold EK;rw[aC (fun e=>e g),L];simp only[bE];rw[aC (by rw[z];simp)]);go_wp2_with (first
        | (go_at_call 26;refine(V.o _ _ _).mono ?_;rintro h bi⟨rfl,M⟩;subst M))
       refine ae.o.mono ?_;rintro h O⟨rfl,y,aa⟩;have af:Hid ((FL s a b m).2=0->(FL s a b m).1.length<=m):=aa;have S:=Aa (B.o.trans (y.mono kX));have a4:HY (rulePt (Cy s)) a.size b m=FL s a b m:=rfl;rw[a4];by_cases k:(FL s a b m).2=0
       . have a0:=af.o k;have a2:=K.below y;have bo:=y.size;have a3:r<O.heap.size:=kX;have au:=Aa (ar.out.below y);have Z:(⟨(FL s a b m).1.toArray⟩:aA).size<=4000:=by
          show(FL s a b m).1.toArray.size<=4000;rw[dJ];omega
         have ai:=Aa (Qy O r ⟨(FL s a b m).1.toArray⟩ 100000 10000 (G9 s ⟨(FL s a b m).1.toArray⟩ 100000 10000) a3 (fun w' ay=>Ae8 (au.out.below ay)) (fun a7=>Zt s _ g J 100000 10000 Z kX a7) (fun W aw=>Z4 s O r a2 g J _ 100000 10000 Z kX kX W aw) (Ad0 _) (Abw _));rw[k];have Y:=Aa (show EK s a m=if(⟨(endT (G9 s ⟨(FL s a b m).1.toArray⟩ 100000 10000)).1.toArray⟩:aA)=a then((FL s a b m).1,0,0)else([],13,0)by rw[X.o,aC (fun e=>e k)]);have ab:=Aa a0;generalize(FL s a b m).1=o at*;go_wp2_with fail;refine ai.o.mono ?_;rintro h bu⟨rfl,az⟩;have U:=Aa (S.o.trans (az.mono kX));by_cases I:(⟨(endT (G9 s ⟨o.toArray⟩ 100000 10000)).1.toArray⟩:aA)=a
         . have p:=Aa (show EK s a m=(o,0,0)by rw[Y.o,aF I]);generalize endT (G9 s ⟨o.toArray⟩ 100000 10000)=E at*;simp only;go_wp2;go_ret3;rw[p.o];exact⟨rfl,U.o,fun _=>by have:=ab.o;show(o.length:Int)<=_;omega⟩
         . have p:=Aa (show EK s a m=([],13,0)by rw[Y.o,aC I]);generalize endT (G9 s ⟨o.toArray⟩ 100000 10000)=E at*;simp only;generalize(⟨E.1.toArray⟩:aA)=A at*;have bl:(A.toList==a.toList)=false:=by
            rw[dZ,dZ]
            cases ba:(A.data.toList==a.data.toList)with
            | false=>rfl
            | true=>
             exfalso;apply I;have F:A.data.toList=a.data.toList:=by simpa using ba
             have v:=Array.toList_inj.1 F
             cases A;cases a;simp only at v;rw[v]
           go_wp2;go_ret3;rw[p.o];exact⟨rfl,U.o,fun e=>by cases e⟩
       have p:=Aa (show EK s a m=([],(FL s a b m).2,0)by rw[X.o,aF k]);generalize FL s a b m=ao at*;obtain⟨o,E⟩:=ao;simp only at k;go_wp2;go_ret3;rw[p.o];exact⟨rfl,S.o,fun e=>absurd e k⟩
 have j:=Aa (show EK s a f=([],(Be s).1,(Be s).2)by unfold EK;rw[aF g]);generalize Be s=q at*;obtain⟨bj,bq⟩:=q;simp only at g j⊢;go_wp2;go_ret3;rw[j.o];exact⟨rfl,u.o,fun e=>absurd e g⟩
def Dp0:Dp:=⟨[],[],[],[],[]⟩
def YZ(G:Nat->aD It)(n:Nat)(a:Nd (Tr n)):Wr:=wRest G ((G 0).length+1001*Tw a) (D6 G n (G 0) none a IM)
theorem Aco{m R G}(b:VD R G)(ad:R 0=true)(g:E5 m)(a:Nd (Tr m.s.size))(o:A4 m.s (m.s.size+1) 0=(some a,m.s.size)):
 (Db G (m.s.size+1) (G 0) a=true->∃ D',TB m G Dp0=((YZ G m.s.size a).Au,true,D')/\Agm (YZ G m.s.size a) D')/\
 (Db G (m.s.size+1) (G 0) a=false->(TB m G Dp0).2.1=false):=by
 have E:∀ i,R i=true->BK R false false (G i):=fun i p=>(b.2 i p).1
 obtain⟨y,ap,M⟩:=b.2 0 ad;have f:=b.1 0;obtain⟨Ey,h⟩:∃ st:Wr,{IM with Au:=[[]]}=st:=⟨_,rfl⟩;have ak:Rel m 0 [] Dp0 Ey:=h▸⟨rfl,fun t am=>(by cases am),rfl,⟨[],rfl,rfl,fun a3 ah=>(by cases ah)⟩,aB _,rfl,rfl⟩;have k:BX Ey:=h▸⟨fun i au d ax Y aq=>by simp[IM]at Y,by simp⟩;have O:F3 Ey:=h▸⟨fun e u=>by simp[IM]at u,fun l J s al=>by simp at J;subst J;simp at al⟩;have af:=HE g.s8 (m.s.size+1) 0 a m.s.size (bR _) o (Or.inl rfl) (Al.end _);have L:=Qp (pre:=[]) (dn:=0) b.1 g (m.s.size+1) (G 0) none 0 m.s.size a Dp0 Ey f (bR _) o (Or.inl rfl) (Al.end _) ak k (fun a1 e=>by cases e);have B:=(Va b.1 E g (m.s.size+1) (G 0) none 0 Dp0 (Or.inr ⟨_,_,y,fun e=>by cases e⟩) f af).2 (fun e u=>by cases u);have an:YZ G m.s.size a=wRest G ((G 0).length+1001*Tw a) (BH G (m.s.size+1) (G 0) none a Ey):=by rw[<- h];rfl
 have z:Ey.wait=[]:=by rw[<- h];rfl
 unfold TB
 cases j:ZN G (m.s.size+1) (G 0) a with
 | false=>
  have ae:=(IP G (m.s.size+1)).no (G 0) a j;refine⟨fun p=>absurd p (by rw[ae];simp),fun _=>?_⟩;have ac:=L.no j;generalize pT m G (m.s.size+1) (G 0) none 0 Dp0=X at*;split;rename_i F;have r:X.ok=true:=by simp at F;exact F.1
  exact N7 b.1 E g _ 0 X.D _ (ac.resolve_left Bc) B;rfl
 | true=>
  obtain⟨Z,aa,ab⟩:=L.yes j;obtain⟨a2,U,V⟩:=(IP G (m.s.size+1)).yes (G 0) none a Ey j;have hu:=DL b.1 (m.s.size+1) (G 0) none a Ey f k;have ao:=II b (m.s.size+1) (G 0) none a Ey false false false ap y f M (fun e=>by cases e) k O;rw[aF (by rw[Z,aa];simp)];have S:=PL b g 100000000 _ 0 _ [] ab hu.inv ao B;rw[z,cL]at U;refine⟨fun v=>?_,fun v=>S.2 ?_⟩;have K:=Kx b (n:=m.s.size) (k:=G 0) (hid:=none) (v:=a) y f M (fun e=>by cases e) v k O (fun ar I=>by rw[z]at I;cases I);have x:=K.mu;have av:=f.1;have ay:szT (m.s.size+1) a<=8000:=by
   have A:=Qd m.s (m.s.size+1) 0 a (by rw[o];rfl);rw[o]at A;have:=g.s8;simp only at A;omega
  have az:szT (m.s.size+1) a=1+a.run.length+(a.kids.map (szT m.s.size)).sum:=rfl;have a0:Tw a=1+a.run.length+(a.kids.map (szT m.s.size)).sum:=rfl;rw[z]at x;simp only[dV,fD]at x;have aw:((BH G (m.s.size+1) (G 0) none a Ey).wait.map KC).sum+1<=0+((G 0).length+1001*(a.run.length+(a.kids.map (szT m.s.size)).sum)):=x;rw[an];exact S.1 K.has _ kX kX;rw[v]at V;obtain⟨q,ai,aj⟩:=iQ.1 V.symm;exact⟨q,by rw[U];exact ai,gX.2 aj⟩
theorem Wg(a:aD (Ho × Nat))(b i)(e:i<a.length):EA (a.take (i+1)) b=putAt (EA (a.take i) b) a[i].1 a[i].2:=by
 unfold EA;rw[bN e,dK];rfl
theorem XW{b:aD (Ho × Nat)}{a}(e:InB b a.length)(i):(EA (b.take i) a).length=a.length:=Hv _ _ fun t f=>e t (fL f)
theorem Aa8{a:aD (Ho × Nat)}{i}(b:i<a.length)(e:¬ a[i].2<256 ^ a[i].1.w):NB a=true:=by
 unfold NB;rw[eS];exact⟨a[i],aU b,by simp[CG];omega⟩
theorem Yd{a:aD (Ho × Nat)}(b:∀ t∈a,t.2<256 ^ t.1.w):NB a=false:=by
 unfold NB;rw[List.any_eq_false];exact fun t e=>by simp[CG];exact b t e
def Gp(e:aD (aD Sp))(b:Nat)(a:aD UInt8):aD UInt8:=(e.drop b).reverse.foldl (fun a l=>l.foldl Dw a) a
theorem Ze(b a)(f:a<b.length)(e):Gp b a e=b[a].foldl Dw (Gp b (a+1) e):=by
 unfold Gp;rw[cF f,List.reverse_cons,dK];rfl
theorem M7{h a}(j:∀ l∈h,∀ s∈l,KT s a.length)(p):(Gp h p a).length=a.length:=by
 have:∀ (b:aD (aD Sp)) (e:aD UInt8),e.length=a.length->(∀ l∈b,l∈h)->(b.foldl (fun a l=>l.foldl Dw a) e).length=a.length:=fun b=>by
  induction b with
  | nil=>exact fun e g _=>g
  | cons l b o=>exact fun e g f=>o _ (Gd l e _ g (j l (f l aG))) fun r k=>f r (aH _ k)
 exact this _ _ rfl fun l f=>List.mem_of_mem_drop (List.mem_reverse.1 f)
theorem Abs(l:aD Sp)(a:aD UInt8)(i:Nat)(b:i<l.length):(l.take (i+1)).foldl Dw a=Dw ((l.take i).foldl Dw a) l[i]:=by
 rw[bN b,dK];rfl
theorem Abo(b)(a:(endT b).2.1≠0):(endT b).1=[]:=by
 unfold endT at*;split;rfl;rename_i e;rw[aC e]at a;split;rfl;rename_i f;rw[aC f]at a;split;rfl;rename_i g;rw[g]at a;exact absurd rfl a
theorem ZB{s}{b:Tr (s.size+1)}(a:(C1 s).1=some b):s.size<=8000/\A4 s (s.size+1) 0=(some b,s.size)/\0<s.size:=by
 unfold C1 at a;split at a
 cases a
 rename_i g;split at a;rename_i e;have f:=(EB s (s.size+1) 0 (bR _)).lt (by rw[a];rfl);exact⟨by omega,Prod.ext a e,by omega⟩
 cases a
theorem Acm{s a:aA}{b:Nat}(p:(Be s).1=0){e:Tr (a.size+1)}(o:(C1 a).1=some e)(r:b<=4000)(j:Db (rulePt (Cy s)) (a.size+1) (rulePt (Cy s) 0) e=true){st:Wr}(k:YZ (rulePt (Cy s)) a.size e=st):
 EK s a (b:Nat)=if b<st.out.length then([],11,0)else if st.wide=true then([],12,0)else if(⟨(endT (G9 s ⟨(B8 st).toArray⟩ 100000 10000)).1.toArray⟩:aA)=a then(B8 st,0,0)else([],13,0):=by
 have h:FL s a e b=if b<st.out.length then([],11)else if st.wide=true then([],12)else(B8 st,0):=by
  unfold FL HY;rw[aC (by rw[j];simp),<- k];rfl
 have g:IX b 4000=true:=by unfold IX;simp;omega
 unfold EK;rw[aC (fun f=>f p),o];simp only[bE];rw[aC (by rw[g];simp),h];split;rfl;split;rfl;rfl

import Derived.Test.YtmlkhhhjdpbhfaaGreatDoorGe10
import Derived.Test.YtmlkhhhjdpbhfaaGreatDoorGe15
import Derived.Test.YtmlkhhhjdpbhfaaGreatDoorGe16
namespace Go.Proofs.YtmlkhhhjdpbhfaaGreatDoor
open Go.RowKit Go.Proofs.Tryz
set_option maxHeartbeats 4000000
set_option maxRecDepth 100000
variable{p q:Prop}(z:q)
structure XAt (c:Rx) (T:Nat->Nat->Bool->aD It->PS->PO) (r:aD It) (w:aE) (st:PS) (rb db:Nat) (O:PO) (nj:Nat) (t:aD UInt8) (stj:PS) (rbj dbj fuel far:Nat) (wr:aE):Prop where
 DY:EW c w st rb db fuel far wr
 ub:Ac wr (w.heap.size+1+1) (AA stj rbj c.bs.size dbj) 140
 sj:Ez c wr stj rbj dbj
 inv:Eb c.bs c.N stj
 rem:O=Bq T c.N r nj fuel far stj t
 len:t.length<=8011*stj.Af
theorem QQ(c)(p:DK c)(h)(cx:OB c h)(w st e a u z)(I:Cp c w st e a u z)(b x f au)(af:At c.As b (x::f))(al:Kc x)(ao:x.c=116)(cv:Fa au f)(cw:BK c.R false false f)(dj:u<=100000)(dk:u<h):
 Calls prog 95 #[P0 c.pb,I0 b,.agg (AA st e c.bs.size a)] w fun V w'=>AO c w (Bq (tryT c.G c.bs c.N h) c.N f (st.Ai x.d.toNat).1 u z st []) V w':=by
 have cq:=I.pg.lt;refine lW ?_;intro ap ar ae b0;refine lf ?_;intro d ak ba bm;have cf:x.d.toNat=d:=kX;rw[cf];have cn:=(I.inv.Ai d).1;have bg:=Aa af;have bk:=Aa I.inv;have be:=Aa af.tail;have bx:=Aa cv;have S:=Aa cw;have bi:=Aa cx;have E:=Aa p;have ai:=Aa I.A9;have ce:=EW.new I;have B:Hid (XAt c (tryT c.G c.bs c.N h) f w st e a (Bq (tryT c.G c.bs c.N h) c.N f (st.Ai d).1 u z st []) (st.Ai d).1 [] st e a u z (((w.alloc (.cells (AA st e c.bs.size a) 140)).alloc (.cells AE 140)).alloc (.cells (AA st e c.bs.size a) 140))):=by
  have A:=ce.below ((aO _ _).alloc (aB _) (.cells (AA st e c.bs.size a) 140));have cb:=Ac.new ((w.alloc (.cells (AA st e c.bs.size a) 140)).alloc (.cells AE 140)) (AA st e c.bs.size a) 140;have cc:XAt c (tryT c.G c.bs c.N h) f w st e a (Bq (tryT c.G c.bs c.N h) c.N f (st.Ai d).1 u z st []) (st.Ai d).1 [] st e a u z (((w.alloc (.cells (AA st e c.bs.size a) 140)).alloc (.cells AE 140)).alloc (.cells (AA st e c.bs.size a) 140)):=⟨A,by simpa using cb,A.sa,I.inv,rfl,by simp⟩;exact cc
 have bd:(((w.alloc (.cells (AA st e c.bs.size a) 140)).alloc (.cells AE 140)).alloc (.cells (AA st e c.bs.size a) 140)).heap.size=w.heap.size+3:=kY;obtain⟨n,ad⟩:∃ n,(st.Ai d).1=n:=⟨_,rfl⟩;have bh:=Aa ad;rw[ad]at cn B;rw[ad];generalize Bq (tryT c.G c.bs c.N h) c.N f n u z st []=U at*;unfold AA AE at B bd;unfold AA;go_enter func95,ntmps95;go_wp2_with fail;generalize((w.alloc (.cells (X_0 st.pl st.en e c.bs.size c.bs.size a st.Af) 140)).alloc (.cells X_2 140)).alloc (.cells (X_0 st.pl st.en e c.bs.size c.bs.size a st.Af) 140)=K at*;have bb:=B.o.DY.pre E.o ai.o B.o.inv;have ay:=bb.Fw E.o;obtain⟨d7,d8,d9,ea,cz,eb,ec,ed,ee⟩:=ay.nine bg.o;have dd:=ay.top;have d6:=B.o.DY.pg.c0;have b4:=B.o.DY.box.c3;have de:K.cell? (A0 a (d*2))=some (I0 n):=by
  have:=bb.dp.cell (2*d);rw[(Gv st.Ai d ba).1,bh.o]at this;rw[dB d 2];exact this
 rw[ak]at cz;go_quiet (fail);go_wp2_with fail;have bp:Hid (XAt c (tryT c.G c.bs c.N h) f w st e a U n [] st e a u z (K.drewN nq)):=by
  have A:=B.o;exact(⟨A.DY.drewN nq,A.ub,A.sj.drewN nq,A.inv,A.rem,A.len⟩:XAt c (tryT c.G c.bs c.N h) f w st e a U n [] st e a u z (K.drewN nq))
 have dz:(K.drewN nq).heap.size=w.heap.size+3:=bd;generalize K.drewN nq=c8 at*;go_loopw [9,12] (fun c1 ah wr=>∃ (i:Nat) (t:aD UInt8) (k:PS) (J F j o:Nat),c1=.string ⟨t.toArray⟩/\ah=I0 i/\i<=n/\j<=u/\w.heap.size+1+1<wr.heap.size/\Hid (XAt c (tryT c.G c.bs c.N h) f w st e a U (n-i) t k J F j o wr)) (fun _ ah _=>n-(intOf ah).toNat)
 case atStart=>exact⟨0,[],st,e,a,u,z,rfl,rfl,bR _,aB _,by omega,bp⟩
 case round=>
  obtain⟨i,t,k,J,F,j,o,rfl,rfl,dl,di,d3,v⟩:=hrel;have cu:=v.out.inv.Af;have d4:(⟨t.toArray⟩:aA).size<=80110000:=by rw[Cv];have:=v.out.len;omega
  obtain⟨eh,ei,ej,ek,el,_⟩:=v.out.ub.Bi;by_cases dv:i<n
  . have cm:(i:Int)<(n:Int):=by omega
    have a8:=v.out.DY.pre E.o ai.o bk.o;have cr:Cp c wr k J F j o:=⟨a8.pg,a8.A9,v.out.sj.rd,v.out.sj.dp,v.out.inv⟩;have X:=bi.o wr k J F j o f (b+1) au false false false cr be.o bx.o S.o kX kX;have bq:Hid ((tryT c.G c.bs c.N h j o false f k).ok=true->(Dt c.bs c.N k (hidV f) (tryT c.G c.bs c.N h j o false f k)/\(tryT c.G c.bs c.N h j o false f k).e=0)/\Lng k (silK false f) (tryT c.G c.bs c.N h j o false f k)):=fun r=>⟨(BQ c.G E.o.JI h).fit j o false false false f _ S.o v.out.inv r,Hj ae c.G E.o.JI h j o false false false f k S.o v.out.inv r⟩
    have du:(tryT c.G c.bs c.N h j o false f k).fuel<=j:=(BQ (R:=c.R) c.G E.o.JI h).less j o false f k;have M:=v.out.rem;rw[show n-i=(n-(i+1))+1 by omega,Bq]at M;have y:=Aa M;generalize dx:tryT c.G c.bs c.N h j o false f k=g at*;have Y:=Aa X;have By:=v;unfold AA at Y;simp only[cZ]at Y;go_wp2_with fail;refine Y.o.mono ?_;rintro V w2⟨ac,ef,O,L,dh,df,eg,rfl,a7,ci,co⟩;obtain⟨b9,ca,av,aw⟩:=By.o.DY.next ac a7;have ax:=ac.Ap By.o.ub By.o.ub.lt kX;have d0:=ac.size;have dp:w.heap.size<w2.heap.size:=kX;have cl:w.heap.size+1<w2.heap.size:=kX;have dq:w.heap.size+1+1<w2.heap.size:=kX;have dr:¬ w2.heap.size=w.heap.size:=kX;have ds:¬ w2.heap.size=w.heap.size+1:=kX;have dt:¬ w2.heap.size=w.heap.size+1+1:=kX;obtain⟨c9,da,db,b4,dc,_⟩:=av.Bi;obtain⟨c2,c3,c4,c5,c6,eu⟩:=aw.Bi;obtain⟨em,en,eo,ep,eq,er⟩:=ax.Bi;have aj:=Aa b9;have Z:=Aa a7;have bu:=Aa ca;have b1:=Aa av;have b3:=Aa aw;have ab:=Aa ax;have an:=Aa ci;have br:=Aa co;unfold EI AA
    cases r:g.ok
    . rw[aC Bc]at y;go_wp2;refine aT (v:=.tuple (X_5 (AA st e c.bs.size a) (⟨#[]⟩))) (by simp[results,results95,go_sem,AA,c2,c3,c4,c5,c6,cl]) rfl ?_;rw[y.o];exact AO.none ((aj.o.BB (b:=w.heap.size+1) kX _ _ _ _ _).alloc lR _) rfl r (Ac.alloc (Ac.Ar Z.o (b:=w.heap.size+1) kX _ _ _ _ _) _) an.o
    . rw[aF r]at y;obtain⟨⟨a0,a6⟩,a5⟩:=bq.o r;obtain⟨b5,b6,ct⟩:=br.o r;obtain⟨b7,b8⟩:=an.o a6;subst b5;subst b6;subst b7;subst b8;rw[a6]at Z;have bo:=Aa a0;have bv:=Aa ct;have dw:=a5.Af;have a1:=a5.len;rw[Er S.o rfl]at a1;simp only[bT,cT]at a1;have dy:=a0.inv.Af;have d5:=By.o.len;have dm:=GU t g.t;have bl:=Aa (fun W=>Hk t g.t W kX kX);go_wp2_with
       (go_at_call 170
        refine(bl.o _).mono ?_;rintro V et⟨rfl,rfl⟩)
      have az:XAt c (tryT c.G c.bs c.N h) f w st e a U (n-(i+1)) (Dk t g.t) g.st O L g.fuel g.far ((E8 w2 (w.heap.size+1+1) (I0 g.st.pl) (I0 g.st.en) (S0 O c.bs.size c.bs.size) (S0 L 8 8) (I0 g.st.Af)).alloc (.cells (X_0 g.st.pl g.st.en O c.bs.size c.bs.size L g.st.Af) 140)):=by
       have cd:EW c w st e a g.fuel g.far (E8 w2 (w.heap.size+1+1) (I0 g.st.pl) (I0 g.st.en) (S0 O c.bs.size c.bs.size) (S0 L 8 8) (I0 g.st.Af)):=
        ⟨aj.o.BB kX _ _ _ _ _,Ac.Ar Z.o kX _ _ _ _ _,bu.o.BB ab.o _ _ _ _ _,Ac.Ar b1.o kX _ _ _ _ _,Ac.Ar b3.o kX _ _ _ _ _,cq⟩
       exact⟨cd.below ((aO _ _).alloc (aB _) _),Ac.alloc (Ac.BB ab.o _ _ _ _ _) _,(bv.o.BB ab.o _ _ _ _ _).below ((aO _ _).alloc (aB _) _),bo.o.inv,y.o,by omega⟩
      have cs:=az.ub.lt;have b2:=Aa az;go_roundw
      case rel=>exact⟨i+1,Dk t g.t,g.st,O,L,g.fuel,g.far,rfl,by go_num,by omega,by omega,cs,b2⟩
      case measure=>simp[intOf];omega
  have cm:¬ (i:Int)<(n:Int):=kX;have ck:i=n:=kX;subst ck;have M:=v.out.rem;rw[iO,Bq]at M;have y:=Aa M;have By:=v;have bf:=Aa (Adh t);generalize(⟨t.toArray⟩:aA)=c7 at*;go_wp2_with fail;rw[bf.o];have X:=Dd wr c.pb c.gb c.bs j c.N o 0 k J c.bs.size F (91::t++[93]) By.o.DY.pg b0 cu;unfold AA at X;refine X.mono ?_;rintro V es⟨cg,cp,ch⟩;obtain⟨c0,t2,cy,cj,a9,a4⟩:=By.o.DY.made By.o.sj cg cp ch;refine kk ?_;intro bz am aq a3 bc bj a2;refine aT (v:=.tuple (X_6 (AA c0 J c.bs.size F) (⟨t2.toArray⟩) cy)) (by simp[results,results95,go_sem,AA,am,aq,a3,bc,bj]) rfl ?_;exact bz.o
theorem nk(h:p:=by
 have ak:=Aa (Ac.new w2 AE 140);unfold AE at cl A J ak;unfold EI AA;simp only;refine⟨a0.o,?_⟩;simp only[wpSeg,aP,aS,aQ,aJ,aK];refine Ab _ rfl (fun W a=>rfl) ?_;refine Ab (.agg (X_0 v.pl v.en u c.bs.size c.bs.size z v.Af)) rfl (fun W a=>by go_simp) ?_;refine Ab (.string ⟨be.toArray⟩) rfl (fun W a=>by go_simp) ?_;refine Ab (.bool h.ok) rfl (fun W a=>by go_simp) ?_;refine Ag ⟨_,rfl,rfl,?_⟩;unfold Oper.wp;go_simp;refine⟨cl.o,?_⟩;have a5:=ak.o.cell 0;have a6:=ak.o.cell 1;have bf:=ak.o.cell 2;have a7:=ak.o.cell 3;have a8:=ak.o.cell 4;have bq:∀ f,(w2.alloc (.cells X_2 140)).frozen? (A0 w2.heap.size f)=false:=fun f=>ak.o.frozen f
 generalize w2.alloc (.cells X_2 140)=co at*;simp only[aQ,aJ,aK]at a5 a6 bf a7 a8;refine Ag ⟨_,rfl,rfl,?_⟩;unfold Oper.wp;go_simp;refine⟨J.o,?_⟩;refine Ag ⟨_,rfl,rfl,?_⟩;unfold Oper.wp;go_simp;refine⟨J.o,?_⟩;refine Ag ⟨_,rfl,rfl,?_⟩;unfold Oper.wp;go_simp;refine⟨J.o,?_⟩;go_wp2_with fail;go_meet
 case rel=>exact⟨w2.heap.size,v,u,z,L,K,be,rfl,rfl,rfl,A⟩):p:=h
theorem nl(h:p:=by
 obtain⟨a5,a6,bf,a7,a8,bq⟩:=e.Bi;unfold EI AA;simp only;refine⟨a0.o,?_⟩;refine Ab _ rfl (fun W a=>rfl) ?_;refine Ab (.agg (X_0 v.pl v.en u c.bs.size c.bs.size z v.Af)) rfl (fun W a=>by go_simp) ?_;refine Ab (.string ⟨be.toArray⟩) rfl (fun W a=>by go_simp) ?_;refine Ab (.bool h.ok) rfl (fun W a=>by go_simp) ?_;refine Ag ⟨_,rfl,rfl,?_⟩;unfold Oper.wp;go_simp;refine⟨J.o,?_⟩;refine Ag ⟨_,rfl,rfl,?_⟩;unfold Oper.wp;go_simp;refine⟨J.o,?_⟩;refine Ag ⟨_,rfl,rfl,?_⟩;unfold Oper.wp;go_simp;refine⟨J.o,?_⟩;go_wp2_with fail;go_meet
 case rel=>exact⟨w1.heap.size,v,u,z,L,K,be,rfl,rfl,rfl,A⟩):p:=h
theorem jf(h:p:=by
 obtain⟨aw,al,b4⟩:=cf r;exact⟨aw,al,(b4.below ((aO _ _).alloc (aB _) _)).BB x _ _ _ _ _⟩):p:=h
abbrev mO(h:PLift q->p:=by
 intro aa;refine Ag ⟨_,rfl,rfl,?_⟩;unfold Oper.wp;go_simp;refine⟨J.o,?_⟩;refine Ag ⟨_,rfl,rfl,?_⟩;unfold Oper.wp;go_simp;refine⟨J.o,?_⟩;refine Ag ⟨_,rfl,rfl,?_⟩;unfold Oper.wp;go_simp;refine⟨J.o,?_⟩;exact aa.1):p:=h ⟨z⟩
abbrev mP(h:PLift q->p:=by
 intro aa;refine Ab (.agg (X_0 st.pl st.en g c.bs.size c.bs.size j st.Af)) rfl (fun W a=>by obtain⟨h0,⟨ab,ac,ai,b5,ah⟩⟩:=a;go_simp) ?_;exact aa.1):p:=h ⟨z⟩
structure KRd (W:aE) (kg j k:Nat) (bx:Nat) (v0 v1 v2 v3 v4:aI):Prop where
 Oh:W.cell? (A0 kg j)=some (I0 k)
 box:U5 W bx v0 v1 v2 v3 v4
structure CAt (c:Rx) (w:aE) (st:PS) (rb db kg j k:Nat) (o:PO) (ub:Nat) (st':PS) (rb' db' fu' fa':Nat) (t':aD UInt8) (wc:aE):Prop where
 fr:Fr w.heap.size c.pb w wc
 pg:FW wc c.pb c.gb c.bs fu' c.N fa' o.e
 sa:Ez c wc st rb db
 box:Ac wc w.heap.size (AA st rb c.bs.size db) 140
 res:Ac wc (w.heap.size+1) AE 140
 uk:Ac wc ub (AA st' rb' c.bs.size db') 140
 ul:w.heap.size+1<ub
 Oh:wc.cell? (A0 kg j)=some (I0 k)
 kl:kg<wc.heap.size
 kub:kg≠ub
 fe:o.e=0->fu'=o.fuel/\fa'=o.far
 ok:o.ok=true->st'=o.st/\t'=o.t/\Ez c wc o.st rb' db'
theorem Fr.H4{b e w w'}(g:Fr b e w w'){a}(h:a<b)(j:a≠e)(f):w'.cell? (A0 a f)=w.cell? (A0 a f):=
 aL (g.block a h j)
theorem Adb(a t):({data:=#[47,a,32]}:aA)++⟨t.toArray⟩=⟨(47::a::32::t).toArray⟩:=by
 rw[show({data:=#[47,a,32]}:aA)=⟨[47,a,32].toArray⟩from rfl,DQ];simp
theorem OJ(c)(p:DK c)(F)(ez:OB c F)(w)(st)(g j M S)(bd:Cp c w st g j M S)(b)(e7)(e1 O U)(ao Y b3)(af:At c.As b (e7::e1))(ei:CM c.As b=[ao,Y])(ed:At c.As ao O)(ee:At c.As Y U)(es:Fa b3 O)(et:Fa b3 U)(ex:BK c.R false false O)(ey:BK c.R false false U)(eg:M<=100000)(eh:M<F):
 Calls prog 93 #[P0 c.pb,I0 b,.agg (AA st g c.bs.size j)] w fun ax w'=>AO c w (Cn (tryT c.G c.bs c.N F) c.N O U M S st) ax w':=by
 refine lW ?_;intro ap ar ae b0;have cz:=bd.pg.lt;have c6:=Aa ez;have a1:=Aa p;have b9:=Aa bd.A9;have ba:=Aa bd.inv;have ds:=Aa ed;have dt:=Aa ee;have d4:=Aa es;have d5:=Aa et;have ce:=Aa ex;have cg:=Aa ey;have dd:=EW.new bd;have ep:=dd.pre p bd.A9 bd.inv;have c7:=Aa (Jv _ c.gb c.g c.cap _ c.tw c.As (ep.Fw p) p.wf kX b ap);have c2:=Aa dd;refine kF ?_;intro au;have fy:=bd.pg.c0;have cd:Hid (Cn (tryT c.G c.bs c.N F) c.N O U M S st=EC (tryT c.G c.bs c.N F) c.N U st (tryT c.G c.bs c.N F M S false O st)):=rfl;have dy:Hid ((tryT c.G c.bs c.N F M S false O st).ok=true->(Dt c.bs c.N st (hidV O) (tryT c.G c.bs c.N F M S false O st)/\(tryT c.G c.bs c.N F M S false O st).e=0)/\Lng st (silK false O) (tryT c.G c.bs c.N F M S false O st)):=fun r=>⟨(BQ c.G a1.o.JI F).fit M S false false false O _ ce.o ba.o r,Hj ae c.G a1.o.JI F M S false false false O st ce.o ba.o r⟩
 have ft:(tryT c.G c.bs c.N F M S false O st).fuel<=M:=(BQ (R:=c.R) c.G a1.o.JI F).less M S false O st;have c4:Hid (∀ W,Cp c W st g j M S->Calls prog 56 #[P0 c.pb,I0 ao,.agg (AA st g c.bs.size j),.bool false] W fun ax w'=>AO c W (tryT c.G c.bs c.N F M S false O st) ax w'):=fun W k=>c6.o W st g j M S O ao b3 false false false k ds.o d4.o ce.o eg eh
 generalize Cn (tryT c.G c.bs c.N F) c.N O U M S st=bg at*;generalize tryT c.G c.bs c.N F M S false O st=h at*;have dv:=Aa ei;unfold AA AE at c2 au c7;unfold AA;go_enter func93,ntmps93;go_wp2_with fail;generalize(w.alloc (.cells (X_0 st.pl st.en g c.bs.size c.bs.size j st.Af) 140)).alloc (.cells X_2 140)=fd at*;refine c7.o.mono ?_;rintro ax w1⟨e2,rfl,dh,df⟩;rw[dv.o]at dh;obtain⟨o,fx,rfl,dk,fr,fs,dj⟩:∃ o cm,e2=S0 o 2 cm/\o<w1.heap.size/\2<=cm/\cm<=maxLen/\∀ f,f<2->w1.cell? (A0 o f)=some (I0 (([ao,Y].getD f 0:Nat):Int)):=by
  rcases dh with⟨_,k⟩|k
  cases k
  exact k
 have cq:w1.cell? (A0 o 0)=some (I0 ao):=dj 0 kX;have ec:q_ w1 o 1 (I0 Y):=dj 1 kX;have b1:=Aa (c2.o.below df);have bp:o≠c.pb:=by
  rintro rfl;rw[show w1.cell? (A0 c.pb 0)=some (P0 c.gb)from b1.o.pg.cell 0]at cq
  cases cq
 have fu:=df.size;have cb:=Aa cq;have c8:=Aa ec;go_wp2_with fail;go_cut [10,11,12] (fun e3 e4 e5 wc=>∃ (X:Nat) (v:PS) (u z L K:Nat) (be:aD UInt8),e3=P0 X/\e4=.string ⟨be.toArray⟩/\e5=.bool h.ok/\Hid (CAt c w st g j o 1 Y h X v u z L K be wc))
 case first=>
  have da:Hid (∀ W,EW c w st g j M S W->W.cell? (A0 o 0)=some (I0 ao)->KRd W o 0 ao w.heap.size (I0 st.pl) (I0 st.en) (S0 g c.bs.size c.bs.size) (S0 j 8 8) (I0 st.Af)):=fun W k ac=>⟨ac,k.box.cell 0,k.box.cell 1,k.box.cell 2,k.box.cell 3,k.box.cell 4⟩
  have az:Hid (∀ W,W.cell? (A0 o 0)=some (I0 ao)->Ac W w.heap.size (AA st g c.bs.size j) 140->KRd W o 0 ao w.heap.size (I0 st.pl) (I0 st.en) (S0 g c.bs.size c.bs.size) (S0 j 8 8) (I0 st.Af)):=fun W ac k=>⟨ac,k.cell 0,k.cell 1,k.cell 2,k.cell 3,k.cell 4⟩
  refine E1 (fun W=>KRd W o 0 ao w.heap.size (I0 st.pl) (I0 st.en) (S0 g c.bs.size c.bs.size) (S0 j 8 8) (I0 st.Af)) [0,1,2,3,4] 5 10 [([6,7,8,9],10),([],11),([],12),([],13)] [([],5),([6,7,8,9],11),([],12),([],13)] rfl kZ (fun _ _ d _ _ k=>by cases d<;>exact k) (da.o _ (b1.o.drewN 1) cb.o) ?_;refine jL ?_;refine k5 ?_;refine Ab _ rfl (fun W a=>by go_simp;rfl) ?_;refine Ab (I0 ao) rfl (fun W a=>by obtain⟨h0,ab⟩:=a;go_simp) ?_;refine mP ?_;refine Ag ⟨⟨_,rfl,rfl,?_⟩,⟨_,rfl,rfl,?_⟩⟩
  . unfold Oper.wp;go_simp;have bb:=b1.o.drewN 1;have ad:=c4.o (w1.drewN 1) (bb.pre a1.o b9.o ba.o);unfold AA at ad;refine ad.mono ?_;rintro ax w2⟨b7,v,u,z,L,K,be,rfl,dp,cv,cf⟩;obtain⟨bl,bm,av,bo⟩:=bb.next b7 dp;have bh:=(b7.H4 dk bp 0).trans cb.o;have bi:=(b7.H4 dk bp 1).trans c8.o;have dq:w1.heap.size<=w2.heap.size:=b7.size;have A:Hid (CAt c w st g j o 1 Y h w2.heap.size v u z L K be (E8 (w2.alloc (.cells AE 140)) w2.heap.size (I0 v.pl) (I0 v.en) (S0 u c.bs.size c.bs.size) (S0 z 8 8) (I0 v.Af))):=by
     have x:=Ac.new w2 AE 140;have k:CAt c w st g j o 1 Y h w2.heap.size v u z L K be (E8 (w2.alloc (.cells AE 140)) w2.heap.size (I0 v.pl) (I0 v.en) (S0 u c.bs.size c.bs.size) (S0 z 8 8) (I0 v.Af)):=by
      refine⟨(bl.alloc kX _).BB kX _ _ _ _ _,Ac.Ar (Ac.alloc dp _) kX _ _ _ _ _,(bm.below ((aO _ _).alloc (aB _) _)).BB x _ _ _ _ _,Ac.Ar (Ac.alloc av _) kX _ _ _ _ _,Ac.Ar (Ac.alloc bo _) kX _ _ _ _ _,Ac.BB x _ _ _ _ _,by omega,?_,?_,by omega,cv,fun r=>?_⟩;have V:o≠w2.heap.size:=kX;rw[show(E8 (w2.alloc (.cells AE 140)) w2.heap.size (I0 v.pl) (I0 v.en) (S0 u c.bs.size c.bs.size) (S0 z 8 8) (I0 v.Af)).cell? (A0 o 1)=w2.cell? (A0 o 1)from aL (by
       simp only[E8];rw[aN _ _ _ _ V,aN _ _ _ _ V,aN _ _ _ _ V,aN _ _ _ _ V,aN _ _ _ _ V,bC _ _ _ kX])]
      exact bi;rw[D5];simp;omega;exact jf
     exact k
    have a0:=Aa (az.o w2 bh av);have cl:=Aa (az.o (w2.alloc (.cells AE 140)) (by
     rw[show(w2.alloc (.cells AE 140)).cell? (A0 o 0)=w2.cell? (A0 o 0)from aL (bC w2 _ o kX)];exact bh) (Ac.alloc av _))
    have J:=Aa (az.o (E8 (w2.alloc (.cells AE 140)) w2.heap.size (I0 v.pl) (I0 v.en) (S0 u c.bs.size c.bs.size) (S0 z 8 8) (I0 v.Af)) (by
     have V:o≠w2.heap.size:=kX;rw[show(E8 (w2.alloc (.cells AE 140)) w2.heap.size (I0 v.pl) (I0 v.en) (S0 u c.bs.size c.bs.size) (S0 z 8 8) (I0 v.Af)).cell? (A0 o 0)=w2.cell? (A0 o 0)from aL (by
      simp only[E8];rw[aN _ _ _ _ V,aN _ _ _ _ V,aN _ _ _ _ V,aN _ _ _ _ V,aN _ _ _ _ V,bC _ _ _ kX])]
     exact bh) (Ac.Ar (Ac.alloc av _) kX _ _ _ _ _))
    exact nk
  unfold Oper.wp;go_simp;have bb:EW c w st g j M S (w1.alloc (.cells AE 140)).drew:=(b1.o.below ((aO _ _).alloc (aB _) (.cells AE 140))).drewN 1;have dr:Ac (w1.alloc (.cells AE 140)).drew w1.heap.size AE 140:=Ac.new w1 AE 140;have cw:(w1.alloc (.cells AE 140)).drew.cell? (A0 o 0)=some (I0 ao):=by
   rw[show(w1.alloc (.cells AE 140)).drew.cell? (A0 o 0)=w1.cell? (A0 o 0)from aL (w':=(w1.alloc (.cells AE 140)).drew) (bC w1 (.cells AE 140) o kX)];exact cb.o
  have di:(w1.alloc (.cells AE 140)).drew.cell? (A0 o 1)=some (I0 Y):=by
   rw[show(w1.alloc (.cells AE 140)).drew.cell? (A0 o 1)=w1.cell? (A0 o 1)from aL (w':=(w1.alloc (.cells AE 140)).drew) (bC w1 (.cells AE 140) o kX)];exact c8.o
  have dq:(w1.alloc (.cells AE 140)).drew.heap.size=w1.heap.size+1:=kY;unfold AE at bb dr cw di dq;generalize(w1.alloc (.cells X_2 140)).drew=d7 at*;refine⟨da.o _ bb cw,?_⟩;refine kJ ?_;refine Ag ⟨_,rfl,rfl,?_⟩;unfold Oper.wp;go_simp;have ad:=c4.o d7 (bb.pre a1.o b9.o ba.o);unfold AA at ad;refine ad.mono ?_;rintro ax an⟨ay,v,u,z,L,K,be,rfl,bx,cv,bu⟩;obtain⟨bl,bm,av,bo⟩:=bb.next ay bx;have bh:=(ay.H4 kX bp 0).trans cw;have bi:=(ay.H4 kX bp 1).trans di;have e:=ay.Ap dr kX kX;have eq:=ay.size;have V:o≠w1.heap.size:=kX;have b6:∀ f,(E8 an w1.heap.size (I0 v.pl) (I0 v.en) (S0 u c.bs.size c.bs.size) (S0 z 8 8) (I0 v.Af)).cell? (A0 o f)=an.cell? (A0 o f):=fun f=>aL (by
   simp only[E8];rw[aN _ _ _ _ V,aN _ _ _ _ V,aN _ _ _ _ V,aN _ _ _ _ V,aN _ _ _ _ V])
  have A:Hid (CAt c w st g j o 1 Y h w1.heap.size v u z L K be (E8 an w1.heap.size (I0 v.pl) (I0 v.en) (S0 u c.bs.size c.bs.size) (S0 z 8 8) (I0 v.Af))):=by
   have k:CAt c w st g j o 1 Y h w1.heap.size v u z L K be (E8 an w1.heap.size (I0 v.pl) (I0 v.en) (S0 u c.bs.size c.bs.size) (S0 z 8 8) (I0 v.Af)):=by
    refine⟨bl.BB kX _ _ _ _ _,Ac.Ar bx kX _ _ _ _ _,bm.BB e _ _ _ _ _,Ac.Ar av kX _ _ _ _ _,Ac.Ar bo kX _ _ _ _ _,Ac.BB e _ _ _ _ _,by omega,(b6 1).trans bi,by rw[D5];omega,V,cv,fun r=>?_⟩;obtain⟨aw,al,b4⟩:=bu r;exact⟨aw,al,b4.BB e _ _ _ _ _⟩
   exact k
  have a0:=Aa (az.o an bh av);have J:=Aa (az.o (E8 an w1.heap.size (I0 v.pl) (I0 v.en) (S0 u c.bs.size c.bs.size) (S0 z 8 8) (I0 v.Af)) ((b6 0).trans bh) (Ac.Ar av kX _ _ _ _ _));exact nl
 case rest=>
  obtain⟨X,v,u,z,L,K,be,rfl,rfl,rfl,bk⟩:=hcut;have I:=bk;have fw:=bk.out.ul;have e0:=bk.out.pg.c5;obtain⟨fj,fk,fl,fm,fn,_⟩:=bk.out.box.Bi;obtain⟨f4,f5,f6,f7,f8,_⟩:=bk.out.uk.Bi;obtain⟨a5,a6,bf,a7,a8,bq⟩:=bk.out.res.Bi;have fv:¬ X=w.heap.size+1:=kX
  cases r:h.ok
  . by_cases cr:h.e≠0
    . have fq:¬ (h.e:Int)=0:=by omega
      have y:=Aa (show bg=h by rw[cd.o];unfold EC C6;rw[aF (Or.inr cr),aC Bc]);go_wp2;refine aT (v:=.tuple (X_5 (AA st g c.bs.size j) (⟨#[]⟩))) (by simp[results,results93,go_sem,AA,a5,a6,bf,a7,a8]) rfl ?_;rw[y.o];exact AO.dead (I.o.fr.BB (b:=w.heap.size+1) kX _ _ _ _ _) rfl r cr (Ac.Ar I.o.pg (b:=w.heap.size+1) kX _ _ _ _ _)
    . have cs:h.e=0:=by omega
      rw[cs]at e0;obtain⟨cn,cp⟩:=I.o.fe cs;have b2:Hid (EW c w st g j h.fuel h.far wc):=by
       have k:EW c w st g j h.fuel h.far wc:=⟨I.o.fr,by have:=I.o.pg;rw[cs,cn,cp]at this;exact this,I.o.sa,I.o.box,I.o.res,cz⟩;exact k
      have y:=Aa (show bg=C6 c.N 49 (tryT c.G c.bs c.N F h.fuel h.far false U st)by rw[cd.o];unfold EC;rw[aC (fun k=>by rcases k with k|k;(rw[r]at k;cases k);exact cr k)]);have dz:Hid ((tryT c.G c.bs c.N F h.fuel h.far false U st).ok=true->(Dt c.bs c.N st (hidV U) (tryT c.G c.bs c.N F h.fuel h.far false U st)/\(tryT c.G c.bs c.N F h.fuel h.far false U st).e=0)/\Lng st (silK false U) (tryT c.G c.bs c.N F h.fuel h.far false U st)):=fun r=>⟨(BQ c.G a1.o.JI F).fit h.fuel h.far false false false U _ cg.o ba.o r,Hj ae c.G a1.o.JI F h.fuel h.far false false false U st cg.o ba.o r⟩
      have du:Hid (∀ W,Cp c W st g j h.fuel h.far->Calls prog 56 #[P0 c.pb,I0 Y,.agg (AA st g c.bs.size j),.bool false] W fun ax w'=>AO c W (tryT c.G c.bs c.N F h.fuel h.far false U st) ax w'):=fun W k=>c6.o W st g j h.fuel h.far U Y b3 false false false k dt.o d5.o cg.o kX kX
      generalize tryT c.G c.bs c.N F h.fuel h.far false U st=E at*;have az:Hid (∀ W,W.cell? (A0 o 1)=some (I0 Y)->Ac W w.heap.size (AA st g c.bs.size j) 140->KRd W o 1 Y w.heap.size (I0 st.pl) (I0 st.en) (S0 g c.bs.size c.bs.size) (S0 j 8 8) (I0 st.Af)):=fun W ac k=>⟨ac,k.cell 0,k.cell 1,k.cell 2,k.cell 3,k.cell 4⟩
      go_wp2_with fail;refine Cl (fun W=>KRd W o 1 Y w.heap.size (I0 st.pl) (I0 st.en) (S0 g c.bs.size c.bs.size) (S0 j 8 8) (I0 st.Af)) [([0,1,2,3,4],5),([6,7,8,9],10),([],11),([],12)] rfl kZ (fun _ _ d _ _ k=>by cases d<;>exact k) (az.o _ I.o.Oh I.o.box) ?_;refine kJ ?_;refine k5 ?_;refine Ab _ rfl (fun W a=>by go_simp;rfl) ?_;refine Ab (I0 Y) rfl (fun W a=>by obtain⟨h0,ab⟩:=a;go_simp) ?_;refine mP ?_;refine Ag ⟨_,rfl,rfl,?_⟩;unfold Oper.wp;go_simp;have de:=b2.o.drewN 1;have ad:=du.o (wc.drewN 1) (de.pre a1.o b9.o ba.o);unfold AA at ad;refine ad.mono ?_;rintro ax an⟨ay,B,aj,Z,fp,fo,t3,rfl,bx,ef,bu⟩;obtain⟨bl,bm,av,bo⟩:=de.next ay bx;have ej:=I.o.kl;have bi:=(ay.H4 ej bp 1).trans I.o.Oh;have ew:=I.o.uk.lt;have e:=ay.Ap (show Ac (wc.drewN 1) X _ _ from I.o.uk) ew kX;have eq:wc.heap.size<=an.heap.size:=ay.size;have br:=I.o.kub;have b6:(E8 an X (I0 B.pl) (I0 B.en) (S0 aj c.bs.size c.bs.size) (S0 Z 8 8) (I0 B.Af)).cell? (A0 o 1)=an.cell? (A0 o 1):=aL (by
       simp only[E8];rw[aN _ _ _ _ br,aN _ _ _ _ br,aN _ _ _ _ br,aN _ _ _ _ br,aN _ _ _ _ br])
      have a0:=Aa (az.o an bi av);have J:=Aa (az.o (E8 an X (I0 B.pl) (I0 B.en) (S0 aj c.bs.size c.bs.size) (S0 Z 8 8) (I0 B.Af)) (b6.trans bi) (Ac.Ar av kX _ _ _ _ _));have ca:=Aa (bl.BB (b:=X) kX (I0 B.pl) (I0 B.en) (S0 aj c.bs.size c.bs.size) (S0 Z 8 8) (I0 B.Af));have cc:=Aa (Ac.Ar bx (b:=X) kX (I0 B.pl) (I0 B.en) (S0 aj c.bs.size c.bs.size) (S0 Z 8 8) (I0 B.Af));have db:=Aa (bm.BB e (I0 B.pl) (I0 B.en) (S0 aj c.bs.size c.bs.size) (S0 Z 8 8) (I0 B.Af));have ch:=Aa (Ac.Ar av (b:=X) kX (I0 B.pl) (I0 B.en) (S0 aj c.bs.size c.bs.size) (S0 Z 8 8) (I0 B.Af));have ci:=Aa (Ac.Ar bo (b:=X) kX (I0 B.pl) (I0 B.en) (S0 aj c.bs.size c.bs.size) (S0 Z 8 8) (I0 B.Af));have dc:=Aa (Ac.BB e (I0 B.pl) (I0 B.en) (S0 aj c.bs.size c.bs.size) (S0 Z 8 8) (I0 B.Af));have c5:=Aa ef;have c9:Hid (E.ok=true->B=E.st/\t3=E.t/\Ez c (E8 an X (I0 B.pl) (I0 B.en) (S0 aj c.bs.size c.bs.size) (S0 Z 8 8) (I0 B.Af)) E.st aj Z):=fun k=>⟨(bu k).1,(bu k).2.1,(bu k).2.2.BB e _ _ _ _ _⟩
      obtain⟨f9,ga,gb,gc,gd,ge⟩:=e.Bi;unfold EI AA;simp only;refine⟨a0.o,?_⟩;refine Ab _ rfl (fun W a=>rfl) ?_;refine Ab (.agg (X_0 B.pl B.en aj c.bs.size c.bs.size Z B.Af)) rfl (fun W a=>by go_simp) ?_;refine Ab (.string ⟨t3.toArray⟩) rfl (fun W a=>by go_simp) ?_;refine Ab (.bool E.ok) rfl (fun W a=>by go_simp) ?_;refine mO ?_;unfold E8 at ca cc db ch ci dc c9;generalize((((an.setCell (A0 X 0) (I0 B.pl)).setCell (A0 X 1) (I0 B.en)).setCell (A0 X 2) (S0 aj c.bs.size c.bs.size)).setCell (A0 X 3) (S0 Z 8 8)).setCell (A0 X 4) (I0 B.Af)=ck at*;obtain⟨fe,ff,fg,fh,fi,_⟩:=ch.o.Bi;obtain⟨fz,f0,f1,f2,f3,_⟩:=dc.o.Bi;obtain⟨e8,e9,fa,fb,fc,gf⟩:=ci.o.Bi
      cases bv:E.ok
      . have dx:=Aa (show bg=E by rw[y.o];unfold C6;rw[aC (by rw[bv];simp)]);go_wp2;refine aT (v:=.tuple (X_5 (AA st g c.bs.size j) (⟨#[]⟩))) (by simp[results,results93,go_sem,AA,e8,e9,fa,fb,fc]) rfl ?_;rw[dx.o];exact AO.none (ca.o.BB (b:=w.heap.size+1) kX _ _ _ _ _) rfl bv (Ac.Ar cc.o (b:=w.heap.size+1) kX _ _ _ _ _) c5.o
      . obtain⟨⟨el,dm⟩,eo⟩:=dz.o bv;obtain⟨d8,d9,er⟩:=c9.o bv;obtain⟨ea,eb⟩:=c5.o dm;subst d8;subst d9;have dw:Hid (bg=Bs c.N E.fuel E.far E.st (47::49::32::E.t)):=by
         have:bg=Bs c.N E.fuel E.far E.st (47::49::32::E.t):=by rw[y.o];unfold C6;rw[aF bv]
         exact this
        have d3:=Aa er;have cx:=el.inv.Af;have em:=eo.len;have eu:(⟨E.t.toArray⟩:aA).size<=80110000:=by rw[Cv];have:E.st.Af-st.Af<=10000:=kX;omega
        have b8:=Aa (Adb 49 E.t);have c3:Hid (EW c w st g j E.fuel E.far ck):=by
         have k:EW c w st g j E.fuel E.far ck:=⟨ca.o,by have:=cc.o;rw[dm,ea,eb]at this;exact this,db.o,ch.o,ci.o,cz⟩;exact k
        have y:=dw;generalize(⟨E.t.toArray⟩:aA)=d6 at*;go_wp2_with fail;rw[b8.o];have ad:=Dd ck c.pb c.gb c.bs E.fuel c.N E.far 0 E.st aj c.bs.size Z (47::49::32::E.t) (c3.o).pg b0 cx;unfold AA at ad;refine ad.mono ?_;rintro ax e6⟨ct,cy,cu⟩;obtain⟨c1,t2,c0,cj,a9,a4⟩:=(c3.o).made d3.o ct cy cu;refine kk ?_;intro bz am aq a3 bc bj a2;refine aT (v:=.tuple (X_6 (AA c1 aj c.bs.size Z) (⟨t2.toArray⟩) c0)) (by simp[results,results93,go_sem,AA,am,aq,a3,bc,bj]) rfl ?_;exact bz.o
  obtain⟨⟨ek,dl⟩,en⟩:=dy.o r;obtain⟨aw,al,b4⟩:=I.o.ok r;obtain⟨cn,cp⟩:=I.o.fe dl;subst aw;subst al;have y:=Aa (show bg=Bs c.N h.fuel h.far h.st (47::48::32::h.t)by rw[cd.o];unfold EC C6;rw[aF (Or.inl r),aF r]);have b2:Hid (EW c w st g j h.fuel h.far wc):=by
   have k:EW c w st g j h.fuel h.far wc:=⟨I.o.fr,by have:=I.o.pg;rw[dl,cn,cp]at this;exact this,I.o.sa,I.o.box,I.o.res,cz⟩;exact k
  have d0:=Aa b4;have cx:=ek.inv.Af;have em:=en.len;have eu:(⟨h.t.toArray⟩:aA).size<=80110000:=by rw[Cv];have:h.st.Af-st.Af<=10000:=kX;omega
  have b8:=Aa (Adb 48 h.t);generalize(⟨h.t.toArray⟩:aA)=d6 at*;go_wp2_with fail;rw[b8.o];have ad:=Dd wc c.pb c.gb c.bs h.fuel c.N h.far 0 h.st u c.bs.size z (47::48::32::h.t) (b2.o).pg b0 cx;unfold AA at ad;refine ad.mono ?_;rintro ax e6⟨ct,cy,cu⟩;obtain⟨c1,t2,c0,cj,a9,a4⟩:=(b2.o).made d0.o ct cy cu;refine kk ?_;intro bz am aq a3 bc bj a2;refine aT (v:=.tuple (X_6 (AA c1 u c.bs.size z) (⟨t2.toArray⟩) c0)) (by simp[results,results93,go_sem,AA,am,aq,a3,bc,bj]) rfl ?_;exact bz.o
theorem i3(h:p:=by
 unfold Oper.wp;go_simp;refine DV (P:=prog) kZ ac ?_;go_wp2;go_ret2;rw[ab.o];exact⟨j,_,rfl,ae.o,rfl,b.o⟩):p:=h
abbrev kd(h:PLift q->p:=by
 intro aa;obtain⟨ah,av,ax,aw,an,ay,az,a0,a1⟩:=f.nine af;have ad:=f.top;revert ah av ax aw an ay az a0 a1 ad;exact aa.1):p:=h ⟨z⟩
structure KO (c:Rx) (d:Dm) (w W:aE):Prop where
 kp:Kp (c.pb::d.rows) w W
 out:W.cell? (A0 c.pb 2)=some (.string ⟨d.o.toArray⟩)
theorem Abr(b)(l:Lt):∀ a∈UW b l,a.oneCell'=true:=by
 intro a hu;simp only[UW,aV,bB,jA,hY]at hu;rcases hu with((rfl|rfl)|hu)|rfl;rfl;rfl;exact Qg _ a hu;rfl
theorem QH(c)(bz:DK c)(m)(a3:E5 m)(dn)(w)(d)(t ah)(B:Ei c m dn w d t ah)(k)(g)(O)(af:At c.As k (g::O))(co:g.c=64\/g.c=119\/g.c=115)(bg)(e)(E A V n)(cj:HoI d w g bg e E A V)(bc:g.c=64->Wk c m.s ⟨⟨O,n,t,E,e⟩,k+1⟩)(q R:Pr)(bu:(g.c=64->R=⟨m.sk t,true,HB d.ab ⟨O,n,t,E,e⟩⟩)/\(g.c=119->R=⟨q.p,q.ok,Dx q.D e (q.D.o.length-d.o.length)⟩)/\(g.c=115->R=⟨q.p,q.ok,Ui q.D ⟨d.o.length,q.D.o.length,e⟩⟩))(a4:d.o.length<=q.D.o.length/\q.D.o.length<=1000000000/\q.D.ts.length<=1000000000/\q.D.cur.length<=1000000000)(b3:g.c≠64->∀ W,Below w.heap.size w W->Calls prog 69 #[P0 c.pb,I0 ((k:Int)+1),I0 (t:Nat),bg,.slice none 0 0] W fun F w'=>A6 c m.s W d q F w'):
 Calls prog 117 #[P0 c.pb,I0 (k:Nat),I0 (t:Nat),bg] w fun F w'=>A6 c m.s w d R F w':=by
 have f:=bz.Fw.below B.mem.A9;refine kd ?_;intro ah av ax aw an ay az a0 a1 ad;have cq:=B.mem.Ap.c0;have b8:∀ bi bj,((w.alloc bi).alloc bj).cell? (A0 c.pb 2)=some (.string ⟨d.o.toArray⟩):=fun bi bj=>(Ac.alloc (Ac.alloc B.mem.Ap bi) bj).cell 2
 have cx:k<c.As.length:=by have:=af.le;simp at this;omega
 have c0:=bz.len;have c1:=B.mem.lt;have cz:=f.lt;have ck:=a3.s8;have cl:=B.al.le;have ch:=B.len;have a9:=Aa (fun W=>Jd m.s a3.s8 t (m.sk t) B.al.le (a3.sk t B.al).1 W);have bd:=B.mem;obtain⟨s,bf⟩:∃ s,m.s=s:=⟨_,rfl⟩;rw[bf]at bd ck cl a9 bc⊢;have a8:=Aa (bf▸b3);obtain⟨rfl,ba,cp,cy,bb,bm,bo,bp⟩:=cj;rw[cp]at an;have cs:∀ z,(w.alloc z).cell? (A0 A (V*3))=some (I0 (e.pl:Nat)):=fun z=>(aL (bC w z A bb)).trans bm
 have ct:∀ z,(w.alloc z).cell? (A0 A (V*3+1))=some (I0 (e.w:Nat)):=fun z=>(aL (bC w z A bb)).trans bo
 have cu:∀ z,(w.alloc z).cell? (A0 A (V*3+2))=some (.bool e.low):=fun z=>(aL (bC w z A bb)).trans bp
 have a7:=Aa bd;have U:=Aa bu;have cg:=(bI.1 ba).1;have b1:d.DR.getD E 0=A:=by rw[aZ,ba];rfl
 have a6:=Aa (show g.c=64->E<d.DR.length/\Wk c s ⟨⟨O,n,t,E,e⟩,k+1⟩from fun F=>⟨cg,bc F⟩);have ce:=Aa b1;clear f B b3 bm bo bp bd bf a3 bu b1 ba af bc;go_enter func117,ntmps117;go_upto_region 3 with fail;obtain⟨wc,ai⟩:∃ W,(w.alloc (.cells (X_4 g.c g.w g.b g.r V g.pl (k+g.nx) g.rl) 132)).alloc (.cells #[I0 (e.pl:Nat),I0 (e.w:Nat),.bool e.low] 96)=W:=⟨_,rfl⟩;rw[ai];have br:=ai▸((aO _ _).alloc (aB _) _).alloc kY _;have au:=ai▸Ac.alloc (Ac.new w _ _) _;have ap:Ac wc (w.heap.size+1) #[I0 (e.pl:Nat),I0 (e.w:Nat),.bool e.low] 96:=by
  have h:=Ac.new (w.alloc (.cells (X_4 g.c g.w g.b g.r V g.pl (k+g.nx) g.rl) 132)) #[I0 (e.pl:Nat),I0 (e.w:Nat),.bool e.low] 96;rw[ai,show(w.alloc (.cells (X_4 g.c g.w g.b g.r V g.pl (k+g.nx) g.rl) 132)).heap.size=w.heap.size+1 by simp]at h;exact h
 have b9:=au.c0;have cr:=ai▸b8 _ _;have aj:=Aa (Ck.refl a7.o br);have cm:=a7.o.Uc (aB _);have bh:w.heap.size+1 ∉ c.pb::d.rows:=a7.o.Uc kX;clear cs ct cu ah av ax aw an ay az a0 a1 ad cq b8 ai;by_cases a5:g.c=64
 . have ab:=Aa (U.o.1 a5);have a6:=Aa (a6.o a5);rw[a5]at b9;have ar:Hid (∀ W,Kp (c.pb::d.rows) wc W->W.cell? (A0 (w.heap.size+1) 0)=some (I0 (e.pl:Nat))/\W.cell? (A0 (w.heap.size+1) 1)=some (I0 (e.w:Nat))/\W.cell? (A0 (w.heap.size+1) 2)=some (.bool e.low)):=fun W a=>by
    have o:=a.Ap ap bh;exact⟨o.cell 0,o.cell 1,o.cell 2⟩
   have X:Kp (c.pb::d.rows) wc wc.drew:=(Kp.refl _ _).drew 1;obtain⟨J,p⟩:∃ W,(wc.alloc (.cells #[I0 (k+1),I0 (t:Nat),I0 (e.pl:Nat),I0 (e.w:Nat),.bool e.low,S0 A 8 8] 171)).drew=W:=⟨_,rfl⟩;have r:=p▸((aO wc.heap.size wc).alloc (aB _) _).drew;have aq:Ac J wc.heap.size (UW d.DR ⟨⟨O,n,t,E,e⟩,k+1⟩).toArray (FH 0):=by
    have F:(UW d.DR ⟨⟨O,n,t,E,e⟩,k+1⟩).toArray=#[I0 (k+1),I0 (t:Nat),I0 (e.pl:Nat),I0 (e.w:Nat),.bool e.low,S0 A 8 8]:=by simp only[UW,ce.o];rfl
    rw[F];exact p▸Ac.new wc _ _
   have v:=Aa (aj.o.mem.more r);have ak:=Aa (aj.o.trans (Ck.refl aj.o.mem r));have a2:Kp (c.pb::d.rows) wc J:=Kp.Bu r;have cb:=v.o.Ap.c3;have cc:wc.drew.cell? (A0 c.pb 3)=some (d.rv 0):=aj.o.mem.Ap.cell 3;have al:=Aa p;clear r p ap au a8 a4 U co;go_wp2_with fail;refine Bo (fun W=>Kp (c.pb::d.rows) wc W) 16 kZ rfl ?_;refine A2 (fun _ _ d _ _ h=>by cases d<;>exact h) [0,1,2,3,5,6,7,8,9,10] 6 16 _ _ _ kZ ?_;refine jL ?_;iterate 5 refine Ab _ rfl (fun W a=>by go_simp<;>rfl) ?_
   refine Ab (I0 (k+1)) rfl (fun W a=>by go_simp;rw[dD];omega) ?_;iterate 4 refine Ab _ rfl (fun W a=>by obtain⟨o,K,L⟩:=ar.o W a;go_simp<;>rfl) ?_
   refine Ag ?_;refine En 4 11 kZ X ⟨_,rfl,rfl,?za⟩ ⟨_,rfl,rfl,?zb⟩;all_goals
    unfold Oper.wp;go_simp
   case' za=>
    refine AZ 11 kZ X ⟨_,rfl,rfl,?_⟩;unfold Oper.wp;go_simp
   all_goals rw[al.o]
   case' zb=>
    refine AZ 4 kZ a2 ⟨_,rfl,rfl,?_⟩;unfold Oper.wp;go_simp
   all_goals
    refine AZ 12 kZ a2 ?_;refine IE rfl rfl _ _ 0 kX rfl v.o rfl wc.heap.size (UW d.DR ⟨⟨O,n,t,E,e⟩,k+1⟩) rfl aq rfl (Abr _ _) ch.2.2.2 (JV d ⟨⟨O,n,t,E,e⟩,k+1⟩) (fun y am w2 o K L=>v.o.later _ a6.o y am o K L) ?_;intro y nq Y S u x M;have u:=a2.trans u (fun bl h=>Or.inl h);have b:=Aa (ak.o.trans M);have bq:=x.frozen 3;have cd:=x.cell 3;have c3:(S.setCell (A0 c.pb 3) (S0 y nq Y)).cell? (A0 c.pb 1)=some (.string s):=b.o.mem.Ap.cell 1;clear M x;refine A2 (fun _ _ d _ _ h=>by cases d<;>exact h) [13,14] 1 3 _ _ _ kZ ?_;refine jL ?_;refine k3 ?_;refine AZ 15 kZ u ⟨_,rfl,rfl,?_⟩;unfold Oper.wp;go_simp;refine DV (P:=prog) kZ (u.setCell _ _ _ (Or.inl aG)) ?_;generalize S.setCell (A0 c.pb 3) (S0 y nq Y)=cw at*;go_wp2_with (go_at_call 70;refine(a9.o _).mono ?_;rintro F cv⟨rfl,b5⟩;rw[b5];clear b5 cv);go_ret2;rw[ab.o];exact⟨m.sk t,_,rfl,fun _=>rfl,YO _ _ _,b.o⟩
 have ci:(g.c==64)=false:=lA;have bk:=Aa (a8.o a5 wc br);clear a8 a9;go_upto_region 8 with(go_at_call 69;refine bk.o.mono ?_;rintro F w2⟨j,d2,rfl,b2,ao,Z⟩);have bv:=Z.kp.Ap au cm;have bx:=Z.kp.Ap ap bh;have ca:=bv.c0;have c2:=ap.lt;have cn:w.heap.size+1 ∉ c.pb::d2.rows:=fun h=>by
  rcases bB.1 h with h|h;omega;rcases Z.rows _ h with h|h;exact bh (aH _ h);omega
 have ar:Hid (∀ W,KO c d2 w2 W->W.cell? (A0 (w.heap.size+1) 0)=some (I0 (e.pl:Nat))/\W.cell? (A0 (w.heap.size+1) 1)=some (I0 (e.w:Nat))/\W.cell? (A0 (w.heap.size+1) 2)=some (.bool e.low)/\W.cell? (A0 c.pb 2)=some (.string ⟨d2.o.toArray⟩)):=fun W a=>by
  have o:=a.kp.Ap bx cn;exact⟨o.cell 0,o.cell 1,o.cell 2,a.out⟩
 have I:=Aa (aj.o.trans Z);have X:KO c d2 w2 w2.drew:=⟨(Kp.refl _ _).drew 1,Z.mem.Ap.cell 2⟩;have be:q.D.o.length=d2.o.length:=by rw[<- ao];rfl
 have b4:q.D.ts.length=d2.ts.length:=by rw[<- ao];rfl
 have b0:q.D.cur.length=d2.cur.length:=by rw[<- ao];rfl
 rw[be,b4,b0]at a4;rw[be,<- ao]at U;have ae:=Aa b2;clear Z bv bx au ap b2 b9 cr be b4 b0 ao bk ci;by_cases b7:g.c=119
 . rw[b7]at ca;have ab:=Aa (U.o.2.1 b7);obtain⟨J,p⟩:∃ W,(w2.alloc (.cells #[I0 (e.pl:Nat),I0 (e.w:Nat),.bool e.low,I0 ((d2.o.length-d.o.length:Nat):Int)] 98)).drew=W:=⟨_,rfl⟩;have r:=p▸((aO w2.heap.size w2).alloc (aB _) _).drew;have aq:Ac J w2.heap.size (Ta (e,d2.o.length-d.o.length)).toArray (FH 1):=p▸Ac.new w2 _ _;have v:=Aa (I.o.mem.more r);have ak:=Aa (I.o.trans (Ck.refl I.o.mem r));have a2:KO c d2 w2 J:=⟨Kp.Bu r,v.o.Ap.cell 2⟩;have cb:=v.o.Ap.c4;have cc:w2.drew.cell? (A0 c.pb 4)=some (d2.rv 1):=I.o.mem.Ap.cell 4;have al:=Aa p;clear r p U;go_wp2_with fail;refine Bo (KO c d2 w2) 19 kZ rfl ?_;refine A2 (fun _ _ d _ _ h=>by cases d<;>exact h) [0,1,2,3,5,6,7,8,9,10,11,12,13] 6 19 _ _ _ kZ ?_;refine jL ?_;iterate 9 refine Ab _ rfl (fun W a=>by obtain⟨o,K,L,cf⟩:=ar.o W a;go_simp<;>rfl) ?_
   refine Ab (I0 (d2.o.length:Nat)) rfl (fun W a=>by go_simp) ?_;refine Ab _ rfl (fun W a=>by go_simp<;>rfl) ?_;refine Ab (I0 ((d2.o.length-d.o.length:Nat):Int)) rfl (fun W a=>by go_simp;rw[dD];omega) ?_;refine Ab _ rfl (fun W a=>by go_simp<;>rfl) ?_;refine Ag ?_;refine En 4 14 kZ X ⟨_,rfl,rfl,?zc⟩ ⟨_,rfl,rfl,?zd⟩;all_goals
    unfold Oper.wp;go_simp
   case' zc=>
    refine AZ 14 kZ X ⟨_,rfl,rfl,?_⟩;unfold Oper.wp;go_simp
   all_goals rw[al.o]
   case' zd=>
    refine AZ 4 kZ a2 ⟨_,rfl,rfl,?_⟩;unfold Oper.wp;go_simp
   all_goals
    refine AZ 15 kZ a2 ?_;refine IE rfl rfl _ _ 1 kX rfl v.o rfl w2.heap.size (Ta (e,d2.o.length-d.o.length)) rfl aq rfl (Mv _) a4.2.2.1 (FK d2 (e,d2.o.length-d.o.length)) (fun y am w2 o K L=>v.o.tell _ y am o K L) ?_;intro y nq Y S u x M;have u:KO c d2 w2 S:=⟨a2.kp.trans u (fun bl h=>Or.inl h),x.cell 2⟩;have b:=Aa (ak.o.trans M);have bq:=x.frozen 4;have cd:=x.cell 4;have ac:KO c d2 w2 (S.setCell (A0 c.pb 4) (S0 y nq Y)):=⟨u.kp.setCell _ _ _ (Or.inl aG),b.o.mem.Ap.cell 2⟩;clear M x;refine A2 (fun _ _ d _ _ h=>by cases d<;>exact h) [16,17] 1 3 _ _ _ kZ ?_;refine jL ?_;refine k3 ?_;refine AZ 18 kZ u ⟨_,rfl,rfl,?_⟩;exact i3
 have b6:g.c=115:=kX;rw[b6]at ca;have ab:=Aa (U.o.2.2 b6);obtain⟨J,p⟩:∃ W,(w2.alloc (.cells #[I0 (e.pl:Nat),I0 (e.w:Nat),.bool e.low,I0 (d.o.length:Nat),I0 (d2.o.length:Nat)] 101)).drew=W:=⟨_,rfl⟩;have r:=p▸((aO w2.heap.size w2).alloc (aB _) _).drew;have aq:Ac J w2.heap.size (W6 ⟨d.o.length,d2.o.length,e⟩).toArray (FH 2):=p▸Ac.new w2 _ _;have v:=Aa (I.o.mem.more r);have ak:=Aa (I.o.trans (Ck.refl I.o.mem r));have a2:KO c d2 w2 J:=⟨Kp.Bu r,v.o.Ap.cell 2⟩;have cb:=v.o.Ap.c5;have cc:w2.drew.cell? (A0 c.pb 5)=some (d2.rv 2):=I.o.mem.Ap.cell 5;have al:=Aa p;clear r p U;go_wp2_with fail;refine Bo (KO c d2 w2) 18 kZ rfl ?_;refine A2 (fun _ _ d _ _ h=>by cases d<;>exact h) [0,1,2,3,5,6,7,8,9,10,11,12] 6 18 _ _ _ kZ ?_;refine jL ?_;iterate 10 refine Ab _ rfl (fun W a=>by obtain⟨o,K,L,cf⟩:=ar.o W a;go_simp<;>rfl) ?_
 refine Ab (I0 (d2.o.length:Nat)) rfl (fun W a=>by go_simp) ?_;refine Ab _ rfl (fun W a=>by go_simp<;>rfl) ?_;refine Ag ?_;refine En 4 13 kZ X ⟨_,rfl,rfl,?ze⟩ ⟨_,rfl,rfl,?zf⟩;all_goals
  unfold Oper.wp;go_simp
 case' ze=>
  refine AZ 13 kZ X ⟨_,rfl,rfl,?_⟩;unfold Oper.wp;go_simp
 all_goals rw[al.o]
 case' zf=>
  refine AZ 4 kZ a2 ⟨_,rfl,rfl,?_⟩;unfold Oper.wp;go_simp
 all_goals
  refine AZ 14 kZ a2 ?_;refine IE rfl rfl _ _ 2 kX rfl v.o rfl w2.heap.size (W6 ⟨d.o.length,d2.o.length,e⟩) rfl aq rfl (Abl _) a4.2.2.2 (Nz d2 ⟨d.o.length,d2.o.length,e⟩) (fun y am w2 o K L=>v.o.sum _ y am o K L) ?_;intro y nq Y S u x M;have u:KO c d2 w2 S:=⟨a2.kp.trans u (fun bl h=>Or.inl h),x.cell 2⟩;have b:=Aa (ak.o.trans M);have bq:=x.frozen 5;have cd:=x.cell 5;have ac:KO c d2 w2 (S.setCell (A0 c.pb 5) (S0 y nq Y)):=⟨u.kp.setCell _ _ _ (Or.inl aG),b.o.mem.Ap.cell 2⟩;clear M x;refine A2 (fun _ _ d _ _ h=>by cases d<;>exact h) [15,16] 1 3 _ _ _ kZ ?_;refine jL ?_;refine k3 ?_;refine AZ 17 kZ u ⟨_,rfl,rfl,?_⟩;exact i3
theorem mj(h:p:=by
 induction aa with
 | nil=>intro b;rfl
 | cons u aa am=>intro b;rw[withSt,bX,am]):p:=h
theorem Iz(w r z c y A b)(h:H2 w r z c y A b)(x:Wf b)(O:b.length<=1000)(k)(v:k<b.length):
 Calls prog 88 #[P0 r,I0 k] w fun e w'=>∃ f,e=.returned f/\EL w' f (CM b k)/\Below w.heap.size w w'/\∀ g,f.ownBlock=some g->w.heap.size<=g:=by
 obtain⟨an,aj,al,am,ab⟩:=cY MA;have U:=x.pos k v;have S:FJ b k<=b.length:=lQ;have af:=Aa h;have ae:=Aa x;have L:=h.lt;have K:=h.Ap.lt;go_enter func88,ntmps88;go_wp2;go_loopw [5,6] (fun ai p wr=>∃ (i u:Nat) (a:aD Nat) (f:aI),p=I0 i/\f=ai/\i<=b.length/\b.length+1<=u+i/\a.length<=i/\Hid (wr.ownsRow w.heap.size 3 1 f a.length (DH a))/\Hid (Below w.heap.size w wr)/\Hid (CM b k=a++stepsV b (FJ b k) u i)) (fun _ p _=>b.length-(intOf p).toNat)
 case atStart=>
  exact j8
 case round=>
  obtain⟨i,u,a,ai,rfl,rfl,M,J,I,ao,j,ap⟩:=hrel;have o:=af.o.below j.out;have V:=j.out.size;have E:=o.top;have F:=o.nx ae.o k v;have B:=Aa o;generalize FJ b k=aq at*;by_cases av:i<aq;exact ng;have ad:=Aa (show CM b k=a by
   rw[ap.out]
   cases u with
   | zero=>simp[stepsV]
   | succ u=>rw[stepsV,aC av];simp)
  go_wp2;go_ret;exact⟨ai,rfl,by rw[ad.o];exact EL.Ql ao.out,j.out,fun g e=>(ao.out.lt g e).1⟩
theorem Rq(s t n m)(k:n<=1)(j:m<=1)(h:bt s t=47)(t1:bt s (t+1)=48+(n:Nat))(t2:bt s (t+2)=32):Ir s t [47,UInt8.ofNat (48+m),32]=decide (n=m):=by
 have o:=AT s (t+2) kX;rw[hX,N3,bD];constructor;intro b;have e:=b.2 1 kY;simp only[eF,dY,t1,fV]at e;omega;rintro rfl;refine⟨by simp;omega,fun a g=>?_⟩;have f:a=0\/a=1\/a=2:=by simp at g;omega
 rcases f with rfl|rfl|rfl;simpa using h;simp only[eF,dY,fV,t1];omega;simpa using t2
theorem Vr(s t c l)(a:bt s t≠(c.toNat:Int)):Ir s t (c::l)=false:=by
 cases b:Ir s t (c::l)with
 | false=>rfl
 | true=>exact absurd (show bt s t=(c.toNat:Int)from((N3 s t (c::l)).1 b).2 0 kY) a
theorem JO(s t b a)(e:Ir s t b=a):OC s t b=.returned (.tuple #[I0 (if a then t+b.length else t:Nat),.bool a]):=by unfold OC;rw[e]
theorem OP(c)(J:DK c)(m)(ax:E5 m)(dn)(w)(d)(t a1)(u:Ei c m dn w d t a1)(x y z)(au:x<c.As.length)(aw:CM c.As x=[y,z])(af)(R:Pr)(ar:bt m.s t≠47->R=⟨t,false,d.ab⟩)(n)(ad:bt m.s t=47->n<=1/\bt m.s (t+1)=48+(n:Nat)/\bt m.s (t+2)=32)(az:bt m.s t=47->∀ W,Below w.heap.size w W->Calls prog 69 #[P0 c.pb,I0 (if n=0 then y else z:Nat),I0 ((t+3:Nat):Int),af,.slice none 0 0] W fun a w'=>A6 c m.s W d R a w'):
 Calls prog 115 #[P0 c.pb,I0 (x:Nat),I0 (t:Nat),af] w fun a w'=>A6 c m.s w d R a w':=by
 have aq:=J.Fw.below u.mem.A9;have a5:=J.len;have a7:=u.mem.lt;have ae:=ax.s8;have a8:=u.al.le;have ay:=u.mem;have ba:=u.mem.Ap.c0;have U:=Aa (Iz w c.gb c.g c.cap _ c.tw c.As aq J.wf kX x au);rw[aw]at U;generalize m.s=s at*;have v:=Aa ay;have V:=Aa az;have a2:=Aa ad;have ai:=Aa ar;have ao:(bt s t≠47/\Ir s t [47,48,32]=false/\Ir s t [47,49,32]=false)\/(bt s t=47/\n=0/\Ir s t [47,48,32]=true)\/(bt s t=47/\n=1/\Ir s t [47,48,32]=false/\Ir s t [47,49,32]=true):=by
  by_cases b:bt s t=47;obtain⟨F,Y,Z⟩:=ad b;have h:=Rq s t n 0 F kX b Y Z;have r:=Rq s t n 1 F kX b Y Z;by_cases h0:n=0;exact Or.inr (Or.inl ⟨b,h0,h.trans (bF h0)⟩);exact Or.inr (Or.inr ⟨b,by omega,h.trans (bJ h0),r.trans (bF kX)⟩);exact Or.inl ⟨b,Vr s t 47 _ (fun a=>b (a.trans lC)),Vr s t 47 _ (fun a=>b (a.trans lC))⟩
 go_enter func115,ntmps115;go_upto_region 2 with(go_at_call 88;refine U.o.mono ?_;rintro a w1⟨a0,rfl,av,ac,a6⟩);obtain⟨j,a9,rfl,a4,aa,ap,ab⟩:∃ j p,a0=S0 j 2 p/\j<w1.heap.size/\2<=p/\p<=maxLen/\∀ M,M<2->w1.cell? (A0 j M)=some (I0 (([y,z]:aD Nat).getD M 0:Nat)):=by
  rcases av with⟨_,aa⟩|⟨j,p,aj,ak,al,am,an⟩
  cases aa
  exact⟨j,p,aj,ak,al,am,an⟩
 have a3:q_ w1 j 0 (I0 (y:Nat)):=ab 0 kX;have F:q_ w1 j 1 (I0 (z:Nat)):=ab 1 kX;have ah:q_ w1 c.pb 1 (.string s):=(v.o.more ac).Ap.cell 1;have A:=Aa (Ij s ae w1 c.pb t ah kX [47,48,32] lC);have S:=Aa (Ij s ae w1 c.pb t ah kX [47,49,32] lC);have k:=Aa ac;unfold maxLen at ap;rcases ao with⟨b,h,r⟩|⟨b,rfl,h⟩|⟨b,rfl,h,r⟩
 . have o:=Aa (JO s t _ _ h);have B:=Aa (JO s t _ _ r);have X:=Aa (ai.o b);go_upto_region 5 with(go_at_call 112;refine A.o.mono ?_;rintro a g⟨e,f⟩;rw[o.o]at e;subst e;rw[f];clear f g);go_wp2_with (go_at_call 112;refine S.o.mono ?_;rintro a g⟨e,f⟩;rw[B.o]at e;subst e;rw[f];clear f g);go_ret2;exact A6.fail (by rw[X.o]) (by rw[X.o]) (Ck.refl v.o k.o)
 . have o:=Aa (JO s t _ _ h);have E:=Aa (V.o b w1 k.o);go_wp2_with (first
    | (go_at_call 112;refine A.o.mono ?_;rintro a g⟨e,f⟩;rw[o.o]at e;subst e;rw[f];clear f g)
    | (go_at_call 69;refine E.o.mono ?_;rintro a g⟨O,d2,rfl,K,I,L⟩))
   go_ret2;exact⟨O,d2,rfl,K,I,(Ck.refl v.o k.o).trans L⟩
 have o:=Aa (JO s t _ _ h);have B:=Aa (JO s t _ _ r);have E:=Aa (V.o b w1 k.o);go_upto_region 5 with(go_at_call 112;refine A.o.mono ?_;rintro a g⟨e,f⟩;rw[o.o]at e;subst e;rw[f];clear f g);go_wp2_with (first
  | (go_at_call 112;refine S.o.mono ?_;rintro a g⟨e,f⟩;rw[B.o]at e;subst e;rw[f];clear f g)
  | (go_at_call 69;refine E.o.mono ?_;rintro a g⟨O,d2,rfl,K,I,L⟩))
 go_ret2;exact⟨O,d2,rfl,K,I,(Ck.refl v.o k.o).trans L⟩
structure LsI (c:Rx) (m:Mx) (dn lo:Nat) (P:Nat->Dp->Pr) (E:Nat->Dp->Dp) (B:Nat) (R:Pr) (W0:aE) (d:Dm) (j i f:Nat) (r:Pr) (d':Dm) (wr:aE):Prop where
 eq:R=Gu r fun p D=>pList m.s P E f p j D
 ok:r.ok=true->i=r.p/\lo<=i/\Al m.s i/\m.s.size+3<=f+i+(if j=0 then 0 else 1)/\f+j=m.s.size+3/\B4 m dn d'.ab+10000*(m.s.size+1-i)+(if j=0 then 2001 else 1)<=B
 D:d'.ab=r.D
 q:Ck c m.s W0 d wr d'
 dl:dn<=d'.ab.es.length
def LsE(c:Rx)(m:Mx)(f:Nat->Dp->Dp)(e:Nat)(R:Pr)(g:aE)(d:Dm)(b i:Nat)(wc:aE):Prop:=
 ∃ a,(R.ok=true->i<=m.s.size/\b<=8004/\a.ts.length<=e/\R=⟨i+1,true,f b a.ab⟩)/\(R.ok=false->a.ab=R.D)/\Ck c m.s g d wc a
def Yz(m:Mx)(P:Nat->Dp->Pr)(a:It)(hid:aM Nat)(t:Nat)(D:Dp):Pr:=if bt m.s t=91 then pList m.s P (fun b D=>if a.c=116 then Dx D (dHole D hid a.d.toNat) b else D) (m.s.size+3) (t+1) 0 D else⟨t,false,D⟩
theorem SW(c)(cg:DK c)(m)(bu:E5 m)(dn n)(co:WI c m dn n)(cf:∀ i,CR (c.G i))(w d t ah)(F:Ei c m dn w d t ah)(d9:m.s.size+1<=n+1+t)(E j v)(af:At c.As E (j::v))(cp cd)(bz:M8 c (E+1) v cp cd none)(hid ap)(o:Zx d hid ap)(am:j.c=42\/(j.c=116/\(∃ i,hid=some i)/\0<=j.d/\j.d<8)):
 Calls prog 116 #[P0 c.pb,I0 (E:Nat),I0 (t:Nat),ap] w fun u w'=>A6 c m.s w d (Yz m (pT m c.G n v none) j hid t d.ab) u w':=by
 have f:=cg.Fw.below F.mem.A9;refine kd ?_;intro ah av ax aw an ay az a0 a1 ad;have dq:=F.mem.Ap.c0;have dx:E<c.As.length:=by have:=af.le;simp at this;omega
 have d6:=cg.len;have ea:=F.mem.lt;have d0:=f.lt;have dc:=F.al.le;have cm:=bu.s8;have eb:=bz.Xx.1;have bg:Below w.heap.size w (w.alloc (.cells (P6 j E) 132)):=(aO _ _).alloc (aB _) _;have cc:(w.alloc (.cells (P6 j E) 132)).cell? (A0 c.pb 1)=some (.string m.s):=(Ac.alloc F.mem.Ap _).cell 1;have K:=Aa (EJ m.s cm _ c.pb t cc dc 91 lC);have be:=Aa (Ac.new w (P6 j E) 132);obtain⟨J,bh⟩:∃ J:Nat->Dp->Dp,(fun e D=>if j.c=116 then Dx D (dHole D hid j.d.toNat) e else D)=J:=⟨_,rfl⟩;obtain⟨R,bj⟩:∃ R,Yz m (pT m c.G n v none) j hid t d.ab=R:=⟨_,rfl⟩;have V:=bj.symm;unfold Yz at V;rw[bh]at V;rw[bj];have cs:Hid (∀ e D,J e D=if j.c=116 then Dx D (dHole D hid j.d.toNat) e else D):=fun e D=>by rw[<- bh]
 obtain⟨B,cz⟩:∃ B,B4 m dn d.ab+10000*(m.s.size+1-t)=B:=⟨_,rfl⟩;have c0:B<=1000000000:=by have:=F.FI;omega
 have ao:Hid (LsI c m dn (t+1) (pT m c.G n v none) J B R (w.alloc (.cells (P6 j E) 132)) d 0 (if bt m.s t=((91:UInt8).toNat:Int)then t+1 else t) (m.s.size+3) ⟨if bt m.s t=((91:UInt8).toNat:Int)then t+1 else t,decide (bt m.s t=((91:UInt8).toNat:Int)),d.ab⟩ d (w.alloc (.cells (P6 j E) 132))):=by
  have cy:((91:UInt8).toNat:Int)=91:=lC;rw[cy];have x:=Ck.refl (F.mem.more bg) (aO _ _);by_cases h:bt m.s t=91;rw[aF h]at V⊢;rw[bF h];have X:=F.al.one kX;have:=X.le;exact⟨V,fun _=>⟨rfl,aB _,X,by rw[aF rfl];omega,by omega,by rw[aF rfl];omega⟩,rfl,x,F.dl⟩;rw[aC h]at V⊢;rw[bJ h];exact⟨V,fun u=>(by cases u),rfl,x,F.dl⟩
 have b6:=Aa (QM (dn:=dn) bu cf n);have b4:=Aa co;have b7:=Aa F.mem;have cr:=Aa bg;have b8:=Aa bz;have b3:=Aa o;clear f F bg co cf bz bu bh V bj cz o;generalize(if bt m.s t=((91:UInt8).toNat:Int)then t+1 else t)=cn at K ao;generalize decide (bt m.s t=((91:UInt8).toNat:Int))=dp at K ao;unfold P6 at*;go_enter func116,ntmps116;go_upto_block 0 with(go_at_call 112;refine K.o.mono ?_;rintro u z⟨rfl,p⟩;rw[p];clear p z);clear K cc ah av ax aw an ay az a0 a1 ad dq;generalize w.alloc (.cells (X_4 j.c j.w j.b j.r j.d j.pl (E+j.nx) j.rl) 132)=aj at*;go_cut [11,12,13] (fun b1 b2 aq wc=>∃ i e:Nat,b1=I0 i/\b2=.bool R.ok/\aq=I0 e/\Hid (LsE c m J B R aj d e i wc))
 case first=>
  go_wp2;go_loopw [11,12,13] (fun b1 b2 aq wr=>∃ (e i O:Nat) (bd:Pr) (g:Dm),b1=I0 i/\b2=.bool bd.ok/\aq=I0 e/\e<=8004/\Hid (LsI c m dn (t+1) (pT m c.G n v none) J B R aj d e i O bd g wr)) (fun _ _ aq _=>8010-(intOf aq).toNat)
  case atStart=>exact⟨0,cn,m.s.size+3,⟨cn,dp,d.ab⟩,d,rfl,rfl,rfl,by omega,ao⟩
  case round=>
   clear ao;obtain⟨e,i,O,bd,g,rfl,rfl,rfl,c7,o⟩:=hrel;have k:=o.out.eq;unfold Gu at k
   cases r:bd.ok with
   | false=>
    rw[aC Bc]at k;have M:=Aa (show LsE c m J B R aj d e i wr from⟨g,fun h=>(by rw[k,r]at h;cases h),fun _=>by rw[k];exact o.out.D,o.out.q⟩);have bv:R.ok=false:=by rw[k];exact r
    clear o k;go_wp2_with fail;go_meet
    case rel=>exact⟨i,e,rfl,by rw[bv],rfl,M⟩
   | true=>
    rw[aF r]at k;simp only at k;obtain⟨ck,d7,bo,ak,dz,al⟩:=o.out.ok r;have ch:=bo.le;obtain⟨O,rfl⟩:∃ I,O=I+1:=⟨O-1,by split at ak<;>omega⟩;rw[<- ck,<- o.out.D,pList]at k;clear ck;have dr:=o.out.q.mem.Ap.c1;have au:=Aa (fun W=>AI m.s (i:Int) W lD kX);have K:=Aa (EJ m.s cm wr c.pb i dr ch 32 lC);have db:g.ts.length<=B:=by simp only[B4,Dm.ab,cM]at al;omega
    by_cases a5:bt m.s i=93
    . rw[aF a5]at k;have M:=Aa (show LsE c m J B R aj d e i wr from⟨g,fun h=>⟨ch,c7,db,k⟩,fun h=>(by rw[k]at h;cases h),o.out.q⟩);have bv:R.ok=true:=by rw[k]
      clear o k al ak K;go_wp2_with (go_at_call 83;refine(au.o _).mono ?_;rintro u z⟨rfl,p⟩;rw[p];clear p z);go_meet
      case rel=>exact⟨i,e,rfl,by rw[bv],rfl,M⟩
    rw[aC a5]at k;have dw:(bt m.s i==93)=false:=by simp;exact a5
    by_cases S:e≠0/\bt m.s i≠32
    . rw[aF S]at k;have U:¬ bt m.s i=((32:UInt8).toNat:Int):=S.2;rw[aC U,bJ U]at K;have M:=Aa (show LsI c m dn (t+1) (pT m c.G n v none) J B R aj d (e+1) i 0 ⟨i,false,g.ab⟩ g wr from⟨k,fun h=>(by cases h),rfl,o.out.q,o.out.dl⟩);have c8:¬ (e:Int)<=0:=by have:=S.1;omega
      clear o k al ak S U;go_wp2_with (first
       | (go_at_call 83;refine(au.o _).mono ?_;rintro u z⟨rfl,p⟩;rw[p];clear p z)
       | (go_at_call 112;refine K.o.mono ?_;rintro u z⟨rfl,p⟩;rw[p];clear p z))
      go_roundw
      case rel=>exact⟨e+1,i,0,⟨i,false,g.ab⟩,g,rfl,rfl,by go_num,by omega,M⟩
      case measure=>simp[intOf];omega
    rw[aC S]at k;obtain⟨y,Y⟩:∃ y,(if e=0 then i else i+1)=y:=⟨_,rfl⟩;rw[Y]at k;have c3:Al m.s y/\i<=y/\(e≠0->i+1=y)/\B4 m dn g.ab+10000*(m.s.size+1-y)+2*v.length+1<=B:=by
     by_cases h0:e=0;rw[aF h0]at Y al;subst Y;exact⟨bo,aB _,fun h=>absurd h0 h,by omega⟩;rw[aC h0]at Y al;subst Y;have ab:=bo.one (a:=i) (by have:bt m.s i=32:=cB fun h=>S ⟨h0,h⟩;omega);have:=ab.le;exact⟨ab,by omega,fun _=>rfl,by omega⟩
    obtain⟨X,dv,bl,c2⟩:=c3;have a9:=b6.o v none y g.ab b8.o.Xx X o.out.dl;have b9:Hid (Calls prog 69 #[P0 c.pb,I0 (E+1),I0 (y:Nat),ap,.slice none 0 0] wr fun u w'=>A6 c m.s wr g (pT m c.G n v none y g.ab) u w'):=(b4.o wr g (E+1) v cp cd none ap y ⟨o.out.q.mem,X,o.out.dl,by omega⟩ b8.o (fun i u=>by cases u) (by
     have:=X.le;omega))
    have M:Hid (∀ L d2 w2,((pT m c.G n v none y g.ab).ok=true->L=(pT m c.G n v none y g.ab).p)->d2.ab=(pT m c.G n v none y g.ab).D->Ck c m.s wr g w2 d2->LsI c m dn (t+1) (pT m c.G n v none) J B R aj d (e+1) L O (pT m c.G n v none y g.ab) d2 w2):=by
     intro L d2 w2 ab ac ai;refine⟨k,fun A=>?_,ac,o.out.q.trans ai,by rw[ac];exact a9.dl o.out.dl⟩;obtain⟨dk,ec⟩:=a9.ok A;have dl:=a9.FI;rw[aF A]at dl;have dm:=ab A;subst dm;refine⟨rfl,by omega,dk,?_,by omega,?_⟩;rw[aC kX];by_cases h0:e=0;rw[aF h0]at ak;omega;rw[aC h0]at ak;have:=bl h0;omega;rw[aC kX,ac];omega
    have d5:=X.le;have c1:=Aa bl;generalize pT m c.G n v none y g.ab=cq at*;clear o k al ak bl c2 a9;by_cases h0:e=0
    . rw[aF h0]at Y;subst h0;subst Y;go_wp2_with (first
       | (go_at_call 83;refine(au.o _).mono ?_;rintro u z⟨rfl,p⟩;rw[p];clear p z)
       | (go_at_call 69;refine b9.o.mono ?_;rintro u z⟨L,d2,rfl,bx,bm,x⟩))
      go_roundw
      case rel=>exact⟨1,L,O,cq,d2,rfl,rfl,by go_num,by omega,M.o L d2 _ bx bm x⟩
      case measure=>simp[intOf]
    have c5:=c1.out h0;subst c5;have U:bt m.s i=((32:UInt8).toNat:Int):=cB fun h=>S ⟨h0,h⟩
    rw[aF U,bF U]at K;have c8:¬ (e:Int)<=0:=kX;clear S U a5;go_wp2_with (first
     | (go_at_call 83;refine(au.o _).mono ?_;rintro u z⟨rfl,p⟩;rw[p];clear p z)
     | (go_at_call 112;refine K.o.mono ?_;rintro u z⟨rfl,p⟩;rw[p];clear p z)
     | (go_at_call 69;refine b9.o.mono ?_;rintro u z⟨L,d2,rfl,bx,bm,x⟩))
    go_roundw
    case rel=>exact⟨e+1,L,O,cq,d2,rfl,rfl,by go_num,by omega,M.o L d2 _ bx bm x⟩
    case measure=>simp[intOf];omega
 case rest=>
  obtain⟨i,e,rfl,rfl,rfl,cj⟩:=hcut;obtain⟨g,bb,ba,x⟩:=cj.out;have Z:=Aa ((Ck.refl b7.o cr.o).trans x);clear ao b6 b4 cj
  cases r:R.ok with
  | false=>
   have ct:=Aa (ba r);clear bb ba x;go_wp2;go_ret2;exact A6.fail r ct.o Z.o
  | true=>
   obtain⟨d3,d4,dd,bk⟩:=bb r;have bi:=bk.trans (by rw[cs.o e]);have a3:=Aa bi;have b0:=b7.o.Uc (aB _);have a8:=x.kp.Ap be.o b0;have cb:=a8.c0;rcases am with am|⟨am,⟨dj,c6⟩,dh,di⟩
   . rw[am]at cb;have a4:=Aa (a3.o.trans (by rw[aC kX]));clear bb ba x bk bi a8 a3;go_wp2;go_ret2;rw[a4.o];exact⟨i+1,g,rfl,fun _=>rfl,rfl,Z.o⟩
   have a4:=Aa (a3.o.trans (by rw[aF am]));rw[am]at cb;obtain⟨ed,c9,d8⟩:=x.DR;obtain⟨ae,A⟩:=HoI.of (x:=j) (hv:=ap) (hid:=hid) (i:=dj) x.mem (fun i u=>by
    obtain⟨ae,ab,ac⟩:=b3.o i u;exact⟨ae,by rw[c9,aW (bI.1 ab).1];exact ab,ac⟩) c6 dh di
   have de:=A.hv;subst de;obtain⟨b,c4⟩:∃ b,j.d.toNat=b:=⟨_,rfl⟩;rw[c4]at A a4;generalize dHole g.ab hid b=I at*;have dy:=A.lt;have br:=x.mem.hbn (bH A.mem);have bq:=A.bl;have df:w.heap.size ∉ c.pb::g.rows:=fun h=>by
    rcases bB.1 h with h|h;exact b0 (h▸aG);rcases x.rows _ h with h|h;exact b0 (aH _ h);have:=be.o.lt;omega
   have ar:Hid (∀ W,Kp (c.pb::g.rows) wc W->W.cell? (A0 w.heap.size 4)=some (I0 b)/\W.cell? (A0 ae (b*3))=some (I0 (I.pl:Nat))/\W.cell? (A0 ae (b*3+1))=some (I0 (I.w:Nat))/\W.cell? (A0 ae (b*3+2))=some (.bool I.low)):=fun W a=>by
    have ab:=a.Ap a8 df;exact⟨by rw[<- A.xd];exact ab.cell 4,(a.cell bq br _).trans A.c0,(a.cell bq br _).trans A.c1,(a.cell bq br _).trans A.c2⟩
   have ci:Kp (c.pb::g.rows) wc wc.drew:=(Kp.refl _ _).drew 1;obtain⟨ca,a6⟩:∃ W,(wc.alloc (.cells #[I0 (I.pl:Nat),I0 (I.w:Nat),.bool I.low,I0 (e:Nat)] 98)).drew=W:=⟨_,rfl⟩;have a7:=a6▸((aO wc.heap.size wc).alloc (aB _) _).drew;have da:Ac ca wc.heap.size (Ta (I,e)).toArray (FH 1):=a6▸Ac.new wc _ _;have bf:=Aa (Z.o.mem.more a7);have cu:=Aa (Z.o.trans (Ck.refl Z.o.mem a7));have a2:Kp (c.pb::g.rows) wc ca:=Kp.Bu a7;have ef:=bf.o.Ap.c4;have eg:wc.drew.cell? (A0 c.pb 4)=some (g.rv 1):=Z.o.mem.Ap.cell 4;have cw:=Aa a6;clear bb ba x bk bi a8 a3 a7 a6 A b3 be;go_wp2_with fail;refine Bo (fun W=>Kp (c.pb::g.rows) wc W) 17 kZ rfl ?_;refine A2 (fun _ _ d _ _ h=>by cases d<;>exact h) [0,1,2,3,5,6,7,8,9,10,11] 6 17 _ _ _ kZ ?_;refine jL ?_;refine lp ?_;refine En 4 12 kZ ci ⟨_,rfl,rfl,?za⟩ ⟨_,rfl,rfl,?zb⟩;all_goals
    unfold Oper.wp;go_simp
   case' za=>
    refine AZ 12 kZ ci ⟨_,rfl,rfl,?_⟩;unfold Oper.wp;go_simp
   all_goals rw[cw.o]
   case' zb=>
    refine AZ 4 kZ a2 ⟨_,rfl,rfl,?_⟩;unfold Oper.wp;go_simp
   all_goals
    refine AZ 13 kZ a2 ?_;refine IE rfl rfl _ _ 1 kX rfl bf.o rfl wc.heap.size (Ta (I,e)) rfl da rfl (Mv _) (bQ dd c0) (FK g (I,e)) (fun ce cx w2 ab ac ai=>bf.o.tell _ ce cx ab ac ai) ?_;intro ce nq dt ee bc bp cl;have bc:=a2.trans bc (fun ds h=>Or.inl h);have cv:=Aa (cu.o.trans cl);have du:=bp.frozen 4;have eh:=bp.cell 4;clear cl bp;refine A2 (fun _ _ d _ _ h=>by cases d<;>exact h) [14,15] 1 3 _ _ _ kZ ?_;refine jL ?_;refine k3 ?_;refine AZ 16 kZ bc ⟨_,rfl,rfl,?_⟩;unfold Oper.wp;go_simp;refine DV (P:=prog) kZ (bc.setCell _ _ _ (Or.inl aG)) ?_;go_wp2;go_ret2;rw[a4.o];exact⟨i+1,_,rfl,fun _=>rfl,rfl,cv.o⟩
section
theorem Tryz.YH:(prog.info? 96).map (fun i=>(i.zero,i.size,i.bytes))=some (some (.agg #[I0 0,I0 0,.bool false]),3,24):=kZ
theorem SH(W):Sem.run prog (Instr.makeSlice 169 (I0 8) (I0 8)) W=.ok (S0 W.heap.size 8 8) (W.alloc (.cells (Hn fun _=>none) 96)):=by
 obtain⟨h,e,f,a,g⟩:=cY Tryz.YH;have:=iI (P:=prog) W 169 96 h (.agg #[I0 0,I0 0,.bool false]) underlying169 e f .i64 .i64 8 8 kX kX (by rw[a];omega) (by rw[g];omega) kX;rw[a]at this;have b:madeCells (Value.agg #[I0 0,I0 0,.bool false]).cells ((8:Int).toNat*3)=Hn fun _=>none:=by
  kernel_rfl
 rw[b]at this;exact this
theorem TI(W)(n:Nat)(j:n<=4):Sem.run prog (Instr.makeSlice 40 (I0 n) (I0 n)) W=.ok (S0 W.heap.size n n) (W.alloc (.cells (Array.replicate n (.int .u8 0)) 5)):=by
 obtain⟨h,e,f,a,g⟩:=cY infoByte;have:=iI (P:=prog) W 40 5 h (.int .u8 0) underlying40 e f .i64 .i64 n n kX kX (by rw[a];omega) (by rw[g];omega) kX;rw[a]at this;simp only[bE]at this;have b:madeCells (Value.int .u8 0).cells (n*1)=Array.replicate n (.int .u8 0):=by
  exact mi
 rw[b]at this;exact this
theorem SK(W:aE)(n:Nat):(convert 40 9 (S0 W.heap.size n n)).run prog (W.alloc (.cells (Array.replicate n (.int .u8 0)) 5))=.ok (.string ⟨(List.replicate n 0).toArray⟩) (W.alloc (.cells (Array.replicate n (.int .u8 0)) 5)):=by
 have:=eE (W.alloc (.cells (Array.replicate n (.int .u8 0)) 5)) 40 9 5 (A0 W.heap.size 0) n (List.replicate n 0) underlying40 underlying5 underlying9 fun b a=>by
  have:=(Ac.new W (Array.replicate n (.int .u8 0)) 5).cell b;simp only[eJ]at a;rw[gA,eC,this];simp[a]
 rw[eJ]at this;exact this
theorem O0(n)(e:n<=4)(w):Calls prog 176 #[I0 (n:Nat)] w fun b w'=>b=.returned (.string ⟨(List.replicate n 0).toArray⟩)/\Below w.heap.size w w':=by
 have f:=TI w n e;have g:=SK w n;have a:Hid (Below w.heap.size w (w.alloc (.cells (Array.replicate n (.int .u8 0)) 5))):=(aO _ _).alloc (aB _) _;go_enter func176,ntmps176;go_wp2;go_ret;exact⟨rfl,a.o⟩
section
variable {c:Rx} {s:aA} {w w2:aE} {d:Dm}
theorem D4.N1(a:D4 c s w d)(e)(u:Below w.heap.size w w2)(E:w.heap.size<=e)(x:Ac w2 e (Hn fun _=>none) 96):Ck c s w d w2 {d with AS:=d.AS++[fun _=>none],DR:=d.DR++[e]}:=by
 have h:=a.more u;have I:e ∉ c.pb::(d.rows++d.DR):=fun b=>by have:=(a.ge e b).2;omega
 refine⟨⟨h.Ap,fun i B=>?_,fun i f z g j=>?_,by simp[a.DC],?_,fun f b=>?_,fun l k=>⟨by have:=(a.hid l k).1;simp;omega,(a.hid l k).2⟩,h.A9⟩,Kp.Bu u,fun f a=>Or.inl a,[e],rfl,fun f b=>by simp at b;omega⟩;have:=h.row i B;have o:({d with AS:=d.AS++[fun _=>none],DR:=d.DR++[e]}:Dm).xs i=d.xs i:=by
  unfold Dm.xs;split;exact gI List.flatten (List.map_congr_left fun l k=>by
   have:=(a.hid l k).1;simp only[UW,aZ,aW this])
  rfl
 rw[o];exact this;simp only at g j;by_cases y:i<d.DR.length;rw[aW y]at g;rw[aW (by rw[<- a.DC];exact y)]at j;exact h.ho i f z g j;rw[bG kX]at g;rw[bG (by rw[<- a.DC];omega)]at j;have p:=bH g;have r:=bH j;simp at p r;subst p r;exact x;show(c.pb::(d.rows++(d.DR++[e]))).Nodup;rw[<- bO,<- cA];exact bP.2 ⟨a.nd,by simp,fun J A f v o=>by simp at v;subst v o;exact I A⟩;have F:f∈(c.pb::(d.rows++d.DR))++[e]:=by
  rw[cA,bO];exact b
 rcases aV.1 F with b|b;exact h.ge f b;simp at b;subst b;exact⟨bQ a.A9.size E,x.lt⟩
theorem XS(e a)(g:a<8)(b):(((Hn e).setIfInBounds (a*3) (I0 (b.pl:Nat))).setIfInBounds (a*3+1) (I0 (b.w:Nat))).setIfInBounds (a*3+2) (.bool b.low)=Hn fun f=>if f=a then some b else e f:=by
 have ab:a=0\/a=1\/a=2\/a=3\/a=4\/a=5\/a=6\/a=7:=kX;exact DI
theorem D4.Afc(f:D4 c s w d)(i b a)(u:d.DR[i]? = some b)(U:a<8)(e):
 D4 c s (((w.setCell (A0 b (a*3)) (I0 (e.pl:Nat))).setCell (A0 b (a*3+1)) (I0 (e.w:Nat))).setCell (A0 b (a*3+2)) (.bool e.low)) {d with AS:=d.AS.modify i fun r x=>if x=a then some e else r x}:=by
 have B:=bH u;have L:=f.nd;rw[bZ,bP]at L;obtain⟨Z,ad,aa,ab⟩:=L;have z:=(f.ge b (aH _ (cE _ B)));obtain⟨I,v⟩:∃ W,((w.setCell (A0 b (a*3)) (I0 (e.pl:Nat))).setCell (A0 b (a*3+1)) (I0 (e.w:Nat))).setCell (A0 b (a*3+2)) (.bool e.low)=W:=⟨_,rfl⟩;rw[v];have F:∀ g,g≠b->I.heap[g]? = w.heap[g]? := fun g E=>by rw[<- v,aN _ _ _ _ E,aN _ _ _ _ E,aN _ _ _ _ E]
 have Y:I.heap.size=w.heap.size:=by rw[<- v];simp[World.setCell]
 have O:Below c.w0.heap.size w I:=by rw[<- v];exact(((aO _ _).setCell (p:=(A0 b (a*3))) z.1 _).setCell (p:=(A0 b (a*3+1))) z.1 _).setCell (p:=(A0 b (a*3+2))) z.1 _
 have ac:=(bI.1 u).1;refine⟨?_,fun j K=>An (f.row j K) fun q k=>F q (fun M=>ab q (Ep K k) q (M▸B) rfl),fun j g r p h=>?_,by simp[f.DC],f.nd,fun g X=>by rw[Y];exact f.ge g X,f.hid,f.A9.trans O⟩;have:=f.Ap;unfold Ac at*;rw[F c.pb (fun k=>Z (cE _ (by rw[k];exact B)))];exact this;simp only at p h;by_cases A:j=i;subst A;rw[u]at p
 cases p
 obtain⟨o,V,rfl⟩:∃ o,d.AS[j]? = some o/\(fun x=>if x=a then some e else o x)=r:=by
  rw[dW]at h
  cases J:d.AS[j]? with
  | none=>simp[J]at h
  | some o=>simp[J]at h;exact⟨o,rfl,h⟩
 have y:=((f.ho j b o u V).set (a*3) (I0 (e.pl:Nat))).set (a*3+1) (I0 (e.w:Nat));have y:=y.set (a*3+2) (.bool e.low);rw[XS o a U e,v]at y;exact y;rw[dW]at h;simp only[aC (fun k=>A k.symm:¬ i=j)]at h;have h:d.AS[j]? = some r:=by simpa using h
 have S:g≠b:=fun k=>by
  subst k;exact A ((List.getElem?_inj (bI.1 p).1 aa).1 (p.trans u.symm))
 have:=f.ho j g r p h;unfold Ac at*;rw[F g S];exact this
end
end
theorem g8(h:p:=by
 go_wp2;refine aT (v:=.tuple (X_5 (AA st g c.bs.size j) (⟨#[]⟩))) jx rfl ?_;rw[y.o];exact AO.none ((bz.o.BB (b:=w.heap.size+1) kX _ _ _ _ _).alloc lR _) rfl r (Ac.alloc (Ac.Ar b3.o (b:=w.heap.size+1) kX _ _ _ _ _) _) cx.o):p:=h
theorem jg(h:p:=by
 rw[y.o];have c1:=E.o.DY.drewN nq;refine AO.fit (rb:=u) (db:=z) (((c1.fr).setCell (p:=(A0 w2.heap.size 1)) (Or.inr lB) _).BB (b:=w.heap.size+1) kX _ _ _ _ _) rfl (Ac.Ar (Ac.Ad (c1.pg) (A0 w2.heap.size 1) lB _) (b:=w.heap.size+1) kX _ _ _ _ _) ⟨Ac.Ar (Ac.Ad (OM I.o.rd nq) (A0 w2.heap.size 1) cl _) (b:=w.heap.size+1) cn _ _ _ _ _,Ac.Ar (Ac.Ad (OM I.o.dp nq) (A0 w2.heap.size 1) ck _) (b:=w.heap.size+1) cm _ _ _ _ _,I.o.Qv,I.o.Og⟩):p:=h
theorem Gg(h:p:=by
 have:=(Ac.alloc (Ac.alloc (Ac.alloc o.dp A) B) F).cell (2*d+1);rw[(Gv st.Ai d ba).2,ac]at this;rw[dB d 2];exact this):p:=h
theorem jx(h:p:=by
 simp[results,results96,go_sem,AA,a5,a6,bf,a7,a8,b6]):p:=h
theorem Kn(h:p:=by
 simp[results,results96,go_sem,AA,am,aq,a3,bc,bj]):p:=h
abbrev lT(h:PLift q->p:=by
 intro aa;have b0:=p.N;have bx:=o.inv.pl;have b1:=o.inv.en;obtain⟨d,ak⟩:∃ d:Nat,x.d=(d:Int):=⟨x.d.toNat,by have:=al.it.d (by rw[ao];rfl);omega⟩;have ba:d<8:=by have:=al.it.d (by rw[ao];rfl);omega
 have bm:(d:Int)<8:=kX;have cc:x.d.toNat=d:=kX;rw[cc]at M⊢;have ce:=(o.inv.Ai d).1;have cd:=(o.inv.Ai d).2;obtain⟨n,bh⟩:∃ n,(st.Ai d).1=n:=⟨_,rfl⟩;obtain⟨a,ac⟩:∃ k,(st.Ai d).2=k:=⟨_,rfl⟩;revert ac;revert a;revert bh;revert n;revert cd;revert ce;revert cc;revert bm;revert ba;revert ak;revert M;revert d;revert b1;revert bx;revert b0;exact aa.1):p:=h ⟨z⟩
abbrev l6(h:PLift q->p:=by
 intro aa;unfold AA at ab;simp only[cZ]at ab;refine ab.o.mono ?_;rintro e w2⟨S,v,u,z,L,K,be,rfl,cg,co,cf⟩;obtain⟨a4,bi,bo,bb⟩:=J.o.DY.next S cg;have br:=S.size;have c0:=J.o.ub.lt;have b7:w.heap.size<w2.heap.size:=kX;have b6:w.heap.size+1<w2.heap.size:=kX;have cy:¬ w2.heap.size=w.heap.size:=kX;have cz:¬ w2.heap.size=w.heap.size+1:=kX;obtain⟨bu,a2,a9,bv,bg,_⟩:=bo.Bi;obtain⟨a5,a6,bf,a7,a8,bq⟩:=bb.Bi;rename_i bp;revert w2 S v u z L K be cg co cf a4 bi bo bb br c0 b7 b6 cy cz bu a2 a9 bv bg bp a5 a6 bf a7 a8 bq;exact aa.1):p:=h ⟨z⟩
abbrev lU(h:PLift q->p:=by
 intro aa;have cq:=E.o.dep.c0;have d1:=E.o.dep.c1;obtain⟨cp,ct,cu,cv,cr,cw⟩:=ch.o.Bi;have cb:=E.o.DY.pg.c1;obtain⟨a5,a6,bf,a7,a8,bq⟩:=E.o.DY.res.Bi;revert cq d1 cp ct cu cv cr cw cb a5 a6 bf a7 a8 bq;exact aa.1):p:=h ⟨z⟩
abbrev mM(h:PLift q->p:=by
 intro aa;obtain⟨am,aq,a3,bc,bj,a2⟩:=bb.Bi;have ci:=Aa a4;have cj:=Aa ch;unfold EI AA;go_wp2;refine aT (v:=.tuple (X_5 (AA st g c.bs.size j) (⟨#[]⟩))) Kn rfl ?_;revert am aq a3 bc bj a2 ci cj;exact aa.1):p:=h ⟨z⟩
abbrev l8(h:PLift q->p:=by
 intro aa;have b5:=(J.o.next cs.o b3.o).below ((aO _ _).alloc (aB _) (.cells (AA h.st u c.bs.size z) 140));have O:=Ac.new w2 (AA h.st u c.bs.size z) 140;have ai:=b4.below ((aO _ _).alloc (aB _) (.cells (AA h.st u c.bs.size z) 140));have b2:=O.lt;unfold AA at b5 O ai b2;revert b2;revert ai;revert O;revert b5;exact aa.1):p:=h ⟨z⟩
abbrev la(h:PLift q->p:=by
 intro aa;go_wp2_with fail;have cl:=Bf I.o.rd ch.o lC;have ck:=Bf I.o.dp ch.o lC;have cn:=Bf I.o.rd E.o.DY.res lC;have cm:=Bf I.o.dp E.o.DY.res lC;revert cl ck cn cm;exact aa.1):p:=h ⟨z⟩
abbrev l9(h:PLift q->p:=by
 intro aa;have b8:w.heap.size+1+1<w2.heap.size:=kX;have b9:w.heap.size+1+1+1<w2.heap.size:=kX;have ca:w.heap.size+1+1+1+1<w2.heap.size:=kX;revert b8 b9 ca;exact aa.1):p:=h ⟨z⟩
structure LZ (c:Rx) (w:aE) (st:PS) (rb db fuel far:Nat) (xs:Array aI) (n kw:Nat) (us:PS) (W:aE):Prop where
 DY:EW c w st rb db fuel far W
 part:Ac W (w.heap.size+1+1) xs 132
 dep:Ac W (w.heap.size+1+1+1) #[I0 n,I0 kw] 240
 ub:Ac W (w.heap.size+1+1+1+1) (AA us rb c.bs.size db) 140
theorem LZ.new{c w st us rb f j h n e b a}(v:EW c w st rb f j h a)(g:a.heap.size=w.heap.size+1+1):
 LZ c w st rb f j h b n e us (((a.alloc (.cells b 132)).alloc (.cells #[I0 n,I0 e] 240)).alloc (.cells (AA us rb c.bs.size f) 140)):=by
 have k:=Ac.new a b 132;have o:=Ac.new (a.alloc (.cells b 132)) #[I0 n,I0 e] 240;have p:=Ac.new ((a.alloc (.cells b 132)).alloc (.cells #[I0 n,I0 e] 240)) (AA us rb c.bs.size f) 140;have r:(a.alloc (.cells b 132)).heap.size=w.heap.size+1+1+1:=by simp[g]
 have u:((a.alloc (.cells b 132)).alloc (.cells #[I0 n,I0 e] 240)).heap.size=w.heap.size+1+1+1+1:=by simp[g]
 rw[g]at k;rw[r]at o;rw[u]at p;exact⟨((v.below ((aO _ _).alloc (aB _) _)).below ((aO _ _).alloc (aB _) _)).below ((aO _ _).alloc (aB _) _),Ac.alloc (Ac.alloc k _) _,Ac.alloc o _,p⟩
theorem LZ.drewN{c w st h rb b f e n g j W}(a:LZ c w st rb b f e j n g h W)(m):LZ c w st rb b f e j n g h (W.drewN m):=
 ⟨a.DY.drewN m,a.part,a.dep,a.ub⟩
theorem LZ.next{c w st p o f v u h g n k r W e}(a:LZ c w st o f v u r n k p W)(b:Fr W.heap.size c.pb W e)(j:FW e c.pb c.gb c.bs h c.N g 0):LZ c w st o f h g r n k p e:=by
 obtain⟨x,y,z,A⟩:=a.DY.next b j;have B:=a.DY.lt;exact⟨⟨x,j,y,z,A,B⟩,b.Ap a.part a.part.lt kX,b.Ap a.dep a.dep.lt kX,b.Ap a.ub a.ub.lt kX⟩
theorem LZ.below{c w st o k f h g n j p W e}(a:LZ c w st k f h g p n j o W)(b:Below W.heap.size W e):LZ c w st k f h g p n j o e:=
 ⟨a.DY.below b,a.part.below b a.part.lt,a.dep.below b a.dep.lt,a.ub.below b a.ub.lt⟩
theorem LZ.Ahk{c w st r p e h g n j u W}(a:LZ c w st p e h g u n j r W)(b f):
 LZ c w st p e h g u n j {r with pl:=b,en:=f} ((W.setCell (A0 (w.heap.size+1+1+1+1) 0) (I0 b)).setCell (A0 (w.heap.size+1+1+1+1) 1) (I0 f)):=by
 have v:=a.DY.lt;have k:=Bf a.DY.sa.rd a.ub lC;have o:=Bf a.DY.sa.dp a.ub lC;refine⟨⟨(a.DY.fr.setCell (p:=(A0 (w.heap.size+1+1+1+1) 0)) (Or.inr lB) _).setCell (p:=(A0 (w.heap.size+1+1+1+1) 1)) (Or.inr lB) _,?_,⟨?_,?_,a.DY.sa.Qv,a.DY.sa.Og⟩,?_,?_,v⟩,?_,?_,?_⟩;exact Ac.Ad (Ac.Ad a.DY.pg (A0 (w.heap.size+1+1+1+1) 0) lB _) (A0 (w.heap.size+1+1+1+1) 1) lB _;exact Ac.Ad (Ac.Ad a.DY.sa.rd (A0 (w.heap.size+1+1+1+1) 0) k _) (A0 (w.heap.size+1+1+1+1) 1) k _;exact Ac.Ad (Ac.Ad a.DY.sa.dp (A0 (w.heap.size+1+1+1+1) 0) o _) (A0 (w.heap.size+1+1+1+1) 1) o _;exact Ac.Ad (Ac.Ad a.DY.box (A0 (w.heap.size+1+1+1+1) 0) lB _) (A0 (w.heap.size+1+1+1+1) 1) lB _;exact Ac.Ad (Ac.Ad a.DY.res (A0 (w.heap.size+1+1+1+1) 0) lB _) (A0 (w.heap.size+1+1+1+1) 1) lB _;exact Ac.Ad (Ac.Ad a.part (A0 (w.heap.size+1+1+1+1) 0) lB _) (A0 (w.heap.size+1+1+1+1) 1) lB _;exact Ac.Ad (Ac.Ad a.dep (A0 (w.heap.size+1+1+1+1) 0) lB _) (A0 (w.heap.size+1+1+1+1) 1) lB _;exact(a.ub.set 0 _).set 1 _
theorem Th(c)(p:DK c)(Y)(d7:OB c Y)(w st g j U X)(o:Cp c w st g j U X)(b x V de c5)(af:At c.As b (x::V))(al:Kc x)(ao:x.c=119)(M:¬ st.en-st.pl<(st.Ai x.d.toNat).1)(d5:Fa de V)(d6:BK c.R false c5 V)(d3:U<=100000)(d4:U<Y):
 Calls prog 96 #[P0 c.pb,I0 b,.agg (AA st g c.bs.size j)] w fun e w'=>AO c w (BU (tryT c.G c.bs c.N Y) (st.Ai x.d.toNat).1 V U X st) e w':=by
 refine k2 ?_;intro f ah av ax aw an ay az a0 a1 ad bk bd bl aj ap ar ae;refine lT ?_;intro b0 bx b1 d M ak ba bm cc ce cd n bh a ac;have d9:∀ A B F,(((w.alloc A).alloc B).alloc F).cell? (A0 j (d*2))=some (I0 n):=fun A B F=>by
  exact JJ
 have ea:∀ A B F,(((w.alloc A).alloc B).alloc F).cell? (A0 j (d*2+1))=some (I0 a):=fun A B F=>by
  exact Gg
 rw[ak]at an;rw[ao]at ah;rw[bh]at ce M;rw[ac]at cd;have dl:=Aa af.tail;have ds:=Aa d5;have db:=Aa d6;have dp:=Aa d7;have da:=Aa p;have dm:=Aa o.A9;have Z:=Aa o.inv;have c8:=Aa (EW.new o);have c3:=Aa (show BU (tryT c.G c.bs c.N Y) (st.Ai d).1 V U X st=BV n st (tryT c.G c.bs c.N Y U X false V {st with en:=st.pl+n})by unfold BU;rw[bh];rw[aC M]);generalize BU (tryT c.G c.bs c.N Y) (st.Ai d).1 V U X st=c4 at*;refine kF ?_;intro au;unfold AA AE at c8 au;unfold AA;have eb:¬ (st.en:Int)-(st.pl:Int)<(n:Int):=kX;go_enter func96,ntmps96;go_wp2_with fail;generalize(w.alloc (.cells (X_0 st.pl st.en g c.bs.size c.bs.size j st.Af) 140)).alloc (.cells X_2 140)=dc at*;have J:Hid (LZ c w st g j U X (X_16 x.w x.b x.r d x.pl (b+x.nx) x.rl) n a {st with en:=st.pl+n} (((dc.alloc (.cells (X_16 x.w x.b x.r d x.pl (b+x.nx) x.rl) 132)).alloc (.cells #[I0 n,I0 a] 240)).alloc (.cells (X_0 st.pl (st.pl+n) g c.bs.size c.bs.size j st.Af) 140))):=LZ.new (us:={st with en:=st.pl+n}) c8.o au;generalize((dc.alloc (.cells (X_16 x.w x.b x.r d x.pl (b+x.nx) x.rl) 132)).alloc (.cells #[I0 n,I0 a] 240)).alloc (.cells (X_0 st.pl (st.pl+n) g c.bs.size c.bs.size j st.Af) 140)=dd at*;have c2:=J.o.DY.pre da.o dm.o Z.o;have dj:Cp c dd ({st with en:=st.pl+n}) g j U X:=⟨c2.pg,c2.A9,c2.rd,c2.dp,⟨by simp only;omega,by simp only;omega,Z.o.rd,Z.o.Af,Z.o.Ai⟩⟩;have dz:=dp.o dd ({st with en:=st.pl+n}) g j U X V (b+1) de false c5 false dj dl.o ds.o db.o d3 d4;have dq:Hid ((tryT c.G c.bs c.N Y U X false V ({st with en:=st.pl+n})).ok=true->Dt c.bs c.N ({st with en:=st.pl+n}) (hidV V) (tryT c.G c.bs c.N Y U X false V ({st with en:=st.pl+n}))/\(tryT c.G c.bs c.N Y U X false V ({st with en:=st.pl+n})).e=0):=fun r=>(BQ c.G da.o.JI Y).fit U X false false c5 V _ db.o dj.inv r
 generalize ec:tryT c.G c.bs c.N Y U X false V ({st with en:=st.pl+n})=h at*;have ab:=Aa dz;refine l6 ?_;intro w2 S v u z L K be cg co cf a4 bi bo bb br c0 b7 b6 cy cz bu a2 a9 bv bg _ a5 a6 bf a7 a8 bq;have bz:=Aa a4;have b3:=Aa cg;have cx:=Aa co;have dr:=Aa cf;have cs:=Aa S;unfold EI AA
 cases r:h.ok
 have y:=Aa (show c4=h by rw[c3.o];unfold BV;rw[aC Bc]);exact g8;obtain⟨c6,df⟩:=dq.o r;obtain⟨du,dv,b4⟩:=dr.o r;obtain⟨dw,dx⟩:=cx.o df;subst du;subst dv;subst dw;subst dx;rw[df]at b3;have d8:=c6.ge;have ed:=c6.inv.pl;have ee:=c6.inv.en
 try simp only at d8
 refine l8 ?_;intro b5 O ai b2;have dk:q_ w2 (w.heap.size+1+1) 0 (.int .u8 119):=(J.o.next cs.o b3.o).part.cell 0;have ef:q_ w2 (w.heap.size+1+1+1+1) 1 (I0 (st.pl+n)):=(J.o.next cs.o b3.o).ub.cell 1;refine l9 ?_;intro b8 b9 ca;by_cases di:h.st.pl=st.pl+n
 . have y:=Aa (show c4=BW h.fuel h.far {h.st with en:=st.en} h.t by rw[c3.o];unfold BV;rw[aF r,aC (fun dy=>dy di)]);have c7:(h.st.pl:Int)=(st.pl:Int)+(n:Int):=kX;simp only[c7]at b5 O ai b2⊢;go_wp2_with fail;have E:=Aa b5;have ch:=Aa O;have I:=Aa ai;generalize w2.alloc (.cells (X_0 (st.pl+n) h.st.en u c.bs.size c.bs.size z h.st.Af) 140)=dt at*;obtain⟨bu,a2,a9,bv,bg,_⟩:=E.o.DY.box.Bi;have dk:=E.o.part.c0;refine lU ?_;intro cq d1 cp ct cu cv cr cw cb a5 a6 bf a7 a8 bq;go_quiet (fail);refine la ?_;intro cl ck cn cm;refine aT (v:=.tuple #[.agg (AA ({h.st with en:=st.en}) u c.bs.size z),.string ⟨h.t.toArray⟩,.bool true]) (by simp[results,results96,go_sem,AA,c7,a5,a6,bf,a7,a8]) rfl ?_;exact jg
 have y:=Aa (show c4=CK h.fuel h.far h.st.pl st by rw[c3.o];unfold BV;rw[aF r,aF di]);have c7:¬ (h.st.pl:Int)=(st.pl:Int)+(n:Int):=kX;go_wp2_with fail;have E:=Aa b5;have ch:=Aa O;have I:=Aa ai;generalize w2.alloc (.cells (X_0 h.st.pl h.st.en u c.bs.size c.bs.size z h.st.Af) 140)=dt at*;obtain⟨bu,a2,a9,bv,bg,_⟩:=E.o.DY.box.Bi;have dk:=E.o.part.c0;refine lU ?_;intro cq d1 cp ct cu cv cr cw cb a5 a6 bf a7 a8 bq;have c9:=Aa E.o.DY;refine(CH _ c.pb c.gb c.bs h.fuel c.N h.far 0 h.st.pl st g c.bs.size j c9.o.pg).mono ?_;rintro e eg⟨rfl,dh,d0⟩;obtain⟨a4,bi,bo,bb⟩:=c9.o.next d0 dh;obtain⟨am,aq,a3,bc,bj,eh⟩:=bb.Bi;have ci:=Aa a4;have cj:=Aa dh;unfold EI AA;go_wp2;refine aT (v:=.tuple (X_5 (AA st g c.bs.size j) (⟨#[]⟩))) Kn rfl ?_;rw[y.o];exact Gl
section
def EnK(m:Mx)(R:Nat->Bool)(a:We):Prop:=CR a.As/\Al m.s a.t/\BK R false true a.As
def EnA(m:Mx)(R:Nat->Bool)(D:Dp):Prop:=∀ a∈D.es,EnK m R a/\a.hid<D.AS.length
def GR(m:Mx)(R:Nat->Bool)(D D':Dp):Prop:=D.AS.length<=D'.AS.length/\(EnA m R D->EnA m R D')
def Abz(R:Nat->Bool)(hid:aM Nat)(n:Nat)(b:aD It):Prop:=b=[]\/∃ e a,BK R e a b/\(a=true->∃ i,hid=some i/\i<n)
def WE(m:Mx)(R:Nat->Bool)(W:aD It->aM Nat->Nat->Dp->Pr):Prop:=∀ a hid t D,Abz R hid D.AS.length a->CR a->Al m.s t->GR m R D (W a hid t D).D
section
variable {m:Mx} {R:Nat->Bool}
theorem GR.refl(D):GR m R D D:=⟨aB _,id⟩
theorem GR.trans{D D' a}(h:GR m R D D')(b:GR m R D' a):GR m R D a:=⟨bQ h.1 b.1,fun e=>b.2 (h.2 e)⟩
theorem GR.of{D D'}(b:D'.es=D.es)(h:D.AS.length<=D'.AS.length):GR m R D D':=⟨h,fun a x e=>⟨(a x (b▸e)).1,bM (a x (b▸e)).2 h⟩⟩
theorem SC(a b D):(IZ a b D).AS.length=D.AS.length:=by
 cases a with
 | nil=>rfl
 | cons f e=>unfold IZ;simp only;split<;>simp[Ek]
theorem R8{h}{W:aD It->Nat->Dp->Pr}:∀ b i sm D,(∀ k∈b,∀ i D,Al m.s i->h<D.AS.length->((W k i D).ok=true->Al m.s (W k i D).p)/\GR m R D (W k i D).D)->Al m.s i->h<D.AS.length->GR m R D (pKids m.s W h b i sm D).D
 | [],i,sm,D,hW,hi,a=>GR.refl _
 | k::b,i,sm,D,hW,hi,a=>by
  have g:=fun i sm D=>R8 (h:=h) b i sm D (fun k p=>hW k (aH _ p))
  rw[pKids];split;exact(GR.of (U6 k h D).1 (by rw[SC];omega)).trans (g i sm (IZ k h D) hi (by rw[SC];exact a));split;exact GR.refl _;rename_i o;have f:Al m.s (if sm=true then i+1 else i):=by
   cases sm with
   | true=>exact hi.one (by simp at o;omega)
   | false=>exact hi
  generalize(if sm=true then i+1 else i)=u at f;obtain⟨j,e⟩:=hW k aG u D f a;unfold Gu;split;rename_i r;exact e.trans (g _ true _ (j r) (bM a e.1));exact e
theorem SB{W:Nat->Dp->Pr}{e:Nat->Dp->Dp}(j:∀ i D,Al m.s i->((W i D).ok=true->Al m.s (W i D).p)/\GR m R D (W i D).D)(h:∀ a D,GR m R D (e a D)):∀ f i a D,Al m.s i->GR m R D (pList m.s W e f i a D).D
 | 0,i,a,D,hi=>GR.refl _
 | f+1,i,a,D,hi=>by
  rw[pList];split;exact h a D;split;exact GR.refl _;rename_i p;have k:Al m.s (if a=0 then i else i+1):=by
   by_cases b:a=0;rw[aF b];exact hi;rw[aC b];exact hi.one (by simp[b]at p;omega)
  generalize(if a=0 then i else i+1)=u at k;obtain⟨o,g⟩:=j u D k;unfold Gu;split;rename_i r;exact g.trans (SB j h f _ _ _ (o r));exact g
theorem Vf(_:E5 m){W:aD It->aM Nat->Nat->Dp->Pr}(K:WJ m 0 W)(z:WE m R W)(a hid t D){X x}(E:BK R X x a)(M:CR a)(u:Al m.s t):GR m R D (KV m W a hid t D).D:=by
 cases a with
 | nil=>exact GR.refl _
 | cons o b=>
  have O:=M.tail;have k:∀ a∈segs b.length b,CR a/\BK R (decide (o.c=40)) (decide (o.c=40)||(x&&AY [119,64,115] o.c)) a:=fun a f=>by
   obtain⟨g,h⟩:=E
   cases g with
   | zero=>exact h.elim
   | succ g=>exact⟨O.sub (Ch _ _ _ f),g,h.2.2.2.2.2.2 a f⟩
  have F:∀ a hid i D,Abz R hid D.AS.length a->CR a->Al m.s i->((W a hid i D).ok=true->Al m.s (W a hid i D).p)/\GR m R D (W a hid i D).D:=fun a hid i D J y j=>⟨fun f=>((K a hid i D y j (bR _)).ok f).1,z a hid i D J y j⟩
  unfold KV;simp only;split;split;exact GR.of rfl (aB _);exact GR.refl _;split;exact GR.of rfl (aB _);split;split;split;exact GR.of rfl (aB _);exact GR.of rfl (aB _);exact GR.refl _;split;split;rename_i f;exact(GR.of (D:=D) (D':=Ou D) rfl (by simp[Ou])).trans (R8 (h:=D.AS.length) (W:=fun a i D'=>W a (some D.AS.length) i D') _ _ _ _ (fun a B i D' v L=>F a (some D.AS.length) i D' (Or.inr ⟨_,_,(k a B).2,fun _=>⟨_,rfl,L⟩⟩) (k a B).1 v) (u.one kX) (by simp[Ou]));exact GR.refl _;split;rename_i I;split;rename_i f;obtain⟨_,_,j⟩:=u.cho f;have A:Abz R none D.AS.length ((segs b.length b).getD (bt m.s (t+1)-48).toNat [])/\CR ((segs b.length b).getD (bt m.s (t+1)-48).toNat []):=by
   rw[aZ]
   cases U:(segs b.length b)[(bt m.s (t+1)-48).toNat]? with
   | none=>exact⟨Or.inl rfl,by simp,fun o V=>by cases V⟩
   | some a=>obtain⟨p,r⟩:=k a (bH U);exact⟨Or.inr ⟨_,_,r,fun e=>by rw[I]at e;simp[AY]at e⟩,p⟩
  exact z _ none _ D A.1 A.2 j;exact GR.refl _;split;rename_i c6;split;rename_i f;have S:segs b.length b=[b]:=by
   obtain⟨g,h⟩:=E
   cases g with
   | zero=>exact h.elim
   | succ g=>exact h.2.2.2.2.2.1 (by rcases c6 with e|e<;>rw[e]<;>rfl)
  obtain⟨p,r⟩:=k b (by rw[S];simp);exact SB (fun i D v=>F b none i D (Or.inr ⟨_,_,r,fun e=>by rcases c6 with c6|c6<;>rw[c6]at e<;>simp[AY]at e⟩) p v) (fun Y D=>by split;exact GR.of rfl (aB _);exact GR.refl _) _ _ _ _ (u.one kX);exact GR.refl _;exact GR.refl _
theorem LO{G}(k:∀ i,R i=true->BK R false false (G i)):∀ n b e q,b.c=82->(∃ r g,BK R r g (b::e))->ruleEnd G n (b::e)=some q->BK R false false q
 | 0,b,e,q,hx,h,a=>by cases a
 | n+1,b,e,q,hx,h,a=>by
  have f:=k b.r.toNat (by
   obtain⟨r,g,j,o⟩:=h
   cases j with
   | zero=>exact o.elim
   | succ j=>exact o.2.2.2.1 hx)
  rw[ruleEnd]at a
  cases p:G b.r.toNat with
  | nil=>rw[p]at a;cases a
  | cons v x=>
   rw[p]at a f;simp only at a;split at a;rename_i u;exact LO k n v x q u ⟨_,_,f⟩ a
   cases a;exact f
theorem XV{G}(y:∀ i,CR (G i))(z:∀ i,R i=true->BK R false false (G i))(p:E5 m){n}{W:aD It->aM Nat->Nat->Dp->Pr}(j:WJ m 0 W)(k:WE m R W):∀ r hid t D,Abz R hid D.AS.length r->CR r->Al m.s t->GR m R D (pIn m G n W r hid t D).D
 | [],hid,t,D,_,_,_=>GR.refl _
 | x::f,hid,t,D,b,o,hal=>by
  obtain⟨ab,u,b,A⟩:=b.resolve_left kY;have g:x.c=64\/x.c=119\/x.c=115->BK R false true f/\u=true:=fun aa=>by
   obtain⟨h,E⟩:=b
   cases h with
   | zero=>exact E.elim
   | succ h=>
    obtain⟨_,_,U,_,_,Z,Y⟩:=E;have S:AY [119,64,115] x.c=true:=by rcases aa with e|e|e<;>rw[e]<;>rfl
    have B:=U hg;have M:=Z hg;have O:=Y f (by rw[M];simp);have K:x.c≠40:=kX;exact⟨⟨h,by simpa[K,B,S]using O⟩,B⟩
  have I:=fun v=>XV y z p (n:=n) j k f hid t D (Or.inr ⟨_,_,(g v).1,fun _=>A (g v).2⟩) o.tail hal
  rw[pIn];split;rename_i e;exact(I (Or.inr (Or.inl e))).trans (GR.of rfl (aB _));split;rename_i e;exact(I (Or.inr (Or.inr e))).trans (GR.of rfl (aB _));split;rename_i e;refine⟨aB _,fun V J a=>?_⟩;rcases aV.1 (show J∈D.es++[_]from a)with a|a;exact V J a;simp at a;subst a;obtain⟨i,rfl,X⟩:=A (g (Or.inl e)).2;exact⟨⟨o.tail,hal,(g (Or.inl e)).1⟩,X⟩;split;rename_i L;split;exact GR.refl _;rename_i q F;exact Vf p j k q none t D (LO z 8 x f q L ⟨ab,u,b⟩ F) (Ip y 8 _ q F) hal;exact Vf p j k (x::f) hid t D b o hal
theorem Va{G}(a:∀ i,CR (G i))(e:∀ i,R i=true->BK R false false (G i))(b:E5 m):∀ n,WE m R (pT m G n)
 | 0=>fun _ _ _ _ _ _ _=>GR.refl _
 | n+1=>fun j hid t D h g f=>XV a e b (QM b a n) (Va a e b n) j hid t D h g f
end
def allP(m:Mx)(G:Nat->aD It):Nat->Nat->Dp->aD (aD Sp)->aD (aD Sp) × Bool × Dp
 | 0,_,D,b=>(b,false,D)
 | f+1,i,D,b=>match D.es[i]? with
  | none=>(b,true,D)
  | some a=>if((pT m G (a.n+1) a.As (some a.hid) a.t (Dx {D with cur:=[]} a.ho D.o.length)).ok&&decide ((pT m G (a.n+1) a.As (some a.hid) a.t (Dx {D with cur:=[]} a.ho D.o.length)).p=m.sk a.t))=true then
   allP m G f (i+1) (pT m G (a.n+1) a.As (some a.hid) a.t (Dx {D with cur:=[]} a.ho D.o.length)).D (b++[(pT m G (a.n+1) a.As (some a.hid) a.t (Dx {D with cur:=[]} a.ho D.o.length)).D.cur])
   else(b++[(pT m G (a.n+1) a.As (some a.hid) a.t (Dx {D with cur:=[]} a.ho D.o.length)).D.cur],false,(pT m G (a.n+1) a.As (some a.hid) a.t (Dx {D with cur:=[]} a.ho D.o.length)).D)
def TB(m:Mx)(G:Nat->aD It)(D:Dp):aD (aD Sp) × Bool × Dp:=if((pT m G (m.s.size+1) (G 0) none 0 D).ok&&decide ((pT m G (m.s.size+1) (G 0) none 0 D).p=m.s.size))=true then allP m G 100000000 0 (pT m G (m.s.size+1) (G 0) none 0 D).D [(pT m G (m.s.size+1) (G 0) none 0 D).D.cur]else([(pT m G (m.s.size+1) (G 0) none 0 D).D.cur],false,(pT m G (m.s.size+1) (G 0) none 0 D).D)
end
theorem WF(h:p:=by
 simp only[AY,cQ,dG,cN,cH,dA]at hi;rcases hi with e|e|e<;>(rw[<- e];decide)):p:=h
def K9(f e:Bool)(b:aD It)(g:Sc):Prop:=∃ a h,b.length<=a/\(walkV a f e b (g,h)).2.2=false
def EU(st:Wr)(hid:aM Nat)(e:Sc):Prop:=∀ d,e.hid d≠none->∃ i a b,hid=some i/\st.AS[i]? = some a/\a d=some b
theorem EU.up{N p st e hid b sc'}(r:EU st hid b)(hu:HU N p st e)(u:sc'.hid=b.hid):EU e hid sc':=fun d a=>by
 rw[u]at a;obtain⟨i,k,v,f,g,c⟩:=r d a;obtain⟨o,x,h,j⟩:=hu.set i k d v g c;exact⟨i,o,x,f,h,j⟩
theorem EU.hole{st hid e}(f:EU st hid e){d}(g:e.hid d≠none):∃ i a,hid=some i/\st.AS[i]? = some a/\a d=some (holeOf st hid d):=by
 obtain⟨i,a,h,rfl,b,c⟩:=f d g;refine⟨i,a,rfl,b,?_⟩;rw[c];simp[holeOf,b,c]
theorem K9.use{k b a o e}(g:K9 k b (a::o) e)(hu:AN a.c=true):b=true/\e.hid a.d.toNat≠none:=by
 obtain⟨f,r,h,j⟩:=g
 cases f with
 | zero=>simp at h
 | succ p=>exact PX hu j
theorem W1{b f a e}{q:Sc × (Int × Bool)}:Eg b f a [e] q=walkV b f a e q:=rfl
theorem K9.inner{g f a b h}(x:K9 g f (a::b) h)(hi:AY [119,64,115] a.c=true)(A:segs b.length b=[b]):∃ r,r.hid=h.hid/\K9 false true b r:=by
 obtain⟨v,u,p,j⟩:=x
 cases v with
 | zero=>simp at p
 | succ k=>
  have hu:AN a.c=true:=by
   exact WF
  have z:Ae a.c=false:=by
   exact WF
  have y:a.c≠40:=fun e=>by rw[e]at hu;exact absurd hu lC
  have o:=(PX hu j).1;rw[Fl k g f a b _ y,A,W1,hi,o]at j;refine⟨(Dj g f a (h,u)).1,O7 z,k,(Dj g f a (h,u)).2,by simp at p;omega,?_⟩;rw[o];exact j
theorem NR{e f b}:∀ a q,(Eg e f b a q).2.2=false->∀ i (g:i<a.length),(walkV e f b a[i] (Eg e f b (a.take i) q)).2.2=false/\Eg e f b (a.take (i+1)) q=walkV e f b a[i] (Eg e f b (a.take i) q)
 | [],_,_,i,g=>by simp at g
 | k::a,q,h,0,_=>⟨FB (ks:=a) h,by simp[Eg]⟩
 | k::a,q,h,i+1,g=>by
  have:=NR a (walkV e f b k q) h i (by simpa using g);simpa[Eg]using this
theorem K9.other{o e b a y}(r:K9 o e (b::a) y)(u:b.c≠40)(v:AY [119,64,115] b.c=false):∀ k∈segs a.length a,∃ z,K9 false false k z:=by
 intro k g;obtain⟨p,B,h,j⟩:=r
 cases p with
 | zero=>simp at h
 | succ f=>
  rw[Fl f o e b a _ u,v,gS]at j;obtain⟨i,x,rfl⟩:=fT g;have:=(NR _ _ j i x).1;have A:=(Ch _ _ _ g).length_le;exact⟨_,f,_,by simp at h;omega,this⟩
def Sf:aD (aD It)->Sc->Prop
 | [],_=>True
 | k::ks,sc=>K9 true true k sc/\∃ b,((∀ a t,k=a::t->Ae a.c=false)->b.hid=sc.hid)/\(∀ a t,k=a::t->Ae a.c=true->b.hid=fun d=>if d=a.d.toNat then some a.pl else sc.hid d)/\Sf ks b
theorem Sf.of{a}:∀ b e f,(∀ k∈b,k.length<=a)->(Eg a true true b (e,f)).2.2=false->Sf b e
 | [],_,_,_,_=>trivial
 | k::b,e,f,hl,h=>by
  rw[JA]at h;have g:=FB h;have j:=hl k aG;refine⟨⟨a,f,j,g⟩,(walkV a true true k (e,f)).1,fun r=>KS a true true k _ g (fun _=>r),fun u t o p=>?_,Sf.of b _ (walkV a true true k (e,f)).2 (fun k h=>hl k (aH _ h)) h⟩;subst o
  cases a with
  | zero=>simp at j
  | succ a=>exact T4 p g
theorem K9.kids{k h g a y}(r:K9 k h (g::a) y)(u:g.c=40):Sf (segs a.length a) FN:=by
 obtain⟨o,b,j,e⟩:=r
 cases o with
 | zero=>simp at j
 | succ f=>
  rw[I2 f k h g a _ u]at e;have x:(Eg f true true (segs a.length a) (FN,b)).2.2=false:=by
   cases p:(Eg f true true (segs a.length a) (FN,b)).2.2 with
   | false=>rfl
   | true=>have:=P1 (Eg f true true (segs a.length a) (FN,b)).1 _ p;rw[this]at e;exact e
  exact Sf.of _ _ b (fun z v=>by have:=(Ch _ _ _ v).length_le;simp at j;omega) x
theorem LP{b}:∀ e st,(BL b e st).2=false->∀ g∈e,∃ a,(walkV b false false g.As (FN,a)).2.2=false
 | [],_,_,g,f=>by simp at f
 | q::e,st,h,g,f=>by
  have u:∀ l a,a.2=true->(BL b l a).2=true:=fun l a v=>Fe (fun a:Int × Bool=>a.2=true) _ (fun o k r=>Hx b false false k.As (FN,o) r) l a v
  have j:(BL b e (walkV b false false q.As (FN,st)).2).2=false:=h;rcases bB.1 f with rfl|f
  . refine⟨st,?_⟩
    cases p:(walkV b false false g.As (FN,st)).2.2 with
    | false=>rfl
    | true=>rw[u e _ p]at j;exact j
  exact LP e _ j g f

import Derived.Test.YtmlkhhhjdpbhfaaGreatDoorGe28
import Derived.Test.YtmlkhhhjdpbhfaaGreatDoorGe13
import Derived.Test.YtmlkhhhjdpbhfaaGreatDoorGe29
namespace Go.Proofs.YtmlkhhhjdpbhfaaGreatDoor
open Go.RowKit Go.Proofs.Tryz
set_option maxHeartbeats 4000000
set_option maxRecDepth 100000
variable{p q:Prop}(z:q)
theorem mg(h:p:=by
 go_wp2_with fail;refine ae.o.mono ?_;rintro e aj⟨rfl,rfl⟩;rw[a];go_wp2;go_ret3;rw[ah.o];exact⟨rfl,ad.o⟩):p:=h
def dm0:Dm:=⟨[],[],[],[],[],fun _=>.slice none 0 0,[]⟩
theorem D4.fresh{c}(s)(b:c.pb=c.w0.heap.size):D4 c s (c.w0.alloc (.cells #[P0 c.gb,.string s,.string ⟨#[]⟩,.slice none 0 0,.slice none 0 0,.slice none 0 0] 91)) dm0:=by
 refine⟨by rw[b];exact Ac.new _ _ _,fun i k=>?_,fun i e j f=>by simp[dm0]at f,rfl,by simp[Dm.rows,dm0,Value.ownBlock],fun e a=>?_,fun l h=>(by cases h),(aO _ _).alloc (aB _) _⟩;have g:i=0\/i=1\/i=2:=kX;rcases g with rfl|rfl|rfl<;>exact cC _ _ _ _
 simp[Dm.rows,dm0,Value.ownBlock]at a;subst a;rw[b];simp
theorem Td(s z)(eo:s.size<=maxLen)(eq:z.size<=maxLen)(v w):
 Calls prog 28 #[.string s,.string z,I0 v] w fun e w'=>e=.returned (.tuple #[.string ⟨(EK s z v).1.toArray⟩,I0 (EK s z v).2.1,I0 (EK s z v).2.2])/\Below w.heap.size w w':=by
 have dt:=Aa (TZ s eo w);have d0:=Aa (same s);have bk:=Aa (fun W=>dtree_calls z W);unfold maxLen at eq;go_enter func28,ntmps28;go_wp2_with fail;refine dt.o.mono ?_;rintro e w1⟨fo,rfl,X,b4⟩;rw[<- d0.o]at b4⊢;have ad:=Aa X;have bj:=Aa b4;have a9:=X.size;clear X b4;by_cases B:(Be s).1=0
 case neg=>
  have ah:=Aa (show EK s z v=([],(Be s).1,(Be s).2)by unfold EK;rw[aF B]);have fk:(Be s).1≠0:=B;clear bj bk;generalize(Be s)=q at*;obtain⟨fp,fq⟩:=q;go_wp2;go_ret3;rw[ah.o];exact⟨rfl,ad.o⟩
 have dl:=LV s B;obtain⟨cu,g,c,cs,ct,rfl,cy,hF,c8⟩:=bj.o dl;obtain⟨_,bu,_,_⟩:=F8 s B;rw[dl];simp only;have U:=Aa (fun(W:aE) (k:Below w1.heap.size w1 W) (bs:aA) (N:Nat) (ab:bs.size<=4000) (ac:N<=10000)=>Agn s W cu g c cs ct B (cy.below k) (hF.below k hF.lt) c8 bs N ab ac);have ae:=Aa (bk.o w1);clear cy hF c8 bj bk
 cases a:(C1 z).1 with
 | none=>
  have ah:=Aa (show EK s z v=([],9,((C1 z).2:Int))by unfold EK;rw[aC (fun h=>h B),a]);clear U;exact mg
 | some ak=>
  obtain⟨bm,b9,df⟩:=ZB a;by_cases c3:v<0\/(¬ v<0/\4000<v)
  . have ah:=Aa (show EK s z v=([],5,0)by
     have X:IX v 4000=false:=by unfold IX;simp;omega
     unfold EK;rw[aC (fun h=>h B),a];simp only;rw[aF X])
    clear U;rcases c3 with h|⟨h,ac⟩;all_goals
     exact mg
  obtain⟨O,rfl,ej⟩:∃ n:Nat,v=(n:Int)/\n<=4000:=⟨v.toNat,by omega,by omega⟩;obtain⟨m,rfl,b0⟩:=Afu z bm;have bo:=Z0 s B;have cz:=HE bm (m.s.size+1) 0 ak m.s.size (bR _) b9 (Or.inl rfl) (Al.end _);have c6:=U.o w1 (aO _ _) ⟨#[]⟩ 0 (bR _) (bR _);obtain⟨R,bp⟩:∃ R,TB m (rulePt (Cy s)) Dp0=R:=⟨_,rfl⟩;have be:=Aa (show Calls prog 44 #[P0 w1.heap.size] _ fun e w'=>QT _ m R e w' from bp▸WC _ c6 m b0 bo.1 (Fo s bu) _ dm0 (D4.fresh m.s rfl) rfl cz);have a8:=Aco bo (Fo s bu) b0 ak b9;rw[bp]at a8;have dw:=Aa (Fo s bu);have fe:¬ (O:Int)<0:=kX;have ff:¬ (4000:Int)<(O:Int):=kX;obtain⟨st,b8⟩:∃ st,YZ (rulePt (Cy s)) m.s.size ak=st:=⟨_,rfl⟩;have cp:=Aa (fun I=>Acm B a ej I b8);have cq:=Aa (show Db (rulePt (Cy s)) (m.s.size+1) (rulePt (Cy s) 0) ak=false->EK s m.s (O:Nat)=([],10,0)from fun I=>by
   have ef:FL s m.s ak O=([],10):=by unfold FL HY;rw[aF I]
   have X:IX O 4000=true:=by unfold IX;simp;omega
   unfold EK;rw[aC (fun h=>h B),a];simp only[bE];rw[aC (by rw[X];simp),ef];rfl)
  rw[b8]at a8;have ax:=Aa a8;rw[a]at ae;clear cz c3 c6 bp a8 b8 b9 a bo b0 bm;go_wp2_with fail;refine ae.o.mono ?_;rintro e aj⟨rfl,rfl⟩;go_wp2_with fail;refine be.o.mono ?_;rintro e w2⟨ew,dq,d,rfl,bq,Z,b6,ca,a4⟩;have aw:=Aa Z.A9;have b7:=Z.A9.size;simp only at b7
  cases I:Db (rulePt (Cy s)) (m.s.size+1) (rulePt (Cy s) 0) ak with
  | false=>
   rw[ax.o.2 I];have ah:=Aa (cq.o I);clear Z b6 a4 ax be U bq;go_wp2;go_ret3;rw[ah.o];exact⟨rfl,ad.o.trans (aw.o.mono a9)⟩
  | true=>
   obtain⟨D,rfl,a3⟩:=ax.o.1 I;have ah:=Aa (cp.o I);simp only at bq ca a4;subst bq;have db:d.o.length=st.out.length:=by rw[a3.out];exact(Hv _ _ a3.UQ).symm
   have d8:q_ w2 aj.heap.size 2 (.string ⟨d.o.toArray⟩):=Z.Ap.cell 2;have es:(⟨d.o.toArray⟩:aA).size=d.o.length:=Cv _;have bh:=Aa Z;have K:=Aa a3;have al:=Aa b6;have bf:=Aa a4;clear Z b6 a4 ax be a3 cp cq I ae;by_cases dc:O<st.out.length
   . have ei:(O:Int)<(d.o.length:Int):=by omega
     have am:=Aa (ah.o.trans (aF dc));clear ah bh K al bf U;go_wp2;go_ret3;rw[am.o];exact⟨rfl,ad.o.trans (aw.o.mono a9)⟩
   have ei:¬ (O:Int)<(d.o.length:Int):=kX;have am:=Aa (ah.o.trans (aC dc));clear ah;go_wp2;go_loopw [17,18,19] (fun av ch _ wr=>∃ i:Nat,ch=I0 i/\i<=d.ts.length/\av=.string ⟨(EA (d.ts.take i) d.o).toArray⟩/\Hid ((∀ t∈d.ts.take i,t.2<256 ^ t.1.w)/\Below w2.heap.size w2 wr)) (fun _ ch _ _=>d.ts.length-(intOf ch).toNat)
   case atStart=>exact⟨0,rfl,bR _,rfl,⟨fun t h=>by simp at h,aO _ _⟩⟩
   case round=>
    clear d8 es;obtain⟨i,rfl,eg,rfl,p⟩:=hrel;have ar:=bh.o.more p.out.2;obtain⟨A,n,j,bb,ek,dd⟩:∃ A n j,d.rv 1=.slice A n j/\n=d.ts.length/\(0<n->∃ g,A=some (A0 g 0)/\n<=j/\j<=maxLen):=by
     rcases Fk (ar.row 1 kX)with h|⟨g,j,h,ab,ac⟩;exact⟨_,_,_,h.1,h.2.symm,fun h=>by omega⟩;exact jY
    have dp:q_ wr aj.heap.size 4 (.slice A n j):=(ar.Ap.cell 4).trans (by rw[<- bb];rfl);have a5:(EA (d.ts.take i) d.o).length=d.o.length:=XW K.o.UQ i;by_cases J:i<d.ts.length
    . obtain⟨ao,rfl,e7,ec⟩:=dd kX;unfold maxLen at ec;obtain⟨t,af⟩:∃ t,d.ts[i]=t:=⟨_,rfl⟩;have a6:=K.o.UQ t (af▸aU J);have x:∀ u,u<4->wr.cell? (A0 ao (i*4+u))=(Ta t)[u]? := fun u bv=>by
       have:=NA (f:=Ta) (k:=4) (l:=d.ts) (ar.row 1 kX) (fun _=>rfl) bb i u J bv;rw[af]at this;exact this
      have cd:q_ wr ao (i*4) (I0 (t.1.pl:Nat)):=x 0 kX;have ce:q_ wr ao (i*4+1) (I0 (t.1.w:Nat)):=x 1 kX;have cf:q_ wr ao (i*4+2) (.bool t.1.low):=x 2 kX;have cg:q_ wr ao (i*4+3) (I0 (t.2:Nat)):=x 3 kX;obtain⟨P,ap⟩:∃ P,256 ^ t.1.w=P:=⟨_,rfl⟩;have e6:=ap▸DS _ a6.2;have dy:=Aa (fun W=>ap▸K3 t.1.w a6.2 W);have M:=Wg d.ts d.o i J;rw[af]at M;have bi:=Aa M;have az:=Aa p.out;have dk:=fun h=>Aa8 J (by rw[af,ap];exact h)
      have d6:=Aa dk;have c9:t.1.pl+t.1.w<=(EA (d.ts.take i) d.o).length:=by rw[a5];exact a6.1
      have c7:(EA (d.ts.take i) d.o).length<=1000000000:=by rw[a5,db];omega
      have bg:=Aa (fun(h:t.2<P) W=>JN (EA (d.ts.take i) d.o) t.1 t.2 c7 c9 a6.2 kX W);have d5:=Aa (show t.2<P->∀ bd∈d.ts.take (i+1),bd.2<256 ^ bd.1.w from fun h bd V=>by
       rw[bN J,af]at V;rcases aV.1 V with V|V;exact p.out.1 bd V;simp at V;subst V;rw[ap];exact h)
      have cc:=p.out.2.size;clear p ar x bb M dk ap af c9 c7 a5;generalize EA (d.ts.take i) d.o=S at*;go_upto_region 20 with fail;obtain⟨o,E⟩:∃ W,wr.alloc (.cells #[I0 (t.1.pl:Nat),I0 (t.1.w:Nat),.bool t.1.low,I0 (t.2:Nat)] 98)=W:=⟨_,rfl⟩;have F:=E▸Ac.new wr _ _;have Y:=Aa (show∀ n,Below w2.heap.size w2 (o.drewN n)from fun n=>below_drewN (E▸az.o.2.alloc cc _) n);have e0:∀ n,(o.drewN n).cell? (A0 wr.heap.size 0)=some (I0 (t.1.pl:Nat)):=fun _=>F.cell 0
      have e1:∀ n,(o.drewN n).cell? (A0 wr.heap.size 1)=some (I0 (t.1.w:Nat)):=fun _=>F.cell 1
      have e2:∀ n,(o.drewN n).cell? (A0 wr.heap.size 2)=some (.bool t.1.low):=fun _=>F.cell 2
      have e3:∀ n,(o.drewN n).cell? (A0 wr.heap.size 3)=some (I0 (t.2:Nat)):=fun _=>F.cell 3
      rw[E];clear E F cd ce cf cg dp;go_quiet (first|(go_at_call 45;exact eP (dy.o _)));by_cases cb:t.2<P
      . have er:¬ (P:Int)<=(t.2:Int):=by omega
        go_wp2_with fail;refine(bg.o cb _).mono ?_;rintro e fr⟨rfl,c0⟩;have dr:=Aa ((Y.o nq).trans (c0.mono (Y.o nq).size));have dx:=Aa (d5.o cb);clear c0;go_wp2;go_roundw
        case rel=>exact⟨i+1,by go_num,by omega,by rw[bi.o],⟨dx.o,dr.o⟩⟩
        case measure=>simp[intOf];omega
      . have er:(P:Int)<=(t.2:Int):=by omega
        have an:=Aa (am.o.trans (aF (K.o.wide.trans (d6.o cb))));go_wp2;go_ret3;rw[an.o];exact⟨rfl,ad.o.trans ((aw.o.trans ((Y.o _).mono b7)).mono a9)⟩
    obtain rfl:i=d.ts.length:=kX;have em:¬ ((d.ts.length:Nat):Int)<(n:Int):=kX;have dj:=K.o.wide.trans (Yd (by have:=p.out.1;rw[fQ]at this;exact this));have an:=Aa (am.o.trans (aC (by rw[dj];simp)));have ay:=Aa K.o.wt.su;have az:=Aa p.out.2;rw[fQ,show EA d.ts d.o=st.out from K.o.out.symm];obtain⟨ey,au,e4,rfl,de,b1⟩:∃ A n j,ew=.slice A n j/\n=st.Au.length/\(0<n->∃ g,A=some (A0 g 0)/\n<=j/\j<=maxLen):=by
     rcases Fk al.o with h|⟨g,j,h,ab,ac⟩;exact⟨_,_,_,h.1,by omega,fun h=>by omega⟩;exact⟨_,_,_,h,ca,fun _=>⟨g,rfl,ab,ac⟩⟩
    have co:=Aa (show Gp st.Au au st.out=st.out by unfold Gp;rw[de,hE];rfl);have fi:au<=9223372036854775807:=by
     by_cases h:0<au;obtain⟨_,_,ab,ac⟩:=b1 h;unfold maxLen at ac;omega;omega
    clear p ar bb ek dd a5 am dj K bh;go_wp2;go_loopw [17,20,21,22] (fun av ci _ _ wr=>∃ f:Nat,ci=I0 (f-1)/\f<=au/\av=.string ⟨(Gp st.Au f st.out).toArray⟩/\Hid (Below w2.heap.size w2 wr)) (fun _ ci _ _ _=>(intOf ci+1).toNat)
    case atStart=>exact⟨au,by go_num,aB _,by rw[co.o],az⟩
    case round=>
     clear az co dp;obtain⟨f,rfl,fc,rfl,y⟩:=hrel;by_cases eh:f=0
     . subst eh;have b3:Gp st.Au 0 st.out=B8 st:=rfl;have k:=aw.o.trans (y.out.mono b7);have c4:(⟨(B8 st).toArray⟩:aA).size<=4000:=by rw[Cv,<- b3,M7 ay.o 0];omega
       have cm:=Aa (show Calls prog 32 _ wr fun e w'=>e=.returned (.tuple #[.string ⟨(endT (G9 s ⟨(B8 st).toArray⟩ 100000 10000)).1.toArray⟩,I0 ((endT (G9 s ⟨(B8 st).toArray⟩ 100000 10000)).2.1:Int),I0 ((endT (G9 s ⟨(B8 st).toArray⟩ 100000 10000)).2.2:Int)])/\Below wr.heap.size wr w' from rparse_calls wr cu g c cs _ _ ct ⟨(B8 st).toArray⟩ 100000 10000 _ _ (U.o wr k _ _ c4 kX) dw.o kX);have b2:=Abo (G9 s ⟨(B8 st).toArray⟩ 100000 10000);have cr:=Aa k;rw[b3];generalize endT (G9 s ⟨(B8 st).toArray⟩ 100000 10000)=a1 at*;clear y k c4 b3 ay bf al U ca b1 de db em;go_wp2_with fail;refine cm.o.mono ?_;rintro e fs⟨rfl,c1⟩;have ck:=Aa (ad.o.trans ((cr.o.trans (c1.mono cr.o.size)).mono a9));clear c1 cm;generalize B8 st=S at*;by_cases aq:(⟨a1.1.toArray⟩:aA)=m.s
       . have bl:=Aa (an.o.trans (aF aq));have br:=cB fun h=>by
          rw[b2 h]at aq;rw[<- aq]at df;exact absurd df (by simp[ByteArray.size])
         rw[br];clear b2;go_wp2;go_ret3;rw[bl.o];exact⟨rfl,ck.o⟩
       . have bl:=Aa (an.o.trans (aC aq));clear b2 an;generalize(⟨a1.1.toArray⟩:aA)=r at*;have fl:(r.toList==m.s.toList)=false:=by
          rw[dZ,dZ]
          cases y:(r.data.toList==m.s.data.toList)with
          | false=>rfl
          | true=>exact absurd (gE (Array.toList_inj.1 (by simpa using y))) aq
         by_cases br:a1.2.1=0
         case' pos=>rw[br]
         case' neg=>have fb:¬ ((a1.2.1:Nat):Int)=0:=kX
         all_goals
          go_wp2;go_ret3;rw[bl.o];exact⟨rfl,ck.o⟩
     obtain⟨f,rfl⟩:∃ u,f=u+1:=⟨f-1,by omega⟩;rw[show((f+1:Nat):Int)-1=(f:Int)by omega];obtain⟨a2,rfl,e8,e9⟩:=b1 kX;have bx:f<st.Au.length:=kX;have da:f<dq.length:=kX;obtain⟨l,a7⟩:∃ l,st.Au[f]=l:=⟨_,rfl⟩;obtain⟨ai,bz⟩:∃ ai,dq[f]=ai:=⟨_,rfl⟩;have b5:=bf.o f ai l (by rw[bA da,bz]) (by rw[bA bx,a7]);have dh:=ay.o l (a7▸aU bx);have d3:=Aa (show Gp st.Au f st.out=l.foldl Dw (Gp st.Au (f+1) st.out)by rw[Ze _ _ bx,a7]);have eb:=M7 ay.o (f+1);have c5:∀ W,Below w2.heap.size w2 W->W.cell? (A0 a2 f)=some ai:=fun W k=>by
      have ab:=World.ownsRow.cells al.o (g:=a2) rfl f ai (by rw[bA da,bz]);rw[gA,eC]at ab;rw[aL (k.block a2 (al.o.lt a2 rfl).2)];exact ab
     obtain⟨ez,eu,e5,rfl,fg,el⟩:∃ A n j,ai=.slice A n j/\n=l.length/\(0<n->∃ g,A=some (A0 g 0)/\n<=j/\j<=maxLen):=by
      rcases Fk b5 with h|⟨g,j,h,ab,ac⟩;exact⟨_,_,_,h.1,h.2.symm,fun h=>by omega⟩;exact jY
     have cn:=Aa b5;have du:=Aa c5;have fd:(0:Int)<=(f:Int):=kX;clear b5 c5 a7 bz;generalize Gp st.Au (f+1) st.out=a0 at*;go_wp2;go_loopw [17,21,22] (fun av cj _ wr=>∃ i:Nat,cj=I0 i/\i<=l.length/\av=.string ⟨((l.take i).foldl Dw a0).toArray⟩/\Hid (Below w2.heap.size w2 wr)) (fun _ cj _ _=>l.length-(intOf cj).toNat)
     case atStart=>exact⟨0,rfl,bR _,rfl,y⟩
     case round=>
      obtain⟨i,rfl,eg,rfl,y⟩:=hrel;have ed:=du.o _ y.out;have en:=Gd (l.take i) a0 _ eb (fun b p=>dh b (fL p));by_cases J:i<l.length
      . obtain⟨L,rfl,fa,ee⟩:=el kX;unfold maxLen at ee;obtain⟨b,p⟩:∃ b,l[i]=b:=⟨_,rfl⟩;obtain⟨fm,fn,bc⟩:=dh b (p▸aU J);have x:∀ u,u<5->wr.cell? (A0 L (i*5+u))=(W6 b)[u]? := fun u bv=>by
         have:=NA (f:=W6) (k:=5) (l:=l) cn.o (fun _=>rfl) rfl i u J bv;rw[p]at this;rw[aL (y.out.block L (cn.o.lt L rfl).2)];exact this
        have cd:q_ wr L (i*5) (I0 (b.ho.pl:Nat)):=x 0 kX;have ce:q_ wr L (i*5+1) (I0 (b.ho.w:Nat)):=x 1 kX;have cf:q_ wr L (i*5+2) (.bool b.ho.low):=x 2 kX;have cg:q_ wr L (i*5+3) (I0 (b.a:Nat)):=x 3 kX;have et:q_ wr L (i*5+4) (I0 (b.b:Nat)):=x 4 kX;have M:=Abs l a0 i J;rw[p]at M;have cc:=y.out.size;generalize(l.take i).foldl Dw a0=S at*;obtain⟨r,ba⟩:∃ d7:aA,⟨((S.drop b.a).take (b.b-b.a)).toArray⟩=d7:=⟨_,rfl⟩;have ep:r.size=b.b-b.a:=by rw[<- ba,Cv,cX,dQ];omega
        have dv:=Aa ((TE S b.a b.b).trans ba);rw[show Dw S b=putAt S b.ho (CB r b.ho.w r.size)by unfold Dw;rw[ba,ep]]at M;have di:CB r b.ho.w r.size<4294967296:=bM (FX _ _ _) (DS _ bc.le);have d4:=Aa (fun W=>PY r kX b.ho.w bc.le W);have bg:=Aa (fun W=>JN S b.ho (CB r b.ho.w r.size) kX (by rw[en];exact bc.lt) bc.le di W);have bi:=Aa M;have dz:=Aa y.out;have fj:=Cv S;clear x p M ba y di;generalize CB r b.ho.w r.size=sm at*;go_upto_region 30 with fail;obtain⟨o,E⟩:∃ W,wr.alloc (.cells #[I0 (b.ho.pl:Nat),I0 (b.ho.w:Nat),.bool b.ho.low,I0 (b.a:Nat),I0 (b.b:Nat)] 101)=W:=⟨_,rfl⟩;have F:=E▸Ac.new wr _ _;have cv:=E▸dz.o.alloc cc _;have cl:=Aa (show∀ W,Below o.heap.size o W->W.cell? (A0 wr.heap.size 0)=some (I0 (b.ho.pl:Nat))/\W.cell? (A0 wr.heap.size 1)=some (I0 (b.ho.w:Nat))/\W.cell? (A0 wr.heap.size 2)=some (.bool b.ho.low)/\W.cell? (A0 wr.heap.size 3)=some (I0 (b.a:Nat))/\W.cell? (A0 wr.heap.size 4)=some (I0 (b.b:Nat))from fun W k=>by
         have h:=F.below k F.lt;exact⟨h.cell 0,h.cell 1,h.cell 2,h.cell 3,h.cell 4⟩)
        have cw:Below o.heap.size o o.drew:=⟨rfl,rfl,rfl,aB _,fun _ _=>rfl⟩;have Y:=Aa cv;rw[E];clear E F cd ce cf cg et ed cv;refine Bo (fun W=>Below o.heap.size o W) 15 kZ rfl ?_;refine A2 (fun _ _ d _ _ h=>by cases d<;>exact h) [0,1,2,3,4,5,6,7,8,9,10,11] 3 15 _ _ _ kZ ?_;refine jL ?_;iterate 8 refine Ab _ rfl (fun W k=>by obtain⟨h0,ab,ac,d9,ea⟩:=cl.o W k;go_simp<;>rfl) ?_
        refine Ab (.string r) rfl (fun W k=>by go_simp;exact dv.o) ?_;iterate 3 refine Ab _ rfl (fun W k=>by obtain⟨h0,ab,ac,d9,ea⟩:=cl.o W k;go_simp<;>rfl) ?_
        refine Ag ?_;refine AZ 12 kZ cw ⟨_,rfl,rfl,?_⟩;unfold Oper.wp;go_simp;refine(d4.o _).mono ?_;rintro e ft⟨rfl,dm,rfl⟩;refine AZ 13 kZ (below_drewN cw dm) ⟨_,rfl,rfl,?_⟩;unfold Oper.wp;go_simp;refine(bg.o _).mono ?_;rintro e ex⟨rfl,c2⟩;have cx:Below o.heap.size o ex:=(below_drewN (aO _ _) (1+dm)).trans c2;have ds:=Aa (Y.o.trans (cx.mono Y.o.size));clear c2;refine A2 (fun _ _ d _ _ h=>by cases d<;>exact h) [14] 0 1 _ _ _ kZ ?_;refine jL ?_;refine Ab _ rfl (fun W k=>by go_simp<;>rfl) ?_;refine Ag ?_;refine DV (P:=prog) kZ cx ?_;go_wp2;go_roundw
        case rel=>exact⟨i+1,by go_num,by omega,by rw[bi.o],ds⟩
        case measure=>simp[intOf];omega
      obtain rfl:i=l.length:=kX;have fh:¬ ((l.length:Nat):Int)<(eu:Int):=kX;rw[fQ];go_wp2;go_roundw
      case rel=>exact⟨f,by go_num,by omega,by rw[d3.o],y⟩
      case measure=>simp[intOf]
theorem JD(s a)(g:s.size<=maxLen)(h:a.size<=maxLen)(e w)(r:Eu w)(p:MO w):
 Calls prog 16 #[.string s,.string a,I0 e] w fun b w'=>b=.returned (.bool true)/\Below w.heap.size w w':=by
 have k:=Aa (RG s a g h e w r p);go_enter func16,ntmps16;go_wp2_with fail;refine k.o.mono ?_;rintro b w1⟨rfl,u,_⟩;have f:=Aa u;have o:=Aa (Td s a g h e w1);simp only;go_wp2_with fail;refine o.o.mono ?_;rintro b w2⟨rfl,v⟩;have j:=Aa v;generalize EK s a e=q at*;simp only;go_wp2_with fail;refine(WY _ w2).mono ?_;rintro b y⟨rfl,x⟩;subst x;simp only;go_wp2;go_ret;exact⟨by simp,f.o.trans (j.o.mono f.o.size)⟩
theorem Me(s e k)(o:s.size<=maxLen)(p:e.size<=maxLen)(A:k.size<=maxLen)(g w)(z:Eu w)(y:MO w):
 Calls prog 5 #[.string s,.string e,.string k,I0 g] w fun f w'=>f=.returned (.bool true)/\Below w.heap.size w w':=by
 have j:=Aa z;have h:=Aa y;go_enter func5,ntmps5;go_wp2_with fail;refine(JD s e o p g w j.o h.o).mono ?_;rintro f w1⟨rfl,u⟩;have a:=Aa u;simp only;go_wp2_with fail;refine(JD s k o A g w1 (j.o.below a.o) (h.o.below a.o)).mono ?_;rintro f w2⟨rfl,v⟩;have b:=Aa (a.o.trans (v.mono a.o.size));simp only;go_wp2_with fail;refine(JD s e o p g w2 (j.o.below b.o) (h.o.below b.o)).mono ?_;rintro f B⟨rfl,x⟩;have r:=Aa (b.o.trans (x.mono b.o.size));simp only;go_wp2;go_ret;exact⟨rfl,r.o⟩

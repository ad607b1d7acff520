import Derived.Test.YtmlkhhhjdpbhfaaGreatDoorGe18
namespace Go.Proofs.YtmlkhhhjdpbhfaaGreatDoor
open Go.RowKit Go.Proofs.Tryz
set_option maxHeartbeats 4000000
set_option maxRecDepth 100000
variable{p q:Prop}(z:q)
def Aec(w wr:aE)(f:aM Addr)(e:aD Nat):Prop:=
 e=[]\/∃ a,f=some (A0 a 0)/\w.heap.size+1+1<a/\a<wr.heap.size/\∀ b,b<e.length->wr.cell? (A0 a b)=some (I0 (e.getD b 0:Nat))
structure By (c:Rx) (w:aE) (st:PS) (rb db:Nat) (ao:aM Addr) (kl:aD Nat) (stj:PS) (rbj dbj fuel far:Nat) (wr:aE):Prop where
 DY:EW c w st rb db fuel far wr
 uk:Ac wr (w.heap.size+1+1) (AA stj rbj c.bs.size dbj) 140
 sj:Ez c wr stj rbj dbj
 inv:Eb c.bs c.N stj
 row:Aec w wr ao kl
structure VAt (c:Rx) (w:aE) (st:PS) (rb db kg:Nat) (kl:aD Nat) (stj:PS) (rbj dbj:Nat) (o:PO) (vb:Nat) (st':PS) (rb' db' fu' fa':Nat) (t':aD UInt8) (wc:aE):Prop where
 fr:Fr w.heap.size c.pb w wc
 pg:FW wc c.pb c.gb c.bs fu' c.N fa' o.e
 sa:Ez c wc st rb db
 box:Ac wc w.heap.size (AA st rb c.bs.size db) 140
 res:Ac wc (w.heap.size+1) AE 140
 uk:Ac wc (w.heap.size+1+1) (AA stj rbj c.bs.size dbj) 140
 vk:Ac wc vb (AA st' rb' c.bs.size db') 140
 vl:w.heap.size+1+1<vb
 Oh:∀ j,j<kl.length->wc.cell? (A0 kg j)=some (I0 (kl.getD j 0:Nat))
 kgl:kg<wc.heap.size
 fe:o.e=0->fu'=o.fuel/\fa'=o.far
 ok:o.ok=true->st'=o.st/\t'=o.t/\Ez c wc o.st rb' db'
theorem EW.Adp{c w st o g j h W}(a:EW c w st o g j h W){b p}(k:Ac W b p 140)(u:w.heap.size+1<b)(e f):EW c w st o g j h (W.setCell (A0 b e) f):=by
 have r:=a.lt;refine⟨a.fr.setCell (p:=(A0 b e)) (Or.inr lB) f,Ac.Ad a.pg (A0 b e) lB f,⟨Ac.Ad a.sa.rd (A0 b e) (Bf a.sa.rd k lC) f,Ac.Ad a.sa.dp (A0 b e) (Bf a.sa.dp k lC) f,a.sa.Qv,a.sa.Og⟩,a.box.Ad (A0 b e) lB f,a.res.Ad (A0 b e) lB f,r⟩
theorem paren(t:aD UInt8):(({data:=#[40]}:aA)++⟨t.toArray⟩)++{data:=#[41]}=⟨(40::t++[41]).toArray⟩:=by
 rw[show({data:=#[40]}:aA)=⟨[40].toArray⟩from rfl,show({data:=#[41]}:aA)=⟨[41].toArray⟩from rfl,DQ,DQ];simp
theorem MM(W e b f)(a:b≠e)(g h j k o):(E8 W e g h j k o).cell? (A0 b f)=W.cell? (A0 b f):=aL (by
 simp only[E8];rw[aN _ _ _ _ a,aN _ _ _ _ a,aN _ _ _ _ a,aN _ _ _ _ a,aN _ _ _ _ a])
theorem VH(W:aE)(e:Obj)(a b:Nat)(f:a<W.heap.size):(W.alloc e).cell? (A0 a b)=W.cell? (A0 a b):=aL (bC W e a f)
theorem Sn(T:Nat->Nat->Bool->aD It->PS->PO)(a f e b st t):kidsT T (a::f) e b st t=
 if(T e b (silV a) a st).ok=true then kidsT T f (T e b (silV a) a st).fuel (T e b (silV a) a st).far (T e b (silV a) a st).st (if silV a then t else Dk t (T e b (silV a) a st).t)else T e b (silV a) a st:=rfl
theorem P3(c)(p:DK c)(V)(e9:OB c V)(w)(st)(g j Z ah)(ao:Cp c w st g j Z ah)(b)(fq)(fd)(k:aD (Nat × aD It))(b3)(af:At c.As b (fq::fd))(el:CM c.As b=k.map Prod.fst)(x:∀ q,q∈k->At c.As q.1 q.2/\Fa b3 q.2/\BK c.R true true q.2)(fy:Z<=100000)(fz:Z<V):
 Calls prog 92 #[P0 c.pb,I0 b,.agg (AA st g c.bs.size j)] w fun ad w'=>AO c w (CT (tryT c.G c.bs c.N V) c.N (k.map Prod.snd) Z ah st) ad w':=by
 refine lW ?_;intro ap ar ae b0;have ex:=ao.pg.lt;have f6:=Q3;have ds:=Aa e9;have ac:=Aa p;have bv:=Aa ao.A9;have b1:=Aa ao.inv;have d4:=Aa x;have dy:=Aa el;have e3:Eb c.bs c.N {st with Ai:=fun _=>(0,0)}:=⟨ao.inv.pl,ao.inv.en,ao.inv.rd,ao.inv.Af,fun _=>⟨by simp,by simp⟩⟩;have dt:=Aa e3;have fc:∀ cr cs ct cu,((((w.alloc cr).alloc cs).alloc ct).alloc cu).cell? (A0 c.pb 0)=some (P0 c.gb):=fun cr cs ct cu=>(Ac.alloc (Ac.alloc (Ac.alloc (Ac.alloc ao.pg cr) cs) ct) cu).cell 0
 have cy:=Aa (EW.new ao);refine kF ?_;intro au;have c3:Hid (CT (tryT c.G c.bs c.N V) c.N (k.map Prod.snd) Z ah st=Hp c.N st.Ai (kidsT (tryT c.G c.bs c.N V) (k.map Prod.snd) Z ah {st with Ai:=fun _=>(0,0)} [])):=rfl;generalize CT (tryT c.G c.bs c.N V) c.N (k.map Prod.snd) Z ah st=c5 at*;generalize ci:kidsT (tryT c.G c.bs c.N V) (k.map Prod.snd) Z ah {st with Ai:=fun _=>(0,0)} []=KO at*;have dv:=Aa ci;unfold AA AE at cy au;unfold AA;go_enter func92,ntmps92;go_wp2_with fail;generalize(w.alloc (.cells (X_0 st.pl st.en g c.bs.size c.bs.size j st.Af) 140)).alloc (.cells X_2 140)=bl at*;have dm:=Ac.new bl (X_0 st.pl st.en g c.bs.size c.bs.size (w.heap.size+1+1+1) st.Af) 140;have c9:=Ac.new (bl.alloc (.cells (X_0 st.pl st.en g c.bs.size c.bs.size (w.heap.size+1+1+1) st.Af) 140)) (IY fun _=>(0,0)) 240;have dk:(bl.alloc (.cells (X_0 st.pl st.en g c.bs.size c.bs.size (w.heap.size+1+1+1) st.Af) 140)).heap.size=w.heap.size+1+1+1:=lA;rw[au]at dm;rw[dk]at c9;have bu:=Aa ((cy.o.below ((aO _ _).alloc (aB _) (.cells (X_0 st.pl st.en g c.bs.size c.bs.size (w.heap.size+1+1+1) st.Af) 140))).below ((aO _ _).alloc (aB _) (.cells (IY fun _=>(0,0)) 240)));have c4:=Aa (Ac.alloc dm (.cells (IY fun _=>(0,0)) 240));have dr:=Aa c9;have ga:((bl.alloc (.cells (X_0 st.pl st.en g c.bs.size c.bs.size (w.heap.size+1+1+1) st.Af) 140)).alloc (.cells (IY fun _=>(0,0)) 240)).heap.size=w.heap.size+1+1+1+1:=lA;generalize(bl.alloc (.cells (X_0 st.pl st.en g c.bs.size c.bs.size (w.heap.size+1+1+1) st.Af) 140)).alloc (.cells (IY fun _=>(0,0)) 240)=c6 at*;have ey:=bu.o.pre ac.o bv.o b1.o;refine(Iz c6 c.gb c.g c.cap _ c.tw c.As (ey.Fw ac.o) ac.o.wf kX b ap).mono ?_;rintro ad w1⟨fl,rfl,da,b5,et⟩;rw[dy.o]at da;have f9:=b5.size;obtain⟨bb,gf,e7,ef,ez⟩:∃ bb ca,fl=.slice bb k.length ca/\k.length<=maxLen/\Aec w w1 bb (k.map Prod.fst):=by
  rcases da with⟨az,ai⟩|⟨B,ca,az,ai,c7,eb,c8⟩;have:k=[]:=by simpa using ai
  subst this;exact⟨none,0,by rw[az];rfl,by simp,Or.inl rfl⟩;refine⟨some (A0 B 0),ca,by rw[az,cM],by rw[cM]at c7;omega,Or.inr ⟨B,rfl,?_,ai,c8⟩⟩;have:=et B (by rw[az];rfl);omega
 subst e7;have dz:Hid (By c w st g j bb (k.map Prod.fst) {st with Ai:=fun _=>(0,0)} g (w.heap.size+1+1+1) Z ah w1):=by
  have az:=bu.o.below b5;have ai:Ez c c6 {st with Ai:=fun _=>(0,0)} g (w.heap.size+1+1+1):=⟨bu.o.sa.rd,dr.o,bu.o.sa.Qv,by omega⟩;have F:By c w st g j bb (k.map Prod.fst) {st with Ai:=fun _=>(0,0)} g (w.heap.size+1+1+1) Z ah w1:=⟨az,c4.o.below b5 c4.o.lt,ai.below b5,dt.o,ez⟩;exact F
 have e0:w.heap.size+1+1<w1.heap.size:=kX;unfold maxLen at ef;go_wp2;go_loopw [10,12] (fun fm cv wr=>∃ (i:Nat) (t:aD UInt8) (o:PS) (O U M S:Nat),fm=.string ⟨t.toArray⟩/\cv=I0 i/\i<=k.length/\M<=Z/\w.heap.size+1+1<wr.heap.size/\t.length<=8011*o.Af/\Hid (KO=kidsT (tryT c.G c.bs c.N V) ((k.drop i).map Prod.snd) M S o t)/\Hid (By c w st g j bb (k.map Prod.fst) o O U M S wr)) (fun _ cv _=>k.length-(intOf cv).toNat)
 case atStart=>exact⟨0,[],{st with Ai:=fun _=>(0,0)},g,w.heap.size+1+1+1,Z,ah,rfl,rfl,bR _,aB _,e0,by simp,(by rw[bS];exact dv.o.symm:KO=kidsT (tryT c.G c.bs c.N V) ((k.drop 0).map Prod.snd) Z ah {st with Ai:=fun _=>(0,0)} []),dz⟩
 case round=>
  obtain⟨i,t,o,O,U,M,S,rfl,rfl,f1,fx,e4,gd,cp,X⟩:=hrel;have e2:=X.out.inv.Af;by_cases av:i<k.length
  . have er:(i:Int)<(k.length:Int):=by omega
    obtain⟨B,ee,en,eo,db⟩:∃ B,bb=some (A0 B 0)/\w.heap.size+1+1<B/\B<wr.heap.size/\∀ f,f<(k.map Prod.fst).length->wr.cell? (A0 B f)=some (I0 ((k.map Prod.fst).getD f 0:Nat)):=by
     rcases X.out.row with F|F;have:k=[]:=by simpa using F
     rw[this]at av;simp at av;exact F
    subst ee;obtain⟨bo,b7,b8⟩:=d4.o k[i] (aU av);have ej:(k.map Prod.fst).getD i 0=k[i].1:=by rw[A3 _ _ _ Bn];simp
    have dc:wr.cell? (A0 B i)=some (I0 (k[i].1:Int)):=by rw[db i Bn,ej]
    have eg:(k.drop i).map Prod.snd=k[i].2::(k.drop (i+1)).map Prod.snd:=by rw[cF av];rfl
    rw[eg]at cp;have y:=Aa (cp.out.trans (Sn _ _ _ _ _ _ _));have dw:=Aa db;obtain⟨aj,em⟩:∃ aj,k[i].1=aj:=⟨_,rfl⟩;obtain⟨cq,ep⟩:∃ cq,k[i].2=cq:=⟨_,rfl⟩;rw[em]at dc bo;rw[ep]at bo b7 b8 y;obtain⟨E,I,rfl⟩:∃ E I,cq=E::I:=by
     cases b3 with
     | zero=>exact b7.elim
     | succ b3=>obtain⟨E,fa,ad,_⟩:=b7;exact⟨E,fa.flatten,ad⟩
    have ax:=X.out.DY.pre ac.o bv.o b1.o;have ch:=ax.Fw ac.o;obtain⟨gg,_,_,_,_,_,_,_,_⟩:=ch.nine bo;have fw:=ch.top;have fc:=X.out.DY.pg.c0;have f3:aj<c.As.length:=by have:=bo.le;simp at this;omega
    have f8:Cp c wr o O U M S:=⟨ax.pg,ax.A9,X.out.sj.rd,X.out.sj.dp,X.out.inv⟩;have e1:OS E.c=silV (E::I):=rfl;have d3:Hid ((tryT c.G c.bs c.N V M S (silV (E::I)) (E::I) o).ok=true->(Dt c.bs c.N o (hidV (E::I)) (tryT c.G c.bs c.N V M S (silV (E::I)) (E::I) o)/\(tryT c.G c.bs c.N V M S (silV (E::I)) (E::I) o).e=0)/\Lng o (silV (E::I)) (tryT c.G c.bs c.N V M S (silV (E::I)) (E::I) o)):=fun r=>⟨(BQ c.G ac.o.JI V).fit M S (silV (E::I)) true true (E::I) _ b8 X.out.inv r,by have:=Hj ae c.G ac.o.JI V M S (silV (E::I)) true true (E::I) o b8 X.out.inv r;rw[RQ]at this;exact this⟩
    have f4:(tryT c.G c.bs c.N V M S (silV (E::I)) (E::I) o).fuel<=M:=(BQ (R:=c.R) c.G ac.o.JI V).less M S (silV (E::I)) (E::I) o;have cz:Hid (∀ W,Cp c W o O U M S->Calls prog 56 #[P0 c.pb,I0 aj,.agg (AA o O c.bs.size U),.bool (silV (E::I))] W fun ad w'=>AO c W (tryT c.G c.bs c.N V M S (silV (E::I)) (E::I) o) ad w'):=fun W F=>ds.o W o O U M S (E::I) aj b3 true true (silV (E::I)) F bo b7 b8 kX kX
    generalize tryT c.G c.bs c.N V M S (silV (E::I)) (E::I) o=h at*;generalize silV (E::I)=ff at*;have cx:=X;have f0:=ch.lt;have c2:=Aa (fun W=>Kw E.c W);rw[e1]at c2;go_wp2_with fail;go_quiet (first
     | (go_at_call 169
        exact eP (c2.o _)))
    go_wp2_with fail;have ab:Hid (By c w st g j (some (A0 B 0)) (k.map Prod.fst) o O U M S (wr.drewN nq)):=by
     have F:=cx.o;have ai:By c w st g j (some (A0 B 0)) (k.map Prod.fst) o O U M S (wr.drewN nq):=⟨F.DY.drewN nq,F.uk,F.sj.drewN nq,F.inv,F.row⟩;exact ai
    have b2:Hid ((wr.drewN nq).cell? (A0 B i)=some (I0 aj)):=dc;have c0:Hid (∀ f,f<(k.map Prod.fst).length->(wr.drewN nq).cell? (A0 B f)=some (I0 ((k.map Prod.fst).getD f 0:Nat))):=dw.o;have eq:B<(wr.drewN nq).heap.size:=eo;have gb:w.heap.size+1+1<(wr.drewN nq).heap.size:=e4;generalize wr.drewN nq=w1 at*;go_cut [14,15,16] (fun fn fo fp wc=>∃ (cw:Nat) (v:PS) (u z L K:Nat) (be:aD UInt8),fn=P0 cw/\fo=.string ⟨be.toArray⟩/\fp=.bool h.ok/\Hid (VAt c w st g j B (k.map Prod.fst) o O U h cw v u z L K be wc))
    case first=>
     have bd:B≠c.pb:=kX;have cn:=eq;have ba:Hid (∀ W,W.cell? (A0 B i)=some (I0 aj)->Ac W (w.heap.size+1+1) (AA o O c.bs.size U) 140->KRd W B i aj (w.heap.size+1+1) (I0 o.pl) (I0 o.en) (S0 O c.bs.size c.bs.size) (S0 U 8 8) (I0 o.Af)):=fun W ai F=>⟨ai,F.cell 0,F.cell 1,F.cell 2,F.cell 3,F.cell 4⟩
     refine E1 (fun W=>KRd W B i aj (w.heap.size+1+1) (I0 o.pl) (I0 o.en) (S0 O c.bs.size c.bs.size) (S0 U 8 8) (I0 o.Af)) [0,1,2,3,4,5,6] 7 12 [([8,9,10,11],12),([],13),([],14),([],15)] [([],7),([8,9,10,11],13),([],14),([],15)] rfl kZ (fun _ _ d _ _ F=>by cases d<;>exact F) (ba.o _ b2.o ab.o.uk) ?_;refine jL ?_;refine k5 ?_;refine Ab _ rfl (fun W a=>rfl) ?_;refine Ab (.pointer (some (A0 B i))) rfl (fun W a=>by go_simp) ?_;refine Ab (I0 aj) rfl (fun W a=>by obtain⟨h0,az⟩:=a;go_simp) ?_;refine Ab (.agg (X_0 o.pl o.en O c.bs.size c.bs.size U o.Af)) rfl (fun W a=>by obtain⟨h0,⟨az,ai,c7,eb,c8⟩⟩:=a;go_simp) ?_;refine Ab _ rfl (fun W a=>rfl) ?_;refine Ag ⟨⟨_,rfl,rfl,?_⟩,⟨_,rfl,rfl,?_⟩⟩
     . unfold Oper.wp;go_simp;have bh:=ab.o.DY.drewN 1;have ax:=bh.pre ac.o bv.o b1.o;have a1:=cz.o (w1.drewN 1) ⟨ax.pg,ax.A9,ab.o.sj.rd,ab.o.sj.dp,ab.o.inv⟩;unfold AA at a1;refine a1.mono ?_;rintro ad w2⟨bm,v,u,z,L,K,be,rfl,dh,ck,cf⟩;obtain⟨cb,cc,cd,ce⟩:=bh.next bm dh;have ay:=bm.Ap (show Ac (w1.drewN 1) (w.heap.size+1+1) _ _ from ab.o.uk) ab.o.uk.lt kX;have bg:=(bm.H4 cn bd i).trans b2.o;have cg:∀ f,f<(k.map Prod.fst).length->w2.cell? (A0 B f)=some (I0 ((k.map Prod.fst).getD f 0:Nat)):=fun f an=>(bm.H4 cn bd f).trans (c0.o f an)
       have dj:w1.heap.size<=w2.heap.size:=bm.size;have bp:B≠w2.heap.size:=kX;have A:Hid (VAt c w st g j B (k.map Prod.fst) o O U h w2.heap.size v u z L K be (E8 (w2.alloc (.cells AE 140)) w2.heap.size (I0 v.pl) (I0 v.en) (S0 u c.bs.size c.bs.size) (S0 z 8 8) (I0 v.Af))):=by
        have x:=Ac.new w2 AE 140;have F:VAt c w st g j B (k.map Prod.fst) o O U h w2.heap.size v u z L K be (E8 (w2.alloc (.cells AE 140)) w2.heap.size (I0 v.pl) (I0 v.en) (S0 u c.bs.size c.bs.size) (S0 z 8 8) (I0 v.Af)):=by
         refine⟨(cb.alloc kX _).BB kX _ _ _ _ _,Ac.Ar (Ac.alloc dh _) kX _ _ _ _ _,(cc.below ((aO _ _).alloc (aB _) _)).BB x _ _ _ _ _,Ac.Ar (Ac.alloc cd _) kX _ _ _ _ _,Ac.Ar (Ac.alloc ce _) kX _ _ _ _ _,Ac.Ar (Ac.alloc ay _) kX _ _ _ _ _,Ac.BB x _ _ _ _ _,by omega,fun f an=>?_,?_,ck,fun r=>?_⟩;rw[MM _ _ _ _ bp,VH _ _ _ _ kX];exact cg f an;rw[D5];simp;omega;exact jf
        exact F
       have a0:=Aa (ba.o w2 bg ay);have cl:=Aa (ba.o (w2.alloc (.cells AE 140)) (by rw[VH _ _ _ _ kX];exact bg) (Ac.alloc ay _));have J:=Aa (ba.o (E8 (w2.alloc (.cells AE 140)) w2.heap.size (I0 v.pl) (I0 v.en) (S0 u c.bs.size c.bs.size) (S0 z 8 8) (I0 v.Af)) (by rw[MM _ _ _ _ bp,VH _ _ _ _ kX];exact bg) (Ac.Ar (Ac.alloc ay _) kX _ _ _ _ _));exact nk
     unfold Oper.wp;go_simp;have bh:EW c w st g j M S (w1.alloc (.cells AE 140)).drew:=(ab.o.DY.below ((aO _ _).alloc (aB _) (.cells AE 140))).drewN 1;have dp:Ac (w1.alloc (.cells AE 140)).drew w1.heap.size AE 140:=Ac.new w1 AE 140;have b9:Ac (w1.alloc (.cells AE 140)).drew (w.heap.size+1+1) (AA o O c.bs.size U) 140:=Ac.alloc ab.o.uk _;have cm:Ez c (w1.alloc (.cells AE 140)).drew o O U:=(ab.o.sj.below ((aO _ _).alloc (aB _) _)).drewN 1;have b6:∀ f,(w1.alloc (.cells AE 140)).drew.cell? (A0 B f)=w1.cell? (A0 B f):=fun f=>VH w1 _ B f cn
     have dj:(w1.alloc (.cells AE 140)).drew.heap.size=w1.heap.size+1:=kY;unfold AE at bh dp b9 cm b6 dj;generalize(w1.alloc (.cells X_2 140)).drew=d7 at*;refine⟨ba.o _ ((b6 i).trans b2.o) b9,?_⟩;refine kJ ?_;refine Ag ⟨_,rfl,rfl,?_⟩;unfold Oper.wp;go_simp;have ax:=bh.pre ac.o bv.o b1.o;have a1:=cz.o d7 ⟨ax.pg,ax.A9,cm.rd,cm.dp,ab.o.inv⟩;unfold AA at a1;refine a1.mono ?_;rintro ad br⟨bk,v,u,z,L,K,be,rfl,di,ck,es⟩;obtain⟨cb,cc,cd,ce⟩:=bh.next bk di;have ay:=bk.Ap b9 b9.lt kX;have bg:=(bk.H4 kX bd i).trans ((b6 i).trans b2.o);have cg:∀ f,f<(k.map Prod.fst).length->br.cell? (A0 B f)=some (I0 ((k.map Prod.fst).getD f 0:Nat)):=fun f an=>(bk.H4 kX bd f).trans ((b6 f).trans (c0.o f an))
     have e:=bk.Ap dp kX kX;have dk:=bk.size;have bp:B≠w1.heap.size:=kX;have A:Hid (VAt c w st g j B (k.map Prod.fst) o O U h w1.heap.size v u z L K be (E8 br w1.heap.size (I0 v.pl) (I0 v.en) (S0 u c.bs.size c.bs.size) (S0 z 8 8) (I0 v.Af))):=by
      have F:VAt c w st g j B (k.map Prod.fst) o O U h w1.heap.size v u z L K be (E8 br w1.heap.size (I0 v.pl) (I0 v.en) (S0 u c.bs.size c.bs.size) (S0 z 8 8) (I0 v.Af)):=by
       refine⟨cb.BB kX _ _ _ _ _,Ac.Ar di kX _ _ _ _ _,cc.BB e _ _ _ _ _,Ac.Ar cd kX _ _ _ _ _,Ac.Ar ce kX _ _ _ _ _,Ac.Ar ay kX _ _ _ _ _,Ac.BB e _ _ _ _ _,by omega,fun f an=>?_,by rw[D5];omega,ck,fun r=>?_⟩;rw[MM _ _ _ _ bp];exact cg f an;obtain⟨aw,al,b4⟩:=es r;exact⟨aw,al,b4.BB e _ _ _ _ _⟩
      exact F
     have a0:=Aa (ba.o br bg ay);have J:=Aa (ba.o (E8 br w1.heap.size (I0 v.pl) (I0 v.en) (S0 u c.bs.size c.bs.size) (S0 z 8 8) (I0 v.Af)) (by rw[MM _ _ _ _ bp];exact bg) (Ac.Ar ay kX _ _ _ _ _));exact nl
    case rest=>
     obtain⟨cw,v,u,z,L,K,be,rfl,rfl,rfl,bi⟩:=hcut;have Y:=bi;have ge:=bi.out.uk.lt;obtain⟨fs,ft,fu,d8,fv,_⟩:=bi.out.box.Bi;obtain⟨gh,gi,gj,gl,gm,_⟩:=bi.out.vk.Bi;obtain⟨fg,fh,fi,fj,fk,_⟩:=bi.out.uk.Bi;obtain⟨a5,a6,bf,a7,a8,bq⟩:=bi.out.res.Bi
     cases r:h.ok
     . rw[aC Bc]at y;have d0:=Aa (show c5=h by rw[c3.o,y.o];unfold Hp;rw[aC Bc]);go_wp2;refine aT (v:=.tuple (X_5 (AA st g c.bs.size j) (⟨#[]⟩))) (by simp[results,results92,go_sem,AA,a5,a6,bf,a7,a8]) rfl ?_;rw[d0.o];exact AO.none (Y.o.fr.BB (b:=w.heap.size+1) kX _ _ _ _ _) rfl r (Ac.Ar Y.o.pg (b:=w.heap.size+1) kX _ _ _ _ _) Y.o.fe
     rw[aF r]at y;obtain⟨⟨bd,df⟩,de⟩:=d3.o r;obtain⟨aw,al,b4⟩:=Y.o.ok r;obtain⟨d9,ea⟩:=Y.o.fe df;subst aw;subst al;have dx:=Aa bd;have d5:=Aa b4;have f5:=de.Af;have dd:=de.len;have f7:=bd.inv.Af;have f2:=GU t h.t;have c1:Hid (By c w st g j (some (A0 B 0)) (k.map Prod.fst) h.st u z h.fuel h.far (E8 wc (w.heap.size+1+1) (I0 h.st.pl) (I0 h.st.en) (S0 u c.bs.size c.bs.size) (S0 z 8 8) (I0 h.st.Af))):=by
      have ew:FW wc c.pb c.gb c.bs h.fuel c.N h.far 0:=by have:=Y.o.pg;rw[df,d9,ea]at this;exact this
      have ec:EW c w st g j h.fuel h.far (E8 wc (w.heap.size+1+1) (I0 h.st.pl) (I0 h.st.en) (S0 u c.bs.size c.bs.size) (S0 z 8 8) (I0 h.st.Af)):=⟨Y.o.fr.BB kX _ _ _ _ _,Ac.Ar ew kX _ _ _ _ _,Y.o.sa.BB Y.o.uk _ _ _ _ _,Ac.Ar Y.o.box kX _ _ _ _ _,Ac.Ar Y.o.res kX _ _ _ _ _,ex⟩;have ed:Aec w (E8 wc (w.heap.size+1+1) (I0 h.st.pl) (I0 h.st.en) (S0 u c.bs.size c.bs.size) (S0 z 8 8) (I0 h.st.Af)) (some (A0 B 0)) (k.map Prod.fst):=Or.inr ⟨B,rfl,en,by rw[D5];exact Y.o.kgl,fun f an=>by rw[MM _ _ _ _ kX];exact Y.o.Oh f an⟩;have F:By c w st g j (some (A0 B 0)) (k.map Prod.fst) h.st u z h.fuel h.far (E8 wc (w.heap.size+1+1) (I0 h.st.pl) (I0 h.st.en) (S0 u c.bs.size c.bs.size) (S0 z 8 8) (I0 h.st.Af)):=⟨ec,Ac.BB Y.o.uk _ _ _ _ _,d5.o.BB Y.o.uk _ _ _ _ _,dx.o.inv,ed⟩;exact F
     have dl:w.heap.size+1+1<(E8 wc (w.heap.size+1+1) (I0 h.st.pl) (I0 h.st.en) (S0 u c.bs.size c.bs.size) (S0 z 8 8) (I0 h.st.Af)).heap.size:=lR;have e5:t.length<=1000000000:=kX;have e6:h.t.length<=1000000000:=by
      have:h.st.Af-o.Af<=10000:=kX;omega
     have du:=Aa (fun W=>Hk t h.t W e5 e6)
     cases ff with
     | true=>
      simp only[dU]at y dd;go_wp2;go_roundw
      case rel=>exact⟨i+1,t,h.st,u,z,h.fuel,h.far,rfl,by go_num,by omega,by omega,dl,by omega,y,c1⟩
      case measure=>simp[intOf];omega
     | false=>
      simp only[bT,cT]at y dd;go_wp2_with
       (go_at_call 170
        refine(du.o _).mono ?_;rintro ad go⟨rfl,e8⟩;subst e8)
      go_roundw
      case rel=>exact⟨i+1,Dk t h.t,h.st,u,z,h.fuel,h.far,rfl,by go_num,by omega,by omega,dl,by omega,y,c1⟩
      case measure=>simp[intOf];omega
  have er:¬ (i:Int)<(k.length:Int):=kX;have ek:i=k.length:=kX;subst ek;have ci:KO=BW M S o t:=by have:=cp.out;rw[hE]at this;exact this
  have y:=Aa (show c5=Bs c.N M S {o with Ai:=st.Ai} (40::t++[41])by rw[c3.o,ci];rfl);have gc:(⟨t.toArray⟩:aA).size<=80110000:=by rw[Cv];omega
  have dq:=Aa (paren t);have cx:=X;have d8:=X.out.DY.box.c3;obtain⟨fg,fh,fi,fj,fk,_⟩:=X.out.uk.Bi;have bx:=Aa (X.out.DY.Adp X.out.uk kX 3 (S0 j 8 8));have d6:Hid (Ez c (wr.setCell (A0 (w.heap.size+1+1) 3) (S0 j 8 8)) {o with Ai:=st.Ai} O j):=by
   have F:Ez c (wr.setCell (A0 (w.heap.size+1+1) 3) (S0 j 8 8)) {o with Ai:=st.Ai} O j:=⟨Ac.Ad X.out.sj.rd (A0 (w.heap.size+1+1) 3) (Bf X.out.sj.rd X.out.uk lC) _,bx.o.sa.dp,X.out.sj.Qv,bx.o.sa.Og⟩;exact F
  generalize(⟨t.toArray⟩:aA)=fr at*;go_wp2_with fail;rw[dq.o];have a1:=Dd _ c.pb c.gb c.bs M c.N S 0 {o with Ai:=st.Ai} O c.bs.size j (40::t++[41]) bx.o.pg b0 e2;unfold AA at a1;refine a1.mono ?_;rintro ad gn⟨eh,eu,ei⟩;obtain⟨fe,t2,fb,cj,a9,a4⟩:=bx.o.made d6.o eh eu ei;refine kk ?_;intro bz am aq a3 bc bj a2;refine aT (v:=.tuple (X_6 (AA fe O c.bs.size j) (⟨t2.toArray⟩) fb)) (by simp[results,results92,go_sem,AA,am,aq,a3,bc,bj]) rfl ?_;exact bz.o
theorem n5(h:p:=by
 rw[ao]at ah;go_enter func56,ntmps56;go_wp2_with fail;have ba:=fun bb=>ak.o.below ((aO _ _).alloc (aB _) bb)
 unfold AA at ab;refine(ab.o _ ((ba _).pre ai.o ae.o al.o)).mono ?_;intro e ci a8;obtain⟨v,u,z,be,cf,a9,a4⟩:=JX (ba _) a8;have bz:=Aa (HG a4);rw[a5]at bz a9;subst cf;obtain⟨am,aq,a3,bc,bj,a2⟩:=a9.Bi;unfold EI AA;go_wp2;refine aT (v:=.tuple (X_6 (AA v u c.bs.size z) (⟨be.toArray⟩) h.ok)) jh rfl ?_;exact bz.o):p:=h
theorem NE(h:p:=by
 have:=(Ac.alloc (Ac.alloc o.pg A) B).cell 2;simpa[pgC]using this):p:=h
theorem jh(h:p:=by
 simp[results,results56,go_sem,AA,am,aq,a3,bc,bj]):p:=h
abbrev lY(h:PLift q->p:=by
 intro aa;have au:∀ A B,((w.alloc A).alloc B).frozen? (A0 c.pb 2)=false:=fun A B=>(Ac.alloc (Ac.alloc o.pg A) B).frozen 2
 obtain⟨ah,av,ax,aw,an,ay,az,a0,a1⟩:=ac.nine af;have ad:=ac.top;have bk:=g.pg.c0;have ai:=Aa p;have ae:=Aa g.A9;have al:=Aa g.inv;have ak:=Aa (EW.new g);have ab:=Aa ce;unfold AA AE at ak;unfold AA;revert ab;revert ak;revert al;revert ae;revert ai;revert bk;revert ad;revert a1;revert a0;revert az;revert ay;revert an;revert aw;revert ax;revert av;revert ah;revert au;exact aa.1):p:=h ⟨z⟩
abbrev lX(h:PLift q->p:=by
 intro aa;have f:=o.Fw p;have bd:=f.lt;have bl:=f.Ap.lt;have aj:=o.pg.lt;have a7:c.g≠c.pb:=by have:=p.Fw.lt;have:=p.pb;omega
 have a6:c.gb≠c.pb:=by have:=p.Fw.Ap.lt;have:=p.pb;omega
 have g:=Cp.less p o;have ac:=g.Fw p;have ap:b<c.As.length:=by have:=af.le;simp at this;omega
 have ar:=p.len;have a5:(w.setCell (A0 c.pb 2) (I0 k)).heap.size=w.heap.size:=by simp[World.setCell]
 revert f bd bl aj a7 a6 g ac ap ar a5;exact aa.1):p:=h ⟨z⟩
theorem JX{c w W w2 st K r A y f h}(k:EW c w st K r A y W)(g:AO c W f h w2):
 ∃ a e b p,h=EI a e c.bs.size b p f.ok/\Ac w2 (w.heap.size+1) AE 140/\
  AO c w f (EI a e c.bs.size b p f.ok) (E8 w2 (w.heap.size+1) (I0 a.pl) (I0 a.en) (S0 e c.bs.size c.bs.size) (S0 b 8 8) (I0 a.Af)):=by
 obtain⟨E,a,e,b,z,x,t,rfl,o,F,I⟩:=g;obtain⟨B,L,M,j⟩:=k.next E o;have O:=k.lt;refine⟨a,e,b,t,rfl,j,B.BB kX _ _ _ _ _,a,e,b,z,x,t,rfl,Ac.Ar o kX _ _ _ _ _,F,fun g=>?_⟩;obtain⟨u,v,J⟩:=I g;exact⟨u,v,J.BB j _ _ _ _ _⟩
theorem Cp.less{c}(h:DK c){w st g e b f}(a:Cp c w st g e (b+1) f):Cp c (w.setCell (A0 c.pb 2) (I0 b)) st g e b f:=
 ⟨a.pg.set 2 _,a.A9.setCell (p:=(A0 c.pb 2)) h.pb _,Ac.Ad a.rd _ a.Qv _,Ac.Ad a.dp _ a.Og _,a.inv⟩
theorem HG{c w w' f b a}(g:AO c (w.setCell (A0 c.pb 2) a) f b w'):AO c w f b w':=by
 obtain⟨e,h⟩:=g;have j:(w.setCell (A0 c.pb 2) a).heap.size=w.heap.size:=by simp[World.setCell]
 rw[j]at e;exact⟨((Fr.refl w.heap.size c.pb w).setCell (p:=(A0 c.pb 2)) (Or.inl rfl) a).trans e,h⟩
theorem YV(c w st)(g f h:Nat)(e:Cp c w st g f 0 h)(k:Nat)(q:Bool):
 Calls prog 56 #[P0 c.pb,I0 k,.agg (AA st g c.bs.size f),.bool q] w fun o w'=>AO c w (HP 6 st) o w':=by
 have v:=e.pg.lt;have r:¬ w.heap.size=c.pb:=kX;have u:¬ w.heap.size+1=c.pb:=kX;have x:∀ a b,((w.alloc a).alloc b).cell? (A0 c.pb 2)=some (I0 0):=fun a b=>(Ac.alloc (Ac.alloc e.pg a) b).cell 2
 have y:∀ a b,((w.alloc a).alloc b).cell? (A0 c.pb 5)=some (I0 0):=fun a b=>(Ac.alloc (Ac.alloc e.pg a) b).cell 5
 have p:∀ a b,((w.alloc a).alloc b).frozen? (A0 c.pb 5)=false:=fun a b=>(Ac.alloc (Ac.alloc e.pg a) b).frozen 5
 have j:=Aa e;unfold AA;go_enter func56,ntmps56;go_wp2;refine aT (v:=.tuple (X_5 (AA st g c.bs.size f) (⟨#[]⟩))) (by simp[results,results56,go_sem,AA]) rfl ?_;refine AO.dead (fuel:=0) (far:=h) ?_ rfl rfl (by simp[HP]) ?_;exact(((Fr.refl w.heap.size c.pb w).setCell (p:=(A0 c.pb 5)) (Or.inl rfl) _).alloc (by simp[World.setCell]) _).alloc (by simp[World.setCell]) _;exact Ac.alloc (Ac.alloc (j.o.pg.set 5 (I0 6)) _) _
theorem WK(c)(p:DK c)(w)(st)(r j k x)(o:Cp c w st r j (k+1) x)(b)(a)(y)(af:At c.As b (a::y))(q)(E:k<=100000)(h)(ao:a.c=110\/a.c=108\/a.c=104\/a.c=107\/a.c=39\/a.c=114\/a.c=46)(ce:∀ W,Cp c W st r j k x->Calls prog 91 #[P0 c.pb,I0 b,.agg (AA st r c.bs.size j),.bool q] W fun e w'=>AO c W h e w'):
 Calls prog 56 #[P0 c.pb,I0 b,.agg (AA st r c.bs.size j),.bool q] w fun e w'=>AO c w h e w':=by
 refine lX ?_;intro f bd bl aj a7 a6 g ac ap ar a5;have F:∀ A B,((w.alloc A).alloc B).cell? (A0 c.pb 2)=some (I0 (k+1)):=fun A B=>by
  exact NE
 refine lY ?_;intro au ah av ax aw an ay az a0 a1 ad bk ai ae al ak ab;rcases ao with ao|ao|ao|ao|ao|ao|ao;all_goals
  exact n5
theorem Qn(c)(p:DK c)(w)(st)(x r k y)(o:Cp c w st x r (k+1) y)(b)(j)(E)(af:At c.As b (j::E))(q)(F:k<=100000)(h)(a:Nat)(ao:j.c=40/\a=92\/j.c=47/\a=93\/j.c=42/\a=94\/j.c=116/\a=95)(ce:∀ W,Cp c W st x r k y->Calls prog a #[P0 c.pb,I0 b,.agg (AA st x c.bs.size r)] W fun e w'=>AO c W h e w'):
 Calls prog 56 #[P0 c.pb,I0 b,.agg (AA st x c.bs.size r),.bool q] w fun e w'=>AO c w h e w':=by
 refine lX ?_;intro f bd bl aj a7 a6 g ac ap ar a5;have I:∀ A B,((w.alloc A).alloc B).cell? (A0 c.pb 2)=some (I0 (k+1)):=fun A B=>by
  exact NE
 refine lY ?_;intro au ah av ax aw an ay az a0 a1 ad bk ai ae al ak ab;rcases ao with⟨ao,rfl⟩|⟨ao,rfl⟩|⟨ao,rfl⟩|⟨ao,rfl⟩;all_goals
  exact n5
structure RRd (W:aE) (pb gb fb xb rr b2 bx:Nat) (v0 v1 v2 v3 v4:aI):Prop where
 p0:W.cell? (A0 pb 0)=some (P0 gb)
 g1:W.cell? (A0 gb 1)=some (S0 fb 8 8)
 x3:W.cell? (A0 xb 3)=some (I0 rr)
 f:W.cell? (A0 fb rr)=some (I0 b2)
 box:U5 W bx v0 v1 v2 v3 v4
theorem ZO(c)(p:DK c)(w)(st)(r j k V)(o:Cp c w st r j (k+1) V)(b)(e)(cd)(af:At c.As b (e::cd))(q)(ci:k<=100000)(M)(h u:Nat)(b9:e.r=(h:Int))(cj:h<8)(b4:c.fl.getD h 0=(u:Int))(Y:e.c=82)(ce:∀ W,Cp c W st r j k V->Calls prog 56 #[P0 c.pb,I0 u,.agg (AA st r c.bs.size j),.bool false] W fun y w'=>AO c W M y w'):
 Calls prog 56 #[P0 c.pb,I0 b,.agg (AA st r c.bs.size j),.bool q] w fun y w'=>AO c w M y w':=by
 refine lX ?_;intro f bd bl aj a7 a6 g ac ap ar a5;have cl:∀ A B,((w.alloc A).alloc B).cell? (A0 c.pb 2)=some (I0 (k+1)):=fun A B=>by
  exact NE
 refine lY ?_;intro au ah av ax aw an ay az a0 a1 ad bk ai ae al ak ab;rcases Y with Y;all_goals
  rw[Y]at ah;rw[b9]at aw;have ck:(h:Int)<8:=kX;go_enter func56,ntmps56;go_wp2_with fail;have be:=Ac.new (((w.setCell (A0 c.pb 2) (I0 k)).alloc (.cells (X_0 st.pl st.en r c.bs.size c.bs.size j st.Af) 140)).alloc (.cells X_2 140)) (X_8 e.w e.b h e.d e.pl (b+e.nx) e.rl) 132;have ca:(((w.setCell (A0 c.pb 2) (I0 k)).alloc (.cells (X_0 st.pl st.en r c.bs.size c.bs.size j st.Af) 140)).alloc (.cells X_2 140)).heap.size=w.heap.size+1+1:=by simp[World.setCell]
  rw[ca]at be;have S:=Aa be;have x:=Aa (ak.o.below ((aO _ _).alloc (aB _) (.cells (X_8 e.w e.b h e.d e.pl (b+e.nx) e.rl) 132)));generalize(((w.setCell (A0 c.pb 2) (I0 k)).alloc (.cells (X_0 st.pl st.en r c.bs.size c.bs.size j st.Af) 140)).alloc (.cells X_2 140)).alloc (.cells (X_8 e.w e.b h e.d e.pl (b+e.nx) e.rl) 132)=F at*;have O:Hid (∀ W,FW W c.pb c.gb c.bs k c.N V 0\/(∃ b2 b1 y,FW W c.pb c.gb c.bs b2 c.N b1 y)->W.cell? (A0 c.gb 1)=some (S0 c.fb 8 8)->W.cell? (A0 c.fb h)=some (I0 u)->Ac W (w.heap.size+1+1) (X_8 e.w e.b h e.d e.pl (b+e.nx) e.rl) 132->Ac W w.heap.size (AA st r c.bs.size j) 140->RRd W c.pb c.gb c.fb (w.heap.size+1+1) h u w.heap.size (I0 st.pl) (I0 st.en) (S0 r c.bs.size c.bs.size) (S0 j 8 8) (I0 st.Af)):=fun W z a4 a8 a9 E=>
   ⟨by rcases z with K|⟨_,_,_,K⟩<;>exact K.cell 0,a4,a9.cell 3,a8,⟨E.cell 0,E.cell 1,E.cell 2,E.cell 3,E.cell 4⟩⟩
  have X:Ac F w.heap.size (AA st r c.bs.size j) 140:=by have:=x.o.box;rw[a5]at this;exact this
  have bp:=x.o.pre ai.o ae.o al.o;have bb:=bp.Fw ai.o;have bi:=bb.Ap.c1;have L:=ai.o.fst.below bp.A9 ai.o.fst.lt;have bg:F.cell? (A0 c.fb h)=some (I0 u):=by
   rw[L.cell h,<- b4];have ch:=ai.o.fl;simp[Ci,List.getD,show h<c.fl.length by omega]
  have b6:=bb.Ap.lt;have bf:=L.lt;have bh:=Bf L x.o.pg lC;refine Cl (fun W=>RRd W c.pb c.gb c.fb (w.heap.size+1+1) h u w.heap.size (I0 st.pl) (I0 st.en) (S0 r c.bs.size c.bs.size) (S0 j 8 8) (I0 st.Af)) [([0,1,2,3,4,5,6,7,8,9,10,11,12],13),([14,15,16],17),([],18),([],19)] rfl kZ (fun _ _ d _ _ K=>by cases d<;>exact K) (O.o _ (Or.inl x.o.pg) bi bg S.o X) ?_;refine kJ ?_;refine k5 ?_;refine Ab (P0 c.pb) rfl (fun W a=>by go_simp) ?_;refine Ab (P0 c.pb) rfl (fun W a=>by go_simp) ?_;refine Ab (P0 c.gb) rfl (fun W a=>by have z:=a.p0;go_simp) ?_;refine Ab (P0 c.gb) rfl (fun W a=>by go_simp) ?_;refine Ab (.pointer (some (A0 c.gb 1))) rfl (fun W a=>by go_simp) ?_;refine Ab (S0 c.fb 8 8) rfl (fun W a=>by have z:=a.g1;go_simp) ?_;refine Ab (.pointer (some (A0 (w.heap.size+1+1) 3))) rfl (fun W a=>by go_simp) ?_;refine Ab (I0 h) rfl (fun W a=>by have z:=a.x3;go_simp) ?_;refine Ab (.pointer (some (A0 c.fb h))) rfl (fun W a=>by go_simp) ?_;refine Ab (I0 u) rfl (fun W a=>by have z:=a.f;go_simp) ?_;refine Ab (.agg (X_0 st.pl st.en r c.bs.size c.bs.size j st.Af)) rfl (fun W a=>by obtain⟨z,a4,a8,a9,E⟩:=a.box;go_simp) ?_;refine Ag ⟨_,rfl,rfl,?_⟩;unfold Oper.wp;go_simp;have ba:=x.o.drewN 1;unfold AA at ab;refine(ab.o _ (ba.pre ai.o ae.o al.o)).mono ?_;intro y bz bo;obtain⟨v,ao,U,bx,b5,Z,b8⟩:=JX ba bo;obtain⟨I,_,_,_,cg,cf,_,_,bm,_,_⟩:=bo;have b7:=x.o.lt;rw[a5]at b7;have b3:=S.o.lt;have bq:=(I.H4 b6 a6 1).trans bi;have br:=(I.H4 bf bh h).trans bg;have bu:=I.Ap (show Ac (F.drewN 1) (w.heap.size+1+1) _ _ from S.o) b3 kX;have bv:=I.Ap (show Ac (F.drewN 1) w.heap.size _ _ from X) X.lt kX;have a2:=Aa (HG b8);rw[a5]at a2 Z;have cb:c.gb≠w.heap.size+1:=kX;have cc:=Bf (I.Ap (show Ac (F.drewN 1) c.fb _ _ from L) bf bh) Z lC;have b0:=Aa (O.o bz (Or.inr ⟨_,_,_,bm⟩) bq br bu bv);have J:=Aa (O.o (E8 bz (w.heap.size+1) (I0 v.pl) (I0 v.en) (S0 ao c.bs.size c.bs.size) (S0 U 8 8) (I0 v.Af)) (Or.inr ⟨_,_,_,Ac.Ar bm kX _ _ _ _ _⟩) (by rw[MM _ _ _ _ cb];exact bq) (by rw[MM _ _ _ _ cc];exact br) (Ac.Ar bu kX _ _ _ _ _) (Ac.Ar bv kX _ _ _ _ _));subst b5;obtain⟨am,aq,a3,bc,bj,cm⟩:=Z.Bi;unfold EI AA;simp only;refine⟨b0.o,?_⟩;refine Ab (.agg (X_0 v.pl v.en ao c.bs.size c.bs.size U v.Af)) rfl (fun W a=>by go_simp) ?_;refine Ab (.string ⟨bx.toArray⟩) rfl (fun W a=>by go_simp) ?_;refine Ab (.bool M.ok) rfl (fun W a=>by go_simp) ?_;refine mO ?_;go_wp2;refine aT (v:=.tuple (X_6 (AA v ao c.bs.size U) (⟨bx.toArray⟩) M.ok)) jh rfl ?_;exact a2.o
theorem JF(c)(p:DK c)(w)(st)(j a k x)(o:Cp c w st j a (k+1) x)(b)(r)(y)(af:At c.As b (r::y))(q)(E:k<=100000)(h)(ao:r.c=119\/r.c=64\/r.c=115)(ce:∀ W,Cp c W st j a k x->Calls prog 96 #[P0 c.pb,I0 b,.agg (AA st j c.bs.size a)] W fun e w'=>AO c W h e w'):
 Calls prog 56 #[P0 c.pb,I0 b,.agg (AA st j c.bs.size a),.bool q] w fun e w'=>AO c w h e w':=by
 refine lX ?_;intro f bd bl aj a7 a6 g ac ap ar a5;have F:∀ A B,((w.alloc A).alloc B).cell? (A0 c.pb 2)=some (I0 (k+1)):=fun A B=>by
  exact NE
 refine lY ?_;intro au ah av ax aw an ay az a0 a1 ad bk ai ae al ak ab;rcases ao with ao|ao|ao;all_goals
  exact n5
theorem Qe(c)(p:DK c)(v)(U:OB c v)(w st g j e h)(o:Cp c w st g j e h)(b x u K J)(af:At c.As b (x::u))(al:Kc x)(ao:x.c=64)(M:c.bs.size<(st.Ai x.d.toNat).1)(O:Fa K u)(S:BK c.R false J u)(_hfu:e<=100000)(_hg:e<v):
 Calls prog 96 #[P0 c.pb,I0 b,.agg (AA st g c.bs.size j)] w fun E w'=>AO c w (Nf (tryT c.G c.bs c.N v) c.bs (st.Ai x.d.toNat).1 u e h st) E w':=by
 refine k2 ?_;intro f ah av ax aw an ay az a0 a1 ad bk bd bl aj ap ar ae;refine lT ?_;intro b0 bx b1 d M ak ba bm cc ce cd n bh a ac;have bo:∀ A B F,(((w.alloc A).alloc B).alloc F).cell? (A0 j (d*2))=some (I0 n):=fun A B F=>by
  exact JJ
 have bp:∀ A B F,(((w.alloc A).alloc B).alloc F).cell? (A0 j (d*2+1))=some (I0 a):=fun A B F=>by
  exact Gg
 rw[ak]at an;rw[ao]at ah;rw[bh]at ce M;rw[ac]at cd;have V:=Aa af.tail;have ai:=Aa O;have a5:=Aa S;have Z:=Aa U;have Y:=Aa p;have X:=Aa o.A9;have ab:=Aa o.inv;have y:=Aa (EW.new o);have I:=Aa (show Nf (tryT c.G c.bs c.N v) c.bs (st.Ai d).1 u e h st=CK e h st.pl st by unfold Nf;rw[bh];rw[aF M]);generalize Nf (tryT c.G c.bs c.N v) c.bs (st.Ai d).1 u e h st=a6 at*;refine kF ?_;intro au;unfold AA AE at y au;unfold AA;have bu:(c.bs.size:Int)<(n:Int):=kX;go_enter func96,ntmps96;go_wp2_with fail;generalize(w.alloc (.cells (X_0 st.pl st.en g c.bs.size c.bs.size j st.Af) 140)).alloc (.cells X_2 140)=z at*;have r:Hid (LZ c w st g j e h (X_15 x.w x.b x.r d x.pl (b+x.nx) x.rl) n a st (((z.alloc (.cells (X_15 x.w x.b x.r d x.pl (b+x.nx) x.rl) 132)).alloc (.cells #[I0 n,I0 a] 240)).alloc (.cells (X_0 st.pl st.en g c.bs.size c.bs.size j st.Af) 140))):=LZ.new (us:=st) y.o au;generalize((z.alloc (.cells (X_15 x.w x.b x.r d x.pl (b+x.nx) x.rl) 132)).alloc (.cells #[I0 n,I0 a] 240)).alloc (.cells (X_0 st.pl st.en g c.bs.size c.bs.size j st.Af) 140)=a7 at*;have bi:=r.o.dep.c0;have bz:=r.o.DY.pg.c1;obtain⟨a8,a9,be,bf,bg,_⟩:=r.o.DY.box.Bi;obtain⟨b2,b3,b4,b5,b6,b7⟩:=r.o.ub.Bi;have bv:¬ w.heap.size+1+1+1+1=c.pb:=kX;go_quiet (fail);go_wp2_with fail;refine(CH _ c.pb c.gb c.bs e c.N h 0 st.pl st g c.bs.size j (r.o.drewN nq).DY.pg).mono ?_;rintro E b8⟨rfl,ch,L⟩;obtain⟨a4,bq,br,bb⟩:=(r.o.drewN nq).DY.next L ch;refine mM ?_;intro am aq a3 bc bj a2 ci cj;rw[I.o];exact Gl
theorem ia(h:p:=by
 cases k with
 | nil=>cases b
 | cons x y=>
  cases ab:Ae x.c with
  | false=>exact af.up a (br fun aa t e=>by cases e;exact ab)
  | true=>
   intro d ak;rw[b2 x y rfl ab]at ak;by_cases ac:d=x.d.toNat;have ae:x.c≠39:=fun e=>by rw[e]at ab;revert ab;decide
   refine⟨i,fun k=>if k=x.d.toNat then some ⟨st.out.length,x.w.toNat,decide (x.c=107)⟩else(st.AS[i]) k,⟨st.out.length,x.w.toNat,decide (x.c=107)⟩,rfl,?_,by simp[ac]⟩;unfold wSil;simp only[aC ae,B5,Ef];rw[dW,bA hi];simp;simp only[ac,cT]at ak;exact af.up a (sc':=f) rfl d ak):p:=h
theorem mr(h:p:=by
 subst e
 cases ab:Ae aa.c with
 | false=>rfl
 | true=>exact absurd (by simp[silV,ab]) b):p:=h
def KT(s:Sp)(n:Nat):Prop:=s.a<=s.b/\s.b<=n/\Jx s.ho n
structure F3 (st:Wr):Prop where
 wt:∀ e∈st.wait,Jx e.ho st.out.length/\CR e.As/\∃ sc,K9 false true e.As sc/\EU st (some e.hid) sc
 su:∀ l∈st.Au,∀ s∈l,KT s st.out.length
theorem KT.more{s n m}(a:KT s n)(b:n<=m):KT s m:=⟨a.1,bQ a.2.1 b,a.2.2.more b⟩
theorem F3.up{N k st b}(e:F3 st)(hu:HU N k st b)(o:b.wait=st.wait)(p:b.Au=st.Au):F3 b:=by
 refine⟨fun j a=>?_,fun l f s a=>?_⟩;rw[o]at a;obtain⟨g,h,r,c,d⟩:=e.wt j a;exact⟨g.more hu.ge,h,r,c,d.up hu rfl⟩;rw[p]at f;exact(e.su l f s a).more hu.ge
def VD(R:Nat->Bool)(G:Nat->aD It):Prop:=(∀ i,CR (G i))/\∀ i,R i=true->BK R false false (G i)/\∃ a,K9 false false (G i) a
def WtC{T:Type}(R:Nat->Bool)(W:aD It->aM Nat->T->Wr->Wr):Prop:=∀ a hid h st e g b f,BK R e g a->CR a->K9 e b a f->(b=true->EU st hid f)->BX st->F3 st->F3 (W a hid h st)
theorem BK.VE{R j g f b}(a:BK R j g (f::b))(h:AY [42,116,119,64,115] f.c=true):segs b.length b=[b]:=by
 obtain⟨e,a⟩:=a
 cases e with
 | zero=>exact a.elim
 | succ e=>exact a.2.2.2.2.2.1 h
theorem BK.Oh{R k h b g f}(a:BK R k h (b::g))(j:f∈segs g.length g):BK R (decide (b.c=40)) (decide (b.c=40)||(h&&AY [119,64,115] b.c)) f:=by
 obtain⟨e,a⟩:=a
 cases e with
 | zero=>exact a.elim
 | succ e=>exact⟨e,a.2.2.2.2.2.2 f j⟩
theorem BK.Ig{R h f b j}(a:BK R h f (b::j))(g:b.c=82):R b.r.toNat=true:=by
 obtain⟨e,a⟩:=a
 cases e with
 | zero=>exact a.elim
 | succ e=>exact a.2.2.2.1 g
theorem KP(a i st):(wSil a i st).wait=st.wait:=by
 unfold wSil;split;rfl;split<;>rfl
theorem WA(a i st):(wSil a i st).Au=st.Au:=by
 unfold wSil;split;rfl;split<;>rfl
theorem N6{T:Type}{R}{s:T->Nat}{W:aD It->aM Nat->T->Wr->Wr}(p:Od s W)(r:WtC R W)(i j):∀ h o st f,(∀ k∈h,CR k/\BK R true j k)->Sf h f->EU st (some i) f->i<st.AS.length->BX st->F3 st->F3 (wKids W i h o st)
 | [],_,_,_,_,_,_,_,_,g=>g
 | k::h,o,st,f,hk,hs,af,hi,hv,g=>by
  obtain⟨u,A⟩:=hk k aG;obtain⟨E,z,br,b2,v⟩:=hs;unfold wKids;by_cases b:silV k=true;rw[aF b];have a:=Hu (i:=i) hv u b;refine N6 p r i j h o _ z (fun k g=>hk k (aH _ g)) v ?_ (bM hi a.DC) a.inv (g.up a (KP k i st) (WA k i st));exact ia;rw[aC b]
  cases o with
  | nil=>exact g
  | cons aa F=>
   have a:=p k (some i) aa st u hv;have B:∀ aa t,k=aa::t->Ae aa.c=false:=fun aa t e=>by
    exact mr
   exact N6 p r i j h F _ z (fun k g=>hk k (aH _ g)) v (af.up a (br B)) (bM hi a.DC) a.inv (r k (some i) aa st true j true f A u E (fun _=>af) hv g)
theorem NJ{T:Type}{R}{s:T->Nat}{W:aD It->aM Nat->T->Wr->Wr}(j:Od s W)(k:WtC R W)(a b e h)(g:CR a)(p:BK R b e a)(o:K9 b false a h):∀ v st,BX st->F3 st->F3 (wMany W a v st)
 | [],_,_,f=>f
 | y::ys,st,r,f=>NJ j k a b e h g p o ys _ (j a none y st g r).inv (k a none y st b e false h p g o (fun u=>by cases u) r f)
def Ec(st:Wr)(i:Nat):aD Sp:=(st.Au[i]?).getD []
def Ri(a:aD aI)(i:Nat):aI:=(a[i]?).getD (.slice none 0 0)
def GG(st:Wr)(pre:aD Nat):aD UInt8:=pre.foldl (fun a i=>(Ec st i).foldl Dw a) st.out
theorem Ut(st pre a):GG st (pre++[a])=(Ec st a).foldl Dw (GG st pre):=by unfold GG;rw[dK];rfl
theorem Aae(st):(List.range st.Au.length).map (Ec st)=st.Au:=by
 apply fA;simp;intro i b a;simp[Ec,a]
theorem PR(st):GG st (Ee st.Au.length 0)=B8 st:=by
 unfold GG B8 Ee;rw[bS]
 conv=>rhs;rw[<- Aae st,<- List.map_reverse,List.foldl_map]
theorem ZY:∀ (l:aD Sp) (b:Nat) (e:b<l.length) (a:Nat),a<5->(l.flatMap S6)[b*5+a]? = (S6 l[b])[a]?
 | [],_,e,_,_=>by simp at e
 | s::l,0,_,a,hj=>by
  rw[bY,hL,eC,aW (by simpa[S6,VG]using hj)];rfl
 | s::l,b+1,e,a,hj=>by
  have f:(S6 s).length=5:=rfl;rw[bY,bG (by rw[f];omega),f,show(b+1)*5+a-5=b*5+a by omega,ZY l b (by simpa using e) a hj];rfl
theorem SI{st e s}(a:s∈Ec st e):∃ l∈st.Au,s∈l:=by
 unfold Ec at a
 cases b:st.Au[e]? with
 | none=>rw[b]at a;simp at a
 | some l=>rw[b]at a;exact⟨l,bH b,a⟩
theorem BO.ZA{c h w r j p o e k st}(f:BO c h w r j p o e k st)(a):w.ownsRow h 199 5 (Ri e a) (Ec st a).length ((Ec st a).flatMap S6):=by
 unfold Ri Ec;by_cases g:a<e.length;have b:a<st.Au.length:=by rw[<- f.FV];exact g
 have:=f.sum a e[a] st.Au[a] (bA g) (bA b);rw[bA g,bA b];exact this;have b:st.Au.length<=a:=by rw[<- f.FV];omega
 rw[fG kX,fG b];exact cC _ _ _ _
theorem Xd{a s}(b:KT s a.length):(Dw a s).length=a.length:=CF _ _ _ b.2.2.lt
theorem Gd:∀ (l:aD Sp) (a:aD UInt8) (n:Nat),a.length=n->(∀ s∈l,KT s n)->(l.foldl Dw a).length=n
 | [],_,_,h,_=>h
 | s::l,a,n,h,hs=>Gd l (Dw a s) n ((Xd (by rw[h];exact hs s aG)).trans h) fun e b=>hs e (aH _ b)
theorem Pj{st}(g:∀ l∈st.Au,∀ s∈l,KT s st.out.length):∀ pre,(GG st pre).length=st.out.length:=by
 have:∀ (pre:aD Nat) (a:aD UInt8),a.length=st.out.length->(pre.foldl (fun a i=>(Ec st i).foldl Dw a) a).length=st.out.length:=fun pre=>by
  induction pre with
  | nil=>intro a b;exact b
  | cons k pre j=>
   intro a b;refine j _ (Gd _ _ _ b fun s h=>?_);obtain⟨l,e,f⟩:=SI h;exact g l e s f
 exact fun pre=>this pre st.out rfl
theorem RZ{st}(a:∀ l∈st.Au,∀ s∈l,KT s st.out.length):(B8 st).length=st.out.length:=by
 rw[<- PR];exact Pj a _
theorem BO.Z5{c g w w' f b o j k h st}(e:BO c g w f b o j k h st)(r:Below g w w')(p:∀ a,a∈f::E6 o j k h->w'.heap[a]? = w.heap[a]?)(v:∀ a,b.ownBlock=some a->w'.heap[a]? = w.heap[a]?):BO c g w' f b o j k h st:=by
 have:=BO.next (bv':=b) (wide:=st.wide) (out:=st.out) e r (fun a u=>p a (aH _ u)) (by have:=e.Ap;unfold Ac at*;rw[p f aG];exact this) (An e.out v) e.nb;exact this
theorem ZX{w r f h b}(v:w.ownsRow r 5 1 (S0 f b.length h) b.length (BT b))(a e)(z:a<=e)(A:e<=b.length)(B:b.length<=h)(j):
 (convert 40 9 (.slice (if h=a then some (A0 f 0)else some (A0 f a)) (e-a) j)).run prog w=.ok (.string ⟨((b.drop a).take (e-a)).toArray⟩) w:=by
 by_cases o:h=a;have u:e-a=0:=kX;rw[aF o,u,cK];exact eE w 40 9 5 (A0 f 0) j [] underlying40 underlying5 underlying9 fun g k=>by simp at k
 rw[aC o];have p:((b.drop a).take (e-a)).length=e-a:=by rw[cX,dQ];omega
 have:=eE w 40 9 5 (A0 f a) j ((b.drop a).take (e-a)) underlying40 underlying5 underlying9 fun g k=>by
  rw[p]at k;have x:=v.cellAt (a+g) kX;rw[show Addr.add (A0 f a) g=(A0 f (a+g))by unfold Addr.add;split<;>simp_all,x];have y:a+g<b.length:=kX;simp[BT,y]
 rw[p]at this;exact this

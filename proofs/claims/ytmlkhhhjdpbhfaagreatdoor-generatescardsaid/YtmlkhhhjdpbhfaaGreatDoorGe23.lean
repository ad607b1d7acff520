import Derived.Test.YtmlkhhhjdpbhfaaGreatDoorGe18
namespace Go.Proofs.YtmlkhhhjdpbhfaaGreatDoor
open Go.RowKit Go.Proofs.Tryz
set_option maxHeartbeats 4000000
set_option maxRecDepth 100000
variable{p q:Prop}(z:q)
theorem i2(h:p:=by
 go_roundw
 case rel=>exact⟨q+1,j,true,al,d2,rfl,rfl,rfl,by go_num,by omega,by rw[af.o];exact b.o j d2 _ ai ah ak⟩
 case measure=>simp[intOf];omega):p:=h
structure WhI (c:Rx) (m:Mx) (dn lo:Nat) (P:aD It->Nat->Dp->Pr) (h B:Nat) (R:Pr) (w:aE) (d:Dm) (w1:aE) (hb:Nat) (ks:aD (aD It)) (sm:Bool) (i:Nat) (z:Pr) (d':Dm) (wr:aE):Prop where
 eq:R=Gu z fun p D=>pKids m.s P h ks p sm D
 ok:z.ok=true->i=z.p/\lo<=i/\Al m.s i/\B4 m dn d'.ab+10000*(m.s.size+1-i)+(8*ks.length+2*ks.flatten.length)<=B
 D:d'.ab=z.D
 q:Ck c m.s w d wr d'
 hbe:z.ok=true->d'.DR[h]? = some hb
 dl:dn<=d'.ab.es.length
 kp:Kp (hb::c.pb::d.rows) w1 wr
 rows:∀ b∈d'.rows,b∈d.rows\/w1.heap.size<=b
def WhE(c:Rx)(m:Mx)(R:Pr)(b:Bool)(w:aE)(d:Dm)(i:Nat)(wc:aE):Prop:=
 ∃ a,(b=true->i<=m.s.size/\R=⟨i+1,decide (bt m.s i=41),a.ab⟩)/\(b=false->R.ok=false/\a.ab=R.D)/\Ck c m.s w d wc a
def T6(m:Mx)(W:aD It->aM Nat->Nat->Dp->Pr)(b:aD (aD It))(t:Nat)(D:Dp):Pr:=if bt m.s t=40 then pKids m.s (fun a i D'=>W a (some D.AS.length) i D') D.AS.length b (t+1) false (Ou D)else⟨t,false,D⟩
theorem Sm(c)(b6:DK c)(m)(bo:E5 m)(dn n)(d5:WI c m dn n)(c7:∀ i,CR (c.G i))(w d t fn)(X:Ei c m dn w d t fn)(ga:m.s.size+1<=n+1+t)(bx)(e2:bx<c.As.length)(x:aD (Nat × aD It))(av:CM c.As bx=x.map Prod.fst)(d3:∀ q∈x,At c.As q.1 q.2/\(∃ B,Fa B q.2)/\BK c.R true true q.2/\CR q.2)(gd:8*x.length+2*(x.map Prod.snd).flatten.length<=10000):
 Calls prog 114 #[P0 c.pb,I0 (bx:Nat),I0 (t:Nat)] w fun k w'=>A6 c m.s w d (T6 m (pT m c.G n) (x.map Prod.snd) t d.ab) k w':=by
 have f9:=b6.len;have gc:=X.mem.lt;have ff:=X.al.le;have cp:=bo.s8;have fb:=SH w;have c3:=X.mem.Ap.c1;have cd:∀ o,(w.alloc o).cell? (A0 c.pb 0)=some (P0 c.gb):=fun o=>(Ac.alloc X.mem.Ap o).cell 0
 have S:=Aa (EJ m.s cp _ c.pb t c3 ff 40 lC);obtain⟨R,cj⟩:∃ R,T6 m (pT m c.G n) (x.map Prod.snd) t d.ab=R:=⟨_,rfl⟩;have a5:=cj.symm;unfold T6 at a5;rw[cj];obtain⟨h,ck⟩:∃ h,d.ab.AS.length=h:=⟨_,rfl⟩;rw[ck]at a5;obtain⟨O,e0⟩:∃ O,B4 m dn d.ab+10000*(m.s.size+1-t)=O:=⟨_,rfl⟩;have fz:O<=1000000000:=by have:=X.FI;omega
 have b0:Below w.heap.size w (w.alloc (.cells (Hn fun _=>none) 96)):=(aO _ _).alloc (aB _) _;have b1:=X.mem.N1 w.heap.size b0 (aB _) (Ac.new w _ _);have ay:=b6.Fw.below b1.mem.A9;have cg:=Aa (Iz _ c.gb c.g c.cap _ c.tw c.As ay b6.wf kX bx e2);rw[av]at cg;have br:Hid (∀ wr,Below (w.alloc (.cells (Hn fun _=>none) 96)).heap.size (w.alloc (.cells (Hn fun _=>none) 96)) wr->∃ ce g,WhI c m dn (t+1) (fun p i D'=>pT m c.G n p (some h) i D') h O R w d wr w.heap.size (x.map Prod.snd) false (if bt m.s t=((40:UInt8).toNat:Int)then t+1 else t) ⟨if bt m.s t=((40:UInt8).toNat:Int)then t+1 else t,decide (bt m.s t=((40:UInt8).toNat:Int)),ce⟩ g wr):=by
  intro wr z;have eo:((40:UInt8).toNat:Int)=40:=lC;rw[eo];by_cases ao:bt m.s t=40;rw[aF ao]at a5⊢;rw[bF ao];have bb:=X.al.one kX;have:=bb.le;refine⟨Ou d.ab,{d with AS:=d.AS++[fun _=>none],DR:=d.DR++[w.heap.size]},a5,fun _=>⟨rfl,aB _,bb,?_⟩,rfl,b1.trans (Ck.refl b1.mem z),fun _=>?_,X.dl,Kp.refl _ _,fun an h=>Or.inl h⟩;rw[cM];show B4 m dn d.ab+_+_<=O;omega;rw[<- ck,show d.ab.AS.length=d.DR.length from X.mem.DC.symm];simp;rw[aC ao]at a5⊢;rw[bJ ao];exact⟨d.ab,d,a5,fun k=>(by cases k),rfl,Ck.refl X.mem (b0.trans (z.mono b0.size)),fun k=>(by cases k),X.dl,Kp.refl _ _,fun an h=>Or.inl h⟩
 have a9:=Aa (QM (dn:=dn) bo c7 n);have a8:=Aa d5;have ec:=Aa b6;have ek:=Aa d3;have cx:=Aa (fun(wr:aE) (_:Below w.heap.size w wr) (an:Nat) (z:w.heap.size<=an)=>X.mem.Uc z);clear ay X b0 d5 c7 bo a5 cj e0 b1 av d3 ck;generalize(if bt m.s t=((40:UInt8).toNat:Int)then t+1 else t)=d4 at S br;generalize decide (bt m.s t=((40:UInt8).toNat:Int))=fm at S br;go_enter func114,ntmps114;go_upto_block 0 with(first
  | (go_at_call 112;refine S.o.mono ?_;rintro k I⟨rfl,u⟩;rw[u];clear u I)
  | (go_at_call 88;refine cg.o.mono ?_;rintro k w1⟨fk,rfl,df,db,dq⟩))
 obtain⟨ce,en,c8⟩:=br.o w1 db;have cf:=Aa c8;obtain⟨ch,gg,fg,e3,ds⟩:∃ ch ci,fk=.slice ch x.length ci/\x.length<=maxLen/\∀ (ap:Nat) (ad:ap<x.length),∃ Y,ch=some (A0 Y 0)/\w.heap.size+1<=Y/\Y<w1.heap.size/\w1.cell? (A0 Y ap)=some (I0 (x[ap].1:Nat)):=by
  rcases df with⟨ab,am⟩|⟨Y,ci,ab,am,ax,c4,c5⟩;have:x=[]:=by simpa using am
  subst this;exact⟨none,0,by rw[ab];rfl,by simp,fun ap ad=>by simp at ad⟩;rw[cM]at ab ax c5;refine⟨some (A0 Y 0),ci,ab,by omega,fun ap ad=>⟨Y,rfl,?_,am,?_⟩⟩;have:=dq Y (by rw[ab];rfl);simpa using this;have:=c5 ap ad;rw[A3 _ _ _ AM]at this;simpa using this
 subst fg;have eg:=Aa ds;unfold maxLen at e3;clear S cg c3 cd fb df db dq c8 br ds;go_cut [8,9] (fun ct cu wc=>∃ (i:Nat) (cc:Bool),ct=I0 i/\cu=.bool cc/\Hid (WhE c m R cc w d i wc))
 case first=>
  go_wp2;go_loopw [8,9,12,13] (fun ct cu fq cs wr=>∃ (q i:Nat) (sm:Bool) (a1:Pr) (g:Dm),ct=I0 i/\cu=.bool a1.ok/\fq=.bool sm/\cs=I0 q/\q<=x.length/\Hid (WhI c m dn (t+1) (fun p i D'=>pT m c.G n p (some h) i D') h O R w d w1 w.heap.size ((x.drop q).map Prod.snd) sm i a1 g wr)) (fun _ _ _ cs _=>x.length-(intOf cs).toNat)
  case atStart=>exact⟨0,d4,false,⟨d4,fm,ce⟩,en,rfl,rfl,rfl,rfl,bR _,cf⟩
  case round=>
   clear cf;obtain⟨q,i,sm,a1,g,rfl,rfl,rfl,rfl,ao,A⟩:=hrel;have V:=A.out.eq;unfold Gu at V;have be:a1.ok=false\/q=x.length->Hid (WhE c m R a1.ok w d i wr):=fun bp=>by
    have:WhE c m R a1.ok w d i wr:=by
     refine⟨g,fun av=>?_,fun av=>?_,A.out.q⟩;have fe:=bp.resolve_left (by rw[av];simp);subst fe;obtain⟨a7,_,a6,_⟩:=A.out.ok av;rw[aF av,hE,<- a7,<- A.out.D]at V;exact⟨a6.le,V⟩;rw[aC (by rw[av];simp)]at V;rw[V];exact⟨av,A.out.D⟩
    exact this
   by_cases b8:q<x.length
   rotate_left
   . have b:=be (Or.inr kX);have fa:¬ (q:Int)<(x.length:Int):=kX;clear A V be;go_wp2_with fail;go_meet
     case rel=>exact⟨i,a1.ok,rfl,rfl,b⟩
   have fa:(q:Int)<(x.length:Int):=kX
   cases b9:a1.ok with
   | false=>
    rw[b9]at be;have b:=be (Or.inl rfl);clear A V be;go_wp2_with fail;go_meet
    case rel=>exact⟨i,false,rfl,rfl,b⟩
   | true=>
    rw[aF b9]at V;simp only at V;obtain⟨a7,dm,a6,bf⟩:=A.out.ok b9;have e7:=a6.le;rw[<- a7,<- A.out.D,cF b8,bX,pKids]at V;rw[cF b8,bX,aX,cR,aR]at bf;obtain⟨ba,ca,cb,cl⟩:=ek.o x[q] (aU b8);obtain⟨Y,rfl,f6,di,cn⟩:=eg.o q b8;obtain⟨F,dh⟩:∃ F,x[q].1=F:=⟨_,rfl⟩;obtain⟨p,dl⟩:∃ p,x[q].2=p:=⟨_,rfl⟩;rw[dh]at ba cn;rw[dl]at ba ca cb cl V bf;generalize c9:(x.drop (q+1)).map Prod.snd=bv at*;obtain⟨f,L,rfl⟩:∃ f L,p=f::L:=by
     obtain⟨B,h⟩:=ca
     cases B with
     | zero=>exact h.elim
     | succ B=>obtain⟨f,fj,k,_⟩:=h;exact⟨f,fj.flatten,k⟩
    have Cj:Kc f:=by obtain⟨B,h⟩:=cb;cases B with|zero=>exact h.elim|succ B=>exact h.1
    have e8:Y ∉ w.heap.size::c.pb::d.rows:=fun bo=>by
     rcases bB.1 bo with k|k;omega;exact cx.o w (aO _ _) Y kX k
    have dj:=(A.out.kp.cell di e8 q).trans cn;have e5:=bM di A.out.kp.size;have ay:=ec.o.Fw.below A.out.q.mem.A9;obtain⟨eq,er,es,et,eu,ew,ex,ey,ez⟩:=ay.nine ba;have em:=ay.top;have cd:=A.out.q.mem.Ap.c0;have f5:F<c.As.length:=by have:=ba.le;simp at this;omega
    have f4:=ay.lt;have f3:=ay.Ap.lt;have aq:=Aa (fun W=>Kw f.c W);have HEq:=Aa V;have Z:=Aa bf;have ea:=Aa ba;have eh:=Aa ca;have ei:=Aa cb;clear a7 bf V ba ca cb ay cn be dh dl;go_wp2_with fail;have fl:=World.new_ne wr _ cd;go_region_held3 (fun w'=>w'.cell? (A0 c.pb 0)=some (P0 c.gb)/\w'.cell? (A0 c.gb 0)=some (S0 c.g c.As.length c.cap)/\w'.cell? (A0 Y q)=some (I0 (F:Nat))/\
     w'.cell? (A0 c.g (F*9))=some (.int .u8 f.c)/\w'.cell? (A0 c.g (F*9+1))=some (I0 f.w)/\w'.cell? (A0 c.g (F*9+2))=some (I0 f.b)/\w'.cell? (A0 c.g (F*9+3))=some (I0 f.r)/\
     w'.cell? (A0 c.g (F*9+4))=some (I0 f.d)/\w'.cell? (A0 c.g (F*9+5))=some (I0 f.pl)/\w'.cell? (A0 c.g (F*9+6))=some (I0 (F+f.nx))/\w'.cell? (A0 c.g (F*9+7))=some (I0 f.rl)/\w'.cell? (A0 c.g (F*9+8))=some (I0 0))
     (go_keep) (fail)
    obtain⟨y,b2⟩:∃ W,(wr.alloc (.cells (X_4 f.c f.w f.b f.r f.d f.pl (F+f.nx) f.rl) 132)).drew=W:=⟨_,rfl⟩;have b4:=b2▸((aO wr.heap.size wr).alloc (aB _) _).drew;have bk:Ac y wr.heap.size (X_4 f.c f.w f.b f.r f.d f.pl (F+f.nx) f.rl) 132:=b2▸Ac.new wr _ _;have J:=Aa (A.out.q.trans (Ck.refl A.out.q.mem b4));have a2:=Aa (A.out.kp.trans (Kp.Bu (o:=[]) b4) (fun _ h=>by cases h));have az:=A.out.hbe b9;have bh:=Aa A.out.rows;have af:=Aa c9;have bc:=A.out.dl;have e9:g.o.length<=1000000000/\g.ls.length<=1000000000:=by have:=Z.o;simp only[B4,Dm.ab,cM]at this;omega
    have fs:=bk.c0;have dk:=(b4.cell (p:=(A0 Y q)) e5).trans dj;have bq:=J.o.mem.Ap.c1;have gb:=J.o.mem.lt;rw[b2];have dr:wr.heap.size≠c.pb:=kX;clear em dj eq er es et eu ew ex ey ez cd fl b4 b2 A c9;by_cases aw:f.c=39
    . have a0:OS f.c=true:=by unfold OS;rw[bF aw];rfl
      have K:=HEq.o;rw[aF (show silV (f::L)=true from a0),show IZ (f::L) h g.ab=Ek g.ab [UInt8.ofNat f.b.toNat]by unfold IZ;simp only;rw[aF aw]]at K;rw[a0]at aq;obtain⟨fv,fw⟩:=Cj.b aw;obtain⟨e,dv⟩:∃ fr,UInt8.ofNat f.b.toNat=fr:=⟨_,rfl⟩;have eb:=Aa (show f.b % 256=(e.toNat:Int)by rw[<- dv,fV];omega);rw[dv]at K;rw[aw]at fs aq;have bg:Hid (∀ W,Kp [c.pb] y W->W.cell? (A0 wr.heap.size 2)=some (I0 f.b)):=fun W a=>(a.Ap bk (by simp;exact dr)).cell 2
      have bm:Kp [c.pb] y y.drew:=(Kp.refl _ _).drew 1;have gl:y.drew.cell? (A0 c.pb 2)=some (.string ⟨g.o.toArray⟩):=J.o.mem.Ap.cell 2;obtain⟨bi,b3⟩:∃ W,(y.alloc (.cells #[.int .u8 e.toNat] 5)).drew=W:=⟨_,rfl⟩;have b5:=b3▸((aO y.heap.size y).alloc (aB _) _).drew;have bd:=J.o.mem.more b5;have aj:Kp [c.pb] y bi/\Ac bi y.heap.size #[.int .u8 e.toNat] 5:=⟨Kp.Bu b5,b3▸Ac.new y _ _⟩;have gj:=bd.Ap.c2;have fy:=bd.Ap.frozen 2;have c6:Kp [c.pb] y (bi.setCell (A0 c.pb 2) (.string ⟨(g.o++[e]).toArray⟩))/\Ac (bi.setCell (A0 c.pb 2) (.string ⟨(g.o++[e]).toArray⟩)) y.heap.size #[.int .u8 e.toNat] 5:=⟨aj.1.setCell _ _ _ (Or.inl kY),aj.2.Ad (A0 c.pb 2) lB _⟩;have b:=Aa (show WhI c m dn (t+1) (fun p i D'=>pT m c.G n p (some h) i D') h O R w d w1 w.heap.size bv sm i ⟨i,true,Ek g.ab [e]⟩ {g with o:=g.o++[e]} (bi.setCell (A0 c.pb 2) (.string ⟨(g.o++[e]).toArray⟩))by
       refine⟨K,fun _=>⟨rfl,dm,a6,?_⟩,rfl,(J.o.trans (Ck.refl J.o.mem b5)).trans (bd.Abf [e]),fun _=>az,bc,a2.o.trans c6.1 (fun an z=>Or.inl (by simp at z;simp[z])),bh.o⟩;have ab:=Z.o;have am:B4 m dn (Ek g.ab [e])=B4 m dn g.ab+1:=by rw[GJ];rfl
       show B4 m dn (Ek g.ab [e])+_+_<=O;omega)
      have ed:=Aa (DQ g.o [e]);have f7:(⟨g.o.toArray⟩:aA).size<=1000000000:=by rw[Cv];exact e9.1
      have ae:=Aa b3;clear K HEq Z b3 b5 bd a9 a8 bk dk bq a2 J;generalize(⟨g.o.toArray⟩:aA)=fu at*;generalize(⟨(g.o++[e]).toArray⟩:aA)=el at*;go_wp2_with (go_at_call 169;refine(aq.o _).mono ?_;rintro k I⟨rfl,u⟩;rw[u];clear u I);refine Bo (fun W=>Kp [c.pb] y W) 14 kZ rfl ?_;refine A2 (fun _ _ d _ _ h=>by cases d<;>exact h) [0,1,2,3,5,6,7] 7 14 _ _ _ kZ ?_;refine jL ?_;iterate 6 refine Ab _ rfl (fun W a=>by have ab:=bg.o W a;go_simp<;>rfl) ?_
      refine Ab (.int .u8 e.toNat) rfl (fun W a=>by go_simp;exact eb.o) ?_;refine Ag ?_;refine En 4 8 kZ bm ⟨_,rfl,rfl,?za⟩ ⟨_,rfl,rfl,?zb⟩;all_goals
       unfold Oper.wp;go_simp
      case' za=>
       refine AZ 8 kZ bm ⟨_,rfl,rfl,?_⟩;unfold Oper.wp;go_simp
      all_goals
       rw[ae.o];refine Kq (C':=fun W=>Kp [c.pb] y W/\Ac W y.heap.size #[.int .u8 e.toNat] 5) (fun W h=>h.1) _ _ _ _ ?_
      case' za=>refine A2 (fun _ _ d _ _ h=>by cases d<;>exact h) [9] 4 5 _ _ _ kZ ?_
      case' zb=>refine A2 (fun _ _ d _ _ h=>by cases d<;>exact h) [9] 5 6 _ _ _ kZ ?_
      all_goals
       simp only[aP,aS,aQ,aJ,aK];refine Ab (.string ⟨#[e]⟩) rfl (fun W a=>by have ab:=M4 a.2;go_simp) ?_;refine Ag ?_
      case' zb=>
       refine AZ 4 kZ aj ⟨_,rfl,rfl,?_⟩;unfold Oper.wp;go_simp
      all_goals
       refine A2 (fun _ _ d _ _ h=>by cases d<;>exact h) [10,11,12] 1 4 _ _ _ kZ ?_;refine jL ?_;refine Ab (.string el) rfl (fun W a=>by go_simp;rw[aC kX,ed.o]) ?_;refine k3 ?_;refine AZ 13 kZ aj ⟨_,rfl,rfl,?_⟩;unfold Oper.wp;go_simp;refine DV (P:=prog) kZ c6 ?_;go_wp2;go_roundw
       case rel=>exact⟨q+1,i,sm,⟨i,true,Ek g.ab [e]⟩,{g with o:=g.o++[e]},rfl,rfl,rfl,by go_num,by omega,by rw[af.o];exact b⟩
       case measure=>simp[intOf];omega
    by_cases bl:Ae f.c=true
    . have a0:OS f.c=true:=by unfold OS;rw[bl,Bool.or_true]
      obtain⟨v,dc⟩:∃ v,f.d.toNat=v:=⟨_,rfl⟩;obtain⟨r,dy⟩:∃ r,f.w.toNat=r:=⟨_,rfl⟩;obtain⟨d1,d2⟩:=Cj.it.d (show kD f.c=true by
       have:f.c=104\/f.c=107:=by simpa[Ae]using bl
       rcases this with k|k<;>rw[k]<;>rfl)
      obtain⟨gm,gn⟩:=Cj.w (Oe bl);have dx:f.d=(v:Int):=kX;have d0:f.w=(r:Int):=kX;have dd:v<8:=kX;have dz:r<=4:=kX;have K:=HEq.o;rw[aF (show silV (f::L)=true from a0),show IZ (f::L) h g.ab=Ek {g.ab with AS:=g.ab.AS.modify h fun B p=>if p=v then some ⟨g.ab.o.length,r,decide (f.c=107)⟩else B p} (List.replicate r 0)by unfold IZ;simp only;rw[aC aw,dc,dy]]at K;rw[a0]at aq;have fc:(f.c==39)=false:=by simp;exact aw
      have fd:c.pb≠w.heap.size:=fun k=>cx.o w (aO _ _) w.heap.size (aB _) (k▸aG)
      have cq:Ac y wr.heap.size (X_4 f.c r f.b f.r v f.pl (F+f.nx) f.rl) 132:=by rw[<- dx,<- d0];exact bk
      have du:wr.heap.size≠w.heap.size:=kX;have bg:Hid (∀ W,Kp [w.heap.size] y W->W.cell? (A0 wr.heap.size 0)=some (.int .u8 f.c)/\W.cell? (A0 wr.heap.size 1)=some (I0 r)/\W.cell? (A0 wr.heap.size 4)=some (I0 v)/\W.cell? (A0 c.pb 2)=some (.string ⟨g.o.toArray⟩)):=fun W a=>by
       have ab:=a.Ap cq (by simp;exact du);have am:=a.Ap J.o.mem.Ap (by simp;exact fd);exact⟨ab.cell 0,ab.cell 1,ab.cell 4,am.cell 2⟩
      have bm:Kp [w.heap.size] y y.drew:=(Kp.refl _ _).drew 1;have dp:D4 c m.s (((y.setCell (A0 w.heap.size (v*3)) (I0 (g.o.length:Nat))).setCell (A0 w.heap.size (v*3+1)) (I0 (r:Nat))).setCell (A0 w.heap.size (v*3+2)) (.bool (decide (f.c=107)))).drew {g with AS:=g.AS.modify h fun B p=>if p=v then some ⟨g.o.length,r,decide (f.c=107)⟩else B p}:=(J.o.mem.Afc h w.heap.size v az dd ⟨g.o.length,r,decide (f.c=107)⟩).drew 1;have cm:Kp [w.heap.size] y (((y.setCell (A0 w.heap.size (v*3)) (I0 (g.o.length:Nat))).setCell (A0 w.heap.size (v*3+1)) (I0 (r:Nat))).setCell (A0 w.heap.size (v*3+2)) (.bool (decide (f.c=107)))).drew:=((((Kp.refl _ _).setCell _ _ _ (Or.inl kY)).setCell _ _ _ (Or.inl kY)).setCell _ _ _ (Or.inl kY)).drew 1;obtain⟨bz,de⟩:∃ B,g.AS[h]? = some B:=⟨_,bA (by rw[<- J.o.mem.DC];exact(bI.1 az).1)⟩;have bj:=J.o.mem.ho h _ bz az de;obtain⟨d7,d8,d9⟩:=PT bz v dd;have fo:=(bj.cell _).trans d7;have t1:=(bj.cell _).trans d8;have t2:=(bj.cell _).trans d9;have fp:∀ ap,y.frozen? (A0 w.heap.size ap)=false:=fun ap=>bj.frozen ap
      have dw:=cm.Ap cq (by simp;exact du);have a3:=Aa dp;have bu:=Aa cm;have c2:=Aa dw;clear bj d7 d8 d9 de cq bk dp cm dw HEq dk bq a9 a8;go_wp2_with (go_at_call 169;refine(aq.o _).mono ?_;rintro k I⟨rfl,u⟩;rw[u];clear u I);refine Bo (fun W=>Kp [w.heap.size] y W) 16 kZ rfl ?_;refine A2 (fun _ _ d _ _ h=>by cases d<;>exact h) [0,1,2,3,4,5,6,7,8,9,10,11,12,13,14] 1 16 _ _ _ kZ ?_;refine jL ?_;iterate 7 refine Ab _ rfl (fun W a=>by obtain⟨ab,am,ax,c4⟩:=bg.o W a;go_simp<;>rfl) ?_
      refine Ab (I0 (g.o.length:Nat)) rfl (fun W a=>by go_simp) ?_;iterate 4 refine Ab _ rfl (fun W a=>by obtain⟨ab,am,ax,c4⟩:=bg.o W a;go_simp<;>rfl) ?_
      refine Ab (.bool (decide (f.c=107))) rfl (fun W a=>by go_simp;rfl) ?_;refine Ab _ rfl (fun W a=>by go_simp<;>rfl) ?_;refine Ab (.pointer (some (A0 w.heap.size (v*3)))) rfl (fun W a=>by go_simp;intro h;omega) ?_;refine Ag ?_;refine AZ 15 kZ bm ⟨_,rfl,rfl,?_⟩;unfold Oper.wp;go_simp;refine DV (P:=prog) kZ bu.o ?_;generalize(((y.setCell (A0 w.heap.size (v*3)) (I0 (g.o.length:Nat))).setCell (A0 w.heap.size (v*3+1)) (I0 (r:Nat))).setCell (A0 w.heap.size (v*3+2)) (.bool (decide (f.c=107)))).drew=M at*;have c0:=Aa (show Ck c m.s w d M {g with AS:=g.AS.modify h fun B p=>if p=v then some ⟨g.o.length,r,decide (f.c=107)⟩else B p}from⟨a3.o,J.o.kp.trans bu.o (fun an z=>Or.inr (by simp at z;omega)),J.o.rows,J.o.DR⟩);have cv:=Aa (a2.o.trans bu.o (fun an z=>Or.inl (by simp at z;simp[z])));have ee:Hid (∀ W,Kp [c.pb] M W->W.cell? (A0 wr.heap.size 1)=some (I0 r)):=fun W a=>(a.Ap c2.o (by simp;exact dr)).cell 1
      have ac:Kp [c.pb] M (M.drewN 1):=(Kp.refl _ _).drew 1;have e4:Below M.heap.size M (M.drewN 1):=⟨rfl,rfl,rfl,aB _,fun _ _=>rfl⟩;have fx:M.drew.cell? (A0 c.pb 2)=some (.string ⟨g.o.toArray⟩):=a3.o.Ap.cell 2;have ef:Hid (∀ W,Below M.heap.size M W->Calls prog 176 #[I0 (r:Nat)] W fun k w'=>k=.returned (.string ⟨(List.replicate r 0).toArray⟩)/\Below M.heap.size M w'/\w'.cell? (A0 c.pb 2)=some (.string ⟨g.o.toArray⟩)/\w'.frozen? (A0 c.pb 2)=false):=fun W a=>
       (O0 r dz W).mono fun k w' h=>by
         have z:=a.trans (h.2.mono a.size);have a7:=a3.o.Ap.below z a3.o.lt;exact⟨h.1,z,a7.cell 2,a7.frozen 2⟩
      have b:Hid (∀ w2,Below M.heap.size M w2->WhI c m dn (t+1) (fun p i D'=>pT m c.G n p (some h) i D') h O R w d w1 w.heap.size bv sm i ⟨i,true,Ek {g.ab with AS:=g.ab.AS.modify h fun B p=>if p=v then some ⟨g.ab.o.length,r,decide (f.c=107)⟩else B p} (List.replicate r 0)⟩ {g with AS:=g.AS.modify h fun B p=>if p=v then some ⟨g.o.length,r,decide (f.c=107)⟩else B p,o:=g.o++List.replicate r 0} (w2.setCell (A0 c.pb 2) (.string ⟨(g.o++List.replicate r 0).toArray⟩))):=by
       intro w2 E;have bd:=a3.o.more E;refine⟨K,fun _=>⟨rfl,dm,a6,?_⟩,rfl,(c0.o.trans (Ck.refl a3.o E)).trans (bd.Abf (List.replicate r 0)),fun _=>az,bc,(cv.o.trans (Kp.Bu (o:=[]) E) (fun _ h=>by cases h)).setCell _ _ _ (Or.inl kY),bh.o⟩;have ab:=Z.o;show B4 m dn (Ek {g.ab with AS:=_} (List.replicate r 0))+_+_<=O;rw[GJ,eJ];show B4 m dn g.ab+r+_+_<=O;omega
      have ge:(List.replicate r (0:UInt8)).length<=4:=by rw[eJ];exact dz
      have f2:¬ 9223372036854775807<g.o.length+(List.replicate r (0:UInt8)).length:=kX;clear bg fo t1 t2 fp a3 bu c2 J a2 K Z bm c0 cv dx d0 dc dy;generalize List.replicate r (0:UInt8)=ft at*;go_wp2_with fail;refine E1 (fun W=>Kp [c.pb] M W) [0,1,2,3,5,6] 4 7 [([],7),([8,9,10],11)] [([],4),([8,9,10],11)] rfl kZ (fun _ _ d _ _ h=>by cases d<;>exact h) ac ?_;refine jL ?_;iterate 6 refine Ab _ rfl (fun W a=>by have ab:=ee.o W a;go_simp<;>rfl) ?_
      refine Ag ⟨⟨_,rfl,rfl,?zc⟩,⟨_,rfl,rfl,?zd⟩⟩;all_goals
       unfold Oper.wp;go_simp
      case' zc=>
       refine⟨ac,?_⟩;simp only[wpSeg,aP,aS,aQ,aJ,aK];refine Ag ⟨_,rfl,rfl,?_⟩;unfold Oper.wp;go_simp
      all_goals
       refine(ef.o _ e4).mono ?_;rintro k w2⟨rfl,E,bz,ep⟩;refine⟨Kp.Bu E,?_⟩
      case' zd=>
       simp only[wpSeg,aP,aS,aQ,aJ,aK];refine Ag ⟨_,rfl,rfl,?_⟩;unfold Oper.wp;go_simp;refine⟨Kp.Bu E,?_⟩
      all_goals
       refine Ab (.string ⟨(g.o++ft).toArray⟩) rfl (fun W a=>by go_simp;rw[DQ]) ?_;iterate 2 refine Ab _ rfl (fun W a=>by go_simp<;>rfl) ?_
       refine Ag ⟨_,rfl,rfl,?_⟩;unfold Oper.wp;go_simp;refine⟨(Kp.Bu E).setCell _ _ _ (Or.inl kY),?_⟩;have ej:=Aa (b.o w2 E);clear E bz ep b;go_wp2;go_roundw
       case rel=>exact⟨q+1,i,sm,_,_,rfl,rfl,rfl,by go_num,by omega,by rw[af.o];exact ej⟩
       case measure=>simp[intOf];omega
    have a0:OS f.c=false:=by unfold OS;rw[bJ aw,gX.2 bl];rfl
    have K:=HEq.o;rw[aC (show¬ silV (f::L)=true by rw[show silV (f::L)=OS f.c from rfl,a0];simp)]at K;rw[a0]at aq;have fc:(f.c==39)=false:=by simp;exact aw
    have S:=Aa (EJ m.s cp y c.pb i bq e7 32 lC);by_cases ar:sm=true/\bt m.s i≠32
    . obtain⟨rfl,ar⟩:=ar;rw[aF ⟨rfl,ar⟩]at K;have a4:¬ bt m.s i=((32:UInt8).toNat:Int):=ar;rw[aC a4,bJ a4]at S;have b:=Aa (show WhI c m dn (t+1) (fun p i D'=>pT m c.G n p (some h) i D') h O R w d w1 w.heap.size bv true i ⟨i,false,g.ab⟩ g y from⟨K,fun k=>(by cases k),rfl,J.o,fun k=>(by cases k),bc,a2.o,bh.o⟩);clear K HEq Z ar a4 a9 a8;go_wp2_with (first
       | (go_at_call 169;refine(aq.o _).mono ?_;rintro k I⟨rfl,u⟩;rw[u];clear u I)
       | (go_at_call 112;refine S.o.mono ?_;rintro k I⟨rfl,u⟩;rw[u];clear u I))
      go_roundw
      case rel=>exact⟨q+1,i,true,⟨i,false,g.ab⟩,g,rfl,rfl,rfl,by go_num,by omega,by rw[af.o];exact b⟩
      case measure=>simp[intOf];omega
    rw[aC ar]at K;obtain⟨U,au⟩:∃ U,(if sm=true then i+1 else i)=U:=⟨_,rfl⟩;rw[au]at K;have e1:Al m.s U/\i<=U:=by
     cases sm with
     | true=>
      simp only[dU]at au;have:bt m.s i=32:=cB fun h=>ar ⟨rfl,h⟩
      subst au;exact⟨a6.one kX,by omega⟩
     | false=>simp at au;subst au;exact⟨a6,aB _⟩
    obtain⟨bb,f0⟩:=e1;have bf:=Z.o;have f1:=bb.le;have b7:=a9.o (f::L) (some h) U g.ab cl bb bc;have cy:Hid (Calls prog 69 #[P0 c.pb,I0 (F:Nat),I0 (U:Nat),S0 w.heap.size 8 8,.slice none 0 0] y fun k w'=>A6 c m.s y g (pT m c.G n (f::L) (some h) U g.ab) k w'):=
     a8.o y g F (f::L) true true (some h) _ U ⟨J.o.mem,bb,bc,by omega⟩ ⟨ea.o,eh.o,ei.o,cl,gX.2 bl,fun _=>⟨h,rfl⟩⟩ (fun i k=>by cases k;exact⟨_,az,rfl⟩) kX
    have b:Hid (∀ j d2 w2,((pT m c.G n (f::L) (some h) U g.ab).ok=true->j=(pT m c.G n (f::L) (some h) U g.ab).p)->d2.ab=(pT m c.G n (f::L) (some h) U g.ab).D->Ck c m.s y g w2 d2->WhI c m dn (t+1) (fun p i D'=>pT m c.G n p (some h) i D') h O R w d w1 w.heap.size bv true j (pT m c.G n (f::L) (some h) U g.ab) d2 w2):=by
     intro j d2 w2 ab am ax;have f8:=a2.o.size;refine⟨K,fun bp=>?_,am,J.o.trans ax,fun _=>?_,by rw[am];exact b7.dl bc,a2.o.trans ax.kp (fun an z=>?_),fun an z=>?_⟩;obtain⟨d6,gf⟩:=b7.ok bp;have fh:=b7.FI;rw[aF bp]at fh;have fi:=ab bp;subst fi;have:=d6.le;refine⟨rfl,by omega,d6,?_⟩;rw[am];omega;obtain⟨gh,k,_⟩:=ax.DR;rw[k,aW (bI.1 az).1];exact az;rcases bB.1 z with rfl|z;exact Or.inl kY;rcases bh.o an z with h|h;exact Or.inl (by simp[h]);exact Or.inr h;rcases ax.rows an z with h|h;exact bh.o an h;exact Or.inr kX
    generalize pT m c.G n (f::L) (some h) U g.ab=al at*;clear K HEq Z bf b7 a9 a8
    cases sm with
    | false=>
     simp only[bT,cT]at au;subst au;go_wp2_with (first
      | (go_at_call 169;refine(aq.o _).mono ?_;rintro k I⟨rfl,u⟩;rw[u];clear u I)
      | (go_at_call 69;refine cy.o.mono ?_;rintro k I⟨j,d2,rfl,ai,ah,ak⟩))
     exact i2
    | true=>
     simp only[dU]at au;subst au;have a4:bt m.s i=((32:UInt8).toNat:Int):=cB fun h=>ar ⟨rfl,h⟩
     rw[aF a4,bF a4]at S;clear ar a4;go_wp2_with (first
      | (go_at_call 169;refine(aq.o _).mono ?_;rintro k I⟨rfl,u⟩;rw[u];clear u I)
      | (go_at_call 112;refine S.o.mono ?_;rintro k I⟨rfl,u⟩;rw[u];clear u I)
      | (go_at_call 69;refine cy.o.mono ?_;rintro k I⟨j,d2,rfl,ai,ah,ak⟩))
     exact i2
 case rest=>
  obtain⟨i,cc,rfl,rfl,dt⟩:=hcut;obtain⟨g,cr,co,ao⟩:=dt.out;have cz:=Aa ao;clear cf a9 a8 dt
  cases cc with
  | false=>
   have cw:=Aa (co rfl);clear cr co ao;go_wp2;go_ret2;exact A6.fail cw.o.1 cw.o.2 cz.o
  | true=>
   obtain⟨e6,da⟩:=cr rfl;have bq:=ao.mem.Ap.c1;have S:=Aa (EJ m.s cp wc c.pb i bq e6 41 lC);have c1:Hid (R=⟨i+1,decide (bt m.s i=((41:UInt8).toNat:Int)),g.ab⟩):=da;have Z:Hid (decide (bt m.s i=((41:UInt8).toNat:Int))=true->(if bt m.s i=((41:UInt8).toNat:Int)then i+1 else i)=i+1):=fun k=>aF (dE k)
   generalize(if bt m.s i=((41:UInt8).toNat:Int)then i+1 else i)=j at S Z;generalize decide (bt m.s i=((41:UInt8).toNat:Int))=gi at S Z c1;clear cr co ao da;go_wp2_with (go_at_call 112;refine S.o.mono ?_;rintro k I⟨rfl,u⟩;rw[u];clear u I);go_ret2;rw[c1.o];exact⟨j,g,rfl,Z.o,rfl,cz.o⟩
theorem G2(c)(u:DK c)(m:Mx)(w:aE)(d:Dm)(j:D4 c m.s w d)(t g:Nat)(b:It)(B:aD It)(af:At c.As g (b::B))(o E)(R:Pr)(a)(e:(b.c=110/\a=0)\/(b.c=108/\a=0)\/(b.c=46/\a=1)\/(b.c=114/\a=1)\/(b.c=40/\a=2)\/(b.c=47/\a=3)\/(b.c=42/\a=4)\/(b.c=116/\a=4)\/(b.c=119/\a=5)\/(b.c=64/\a=5)\/(b.c=115/\a=5))(x:∀ W,Below w.heap.size w W->Calls prog (if a=0 then 111 else if a=1 then 113 else if a=2 then 114 else if a=3 then 115 else if a=4 then 116 else 117)
   (if a=0 then #[P0 c.pb,.agg (P6 b g),I0 (t:Nat)]else if a=1 then #[P0 c.pb,.agg (P6 b g),I0 (t:Nat),o]else if a=2 then #[P0 c.pb,I0 (g:Nat),I0 (t:Nat)]else #[P0 c.pb,I0 (g:Nat),I0 (t:Nat),o]) W fun h w'=>A6 c m.s W d R h w'):
 Calls prog 69 #[P0 c.pb,I0 (g:Nat),I0 (t:Nat),o,E] w fun h w'=>A6 c m.s w d R h w':=by
 have f:=u.Fw.below j.A9;refine kd ?_;intro ah av ax aw an ay az a0 a1 ad;have L:=j.Ap.c0;have F:g<c.As.length:=by have:=af.le;simp at this;omega
 have J:=u.len;have K:=j.lt;have I:=f.lt;have r:Below w.heap.size w (w.alloc (.cells (P6 b g) 132)):=(aO _ _).alloc (aB _) _;have k:=Aa (x _ r);have p:=Aa (Ck.refl j r);unfold P6 at*;rcases e with⟨e,rfl⟩|⟨e,rfl⟩|⟨e,rfl⟩|⟨e,rfl⟩|⟨e,rfl⟩|⟨e,rfl⟩|⟨e,rfl⟩|⟨e,rfl⟩|⟨e,rfl⟩|⟨e,rfl⟩|⟨e,rfl⟩;all_goals
  rw[e]at ah k p;simp only[dU,Nat.reduceEqDiff,cT,Nat.one_ne_zero]at k;go_enter func69,ntmps69;go_wp2_with ((first|go_at_call 111|go_at_call 113|go_at_call 114|go_at_call 115|go_at_call 116|go_at_call 117);refine k.o.mono ?_;rintro h M⟨A,d2,rfl,y,v,z⟩);go_ret2;exact⟨A,d2,rfl,y,v,p.o.trans z⟩
theorem Tq(c)(p:DK c)(U)(dy:OB c U)(w st g j a M)(o:Cp c w st g j a M)(b x k c7 b0)(af:At c.As b (x::k))(al:Kc x)(ao:x.c=115)(dw:Fa c7 k)(dx:BK c.R false b0 k)(dt:a<=100000)(du:a<U):
 Calls prog 96 #[P0 c.pb,I0 b,.agg (AA st g c.bs.size j)] w fun e w'=>AO c w (DB (tryT c.G c.bs c.N U) c.bs (st.Ai x.d.toNat) k a M st) e w':=by
 refine k2 ?_;intro f ah av ax aw an ay az a0 a1 ad bk bd bl aj ap ar ae;have d8:=p.N;have eb:=o.inv.pl;have ec:=o.inv.en;refine lf ?_;intro d ak ba bm;have dr:x.d.toNat=d:=kX;rw[dr];have dv:=(o.inv.Ai d).1;have c8:=(o.inv.Ai d).2;obtain⟨n,bh⟩:∃ n,(st.Ai d).1=n:=⟨_,rfl⟩;obtain⟨V,ac⟩:∃ dz,(st.Ai d).2=dz:=⟨_,rfl⟩;have d6:∀ A B F,(((w.alloc A).alloc B).alloc F).cell? (A0 j (d*2))=some (I0 n):=fun A B F=>by
  exact JJ
 have d7:∀ A B F,(((w.alloc A).alloc B).alloc F).cell? (A0 j (d*2+1))=some (I0 V):=fun A B F=>by
  exact Gg
 rw[ak]at an;rw[ao]at ah;rw[bh]at dv;rw[ac]at c8;have dc:=Aa af.tail;have di:=Aa dw;have c4:=Aa dx;have de:=Aa dy;have c2:=Aa p;have dd:=Aa o.A9;have c3:=Aa o.inv;have cd:=Aa (EW.new o);have Z:=Aa (show DB (tryT c.G c.bs c.N U) c.bs (st.Ai d) k a M st=Cm c.bs (n,V) st (tryT c.G c.bs c.N U a M false k st)by rw[show st.Ai d=(n,V)by rw[<- bh,<- ac]];rfl);generalize DB (tryT c.G c.bs c.N U) c.bs (st.Ai d) k a M st=bx at*;refine kF ?_;intro au;unfold AA AE at cd au;unfold AA;go_enter func96,ntmps96;go_wp2_with fail;generalize(w.alloc (.cells (X_0 st.pl st.en g c.bs.size c.bs.size j st.Af) 140)).alloc (.cells X_2 140)=c5 at*;have J:Hid (LZ c w st g j a M #[.int .u8 115,I0 x.w,I0 x.b,I0 x.r,I0 d,I0 x.pl,I0 (b+x.nx),I0 x.rl,I0 0] n V st (((c5.alloc (.cells #[.int .u8 115,I0 x.w,I0 x.b,I0 x.r,I0 d,I0 x.pl,I0 (b+x.nx),I0 x.rl,I0 0] 132)).alloc (.cells #[I0 n,I0 V] 240)).alloc (.cells (X_0 st.pl st.en g c.bs.size c.bs.size j st.Af) 140))):=LZ.new (us:=st) cd.o au;generalize((c5.alloc (.cells #[.int .u8 115,I0 x.w,I0 x.b,I0 x.r,I0 d,I0 x.pl,I0 (b+x.nx),I0 x.rl,I0 0] 132)).alloc (.cells #[I0 n,I0 V] 240)).alloc (.cells (X_0 st.pl st.en g c.bs.size c.bs.size j st.Af) 140)=c6 at*;have X:=J.o.DY.pre c2.o dd.o c3.o;have db:Cp c c6 (st) g j a M:=⟨X.pg,X.A9,X.rd,X.dp,c3.o⟩;have dq:=de.o c6 (st) g j a M k (b+1) c7 false b0 false db dc.o di.o c4.o dt du;have df:Hid ((tryT c.G c.bs c.N U a M false k (st)).ok=true->Dt c.bs c.N (st) (hidV k) (tryT c.G c.bs c.N U a M false k (st))/\(tryT c.G c.bs c.N U a M false k (st)).e=0):=fun r=>(BQ c.G c2.o.JI U).fit a M false false b0 k _ c4.o db.inv r
 generalize d9:tryT c.G c.bs c.N U a M false k (st)=h at*;have ab:=Aa dq;refine l6 ?_;intro w2 S v u z L K be cg co cf a4 bi bo bb br c0 b7 b6 cy cz bu a2 a9 bv bg _ a5 a6 bf a7 a8 bq;have bz:=Aa a4;have b3:=Aa cg;have cx:=Aa co;have dh:=Aa cf;have cs:=Aa S;unfold EI AA
 cases r:h.ok
 have y:=Aa (show bx=h by rw[Z.o];unfold Cm;rw[aC Bc]);exact g8;obtain⟨b1,c9⟩:=df.o r;obtain⟨dj,dk,b4⟩:=dh.o r;obtain⟨dl,dm⟩:=cx.o c9;subst dj;subst dk;subst dl;subst dm;rw[c9]at b3;have d0:=b1.ge;have ed:=b1.inv.pl;have ee:=b1.inv.en
 try simp only at d0
 refine l8 ?_;intro b5 O ai b2;have d4:q_ w2 (w.heap.size+1+1) 0 (.int .u8 115):=(J.o.next cs.o b3.o).part.cell 0;refine l9 ?_;intro b8 b9 ca;go_wp2_with fail;have E:=Aa b5;have ch:=Aa O;have I:=Aa ai;generalize w2.alloc (.cells (X_0 h.st.pl h.st.en u c.bs.size c.bs.size z h.st.Af) 140)=d5 at*;obtain⟨bu,a2,a9,bv,bg,_⟩:=E.o.DY.box.Bi;have d4:=E.o.part.c0;refine lU ?_;intro cq d1 cp ct cu cv cr cw cb a5 a6 bf a7 a8 bq;have Y:=Aa (fun W=>PY (c.bs.extract st.pl h.st.pl) lG V c8 W);by_cases cc:CB (c.bs.extract st.pl h.st.pl) V (c.bs.extract st.pl h.st.pl).size=n
 . have y:=Aa (show bx=BW h.fuel h.far {h.st with en:=st.en} h.t by rw[Z.o];unfold Cm;rw[aF r,aC (fun dp=>dp cc)]);rw[cc]at Y;go_quiet (first
    | (go_at_call 47
       exact Calls.quiet_of (Y.o _)))
   refine la ?_;intro cl ck cn cm;refine aT (v:=.tuple #[.agg (AA ({h.st with en:=st.en}) u c.bs.size z),.string ⟨h.t.toArray⟩,.bool true]) (by simp[results,results96,go_sem,AA,a5,a6,bf,a7,a8]) rfl ?_;exact jg
 have y:=Aa (show bx=CK h.fuel h.far st.pl st by rw[Z.o];unfold Cm;rw[aF r,aF cc]);generalize CB (c.bs.extract st.pl h.st.pl) V (c.bs.extract st.pl h.st.pl).size=d3 at*;have ea:¬ (d3:Int)=(n:Int):=kX;go_quiet (first
  | (go_at_call 47
     exact Calls.quiet_of (Y.o _)))
 go_wp2_with fail;have ce:=Aa (E.o.DY.drewN nq);refine(CH _ c.pb c.gb c.bs h.fuel c.N h.far 0 st.pl st g c.bs.size j ce.o.pg).mono ?_;rintro e ef⟨rfl,da,ds⟩;obtain⟨a4,bi,bo,bb⟩:=ce.o.next ds da;obtain⟨am,aq,a3,bc,bj,eg⟩:=bb.Bi;have ci:=Aa a4;have cj:=Aa da;unfold EI AA;go_wp2;refine aT (v:=.tuple (X_5 (AA st g c.bs.size j) (⟨#[]⟩))) Kn rfl ?_;rw[y.o];exact Gl

import Derived.Test.YtmlkhhhjdpbhfaaGreatDoorGe08
namespace Go.Proofs.YtmlkhhhjdpbhfaaGreatDoor
open Go.RowKit Go.Proofs.Tryz
set_option maxHeartbeats 4000000
set_option maxRecDepth 100000
variable{p q:Prop}(z:q)
def HA:Nat->Nat × Nat:=fun _=>(0,0)
theorem Az.Ad5{c w w' s a f b e}(h:Az c w s a f b e w'):TF c.tb c.rb s.sv.ownBlock a w w':=by
 exact nP
theorem Tg(T:Nat->Nat->Bool->aD It->PS->PO)(a f e b st t):kidsT T (a::f) e b st t=
 if(T e b (silV a) a st).ok=true then kidsT T f (T e b (silV a) a st).fuel (T e b (silV a) a st).far (T e b (silV a) a st).st (if silV a then t else Dk t (T e b (silV a) a st).t)else T e b (silV a) a st:=rfl
theorem IJ(a b):Gy a.c=silV (a::b):=by
 simp[Gy,silV,Ae,Bool.or_assoc];rfl
theorem Wb(a b):silK (silV (a::b)) (a::b)=silV (a::b):=by
 simp only[silK,silV]
 cases Ae a.c<;>cases decide (a.c=39)<;>rfl
structure AtS (c:Cx) (T:Nat->Nat->Bool->aD It->PS->PO) (ks:aD (aD It)) (w:aE) (s:Ts) (st:PS) (O:PO) (j:Nat) (v:aI) (kids:aD (Nat × aD UInt8)) (stj:PS) (wr:aE) (sj:Ts):Prop where
 pre:Cc c wr sj stj (some (w.heap.size+1))
 core:Core c w s none sj.fuel sj.far wr sj
 box:Ac wr w.heap.size (X_3 stj.pl stj.en (w.heap.size+1)) 159
 Oh:Fg wr (w.heap.size+2) sj.sv.ownBlock v kids
 rem:O=Hp c.N st.Ai (kidsT T (ks.drop j) sj.fuel sj.far stj (CN (kids.map Prod.snd)))
 cnt:kids.length<=j/\j+sj.fuel<=s.fuel
 nb:∀ g,sj.sv.ownBlock=some g->g≠w.heap.size
 sz:w.heap.size+1<wr.heap.size
theorem OO(c)(X:DO c)(r)(es:QI c r)(w s st bu bf b2)(j:aD (Nat × aD It))(cg b0 bb)(Z:Cc c w s st bu)(co:Am c.w0 bf b2)(ed:BZ c.w0 b0 bb b2.v (j.map Prod.fst))(d5:∀ q,q∈j->BM cg c.w0 b0 bb q.1 true q.2)(dz:bb<=c.w0.heap.size)(en:∀ q,q∈j->BK c.R true true q.2)(fk:s.fuel<=r):
 Calls prog 128 #[P0 c.tb,P0 bf,Bb st.pl st.en (Ce bu)] w fun e w'=>Az c w s none false (CT (tryT c.G c.bs c.N r) c.N (j.map Prod.snd) s.fuel s.far st) e w':=by
 obtain⟨er,d0,eo,ep,eq⟩:=cY Mw;have fo:=Z.tr.Ap.lt;have fp:=X.lt;have fn:=X.le;have fh:=X.bs;have ef:=co.lt;have fi:=Z.HX;have z:=Aa Z;have ai:=Aa X;have cy:=Aa es;have c7:=Aa en;have c3:=Aa d5;have c0:=Aa co;obtain⟨bg,bo,eg,cv⟩:∃ bg bo,b2.v=.slice bg j.length bo/\Hid (∀ f,f<j.length->∃ g,bg=some (A0 g 0)/\g<c.w0.heap.size/\c.w0.cell? (A0 g f)=some (P0 ((j.map Prod.fst).getD f 0))):=by
  rcases ed with⟨S,K⟩|⟨g,dd,S,K,ff,fg,dl⟩;have h0:j=[]:=by simpa using K
  exact⟨none,0,by rw[S,h0];rfl,Aa fun f ad=>by rw[h0]at ad;simp at ad⟩;exact⟨_,dd,by rw[S];simp,Aa fun f ad=>⟨g,rfl,by omega,dl f AM⟩⟩
 have f3:∀ x b1,((w.alloc x).alloc b1).cell? (A0 bf 8)=some (.slice bg j.length bo):=fun x b1=>by rw[<- eg,((Z.alloc X x).alloc X b1).A9.cell (p:=(A0 bf 8)) ef];exact c0.o.cell 8
 have dp:=(Z.tr.alloc (.cells (X_3 st.pl st.en (w.heap.size+1)) 159)).alloc (.cells (F2 HA) 268);have a9:Hid (Core c w s .none s.fuel s.far ((w.alloc (.cells (X_3 st.pl st.en (w.heap.size+1)) 159)).alloc (.cells (F2 HA) 268)) s):=Core.refl dp (((TF.refl c.tb c.rb .none .none w).alloc _).alloc _) Z.HX _;have b4:=Aa (Ac.alloc (Ac.new w (X_3 st.pl st.en (w.heap.size+1)) 159) (.cells (F2 HA) 268));have bk:=Aa (Ac.new (w.alloc (.cells (X_3 st.pl st.en (w.heap.size+1)) 159)) (F2 HA) 268);have ej:((w.alloc (.cells (X_3 st.pl st.en (w.heap.size+1)) 159)).alloc (.cells (F2 HA) 268)).heap.size=w.heap.size+2:=kY;rw[show(w.alloc (.cells (X_3 st.pl st.en (w.heap.size+1)) 159)).heap.size=w.heap.size+1 by simp]at bk;have cs:F2 HA=X_21:=rfl;have c8:=Aa cs;rw[cs]at a9 b4 bk ej;unfold Bb;generalize ea:Ce bu=ft at*;have ew:=Aa ea;go_enter func128,ntmps128;go_wp2_with fail;generalize(w.alloc (.cells (X_3 st.pl st.en (w.heap.size+1)) 159)).alloc (.cells X_21 268)=c9 at*;have c5:Hid (AtS c (tryT c.G c.bs c.N r) (j.map Prod.snd) w s st (CT (tryT c.G c.bs c.N r) c.N (j.map Prod.snd) s.fuel s.far st) 0 (.slice none 0 0) [] {st with Ai:=HA} c9 s):=by
  refine⟨⟨a9.o.tr,a9.o.A9 ai.o z.o (fun g e=>by cases e),z.o.nd,z.o.rd,⟨z.o.inv.pl,z.o.inv.en,z.o.inv.rd,z.o.inv.Af,fun d=>⟨by simp[HA],by simp[HA]⟩⟩,z.o.sp,z.o.HX,fun h e=>?_⟩,a9.o,b4.o,Fg.nil _ _ _,rfl,⟨by simp,by omega⟩,fun g e=>?_,by omega⟩
  cases e
  refine⟨?_,by omega,fun e=>?_⟩;unfold EG;rw[c8.o];exact bk.o;have:=z.o.tr.D0 _ e.symm;omega;have:=z.o.tr.D0 g e;omega
 go_loopw [23,9,11,12,13,14] (fun b3 eu _ _ _ _ wr=>∃ (f:Nat) (v:aD (Nat × aD UInt8)) (b:PS) (p:Ts),b3=I0 f/\f<=j.length/\Hid (AtS c (tryT c.G c.bs c.N r) (j.map Prod.snd) w s st (CT (tryT c.G c.bs c.N r) c.N (j.map Prod.snd) s.fuel s.far st) f eu v b wr p)) (fun b3 _ _ _ _ _ _=>j.length-(intOf b3).toNat)
 case atStart=>exact⟨0,[],_,s,rfl,by omega,c5⟩
 case round=>
  obtain⟨f,v,b,p,rfl,ad,cj⟩:=hrel;obtain⟨e4,e6,e7,dc,e8,⟨e9,fa⟩,cd,e5⟩:=cj.out;obtain⟨J,I,dm⟩:=dc.form;subst dm;have By:=cj;by_cases bd:f<j.length
  . have d4:(f:Int)<(j.length:Int):=by omega
    obtain⟨⟨O,k⟩,bv⟩:∃ q,q=j[f]:=⟨_,rfl⟩;have cp:(O,k)∈j:=by rw[bv];exact aU bd
    have dw:(j.map Prod.fst).getD f 0=O:=by rw[aZ,fI,bA bd,<- bv];rfl
    have dv:(j.map Prod.snd).drop f=k::(j.map Prod.snd).drop (f+1):=by
     rw[cF (by simpa using bd),gD,<- bv]
    have a4:=c3.o _ cp;have cr:=c7.o _ cp;simp only at a4 cr;obtain⟨ax,bh,bz⟩:∃ ax bh,k=ax::bh:=by
     obtain⟨ax,rest,ak,e,e3,k,fz,f0⟩:=a4.head;exact⟨ax,rest,e⟩
    obtain⟨ak,ee,em,eh⟩:∃ ak,Am c.w0 O ak/\ak.sl=silV k/\O<c.w0.heap.size:=by
     rw[bz]at a4;obtain⟨fd,fx,ak,cc,da,db,ey,ez,e0,e1,e2⟩:=a4.open;refine⟨ak,cc,?_,by omega⟩;rw[db,bz,dR];exact IJ ax bh
    have el:silK (silV k) k=silV k:=by rw[bz];exact Wb ax bh
    have dy:∀ g,FZ k (some (w.heap.size+1))=some g->g=w.heap.size+1:=fun g e=>by
     unfold FZ at e;split at e<;>cases e;rfl
    obtain⟨g,be,dx,cl⟩:=cv.o f bd;subst be;rw[dw]at cl;have ae:∀ g,(Value.slice J v.length I).ownBlock=some g->w.heap.size+2<=g/\g<wr.heap.size:=fun g e=>By.o.Oh.row.lt g e
    have ex:=By.o.box.c0;have cc:=By.o.box.c1;have da:=By.o.box.c2;have fw:wr.cell? (A0 g f)=some (P0 O):=by rw[By.o.pre.A9.cell (p:=(A0 g f)) dx];exact cl
    have c4:=Aa a4;have cb:=Aa cr;have c1:=Aa ee;have az:=Aa dy;have c6:=Aa el;have cx:=Aa dv;go_wp2_with fail;have ba:=cy.o wr p b (some (w.heap.size+1)) k true true true (silV k) cg b0 bb O By.o.pre c4.o dz cb.o (fun _=>rfl) kY kX;rw[c6.o]at ba;unfold Bb at ba;simp only[Ce,cO]at ba;have ca:Hid ((tryT c.G c.bs c.N r p.fuel p.far (silV k) k b).ok=true->(Dt c.bs c.N b (hidV k) (tryT c.G c.bs c.N r p.fuel p.far (silV k) k b)/\(tryT c.G c.bs c.N r p.fuel p.far (silV k) k b).e=0)/\(tryT c.G c.bs c.N r p.fuel p.far (silV k) k b).fuel<p.fuel):=fun U=>⟨(BQ c.G ai.o.wf r).fit p.fuel p.far (silV k) true true k _ cb.o By.o.pre.inv U,GH c.G ai.o.wf r p.fuel p.far (silV k) k b U⟩
    have a3:=By.o.rem;rw[cx.o,Tg]at a3;have y:=Aa a3;generalize fs:tryT c.G c.bs c.N r p.fuel p.far (silV k) k b=x at*;refine ba.mono fun fc A be=>?_
    have bq:=be.Ad5;have fu:wr.heap.size<=A.heap.size:=bq.size;have d6:some w.heap.size≠p.sv.ownBlock:=fun e=>cd _ e.symm rfl
    have d8:some w.heap.size≠FZ k (some (w.heap.size+1)):=fun e=>by have:=az.o _ e.symm;omega
    obtain⟨du,fj,ck⟩:=By.o.pre.hid _ rfl;have a5:=Aa (bq.Ap By.o.box kX kX d6 d8);have b8:=Aa bq;have cw:=Aa du;have dt:p.sv.ownBlock=s.sv.ownBlock\/∀ g,p.sv.ownBlock=some g->w.heap.size<=g:=by
     rcases By.o.core.sv with e|⟨g,e,l⟩;exact Or.inl e;exact Or.inr fun dk cf=>by rw[e]at cf;cases cf;exact l
    rcases be with⟨d1,d2,a0⟩|⟨d1,d2,E,et,a0,V,de,df,dh,di⟩|⟨d1,d2,E,et,fy,a0,V⟩;subst d2;have bj:Hid (Az c w s .none false (CT (tryT c.G c.bs c.N r) c.N (j.map Prod.snd) s.fuel s.far st) (.panicked (F7 x.e)) A):=by
     have cn:x.ok=false:=by
      cases U:x.ok with
      | false=>rfl
      | true=>exact absurd (ca.o U).1.2 d1
     have K:Az c w s .none false (CT (tryT c.G c.bs c.N r) c.N (j.map Prod.snd) s.fuel s.far st) (.panicked (F7 x.e)) A:=by
      rw[y.o,aC (by rw[cn];simp)];unfold Hp;rw[aC (by rw[cn];simp)];exact Or.inl ⟨d1,rfl,By.o.core.fr.trans a0 dt (Or.inr fun g e=>by have:=az.o g e;omega)⟩
     exact K
    simp only;exact⟨rfl,bj.o⟩
    rotate_left
    . subst a0;have bj:Hid (Az c w s .none false (CT (tryT c.G c.bs c.N r) c.N (j.map Prod.snd) s.fuel s.far st) (.returned (.tuple #[.pointer none,I0 0,.bool false])) A):=by
       have K:Az c w s .none false (CT (tryT c.G c.bs c.N r) c.N (j.map Prod.snd) s.fuel s.far st) (.returned (.tuple #[.pointer none,I0 0,.bool false])) A:=by
        rw[y.o,aC (by rw[d2];simp)];unfold Hp;rw[aC (by rw[d2];simp)];exact Or.inr (Or.inr ⟨d1,d2,E,_,0,rfl,By.o.core.trans V (Or.inr (Or.inr fun g e=>by have:=az.o g e;omega))⟩)
       exact K
      simp only;go_wp2;go_ret3;exact bj.o
    . have U:=d2;rw[aF U]at y;obtain⟨⟨br,_⟩,fv⟩:=ca.o U;subst a0;have a7:=Aa V;have a6:=Aa (By.o.core.trans V (Or.inr (Or.inr fun g e=>by have:=az.o g e;omega)));have b5:=Aa de;have b6:=Aa df;have a8:=Aa br;have ac:=Aa (By.o.Oh.B9 b8.o kX kX (Or.inr fun g e=>by have:=az.o g e;omega) V.sv);have b7:=Aa (show EG A (w.heap.size+1) x.st.Ai by
       cases bx:hidV k with
       | true=>exact di _ (by unfold FZ;rw[bx];rfl)
       | false=>
        have d9:FZ k (some (w.heap.size+1))=none:=by unfold FZ;rw[bx];rfl
        rw[bx]at br;rw[br.Ai rfl];have ci:=b8.o;rw[d9]at ci;exact ci.Ap cw.o kX kX ck kY)
      have Y:∀ g,E.sv.ownBlock=some g->g≠w.heap.size/\g≠w.heap.size+1:=fun g e=>by
       rcases V.sv with h|⟨dk,h,l⟩;rw[h]at e;exact⟨cd g e,fun dj=>ck (by rw[e,dj])⟩;rw[h]at e;cases e;exact⟨by omega,by omega⟩
      have M:=dh;have f1:=a5.o.c0;have f2:=a5.o.frozen 0;have cu:A.cell? (A0 O 7)=some (.bool (silV k)):=by
       rw[(a6.o.A9 ai.o z.o (fun g e=>by cases e)).cell (p:=(A0 O 7)) eh,<- em];exact c1.out.cell 7
      have fm:v.length<=100000:=kX;have fl:f<=100000:=kX;have d7:some w.heap.size≠(Value.slice J v.length I).ownBlock:=fun e=>by have:=ae _ e.symm;omega
      generalize eb:x.st.pl=F at*;have b9:=Aa eb
      cases cq:silV k with
      | true=>
       rw[cq]at cu M y;rcases M with⟨_,M⟩|⟨e,_⟩
       rotate_left
       cases e
       subst M;simp only;go_wp2_with fail;have B:Hid (Core c w s none x.fuel x.far (A.setCell (A0 w.heap.size 0) (I0 F)) E):=a6.o.own kX kX rfl rfl rfl (by simp[World.setCell]) (fun k ct ab=>by
        have S:k≠w.heap.size:=by
         rcases ab with h|h;omega;exact(Y k h.symm).1
        rw[aN _ _ _ _ S])
       have bm:Hid (Fg (A.setCell (A0 w.heap.size 0) (I0 F)) (w.heap.size+2) E.sv.ownBlock (.slice J v.length I) v):=
        ac.o.B9 (tb:=w.heap.size) (rb:=w.heap.size) (((TF.refl w.heap.size w.heap.size E.sv.ownBlock none A)).setCell _ _ (Or.inl rfl)) kX kX (Or.inl rfl) (Or.inl rfl)
       have bi:=Aa (Ac.set a5.o 0 (I0 F));have bl:Hid (EG (A.setCell (A0 w.heap.size 0) (I0 F)) (w.heap.size+1) x.st.Ai):=Ac.Ad b7.o _ lB _;have a1:=a7.o.fuel;have a2:=a7.o.far;have an:Hid (AtS c (tryT c.G c.bs c.N r) (j.map Prod.snd) w s st (CT (tryT c.G c.bs c.N r) c.N (j.map Prod.snd) s.fuel s.far st) (f+1) (.slice J v.length I) v x.st (A.setCell (A0 w.heap.size 0) (I0 F)) E):=by
        refine⟨⟨B.o.tr,B.o.A9 ai.o z.o (fun g e=>by cases e),b6.o,b5.o,a8.o.inv,(Core.Aw z.o B.o).1,B.o.HX,fun h e=>?_⟩,?_,?_,bm.o,?_,⟨by omega,by omega⟩,fun g e=>(Y g e).1,by simp[World.setCell];omega⟩
        cases e
        exact⟨bl.o,by omega,fun e=>(Y _ e.symm).2 rfl⟩;rw[a1,a2];exact B.o;rw[b9.o,a8.o.en];exact bi.o;rw[y.o,a1,a2];rfl
       exact h5
      | false=>
       rw[cq]at cu M y;rcases M with⟨e,_⟩|⟨_,u,al,M,ei⟩
       cases e
       subst M;have c2:=Aa ei;simp only;go_wp2_with
        (at_builtin
         refine cS _ rfl _ _ _ rfl (w.heap.size+2) 55 er _ 1 8 underlying175 d0 eo ep eq rfl kX (.slice J v.length I) v.length (ER (v.map Prod.fst)) rfl (ac.o.row.alloc _) (A0 A.heap.size 0) 1 1 [P0 al] rfl rfl (cD (cs:=#[P0 al]) (t:=55) (fr:=(0,0)) (cJ A _)) (by simp[Value.oneCell']) kX lD kX lA (A.heap.size+1) kY ?_;intro ch ce ar ec L dq fq;have bp:=Ac.grown (Ac.alloc a5.o (.cells #[P0 al] 55)) L d7;have fb:=bp.c0;have fe:=bp.frozen 0)
       have ek:=L.size;simp at ek;have B:Hid (Core c w s none x.fuel x.far (ar.setCell (A0 w.heap.size 0) (I0 F)) E):=a6.o.own kX kX L.os L.tape L.output (by simp[World.setCell];omega) (fun k ct ab=>by
        have S:k≠w.heap.size:=by
         rcases ab with h|h;omega;exact(Y k h.symm).1
        have K:some k≠(Value.slice J v.length I).ownBlock:=fun e=>by
         exact h4
        rw[aN _ _ _ _ S,L.block k lA K,bC _ _ _ ct])
       have bm:Hid (Fg (ar.setCell (A0 w.heap.size 0) (I0 F)) (w.heap.size+2) E.sv.ownBlock (S0 ch (v.length+1) ce) (v++[(al,x.t)])):=
        (ac.o.push (w:=wr) (fun g e=>by have:=ae g e;omega) kX kX c2.o _ (fun g e=>(a6.o.tr.D0 g e).2) ec L dq).B9 (tb:=w.heap.size) (rb:=w.heap.size) (((TF.refl w.heap.size w.heap.size E.sv.ownBlock none ar)).setCell _ _ (Or.inl rfl)) kX kX (Or.inl rfl) (Or.inl rfl)
       have bi:=Aa (Ac.set bp 0 (I0 F));have dr:EG ar (w.heap.size+1) x.st.Ai:=Ac.grown (Ac.alloc b7.o (.cells #[P0 al] 55)) L (fun e=>by have:=ae _ e.symm;omega);have bl:Hid (EG (ar.setCell (A0 w.heap.size 0) (I0 F)) (w.heap.size+1) x.st.Ai):=Ac.Ad dr _ lB _;have a1:=a7.o.fuel;have a2:=a7.o.far;have an:Hid (AtS c (tryT c.G c.bs c.N r) (j.map Prod.snd) w s st (CT (tryT c.G c.bs c.N r) c.N (j.map Prod.snd) s.fuel s.far st) (f+1) (S0 ch (v.length+1) ce) (v++[(al,x.t)]) x.st (ar.setCell (A0 w.heap.size 0) (I0 F)) E):=by
        refine⟨⟨B.o.tr,B.o.A9 ai.o z.o (fun g e=>by cases e),b6.o,b5.o,a8.o.inv,(Core.Aw z.o B.o).1,B.o.HX,fun h e=>?_⟩,?_,?_,bm.o,?_,⟨by simp;omega,by omega⟩,fun g e=>(Y g e).1,by simp[World.setCell];omega⟩
        cases e
        exact⟨bl.o,by omega,fun e=>(Y _ e.symm).2 rfl⟩;rw[a1,a2];exact B.o;rw[b9.o,a8.o.en];exact bi.o;rw[y.o,a1,a2,dO,bX,dV,HK];rfl
       exact h5
  have d4:¬ (f:Int)<(j.length:Int):=kX;have d3:(j.map Prod.snd).drop f=[]:=dN lA;have a3:=By.o.rem;rw[d3]at a3;have y:Hid (CT (tryT c.G c.bs c.N r) c.N (j.map Prod.snd) s.fuel s.far st=Bs c.N p.fuel p.far {b with Ai:=st.Ai} (40::CN (v.map Prod.snd)++[41])):=a3;have ah:=By.o.box.c0;have fr:=By.o.pre.nd;go_wp2_with fail
  cases cm:p.nodes with
  | zero=>
   have cz:=Aa (fun W (h:A7 c.gb c.rb c.tb c.bs W p)=>Fb c.gb c.rb c.tb c.bs W _ h 3 0 ByteArray.empty (.slice J v.length I) cm rfl);refine kc ?_;refine(cz.o _ (By.o.core.tr.drewN 1)).mono ?_;rintro e bc⟨rfl,rfl⟩;simp only;refine⟨rfl,?_⟩;rw[y.o];exact Az.dead (By.o.core.drewN 1) _ (show b.Af=c.N by omega)
  | succ m=>
   have av:=Aa (fun W (h:A7 c.gb c.rb c.tb c.bs W p)=>Fs c.gb c.rb c.tb c.bs W _ h 3 0 ByteArray.empty (.slice J v.length I) m cm Co rfl);refine kc ?_;refine m9 ?_;intro bc aq o ao au am af ap;have ds:Ac bc wr.heap.size #[I0 3,.int .u32 0,.string ByteArray.empty,(.slice J v.length I)] 177:=ao;have aw:=Aa (By.o.Oh.made (lo:=w.heap.size) ap ds kX kX kX kX (Or.inl rfl) (fun g e=>(By.o.core.tr.D0 g e).2));refine lm ?_;have aj:¬ ({b with Ai:=st.Ai}:PS).Af=c.N:=lB;exact jw
theorem nQ(h:p:=by
 subst bf;clear d1 d2 ba;simp only;repeat still_step
 refine bL ?_;go_wp2;go_ret3;exact ab.o):p:=h
theorem R0(c w s st b e k j)(h:Cc c w s st b)(h0:s.fuel=0):
 Calls prog 62 #[P0 c.tb,P0 j,Bb st.pl st.en (Ce b)] w fun g w'=>Az c w s e k (HP 6 st) g w':=by
 have o:∀ a,(w.alloc a).cell? (A0 c.tb 47)=some (I0 0):=fun a=>by rw[(h.tr.alloc a).Yj,h0];rfl
 have f:=Aa (fun a=>((TF.refl c.tb c.rb s.sv.ownBlock e w).alloc a));unfold Bb;generalize Ce b=p;go_enter func62,ntmps62;go_wp2_with fail;refine⟨rfl,Or.inl ⟨by simp[HP],rfl,f.o _⟩⟩
theorem CV(c)(o:DO c)(w)(s)(st)(b B)(L)(y)(f)(p)(g k a:Nat)(e:Cc c w s st b)(v:Am w f p)(az:f<c.rb)(X:p.k=(g:Int))(an:g<15)(F:E2[g*3]? = some (CO k))(a1:∀ z W,Sem.run prog (callFunc k z) W=.ok (.enter k z) W)(V:s.fuel=a+1)(E:∀ W,Cc c W {s with fuel:=a} st b->Am W f p->Calls prog k #[P0 c.tb,P0 f,Bb st.pl st.en (Ce b)] W fun j w'=>Az c W {s with fuel:=a} B L y j w'):
 Calls prog 62 #[P0 c.tb,P0 f,Bb st.pl st.en (Ce b)] w fun j w'=>Az c w s B L y j w':=by
 have ap:=e.tr.Ap.lt;have aq:=o.lt;have a0:=v.lt;have al:=e.HX;have au:¬ w.heap.size=c.tb:=kX;have av:¬ c.tb=w.heap.size:=kX;have aw:¬ w.heap.size=f:=kX;have ax:¬ f=w.heap.size:=kX;have ay:¬ f=c.tb:=kX;have ao:(g:Int)<15:=kX;have ar:¬ ((a:Int)+1==0)=true:=lA;have S:∀ h,(w.alloc h).cell? (A0 c.tb 47)=some (I0 (a+1)):=fun h=>by rw[(e.tr.alloc h).Yj,V];rfl
 have U:∀ h,(w.alloc h).frozen? (A0 c.tb 47)=false:=fun h=>(e.tr.alloc h).Ap.frozen 47
 have A:A7 c.gb c.rb c.tb c.bs ((w.setCell (A0 c.tb 47) (I0 a)).alloc (AD st.pl st.en (Ce b))) {s with fuel:=a}:=(e.tr.set (s':={s with fuel:=a}) 47 (I0 a) (Q6 c.gb c.rb c.bs s a) rfl rfl rfl).alloc _;have x:Hid (Am ((w.setCell (A0 c.tb 47) (I0 a)).alloc (AD st.pl st.en (Ce b))) f p):=Ac.alloc (Ac.Ad v _ lB _) _;have r:Hid (Ac ((w.setCell (A0 c.tb 47) (I0 a)).alloc (AD st.pl st.en (Ce b))) w.heap.size (X_1 st.pl st.en (Ce b)) 159):=by
  have:=Ac.new (w.setCell (A0 c.tb 47) (I0 a)) (X_1 st.pl st.en (Ce b)) 159;rw[show(w.setCell (A0 c.tb 47) (I0 a)).heap.size=w.heap.size by simp[World.setCell]]at this;exact this
 have u:Hid (Core c w s none a s.far ((w.setCell (A0 c.tb 47) (I0 a)).alloc (AD st.pl st.en (Ce b))) {s with fuel:=a}):=
  ⟨A,rfl,rfl,⟨[],by simp,rfl⟩,by simp only;omega,((TF.refl c.tb c.rb s.sv.ownBlock none w).setCell _ _ (Or.inl rfl)).alloc _,Or.inl rfl⟩
 have af:=Aa e;have ae:=Aa o;have M:=Aa E;have O:Hid (Cc c ((w.setCell (A0 c.tb 47) (I0 a)).alloc (AD st.pl st.en (Ce b))) {s with fuel:=a} st b):=Cc.next o e u.o (Or.inl rfl) e.rd e.nd e.inv (fun _ _ _=>rfl) (fun _ j=>by cases j);have I:=u.o.tr.Ap.cell (g*3);have am:((w.setCell (A0 c.tb 47) (I0 a)).alloc (AD st.pl st.en (Ce b))).cell? (A0 c.tb (g*3))=some (.func (.func k) #[] #[]):=by
  rw[I];unfold Ed;rw[aQ,aW (by have:E2.length=45:=rfl;omega),F];rfl
 have a3:((w.setCell (A0 c.tb 47) (I0 a)).alloc (AD st.pl st.en (Ce b))).cell? (A0 f 0)=some (I0 g):=by rw[<- X];exact x.o.cell 0
 have ah:=r.o.c0;have ai:=r.o.c1;have aj:=r.o.c2;clear e o v E A I F;unfold AD at*;unfold Bb at*;generalize Z:Ce b=Y at*;clear Z;go_enter func62,ntmps62;go_wp2_with fail;generalize((w.setCell (A0 c.tb 47) (I0 a)).alloc (.cells (X_1 st.pl st.en Y) 159))=W at*;clear S U;refine AX 14 _ rfl rfl kZ kZ ?_;refine gq ?_;refine(M.o (W.drewN 1) (O.o.drewN 1) x.o).mono fun ak a4 J=>?_
 have K:=Az.ahead (u.o.drewN 1) J;clear J;have ab:=Aa K;rcases K with⟨d1,d2,bf⟩|⟨d1,d2,ac,ad,bf,ba⟩|⟨d1,d2,ac,ad,a2,bf,ba⟩;subst d2;clear d1 bf;simp only;exact⟨rfl,ab.o⟩;exact nQ;exact nQ
theorem OI:∀ a W,Sem.run prog (callFunc 120 a) W=.ok (.enter 120 a) W:=fun a W=>by
 unfold callFunc;go_simp;simp[Tryz.f120]
theorem KN:∀ a W,Sem.run prog (callFunc 123 a) W=.ok (.enter 123 a) W:=fun a W=>by
 unfold callFunc;go_simp;simp[Tryz.f123]
theorem Q5:∀ a W,Sem.run prog (callFunc 125 a) W=.ok (.enter 125 a) W:=fun a W=>by
 unfold callFunc;go_simp;simp[Tryz.f125]
theorem On:∀ a W,Sem.run prog (callFunc 128 a) W=.ok (.enter 128 a) W:=fun a W=>by
 unfold callFunc;go_simp;simp[Tryz.f128]
theorem Oq:∀ a W,Sem.run prog (callFunc 131 a) W=.ok (.enter 131 a) W:=fun a W=>by
 unfold callFunc;go_simp;simp[Tryz.f131]
theorem Sq:∀ a W,Sem.run prog (callFunc 134 a) W=.ok (.enter 134 a) W:=fun a W=>by
 unfold callFunc;go_simp;simp[Tryz.f134]
theorem R5:∀ a W,Sem.run prog (callFunc 137 a) W=.ok (.enter 137 a) W:=fun a W=>by
 unfold callFunc;go_simp;simp[Tryz.f137]
theorem Ov:∀ a W,Sem.run prog (callFunc 140 a) W=.ok (.enter 140 a) W:=fun a W=>by
 unfold callFunc;go_simp;simp[Tryz.f140]
theorem Lo:∀ a W,Sem.run prog (callFunc 143 a) W=.ok (.enter 143 a) W:=fun a W=>by
 unfold callFunc;go_simp;simp[Tryz.f143]
theorem UD:∀ a W,Sem.run prog (callFunc 145 a) W=.ok (.enter 145 a) W:=fun a W=>by
 unfold callFunc;go_simp;simp[Tryz.f145]
theorem Qk:∀ a W,Sem.run prog (callFunc 148 a) W=.ok (.enter 148 a) W:=fun a W=>by
 unfold callFunc;go_simp;simp[Tryz.f148]
theorem Ow:∀ a W,Sem.run prog (callFunc 150 a) W=.ok (.enter 150 a) W:=fun a W=>by
 unfold callFunc;go_simp;simp[Tryz.f150]
theorem V0:∀ a W,Sem.run prog (callFunc 153 a) W=.ok (.enter 153 a) W:=fun a W=>by
 unfold callFunc;go_simp;simp[Tryz.f153]
theorem OT:∀ a W,Sem.run prog (callFunc 155 a) W=.ok (.enter 155 a) W:=fun a W=>by
 unfold callFunc;go_simp;simp[Tryz.f155]
theorem Sv:∀ a W,Sem.run prog (callFunc 157 a) W=.ok (.enter 157 a) W:=fun a W=>by
 unfold callFunc;go_simp;simp[Tryz.f157]
theorem AW(h:p:=by
 show(Ae x.c||(q&&decide (x.c=39)))=_;rw[hxc];cases q<;>rfl):p:=h
theorem Cd(h:p:=by
 rw[Cf];rw[aC AC,aC AC,aC AC,aC AC,aC AC,aC AC,aC AC,aC AC]):p:=h
theorem Aj(h:p:=by
 show(if Ae x.c then _ else _)=_;rw[hxc];rfl):p:=h
theorem AC(h:p:=by
 rw[hxc];decide):p:=h
theorem AK(h:p:=by
 rw[Cj.k,hxc];rfl):p:=h
abbrev lh(h:PLift q->p:=by
 intro aa;have a:=ab AL;have E:z.map Prod.snd=[y]:=by rw[B,a]
 have o:BK c.R false ad y:=⟨K,by have:=ac y (by rw[a];simp);rw[hxc]at this;simpa[AY]using this⟩;revert a E o;exact aa.1):p:=h ⟨z⟩
theorem Nq{c w h o}{e:aD (Nat × aD It)}{g f b}(a:e.map Prod.snd=[o])(y:BZ c.w0 f b h.v (e.map Prod.fst))(z:∀ q,q∈e->BM g c.w0 f b q.1 false q.2)(A:b<=c.w0.heap.size):K2 c w h o:=by
 match e,a with
 | [(j,k)],a=>
  simp at a;subst a;rcases y with⟨_,x⟩|⟨v,p,r,B,E,F,u⟩;simp at x;exact⟨v,p,j,g,f,b,r,by omega,u 0 kY,z (j,k) kY,A⟩
theorem Aaz{c j}{a:aD (Nat × aD It)}{g e b}(h0:a.length=2)(x:BZ c.w0 e b j.v (a.map Prod.fst))(h:∀ q,q∈a->BM g c.w0 e b q.1 false q.2)(y:b<=c.w0.heap.size):U3 c j ((a.map Prod.snd).getD 0 []) ((a.map Prod.snd).getD 1 []):=by
 match a,h0 with
 | [(k,k0),(o,k1)],_=>
  rcases x with⟨_,v⟩|⟨u,p,r,z,A,B,f⟩;simp at v;exact⟨u,p,k,o,g,e,b,r,by omega,f 0 kY,f 1 kY,h (k,k0) kY,h (o,k1) kY,y⟩
theorem DF(c)(a:c=82\/c=39\/CP c=true):c=110\/c=108\/c=39\/c=40\/c=47\/c=42\/c=82\/c=104\/c=107\/c=114\/c=116\/c=119\/c=64\/c=115\/c=46:=by
 rcases a with a|a|a;subst a;decide;subst a;decide;simp only[CP,AY,cQ,dG,cN,cH,dA]at a;rcases a with a|a|a|a|a|a|a|a|a|a|a|a|a<;>simp at a<;>subst a<;>decide
theorem Cf(G bs N g e f q a b st):tryT G bs N (g+1) (e+1) f q (a::b) st=
 if a.c=40 then CT (tryT G bs N g) N (segs b.length b) e f st
 else if a.c=47 then Cn (tryT G bs N g) N ((segs b.length b).getD 0 []) ((segs b.length b).getD 1 []) e f st
 else if a.c=42 then manyT (tryT G bs N g) N b (e+1) e f st []
 else if a.c=82 then tryT G bs N g e f false (G a.r.toNat) st
 else if a.c=116 then Bq (tryT G bs N g) N b (st.Ai a.d.toNat).1 e f st []
 else if a.c=119 then BU (tryT G bs N g) (st.Ai a.d.toNat).1 b e f st
 else if a.c=64 then Nf (tryT G bs N g) bs (st.Ai a.d.toNat).1 b e f st
 else if a.c=115 then DB (tryT G bs N g) bs (st.Ai a.d.toNat) b e f st
 else AJ bs N a q e f st:=rfl
theorem Ahr(c)(h:DO c):∀ e,QI c e:=by
 intro e;induction e with
 | zero=>
  intro w s st A Z a4 ad a5 q ap a3 aj f J an S ao U L ai;exact R0 c w s st A _ _ f J kX
 | succ e V=>
  intro w s st A Z a4 ad a5 q ap a3 aj f J an S ao U L ai;obtain⟨K,ah⟩:=ao
  cases K with
  | zero=>exact ah.elim
  | succ K=>
  cases Z with
  | nil=>exact ah.elim
  | cons x y=>
  obtain⟨O,am,ae,a1,au,ab,ac⟩:=ah;obtain⟨aq,z,j,af,Cj,a2,Y,X,B,a7,a8⟩:=an.open;have a6:=h.le;have F:f<c.rb:=kX;have M:Am w f j:=af.below J.A9 kX;obtain⟨ar,a9,k,ba,bb,bc⟩:=s
  cases ar with
  | zero=>exact R0 c w _ st A _ _ f J rfl
  | succ b=>
  have hF:b<=e:=by simp only at ai;omega
  have av:=J.HX;simp only at av;have a0:j.sl=q:=by rw[a2,L];congr 1;exact IJ x y
  rcases DF x.c O.it.c with hxc|hxc|hxc|hxc|hxc|hxc|hxc|hxc|hxc|hxc|hxc|hxc|hxc|hxc|hxc
  . have r:tryT c.G c.bs c.N (e+1) (b+1) k q (x::y) st=AJ c.bs c.N x q b k st:=by
     exact Cd
    have p:FZ (x::y) A=none:=by
     exact Aj
    have v:silK q (x::y)=false:=by
     exact AW
    rw[p,v];simp only;rw[r];exact CV c h w _ st A none false _ f j 0 120 b J M F AK kX rfl OI rfl (fun W u I=>QA c h W _ st A f j x q u lB I Cj O hxc F)
  . have r:tryT c.G c.bs c.N (e+1) (b+1) k q (x::y) st=AJ c.bs c.N x q b k st:=by
     exact Cd
    have p:FZ (x::y) A=none:=by
     exact Aj
    have v:silK q (x::y)=false:=by
     exact AW
    rw[p,v];simp only;rw[r];exact CV c h w _ st A none false _ f j 1 123 b J M F AK kX rfl KN rfl (fun W u I=>Xc c h W _ st A f j x q u lB I Cj O hxc F)
  . have r:tryT c.G c.bs c.N (e+1) (b+1) k q (x::y) st=AJ c.bs c.N x q b k st:=by
     exact Cd
    have p:FZ (x::y) A=none:=by
     exact Aj
    have v:silK q (x::y)=q:=by
     exact AW
    rw[p,v];simp only;rw[r];exact CV c h w _ st A none q _ f j 2 125 b J M F AK kX rfl Q5 rfl (fun W u I=>SD c h W _ st A f j x q u lB I Cj O hxc F a0)
  . have r:tryT c.G c.bs c.N (e+1) (b+1) k q (x::y) st=CT (tryT c.G c.bs c.N e) c.N (z.map Prod.snd) b k st:=by
     rw[B,Cf];rw[aF hxc]
    have p:FZ (x::y) A=none:=by
     exact Aj
    have v:silK q (x::y)=false:=by
     exact AW
    rw[p,v];simp only;rw[r];exact CV c h w _ st A none false _ f j 3 128 b J M F AK kX rfl On rfl (fun W u I=>OO c h e V W _ st A f j z aq (f+1) aj u af Y (fun q L=>by have:=X q L;rw[hxc]at this;exact this) S (fun q L=>⟨K,by have:=ac q.2 (by rw[<- B];exact eG L);rw[hxc]at this;simpa using this⟩) hF)
  . have r:tryT c.G c.bs c.N (e+1) (b+1) k q (x::y) st=Cn (tryT c.G c.bs c.N e) c.N ((z.map Prod.snd).getD 0 []) ((z.map Prod.snd).getD 1 []) b k st:=by
     rw[B];rw[Cf];rw[aC AC,aF hxc]
    have al:=au hxc;have ax:z.length=2:=by rw[<- B]at al;simpa using al
    have ay:(z.map Prod.snd).getD 0 []∈segs y.length y:=by rw[B,A3 _ _ _ kX];exact aU _
    have az:(z.map Prod.snd).getD 1 []∈segs y.length y:=by rw[B,A3 _ _ _ kX];exact aU _
    have ak:∀ Z,Z∈segs y.length y->BK c.R false false Z:=fun Z aw=>⟨K,by have:=ac Z aw;rw[hxc]at this;simpa[AY]using this⟩
    have p:FZ (x::y) A=none:=by
     exact Aj
    have v:silK q (x::y)=false:=by
     exact AW
    rw[p,v];simp only;rw[r];exact CV c h w _ st A none false _ f j 4 131 b J M F AK kX rfl Oq rfl (fun W u I=>QY c h e V W _ st A f j _ _ u I (Aaz ax Y (fun q L=>by have:=X q L;rw[hxc]at this;exact this) S) (ak _ ay) (ak _ az) F hF)
  . have r:tryT c.G c.bs c.N (e+1) (b+1) k q (x::y) st=manyT (tryT c.G c.bs c.N e) c.N y (b+1) b k st []:=by
     rw[Cf];rw[aC AC,aC AC,aF hxc]
    have a:=ab AL;have E:z.map Prod.snd=[y]:=by rw[B,a]
    have o:BK c.R false false y:=⟨K,by have:=ac y (by rw[a];simp);rw[hxc]at this;simpa[AY]using this⟩;have p:FZ (x::y) A=none:=by
     exact Aj
    have v:silK q (x::y)=false:=by
     exact AW
    rw[p,v];simp only;rw[r];exact CV c h w _ st A none false _ f j 5 134 b J M F AK kX rfl Sq rfl (fun W u I=>UF c h e V W _ st A f j y u af (Nq E Y (fun q L=>by have:=X q L;rw[hxc]at this;exact this) S) o hF)
  . have r:tryT c.G c.bs c.N (e+1) (b+1) k q (x::y) st=tryT c.G c.bs c.N e b k false (c.G x.r.toNat) st:=by
     rw[Cf];rw[aC AC,aC AC,aC AC,aF hxc]
    have p:FZ (x::y) A=none:=by
     exact Aj
    have v:silK q (x::y)=false:=by
     exact AW
    rw[p,v];simp only;rw[r];exact CV c h w _ st A none false _ f j 6 137 b J M F AK kX rfl R5 rfl (fun W u I=>OQ c h e V W _ st A f j x u I Cj O hxc (a1 hxc) F hF)
  . obtain⟨g,rfl⟩:=eA.1 (U (Or.inl (am AL)));have r:tryT c.G c.bs c.N (e+1) (b+1) k q (x::y) st=AJ c.bs c.N x q b k st:=by
     exact Cd
    have p:FZ (x::y) (some g)=(some g):=by
     exact Aj
    have v:silK q (x::y)=true:=by
     exact AW
    rw[p,v];simp only;rw[r];exact CV c h w _ st (some g) (some g) true _ f j 7 140 b J M F AK kX rfl Ov rfl (fun W u I=>Qr c h W _ st g f j x q u lB I Cj O hxc F)
  . obtain⟨g,rfl⟩:=eA.1 (U (Or.inl (am AL)));have r:tryT c.G c.bs c.N (e+1) (b+1) k q (x::y) st=AJ c.bs c.N x q b k st:=by
     exact Cd
    have p:FZ (x::y) (some g)=(some g):=by
     exact Aj
    have v:silK q (x::y)=true:=by
     exact AW
    rw[p,v];simp only;rw[r];exact CV c h w _ st (some g) (some g) true _ f j 8 143 b J M F AK kX rfl Lo rfl (fun W u I=>L1 c h W _ st g f j x q u lB I Cj O hxc F)
  . obtain⟨g,rfl⟩:=eA.1 (U (Or.inr (ae AL)));have r:tryT c.G c.bs c.N (e+1) (b+1) k q (x::y) st=AJ c.bs c.N x q b k st:=by
     exact Cd
    have p:FZ (x::y) (some g)=none:=by
     exact Aj
    have v:silK q (x::y)=false:=by
     exact AW
    rw[p,v];simp only;rw[r];exact CV c h w _ st (some g) none false _ f j 9 145 b J M F AK kX rfl UD rfl (fun W u I=>WX c h W _ st g f j x q u lB I Cj O hxc F)
  . obtain⟨g,rfl⟩:=eA.1 (U (Or.inr (ae AL)));have r:tryT c.G c.bs c.N (e+1) (b+1) k q (x::y) st=Bq (tryT c.G c.bs c.N e) c.N y (st.Ai x.d.toNat).1 b k st []:=by
     rw[Cf];rw[aC AC,aC AC,aC AC,aC AC,aF hxc]
    have a:=ab AL;have E:z.map Prod.snd=[y]:=by rw[B,a]
    have o:BK c.R false false y:=⟨K,by have:=ac y (by rw[a];simp);rw[hxc]at this;simpa[AY]using this⟩;have p:FZ (x::y) (some g)=none:=by
     exact Aj
    have v:silK q (x::y)=false:=by
     exact AW
    rw[p,v];simp only;rw[r];exact CV c h w _ st (some g) none false _ f j 10 148 b J M F AK kX rfl Qk rfl (fun W u I=>SQ c h e V W _ st g f j x y u af Cj O hxc (Nq E Y (fun q L=>by have:=X q L;rw[hxc]at this;exact this) S) o hF)
  . obtain⟨g,rfl⟩:=eA.1 (U (Or.inr (ae AL)));have r:tryT c.G c.bs c.N (e+1) (b+1) k q (x::y) st=BU (tryT c.G c.bs c.N e) (st.Ai x.d.toNat).1 y b k st:=by
     rw[Cf];rw[aC AC,aC AC,aC AC,aC AC,aC AC,aF hxc]
    refine lh ?_;intro a E o;have p:FZ (x::y) (some g)=none:=by
     exact Aj
    have v:silK q (x::y)=false:=by
     exact AW
    rw[p,v];simp only;rw[r];exact CV c h w _ st (some g) none false _ f j 11 150 b J M F AK kX rfl Ow rfl (fun W u I=>QW c h e V W _ st g f j x y ad u I Cj O hxc (Nq E Y (fun q L=>by have:=X q L;rw[hxc]at this;exact this) S) o F hF)
  . obtain⟨g,rfl⟩:=eA.1 (U (Or.inr (ae AL)));have r:tryT c.G c.bs c.N (e+1) (b+1) k q (x::y) st=Nf (tryT c.G c.bs c.N e) c.bs (st.Ai x.d.toNat).1 y b k st:=by
     rw[Cf];rw[aC AC,aC AC,aC AC,aC AC,aC AC,aC AC,aF hxc]
    refine lh ?_;intro a E o;have p:FZ (x::y) (some g)=none:=by
     exact Aj
    have v:silK q (x::y)=false:=by
     exact AW
    rw[p,v];simp only;rw[r];exact CV c h w _ st (some g) none false _ f j 12 153 b J M F AK kX rfl V0 rfl (fun W u I=>Yn c h e V W _ st g f j x y ad u I Cj O hxc (Nq E Y (fun q L=>by have:=X q L;rw[hxc]at this;exact this) S) o F hF)
  . obtain⟨g,rfl⟩:=eA.1 (U (Or.inr (ae AL)));have r:tryT c.G c.bs c.N (e+1) (b+1) k q (x::y) st=DB (tryT c.G c.bs c.N e) c.bs (st.Ai x.d.toNat) y b k st:=by
     rw[Cf];rw[aC AC,aC AC,aC AC,aC AC,aC AC,aC AC,aC AC,aF hxc]
    refine lh ?_;intro a E o;have p:FZ (x::y) (some g)=none:=by
     exact Aj
    have v:silK q (x::y)=false:=by
     exact AW
    rw[p,v];simp only;rw[r];exact CV c h w _ st (some g) none false _ f j 13 155 b J M F AK kX rfl OT rfl (fun W u I=>Qx c h e V W _ st g f j x y ad u I Cj O hxc (Nq E Y (fun q L=>by have:=X q L;rw[hxc]at this;exact this) S) o F hF)
  have r:tryT c.G c.bs c.N (e+1) (b+1) k q (x::y) st=AJ c.bs c.N x q b k st:=by
   exact Cd
  have p:FZ (x::y) A=none:=by
   exact Aj
  have v:silK q (x::y)=false:=by
   exact AW
  rw[p,v];simp only;rw[r];exact CV c h w _ st A none false _ f j 14 157 b J M F AK kX rfl Sv rfl (fun W u I=>Uo c h W _ st A f x q u lB hxc)
theorem n6(h:p:=by
 refine(ab.o (w.drewN 1) (DD w 1)).mono fun af aq a8=>?_
 obtain⟨rfl,ae⟩:=a8;have ad:=Aa ((DD w 1).trans ae);simp only;repeat still_step
 refine bL ?_;go_wp2;go_ret;exact⟨rfl,ad.o⟩):p:=h
abbrev k9(h:PLift q->p:=by
 intro aa;have ad:=ae.Ap.c0;revert ad;exact aa.1):p:=h ⟨z⟩
structure Oo (c:Cx) (w:aE) (wb:Nat):Prop where
 A9:Below c.w0.heap.size c.w0 w
 ge:c.w0.heap.size<=wb
 fns:∀ j v,E2[j]? = some v->w.cell? (A0 wb j)=some v
 gr:w.cell? (A0 wb 45)=some (P0 c.gb)
 lt:wb<w.heap.size
theorem Oo.below{c w w' e}(a:Oo c w e)(b:Below w.heap.size w w'):Oo c w' e:=
 ⟨a.A9.trans (b.mono a.A9.size),a.ge,fun g h f=>by rw[aL (w:=w) (b.block e a.lt)];exact a.fns g h f,by rw[aL (w:=w) (b.block e a.lt)];exact a.gr,bM a.lt b.size⟩
def DT(a:Bool)(w:aE)(b:Ending)(w':aE):Prop:=b=.returned (.bool a)/\Below w.heap.size w w'
theorem DD(w n):Below w.heap.size w (w.drewN n):=⟨rfl,rfl,rfl,aB _,fun _ _=>rfl⟩
theorem CS(c)(w)(f e o)(k)(a b:Nat)(j:Bool)(v:Oo c w f)(x:Am w e k)(u:k.k=(a:Int))(z:a<15)(r:E2[a*3+1]? = some (CO b))(B:∀ h W,Sem.run prog (callFunc b h) W=.ok (.enter b h) W)(p:∀ W,Below w.heap.size w W->Calls prog b #[P0 f,P0 e,P0 o] W fun g w'=>DT j W g w'):
 Calls prog 51 #[P0 f,P0 e,P0 o] w fun g w'=>DT j w g w':=by
 have A:(a:Int)<15:=kX;have y:q_ w f (a*3+1) (.func (.func b) #[] #[]):=v.fns _ _ r;have E:w.cell? (A0 e 0)=some (I0 a):=by rw[<- u];exact x.cell 0
 have ab:=Aa p;go_enter func51,ntmps51;go_wp2_with fail;refine AX 13 _ rfl rfl kZ kZ ?_;refine gq ?_;exact n6
theorem H3(n a)(k:n<18446744073709551616)(o:a<=4)(w):
 Calls prog 160 #[.int .u64 (n:Nat),I0 (a:Nat)] w fun e w'=>e=.returned (.bool (CG n a))/\w'=w:=by
 have p:((n:Int) / 2 ^ (8*a)==0)=CG n a:=by
  have g:(2:Int) ^ (8*a)=((256 ^ a:Nat):Int):=by
   rw[show(256:Nat)=2^8 from rfl,<- kN];simp
  unfold CG;rw[g];have h:0<256 ^ a:=iA kX;by_cases b:n<256 ^ a;rw[bF b,Int.ediv_eq_zero_of_lt kX kX];rfl;rw[bJ b];have j:1<=n / 256 ^ a:=(Nat.one_le_div_iff h).2 kX;have f:((n:Int) / ((256 ^ a:Nat):Int))=((n / 256 ^ a:Nat):Int):=kY;rw[f];have:¬ ((n / 256 ^ a:Nat):Int)=0:=kX;simpa using this
 go_enter func160,ntmps160;go_wp2;go_ret;exact⟨rfl,rfl⟩
structure Q0 (w:aE) (vb k n:Nat) (run:aA) (v:aI):Prop where
 Ap:Ac w vb (X_11 (k:Nat) (n:Nat) run v) 177
 n:n<4294967296
theorem HT(w)(x f h b n a:Nat)(u:aA)(v:aI)(g:Pt)(o:Am w f g)(ae:Q0 w h b n u v)(p:g.wd=(a:Int))(r:a<=4):
 Calls prog 121 #[P0 x,P0 f,P0 h] w fun k w'=>DT (decide (b=0)&&CG n a) w k w':=by
 refine k9 ?_;intro ad;have y:=ae.Ap.c1;have E:w.cell? (A0 f 2)=some (I0 (a:Nat)):=by rw[<- p];exact o.cell 2
 have A:=ae.n;have j:=Aa (fun W=>H3 n a kX r W);have B:IntKind.u64.wrap (n:Int)=n:=by rw[IntKind.wrap_u64];omega
 by_cases e:b=0
 . subst e;go_enter func121,ntmps121;go_wp2_with fail;go_quiet (first|(go_at_call 160;exact eP (j.o _)));go_wp2;go_ret;exact⟨BI kY,DD w _⟩
 have z:((b:Int)==0)=false:=by simpa using e
 go_enter func121,ntmps121;go_wp2_with fail;go_quiet (fail);go_wp2;go_ret;exact⟨BI (by simp[e]),DD w _⟩
theorem KR(w k g b a n h j)(ae:Q0 w b a n h j):
 Calls prog 126 #[P0 k,P0 g,P0 b] w fun e w'=>DT (decide (a=1)) w e w':=by
 refine k9 ?_;intro ad;have o:((a:Int)==1)=decide (a=1):=by by_cases f:a=1<;>simp[f];omega
 go_enter func126,ntmps126;go_wp2;go_ret;exact⟨rfl,aO _ _⟩
theorem Kf(w k g b a n h j)(ae:Q0 w b a n h j):
 Calls prog 146 #[P0 k,P0 g,P0 b] w fun e w'=>DT (decide (a=2)) w e w':=by
 refine k9 ?_;intro ad;have o:((a:Int)==2)=decide (a=2):=by by_cases f:a=2<;>simp[f];omega
 go_enter func146,ntmps146;go_wp2;go_ret;exact⟨rfl,aO _ _⟩
theorem Je(w f b e):
 Calls prog 141 #[P0 f,P0 b,P0 e] w fun a w'=>DT false w a w':=by
 go_enter func141,ntmps141;go_wp2;go_ret;exact⟨rfl,aO _ _⟩
def Ac9(b a:Nat)(w:aE)(g:Nat)(f:aD It)(st:Int × Bool):Prop:=
 Calls prog 61 #[P0 a,P0 g,BJ (if false then(none:aM Nat)else none),BJ none] w fun e w'=>
  e=.returned (.tuple #[])/\WS a a none (walkV b false (none:aM Nat).isSome f (FN,st)) w'/\KD a none w w'
theorem MW(s w o K)(l:aD (Rl × Nat))(I:Ac w o #[K] 77)(B:RAt s w K l)(E:Eu w)(ak:∀ q,q∈l->∀ L,L∈q.1.As->Ls L):
 Calls prog 39 #[P0 o] w fun b w'=>
  b=.returned (.tuple #[I0 (BL (s.size+1) (l.map Prod.fst) (0,false)).1,.bool (BL (s.size+1) (l.map Prod.fst) (0,false)).2])/\Below w.heap.size w w':=by
 have Y:=Aa B;have a6:=I.lt;obtain⟨⟨g,ac,rfl,u,ai⟩,_,bb,ao,a9⟩:=B;have S:=Aa ai;have Z:=Aa ao;have U:=Aa ak;have a2:∀ f,(w.alloc f).cell? (A0 o 0)=some (S0 g l.length ac):=fun f=>(Ac.alloc I f).cell 0
 have p:=E.2;have aa:Hid (WS w.heap.size w.heap.size none (FN,(0,false)) (w.alloc (.cells #[I0 0,.bool false] 149))):=
  ⟨Ac.new _ _ _,(fun _ b=>by cases b),aB _,E.fr (B:=w.heap.size) (rb:=w.heap.size) ((Fr.refl _ _ _).alloc (aB _) _) p p,p⟩
 have M:Hid (Below w.heap.size w (w.alloc (.cells #[I0 0,.bool false] 149))):=(aO _ _).alloc (aB _) _;have ae:w.heap.size<(w.alloc (.cells #[I0 0,.bool false] 149)).heap.size:=kY;go_enter func39,ntmps39;go_wp2_with fail;generalize w.alloc (.cells #[I0 0,.bool false] 149)=aw at*;generalize af:w.heap.size=a at*;have A:=Aa af;go_loopw [12] (fun y wr=>∃ i:Nat,y=I0 i/\i<=l.length/\Hid (WS a a none (FN,BL (s.size+1) ((l.map Prod.fst).take i) (0,false)) wr)/\Hid (Below a w wr)/\Hid (a<wr.heap.size)) (fun y _=>l.length-(intOf y).toNat)
 case atStart=>exact⟨0,rfl,by omega,aa,M,ae⟩
 case round=>
  obtain⟨i,rfl,a7,j,e,ah⟩:=hrel;have a5:=ah.out;by_cases av:i<l.length
  . obtain⟨ad,d1,d2⟩:=S.o i av;have a8:(i:Int)<(l.length:Int):=kX;have v:=aU av;obtain⟨au,aj,ba,J,am⟩:=Y.o.rep l[i] v;have al:=am.toT;rw[A.o]at J;obtain⟨_,an⟩:=Z.o l[i] v;have az:wr.cell? (A0 g (i*3))=some (I0 l[i].1.r):=by rw[e.out.cell (p:=(A0 g (i*3))) u,ad]
    have a0:wr.cell? (A0 g (i*3+1))=some (I0 (l[i].1.pl:Int)):=by rw[e.out.cell (p:=(A0 g (i*3+1))) u,d1]
    have a1:wr.cell? (A0 g (i*3+2))=some (P0 (l[i].2)):=by rw[e.out.cell (p:=(A0 g (i*3+2))) u,d2]
    have O:Hid (∀ f,Ac9 (s.size+1) a (wr.alloc f) l[i].2 l[i].1.As (BL (s.size+1) ((l.map Prod.fst).take i) (0,false))):=by
     intro f;have h:=ZT (s.size+1) (wr.alloc f) au aj l[i].2 l[i].1.As false none (FN,BL (s.size+1) ((l.map Prod.fst).take i) (0,false)) a a
      (al.mono (fun ar a3 a4=>by rw[bC _ _ _ kX,e.out.block ar kX]) (aB _) (aB _)) J lA
      ⟨Ac.alloc j.out.bd f,(fun _ b=>by cases b),aB _,j.out.Yb.fr (B:=wr.heap.size) (rb:=wr.heap.size) ((Fr.refl _ _ _).alloc (aB _) _) kX kX,j.out.pos⟩ (U.o l[i] v) an (fun h=>by cases h)
     exact h
    have k:=Aa (show(walkV (s.size+1) false false l[i].1.As (FN,BL (s.size+1) ((l.map Prod.fst).take i) (0,false))).2=BL (s.size+1) ((l.map Prod.fst).take (i+1)) (0,false)by
     rw[bN Bn];unfold BL;rw[dK];simp)
    generalize l[i]=q at*;go_wp2_with fail;have r:=O.o (.cells (X_3 q.1.r q.1.pl q.2) 123);unfold Ac9 at r;simp only[BJ,hT,bT,cT]at r;refine r.mono ?_;rintro b z⟨rfl,x,F⟩;have V:Hid (WS a a none (FN,BL (s.size+1) ((l.map Prod.fst).take (i+1)) (0,false)) z):=by
     have h:=x.bd;simp only[Option.isSome_none]at h;rw[k.o]at h;exact⟨h,(fun _ b=>by cases b),aB _,x.Yb,x.pos⟩
    have ap:=F.size;simp at ap;have X:Hid (Below a w z):=(e.out.alloc kX _).trans (F.below (aB _) (fun _ b=>by cases b) lA);simp only;go_wp2;go_roundw
    case rel=>exact⟨i+1,by go_num,by omega,V,X,(by omega:a<z.heap.size)⟩
    case measure=>simp[intOf];omega
  have k:=Aa (show BL (s.size+1) ((l.map Prod.fst).take i) (0,false)=BL (s.size+1) (l.map Prod.fst) (0,false)by rw[bV lA]);have ax:wr.cell? (A0 a 0)=some (I0 (BL (s.size+1) (l.map Prod.fst) (0,false)).1):=by rw[<- k.o];exact j.out.bd.cell 0
  have ay:wr.cell? (A0 a 1)=some (.bool (BL (s.size+1) (l.map Prod.fst) (0,false)).2):=by rw[<- k.o];exact j.out.bd.cell 1
  generalize aq:BL (s.size+1) (l.map Prod.fst) (0,false)=bc at*;have ab:=Aa aq;go_wp2_with fail;go_quiet (fail);go_wp2;go_ret2;exact⟨by rw[ab.o];rfl,by rw[A.o];exact⟨e.out.os,e.out.tape,e.out.output,e.out.size,e.out.block⟩⟩
theorem Fr.Aey{b g C e f}(a:Fr b g e f)(j:C<=b)(k:C<=g):Below C e f:=⟨a.os,a.tape,a.output,a.size,fun h o=>a.block h kX kX⟩
structure Ug (Bj:aD Rl):Prop where
 num:∀ r,r∈Bj->0<=r.r/\r.r<8
 rul:∀ r,r∈Bj->Vc r.As/\r.As.length<=1000
 lets:∀ r,r∈Bj->∀ x,x∈r.As->Ls x
 len:Bj.length<=8
 ne:0<Bj.length
theorem RAt.of{s g w k}{l:aD (Rl × Nat)}(h:Yx s g w k l)(E:0<g)(e:Ug (l.map Prod.fst)):RAt s w k l:=by
 have j:∀ q,q∈l->q.1∈l.map Prod.fst:=fun q a=>dF.2 ⟨q,a,rfl⟩
 have x:l.length<=8:=by have:=e.len;simpa using this
 have y:0<l.length:=by have:=e.ne;simpa using this
 refine⟨?_,fun q a=>?_,fun q a=>e.num _ (j q a),fun q a=>e.rul _ (j q a),x⟩;obtain⟨r,p,rfl,B,u⟩:=h.row.form y;refine⟨r,p,rfl,u,fun b f=>?_⟩;refine⟨?_,?_,?_⟩;have:=h.row.cellAt (b*3+0) kX;rw[Ju l b 0 kX]at this;simpa[f]using this;have:=h.row.cellAt (b*3+1) kX;rw[Ju l b 1 kX]at this;simpa[f]using this;have:=h.row.cellAt (b*3+2) kX;rw[Ju l b 2 kX]at this;simpa[f]using this;obtain⟨z,v,A,o,_,c⟩:=h.ok q a;exact⟨z,v,by omega,o,c⟩
def Be(s:aA):Int × Int:=
 if 400<s.size then(1,0)else if(Ah s).ok=false then(2,(Ah s).i)
 else if(scanR (D9 (Ah s).Bj) [] (Ah s).Bj).2 then(3,(scanR (D9 (Ah s).Bj) [] (Ah s).Bj).1)
 else if(BL (s.size+1) (Ah s).Bj (0,false)).2 then(4,(BL (s.size+1) (Ah s).Bj (0,false)).1)else(0,0)
structure RD (s:aA) (w:aE) (gb:Nat):Prop where
 ex:∃ v l,Ac w gb #[v] 77/\RAt s w v l/\l.map Prod.fst=(Ah s).Bj
theorem RD.below{s w w' a}(f:RD s w a)(e:Below w.heap.size w w'):RD s w' a:=by
 obtain⟨j,l,b,g,h⟩:=f.ex;exact⟨j,l,b.below e b.lt,g.below e,h⟩
def Xo(s:aA)(w w':aE)(b:aI):Prop:=(Be s).1=0->∃ a,b=P0 a/\w.heap.size<=a/\RD s w' a
theorem RL(s)(_hsl:s.size<=maxLen)(w)(an:Eu w)(ao:s.size<=400->(Ah s).ok=true->Ug (Ah s).Bj):
 Calls prog 25 #[.string s] w fun p w'=>∃ ac,p=.returned (.tuple #[ac,I0 (Be s).1,I0 (Be s).2])/\Below w.heap.size w w'/\Xo s w w' ac:=by
 have o:=Aa an;have af:=Aa ao;by_cases J:400<s.size
 . have av:(400:Int)<(s.size:Int):=by omega
   have a:=Aa (show Be s=(1,0)by unfold Be;rw[aF J]);unfold maxLen at _hsl;go_enter func25,ntmps25;go_wp2;go_ret3;exact⟨.pointer none,by rw[a.o];rfl,aO _ _,fun b=>by rw[a.o]at b;cases b⟩
 have av:¬ (400:Int)<(s.size:Int):=kX;have k:Hid (Be s=if(Ah s).ok=false then(2,((Ah s).i:Int))
  else if(scanR (D9 (Ah s).Bj) [] (Ah s).Bj).2 then(3,(scanR (D9 (Ah s).Bj) [] (Ah s).Bj).1)
  else if(BL (s.size+1) (Ah s).Bj (0,false)).2 then(4,(BL (s.size+1) (Ah s).Bj (0,false)).1)else(0,0)):=by
  show Be s=_;unfold Be;rw[aC J]
 have aj:Hid (Rd (w.alloc (.cells #[.string s,I0 0] 72)) w.heap.size s 0):=Ac.new _ _ _;have V:Hid (Eu (w.alloc (.cells #[.string s,I0 0] 72))):=o.o.fr (B:=w.heap.size) (rb:=w.heap.size) ((Fr.refl _ _ _).alloc (aB _) _) o.o.2 o.o.2;have ae:Hid (Below w.heap.size w (w.alloc (.cells #[.string s,I0 0] 72))):=(aO _ _).alloc (aB _) _;have ab:=o.o.2;have bb:(w.alloc (.cells #[.string s,I0 0] 72)).heap.size=w.heap.size+1:=kY;go_enter func25,ntmps25;go_wp2_with fail;generalize w.alloc (.cells #[.string s,I0 0] 72)=Y at*;generalize au:w.heap.size=r at*;have h:=Aa au;refine(RS s kX Y r aj.o V.o ab).mono ?_;rintro p w1⟨bc,rfl,I,aq,ay⟩;have a8:=I.size;have e:Hid (Below r w w1):=ae.o.trans (Fr.Aey I kX (aB _));have ak:Hid (Eu w1):=V.o.fr (B:=Y.heap.size) I ab kX
 cases j:(Ah s).ok
 . have am:=aq j;have a7:=am.c1;have a:=Aa (show Be s=(2,((Ah s).i:Int))by rw[k.o,aF j]);simp only;go_wp2_with fail;go_quiet (fail);go_wp2;go_ret3;exact⟨.pointer none,by rw[a.o];rfl,by rw[h.o];exact⟨e.o.os,e.o.tape,e.o.output,e.o.size,e.o.block⟩,fun b=>by rw[a.o]at b;cases b⟩
 obtain⟨l,aa,ap⟩:=ay j;have hF:=af.o (eZ J) j;have z:=Aa j;rw[<- aa]at hF;have Z:=RAt.of ap kX hF;have ai:Hid (∀ q,q∈l->∀ u,u∈q.1.As->Ls u):=fun q ar u ax=>hF.lets q.1 (dF.2 ⟨q,ar,rfl⟩) u ax
 have S:=Aa Z;have y:=Aa aa;obtain⟨E,B,aw,_,_⟩:=Z.shape;subst aw;simp only;go_wp2_with fail;have v:=Aa (Ac.new w1 #[S0 E l.length B] 77);have g:=Aa ((aO w1.heap.size w1).alloc (aB _) (.cells #[S0 E l.length B] 77));generalize w1.alloc (.cells #[S0 E l.length B] 77)=w2 at*;have a9:=g.o.size;refine(K6 s w2 w1.heap.size _ l v.o (S.o.below g.o)).mono ?_;rintro p L⟨rfl,f⟩;have a6:=Aa f;have ba:=f.size;have x:=Aa (v.o.below f v.o.lt);have U:=Aa ((S.o.below g.o).below f);have al:Hid (Eu L):=⟨fun K az hu=>by rw[f.cell (p:=(A0 0 (0+K))) lA,g.o.cell (p:=(A0 0 (0+K))) lA];exact ak.o.1 K az hu,by omega⟩;have M:Hid (Below r w L):=(e.o.trans (g.o.mono kX)).trans (f.mono kX);have A:=Aa (show scanR (D9 (Ah s).Bj) [] (Ah s).Bj=scanR (D9 (l.map Prod.fst)) [] (l.map Prod.fst)by rw[<- y.o]);generalize scanR (D9 (l.map Prod.fst)) [] (l.map Prod.fst)=a3 at*;obtain⟨a4,a5⟩:=a3
 cases a5
 rotate_left
 . have a:=Aa (show Be s=(3,a4)by rw[k.o,aC (by rw[z.o];simp),A.o];rfl);simp only;go_wp2;go_ret3;exact⟨.pointer none,by rw[a.o];rfl,by rw[h.o];exact M.o,fun b=>by rw[a.o]at b;cases b⟩
 simp only;go_wp2_with fail;refine(MW s L w1.heap.size _ l x.o U.o al.o ai.o).mono ?_;rintro p ad⟨rfl,F⟩;have O:Hid (Below r w ad):=M.o.trans (F.mono kX);have X:=Aa (show BL (s.size+1) (Ah s).Bj (0,false)=BL (s.size+1) (l.map Prod.fst) (0,false)by rw[<- y.o]);have ah:Hid (RD s ad w1.heap.size):=⟨_,l,x.o.below F (by have:=x.o.lt;omega),U.o.below F,y.o⟩;generalize BL (s.size+1) (l.map Prod.fst) (0,false)=a0 at*;obtain⟨a1,a2⟩:=a0
 cases a2
 . have a:=Aa (show Be s=(0,0)by rw[k.o,aC (by rw[z.o];simp),A.o,X.o];rfl);simp only;go_wp2;go_ret3;exact⟨_,by rw[a.o];rfl,by rw[h.o];exact O.o,fun _=>⟨_,rfl,by rw[h.o];omega,ah.o⟩⟩
 have a:=Aa (show Be s=(4,a1)by rw[k.o,aC (by rw[z.o];simp),A.o,X.o];rfl);simp only;go_wp2;go_ret3;exact⟨.pointer none,by rw[a.o];rfl,by rw[h.o];exact O.o,fun b=>by rw[a.o]at b;cases b⟩
theorem h2(h:p:=by
 rcases p with e|e|e|e|e|e|e|e|e|e|e|e|e|e|e<;>rw[e]<;>decide):p:=h
theorem Li(c)(h:c=82\/c=39\/CP c=true):c=82\/c=39\/c=110\/c=108\/c=40\/c=47\/c=42\/c=104\/c=107\/c=114\/c=116\/c=119\/c=64\/c=115\/c=46:=by
 rcases h with h|h|h;exact Or.inl h;exact Or.inr (Or.inl h);exact XN
theorem Yv(a)(b:GN a):Ls a:=by
 have g:=b.d;have p:=Li a.c b.c;refine⟨?_,?_,?_,?_,?_⟩;exact h2;exact h2;rcases p with e|e|e|e|e|e|e|e|e|e|e|e|e|e|e<;>rw[e]
 exact⟨6,by decide,by decide,by decide⟩;exact⟨2,by decide,by decide,by decide⟩;exact⟨0,by decide,by decide,by decide⟩;exact⟨1,by decide,by decide,by decide⟩;exact⟨3,by decide,by decide,by decide⟩;exact⟨4,by decide,by decide,by decide⟩;exact⟨5,by decide,by decide,by decide⟩;exact⟨7,by decide,by decide,by decide⟩;exact⟨8,by decide,by decide,by decide⟩;exact⟨9,by decide,by decide,by decide⟩;exact⟨10,by decide,by decide,by decide⟩;exact⟨11,by decide,by decide,by decide⟩;exact⟨12,by decide,by decide,by decide⟩;exact⟨13,by decide,by decide,by decide⟩;exact⟨14,by decide,by decide,by decide⟩;exact h2;intro hu;have f:kD a.c=true:=by
  rcases p with e|e|e|e|e|e|e|e|e|e|e|e|e|e|e<;>rw[e]at hu⊢<;>revert hu<;>decide
 exact⟨f,g f⟩
theorem Y6(l)(e:∀ b,b∈l->GN b):Vc l:=fun b f=>by
 refine⟨(e b f).r,?_⟩;rcases Li b.c (e b f).c with a|a|a|a|a|a|a|a|a|a|a|a|a|a|a;exact Or.inl a;all_goals (right;rw[a];decide)
theorem U0(s)(o:s.size<=400)(g:(Ah s).ok=true):Ug (Ah s).Bj:=by
 obtain⟨_,e,h,j⟩:=Fi s 8 65 0 kX g;exact⟨fun b a=>(e b a).num,fun b a=>⟨Y6 _ (e b a).items,by have:=(e b a).len;omega⟩,fun b a f k=>Yv f ((e b a).items f k),h,j⟩
section
def hasDIn{n:Nat}(G:Nat->aD It)(H:aD It->Tr n->Bool):aD It->Nd (Tr n)->Bool
 | [],_=>false
 | x::r,v=>if x.c=119\/x.c=115 then hasDIn G H r v else if x.c=64 then true else if x.c=82 then(match ruleEnd G 8 (x::r)with|none=>false|some q=>Ds H q v)else Ds H (x::r) v
def ZN(G:Nat->aD It):(n:Nat)->aD It->Tr n->Bool
 | 0,_,_=>false
 | n+1,k,v=>hasDIn G (ZN G n) k v
def Wt.Zm(G:Nat->aD It)(a:Wt):Bool:=Db G (a.n+1) a.As a.v
structure Spl {T:Type} (G:Nat->aD It) (H D:aD It->T->Bool) (W:aD It->aM Nat->T->Wr->Wr):Prop where
 yes:∀ k hid y st,D k y=true->∃ new,(W k hid y st).wait=st.wait++new/\H k y=new.all (Wt.Zm G)
 no:∀ k y,D k y=false->H k y=false
theorem IG{T:Type}(H:aD It->T->Bool)(b e a):hasKids H (b::e) a=if silV b then hasKids H e a else(match a with|[]=>false|y::ys=>H b y&&hasKids H e ys):=by cases a<;>rfl
theorem MP{T:Type}(H:aD It->T->Bool)(b e)(a:Nd T):Ds H (b::e) a=
 if b.c=110\/b.c=108 then decide (a.k=0)&&CG a.n b.w.toNat
 else if b.c=39 then decide (a.k=1)
 else if b.c=114\/b.c=46 then decide (a.k=2)
 else if b.c=40 then decide (a.k=3)&&hasKids H (segs e.length e) a.kids
 else if b.c=47 then decide (a.k=5)&&Ly (H ((segs e.length e).getD a.n [])) a.kids
 else if b.c=42\/b.c=116 then decide (a.k=4)&&a.kids.all (H e)else false:=rfl
theorem Jk{T:Type}{H D:aD It->T->Bool}(g:∀ k f,D k f=false->H k f=false):∀ b e,hasKids D b e=false->hasKids H b e=false
 | [],_,a=>a
 | k::b,e,a=>by
  rw[IG]at a⊢;split at a;rename_i h;rw[aF h];exact Jk g b e a;rename_i h;rw[aC h]
  cases e with
  | nil=>rfl
  | cons f j=>
   simp only at a⊢;rw[dT]at a⊢;rcases a with a|a;exact Or.inl (g k f a);exact Or.inr (Jk g b j a)
theorem XR{T:Type}{H D:T->Bool}(b:∀ y,D y=false->H y=false):∀ e:aD T,e.all D=false->e.all H=false
 | [],a=>a
 | y::f,a=>by
  rw[fF,dT]at a⊢;rcases a with a|a;exact Or.inl (b y a);exact Or.inr (XR b f a)
theorem PD{T:Type}{H D:aD It->T->Bool}(g:∀ b f,D b f=false->H b f=false):∀ (b:aD It) (e:Nd T),Ds D b e=false->Ds H b e=false
 | [],_,a=>a
 | x::j,e,a=>by
  rw[MP]at a⊢;split;rename_i c;rw[aF c]at a;exact a;rename_i c;rw[aC c]at a;split;rename_i c;rw[aF c]at a;exact a;rename_i c;rw[aC c]at a;split;rename_i c;rw[aF c]at a;exact a;rename_i c;rw[aC c]at a;split;rename_i c;rw[aF c,dT]at a;rw[dT];rcases a with a|a;exact Or.inl a;exact Or.inr (Jk g _ _ a);rename_i c;rw[aC c]at a;split;rename_i c;rw[aF c,dT]at a;rw[dT];rcases a with a|a;exact Or.inl a
  . right
    cases h:e.kids with
    | nil=>rfl
    | cons f k=>rw[h]at a;exact g _ f a
  rename_i c;rw[aC c]at a;split;rename_i c;rw[aF c,dT]at a;rw[dT];rcases a with a|a;exact Or.inl a;exact Or.inr (XR (g j) _ a);rfl
theorem MD{T:Type}(W:aD It->aM Nat->T->Wr->Wr)(i a e b st):wKids W i (a::e) b st=if silV a then wKids W i e b (wSil a i st)else(match b with|[]=>st|y::ys=>wKids W i e ys (W a (some i) y st)):=by cases b<;>rfl
theorem Uq(a i st):(wSil a i st).wait=st.wait:=by
 cases a with
 | nil=>rfl
 | cons e b=>unfold wSil;simp only;split<;>rfl
section
variable {T:Type} {G:Nat->aD It} {H D:aD It->T->Bool} {W:aD It->aM Nat->T->Wr->Wr}
theorem KI(o:Spl G H D W)(i):∀ e b st,hasKids D e b=true->∃ g,(wKids W i e b st).wait=st.wait++g/\hasKids H e b=g.all (Wt.Zm G)
 | [],b,st,a=>⟨[],by simp[wKids],by have r:b.isEmpty=true:=a;show b.isEmpty=_;rw[r];rfl⟩
 | k::e,b,st,a=>by
  rw[IG]at a;rw[MD,IG];split at a;rename_i f;rw[aF f,aF f];obtain⟨g,h,j⟩:=KI o i e b (wSil k i st) a;exact⟨g,by rw[h,Uq],j⟩;rename_i f;rw[aC f,aC f]
  cases b with
  | nil=>cases a
  | cons p z=>
   simp only[aY]at a⊢;obtain⟨x,h,j⟩:=o.yes k (some i) p st a.1;obtain⟨y,u,v⟩:=KI o i e z (W k (some i) p st) a.2;exact⟨x++y,by rw[u,h,bO],by rw[j,v,jI]⟩
theorem K4(f:Spl G H D W)(a):∀ b st,b.all (D a)=true->∃ g,(wMany W a b st).wait=st.wait++g/\b.all (H a)=g.all (Wt.Zm G)
 | [],st,_=>⟨[],by simp[wMany],rfl⟩
 | y::ys,st,e=>by
  rw[fF,aY]at e;obtain⟨p,h,j⟩:=f.yes a none y st e.1;obtain⟨r,k,o⟩:=K4 f a ys (W a none y st) e.2;exact⟨p++r,by rw[wMany,k,h,bO],by rw[fF,j,o,jI]⟩
theorem Rg(v:Spl G H D W):∀ y hid e st,Ds D y e=true->∃ b,(GB W y hid e st).wait=st.wait++b/\Ds H y e=b.all (Wt.Zm G)
 | [],_,_,_,a=>by cases a
 | x::r,hid,e,st,a=>by
  rw[MP]at a⊢;unfold GB;simp only;by_cases h:x.c=110\/x.c=108;rw[aF h]at a⊢;refine⟨[],?_,a⟩;rcases h with c|c<;>simp[c,B5]
  rw[aC h]at a⊢;rw[aC (fun c=>h (Or.inl c)),aC (fun c=>h (Or.inr c))];by_cases p:x.c=39;rw[aF p]at a⊢;rw[aF p];exact⟨[],by simp[B5],a⟩;rw[aC p]at a⊢;rw[aC p];by_cases j:x.c=114\/x.c=46;rw[aF j]at a⊢;refine⟨[],?_,a⟩;rcases j with c|c<;>simp[c,B5,Ba,L3]
  rw[aC j]at a⊢;rw[aC (fun c=>j (Or.inr c)),aC (fun c=>j (Or.inl c))];by_cases k:x.c=40;rw[aF k,aY]at a;rw[aF k,aF k];obtain⟨b,f,g⟩:=KI v st.AS.length _ e.kids {st with AS:=st.AS++[fun _=>none]} a.2;exact⟨b,f,by rw[a.1,g];rfl⟩;rw[aC k]at a⊢;rw[aC k];by_cases o:x.c=47
  . rw[aF o,aY]at a;rw[aF o,aF o]
    cases z:e.kids with
    | nil=>rw[z]at a;cases a.2
    | cons A B=>
     rw[z]at a;obtain⟨b,f,g⟩:=v.yes _ none A st a.2;exact⟨b,f,by rw[a.1];exact g⟩
  rw[aC o]at a⊢;rw[aC o];by_cases u:x.c=42\/x.c=116;rw[aF u,aY]at a;rw[aF u];by_cases c:x.c=42;rw[aF c];obtain⟨b,f,g⟩:=K4 v r e.kids st a.2;exact⟨b,f,by rw[a.1,g];rfl⟩;rw[aC c,aF (u.resolve_left c)];obtain⟨b,f,g⟩:=K4 v r e.kids (Ba st (holeOf st hid x.d.toNat) e.kids.length) a.2;exact⟨b,f,by rw[a.1,g];rfl⟩;rw[aC u]at a;cases a
end
theorem Qm{n G}{H D:aD It->Tr n->Bool}{W:aD It->aM Nat->Tr n->Wr->Wr}(o:Spl G H D W)(u:H=Db G n)(hid)(b:Nd (Tr n))(st):∀ v,hasDIn G D v b=true->∃ j,(wIn G W v hid b st).wait=st.wait++j/\hasQ G H (inn v) b=j.all (Wt.Zm G)
 | [],a=>by cases a
 | x::f,a=>by
  rw[hasDIn]at a;rw[wIn];by_cases e:x.c=119;rw[aF (Or.inl e)]at a;rw[aF e];obtain⟨j,p,r⟩:=Qm o u hid b st f a;exact⟨j,p,by rw[inn,aF (by rw[e];rfl)];exact r⟩;by_cases g:x.c=115;rw[aF (Or.inr g)]at a;rw[aC e,aF g];obtain⟨j,p,r⟩:=Qm o u hid b st f a;exact⟨j,p,by rw[inn,aF (by rw[g];rfl)];exact r⟩;rw[aC (fun c=>c.elim e g)]at a;rw[aC e,aC g];by_cases k:x.c=64;rw[aF k];refine⟨[⟨f,n,b,hid.getD 0,holeOf st hid x.d.toNat⟩],rfl,?_⟩;rw[inn,aF (by rw[k];rfl),fF,List.all_nil,gG,u];rfl;rw[aC k]at a⊢;have z:inn (x::f)=x::f:=by
   rw[inn,aC];simp only[AY,cQ,dG,cN,cH,dA];intro c;rcases c with c|c|c;exact e c.symm;exact k c.symm;exact g c.symm
  rw[z,hasQ];by_cases h:x.c=82
  . rw[aF h]at a;rw[aF h,aF h]
    cases y:ruleEnd G 8 (x::f)with
    | none=>rw[y]at a;cases a
    | some q=>rw[y]at a;exact Rg o q none b st a
  rw[aC h]at a;rw[aC h,aC h];exact Rg o (x::f) hid b st a
theorem PA{n G}{H D:aD It->Tr n->Bool}(k:∀ e o,D e o=false->H e o=false)(g:Nd (Tr n)):∀ e,hasDIn G D e g=false->hasQ G H (inn e) g=false
 | [],_=>rfl
 | x::f,a=>by
  rw[hasDIn]at a;by_cases b:x.c=119\/x.c=115;rw[aF b]at a;rw[inn,aF (by rcases b with c|c<;>rw[c]<;>rfl)];exact PA k g f a;rw[aC b]at a;by_cases j:x.c=64;rw[aF j]at a;cases a
  rw[aC j]at a;have p:inn (x::f)=x::f:=by
   rw[inn,aC];simp only[AY,cQ,dG,cN,cH,dA];intro c;rcases c with c|c|c;exact b (Or.inl c.symm);exact j c.symm;exact b (Or.inr c.symm)
  rw[p,hasQ];by_cases h:x.c=82
  . rw[aF h]at a;rw[aF h]
    cases r:ruleEnd G 8 (x::f)with
    | none=>rfl
    | some q=>rw[r]at a;exact PD k q g a
  rw[aC h]at a;rw[aC h];exact PD k (x::f) g a
theorem IP(G):∀ n,Spl G (Db G n) (ZN G n) (BH G n)
 | 0=>⟨fun _ _ a _ _=>a.elim,fun _ _ _=>rfl⟩
 | n+1=>⟨fun e hid a st b=>Qm (IP G n) rfl hid a st e b,fun e a b=>PA (IP G n).no a e b⟩
end

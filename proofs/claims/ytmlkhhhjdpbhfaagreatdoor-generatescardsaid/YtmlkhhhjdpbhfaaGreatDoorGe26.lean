import Derived.Test.YtmlkhhhjdpbhfaaGreatDoorGe19
import Derived.Test.YtmlkhhhjdpbhfaaGreatDoorGe20
import Derived.Test.YtmlkhhhjdpbhfaaGreatDoorGe21
import Derived.Test.YtmlkhhhjdpbhfaaGreatDoorGe22
import Derived.Test.YtmlkhhhjdpbhfaaGreatDoorGe23
import Derived.Test.YtmlkhhhjdpbhfaaGreatDoorGe24
import Derived.Test.YtmlkhhhjdpbhfaaGreatDoorGe25
namespace Go.Proofs.YtmlkhhhjdpbhfaaGreatDoor
open Go.RowKit Go.Proofs.Tryz
set_option maxHeartbeats 4000000
set_option maxRecDepth 100000
variable{p q:Prop}(z:q)
theorem Kp.ints{j w w'}(f:Kp j w w'){e l}(b:EL w e l)(v:∀ a,e.ownBlock=some a->a ∉ j):EL w' e l:=by
 rcases b with b|⟨a,k,rfl,g,o,p,r⟩;exact Or.inl b;exact Or.inr ⟨a,k,rfl,bM g f.size,o,p,fun h u=>(f.cell g (v a rfl) h).trans (r h u)⟩
theorem SG(c)(k:DK c)(m:Mx)(w:aE)(d:Dm)(j:D4 c m.s w d)(t z:Nat)(a:It)(c0:aD It)(af:At c.As z (a::c0))(b8 M)(a6:a.c=82)(e F:Nat)(a5:a.r=(e:Int))(dd:e<8)(ae:c.fl.getD e 0=(F:Int))(_:F<c.As.length)(b:aD Nat)(b5:b=[]->M=.slice none 0 0)(V:EL w M b)(df:b.length<=100)(b7:∀ a∈b,a<=8)(R:Pr)(ao:e∈b->R=⟨t,false,d.ab⟩)(aq:e ∉ b->∀ W cf,Below w.heap.size w W->EL W cf (b++[e])->Calls prog 69 #[P0 c.pb,I0 (F:Nat),I0 (t:Nat),b8,cf] W fun g w'=>A6 c m.s W d R g w'):
 Calls prog 69 #[P0 c.pb,I0 (z:Nat),I0 (t:Nat),b8,M] w fun g w'=>A6 c m.s w d R g w':=by
 obtain⟨cd,bx,ca,cb,cc⟩:=cY MA;have f:=k.Fw.below j.A9;refine kd ?_;intro ah av ax aw an ay az a0 a1 ad;have cz:=j.Ap.c0;have c6:z<c.As.length:=by have:=af.le;simp at this;omega
 have db:=k.len;have dc:=j.lt;have c9:=f.lt;rw[a6]at ah;rw[a5]at aw;have L:Below w.heap.size w (w.alloc (.cells (X_8 a.w a.b e a.d a.pl (z+a.nx) a.rl) 132)):=(aO _ _).alloc (aB _) _;have bd:=Aa (Ck.refl j L);have J:=Aa (H9 M b e _ (V.below L) kX kX (fun a A=>by have:=b7 a A;omega));have X:=Aa L;have ak:=Aa (Ac.new w (X_8 a.w a.b e a.d a.pl (z+a.nx) a.rl) 132);by_cases U:e∈b
 . rw[show F6 b e=true from bF U]at J;have be:=Aa (ao U);clear f j L aq k ao U V ae a6 a5;go_enter func69,ntmps69;go_wp2_with (go_at_call 89;refine J.o.mono ?_;rintro g y⟨rfl,B⟩;rw[B];clear B y);go_ret2;exact A6.fail (by rw[be.o]) (by rw[be.o]) bd.o
 rw[show F6 b e=false from bJ U]at J;have a9:=Aa (aq U);have c2:=Aa k;have cn:=Aa (V.below L);have bq:=bM k.fst.lt j.A9.size;have br:=f.Ap.c1;have bu:=f.Ap.lt;have cj:=Aa j;have ci:=Aa ae;have bo:∀ E,Below w.heap.size w E->Ac E w.heap.size (X_8 a.w a.b e a.d a.pl (z+a.nx) a.rl) 132->D4 c m.s E d/\E.cell? (A0 c.gb 1)=some (S0 c.fb 8 8)/\E.cell? (A0 c.fb e)=some (I0 F)/\∀ W,Kp (c.pb::d.rows) E W->W.cell? (A0 c.gb 1)=some (S0 c.fb 8 8)/\W.cell? (A0 c.fb e)=some (I0 F)/\W.cell? (A0 w.heap.size 3)=some (I0 e):=by
  intro E v cu;have ai:=j.more v;have b1:∀ S,S<c.w0.heap.size->S ∉ c.pb::d.rows:=fun S c5 o=>by
   have:=(j.ge S QU).1;omega
  have Z:=(v.cell (p:=(A0 c.gb 1)) bu).trans br;have ab:E.cell? (A0 c.fb e)=some (I0 F):=by
   rw[v.cell (p:=(A0 c.fb e)) bq,(k.fst.below j.A9 k.fst.lt).cell e,<- ae];have c4:=k.fl;simp[Ci,List.getD,show e<c.fl.length by omega]
  refine⟨ai,Z,ab,fun W u=>⟨(u.cell (bM bu v.size) (b1 _ k.Fw.Ap.lt) 1).trans Z,(u.cell (bM bq v.size) (b1 _ k.fst.lt) e).trans ab,?_⟩⟩;exact(u.Ap cu (j.Uc (aB _))).cell 3
 have ba:=Aa bo;have cv:(b=[]/\M=.slice none 0 0)\/∃ r I,M=S0 r b.length I/\0<b.length/\r<w.heap.size/\I<=maxLen/\b.length<=I/\Hid (∀ x,x<b.length->w.cell? (A0 r x)=some (I0 (b.getD x 0:Nat))):=by
  by_cases h0:b=[];exact Or.inl ⟨h0,b5 h0⟩;have a4:0<b.length:=by cases b with|nil=>exact absurd rfl h0|cons c3 l=>simp
  rcases V with⟨am,ac⟩|⟨r,I,am,ac,bg,bh,cq⟩;exact absurd ac h0;exact Or.inr ⟨r,I,am,a4,ac,bh,bg,cq⟩
 clear f j L aq k ao V ae a6 a5 bo ci br b5 b7;go_enter func69,ntmps69;have de:(e:Int)<8:=kX;rcases cv with⟨b6,rfl⟩|⟨r,I,rfl,a4,ar,c7,da,bm⟩
 case' inl=>
  have cm:=Aa b6;clear b6;go_upto_region 26 with(go_at_call 89;refine J.o.mono ?_;rintro g y⟨rfl,B⟩;rw[B];clear B y);obtain⟨p,cs⟩:∃ W,w.alloc (.cells (X_8 a.w a.b e a.d a.pl (z+a.nx) a.rl) 132)=W:=⟨_,rfl⟩;have Y:=Aa (show p.ownsRow w.heap.size 3 1 (.slice none 0 0) b.length (DH b)by rw[cm.o];exact cC _ _ _ _);have O:=X;have K:=ak;have bc:Hid (∀ q,(Value.slice none 0 0).ownBlock=some q->q=w.heap.size->False):=fun q g=>by cases g
  rw[cs]at O K⊢
 case' inr=>
  have bb:Hid (∀ x a7,(DH b)[x]? = some a7->(w.alloc (.cells (X_8 a.w a.b e a.d a.pl (z+a.nx) a.rl) 132)).cell? (((A0 r 0):Addr).add x)=some a7):=fun x a7 b0=>by
   have a3:x<b.length:=by have:=(bI.1 b0).1;simpa[DH]using this
   rw[gA,eC,aL (bC w _ r ar),bm.out x a3,A3 _ _ _ a3];simpa[DH,a3]using b0
  go_upto_region 26 with(first
   | (go_at_call 89;refine J.o.mono ?_;rintro g y⟨rfl,B⟩;rw[B];clear B y)
   | (at_builtin
      refine cS _ rfl _ _ _ rfl w.heap.size 3 cd _ 1 8 underlying24 bx ca cb cc rfl kX (.slice none 0 0) 0 [] rfl (cC _ _ _ _) (A0 r 0) b.length I (DH b) rfl (by simp[DH]) bb.o (by simp[DH,Value.oneCell']) a4 lD kX kY (w.heap.size+1) kY ?_;intro al bf p b2 au bk cw))
  have O:=Aa ((X.o.trans (((aO _ _).grown au (aB _) (fun q g=>by cases g)).mono X.o.size)):Below w.heap.size w p);have K:=Aa (ak.o.grown au (fun g=>by cases g));have Y:Hid (p.ownsRow w.heap.size 3 1 (S0 al b.length bf) b.length (DH b)):=by simpa[Hid]using b2
  have bc:Hid (∀ q,(Value.slice (some (A0 al 0)) b.length bf).ownBlock=some q->q=w.heap.size->False):=by
   have c8:=bk.resolve_left (fun g=>by cases g);intro q g A;have:al=q:=by simpa[Value.ownBlock]using g
   omega
  clear b2 au bk cw bb bm
 all_goals
  have c1:=K.o.c3;have dh:=K.o.lt;clear J ah av ax aw an ay az a0 a1 ad cz;go_upto_region 27 with
   (at_builtin
    refine cS _ rfl _ _ _ rfl w.heap.size 3 cd _ 1 8 underlying24 bx ca cb cc rfl kX _ _ _ rfl (Y.o.alloc _) (A0 p.heap.size 0) 1 1 [I0 e] rfl rfl (cD (cs:=#[I0 e]) (t:=3) (fr:=(0,0)) (cJ p _)) (by simp[Value.oneCell']) kX lD kX lA (p.heap.size+1) kY ?_;intro cp co h b3 a2 ct cx)
  have bv:∀ a8,p.ownsRow w.heap.size 3 1 a8 b.length (DH b)->(p.alloc (.cells #[I0 e] 3)).grownBy h a8.ownBlock->Below w.heap.size w h:=fun a8 cy ar=>(O.o.alloc O.o.size _).grown ar lA (fun q g=>(cy.lt q g).1)
  have v:=bv _ Y.o a2;have b9:=(Ac.alloc K.o _).grown a2 (fun g=>bc.o _ g.symm rfl);obtain⟨ai,Z,ab,bp⟩:=ba.o h v b9;have ch:Hid (∀ W,(Kp (c.pb::d.rows) h W/\W.cell? (A0 c.pb 0)=some (P0 c.gb))->W.cell? (A0 c.pb 0)=some (P0 c.gb)/\W.cell? (A0 c.gb 1)=some (S0 c.fb 8 8)/\W.cell? (A0 c.fb e)=some (I0 F)/\W.cell? (A0 w.heap.size 3)=some (I0 e)):=fun W u=>⟨u.2,bp W u.1⟩
  have bz:EL h (S0 cp (b.length+1) co) (b++[e]):=by
   refine EL.Ql (B:=w.heap.size) ?_;simpa[DH]using b3
  have ap:=v.drew;have bl:=a9.o h.drew _ ap (show EL h.drew _ _ from bz);have cg:=Aa bl;have bi:Kp (c.pb::d.rows) h h.drew/\h.drew.cell? (A0 c.pb 0)=some (P0 c.gb):=⟨(Kp.refl _ _).drew 1,ai.Ap.cell 0⟩;have ck:=Aa (Ck.refl cj.o ap);clear a9 bv v b9 b3 a2 ct cx ai Z ab bp bz ap bl c1 Y O K ba bd X ak cn;refine Bo (fun W=>Kp (c.pb::d.rows) h W/\W.cell? (A0 c.pb 0)=some (P0 c.gb)) 20 kZ rfl ?_;refine A2 (fun _ _ d _ _ A=>by cases d<;>exact A) [0,1,2,3,4,5,6,7,8,9,10,11,12,13,14] 5 20 _ _ _ kZ ?_;refine jL ?_;iterate 15 refine Ab _ rfl (fun W u=>by obtain⟨am,ac,bg,bh⟩:=ch.o W u;go_simp<;>rfl) ?_
  refine Ag ?_;refine AZ 15 kZ bi ⟨_,rfl,rfl,?_⟩;unfold Oper.wp;go_simp;refine cg.o.mono ?_;rintro g y⟨ce,d2,rfl,b4,bj,aj⟩;have cr:Kp (c.pb::d.rows) h y/\y.cell? (A0 c.pb 0)=some (P0 c.gb):=⟨bi.1.trans aj.kp (fun S A=>Or.inl A),aj.mem.Ap.cell 0⟩;have cl:=Aa (show A6 c m.s w d R (.returned (.tuple #[I0 (ce:Nat),.bool R.ok])) y from⟨ce,d2,rfl,b4,bj,ck.o.trans aj⟩);clear b4 bj aj;refine A2 (fun _ _ d _ _ A=>by cases d<;>exact A) [16,17,18,19] 0 4 _ _ _ kZ ?_;refine jL ?_;iterate 4 refine Ab _ rfl (fun W u=>by go_simp<;>rfl) ?_
  refine Ag ?_;refine DV (P:=prog) kZ cr ?_;go_wp2;go_ret2;exact cl.o
theorem Uw(aa):∀ b,(withSt b aa).map Prod.snd=aa:=by
 exact mj
theorem Zs(c)(k:DK c):∀ x,OB c x:=by
 intro x;induction x with
 | zero=>intro w st h f e g I b v a9 O q _ _ _ _ _ a0;omega
 | succ x B=>
  intro w st h f e g I b v a9 O q r j au a8 bd a0;obtain⟨ad,ai⟩:=a8
  cases ad with
  | zero=>exact ai.elim
  | succ ad=>
  cases I with
  | nil=>exact ai.elim
  | cons a ba=>
  obtain⟨u,be,bc,ar,an,am,af⟩:=ai
  cases e with
  | zero=>exact YV c w st h f g r b q
  | succ e=>
  cases v with
  | zero=>exact au.elim
  | succ v=>
  obtain⟨bb,y,av,a5,S,_⟩:=au;obtain⟨rfl,rfl⟩:a=bb/\ba=y.flatten:=by cases av;exact⟨rfl,rfl⟩
  have ah:=E4 y S;rw[ah]at an am af;have ao:=Ms j a5 S;have ab:=AV y (b+1) j.tail;unfold tryT;by_cases V:a.c=40
  . rw[aF V,ah];refine Qn c k w st h f e g r b a _ j q kX _ _ (Or.inl ⟨V,rfl⟩) (fun W o=>?_);have:=P3 c k x B W st h f e g o b a _ (withSt (b+1) y) v j ao (fun aj r=>⟨(ab aj r).2.1,S _ (ab aj r).1,ad,by have:=af _ (ab aj r).1;simpa[V]using this⟩) kX kX;rw[Uw]at this;exact this
  rw[aC V];have ae:∀ I,I∈y->BK c.R false (O&&AY [119,64,115] a.c) I:=fun I a1=>⟨ad,by have:=af I a1;simp only[V,jZ,gF]at this;exact this⟩
  by_cases Y:a.c=47
  . rw[aF Y,ah];obtain⟨E,F,a3⟩:∃ E F,y=[E,F]:=by
     have a4:=an Y
     match y,a4 with
     | [E,F],_=>exact⟨E,F,rfl⟩
    subst a3;have Z:(O&&AY [119,64,115] a.c)=false:=by rw[Y];simp[AY]
    rw[Z]at ae;refine Qn c k w st h f e g r b a _ j q kX _ _ (Or.inr (Or.inl ⟨Y,rfl⟩)) (fun W o=>?_);exact OJ c k x B W st h f e g o b a _ E F (b+1) (b+1+E.length) v j ao (ab (b+1,E) (by simp[withSt])).2.1 (ab (b+1+E.length,F) (by simp[withSt])).2.1 (S E kY) (S F kY) (ae E kY) (ae F kY) kX kX
  rw[aC Y];have ac:∀ {al:Int},a.c=al->AY [42,116,119,64,115] al=true->Fa v y.flatten/\BK c.R false (O&&AY [119,64,115] a.c) y.flatten:=fun aw p=>by
   have a2:=am (by rw[aw];exact p);have aq:y.flatten∈y:=by
    have:y.flatten∈[y.flatten]:=aG;rw[<- a2]at this;exact this
   exact⟨S _ aq,ae _ aq⟩
  by_cases X:a.c=42
  . rw[aF X];obtain⟨A,z⟩:=ac X rfl;have Z:(O&&AY [119,64,115] a.c)=false:=by rw[X];simp[AY]
    rw[Z]at z;exact Qn c k w st h f e g r b a _ j q kX _ _ (Or.inr (Or.inr (Or.inl ⟨X,rfl⟩))) (fun W o=>SZ c k x B W st h f e g o b a _ v j A z kX kX)
  rw[aC X];by_cases M:a.c=82
  . rw[aF M];obtain⟨a6,ak,az,ay,ax,a7⟩:=k.Ig _ (ar M);have av:=u.it.r M;exact ZO c k w st h f e g r b a _ j q kX _ a.r.toNat ak kX a6 az M (fun W o=>B W st h f e g _ ak ax false false false o ay a7 (k.JI _ (ar M)) kX kX)
  rw[aC M];by_cases J:a.c=116
  . rw[aF J];obtain⟨A,z⟩:=ac J rfl;have Z:(O&&AY [119,64,115] a.c)=false:=by rw[J];simp[AY]
    rw[Z]at z;exact Qn c k w st h f e g r b a _ j q kX _ _ (Or.inr (Or.inr (Or.inr ⟨J,rfl⟩))) (fun W o=>QQ c k x B W st h f e g o b a _ v j u J A z kX kX)
  rw[aC J];by_cases K:a.c=119
  . rw[aF K];obtain⟨A,z⟩:=ac K rfl;refine JF c k w st h f e g r b a _ j q kX _ (Or.inl K) (fun W o=>?_);by_cases aa:st.en-st.pl<(st.Ai a.d.toNat).1;exact ON c k x B W st h f e g o b a _ v _ j u K aa A z kX kX;exact Th c k x B W st h f e g o b a _ v _ j u K aa A z kX kX
  rw[aC K];by_cases L:a.c=64
  . rw[aF L];obtain⟨A,z⟩:=ac L rfl;refine JF c k w st h f e g r b a _ j q kX _ (Or.inr (Or.inl L)) (fun W o=>?_);by_cases aa:c.bs.size<(st.Ai a.d.toNat).1;exact Qe c k x B W st h f e g o b a _ v _ j u L aa A z kX kX;exact XB c k x B W st h f e g o b a _ v _ j u L aa A z kX kX
  rw[aC L];by_cases U:a.c=115
  . rw[aF U];obtain⟨A,z⟩:=ac U rfl;exact JF c k w st h f e g r b a _ j q kX _ (Or.inr (Or.inr U)) (fun W o=>Tq c k x B W st h f e g o b a _ v _ j u U A z kX kX)
  rw[aC U];have ap:a.c=110\/a.c=108\/a.c=104\/a.c=107\/a.c=39\/a.c=114\/a.c=46:=by
   have:=Li a.c u.it.c;omega
  refine WK c k w st h f e g r b a _ j q kX _ ap (fun W o=>?_);rcases ap with p|p|p|p|p|p|p
  . exact Pe c k W st h f e g o b a _ j u q _ p (Or.inl rfl)
  . exact Pe c k W st h f e g o b a _ j u q _ p (Or.inr rfl)
  . exact Pg c k W st h f e g o b a _ j u q _ p (Or.inl rfl)
  . exact Pg c k W st h f e g o b a _ j u q _ p (Or.inr rfl)
  . exact WU c k W st h f e g o b a _ j u p q
  . exact V2 c k W st h f e g o b a _ j u p q
  exact Uk c k W st h f e g o b a _ j p q
theorem Aa9(c)(A:DK c)(m)(K:E5 m)(dn w d t ah)(j:Ei c m dn w d t ah)(k b aq)(af:At c.As k (b::aq))(am ar)(M:b.c=39)(ac:0<=b.b/\b.b<=255):
 Calls prog 69 #[P0 c.pb,I0 (k:Nat),I0 (t:Nat),am,ar] w fun r w'=>A6 c m.s w d ⟨t+1,decide (bt m.s t=45),Ek d.ab [UInt8.ofNat b.b.toNat]⟩ r w':=by
 have f:=A.Fw.below j.mem.A9;refine kd ?_;intro ah av ax aw an ay az a0 a1 ad;have ap:=j.mem.Ap.c0;have a5:k<c.As.length:=by have:=af.le;simp at this;omega
 have a8:=A.len;have ba:=j.mem.lt;have a6:=f.lt;have ak:=K.s8;have al:=j.al.le;have ai:=j.len.1;rw[M]at ah;obtain⟨e,B⟩:∃ a2,UInt8.ofNat b.b.toNat=a2:=⟨_,rfl⟩;have S:=Aa (show b.b % 256=(e.toNat:Int)by rw[<- B,fV];omega);rw[B];have F:Below w.heap.size w (w.alloc (.cells (X_10 b.w b.b b.r b.d b.pl (k+b.nx) b.rl) 132)):=(aO _ _).alloc (aB _) _;have I:=Ac.new w (X_10 b.w b.b b.r b.d b.pl (k+b.nx) b.rl) 132;have g:=Aa (Ck.refl j.mem F);have O:=g.o.mem.Ap.cell 1;have o:=Aa (EJ m.s ak _ c.pb t O al 45 lC);have z:Hid (decide (bt m.s t=((45:UInt8).toNat:Int))=true->(if bt m.s t=((45:UInt8).toNat:Int)then t+1 else t)=t+1):=fun r=>aF (dE r)
 rw[show decide (bt m.s t=45)=decide (bt m.s t=((45:UInt8).toNat:Int))from rfl];generalize(if bt m.s t=((45:UInt8).toNat:Int)then t+1 else t)=ao at o z;generalize decide (bt m.s t=((45:UInt8).toNat:Int))=bb at o z⊢;have E:=Aa I;clear f j F A K M B ac I O;go_enter func69,ntmps69;go_upto_region 8 with(go_at_call 112;refine o.o.mono ?_;rintro r au⟨rfl,L⟩;rw[L];clear L au);clear o ah av ax aw an ay az a0 a1 ad ap;generalize w.alloc (.cells (X_10 b.w b.b b.r b.d b.pl (k+b.nx) b.rl) 132)=y at*;have a9:=g.o.mem.lt;have V:Hid (∀ W,Kp [c.pb] y W->W.cell? (A0 w.heap.size 2)=some (I0 b.b)):=fun W a=>(a.Ap E.o lA).cell 2
 have J:Kp [c.pb] y y.drew:=(Kp.refl _ _).drew 1;have bd:y.drew.cell? (A0 c.pb 2)=some (.string ⟨d.o.toArray⟩):=g.o.mem.Ap.cell 2;obtain⟨p,u⟩:∃ W,(y.alloc (.cells #[.int .u8 e.toNat] 5)).drew=W:=⟨_,rfl⟩;have v:=u▸((aO y.heap.size y).alloc (aB _) _).drew;have x:=g.o.mem.more v;have aj:Kp [c.pb] y p/\Ac p y.heap.size #[.int .u8 e.toNat] 5:=⟨Kp.Bu v,u▸Ac.new y _ _⟩;have bc:=x.Ap.c2;have a4:=x.Ap.frozen 2;have Z:Kp [c.pb] y (p.setCell (A0 c.pb 2) (.string ⟨(d.o++[e]).toArray⟩))/\Ac (p.setCell (A0 c.pb 2) (.string ⟨(d.o++[e]).toArray⟩)) y.heap.size #[.int .u8 e.toNat] 5:=⟨aj.1.setCell _ _ _ (Or.inl kY),aj.2.Ad (A0 c.pb 2) lB _⟩;have X:=Aa ((g.o.trans (Ck.refl g.o.mem v)).trans (x.Abf [e]));have U:=Aa (DQ d.o [e]);have a7:(⟨d.o.toArray⟩:aA).size<=1000000000:=by rw[Cv];exact ai
 have ae:=Aa u;clear u v x E g;generalize(⟨d.o.toArray⟩:aA)=a3 at*;generalize(⟨(d.o++[e]).toArray⟩:aA)=Y at*;refine Bo (fun W=>Kp [c.pb] y W) 14 kZ rfl ?_;refine A2 (fun _ _ d _ _ h=>by cases d<;>exact h) [0,1,2,3,5,6,7] 7 14 _ _ _ kZ ?_;refine jL ?_;iterate 6 refine Ab _ rfl (fun W a=>by have ab:=V.o W a;go_simp<;>rfl) ?_
 refine Ab (.int .u8 e.toNat) rfl (fun W a=>by go_simp;exact S.o) ?_;refine Ag ?_;refine En 4 8 kZ J ⟨_,rfl,rfl,?za⟩ ⟨_,rfl,rfl,?zb⟩;all_goals
  unfold Oper.wp;go_simp
 case' za=>
  refine AZ 8 kZ J ⟨_,rfl,rfl,?_⟩;unfold Oper.wp;go_simp
 all_goals
  rw[ae.o];refine Kq (C':=fun W=>Kp [c.pb] y W/\Ac W y.heap.size #[.int .u8 e.toNat] 5) (fun W h=>h.1) _ _ _ _ ?_
 case' za=>refine A2 (fun _ _ d _ _ h=>by cases d<;>exact h) [9] 4 5 _ _ _ kZ ?_
 case' zb=>refine A2 (fun _ _ d _ _ h=>by cases d<;>exact h) [9] 5 6 _ _ _ kZ ?_
 all_goals
  simp only[aP,aS,aQ,aJ,aK];refine Ab (.string ⟨#[e]⟩) rfl (fun W a=>by have ab:=M4 a.2;go_simp) ?_;refine Ag ?_
 case' zb=>
  refine AZ 4 kZ aj ⟨_,rfl,rfl,?_⟩;unfold Oper.wp;go_simp
 all_goals
  refine A2 (fun _ _ d _ _ h=>by cases d<;>exact h) [10,11,12] 1 4 _ _ _ kZ ?_;refine jL ?_;refine Ab (.string Y) rfl (fun W a=>by go_simp;rw[aC kX,U.o]) ?_;refine k3 ?_;refine AZ 13 kZ aj ⟨_,rfl,rfl,?_⟩;unfold Oper.wp;go_simp;refine DV (P:=prog) kZ Z ?_;go_wp2;go_ret2;exact⟨ao,_,rfl,z.o,rfl,X.o⟩
section
def eR(G:Nat->aD It):Nat->Nat->aM (aD It)
 | 0,_=>none
 | n+1,r=>match G r with
  | []=>none
  | y::q=>if y.c=82 then eR G n y.r.toNat else some (y::q)
theorem Lk(G):∀ n a b,ruleEnd G n (a::b)=eR G n a.r.toNat
 | 0,_,_=>rfl
 | n+1,a,b=>by
  rw[ruleEnd,eR]
  cases G a.r.toNat with
  | nil=>rfl
  | cons e q=>
   simp only;split;exact Lk G n e q;rfl
def Rch(G:Nat->aD It)(b e:Nat):Prop:=∃ a,1<=a/\(∀ n,eR G (n+a) b=eR G n e)/\∀ n,n<a->eR G n b=none
theorem Rch.none{G a}(b:Rch G a a):∀ n,eR G n a=none:=by
 obtain⟨p,j,e,f⟩:=b;intro n;induction n using Nat.strongRecOn with
 | ind n h=>
  by_cases g:n<p;exact f n g;have:=e (n-p);rw[show n-p+p=n by omega]at this;rw[this];exact h (n-p) kX
theorem Rch.one{G b a q}(e:G b=a::q)(f:a.c=82):Rch G b a.r.toNat:=
 ⟨1,aB _,fun n=>by rw[eR,e];simp only;rw[aF f],fun n g=>by rw[show n=0 by omega,eR]⟩
theorem Rch.step{G h f g}(b:Rch G h f)(k:∀ n,eR G (n+1) f=eR G n g):Rch G h g:=by
 obtain⟨a,p,e,j⟩:=b;refine⟨a+1,by omega,fun n=>by rw[show n+(a+1)=n+1+a by omega,e,k],fun n o=>?_⟩;by_cases b:n<a;exact j n b;rw[show n=0+a by omega,e,eR]
def unv(a:aD Nat):Nat:=((List.range 8).map fun i=>if i∈a then 0 else 1).sum
theorem Vl{b a}(g:a<8)(f:a ∉ b):unv (b++[a])+1=unv b:=by
 have e:a=0\/a=1\/a=2\/a=3\/a=4\/a=5\/a=6\/a=7:=kX;unfold unv;rw[show List.range 8=[0,1,2,3,4,5,6,7]from rfl];rcases e with rfl|rfl|rfl|rfl|rfl|rfl|rfl|rfl<;>(simp only[bX,dV,cU,fD,aV,dM];simp[f];omega)
theorem Zy{b a}(f:a<8)(g:unv b=0):a∈b:=cB fun e=>by have:=Vl f e;omega
theorem Pa(aa):∀ b,(withSt b aa).map Prod.snd=aa:=by
 exact mj
section
variable {c:Rx} {m:Mx} {dn n:Nat}
theorem Ei.more{w W d t q}(a:Ei c m dn w d t q)(b:Below w.heap.size w W):Ei c m dn W d t q:=⟨a.mem.more b,a.al,a.dl,a.FI⟩
theorem Ei.Ul{w d t q q'}(a:Ei c m dn w d t q)(b:q'<=q):Ei c m dn w d t q':=⟨a.mem,a.al,a.dl,by have:=a.FI;omega⟩
theorem P7(p:DK c)(y:E5 m)(ap:∀ i,CR (c.G i))(aj:WI c m dn n)(w d e b aa bj an hid j x t)(f:Ei c m dn w d t 0)(bh:M8 c e (b::aa) bj an hid)(au:Zx d hid j)(az:m.s.size+1<=n+1+t)(bl:b.c≠82)(E:b.c≠119)(a5:b.c≠115)(a6:b.c≠64):
 Calls prog 69 #[P0 c.pb,I0 (e:Nat),I0 (t:Nat),j,x] w fun a w'=>A6 c m.s w d (KV m (pT m c.G n) (b::aa) hid t d.ab) a w':=by
 obtain⟨o,⟨B,a0⟩,⟨U,a1⟩,r,bd,av⟩:=bh;have bz:=f.al.le;have bv:=f.FI;have bo:aa.length+1<=1000:=r.1;have ae:=r.tail
 cases U with
 | zero=>exact a1.elim
 | succ U=>
 obtain⟨Z,bu,ar,bx,V,aw,ad⟩:=a1
 cases B with
 | zero=>exact a0.elim
 | succ B=>
 obtain⟨bk,g,bi,be,z,_⟩:=a0;obtain⟨rfl,rfl⟩:b=bk/\aa=g.flatten:=by cases bi;exact⟨rfl,rfl⟩
 have ah:=E4 g z;have ai:=Ch g.flatten.length g.flatten;rw[ah]at V aw ad ai;have ay:=Ms o be z;have F:=AV g (e+1) o.tail;have aq:e<c.As.length:=by have:=o.le;simp at this;omega
 have br:b.c=110\/b.c=108\/b.c=39\/b.c=46\/b.c=114\/b.c=40\/b.c=47\/b.c=42\/b.c=116:=by
  have bc:Ae b.c=false:=bd;have bq:b.c≠104/\b.c≠107:=by simpa[Ae]using bc
  rcases DF b.c Z.it.c with a|a|a|a|a|a|a|a|a|a|a|a|a|a|a<;>omega
 have ao:=Z.it.d;unfold KV;simp only;by_cases K:b.c=110\/b.c=108
 . rw[aF K];obtain⟨w1,w2⟩:=Z.w (by rcases K with a|a<;>rw[a]<;>rfl);exact G2 c p m w d f.mem t e b _ o j x (W8 m b t d.ab) 0 (K.elim (fun a=>Or.inl ⟨a,rfl⟩) (fun a=>Or.inr (Or.inl ⟨a,rfl⟩))) fun W k=>OE c m y dn W d t 0 (f.more k) b e b.w.toNat kX kX
 rw[aC K];by_cases L:b.c=39
 . rw[aF L];exact Aa9 c p m y dn w d t 0 f e b _ o j x L (Z.b L)
 rw[aC L];by_cases M:b.c=46\/b.c=114
 . rw[aF M];refine G2 c p m w d f.mem t e b _ o j x (Aau m b hid t d.ab) 1 (M.elim (fun a=>Or.inr (Or.inr (Or.inl ⟨a,rfl⟩))) (fun a=>Or.inr (Or.inr (Or.inr (Or.inl ⟨a,rfl⟩))))) fun W k=>Tb c m y dn W d t 0 (f.more k) b e M hid j fun a=>?_
   obtain⟨i,a9⟩:=av (ar (by rw[a];rfl));obtain⟨d1,d2⟩:=ao (by rw[a];rfl);obtain⟨ac,bf⟩:=HoI.of (x:=b) (f.mem.more k) au a9 d1 d2;exact⟨i,ac,_,bf⟩
 rw[aC M];by_cases A:b.c=40
 . rw[aF A];refine G2 c p m w d f.mem t e b _ o j x _ 2 (Or.inr (Or.inr (Or.inr (Or.inr (Or.inl ⟨A,rfl⟩))))) fun W k=>?_
   have bp:=Ss g z;have:=Sm c p m y dn n aj ap W d t 0 (f.more k) az e aq (withSt (e+1) g) ay (fun q Y=>⟨(F q Y).2.1,⟨B,z _ (F q Y).1⟩,⟨U,by have:=ad _ (F q Y).1;simpa[A]using this⟩,ae.sub (ai _ (F q Y).1)⟩) (by
    have a:=Pa g (e+1);have a4:(withSt (e+1) g).length=g.length:=by rw[<- cM (f:=Prod.snd),a]
    rw[a,a4];omega)
   rw[Pa]at this;rw[ah];exact this
 rw[aC A];have X:∀ h,h∈g->b.c≠119->BK c.R false false h:=fun h r _=>⟨U,by
  have:=ad h r;have a:(an&&AY [119,64,115] b.c)=false:=by
   rw[dT];right;simp only[AY,cQ,dG,cN,fN,dC];exact⟨fun a=>E a.symm,fun a=>a6 a.symm,fun a=>a5 a.symm⟩
  simp only[A,jZ,gF,a]at this;exact this⟩
 by_cases O:b.c=47
 . rw[aF O];obtain⟨u,v,V⟩:∃ u v,g=[u,v]:=by
    have ba:=V O
    match g,ba with
    | [u,v],_=>exact⟨u,v,rfl⟩
   subst V;refine G2 c p m w d f.mem t e b _ o j x _ 3 (Or.inr (Or.inr (Or.inr (Or.inr (Or.inr (Or.inl ⟨O,rfl⟩)))))) fun W k=>?_
   refine OP c p m y dn W d t 0 (f.more k) e (e+1) (e+1+u.length) aq ay j _ (fun a=>aC a) (bt m.s (t+1)-48).toNat (fun a=>?_) (fun a ab a8=>?_);obtain⟨⟨I,a3,ak⟩,al,_⟩:=f.al.cho a;exact⟨by omega,by omega,al⟩;obtain⟨⟨I,a3,ak⟩,al,am⟩:=f.al.cho a;have bm:=am.le;rw[aF a,ak,show(48+(I:Int)-48).toNat=I by omega,ah];have a7:=k.trans (a8.mono k.size);have a2:∀ (h:aD It) (J:Nat),h∈[u,v]->(J,h)∈withSt (e+1) [u,v]->Calls prog 69 #[P0 c.pb,I0 (J:Nat),I0 ((t+3:Nat):Int),j,.slice none 0 0] ab fun a w'=>A6 c m.s ab d (pT m c.G n h none (t+3) d.ab) a w':=by
    intro h J r ac;have ax:=ae.sub (ai h r);have:=ax.1;exact aj ab d J h false false none j (t+3) ⟨f.mem.more a7,am,f.dl,by omega⟩ ⟨(F _ ac).2.1,⟨B,z h r⟩,X h r E,ax,(X h r E).CA rfl,fun a=>by cases a⟩ (fun i a=>by cases a) kX
   by_cases bb:I=0;subst bb;exact a2 u (e+1) kY (by simp[withSt]);have:I=1:=kX;subst this;exact a2 v (e+1+u.length) kY (by simp[withSt])
 rw[aC O];have S:b.c=42\/b.c=116:=kX;rw[aF S];have bg:=aw (by rcases S with a|a<;>rw[a]<;>rfl);have af:g.flatten∈g:=by
  have:g.flatten∈[g.flatten]:=aG;rw[<- bg]at this;exact this
 refine G2 c p m w d f.mem t e b _ o j x _ 4 (S.elim (fun a=>Or.inr (Or.inr (Or.inr (Or.inr (Or.inr (Or.inr (Or.inl ⟨a,rfl⟩))))))) (fun a=>Or.inr (Or.inr (Or.inr (Or.inr (Or.inr (Or.inr (Or.inr (Or.inl ⟨a,rfl⟩))))))))) fun W k=>?_
 exact SW c p m y dn n aj ap W d t 0 (f.more k) az e b _ o false false ⟨o.tail,⟨B,z _ af⟩,X _ af E,ae,(X _ af E).CA rfl,fun a=>by cases a⟩ hid j au (S.elim Or.inl (fun a=>Or.inr ⟨a,av (ar (by rw[a];rfl)),ao (by rw[a];rfl)⟩))
theorem put_rules(u:DK c)(af:E5 m)(V:∀ i,CR (c.G i))(al:WI c m dn n)(_:aM Nat)(g:aI)(t:Nat)(d:Dm)(ah:m.s.size+1<=n+1+t):∀ (e:Nat) (w:aE) (x:Nat) (b:It) (J:aD It) (h:aD Nat) (v:aI),unv h<=e->h.length+unv h<=9->Ei c m dn w d t 0->At c.As x (b::J)->b.c=82->c.R b.r.toNat=true->0<=b.r->(∀ f∈h,f<8/\Rch c.G f b.r.toNat)->(h=[]->v=.slice none 0 0)->EL w v h->
 Calls prog 69 #[P0 c.pb,I0 (x:Nat),I0 (t:Nat),g,v] w fun j w'=>A6 c m.s w d (match eR c.G e b.r.toNat with|none=>⟨t,false,d.ab⟩|some q=>KV m (pT m c.G n) q none t d.ab) j w':=by
 intro e;induction e with
 | zero=>
  intro w x b J h v hu ae F K U E h0 z S M;obtain⟨y,B,L,r,_⟩:=u.Ig _ E;have I:b.r.toNat∈h:=Zy y kX;refine SG c u m w d F.mem t x b J K g v U b.r.toNat B kX y L ?_ h S M kX (fun f a=>by have:=(z f a).1;omega) _ (fun _=>rfl) (fun a=>absurd I a)
  cases p:c.G b.r.toNat with
  | nil=>obtain⟨e,a⟩:=u.JI _ E;rw[p]at a;cases e<;>exact a.elim
  | cons k q=>rw[p]at r;have:=r.le;simp at this;omega
 | succ e am=>
  intro w x b J h v hu ae F K U E h0 z S M;obtain⟨y,B,L,r,Z⟩:=u.Ig _ E;have A:=u.JI _ E;have Y:=V b.r.toNat
  cases p:c.G b.r.toNat with
  | nil=>obtain⟨e,a⟩:=A;rw[p]at a;cases e<;>exact a.elim
  | cons k q=>
  rw[p]at r Z A Y;refine SG c u m w d F.mem t x b J K g v U b.r.toNat B kX y L (by have:=r.le;simp at this;omega) h S M kX (fun f a=>by have:=(z f a).1;omega) _ (fun I=>?_) (fun I W ab X ad=>?_)
  . rw[(z _ I).2.none]
  rw[eR,p];simp only;by_cases o:k.c=82
  . rw[aF o];have an:=Vl y I;obtain⟨ak,ac⟩:c.R k.r.toNat=true/\0<=k.r:=by
     obtain⟨e,a⟩:=A
     cases e with
     | zero=>exact a.elim
     | succ e=>exact⟨a.2.2.2.1 o,(a.1.it.r o).1⟩
    refine am W B k q (h++[b.r.toNat]) ab kX lA (F.more X) r o ak ac (fun f g=>?_) (fun j=>by simp at j) ad;have ai:=Rch.one p o;rcases aV.1 g with g|g;exact⟨(z f g).1,(z f g).2.step (fun n=>by rw[eR,p];simp only;rw[aF o])⟩;simp at g;subst g;exact⟨y,ai⟩
  rw[aC o];have aa:AN k.c=false:=by
   obtain⟨e,a⟩:=A
   cases e with
   | zero=>exact a.elim
   | succ e=>cases aj:AN k.c with
    | false=>rfl
    | true=>exact absurd (a.2.2.1 aj) kY
  have O:∀ f:Int,AN f=true->k.c≠f:=fun f a j=>by rw[j,a]at aa;cases aa
  exact P7 u af V al W d B k q false false none g ab t (F.more X) ⟨r,Z,A,Y,A.CA rfl,fun j=>by cases j⟩ (fun i j=>by cases j) ah o (O 119 rfl) (O 115 rfl) (O 64 rfl)
theorem XU(v:DK c)(r:E5 m)(u:∀ i,CR (c.G i))(K:WI c m dn n)(d hid j t)(A:m.s.size+1<=n+1+t)(I:Zx d hid j):∀ (L:aD It) (w:aE) (f:Nat) (B y:Bool),Ei c m dn w d t (2*L.length)->M8 c f L B y hid->
 Calls prog 69 #[P0 c.pb,I0 (f:Nat),I0 (t:Nat),j,.slice none 0 0] w fun e w'=>A6 c m.s w d (pIn m c.G n (pT m c.G n) L hid t d.ab) e w'
 | [],w,f,B,y,g,b=>by obtain⟨h,o⟩:=b.JI;cases h<;>exact o.elim
 | x::a,w,f,B,y,g,b=>by
  obtain⟨E,V⟩:=b.JI
  cases E with
  | zero=>exact V.elim
  | succ E=>
  obtain⟨X,ax,M,ap,aw,ai,aj⟩:=V;by_cases aa:x.c=64\/x.c=119\/x.c=115
  . obtain⟨Y,p⟩:=b.ho (M hg);have af:=M hg;obtain⟨d1,d2⟩:=X.it.d hg;have al:=ai hg;have J:BK c.R false true a:=⟨E,by
     have:=aj a (by rw[al];simp);have ab:x.c≠40:=kX;have F:AY [119,64,115] x.c=true:=by rcases aa with e|e|e<;>rw[e]<;>rfl
     simpa[ab,af,F]using this⟩
    have U:∃ h,Fa h a:=by
     obtain⟨h,o⟩:=b.trs
     cases h with
     | zero=>exact o.elim
     | succ h=>
      obtain⟨a0,ay,e,_,aq,ar⟩:=o
      cases e
      obtain⟨au,e⟩:=ar hg;subst e;exact⟨h,by simpa using aq au kY⟩
    have an:M8 c (f+1) a false true hid:=⟨b.pt.tail,U,J,b.Xx.tail,J.CA rfl,fun _=>⟨Y,p⟩⟩;have O:Ei c m dn w d t (2*a.length):=g.Ul lJ;have S:=YP r (n:=n) u (QM (dn:=dn) r u n) a hid t d.ab b.Xx.tail g.al g.dl;have am:=g.FI;have av:=S.FI;have ah:=S.o;have ao:d.o.length<=(pIn m c.G n (pT m c.G n) a hid t d.ab).D.o.length/\(pIn m c.G n (pT m c.G n) a hid t d.ab).D.o.length<=1000000000/\(pIn m c.G n (pT m c.G n) a hid t d.ab).D.ts.length<=1000000000/\(pIn m c.G n (pT m c.G n) a hid t d.ab).D.cur.length<=1000000000:=by
     have ac:B4 m dn (pIn m c.G n (pT m c.G n) a hid t d.ab).D<=1000000000:=by simp only[aX]at am;omega
     unfold B4 at ac;refine⟨ah,?_⟩;omega
    have ad:(x.c=119/\5=5)\/(x.c=64/\5=5)\/(x.c=115/\5=5):=by rcases aa with e|e|e;exact Or.inr (Or.inl ⟨e,rfl⟩);exact Or.inl ⟨e,rfl⟩;exact Or.inr (Or.inr ⟨e,rfl⟩)
    refine G2 c v m w d g.mem t f x a b.pt j _ _ 5 (Or.inr (Or.inr (Or.inr (Or.inr (Or.inr (Or.inr (Or.inr (Or.inr ad)))))))) fun W z=>?_
    obtain⟨F,ak⟩:=HoI.of (x:=x) (g.mem.more z) I p d1 d2;refine QH c v m r dn W d t _ (O.more z) f x a b.pt aa j _ Y F _ n ak (fun _=>⟨b.pt.tail,U,J,b.Xx.tail,g.al,A⟩) (pIn m c.G n (pT m c.G n) a hid t d.ab) _ ⟨fun e=>?_,fun e=>?_,fun e=>?_⟩ ao (fun _ Z ae=>?_);rw[pIn,aC kX,aC kX,aF e,p];rfl;rw[pIn,aF e];rfl;rw[pIn,aC kX,aF e];rfl;exact XU v r u K d hid j t A I a Z (f+1) false true (O.more (z.trans (ae.mono z.size))) an
  rw[pIn,aC kX,aC kX,aC kX];have p:=g.Ul (bR (2*(x::a).length));by_cases k:x.c=82
  . rw[aF k,Lk];exact put_rules v r u K hid j t d A 8 w f x a [] _ lC lC p b.pt k (ap k) (X.it.r k).1 (fun az o=>by cases o) (fun _=>rfl) (Or.inl ⟨rfl,rfl⟩)
  rw[aC k];exact P7 v r u K w d f x a B y hid j _ t p b I A k kX kX kX
theorem J6(g:DK c)(j:E5 m)(f:∀ i,CR (c.G i)):∀ n,WI c m dn n
 | 0=>fun w d b r u e hid p t a o h k=>by have:=a.al.le;omega
 | n+1=>fun w d b r u e hid p t a o h k=>XU g j f (J6 g j f n) d hid p t k h r w b u e a o
end
end
theorem Su(h:p:=by
 simp only[aW hi]at a;exact ae.hole i u d f a b):p:=h
theorem gy(h:p:=by
 exact h.up (Dl (N:=0) ae _) rfl rfl):p:=h
theorem GM(h:p:=by
 rw[p];decide):p:=h
theorem BK.Lr{R o e b a k}(g:BK R o e (b::a))(h:b.c≠40)(j:k∈segs a.length a):∃ f,BK R false f k:=by
 have:=g.Oh j;rw[bJ h]at this;exact⟨_,this⟩
theorem BK.Ac6{R k f e a b}(g:BK R k f (e::a))(h:e.c=40)(j:b∈segs a.length a):BK R true true b:=by
 have:=g.Oh j;rw[bF h]at this;exact this
theorem Vk{T:Type}{R}{s:T->Nat}{W:aD It->aM Nat->T->Wr->Wr}(F:Od s W)(z:WtC R W)(h0:∀ hid B st,W [] hid B st=st)(j hid)(k:Nd T)(st L S O Z)(o:BK R L S j)(Y:CR j)(A:K9 L O j Z)(ae:BX st)(h:F3 st):
 F3 (GB W j hid k st):=by
 unfold GB
 cases j with
 | nil=>exact h
 | cons M e=>
  have I:=Y.tail;have K:∀ j∈segs e.length e,CR j:=fun j g=>I.sub (Ch _ _ _ g)
  simp only;split;exact gy;split;exact gy;split;exact gy;split;exact gy;split;have a:=D8 (N:=0) ae _ k.run.length (B2 ae hid M.d.toNat);exact(h.up a rfl rfl).up (Dl (N:=0) a.inv _) rfl rfl;split;rename_i p;have J:BX {st with AS:=st.AS++[fun _=>none]}:=⟨fun i u d f a b=>by
   by_cases hi:i<st.AS.length;exact Su;simp only[bG (eZ hi)]at a;have h0:i-st.AS.length=0:=by
    exact Di
   rw[h0]at a
   cases a
   exact absurd b kY,ae.Au⟩
  have a:HU st.AS.length 0 st {st with AS:=st.AS++[fun _=>none]}:=⟨J,aB _,aB _,fun i hi=>aW hi,by simp,rfl,aB _,aB _,fun i u d f a b=>⟨u,f,by rw[aW (bI.1 a).1];exact a,b⟩⟩;exact N6 F z st.AS.length true (segs e.length e) k.kids _ FN (fun j g=>⟨K j g,o.Ac6 p g⟩) (A.kids p) (fun d V=>absurd rfl V) kY J (h.up a rfl rfl);split
  . rename_i p
    cases aa:k.kids with
    | nil=>exact h
    | cons B ab=>
     show F3 (W ((segs e.length e).getD k.n []) none B st);rw[aZ]
     cases X:(segs e.length e)[k.n]? with
     | none=>rw[Option.getD_none,h0];exact h
     | some j=>
      have g:=bH X;obtain⟨r,x⟩:=o.Lr kX g;obtain⟨y,v⟩:=A.other kX GM j g;exact z j none B st false r false y x (K j g) v (fun U=>by cases U) ae h
  split;rename_i p;have E:=o.VE GM;have g:e∈segs e.length e:=by rw[E];simp
  obtain⟨r,x⟩:=o.Lr kX g;obtain⟨y,v⟩:=A.other kX GM e g;exact NJ F z e false r y I x v k.kids st ae h;split;rename_i p;have E:=o.VE GM;have g:e∈segs e.length e:=by rw[E];simp
  obtain⟨r,x⟩:=o.Lr kX g;obtain⟨y,v⟩:=A.other kX GM e g;have a:=D8 (N:=0) ae _ k.kids.length (B2 ae hid M.d.toNat);exact NJ F z e false r y I x v k.kids _ a.inv (h.up a rfl rfl);exact h
theorem MJ{R G}(h:VD R G):∀ n k g b f q,BK R k g (b::f)->b.c=82->ruleEnd G n (b::f)=some q->BK R false false q/\∃ r,K9 false false q r
 | 0,_,_,_,_,_,_,_,a=>by cases a
 | n+1,k,g,b,f,q,o,hc,a=>by
  unfold ruleEnd at a;have e:=h.2 b.r.toNat (o.Ig hc)
  cases j:G b.r.toNat with
  | nil=>rw[j]at a;cases a
  | cons u v=>
   rw[j]at a e;simp only at a;split at a;rename_i p;exact MJ h n _ _ u v q e.1 p a
   cases a;exact e
theorem Zw{n R}{s:Tr n->Nat}{G}(E:VD R G){W:aD It->aM Nat->Tr n->Wr->Wr}(F:Od s W)(V:WtC R W)(h0:∀ hid ap st,W [] hid ap st=st)(hid)(f:Nd (Tr n))(st)(j:BX st)(g:F3 st):∀ L v A z y,BK R v A L->CR L->K9 v z L y->(z=true->EU st hid y)->
 F3 (wIn G W L hid f st)
 | [],_,_,_,_,_,_,_,_=>g
 | x::b,v,A,z,y,ht,hk,r,I=>by
  have u:=Jz E.1 F hid f st j b hk.tail;have ad:AY [119,64,115] x.c=true->x.c≠64->F3 (wIn G W b hid f st):=fun hi _=>by
   have ai:AY [42,116,119,64,115] x.c=true:=by
    simp only[AY,cQ,dG,cN,cH,dA]at hi⊢;omega
   have hu:AN x.c=true:=by
    exact WF
   have B:=ht.VE ai;have p:x.c≠40:=fun e=>by rw[e]at hi;exact absurd hi lC
   obtain⟨ah,am⟩:=ht.Lr p (k:=b) (by rw[B];simp);obtain⟨ab,S,aa⟩:=r.inner hi B;exact Zw E F V h0 hid f st j g b false ah true ab am hk.tail aa (fun _=>(I (r.use hu).1).up (HU.refl (N:=0) j) S)
  unfold wIn;split;rename_i p;exact(ad GM kX).up (D8 (N:=0) u.inv _ _ (B2 u.inv hid x.d.toNat)) rfl rfl;split;rename_i p;have hu:AN x.c=true:=by rw[p];decide
  have o:=ad GM kX;obtain⟨J,X⟩:=r.use hu;obtain⟨i,U,rfl,Y,Z⟩:=((I J).up u (sc':=y) rfl).hole X;have aj:=u.ge;have K:=u.inv;generalize wIn G W b (some i) f st=af at*;have al:=Vw (N:=0) K ⟨st.out.length,af.out.length,holeOf af (some i) x.d.toNat⟩;refine⟨fun e a=>?_,fun l k s h=>?_⟩;obtain⟨M,O,ac,c,d⟩:=o.wt e a;exact⟨M,O,ac,c,d.up al rfl⟩;rcases aV.1 k with k|k;exact o.su l (List.dropLast_subset _ k) s h;rw[dM]at k;subst k;rcases aV.1 h with h|h;refine o.su _ ?_ s h;rw[fS,jG K.Au];exact List.getLast_mem K.Au;rw[dM]at h;subst h;exact⟨aj,aB _,K.hole i U _ _ Y Z⟩;split;rename_i p;have hu:AN x.c=true:=by rw[p];decide
  have hi:AY [119,64,115] x.c=true:=by rw[p];decide
  have B:=ht.VE GM;obtain⟨J,X⟩:=r.use hu;obtain⟨i,U,rfl,Y,Z⟩:=(I J).hole X;obtain⟨ab,S,aa⟩:=r.inner hi B;have ae:=R3 (N:=0) j ⟨b,n,f,i,holeOf st (some i) x.d.toNat⟩;refine⟨fun e a=>?_,g.su⟩;rcases aV.1 a with a|a;obtain⟨M,O,ac,c,d⟩:=g.wt e a;exact⟨M,O,ac,c,d.up ae rfl⟩;rw[dM]at a;subst a;exact⟨j.hole i U _ _ Y Z,hk.tail,ab,aa,(I J).up ae S⟩;split;rename_i p;split;exact g;rename_i q o;obtain⟨an,ao,ak⟩:=MJ E 8 v A x b q ht p o;exact Vk F V h0 q none f st false false false ao an (EH E.1 8 _ q o) ak j g;exact Vk F V h0 (x::b) hid f st v A z y ht hk r j g
theorem Um(G):∀ n hid a st,BH G n [] hid a st=st
 | 0,_,_,_=>rfl
 | _+1,_,_,_=>rfl
theorem II{R G}(b:VD R G):∀ n,WtC R (BH G n)
 | 0=>fun _ _ _ _ _ _ _ _ _ _ _ _ _ a=>a
 | n+1=>fun p hid v st r f e u k h j g o a=>Zw b (DL b.1 n) (II b n) (Um G n) hid v st o a p r f e u k h j g
def FI(st:Wr):Nat:=st.out.length+(st.wait.map fun a=>10000*szT (a.n+1) a.v).sum
theorem HH{N b st a}(hu:HU N b st a)(e:a.wait=st.wait):FI a<=FI st+b:=by
 have:=hu.le;unfold FI;rw[e];omega
def Sz{T:Type}(s:T->Nat)(W:aD It->aM Nat->T->Wr->Wr):Prop:=∀ a hid b st,CR a->BX st->FI (W a hid b st)<=FI st+10000*s b
theorem La{T:Type}{s:T->Nat}{W:aD It->aM Nat->T->Wr->Wr}(g:Od s W)(h:Sz s W)(i):∀ a b st,(∀ k∈a,CR k)->BX st->FI (wKids W i a b st)<=FI st+(8*a.length+10000*(b.map s).sum)
 | [],_,_,_,_=>eK _ _
 | k::a,b,st,hk,hv=>by
  have j:=hk k aG;unfold wKids;by_cases o:silV k=true;rw[aF o];have e:=Hu (i:=i) hv j o;have r:=La g h i a b _ (fun k f=>hk k (aH _ f)) e.inv;have c:=HH e (KP k i st);simp only[aX];omega;rw[aC o]
  cases b with
  | nil=>exact eK _ _
  | cons p u=>
   have e:=h k (some i) p st j hv;have r:=La g h i a u _ (fun k f=>hk k (aH _ f)) (g k (some i) p st j hv).inv;simp only[aX,bX,cU];omega
theorem Ld{T:Type}{s:T->Nat}{W:aD It->aM Nat->T->Wr->Wr}(e:Od s W)(f:Sz s W)(a)(b:CR a):∀ h st,BX st->FI (wMany W a h st)<=FI st+10000*(h.map s).sum
 | [],_,_=>eK _ _
 | y::j,st,g=>by
  have k:=f a none y st b g;have o:=Ld e f a b j _ (e a none y st b g).inv;simp only[bX,cU];show FI (wMany W a j (W a none y st))<=_;omega
theorem Rn{T:Type}{s:T->Nat}{W:aD It->aM Nat->T->Wr->Wr}(j:Od s W)(g:Sz s W)(k hid)(v:Nd T)(st)(p:CR k)(ae:BX st):
 FI (GB W k hid v st)<=FI st+(8008+v.run.length+10000*(v.kids.map s).sum):=by
 unfold GB
 cases k with
 | nil=>exact eK _ _
 | cons e y=>
  have r:=p.2 e aG;have h:=p.tail;have aa:∀ k∈segs y.length y,CR k:=fun k A=>h.sub (Ch _ _ _ A)
  simp only;split;rename_i o;have:=r (by rw[o];rfl);have a:=HH (Dl (N:=0) ae (BP false e.w.toNat v.n)) rfl;rw[BE]at a;omega;split;rename_i o;have:=r (by rw[o];rfl);have a:=HH (Dl (N:=0) ae (BP true e.w.toNat v.n)) rfl;rw[BE]at a;omega;split;have a:=HH (Dl (N:=0) ae [UInt8.ofNat e.b.toNat]) rfl;simp only[eI]at a;omega;split;have a:=HH (Dl (N:=0) ae v.run) rfl;omega;split;have a:=D8 (N:=0) ae _ v.run.length (B2 ae hid e.d.toNat);have b:=HH a rfl;have c:=HH (Dl (N:=0) a.inv v.run) rfl;omega;split;have x:BX {st with AS:=st.AS++[fun _=>none]}:=⟨fun i u d f a b=>by
   by_cases hi:i<st.AS.length;exact Su;simp only[bG (eZ hi)]at a;have h0:i-st.AS.length=0:=by
    exact Di
   rw[h0]at a
   cases a
   exact absurd b kY,ae.Au⟩
  have b:=La j g st.AS.length (segs y.length y) v.kids _ aa x;have c:=Mu y.length y;have d:=h.1;have E:FI {st with AS:=st.AS++[fun _=>none]}=FI st:=rfl;omega;split
  . cases F:v.kids with
    | nil=>exact eK _ _
    | cons B I=>
     have z:CR ((segs y.length y).getD v.n []):=by
      exact ig
     have a:=g _ none B st z ae;simp only[Rp,bX,cU];omega
  split;have a:=Ld j g y h v.kids st ae;omega;split;have a:=D8 (N:=0) ae _ v.kids.length (B2 ae hid e.d.toNat);have b:=HH a rfl;have c:=Ld j g y h v.kids _ a.inv;omega;exact eK _ _
theorem RR(n)(a:Nd (Tr n)):szT (n+1) a=1+a.run.length+(a.kids.map (szT n)).sum:=rfl
theorem U8{n G}(g:∀ i,CR (G i)){W:aD It->aM Nat->Tr n->Wr->Wr}(b:Od (szT n) W)(h:Sz (szT n) W)(hid)(a:Nd (Tr n))(st)(e:BX st):∀ o,CR o->
 FI (wIn G W o hid a st)<=FI st+10000*szT (n+1) a
 | [],_=>eK _ _
 | x::f,hk=>by
  have r:=U8 g b h hid a st e f hk.tail;have k:=Jz g b hid a st e f hk.tail;have u:=RR n a;unfold wIn;split;have j:=HH (D8 (N:=0) k.inv _ ((wIn G W f hid a st).out.length-st.out.length) (B2 k.inv hid x.d.toNat)) rfl;omega;split;exact r;split;unfold FI HR;simp only[dO,gM,bX,dV,cU,fD];omega;split;split;exact eK _ _;rename_i q p;have j:=Rn b h q none a st (EH g 8 _ q p) e;omega;have j:=Rn b h (x::f) hid a st hk e;omega
theorem NS{G}(a:∀ i,CR (G i)):∀ n,Sz (szT n) (BH G n)
 | 0=>fun _ _ _ _ _ _=>eK _ _
 | n+1=>fun f hid g st b e=>U8 a (DL a n) (NS a n) hid g st e f b
section
theorem ie(h:p:=by
 rename_i p;obtain⟨m,ab,ac⟩:=Mz f a hid v st y af (ai GM);exact⟨m,by omega,(DP.trans ac (DP.same (m:=0) rfl)).mono kX⟩):p:=h
def KC(a:Wt):Nat:=a.As.length+1001*(a.v.run.length+(a.v.kids.map (szT a.n)).sum)
def DP(G:Nat->aD It)(m:Nat)(st st':Wr):Prop:=∃ l,st'.wait=st.wait++l/\(∀ a∈l,Db G (a.n+1) a.As a.v=true)/\(l.map KC).sum<=m
variable {G:Nat->aD It}
theorem DP.same{st st' m}(a:st'.wait=st.wait):DP G m st st':=⟨[],by simp[a],by simp,by simp⟩
theorem DP.trans{e b s t g}(h:DP G e s t)(j:DP G b t g):DP G (e+b) s g:=by
 obtain⟨l,k,p,v⟩:=h;obtain⟨u,o,r,x⟩:=j;refine⟨l++u,by rw[o,k,bO],fun f a=>?_,by simp only[dO,gM];omega⟩;rcases aV.1 a with a|a;exact p f a;exact r f a
theorem DP.mono{a b s t}(e:DP G a s t)(j:a<=b):DP G b s t:=by
 obtain⟨l,f,g,h⟩:=e;exact⟨l,f,g,by omega⟩
def RY{T:Type}(G:Nat->aD It)(s:T->Nat)(H:aD It->T->Bool)(W:aD It->aM Nat->T->Wr->Wr):Prop:=∀ a hid b st,a.length<=1000->H a b=true->DP G (1001*s b) st (W a hid b st)
theorem O9{T:Type}{H:aD It->T->Bool}{a b e}(f:silV a=true):hasKids H (a::b) e=hasKids H b e:=by
 conv=>lhs;unfold hasKids
 rw[aF f]
theorem Py{T:Type}{H:aD It->T->Bool}{a b}{e:T}{f}(g:¬ silV a=true):hasKids H (a::b) (e::f)=(H a e&&hasKids H b f):=by
 conv=>lhs;unfold hasKids
 rw[aC g]
theorem PU{T:Type}{H:aD It->T->Bool}{a e}(b:¬ silV a=true):hasKids H (a::e) []=false:=by
 unfold hasKids;rw[aC b]
theorem KQ{T:Type}{s:T->Nat}{H:aD It->T->Bool}{W:aD It->aM Nat->T->Wr->Wr}(h:RY G s H W)(i):∀ b e st,(∀ k∈b,k.length<=1000)->hasKids H b e=true->DP G (1001*(e.map s).sum) st (wKids W i b e st)
 | [],_,_,_,_=>DP.same rfl
 | k::b,e,st,j,a=>by
  unfold wKids;by_cases f:silV k=true;rw[aF f];rw[O9 f]at a;exact(DP.trans (DP.same (m:=0) (KP k i st)) (KQ h i b e _ (fun k g=>j k (aH _ g)) a)).mono kX;rw[aC f]
  cases e with
  | nil=>rw[PU f]at a;cases a
  | cons o p=>
   rw[Py f]at a;simp only[aY]at a;exact(DP.trans (h k (some i) o st (j k aG) a.1) (KQ h i b p _ (fun k g=>j k (aH _ g)) a.2)).mono lP
theorem Lg{T:Type}{s:T->Nat}{H:aD It->T->Bool}{W:aD It->aM Nat->T->Wr->Wr}(f:RY G s H W)(a)(g:a.length<=1000):∀ e st,e.all (H a)=true->DP G (1001*(e.map s).sum) st (wMany W a e st)
 | [],_,_=>DP.same rfl
 | y::h,st,b=>by
  simp only[fF,aY]at b;exact(DP.trans (f a none y st g b.1) (Lg f a g h _ b.2)).mono lP
theorem Qf{T:Type}(H:aD It->T->Bool)(b e)(a:Nd T):Ds H (b::e) a=
 (if b.c=110\/b.c=108 then decide (a.k=0)&&CG a.n b.w.toNat
 else if b.c=39 then decide (a.k=1)
 else if b.c=114\/b.c=46 then decide (a.k=2)
 else if b.c=40 then decide (a.k=3)&&hasKids H (segs e.length e) a.kids
 else if b.c=47 then decide (a.k=5)&&Ly (H ((segs e.length e).getD a.n [])) a.kids
 else if b.c=42\/b.c=116 then decide (a.k=4)&&a.kids.all (H e)
 else false):=rfl
theorem RF{T:Type}{s:T->Nat}{H:aD It->T->Bool}{W:aD It->aM Nat->T->Wr->Wr}(h:RY G s H W)(f hid)(e:Nd T)(st)(r:f.length<=1000)(a:Ds H f e=true):DP G (1001*(e.kids.map s).sum) st (GB W f hid e st):=by
 unfold GB
 cases f with
 | nil=>exact DP.same rfl
 | cons x b=>
  have j:b.length<=1000:=by simp at r;omega
  have k:∀ f∈segs b.length b,f.length<=1000:=fun f u=>by have:=(Ch _ _ _ u).length_le;omega
  rw[Qf]at a;simp only;split;exact DP.same rfl;split;exact DP.same rfl;split;exact DP.same rfl;split;exact DP.same rfl;split;exact DP.same rfl;split;rename_i g;rw[aC kX,aC kX,aC kX,aF g]at a;simp only[aY]at a;exact(DP.trans (DP.same (m:=0) (st':={st with AS:=st.AS++[fun _=>none]}) rfl) (KQ h st.AS.length (segs b.length b) e.kids _ k a.2)).mono kX;split
  . rename_i g;rw[aC kX,aC kX,aC kX,aC kX,aF g]at a;simp only[aY]at a
    cases v:e.kids with
    | nil=>exact DP.same rfl
    | cons y z=>
     rw[v]at a;have o:((segs b.length b).getD e.n []).length<=1000:=by
      rw[aZ]
      cases p:(segs b.length b)[e.n]? with
      | none=>simp
      | some f=>exact k f (bH p)
     exact(h _ none y st o a.2).mono lP
  split;rename_i g;rw[aC kX,aC kX,aC kX,aC kX,aC kX,aF kX]at a;simp only[aY]at a;exact Lg h b j e.kids st a.2;split;rename_i g;rw[aC kX,aC kX,aC kX,aC kX,aC kX,aF kX]at a;simp only[aY]at a;exact(DP.trans (DP.same (m:=0) (st':=Ba st (holeOf st hid x.d.toNat) e.kids.length) rfl) (Lg h b j e.kids _ a.2)).mono kX;exact DP.same rfl
theorem Mz{n}(f:∀ i,CR (G i)){W:aD It->aM Nat->Tr n->Wr->Wr}(a:RY G (szT n) (Db G n) W)(hid)(v:Nd (Tr n))(st):∀ h,h.length<=1000->hasQ G (Db G n) (inn h) v=true->
 ∃ m,m+1<=h.length+1001*(v.run.length+(v.kids.map (szT n)).sum)/\DP G m st (wIn G W h hid v st)
 | [],_,g=>by cases g
 | x::y,hk,g=>by
  have af:y.length<=1000:=by simp at hk;omega
  have ai:AY [119,64,115] x.c=true->hasQ G (Db G n) (inn y) v=true:=fun j=>by rw[inn,aF j]at g;exact g
  have F:AY [119,64,115] x.c=false->hasQ G (Db G n) (x::y) v=true:=fun j=>by rw[inn,aC (by rw[j];simp)]at g;exact g
  unfold wIn;simp only[aX];split;exact ie;split;exact ie;split;rename_i p;refine⟨y.length+1001*(v.run.length+(v.kids.map (szT n)).sum),by omega,[⟨y,n,v,hid.getD 0,holeOf st hid x.d.toNat⟩],rfl,fun e o=>?_,by simp[KC]⟩;simp only[dM]at o;subst o;exact ai GM;rename_i A z B;have E:AY [119,64,115] x.c=false:=by
   cases r:AY [119,64,115] x.c with
   | false=>rfl
   | true=>
    exfalso;simp only[AY,cQ,dG,cN,cH,dA]at r;rcases r with e|e|e;exact A (by rw[<- e];rfl);exact B (by rw[<- e];rfl);exact z (by rw[<- e];rfl)
  have b:=F E;refine⟨1001*(v.kids.map (szT n)).sum,by omega,?_⟩;split;rename_i k;unfold hasQ at b;simp only[aF k]at b;split;exact DP.same rfl;rename_i q u;rw[u]at b;exact RF a q none v st (EH f 8 _ q u).1 b;rename_i k;unfold hasQ at b;simp only[aC k]at b;exact RF a (x::y) hid v st hk b
theorem Oa(a:∀ i,CR (G i)):∀ n,RY G (szT n) (Db G n) (BH G n)
 | 0=>fun _ _ _ _ _ b=>by cases b
 | n+1=>fun h hid j st g f=>by
  obtain⟨m,k,e⟩:=Mz a (Oa a n) hid j st h g f;exact e.mono (by unfold szT;omega)
end
structure Q8 (g:Nat) (st:Wr):Prop where
 out:st.out.length+g<=1000000000
 wait:st.wait.length+g<=100000000
 Au:st.Au.length<=100000000
 sum:(st.Au.getLastD []).length+g<=100000000
theorem Q8.mono{b e st}(a:Q8 b st)(f:e<=b):Q8 e st:=⟨by have:=a.out;omega,by have:=a.wait;omega,a.Au,by have:=a.sum;omega⟩
theorem Q8.up{N b e m st f}(a:Q8 m st)(hu:HU N b st f)(g:b+e<=m):Q8 e f:=
 ⟨by have:=hu.le;have:=a.out;omega,by have:=hu.wait;have:=a.wait;omega,by rw[hu.Au];exact a.Au,by have:=hu.sum;have:=a.sum;omega⟩
def joV:aD (aD It)->Nat->Nat
 | [],_=>0
 | _::_,0=>0
 | k::ks,j+1=>joV ks j+(if silV k=true then 0 else 1)
theorem SR(a):joV a 0=0:=by cases a<;>rfl
theorem SA:∀ a b ad,joV a (b+1)=joV a b+(if silV a[b]=true then 0 else 1)
 | [],_,ad=>by simp at ad
 | k::a,0,_=>by simp only[joV,SR,dY]
 | k::a,b+1,ad=>by
  have:=SA a b AM;show joV a (b+1)+_=joV a b+_+_;rw[this,eF];omega
structure Sg {T:Type} (H:aD It->T->Bool) (s:T->Nat) (W:aD It->aM Nat->T->Wr->Wr) (i:Nat) (k:aD It) (vs:aD T) (j:Nat) (st st':Wr):Prop where
 sil:silV k=true->st'=wSil k i st
 val:silV k=false->∃ h,st'=W k (some i) vs[j] st/\H k vs[j]=true/\Q8 (10000*s vs[j]) st
 sc:∃ sc,K9 true true k sc/\EU st (some i) sc
 inv:BX st
 lt:i<st.AS.length
 bd:Q8 0 st
theorem Sg.cons{T:Type}{H:aD It->T->Bool}{s:T->Nat}{W:aD It->aM Nat->T->Wr->Wr}{i e}{o:T}{g b st f}(a:Sg H s W i e g b st f):Sg H s W i e (o::g) (b+1) st f:=
 ⟨a.sil,fun k=>by
  obtain⟨h,j⟩:=a.val k;exact⟨by simpa using h,by simpa using j⟩,a.sc,a.inv,a.lt,a.bd⟩
theorem Aa6{T:Type}{W:aD It->aM Nat->T->Wr->Wr}{i a b e st}(f:silV a=true):wKids W i (a::b) e st=wKids W i b e (wSil a i st):=by
 conv=>lhs;unfold wKids
 rw[aF f]
theorem Abk{T:Type}{W:aD It->aM Nat->T->Wr->Wr}{i a b}{e:T}{f st}(g:¬ silV a=true):wKids W i (a::b) (e::f) st=wKids W i b f (W a (some i) e st):=by
 conv=>lhs;unfold wKids
 rw[aC g]
theorem NY{T:Type}{H:aD It->T->Bool}{s:T->Nat}{W:aD It->aM Nat->T->Wr->Wr}(u:Od s W)(i):∀ h j st f,(∀ k∈h,CR k)->Sf h f->EU st (some i) f->i<st.AS.length->BX st->hasKids H h j=true->Q8 (8*h.length+10000*(j.map s).sum) st->
 ∀ g (ad:g<h.length),Sg H s W i h[g] j (joV h g) (wKids W i (h.take g) j st) (wKids W i (h.take (g+1)) j st)
 | [],_,_,_,_,_,_,_,_,_,_,g,ad=>by simp at ad
 | k::h,j,st,f,hk,hs,af,hi,hv,ab,p,g,ad=>by
  have A:=hk k aG;obtain⟨B,v,br,b2,E⟩:=hs;by_cases b:silV k=true
  . have a:=Hu (i:=i) hv A b;have o:∀ l,wKids W i (k::l) j st=wKids W i l j (wSil k i st):=fun l=>Aa6 b
    have I:hasKids H h j=true:=by rw[O9 b]at ab;exact ab
    have F:EU (wSil k i st) (some i) v:=by
     exact ia
    cases g with
    | zero=>
     refine⟨fun _=>o [],fun e=>?_,⟨f,B,af⟩,hv,hi,p.mono (bR _)⟩;rw[dY,b]at e;cases e
    | succ g=>
     have:=NY (H:=H) u i h j (wSil k i st) v (fun k r=>hk k (aH _ r)) E F (bM hi a.DC) a.inv I (p.up a lJ) g AM;rw[bU,bU,o,o,eF,joV,aF b];exact this
  cases j with
  | nil=>rw[PU b]at ab;cases ab
  | cons aa z=>
   have o:∀ l,wKids W i (k::l) (aa::z) st=wKids W i l z (W k (some i) aa st):=fun l=>Abk b
   rw[Py b]at ab;simp only[aY]at ab;have a:=u k (some i) aa st A hv;have J:∀ aa t,k=aa::t->Ae aa.c=false:=fun aa t e=>by
    exact mr
   cases g with
   | zero=>
    refine⟨fun e=>absurd e b,fun _=>⟨by simp[joV],?_⟩,⟨f,B,af⟩,hv,hi,p.mono (bR _)⟩;refine⟨o [],ab.1,p.mono ?_⟩;simp only[joV,dY,bX,cU];omega
   | succ g=>
    have:=NY (H:=H) u i h z (W k (some i) aa st) v (fun k r=>hk k (aH _ r)) E (af.up a (br J)) (bM hi a.DC) a.inv ab.2 (p.up a (by simp only[aX,bX,cU];omega)) g AM;rw[bU,bU,o,o,eF,joV,aC b];exact this.cons
theorem NN{T:Type}{s:T->Nat}{W:aD It->aM Nat->T->Wr->Wr}(g:Od s W){k}(j:CR k):∀ b st,BX st->Q8 (10000*((b.map Prod.snd).map s).sum) st->
 ∀ a (ad:a<b.length),BX (S7 (fun e s=>W k none e s) b st a)/\Q8 (10000*s b[a].2) (S7 (fun e s=>W k none e s) b st a)
 | [],_,_,_,a,ad=>by simp at ad
 | q::b,st,o,h,a,ad=>by
  cases a with
  | zero=>exact⟨o,h.mono (by simp only[dY,bX,cU];omega)⟩
  | succ a=>
   have f:=g k none q.2 st j o;exact NN g j b (W k none q.2 st) f.inv (h.up f lP) a AM
theorem Vt{T:Type}(W:aD It->aM Nat->T->Wr->Wr)(b)(a:aD (Nat × T))(st):S7 (fun e s=>W b none e s) a st a.length=wMany W b (a.map Prod.snd) st:=by
 rw[To,S7,fQ,List.foldl_map]
theorem Dc(h:p:=by
 rw[aC kX,aC kX,aC kX,aC kX,aC kX,aC kX]at j;cases j):p:=h
theorem i4(h:p:=by
 rw[R2 _ _ _ _ ad];exact(am F y false o false _ ak (b+1) hi u.1 z k g[f].1 g[f].2 none _ _ r af al ah ao (L _ (aU ad)) a1 (j.2 _ (by rw[A];exact eG (aU ad))) p (fun e=>by cases e) (v f ad).1 (v f ad).2).later (x.trans a)):p:=h
theorem CY(h:p:=by
 rw[ac];omega):p:=h
abbrev lq(h:PLift q->p:=by
 intro aa;have ab:u.2=y:=by rw[E]at B;simpa using B
 have ap:y∈segs y.length y:=by rw[E];simp
 obtain⟨o,ah⟩:=an.Lr kX ap;obtain⟨r,p⟩:=ai.other kX AC _ ap;have af:=ae u kY;rw[ab]at af;revert af;revert p;revert r;revert ah;revert o;revert ap;revert ab;exact aa.1):p:=h ⟨z⟩
abbrev l4(h:PLift q->p:=by
 intro aa;have an:=o.Vs;have ab:b<g:=kX;have ah:∀ W,BO c g W f ad ak am af ae st->Am W b j:=fun W A=>ao.below A.A9 kX
 revert an ab ah;exact aa.1):p:=h ⟨z⟩
theorem H0.later{c b j h w e g a hid st f}(o:H0 c b j h e g a hid st f)(p:Below b h w):H0 c b j w e g a hid st f:=
 fun W k z x y u r v a=>o W k z x y u (p.trans r) v a
theorem CD(c)(g)(w)(a)(f r o)(p)(e)(st x)(A:BO c g w a f r o p e st)(k)(y u)(v)(j b:Nat)(L:Am w k v)(J:v.k=(j:Int))(K:j<15)(I:E2[j*3+2]? = some (CO b))(M:∀ z W,Sem.run prog (callFunc b z) W=.ok (.enter b z) W)(F:∀ W,Below g w W->BO c g W a f r o p e st->Calls prog b #[P0 a,P0 k,y,u] W fun h w'=>C5 c g W a e x h w'):
 Calls prog 159 #[P0 a,P0 k,y,u] w fun h w'=>C5 c g w a e x h w':=by
 refine k6 ?_;intro ac;refine UC c w a k y u v j b (fun w'=>Below g w w'/\∃ f r o p O,BO c g w' a f r o p (e++O) x) A.pre L J K I M ?_;refine(F _ ac (A.B9 ac (fun _ _ _=>rfl))).mono ?_;rintro h w'⟨E,B,S⟩;exact⟨E,ac.trans B,S⟩
theorem Xa(c g f V a r U B S z b i e L st)(J:BM B c.w0 S z b U (a::r))(ai:z<=c.w0.heap.size)(h:Kc a)(K:silV (a::r)=true)(I:i<st.AS.length)(p:st.out.length<=1000000000):
 H0 c g f V b e L (some i) st (wSil (a::r) i st):=by
 intro w ad ak am af ae Y o M;obtain⟨v,rfl,x⟩:=M;obtain⟨X,ax,j,ao,Cj,aw,au,aj,av,⟨ap,aq⟩,ar,al⟩:=J.lens;refine l4 ?_;intro an ab ah;obtain⟨k,y⟩:∃ k,st.AS[i]? = some k:=⟨st.AS[i],bA I⟩;have E:a.c=39\/a.c=104\/a.c=107:=by
  simp only[silV,Ae,cH,dA,bD]at K;omega
 unfold wSil;rcases E with hxc|hxc|hxc;simp only[aF hxc];have Z:=h.b hxc;exact CD c g w f ad ak am af ae st _ o b e _ j 2 127 (ah w o) AK kX rfl Iy fun W u A=>Ha c g W f ad ak am af ae st A p b a.b.toNat e _ j (ah W A) ab (by rw[Cj.vl];omega) kX
 simp only[aC (show¬ a.c=39 by omega)];have O:=h.w AL;have F:=h.it.d AL;have ac:=(Cj.dp AL).1;rw[show decide (a.c=107)=false by rw[hxc];rfl];exact CD c g w f ad ak am af ae st _ o b e _ j 7 142 (ah w o) AK kX rfl L9 fun W u A=>Ky c g W f ad ak am af ae st A p b v a.d.toNat a.w.toNat i e k j (ah W A) ab CY kX lO kX kX x y
 simp only[aC (show¬ a.c=39 by omega)];have O:=h.w AL;have F:=h.it.d AL;have ac:=(Cj.dp AL).1;rw[show decide (a.c=107)=true by rw[hxc];rfl];exact CD c g w f ad ak am af ae st _ o b e _ j 8 144 (ah w o) AK kX rfl Ji fun W u A=>Ih c g W f ad ak am af ae st A p b v a.d.toNat a.w.toNat i e k j (ah W A) ab CY kX lO kX kX x y
def Vg(c:Cx)(e B n:Nat):Prop:=∀ r a j u f A v y g k z h p b hid x st o,BM v c.w0 y g k A a->g<=c.w0.heap.size->BK c.R j u a->a.length<=1000->Cb n r z h p b->h<=e->Db c.G n a b=true->K9 j f a o->(f=true->EU st hid o)->BX st->Q8 (10000*szT n b) st->
 H0 c e B r k (P0 p) x hid st (BH c.G n a hid b st)
theorem VP{T:Type}(W:aD It->aM Nat->T->Wr->Wr)(a e hid)(b:Nd T)(st):GB W (a::e) hid b st=
 (if a.c=110 then B5 st (BP false a.w.toNat b.n)
 else if a.c=108 then B5 st (BP true a.w.toNat b.n)
 else if a.c=39 then B5 st [UInt8.ofNat a.b.toNat]
 else if a.c=46 then B5 st b.run
 else if a.c=114 then B5 (Ba st (holeOf st hid a.d.toNat) b.run.length) b.run
 else if a.c=40 then wKids W st.AS.length (segs e.length e) b.kids {st with AS:=st.AS++[fun _=>none]}
 else if a.c=47 then Rp (W ((segs e.length e).getD b.n []) none) b.kids st
 else if a.c=42 then wMany W e b.kids st
 else if a.c=116 then wMany W e b.kids (Ba st (holeOf st hid a.d.toNat) b.kids.length)
 else st):=rfl
theorem BX.N1{st}(ae:BX st):BX {st with AS:=st.AS++[fun _=>none]}:=⟨fun i u d f a b=>by
 by_cases hi:i<st.AS.length;exact Su;simp only[bG (eZ hi)]at a;have h0:i-st.AS.length=0:=by
  exact Di
 rw[h0]at a
 cases a
 exact absurd b kY,ae.Au⟩
theorem PQ(c)(co:∀ i,CR (c.G i))(K S n)(am:Vg c K S n)(F)(ar)(y)(ci ck b1 dm)(cm di hi b z k ax)(I:Nd (Tr n))(hid)(av)(st)(cj)(c4:BM cm c.w0 di hi b dm (ar::y))(al:hi<=c.w0.heap.size)(bz:BK c.R ci ck (ar::y))(cd:(ar::y).length<=1000)(db:GS (Cb n) F z k ax I)(a1:k<=K)(j:Ds (Db c.G n) (ar::y) I=true)(ai:K9 ci b1 (ar::y) cj)(AS:b1=true->EU st hid cj)(hinv:BX st)(az:Q8 (8008+I.run.length+10000*(I.kids.map (szT n)).sum) st):
 H0 c K S F b (P0 ax) av hid st (GB (BH c.G n) (ar::y) hid I st):=by
 intro w V Z X Y U x O dd;have bo:=DL co n;have bu:=bz.Xx cd;have an:=bz;obtain⟨b3,ch⟩:=bz
 cases b3 with
 | zero=>exact ch.elim
 | succ b3=>
 obtain⟨bc,dx,dr,d0,cn,b6,dt⟩:=ch;obtain⟨ak,h,aq,c1,Cj,c8,c2,ae,B,⟨dv,dy⟩,dz,cc⟩:=c4.lens;obtain⟨a2,g,dc,⟨d3,d4⟩,cu,L,A,bh⟩:=db;have ao:y.length<=1000:=by simp at cd;omega
 have du:=O.Vs;have bb:b<K:=kX;have a6:ax<K:=kX;have ba:st.out.length<=1000000000:=by have:=az.out;omega
 have au:∀ W,BO c K W S V Z X Y U st->Am W b aq:=fun W J=>c1.below J.A9 kX
 have bl:∀ W,BO c K W S V Z X Y U st->BZ W (b+1) hi aq.v (h.map Prod.fst):=fun W J=>c2.mono (fun a0 _ dh=>J.A9.block a0 kX) (aB _) (aB _)
 have a4:∀ W,Below K w W->Q0 W ax I.k I.n ⟨I.run.toArray⟩ a2:=fun W a=>⟨Ac.below dc (x.trans a) a6,bh.n⟩
 have bj:∀ W,Below K w W->BZ W z k a2 (g.map Prod.fst):=fun W a=>cu.mono (fun a0 _ dh=>(x.trans a).block a0 kX) (aB _) (aB _)
 have br:g.length<=8000:=by have:=bh.kids;rw[A]at this;simpa using this
 have cg:AN ar.c=true->∃ i ay a3,hid=some i/\av=P0 ay/\U[i]? = some ay/\st.AS[i]? = some a3/\a3 ar.d.toNat=some (holeOf st hid ar.d.toNat)/\Jx (holeOf st hid ar.d.toNat) st.out.length:=fun hu=>by
  obtain⟨cp,c7⟩:=ai.use hu;obtain⟨i,a3,rfl,a9,a8⟩:=(AS cp).hole c7;obtain⟨ay,rfl,bf⟩:=dd;exact⟨i,ay,a3,rfl,rfl,bf,a9,a8,hinv.hole i a3 _ _ a9 a8⟩
 rw[LF]at j;rw[VP];rcases DF ar.c bc.it.c with hxc|hxc|hxc|hxc|hxc|hxc|hxc|hxc|hxc|hxc|hxc|hxc|hxc|hxc|hxc
 . rw[aF hxc];have de:=bc.w AL;exact CD c K w S V Z X Y U st _ O b _ av aq 0 122 (au w O) AK kX rfl Md fun W a J=>Kh c K W S V Z X Y U st J ba b ax I.k I.n ar.w.toNat _ a2 av aq (au W J) bb (a4 W a) a6 lO kX kX
 . rw[aC kX,aF hxc];have de:=bc.w AL;exact CD c K w S V Z X Y U st _ O b _ av aq 1 124 (au w O) AK kX rfl JG fun W a J=>Im c K W S V Z X Y U st J ba b ax I.k I.n ar.w.toNat _ a2 av aq (au W J) bb (a4 W a) a6 lO kX kX
 . rw[aC kX,aC kX,aF hxc];have dq:=bc.b hxc;exact CD c K w S V Z X Y U st _ O b _ av aq 2 127 (au w O) AK kX rfl Iy fun W a J=>Ha c K W S V Z X Y U st J ba b ar.b.toNat _ av aq (au W J) bb (by rw[Cj.vl];omega) kX
 . rw[aC kX,aC kX,aC kX,aC kX,aC kX,aF hxc];rw[aC kX,aC kX,aC kX,aF hxc]at j;simp only[aY,bD]at j;have cx:∀ a0∈segs y.length y,CR a0:=fun a0 O=>bu.tail.sub (Ch _ _ _ O)
   have v:=NY (H:=Db c.G n) bo st.AS.length (segs y.length y) I.kids {st with AS:=st.AS++[fun _=>none]} FN cx (ai.kids hxc) (fun d bp=>absurd rfl bp) kY hinv.N1 j.2 (by
    have c8:=Mu y.length y;exact⟨by have:=az.out;simp only;omega,by have:=az.wait;simp only;omega,az.Au,by have:=az.sum;simp only;omega⟩)
   have bm:∀ a0∈segs y.length y,BK c.R true true a0:=fun a0 O=>an.Ac6 hxc O
   generalize da:({st with AS:=st.AS++[fun _=>none]}:Wr)=Ey at*;rw[<- B]at v bm⊢;have cs:wKids (BH c.G n) st.AS.length (h.map Prod.snd) I.kids Ey=wKids (BH c.G n) st.AS.length ((h.map Prod.snd).take h.length) I.kids Ey:=by
    rw[bV kY]
   rw[cs];refine CD c K w S V Z X Y U st _ O b _ av aq 3 130 (au w O) AK kX rfl Ma fun W a J=>?_
   have a5:∀ f (ad:f<h.length),Sg (Db c.G n) (szT n) (BH c.G n) st.AS.length h[f].2 I.kids (joV (h.map Prod.snd) f) (wKids (BH c.G n) st.AS.length ((h.map Prod.snd).take f) I.kids Ey) (wKids (BH c.G n) st.AS.length ((h.map Prod.snd).take (f+1)) I.kids Ey):=fun f ad=>by
    have:=v f AM;rw[gD]at this;exact this
   have b9:∀ f (ad:f<h.length),silV h[f].2=false->joV (h.map Prod.snd) f<g.length:=fun f ad bk=>by
    obtain⟨aw,_⟩:=(a5 f ad).val bk;rw[A]at aw;simpa using aw
   refine JU c K W S V Z X Y U st J b ax I.k I.n z k (b+1) hi _ a2 av aq g h (fun f=>wKids (BH c.G n) st.AS.length ((h.map Prod.snd).take f) I.kids Ey) (joV (h.map Prod.snd)) (au W J) bb (a4 W a) a6 a1 kX (bl W J) (bj W a) br kX (fun q a5=>?_) da.symm (SR _) (fun f ad=>?_) b9 (fun f ad bx=>?_) (fun f ad bk=>?_);have af:=ae q a5;obtain⟨M,t,bv⟩:∃ M t,q.2=M::t:=by obtain⟨M,t,b0,_⟩:=af.Jh;exact⟨M,t,b0⟩
   rw[bv]at af⊢;obtain⟨_,_,dk,c0,_,c9,_,_,_,_,dw⟩:=af.open;refine⟨by omega,?_⟩;rw[aL (w:=c.w0) (J.A9.block q.1 kX),<- IJ,show Gy M.c=dk.sl by rw[c9,hxc];simp];exact c0.cell 7;have:=SA (h.map Prod.snd) f AM;rw[gD]at this;exact this
   . have af:=ae h[f] (aU ad);have aw:=a5 f ad;have ce:=bm h[f].2 (eG (aU ad));rw[aw.sil bx];obtain⟨M,t,bv⟩:∃ M t,h[f].2=M::t:=by obtain⟨M,t,b0,_⟩:=af.Jh;exact⟨M,t,b0⟩
     rw[bv]at af bx ce⊢;refine Xa c K S W M t _ ak (b+1) hi h[f].1 st.AS.length _ _ _ af al ?_ bx aw.lt (by have:=aw.bd.out;omega);obtain⟨b4,cf⟩:=ce
     cases b4 with
     | zero=>exact cf.elim
     | succ b4=>exact cf.1
   have aw:=a5 f ad;obtain⟨dp,e,b8,ay⟩:=aw.val bk;obtain⟨dl,c5,c6⟩:=aw.sc;have cv:=b9 f ad bk;have cr:I.kids[joV (h.map Prod.snd) f]=(g[joV (h.map Prod.snd) f]).2:=by simp only[A,gD]
   rw[cr]at e b8 ay;rw[e];exact(am F h[f].2 true true true _ ak (b+1) hi h[f].1 z k g[joV (h.map Prod.snd) f].1 g[joV (h.map Prod.snd) f].2 _ _ _ dl (ae h[f] (aU ad)) al (bm _ (eG (aU ad))) (by have:=cc h[f] (aU ad);omega) (L _ (aU cv)) a1 b8 c5 (fun _=>c6) aw.inv ay).later (x.trans a)
 . rw[aC kX,aC kX,aC kX,aC kX,aC kX,aC kX,aF hxc];rw[aC kX,aC kX,aC kX,aC kX,aF hxc]at j;simp only[aY,bD]at j;obtain⟨cb,bi⟩:=j;have cy:h.length=2:=by have:=cn hxc;rw[<- B]at this;simpa using this
   obtain⟨cz,ca⟩:=bh.cho cb;obtain⟨M,rfl⟩:∃ M,g=[M]:=by
    rw[A]at ca
    match g,ca with
    | [M],_=>exact⟨M,rfl⟩
   have bg:I.n<h.length:=kX;have ap:h[I.n].2∈segs y.length y:=by rw[<- B];exact eG (aU bg)
   have ct:(segs y.length y).getD I.n []=h[I.n].2:=by rw[<- B];simp[bg]
   rw[ct]at bi⊢;rw[A]at bi az⊢;simp only[bX,dV,Ly,Rp,cU,fD]at bi az⊢;obtain⟨o,ah⟩:=an.Lr kX ap;obtain⟨r,p⟩:=ai.other kX AC _ ap;refine CD c K w S V Z X Y U st _ O b _ av aq 4 133 (au w O) AK kX rfl L7 fun W a J=>?_
   obtain⟨b5,b2,cl,_,ds,_,cq⟩:=(bj W a).at kY;obtain⟨a7,bd,be,_,b7,_,aj⟩:=(bl W J).at lA;have a5:=aj I.n lA;have df:=cq 0 kY;have c3:W.cell? (A0 a7 I.n)=some (P0 (h[I.n].1)):=by rw[a5];simp[bg]
   have dj:Q0 W ax 5 I.n ⟨I.run.toArray⟩ (S0 b5 1 b2):=by
    have:=a4 W a;rw[cb,cl]at this;exact this
   exact JW c K W S V Z X Y U st _ J b ax I.n a7 bd h[I.n].1 b5 b2 M.1 _ av aq (au W J) dj cz (by rw[be];simp[cy]) c3 (by rw[df];simp)
    ((am F h[I.n].2 false o false _ ak (b+1) hi h[I.n].1 z k M.1 M.2 none _ st r (ae _ (aU bg)) al ah (by have:=cc _ (aU bg);omega) (L M kY) a1 bi p (fun e=>by cases e) hinv (az.mono kX)).later (x.trans a))
 . rw[aC kX,aC kX,aC kX,aC kX,aC kX,aC kX,aC kX,aF hxc];rw[aC kX,aC kX,aC kX,aC kX,aC kX,aF kX]at j;simp only[aY,bD,hG]at j;have E:=b6 AL;obtain⟨u,rfl⟩:∃ u,h=[u]:=by
    exact Do
   refine lq ?_;intro ab ap o ah r p af;have v:=NN bo (k:=y) bu.tail g st hinv (az.mono (by rw[<- A];omega));rw[A,<- Vt];refine CD c K w S V Z X Y U st _ O b _ av aq 5 136 (au w O) AK kX rfl OY fun W a J=>?_
   obtain⟨a7,bd,be,_,b7,_,aj⟩:=(bl W J).at kY;refine HN (fun M s=>BH c.G n y none M s) c K W S V Z X Y U st J b a7 bd u.1 ax I.k I.n z k _ a2 av aq g (au W J) bb kX (a4 W a) a6 a1 be Dr (bj W a) br (fun f ad=>?_);exact i4
 . exact Dc
 . exact Dc
 . exact Dc
 . rw[aC kX,aC kX,aC kX,aC kX,aF hxc];have bp:=bc.it.d AL;have ac:=(Cj.dp AL).1;obtain⟨i,ay,a3,rfl,rfl,bf,a9,a8,bq⟩:=cg AL;exact CD c K w S V Z X Y U st _ O b _ _ aq 9 147 (au w O) AK kX rfl QX fun W a J=>Ml c K W S V Z X Y U st J ba b ax I.k I.n ay ar.d.toNat _ I.run a2 aq (au W J) (a4 W a) a6 bh.run CY kX (J.hole bf a9 a8 kX) bq
 . rw[aC kX,aC kX,aC kX,aC kX,aC kX,aC kX,aC kX,aC kX,aF hxc];rw[aC kX,aC kX,aC kX,aC kX,aC kX,aF kX]at j;simp only[aY,bD,hG]at j;have bp:=bc.it.d AL;have ac:=(Cj.dp AL).1;obtain⟨i,ay,a3,rfl,rfl,bf,a9,a8,bq⟩:=cg AL;have E:=b6 AL;obtain⟨u,rfl⟩:∃ u,h=[u]:=by
    exact Do
   refine lq ?_;intro ab ap o ah r p af;have cw:I.kids.length=g.length:=by rw[A];simp
   have aw:=D8 (N:=0) hinv (holeOf st (some i) ar.d.toNat) g.length (B2 hinv (some i) ar.d.toNat);have v:=NN bo (k:=y) bu.tail g _ aw.inv (az.up aw (by rw[<- A];omega));rw[cw,A,<- Vt];refine CD c K w S V Z X Y U st _ O b _ _ aq 10 149 (au w O) AK kX rfl NQ fun W a J=>?_
   obtain⟨a7,bd,be,_,b7,_,aj⟩:=(bl W J).at kY;refine Lb (fun M s=>BH c.G n y none M s) c K W S V Z X Y U st J ba b a7 bd u.1 ax I.k I.n z k ay ar.d.toNat i _ a3 _ a2 aq g (au W J) bb kX (a4 W a) a6 a1 CY kX be Dr (bj W a) br bf a9 a8 bq (fun f ad=>?_);exact i4
 . exact Dc
 . exact Dc
 . exact Dc
 rw[aC kX,aC kX,aC kX,aF hxc];exact CD c K w S V Z X Y U st _ O b _ av aq 14 158 (au w O) AK kX rfl Ox fun W a J=>Mn c K W S V Z X Y U st J ba b ax I.k I.n I.run a2 av (a4 W a) bh.run
theorem M3(c)(z:DO c)(x:VD c.R c.G)(g f n)(aq:Vg c g f n)(v I k u)(h:Nd (Tr n))(al:GS (Cb n) v I k u h)(Y:k<=g):∀ m e r q av J ax K ar E b hid p st,BM K c.w0 ar E b ax (e::r)->E<=c.w0.heap.size->BK c.R av J (e::r)->e.c=82->ruleEnd c.G m (e::r)=some q->Ds (Db c.G n) q h=true->BX st->Q8 (8008+h.run.length+10000*(h.kids.map (szT n)).sum) st->
 H0 c g f v b (P0 u) p hid st (GB (BH c.G n) q none h st)
 | 0,_,_,_,_,_,_,_,_,_,_,_,_,_,_,_,_,_,a,_,_,_=>by cases a
 | m+1,e,r,q,av,J,ax,K,ar,E,b,hid,p,st,hrep,hhi,hwf,hxc,a,Z,hinv,U=>by
  intro w ad ak am af ae S o _;have y:=hwf.Ig hxc;obtain⟨L,ap⟩:=hwf
  cases L with
  | zero=>exact ap.elim
  | succ L=>
  obtain⟨a0,_⟩:=ap;obtain⟨a3,bd,j,ao,Cj,bc,a9,a4,bb,⟨a6,a7⟩,a8,a5⟩:=hrep.lens;refine l4 ?_;intro an ab ah;have ba:=a0.it.r hxc;obtain⟨B,a2,X⟩:=x.2 e.r.toNat y;have V:=z.Afr e.r.toNat y;unfold ruleEnd at a;refine CD c g w f ad ak am af ae st _ o b _ p j 6 139 (ah w o) AK kX rfl OX fun W O A=>?_
  refine L6 c z g W f ad ak am af ae st _ A b e.r.toNat _ p j (ah W A) ab (by rw[(Cj.ru hxc).2];omega) y fun aw M au ai F ac=>?_
  cases aj:c.G e.r.toNat with
  | nil=>rw[aj]at a;cases a
  | cons ay az=>
   rw[aj]at a B X F V;simp only at a;split at a;rename_i a1;exact(M3 c z x g f n aq v I k u h al Y m ay az q false false false M au ai aw none _ st F ac B a1 a Z hinv U).later (S.trans O)
   cases a
   exact(PQ c x.1 g f n aq v ay az false false false false M au ai aw I k u h none _ st a2 F ac B V al Y Z X (fun a=>by cases a) hinv U).later (S.trans O)
theorem X8{n}(G)(W:aD It->aM Nat->Tr n->Wr->Wr)(e a hid)(b:Nd (Tr n))(st):wIn G W (e::a) hid b st=
 (if e.c=119 then Ba (wIn G W a hid b st) (holeOf (wIn G W a hid b st) hid e.d.toNat) ((wIn G W a hid b st).out.length-st.out.length)
 else if e.c=115 then Jr (wIn G W a hid b st) ⟨st.out.length,(wIn G W a hid b st).out.length,holeOf (wIn G W a hid b st) hid e.d.toNat⟩
 else if e.c=64 then HR st ⟨a,n,b,hid.getD 0,holeOf st hid e.d.toNat⟩
 else if e.c=82 then(match ruleEnd G 8 (e::a)with|none=>st|some q=>GB W q none b st)
 else GB W (e::a) hid b st):=rfl
theorem Ro(c)(bl:DO c)(U:VD c.R c.G)(g f n)(bg:Vg c g f n)(L K z v)(a:Nd (Tr n))(az:GS (Cb n) L K z v a)(ax:z<=g)(hid ap st)(hinv:BX st):∀ F aq av au a1 I a0 r b ar,BM I c.w0 a0 r b a1 F->r<=c.w0.heap.size->BK c.R aq av F->F.length<=1000->hasQ c.G (Db c.G n) (inn F) a=true->K9 aq au F ar->(au=true->EU st hid ar)->Q8 (F.length+(8008+a.run.length+10000*(a.kids.map (szT n)).sum)) st->
 H0 c g f L b (P0 v) ap hid st (wIn c.G (BH c.G n) F hid a st)
 | [],_,_,_,_,_,_,_,_,_,_,_,e,_,_,_,_,_=>by
  obtain⟨I,e⟩:=e
  cases I<;>exact e.elim
 | x::k,aq,av,au,a1,I,a0,r,b,ar,hrep,hhi,hwf,hlen,p,hsc,ay,J=>by
  have b6:=hwf.Xx hlen;have bf:=hwf;obtain⟨bk,bv⟩:=hwf
  cases bk with
  | zero=>exact bv.elim
  | succ bk=>
  obtain⟨al,cm,ch,cp,cg,b1,ck⟩:=bv;rw[X8]
  cases ai:AY [119,64,115] x.c with
  | false=>
   have ba:x.c≠119/\x.c≠64/\x.c≠115:=by
    refine⟨fun a2=>?_,fun a2=>?_,fun a2=>?_⟩<;>(rw[a2]at ai;exact absurd ai lC)
   rw[UY ai]at p;rw[aC ba.1,aC ba.2.2,aC ba.2.1];by_cases S:x.c=82
   . rw[aF S];unfold hasQ at p;simp only[aF S]at p
     cases bc:ruleEnd c.G 8 (x::k)with
     | none=>rw[bc]at p;cases p
     | some q=>
      rw[bc]at p;exact M3 c bl U g f n bg L K z v a az ax 8 x k q aq av a1 I a0 r b hid ap st hrep hhi bf S bc p hinv (J.mono kX)
   rw[aC S];rw[SF _ _ _ _ _ S]at p;exact PQ c U.1 g f n bg L x k aq av au a1 I a0 r b K z v a hid ap st ar hrep hhi bf hlen az ax p hsc ay hinv (J.mono kX)
  | true=>
   rw[Z2 ai]at p;have aw:x.c=119\/x.c=64\/x.c=115:=by
    exact i5
   have E:=b1 (by rcases aw with e|e|e<;>rw[e]<;>rfl);have hu:AN x.c=true:=by rcases aw with e|e|e<;>rw[e]<;>rfl
   have bp:kD x.c=true:=by rcases aw with e|e|e<;>rw[e]<;>rfl
   obtain⟨bj,h,j,ao,Cj,cq,b9,b5,B,⟨cl,cn⟩,co,cj⟩:=hrep.lens;obtain⟨u,rfl⟩:∃ u,h=[u]:=by
    exact Do
   have cc:u.2=k:=by rw[E]at B;simpa using B
   have bd:=b5 u kY;rw[cc]at bd;have b7:k∈segs k.length k:=by rw[E];simp
   obtain⟨bz,bu⟩:=bf.Lr kX b7;obtain⟨cf,y,ca⟩:=hsc.inner ai E;obtain⟨a4,br⟩:=hsc.use hu;have b8:=(ay a4).up (HU.refl (N:=0) hinv) y;have bq:k.length<=1000:=by simp at hlen;omega
   have ci:=al.it.d bp;have ac:=(Cj.dp bp).1;simp only[aX]at J;have Z:=Jz U.1 (DL U.1 n) hid a st hinv k b6.tail;have a6:Q8 1 (wIn c.G (BH c.G n) k hid a st):=J.up Z kX;obtain⟨i,a3,bo,a8,a7⟩:=((ay a4).up Z (sc':=ar) rfl).hole br;have bx:x.c≠64->H0 c g f L u.1 (P0 v) ap hid st (wIn c.G (BH c.G n) k hid a st):=fun _=>
    Ro c bl U g f n bg L K z v a az ax hid ap st hinv k false bz true _ bj (b+1) r u.1 cf bd hhi bu bq p ca (fun _=>b8) (J.mono kX)
   intro w ad ak am af ae a5 o be;refine l4 ?_;intro an ab ah;have bb:∀ W,BO c g W f ad ak am af ae st->BZ W (b+1) r j.v ([u].map Prod.fst):=fun W A=>b9.mono (fun bh _ ce=>A.A9.block bh kX) (aB _) (aB _)
   rcases aw with hxc|hxc|hxc;rw[aF hxc];have a9:=bx kX;generalize wIn c.G (BH c.G n) k hid a st=bi at*;subst bo;obtain⟨X,rfl,Y⟩:=be;refine CD c g w f ad ak am af ae st _ o b _ _ j 11 152 (ah w o) AK kX rfl L4 fun W V A=>?_
   obtain⟨O,M,y,_,bm,_,aj⟩:=(bb W A).at kY;exact J5 c g W f ad ak am af ae st bi A (by have:=a6.out;omega) Z.ge b O M u.1 X x.d.toNat i _ a3 _ j (ah W A) ab kX CY kX y Dr (a9.later (a5.trans V)) Y a8 a7 (Z.inv.hole i a3 _ _ a8 a7);rw[aC kX,aC kX,aF hxc];obtain⟨cd,b0,b4,b3,b2⟩:=(ay a4).hole br;subst b4;obtain⟨X,rfl,Y⟩:=be;refine CD c g w f ad ak am af ae st _ o b _ _ j 12 154 (ah w o) AK kX rfl SM fun W V A=>?_
   obtain⟨O,M,y,_,bm,_,aj⟩:=(bb W A).at kY;have cb:GS (Cb n) W K z v a:=Cb.mono (n+1) (x:=a) az (fun bh _ ce=>(a5.trans V).block bh kX) (aB _) (aB _);have cr:=A.A9.size;exact Oi c g W f ad ak am af ae st A (by have:=J.wait;omega) b O M u.1 v X x.d.toNat cd n _ b0 a k j (ah W A) CY kX y Dr kX Y b3 b2 _ _ _ bj (b+1) r K z bd hhi bu bq cb ax;rw[aC kX,aF hxc];have a9:=bx kX;generalize wIn c.G (BH c.G n) k hid a st=bi at*;subst bo;obtain⟨X,rfl,Y⟩:=be;refine CD c g w f ad ak am af ae st _ o b _ _ j 13 156 (ah w o) AK kX rfl LY fun W V A=>?_
   obtain⟨O,M,y,_,bm,_,aj⟩:=(bb W A).at kY;exact Kz c g W f ad ak am af ae st bi A Z.inv.Au a6.Au (by have:=a6.sum;omega) b O M u.1 X x.d.toNat i _ a3 _ j (ah W A) ab kX CY kX y Dr (a9.later (a5.trans V)) Y a8 a7
theorem KG(c)(f:DO c)(e:VD c.R c.G)(a b):∀ n,Vg c a b n
 | 0=>fun _ _ _ _ _ _ _ _ _ _ _ _ _ _ _ _ _ _ _ _ _ _ k=>k.elim
 | n+1=>fun X J M h g U j K v O L x V Y hid E st S A u I y F p r B z hinv o=>
  Ro c f e a b n (KG c f e a b n) X L x V Y F p hid E st hinv J M h g U j K v O S A u I y r B z (o.mono (by unfold szT;omega))
theorem UV(h:p:=by
 rw[aa];exact aH _ ab):p:=h
theorem K9.Agf{e a g u}(o:K9 false e (a::g) u):Ae a.c=false:=by
 obtain⟨h,v,r,f⟩:=o
 cases h with
 | zero=>simp at r
 | succ k=>
  cases b:Ae a.c with
  | false=>rfl
  | true=>
   have p:a.c≠40:=fun j=>by rw[j]at b;exact absurd b lC
   rw[Fl k false e a g _ p]at f;have h0:=FB f;unfold Dj G0 at h0;rw[aF b]at h0;simp[Ga]at h0
theorem BK.Adc{R o f h b p}(a:BK R o f b)(k:K9 false h b p):BK R false f b:=by
 obtain⟨e,a⟩:=a
 cases e with
 | zero=>exact a.elim
 | succ e=>
  cases b with
  | nil=>exact a.elim
  | cons u r=>
   have j:=k.Agf;refine⟨e+1,?_⟩;unfold TWf at a⊢;exact⟨a.1,fun g=>(by rw[j]at g;cases g),a.2.2⟩
structure Abc (G:Nat->aD It) (m p:Nat) (st st':Wr):Prop where
 inv:BX st'
 wt:F3 st'
 has:∀ e∈st'.wait,Db G (e.n+1) e.As e.v=true
 FI:FI st'<=FI st+p
 Au:st'.Au.length=st.Au.length
 mu:(st'.wait.map KC).sum+1<=(st.wait.map KC).sum+m
theorem Kx{R G}(e:VD R G){n k j p g o hid}{v:Nd (Tr n)}{st}(B:BK R j p k)(f:CR k)(A:K9 j g k o)(x:g=true->EU st hid o)(z:Db G (n+1) k v=true)(h:BX st)(E:F3 st)(y:∀ a∈st.wait,Db G (a.n+1) a.As a.v=true):
 Abc G (k.length+1001*(v.run.length+(v.kids.map (szT n)).sum)) (10000*szT (n+1) v) st (wIn G (BH G n) k hid v st):=by
 have hu:=DL e.1 (n+1) k hid v st f h;obtain⟨m,F,l,r,u,I⟩:=Mz e.1 (Oa e.1 n) hid v st k f.1 z;refine⟨hu.inv,II e (n+1) k hid v st j p g o B f A x h E,fun a b=>?_,NS e.1 (n+1) k hid v st f h,hu.Au,?_⟩;rw[r]at b;rcases aV.1 b with b|b;exact y a b;exact u a b;rw[r,dO,gM];omega
structure YD (G:Nat->aD It) (P Q:Nat) (st:Wr):Prop where
 inv:BX st
 wt:F3 st
 has:∀ e∈st.wait,Db G (e.n+1) e.As e.v=true
 FI:FI st<=P
 cnt:st.Au.length+(st.wait.map KC).sum<=Q
def Cw(st:Wr)(a:Wt)(b:aD Wt):Wr:=Ba {st with wait:=b} a.ho st.out.length
theorem Aep(l:aD Wt)(b:∀ a∈l,a.As≠[]):l.length<=(l.map KC).sum:=by
 induction l with
 | nil=>simp
 | cons a l f=>
  have g:=f fun a e=>b a (aH _ e)
  have h:=gO.2 (b a aG);simp only[aX,bX,cU];unfold KC at*;omega
theorem Aay{G n a}{f:Tr (n+1)}(e:Db G (n+1) a f=true):a≠[]:=fun b=>by subst b;cases e
structure Ae5 (G:Nat->aD It) (e:Wt) (ws:aD Wt) (P Q:Nat) (st:Wr):Prop where
 inv:BX {Cw st e ws with Au:=(Cw st e ws).Au++[[]]}
 bd:Q8 (10000*szT (e.n+1) e.v) {Cw st e ws with Au:=(Cw st e ws).Au++[[]]}
 AS:∃ sc,K9 false true e.As sc/\EU {Cw st e ws with Au:=(Cw st e ws).Au++[[]]} (some e.hid) sc
 ho:Jx e.ho st.out.length
 Xx:CR e.As
 has:Db G (e.n+1) e.As e.v=true
 next:YD G P Q (D6 G e.n e.As (some e.hid) e.v (Cw st e ws))
 mu:((D6 G e.n e.As (some e.hid) e.v (Cw st e ws)).wait.map KC).sum+1<=(st.wait.map KC).sum
theorem Abj{R G}(F:VD R G){P Q st}{a:Wt}{b}(e:YD G P Q st)(aa:st.wait=a::b){M B}(K:BK R M B a.As)(S:P<=80000000)(U:Q<=10000000):Ae5 G a b P Q st:=by
 have r:a∈st.wait:=by rw[aa];exact aG
 obtain⟨v,y,A,p,J⟩:=e.wt.wt a r;have j:(Cw st a b).out.length=st.out.length:=CF _ _ _ v.lt;have u:=e.has a r;have hinv:BX {Cw st a b with Au:=(Cw st a b).Au++[[]]}:=⟨fun i E d I k o=>(e.inv.hole i E d I k o).more (eQ j.symm),by simp⟩;have L:F3 {Cw st a b with Au:=(Cw st a b).Au++[[]]}:=by
  refine⟨fun h ab=>?_,fun l f s z=>?_⟩;obtain⟨k,o,O,c,d⟩:=e.wt.wt h UV;exact⟨k.more (eQ j.symm),o,O,c,d⟩;rcases aV.1 f with f|f;exact(e.wt.su l f s z).more (eQ j.symm);rw[dM]at f;subst f;simp at z
 have x:EU {Cw st a b with Au:=(Cw st a b).Au++[[]]} (some a.hid) A:=J;have g:=Kx F (hid:=some a.hid) (K.Adc p) y p (fun _=>x) u hinv L (fun h ab=>e.has h UV);have X:(st.wait.map KC).sum=KC a+(b.map KC).sum:=by rw[aa];simp
 have ac:FI st=st.out.length+(10000*szT (a.n+1) a.v+(b.map fun a=>10000*szT (a.n+1) a.v).sum):=by unfold FI;rw[aa];simp
 have ad:FI {Cw st a b with Au:=(Cw st a b).Au++[[]]}=st.out.length+(b.map fun a=>10000*szT (a.n+1) a.v).sum:=by
  show(Cw st a b).out.length+_=_;rw[j];rfl
 have Y:=e.FI;have V:=e.cnt;have ah:=Aep b fun h ab=>Aay (e.has h UV)
 have Z:((D6 G a.n a.As (some a.hid) a.v (Cw st a b)).wait.map KC).sum+1<=(b.map KC).sum+KC a:=g.mu;have af:(D6 G a.n a.As (some a.hid) a.v (Cw st a b)).Au.length=st.Au.length+1:=by
  have:(D6 G a.n a.As (some a.hid) a.v (Cw st a b)).Au.length=((Cw st a b).Au++[[]]).length:=g.Au;rw[this,aR];rfl
 have ae:FI (D6 G a.n a.As (some a.hid) a.v (Cw st a b))<=_:=g.FI;refine⟨hinv,⟨?_,?_,?_,?_⟩,⟨A,p,x⟩,v,y,u,⟨g.inv,g.wt,g.has,by omega,by omega⟩,by omega⟩;show(Cw st a b).out.length+_<=_;rw[j];omega;show b.length+_<=_;omega;show((Cw st a b).Au++[[]]).length<=_;rw[aR];show st.Au.length+1<=_;omega;show(((Cw st a b).Au++[[]]).getLastD []).length+_<=_;rw[fS,List.getLast?_append];simp;omega
theorem Lc{G st}(a)(b:st.wait=[]):wRest G a st=st:=by
 cases a with
 | zero=>rfl
 | succ a=>unfold wRest;rw[b]
theorem MF{G st}{a:Wt}{e}(b)(f:st.wait=a::e):wRest G (b+1) st=wRest G b (D6 G a.n a.As (some a.hid) a.v (Cw st a e)):=by
 rw[wRest,f];rfl
theorem YA(P:aE->Nat->Prop):∃ f:aE->Nat,∀ w n,P w n->P w (f w)/\f w<=n:=by
 have g:∀ w,∃ m,∀ n,P w n->P w m/\m<=n:=fun w=>by
  by_cases h:∃ n,P w n;obtain⟨n,a⟩:=h;have:∃ m,P w m/\∀ k,P w k->m<=k:=by
   induction n using Nat.strongRecOn with
   | ind n r=>
    by_cases j:∃ m,m<n/\P w m;obtain⟨m,b,e⟩:=j;exact r m b e;exact⟨n,a,fun m p=>eZ fun o=>j ⟨m,o,p⟩⟩
  obtain⟨m,b,e⟩:=this;exact⟨m,fun n a=>⟨b,e n a⟩⟩;exact⟨0,fun n a=>absurd ⟨n,a⟩ h⟩
 exact⟨fun w=>Classical.choose (g w),fun w=>Classical.choose_spec (g w)⟩
def WLi(c:Cx)(b o:Nat)(f:Wr)(a:Nat)(wr:aE):Prop:=∃ e k h j g st,BO c b wr o e k h j g st/\YD c.G 80000000 10000000 st/\wRest c.G a st=f/\(st.wait.map KC).sum<=a
def JR(G:Nat->aD It)(n:Nat)(a:Nd (Tr n)):Wr:=wRest G ((G 0).length+1001*Tw a) (D6 G n (G 0) none a IM)
theorem ZF{R G}(f:VD R G){n}{a:Nd (Tr n)}(r:R 0=true)(u:Db G (n+1) (G 0) a=true)(M:Tw a<=8000):
 BX {IM with Au:=IM.Au++[[]]}/\Q8 (10000*szT (n+1) a) {IM with Au:=IM.Au++[[]]}/\YD G 80000000 10000000 (D6 G n (G 0) none a IM)/\((D6 G n (G 0) none a IM).wait.map KC).sum<=(G 0).length+1001*Tw a:=by
 obtain⟨v,O,h⟩:=f.2 0 r;have j:=f.1 0;have E:=j.1;have o:BX {IM with Au:=IM.Au++[[]]}:=⟨fun i B d F p y=>by simp[IM]at p,by simp[IM]⟩;have x:F3 {IM with Au:=IM.Au++[[]]}:=⟨fun e g=>by simp[IM]at g,fun l k s h=>by simp[IM]at k;subst k;simp at h⟩;have b:=Kx f (hid:=none) v j h (fun e=>by cases e) u o x (fun e g=>by simp[IM]at g);have z:szT (n+1) a=Tw a:=rfl;have A:Tw a=1+a.run.length+(a.kids.map (szT n)).sum:=rfl;have K:FI (D6 G n (G 0) none a IM)<=_:=b.FI;have I:FI {IM with Au:=IM.Au++[[]]}=0:=rfl;have L:(D6 G n (G 0) none a IM).Au.length=1:=b.Au;have J:((D6 G n (G 0) none a IM).wait.map KC).sum+1<=0+_:=b.mu;refine⟨o,⟨?_,?_,?_,?_⟩,⟨b.inv,b.wt,b.has,by omega,by omega⟩,by omega⟩;all_goals simp[IM]
 all_goals omega
theorem N0(c)(ap:DO c)(E:VD c.R c.G)(e)(w)(b)(X aj ah)(ai)(ad)(A:BO c e w b X aj ah ai ad IM)(af ak n co ar g cn aq)(f:Nd (Tr n))(be:c.R 0=true)(ca:BM g c.w0 cn aq af false (c.G 0))(dl:aq<=c.w0.heap.size)(cj:GS (Cb n) w co ar ak f)(dk:ar<=e)(bx:Db c.G (n+1) (c.G 0) f=true)(dr:Tw f<=8000):
 Calls prog 52 #[P0 b,P0 af,P0 ak] w fun a w'=>a=.returned (.tuple #[])/\Below e w w'/\(∃ X aj ah ai ad,BO c e w' b X aj ah ai ad (JR c.G n f))/\YD c.G 80000000 10000000 (JR c.G n f):=by
 obtain⟨ci,bh,b1,b4⟩:=ZF E be bx dr;obtain⟨cf,d6,cc⟩:=E.2 0 be;have bd:=G6 c e w b X aj ah ai ad IM _ A (by simp[IM]) af (P0 ak) (.pointer none) none trivial
  (KG c ap E e b (n+1) w (c.G 0) false false false false g cn aq af co ar ak f none (.pointer none) {IM with Au:=IM.Au++[[]]} d6 ca dl cf (E.1 0).1 cj dk bx cc (fun a=>by cases a) ci bh)
 obtain⟨cm,b2⟩:=YA fun wr g=>WLi c e b (JR c.G n f) g wr
 have a4:=Aa b2;clear b2;have a7:=Aa bd;have a3:=Aa b1;have a6:=Aa b4;have cy:=Aa ap;have a2:=Aa E;clear A ca cj bd b1 b4 ci bh cf cc ap E;go_enter func52,ntmps52;go_wp2_with fail;refine a7.o.mono ?_;rintro a w1⟨rfl,bi,c9,ec,d8,ea,eq,b5⟩;have r:=Aa (show WLi c e b (JR c.G n f) ((c.G 0).length+1001*Tw f) w1 from⟨c9,ec,d8,ea,_,_,b5,a3.o,rfl,a6.o⟩);have az:=Aa bi;clear b5 bi a7 a3 a6;go_wp2;go_loopw [6] (fun _ wr=>Hid (Below e w wr)/\Hid (∃ g,WLi c e b (JR c.G n f) g wr)) (fun _ wr=>cm wr)
 case atStart=>exact⟨az,(⟨_,r.o⟩:∃ g,WLi c e b (JR c.G n f) g w1)⟩
 case round=>
  clear r az;obtain⟨bl,bq⟩:=hrel;obtain⟨dh,bu⟩:=bq.out;obtain⟨br,_⟩:=a4.o wr dh bu;have a0:=Aa br;clear bu bq;generalize bv:cm wr=ba at*;have c0:=Aa bv;clear bv br;obtain⟨an,et,cs,ct,bm,st,j,b3,cb,b8⟩:=a0.o;clear a0;have r:=Aa b3;have a8:=Aa cb;have c4:=Aa b8;clear b3 cb b8;obtain⟨d4,de,ch⟩:=S4 (j.wait.choose_spec.1);have L:wr.cell? (A0 b 48)=some (.slice d4 st.wait.length de):=by rw[<- ch];exact j.Ap.cell 48
  have a5:=Aa j
  cases F:st.wait with
  | nil=>
   have a1:=Aa (show JR c.G n f=st by rw[<- a8.o];exact Lc _ F);rw[F]at L;simp only[cP]at L;clear j;go_wp2;go_end0;refine⟨rfl,bl.out,?_,?_⟩;rw[a1.o];exact⟨_,_,_,_,_,a5.o⟩;rw[a1.o];exact r.o
  | cons a p=>
   obtain⟨Y,ae,M,y,o,k,rfl,eh,ei,h,cg⟩:=j.Yk F;clear L ch;obtain⟨d7,es,df,di,dx,dm,S,U,I,V⟩:=h.part;obtain⟨cp,bz,cq,cr⟩:=h.val;have cu:=Abj a2.o r.o F I (aB _) (aB _);have em:=j.ge b aG;have L:q_ wr b 48 (.slice (some (A0 Y ae)) (p.length+1) M):=j.Ap.cell 48;have dc:∀ x,(wr.alloc x).cell? (A0 b 48)=some (.slice (some (A0 Y ae)) (p.length+1) M):=fun x=>(Ac.alloc j.Ap x).cell 48
   have dj:∀ x,(wr.alloc x).frozen? (A0 b 48)=false:=fun x=>(Ac.alloc j.Ap x).frozen 48
   have ds:=h.c0;have dt:=h.c1;have cl:=h.c2;have du:=h.c3;have dv:=h.c4;have dw:=h.c5;have ek:(0:Int)<((p.length:Nat):Int)+1:=kX;have u:=Aa cu;have c8:=Aa cg;have c2:=Aa h;have c6:=Aa (And.intro S (And.intro U (And.intro I V)));have am:=Aa (And.intro cq cr);have c7:=Aa F;clear j cu cg h S U I V cq cr F;obtain⟨K,bg⟩:∃ K,(if M=1 then some ((A0 Y ae):Addr)else some (A0 Y (ae+6)))=K:=⟨_,rfl⟩;have ay:=Aa bg;go_wp2_with fail;clear bg ds dt cl du dv dw L dc dj;have av:=c8.o wr K (aO _ _) (fun A=>by rw[<- ay.o,aF A]) (fun A=>by rw[<- ay.o,aC A]);have cd:(wr.setCell (A0 b 48) (.slice K p.length (M-1))).heap.size=wr.heap.size:=by simp[World.setCell]
   generalize wr.setCell (A0 b 48) (.slice K p.length (M-1))=z at*;have B:=Ac.new z #[P0 y,P0 o,P0 k,I0 (a.ho.pl:Nat),I0 (a.ho.w:Nat),.func (.func (BR a.ho.low)) #[] #[]] 192;rw[cd]at B;have ab:Below z.heap.size z (z.alloc (.cells #[P0 y,P0 o,P0 k,I0 (a.ho.pl:Nat),I0 (a.ho.w:Nat),.func (.func (BR a.ho.low)) #[] #[]] 192)):=(aO _ _).alloc (aB _) _;have el:(z.alloc (.cells #[P0 y,P0 o,P0 k,I0 (a.ho.pl:Nat),I0 (a.ho.w:Nat),.func (.func (BR a.ho.low)) #[] #[]] 192)).heap.size=wr.heap.size+1:=by simp[cd]
   generalize z.alloc (.cells #[P0 y,P0 o,P0 k,I0 (a.ho.pl:Nat),I0 (a.ho.w:Nat),.func (.func (BR a.ho.low)) #[] #[]] 192)=J at*;have eg:e<=wr.heap.size:=kX;have Z:=av.1.B9 (ab.mono kX) (fun aw _ bb=>ab.block aw bb);have bc:=av.2.trans (ab.mono kX);have dy:=B.c3;have dz:=B.c4;have d0:=B.c5;obtain⟨d3,dd,bo⟩:=B3 Z.out;have db:J.cell? (A0 b 46)=some (.slice d3 st.out.length dd):=by have:=Z.Ap.cell 46;rw[bo]at this;exact this
   have c1:=Aa B;have c3:=Aa Z;have cv:=Aa bc;have ej:st.out.length<=80000000:=by
    have O:=r.o.FI;unfold FI at O;omega
   have c5:=Aa (show∀ q,an.ownBlock=some q->q<wr.heap.size from fun q a=>(a5.o.out.lt q a).2);clear B Z bc ab av bo;refine AX 8 _ rfl rfl kZ kZ ?_;refine gq ?_;have bp:Below e J (J.drewN 1):=⟨rfl,rfl,rfl,aB _,fun _ _=>rfl⟩;refine(LB c e (J.drewN 1) b an _ cs ct bm _ (c3.o.B9 bp (fun _ _ _=>rfl)) a.ho u.o.ho st.out.length kX lB).mono ?_;rintro ee al⟨rfl,b6,bj,b0⟩;have ac:Ac al wr.heap.size #[P0 y,P0 o,P0 k,I0 (a.ho.pl:Nat),I0 (a.ho.w:Nat),.func (.func (BR a.ho.low)) #[] #[]] 192:=by
    have O:=c1.o;unfold Ac at*;rw[b0 wr.heap.size (by show wr.heap.size<J.heap.size;omega) kX (fun a=>by have:=c5.o wr.heap.size a.symm;omega)];exact O
   have en:=ac.c0;have eo:=ac.c1;have ep:=ac.c2;have ao:=cv.o.trans (bp.trans bj);obtain⟨d5,au,b9⟩:=u.o.AS;obtain⟨S,U,I,V⟩:=c6.o;have ck:GS (Cb a.n) al cp bz o a.v:=Cb.mono (a.n+1) (x:=a.v) am.o.1 (fun aw _ cl=>ao.block aw (by have:=am.o.2;omega)) (aB _) (aB _);have ce:(Cw st a p).Au.length<=100000000:=by
    have O:=r.o.cnt;show st.Au.length<=_;omega
   have cz:=Aa (G6 c e al b an _ cs ct bm (Cw st a p) _ b6 ce y (P0 o) (P0 k) (some a.hid) ⟨k,rfl,c2.o.hid⟩
    (KG c cy.o a2.o e b (a.n+1) al a.As false df true d7 di dx dm y cp bz o a.v (some a.hid) (P0 k) _ d5 S U (I.Adc au) V ck am.o.2 u.o.has au (fun _=>b9) u.o.inv u.o.bd))
   have cw:=Aa (bl.out.trans ao);clear b6 bj b0 ac ao au b9 S U I V ck ce dy dz d0 db;simp only;refine bL ?_;go_wp2_with fail;refine cz.o.mono ?_;rintro ef ax⟨rfl,bk,da,ed,d9,eb,er,b7⟩;have dp:=u.o.mu;have dq:=c4.o;obtain⟨v,rfl⟩:∃ v,ba=v+1:=⟨ba-1,by omega⟩;have bf:WLi c e b (JR c.G n f) v ax:=⟨da,ed,d9,eb,_,_,b7,u.o.next,by rw[<- a8.o,MF v c7.o];rfl,by show((D6 c.G a.n a.As (some a.hid) a.v (Cw st a p)).wait.map KC).sum<=v;omega⟩;have a9:=Aa bf;have cx:=Aa (cw.o.trans bk);clear b7 bk dp dq bf;go_wp2;go_roundw
   case rel=>exact⟨cx,(⟨v,a9.o⟩:∃ g,WLi c e b (JR c.G n f) g ax)⟩
   case measure=>
    have O:=(a4.o ax v a9.o).2;have bb:=c0.o;omega
theorem Yf(s a n)(b:CW s a 48 57=true):a+1<=(rdNum s s.size n a).2:=by
 have f:=A5 b
 cases g:s.size with
 | zero=>omega
 | succ e=>
  rw[rdNum,aF b];exact(F9 s e _ (a+1) kX).1
theorem Rc(s):∀ f b e l,(rdRun s f b e).1=some l->b+1+l.length<=(rdRun s f b e).2+e.length
 | 0,_,_,_,a=>by cases a
 | f+1,b,e,l,a=>by
  rw[rdRun]at a⊢;split at a;rename_i g;rw[aF g]
  cases a
  exact aB _;rename_i g;rw[aC g];split at a
  cases a
  rename_i h;rw[aC h];split at a
  cases a
  rename_i j;rw[aC j];have:=Rc s f _ _ l a;simp only[aR,eI]at this;omega
theorem PN{T:Type}{R:Nat->aM T × Nat}{o:T->Nat}(p:∀ b g,(R b).1=some g->b+o g<=(R b).2)(s h):∀ f b e l,(rdBetw R s h f b e).1=some l->b+(l.map o).sum<=(rdBetw R s h f b e).2+(e.map o).sum
 | 0,_,_,_,a=>by cases a
 | f+1,b,e,l,a=>by
  rw[rdBetw]at a⊢
  cases k:(R b).1 with
  | none=>rw[k]at a;cases a
  | some g=>
   have u:=p b g k;rw[k]at a;simp only at a⊢;split at a;rename_i j;rw[aF j]
   cases a
   simp only[dO,gM,bX,dV,cU,fD];omega;rename_i j;rw[aC j];split at a;rename_i r;rw[aF r];have:=PN p s h f _ _ l a;simp only[dO,gM,bX,dV,cU,fD]at this;omega
   cases a
theorem Rs{T:Type}{R:Nat->aM T × Nat}{k:T->Nat}(o:∀ a e,(R a).1=some e->a+k e<=(R a).2)(s j f a)(e:Nd T)(b:(Em R s j f a).1=some e):a+(e.run.length+(e.kids.map k).sum)<=(Em R s j f a).2:=by
 unfold Em at b⊢;split at b;rename_i g;rw[aF g]
 cases b
 simp;rename_i g;rw[aC g];unfold JY at b⊢
 cases h:(rdBetw R s f s.size a []).1 with
 | none=>simp only[h]at b;cases b
 | some l=>
  simp only[h,cO,gW]at b;subst b;have:=PN o s f s.size a [] l h;simpa using this
theorem Qd(s):∀ n b e,(A4 s n b).1=some e->b+szT n e<=(A4 s n b).2
 | 0,_,e,_=>Empty.elim e
 | n+1,b,e,a=>by
  have v:=Qd s n;have z:=RR n e;show b+szT (n+1) e<=(El (A4 s n) s b).2
  replace a:(El (A4 s n) s b).1=some e:=a;rw[z];unfold El at a⊢;split at a;rename_i j;rw[aF j];cases a;simp
  rename_i j;rw[aC j];split at a
  . rename_i k;rw[aF k];unfold Qj at a⊢
    cases f:(rdRun s s.size (b+1) []).1 with
    | none=>simp only[f]at a;cases a
    | some l=>
     rw[f]at a;have u:e=(⟨2,0,l,[]⟩:Nd (Tr n)):=(dH a).symm;subst u;have:=Rc s _ _ _ l f;simp only[cP,dV,fD]at this⊢;omega
  rename_i k;rw[aC k];split at a;rename_i o;rw[aF o];have:=Rs v s 3 41 (b+1) e a;omega;rename_i o;rw[aC o];split at a;rename_i p;rw[aF p];have:=Rs v s 4 93 (b+1) e a;omega;rename_i p;rw[aC p];split at a;rename_i r;rw[aF r];unfold IV at a⊢;split at a;rename_i g;rw[aF g];split at a
  . rename_i h;rw[aF h];unfold OA at a⊢
    cases f:(A4 s n (b+1+2)).1 with
    | none=>simp only[f]at a;cases a
    | some x=>
     rw[f]at a;have u:e=(⟨5,D1 s (b+1),[],[x]⟩:Nd (Tr n)):=(dH a).symm;subst u;have:=v _ x f;simp only[cP,bX,dV,cU,fD];omega
  cases a
  cases a
  rename_i r;rw[aC r];unfold Hz at a⊢;split at a;rename_i g;rw[aF g];cases a;simp
  rename_i g;rw[aC g];split at a;rename_i h;rw[aF h];split at a
  cases a
  rename_i y;rw[aC y]
  cases a
  have:=Yf s b 0 (by unfold CW at h⊢;simp only[bD]at h⊢;omega);simp only[cP,dV,fD];omega
  cases a
theorem LQ{b a}(f:BY b a=false):rulePt b a=[]:=by
 unfold rulePt
 cases g:b.find? (fun e=>e.r==(a:Int))with
 | none=>rfl
 | some e=>
  have h:=List.find?_some g;have j:=jR g;have:BY b a=true:=by
   unfold BY Dq;exact eS.2 ⟨e,j,h⟩
  rw[this]at f;cases f
theorem Z0(s)(g:(Be s).1=0):VD (BY (Ah s).Bj) (rulePt (Ah s).Bj):=by
 obtain⟨u,h,v,k⟩:=F8 s g;have j:∀ a,(rulePt (Ah s).Bj a).length<=1000:=fun a=>by
  cases b:BY (Ah s).Bj a with
  | false=>rw[LQ b];simp
  | true=>
   obtain⟨i,e,_,_,f⟩:=E7 b;rw[f];have:=((Fi s 8 65 0 kX h).2.1 _ (aU e)).len;omega
 refine⟨fun a=>?_,fun a b=>⟨GC s g a b,?_⟩⟩
 . cases b:BY (Ah s).Bj a with
   | false=>rw[LQ b];exact⟨by simp,by simp⟩
   | true=>exact(GC s g a b).Xx (j a)
 obtain⟨i,e,_,_,f⟩:=E7 b;obtain⟨p,o⟩:=LP (Ah s).Bj _ k _ (aU e);have r:=((Fi s 8 65 0 kX h).2.1 _ (aU e)).len;rw[f];exact⟨FN,s.size+1,p,by omega,o⟩
section
section
variable {m:Mx} {R:Nat->Bool} {G:Nat->aD It}
theorem N7(k:∀ i,CR (G i))(x:∀ i,R i=true->BK R false false (G i))(o:E5 m):∀ f i D E,WT m.s i D->EnA m R D->(allP m G f i D E).2.1=false
 | 0,_,_,_,_,_=>rfl
 | f+1,i,D,E,hb,he=>by
  rw[allP]
  cases p:D.es[i]? with
  | none=>
   obtain⟨a,e,_⟩:=hb;rw[dN (jS.1 p)]at e
   cases e
  | some a=>
   have A:=(bI.1 p).1;have z:D.es[i]=a:=(bI.1 p).2;simp only;obtain⟨b,j⟩:∃ b,Dx {D with cur:=[]} a.ho D.o.length=b:=⟨_,rfl⟩;have h:b.es=D.es:=by rw[<- j];rfl
   rw[j];obtain⟨g,L⟩:=he a (z▸aU A);have M:=QM (dn:=i+1) o k (a.n+1) a.As (some a.hid) a.t b g.1 g.2.1 (by rw[h];omega);have B:b.AS=D.AS:=by rw[<- j];rfl
   have K:=(Va k x o (a.n+1) a.As (some a.hid) a.t b (Or.inr ⟨_,_,g.2.2,fun _=>⟨_,rfl,by rw[B];exact L⟩⟩) g.1 g.2.1).2 ((GR.of h (by rw[B];exact aB _)).2 he);have J:OG m.s (i+1) (pT m G (a.n+1) a.As (some a.hid) a.t b):=by
    obtain⟨I,e,u,v⟩:=hb;rw[cF A,z]at e;rcases bB.1 e with rfl|e;exact Adk _ _ _ _ _ v u (by rw[h];omega);exact Or.inr (WT.more ⟨I,by rw[h];exact e,u,v⟩ (by rw[h];omega) M.es)
   generalize pT m G (a.n+1) a.As (some a.hid) a.t b=F at*;split;rename_i y;have r:F.ok=true:=by simp at y;exact y.1
   exact N7 k x o f (i+1) F.D _ (J.resolve_left Bc) K;rfl
structure Agm (st:Wr) (D:Dp):Prop where
 out:st.out=EA D.ts D.o
 wide:st.wide=NB D.ts
 UQ:InB D.ts D.o.length
 wt:F3 st
theorem PL(p:VD R G)(v:E5 m):∀ f st i D pre,Rel m i pre D st->BX st->F3 st->EnA m R D->
 ((∀ g∈st.wait,Db G (g.n+1) g.As g.v=true)->∀ b,(st.wait.map KC).sum<=b->(st.wait.map KC).sum<f->∃ D',allP m G f i D (pre++[D.cur])=((wRest G b st).Au,true,D')/\Agm (wRest G b st) D')/\
 ((∃ g∈st.wait,Db G (g.n+1) g.As g.v=false)->(allP m G f i D (pre++[D.cur])).2.1=false)
 | 0,st,i,D,pre,h,aw,E,he=>⟨fun _ b _ o=>by omega,fun _=>rfl⟩
 | f+1,st,i,D,pre,h,aw,E,he=>by
  have ai:∀ i,R i=true->BK R false false (G i):=fun i o=>(p.2 i o).1
  obtain⟨k,F,A,ae⟩:=h.wait
  cases k with
  | nil=>
   have bf:D.es[i]? = none:=by rw[jS];exact List.drop_eq_nil_iff.1 A
   refine⟨fun _ b _ _=>⟨D,?_,?_⟩,fun⟨g,o,_⟩=>by rw[F]at o;cases o⟩;rw[allP,bf,Lc b F,h.Au];rw[Lc b F];exact⟨h.out,h.wide,h.UQ,E⟩
  | cons a k=>
   have O:i<D.es.length:=cB fun o=>by rw[dN kX]at A;cases A
   rw[cF O]at A;obtain⟨ad,a7⟩:=jW A;have ab:D.es[i]? = some (Acg a):=by rw[bA O,ad]
   have y:st.wait=a.1::k.map Prod.fst:=F;have V:a.1∈st.wait:=by rw[y];exact aG
   obtain⟨Y,B,a1,ar,bi⟩:=E.wt a.1 V;obtain⟨aj,av,z,ax,au,ba⟩:=ae a aG;obtain⟨X,al⟩:=he (Acg a) (by rw[<- ad];exact aU O);have aa:(Cw st a.1 (k.map Prod.fst)).out.length=st.out.length:=CF _ _ _ Y.lt;obtain⟨j,x⟩:∃ s,({Cw st a.1 (k.map Prod.fst)with Au:=(Cw st a.1 (k.map Prod.fst)).Au++[[]]}:Wr)=s:=⟨_,rfl⟩;have hinv:BX j:=x▸⟨fun i f d bh S z=>(aw.hole i f d bh S z).more (eQ aa.symm),by simp⟩;have ay:F3 j:=by
    rw[<- x];refine⟨fun U L=>?_,fun l u s ap=>?_⟩;obtain⟨S,z,bp,c,d⟩:=E.wt U (by rw[y];exact aH _ L);exact⟨S.more (eQ aa.symm),z,bp,c,d⟩;rcases aV.1 u with u|u;exact(E.su l u s ap).more (eQ aa.symm);rw[dM]at u;subst u;simp at ap
   have am:EU j (some a.1.hid) a1:=x▸bi;have ac:j.wait=k.map Prod.fst:=by rw[<- x];rfl
   obtain⟨e,J⟩:∃ e,Dx {D with cur:=[]} a.1.ho D.o.length=e:=⟨_,rfl⟩;have bc:e.es=D.es:=by rw[<- J];rfl
   have Z:e.AS=D.AS:=by rw[<- J];rfl
   have ao:Rel m (i+1) (pre++[D.cur]) e j:=by
    have h0:Rel m (i+1) (pre++[D.cur]) {D with cur:=[]} {st with wait:=k.map Prod.fst,Au:=st.Au++[[]]}:=⟨h.out,h.UQ,h.wide,⟨k,rfl,a7,fun q ab=>ae q (aH _ ab)⟩,O,by rw[h.Au],h.AS⟩;have:=h0.tell a.1.ho st.out.length ⟨Y.lt,Y.le⟩;rw[<- x,<- J,h.len];exact this
   have aq:=Qp (pre:=pre++[D.cur]) (dn:=i+1) p.1 v (a.1.n+1) a.1.As (some a.1.hid) a.2 z a.1.v e j B av ax au ba ao hinv (fun bv g=>by
    cases g
    rw[ao.AS,Z];exact al)
   have bl:=(v.sk a.2 aj).1.det (PG (n:=a.1.n+1) v.s8 av ax au);have ah:=(Va p.1 ai v (a.1.n+1) a.1.As (some a.1.hid) a.2 e (Or.inr ⟨_,_,X.2.2,fun _=>⟨_,rfl,by rw[Z];exact al⟩⟩) B aj).2 ((GR.of bc (by rw[Z];exact aB _)).2 he);have bb:allP m G (f+1) i D (pre++[D.cur])=if((pT m G (a.1.n+1) a.1.As (some a.1.hid) a.2 e).ok&&decide ((pT m G (a.1.n+1) a.1.As (some a.1.hid) a.2 e).p=m.sk a.2))=true then allP m G f (i+1) (pT m G (a.1.n+1) a.1.As (some a.1.hid) a.2 e).D (pre++[D.cur]++[(pT m G (a.1.n+1) a.1.As (some a.1.hid) a.2 e).D.cur])else(pre++[D.cur]++[(pT m G (a.1.n+1) a.1.As (some a.1.hid) a.2 e).D.cur],false,(pT m G (a.1.n+1) a.1.As (some a.1.hid) a.2 e).D):=by
    rw[allP,ab];simp only;rw[<- J];rfl
   rw[bb]
   cases K:ZN G (a.1.n+1) a.1.As a.1.v with
   | false=>
    have a9:=(IP G (a.1.n+1)).no a.1.As a.1.v K;refine⟨fun o=>absurd (o a.1 V) (by rw[a9];simp),fun _=>?_⟩;have a8:=aq.no K;generalize pT m G (a.1.n+1) a.1.As (some a.1.hid) a.2 e=a2 at*;split;rename_i ak;have r:a2.ok=true:=by simp at ak;exact ak.1
    exact N7 p.1 ai v f (i+1) a2.D _ (a8.resolve_left Bc) ah;rfl
   | true=>
    obtain⟨a4,a5,a6⟩:=aq.yes K;obtain⟨bx,bo,a0⟩:=(IP G (a.1.n+1)).yes a.1.As (some a.1.hid) a.1.v j K;have hu:=DL p.1 (a.1.n+1) a.1.As (some a.1.hid) a.1.v j B hinv;have bm:=II p (a.1.n+1) a.1.As (some a.1.hid) a.1.v j false true true a1 X.2.2 B ar (fun _=>am) hinv ay;rw[aF (by rw[a4,a5,bl];simp)];have az:=PL p v f _ (i+1) _ _ a6 hu.inv bm ah;have bg:∀ b,wRest G (b+1) st=wRest G b (BH G (a.1.n+1) a.1.As (some a.1.hid) a.1.v j):=fun b=>by rw[MF b y,<- x];rfl
    refine⟨fun M b hF bq=>?_,fun M=>az.2 ?_⟩;have bd:=M a.1 V;have an:=Kx p (n:=a.1.n) (k:=a.1.As) (hid:=some a.1.hid) (v:=a.1.v) X.2.2 B ar (fun _=>am) bd hinv ay (fun U L=>M U (by rw[y];rw[ac]at L;exact aH _ L));have be:=an.mu;have br:(st.wait.map KC).sum=KC a.1+((k.map Prod.fst).map KC).sum:=by rw[y];simp
    rw[ac]at be;have bu:KC a.1=a.1.As.length+1001*(a.1.v.run.length+(a.1.v.kids.map (szT a.1.n)).sum):=rfl;obtain⟨b,rfl⟩:∃ a3,b=a3+1:=⟨b-1,by omega⟩;rw[bg];refine az.1 an.has b ?_ ?_;show((wIn G (BH G a.1.n) a.1.As (some a.1.hid) a.1.v j).wait.map KC).sum<=b;omega;show((wIn G (BH G a.1.n) a.1.As (some a.1.hid) a.1.v j).wait.map KC).sum<f;omega;obtain⟨g,I,af⟩:=M;rw[bo,ac];rw[y]at I;rcases bB.1 I with rfl|I;rw[af]at a0;obtain⟨q,bj,bk⟩:=iQ.1 a0.symm;exact⟨q,cE _ bj,gX.2 bk⟩;exact⟨g,bW _ I,af⟩
end
end

import Derived.Test.YtmlkhhhjdpbhfaaGreatDoorRows
import Derived.ProofKit
import Derived.LaidHandle
import Derived.LaidLaws
import Derived.OpenShut
import Derived.Stop.Joined
import Derived.Stop.LaidErr
import Derived.Carry
import Derived.Test.YtmlkhhhjdpbhfaaGreatDoorGe15
import Derived.Test.YtmlkhhhjdpbhfaaGreatDoorGe16
import Derived.Test.YtmlkhhhjdpbhfaaGreatDoorGe17
namespace Go.Proofs.YtmlkhhhjdpbhfaaGreatDoor
open Go.RowKit Go.Proofs.Tryz
set_option maxHeartbeats 4000000
set_option maxRecDepth 100000
variable{p q:Prop}(z:q)
theorem Pe(c)(p:DK c)(w st g j k v)(o:Cp c w st g j k v)(b a cw)(af:At c.As b (a::cw))(b5:Kc a)(q B)(ao:a.c=B)(A:B=110\/B=108):
 Calls prog 91 #[P0 c.pb,I0 b,.agg (AA st g c.bs.size j),.bool q] w fun e w'=>AO c w (AJ c.bs c.N a q k v st) e w':=by
 refine k2 ?_;intro f ah av ax aw an ay az a0 a1 ad bk bd bl aj ap ar ae;have bx:=o.inv.pl;have b1:=o.inv.en;have bh:=o.inv.rd;have cu:=o.inv.Af;have cn:=p.N;rw[ao]at ah;have ct:=b5.w Mj;have bm:Bl a st=a.w.toNat:=by unfold Bl;rw[aC kX,aC kX,aC kX]
 have bz:a.w=((Bl a st:Nat):Int):=by rw[bm];omega
 have c7:Bl a st<=4:=kX;rw[bz]at av;have cl:=Aa (MC a (c.bs.extract st.pl (st.pl+Bl a st)) (by have:=Fp c.bs st.pl (Bl a st);omega));have cq:Ae B=false:=by rcases A with rfl|rfl<;>rfl
 have b3:=Aa (show AJ c.bs c.N a q k v st=if AQ st.rd st.pl st.en (Bl a st)then Bs c.N k v (AB st (Bl a st)) (EY (Ie a (c.bs.extract st.pl (st.pl+Bl a st))))else CK k v st.pl st by
  unfold AJ;rw[aC (show¬ a.c=39 by omega),aC (show¬ (a.c=114\/a.c=46)by omega),aC (show¬ Ae a.c=true by rw[ao];rcases A with rfl|rfl<;>decide)])
 generalize Bl a st=n at*;have c0:=Aa o;have ce:=Aa ao;have cz:=Aa p;have ba:=Aa (EW.new o);clear f af o p ao bm b5 ct bz;refine kF ?_;intro au;unfold AA AE at ba au;unfold AA;go_enter func91,ntmps91;go_wp2_with fail;generalize(w.alloc (.cells (X_0 st.pl st.en g c.bs.size c.bs.size j st.Af) 140)).alloc (.cells X_2 140)=ab at*;have a3:=Aa (ba.o.below ((aO _ _).alloc (aB _) (.cells (X_4 B n a.b a.r a.d a.pl (b+a.nx) a.rl) 132)));have cb:=Aa (Ac.new ab (X_4 B n a.b a.r a.d a.pl (b+a.nx) a.rl) 132);rw[au]at cb;have c9:(ab.alloc (.cells (X_4 B n a.b a.r a.d a.pl (b+a.nx) a.rl) 132)).heap.size=w.heap.size+3:=lA;generalize ab.alloc (.cells (X_4 B n a.b a.r a.d a.pl (b+a.nx) a.rl) 132)=y at*;refine lc ?_;refine kj ?_;intro e w2 E b4 bj bc cc br b7 b6 b8 b9 ca bu a2 a9 bv bg _
 cases z:AQ st.rd st.pl st.en n
 exact Gx;obtain⟨h,co,b0,c8⟩:=b4 z;rw[co];rw[z]at b3;have ch:=Aa b0;have c6:st.pl+n<=c.bs.size:=by have:=Gn z;omega
 clear b4 bj z b0;have r:=Aa (bc.o.below ((aO _ _).alloc (aB _) (.cells (AA (AB st n) h c.bs.size j) 140)));have J:=Aa (Ac.new w2 (AA (AB st n) h c.bs.size j) 140);unfold AA AB at r J;simp only[cZ]at r J;unfold AA AB;go_wp2_with fail;have cm:=Aa (Ac.alloc cc (.cells (X_0 (st.pl+n) st.en h c.bs.size c.bs.size j st.Af) 140));have ci:=Aa (Ac.alloc ch.out (.cells (X_0 (st.pl+n) st.en h c.bs.size c.bs.size j st.Af) 140));generalize w2.alloc (.cells (X_0 (st.pl+n) st.en h c.bs.size c.bs.size j st.Af) 140)=c1 at*;have db:=J.o.c0;have dc:=r.o.box.c0;have da:=r.o.pg.c1;have cy:=cm.o.c0;rcases A with A|A;all_goals
  rw[A]at cy cq;clear bu a2 a9 bv bg;go_quiet (fail);go_wp2_with fail;refine(Pd a (c.bs.extract st.pl (st.pl+n)) lG _ (by rw[ce.o,A];rfl) _).mono ?_;rintro e cx⟨rfl,rfl⟩;generalize Ie a (c.bs.extract st.pl (st.pl+n))=am at*;have cs:=cl.o;go_wp2_with (first
   | (go_at_call 85;refine(E3 _ _).mono ?_;rintro e cx⟨rfl,rfl⟩))
  have F:=Aa (fun(W:aE) (x:Ac W w2.heap.size (X_0 (st.pl+n) st.en h c.bs.size c.bs.size j st.Af) 140)=>(⟨x.cell 0,x.cell 1,x.cell 2,x.cell 3,x.cell 4⟩:U5 W w2.heap.size (I0 (st.pl+n)) (I0 st.en) (S0 h c.bs.size c.bs.size) (S0 j 8 8) (I0 st.Af)));refine Cl (fun W=>U5 W w2.heap.size (I0 (st.pl+n)) (I0 st.en) (S0 h c.bs.size c.bs.size) (S0 j 8 8) (I0 st.Af)) [([0,1,2],3),([],4),([5,6,7],8),([],9),([],10)] rfl kZ (fun _ _ d _ _ x=>by cases d<;>exact x) (F.o _ J.o) ?_;refine kJ ?_;refine Ab _ rfl (fun W I=>rfl) ?_;refine Ab (.agg (X_0 (st.pl+n) st.en h c.bs.size c.bs.size j st.Af)) rfl (fun W I=>by obtain⟨h0,c2,c3,c4,c5⟩:=I;go_simp) ?_;refine Ab _ rfl (fun W I=>rfl) ?_;refine Ag ⟨_,rfl,rfl,?_⟩;unfold Oper.wp;go_simp;refine(OK am cs _).mono ?_;rintro e aq⟨rfl,cv,O⟩;have V:Hid (EW c w st g j k v aq):=by
   have x:EW c w st g j k v aq:=by rw[O];exact((r.o.drewN nq).drewN 1).drewN cv
   exact x
  have Y:Hid (Ac aq w2.heap.size (X_0 (st.pl+n) st.en h c.bs.size c.bs.size j st.Af) 140):=by rw[O];exact J.o
  have X:Hid (Ac aq h (Q9 (AB st n).rd) 4):=by rw[O];exact ci.o
  clear O;refine⟨F.o _ Y.o,?_⟩;refine Ag ⟨_,rfl,rfl,?_⟩;unfold Oper.wp;go_simp;have K:=Dd aq c.pb c.gb c.bs k c.N v 0 (AB st n) h c.bs.size j (EY am) V.o.pg cn cu;unfold AA AB at K;simp only[cZ]at K;refine K.mono ?_;clear K;rintro e cd⟨be,M,L⟩;obtain⟨a4,bi,bo,bb⟩:=V.o.next L M;have ak:=L.Ap Y.o Y.o.lt kX;have ai:=L.Ap X.o X.o.lt (Bf X.o V.o.pg lC);obtain⟨u,U,S,al⟩:=Gt c.N 0 (AB st n) h c.bs.size j (EY am);have ac:=bi.dp;have cf:Hid (AO c w (AJ c.bs c.N a q k v st) (EI u h c.bs.size j U S) (E8 cd (w.heap.size+1) (I0 u.pl) (I0 u.en) (S0 h c.bs.size c.bs.size) (S0 j 8 8) (I0 u.Af))):=by
   have x:AO c w (AJ c.bs c.N a q k v st) (EI u h c.bs.size j U S) (E8 cd (w.heap.size+1) (I0 u.pl) (I0 u.en) (S0 h c.bs.size c.bs.size) (S0 j 8 8) (I0 u.Af)):=by
    rw[b3.o,aF trivial];refine AO.made (st:=AB st n) (rb:=h) (db:=j) (a4.BB (b:=w.heap.size+1) kX _ _ _ _ _) al.symm (Ac.Ar M (b:=w.heap.size+1) kX _ _ _ _ _) ⟨Ac.Ar ai (b:=w.heap.size+1) kX _ _ _ _ _,Ac.Ar ac (b:=w.heap.size+1) (fun e=>?_) _ _ _ _ _,?_,bi.Og⟩;exact Bf ac bb lC e;exact Bf ai M lC
   exact x
  have cp:=be.trans al;subst cp;have Z:=Aa (Ac.Ar ak (b:=w.heap.size+1) kX (I0 u.pl) (I0 u.en) (S0 h c.bs.size c.bs.size) (S0 j 8 8) (I0 u.Af));have cj:=Aa ak;obtain⟨a5,a6,bf,a7,a8,bq⟩:=bb.Bi;clear a4 bi bo bb M L ak ai ac al be;unfold EI AA;simp only;refine⟨F.o _ cj.o,?_⟩;refine Ab (.agg (X_0 u.pl u.en h c.bs.size c.bs.size j u.Af)) rfl (fun W I=>by go_simp) ?_;refine Ab (.string ⟨U.toArray⟩) rfl (fun W I=>by go_simp) ?_;refine Ab (.bool S) rfl (fun W I=>by go_simp) ?_;refine Ag ⟨_,rfl,rfl,?_⟩;unfold Oper.wp;go_simp;refine⟨F.o _ Z.o,?_⟩;refine Ag ⟨_,rfl,rfl,?_⟩;unfold Oper.wp;go_simp;refine⟨F.o _ Z.o,?_⟩;refine Ag ⟨_,rfl,rfl,?_⟩;unfold Oper.wp;go_simp;refine⟨F.o _ Z.o,?_⟩;go_wp2;refine aT (v:=.tuple (X_6 (AA u h c.bs.size j) (⟨U.toArray⟩) S)) ld rfl ?_;exact cf.o
theorem Pg(c)(p:DK c)(w st g j k v)(o:Cp c w st g j k v)(b a c0)(af:At c.As b (a::c0))(U:Kc a)(q x)(ao:a.c=x)(A:x=104\/x=107):
 Calls prog 91 #[P0 c.pb,I0 b,.agg (AA st g c.bs.size j),.bool q] w fun e w'=>AO c w (AJ c.bs c.N a q k v st) e w':=by
 refine k2 ?_;intro f ah av ax aw an ay az a0 a1 ad bk bd bl aj ap ar ae;have bx:=o.inv.pl;have b1:=o.inv.en;have bh:=o.inv.rd;have dw:=o.inv.Af;have df:=p.N;rw[ao]at ah;have cy:=U.w Mj;have ak:Bl a st=a.w.toNat:=by unfold Bl;rw[aC kX,aC kX,aC kX]
 have ch:a.w=((Bl a st:Nat):Int):=by rw[ak];omega
 have dp:Bl a st<=4:=kX;rw[ch]at av;obtain⟨d,cf⟩:∃ d:Nat,a.d=(d:Int):=⟨a.d.toNat,by have:=U.it.d Mj;omega⟩;have ai:d<8:=by have:=U.it.d Mj;omega
 have dj:(d:Int)<8:=kX;rw[cf]at an;have c5:=Aa (MC a (c.bs.extract st.pl (st.pl+Bl a st)) (by have:=Fp c.bs st.pl (Bl a st);omega));have cv:Ae x=true:=by rcases A with rfl|rfl<;>rfl
 have b3:=Aa (show AJ c.bs c.N a q k v st=if AQ st.rd st.pl st.en (Bl a st)then BW k v {AB st (Bl a st)with Ai:=fun L=>if L=d then(Ie a (c.bs.extract st.pl (st.pl+Bl a st)),Bl a st)else st.Ai L} []else CK k v st.pl st by
  unfold AJ;rw[aC (show¬ a.c=39 by omega),aC (show¬ (a.c=114\/a.c=46)by omega),aF (show Ae a.c=true by rw[ao];rcases A with rfl|rfl<;>decide),show a.d.toNat=d by omega,<- ak])
 generalize Bl a st=n at*;have c4:=Aa o;have co:=Aa ao;have c3:=Aa p;have am:=Aa (EW.new o);clear f af o p ao ak U cy ch cf;refine kF ?_;intro au;unfold AA AE at am au;unfold AA;go_enter func91,ntmps91;go_wp2_with fail;generalize(w.alloc (.cells (X_0 st.pl st.en g c.bs.size c.bs.size j st.Af) 140)).alloc (.cells X_2 140)=ab at*;have a3:=Aa (am.o.below ((aO _ _).alloc (aB _) (.cells (X_4 x n a.b a.r d a.pl (b+a.nx) a.rl) 132)));have cb:=Aa (Ac.new ab (X_4 x n a.b a.r d a.pl (b+a.nx) a.rl) 132);rw[au]at cb;have dt:(ab.alloc (.cells (X_4 x n a.b a.r d a.pl (b+a.nx) a.rl) 132)).heap.size=w.heap.size+3:=lA;generalize ab.alloc (.cells (X_4 x n a.b a.r d a.pl (b+a.nx) a.rl) 132)=y at*;refine lc ?_;refine kj ?_;intro e w2 E b4 bj bc cc br b7 b6 b8 b9 ca bu a2 a9 bv bg _
 cases z:AQ st.rd st.pl st.en n
 exact Gx;obtain⟨h,cu,ci,ds⟩:=b4 z;rw[cu];rw[z]at b3;have cp:=Aa ci;have dk:st.pl+n<=c.bs.size:=by have:=Gn z;omega
 clear b4 bj z ci;have r:=Aa (bc.o.below ((aO _ _).alloc (aB _) (.cells (AA (AB st n) h c.bs.size j) 140)));have I:=Aa (Ac.new w2 (AA (AB st n) h c.bs.size j) 140);unfold AA AB at r I;simp only[cZ]at r I;unfold AA AB;go_wp2_with fail;have J:=Aa (Ac.alloc cc (.cells (X_0 (st.pl+n) st.en h c.bs.size c.bs.size j st.Af) 140));have ba:=Aa (Ac.alloc cp.out (.cells (X_0 (st.pl+n) st.en h c.bs.size c.bs.size j st.Af) 140));generalize w2.alloc (.cells (X_0 (st.pl+n) st.en h c.bs.size c.bs.size j st.Af) 140)=S at*;have c1:=I.o.c0;have c2:=r.o.box.c0;have cz:=r.o.pg.c1;have cl:=J.o.c0;rcases A with A|A;all_goals
  rw[A]at cl cv;clear bu a2 a9 bv bg;have cm:=J.o.c1;have cn:=J.o.c4;go_quiet (fail);go_wp2_with fail;refine(Pd a (c.bs.extract st.pl (st.pl+n)) lG _ (by rw[co.o,A];rfl) _).mono ?_;rintro e u⟨rfl,rfl⟩;generalize Ie a (c.bs.extract st.pl (st.pl+n))=cj at*;have V:=Aa (r.o.drewN nq);have Y:Hid (Ac (S.drewN nq) w2.heap.size (X_0 (st.pl+n) st.en h c.bs.size c.bs.size j st.Af) 140):=I.o;have Z:Hid (Ac (S.drewN nq) (w.heap.size+1+1) (X_4 x n a.b a.r d a.pl (b+a.nx) a.rl) 132):=J.o;have X:Hid (Ac (S.drewN nq) h (Q9 (AB st n).rd) 4):=ba.o;clear c1 c2 cz cl cm cn r I J ba;generalize S.drewN nq=B at*;obtain⟨c6,ac,dl,ce,bz,K,du,cd⟩:=T3 B j st.Ai V.o.sa.dp;have di:=ce 3;have b5:=Y.o.lt;have be:=Aa (Y.o.below K b5);have bm:=Aa (Z.o.below K Z.o.lt);have O:=Aa (X.o.below K X.o.lt);have F:=Aa (V.o.below K);have M:=Aa bz;have dx:=(Y.o.below cd b5).c3;have dy:=Z.o.c0;have cm:=bm.o.c1;have cn:=bm.o.c4;have c7:ac.cell? (A0 B.heap.size (d*2))=some (I0 ((st.Ai d).1:Int)):=by have:=M.o.cell (2*d);rw[(Gv st.Ai d ai).1]at this;rw[dB d 2];exact this
  have d1:ac.cell? (A0 B.heap.size (d*2+1))=some (I0 ((st.Ai d).2:Int)):=by have:=M.o.cell (2*d+1);rw[(Gv st.Ai d ai).2]at this;rw[dB d 2];exact this
  have c8:∀ al,ac.frozen? (A0 B.heap.size al)=false:=fun al=>M.o.frozen al
  obtain⟨c9,da,db,dc,dd,de⟩:=be.o.Bi;obtain⟨a5,a6,bf,a7,a8,bq⟩:=F.o.res.Bi;have cw:¬ B.heap.size=w.heap.size+1:=kX;have dm:¬ B.heap.size=w.heap.size+1+1:=kX;have cx:¬ B.heap.size=w2.heap.size:=kX;have dq:¬ w2.heap.size=w.heap.size+1:=kX;have dr:¬ w2.heap.size=w.heap.size+1+1:=kX;clear ce bz K cd;go_wp2_with (first
   | (go_at_call 85;refine(E3 _ _).mono ?_;rintro e u⟨rfl,rfl⟩))
  have dh:h<u.heap.size:=by have:=X.o.lt;omega
  have cs:=Bf O.o be.o lC;have ct:=Bf O.o F.o.res lC;have cq:=Bf O.o F.o.pg lC;have dv:=V.o.fr.size;have b0:=(M.o.set (d*2) (I0 cj)).set (d*2+1) (I0 n);rw[Ac1 st.Ai d ai]at b0;refine aT (v:=.tuple #[.agg (AA {AB st n with Ai:=fun L=>if L=d then(cj,n)else st.Ai L} h c.bs.size u.heap.size),.string ⟨#[]⟩,.bool true]) (by simp[results,results91,go_sem,AA,AB,a5,a6,bf,a7,a8]) rfl ?_;rw[b3.o,aF trivial];refine AO.fit (rb:=h) (db:=u.heap.size) ((((F.o.fr.setCell (p:=(A0 u.heap.size (d*2))) (Or.inr lB) _).setCell (p:=(A0 u.heap.size (d*2+1))) (Or.inr lB) _).setCell (p:=(A0 w2.heap.size 3)) (Or.inr lB) _).BB (b:=w.heap.size+1) kX _ _ _ _ _) rfl ?_ ⟨?_,?_,cq,by omega⟩
  . exact Ac.Ar (((Ac.Ad F.o.pg (A0 u.heap.size (d*2)) lB _).Ad (A0 u.heap.size (d*2+1)) lB _).Ad (A0 w2.heap.size 3) lB _) (b:=w.heap.size+1) kX _ _ _ _ _
  . exact Ac.Ar (((O.o.Ad (A0 u.heap.size (d*2)) lB _).Ad (A0 u.heap.size (d*2+1)) lB _).Ad (A0 w2.heap.size 3) cs _) (b:=w.heap.size+1) ct _ _ _ _ _
  . exact Ac.Ar (b0.Ad (A0 w2.heap.size 3) cx _) (b:=w.heap.size+1) cw _ _ _ _ _
theorem V2(c)(p:DK c)(w st g j k v)(o:Cp c w st g j k v)(b x Y)(af:At c.As b (x::Y))(al:Kc x)(ao:x.c=114)(q):
 Calls prog 91 #[P0 c.pb,I0 b,.agg (AA st g c.bs.size j),.bool q] w fun e w'=>AO c w (AJ c.bs c.N x q k v st) e w':=by
 refine k2 ?_;intro f ah av ax aw an ay az a0 a1 ad bk bd bl aj ap ar ae;have U:=o.inv.pl;have V:=o.inv.en;have X:=o.inv.rd;have c3:=o.inv.Af;have b0:=p.N;rw[ao]at ah;refine lf ?_;intro d ak ba bm;have bh:(st.Ai d).1=Bl x st:=by unfold Bl;rw[aC kX,aF ao,ak];simp
 have S:∀ A B F,(((w.alloc A).alloc B).alloc F).cell? (A0 j (d*2))=some (I0 ((Bl x st:Nat):Int)):=fun A B F=>by
  exact JJ
 have b1:Bl x st<4294967296:=by rw[<- bh];exact(o.inv.Ai d).1
 rw[ak]at an;have b3:=Aa (show AJ c.bs c.N x q k v st=if AQ st.rd st.pl st.en (Bl x st)then Bs c.N k v (AB st (Bl x st)) (CE (c.bs.extract st.pl (st.pl+Bl x st)))else CK k v st.pl st by
  unfold AJ;rw[aC (show¬ x.c=39 by omega),aF (show x.c=114\/x.c=46 from Or.inl ao)])
 generalize Bl x st=n at*;have bx:=Aa o;have Z:=Aa p;have y:=Aa (EW.new o);clear f af o p ao bh al ak;refine kF ?_;intro au;unfold AA AE at y au;unfold AA;go_enter func91,ntmps91;go_wp2_with fail;generalize(w.alloc (.cells (X_0 st.pl st.en g c.bs.size c.bs.size j st.Af) 140)).alloc (.cells X_2 140)=M at*;have a3:=Aa (y.o.below ((aO _ _).alloc (aB _) (.cells (X_18 x.w x.b x.r d x.pl (b+x.nx) x.rl) 132)));have cb:=Aa (Ac.new M (X_18 x.w x.b x.r d x.pl (b+x.nx) x.rl) 132);rw[au]at cb;have c9:(M.alloc (.cells (X_18 x.w x.b x.r d x.pl (b+x.nx) x.rl) 132)).heap.size=w.heap.size+3:=lA;generalize M.alloc (.cells (X_18 x.w x.b x.r d x.pl (b+x.nx) x.rl) 132)=O at*;clear S y ah av ax aw an ay az a0 a1 ad bk;refine(FF O _ st g c.bs.size j n a3.o.sa.rd X ae U V kX).mono ?_;exact nJ
theorem Y8(s a)(j:a+1<=s.size)(b)(e:b=s.extract a (a+1)):∃ h0,(b[0]'h0).toNat=bn s a:=by
 subst e;have h0:0<(s.extract a (a+1)).size:=lG;refine⟨h0,?_⟩;have f:=Cs s a kX;have g:=F0 s a;rw[f]at g;have h:(s.extract a (a+1))[0]=s[a]'kX:=by simp[jU]
 rw[h];omega
theorem WU(c)(p:DK c)(w st g j r k)(o:Cp c w st g j r k)(b a ct)(af:At c.As b (a::ct))(_:Kc a)(bi:a.c=39)(q):
 Calls prog 91 #[P0 c.pb,I0 b,.agg (AA st g c.bs.size j),.bool q] w fun e w'=>AO c w (AJ c.bs c.N a q r k st) e w':=by
 refine k2 ?_;intro f ah av ax aw an ay az a0 a1 ad bk bd bl aj ap ar ae;have cp:=o.inv.pl;have cq:=o.inv.en;have cr:=o.inv.rd;have cs:=o.inv.Af;have cf:=p.N;rw[bi]at ah;have v:=Aa (show AJ c.bs c.N a q r k st=if AQ st.rd st.pl st.en 1 then(if(bn c.bs st.pl:Int)≠a.b then CK r k st.pl st else if q then BW r k (AB st 1) []else Bs c.N r k (AB st 1) [45])else CK r k st.pl st by
  unfold AJ Bl;simp only[aF bi])
 have cy:=Aa o;have cx:=Aa p;have aq:=Aa (EW.new o);refine kF ?_;intro au;unfold AA AE at aq au;unfold AA;go_enter func91,ntmps91;go_wp2_with fail;generalize(w.alloc (.cells (X_0 st.pl st.en g c.bs.size c.bs.size j st.Af) 140)).alloc (.cells X_2 140)=U at*;have a3:=Aa (aq.o.below ((aO _ _).alloc (aB _) (.cells (X_10 a.w a.b a.r a.d a.pl (b+a.nx) a.rl) 132)));have cb:=Aa (Ac.new U (X_10 a.w a.b a.r a.d a.pl (b+a.nx) a.rl) 132);rw[au]at cb;have c8:(U.alloc (.cells (X_10 a.w a.b a.r a.d a.pl (b+a.nx) a.rl) 132)).heap.size=w.heap.size+3:=lA;generalize U.alloc (.cells (X_10 a.w a.b a.r a.d a.pl (b+a.nx) a.rl) 132)=b3 at*;refine(FF b3 _ st g c.bs.size j 1 a3.o.sa.rd cr ae cp cq kX).mono ?_;refine kj ?_;intro e w2 E b4 bj bc cc br b7 b6 b8 b9 ca bu a2 a9 bv bg _
 cases J:AQ st.rd st.pl st.en 1
 . rw[bj J];rw[J]at v;unfold AA;go_wp2_with fail;have z:=Aa (bc.o.below ((aO _ _).alloc (aB _) (.cells (X_0 st.pl st.en g c.bs.size c.bs.size j st.Af) 140)));refine(CH _ c.pb c.gb c.bs r c.N k 0 st.pl st g c.bs.size j z.o.pg).mono ?_;rintro e df⟨rfl,bo,cn⟩;obtain⟨F,M,ba,I⟩:=z.o.next cn bo;obtain⟨a5,a6,bf,a7,a8,cv⟩:=I.Bi;have bq:=Aa F;have bx:=Aa bo;unfold EI AA;go_wp2;refine aT (v:=.tuple (X_5 (AA st g c.bs.size j) (⟨#[]⟩))) ld rfl ?_;rw[v.o];simp only[bT,cT];exact AO.fail (bq.o.BB (b:=w.heap.size+1) kX _ _ _ _ _) rfl (Ac.Ar bx.o (b:=w.heap.size+1) kX _ _ _ _ _)
 obtain⟨h,ch,co,c7⟩:=b4 J;rw[ch];rw[J]at v;have b0:=Aa co;have cm:st.pl+1<=c.bs.size:=by have:=Gn J;omega
 have z:=Aa (bc.o.below ((aO _ _).alloc (aB _) (.cells (AA (AB st 1) h c.bs.size j) 140)));have L:=Aa (Ac.new w2 (AA (AB st 1) h c.bs.size j) 140);unfold AA AB at z L;simp only[cZ]at z L;unfold AA AB;go_wp2_with fail;have S:=Aa (Ac.alloc cc (.cells (X_0 (st.pl+1) st.en h c.bs.size c.bs.size j st.Af) 140));have b1:=Aa (Ac.alloc b0.out (.cells (X_0 (st.pl+1) st.en h c.bs.size c.bs.size j st.Af) 140));generalize w2.alloc (.cells (X_0 (st.pl+1) st.en h c.bs.size c.bs.size j st.Af) 140)=B at*;have dd:q_ B w2.heap.size 0 (I0 (st.pl+1)):=L.o.cell 0;have de:=z.o.box.c0;have dc:=z.o.pg.c1;have dh:=S.o.c0;have cu:=S.o.c2;go_quiet (fail);go_wp2_with fail;have c6:(c.bs.extract st.pl (st.pl+1)).size=1:=lG;obtain⟨h0,c9⟩:=Y8 c.bs st.pl cm _ rfl;have da:=LC c.bs st.pl;generalize c.bs.extract st.pl (st.pl+1)=cz at*;generalize bn c.bs st.pl=cd at*;have x:=Aa (z.o.drewN nq);have a4:Hid (Ac (B.drewN nq) w2.heap.size (X_0 (st.pl+1) st.en h c.bs.size c.bs.size j st.Af) 140):=L.o;have b2:Hid (Ac (B.drewN nq) (w.heap.size+1+1) (X_10 a.w a.b a.r a.d a.pl (b+a.nx) a.rl) 132):=S.o;have A:Hid (Ac (B.drewN nq) h (Q9 (AB st 1).rd) 4):=b1.o;generalize B.drewN nq=b5 at*;have cu:=b2.o.c2;have c5:=a4.o.lt;obtain⟨bu,a2,a9,bv,bg,_⟩:=x.o.box.Bi;obtain⟨c0,c1,c2,c3,c4,_⟩:=a4.o.Bi;obtain⟨a5,a6,bf,a7,a8,cv⟩:=x.o.res.Bi;have be:=Bf A.o x.o.res lC;have X:=Bf A.o x.o.pg lC;have bb:=Bf x.o.sa.dp x.o.res lC;by_cases bh:(cd:Int)=a.b
 . rw[aF trivial,aC (fun V=>V bh)]at v
   cases q with
   | true=>
    rw[aF rfl]at v;go_quiet (fail);go_wp2;refine aT (v:=.tuple #[.agg (AA (AB st 1) h c.bs.size j),.string ⟨#[]⟩,.bool true]) (by simp[results,results91,go_sem,AA,AB,a5,a6,bf,a7,a8]) rfl ?_;rw[v.o];have u:=x.o.drewN nq;exact AO.fit (rb:=h) (db:=j) (u.fr.BB (b:=w.heap.size+1) kX _ _ _ _ _) rfl (Ac.Ar u.pg (b:=w.heap.size+1) kX _ _ _ _ _) ⟨Ac.Ar (OM A.o nq) (b:=w.heap.size+1) be _ _ _ _ _,Ac.Ar u.sa.dp (b:=w.heap.size+1) bb _ _ _ _ _,X,u.sa.Og⟩
   | false=>
    rw[aC kY]at v;go_quiet (fail);go_wp2_with fail;have u:=Aa (x.o.drewN nq);have Y:=Dd (b5.drewN nq) c.pb c.gb c.bs r c.N k 0 (AB st 1) h c.bs.size j [45] u.o.pg cf cs;unfold AA AB at Y;simp only[cZ]at Y;refine Y.mono ?_;rintro e ac⟨ck,K,O⟩;obtain⟨F,M,ba,I⟩:=u.o.next O K;have cg:=O.Ap (OM A.o nq) A.o.lt X;obtain⟨y,ab,Z,bm⟩:=Gt c.N 0 (AB st 1) h c.bs.size j [45];have ce:=M.dp;have bz:Hid (AO c w (AJ c.bs c.N a false r k st) (EI y h c.bs.size j ab Z) (E8 ac (w.heap.size+1) (I0 y.pl) (I0 y.en) (S0 h c.bs.size c.bs.size) (S0 j 8 8) (I0 y.Af))):=by
     have V:AO c w (AJ c.bs c.N a false r k st) (EI y h c.bs.size j ab Z) (E8 ac (w.heap.size+1) (I0 y.pl) (I0 y.en) (S0 h c.bs.size c.bs.size) (S0 j 8 8) (I0 y.Af)):=by
      rw[v.o];exact AO.made (st:=AB st 1) (rb:=h) (db:=j) (F.BB (b:=w.heap.size+1) kX _ _ _ _ _) bm.symm (Ac.Ar K (b:=w.heap.size+1) kX _ _ _ _ _) ⟨Ac.Ar cg (b:=w.heap.size+1) be _ _ _ _ _,Ac.Ar ce (b:=w.heap.size+1) bb _ _ _ _ _,X,M.Og⟩
     exact V
    have cl:=ck.trans bm;subst cl;obtain⟨ai,ak,al,am,ao,cw⟩:=I.Bi;unfold EI AA;go_wp2;refine aT (v:=.tuple (X_6 (AA y h c.bs.size j) (⟨ab.toArray⟩) Z)) (by simp[results,results91,go_sem,AA,ai,ak,al,am,ao]) rfl ?_;exact bz.o
 rw[aF trivial,aF bh]at v;go_quiet (fail);go_wp2_with fail;have u:=Aa (x.o.drewN nq);refine(CH _ c.pb c.gb c.bs r c.N k 0 st.pl st g c.bs.size j u.o.pg).mono ?_;rintro e ac⟨rfl,K,O⟩;obtain⟨F,M,ba,I⟩:=u.o.next O K;obtain⟨ai,ak,al,am,ao,cw⟩:=I.Bi;have ci:=Aa F;have cj:=Aa K;unfold EI AA;go_wp2;refine aT (v:=.tuple (X_5 (AA st g c.bs.size j) (⟨#[]⟩))) (by simp[results,results91,go_sem,AA,ai,ak,al,am,ao]) rfl ?_;rw[v.o];exact Gl
theorem Cr.head{w base o z n f}(p:Cr w base o 6 z (n+1) f):
 ∃ a e b,z=.slice (some (A0 a e)) (n+1) b/\n+1<=b/\a<w.heap.size/\(∀ j,j<6->w.cell? (A0 a (e+j))=f[j]?)/\
  ∀ w' g,w'.heap[a]? = w.heap[a]? -> (b=1->g=some (A0 a e))->(b≠1->g=some (A0 a (e+6)))->Cr w' base o 6 (.slice g n (b-1)) n (f.drop 6):=by
 rcases p.2 with⟨_,h0⟩|⟨a,e,b,k,rfl,r,h,A,I,J,u⟩;omega;refine⟨a,e,b,rfl,A,(cW.1 h).1,fun j K=>?_,fun w' g y B E=>?_⟩;rw[<- u,eB kX,eM];simp[World.cell?,h];have x:(f.drop 6).length=n*6:=by rw[dQ,p.1];omega
 refine⟨x,Or.inr ?_⟩;by_cases v:b=1;rw[B v];have F:n=0:=kX;subst F;refine⟨a,e,b-1,k,rfl,r,by rw[y];exact h,by omega,by omega,by omega,?_⟩;have:f.drop 6=[]:=cG (by simpa using x);rw[this];simp;rw[E v];refine⟨a,e+6,b-1,k,rfl,r,by rw[y];exact h,by omega,by omega,by omega,?_⟩;rw[<- u,List.drop_take,iC];congr 1;omega
structure Aez (c:Cx) (B:Nat) (w:aE) (DR:aD Nat) (e:Wt) (g off pb vb hb:Nat):Prop where
 c0:w.cell? (A0 g off)=some (P0 pb)
 c1:w.cell? (A0 g (off+1))=some (P0 vb)
 c2:w.cell? (A0 g (off+2))=some (P0 hb)
 c3:w.cell? (A0 g (off+3))=some (I0 (e.ho.pl:Nat))
 c4:w.cell? (A0 g (off+4))=some (I0 (e.ho.w:Nat))
 c5:w.cell? (A0 g (off+5))=some (.func (.func (BR e.ho.low)) #[] #[])
 hid:DR[e.hid]? = some hb
 val:∃ lo2 hi2,GS (Cb e.n) w lo2 hi2 vb e.v/\hi2<=B
 part:∃ sl own ctx f lo hi,BM f c.w0 lo hi pb sl e.As/\hi<=c.w0.heap.size/\BK c.R own ctx e.As/\e.As.length<=1000
theorem BO.Yk{c A w o K af E I x st}{j:Wt}{b}(p:BO c A w o K af E I x st)(bc:st.wait=j::b):
 ∃ f k a y z v,af=.slice (some (A0 f k)) (b.length+1) a/\b.length+1<=a/\f<w.heap.size/\Aez c A w x j f k y z v/\
  ∀ w1 h,Below w.heap.size w w1->(a=1->h=some (A0 f k))->(a≠1->h=some (A0 f (k+6)))->BO c A (w1.setCell (A0 o 48) (.slice h b.length (a-1))) o K (.slice h b.length (a-1)) E I x {st with wait:=b}/\Below A w (w1.setCell (A0 o 48) (.slice h b.length (a-1))):=by
 have be:=p.ge o aG;have bd:GP c A w af x (j::b):=by rw[<- bc];exact p.wait
 obtain⟨a0,O,au⟩:=bd;obtain⟨f,k,a,rfl,a7,ay,a8,bb⟩:=Cr.head O;obtain⟨y,z,v,ae,ad,L,M,ab,U,ac,V,J,ah,ai,a1,aj,ak,al,a2⟩:=au 0 kY;simp only[dY]at J ah ai aj ak al;rw[hL,bS]at J;have bf:∀ g,g<6->a0[g]? = ([Value.pointer (some (A0 y 0)),P0 z,P0 v]++VG (some j.ho))[g]? := fun g F=>by rw[<- J,eB F]
 have B:∀ g,g<6->w.cell? (A0 f (k+g))=([Value.pointer (some (A0 y 0)),P0 z,P0 v]++VG (some j.ho))[g]? := fun g F=>(a8 g F).trans (bf g F)
 have X:=p.nd;rw[bZ]at X;have a9:f≠o:=fun j=>X.1 (j▸DA (tv:=.slice (some (A0 f k)) (b.length+1) a) rfl)
 refine⟨f,k,a,y,z,v,rfl,a7,ay,⟨B 0 kX,B 1 kX,B 2 kX,B 3 kX,B 4 kX,B 5 kX,ah,⟨ac,V,al,a2⟩,⟨ae,ad,L,M,ab,U,ai,a1,aj,ak⟩⟩,fun w1 h u av aw=>?_⟩;have bh:(w1.setCell (A0 o 48) (.slice h b.length (a-1))).heap.size=w1.heap.size:=by simp[World.setCell]
 have S:Below A w (w1.setCell (A0 o 48) (.slice h b.length (a-1))):=⟨u.os,u.tape,u.output,by have:=u.size;omega,fun aa bg=>by rw[aN _ _ _ _ lB];exact u.block aa kX⟩;have Y:∀ e,e≠o->e<w.heap.size->(w1.setCell (A0 o 48) (.slice h b.length (a-1))).heap[e]? = w.heap[e]? := fun e O a5=>by
  rw[aN _ _ _ _ O];exact u.block e a5
 have ba:(Value.slice h b.length (a-1)).ownBlock=(Value.slice (some (A0 f k)) (b.length+1) a).ownBlock:=by
  by_cases ax:a=1;rw[av ax];rfl;rw[aw ax];rfl
 have Z:E6 (.slice h b.length (a-1)) E I x=E6 (.slice (some (A0 f k)) (b.length+1) a) E I x:=by unfold E6;rw[ba]
 have a6:Ac w1 o (KE c.gb K st.wide (.slice (some (A0 f k)) (b.length+1) a) E) 120:=by
  have:=p.Ap;unfold Ac at*;rw[u.block o be.2];exact this
 refine⟨p.X5 S (by have:=a6.set 48 (.slice h b.length (a-1));rw[RA]at this;exact this) ?_ (by rw[Z];exact p.nd) (fun q j=>by rw[Z];exact p.nb q j) (fun e r=>?_) (fun e r=>?_),S⟩;refine⟨a0.drop 6,bb _ h (Y f a9 ay) av aw,fun g F=>?_⟩;obtain⟨y,z,v,ae,ad,L,M,ab,U,ac,V,am,an,ao,a3,ap,aq,ar,a4⟩:=au (g+1) lA;simp only[eF]at am an ao ap aq ar;refine⟨y,z,v,ae,ad,L,M,ab,U,ac,V,?_,an,ao,a3,ap,aq,Cb.mono (b[g].n+1) (x:=b[g].v) ar (fun aa _ bi=>S.block aa kX) (aB _) (aB _),a4⟩;rw[iC,<- am];congr 2;omega;rw[Z]at r;have:=p.ge e r;have:=u.size;omega;rcases r with r|r;have:=p.out.lt e r;exact Y e (fun j=>p.nb e r (j▸aG)) this.2;have az:e∈E6 (.slice (some (A0 f k)) (b.length+1) a) E I x:=by rw[Tt];exact cE _ r
 exact Y e (fun j=>X.1 (j▸az)) (p.ge e (aH _ az)).2
theorem j1(h:p:=by
 simp only[aQ,aJ]at ab ac af;simp[Leaves,settle,results,results27,go_sem,ab,ac,af,ad]):p:=h
abbrev l5(h:PLift q->p:=by
 intro aa;go_wp2_with fail;refine leaves_cons (f:=40) (args:=#[P0 w.heap.size,P0 (w.heap.size+1),P0 (w.heap.size+1+1)]) kY lL ?_;exact aa.1):p:=h ⟨z⟩
theorem R9{w b a t}(e:Ac w b #[a] t):w.setCell (A0 b 0) a=w:=by
 rw[setCell_eq_setRow w b 0 #[a] t (0,0) a e];exact setRow_self w b #[a] t (0,0) e
theorem Qy(w)(L)(bs:aA)(am N:Nat)(a:PO)(_hgb:L<w.heap.size)(hF:∀ w',Below w.heap.size w w'->Aac w')(bf:a.ok=true->a.t.length<=1000000000)(a9:∀ W,Below w.heap.size w W->Calls prog 41 #[P0 L,.string bs,I0 am,I0 N] W fun h w'=>Fm W a h w')(ba:a.e≠0->(endT a)=([],a.e,0))(bd:(endT a).2.1=0->a.ok=true):
 Calls prog 27 #[P0 L,.string bs,I0 am,I0 N] w fun h w'=>h=.returned (.tuple #[.string ⟨(endT a).1.toArray⟩,I0 ((endT a).2.1:Int),I0 ((endT a).2.2:Int)])/\Below w.heap.size w w':=by
 have ax:=Aa hF;have az:=Aa bf;have ar:=Aa a9;have au:=Aa ba;have ay:=Aa bd;go_enter_defers func27,ntmps27;go_wp2_with fail;have ap:Ac (((w.alloc (.cells #[.string ⟨#[]⟩] 9)).alloc (.cells #[I0 0] 27)).alloc (.cells #[I0 0] 3)) w.heap.size #[.string ⟨#[]⟩] 9:=Ac.alloc (Ac.alloc (Ac.new w _ _) _) _;have an:Ac (((w.alloc (.cells #[.string ⟨#[]⟩] 9)).alloc (.cells #[I0 0] 27)).alloc (.cells #[I0 0] 3)) (w.heap.size+1) #[I0 0] 27:=by
  have:=Ac.new (w.alloc (.cells #[.string ⟨#[]⟩] 9)) #[I0 0] 27;rw[show(w.alloc (.cells #[.string ⟨#[]⟩] 9)).heap.size=w.heap.size+1 by simp]at this;exact Ac.alloc this _
 have ao:Ac (((w.alloc (.cells #[.string ⟨#[]⟩] 9)).alloc (.cells #[I0 0] 27)).alloc (.cells #[I0 0] 3)) (w.heap.size+1+1) #[I0 0] 3:=by
  have:=Ac.new ((w.alloc (.cells #[.string ⟨#[]⟩] 9)).alloc (.cells #[I0 0] 27)) #[I0 0] 3;rw[show((w.alloc (.cells #[.string ⟨#[]⟩] 9)).alloc (.cells #[I0 0] 27)).heap.size=w.heap.size+1+1 by simp]at this;exact this
 have M:Below w.heap.size w (((w.alloc (.cells #[.string ⟨#[]⟩] 9)).alloc (.cells #[I0 0] 27)).alloc (.cells #[I0 0] 3)):=(((aO _ _).alloc (aB _) _).alloc kY _).alloc lA _;have bp:(((w.alloc (.cells #[.string ⟨#[]⟩] 9)).alloc (.cells #[I0 0] 27)).alloc (.cells #[I0 0] 3)).heap.size=w.heap.size+1+1+1:=kY;generalize((w.alloc (.cells #[.string ⟨#[]⟩] 9)).alloc (.cells #[I0 0] 27)).alloc (.cells #[I0 0] 3)=a3 at*;refine(ar.o a3 M).mono ?_;rintro h w2⟨g,⟨U,rfl⟩|⟨U,bx,rfl,bh,bo⟩⟩
 . have O:=M.trans (g.mono kX);have u:=ap.below g kX;have j:=an.below g kX;have k:=ao.below g kX;have aw:=au.o U;refine l5 ?_;refine(Abe w.heap.size (w.heap.size+1) (w.heap.size+1+1) a.e w2 ⟨#[]⟩ 0 0 u j k kX kX).mono ?_;rintro h aq bz⟨rfl,rfl,V,X,Y,Z⟩;have ab:=V.c0;have ac:=X.c0;have af:=Y.c0;have a8:=O.trans Z;rw[aw];simp[Leaves,settle,results,results27,go_sem,ab,ac,af,a8]
 have O:=M.trans (g.mono kX);have u:=Aa (ap.below g kX);have j:=Aa (an.below g kX);have k:=Aa (ao.below g kX);have bq:=g.size;have ae:=u.o.c0;have ah:=j.o.c0;have ai:=k.o.c0;have aj:=u.o.frozen 0;have ak:=j.o.frozen 0;have al:=k.o.frozen 0;have B:=Aa O;have a1:=Aa bh;by_cases f:(endT a).2.1=0
 . have x:endT a=(a.t,0,0):=by
    unfold endT at f⊢;rw[aC (fun a6=>a6 U)]at f⊢;split at f;simp at f;rw[aC (by assumption)];split at f;simp at f;rfl
   obtain⟨_,bl,a5,bj,bc,bk,bg,be,bb⟩:=a1.o f;subst bg;have E:=Aa x;rw[x];have br:=R9 j.o;have bu:=R9 k.o;have a0:=Aa (UH w2 a5 bj bc bl bk a.t be bb (fun w' a7=>ax.o w' (B.o.trans (a7.mono kX))) (az.o (ay.o f)));simp only;go_wp2_with fail;refine a0.o.mono ?_;rintro h y⟨rfl,z⟩;have o:=Aa (u.o.below z kX);have p:=Aa (j.o.below z kX);have r:=Aa (k.o.below z kX);have K:=Aa (B.o.trans (z.mono kX));have ae:=o.out.c0;have ah:=p.out.c0;have ai:=r.out.c0;have aj:=o.out.frozen 0;have ak:=p.out.frozen 0;have al:=r.out.frozen 0;have A:Hid (Below w.heap.size w (((y.setCell (A0 w.heap.size 0) (.string ⟨a.t.toArray⟩)).setCell (A0 (w.heap.size+1) 0) (I0 0)).setCell (A0 (w.heap.size+1+1) 0) (I0 0))):=((K.out.setCell (p:=(A0 w.heap.size 0)) (aB _) _).setCell (p:=(A0 (w.heap.size+1) 0)) lB _).setCell (p:=(A0 (w.heap.size+1+1) 0)) lB _;have F:Hid (Ac (((y.setCell (A0 w.heap.size 0) (.string ⟨a.t.toArray⟩)).setCell (A0 (w.heap.size+1) 0) (I0 0)).setCell (A0 (w.heap.size+1+1) 0) (I0 0)) w.heap.size #[.string ⟨a.t.toArray⟩] 9):=((o.out.set 0 _).Ad (A0 (w.heap.size+1) 0) lB _).Ad (A0 (w.heap.size+1+1) 0) lB _;have I:Hid (Ac (((y.setCell (A0 w.heap.size 0) (.string ⟨a.t.toArray⟩)).setCell (A0 (w.heap.size+1) 0) (I0 0)).setCell (A0 (w.heap.size+1+1) 0) (I0 0)) (w.heap.size+1) #[I0 0] 27):=((p.out.Ad (A0 w.heap.size 0) lB _).set 0 _).Ad (A0 (w.heap.size+1+1) 0) lB _;have J:Hid (Ac (((y.setCell (A0 w.heap.size 0) (.string ⟨a.t.toArray⟩)).setCell (A0 (w.heap.size+1) 0) (I0 0)).setCell (A0 (w.heap.size+1+1) 0) (I0 0)) (w.heap.size+1+1) #[I0 0] 3):=((r.out.Ad (A0 w.heap.size 0) lB _).Ad (A0 (w.heap.size+1) 0) lB _).set 0 _;refine l5 ?_;refine(RP _ _ _ _).mono ?_;rintro h aq bm⟨rfl,rfl,rfl⟩;rw[E.o];have ab:=F.o.cell 0;have ac:=I.o.cell 0;have af:=J.o.cell 0;have ad:=A.o;generalize((y.setCell (A0 w.heap.size 0) (.string ⟨a.t.toArray⟩)).setCell (A0 (w.heap.size+1) 0) (I0 0)).setCell (A0 (w.heap.size+1+1) 0) (I0 0)=a4 at*;exact j1
 have bi:¬ ((endT a).2.1:Int)=0:=kX;have a2:=Aa (show(endT a).1=[]by
  unfold endT at f⊢;split at f;rw[aF (by assumption)];rw[aC (by assumption)];split at f;rw[aF (by assumption)];rw[aC (by assumption)];split at f;rfl;simp at f)
 obtain⟨b,S⟩:∃ b,(endT a).2.1=b:=⟨_,rfl⟩;obtain⟨e,x⟩:∃ e,(endT a).2.2=e:=⟨_,rfl⟩;rw[S]at bi;rw[S,x];have av:=Aa S;have E:=Aa x;go_wp2_with fail;have V:=(u.o.Ad (A0 (w.heap.size+1) 0) lB (I0 b)).Ad (A0 (w.heap.size+1+1) 0) lB (I0 e);have X:=(j.o.set 0 (I0 b)).Ad (A0 (w.heap.size+1+1) 0) lB (I0 e);have Y:=(k.o.Ad (A0 (w.heap.size+1) 0) lB (I0 b)).set 0 (I0 e);have Z:=(B.o.setCell (p:=(A0 (w.heap.size+1) 0)) lB (I0 b)).setCell (p:=(A0 (w.heap.size+1+1) 0)) lB (I0 e);have o:=Aa V;have p:Hid (Ac ((w2.setCell (A0 (w.heap.size+1) 0) (I0 b)).setCell (A0 (w.heap.size+1+1) 0) (I0 e)) (w.heap.size+1) #[I0 b] 27):=X;have r:Hid (Ac ((w2.setCell (A0 (w.heap.size+1) 0) (I0 b)).setCell (A0 (w.heap.size+1+1) 0) (I0 e)) (w.heap.size+1+1) #[I0 e] 3):=Y;have K:=Aa Z;generalize(w2.setCell (A0 (w.heap.size+1) 0) (I0 b)).setCell (A0 (w.heap.size+1+1) 0) (I0 e)=v at*;have ae:=o.out.c0;have ah:=p.out.c0;have ai:=r.out.c0;have aj:=o.out.frozen 0;have ak:=p.out.frozen 0;have al:=r.out.frozen 0;have bv:¬ w.heap.size+1=w.heap.size:=kX;have A:Hid (Below w.heap.size w (((v.setCell (A0 w.heap.size 0) (.string ⟨#[]⟩)).setCell (A0 (w.heap.size+1) 0) (I0 b)).setCell (A0 (w.heap.size+1+1) 0) (I0 e)).drew):=(((K.out.setCell (p:=(A0 w.heap.size 0)) (aB _) _).setCell (p:=(A0 (w.heap.size+1) 0)) lB _).setCell (p:=(A0 (w.heap.size+1+1) 0)) lB _).drew;have F:Hid (Ac (((v.setCell (A0 w.heap.size 0) (.string ⟨#[]⟩)).setCell (A0 (w.heap.size+1) 0) (I0 b)).setCell (A0 (w.heap.size+1+1) 0) (I0 e)).drew w.heap.size #[.string ⟨#[]⟩] 9):=((o.out.set 0 (.string ⟨#[]⟩)).Ad (A0 (w.heap.size+1) 0) lB _).Ad (A0 (w.heap.size+1+1) 0) lB _;have I:Hid (Ac (((v.setCell (A0 w.heap.size 0) (.string ⟨#[]⟩)).setCell (A0 (w.heap.size+1) 0) (I0 b)).setCell (A0 (w.heap.size+1+1) 0) (I0 e)).drew (w.heap.size+1) #[I0 b] 27):=((p.out.Ad (A0 w.heap.size 0) lB _).set 0 _).Ad (A0 (w.heap.size+1+1) 0) lB _;have J:Hid (Ac (((v.setCell (A0 w.heap.size 0) (.string ⟨#[]⟩)).setCell (A0 (w.heap.size+1) 0) (I0 b)).setCell (A0 (w.heap.size+1+1) 0) (I0 e)).drew (w.heap.size+1+1) #[I0 e] 3):=((r.out.Ad (A0 w.heap.size 0) lB _).Ad (A0 (w.heap.size+1) 0) lB _).set 0 _;go_region
 refine l5 ?_;refine(RP _ _ _ _).mono ?_;rintro h aq bm⟨rfl,rfl,rfl⟩;rw[av.o,E.o,a2.o];have ab:=F.o.cell 0;have ac:=I.o.cell 0;have af:=J.o.cell 0;have ad:=A.o;generalize(((v.setCell (A0 w.heap.size 0) (.string ⟨#[]⟩)).setCell (A0 (w.heap.size+1) 0) (I0 b)).setCell (A0 (w.heap.size+1+1) 0) (I0 e)).drew=a4 at*;exact j1
theorem mm(h:p:=by
 cases l with
 | nil=>rw[show(Ah s).Bj=x::t from al]at bo;cases bo
 | cons q aa=>exact⟨q,aa,rfl⟩):p:=h
theorem Eu.below{w w'}(b:Eu w)(a:Below w.heap.size w w'):Eu w':=
 b.fr (B:=w.heap.size) (rb:=w.heap.size) ⟨a.os,a.tape,a.output,a.size,fun f e _=>a.block f e⟩ b.2 b.2
abbrev Cy(s:aA):aD Rl:=(Ah s).Bj
def G9(s bs:aA)(a N:Nat):PO:=tryT (rulePt (Cy s)) bs N (a+1) a 0 false (rulePt (Cy s) 0) (Ey bs)
theorem Pk(s)(h:(Ah s).ok=true):∃ b t,Cy s=b::t/\b.r=0:=by
 unfold Cy;unfold Ah at h⊢;rw[rulesV]at h⊢;split;exact Bg;rename_i ab;rw[aC ab]at h;have a:bt s 0-65=0:=by
  have:¬ ¬ (65<=bt s 0/\bt s 0<=65):=ab;omega
 split;exact C9;rename_i ac;rw[aC ac]at h;split;exact EQ;rename_i ai;rw[aC ai]at h;split;exact⟨_,_,rfl,a⟩;rename_i e;rw[aC e]at h;split;exact gz;exact⟨_,_,rfl,a⟩
theorem LD{a t}(b:a.r=0):rulePt (a::t) 0=a.As:=by
 unfold rulePt;rw[hP (by simpa using b)]
theorem Ac5(s W h)(K:RD s W h)(O:(Be s).1=0)(bs N)(J:bs.size<=4000)(I:N<=10000)(g r)(E:W.heap.size<=g)(F:g<r):DO ⟨W,h,g,r,bs,N,rulePt (Cy s),BY (Cy s),s⟩:=by
 obtain⟨S,l,y,z,A⟩:=K.ex;refine⟨E,F,J,I,⟨S,l,y,z,fun p f=>?_⟩,fun p f=>GC s O p f⟩;obtain⟨i,k,u,v,x⟩:=E7 f;have U:(l.map Prod.fst).length=(Cy s).length:=by rw[A]
 have e:i<l.length:=by simpa using(by omega:i<(l.map Prod.fst).length)
 have b:∀ a (j:a<l.length) (B:a<(Cy s).length),l[a].1=(Cy s)[a]:=fun a j B=>by
  have:(l.map Prod.fst)[a]'(by simpa using j)=(Cy s)[a]:=by congr 1
  simpa using this
 refine⟨i,e,by rw[b i e k];exact u,fun a L M=>?_,by rw[b i e k];exact x⟩;have o:a<(Cy s).length:=kX;rw[b a M o];exact v a L o
theorem Ae8{w}(a:MO w):Aac w:=fun n b=>Wi n b w a
theorem Z4(s w b)(J:RD s w b)(o:(Be s).1=0)(j:(Ah s).ok=true)(bs)(a N:Nat)(h:bs.size<=4000)(I:a<=100000)(g:N<=10000)(W:aE)(E:Below w.heap.size w W):
 Calls prog 41 #[P0 b,.string bs,I0 a,I0 N] W fun r w'=>Fm W (G9 s bs a N) r w':=by
 have k:=J.below E;obtain⟨x,t,al,M⟩:=Pk s j;obtain⟨Y,l,e,f,bo⟩:=k.ex;refine QB b bs s h a N I g _ _ W e.lt (fun V X A B=>Ac5 s W b k o bs N h g V X A B) ?_ (GC s o 0 (Fo s j));obtain⟨z,p,u,v,y⟩:=f.shape;obtain⟨q,aa,rfl⟩:∃ q aa,l=q::aa:=by
  exact mm
 have L:q.1=x:=by
  rw[show(Ah s).Bj=x::t from al]at bo;simpa using(jW bo).1
 obtain⟨O,K,_,S,U⟩:=f.rep q aG;have F:=(y 0 kY).2.2;refine⟨Y,z,_,p,q.2,s.size+1,O,K,e,u,by simp,v,by simpa using F,?_,S⟩;rw[show rulePt (Cy s) 0=q.1.As by rw[al,L];exact LD M];exact U
theorem LV(s)(a:(Be s).1=0):Be s=(0,0):=by
 obtain⟨g,b,e,f⟩:=F8 s a;unfold Be;rw[aC kX,aC (by rw[b];simp),aC (by rw[e];simp),aC (by rw[f];simp)]
theorem Zt(s bs)(b:(Be s).1=0)(o:(Ah s).ok=true)(a N)(k:bs.size<=4000)(z:N<=10000)(h:(G9 s bs a N).ok=true):(G9 s bs a N).t.length<=1000000000:=by
 have g:Eb bs N (Ey bs):=⟨bR _,aB _,by simp[Ey],bR _,fun d=>⟨by simp[Ey],by simp[Ey]⟩⟩;have j:=GC s b 0 (Fo s o);have r:=Hj k (rulePt (Cy s)) (fun f e=>GC s b f e) (a+1) a 0 false false false _ (Ey bs) j g h;have p:=(BQ (R:=BY (Cy s)) (rulePt (Cy s)) (fun f e=>GC s b f e) (a+1)).fit a 0 false false false _ (Ey bs) j g h;have v:(G9 s bs a N).t.length+(if silK false (rulePt (Cy s) 0)then 0 else 1)<=8011*((G9 s bs a N).st.Af-(Ey bs).Af):=r.len;have x:(G9 s bs a N).st.Af<=N:=p.1.inv.Af;generalize G9 s bs a N=u at*;have y:u.st.Af-(Ey bs).Af<=10000:=kX;omega
theorem Ad0(a)(b:a.e≠0):endT a=([],a.e,0):=by unfold endT;rw[aF b]
theorem Abw(b)(a:(endT b).2.1=0):b.ok=true:=by
 unfold endT at a;split at a;rename_i e;exact absurd a e;split at a;simp at a;rename_i f;simpa using f
theorem TE(l:aD UInt8)(a b:Nat):(⟨l.toArray⟩:aA).extract a b=⟨((l.drop a).take (b-a)).toArray⟩:=by
 apply gE;rw[hS];apply Array.ext';rw[kS,gU]
theorem JN(l a n)(Z:l.length<=1000000000)(Y:a.pl+a.w<=l.length)(O:a.w<=4)(M:n<4294967296)(w):
 Calls prog 46 #[.string ⟨l.toArray⟩,.agg (hoD a).toArray,I0 (n:Nat)] w fun y w'=>y=.returned (.string ⟨(putAt l a n).toArray⟩)/\Below w.heap.size w w':=by
 have B:Below w.heap.size w (w.alloc (.cells #[I0 (a.pl:Nat),I0 (a.w:Nat),.bool a.low] 96)):=(aO _ _).alloc (aB _) _;have o:=Ac.new w #[I0 (a.pl:Nat),I0 (a.w:Nat),.bool a.low] 96;have S:=Cv l;have v:=Aa (TE l 0 a.pl);have k:=TE l (a.pl+a.w) l.length;rw[bV (by rw[dQ];exact aB _)]at k;have x:=Aa k;have r:=Aa B;have p:(BP a.low a.w n).length=a.w:=BE _ _ _;clear B k;unfold hoD;go_enter func46,ntmps46;go_wp2_with fail;generalize w.alloc (.cells #[I0 (a.pl:Nat),I0 (a.w:Nat),.bool a.low] 96)=e at*;have g:Hid (∀ W,Below e.heap.size e W->W.cell? (A0 w.heap.size 0)=some (I0 (a.pl:Nat))/\W.cell? (A0 w.heap.size 1)=some (I0 (a.w:Nat))/\W.cell? (A0 w.heap.size 2)=some (.bool a.low)):=fun W b=>by
  have f:=o.below b o.lt;exact⟨f.cell 0,f.cell 1,f.cell 2⟩
 have j:Below e.heap.size e e.drew:=⟨rfl,rfl,rfl,aB _,fun _ _=>rfl⟩;have u:=Aa (J8 n a.w a.low M O e.drew);refine Bo (fun W=>Below e.heap.size e W) 20 kZ rfl ?_;refine A2 (fun _ _ d _ _ h=>by cases d<;>exact h) [0,1,2,3,4,5,6,7,8,11,12,13,14,15,16,17] 4 20 _ _ _ kZ ?_;refine jL ?_;iterate 3 refine Ab _ rfl (fun W b=>by obtain⟨f,z,A⟩:=g.o W b;go_simp<;>rfl) ?_
 refine Ab (.string ⟨(l.take a.pl).toArray⟩) rfl (fun W b=>by go_simp;rw[aF kX,v.o];simp) ?_;iterate 9 refine Ab _ rfl (fun W b=>by obtain⟨f,z,A⟩:=g.o W b;go_simp<;>rfl) ?_
 iterate 1 refine Ab _ rfl (fun W b=>by obtain⟨f,z,A⟩:=g.o W b;go_simp<;>rfl) ?_
 refine Ab (I0 ((a.pl+a.w:Nat):Int)) rfl (fun W b=>by go_simp;rw[dD];omega) ?_;refine Ab (.string ⟨(l.drop (a.pl+a.w)).toArray⟩) rfl (fun W b=>by go_simp;rw[aF ⟨by omega,by omega⟩,show((a.pl:Int)+(a.w:Int)).toNat=a.pl+a.w by omega,x.o]) ?_;refine Ag ?_;refine AZ 9 kZ j ⟨_,rfl,rfl,?_⟩;unfold Oper.wp;go_simp;refine u.o.mono ?_;rintro y w2⟨rfl,F⟩;have E:=j.trans (F.mono j.size);have K:=Aa (r.o.trans (E.mono r.o.size));have V:¬ 9223372036854775807<(l.take a.pl).length+(BP a.low a.w n).length:=by rw[p,cX];omega
 have X:¬ 9223372036854775807<(l.take a.pl).length+(BP a.low a.w n).length+(l.drop (a.pl+a.w)).length:=by rw[p,cX,dQ];omega
 have L:Hid (l.take a.pl++(BP a.low a.w n++l.drop (a.pl+a.w))=putAt l a n):=(bO _ _ _).symm;clear F g o S v x u p;generalize l.take a.pl=I at*;generalize l.drop (a.pl+a.w)=U at*;generalize BP a.low a.w n=J at*;refine A2 (fun _ _ d _ _ h=>by cases d<;>exact h) [10,18,19] 0 3 _ _ _ kZ ?_;refine jL ?_;refine Ab (.string ⟨(I++J).toArray⟩) rfl (fun W b=>by go_simp;rw[DQ]) ?_;refine Ab (.string ⟨(I++(J++U)).toArray⟩) rfl (fun W b=>by go_simp;rw[DQ,bO]) ?_;refine Ab _ rfl (fun W b=>by go_simp<;>rfl) ?_;refine Ag ?_;refine DV (P:=prog) kZ E ?_;go_wp2;go_ret;rw[<- L.o];exact⟨rfl,K.o⟩
section
open Go.ChangeShapes Go.WideShapes Go.ChangeAt Go.WideMaps Go.WideElems
theorem Acs:ownKnob Tryz.prog.godebug=none:=kZ
theorem Ago:Tryz.prog.globalNamed (Rows.parsesRow.named.getD 0 "")=some 0:=kZ
theorem Agg:(Tryz.prog.globals[0]?).map (·.type)=some 253:=kZ
theorem Ac8:Tryz.prog.cellsOf 252=6:=kZ
theorem Aa1:Tryz.prog.cellsOf 253=90:=kZ
theorem Ae6:Tryz.prog.cellsOf 3=1:=kZ
theorem YC:Tryz.prog.cellsOf 5=1:=kZ
theorem Tx:Tryz.prog.cellsOf 4=1:=kZ
def shD{H:Type}(a:Sh):DataW H:=.agg [.lit (.int .u8 a.a),.lit (.int .u8 a.b),.lit (.bool a.w),.lit (.bool a.d),.lit (.bool a.v),.lit (.int .i64 a.n)]
theorem Aa5{H:Type}:(Rows.laid_press_syntax_shapes:DataW H)=.agg (Ax.map shD):=rfl
theorem chunk(e:aD Sh):∀ a:aD aI,a.length=e.length*6->(∀ i (b:i<e.length),(a.drop (i*6)).take 6=e[i].row.toList)->a=e.flatMap fun g=>g.row.toList:=by
 induction e with
 | nil=>intro a b _;simp at b;simpa using b
 | cons g t j=>
  intro a b f;have h0:=f 0 kY;simp only[hL,bS,dY]at h0;have h:=j (a.drop 6) (by simp at b⊢;omega) (fun i k=>by
   have:=f (i+1) lA;simp only[eF]at this;rw[iC,show 6+i*6=(i+1)*6 by omega];exact this)
  rw[bY,<- h0,<- h,eH]
theorem Ae2{H:Type}{enc:TypeId × aI->H}{w}{base}{a}{held}{ah}{o}{O:DataW H × aD MemPlace}(M)(ai:DataW.trod enc Tryz.prog w base a held ah 252 o=some O)(L:O.1=shD M):o=M.row.toList:=by
 obtain⟨aj,n,_,rfl,J,K,k⟩:=DataW.trod_struct Tryz.underlying252 ai;rw[Ac8]at J;simp only[dJ,aX,cP]at K
 match aj,K,o,J with
 | [x0,x1,x2,x3,x4,x5],_,[b,e,f,g,h,j],_=>
  have p:DataW.trod enc Tryz.prog w base a held n 5 (([b,e,f,g,h,j].drop 0).take (Tryz.prog.cellsOf 5))=some x0:=k 0 _ rfl;rw[YC]at p;change DataW.trod enc Tryz.prog w base a held n 5 [b]=some x0 at p;have r:DataW.trod enc Tryz.prog w base a held n 5 (([b,e,f,g,h,j].drop 1).take (Tryz.prog.cellsOf 5))=some x1:=k 1 _ rfl;rw[YC]at r;change DataW.trod enc Tryz.prog w base a held n 5 [e]=some x1 at r;have u:DataW.trod enc Tryz.prog w base a held n 4 (([b,e,f,g,h,j].drop 2).take (Tryz.prog.cellsOf 4))=some x2:=k 2 _ rfl;rw[Tx]at u;change DataW.trod enc Tryz.prog w base a held n 4 [f]=some x2 at u;have v:DataW.trod enc Tryz.prog w base a held n 4 (([b,e,f,g,h,j].drop 3).take (Tryz.prog.cellsOf 4))=some x3:=k 3 _ rfl;rw[Tx]at v;change DataW.trod enc Tryz.prog w base a held n 4 [g]=some x3 at v;have x:DataW.trod enc Tryz.prog w base a held n 4 (([b,e,f,g,h,j].drop 4).take (Tryz.prog.cellsOf 4))=some x4:=k 4 _ rfl;rw[Tx]at x;change DataW.trod enc Tryz.prog w base a held n 4 [h]=some x4 at x;have y:DataW.trod enc Tryz.prog w base a held n 3 (([b,e,f,g,h,j].drop 5).take (Tryz.prog.cellsOf 3))=some x5:=k 5 _ rfl;rw[Ae6]at y;change DataW.trod enc Tryz.prog w base a held n 3 [j]=some x5 at y;obtain⟨ak,z,S,_⟩:=jP Tryz.underlying5 p;obtain⟨al,A,U,_⟩:=jP Tryz.underlying5 r;obtain⟨am,B,V⟩:=jJ Tryz.underlying4 u;obtain⟨an,E,X⟩:=jJ Tryz.underlying4 v;obtain⟨ao,F,Y⟩:=jJ Tryz.underlying4 x;obtain⟨ap,I,Z,_⟩:=jP Tryz.underlying3 y;subst S U V X Y Z;simp only[List.cons.injEq,kL]at z A B E F I;subst z A B E F I;simp only[shD,bX,dV,DataW.agg.injEq,List.cons.injEq,DataW.lit.injEq,Lit.int.injEq,Lit.bool.injEq,true_and,kL]at L;obtain⟨aa,ab,ac,ad,ae,af⟩:=L;simp only[Sh.row,aa,ab,ac,ad,ae,af]
theorem Ae4{W}(h0:laidMetH Tryz.prog Rows.parsesRow.laid W):Eu W:=by
 rw[gT _ _ _ kZ] at h0;have p:laidMet Tryz.prog [(Rows.parsesRow.named.getD 0 "", Rows.laid_press_syntax_shapes)] W:=h0.tail.tail.tail;obtain ⟨O,⟨K,U,b,J,M,S,j,z,B,r,_,_⟩,_,_⟩:=p;obtain rfl:=dH (Ago.symm.trans j);obtain rfl:=dH (Agg.symm.trans z);obtain ⟨I,L,rfl,a,k,o,u⟩:=DataW.trod_array Tryz.underlying253 r;rw[Aa1] at k;rw[Aa5] at a;simp only[Prod.mk.injEq,DataW.agg.injEq] at a;have y:Ax.length=15:=rfl;have h:b.toList=Mi:=by
  refine chunk Ax b.toList (by rw[k,y]) fun i v=>?_
  have x:i<15:=kX;have e:=u i x;rw[Ac8,bA kX]at e;refine Ae2 _ e ?_;have f:(I.map (·.1))[i]? = (Ax.map shD)[i]? := by rw[a.1]
  rw[fI,fI,bA kX,bA v]at f;simpa using f
 have g:=World.var?_cell j B;refine⟨fun F V A=>?_,?_⟩;rw[eC,g F,<- fH,h];exact A;have h0:=g 0;rw[<- fH,h]at h0;by_cases E:0<W.heap.size;exact E;have o:W.cell? (A0 0 0)=none:=by
  unfold World.cell?;rw[kG lB]
 rw[o]at h0;exact absurd h0 (by simp[Mi,Ax,Sh.row])
theorem Aen{W}(h0:laidMetH Tryz.prog Rows.parsesRow.laid W):MO W:=by
 rw[gT _ _ _ kZ] at h0;have a:=h0.tail.tail;refine Lib.tabIs_of_head (rest:=[(Rows.parsesRow.named.getD 0 "", Rows.laid_press_syntax_shapes)]) (g:=1) (t:=291) (e:=222) (n:=20) kZ kZ Tryz.underlying291 Tryz.underlying222 kZ kZ ?_;exact a
def ME:aD (String × DataW Unit):=Rows.parsesRow.laid
def Aaw(a:aD aI):Obj->Obj
 | .cells _ t frozen=>.cells a.toArray t frozen
 | o=>o
def Ahq:DataW Unit->aD aI
 | .lit (.int k n)=>[.int k n]
 | _=>[]
def Adx:DataW Unit->aD aI
 | .agg l=>l.flatMap Ahq
 | _=>[]
def U1(a:Array Obj):Array Obj:=(((a.modify 0 (Aaw Mi)).modify 1 (Aaw (Adx Rows.laid_internal_strconv_uint64pow10))).modify 2 (Aaw (Adx Rows.laid_math_bits_deBruijn32tab))).modify 3 (Aaw (Adx Rows.laid_math_bits_deBruijn64tab))
theorem OU(a:Os)(b):laidMetH Tryz.prog ME (({World.holding Tryz.prog a ⟨#[],#[],[]⟩with heap:=U1 (World.holding Tryz.prog a ⟨#[],#[],[]⟩).heap}:aE).forCall (fun _ _=>0) ⟨#[],b,[]⟩).memory:=by
 rw[gT _ _ _ kZ];exact laidMet_of_run' 8 kZ kZ
end

import Derived.Test.YtmlkhhhjdpbhfaaGreatDoorGe16
namespace Go.Proofs.YtmlkhhhjdpbhfaaGreatDoor
open Go.RowKit Go.Proofs.Tryz
set_option maxHeartbeats 4000000
set_option maxRecDepth 100000
theorem Tryz.Ael:(prog.info? 192).map (fun i=>(i.zero,i.size,i.bytes))=some (some (.agg #[.pointer none,.pointer none,.pointer none,I0 0,I0 0,.nilFunc]),6,48):=kZ
theorem S4{w base e g a n h}(f:Cr w base e g a n h):∃ q b,a=.slice q n b:=by
 rcases f.2 with⟨rfl,rfl⟩|⟨o,p,j,k,rfl,_⟩;exact⟨_,_,rfl⟩;exact⟨_,_,rfl⟩
theorem Cr.alloc{w base a e f n g}(b:Cr w base a e f n g)(h):Cr (w.alloc h) base a e f n g:=b.blocks fun _ a=>bC _ _ _ (b.lt a).2
theorem Cr.drew{w base a b e n f}(g:Cr w base a b e n f):Cr w.drew base a b e n f:=g.blocks fun _ _=>rfl
theorem Ad3{c}{b}{w S}{I}{aa O an}{ao}{v}{st}(u:BO c b w I aa O an ao v st){M o g i n}{x}{F:Nd (Tr n)}{k}{U}(am:U.length=st.wait.length*6)(ae:∀ a (u:a<st.wait.length),∃ Z o g E B p ac y h z j,((U.drop (a*6)).take 6=[P0 Z,P0 o,P0 g]++VG (some st.wait[a].ho))/\v[st.wait[a].hid]? = some g/\
   BM ac c.w0 y h Z E st.wait[a].As/\h<=c.w0.heap.size/\BK c.R B p st.wait[a].As/\st.wait[a].As.length<=1000/\GS (Cb st.wait[a].n) w z j o st.wait[a].v/\j<=b){E B p V y h z j}(e:v[i]? = some g/\BM V c.w0 y h M E k/\h<=c.w0.heap.size/\BK c.R B p k/\k.length<=1000/\GS (Cb n) w z j o F/\j<=b){A}{f L J}(Y:Cr S b 192 6 (.slice (some (A0 f L)) (st.wait.length+1) J) (st.wait.length+1) (U++([P0 M,P0 o,P0 g]++VG (some x))))(ak:(w.alloc A).drew.grownBy S O.ownBlock)(af:O.ownBlock=some f\/(w.alloc A).drew.heap.size<=f):
 C5 c b w I v (HR st ⟨k,n,F,i,x⟩) (.returned (.tuple #[])) (S.setCell (A0 I 48) (.slice (some (A0 f L)) (st.wait.length+1) J)):=by
 have ap:=u.ge I aG;have K:Below b w (w.alloc A).drew:=((aO b w).alloc kX _).drew;have al:=u.B9 (w':=(w.alloc A).drew) K (fun aq _ ad=>bC _ _ _ ad);obtain⟨ai,aj⟩:=Y.lt (g:=f) rfl;have X:=al.Acn (e:=⟨k,n,F,i,x⟩) (g:=f) (off:=L) (cap:=J) ak (fun q r=>(u.ge q (aH _ (DA r))).1) af aj ai (fun w2 ah ab=>
  GP.more (w:=w) (K.trans ah) am ae ⟨k,n,F,i,x⟩ M o g E B p V y h z j e.1 e.2.1 e.2.2.1 e.2.2.2.1 e.2.2.2.2.1 e.2.2.2.2.2.1 e.2.2.2.2.2.2 (Y.blocks fun q r=>by
   simp[Value.ownBlock]at r;subst r;exact ab))
 exact⟨rfl,K.trans X.2,_,_,_,_,[],by rw[dI];exact X.1⟩
theorem Oi(c)(g)(w)(a)(ab a7 a5)(a6)(v)(st)(b:BO c g w a ab a7 a5 a6 v st)(bh:st.wait.length<=100000000)(o h E p r j d i n:Nat)(e:Ho)(F:Nat->aM Ho)(U:Nd (Tr n))(k:aD It)(A:Pt)(S:Am w o A)(ak:A.dp=(d:Int))(aj:d<8)(ao:A.v=S0 h 1 E)(bi:w.cell? (A0 h 0)=some (P0 p))(_hgw:h<w.heap.size)(I:v[i]? = some j)(ae:st.AS[i]? = some F)(af:F d=some e)(a4 a3 ac ad a1 L a2 M)(av:BM ad c.w0 a1 L p a4 k)(aw:L<=c.w0.heap.size)(ax:BK c.R a3 ac k)(ay:k.length<=1000)(az:GS (Cb n) w a2 M r U)(a0:M<=g):
 Calls prog 154 #[P0 a,P0 o,P0 r,P0 j] w fun u w'=>C5 c g w a v (HR st ⟨k,n,U,i,e⟩) u w':=by
 obtain⟨au,al,ap,aq,ar⟩:=cY Tryz.Ael;have bj:=b.ge a aG;obtain⟨a9,y,ah⟩:=b.wait;obtain⟨q,f,rfl⟩:=S4 y;have x:=b.hole I ae af aj;have ba:q_ w a 48 (.slice q st.wait.length f):=b.Ap.cell 48;have bb:∀ z,(w.alloc z).cell? (A0 a 48)=some (.slice q st.wait.length f):=fun z=>(Ac.alloc b.Ap z).cell 48
 have bq:w.cell? (A0 o 8)=some (S0 h 1 E):=by rw[<- ao];exact S.cell 8
 have bp:w.cell? (A0 o 3)=some (I0 (d:Nat)):=by rw[<- ak];exact S.cell 3
 have bk:=x.c0;have bl:=x.c1;have bm:=x.c2;have bg:(d:Int)<8:=kX;have B:=Aa b;have Z:=Aa y;have aa:=Aa y.1;have V:=Aa ah;have X:=Aa (And.intro I (And.intro av (And.intro aw (And.intro ax (And.intro ay (And.intro az a0))))));have am:some a≠(Value.slice q st.wait.length f).ownBlock:=fun u=>by
  have O:=b.nd;rw[bZ]at O;exact O.1 (DA u.symm)
 have Y:=Aa am;go_enter func154,ntmps154;go_wp2_with fail;go_region_law (
  (refine Mg _ lE _ _ _ lE g 192 au _ 6 48 underlying117 al ap aq ar rfl kX (.slice q st.wait.length f) st.wait.length a9 lE ((Z.o.alloc _).drew)
    (A0 w.heap.size 0) 1 1 ([P0 p,P0 r,P0 j]++VG (some e)) lE lE
    (cD (cs:=#[P0 p,P0 r,P0 j,I0 (e.pl:Nat),I0 (e.w:Nat),.func (.func (BR e.low)) #[] #[]]) (t:=192) (fr:=(0,0)) (cJ w _)) (by simp[VG,hoF,CO,Value.oneCell'])
    kX lD kX lA ?_
   intro bf bo bd a8 an K ai;have J:=((B.o.Ap.alloc _).drew).grown K Y.o;have bc:q_ a8 a 48 (.slice q st.wait.length f):=J.cell 48;have be:=J.frozen 48))
 all_goals
  go_wp2;go_end0;exact Ad3 B.o aa.o V.o X.o an K ai

import Derived.Laws.EntriesVeiled
import Derived.Deep.RegionLaw
import Derived.Recover
import Derived.Defers
import Derived.Test.YtmlkhhhjdpbhfaaGreatDoorGe01
namespace Go.Proofs.YtmlkhhhjdpbhfaaGreatDoor
open Go.RowKit Go.Proofs.Tryz
set_option maxHeartbeats 4000000
set_option maxRecDepth 100000
variable{p q:Prop}(z:q)
theorem No(s)(o)(Z:s.size<=400)(u)(am:E9 s o u)(x)(b8 : -1<=x.n)(b9:x.n<=2)(ao:x.w=false)(ak:x.d=true)(ae:x.v=false)(w)(g b i)(j)(af:Rd w g s i)(f:Eu w)(h0:0<g)(a3:g<b)(ck:i<=s.size)(cj:s.size+1-i<=u)(A:Mk u w b false j [])(a0:j.v=.slice none 0 0):
 Calls prog 172 #[P0 g,P0 b,.agg x.row] w fun e w'=>Hc s u g b w (Aq x s i j).p x.n (BC (AF s o u) s u x.n (Aq x s i j)) e w':=by
 refine ko ?_;intro ad ap aj a;have U:=Aa ao;have bd:=Aa ak;refine lZ ?_;intro ah a;clear af A f am a0 ao ak ae;go_wp2_with fail;generalize b5:(w.alloc (.cells #[.int .u8 x.a,.int .u8 x.b,.bool false,.bool true,.bool false,I0 x.n] 252))=b3 at*;clear b5;generalize b6:w.heap.size=bz at*;clear b6;refine(Hf b3 g b s i j a.o.rd a.o.made.Ap kX Z kX).mono ?_;rintro e w1⟨rfl,y,L,cm,Y,cb,E⟩
 cases r:Ay s i 97 104
 have bj:=Aa (show BC (AF s o u) s u x.n (Aq x s i j)=⟨false,i,[]⟩by
  simp[BC,Aq,Bk,tailD,U.o,bd.o,r,CX])
 rw[r]at L;have F:Rd w1 g s (i):=L;exact PP;have E:=E r;subst E;have b7:=Hb s i 97 104 r kX;rw[r]at L;have b2:=Aa r;have F:Rd w1 g s (i+1):=L;have a:=Aa (a.o.next y F Y rfl kX kX);clear r L Y cb y F;refine mX ?_;intro b0 b1;go_upto_region 7 with fail;have bv:=Aa (show Aq x s i j=⟨true,(i+1),{j with EZ:=(i:Nat),dp:=bt s i-97}⟩by
  simp[Aq,Bk,tailD,Dz,U.o,bd.o,ah.o,CX,b2.o])
 refine mV ?_;intro I bx J;have a7:=Aa (show(Aq x s i j).p={j with EZ:=(i:Nat),dp:=bt s i-97}by rw[bv.o]);clear bv;by_cases K:x.n = -1
 . have X:(x.n == -1)=true:=by simpa using K
   have ay:=Aa (show BC (AF s o u) s u x.n (Aq x s i j)=Bp (AF s o u) s u (i+1)by rw[J.o,aF kX]);have bi:=Aa K;clear J K;go_wp2_with fail;refine(Es s o Z u ap.o _ g b (i+1) {j with EZ:=(i:Nat),dp:=bt s i-97} a.o.rd I.o h0 a3 kX kX a.o.made.any).mono ?_;exact HJ
 have X:(x.n == -1)=false:=by simpa using K
 obtain⟨m,M⟩:∃ m:Nat,x.n=(m:Int):=⟨x.n.toNat,by omega⟩;have ay:=Aa (show BC (AF s o u) s u x.n (Aq x s i j)=loopN (AF s o u) m (i+1)by rw[J.o,aC kX,M];rfl);have bh:=Aa M;rw[M]at bx X;have cl:m<=2:=kX;clear J K M b8 b9;go_wp2;go_loopw [39] (fun S wr=>∃ (p k:Nat) (z:aD (Nat × aD It)) (v:aI),S=I0 k/\Hid (AtN s o u g b w {j with EZ:=(i:Nat),dp:=bt s i-97} m (i+1) p k z v wr)) (fun S _=>m-(intOf S).toNat)
 case atStart=>exact⟨(i+1),0,[],_,rfl,⟨a.o.rd,a.o.made,a.o.fr,a.o.sz,by omega,aB _,by simp,by omega,by simp[C3.pre]⟩⟩
 case round=>
  obtain⟨p,k,z,v,rfl,O⟩:=hrel;have V:=O;obtain⟨ac,aq,ab,be,a8,cf,cg,ch,az⟩:=O.out;by_cases b7:k<m;refine kq ?_;intro a1 B;have av:=Aa az;refine kr ?_;intro ax _ _ _ _ _ _ _;clear ac aq az O;refine(C7 s o u ap.o wr g b p false {{j with EZ:=(i:Nat),dp:=bt s i-97}with v:=v} z V.o.rd a1.o h0 a3 a8 kX V.o.made kX).mono ?_;rintro e w2⟨rfl,a2,a9,ci,bg⟩;generalize ca:AF s o u p=cc at*;clear ca;obtain⟨ce,au,cd⟩:=cc
  cases ce
  have ar:=Aa (show loopN (AF s o u) m (i+1)=⟨false,au,z.flatMap Prod.snd⟩by
   have h:=B.o;rw[av.o,h];simp[C3.pre])
  exact H1;obtain⟨q,ai,bb⟩:=bg rfl;obtain⟨a4,b4,_⟩:=ax.o;simp only at a2 a4 b4;have an:Hid (AtN s o u g b w {j with EZ:=(i:Nat),dp:=bt s i-97} m (i+1) au (k+1) (z++[(q,cd)]) ai w2):=by
   exact IR
  exact IW;have ar:=Aa (show loopN (AF s o u) m (i+1)=⟨true,p,z.flatMap Prod.snd⟩by
   rw[az,show m-k=0 by omega];simp[loopN,C3.pre])
  exact In
theorem Aeu(s)(o)(bv:s.size<=400)(u)(am:E9 s o u)(x)(b8 : -1<=x.n)(b9:x.n<=2)(Y:x.w=false)(U:x.d=false)(V:x.v=true)(w)(g b i)(j)(af:Rd w g s i)(f:Eu w)(h0:0<g)(a3:g<b)(cl:i<=s.size)(ck:s.size+1-i<=u)(A:Mk u w b false j [])(a0:j.v=.slice none 0 0):
 Calls prog 172 #[P0 g,P0 b,.agg x.row] w fun e w'=>Hc s u g b w (Aq x s i j).p x.n (BC (AF s o u) s u x.n (Aq x s i j)) e w':=by
 refine ko ?_;intro ad ap aj a;have ah:=Aa Y;have M:=Aa U;have ae:=Aa V;clear af A f am a0;go_enter func172,ntmps172;simp only[Sh.row,Y,U,V]at a⊢;clear Y U V;go_wp2_with fail;generalize b5:(w.alloc (.cells #[.int .u8 x.a,.int .u8 x.b,.bool false,.bool false,.bool true,I0 x.n] 252))=b1 at*;clear b5;generalize b6:w.heap.size=b3 at*;clear b6;refine(So b1 g b s i j a.o.rd a.o.made.Ap kX bv kX).mono ?_;rintro e w1⟨rfl,y,L,cn,bd,cb,E⟩
 cases r:Gm s i
 . have bj:=Aa (show BC (AF s o u) s u x.n (Aq x s i j)=⟨false,Ku s i,[]⟩by
    simp[BC,Aq,Bk,tailD,Dz,ah.o,M.o,ae.o,r])
   skip;have F:=L;exact PP
 have E:=E r;subst E;obtain⟨b7,X⟩:=Z6 s i r;rw[X]at L;have bx:=Aa r;have F:=L;have a:=Aa (a.o.next y F bd rfl kX kX);clear r L bd cb y F;have b0:=Aa X;clear X;have cj:w1.cell? (A0 b3 3)=some (.bool false):=by have h:=a.o.box.cell 3;rw[h,<- M.o];rfl
 simp only;go_upto_region 7 with fail;have O:=Aa (show Aq x s i j=⟨true,(i+2),{j with vl:=AG (bt s i)*16+AG (bt s (i+1))}⟩by
  simp[Aq,Bk,tailD,Dz,ah.o,M.o,ae.o,bx.o,b0.o])
 have bz:Hid (Eu w1):=ad.o.fr a.o.fr h0 kX;have b2:=a.o.box.c5;have J:=Aa (show BC (AF s o u) s u x.n (Aq x s i j)=if x.n<0 then Bp (AF s o u) s u (i+2)else loopN (AF s o u) x.n.toNat (i+2)by unfold BC;rw[O.o];simp);have a7:=Aa (show(Aq x s i j).p={j with vl:=AG (bt s i)*16+AG (bt s (i+1))}by rw[O.o]);clear O;by_cases I:x.n = -1
 . have ao:(x.n == -1)=true:=by simpa using I
   have ay:=Aa (show BC (AF s o u) s u x.n (Aq x s i j)=Bp (AF s o u) s u (i+2)by rw[J.o,aF kX]);have bi:=Aa I;clear J I;go_wp2_with fail;refine(Es s o bv u ap.o _ g b (i+2) {j with vl:=AG (bt s i)*16+AG (bt s (i+1))} a.o.rd bz.o h0 a3 kX kX a.o.made.any).mono ?_;exact HJ
 have ao:(x.n == -1)=false:=by simpa using I
 obtain⟨m,K⟩:∃ m:Nat,x.n=(m:Int):=⟨x.n.toNat,by omega⟩;have ay:=Aa (show BC (AF s o u) s u x.n (Aq x s i j)=loopN (AF s o u) m (i+2)by rw[J.o,aC kX,K];rfl);have bh:=Aa K;rw[K]at b2 ao;have cm:m<=2:=kX;clear J I K b8 b9;go_wp2;go_loopw [39] (fun Z wr=>∃ (p k:Nat) (z:aD (Nat × aD It)) (v:aI),Z=I0 k/\Hid (AtN s o u g b w {j with vl:=AG (bt s i)*16+AG (bt s (i+1))} m (i+2) p k z v wr)) (fun Z _=>m-(intOf Z).toNat)
 case atStart=>exact⟨(i+2),0,[],_,rfl,⟨a.o.rd,a.o.made,a.o.fr,a.o.sz,by omega,aB _,by simp,by omega,by simp[C3.pre]⟩⟩
 case round=>
  obtain⟨p,k,z,v,rfl,S⟩:=hrel;have ak:=S;obtain⟨ac,aq,ab,be,a8,cf,cg,ch,az⟩:=S.out;by_cases b7:k<m;refine kq ?_;intro a1 B;have av:=Aa az;refine kr ?_;intro ax _ _ _ _ _ _ _;clear ac aq az S;refine(C7 s o u ap.o wr g b p false {{j with vl:=AG (bt s i)*16+AG (bt s (i+1))}with v:=v} z ak.o.rd a1.o h0 a3 a8 kX ak.o.made kX).mono ?_;rintro e w2⟨rfl,a2,a9,ci,bg⟩;generalize ca:AF s o u p=cc at*;clear ca;obtain⟨ce,au,cd⟩:=cc
  cases ce
  have ar:=Aa (show loopN (AF s o u) m (i+2)=⟨false,au,z.flatMap Prod.snd⟩by
   have h:=B.o;rw[av.o,h];simp[C3.pre])
  exact H1;obtain⟨q,ai,bb⟩:=bg rfl;obtain⟨a4,b4,_⟩:=ax.o;simp only at a2 a4 b4;have an:Hid (AtN s o u g b w {j with vl:=AG (bt s i)*16+AG (bt s (i+1))} m (i+2) au (k+1) (z++[(q,cd)]) ai w2):=by
   exact IR
  exact IW;have ar:=Aa (show loopN (AF s o u) m (i+2)=⟨true,p,z.flatMap Prod.snd⟩by
   rw[az,show m-k=0 by omega];simp[loopN,C3.pre])
  exact In
theorem M0(s)(o)(bl:s.size<=400)(u)(am:E9 s o u)(x)(bd : -1<=x.n)(bj:x.n<=2)(ao:x.w=false)(ak:x.d=false)(ae:x.v=false)(w)(g b i)(j)(af:Rd w g s i)(f:Eu w)(h0:0<g)(a3:g<b)(b6:i<=s.size)(b5:s.size+1-i<=u)(A:Mk u w b false j [])(a0:j.v=.slice none 0 0):
 Calls prog 172 #[P0 g,P0 b,.agg x.row] w fun e w'=>Hc s u g b w (Aq x s i j).p x.n (BC (AF s o u) s u x.n (Aq x s i j)) e w':=by
 refine ko ?_;intro ad ap aj a;have S:=Aa ao;have M:=Aa ak;refine lZ ?_;intro ah a;clear af A f am a0 ao ak ae;go_upto_region 7 with fail;generalize Y:(w.alloc (.cells #[.int .u8 x.a,.int .u8 x.b,.bool false,.bool false,.bool false,I0 x.n] 252))=U at*;clear Y;generalize Z:w.heap.size=b4 at*;clear Z;have F:=Aa (show Aq x s i j=⟨true,i,j⟩by
  simp[Aq,Bk,tailD,Dz,S.o,M.o,ah.o])
 have O:Hid (Eu U):=ad.o.fr a.o.fr h0 kX;have V:=a.o.box.c5;have y:=Aa (show BC (AF s o u) s u x.n (Aq x s i j)=if x.n<0 then Bp (AF s o u) s u i else loopN (AF s o u) x.n.toNat i by unfold BC;rw[F.o];simp);have a7:=Aa (show(Aq x s i j).p=j by rw[F.o]);clear F;by_cases r:x.n = -1
 . have L:(x.n == -1)=true:=by simpa using r
   have ay:=Aa (show BC (AF s o u) s u x.n (Aq x s i j)=Bp (AF s o u) s u i by rw[y.o,aF kX]);have bi:=Aa r;clear y r;go_wp2_with fail;refine(Es s o bl u ap.o _ g b i j a.o.rd O.o h0 a3 kX kX a.o.made.any).mono ?_;exact HJ
 have L:(x.n == -1)=false:=by simpa using r
 obtain⟨m,E⟩:∃ m:Nat,x.n=(m:Int):=⟨x.n.toNat,by omega⟩;have ay:=Aa (show BC (AF s o u) s u x.n (Aq x s i j)=loopN (AF s o u) m i by rw[y.o,aC kX,E];rfl);have bh:=Aa E;rw[E]at V L;have b8:m<=2:=kX;clear y r E bd bj;go_wp2;go_loopw [39] (fun J wr=>∃ (p k:Nat) (z:aD (Nat × aD It)) (v:aI),J=I0 k/\Hid (AtN s o u g b w j m i p k z v wr)) (fun J _=>m-(intOf J).toNat)
 case atStart=>exact⟨i,0,[],_,rfl,⟨a.o.rd,a.o.made,a.o.fr,a.o.sz,by omega,aB _,by simp,by omega,by simp[C3.pre]⟩⟩
 case round=>
  obtain⟨p,k,z,v,rfl,I⟩:=hrel;have K:=I;obtain⟨ac,aq,ab,be,a8,b0,b1,b2,az⟩:=I.out;by_cases b7:k<m;refine kq ?_;intro a1 B;have av:=Aa az;refine kr ?_;intro ax _ _ _ _ _ _ _;clear ac aq az I;refine(C7 s o u ap.o wr g b p false {j with v:=v} z K.o.rd a1.o h0 a3 a8 kX K.o.made kX).mono ?_;rintro e w2⟨rfl,a2,a9,b3,bg⟩;generalize bk:AF s o u p=bv at*;clear bk;obtain⟨bz,au,bx⟩:=bv
  cases bz
  have ar:=Aa (show loopN (AF s o u) m i=⟨false,au,z.flatMap Prod.snd⟩by
   have h:=B.o;rw[av.o,h];simp[C3.pre])
  exact H1;obtain⟨q,ai,bb⟩:=bg rfl;obtain⟨a4,X,_⟩:=ax.o;simp only at a2 a4 X;have an:Hid (AtN s o u g b w j m i au (k+1) (z++[(q,bx)]) ai w2):=by
   exact IR
  exact IW;have ar:=Aa (show loopN (AF s o u) m i=⟨true,p,z.flatMap Prod.snd⟩by
   rw[az,show m-k=0 by omega];simp[loopN,C3.pre])
  exact In
theorem jk(h:p:=by
 clear a;have I:Hid (Eu co):=ad.o.fr E.o.fr h0 kX;obtain⟨aq,ab,ac,af,ai,ar⟩:=aa.o co I.o;clear ak al am aa;go_wp2_with fail;have an:=Nj s o ah u ap.o f ae co g w2.heap.size (i+1) (DN f (bt s i) i) E.o.rd I.o h0 ao kX kX E.o.made rfl;simp only[Sh.row]at an;refine an.mono ?_;rintro e ci⟨rfl,d1,d2,bf,ba⟩;clear an aq ab ac af ai ar;simp only;go_wp2;go_ret2;exact PM aj.o E.o d1 d2 bf (by rw[SS];exact(UK _ _ _).2) (by rw[Vm];exact(UK _ _ _).1) ae ba kX):p:=h
theorem Nj(s)(j)(y:s.size<=400)(b)(z:E9 s j b)(f)(B:f<15)(w)(e h i)(g)(v:Rd w e s i)(o:Eu w)(h0:0<e)(x:e<h)(r:i<=s.size)(p:s.size+1-i<=b)(k:Mk b w h false g [])(u:g.v=.slice none 0 0):
 Calls prog 172 #[P0 e,P0 h,.agg (sh f).row] w fun A w'=>Hc s b e h w (Aq (sh f) s i g).p (sh f).n (BC (AF s j b) s b (sh f).n (Aq (sh f) s i g)) A w':=by
 have a:=Agr f B;refine ka ?_;intro ab;rcases ab with rfl|rfl|rfl|rfl|rfl|rfl|rfl|rfl|rfl|rfl|rfl|rfl|rfl|rfl|rfl;exact Z3 s j y b z (sh 0) a.1 a.2 rfl rfl rfl w e h i g v o h0 x r p k u;exact Z3 s j y b z (sh 1) a.1 a.2 rfl rfl rfl w e h i g v o h0 x r p k u;exact Aeu s j y b z (sh 2) a.1 a.2 rfl rfl rfl w e h i g v o h0 x r p k u;exact M0 s j y b z (sh 3) a.1 a.2 rfl rfl rfl w e h i g v o h0 x r p k u;exact M0 s j y b z (sh 4) a.1 a.2 rfl rfl rfl w e h i g v o h0 x r p k u;exact M0 s j y b z (sh 5) a.1 a.2 rfl rfl rfl w e h i g v o h0 x r p k u;exact M0 s j y b z (sh 6) a.1 a.2 rfl rfl rfl w e h i g v o h0 x r p k u;exact Vh s j y b z (sh 7) a.1 a.2 rfl rfl rfl w e h i g v o h0 x r p k u;exact Vh s j y b z (sh 8) a.1 a.2 rfl rfl rfl w e h i g v o h0 x r p k u;exact No s j y b z (sh 9) a.1 a.2 rfl rfl rfl w e h i g v o h0 x r p k u;exact No s j y b z (sh 10) a.1 a.2 rfl rfl rfl w e h i g v o h0 x r p k u;exact No s j y b z (sh 11) a.1 a.2 rfl rfl rfl w e h i g v o h0 x r p k u;exact No s j y b z (sh 12) a.1 a.2 rfl rfl rfl w e h i g v o h0 x r p k u;exact No s j y b z (sh 13) a.1 a.2 rfl rfl rfl w e h i g v o h0 x r p k u;exact M0 s j y b z (sh 14) a.1 a.2 rfl rfl rfl w e h i g v o h0 x r p k u
theorem Eu.row{w}(e:Eu w)(f)(h:f<15):w.cell? (A0 0 (f*6))=some (.int .u8 (sh f).a)/\w.cell? (A0 0 (f*6+1))=some (.int .u8 (sh f).b)/\w.cell? (A0 0 (f*6+2))=some (.bool (sh f).w)/\
 w.cell? (A0 0 (f*6+3))=some (.bool (sh f).d)/\w.cell? (A0 0 (f*6+4))=some (.bool (sh f).v)/\w.cell? (A0 0 (f*6+5))=some (I0 (sh f).n):=by
 have a:∀ q b,Mi[q]? = some b->w.cell? (A0 0 q)=some b:=fun q b g=>by have:=e.1 q b g;simpa using this
 refine ka ?_;intro ab;rcases ab with rfl|rfl|rfl|rfl|rfl|rfl|rfl|rfl|rfl|rfl|rfl|rfl|rfl|rfl|rfl<;>
  exact⟨a _ _ rfl,a _ _ rfl,a _ _ rfl,a _ _ rfl,a _ _ rfl,a _ _ rfl⟩
def O6(s:aA)(h:Nat)(f:Nat)(w:aE)(a:C3)(g:Ending)(w':aE):Prop:=
 ∃ b,g=.returned (.tuple #[.pointer b,.bool a.ok])/\Rd w' f s a.i/\Fr w.heap.size f w w'/\(a.ok=true->∃ e,b=some (A0 e 0)/\BM h w' w.heap.size w'.heap.size e false a.As)
theorem Wl(s f e a b)(k:CC (bt s a)=b)(v:b<15):
 (AF s f (e+1) a).ok=(BC (AF s f e) s e (sh b).n (Aq (sh b) s (a+1) (DN b (bt s a) a))).ok/\
 (AF s f (e+1) a).i=(BC (AF s f e) s e (sh b).n (Aq (sh b) s (a+1) (DN b (bt s a) a))).i/\
 ((AF s f (e+1) a).ok=true->∃ r,He r (Aq (sh b) s (a+1) (DN b (bt s a) a)).p/\
   r.nx=1+((BC (AF s f e) s e (sh b).n (Aq (sh b) s (a+1) (DN b (bt s a) a))).As.length:Int)/\
   (AF s f (e+1) a).As=r::(BC (AF s f e) s e (sh b).n (Aq (sh b) s (a+1) (DN b (bt s a) a))).As):=by
 obtain⟨h,u,p⟩:=W7 s a b k v;rw[AF]
 cases o:(Ak s a).ok
 rw[o]at h;rw[aC kY];have j:BC (AF s f e) s e (sh b).n (Aq (sh b) s (a+1) (DN b (bt s a) a))=⟨false,(Aq (sh b) s (a+1) (DN b (bt s a) a)).i,[]⟩:=by unfold BC;rw[<- h];simp
 rw[j];exact⟨rfl,u,fun k=>by cases k⟩;rw[o]at h;obtain⟨p,g⟩:=p o;rw[aF rfl];have j:BC (AF s f e) s e (sh b).n (Aq (sh b) s (a+1) (DN b (bt s a) a))=inner (AF s f e) s e (Ak s a):=by
  unfold BC inner;rw[<- h,aF rfl,p,u]
 rw[j];refine⟨rfl,rfl,fun _=>⟨_,?_,?_,rfl⟩⟩;exact⟨g.k,g.wd,g.vl,g.ru,g.dp⟩;rfl
theorem Fr.less{b C g e f}(a:Fr b g e f)(k:C<=b):Fr C g e f:=⟨a.os,a.tape,a.output,a.size,fun j o h=>a.block j kX h⟩
structure Acd (s:aA) (f:Nat) (rb j:Nat) (c:Int) (i:Nat) (w w2 W:aE):Prop where
 rd:Rd W rb s (i+1)
 fr:Fr w.heap.size rb w W
 made:Mk f W w2.heap.size false (DN j c i) []
 sz:w2.heap.size<W.heap.size
theorem Vq(s g a b c i w w2)(o:Rd w2 a s i)(h:Fr w.heap.size a w w2)(r:w.heap.size<=w2.heap.size)(ru)(p:DN b c i={k:=b,pl:=i,ru:=ru}):
 Acd s g a b c i w w2 ((w2.setCell (A0 a 1) (I0 ((i:Int)+1))).alloc (.cells (X_17 b i ru) 185)):=by
 have f:(w2.setCell (A0 a 1) (I0 (i+1))).heap.size=w2.heap.size:=by simp[World.setCell]
 refine⟨?_,?_,?_,by simp[World.setCell]⟩;have e:Rd (w2.setCell (A0 a 1) (I0 ((i+1:Nat):Int))) a s (i+1):=Ac.set o 1 _;rw[show((i+1:Nat):Int)=(i:Int)+1 by omega]at e;exact Ac.alloc e _;exact(h.setCell (Or.inl rfl) _).alloc (by rw[f];exact r) _;rw[p];refine⟨?_,cC _ _ _ _,fun q j=>by simp at j⟩;have:=Ac.new (w2.setCell (A0 a 1) (I0 (i+1))) (X_17 b i ru) 185;rw[f]at this;exact this
theorem V1(c)(a:Nat)(b:IU c=a)(k:a<15):decide ((sh a).n<0)=decide (c=40):=by
 unfold IU at b;split at b;rename_i g;have:a=6:=kX;subst this g;rfl;have h:CC c=a:=kX;by_cases e:c=40;subst e;have:CC 40=3:=lC;have:a=3:=kX;subst this;rfl;have j:a≠3:=by
  rintro rfl;have:=G5 c 3 h kX;simp[sh,Ax]at this;omega
 rw[bJ e];have f:a=0\/a=1\/a=2\/a=4\/a=5\/a=6\/a=7\/a=8\/a=9\/a=10\/a=11\/a=12\/a=13\/a=14:=kX;rcases f with rfl|rfl|rfl|rfl|rfl|rfl|rfl|rfl|rfl|rfl|rfl|rfl|rfl|rfl<;>rfl
theorem Vm(b s i a):(Aq b s i a).p.k=a.k:=by
 unfold Aq Dz tailD Bk;repeat' split
 all_goals rfl
theorem UK(a c i):(DN a c i).k=a/\(DN a c i).sl=false:=⟨rfl,rfl⟩
theorem PM{s}{j h b}{c}{i}{w w2 W f}{e R:C3}{q}(E:e.ok=R.ok/\e.i=R.i/\(e.ok=true->∃ g,He g q/\g.nx=1+(R.As.length:Int)/\e.As=g::R.As))(z:Acd s j h b c i w w2 W)(d1:Rd f h s R.i)(d2:Fr w2.heap.size h W f)(_:W.heap.size<=f.heap.size)(J:q.sl=false)(K:q.k=b)(B:b<15)(y:R.ok=true->∃ k x,Mk j f w2.heap.size (decide ((sh b).n<0)) {q with v:=x} k/\k.flatMap Prod.snd=R.As)(r:w.heap.size<=w2.heap.size):
 O6 s (j+1) h w e (.returned (.tuple #[P0 w2.heap.size,.bool R.ok])) f:=by
 obtain⟨u,L,M⟩:=E;refine⟨_,by rw[u],by rw[L];exact d1,z.fr.trans (d2.less r),fun p=>⟨_,rfl,?_⟩⟩;obtain⟨g,a,I,A⟩:=M p;obtain⟨k,x,F,o⟩:=y (u▸p);rw[A,<- o];exact F.rep ⟨a.k,a.wd,a.vl,a.ru,a.dp⟩ J (Or.inr (V1 g.c b (by rw[<- a.k,K]) B)) (by rw[I,o]) r
theorem SV(s o)(ah:s.size<=400)(u)(au:E9 s o u)(w g i)(K:Rd w g s i)(V:Eu w)(h0:0<g)(Y:i<=s.size)(a9:s.size+1-i<=u+1):
 Calls prog 98 #[P0 g] w fun e w'=>O6 s (u+1) g w (AF s o (u+1) i) e w':=by
 have O:=Aa K;have ad:=Aa V;have ap:=Aa au;have bh:=K.lt;clear K V au;by_cases z:i=s.size
 . have F:=Aa (show AF s o (u+1) i=⟨false,i,[]⟩by
    have a1:Ak s i={ok:=false,i:=i}:=by
     have az:=DM s i kX;simp[Ak,az,CP,AY]
    rw[AF,a1,aC kY])
   have aw:=Aa z;clear z;go_enter func98,ntmps98;go_wp2_with fail;refine(ET w g s i O.o ah Y).mono ?_;rintro e w1⟨rfl,x,p⟩;rw[bF aw.o];simp only;go_wp2;go_ret2;rw[F.o];exact⟨none,rfl,p,x.fr _,fun v=>by cases v⟩
 have a4:i<s.size:=kX;have bd:(i:Int)<(s.size:Int):=kX;have X:=Cs s i a4;have L:=Aa X;clear X;go_enter func98,ntmps98;go_wp2_with fail;refine(ET w g s i O.o ah Y).mono ?_;rintro e w1⟨rfl,x,p⟩;rw[bJ z];simp only;have ay:=p.c0;have ak:=p.c1;have ax:=Aa p;have M:Hid (Fr w.heap.size g w w1):=x.fr _;have bi:=x.size;have S:Hid (Eu w1):=ad.o.fr M.o h0 kX;clear p z x;go_wp2_with fail;go_quiet (fail);go_wp2_with fail;rw[<- L.o];clear L;refine(Qi (w1.drewN nq) (bt s i) ⟨S.o.1,S.o.2⟩).mono ?_;rintro e w2⟨rfl,y⟩;have a0:=y.size;have J:(w1.drewN nq).heap.size=w1.heap.size:=rfl;rw[J]at a0;have h:Hid (Rd w2 g s i):=Ac.below (ax.o.drewN nq) y (by rw[J];omega);have A:Hid (Fr w.heap.size g w w2):=(M.o.drewN nq).below y (by rw[J];omega);clear ay ak y;by_cases ae:CC (bt s i)<15
 rotate_left
 . have Z:CC (bt s i)=15:=by
    have:CC (bt s i)<=Ax.length:=List.findIdx_le_length;have bc:Ax.length=15:=rfl;omega
   have F:=Aa (show AF s o (u+1) i=⟨false,i,[]⟩by rw[AF,T8 s i Z,aC kY]);have r:Kr (bt s i)=false:=by unfold Kr;simpa using ae
   rw[r];clear r ae Z;simp only;go_wp2;go_ret2;rw[F.o];exact⟨none,rfl,h.o,A.o,fun v=>by cases v⟩
 have aj:=Aa (Wl s o u i (CC (bt s i)) rfl ae);have U:MR (bt s i)=(CC (bt s i):Int):=by unfold MR;rw[aF ae]
 have r:Kr (bt s i)=true:=by unfold Kr;simpa using ae
 have j:=G5 (bt s i) _ rfl ae;rw[U,r];clear U r;generalize a2:CC (bt s i)=f at*;clear a2;have bb:(f:Int)<15:=kX;have a6:=Eh s i;have a5:=FT s i;have ak:=h.o.c1;have al:∀ b,(w2.alloc b).cell? (A0 g 1)=some (I0 i):=fun b=>(Ac.alloc h.o b).cell 1
 have am:∀ b,(w2.alloc b).frozen? (A0 g 1)=false:=fun b=>(Ac.alloc h.o b).frozen 1
 have ao:g<w2.heap.size:=kX;have be:¬ w2.heap.size=g:=kX;have bg:¬ g=w2.heap.size:=kX;have av:=fun(W:aE) (v:Eu W)=>Eu.row v f ae
 have aa:=Aa av;clear av;simp only;by_cases k:f=6
 . have B:=Aa k;have a3:((f:Int)==6)=true:=lA;have a7:65<=bt s i:=by rw[k]at j;exact j.1
   have a8:bt s i<=72:=by rw[k]at j;exact j.2
   clear k j;go_upto_region 11 with fail;have E:Hid (Acd s u g f (bt s i) i w w2 ((w2.setCell (A0 g 1) (I0 (i+1))).alloc (.cells (X_17 f i (bt s i-65)) 185))):=
    Vq s u g f (bt s i) i w w2 h.o A.o kX (bt s i-65) (by unfold DN;rw[aF B.o])
   generalize a:((w2.setCell (A0 g 1) (I0 (i+1))).alloc (.cells (X_17 f i (bt s i-65)) 185))=co at*;exact jk
 have B:=Aa k;have a3:((f:Int)==6)=false:=lA;clear k j;go_upto_region 11 with fail;have E:Hid (Acd s u g f (bt s i) i w w2 ((w2.setCell (A0 g 1) (I0 (i+1))).alloc (.cells (X_17 f i (0)) 185))):=
  Vq s u g f (bt s i) i w w2 h.o A.o kX (0) (by unfold DN;rw[aC B.o])
 generalize a:((w2.setCell (A0 g 1) (I0 (i+1))).alloc (.cells (X_17 f i (0)) 185))=co at*;exact jk
theorem VT(s e)(k:s.size<=400)(a):E9 s e a:=by
 induction a with
 | zero=>intro w b i _ _ _ p r;omega
 | succ a o=>intro w b i j f h0 h g;exact SV s e k a o w b i j f h0 h g
structure Sc where
 hid:Nat->aM Int
 us:Nat->Bool
def FN:Sc:=⟨fun _=>none,fun _=>false⟩
def XD(st:Int × Bool)(d:Int):Int × Bool:=if !st.2||decide (d<st.1)then(d,true)else st
def segs:Nat->aD It->aD (aD It)
 | 0,_=>[]
 | _+1,[]=>[]
 | f+1,a::b=>(a::b.take (a.nx.toNat-1))::segs f (b.drop (a.nx.toNat-1))
def G0(e:Bool)(a:It)(q:Sc × (Int × Bool)):Sc × (Int × Bool):=
 if e&&(q.1.hid a.d.toNat).isNone then(⟨fun b=>if b=a.d.toNat then some a.pl else q.1.hid b,q.1.us⟩,q.2)else(q.1,XD q.2 a.pl)
def L5(e:Bool)(a:It)(q:Sc × (Int × Bool)):Sc × (Int × Bool):=
 if e && !(q.1.hid a.d.toNat).isNone && !(q.1.us a.d.toNat)then(⟨q.1.hid,fun b=>if b=a.d.toNat then true else q.1.us b⟩,q.2)else(q.1,XD q.2 a.pl)
def endStep(a:Sc)(st:Int × Bool)(d:Nat):Int × Bool:=match a.hid d with|some pl=>if a.us d then st else XD st pl|none=>st
def Sa(a:Sc)(st:Int × Bool):Int × Bool:=(List.range 8).foldl (endStep a) st
def Dj(e b:Bool)(a:It)(q:Sc × (Int × Bool)):Sc × (Int × Bool):=if Ae a.c then G0 e a q else if AN a.c then L5 b a q else q
def walkV:Nat->Bool->Bool->aD It->Sc × (Int × Bool)->Sc × (Int × Bool)
 | 0,_,_,_,q=>q
 | _+1,_,_,[],q=>q
 | f+1,h,g,e::a,q=>
  if e.c=40 then(q.1,Sa ((segs a.length a).foldl (fun b s=>walkV f true true s b) (FN,q.2)).1 ((segs a.length a).foldl (fun b s=>walkV f true true s b) (FN,q.2)).2)
  else(segs a.length a).foldl (fun b s=>walkV f false (g&&AY [119,64,115] e.c) s b) (Dj h g e q)
def I4(l:aD It):Prop:=∃ b a,l=b::a/\b.nx=1+(a.length:Int)
theorem G7(b)(e:∀ s,s∈b->I4 s):∀ a,b.flatten.length<=a->segs a b.flatten=b:=by
 induction b with
 | nil=>intro a _;cases a<;>rfl
 | cons s t j=>
  intro a g;obtain⟨o,k,rfl,p⟩:=e s aG;simp only[cR,cA,aX,aR]at g⊢
  cases a with
  | zero=>omega
  | succ a=>
   rw[segs];have f:o.nx.toNat-1=k.length:=kX;rw[f,eT,jO,j (fun s h=>e s (aH _ h)) a kX]
def FQ(l:aD Bool)(a b:Nat)(e:Bool):aD Bool:=l.mapIdx fun i f=>if a<=i/\i<b then e else f
def AQ(rd:aD Bool)(a b n:Nat):Bool:=decide (n<=b-a) && !((List.range n).any fun e=>rd.getD (a+e) false)
structure PS where
 pl:Nat
 en:Nat
 rd:aD Bool
 Ai:Nat->Nat × Nat
 Af:Nat
structure PO where
 e:Nat
 ok:Bool
 fuel:Nat
 far:Nat
 st:PS
 t:aD UInt8
def HP(n:Nat)(st:PS):PO:=⟨n,false,0,0,st,[]⟩
def CK(e b a:Nat)(st:PS):PO:=⟨0,false,e,max b a,st,[]⟩
def BW(b a:Nat)(st:PS)(t:aD UInt8):PO:=⟨0,true,b,a,st,t⟩
def Bs(N b a:Nat)(st:PS)(t:aD UInt8):PO:=if st.Af=N then HP 7 st else BW b a {st with Af:=st.Af+1} t
def Dk(a b:aD UInt8):aD UInt8:=if a=[]then b else a++32::b
def F4(n:Nat):UInt8:=if n<10 then UInt8.ofNat (48+n)else UInt8.ofNat (87+n)
def CE(a:aA):aD UInt8:=34::((List.range a.size).flatMap fun i=>[F4 (bn a i / 16),F4 (bn a i % 16)])++[34]
def EY(n:Nat):aD UInt8:=Lib.decDigits n
def AB(st:PS)(n:Nat):PS:={st with rd:=FQ st.rd st.pl (st.pl+n) true,pl:=st.pl+n}
def Bl(a:It)(st:PS):Nat:=if a.c=39 then 1 else if a.c=114 then(st.Ai a.d.toNat).1 else if a.c=46 then st.en-st.pl else a.w.toNat
def Ie(b:It)(a:aA):Nat:=if b.c=108\/b.c=107 then Mm a a.size else hiV a a.size
def AJ(bs:aA)(N:Nat)(a:It)(q:Bool)(e b:Nat)(st:PS):PO:=
 if AQ st.rd st.pl st.en (Bl a st)then
  if a.c=39 then(if(bn bs st.pl:Int)≠a.b then CK e b st.pl st else if q then BW e b (AB st 1) []else Bs N e b (AB st 1) [45])
  else if a.c=114\/a.c=46 then Bs N e b (AB st (Bl a st)) (CE (bs.extract st.pl (st.pl+Bl a st)))
  else if Ae a.c then BW e b {AB st (Bl a st)with Ai:=fun f=>if f=a.d.toNat then(Ie a (bs.extract st.pl (st.pl+Bl a st)),a.w.toNat)else st.Ai f} []
  else Bs N e b (AB st (Bl a st)) (EY (Ie a (bs.extract st.pl (st.pl+Bl a st))))
 else CK e b st.pl st
def silV(a:aD It):Bool:=match a with|x::_=>decide (x.c=39)||Ae x.c|[]=>false
def kidsT(T:Nat->Nat->Bool->aD It->PS->PO):aD (aD It)->Nat->Nat->PS->aD UInt8->PO
 | [],b,a,st,t=>BW b a st t
 | k::ks,b,a,st,t=>
  if(T b a (silV k) k st).ok=true then kidsT T ks (T b a (silV k) k st).fuel (T b a (silV k) k st).far (T b a (silV k) k st).st (if silV k then t else Dk t (T b a (silV k) k st).t)else T b a (silV k) k st
def manyT(T:Nat->Nat->Bool->aD It->PS->PO)(N:Nat)(a:aD It):Nat->Nat->Nat->PS->aD UInt8->PO
 | 0,_,_,st,_=>HP 6 st
 | g+1,e,b,st,t=>
  if(T e b false a st).e≠0 then T e b false a st
  else if(T e b false a st).ok=false\/(T e b false a st).st.pl=st.pl then Bs N (T e b false a st).fuel (T e b false a st).far st (91::t++[93])
  else manyT T N a g (T e b false a st).fuel (T e b false a st).far (T e b false a st).st (Dk t (T e b false a st).t)
def Bq(T:Nat->Nat->Bool->aD It->PS->PO)(N:Nat)(e:aD It):Nat->Nat->Nat->PS->aD UInt8->PO
 | 0,b,a,st,t=>Bs N b a st (91::t++[93])
 | n+1,b,a,st,t=>
  if(T b a false e st).ok=true then Bq T N e n (T b a false e st).fuel (T b a false e st).far (T b a false e st).st (Dk t (T b a false e st).t)else T b a false e st
def C6(N:Nat)(c:UInt8)(a:PO):PO:=if a.ok=true then Bs N a.fuel a.far a.st (47::c::32::a.t)else a
def EC(T:Nat->Nat->Bool->aD It->PS->PO)(N:Nat)(b:aD It)(st:PS)(a:PO):PO:=
 if a.ok=true\/a.e≠0 then C6 N 48 a else C6 N 49 (T a.fuel a.far false b st)
def Cn(T:Nat->Nat->Bool->aD It->PS->PO)(N:Nat)(e f:aD It)(b a:Nat)(st:PS):PO:=EC T N f st (T b a false e st)
def Hp(N:Nat)(Ai:Nat->Nat × Nat)(a:PO):PO:=if a.ok=true then Bs N a.fuel a.far {a.st with Ai:=Ai} (40::a.t++[41])else a
def CT(T:Nat->Nat->Bool->aD It->PS->PO)(N:Nat)(e:aD (aD It))(b a:Nat)(st:PS):PO:=Hp N st.Ai (kidsT T e b a {st with Ai:=fun _=>(0,0)} [])
def BV(d:Nat)(st:PS)(a:PO):PO:=if a.ok=true then(if a.st.pl≠st.pl+d then CK a.fuel a.far a.st.pl st else BW a.fuel a.far {a.st with en:=st.en} a.t)else a
def BU(T:Nat->Nat->Bool->aD It->PS->PO)(d:Nat)(e:aD It)(b a:Nat)(st:PS):PO:=
 if st.en-st.pl<d then CK b a st.pl st else BV d st (T b a false e {st with en:=st.pl+d})
def PC(st:PS)(a:PO):PO:=if a.ok=true then BW a.fuel a.far {a.st with pl:=st.pl,en:=st.en} a.t else a
def Nf(T:Nat->Nat->Bool->aD It->PS->PO)(bs:aA)(d:Nat)(e:aD It)(b a:Nat)(st:PS):PO:=
 if bs.size<d then CK b a st.pl st else PC st (T b a false e {st with pl:=d,en:=bs.size})
def Cm(bs:aA)(d:Nat × Nat)(st:PS)(a:PO):PO:=
 if a.ok=true then(if CB (bs.extract st.pl a.st.pl) d.2 (bs.extract st.pl a.st.pl).size≠d.1 then CK a.fuel a.far st.pl st else BW a.fuel a.far {a.st with en:=st.en} a.t)else a
def DB(T:Nat->Nat->Bool->aD It->PS->PO)(bs:aA)(d:Nat × Nat)(e:aD It)(b a:Nat)(st:PS):PO:=Cm bs d st (T b a false e st)
def tryT(G:Nat->aD It)(bs:aA)(N:Nat):Nat->Nat->Nat->Bool->aD It->PS->PO
 | 0,_,_,_,_,st=>HP 6 st
 | _+1,_,_,_,[],st=>HP 6 st
 | _+1,0,_,_,_::_,st=>HP 6 st
 | g+1,e+1,far,q,a::b,st=>
  if a.c=40 then CT (tryT G bs N g) N (segs b.length b) e far st
  else if a.c=47 then Cn (tryT G bs N g) N ((segs b.length b).getD 0 []) ((segs b.length b).getD 1 []) e far st
  else if a.c=42 then manyT (tryT G bs N g) N b (e+1) e far st []
  else if a.c=82 then tryT G bs N g e far false (G a.r.toNat) st
  else if a.c=116 then Bq (tryT G bs N g) N b (st.Ai a.d.toNat).1 e far st []
  else if a.c=119 then BU (tryT G bs N g) (st.Ai a.d.toNat).1 b e far st
  else if a.c=64 then Nf (tryT G bs N g) bs (st.Ai a.d.toNat).1 b e far st
  else if a.c=115 then DB (tryT G bs N g) bs (st.Ai a.d.toNat) b e far st
  else AJ bs N a q e far st
def Ey(bs:aA):PS:=⟨0,bs.size,List.replicate bs.size false,fun _=>(0,0),0⟩
def endT(a:PO):aD UInt8 × Nat × Nat:=
 if a.e≠0 then([],a.e,0)else if a.ok=false then([],8,a.far)
 else match a.st.rd.findIdx? (fun b=>!b)with|some i=>([],8,i)|none=>(a.t,0,0)
def JB:aD Bool->aD (Nat × Nat)->aD Bool->Prop
 | rd,[],rd'=>rd'=rd
 | rd,a::ps,rd'=>a.1<=a.2/\a.2<=rd.length/\(∀ i,a.1<=i->i<a.2->rd.getD i false=false)/\JB (FQ rd a.1 a.2 true) ps rd'
def FG(l:aD (Nat × Nat))(rd:aD Bool):aD Bool:=l.foldl (fun b a=>FQ b a.1 a.2 false) rd
theorem Ca(l a b e):(FQ l a b e).length=l.length:=by simp[FQ]
theorem Gk(l a b e i)(f:i<l.length):(FQ l a b e)[i]'(by rw[Ca];exact f)=if a<=i/\i<b then e else l[i]:=by simp[FQ]
theorem KL(l a b e i)(f:i<l.length):(FQ l a b e).getD i false=if a<=i/\i<b then e else l.getD i false:=by
 have g:i<(FQ l a b e).length:=by rw[Ca];exact f
 rw[aZ,bA g,aZ,bA f];simp only[fP];exact Gk l a b e i f
theorem JB.len{e:aD (Nat × Nat)}:∀ {rd a:aD Bool},JB rd e a->a.length=rd.length:=by
 induction e with
 | nil=>intro rd a b;rw[show a=rd from b]
 | cons g h f=>intro rd a b;have:=f b.2.2.2;rw[this,Ca]
theorem JB.app{h:aD (Nat × Nat)}:∀ {e:aD (Nat × Nat)} {rd b g:aD Bool},JB rd h b->JB b e g->JB rd (h++e) g:=by
 induction h with
 | nil=>intro e rd b g a f;rw[show b=rd from a]at f;exact f
 | cons k o j=>intro e rd b g a f;exact⟨a.1,a.2.1,a.2.2.1,j a.2.2.2 f⟩
theorem JB.in{f:aD (Nat × Nat)}:∀ {rd g:aD Bool},JB rd f g->∀ a,a∈f->a.1<=a.2/\a.2<=rd.length:=by
 induction f with
 | nil=>intro rd g e a b;simp at b
 | cons q j h=>
  intro rd g e a b;rcases bB.1 b with rfl|b;exact⟨e.1,e.2.1⟩;have:=h e.2.2.2 a b;rw[Ca]at this;exact this
theorem Xu(l:aD (Nat × Nat)):∀ rd,(FG l rd).length=rd.length:=by
 induction l with
 | nil=>intro rd;rfl
 | cons b t a=>intro rd;simp only[FG,dP]at a⊢;rw[a,Ca]
def Cj(l:aD (Nat × Nat))(i:Nat):Bool:=l.any fun a=>decide (a.1<=i)&&decide (i<a.2)
theorem WG(l:aD (Nat × Nat)):∀ rd i,i<rd.length->(FG l rd).getD i false=(rd.getD i false && !(Cj l i)):=by
 induction l with
 | nil=>intro rd i _;simp[FG,Cj]
 | cons a t j=>
  intro rd i g;have e:=j (FQ rd a.1 a.2 false) i (by rw[Ca];exact g);simp only[FG,dP]at e⊢;rw[e,KL _ _ _ _ _ g];simp only[Cj,cQ];by_cases b:a.1<=i/\i<a.2;rw[aF b];simp[b.1,b.2];rw[aC b];have:(decide (a.1<=i)&&decide (i<a.2))=false:=by
   by_cases f:a.1<=i;have:¬ i<a.2:=fun h=>b ⟨f,h⟩
   simp[this];simp[f]
  rw[this];simp
theorem JB.get{g:aD (Nat × Nat)}:∀ {rd f:aD Bool},JB rd g f->∀ i,i<rd.length->f.getD i false=(rd.getD i false||Cj g i)/\(Cj g i=true->rd.getD i false=false):=by
 induction g with
 | nil=>intro rd f h i _;rw[show f=rd from h];simp[Cj]
 | cons e v u=>
  intro rd f h i o;obtain⟨j,k,p,r⟩:=h;have b:=u r i (by rw[Ca];exact o);rw[KL _ _ _ _ _ o]at b;simp only[Cj,cQ]at b⊢;by_cases a:e.1<=i/\i<e.2;rw[aF a]at b;rw[p i a.1 a.2,b.1];simp[a.1,a.2];rw[aC a]at b;have:(decide (e.1<=i)&&decide (i<e.2))=false:=by
   by_cases j:e.1<=i;have:¬ i<e.2:=fun k=>a ⟨j,k⟩
   simp[this];simp[j]
  rw[this];simpa using b
theorem JB.Acu{a:aD (Nat × Nat)}{rd b}(h:JB rd a b):FG a b=rd:=by
 have j:=h.len;apply fA (by rw[Xu,j]);intro i p f;have e:=WG a b i (by rw[j];exact f);obtain⟨k,c⟩:=h.get i f;rw[k]at e;have o:(FG a b).getD i false=(FG a b)[i]:=by rw[aZ,bA p];rfl
 have g:rd.getD i false=rd[i]:=by rw[aZ,bA f];rfl
 rw[o,g]at e;rw[g]at c;rw[e]
 cases r:Cj a i
 simp;rw[c r];simp
structure Ts where
 fuel:Nat
 nodes:Nat
 far:Nat
 read:aD Bool
 Aw:aD (Nat × Nat)
 sv:aI
def CO(n:Nat):aI:=.func (.func n) #[] #[]
def E2:aD aI:=[CO 120,CO 121,CO 122,
 CO 123,CO 121,CO 124,
 CO 125,CO 126,CO 127,
 CO 128,CO 129,CO 130,
 CO 131,CO 132,CO 133,
 CO 134,CO 135,CO 136,
 CO 137,CO 138,CO 139,
 CO 140,CO 141,CO 142,
 CO 143,CO 141,CO 144,
 CO 145,CO 146,CO 147,
 CO 148,CO 135,CO 149,
 CO 150,CO 151,CO 152,
 CO 153,CO 151,CO 154,
 CO 155,CO 151,CO 156,
 CO 157,CO 146,CO 158]
def Adt(a b:Nat)(bs:aA)(s:Ts):aD aI:=[P0 a,.string bs,I0 s.fuel,I0 s.nodes,S0 b bs.size bs.size,s.sv,I0 s.far]
def Ed(a b:Nat)(bs:aA)(s:Ts):Array aI:=(E2++Adt a b bs s).toArray
def Fz(l:aD (Nat × Nat)):aD aI:=l.flatMap fun a=>[I0 a.1,I0 a.2]
structure A7 (gb rb tb:Nat) (bs:aA) (w:aE) (s:Ts):Prop where
 Ap:Ac w tb (Ed gb rb bs s) 154
 rd:Ac w rb (s.read.map Value.bool).toArray 4
 len:s.read.length=bs.size
 own:w.ownsRow (tb+1) 288 2 s.sv s.Aw.length (Fz s.Aw)
 lt:rb<tb
theorem S5(a b bs s)(n:Nat):(Ed a b bs s).setIfInBounds 51 (I0 n)=Ed a b bs {s with far:=n}:=rfl
theorem Q6(a b bs s)(n:Nat):(Ed a b bs s).setIfInBounds 47 (I0 n)=Ed a b bs {s with fuel:=n}:=rfl
theorem Jb(a b bs s)(n:Nat):(Ed a b bs s).setIfInBounds 48 (I0 n)=Ed a b bs {s with nodes:=n}:=rfl
theorem A7.set{e g h bs w s s'}(a:A7 e g h bs w s)(f b)(p:(Ed e g bs s).setIfInBounds f b=Ed e g bs s')(j:s'.read=s.read)(k:s'.Aw=s.Aw)(o:s'.sv=s.sv):A7 e g h bs (w.setCell (A0 h f) b) s':=by
 have r:=a.lt;refine⟨?_,?_,by rw[j];exact a.len,?_,r⟩;rw[<- p];exact Ac.set a.Ap f b;rw[j];exact Ac.Ad a.rd _ lB b;rw[k,o];exact dS a.own (a:=(A0 h f)) kY b
theorem A7.alloc{e rb f bs w s}(a:A7 e rb f bs w s)(b):A7 e rb f bs (w.alloc b) s:=⟨Ac.alloc a.Ap b,Ac.alloc a.rd b,a.len,a.own.alloc b,a.lt⟩
theorem A7.drewN{b rb tb bs w s}(a:A7 b rb tb bs w s)(n):A7 b rb tb bs (w.drewN n) s:=⟨a.Ap,a.rd,a.len,a.own,a.lt⟩
theorem A7.Yj{b f a bs w s}(e:A7 b f a bs w s):w.cell? (A0 a 47)=some (I0 s.fuel):=e.Ap.cell 47
theorem A7.Q1{b f a bs w s}(e:A7 b f a bs w s):w.cell? (A0 a 48)=some (I0 s.nodes):=e.Ap.cell 48
theorem A7.U7{e a b bs w s}(f:A7 e a b bs w s):w.cell? (A0 b 49)=some (S0 a bs.size bs.size):=f.Ap.cell 49
theorem A7.csv{b f a bs w s}(e:A7 b f a bs w s):w.cell? (A0 a 50)=some s.sv:=e.Ap.cell 50
theorem A7.Age{b f a bs w s}(e:A7 b f a bs w s):w.cell? (A0 a 51)=some (I0 s.far):=e.Ap.cell 51
theorem A7.QL{b f a bs w s}(e:A7 b f a bs w s):w.cell? (A0 a 46)=some (.string bs):=e.Ap.cell 46
theorem A7.Vy{a f b bs w s}(e:A7 a f b bs w s):w.cell? (A0 b 45)=some (P0 a):=e.Ap.cell 45
theorem DE(g h a bs w s)(e:A7 g h a bs w s)(b:Nat):
 Calls prog 185 #[P0 a,I0 b] w fun f w'=>f=.returned (.tuple #[.pointer none,I0 0,.bool false])/\w'=w.setCell (A0 a 51) (I0 (max s.far b:Nat)):=by
 have c:=e.Age;have j:=e.Ap.frozen 51;go_enter func185,ntmps185;go_wp2_with fail;all_goals
  go_ret3;refine⟨rfl,?_⟩;congr;omega
def F7(n:Int):aD PanicEntry:=[{v:=.iface 81 (.agg #[I0 n]),recovered:=false}]
theorem Fb(j o b bs w s)(k:A7 j o b bs w s)(f n g e)(h0:s.nodes=0)(_hv:e.oneCell'=true):
 Calls prog 186 #[P0 b,.agg (X_11 f n g e)] w fun h w'=>h=.panicked (F7 7)/\w'=w.alloc (.cells (X_11 f n g e) 177):=by
 have c:∀ a,(w.alloc a).cell? (A0 b 48)=some (I0 0):=fun a=>by rw[(k.alloc a).Q1,h0];rfl
 go_enter func186,ntmps186;go_wp2_with fail;exact⟨rfl,rfl,rfl⟩
theorem nK(h:p:=by
 apply fA (by rw[Ca]);intro i ab ac;rw[Gk _ _ _ _ _ ac,aC kX]):p:=h
structure TF (tb rb:Nat) (sb hb:aM Nat) (w w':aE):Prop where
 os:w'.os=w.os
 tape:w'.tape=w.tape
 output:w'.output=w.output
 size:w.heap.size<=w'.heap.size
 block:∀ k,k<w.heap.size->k≠tb->k≠rb->some k≠sb->some k≠hb->w'.heap[k]? = w.heap[k]?
theorem TF.refl(f b e a w):TF f b e a w w:=⟨rfl,rfl,rfl,aB _,fun _ _ _ _ _ _=>rfl⟩
theorem TF.trans{v p r u hb o j b c}(h:TF v p r hb j b)(f:TF v p u o b c)(e:u=r\/∀ g,u=some g->j.heap.size<=g)(a:o=hb\/∀ g,o=some g->j.heap.size<=g):TF v p r hb j c:=by
 refine⟨f.os.trans h.os,f.tape.trans h.tape,f.output.trans h.output,bQ h.size f.size,fun i B x y z A=>?_⟩;rw[f.block i Fu x y ?_ ?_,h.block i B x y z A];rcases e with e|e;rw[e];exact z;intro k;have:=e i k.symm;omega;rcases a with a|a;rw[a];exact A;intro k;have:=a i k.symm;omega
theorem TF.alloc{g rb f e a b}(h:TF g rb f e a b)(v):TF g rb f e a (b.alloc v):=
 ⟨h.os,h.tape,h.output,by have:=h.size;simp;omega,fun u r j k o p=>by rw[bC _ _ _ Fu,h.block u r j k o p]⟩
theorem TF.drewN{tb rb sb f b e}(a:TF tb rb sb f b e)(n):TF tb rb sb f b (e.drewN n):=⟨a.os,a.tape,a.output,a.size,a.block⟩
theorem TF.setCell{k h j g f b}(e:TF k h j g f b)(p A)(y:p.block=k\/p.block=h\/some p.block=j\/some p.block=g\/f.heap.size<=p.block):TF k h j g f (b.setCell p A):=
 ⟨e.os,e.tape,e.output,by have:=e.size;simp[World.setCell];omega,fun z x o r u v=>by
  rw[aN _ _ _ _ (by rcases y with a|a|a|a|a<;>first|(rintro rfl;exact absurd a (by first|exact o|exact r))|(rintro rfl;exact u a)|(rintro rfl;exact v a)|omega),e.block z x o r u v]⟩
theorem TF.below{r o a p k f j}(e:TF r o p k f j)(z:a<=f.heap.size)(x:a<=r)(y:a<=o)(u:∀ b,p=some b->a<=b)(v:∀ b,k=some b->a<=b):Below a f j:=
 ⟨e.os,e.tape,e.output,e.size,fun h A=>e.block h kX kX kX (fun g=>by have:=u h g.symm;omega) (fun g=>by have:=v h g.symm;omega)⟩
theorem TF.Ap{o j k g b e}(p:TF o j k g b e){a f t}(h:Ac b a f t)(r:a≠o)(u:a≠j)(v:some a≠k)(x:some a≠g):Ac e a f t:=by
 have:=h.lt;unfold Ac at*;rw[p.block a this r u v x];exact h
theorem A7.TD{e h j bs w s}(f:A7 e h j bs w s):∃ g a,s.sv=.slice g s.Aw.length a:=by
 rcases f.own.2 with⟨b,h0⟩|⟨o,a,k,b,_⟩;exact⟨none,0,by rw[b,h0]⟩;exact⟨_,a,b⟩
theorem A7.D0{e rb tb bs w s}(f:A7 e rb tb bs w s)(a)(b:s.sv.ownBlock=some a):tb<a/\a<w.heap.size:=by
 have:=f.own.lt a b;omega
theorem Fs(h e a bs w s)(f:A7 h e a bs w s)(j n k g m)(h0:s.nodes=m+1)(v:m<=1000000)(_hv:g.oneCell'=true):
 Calls prog 186 #[P0 a,.agg (X_11 j n k g)] w fun p w'=>p=.returned (P0 w.heap.size)/\
  A7 h e a bs w' {s with nodes:=m}/\TF a e none none w w'/\Ac w' w.heap.size (X_11 j n k g) 177/\w'.heap.size=w.heap.size+1:=by
 have u:=f.Ap.lt;have o:=f;have c:∀ b,(w.alloc b).cell? (A0 a 48)=some (I0 (m+1)):=fun b=>by rw[(f.alloc b).Q1,h0];rfl
 have r:∀ b,(w.alloc b).frozen? (A0 a 48)=false:=fun b=>(f.alloc b).Ap.frozen 48
 have x:¬ ((m:Int)+1==0)=true:=lA;have y:¬ w.heap.size=a:=kX;have z:¬ a=w.heap.size:=kX;go_enter func186,ntmps186;go_wp2;go_ret;refine⟨rfl,?_,?_,?_,?_⟩;exact(o.set (s':={s with nodes:=m}) 48 _ (Jb h e bs s m) rfl rfl rfl).alloc _;exact((TF.refl a e none none w).setCell (A0 a 48) _ (Or.inl rfl)).alloc _;have:=Ac.new (w.setCell (A0 a 48) (I0 m)) (X_11 j n k g) 177;rwa [show(w.setCell (A0 a 48) (I0 m)).heap.size=w.heap.size by simp[World.setCell]]at this;simp[World.setCell]
theorem MT(g f b bs w s)(e:A7 g f b bs w s):
 Calls prog 187 #[P0 b] w fun k w'=>k=.returned (.agg #[I0 s.Aw.length,I0 s.nodes])/\A7 g f b bs w' s/\TF b f none none w w'/\w'.heap.size=w.heap.size+1:=by
 have v:=e.Ap.lt;have h:=Aa e;obtain⟨p,j,o⟩:=e.TD;have u:∀ a,(w.alloc a).cell? (A0 b 50)=some (.slice p s.Aw.length j):=fun a=>by rw[(e.alloc a).csv,o]
 have r:∀ a,(w.alloc a).cell? (A0 b 48)=some (I0 s.nodes):=fun a=>(e.alloc a).Q1
 go_enter func187,ntmps187;go_wp2_with fail;go_region
 go_wp2;refine aT (v:=.agg #[I0 s.Aw.length,I0 s.nodes]) (by simp[results,results187,go_sem]) rfl ?_;refine⟨rfl,(h.o.alloc _).drewN 1,((TF.refl b f none none w).alloc _).drewN 1,?_⟩;simp
theorem Wv(l a b e)(f:b<=a):FQ l a b e=l:=by
 exact nK
theorem Wj(l a i e)(o:a<=i):(FQ l a i e).set i e=FQ l a (i+1) e:=by
 apply fA (by simp[Ca]);intro b k j;have h:b<l.length:=by simpa[Ca]using j
 rw[List.getElem_set,Gk _ _ _ _ _ h,Gk _ _ _ _ _ h];by_cases g:i=b;subst g;rw[aF rfl,aF kX];rw[aC g];by_cases f:a<=b/\b<i;rw[aF f,aF kX];rw[aC f,aC kX]
theorem Sd(l:aD Bool)(i:Nat)(a:Bool):(l.map Value.bool).toArray.setIfInBounds i (.bool a)=((l.set i a).map Value.bool).toArray:=by simp[List.map_set]
theorem A7.Abb{f b g bs w s}(a:A7 f b g bs w s)(i e):A7 f b g bs (w.setCell (A0 b i) (.bool e)) {s with read:=s.read.set i e}:=by
 have h:=a.lt;refine⟨Ac.Ad a.Ap _ lB _,?_,by simp[a.len],?_,h⟩;have:=Ac.set a.rd i (.bool e);rwa [Sd]at this;exact dS a.own (a:=(A0 b i)) lA _
theorem Ja(k e g bs)(ab:bs.size<=4000)(w s)(h:A7 k e g bs w s)(b a f)(K:b<=a)(aa:a<=bs.size):
 Calls prog 205 #[P0 g,.agg #[I0 b,I0 a],.bool f] w fun I w'=>I=.returned (.tuple #[])/\A7 k e g bs w' {s with read:=FQ s.read b a f}/\TF g e none none w w'/\w'.heap.size=w.heap.size+1:=by
 have O:=h.Ap.lt;have ad:=h.lt;have F:=Aa (h.alloc (.cells #[I0 b,I0 a] 288));have x:=Aa (Ac.new w #[I0 b,I0 a] 288);have z:=Aa ((TF.refl g e none none w).alloc (.cells #[I0 b,I0 a] 288));have S:(w.alloc (.cells #[I0 b,I0 a] 288)).heap.size=w.heap.size+1:=kY;go_enter func205,ntmps205;go_wp2_with fail;generalize w.alloc (.cells #[I0 b,I0 a] 288)=W at*;go_loopw [6] (fun o wr=>∃ i:Nat,o=I0 i/\b<=i/\i<=a/\Hid (A7 k e g bs wr {s with read:=FQ s.read b i f})/\Hid (Ac wr w.heap.size #[I0 b,I0 a] 288)/\Hid (TF g e none none w wr)/\wr.heap.size=w.heap.size+1) (fun o _=>a-(intOf o).toNat)
 case atStart=>exact⟨b,rfl,aB _,K,by rw[Wv _ _ _ _ (aB _)];exact F,x,z,S⟩
 case round=>
  obtain⟨i,rfl,J,Z,j,p,r,v⟩:=hrel;have U:=p.out.c1;by_cases O:i<a
  . have L:(i:Int)<(a:Int):=by omega
    have ac:(i:Int)<(bs.size:Int):=kX;have X:=j.out.U7;have u:i<(FQ s.read b i f).length:=by rw[Ca];have:=j.out.len;simp only[Ca]at this;omega
    have V:wr.cell? (A0 e i)=some (.bool ((FQ s.read b i f)[i]'u)):=by rw[j.out.rd.cell i];simp[u]
    have Y:=j.out.rd.frozen i;have B:=Aa (j.out.Abb i f);have E:Hid (A7 k e g bs (wr.setCell (A0 e i) (.bool f)) {s with read:=FQ s.read b (i+1) f}):=by
     have h:=B.o;simp only[Wj _ _ _ _ J]at h;exact h
    have y:=Aa (p.out.Ad (A0 e i) lB (.bool f));have A:=Aa (r.out.setCell (A0 e i) (.bool f) (Or.inr (Or.inl rfl)));go_wp2;go_roundw
    case rel=>exact⟨i+1,by go_num,by omega,by omega,E,y,A,by simpa[World.setCell]using v⟩
    case measure=>simp[intOf];omega
  have L:¬ (i:Int)<(a:Int):=kX;have M:i=a:=kX;subst M;go_wp2;go_end0;exact⟨rfl,j.out,r.out,v⟩
theorem jv(h:p:=by
 go_roundw
 case rel=>exact⟨i+1,by go_num,by omega,(fun f ad=>if hji:f=i then by subst hji;rw[ab.o];simp else bj.out f kX),trivial⟩
 case measure=>simp[intOf];omega):p:=h
def Ad9(e:Nat->Bool)(b:Bool)(n:Nat)(f:Int):Prop:=(∃ i:Nat,f=i/\i<n/\e i=b/\∀ a,a<i->e a≠b)\/(f = -1/\∀ a,a<n->e a≠b)
theorem LS(w k n u b a)(B:n<=4000)(x:∀ f,f<n->∃ e h,k=some (A0 e h)/\w.cell? (A0 e (h+f))=some (.bool (b f))):
 Calls prog 63 #[.slice k n u,.bool a] w fun v w'=>∃ p,v=.returned (I0 p)/\w'=w/\Ad9 b a n p:=by
 have r:=Aa x;go_enter func63,ntmps63;go_wp2;go_loopw [8,5] (fun j _ wr=>∃ i:Nat,j=I0 i/\i<=n/\Hid (∀ f,f<i->b f≠a)/\wr=w) (fun j _ _=>n-(intOf j).toNat)
 case atStart=>exact⟨0,rfl,by omega,(fun f ad=>by omega),rfl⟩
 case round=>
  obtain⟨i,rfl,A,bj,rfl⟩:=hrel;by_cases g:i<n
  . have z:(i:Int)<(n:Int):=by omega
    obtain⟨e,h,rfl,y⟩:=r.o i g
    cases o:b i<;>cases a<;>rw[o]at y
    all_goals
     have ab:=Aa o;go_wp2
    . go_ret;exact⟨_,rfl,rfl,Or.inl ⟨i,rfl,g,ab.o,bj.out⟩⟩
    . exact jv
    . exact jv
    . go_ret;exact⟨_,rfl,rfl,Or.inl ⟨i,rfl,g,ab.o,bj.out⟩⟩
  have z:¬ (i:Int)<(n:Int):=kX;go_wp2;go_ret;exact⟨_,rfl,rfl,Or.inr ⟨rfl,fun f ad=>bj.out f kX⟩⟩
theorem If(w b n h)(f:Nat->Bool)(B:n<=4000)(v:∀ a,a<n->∃ k o,b=some (A0 k o)/\w.cell? (A0 k (o+a))=some (.bool (f a)))(c:Bool)(x:c=true↔∃ a,a<n/\f a=true):
 Calls prog 204 #[.slice b n h,.bool true] w fun j w'=>j=.returned (.bool c)/\w'=w:=by
 have r:=Aa (LS w b n h f true B v);have g:=Aa x;go_enter func204,ntmps204;go_wp2_with fail;refine r.o.mono ?_;rintro j w1⟨F,rfl,rfl,A⟩;have y:c=decide (0<=F):=by
  rcases A with⟨i,rfl,e,u,I⟩|⟨rfl,e⟩;rw[g.o.2 ⟨i,e,u⟩];simp
  cases c
  rfl;obtain⟨a,z,E⟩:=g.o.1 rfl;exact absurd E (e a z)
 have p:=Aa y;simp only;go_wp2_with fail;all_goals
  go_ret;exact⟨by rw[p.o];simp[*],rfl⟩
def Bb(a b:Nat)(e:aM Addr):aI:=.agg (X_1 a b e)
def AD(a b:Nat)(e:aM Addr):Obj:=.cells (X_1 a b e) 159
def N2(a b:Nat):Obj:=.cells #[I0 a,I0 b] 288
theorem Tryz.YT:(prog.info? 288).map (fun i=>(i.zero,i.size,i.bytes))=some (some (.agg #[I0 0,I0 0]),2,16):=kZ
theorem P8(rd:aD Bool)(b n:Nat):((List.range n).any fun a=>rd.getD (b+a) false)=true↔∃ a,a<n/\rd.getD (b+a) false=true:=by
 rw[eS];simp
theorem A7.X2{f e g bs w s}(b:A7 f e g bs w s)(a)(h:a<bs.size):w.cell? (A0 e a)=some (.bool (s.read.getD a false)):=by
 have j:=b.len;rw[b.rd.cell a];simp[show a<s.read.length by omega]
theorem IC(u e g bs)(M:bs.size<=4000)(w s)(o:A7 u e g bs w s)(a b n f)(L:a<=b)(O:b<=bs.size)(Z:n<4294967296)(p:AQ s.read a b n=false):
 Calls prog 184 #[P0 g,Bb a b f,.int .u32 n] w fun y w'=>y=.returned (.tuple #[.string ByteArray.empty,.bool false])/\A7 u e g bs w' s/\TF g e none none w w':=by
 have X:=o.Ap.lt;have Y:=o.lt;have r:=Aa o;by_cases K:b-a<n
 . have z:((b:Int)-(a:Int))<(n:Int):=by omega
   unfold Bb;go_enter func184,ntmps184;go_wp2;go_ret2;exact⟨rfl,r.o.alloc _,(TF.refl g e none none w).alloc _⟩
 have z:¬ ((b:Int)-(a:Int))<(n:Int):=kX;have A:((List.range n).any fun j=>s.read.getD (a+j) false)=true:=by
  unfold AQ at p;rw[bF kX]at p;simpa using p
 have v:=Aa ((P8 _ _ _).1 A);have h:=Aa ((r.o.alloc (AD a b f)).alloc (N2 a (a+n)));have k:=Aa (((TF.refl g e none none w).alloc (AD a b f)).alloc (N2 a (a+n)));unfold N2 AD at h k;have B:((a+n:Nat):Int)=(a:Int)+(n:Int):=kX;rw[B]at h k;have U:(a:Int)<=(a:Int)+(n:Int):=kX;have V:(a:Int)+(n:Int)<=(bs.size:Int):=kX;unfold Bb;go_enter func184,ntmps184;go_wp2_with fail;have F:((w.alloc (.cells (X_1 a b f) 159)).alloc (.cells #[I0 a,I0 (a+n)] 288)).cell? (A0 (w.heap.size+1) 0)=some (I0 a):=lL;have I:((w.alloc (.cells (X_1 a b f) 159)).alloc (.cells #[I0 a,I0 (a+n)] 288)).cell? (A0 (w.heap.size+1) 1)=some (I0 (a+n)):=lL;generalize(w.alloc (.cells (X_1 a b f) 159)).alloc (.cells #[I0 a,I0 (a+n)] 288)=W at*;have J:=h.o.U7;have x:Hid (∀ m,Calls prog 204 #[.slice (if bs.size=a then some (A0 e 0)else some (A0 e a)) n (bs.size-a),.bool true] (W.drewN m) fun b w'=>b=.returned (.bool true)/\w'=W.drewN m):=fun m=>
  If (W.drewN m) _ n _ (fun j=>s.read.getD (a+j) false) kX (fun j S=>⟨e,a,by rw[aC kX],(h.o.drewN m).X2 (a+j) kX⟩) true ⟨fun _=>v.o,fun _=>rfl⟩
 go_quiet (first|(go_at_call 204;exact eP (x.o _)));generalize(if bs.size=a then some (A0 e 0)else some (A0 e a):aM Addr)=E;go_wp2;go_ret2;exact⟨rfl,h.o.drewN _,k.o.drewN _⟩
theorem TF.grown{v u j r g b k c}(h:TF v u j r b k)(a:k.grownBy c g)(E:g=j\/∀ o,g=some o->b.heap.size<=o):TF v u j r b c:=
 ⟨a.os.trans h.os,a.tape.trans h.tape,a.output.trans h.output,bQ h.size a.size,fun f B y z p A=>by
  rw[a.block f Fu (E.elim (fun e=>by rw[e];exact p) (fun e x=>by have:=e f x.symm;omega)),h.block f B y z p A]⟩
theorem TF.any{g f b e}(a:TF g f none none b e)(r o):TF g f r o b e:=⟨a.os,a.tape,a.output,a.size,fun k p h j _ _=>a.block k p h j kY kY⟩
theorem A7.push{g rb tb}{bs}{w w'}{s}(a:A7 g rb tb bs w s)(j k:Nat)(e b)(u:w'.ownsRow (tb+1) 288 2 (S0 e (s.Aw.length+1) b) (s.Aw.length+1) (Fz s.Aw++[I0 j,I0 k]))(h:w.grownBy w' s.sv.ownBlock):A7 g rb tb bs (w'.setCell (A0 tb 50) (S0 e (s.Aw.length+1) b)) {s with Aw:=s.Aw++[(j,k)],sv:=S0 e (s.Aw.length+1) b}:=by
 have o:=a.lt;have p:some tb≠s.sv.ownBlock:=fun f=>by have:=(a.D0 tb f.symm).1;omega
 have r:some rb≠s.sv.ownBlock:=fun f=>by have:=(a.D0 rb f.symm).1;omega
 refine⟨?_,Ac.Ad (a.rd.grown h r) _ lB _,a.len,?_,o⟩;exact Ac.set (a.Ap.grown h p) 50 _;have:=dS u (a:=(A0 tb 50)) kY (S0 e (s.Aw.length+1) b);simpa[Fz]using this
def C2(s:Ts)(a n:Nat)(sv:aI):Ts:={s with read:=FQ s.read a (a+n) true,Aw:=s.Aw++[(a,a+n)],sv:=sv}
theorem HD(F g e bs)(a6:bs.size<=4000)(w s)(f:A7 F g e bs w s)(a b n h)(bp:a<=b)(bq:b<=bs.size)(b1:n<4294967296)(U:AQ s.read a b n=true)(b3:s.Aw.length<=1000000):
 Calls prog 184 #[P0 e,Bb a b h,.int .u32 n] w fun a4 w'=>a4=.returned (.tuple #[.string (bs.extract a (a+n)),.bool true])/\
  ∃ k,A7 F g e bs w' (C2 s a n k)/\TF e g s.sv.ownBlock none w w'/\(k.ownBlock=s.sv.ownBlock\/∃ z,k.ownBlock=some z/\w.heap.size<=z):=by
 obtain⟨bf,a7,bc,bd,be⟩:=cY Tryz.YT;have bx:=f.Ap.lt;have bz:=f.lt;have ad:=Aa f;clear f;unfold AQ at U;simp only[aY,bD]at U;obtain⟨bm,O⟩:=U;have bo:¬ ((b:Int)-(a:Int))<(n:Int):=kX;have an:Hid (¬ ∃ j,j<n/\s.read.getD (a+j) false=true):=by
  have:¬ ∃ j,j<n/\s.read.getD (a+j) false=true:=fun f=>by
   rw[(P8 _ _ _).2 f]at O;cases O
  exact this
 clear O;have r:=Aa ((ad.o.alloc (AD a b h)).alloc (N2 a (a+n)));have E:=Aa (((TF.refl e g none none w).alloc (AD a b h)).alloc (N2 a (a+n)));have y:=Aa (Ac.new (w.alloc (AD a b h)) #[I0 a,I0 ((a+n:Nat):Int)] 288);have I:((w.alloc (AD a b h)).alloc (N2 a (a+n))).heap.size=w.heap.size+2:=kY;unfold N2 AD at r E I;unfold AD at y;have V:((a+n:Nat):Int)=(a:Int)+(n:Int):=kX;rw[V]at r E y I;rw[show(w.alloc (.cells (X_1 a b h) 159)).heap.size=w.heap.size+1 by simp]at y;have bu:(a:Int)<=(a:Int)+(n:Int):=kX;have bv:(a:Int)+(n:Int)<=(bs.size:Int):=kX;unfold Bb;go_enter func184,ntmps184;go_wp2_with fail;have ay:((w.alloc (.cells (X_1 a b h) 159)).alloc (.cells #[I0 a,I0 (a+n)] 288)).cell? (A0 (w.heap.size+1) 0)=some (I0 a):=lL;have az:((w.alloc (.cells (X_1 a b h) 159)).alloc (.cells #[I0 a,I0 (a+n)] 288)).cell? (A0 (w.heap.size+1) 1)=some (I0 (a+n)):=lL;generalize(w.alloc (.cells (X_1 a b h) 159)).alloc (.cells #[I0 a,I0 (a+n)] 288)=W at*;have a3:=r.o.U7;have ac:Hid (∀ m,Calls prog 204 #[.slice (if bs.size=a then some (A0 g 0)else some (A0 g a)) n (bs.size-a),.bool true] (W.drewN m) fun b w'=>b=.returned (.bool false)/\w'=W.drewN m):=fun m=>
  If (W.drewN m) _ n _ (fun j=>s.read.getD (a+j) false) kX (fun j br=>⟨g,a,by rw[aC kX],(r.o.drewN m).X2 (a+j) kX⟩) false ⟨fun f=>(by cases f),fun f=>absurd f an.o⟩
 go_quiet (first|(go_at_call 204;exact eP (ac.o _)));generalize(if bs.size=a then some (A0 g 0)else some (A0 g a):aM Addr)=bg;have J:=Aa (show Ac (W.drewN nq) (w.heap.size+1) _ _ from y.o);have au:=Aa (r.o.drewN nq);have ao:=Aa (E.o.drewN nq);have bb:(W.drewN nq).heap.size=w.heap.size+2:=I;generalize W.drewN nq=aw at*;clear y r E ac a3;have L:=J.o.c0;have M:=J.o.c1;go_wp2_with fail;have Y:=Ja F g e bs a6 aw s au.o a (a+n) true kX kX;rw[V]at Y;refine Y.mono ?_;rintro bk p⟨rfl,am,X,ba⟩;have aj:=ao.o.trans X (Or.inl rfl) (Or.inl rfl);have B:=Aa (X.Ap J.o kX kX kY kY);have o:=Aa am;have ab:=Aa aj;have b2:w.heap.size+3<=p.heap.size:=kX;clear Y am X aj L M ay az ba bb I;have L:=B.o.c0;have M:=B.o.c1;obtain⟨x,u,v⟩:=o.o.TD;simp only at v;have a0:p.cell? (A0 e 50)=some (.slice x s.Aw.length u):=by rw[<- v];exact o.o.csv
 have a1:∀ aa,(p.alloc aa).cell? (A0 e 50)=some (.slice x s.Aw.length u):=fun aa=>by rw[<- v];exact(o.o.alloc aa).csv
 have ak:p.ownsRow (e+1) 288 2 (.slice x s.Aw.length u) s.Aw.length (Fz s.Aw):=by rw[<- v];exact o.o.own
 have b4:e<p.heap.size:=kX;have K:=Aa v;have aq:Hid (some (w.heap.size+1)≠s.sv.ownBlock):=(fun b=>by have:=ad.o.D0 _ b.symm;omega:some (w.heap.size+1)≠s.sv.ownBlock);clear v;simp only;go_wp2_with fail;go_cut [] (fun wc=>∃ k,A7 F g e bs wc (C2 s a n k)/\TF e g s.sv.ownBlock none w wc/\(k.ownBlock=s.sv.ownBlock\/∃ z,k.ownBlock=some z/\w.heap.size<=z)/\Ac wc (w.heap.size+1) #[I0 a,I0 (a+n)] 288)
 case first=>
  go_region_law (
   (refine gZ _ lE _ _ _ lE (e+1) 288 bf _ 2 16 underlying152 a7 bc bd be rfl kX (.slice x s.Aw.length u) s.Aw.length (Fz s.Aw) lE ((ak.alloc _).drew)
     (A0 p.heap.size 0) 1 1 [I0 a,I0 (a+n)] lE lE
     (cD (cs:=#[I0 a,I0 (a+n)]) (t:=288) (fr:=(0,0)) (cJ p _)) (by simp[Value.oneCell'])
     kX lD kX lA (p.heap.size+1) kY ?_
    intro ae a2 ax a9 A ah b0;have a8:some e≠(Value.slice x s.Aw.length u).ownBlock:=fun b=>by rw[<- K.o]at b;have:=(o.o.D0 e b.symm).1;omega
    have af:=((o.o.Ap.alloc _).drew).grown A a8;have bi:ax.cell? (A0 e 50)=some (.slice x s.Aw.length u):=by rw[<- K.o];exact af.cell 50
    have bl:=af.frozen 50))
  all_goals
   go_wp2_with fail;go_meet
   case rel=>
    rw[<- K.o]at A ah;refine⟨_,A7.push ((o.o.alloc _).drewN 1) a (a+n) ae a2 (by rw[V];exact a9) A,?_,?_,?_⟩;exact((((ab.o.any s.sv.ownBlock none).alloc _).drewN 1).grown A (Or.inl rfl)).setCell _ _ (Or.inl rfl);rcases ah with f|f;exact Or.inl (by rw[f];rfl);exact Or.inr ⟨ae,rfl,by omega⟩;have a5:=((B.o.alloc _).drew).grown A (aq.o);exact a5.Ad _ lB _
 case rest=>
  obtain⟨k,Z,ai,al,S⟩:=hcut;have bh:=Z.QL;have bj:=S.c0;have d1:=S.c1;have av:=Aa Z;have ap:=Aa ai;have ar:=Aa al;clear Z ai al S a0 a1 ak L M o ab B;go_wp2_with fail;go_quiet (fail);go_wp2;go_ret2;exact⟨rfl,k,av.o.drewN _,ap.o.drewN _,ar.o⟩
theorem V3(l:aD (Nat × Nat))(a)(b:a<l.length):(Fz l)[a*2]? = some (I0 l[a].1)/\(Fz l)[a*2+1]? = some (I0 l[a].2):=by
 induction l generalizing a with
 | nil=>simp at b
 | cons f t e=>
  cases a with
  | zero=>exact⟨rfl,rfl⟩
  | succ a=>
   have:=e a (by simpa using b);simp only[Fz,bY,cA,cL]at this⊢;rw[show(a+1)*2=a*2+1+1 by omega];simpa using this
theorem O2(l:aD (Nat × Nat)):(Fz l).length=l.length*2:=by
 induction l with
 | nil=>rfl
 | cons b t a=>simp only[Fz,bY,aR,aX,cP]at a⊢;omega
theorem T5(l:aD (Nat × Nat))(m):Fz (l.take m)=(Fz l).take (m*2):=by
 induction l generalizing m with
 | nil=>simp[Fz]
 | cons b t a=>
  cases m with
  | zero=>simp[Fz]
  | succ m=>
   have:=a m;simp only[Fz,bY,bU]at this⊢;rw[show(m+1)*2=m*2+1+1 by omega];simp[this]
theorem Q4{w:aE}{e:Nat}{f:TypeId}{h:aM Addr}{n b:Nat}{l:aD (Nat × Nat)}(o:w.ownsRow e f 2 (.slice h n b) n (Fz l))(m:Nat)(A:m<=n):w.ownsRow e f 2 (.slice h m b) m (Fz (l.take m)):=by
 obtain⟨p,a⟩:=o;rw[O2]at p;refine⟨by rw[O2,cX];omega,?_⟩;rcases a with⟨a,g⟩|⟨k,c,j,a,g,r,z,u,v,x⟩;left;have y:m=0:=kX;subst y
 cases a
 exact⟨rfl,rfl⟩;right
 cases a
 refine⟨k,b,j,rfl,g,r,by omega,u,v,?_⟩;rw[T5,<- x,List.take_take,hV kX]
theorem NI(r g b bs)(a2:bs.size<=4000)(w s)(u:A7 r g b bs w s)(m j:Nat)(a5:m<=s.Aw.length)(ba:∀ e,e∈s.Aw->e.1<=e.2/\e.2<=bs.size)(bv:s.Aw.length<=1000000):
 Calls prog 188 #[P0 b,.agg #[I0 m,I0 j]] w fun o w'=>o=.returned (.tuple #[])/\
  ∃ sv,A7 r g b bs w' {s with read:=FG (s.Aw.drop m) s.read,Aw:=s.Aw.take m,nodes:=j,sv:=sv}/\TF b g none none w w'/\sv.ownBlock=s.sv.ownBlock:=by
 have bo:=u.Ap.lt;have a4:=u.lt;have J:=Aa u;obtain⟨e,k,aa⟩:=u.TD;have K:=Aa (u.alloc (.cells #[I0 m,I0 j] 272));have F:=Aa (Ac.new w #[I0 m,I0 j] 272);have af:=Aa ((TF.refl b g none none w).alloc (.cells #[I0 m,I0 j] 272));have a0:w.heap.size+1<=(w.alloc (.cells #[I0 m,I0 j] 272)).heap.size:=kY;go_enter func188,ntmps188;go_wp2_with fail;generalize w.alloc (.cells #[I0 m,I0 j] 272)=y at*;have ap:y.cell? (A0 b 50)=some (.slice e s.Aw.length k):=by rw[<- aa];exact K.o.csv
 have an:=F.o.c0;have bp:(m:Int)<=(s.Aw.length:Int):=kX;have v:=Aa aa;go_quiet (fail);have ab:Hid (∀ a,a<s.Aw.length-m->∃ p,(if k=m then e else Option.map (fun f=>f.add (m*2)) e)=some (A0 p (m*2))/\e=some (A0 p 0)):=by
  intro a V;rcases J.o.own.2 with⟨o,h0⟩|⟨p,c,aq,o,ar,au,av,aw,ax,ay⟩;omega;rw[v.o]at o
  cases o
  exact⟨p,by rw[aC kX];simp[Addr.add];omega,rfl⟩
 generalize(if k=m then e else Option.map (fun f=>f.add (m*2)) e)=be at*;have ak:=Aa (K.o.drewN nq);have ac:Hid (Ac (y.drewN nq) w.heap.size #[I0 m,I0 j] 272):=F.o;have ah:=Aa (af.o.drewN nq);have a1:w.heap.size+1<=(y.drewN nq).heap.size:=a0;generalize y.drewN nq=bd at*;generalize az:s.Aw.length-m=N at*;have I:=Aa az;go_wp2;go_loopw [14,5] (fun E _ wr=>∃ a:Nat,E=I0 a/\a<=N/\Hid (A7 r g b bs wr {s with read:=FG ((s.Aw.drop m).take a) s.read})/\Hid (Ac wr w.heap.size #[I0 m,I0 j] 272)/\Hid (TF b g none none w wr)/\Hid (w.heap.size+1<=wr.heap.size)) (fun E _ _=>N-(intOf E).toNat)
 case atStart=>exact⟨0,rfl,by omega,ak,ac,ah,a1⟩
 case round=>
  obtain⟨a,rfl,M,B,z,S,a7⟩:=hrel;by_cases V:a<N
  . have a3:(a:Int)<(N:Int):=by omega
    obtain⟨p,rfl,a6⟩:=ab.o a V;have X:m+a<s.Aw.length:=by have:=I.o;omega
    have A:=B.out.own;simp only[v.o,a6]at A;have O:=V3 s.Aw (m+a) X;have bg:wr.cell? (A0 p (m*2+a*2))=some (I0 (s.Aw[m+a].1:Nat)):=by
     have:=A.cellAt ((m+a)*2) kX;rw[O.1]at this;rw[show m*2+a*2=(m+a)*2 by omega];exact this
    have bh:wr.cell? (A0 p (m*2+a*2+1))=some (I0 (s.Aw[m+a].2:Nat)):=by
     have:=A.cellAt ((m+a)*2+1) kX;rw[O.2]at this;rw[show m*2+a*2+1=(m+a)*2+1 by omega];exact this
    have Y:=ba s.Aw[m+a] (aU X);have am:=Aa (show FG ((s.Aw.drop m).take (a+1)) s.read=FQ (FG ((s.Aw.drop m).take a) s.read) s.Aw[m+a].1 s.Aw[m+a].2 false by
     rw[bN lA];simp[FG])
    generalize s.Aw[m+a]=f at*;have h:=Aa (fun x=>B.out.alloc x);have ad:=Aa (fun x=>z.out.alloc x);have ai:=Aa (fun x=>S.out.alloc x);have bu:=a7.out;go_wp2_with fail;have bb:=Ja r g b bs a2 _ _ (h.o (.cells #[I0 f.1,I0 f.2] 288)) f.1 f.2 false Y.1 Y.2;refine bb.mono ?_;rintro bi L⟨rfl,bc,U,a8⟩;have ae:=Aa (U.Ap (ad.o (.cells #[I0 f.1,I0 f.2] 288)) kX kX kY kY);have aj:=Aa ((ai.o (.cells #[I0 f.1,I0 f.2] 288)).trans U (Or.inl rfl) (Or.inl rfl));have al:=Aa (show A7 r g b bs L {s with read:=FG ((s.Aw.drop m).take (a+1)) s.read}by rw[am.o];exact bc);have a9:w.heap.size+1<=L.heap.size:=by simp at a8;omega
    simp only;go_wp2;go_roundw
    case rel=>exact⟨a+1,by go_num,by omega,al,ae,aj,a9⟩
    case measure=>simp[intOf];omega
  have a3:¬ (a:Int)<(N:Int):=kX;have bm:a=s.Aw.length-m:=by have:=I.o;omega
  have h:Hid (A7 r g b bs wr {s with read:=FG (s.Aw.drop m) s.read}):=by
   have u:=B.out;rw[bV lA]at u;exact u
  have ap:wr.cell? (A0 b 50)=some (.slice e s.Aw.length k):=by rw[<- v.o];exact h.o.csv
  have bk:=h.o.Ap.frozen 50;have an:=z.out.c0;have bl:(m:Int)<=(k:Int):=by
   rcases J.o.own.2 with⟨o,h0⟩|⟨p,c,aq,o,ar,au,av,aw,ax,ay⟩;omega;rw[v.o]at o;cases o;omega
  have bf:=z.out.c1;have ao:=h.o.Q1;have bj:=h.o.Ap.frozen 48;have bq:¬ w.heap.size=b:=kX;have br:¬ b=w.heap.size:=kX;simp only at ao;go_wp2_with fail;go_region
  go_wp2;go_end0;refine⟨rfl,.slice e m k,?_,?_,?_⟩;have Z:=h.o.own;simp only[v.o]at Z;have M:A7 r g b bs (wr.setCell (A0 b 50) (.slice e m k)) {s with read:=FG (s.Aw.drop m) s.read,Aw:=s.Aw.take m,sv:=.slice e m k}:=by
   refine⟨Ac.set h.o.Ap 50 _,Ac.Ad h.o.rd _ lB _,h.o.len,?_,a4⟩;have:=dS (Q4 Z m a5) (a:=(A0 b 50)) kY (.slice e m k);rw[show(s.Aw.take m).length=m by simp;omega];exact this
  exact(M.drewN 1).set 48 _ (Jb r g bs _ j) rfl rfl rfl;exact((S.out.setCell (A0 b 50) _ (Or.inl rfl)).drewN 1).setCell _ _ (Or.inl rfl);rw[v.o];cases e<;>rfl
theorem Bg(h:p:=by
 rename_i ab;rw[aF ab]at h;cases h):p:=h
theorem C9(h:p:=by
 rename_i ac;rw[aF ac]at h;cases h):p:=h
structure Rl where
 r:Int
 pl:Nat
 As:aD It
structure GQ where
 ok:Bool
 i:Nat
 Bj:aD Rl
def GQ.pre(l:aD Rl)(q:GQ):GQ:=⟨q.ok,q.i,l++q.Bj⟩
def rulesV(s:aA):Nat->Int->Nat->GQ
 | 0,_,a=>⟨false,a,[]⟩
 | k+1,top,a=>
  if¬ (65<=bt s a/\bt s a<=top)then⟨false,a,[]⟩
  else if bt s (a+1)≠61 then⟨false,a+1,[]⟩
  else if¬ (AF s (bt s a-65) (s.size+1) (a+2)).ok=true then⟨false,(AF s (bt s a-65) (s.size+1) (a+2)).i,[]⟩
  else if(AF s (bt s a-65) (s.size+1) (a+2)).i=s.size then⟨true,s.size,[⟨bt s a-65,a,(AF s (bt s a-65) (s.size+1) (a+2)).As⟩]⟩
  else if k=0\/bt s (AF s (bt s a-65) (s.size+1) (a+2)).i≠59 then⟨false,(AF s (bt s a-65) (s.size+1) (a+2)).i,[]⟩
  else(rulesV s k 72 ((AF s (bt s a-65) (s.size+1) (a+2)).i+1)).pre [⟨bt s a-65,a,(AF s (bt s a-65) (s.size+1) (a+2)).As⟩]
def Ah(s:aA):GQ:=rulesV s 8 65 0
def Ao(a:aD Rl):aD It:=a.flatMap Rl.As
def Dq(b:aD Rl)(a:Int):Bool:=b.any fun e=>e.r==a
def twiceV:aD Rl->aD Rl->Int
 | _,[] => -1
 | seen,x::t=>if Dq seen x.r then x.pl else twiceV (seen++[x]) t
theorem LG(seen l a):twiceV seen (l++[a])=if 0<=twiceV seen l then twiceV seen l else if Dq (seen++l) a.r then a.pl else -1:=by
 induction l generalizing seen with
 | nil=>simp[twiceV]
 | cons e t b=>
  simp only[cA,twiceV];split;rw[aF kX];rw[b];simp
theorem Lj(seen l) : -1<=twiceV seen l:=by
 induction l generalizing seen with
 | nil=>simp[twiceV]
 | cons b t a=>rw[twiceV];split;omega;exact a _
theorem Ln(l b a):Dq (l++[b]) a=(Dq l a||b.r==a):=by simp[Dq]
theorem EM(l a):Ao (l++[a])=Ao l++a.As:=by simp[Ao]
def Jm(b a:GQ):Prop:=b.ok=a.ok/\b.i=a.i/\(a.ok=true->b.Bj=a.Bj)
theorem Jm.refl(a:GQ):Jm a a:=⟨rfl,rfl,fun _=>rfl⟩
theorem Jm.trans{e f g:GQ}(h:Jm e f)(a:Jm f g):Jm e g:=⟨h.1.trans a.1,h.2.1.trans a.2.1,fun b=>(h.2.2 (a.1.trans b)).trans (a.2.2 b)⟩
def Gq(s:aA)(n a:Nat)(b:aD Rl):GQ:=
 if a=s.size then⟨true,s.size,b⟩else if n=8\/bt s a≠59 then⟨false,a,b⟩else(rulesV s (8-n) 72 (a+1)).pre b
theorem JH(s)(f)(h)(a)(g)(n)(p:f+1+n=8)(j:65<=bt s a/\bt s a<=h)(k:bt s (a+1)=61)(o:(AF s (bt s a-65) (s.size+1) (a+2)).ok=true):
 Jm ((rulesV s (f+1) h a).pre g) (Gq s (n+1) (AF s (bt s a-65) (s.size+1) (a+2)).i (g++[⟨bt s a-65,a,(AF s (bt s a-65) (s.size+1) (a+2)).As⟩])):=by
 rw[rulesV,aC (by simpa using j),aC (by simpa using k),aC (by simpa using o)];unfold Gq;split;exact⟨rfl,rfl,fun _=>by simp[GQ.pre]⟩;rename_i r;by_cases e:f=0\/bt s (AF s (bt s a-65) (s.size+1) (a+2)).i≠59;rw[aF e,aF (by rcases e with b|b;exact Or.inl kX;exact Or.inr b)];exact⟨rfl,rfl,fun b=>by cases b⟩;rw[aC e,aC (by intro b;apply e;rcases b with b|b;exact Or.inl kX;exact Or.inr b),show 8-(n+1)=f by omega];exact⟨rfl,rfl,fun _=>by simp[GQ.pre]⟩
theorem GI(s g e a b)(f:¬ (65<=bt s a/\bt s a<=e)):(rulesV s (g+1) e a).pre b=⟨false,a,b⟩:=by
 rw[rulesV,aF f];simp[GQ.pre]
theorem Ix(s h e a b)(f:65<=bt s a/\bt s a<=e)(g:bt s (a+1)≠61):(rulesV s (h+1) e a).pre b=⟨false,a+1,b⟩:=by
 rw[rulesV,aC (by simpa using f),aF g];simp[GQ.pre]
theorem Ii(s j e a b)(f:65<=bt s a/\bt s a<=e)(g:bt s (a+1)=61)(h:(AF s (bt s a-65) (s.size+1) (a+2)).ok=false):
 (rulesV s (j+1) e a).pre b=⟨false,(AF s (bt s a-65) (s.size+1) (a+2)).i,b⟩:=by
 rw[rulesV,aC (by simpa using f),aC (by simpa using g),aF (by simp[h])];simp[GQ.pre]
theorem Fx(h:p:=by
 simp;have:=b.o;omega):p:=h
abbrev mT(h:PLift q->p:=by
 intro aa;have ab:=a.o.c0;have ac:=a.o.c1;have ae:=a.o.c2;have aj:=ad.o.c0;have ak:=ad.o.c1;have al:=ad.o.c2;have af:=a.o.frozen 0;have ah:=a.o.frozen 1;have ai:=a.o.frozen 2;have am:=ad.o.frozen 0;revert ab ac ae aj ak al af ah ai am;exact aa.1):p:=h ⟨z⟩
def FR(s:aA)(b:Int)(a:Nat):C3:=
 if¬ (65<=bt s a/\bt s a<=b)then⟨false,a,[]⟩else if bt s (a+1)≠61 then⟨false,a+1,[]⟩else AF s (bt s a-65) (s.size+1) (a+2)
def RH(s:aA)(g:Nat)(w:aE)(b:Nat)(a:C3)(h:Ending)(w':aE):Prop:=
 ∃ n pl e,h=.returned (.tuple #[.agg (X_1 n pl e),.bool a.ok])/\Rd w' g s a.i/\Fr w.heap.size g w w'/\
  (a.ok=true->n=bt s b-65/\pl=b/\∃ f,e=some (A0 f 0)/\BM (s.size+1) w' w.heap.size w'.heap.size f false a.As)
theorem Oc{s}{e h a}{w w1}{r:C3}(B:w.heap.size=a)(I:Rd w1 e s r.i)(E:Fr a e w w1)(K:e<a)(n pl:Int)(k:aM Addr)(F:r.ok=true->n=bt s h-65/\pl=h/\∃ g,k=some (A0 g 0)/\BM (s.size+1) w1 (a+2) w1.heap.size g false r.As){o p u:aI}:
 RH s e w h r (.returned (.tuple #[.agg (X_1 n pl k),.bool r.ok])) (((w1.setCell (A0 a 0) o).setCell (A0 a 1) p).setCell (A0 a 2) u):=by
 have v:∀ b,b≠a->(((w1.setCell (A0 a 0) o).setCell (A0 a 1) p).setCell (A0 a 2) u).heap[b]? = w1.heap[b]? := by
  intro b f;rw[aN _ _ _ _ f,aN _ _ _ _ f,aN _ _ _ _ f]
 have J:(((w1.setCell (A0 a 0) o).setCell (A0 a 1) p).setCell (A0 a 2) u).heap.size=w1.heap.size:=by simp[World.setCell]
 refine⟨n,pl,k,rfl,?_,?_,fun j=>?_⟩;have j:=I;unfold Rd Ac at*;rw[v e kX];exact j;rw[B];exact((E.setCell (Or.inr (aB _)) _).setCell (Or.inr (aB _)) _).setCell (Or.inr (aB _)) _;obtain⟨x,y,g,z,A⟩:=F j;exact⟨x,y,g,z,A.mono (fun b f _=>v b kX) kX (by rw[J];exact aB _)⟩
theorem Us(s)(M:s.size<=400)(w g e j)(E:Rd w g s e)(ay:Eu w)(h0:0<g)(bf:e<=s.size)(bx:j<=72):
 Calls prog 58 #[P0 g,.int .u8 j] w fun z w'=>RH s g w e (FR s j e) z w':=by
 have bc:∀ r,(w.alloc r).cell? (A0 g 1)=some (I0 e):=fun r=>(Ac.alloc E r).cell 1
 have bp:=E.lt;have a8:=Aa E;have ba:=Aa ay;clear E ay;go_enter func58,ntmps58;go_wp2_with fail;have O:=Ac.new w X_13 123;have U:=Ac.new (w.alloc (.cells X_13 123)) (X_7 e) 123;have S:=O.alloc (.cells (X_7 e) 123);have aq:=Ac.alloc (Ac.alloc a8.o (.cells X_13 123)) (.cells (X_7 e) 123);have X:=((Fr.refl w.heap.size g w).alloc (aB _) (.cells X_13 123)).alloc kY (.cells (X_7 e) 123);have bv:((w.alloc (.cells X_13 123)).alloc (.cells (X_7 e) 123)).heap.size=w.heap.size+2:=kY;clear O bc;generalize be:((w.alloc (.cells X_13 123)).alloc (.cells (X_7 e) 123))=I at*;have V:Ac I (w.heap.size+1) (X_7 e) 123:=by simpa using U
 clear be U;generalize ax:w.heap.size+1=f at*;generalize aw:w.heap.size=v at*;have av:=ax.symm;have F:=Aa aw;have bm:¬ v=f:=kX;have bo:¬ f=v:=kX;have an:=Aa S;have ao:=Aa V;have ap:=Aa X;have a7:Hid (Rd I g s e):=aq;have b:=Aa av;clear ax aw S V X aq av;refine(Fh I g s e 65 j a7.o M bf kX).mono ?_;rintro z w1⟨o,⟨h,rfl,J⟩|⟨h,rfl,J⟩⟩
 rotate_left
 . have az:¬ (65<=bt s e/\bt s e<=j):=by unfold Ay at h;simpa using h
   have u:=Aa (show FR s j e=⟨false,e,[]⟩by unfold FR;rw[aF az]);have a:=Aa (an.o.same o kX);have ad:=Aa (ao.o.same o (by have:=b.o;omega));have b2:=a.o.c0;have b4:=a.o.c1;have b6:=a.o.c2;have ce:=ad.o.c0;have cg:=ad.o.c1;have ci:=ad.o.c2;have b8:=a.o.frozen 0;have ca:=a.o.frozen 1;have cc:=a.o.frozen 2;have y:=Aa (ap.o.trans (o.fr _));clear h az o;simp only;go_wp2;refine aT (v:=.tuple #[.agg (X_7 e),.bool false]) (by simp[results,results58,go_sem, *]) rfl ?_;rw[u.o];exact Oc (r:=⟨false,e,[]⟩) F.o J y.o kX 0 e none (fun k=>by cases k)
 have a0:65<=bt s e/\bt s e<=j:=by unfold Ay at h;simpa using h
 have bj:=Hb s e 65 j h kX;have ar:=Aa a0;obtain⟨bz,b0⟩:=a0;have y:=Aa (ap.o.trans (o.fr _));have bq:=o.size;have a:=Aa (an.o.same o kX);have ad:=Aa (ao.o.same o (by have:=b.o;omega));clear h o;simp only;go_wp2_with fail;refine(Gw w1 g s (e+1) 61 J M kX kX).mono ?_;rintro z w2⟨x,rfl,p⟩;have br:=x.size;have Y:=Aa (y.o.trans (x.fr _));have a:=Aa (a.o.same x kX);have ad:=Aa (ad.o.same x (by have:=b.o;omega));clear x y
 cases B:Mb s (e+1) 61
 . have L:bt s (e+1)≠61:=by unfold Mb at B;simpa using B
   have u:=Aa (show FR s j e=⟨false,e+1,[]⟩by unfold FR;rw[aC (by simpa using ar.o),aF L]);have A:Rd w2 g s (e+1):=by unfold YW at p;rwa [aC L]at p
   refine mT ?_;intro ab ac ae aj ak al af ah ai am;clear p L;simp only;go_wp2;refine aT (v:=.tuple #[.agg (X_7 e),.bool false]) (by simp[results,results58,go_sem, *]) rfl ?_;rw[u.o];exact Oc (r:=⟨false,e+1,[]⟩) F.o A Y.o kX 0 e none (fun k=>by cases k)
 have K:bt s (e+1)=61:=by unfold Mb at B;simpa using B
 have bk:=AT s (e+1) kX;have u:=Aa (show FR s j e=AF s (bt s e-65) (s.size+1) (e+2)by unfold FR;rw[aC (by simpa using ar.o),aC (by simpa using K)]);have A:Rd w2 g s (e+2):=by unfold YW at p;rwa [aF K]at p
 have a3:=Aa A;refine mT ?_;intro ab ac ae aj ak al af ah ai am;clear p A K;simp only;go_wp2_with fail;have a9:Hid (Rd (w2.setCell (A0 f 0) (I0 (bt s e-65))) g s (e+2)):=Rd.other a3.o _ Fx _;have Z:=Aa (Y.o.setCell (p:=(A0 f 0)) (Or.inr Fx) (I0 (bt s e-65)));have a:=Aa (a.o.Ad (A0 f 0) Fx (I0 (bt s e-65)));have ad:Hid (Ac (w2.setCell (A0 f 0) (I0 (bt s e-65))) f #[I0 (bt s e-65),I0 e,.pointer none] 123):=ad.o.set 0 _;have bu:(w2.setCell (A0 f 0) (I0 (bt s e-65))).heap.size=v+2:=by simp[World.setCell];omega
 clear ab ac ae aj ak al af ah ai am;generalize w2.setCell (A0 f 0) (I0 (bt s e-65))=a1 at*;have bb:Hid (Eu a1):=ba.o.fr Z.o h0 kX;refine(VT s (bt s e-65) M (s.size+1) a1 g (e+2) a9.o bb.o h0 kX kX).mono ?_;rintro z a2⟨r,rfl,d1,d2,au⟩;have a:=Aa (show Ac a2 v _ _ from by have k:=a.o;unfold Ac at*;rw[d2.block v kX kX];exact k);have ad:=Aa (show Ac a2 f _ _ from by have k:=ad.o;unfold Ac at*;rw[d2.block f (by have:=b.o;omega) (by have:=b.o;omega)];exact k);have b3:=a.o.c0;have b5:=a.o.c1;have b7:=a.o.c2;have cf:=ad.o.c0;have ch:=ad.o.c1;have cj:=ad.o.c2;have b9:=a.o.frozen 0;have cb:=a.o.frozen 1;have cd:=a.o.frozen 2;have ck:=ad.o.frozen 2;have a4:=Aa d1;have a6:=Aa (Z.o.trans (d2.less kX));have a5:=Aa au;clear d1 d2 au;generalize bg:AF s (bt s e-65) (s.size+1) (e+2)=bi at*;clear bg;simp only;go_wp2;refine aT (v:=.tuple #[.agg (X_1 (bt s e-65) e r),.bool bi.ok]) (by simp[results,results58,go_sem, *]) rfl ?_;rw[u.o];refine Oc F.o (Rd.other a4.o (A0 f 2) Fx _) (a6.o.setCell (p:=(A0 f 2)) (Or.inr Fx) _) kX _ _ r (fun k=>?_);obtain⟨bh,h,bd⟩:=a5.o k;refine⟨rfl,rfl,bh,h,bd.mono (fun b1 bl _=>aN _ _ _ _ Fx) kX (by simp[World.setCell])⟩
theorem Tryz.Y9:(prog.info? 123).map (fun i=>(i.zero,i.size,i.bytes))=some (some (.agg X_13),3,24):=kZ
def H7(l:aD (Rl × Nat)):aD aI:=l.flatMap fun a=>[I0 a.1.r,I0 a.1.pl,P0 a.2]
theorem Ju(l:aD (Rl × Nat))(b q)(h:q<3):(H7 l)[b*3+q]? = (l[b]?).bind fun a=>([I0 a.1.r,I0 a.1.pl,P0 a.2]:aD aI)[q]? := by
 induction l generalizing b with
 | nil=>simp[H7]
 | cons a e g=>
  have f:H7 (a::e)=[I0 a.1.r,I0 a.1.pl,P0 a.2]++H7 e:=rfl;rw[f]
  cases b with
  | zero=>
   rw[aW lA];simp
  | succ b=>
   rw[bG lA];simp only[aX,cP,aK];rw[show(b+1)*3+q-(0+1+1+1)=b*3+q by omega,g]
structure Yx (s:aA) (B:Nat) (w:aE) (v:aI) (l:aD (Rl × Nat)):Prop where
 row:w.ownsRow B 123 3 v l.length (H7 l)
 ok:∀ q,q∈l->∃ lo hi,B<=lo/\hi<=w.heap.size/\(∀ g,v.ownBlock=some g->g<lo\/hi<=g)/\BM (s.size+1) w lo hi q.2 false q.1.As
theorem Yx.fr{s B rb w w' f}{l:aD (Rl × Nat)}(h:Yx s B w f l)(ae:Fr w.heap.size rb w w')(r:rb<B):Yx s B w' f l:=by
 refine⟨?_,?_⟩
 . refine h.row.kept (row:=some rb) ⟨ae.os,ae.tape,ae.output,ae.size,fun k j o=>ae.block k j (by intro e;exact o (by rw[e]))⟩ ?_
   cases p:f.ownBlock with
   | none=>exact Or.inl rfl
   | some g=>exact Or.inr (by have:=(h.row.lt g p).1;intro e;cases e;omega)
 exact jl
theorem Yx.push{s}{h}{w w1 w2}{j}{l:aD (Rl × Nat)}{k}{o f p}{S U}(h0:Yx s h w j l)(z:Yx s h w1 j l)(B:h<=w.heap.size)(_hsz:w.heap.size<=w1.heap.size)(J:BM (s.size+1) w1 w.heap.size w1.heap.size o false k.As)(I:w2.ownsRow h 123 3 (S0 f (l.length+1) p) (l.length+1) (H7 l++[I0 k.r,I0 k.pl,P0 o]))(u:((w1.alloc S).alloc U).grownBy w2 j.ownBlock)(r:j.ownBlock=some f\/f=w1.heap.size+2):Yx s h w2 (S0 f (l.length+1) p) (l++[(k,o)]):=by
 have K:=u.size;simp at K;have v:∀ a,a<w1.heap.size->some a≠j.ownBlock->w2.heap[a]? = w1.heap[a]? := by
  intro a F A;rw[u.block a lA A,bC _ _ _ lA,bC _ _ _ F]
 refine⟨by simpa[H7]using I,fun V g=>?_⟩;rcases aV.1 g with g|g;obtain⟨O,E,x,X,c,d⟩:=z.ok V g;refine⟨O,E,x,by omega,fun y b=>?_,d.mono (fun a L M=>v a kX (fun b=>?_)) (aB _) (aB _)⟩;simp[Value.ownBlock]at b;subst b;rcases r with e|e;exact c f e;right;omega;rcases c a b.symm with e|e<;>omega
 simp at g;subst g;refine⟨w.heap.size,w1.heap.size,B,by omega,fun y b=>?_,J.mono (fun a L M=>v a kX (fun b=>?_)) (aB _) (aB _)⟩;simp[Value.ownBlock]at b;subst b;rcases r with e|e;left;exact(h0.row.lt f e).2;right;omega;have:=(h0.row.lt a b.symm).2;omega
theorem Tu(s j b a e)(f:(FR s b a).ok=false):(rulesV s (j+1) b a).pre e=⟨false,(FR s b a).i,e⟩:=by
 unfold FR at f⊢;split;rename_i g;exact GI s j b a e g;rename_i g;rw[aC g]at f;have k:65<=bt s a/\bt s a<=b:=by simpa using g
 split;rename_i h;exact Ix s j b a e k h;rename_i h;rw[aC h]at f;exact Ii s j b a e k (by simpa using h) f
theorem ZJ(s b a)(h:(FR s b a).ok=true):(65<=bt s a/\bt s a<=b)/\bt s (a+1)=61/\FR s b a=AF s (bt s a-65) (s.size+1) (a+2):=by
 unfold FR at h⊢;split;exact Bg;rename_i ab;rw[aC ab]at h;split;exact C9;rename_i ac;exact⟨by simpa using ab,by simpa using ac,rfl⟩
structure AtR (s:aA) (rb:Nat) (w:aE) (n a:Nat) (top:Int) (l:aD (Rl × Nat)) (v:aI) (wr:aE):Prop where
 rd:Rd wr rb s a
 made:Yx s w.heap.size wr v l
 fr:Fr w.heap.size rb w wr
 hn:n<8
 hl:l.length=n
 ha:a<=s.size
 ht:top<=72
 eq:Jm (Ah s) ((rulesV s (8-n) top a).pre (l.map Prod.fst))
def Xj(s:aA)(a:Nat)(w:aE)(e:Ending)(w':aE):Prop:=
 ∃ b,e=.returned (.tuple #[b,.bool (Ah s).ok])/\Fr w.heap.size a w w'/\((Ah s).ok=false->Rd w' a s (Ah s).i)/\
  ((Ah s).ok=true->∃ l,l.map Prod.fst=(Ah s).Bj/\Yx s w.heap.size w' b l)
theorem RS(s)(af:s.size<=400)(w e)(ad:Rd w e s 0)(au:Eu w)(h0:0<e):
 Calls prog 37 #[P0 e] w fun k w'=>Xj s e w k w':=by
 obtain⟨bu,bi,bp,bq,br⟩:=cY Tryz.Y9;have ae:=ad.lt;have bb:=Aa au;have ap:Hid (AtR s e w 0 0 65 [] (.slice none 0 0) w):=
  ⟨ad,⟨cC _ _ _ _,fun q x=>by simp at x⟩,Fr.refl _ _ _,by omega,rfl,by omega,by omega,⟨rfl,rfl,fun _=>by simp[GQ.pre,Ah]⟩⟩
 clear ad au;go_enter func37,ntmps37;go_wp2;go_loopw [4,5] (fun bz bx wr=>∃ (n b:Nat) (j:Int) (l:aD (Rl × Nat)) (F:aI),bx=.int .u8 j/\F=bz/\Hid (AtR s e w n b j l F wr)) (fun _ _ wr=>s.size+1-KH wr e)
 case atStart=>exact⟨0,0,65,[],_,rfl,rfl,ap⟩
 case round=>
  clear ap;obtain⟨n,b,j,l,F,rfl,rfl,h⟩:=hrel;have By:=h;have a8:=Aa (My h.out.rd);have b4:=h.out.hn;have aw:=h.out.hl;have bg:=h.out.ha;have bo:=h.out.ht;have A:=Aa aw;have ab:=h.out.fr.size;have bc:Hid (Eu wr):=bb.o.fr h.out.fr h0 kX;clear h aw;go_wp2_with fail;refine(Us s af wr e b j By.o.rd bc.o h0 bg bo).mono ?_;rintro k w1⟨b9,ca,b7,rfl,d1,d2,X⟩;have b6:=d2.size
  cases v:(FR s j b).ok
  . have a3:Hid (Jm (Ah s) ⟨false,(FR s j b).i,l.map Prod.fst⟩):=by
     have a:=By.o.eq;rw[show 8-n=(7-n)+1 by omega,Tu s _ j b _ v]at a;exact a
    have O:=Aa d1;have S:=Aa (By.o.fr.trans (d2.less ab));clear d1 d2 X v;simp only;go_wp2;go_ret2;obtain⟨g,r,_⟩:=a3.o;refine⟨.slice none 0 0,by rw[g];rfl,S.o.alloc kX _,fun _=>?_,fun a=>by rw[g]at a;cases a⟩;rw[r];exact Ac.alloc O.o _
  obtain⟨bl,bm,o,bj,M⟩:=X v;obtain⟨a0,a1,a2⟩:=ZJ s j b v;have b2:=AT s (b+1) kX;obtain⟨Z,bd,b1⟩:=BA s (bt s b-65) (s.size+1) (b+2) kX;have ac:=v;rw[a2]at ac d1 M;have K:=Aa (By.o.eq.trans (by rw[show 8-n=(7-n)+1 by omega];exact JH s (7-n) j b (l.map Prod.fst) n kX a0 a1 ac));clear X a2;generalize bk:AF s (bt s b-65) (s.size+1) (b+2)=bv at*;clear bk;obtain⟨b8,f,y⟩:=bv;simp only at d1 M Z bd K;have I:=Aa (By.o.made.fr (d2.less (aB _)) ae);have S:=Aa (By.o.fr.trans (d2.less ab));have O:=Aa d1;have ba:=Aa M;subst bj bl bm;clear d1 d2 M v a0 a1 ac;simp only;go_wp2_with
   (at_builtin
    refine cS _ rfl _ _ _ rfl w.heap.size 123 bu _ 3 24 underlying73 bi bp bq br rfl kX F l.length (H7 l) rfl ((I.o.row.alloc _).alloc _) (A0 (w1.heap.size+1) 0) 1 1 [I0 (bt s b-65),I0 b,P0 o] rfl rfl (cD (cs:=(X_3 (bt s b-65) b o)) (t:=123) (fr:=(0,0)) (by simpa using cJ (w1.alloc (.cells (X_3 (bt s b-65) b o) 123)) _)) (by simp[Value.oneCell']) kX (by unfold maxLen;have:=A.o;omega) (by have:=A.o;omega) lA (w1.heap.size+2) kY ?_;intro ar aq w2 ax B av b3;have bh:=B.size;have E:some e≠F.ownBlock:=fun k=>by have:=(I.o.row.lt e k.symm).1;omega
    have a9:Hid (Rd w2 e s f):=Ac.grown (Ac.alloc (Ac.alloc O.o _) _) B E;have a4:Hid (Fr w.heap.size e w w2):=((S.o.alloc kX _).alloc lA _).grown B lA (fun q k=>(I.o.row.lt q k).1);have a5:Hid (Yx s w.heap.size w2 (S0 ar (l.length+1) aq) (l++[((⟨bt s b-65,b,y⟩:Rl),o)])):=By.o.made.push I.o ab kX ba.o ax B av;clear bh ax B av)
  refine(ET w2 e s f a9.o af Z).mono ?_;rintro k b0⟨rfl,ah,ay⟩;have al:=Aa (a5.o.fr (ah.fr _) ae);have U:=Aa (a4.o.trans (ah.fr _));have an:=Aa ay;clear ah ay;by_cases u:f=s.size
  . have z:Hid (Jm (Ah s) ⟨true,s.size,(l++[((⟨bt s b-65,b,y⟩:Rl),o)]).map Prod.fst⟩):=by
     have a:=K.o;unfold Gq at a;rw[aF u]at a;have be:Jm (Ah s) ⟨true,s.size,(l++[((⟨bt s b-65,b,y⟩:Rl),o)]).map Prod.fst⟩:=by simpa using a
     exact be
    rw[bF u];clear u;simp only;go_wp2;go_ret2;obtain⟨g,r,Y⟩:=z.o;exact⟨_,by rw[g];rfl,U.o,(fun a=>by rw[g]at a;cases a),fun _=>⟨_,(Y rfl).symm,al.o⟩⟩
  rw[bJ u];have J:=K.o;unfold Gq at J;rw[aC u]at J;have p:=Aa J;clear u J K;simp only;by_cases L:n+1=8
  . have bf:((l.length:Int)+1==8)=true:=by have:=A.o;simp;omega
    have z:Hid (Jm (Ah s) ⟨false,f,l.map Prod.fst++[⟨bt s b-65,b,y⟩]⟩):=by
     have a:=p.o;rw[aF (Or.inl L)]at a;exact a
    clear L p;go_wp2;go_ret2;obtain⟨g,r,Y⟩:=z.o;exact⟨.slice none 0 0,by rw[g];rfl,U.o,(fun _=>by rw[r];exact an.o),fun a=>by rw[g]at a;cases a⟩
  have bf:((l.length:Int)+1==8)=false:=by have:=A.o;simp;omega
  go_wp2_with fail;refine(Gw b0 e s f 59 an.o af Z kX).mono ?_;rintro k aj⟨ai,rfl,az⟩;have a6:=Aa (al.o.fr (ai.fr _) ae);have ak:=Aa (U.o.trans (ai.fr _));have ao:=Aa az;clear ai az
  cases x:Mb s f 59
  . have E:bt s f≠59:=by unfold Mb at x;simpa using x
    have z:Hid (Jm (Ah s) ⟨false,f,l.map Prod.fst++[⟨bt s b-65,b,y⟩]⟩):=by
     have a:=p.o;rw[aF (Or.inr E)]at a;exact a
    have V:Hid (Rd aj e s f):=by
     have:=ao.o;unfold YW at this;rw[aC E]at this;exact this
    clear E p;simp only;go_wp2;go_ret2;obtain⟨g,r,Y⟩:=z.o;exact⟨.slice none 0 0,by rw[g];rfl,ak.o,(fun _=>by rw[r];exact V.o),fun a=>by rw[g]at a;cases a⟩
  have aa:bt s f=59:=by unfold Mb at x;simpa using x
  have b5:=AT s f kX;have V:Hid (Rd aj e s (f+1)):=by
   have:=ao.o;unfold YW at this;rw[aF aa]at this;exact this
  have am:Hid (AtR s e w (n+1) (f+1) 72 (l++[((⟨bt s b-65,b,y⟩:Rl),o)]) (S0 ar (l.length+1) aq) aj):=by
   refine⟨V.o,a6.o,ak.o,by omega,by simp;exact A.o,by omega,by omega,?_⟩;have a:=p.o;rw[aC (by intro a;rcases a with a|a;exact L a;exact a aa)]at a;simpa using a
  have a7:=Aa (My am.o.rd);clear aa p L;simp only;go_wp2;go_roundw
  case rel=>exact⟨n+1,f+1,72,_,_,rfl,rfl,am⟩
  case measure=>rw[a8.o,a7.o];omega
theorem Bv(h:p:=by
 rename_i r;rw[aC r]at h;cases h):p:=h
theorem gz(h:p:=by
 rename_i ah;rw[aF ah]at h;cases h):p:=h
theorem EQ(h:p:=by
 rename_i ai;rw[aF ai]at h;cases h):p:=h
def I9(b:aD It):Prop:=∀ a,a∈b->a.c=82->0<=a.r/\a.r<8
theorem FM(a e b)(f:b<a.length):A1 (a++e) b=A1 a b:=by simp[A1,aW f]
theorem Fq(a e b)(f:a.length<=b):A1 (a++e) b=A1 e (b-a.length):=by simp[A1,bG f]
theorem Wf.nil:Wf []:=⟨fun b a=>by simp at a,fun b a=>by simp at a,fun b a=>by simp at a⟩
theorem Wf.append{b k}(h:Wf b)(j:Wf k):Wf (b++k):=by
 refine⟨fun a f=>?_,fun a f g=>?_,fun a f=>?_⟩;rw[aR]at f⊢;by_cases e:a<b.length;rw[FM _ _ _ e];have:=h.pos a e;omega;rw[Fq _ _ _ kX];have:=j.pos (a-b.length) kX;omega;rw[aR]at f⊢;by_cases e:a<b.length;rw[FM _ _ _ e]at g;have:=h.one a e g;omega;rw[Fq _ _ _ kX]at g;have:=j.one (a-b.length) kX g;omega;rw[aR]at f;by_cases e:a<b.length;rw[FM _ _ _ e];exact h.byte a e;rw[Fq _ _ _ kX];exact j.byte (a-b.length) kX
theorem Wf.cons{b:It}{e}(k:Wf e)(r:b.nx=1+e.length)(o:AY [119,64,115] b.c=true->0<e.length)(p:0<=b.c/\b.c<=255):Wf (b::e):=by
 have h:∀ a,A1 (b::e) (a+1)=A1 e a:=fun a=>rfl
 have j:A1 (b::e) 0=b:=rfl;refine⟨fun a f=>?_,fun a f g=>?_,fun a f=>?_⟩
 . rw[aX]at f⊢
   cases a with
   | zero=>rw[j];omega
   | succ a=>rw[h];have:=k.pos a kX;omega
 . rw[aX]at f⊢
   cases a with
   | zero=>rw[j]at g;have:=o g;omega
   | succ a=>rw[h]at g;have:=k.one a kX g;omega
 rw[aX]at f
 cases a with
 | zero=>rw[j];exact p
 | succ a=>rw[h];exact k.byte a kX
theorem VC(s a)(b:(Ak s a).ok=true):
 0<=(Ak s a).it.c/\(Ak s a).it.c<=255/\((Ak s a).it.c=82->0<=(Ak s a).it.r/\(Ak s a).it.r<8)/\(AY [119,64,115] (Ak s a).it.c=true->(Ak s a).inn=1):=by
 have v:=Eh s a;have x:=FT s a;unfold Ak at b⊢;split;refine⟨by simp,by simp,fun _=>⟨by simp only;omega,by simp only;omega⟩,fun e=>?_⟩;simp[AY]at e;rename_i F;rw[aC F]at b;split;rename_i o;rw[aF o]at b;split;rename_i u;rw[aF u]at b;cases b
 rename_i u;rw[aC u]at b;split;rename_i I;rw[aF I]at b;cases b
 exact⟨by simp,by simp,fun j=>by simp at j,fun e=>by simp[AY]at e⟩;rename_i o;rw[aC o]at b;split;rename_i g;rw[aF g]at b;have z:bt s a≠82:=by intro f;rw[f]at g;revert g;decide
 have A:AY [119,64,115] (bt s a)=true->Jg (bt s a)=1:=by
  intro e;simp only[AY,cQ,dG,cN,cH,dA]at e;rcases e with e|e|e;rw[show bt s a=119 by simp at e;omega];decide;rw[show bt s a=64 by simp at e;omega];decide;rw[show bt s a=115 by simp at e;omega];decide
 have y:∀ i h,h.c=bt s a->(Br s (bt s a) i h).ok=true->(Br s (bt s a) i h).it.c=bt s a/\(Br s (bt s a) i h).inn=Jg (bt s a):=by
  intro i h j k;unfold Br at k⊢;split;rename_i B;rw[aF B]at k;split;exact⟨j,rfl⟩;rename_i E;rw[aC E]at k;cases k
  exact⟨j,rfl⟩
 split;rename_i r;rw[aF r]at b;split;rename_i p;rw[aF p]at b;obtain⟨d1,d2⟩:=y _ _ rfl b;rw[d1,d2];exact⟨v,x,fun f=>(z f).elim,A⟩;rename_i p;rw[aC p]at b;cases b
 rename_i r;rw[aC r]at b;obtain⟨d1,d2⟩:=y _ _ rfl b;rw[d1,d2];exact⟨v,x,fun f=>(z f).elim,A⟩;rename_i g;rw[aC g]at b;cases b
def YU(b:Nat->C3):Prop:=∀ a,(b a).ok=true->Wf (b a).As/\I9 (b a).As/\0<(b a).As.length
theorem I9.append{b e}(g:I9 b)(h:I9 e):I9 (b++e):=fun f j=>by
 rcases aV.1 j with a|a;exact g f a;exact h f a
theorem Zf(e:Nat->C3)(j:YU e)(b):∀ a,(loopN e b a).ok=true->Wf (loopN e b a).As/\I9 (loopN e b a).As/\(0<b->0<(loopN e b a).As.length):=by
 induction b with
 | zero=>intro a _;exact⟨Wf.nil,fun x k=>by simp[loopN]at k,fun h=>by omega⟩
 | succ b u=>
  intro a h;rw[loopN]at h⊢;split;rename_i r;rw[aF r]at h;obtain⟨f,g,v⟩:=j a r;obtain⟨o,p,_⟩:=u _ h;exact⟨f.append o,g.append p,fun _=>by simp only[C3.pre,aR];omega⟩;exact Bv
theorem Zh(e:Nat->C3)(s)(k:YU e)(b):∀ a,(Bp e s b a).ok=true->Wf (Bp e s b a).As/\I9 (Bp e s b a).As:=by
 induction b with
 | zero=>intro a h;cases h
 | succ b u=>
  intro a h;rw[Bp]at h⊢;split;rename_i r;rw[aF r]at h;obtain⟨f,g,v⟩:=k a r;split;exact⟨f,g⟩;rename_i j;rw[aC j]at h;obtain⟨o,p⟩:=u _ h;exact⟨f.append o,g.append p⟩;exact Bv
theorem Aex(s j a):YU (AF s j a):=by
 induction a with
 | zero=>intro b h;cases h
 | succ a u=>
  intro b h;rw[AF]at h⊢;split;rename_i r;rw[aF r]at h;obtain⟨v,x,y,z⟩:=VC s b r;have B:Wf (inner (AF s j a) s a (Ak s b)).As/\I9 (inner (AF s j a) s a (Ak s b)).As/\((Ak s b).inn=1->0<(inner (AF s j a) s a (Ak s b)).As.length):=by
   have e:(inner (AF s j a) s a (Ak s b)).ok=true:=h;unfold inner at e⊢;split;rename_i k;rw[aF k]at e;obtain⟨f,g⟩:=Zh _ s u _ _ e;exact⟨f,g,fun A=>by omega⟩;rename_i k;rw[aC k]at e;obtain⟨f,g,p⟩:=Zf _ u _ _ e;exact⟨f,g,fun A=>p kX⟩
  obtain⟨f,g,p⟩:=B;refine⟨f.cons rfl (fun E=>p (z E)) ⟨v,x⟩,fun F o=>?_,by simp⟩;rcases bB.1 o with rfl|o;exact y;exact g F o;exact Bv
theorem NL(s b):∀ e a,(rulesV s b e a).ok=true->Wf (Ao (rulesV s b e a).Bj)/\I9 (Ao (rulesV s b e a).Bj)/\(Ao (rulesV s b e a).Bj).length+a<=s.size:=by
 induction b with
 | zero=>intro e a h;cases h
 | succ b p=>
  intro e a h;rw[rulesV]at h⊢;split;exact Bg;rename_i ab;rw[aC ab]at h;split;exact C9;rename_i ac;rw[aC ac]at h;have x:=AT s (a+1) kX;obtain⟨r,u,f⟩:=BA s (bt s a-65) (s.size+1) (a+2) kX;split;exact EQ;rename_i ai;rw[aC ai]at h;have g:(AF s (bt s a-65) (s.size+1) (a+2)).ok=true:=by simpa using ai
  obtain⟨w1,w2,z⟩:=Aex s (bt s a-65) (s.size+1) (a+2) g;obtain⟨f,v⟩:=f g;split;simp only[Ao,bY,List.flatMap_nil,dI];exact⟨w1,w2,by omega⟩;rename_i j;rw[aC j]at h;split;exact gz;rename_i ah;rw[aC ah]at h;obtain⟨k,o,y⟩:=p _ _ h;simp only[GQ.pre,Ao,cA,cL,bY,aR]at*;exact⟨w1.append k,w2.append o,by omega⟩
theorem nD(h:p:=by
 exact⟨ab.append bx bi bb,fun x al=>by rcases aV.1 al with h|h;exact ac x h;exact b1 x h⟩):p:=h
def Ord(e b:Nat)(l:aD It):Prop:=l.Pairwise (fun a f=>a.pl<f.pl)/\∀ a,a∈l->(e:Int)<=a.pl/\a.pl<(b:Int)
theorem Ord.nil(e a):Ord e a []:=⟨List.Pairwise.nil,fun f b=>by simp at b⟩
theorem Ord.append{k a h o p}(f:Ord k a o)(g:Ord a h p)(v:k<=a)(x:a<=h):Ord k h (o++p):=by
 refine⟨kQ.2 ⟨f.1,g.1,fun b j u r=>?_⟩,fun b j=>?_⟩;have:=f.2 b j;have:=g.2 u r;omega;rcases aV.1 j with e|e;have:=f.2 b e;omega;have:=g.2 b e;omega
theorem Ord.cons{j f a:Nat}{g:It}{k:aD It}(r:(j:Int)<=g.pl/\g.pl<(f:Int))(b:Ord f a k)(p:f<=a):Ord j a (g::k):=by
 refine⟨fW.2 ⟨fun h e=>?_,b.1⟩,fun h e=>?_⟩;have:=b.2 h e;omega;rcases bB.1 e with rfl|o;omega;have:=b.2 h o;omega
structure GN (x:It):Prop where
 c:x.c=82\/x.c=39\/CP x.c=true
 r:x.c=82->0<=x.r/\x.r<8
 d:kD x.c=true->0<=x.d/\x.d<8
theorem Nt(s b)(a:(Ak s b).ok=true):GN (Ak s b).it/\(b:Int)<=(Ak s b).it.pl/\(Ak s b).it.pl<((Ak s b).i:Int):=by
 unfold Ak at a⊢;split;rename_i j;exact⟨⟨Or.inl rfl,fun _=>⟨by simp only;omega,by simp only;omega⟩,fun a=>absurd (show kD 82=true from a) lC⟩,by simp,by simp;omega⟩;rename_i B;rw[aC B]at a;split;rename_i o;rw[aF o]at a;split;rename_i u;rw[aF u]at a;cases a
 rename_i u;rw[aC u]at a;split;rename_i E;rw[aF E]at a;cases a
 exact⟨⟨Or.inr (Or.inl rfl),fun a=>absurd (show(39:Int)=82 from a) lC,fun a=>absurd (show kD 39=true from a) lC⟩,by simp,by simp;omega⟩;rename_i o;rw[aC o]at a;split;rename_i f;rw[aF f]at a;have y:bt s b≠82:=by intro g;rw[g]at f;revert f;decide
 have v:∀ (i:Nat) (e:It),e.c=bt s b->(b:Int)<=e.pl->e.pl<(i:Int)->(Br s (bt s b) i e).ok=true->GN (Br s (bt s b) i e).it/\(b:Int)<=(Br s (bt s b) i e).it.pl/\(Br s (bt s b) i e).it.pl<((Br s (bt s b) i e).i:Int):=by
  intro i e h z A k;unfold Br at k⊢;split;rename_i j;rw[aF j]at k;split;rename_i x;refine⟨⟨Or.inr (Or.inr (by simp only;rw[h];exact f)),fun g=>absurd (h.symm.trans g) y,fun _=>⟨by simp only;omega,by simp only;omega⟩⟩,by simp only;omega,by simp only;omega⟩;rename_i x;rw[aC x]at k;cases k
  rename_i j;exact⟨⟨Or.inr (Or.inr (by rw[h];exact f)),fun g=>absurd (h.symm.trans g) y,fun a=>absurd (by rw[h]at a;exact a) j⟩,z,A⟩
 split;rename_i r;rw[aF r]at a;split;rename_i p;rw[aF p]at a;exact v _ _ rfl kY lA a;rename_i p;rw[aC p]at a;cases a
 rename_i r;rw[aC r]at a;exact v _ _ rfl kY lB a;rename_i f;rw[aC f]at a;cases a
def Ya(s:aA)(b:Nat->C3):Prop:=∀ a,a<=s.size->(b a).ok=true->Ord a (b a).i (b a).As/\∀ e,e∈(b a).As->GN e
theorem Wz(s)(b:Nat->C3)(j:Good s b)(k:Ya s b)(e):∀ a,a<=s.size->(loopN b e a).ok=true->Ord a (loopN b e a).i (loopN b e a).As/\∀ x,x∈(loopN b e a).As->GN x:=by
 induction e with
 | zero=>intro a _ _;exact⟨Ord.nil _ _,fun x al=>by simp[loopN]at al⟩
 | succ e o=>
  intro a g h;rw[loopN]at h⊢;split;rename_i r;rw[aF r]at h;obtain⟨f,bi,_⟩:=j a g;obtain⟨ab,ac⟩:=k a g r;obtain⟨bx,b1⟩:=o _ f h;have bb:=(Jw s b j e (b a).i f).2.1;exact nD;exact Bv
theorem VV(s)(b:Nat->C3)(j:Good s b)(o:Ya s b)(e):∀ a,a<=s.size->(Bp b s e a).ok=true->Ord a (Bp b s e a).i (Bp b s e a).As/\∀ x,x∈(Bp b s e a).As->GN x:=by
 induction e with
 | zero=>intro a _ h;cases h
 | succ e p=>
  intro a g h;rw[Bp]at h⊢;split;rename_i r;rw[aF r]at h;obtain⟨f,bi,_⟩:=j a g;obtain⟨ab,ac⟩:=o a g r;split;refine⟨⟨ab.1,fun x al=>?_⟩,ac⟩;have:=ab.2 x al;simp only;omega;rename_i k;rw[aC k]at h;obtain⟨bx,b1⟩:=p _ f h;have bb:=(JC s b j e (b a).i f).2.1;exact nD;exact Bv
theorem Aci(s e a):Ya s (AF s e a):=by
 induction a with
 | zero=>intro b _ h;cases h
 | succ a u=>
  intro b v h;rw[AF]at h⊢;split;rename_i r;rw[aF r]at h;obtain⟨p,B,E⟩:=Nt s b r;obtain⟨F,g,_,_⟩:=NX s b v;have x:(Ord (Ak s b).i (inner (AF s e a) s a (Ak s b)).i (inner (AF s e a) s a (Ak s b)).As/\∀ j,j∈(inner (AF s e a) s a (Ak s b)).As->GN j)/\(Ak s b).i<=(inner (AF s e a) s a (Ak s b)).i:=by
   have f:(inner (AF s e a) s a (Ak s b)).ok=true:=h;unfold inner at f⊢;split;rename_i k;rw[aF k]at f;exact⟨VV s _ (BA s e a) u _ _ g f,(JC s _ (BA s e a) _ _ g).2.1⟩;rename_i k;rw[aC k]at f;exact⟨Wz s _ (BA s e a) u _ _ g f,(Jw s _ (BA s e a) _ _ g).2.1⟩
  obtain⟨⟨y,z⟩,A⟩:=x;refine⟨Ord.cons ⟨B,E⟩ y A,fun j o=>?_⟩;rcases bB.1 o with rfl|o;exact⟨p.c,p.r,p.d⟩;exact z j o;exact Bv
def KU:Nat->aD Rl->Prop
 | _,[]=>True
 | e,a::t=>e<=a.pl/\∃ b,a.pl+1<=b/\Ord (a.pl+1) b a.As/\KU b t
structure Af0 (n:Nat) (x:Rl):Prop where
 num:0<=x.r/\x.r<8
 items:∀ y,y∈x.As->GN y
 len:x.As.length<=n
theorem Fi(s f):∀ e a,e<=72->(rulesV s f e a).ok=true->KU a (rulesV s f e a).Bj/\(∀ b,b∈(rulesV s f e a).Bj->Af0 s.size b)/\(rulesV s f e a).Bj.length<=f/\0<(rulesV s f e a).Bj.length:=by
 induction f with
 | zero=>intro e a _ h;cases h
 | succ f z=>
  intro e a K h;rw[rulesV]at h⊢;split;exact Bg;rename_i ab;rw[aC ab]at h;have I:65<=bt s a/\bt s a<=e:=by simpa using ab
  split;exact C9;rename_i ac;rw[aC ac]at h;have J:=AT s (a+1) kX;obtain⟨B,E,o⟩:=BA s (bt s a-65) (s.size+1) (a+2) kX;split;exact EQ;rename_i ai;rw[aC ai]at h;have p:(AF s (bt s a-65) (s.size+1) (a+2)).ok=true:=by simpa using ai
  obtain⟨r,A⟩:=Aci s (bt s a-65) (s.size+1) (a+2) kX p;obtain⟨o,F⟩:=o p;have g:Af0 s.size ⟨bt s a-65,a,(AF s (bt s a-65) (s.size+1) (a+2)).As⟩:=⟨⟨by simp only;omega,by simp only;omega⟩,A,by simp only;omega⟩;have k:Ord (a+1) (AF s (bt s a-65) (s.size+1) (a+2)).i (AF s (bt s a-65) (s.size+1) (a+2)).As:=⟨r.1,fun b g=>by have:=r.2 b g;omega⟩;split;refine⟨⟨aB _,(AF s (bt s a-65) (s.size+1) (a+2)).i,by simp only;omega,k,trivial⟩,fun b j=>?_,by simp,by simp⟩;simp at j;subst j;exact g;rename_i u;rw[aC u]at h;split;exact gz;rename_i ah;rw[aC ah]at h;obtain⟨v,x,y,L⟩:=z 72 _ kX h;simp only[GQ.pre,cA,cL,aX]at*;refine⟨⟨aB _,(AF s (bt s a-65) (s.size+1) (a+2)).i+1,by simp only;omega,⟨k.1,fun b g=>⟨(k.2 b g).1,Int.lt_trans (k.2 b g).2 kX⟩⟩,v⟩,fun b j=>?_,Nat.succ_le_succ y,Nat.succ_pos _⟩;rcases bB.1 j with rfl|j;exact g;exact x b j
theorem KU.pl{l}:∀ {e:Nat},KU e l->∀ b,b∈Ao l->(e:Int)<=b.pl:=by
 induction l with
 | nil=>intro e _ b a;simp[Ao]at a
 | cons r t j=>
  intro e f b a;obtain⟨k,p,o,g,h⟩:=f;simp only[Ao,bY,aV]at a;rcases a with a|a;have:=g.2 b a;omega;have:=j h b a;omega
theorem P2(s)(e:(Ah s).ok=true):∀ a,a<(Ao (Ah s).Bj).length->0<=(A1 (Ao (Ah s).Bj) a).pl:=by
 intro a b;have:=(Fi s 8 65 0 kX e).1.pl (A1 (Ao (Ah s).Bj) a) (by rw[A1,A3 _ _ _ b];exact aU b);omega
theorem mi(h:p:=by
 apply Array.ext;simp[madeCells];intro i ab ac;simp only[madeCells,Array.getElem_map,Value.cells];simp[Nat.mod_one]):p:=h
theorem Bc(h:p:=by
 rw[r];simp):p:=h
abbrev jL(h:PLift q->p:=by
 intro aa;simp only[aP,aS,aQ,aJ,aK];exact aa.1):p:=h ⟨z⟩
abbrev kJ(h:PLift q->p:=by
 intro aa;simp only[wpSeg,aP,aS,aQ,aJ,aK];exact aa.1):p:=h ⟨z⟩
abbrev k5(h:PLift q->p:=by
 intro aa;refine Ab _ rfl (fun W a=>rfl) ?_;refine Ab _ rfl (fun W a=>rfl) ?_;exact aa.1):p:=h ⟨z⟩
def FU(a N n:Nat):Ts:=⟨a,N,0,List.replicate n false,[],.slice none 0 0⟩
theorem Tryz.Zz:(prog.info? 4).map (fun i=>(i.zero,i.size,i.bytes))=some (some (.bool false),1,1):=kZ
theorem UG(n):madeCells (Value.bool false).cells (n*1)=((List.replicate n false).map Value.bool).toArray:=by
 exact mi
theorem Qu(n:Nat)(h:n<=4000)(W:aE):Sem.run prog (Instr.makeSlice 137 (I0 n) (I0 n)) W=.ok (S0 W.heap.size n n) (W.alloc (.cells ((List.replicate n false).map Value.bool).toArray 4)):=by
 obtain⟨g,b,e,a,f⟩:=cY Tryz.Zz;have:=iI (P:=prog) W 137 4 g (.bool false) underlying137 b e .i64 .i64 n n kX kX (by rw[a];omega) (by rw[f];omega) kX;rw[a]at this;simp only[bE]at this;rw[UG]at this;exact this
theorem RP(e f g w):
 CallsD prog 40 #[.pointer (some e),.pointer (some f),.pointer (some g)] .returning w fun b h w'=>b=.returned (.tuple #[])/\h=.returning/\w'=w:=by
 refine callsD_of_wpS func40 rfl fun a j hu=>?_
 apply wpS_seq;apply wpS_region;simp[wpOpsS,go_sem,recoverD,hu,ntmps40,Exit.thenS];apply wpS_seq;apply wpS_seq;apply wpS_region;simp[wpOpsS,go_sem,Exit.thenS];refine wpS_cond (t:=true) (by simp[Act.eval,Array.replicate]) ?_;simp only[dU];refine wpS_of_wp (wp_ret ?_)
 cases a
 simp_all [bodyPostS,results,results40,Exit.thenS,go_sem]
theorem g0(h:p:=by
 rw[ad.o];go_enter func26,ntmps26;go_wp2;go_ret;exact⟨rfl,rfl⟩):p:=h
def IX(n a:Int):Bool:=decide (0<=n)&&decide (n<=a)
theorem Ob(n a w):
 Calls prog 26 #[I0 n,I0 a] w fun f w'=>f=.returned (.bool (IX n a))/\w'=w:=by
 by_cases b:0<=n;by_cases e:n<=a;have ad:Hid (IX n a=true):=by unfold IX Hid;simp[b,e]
 exact g0;have ad:Hid (IX n a=false):=by unfold IX Hid;simp[e]
 exact g0;have ad:Hid (IX n a=false):=by unfold IX Hid;simp[b]
 exact g0

import Derived.RangeFuncNested
import Derived.RangeFuncBound
import Derived.RangeFuncLeaves
import Derived.RangeFuncBox
import Derived.Shelf.Abstract
import Derived.Shelf.RegionOpen
import Derived.TacticsInMore
import Derived.LoopNIn
import Derived.LoopIn
import Derived.Test.YtmlkhhhjdpbhfaaGreatDoorGe09
import Derived.Test.YtmlkhhhjdpbhfaaGreatDoorGe08
namespace Go.Proofs.YtmlkhhhjdpbhfaaGreatDoor
open Go.RowKit Go.Proofs.Tryz
set_option maxHeartbeats 4000000
set_option maxRecDepth 100000
variable{p q:Prop}(z:q)
theorem g7(h:p:=by
 go_wp2_with fail;go_quiet (fail);go_wp2_with fail;exact⟨⟨f+1,a,by go_num,rfl,by omega,below_drewN (bc.o _) _,an.o.symm⟩,by simp[intOf];omega⟩):p:=h
theorem j9(h:p:=by
 go_wp2_with fail;go_quiet (fail);go_wp2_with fail;exact⟨⟨f+1,j.pl,by go_num,rfl,by omega,below_drewN (bc.o _) _,an.o.symm⟩,by simp[intOf];omega⟩):p:=h
theorem nH(h:p:=by
 clear g;go_wp2_with fail;exact⟨⟨b+1,h,by go_num,rfl,by omega,am,an.o.symm⟩,by simp[intOf];omega⟩):p:=h
theorem nI(h:p:=by
 clear g;go_wp2_with fail;exact⟨⟨b+1,e,by go_num,rfl,by omega,am,an.o.symm⟩,by simp[intOf];omega⟩):p:=h
def Dh(b:aD Rl)(a:aD It)(i:Nat):Bool:=(A1 a i).c==82 && !(Dq b (A1 a i).r)
def P5(s:aA):Int:=worst (Ao (Ah s).Bj) (Dh (Ah s).Bj (Ao (Ah s).Bj)) (Ao (Ah s).Bj).length (twiceV [] (Ah s).Bj)
def Lp(s:aA):Int:=worst (Ao (Ah s).Bj) (fun i=>!(Bm (Ao (Ah s).Bj) i)) (Ao (Ah s).Bj).length (-1)
def Gc(s:aA):Int × Int:=
 if 400<s.size then(1,0)else if(Ah s).ok=false then(2,((Ah s).i:Int))else if 0<=P5 s then(3,P5 s)else if 0<=Lp s then(4,Lp s)else(0,0)
def ZD(s:aA)(w:aE)(g:Ending)(w':aE):Prop:=
 ∃ f,g=.returned (.tuple #[f,I0 (Gc s).1,I0 (Gc s).2])/\Below w.heap.size w w'/\
  (Gc s=(0,0)->∃ e h c a b,f=P0 e/\H2 w' e h c (S0 a 8 8) (I0 (twiceV [] (Ah s).Bj)) (Ao (Ah s).Bj)/\Ac w' a (Ci b) 3/\KY b (Ah s).Bj)
theorem RJ(s)(a:(Ah s).ok=true):(Ao (Ah s).Bj).length<=s.size:=by
 have:=(NL s 8 65 0 a).2.2;unfold Ah;omega
theorem Yg(a f n b)(g : -1<=b)(h:∀ e,e<a.length->0<=(A1 a e).pl)(k:n<=a.length) : -1<=worst a f n b:=by
 induction n with
 | zero=>exact g
 | succ n j=>
  have:=j kX;have:=h n kX;rw[worst];split<;>omega
theorem below_drewN{b e w}(a:Below b e w)(n):Below b e (w.drewN n):=⟨a.os,a.tape,a.output,a.size,a.block⟩
theorem TZ(s)(_hsl:s.size<=maxLen)(w):
 Calls prog 31 #[.string s] w fun af w'=>ZD s w af w':=by
 by_cases a1:400<s.size
 . have cb:(400:Int)<(s.size:Int):=by omega
   have E:=Aa (show Gc s=(1,0)by unfold Gc;rw[aF a1]);unfold maxLen at _hsl;go_enter func31,ntmps31;go_wp2;go_ret3;exact⟨.pointer none,by rw[E.o];rfl,aO _ _,fun r=>by rw[E.o]at r;exact absurd (gI Prod.fst r) kY⟩
 have cb:¬ (400:Int)<(s.size:Int):=kX
 cases I:(Ah s).ok
 . have E:=Aa (show Gc s=(2,((Ah s).i:Int))by unfold Gc;rw[aC a1,aF I]);have V:=A8 I;clear I;go_enter func31,ntmps31;go_wp2_with fail;refine(Ny s kX w).mono ?_;rintro af w1⟨X,pl,rfl,a0,aa,_⟩;rw[V.o];have a0:=a0 V.o;simp only;go_wp2;go_ret3;exact⟨.pointer none,by rw[E.o,<- a0];rfl,aa,fun r=>by rw[E.o]at r;exact absurd (gI Prod.fst r) kY⟩
 have E:=Aa (show Gc s=if 0<=P5 s then(3,P5 s)else if 0<=Lp s then(4,Lp s)else(0,0)by unfold Gc;rw[aC a1,aC (by simp[I])]);obtain⟨bl,bj,_⟩:=NL s 8 65 0 I;have cq:=RJ s I;have a3:Hid (P5 s=worst (Ao (Ah s).Bj) (Dh (Ah s).Bj (Ao (Ah s).Bj)) (Ao (Ah s).Bj).length (twiceV [] (Ah s).Bj)):=rfl;have bp:Hid (Lp s=worst (Ao (Ah s).Bj) (fun i=>!(Bm (Ao (Ah s).Bj) i)) (Ao (Ah s).Bj).length (-1)):=rfl;have V:=A8 I;have b3:Hid (Wf (Ao (Ah s).Bj)):=bl;have b1:Hid (I9 (Ao (Ah s).Bj)):=bj;have ct:=Lj [] (Ah s).Bj;have b0:=Aa (P2 s I);clear I bl bj;go_enter func31,ntmps31;go_wp2_with fail;refine(Ny s kX w).mono ?_;rintro af w1⟨X,pl,rfl,_,aa,b7⟩;rw[V.o];obtain⟨z,c,aq,ah,Y,hF,a9⟩:=b7 V.o;generalize bh:(Ah s).Bj=p at*;have a8:=A8 bh;clear bh;generalize bd:Ao p=k at*;have bx:=A8 bd;clear bd;have br:=A8 Y;have al:=A8 hF;have ao:=A8 a9;have b4:=A8 aa;have ci:=Y.Ap.c2;have cn:=Y.lt;have cm:=Y.Ap.lt;have ay:=hF.lt;have cj:=aa.size;clear Y hF a9 aa;simp only;go_wp2_with fail;generalize bk:twiceV [] p=x at*;have b2:=A8 bk;clear bk;go_loopw [8,9] (fun a2 S wr=>∃ (f:Nat) (a:Int),S=I0 f/\a2=I0 a/\f<=k.length/\Hid (Below w1.heap.size w1 wr)/\Hid (a=worst k (Dh p k) f x)) (fun _ S _=>k.length-(intOf S).toNat)
 case atStart=>exact⟨0,x,rfl,rfl,by omega,aO _ _,(rfl:x=worst k (Dh p k) 0 x)⟩
 case round=>
  obtain⟨f,a,rfl,rfl,co,M,ai⟩:=hrel;have y:=br.o.below M.out;have cc:=M.out.size;have cg:=y.top;by_cases A:f<k.length;have b8:(f:Int)<(k.length:Int):=kX;have cu:wr.cell? (A0 z (f*9))=some (.int .u8 (A1 k f).c):=by simpa[It.cells,It.off]using y.cell f 0 A kX
  have cv:wr.cell? (A0 z (f*9+1))=some (I0 (A1 k f).w):=by simpa[It.cells,It.off]using y.cell f 1 A kX
  have cw:wr.cell? (A0 z (f*9+2))=some (I0 (A1 k f).b):=by simpa[It.cells,It.off]using y.cell f 2 A kX
  have cd:wr.cell? (A0 z (f*9+3))=some (I0 (A1 k f).r):=by simpa[It.cells,It.off]using y.cell f 3 A kX
  have cx:wr.cell? (A0 z (f*9+4))=some (I0 (A1 k f).d):=by simpa[It.cells,It.off]using y.cell f 4 A kX
  have ce:wr.cell? (A0 z (f*9+5))=some (I0 (A1 k f).pl):=by simpa[It.cells,It.off]using y.cell f 5 A kX
  have cy:wr.cell? (A0 z (f*9+6))=some (I0 (f+(A1 k f).nx)):=by simpa[It.cells,It.off]using y.cell f 6 A kX
  have cz:wr.cell? (A0 z (f*9+7))=some (I0 (A1 k f).rl):=by simpa[It.cells,It.off]using y.cell f 7 A kX
  have c0:wr.cell? (A0 z (f*9+8))=some (I0 0):=by simpa[It.cells,It.off]using y.cell f 8 A kX
  have ax:∀ v:Nat,v<8->∀ B,(wr.alloc B).cell? (A0 aq v)=some (I0 (ah.getD v 0)):=by
   intro v ak B;have r:=(al.o.below M.out ay).alloc B;rw[r.cell v];have:=ao.o.1;simp[Ci,List.getD,show v<ah.length by omega]
  have ck:∀ B,(wr.alloc B).cell? (A0 X 1)=some (S0 aq 8 8):=fun B=>(y.Ap.alloc B).cell 1
  have ad:Hid (Dh p k f=((A1 k f).c==82 && !(Dq p (A1 k f).r))):=rfl;have g:=Aa (show worst k (Dh p k) (f+1) x=if Dh p k f&&(decide (a<0)||decide ((A1 k f).pl<a))then(A1 k f).pl else a by rw[worst,<- ai.out]);have ap:Hid ((A1 k f).c=82->0<=(A1 k f).r/\(A1 k f).r<8):=by
   intro r;exact b1.o (A1 k f) (by unfold A1;rw[A3 _ _ _ A];exact aU A) r
  clear y ai;have bc:Hid (∀ B,Below w1.heap.size w1 (wr.alloc B)):=fun B=>M.out.alloc cc B
  generalize A1 k f=j at*
  cases av:(j.c==82)
  have an:=Aa (show worst k (Dh p k) (f+1) x=a by rw[g.o,ad.o,av];rfl);clear g ad ap ax;exact g7;have ba:j.c=82:=by simpa using av
  obtain⟨b9,ca⟩:=ap.o ba;obtain⟨v,ak⟩:∃ v:Nat,j.r=(v:Int):=⟨j.r.toNat,by omega⟩;have bi:v<8:=kX;have cr:(v:Int)<8:=kX;have cl:=ax v bi;have J:=A8 (ao.o.2.1 v bi);rw[ak]at cd;have K:=Aa (show Dh p k f=!(Dq p (v:Int))by rw[ad.o,av,ak];rfl);clear ax ad ap ba ak b9 ca;generalize ah.getD v 0=L at*;have az:¬ L<0\/(L<0/\a<0)\/(L<0/\¬ a<0/\j.pl<a)\/(L<0/\¬ a<0/\¬ j.pl<a):=kX;rcases az with o|⟨o,u⟩|⟨o,u,F⟩|⟨o,u,F⟩;have an:Hid (worst k (Dh p k) (f+1) x=a):=by
   have O:Dq p (v:Int)=true:=by
    cases r:Dq p (v:Int)
    exact absurd (J.o.2 r) o;rfl
   have:worst k (Dh p k) (f+1) x=a:=by rw[g.o,K.o,O];rfl
   exact this
  clear g K J;have aw:decide (L<0)=false:=by simpa using o
  exact g7;have an:Hid (worst k (Dh p k) (f+1) x=j.pl):=by
   have O:=J.o.1 o;have:worst k (Dh p k) (f+1) x=j.pl:=by rw[g.o,K.o,O];simp[u]
   exact this
  clear g K J;have aw:decide (L<0)=true:=by simpa using o
  have bb:decide (a<0)=true:=by simpa using u
  exact j9;have an:Hid (worst k (Dh p k) (f+1) x=j.pl):=by
   have O:=J.o.1 o;have:worst k (Dh p k) (f+1) x=j.pl:=by rw[g.o,K.o,O];simp[F]
   exact this
  clear g K J;have aw:decide (L<0)=true:=by simpa using o
  have bb:decide (a<0)=false:=by simpa using u
  have b6:decide (j.pl<a)=true:=by simpa using F
  exact j9;have an:Hid (worst k (Dh p k) (f+1) x=a):=by
   have O:=J.o.1 o;have:worst k (Dh p k) (f+1) x=a:=by rw[g.o,K.o,O];simp[u,F]
   exact this
  clear g K J;have aw:decide (L<0)=true:=by simpa using o
  have bb:decide (a<0)=false:=by simpa using u
  have b6:decide (j.pl<a)=false:=by simpa using F
  exact g7;have ac:=Aa (show P5 s=a by rw[a3.o,ai.out,show f=k.length by omega]);have bv:=A8 y;have a6:Hid (Below w.heap.size w wr):=b4.o.trans (M.out.mono kX);clear ai y;by_cases bg:0<=a
  . have U:=Aa (show Gc s=(3,a)by rw[E.o,ac.o,aF bg]);go_wp2;go_ret3;exact⟨.pointer none,by rw[U.o];rfl,a6.o,fun r=>by rw[U.o]at r;exact absurd (gI Prod.fst r) kY⟩
  have U:=Aa (show Gc s=if 0<=Lp s then(4,Lp s)else(0,0)by rw[E.o,ac.o,aC bg]);have bz:=Aa (show a = -1 by
   have o:=Yg k (Dh p k) k.length x kX b0.o kX;have u:=ac.o;rw[a3.o]at u;omega)
  clear E ac;go_wp2;go_loopw [8,11] (fun a2 S cf=>∃ (f:Nat) (e:Int),S=I0 f/\a2=I0 e/\f<=k.length/\Hid (Below wr.heap.size wr cf)/\Hid (e=worst k (fun i=>!(Bm k i)) f (-1))) (fun _ S _=>k.length-(intOf S).toNat)
  case atStart=>exact⟨0,a,rfl,rfl,by omega,aO _ _,(by rw[bz.o];rfl:a=worst k (fun i=>!(Bm k i)) 0 (-1))⟩
  case round=>
   rename aE=>bo
   obtain⟨b,e,rfl,rfl,cp,ab,aj⟩:=hrel;have Z:=bv.o.below ab.out;have cs:=ab.out.size;have b5:=Z.top;by_cases be:b<k.length
   . have b8:(b:Int)<(k.length:Int):=by omega
     have a7:=A8 Z;have g:=Aa (show worst k (fun i=>!(Bm k i)) (b+1) (-1)=if !(Bm k b)&&(decide (e<0)||decide ((A1 k b).pl<e))then(A1 k b).pl else e by rw[worst,<- aj.out]);clear Z aj;go_wp2_with fail;refine(bound_calls bo X z c _ _ k a7.o b3.o kX b be).mono ?_;rintro af bm⟨rfl,au⟩;have ar:=a7.o.below au;have ch:=ar.top;have ce:bm.cell? (A0 z (b*9+5))=some (I0 (A1 k b).pl):=by simpa[It.cells,It.off]using ar.cell b 5 be kX
     have am:Hid (Below wr.heap.size wr bm):=ab.out.trans (au.mono kX);clear ar b5 au;simp only;generalize(A1 k b).pl=h at*;have az:Bm k b=true\/(Bm k b=false/\e<0)\/(Bm k b=false/\¬ e<0/\h<e)\/(Bm k b=false/\¬ e<0/\¬ h<e):=by
      cases Bm k b
      right;by_cases o:e<0;exact Or.inl ⟨rfl,o⟩;right;by_cases u:h<e;exact Or.inl ⟨rfl,o,u⟩;exact Or.inr ⟨rfl,o,u⟩;exact Or.inl rfl
     rcases az with o|⟨o,u⟩|⟨o,u,F⟩|⟨o,u,F⟩;have an:=Aa (show worst k (fun i=>!(Bm k i)) (b+1) (-1)=e by rw[g.o,o];rfl);exact nI;have an:=Aa (show worst k (fun i=>!(Bm k i)) (b+1) (-1)=h by rw[g.o,o];simp[u]);exact nH;have an:=Aa (show worst k (fun i=>!(Bm k i)) (b+1) (-1)=h by rw[g.o,o];simp[F]);exact nH;have an:=Aa (show worst k (fun i=>!(Bm k i)) (b+1) (-1)=e by rw[g.o,o];simp[u,F]);exact nI
   have a4:=Aa (show Lp s=e by rw[bp.o,aj.out,show b=k.length by omega]);have a5:Hid (Below w.heap.size w bo):=a6.o.trans (ab.out.mono kX);have bu:=A8 Z;have bq:=A8 ((al.o.below M.out ay).below ab.out (al.o.below M.out ay).lt);clear aj Z;by_cases bf:0<=e
   . have ae:=Aa (show Gc s=(4,e)by rw[U.o,a4.o,aF bf]);go_wp2;go_ret3;exact⟨.pointer none,by rw[ae.o];rfl,a5.o,fun r=>by rw[ae.o]at r;exact absurd (gI Prod.fst r) kY⟩
   have ae:=Aa (show Gc s=(0,0)by rw[U.o,a4.o,aC bf]);go_wp2;go_ret3;exact⟨P0 X,by rw[ae.o];rfl,a5.o,fun _=>⟨X,z,c,aq,ah,rfl,by rw[a8.o,bx.o,b2.o];exact bu.o,bq.o,by rw[a8.o];exact ao.o⟩⟩
section
open Go.Shelf
attribute [local go_sem] Oper.semAt_some
def Ee(a m:Nat):aD Nat:=((List.range a).drop m).reverse
theorem Qb{a m}(b:m<a):Ee a m=Ee a (m+1)++[m]:=by
 unfold Ee;rw[cF (by simpa using b)];simp
theorem Rz(a):Ee a a=[]:=by unfold Ee;simp
theorem Sj{a m}:(Ee a m).length=a-m:=by unfold Ee;simp
def YG(e b:Nat)(W a:aE):Prop:=a.heap[e]? = W.heap[e]? /\ a.heap[b]? = W.heap[b]?
theorem YG.trans{g b W a e}(h:YG g b W a)(f:YG g b a e):YG g b W e:=⟨f.1.trans h.1,f.2.trans h.2⟩
theorem Ace(h:Fence)(n)(B:h.fn 161)(O:h.round=none)(af:1<=n)(l j k a z)(u:Nat->aI)(aa:a<=100000000)(e v:aD Nat->aE->Prop)(J:∀ pre o W,e pre W->pre.length<a->YieldAt h (n-1) prog l #[I0 (o:Nat),u o] W fun f b=>
   (f=.returned (.bool true)/\e (pre++[o]) b/\YG k j W b)\/(f=.returned (.bool false)/\v (pre++[o]) b))(W)(K:W.cell? (A0 j 0)=some (S0 k a z))(L:∀ r,r<a->W.cell? (A0 k r)=some (u r))(h0:e [] W):
 CallsIn h n prog 161 #[.func (.yield l) #[] #[],P0 j] W fun f b=>(∃ g,f=.returned g)/\
  ((∃ y,y=Ee a 0/\e y b)\/(∃ pre,True/\v pre b)):=by
 refine callsIn_of_wp func161 rfl B ?_ O;simp only[ntmps161,dJ,aX,cP,Nat.reduceAdd,Nat.reduceSub,iE,iD,iP,iF,cL,cA];have S:IntKind.i64.wrap ((a:Int)-1)=(a:Int)-1:=lI
 gi_wp2
 gi_loopw [3] (fun g wr=>∃ m:Nat,m<=a/\g=I0 (m-1)/\e (Ee a m) wr/\YG k j W wr) (fun g _=>(intOf g+1).toNat)
 case atStart=>exact⟨a,aB _,by first|rfl|rw[S],by rw[Rz];exact h0,rfl,rfl⟩
 case round=>
  obtain⟨m,ae,rfl,x,p⟩:=hrel
  cases m with
  | zero=>
   gi_wp2
   go_end0;exact⟨⟨_,rfl⟩,.inl ⟨_,rfl,x⟩⟩
  | succ m=>
   have A:((m+1:Nat):Int)-1=(m:Nat):=kX;rw[A];have ac:=(aL p.1).trans (L m kX);have ab:=(aL p.2).trans K;have ad:(m:Int)<(a:Int):=kX;have U:IntKind.i64.wrap ((m:Int)-1)=(m:Int)-1:=lI;obtain⟨Z,ai,X,Y,ah,I⟩:=J _ m wr x (by rw[Sj];omega);generalize u m=sm at*
   gi_wp2
   refine I.mono ?_;rintro f V (⟨rfl,E,M⟩|⟨rfl,F⟩)
   . gi_wp2
     go_roundw
     case rel=>exact⟨m,by omega,by first|rfl|rw[U],by rw[Qb kX];exact E,p.trans M⟩
     case measure=>simp[intOf]
   gi_wp2
   refine aT (results_none rfl _ _ _) rfl ?_;exact⟨⟨_,rfl⟩,.inr ⟨_,trivial,F⟩⟩
theorem Aed(a:Fence)(n)(h:a.fn 79)(j:a.round=none)(b f e w):
 CallsIn a n prog 79 #[.slice b f e] w fun g w'=>g=.returned (.func (.func 161) #[] #[P0 w.heap.size])/\w'=w.alloc (.cells #[.slice b f e] 118):=by
 refine callsIn_of_wp func79 rfl h ?_ j;simp only[ntmps79,dJ,aX,cP,Nat.reduceAdd,Nat.reduceSub,iE,iD,iP,iF,cL,cA]
 gi_wp2
 go_ret;exact⟨rfl,rfl⟩
theorem W5(g:Fence)(n)(u:g.fn 161)(I:g.round=none)(F:1<=n)(b e a j)(h:Nat->aI)(v:a<=100000000)(w)(z:b<w.heap.size)(B:e<w.heap.size)(y:w.cell? (A0 b 0)=some (S0 e a j))(A:∀ f,f<a->w.cell? (A0 e f)=some (h f)):
 SeqStopsK g n prog 161 #[P0 b] (fun o:Nat=>#[Value.int .i64 (o:Nat),h o]) (YG e b) (fun J=>J=Ee a 0) (fun _=>True) a w:=fun l p r W k _ _ x h0=>
 Ace g n u I F l b e a j h v p r x W ((aL (k.block b z)).trans y) (fun f E=>(aL (k.block e B)).trans (A f E)) h0
end

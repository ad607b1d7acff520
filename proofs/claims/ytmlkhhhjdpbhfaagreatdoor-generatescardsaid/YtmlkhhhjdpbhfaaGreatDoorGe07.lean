import Derived.Laws.Concat
import Derived.Test.YtmlkhhhjdpbhfaaGreatDoorGe02
import Derived.Test.YtmlkhhhjdpbhfaaGreatDoorGe03
import Derived.Test.YtmlkhhhjdpbhfaaGreatDoorGe04
namespace Go.Proofs.YtmlkhhhjdpbhfaaGreatDoor
open Go.RowKit Go.Proofs.Tryz
set_option maxHeartbeats 4000000
set_option maxRecDepth 100000
variable{p q:Prop}(z:q)
abbrev nZ(h:PLift q->p:=by
 intro aa
 first|(go_at_call 85;refine(E3 _ _).mono ?_;rintro e aj⟨rfl,rfl⟩)|(go_at_call 86;refine(Io _ _).mono ?_;rintro e aj⟨rfl,rfl⟩)
 exact aa.1):p:=h ⟨z⟩
theorem A8{a:Prop}(b:a):Hid a:=b
theorem Y1{a:Prop}(b:Hid a):a:=b
theorem E3(c w):Calls prog 85 #[.int .u8 c] w fun a w'=>a=.returned (.bool (Ae c))/\w'=w:=RM c w
theorem Io(c w):Calls prog 86 #[.int .u8 c] w fun a w'=>a=.returned (.bool (AN c))/\w'=w:=Jy c w
theorem Il(w z g c X am b)(Z:H2 w z g c X am b)(_hlen:b.length<=1000)(B l d j)(ah:EL w B l)(ar:l.length<=2000000)(ai:∀ a,a∈l->a<b.length):
 Calls prog 90 #[P0 z,B,I0 d,.bool j] w fun e w'=>e=.returned (I0 (Cg b l d j:Nat))/\Below w.heap.size w w':=by
 obtain⟨x,y,rfl,ae⟩:∃ x y,B=.slice x l.length y/\(∀ f,f<l.length->∃ gk,x=some (A0 gk 0)/\gk<w.heap.size/\w.cell? (A0 gk f)=some (I0 (l.getD f 0:Nat))):=by
  rcases ah with⟨rfl,rfl⟩|⟨gk,y,rfl,A,_,_,Y⟩;exact⟨none,0,rfl,fun f v=>by simp at v⟩;exact⟨_,_,rfl,fun f v=>⟨gk,rfl,A,Y f v⟩⟩
 have L:=Aa ae;have O:=Aa Z;have S:=Aa ai;go_enter func90,ntmps90;go_wp2;go_loopw [9,10] (fun an E wr=>∃ (f p:Nat),E=I0 f/\an=I0 p/\f<=l.length/\p<=f/\Hid (Below w.heap.size w wr)/\Hid (p=Cg b (l.take f) d j)) (fun _ E _=>l.length-(intOf E).toNat)
 case atStart=>exact⟨0,0,rfl,rfl,by omega,by omega,aO _ _,(by simp[Cg]:0=Cg b (l.take 0) d j)⟩
 case round=>
  obtain⟨f,p,rfl,rfl,v,aq,r,J⟩:=hrel;have al:=r.out.size;by_cases u:f<l.length
  . obtain⟨gk,rfl,A,af⟩:=L.o f u;have k:=O.o.below r.out;have ap:wr.cell? (A0 gk f)=some (I0 (l.getD f 0:Nat)):=by rw[r.out.cell (p:=(A0 gk f)) A];exact af
    have o:l.getD f 0<b.length:=S.o _ (by rw[A3 _ _ _ u];exact aU u);have V:=Aa (show Cg b (l.take (f+1)) d j=p+if Iu b d j (l.getD f 0)then 1 else 0 by
     rw[J.out,Cg,Cg,bN u,iL,aR,A3 _ _ _ u]
     cases ak:Iu b d j l[f]<;>simp[ak])
    generalize l.getD f 0=a at*;have ao:=k.top;have aw:wr.cell? (A0 g (a*9))=some (.int .u8 (A1 b a).c):=by simpa[It.cells,It.off]using k.cell a 0 o kX
    have ax:wr.cell? (A0 g (a*9+1))=some (I0 (A1 b a).w):=by simpa[It.cells,It.off]using k.cell a 1 o kX
    have ay:wr.cell? (A0 g (a*9+2))=some (I0 (A1 b a).b):=by simpa[It.cells,It.off]using k.cell a 2 o kX
    have az:wr.cell? (A0 g (a*9+3))=some (I0 (A1 b a).r):=by simpa[It.cells,It.off]using k.cell a 3 o kX
    have a0:wr.cell? (A0 g (a*9+4))=some (I0 (A1 b a).d):=by simpa[It.cells,It.off]using k.cell a 4 o kX
    have a1:wr.cell? (A0 g (a*9+5))=some (I0 (A1 b a).pl):=by simpa[It.cells,It.off]using k.cell a 5 o kX
    have a2:wr.cell? (A0 g (a*9+6))=some (I0 (a+(A1 b a).nx)):=by simpa[It.cells,It.off]using k.cell a 6 o kX
    have a3:wr.cell? (A0 g (a*9+7))=some (I0 (A1 b a).rl):=by simpa[It.cells,It.off]using k.cell a 7 o kX
    have a4:wr.cell? (A0 g (a*9+8))=some (I0 0):=by simpa[It.cells,It.off]using k.cell a 8 o kX
    have U:Hid (Iu b d j a=((A1 b a).d==d&&((j&&Ae (A1 b a).c)||(!j&&AN (A1 b a).c)))):=rfl;have au:(a:Int)<(b.length:Int):=kX;have av:(f:Int)<(l.length:Int):=kX;generalize A1 b a=h at*;go_wp2_with fail;go_region_held3 (fun w'=>w'.cell? (A0 z 0)=some (S0 g b.length c)/\w'.cell? (A0 gk f)=some (I0 (a:Nat))/\
     w'.cell? (A0 g (a*9))=some (.int .u8 h.c)/\w'.cell? (A0 g (a*9+1))=some (I0 h.w)/\w'.cell? (A0 g (a*9+2))=some (I0 h.b)/\w'.cell? (A0 g (a*9+3))=some (I0 h.r)/\
     w'.cell? (A0 g (a*9+4))=some (I0 h.d)/\w'.cell? (A0 g (a*9+5))=some (I0 h.pl)/\w'.cell? (A0 g (a*9+6))=some (I0 (a+h.nx))/\w'.cell? (A0 g (a*9+7))=some (I0 h.rl)/\w'.cell? (A0 g (a*9+8))=some (I0 0))
     (go_keep) (fail)
    have K:Hid (Below w.heap.size w (wr.alloc (Obj.cells #[Value.int IntKind.u8 h.c,Value.int IntKind.i64 h.w,Value.int IntKind.i64 h.b,Value.int IntKind.i64 h.r,Value.int IntKind.i64 h.d,Value.int IntKind.i64 h.pl,Value.int IntKind.i64 (↑a+h.nx),Value.int IntKind.i64 h.rl,Value.int IntKind.i64 0] 132)).drew):=(r.out.alloc al _).drew
    cases ab:Ae h.c<;>cases ac:AN h.c<;>cases j<;>cases ad:(h.d==d)
    all_goals
     have F:=V.o;rw[U.o,ab,ac,ad]at F;have I:=A8 F;go_wp2_with (first
      | refine nZ ?_)
     first
      | exact⟨⟨f+1,p,by go_num,rfl,by omega,by omega,K,(Y1 I).symm⟩,by simp[intOf];omega⟩
      | exact⟨⟨f+1,p+1,by go_num,by go_num,by omega,by omega,K,(Y1 I).symm⟩,by simp[intOf];omega⟩
  have M:=Aa (show Cg b l d j=p by rw[J.out,bV kX]);go_wp2;go_ret;exact⟨by rw[M.o];rfl,r.out⟩
theorem j2(h:p:=by
 have an:=A8 (a.o bj);clear bd a f bj b;go_wp2_with fail;exact⟨⟨s+1,by go_num,by omega,j,an⟩,by simp[intOf];omega⟩):p:=h
theorem Ud(b)(o:Wf b)(e i h)(j:i<b.length)(a:h∈BN b e i):h<b.length:=by
 induction e generalizing i with
 | zero=>simp[BN]at a
 | succ e g=>
  rw[BN]at a;split at a;rename_i k;have f:=o.one i j k;split at a;rcases bB.1 a with rfl|a;exact f;exact g _ f a;exact g _ f a;simp at a
theorem OL(a)(g:Wf a)(s f)(j:s<a.length)(b:f∈AR a s):f<a.length:=by
 unfold AR at b;rw[cI]at b;obtain⟨h,k,e⟩:=b;have:=K1 a g s h j k;rcases bB.1 e with rfl|e;exact this.2;exact Ud a g _ h f this.2 e
theorem KZ(a s)(b:a.length<=1000):(AR a s).length<=1001000:=by
 have e:=LX a (CM a s);have f:=Ht a s;unfold AR;exact bQ e (bQ (Nat.mul_le_mul (bQ f b) (show a.length+1<=1001 by omega)) kX)
theorem EL.take{w l e b}(n)(k:n<=l.length)(a:EL w (S0 e l.length b) l):EL w (S0 e n b) (l.take n):=by
 rcases a with⟨a,_⟩|⟨r,p,a,h,u,f,g⟩;simp at a;simp only[Value.slice.injEq,gW,Addr.mk.injEq,kL,true_and]at a;obtain⟨rfl,rfl⟩:=a;refine Or.inr ⟨e,b,by simp[hV k],h,by simp;omega,f,fun o j=>?_⟩;simp at j;rw[g o kX,A3 _ _ _ kX,A3 _ _ _ lA];simp
theorem Tv(e b s)(j:s<e)(f:b s=true)(h:∀ a,a<s->b a=false):(List.range e).find? b=some s:=by
 rw[List.find?_range_eq_some];exact⟨f,by simpa using j,fun a g=>by simp[h a g]⟩
theorem Mq(e f)(g:∀ b,b<e->f b=false):(List.range e).find? f=none:=by
 rw[iK];intro h a;simp at a;simp[g h a]
structure Bun (w0:aE) (gb g c:Nat) (fi tw:aI) (As:aD It) (gs cap:Nat) (S:aD Nat) (pb:Nat) (d:Int) (w:aE):Prop where
 Fw:H2 w gb g c fi tw As
 ints:EL w (S0 gs S.length cap) S
 cell:w.cell? (A0 pb 4)=some (I0 d)
 lt:pb<w.heap.size
 A9:Below w0.heap.size w0 w
theorem Bun.drew{r h g c f p k j e b o d w}(a:Bun r h g c f p k j e b o d w):Bun r h g c f p k j e b o d w.drew:=
 ⟨⟨a.Fw.Ap,a.Fw.lt,a.Fw.cell⟩,a.ints,a.cell,a.lt,a.A9.drew⟩
theorem Bun.next{u k j c h r p o g f e d w w'}(a:Bun u k j c h r p o g f e d w)(b:Below w.heap.size w w'):Bun u k j c h r p o g f e d w':=
 ⟨a.Fw.below b,a.ints.below b,by rw[b.cell (p:=(A0 e 4)) a.lt];exact a.cell,by have:=b.size;have:=a.lt;omega,a.A9.trans (b.mono a.A9.size)⟩
theorem bound_calls(w y p c A B h)(v:H2 w y p c A B h)(b9:Wf h)(V:h.length<=1000)(g)(z:g<h.length):
 Calls prog 55 #[P0 y,I0 g] w fun e w'=>e=.returned (.bool (Bm h g))/\Below w.heap.size w w':=by
 have a5:=v.top;have c3:w.cell? (A0 p (g*9))=some (.int .u8 (A1 h g).c):=by simpa[It.cells,It.off]using v.cell g 0 z kX
 have c4:w.cell? (A0 p (g*9+1))=some (I0 (A1 h g).w):=by simpa[It.cells,It.off]using v.cell g 1 z kX
 have c5:w.cell? (A0 p (g*9+2))=some (I0 (A1 h g).b):=by simpa[It.cells,It.off]using v.cell g 2 z kX
 have c6:w.cell? (A0 p (g*9+3))=some (I0 (A1 h g).r):=by simpa[It.cells,It.off]using v.cell g 3 z kX
 have c7:w.cell? (A0 p (g*9+4))=some (I0 (A1 h g).d):=by simpa[It.cells,It.off]using v.cell g 4 z kX
 have c8:w.cell? (A0 p (g*9+5))=some (I0 (A1 h g).pl):=by simpa[It.cells,It.off]using v.cell g 5 z kX
 have c9:w.cell? (A0 p (g*9+6))=some (I0 (g+(A1 h g).nx)):=by simpa[It.cells,It.off]using v.cell g 6 z kX
 have da:w.cell? (A0 p (g*9+7))=some (I0 (A1 h g).rl):=by simpa[It.cells,It.off]using v.cell g 7 z kX
 have db:w.cell? (A0 p (g*9+8))=some (I0 0):=by simpa[It.cells,It.off]using v.cell g 8 z kX
 have a0:=Aa v;have ah:=Aa b9;have ct:=v.lt;have cs:=v.Ap.lt;have dr:(g:Int)<(h.length:Int):=kX;have az:Hid (Bm h g=if !(Ae (A1 h g).c) && !(AN (A1 h g).c)then true else match(List.range g).find? (Bt h g)with|some s=>verdict h g s|none=>false):=rfl;clear v b9;have c0:(Ae (A1 h g).c=false/\AN (A1 h g).c=false)\/(Ae (A1 h g).c=false/\AN (A1 h g).c=true)\/Ae (A1 h g).c=true:=by
  cases Ae (A1 h g).c<;>cases AN (A1 h g).c<;>simp
 rcases c0 with⟨O,a6⟩|⟨O,a6⟩|O
 . go_enter func55,ntmps55;go_wp2_with (first
    | refine nZ ?_)
   go_ret;exact⟨BI (by rw[az.o,O,a6];rfl),(aO _ _).alloc (aB _) _⟩
 all_goals
  have bb:=Aa (show Bm h g=match(List.range g).find? (Bt h g)with|some s=>verdict h g s|none=>false by rw[az.o,O];first|(rw[a6];rfl)|simp);clear az;go_enter func55,ntmps55;go_wp2_with (first
   | refine nZ ?_)
  have au:=Ac.new w (X_4 ((A1 h g).c) ((A1 h g).w) ((A1 h g).b) ((A1 h g).r) ((A1 h g).d) ((A1 h g).pl) (g+(A1 h g).nx) ((A1 h g).rl)) 132;have ar:Below w.heap.size w (w.alloc (.cells (X_4 ((A1 h g).c) ((A1 h g).w) ((A1 h g).b) ((A1 h g).r) ((A1 h g).d) ((A1 h g).pl) (g+(A1 h g).nx) ((A1 h g).rl)) 132)):=(aO _ _).alloc (aB _) _;generalize c1:w.alloc (.cells (X_4 ((A1 h g).c) ((A1 h g).w) ((A1 h g).b) ((A1 h g).r) ((A1 h g).d) ((A1 h g).pl) (g+(A1 h g).nx) ((A1 h g).rl)) 132)=K at*;clear c1 c3 c4 c5 c6 c7 c8 c9 da db a5;generalize b8:w.heap.size=U at*;have bl:=A8 b8;clear b8;have ci:Hid (H2 K y p c A B h):=⟨a0.o.Ap.below ar cs,by have:=au.lt;omega,fun g q z cy=>by rw[ar.cell (p:=(A0 p (g*9+q))) ct];exact a0.o.cell g q z cy⟩;have cj:Hid (K.cell? (A0 U 4)=some (I0 (A1 h g).d)):=au.cell 4;have cx:=au.lt;have ba:=Aa ar;clear ar au a0;go_loopw [8] (fun a8 wr=>∃ (s:Nat),a8=I0 s/\s<=g/\Hid (Below K.heap.size K wr)/\Hid (∀ am,am<s->Bt h g am=false)) (fun a8 _=>g-(intOf a8).toNat)
  case atStart=>exact⟨0,rfl,by omega,aO _ _,fun s cz=>by omega⟩
  case round=>
   obtain⟨s,rfl,cz,j,ay⟩:=hrel;have dv:=j.out.size;by_cases cv:s<g
   . have Z:s<h.length:=by omega
     have du:(s:Int)<(h.length:Int):=kX;have ak:=ci.o.below j.out;have a5:=ak.top;have cl:=ak.c s Z;have cm:=ak.nx ah.o s Z;have a2:=Aa ak;clear ak;have bd:Hid (Bt h g s=((A1 h s).c==40&&decide (g<FJ h s)&&F6 (AR h s) g&&(!(Ae (A1 h g).c)||F6 (CM h s) g))):=rfl;have a:Hid (Bt h g s=false->∀ am,am<s+1->Bt h g am=false):=fun x=>VA ay.out x
     have f:Hid (Bt h g s=true->Bm h g=verdict h g s):=by
      intro x;rw[bb.o,Tv g (Bt h g) s cv x ay.out]
     clear ay
     cases b:((A1 h s).c==40)
     have cp:((A1 h s).c != 40)=true:=by simpa[bne]using b
     have bj:Bt h g s=false:=by rw[bd.o,b];rfl
     exact j2
     . have cp:((A1 h s).c != 40)=false:=by simpa[bne]using b
       by_cases dt:FJ h s<=g;have bj:Bt h g s=false:=by rw[bd.o,b,bJ (by omega:¬ g<FJ h s)];rfl
       exact j2
       . have L:=Aa (show Bt h g s=(F6 (AR h s) g&&(!(Ae (A1 h g).c)||F6 (CM h s) g))by rw[bd.o,b,bF (by omega:g<FJ h s)];rfl);clear bd b;go_wp2_with fail;refine(N9 wr y p c A B h a2.o ah.o V s Z).mono ?_;rintro e w2⟨ca,rfl,bu,aw⟩;have a1:=Aa (a2.o.below aw);have dw:=aw.size;simp only;go_wp2_with fail;refine(Jv w2 y p c A B h a1.o ah.o V s Z).mono ?_;rintro e ab⟨dc,rfl,br,av⟩;simp only;have bv:=bu.below av;have be:=Aa (a1.o.below av);have ac:Hid (Below K.heap.size K ab):=(j.out.trans (aw.mono kX)).trans (av.mono kX);have a3:=Aa bv;have bh:=Aa br;have a4:Hid (∀ r,r∈AR h s->r<h.length):=fun r I=>OL h ah.o s r Z I
         have bi:Hid (∀ r,r∈CM h s->r<h.length):=fun r I=>(K1 h ah.o s r Z I).2
         have dk:=KZ h s V;have dj:=Ht h s;clear bu bv br aw av a1 a5 cl cm a2;have ap:Hid (verdict h g s=if Ae (A1 h g).c then(Cg h ((AR h s).take ((AR h s).idxOf g)) (A1 h g).d true==0)&&decide (0<Cg h (AR h s) (A1 h g).d false)else decide (0<Cg h ((AR h s).take ((AR h s).idxOf g)) (A1 h g).d true)&&(Cg h ((AR h s).take ((AR h s).idxOf g)) (A1 h g).d false==0)):=rfl;generalize AR h s=k at*;generalize CM h s=ai at*;go_wp2_with fail;refine(H9 ca k g ab a3.o kX kX (fun r I=>by have:=a4.o r I;omega)).mono ?_;rintro e aj⟨rfl,M⟩;have M:=M.symm;subst M;simp only;go_wp2_with fail;refine(H9 dc ai g ab bh.o kX kX (fun r I=>by have:=bi.o r I;omega)).mono ?_;rintro e aj⟨rfl,M⟩;have M:=M.symm;subst M;simp only
         cases X:F6 k g
         . have an:=A8 (a.o (by rw[L.o,X];rfl));clear L a f ap
           cases Y:F6 ai g
           all_goals
            go_wp2_with fail;exact⟨⟨s+1,by go_num,by omega,ac,an⟩,by simp[intOf];omega⟩
         . cases S:Bt h g s
           . have Y:F6 ai g=false:=by
              have u:=L.o;rw[S,X]at u
              cases x:F6 ai g
              rfl;rw[x]at u;simp at u
             have b0:Ae (A1 h g).c=true:=by
              have u:=L.o;rw[S,X,Y]at u
              cases x:Ae (A1 h g).c
              rw[x]at u;simp at u;rfl
             have an:=A8 (a.o S);clear L a f ap S
             first
              | (exact absurd (O.symm.trans b0) lC)
              | (clear b0
                 go_wp2_with fail;exact⟨⟨s+1,by go_num,by omega,ac,an⟩,by simp[intOf];omega⟩)
           . have bp:=A8 (f.o S);have b6:Ae (A1 h g).c=true->F6 ai g=true:=by
              intro x;have u:=L.o;rw[S,X,x]at u;simpa using u.symm
             have ax:g∈k:=by simpa[F6]using X
             have cu:=List.idxOf_lt_length_of_mem ax;have bg:=Aa (show k.getD (k.idxOf g) 0=g by rw[A3 _ _ _ cu];simp);have bf:Hid (∀ J,J<k.idxOf g->k.getD J 0≠g):=by
              intro J b5;rw[A3 _ _ _ kX];intro x;have aq:=List.not_of_lt_findIdx (p:=(·==g)) b5;simp at aq;exact aq x
             obtain⟨F,E,rfl,bm,dq⟩:∃ F E,ca=S0 F k.length E/\Hid (k.length<=E/\∀ J,J<k.length->ab.cell? (A0 F J)=some (I0 (k.getD J 0:Nat)))/\F<ab.heap.size:=by
              rcases a3.o with⟨_,x⟩|⟨F,E,u,aq,cn,_,co⟩;rw[x]at ax;simp at ax;exact⟨F,E,u,⟨cn,co⟩,aq⟩
             clear L a f S ax X;generalize k.idxOf g=al at*;have Y:=b6;have bk:=A8 Y;clear Y b6
             first
              | have Y:=bk.o O
              | skip
             clear bk;all_goals
              go_wp2_with fail;go_loop [13] (fun a7=>∃ o:Nat,a7=I0 o/\o<=al) (fun a7=>al-(intOf a7).toNat)
              case atStart=>exact⟨0,rfl,by omega⟩
              case round=>
               obtain⟨o,rfl,dl⟩:=hrel;have cr:o<k.length:=kX;have dm:(o:Int)<(k.length:Int):=kX;have b4:=bm.o.2 o cr;by_cases cw:o<al
               . have b7:((k.getD o 0:Nat):Int)≠(g:Int):=by have:=bf.o o cw;omega
                 have ds:((((k.getD o 0:Nat):Int)) != (g:Int))=true:=by rw[hK];exact b7
                 clear b7;generalize k.getD o 0=r at*;go_wp2_with fail;exact⟨⟨o+1,by go_num,by omega⟩,by simp[intOf];omega⟩
               have bx:k.getD o 0=g:=by have:=bg.o;rwa [show o=al by omega]
               rw[bx]at b4;have cf:=A8 (show o=al by omega);clear bx;go_wp2_with fail;have ad:Hid (Bun K y p c A B h F E k U (A1 h g).d ab):=
                ⟨be.o,a3.o,by rw[ac.o.cell (p:=(A0 U 4)) cx];exact cj.o,by have:=ac.o.size;omega,ac.o⟩
               have bo:Hid (∀ r,r∈k.take o->r<h.length):=fun r I=>a4.o r (fL I)
               have dp:(o:Int)<=(E:Int):=by have:=bm.o.1;omega
               have bz:(k.take o).length<=2000000:=by have:(k.take o).length<=k.length:=lA;omega
               have c2:=ad.o.cell;clear b4 be bh bi bf bg;generalize(A1 h g).d=d at*;go_region_held3 (fun w'=>w'.cell? (A0 U 4)=some (I0 d)) (first|go_keep|(exact ae.o.cell))
                ((go_at_call 90
                  refine(Il _ y p c A B h ad.o.drew.Fw V _ (k.take o) d true (ad.o.drew.ints.take o kX) bz bo.o).mono ?_;rintro e dd⟨rfl,b1⟩;have ae:Hid (Bun K y p c A B h F E k U d dd):=ad.o.drew.next b1))
               have bq:Hid (Bm h g=if Ae (A1 h g).c then(Cg h (k.take o) d true==0)&&decide (0<Cg h k d false)else decide (0<Cg h (k.take o) d true)&&(Cg h (k.take o) d false==0)):=by
                have u:=bp.o;rw[ap.o]at u;rw[<- cf.o]at u;exact u
               clear ap bp c2;have cq:k.length<=2000000:=kX;go_wp2_with fail;go_region_held3 (fun w'=>w'.cell? (A0 U 4)=some (I0 d)) (first|go_keep|(exact af.o.cell))
                ((go_at_call 90
                  refine(Il _ y p c A B h ae.o.drew.Fw V _ (k.take o) d false (ae.o.drew.ints.take o kX) bz bo.o).mono ?_;rintro e de⟨rfl,b2⟩;have af:Hid (Bun K y p c A B h F E k U d de):=ae.o.drew.next b2))
               go_wp2_with fail;refine(Il _ y p c A B h af.o.Fw V _ k d false af.o.ints cq a4.o).mono ?_;rintro e df⟨rfl,b3⟩;have bc:=Aa (af.o.next b3);simp only;generalize Cg h (k.take o) d true=a9 at*;generalize Cg h (k.take o) d false=cd at*;generalize Cg h k d false=ce at*;have cg:Hid (Below w.heap.size w df):=by rw[bl.o];exact ba.o.trans (bc.o.A9.mono kX)
               clear b1 b2 b3 ad ae af bc;have ao:=bq.o;rw[O]at ao;simp only[dU,bT,cT]at ao;have ck:=A8 ao;clear ao bq
               cases cb:((a9:Int)==0)<;>cases cc:((cd:Int)==0)<;>by_cases dh:(0:Int)<(ce:Int)<;>by_cases di:(0:Int)<(a9:Int)
               all_goals
                go_wp2;go_ret;refine⟨BI ?_,cg.o⟩;rw[ck.o];simp at cb cc
                first
                 | (simp;omega)
                 | simp[cb,cc,dh,di]
   have ch:=Aa (show Bm h g=false by
    rw[bb.o,Mq g (Bt h g) (fun J b5=>ay.out J kX)])
   go_wp2;go_ret;exact⟨BI ch.o.symm,by rw[bl.o];exact ba.o.trans (j.out.mono kX)⟩
abbrev lg(h:PLift q->p:=by
 intro aa;have ad:(i:Int)<(b.size:Int):=kX;have ac:=Aa (Cs b i av);have ab:bn b i=b[i].toNat:=by have:=F0 b i;rw[ac.out]at this;omega
 have ae:b[i].toNat<256:=by rw[<- ab];exact LC b i
 revert ad ac ab ae;exact aa.1):p:=h ⟨z⟩
def OS(c:Int):Bool:=decide (c=39)||Ae c
theorem Kw(c w):
 Calls prog 169 #[.int .u8 c] w fun a w'=>a=.returned (.bool (OS c))/\w'=w:=by
 go_enter func169,ntmps169;go_wp2;all_goals
  go_ret;refine⟨BI ?_,rfl⟩;unfold OS Ae;by_cases b:c=39<;>simp_all
theorem DQ(a b:aD UInt8):(⟨a.toArray⟩:aA)++⟨b.toArray⟩=⟨(a++b).toArray⟩:=by
 rw[ByteArray.mk_append_mk]
theorem Cv(a:aD UInt8):(⟨a.toArray⟩:aA).size=a.length:=by simp[ByteArray.size]
theorem Hk(f a w)(o:f.length<=1000000000)(p:a.length<=1000000000):
 Calls prog 170 #[.string ⟨f.toArray⟩,.string ⟨a.toArray⟩] w fun j w'=>j=.returned (.string ⟨(Dk f a).toArray⟩)/\w'=w:=by
 cases f with
 | nil=>
  go_enter func170,ntmps170;go_wp2;go_ret;exact⟨rfl,rfl⟩
 | cons e b=>
  have k:Dk (e::b) a=((e::b)++[32])++a:=by simp[Dk]
  rw[k];rw[<- DQ,<- DQ];have u:(⟨(e::b).toArray⟩:aA).size<=1000000000:=by rw[Cv];exact o
  have v:(⟨a.toArray⟩:aA).size<=1000000000:=by rw[Cv];exact p
  have r:(⟨(e::b).toArray⟩:aA).toList.isEmpty=false:=by rw[dZ];rfl
  generalize(⟨(e::b).toArray⟩:aA)=g at*;generalize(⟨a.toArray⟩:aA)=h at*;have x:g.size+1+h.size<=9223372036854775807:=kX;go_enter func170,ntmps170;go_wp2;go_ret;exact⟨rfl,rfl⟩
theorem K3(a:Nat)(E:a<=4)(w:aE):
 Calls prog 45 #[I0 a] w fun k w'=>k=.returned (I0 ((256 ^ a:Nat):Int))/\w'=w:=by
 have A:a=0\/a=1\/a=2\/a=3\/a=4:=kX;go_enter func45,ntmps45;go_wp2_with fail;go_loop [3,4] (fun x e=>∃ i b:Nat,e=I0 i/\x=I0 b/\i<=a/\b<=4294967296/\(i<a->b<=16777216)/\Hid (b=256 ^ i)) (fun _ e=>a-(intOf e).toNat)
 case atStart=>exact⟨0,1,rfl,rfl,by omega,by omega,by omega,(rfl:(1:Nat)=256^0)⟩
 case round=>
  obtain⟨i,b,rfl,rfl,B,F,v,f⟩:=hrel;by_cases r:i<a
  . have u:(i:Int)<(a:Int):=by omega
    have z:=v r;have g:256*b=256 ^ (i+1):=by rw[f.out,fC];omega
    have o:i+1<a->256*b<=16777216:=fun y=>by rw[g];exact JK _ kX
    have j:=A8 g;have h:=A8 o;go_wp2_with fail;exact⟨⟨i+1,256*b,by go_num,by go_num,by omega,by omega,h.o,j⟩,by simp[intOf];omega⟩
  have u:¬ (i:Int)<(a:Int):=kX;have p:i=a:=kX;subst p;go_wp2;go_ret;exact⟨DU (by rw[f.out];rfl),rfl⟩
theorem PY(b)(F:b.size<=4000)(a:Nat)(g:a<=4)(w:aE):
 Calls prog 47 #[.string b,I0 a] w fun v w'=>v=.returned (I0 ((CB b a b.size:Nat):Int))/\∃ n,w'=w.drewN n:=by
 have K:=DS a g;have J:0<256 ^ a:=iA kX;have r:=A8 (K3 a g);have o:=A8 (fun i=>FX b a i);have u:Hid (∀ i,CB b a (i+1)=(CB b a i*31+bn b i) % 256 ^ a):=fun i=>rfl
 generalize B:256 ^ a=P at*;go_enter func47,ntmps47;go_wp2;go_loopw [5,6] (fun A f wr=>∃ (i e n:Nat),f=I0 i/\A=I0 e/\i<=b.size/\e<P/\Hid (e=CB b a i)/\Hid (wr=w.drewN n)) (fun _ f _=>b.size-(intOf f).toNat)
 case atStart=>exact⟨0,0,0,rfl,rfl,by omega,by omega,(rfl:(0:Nat)=CB b a 0),(rfl:w=w.drewN 0)⟩
 case round=>
  obtain⟨i,e,n,rfl,rfl,I,L,j,h⟩:=hrel;by_cases av:i<b.size
  . refine lg ?_;intro ad ac ab ae;have x:CB b a (i+1)=(e*31+b[i].toNat) % P:=by rw[u.o,<- j.out,ab]
    have z:CB b a (i+1)<P:=o.o _;have k:=A8 x;have p:=A8 z;have E:¬ (P:Int)=0:=kX;go_wp2_with fail;go_quiet (first
     | (go_at_call 45
        exact eP (r.o _)))
    go_wp2_with fail;refine⟨⟨i+1,CB b a (i+1),n+nq,by go_num,?_,by omega,p.o,rfl,(by rw[h.out,World.drewN_drewN]:wr.drewN nq=w.drewN (n+nq))⟩,by simp[intOf];omega⟩;rw[k.o];congr 1;rw[Int.natCast_emod];congr 1;omega
  have ad:¬ (i:Int)<(b.size:Int):=kX;have y:i=b.size:=kX;subst y;go_wp2;go_ret;exact⟨DU (by rw[j.out]),n,h.out⟩
theorem Ac7(a)(e:a<10):({data:=#[48,49,50,51,52,53,54,55,56,57]}:aA).extract a (a+1)=⟨[UInt8.ofNat (48+a)].toArray⟩:=by
 have b:a=0\/a=1\/a=2\/a=3\/a=4\/a=5\/a=6\/a=7\/a=8\/a=9:=kX;rcases b with rfl|rfl|rfl|rfl|rfl|rfl|rfl|rfl|rfl|rfl<;>rfl
theorem Adi(k)(a:k<16):({data:=#[48,49,50,51,52,53,54,55,56,57,97,98,99,100,101,102]}:aA).extract k (k+1)=⟨[F4 k].toArray⟩:=by
 exact g2
theorem Aby(n):(EY n).length<=n+1:=by
 unfold EY;rw[fM];induction n using Nat.strongRecOn with
 | _ n b=>
  by_cases a:n<10;rw[iR a];omega;rw[Lib.nDigits_big a];have:=b (n / 10) kX;omega
def R4(m:Nat):aD UInt8:=if m=0 then[]else EY m
theorem Pl(n):EY n=R4 (n / 10)++[UInt8.ofNat (48+n % 10)]:=by
 unfold EY R4;rw[Lib.decDigits];by_cases a:n<10;rw[dif_pos a,aF kX,show n % 10=n by omega];rfl;rw[dif_neg a,aC kX];rfl
theorem Wm(n)(a:n≠0):R4 n=R4 (n / 10)++[UInt8.ofNat (48+n % 10)]:=by
 rw[show R4 n=EY n by unfold R4;rw[aC a]];exact Pl n
theorem OK(n:Nat)(A:n<4294967296)(w:aE):
 Calls prog 168 #[I0 n] w fun k w'=>k=.returned (.string ⟨(EY n).toArray⟩)/\∃ m,w'=w.drewN m:=by
 have e:=Ac7 (n % 10) kX;have g:=A8 (Pl n);go_enter func168,ntmps168;go_wp2_with fail;rw[e];have h:=A8 (Aby n);go_loopw [0,4] (fun b u wr=>∃ (m:Nat) (t:aD UInt8),b=I0 m/\u=.string ⟨t.toArray⟩/\m<=4294967296/\Hid (EY n=R4 m++t)/\wr=w) (fun b _ _=>(intOf b).toNat)
 case atStart=>exact⟨n / 10,[UInt8.ofNat (48+n % 10)],by go_num,rfl,by omega,g,rfl⟩
 case round=>
  obtain⟨m,t,rfl,rfl,z,a,rfl⟩:=hrel;have p:t.length<=4294967297:=by
   have o:=gI List.length a.out;rw[aR]at o;have x:=h.o;omega
  by_cases h0:m=0
  . subst h0;go_wp2;go_ret;refine⟨?_,0,rfl⟩;rw[a.out];rfl
  have e:=Ac7 (m % 10) kX;have B:(0:Int)<(m:Int):=kX;have j:=Aa (show EY n=R4 (m / 10)++(UInt8.ofNat (48+m % 10)::t)by rw[a.out,Wm m h0];simp);have E:(⟨t.toArray⟩:aA).size<=4294967297:=by rw[Cv];exact p
  have f:Hid ((⟨[UInt8.ofNat (48+m % 10)].toArray⟩:aA)++⟨t.toArray⟩=⟨(UInt8.ofNat (48+m % 10)::t).toArray⟩):=DQ _ _;generalize y:(⟨t.toArray⟩:aA)=v at*;generalize hu:UInt8.ofNat (48+m % 10)=r at*;go_wp2_with fail;exact⟨⟨m / 10,r::t,by go_num,by rw[f.o],by omega,j,trivial⟩,by simp[intOf];omega⟩
def KF(s:aA)(a:Nat):aD UInt8:=(List.range a).flatMap fun i=>[F4 (bn s i / 16),F4 (bn s i % 16)]
theorem Px(s a):KF s (a+1)=KF s a++[F4 (bn s a / 16),F4 (bn s a % 16)]:=by simp[KF,gN]
theorem YI(s a):(KF s a).length=2*a:=by
 induction a with
 | zero=>rfl
 | succ a b=>rw[Px,aR,b];simp;omega
theorem Ack{a b}(e:a=b):Ending.returned (.string a)=.returned (.string b):=by rw[e]
theorem Wa(a):CE a=(34::KF a a.size)++[34]:=by simp[CE,KF]
theorem J1(b)(r:b.size<=4000)(w):
 Calls prog 166 #[.string b] w fun j w'=>j=.returned (.string ⟨(CE b).toArray⟩)/\∃ m,w'=w.drewN m:=by
 have g:=A8 (Wa b);go_enter func166,ntmps166;go_wp2;go_loopw [4,5] (fun o e wr=>∃ (i n:Nat),e=I0 i/\o=.string ⟨(34::KF b i).toArray⟩/\i<=b.size/\Hid (wr=w.drewN n)) (fun _ e _=>b.size-(intOf e).toNat)
 case atStart=>exact⟨0,0,rfl,rfl,by omega,(rfl:w=w.drewN 0)⟩
 case round=>
  obtain⟨i,n,rfl,rfl,v,f⟩:=hrel;have x:(⟨(34::KF b i).toArray⟩:aA).size=1+2*i:=by rw[Cv,aX,YI];omega
  by_cases av:i<b.size
  . refine lg ?_;intro ad ac ab ae;have y:=Adi (b[i].toNat / 16) kX;have z:=Adi (b[i].toNat % 16) kX;have a:=Aa (show(⟨(34::KF b i).toArray⟩:aA)++⟨[F4 (b[i].toNat / 16)].toArray⟩++⟨[F4 (b[i].toNat % 16)].toArray⟩=⟨(34::KF b (i+1)).toArray⟩by
     rw[DQ,DQ,Px,<- ab];simp)
    generalize(⟨(34::KF b i).toArray⟩:aA)=h at*;generalize u:b[i].toNat=p at*;go_wp2_with fail;go_quiet (fail);go_wp2_with fail;exact⟨⟨i+1,n+nq,by go_num,by rw[<- a.o],by omega,(by rw[f.out,World.drewN_drewN]:wr.drewN nq=w.drewN (n+nq))⟩,by simp[intOf];omega⟩
  have ad:¬ (i:Int)<(b.size:Int):=kX;have k:i=b.size:=kX;subst k;have a:=Aa (show(⟨(34::KF b b.size).toArray⟩:aA)++⟨[34].toArray⟩=⟨(CE b).toArray⟩by rw[DQ,g.o]);generalize(⟨(34::KF b b.size).toArray⟩:aA)=h at*;go_wp2;go_ret;exact⟨Ack a.o,n,f.out⟩
theorem V4(a m):Mm a (m+1)=Mm a m+bn a m*256 ^ m:=rfl
theorem Za(b)(o:b.size<=4)(w):
 Calls prog 167 #[.string b,.bool false] w fun h w'=>h=.returned (I0 ((hiV b b.size:Nat):Int))/\w'=w:=by
 go_enter func167,ntmps167;go_wp2;go_loopw [5,6,7] (fun k f _ wr=>∃ (i a:Nat),f=I0 i/\k=I0 a/\i<=b.size/\Hid (a=hiV b i)/\wr=w) (fun _ f _ _=>b.size-(intOf f).toNat)
 case atStart=>exact⟨0,0,rfl,rfl,by omega,(rfl:(0:Nat)=hiV b 0),rfl⟩
 case round=>
  obtain⟨i,a,rfl,rfl,p,e,rfl⟩:=hrel;by_cases av:i<b.size
  . refine lg ?_;intro ad ac ab ae;have r:a<16777216:=by have:=Qo b i;have:=JK i kX;have:=e.out;omega
    have g:=Aa (show 256*a+b[i].toNat=hiV b (i+1)by rw[hiV,<- e.out,ab];omega);go_wp2_with fail;exact⟨⟨i+1,256*a+b[i].toNat,by go_num,by go_num,by omega,g,trivial⟩,by simp[intOf];omega⟩
  have ad:¬ (i:Int)<(b.size:Int):=kX;have j:i=b.size:=kX;subst j;go_wp2;go_ret;exact⟨DU (by rw[e.out]),rfl⟩
theorem X0(a)(A:a.size<=4)(w):
 Calls prog 167 #[.string a,.bool true] w fun k w'=>k=.returned (I0 ((Mm a a.size:Nat):Int))/\w'=w:=by
 go_enter func167,ntmps167;go_wp2;go_loopw [5,6,7] (fun z e _ wr=>∃ (i b m:Nat),e=I0 i/\z=I0 b/\i+m=a.size/\b<256 ^ i/\Hid (b*256 ^ m+Mm a m=Mm a a.size)/\wr=w) (fun _ e _ _=>a.size-(intOf e).toNat)
 case atStart=>exact⟨0,0,a.size,rfl,rfl,by omega,by simp,(by simp:0*256 ^ a.size+Mm a a.size=Mm a a.size),rfl⟩
 case round=>
  obtain⟨i,b,m,rfl,rfl,E,K,g,rfl⟩:=hrel;by_cases I:i<a.size
  . have u:(i:Int)<(a.size:Int):=by omega
    obtain⟨m,rfl⟩:∃ y,m=y+1:=⟨m-1,by omega⟩;have x:m<a.size:=kX;have p:=Aa (Cs a m x);have f:bn a m=a[m].toNat:=by have:=F0 a m;rw[p.out]at this;omega
    have B:a[m].toNat<256:=by rw[<- f];exact LC a m
    have J:b<16777216:=by have:=JK i kX;omega
    have j:=Aa (show(256*b+a[m].toNat)*256 ^ m+Mm a m=Mm a a.size by
     rw[<- g.out,V4,f,fC,gJ,Nat.mul_assoc];have:256*(b*256 ^ m)=b*(256 ^ m*256):=by rw[dB 256,Nat.mul_assoc]
     omega)
    have h:=Aa (show 256*b+a[m].toNat<256 ^ (i+1)by rw[fC];omega);have F:(a.size:Int)-1-(i:Int)=(m:Int):=kX;go_wp2_with fail;exact⟨⟨i+1,256*b+a[m].toNat,m,by go_num,by go_num,by omega,h.o,j,trivial⟩,by simp[intOf];omega⟩
  have u:¬ (i:Int)<(a.size:Int):=kX;have r:i=a.size:=kX;have v:m=0:=kX;subst r;subst v;have o:b=Mm a a.size:=by have:=g.out;simpa[Mm]using this
  go_wp2;go_ret;subst o;exact⟨rfl,rfl⟩
theorem Pd(e a)(g:a.size<=4)(b)(f:b=(e.c==108||e.c==107))(w):
 Calls prog 167 #[.string a,.bool b] w fun h w'=>h=.returned (I0 ((Ie e a:Nat):Int))/\w'=w:=by
 unfold Ie
 cases b
 rw[aC (by simpa using f.symm)];exact Za a g w;rw[aF (by simpa using f.symm)];exact X0 a g w
abbrev mS(h:PLift q->p:=by
 intro aa;have ab:Ac ((w.alloc (.cells (AA st g n j) 140)).alloc (.cells X_2 140)) b (pgC r bs k N v e) 136:=Ac.alloc (Ac.alloc af.o _) _;revert ab;exact aa.1):p:=h ⟨z⟩
theorem Xy{p:Prop}(a:p):Hid p:=a
def AA(st:PS)(b n a:Nat):Array aI:=(X_0 st.pl st.en b n n a st.Af)
def pgC(f:Nat)(bs:aA)(e N b a:Nat):Array aI:=#[P0 f,.string bs,I0 e,I0 N,I0 b,I0 a]
def FW(w:aE)(g f:Nat)(bs:aA)(e N b a:Nat):Prop:=Ac w g (pgC f bs e N b a) 136
def EI(st:PS)(e n a:Nat)(t:aD UInt8)(b:Bool):Ending:=.returned (.tuple #[.agg (AA st e n a),.string ⟨t.toArray⟩,.bool b])
theorem CH(w a v bs)(u N g r f:Nat)(st:PS)(k n j:Nat)(h:FW w a v bs u N g r):
 Calls prog 164 #[P0 a,.agg (AA st k n j),I0 f] w fun y w'=>y=EI st k n j [] false/\FW w' a v bs u N (max g f) r/\Fr w.heap.size a w w':=by
 have E:=h.lt;have F:¬ w.heap.size=a:=kX;have I:¬ w.heap.size+1=a:=kX;have A:∀ b e,((w.alloc b).alloc e).cell? (A0 a 4)=some (I0 g):=fun b e=>(Ac.alloc (Ac.alloc h b) e).cell 4
 have B:∀ b e,((w.alloc b).alloc e).frozen? (A0 a 4)=false:=fun b e=>(Ac.alloc (Ac.alloc h b) e).frozen 4
 have p:=Xy h;clear h;unfold AA;by_cases x:g<f
 . have z:(g:Int)<(f:Int):=by omega
   have o:=Xy (Nat.max_eq_right (hM x));go_enter func164,ntmps164;go_wp2;refine aT (v:=.tuple (X_5 (AA st k n j) (⟨#[]⟩))) (by simp[results,results164,go_sem,AA]) rfl ?_;refine⟨rfl,?_,?_⟩;rw[o.o];exact Ac.alloc (Ac.alloc (p.o.set 4 (I0 f)) _) _;exact(((Fr.refl w.heap.size a w).setCell (Or.inl rfl) _).alloc (by simp[World.setCell]) _).alloc (by simp[World.setCell]) _
 have z:¬ (g:Int)<(f:Int):=kX;have o:=Xy (Nat.max_eq_left (eZ x));go_enter func164,ntmps164;go_wp2;refine aT (v:=.tuple (X_5 (AA st k n j) (⟨#[]⟩))) (by simp[results,results164,go_sem,AA]) rfl ?_;refine⟨rfl,?_,?_⟩;rw[o.o];exact Ac.alloc (Ac.alloc p.o _) _;exact((Fr.refl w.heap.size a w).alloc kY _).alloc kY _
theorem OM{w b a t}(e:Ac w b a t)(n):Ac (w.drewN n) b a t:=e
def G1(N e:Nat)(st:PS)(b n a:Nat)(t:aD UInt8):Ending × Nat:=
 if st.Af=N then(EI st b n a [] false,7)else(EI {st with Af:=st.Af+1} b n a t true,e)
theorem Dd(w b r bs k N v e st g n j t)(h:FW w b r bs k N v e)(E:N<=10000)(K:st.Af<=N):
 Calls prog 165 #[P0 b,.agg (AA st g n j),.string ⟨t.toArray⟩] w fun x w'=>x=(G1 N e st g n j t).1/\FW w' b r bs k N v (G1 N e st g n j t).2/\Fr w.heap.size b w w':=by
 have F:=h.lt;have I:¬ w.heap.size=b:=kX;have J:¬ w.heap.size+1=b:=kX;have z:∀ a f,((w.alloc a).alloc f).cell? (A0 b 3)=some (I0 N):=fun a f=>(Ac.alloc (Ac.alloc h a) f).cell 3
 have A:∀ a f,((w.alloc a).alloc f).cell? (A0 b 5)=some (I0 e):=fun a f=>(Ac.alloc (Ac.alloc h a) f).cell 5
 have B:∀ a f,((w.alloc a).alloc f).frozen? (A0 b 5)=false:=fun a f=>(Ac.alloc (Ac.alloc h a) f).frozen 5
 have af:=Xy h;clear h;by_cases o:st.Af=N
 . have y:((st.Af:Int)==(N:Int))=true:=by simp;omega
   have p:=Xy (p:=G1 N e st g n j t=(EI st g n j [] false,7)) (by unfold G1;rw[aF o]);clear o;rw[p.o];unfold AA;go_enter func165,ntmps165;go_wp2_with fail;go_quiet (fail);go_wp2;refine aT (v:=.tuple (X_5 (AA st g n j) (⟨#[]⟩))) (by simp[results,results165,go_sem,AA]) rfl ?_;refine⟨rfl,?_,?_⟩;refine mS ?_;intro ab;have u:=(((((((OM ab nq).set 5 (I0 7)).Ad (A0 (w.heap.size+1) 0) lB (I0 st.pl)).Ad (A0 (w.heap.size+1) 1) lB (I0 st.en)).Ad (A0 (w.heap.size+1) 2) lB (S0 g n n)).Ad (A0 (w.heap.size+1) 3) lB (S0 j 8 8)).Ad (A0 (w.heap.size+1) 4) lB (I0 st.Af));exact u;have ab:=(((Fr.refl w.heap.size b w).alloc (aB _) (.cells (AA st g n j) 140)).alloc kY (.cells X_2 140)).drewN nq;exact(((((ab.setCell (p:=(A0 b 5)) (Or.inl rfl) _).setCell (p:=(A0 (w.heap.size+1) 0)) (Or.inr (eW _)) _).setCell (p:=(A0 (w.heap.size+1) 1)) (Or.inr (eW _)) _).setCell (p:=(A0 (w.heap.size+1) 2)) (Or.inr (eW _)) _).setCell (p:=(A0 (w.heap.size+1) 3)) (Or.inr (eW _)) _).setCell (p:=(A0 (w.heap.size+1) 4)) (Or.inr (eW _)) _
 have y:((st.Af:Int)==(N:Int))=false:=lA;have p:=Xy (p:=G1 N e st g n j t=(EI {st with Af:=st.Af+1} g n j t true,e)) (by unfold G1;rw[aC o]);have L:st.Af<=10000:=kX;clear o;rw[p.o];unfold AA;go_enter func165,ntmps165;go_wp2_with fail;go_quiet (fail);go_wp2;refine aT (v:=.tuple #[.agg (AA {st with Af:=st.Af+1} g n j),.string ⟨t.toArray⟩,.bool true]) (by simp[results,results165,go_sem,AA]) rfl ?_;refine⟨rfl,?_,?_⟩;refine mS ?_;intro ab;have u:=(((((((OM ab nq).Ad (A0 w.heap.size 4) lB (I0 (st.Af+1))).Ad (A0 (w.heap.size+1) 0) lB (I0 st.pl)).Ad (A0 (w.heap.size+1) 1) lB (I0 st.en)).Ad (A0 (w.heap.size+1) 2) lB (S0 g n n)).Ad (A0 (w.heap.size+1) 3) lB (S0 j 8 8)).Ad (A0 (w.heap.size+1) 4) lB (I0 (st.Af+1)));exact u;have ab:=(((Fr.refl w.heap.size b w).alloc (aB _) (.cells (AA st g n j) 140)).alloc kY (.cells X_2 140)).drewN nq;exact(((((ab.setCell (p:=(A0 w.heap.size 4)) (Or.inr (aB _)) _).setCell (p:=(A0 (w.heap.size+1) 0)) (Or.inr (eW _)) _).setCell (p:=(A0 (w.heap.size+1) 1)) (Or.inr (eW _)) _).setCell (p:=(A0 (w.heap.size+1) 2)) (Or.inr (eW _)) _).setCell (p:=(A0 (w.heap.size+1) 3)) (Or.inr (eW _)) _).setCell (p:=(A0 (w.heap.size+1) 4)) (Or.inr (eW _)) _
theorem h3(h:p:=by
 rcases ak k ae with a|⟨q',g,a,b,c,e⟩;exact Or.inl a;exact Or.inr ⟨q',g,a,b,aj q' g b c,e⟩):p:=h
theorem jm(h:p:=by
 go_wp2_with (refine Gb rfl _ _ rfl o d ba (by rw[a.o];rfl) rfl ?_);go_roundw
 case rel=>exact⟨d+1,by go_num,by omega,an,y⟩
 case measure=>simp[intOf];omega):p:=h
abbrev mY(h:PLift q->p:=by
 intro aa;obtain⟨_,af,ad⟩:=h.sc o rfl;have ap:∀ k,k<j->w'.heap[k]? = w.heap[k]? := fun k ae=>ah.block k (by have:=h.hb;omega) kX
 have aj:∀ q' g,q'<j->Am w q' g->Am w' q' g:=fun q' g ab ac=>by unfold Am Ac at*;rw[ap q' ab];exact ac
 have ai:=h.Yb.fr (B:=j) (rb:=f) ⟨ah.os,ah.tape,ah.output,by rw[ah.size];omega,fun k ae _=>ap k ae⟩ (by have:=h.hb;have:=h.pos;omega) h.pos;rename_i bp;revert bp af ad ap aj ai;exact aa.1):p:=h ⟨z⟩
def ScM(f:Nat)(w:aE)(g:Nat)(b:Sc):Prop:=
 ∃ a,GY w g a b.us/\∀ d,d<8->(a d=none/\b.hid d=none)\/∃ q e,a d=some q/\q<f/\Am w q e/\b.hid d=some e.EZ
structure WS (B0 bb:Nat) (o:aM Nat) (q:Sc × (Int × Bool)) (w:aE):Prop where
 bd:Et w bb q.2
 sc:∀ sb,o=some sb->ScM B0 w sb q.1/\sb≠bb/\B0<=sb
 hb:B0<=bb
 Yb:Eu w
 pos:0<B0
structure KD (bb:Nat) (o:aM Nat) (w w':aE):Prop where
 os:w'.os=w.os
 tape:w'.tape=w.tape
 output:w'.output=w.output
 size:w.heap.size<=w'.heap.size
 block:∀ k,k<w.heap.size->k≠bb->o≠some k->w'.heap[k]? = w.heap[k]?
theorem KD.refl(a o w):KD a o w w:=⟨rfl,rfl,rfl,aB _,fun _ _ _ _=>rfl⟩
theorem KD.trans{e o f b c}(h:KD e o f b)(a:KD e o b c):KD e o f c:=
 ⟨a.os.trans h.os,a.tape.trans h.tape,a.output.trans h.output,bQ h.size a.size,fun i k g j=>(a.block i Fu g j).trans (h.block i k g j)⟩
theorem KD.below{b B0 f w w'}(a:KD b f w w')(o:B0<=b)(j:∀ g,f=some g->B0<=g)(k:B0<=w.heap.size):Below B0 w w':=
 ⟨a.os,a.tape,a.output,a.size,fun e p=>a.block e kX kX (fun h=>by have:=j e h;omega)⟩
theorem Df.frW{b w w'}(a:Df b w w')(g):KD b g w w':=⟨a.os,a.tape,a.output,by rw[a.size];omega,fun f _ e _=>a.block f e⟩
theorem DG.frW{b e w w'}(a:DG b e w w'):KD b (some e) w w':=⟨a.os,a.tape,a.output,by rw[a.size];omega,fun j _ g h=>a.block j g (fun f=>h (by rw[f]))⟩
theorem KD.Aev{b f w w1 w2}(h:KD b none w w1)(a:KD b (some f) w1 w2)(o:w.heap.size<=f):KD b none w w2:=
 ⟨a.os.trans h.os,a.tape.trans h.tape,a.output.trans h.output,bQ h.size a.size,fun i k e j=>(a.block i Fu e (fun g=>by simp at g;omega)).trans (h.block i k e j)⟩
structure Ls (x:It):Prop where
 st:(IU x.c==3)=(x.c==40)
 hid:RT (IU x.c)=Ae x.c
 use:∃ j:Nat,j<15/\IU x.c=(j:Int)/\Afb j=AN x.c
 B9:Vo (IU x.c)=AY [119,64,115] x.c
 dep:Ae x.c=true\/AN x.c=true->kD x.c=true/\0<=x.d/\x.d<8
theorem H6.Jh{a w j g k e}(b:H6 a w j g k e):I4 e:=by
 cases a with
 | zero=>exact b.elim
 | succ a=>obtain⟨o,p,r,f,h,_⟩:=b;exact⟨o,_,f,h⟩
theorem PI(a:aD (Nat × aD It))(e:∀ q,q∈a->I4 q.2):segs (a.flatMap Prod.snd).length (a.flatMap Prod.snd)=a.map Prod.snd:=by
 have b:a.flatMap Prod.snd=(a.map Prod.snd).flatten:=by rw[hD]
 rw[b];exact G7 _ (fun s g=>by obtain⟨q,f,rfl⟩:=dF.1 g;exact e q f) _ (aB _)
def VF(h:Nat):Prop:=
 ∀ w r j k f g a q b e,H6 h w r j k f->j<=b->b<=w.heap.size->WS b e a q w->(∀ o,o∈f->Ls o)->f.length<=1000->(g=true->a.isSome=true)->
  Calls prog 61 #[P0 e,P0 k,BJ (if g then a else none),BJ a] w fun p w'=>
   p=.returned (.tuple #[])/\WS b e a (walkV h g a.isSome f q) w'/\KD e a w w'
def DZ(b:Nat)(f a:Bool)(e:aD (Nat × aD It))(q:Sc × (Int × Bool)):Sc × (Int × Bool):=(e.map Prod.snd).foldl (fun g s=>walkV b f a s g) q
theorem NU(b e a)(g:aD (Nat × aD It))(f:Nat × aD It)(q:Sc × (Int × Bool)):DZ b e a (g++[f]) q=walkV b e a f.2 (DZ b e a g q):=by
 simp[DZ]
theorem ScM.fr{e w w' a g}(f:ScM e w a g)(hb:Below e w w')(v:w'.heap[a]? = w.heap[a]?):ScM e w' a g:=by
 obtain⟨u,k,o⟩:=f;refine⟨u,?_,fun d r=>?_⟩;unfold GY Ac at*;rw[v];exact k;rcases o d r with f|⟨q,p,h,b,c,j⟩;exact Or.inl f;refine Or.inr ⟨q,p,h,b,?_,j⟩;unfold Am Ac at*;rw[hb.block q b];exact c
theorem Adf(b:Nat->aM Nat)(a:Nat)(e:a<8)(w:aE):(Instr.index 254 (.agg #[BJ (b 0),BJ (b 1),BJ (b 2),BJ (b 3),BJ (b 4),BJ (b 5),BJ (b 6),BJ (b 7)]) (I0 a)).run prog w=.ok (BJ (b a)) w:=by
 have ab:a=0\/a=1\/a=2\/a=3\/a=4\/a=5\/a=6\/a=7:=kX;exact DI
theorem Gb{ops}{rest}{f}{b}{w}{Q:Exit->Act->aE->Prop}(o:f.guard=none)(g h:Operand)(r:f.op=.index 254 g h)(a:Nat->aM Nat)(e:Nat)(p:e<8)(u:b.eval g=.agg #[BJ (a 0),BJ (a 1),BJ (a 2),BJ (a 3),BJ (a 4),BJ (a 5),BJ (a 6),BJ (a 7)])(v:b.eval h=I0 e)(j:wpList prog ops Q rest (b.put f.dst (BJ (a e))) w):wpList prog ops Q (f::rest) b w:=
 iN o fun _ k=>by
  unfold Oper.wp execOp;simp only[r,u,v,Adf a e p,fY,fO,gV];exact k _ _ j
theorem Hy(l:aD (Nat × aD It))(q:Nat × aD It)(h:q∈l):q.2.length<=(l.flatMap Prod.snd).length:=by
 exact jj
theorem Q7(v)(bi:VF v)(w)(au F Y)(_x:It)(e:aD (Nat × aD It))(ax)(q:Sc × (Int × Bool))(u h)(_hpb:Y<F)(ch:F<=u)(cb:u<=w.heap.size)(a8:Am w Y ax)(ar:BZ w au F ax.v (e.map Prod.fst))(V:∀ b,b∈e->H6 v w au F b.1 b.2)(ao:∀ a2,a2∈e.flatMap Prod.snd->Ls a2)(cj:(e.flatMap Prod.snd).length<=1000)(z:WS u h none q w):
 Calls prog 99 #[P0 h,P0 Y] w fun j w'=>
  j=.returned (.tuple #[])/\WS u h none (q.1,Sa (DZ v true true e (FN,q.2)).1 (DZ v true true e (FN,q.2)).2) w'/\KD h none w w':=by
 obtain⟨K,aq,ae,ak⟩:∃ K aq,ax.v=.slice K (e.map Prod.fst).length aq/\(∀ f,f<(e.map Prod.fst).length->∃ g,K=some (A0 g 0)/\g<u/\w.cell? (A0 g f)=some (P0 ((e.map Prod.fst).getD f 0))):=by
  exact ji
 rw[cM]at ae;have a4:∀ aw,(w.alloc aw).cell? (A0 Y 8)=some (.slice K e.length aq):=fun aw=>by rw[<- ae];exact(Ac.alloc a8 aw).cell 8
 have cs:=z.bd.lt;have J:Hid (WS u h (some w.heap.size) (FN,q.2) (w.alloc (.cells (FP (fun _=>none) (fun _=>false)) 256))):=by
  refine⟨Ac.alloc z.bd _,fun r j=>?_,z.hb,z.Yb.fr (rb:=w.heap.size) (B:=w.heap.size) ((Fr.refl _ _ _).alloc (aB _) _) (by have:=z.pos;omega) (by have:=z.pos;omega),z.pos⟩;simp at j;subst j;exact⟨⟨fun _=>none,Ac.new _ _ _,fun d _=>Or.inl ⟨rfl,rfl⟩⟩,by omega,cb⟩
 have Z:Hid (KD h none w (w.alloc (.cells (FP (fun _=>none) (fun _=>false)) 256))):=⟨rfl,rfl,rfl,by simp,fun bj ci _ _=>bC _ _ _ ci⟩;have cv:e.length<=1000:=by
  have k:e.length<=(e.flatMap Prod.snd).length:=by
   clear ak ae a4 J Z ar ao cj;induction e with
   | nil=>simp
   | cons b t co=>
    obtain⟨a2,cy,j,_⟩:=(V b aG).Jh;have:=co (fun b B=>V b (aH _ B));simp only[bY,aR,aX,j];omega
  omega
 have br:=Aa bi;have bu:=Aa V;have bv:=Aa ao;have bo:=Aa ak;have a6:=z.hb;have cl:=z.pos;clear bi V ao ak ae ar a8 z;go_enter func99,ntmps99;go_wp2_with fail;simp only[FP,BJ,hT]at J Z;generalize cc:w.alloc (.cells #[.pointer none,.pointer none,.pointer none,.pointer none,.pointer none,.pointer none,.pointer none,.pointer none,.bool false,.bool false,.bool false,.bool false,.bool false,.bool false,.bool false,.bool false] 256)=b2 at*;clear cc a4;generalize bg:w.heap.size=r at*;have af:=Aa bg;clear bg;go_loopw [14] (fun az wr=>∃ f:Nat,az=I0 f/\f<=e.length/\Hid (WS u h (some r) (DZ v true true (e.take f) (FN,q.2)) wr)/\Hid (KD h none w wr)/\Hid (r<wr.heap.size)) (fun az _=>e.length-(intOf az).toNat)
 case atStart=>exact⟨0,rfl,by omega,J,Z,(by obtain⟨⟨o,k,_⟩,_⟩:=J.o.sc r rfl;exact Ac.lt k:r<b2.heap.size)⟩
 case round=>
  obtain⟨f,rfl,ad,O,U,cn⟩:=hrel;have cx:=cn.out;have cf:=U.out.size;rw[af.o]at cf;by_cases av:f<e.length
  . obtain⟨g,rfl,cg,p⟩:=bo.o f Bn;have cu:(f:Int)<(e.length:Int):=kX;have X:=aU av;have bf:(e.map Prod.fst).getD f 0=e[f].1:=by rw[A3 _ _ _ Bn];simp
    rw[bf]at p;have a7:=U.out.below (B0:=u) a6 (fun _ j=>by cases j) (by rw[af.o];omega);have cd:wr.cell? (A0 g f)=some (P0 (e[f].1)):=by
     rw[a7.cell (p:=(A0 g f)) cg];exact p
    have a9:=(bu.o _ X).mono (w':=wr) (fun bj k L=>a7.block bj kX) (aB _) (aB _);have bd:e[f].2.length<=1000:=by have k:=Hy e _ X;omega
    have be:∀ b,b∈e[f].2->b∈e.flatMap Prod.snd:=fun b B=>cI.2 ⟨_,X,B⟩
    have a3:=Aa (br.o wr au F _ _ true (some r) _ u h a9 ch kX O.out (fun b B=>bv.o b (be b B)) bd (fun _=>rfl));have b0:=Aa (show walkV v true true e[f].2 (DZ v true true (e.take f) (FN,q.2))=DZ v true true (e.take (f+1)) (FN,q.2)by
     rw[bN av,NU])
    clear p bf a9 be bd O X;generalize e[f]=b at*;go_wp2_with fail;have aj:=a3.o;simp only[BJ,dU,cO,Option.isSome_some]at aj;refine aj.mono ?_;rintro j cp⟨rfl,ap,am⟩;rw[b0.o]at ap;have aa:=Aa ap;have ab:=Aa (U.out.Aev am (by rw[af.o];exact aB _));have cw:=am.size;clear aj a3 ap am cd;simp only;go_wp2;go_roundw
    case rel=>exact⟨f+1,by go_num,by omega,aa,ab,(by omega:r<cp.heap.size)⟩
    case measure=>simp[intOf];omega
  have I:Hid (WS u h (some r) (DZ v true true e (FN,q.2)) wr):=by
   have E:=O.out;rw[bV kX]at E;exact E
  clear O;generalize B:DZ v true true e (FN,q.2)=b at*;have b1:=Aa B;clear B;obtain⟨⟨o,x,al⟩,cm,_⟩:=I.o.sc r rfl;have b3:=x.c0;have b4:=x.c1;have b5:=x.c2;have b6:=x.c3;have b7:=x.c4;have b8:=x.c5;have b9:=x.c6;have ca:=x.c7;have bz:=Aa x;have bp:=Aa al;clear x al;go_wp2_with fail;generalize a5:#[BJ (o 0),BJ (o 1),BJ (o 2),BJ (o 3),BJ (o 4),BJ (o 5),BJ (o 6),BJ (o 7)]=cr at*;have a:=Aa a5;clear a5 b3 b4 b5 b6 b7 b8 b9 ca;go_loopw [24] (fun a1 A=>∃ f:Nat,a1=I0 f/\f<=8/\Hid (Et A h ((List.range f).foldl (endStep b.1) b.2))/\Hid (Df h wr A)) (fun a1 _=>8-(intOf a1).toNat)
  case atStart=>exact⟨0,rfl,by omega,I.o.bd,Df.refl _ _⟩
  case round=>
   rename aE=>A
   obtain⟨d,rfl,al,S,y⟩:=hrel;by_cases ba:d<8
   . have ct:(d:Int)<8:=by omega
     have bh:GY A r o b.1.us:=Ac.same bz.o y.out cm;have ah:A.cell? (A0 r (8+d))=some (.bool (b.1.us d)):=by rw[Ac.cell bh (8+d)];exact(J0 o b.1.us d ba).2
     have ac:=Aa (show(List.range (d+1)).foldl (endStep b.1) b.2=endStep b.1 ((List.range d).foldl (endStep b.1) b.2) d by rw[gN,dK];rfl);have ce:=bp.o d ba;clear bh;rcases ce with⟨k,L⟩|⟨q',ay,k,L,ai,M⟩;have ck:BJ (o d)=.pointer none:=by rw[k];rfl
     have an:=Aa (show Et A h ((List.range (d+1)).foldl (endStep b.1) b.2)by rw[ac.o];unfold endStep;rw[L];exact S.out);clear k L;exact jm
     . have ck:BJ (o d)=P0 q':=by rw[k];rfl
       cases hu:b.1.us d
       . rw[hu]at ah;have bx:Hid (Am A q' ay):=Ac.same ai y.out kX;have an:=Aa (show(List.range (d+1)).foldl (endStep b.1) b.2=bw ((List.range d).foldl (endStep b.1) b.2) ay.EZ by rw[ac.o];unfold endStep;rw[M,hu];rfl);clear k ai M hu;go_wp2_with (refine Gb rfl _ _ rfl o d ba (by rw[a.o];rfl) rfl ?_);refine(ES A h q' _ ay S.out bx.out kX).mono ?_;rintro j cq⟨rfl,bk,bl⟩;have aa:=Aa (show Et cq h ((List.range (d+1)).foldl (endStep b.1) b.2)by rw[an.o];exact bk);have ab:=Aa (y.out.trans bl);clear bk bl ah;simp only;go_wp2;go_roundw
         case rel=>exact⟨d+1,by go_num,by omega,aa,ab⟩
         case measure=>simp[intOf];omega
       rw[hu]at ah;have an:=Aa (show Et A h ((List.range (d+1)).foldl (endStep b.1) b.2)by rw[ac.o];unfold endStep;rw[M,hu];exact S.out);clear k ai M hu;exact jm
   have bm:Hid (Et A h (Sa b.1 b.2)):=by
    have E:=S.out;rw[show d=8 by omega]at E;exact E
   have bq:=Aa (U.out.trans (y.out.frW none));go_wp2;go_end0;rw[b1.o];refine⟨rfl,⟨bm.o,(fun _ j=>by cases j),a6,?_,cl⟩,bq.o⟩;exact I.o.Yb.fr (B:=wr.heap.size) (y.out.fr _) kX (by have:=I.o.Yb.2;omega)
theorem WS.bdS{e f h}{q:Sc × (Int × Bool)}{w w'}{st:Int × Bool}(a:WS e f h q w)(v:e<=w.heap.size)(p:Et w' f st)(b:Df f w w'):WS e f h (q.1,st) w':=by
 have r:Below e w w':=⟨b.os,b.tape,b.output,by rw[b.size];omega,fun u x=>b.block u (by have:=a.hb;omega)⟩;refine⟨p,fun j o=>?_,a.hb,a.Yb.fr (B:=w.heap.size) (b.fr _) (by have:=a.hb;have:=a.pos;omega) (by have:=a.pos;omega),a.pos⟩;obtain⟨k,g,c⟩:=a.sc j o;exact⟨k.fr r (b.block j g),g,c⟩
theorem WS.bare{b e g}{q:Sc × (Int × Bool)}{w}(a:WS b e g q w):WS b e none q w:=⟨a.bd,(fun _ f=>by cases f),a.hb,a.Yb,a.pos⟩
theorem WS.up{f e j}{q q':Sc × (Int × Bool)}{w w'}(o:WS f e j q w)(r:f<=w.heap.size)(h:WS f e none q' w')(a:KD e none w w')(v:q'.1=q.1)(u:∀ b,j=some b->b<w.heap.size):WS f e j q' w'/\KD e j w w':=by
 refine⟨⟨h.bd,fun b g=>?_,h.hb,h.Yb,h.pos⟩,⟨a.os,a.tape,a.output,a.size,fun x y z _=>a.block x y z kY⟩⟩;obtain⟨p,k,c⟩:=o.sc b g;rw[v];exact⟨p.fr (a.below o.hb (fun _ g=>by cases g) r) (a.block b (u b g) k kY),k,c⟩
theorem WS.lt{e g b}{q:Sc × (Int × Bool)}{w}(j:WS e g b q w)(a)(h:b=some a):a<w.heap.size:=by
 obtain⟨⟨k,f,_⟩,_⟩:=j.sc a h;exact Ac.lt f
theorem Lu(a)(f:aD (Nat × aD It)):∀ q:Sc × (Int × Bool),(DZ a false false f q).1=q.1:=by
 have h:∀ (a:Nat) (s:aD It) (q:Sc × (Int × Bool)),(walkV a false false s q).1=q.1:=by
  intro a;induction a with
  | zero=>intro s q;rfl
  | succ a j=>
   intro s q
   cases s with
   | nil=>rfl
   | cons k r=>
    rw[walkV];split;rfl;have g:∀ (l:aD (aD It)) (b:Sc × (Int × Bool)),(l.foldl (fun b s=>walkV a false (false&&AY [119,64,115] k.c) s b) b).1=b.1:=by
     intro l;induction l with
     | nil=>intro b;rfl
     | cons o t e=>
      intro b;rw[dP,e];simp only[dX];exact j o b
    rw[g];unfold Dj G0 L5;split;simp;split<;>simp
 intro q;unfold DZ;induction f generalizing q with
 | nil=>rfl
 | cons p t e=>rw[bX,dP,e,h]
theorem WS.Agc{j f o u}{q:Sc × (Int × Bool)}{w w'}{r}{v}{p:Nat->aM Nat}{d}(h:WS j f (some o) q w)(_hB:j<=w.heap.size)(B:d<8)(J:r.d.toNat=d)(I:v.EZ=r.pl)(F:u<j)(K:Am w u v)(ak:∀ k,k<8->(p k=none/\q.1.hid k=none)\/∃ q' g,p k=some q'/\q'<j/\Am w q' g/\q.1.hid k=some g.EZ)(ah:DG f o w w')(L:(p d≠none/\Et w' f (bw q.2 v.EZ)/\GY w' o p q.1.us)\/(p d=none/\Et w' f q.2/\GY w' o (upO p d u) q.1.us)):WS j f (some o) (G0 true r q) w':=by
 refine mY ?_;intro _ af ad ap aj ai;rcases L with⟨x,y,z⟩|⟨x,y,z⟩;have A:(q.1.hid d).isNone=false:=by
  rcases ak d B with⟨a,_⟩|⟨q',g,a,b,c,e⟩;exact absurd a x;rw[e];rfl
 have e:G0 true r q=(q.1,XD q.2 r.pl):=by unfold G0;rw[J,A];rfl
 rw[e];refine⟨by rw[<- I];exact y,fun M e=>?_,h.hb,ai,h.pos⟩;simp at e;subst e;refine⟨⟨p,z,fun k ae=>?_⟩,af,ad⟩;exact h3;have A:(q.1.hid d).isNone=true:=by
  rcases ak d B with⟨_,a⟩|⟨q',g,a,_⟩;rw[a];rfl;rw[x]at a;cases a
 have e:G0 true r q=(⟨fun k=>if k=d then some r.pl else q.1.hid k,q.1.us⟩,q.2):=by unfold G0;rw[J,A];rfl
 rw[e];refine⟨y,fun M e=>?_,h.hb,ai,h.pos⟩;simp at e;subst e;refine⟨⟨upO p d u,z,fun k ae=>?_⟩,af,ad⟩;unfold upO;by_cases E:k=d;simp only[E,dU];exact Or.inr ⟨u,v,rfl,F,aj u v F K,by rw[I]⟩;simp only[E,cT];exact h3
theorem WS.Ag9{j f o}{q:Sc × (Int × Bool)}{w w'}{u}{B:Pt}{p:Nat->aM Nat}{d:Nat}(h:WS j f (some o) q w)(_hB:j<=w.heap.size)(y:d<8)(z:u.d.toNat=d)(J:B.EZ=u.pl)(ak:∀ k,k<8->(p k=none/\q.1.hid k=none)\/∃ q' g,p k=some q'/\q'<j/\Am w q' g/\q.1.hid k=some g.EZ)(ah:DG f o w w')(F:((p d=none\/q.1.us d=true)/\Et w' f (bw q.2 B.EZ)/\GY w' o p q.1.us)\/((p d≠none/\q.1.us d=false)/\Et w' f q.2/\GY w' o p (upB q.1.us d))):WS j f (some o) (L5 true u q) w':=by
 refine mY ?_;intro _ af ad ap aj ai;have A:∀ k,k<8->(p k=none/\q.1.hid k=none)\/∃ q' g,p k=some q'/\q'<j/\Am w' q' g/\q.1.hid k=some g.EZ:=fun k ae=>by
  exact h3
 have I:p d=none->(q.1.hid d).isNone=true:=fun a=>by
  rcases ak d y with⟨_,b⟩|⟨q',g,b,_⟩;rw[b];rfl;rw[a]at b;cases b
 have K:p d≠none->(q.1.hid d).isNone=false:=fun a=>by
  rcases ak d y with⟨b,_⟩|⟨q',g,_,_,_,b⟩;exact absurd b a;rw[b];rfl
 rcases F with⟨r,v,x⟩|⟨⟨r,E⟩,v,x⟩;have e:L5 true u q=(q.1,XD q.2 u.pl):=by
  unfold L5;rw[z];rcases r with r|r;rw[I r];rfl;rw[r];simp
 rw[e];refine⟨by rw[<- J];exact v,fun L e=>?_,h.hb,ai,h.pos⟩;simp at e;subst e;exact⟨⟨p,x,A⟩,af,ad⟩;have e:L5 true u q=(⟨q.1.hid,fun k=>if k=d then true else q.1.us k⟩,q.2):=by unfold L5;rw[z,K r,E];rfl
 rw[e];refine⟨v,fun L e=>?_,h.hb,ai,h.pos⟩;simp at e;subst e;exact⟨⟨p,x,A⟩,af,ad⟩
structure In0 (f:Nat) (w:aE) (lo hi pb:Nat) (x:It) (kids:aD (Nat × aD It)) (p:Pt) (B0 bb:Nat) (o:aM Nat) (q:Sc × (Int × Bool)):Prop where
 hpb:pb<hi
 hhi:hi<=B0
 hB:B0<=w.heap.size
 Ap:Am w pb p
 ptr:BZ w lo hi p.v (kids.map Prod.fst)
 rep:∀ z,z∈kids->H6 f w lo hi z.1 z.2
 lets:∀ y,y∈kids.flatMap Prod.snd->Ls y
 len:(kids.flatMap Prod.snd).length<=1000
 ws:WS B0 bb o q w
 it:He x p
 lx:Ls x
theorem YE(l:aD (Nat × aD It))(a:∀ q,q∈l->I4 q.2):l.length<=(l.flatMap Prod.snd).length:=by
 induction l with
 | nil=>simp
 | cons g j f=>
  obtain⟨k,t,b,_⟩:=a g aG;have h:=f (fun q e=>a q (aH _ e));simp only[bY,aR,aX,b];omega
theorem nL(h:p:=by
 rintro e w1⟨rfl,am,ab⟩;have k:=h.ws.bdS h.hB am ab;rw[aj]at k;exact⟨rfl,k,ab.frW _⟩):p:=h
theorem In0.dep{h w v p y a}{u:aD (Nat × aD It)}{b f g x}{q:Sc × (Int × Bool)}(e:In0 h w v p y a u b f g x q)(o:Ae a.c=true\/AN a.c=true):
 ∃ d:Nat,d<8/\b.dp=(d:Int)/\a.d.toNat=d/\b.EZ=a.pl:=by
 obtain⟨r,z,A⟩:=e.lx.dep o;obtain⟨j,k⟩:=e.it.dp r;exact⟨a.d.toNat,by omega,by rw[j];omega,rfl,k⟩
def UR(w:aE)(h:It)(e b:Nat)(a:aM Nat)(g:Bool)(q:Sc × (Int × Bool))(f:Ending)(w':aE):Prop:=
 f=.returned (.tuple #[])/\WS e b a (Dj g a.isSome h q) w'/\KD b a w w'
theorem Zn{x w M A j g}{L:aD (Nat × aD It)}{o p f a}{q:Sc × (Int × Bool)}(h:In0 x w M A j g L o p f a q)(b)(u:Ae g.c=true)(B:b=true->a.isSome=true):
 Calls prog 101 #[P0 f,P0 j,BJ (if b then a else none)] w (UR w g p f a b q):=by
 obtain⟨d,r,y,K,aj⟩:=h.dep (Or.inl u);have F:Dj b a.isSome g q=G0 b g q:=by unfold Dj;rw[u];rfl
 have O:=h.hpb;have S:=h.hhi;have U:=h.ws.hb;unfold UR;rw[F]
 cases b with
 | false=>
  refine(ZL w f j q.2 o h.ws.bd h.Ap kX).mono ?_;exact nL
 | true=>
  cases a with
  | none=>cases B rfl
  | some v=>
   obtain⟨⟨E,J,z⟩,I,V⟩:=h.ws.sc v rfl;refine(Xm w f j v q.2 o E q.1.us d y r h.ws.bd h.Ap J kX kX I).mono ?_;rintro e w1⟨rfl,ab,am⟩;exact⟨rfl,h.ws.Agc h.hB r K aj kX h.Ap z ab am,ab.frW⟩
theorem Abq{v w L A g b}{K:aD (Nat × aD It)}{j o f a}{q:Sc × (Int × Bool)}(h:In0 v w L A g b K j o f a q)(r)(y:Ae b.c=false)(hu:AN b.c=true):
 Calls prog 103 #[P0 f,P0 g,BJ a] w (UR w b o f a r q):=by
 obtain⟨d,p,x,J,aj⟩:=h.dep (Or.inr hu);have E:Dj r a.isSome b q=L5 a.isSome b q:=by unfold Dj;rw[y,hu];rfl
 have M:=h.hpb;have O:=h.hhi;have S:=h.ws.hb;unfold UR;rw[E]
 cases a with
 | none=>
  refine(Aav w f g q.2 j h.ws.bd h.Ap kX).mono ?_;exact nL
 | some u=>
  obtain⟨⟨B,I,z⟩,F,U⟩:=h.ws.sc u rfl;refine(Aah w f g u q.2 j B q.1.us d x p h.ws.bd h.Ap I kX kX F).mono ?_;rintro e w1⟨rfl,ab,am⟩;exact⟨rfl,h.ws.Ag9 h.hB p J aj z ab am,ab.frW⟩
theorem Zd(p)(ba:VF p)(w bb ay F h)(a:aD (Nat × aD It))(aa j g e A)(q:Sc × (Int × Bool))(b:In0 p w bb ay F h a aa j g e q)(a5:A=true->e.isSome=true)(y:(h.c==40)=false)(Z k)(z:Z=if AY [119,64,115] h.c then e else none)(ar:Z.isSome=k):
 Calls prog 61 #[P0 g,P0 F,BJ (if A then e else none),BJ e] w fun o w'=>
  o=.returned (.tuple #[])/\WS j g e (DZ p false k a (Dj A e.isSome h q)) w'/\KD g e w w':=by
 obtain⟨r,b3,K,az⟩:=b.lx.use;have a0:aa.k=(r:Int):=by rw[b.it.k];exact K
 have ce:((r:Int)==3)=false:=by rw[<- K,b.lx.st];exact y
 have bf:=Aa (show RT (r:Int)=Ae h.c by rw[<- K];exact b.lx.hid);have bi:=Aa (show Vo (r:Int)=AY [119,64,115] h.c by rw[<- K];exact b.lx.B9);have bu:=Aa az;have an:w.cell? (A0 F 0)=some (I0 r):=by rw[<- a0];exact b.Ap.cell 0
 have bg:=Aa (Zn b A);have bv:=Aa (Abq b A);have bo:=Aa (show Ae h.c=false->AN h.c=false->Dj A e.isSome h q=q from fun bz k=>by unfold Dj;rw[bz,k];rfl);have v:=Aa b;have bh:=Aa ba;have bm:=Aa a5;have bl:=Aa z;have al:=Aa ar;have cg:=b.hpb;have b2:=b.hhi;have aq:=b.hB;have au:=b.ws.hb;have bp:=Aa b.ws.Yb;have a7:∀ ab,e=some ab->j<=ab:=fun ab o=>(b.ws.sc ab o).2.2
 have am:=Aa a7;generalize a8:Dj A e.isSome h q=I at*;clear b ba y K a0 az a5 z ar a7;generalize(if A then e else none)=ch at*;go_enter func61,ntmps61;go_wp2_with fail;refine(Gi _ _).mono ?_;rintro o b6⟨rfl,f⟩;have f:=f.symm;subst f;rw[bf.o]
 cases ae:Ae h.c
 case' true=>
  simp only;go_wp2_with fail;refine(bg.o ae bm.o).mono ?_;rintro o w1⟨rfl,J,Y⟩;rw[a8]at J
 case' false=>
  simp only;go_wp2_with fail;refine(OV r b3 w bp.o).mono ?_;rintro o w1⟨rfl,f⟩;rw[bu.o]
  cases hu:AN h.c
  case' true=>
   have f:=f.symm;subst f;simp only;go_wp2_with fail;refine(bv.o ae hu).mono ?_;rintro o w1⟨rfl,J,Y⟩;rw[a8]at J
  case' false=>
   have Y:KD g e w w1:=by rw[f];exact KD.refl _ _ _
   have J:WS j g e I w1:=by rw[f,bo.o ae hu];exact v.o.ws
   clear f
 all_goals
  have bx:=Aa J;have ak:=Aa Y;clear J Y;simp only;have ai:=Aa (ak.o.below (B0:=j) au am.o aq);have bd:Hid (Am w1 F aa):=Ac.below v.o.Ap ai.o kX;have b7:w1.cell? (A0 F 0)=some (I0 r):=by rw[ai.o.cell (p:=(A0 F 0)) lA];exact an
  obtain⟨M,O,E,ax⟩:∃ M O,aa.v=.slice M (a.map Prod.fst).length O/\(∀ i,i<(a.map Prod.fst).length->∃ x,M=some (A0 x 0)/\x<j/\w.cell? (A0 x i)=some (P0 ((a.map Prod.fst).getD i 0))):=by
   rcases v.o.ptr with⟨E,a4⟩|⟨x,O,E,ca,cb,_,y⟩;exact⟨none,0,by rw[E,a4];rfl,fun r U=>by rw[a4]at U;simp at U⟩;exact⟨_,_,E,fun r U=>⟨x,rfl,by omega,y r U⟩⟩
  rw[cM]at E;have b8:w1.cell? (A0 F 8)=some (.slice M a.length O):=by rw[<- E];exact bd.o.cell 8
  have be:=Aa ax;clear ax E an;go_wp2_with fail;refine(Kj _ _).mono ?_;rintro o b6⟨rfl,f⟩;have f:=f.symm;subst f;rw[bi.o];have z:=bl.o
  cases b4:AY [119,64,115] h.c
 all_goals
  rw[b4]at z;simp only[bT,cT,dU]at z;simp only;go_wp2_with fail;have cf:a.length<=1000:=by
   have ao:=YE a (fun u L=>(v.o.rep u L).Jh);have ap:=v.o.len;omega
  go_loopw [50] (fun ah wr=>∃ i:Nat,ah=I0 i/\i<=a.length/\Hid (WS j g e (DZ p false k (a.take i) I) wr)/\Hid (KD g e w wr)) (fun ah _=>a.length-(intOf ah).toNat)
  case atStart=>exact⟨0,rfl,by omega,bx,ak⟩
  case round=>
   obtain⟨i,rfl,cc,B,S⟩:=hrel;have b9:=S.out.size;by_cases av:i<a.length
   . obtain⟨x,rfl,b1,y⟩:=be.o i Bn;have cd:(i:Int)<(a.length:Int):=kX;have V:=aU av;have a6:(a.map Prod.fst).getD i 0=a[i].1:=by rw[A3 _ _ _ Bn];simp
     rw[a6]at y;have aw:=S.out.below (B0:=j) au am.o aq;have b0:wr.cell? (A0 x i)=some (P0 (a[i].1)):=by
      rw[aw.cell (p:=(A0 x i)) b1];exact y
     have a1:=(v.o.rep _ V).mono (w':=wr) (fun b5 ao ap=>aw.block b5 kX) (aB _) (aB _);have a2:a[i].2.length<=1000:=by have ao:=Hy a _ V;have ap:=v.o.len;omega
     have a3:∀ u,u∈a[i].2->u∈a.flatMap Prod.snd:=fun u L=>cI.2 ⟨_,V,L⟩
     have a9:WS j g Z (DZ p false k (a.take i) I) wr:=by rw[z];first|exact B.out|exact B.out.bare
     have aj:=Aa (bh.o wr bb ay _ _ false Z _ j g a1 b2 kX a9 (fun u L=>v.o.lets u (a3 u L)) a2 (fun b=>by cases b));have bq:=Aa (show walkV p false k a[i].2 (DZ p false k (a.take i) I)=DZ p false k (a.take (i+1)) I by
      rw[bN av,NU])
     clear y a6 a1 a3 a2 V a9;generalize a[i]=u at*;go_wp2_with fail;have ac:=aj.o;rw[al.o,z]at ac;refine ac.mono ?_;rintro o bc⟨rfl,X,ad⟩;rw[bq.o]at X;have af:WS j g e (DZ p false k (a.take (i+1)) I) bc/\KD g e wr bc:=by
      first
      | exact⟨X,ad⟩
      | exact B.out.up kX X ad (by rw[<- al.o,z];simp only[Option.isSome_none];rw[Lu,Lu]) (fun s o=>B.out.lt s o)
     have bj:=Aa af.1;have bk:=Aa (S.out.trans af.2);clear af;clear ac aj X ad b0 B;simp only;go_wp2;go_roundw
     case rel=>exact⟨i+1,by go_num,by omega,bj,bk⟩
     case measure=>simp[intOf];omega
   have br:Hid (WS j g e (DZ p false k a I) wr):=by
    have b:=B.out;rw[bV kX]at b;exact b
   clear B;go_wp2;go_end0;exact⟨rfl,br.o,S.out⟩

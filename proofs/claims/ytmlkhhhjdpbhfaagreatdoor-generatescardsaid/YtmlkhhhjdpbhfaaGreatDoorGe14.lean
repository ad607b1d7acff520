import Derived.Shelf.Strings.BuilderK
import Derived.Test.YtmlkhhhjdpbhfaaGreatDoorGe11
import Derived.Test.YtmlkhhhjdpbhfaaGreatDoorGe12
namespace Go.Proofs.YtmlkhhhjdpbhfaaGreatDoor
open Go.RowKit Go.Proofs.Tryz
set_option maxHeartbeats 4000000
set_option maxRecDepth 100000
variable{p q:Prop}(z:q)
theorem I5:∀ a W,Sem.run prog (callFunc 121 a) W=.ok (.enter 121 a) W:=fun a W=>by
 unfold callFunc;go_simp;simp[Tryz.f121]
theorem MZ:∀ a W,Sem.run prog (callFunc 126 a) W=.ok (.enter 126 a) W:=fun a W=>by
 unfold callFunc;go_simp;simp[Tryz.f126]
theorem OH:∀ a W,Sem.run prog (callFunc 129 a) W=.ok (.enter 129 a) W:=fun a W=>by
 unfold callFunc;go_simp;simp[Tryz.f129]
theorem Oy:∀ a W,Sem.run prog (callFunc 132 a) W=.ok (.enter 132 a) W:=fun a W=>by
 unfold callFunc;go_simp;simp[Tryz.f132]
theorem LI:∀ a W,Sem.run prog (callFunc 135 a) W=.ok (.enter 135 a) W:=fun a W=>by
 unfold callFunc;go_simp;simp[Tryz.f135]
theorem Om:∀ a W,Sem.run prog (callFunc 138 a) W=.ok (.enter 138 a) W:=fun a W=>by
 unfold callFunc;go_simp;simp[Tryz.f138]
theorem Lv:∀ a W,Sem.run prog (callFunc 141 a) W=.ok (.enter 141 a) W:=fun a W=>by
 unfold callFunc;go_simp;simp[Tryz.f141]
theorem Nh:∀ a W,Sem.run prog (callFunc 146 a) W=.ok (.enter 146 a) W:=fun a W=>by
 unfold callFunc;go_simp;simp[Tryz.f146]
theorem Gh:∀ a W,Sem.run prog (callFunc 151 a) W=.ok (.enter 151 a) W:=fun a W=>by
 unfold callFunc;go_simp;simp[Tryz.f151]
theorem i6(h:p:=by
 by_cases h0:z.length=0;left;rw[h0];exact⟨rfl,_,_,rfl⟩;right;refine⟨by omega,g,c,?_,?_,by omega,?_⟩;simpa using aw;simp at af;omega;exact(fun m o=>aj m (by simpa using o):∀ m,m<z.length->w.cell? (A0 g m)=some (P0 ((z.map Prod.fst).getD m 0)))):p:=h
theorem mn(h:p:=by
 left;have:z.length=0:=by have:=gI List.length al;simpa using this
 rw[this];exact⟨rfl,_,_,rfl⟩):p:=h
theorem mo(h:p:=by
 go_wp2;go_roundw
 case rel=>exact⟨f+1,by go_num,by omega,bc,p⟩
 case measure=>simp[intOf];omega):p:=h
theorem mp(h:p:=by
 rw[aL (w:=w) (j.out.block bi kX),ah f lA];simp[ab]):p:=h
abbrev lu(h:PLift q->p:=by
 intro aa;have ai:wr.cell? (A0 bi i)=some (P0 (h[i].1)):=by
  rw[aL (w:=w) (j.out.block bi kX),ah i lA];simp[ac]
 have ab:wr.cell? (A0 (h[i].1) 7)=some (.bool (silV h[i].2)):=by
  rw[aL (w:=w) (j.out.block h[i].1 a)];exact br
 revert ai ab;exact aa.1):p:=h ⟨z⟩
def Ic(w:aE)(g e f:Nat)(a:Bool):Prop:=∀ W,Below w.heap.size w W->
 Calls prog 51 #[P0 g,P0 e,P0 f] W fun b w'=>DT a W b w'
theorem Ic.below{w w' g e f a}(h:Ic w g e f a)(b:Below w.heap.size w w'):Ic w' g e f a:=fun W j=>h W (b.trans (j.mono b.size))
theorem Lm(w o b k a f j e h)(x:Am w b h)(y:h.v=S0 a 1 f)(A:q_ w a 0 (P0 j))(v:Ic w o j k e):
 Calls prog 151 #[P0 o,P0 b,P0 k] w fun g w'=>DT e w g w':=by
 have z:w.cell? (A0 b 8)=some (S0 a 1 f):=by rw[<- y];exact x.cell 8
 have r:=Aa v;go_enter func151,ntmps151;go_wp2_with fail;refine(r.o w (aO _ _)).mono ?_;rintro g w1⟨rfl,u⟩;have p:=Aa u;go_wp2;go_ret;exact⟨rfl,p.o⟩
theorem BZ.at{w h g j l}(b:BZ w h g j l)(k:0<l.length):∃ a f,j=S0 a l.length f/\h<=a/\a<g/\l.length<=f/\∀ e,e<l.length->w.cell? (A0 a e)=some (P0 (l.getD e 0)):=by
 rcases b with⟨_,rfl⟩|b;simp at k;exact b
theorem BZ.form{w g f b l}(e:BZ w g f b l):∃ q a,b=.slice q l.length a:=by
 rcases e with⟨rfl,rfl⟩|⟨h,a,rfl,_⟩;exact⟨_,_,rfl⟩;exact⟨_,_,rfl⟩
theorem I6{T:Type}(H:T->Bool)(w)(S e A k n an J b B y)(ao)(O)(M)(a:aD (Nat × T))(L:Am w e M)(ae:Q0 w A k n ao O)(_hvl:A<w.heap.size)(ay:J<=w.heap.size)(aj:e<w.heap.size)(af:b<w.heap.size)(ak:M.v=S0 b 1 B)(al:w.cell? (A0 b 0)=some (P0 y))(x:BZ w an J O (a.map Prod.fst))(a1:a.length<=8000)(I:∀ q,q∈a->Ic w S y q.1 (H q.2)):
 Calls prog 135 #[P0 S,P0 e,P0 A] w fun E w'=>DT (decide (k=4)&&(a.map Prod.snd).all H) w E w':=by
 refine k9 ?_;intro ad;have Z:=ae.Ap.c3;have U:=Aa I;have X:=Aa x;have Y:=Aa L;by_cases K:k=4
 . subst K;obtain⟨q,ar,rfl⟩:=x.form;clear ae I x L;rw[cM]at Z;go_enter func135,ntmps135;go_wp2;go_loopw [19] (fun z wr=>∃ f:Nat,z=I0 (f:Nat)/\f<=a.length/\Hid (Below w.heap.size w wr)/\Hid (((a.take f).map Prod.snd).all H=true)) (fun z _=>a.length-(intOf z).toNat)
   case atStart=>exact⟨0,rfl,by omega,aO _ _,(by simp:((a.take 0).map Prod.snd).all H=true)⟩
   case round=>
    obtain⟨f,rfl,az,j,h⟩:=hrel;by_cases ab:f<a.length
    . have ai:(f:Int)<(a.length:Int):=by omega
      obtain⟨bi,aq,u,av,aw,_,ah⟩:=X.o.at lA;injection u with u au ac;subst u;have ax:wr.cell? (A0 bi f)=some (P0 (a[f].1)):=by
       exact mp
      have ap:wr.cell? (A0 e 8)=some (S0 b 1 B):=by
       rw[aL (w:=w) (j.out.block e aj),<- ak];exact Y.o.cell 8
      have a2:wr.cell? (A0 b 0)=some (P0 y):=by rw[aL (w:=w) (j.out.block b af)];exact al
      have V:=Aa (U.o a[f] (aU ab));have r:=Aa (show((a.take (f+1)).map Prod.snd).all H=H a[f].2 by
       rw[bN ab,dO,jI,h.out];simp)
      have o:Hid (H a[f].2=false->(a.map Prod.snd).all H=false):=by
       have:H a[f].2=false->(a.map Prod.snd).all H=false:=fun v=>by
        rw[iQ];exact⟨a[f].2,dF.2 ⟨_,aU ab,rfl⟩,by rw[v];simp⟩
       exact this
      clear ah h ac;generalize a[f]=am at*;go_wp2_with fail;refine(V.o wr j.out).mono ?_;rintro E w2⟨rfl,F⟩;have bc:=Aa (j.out.trans (F.mono j.out.size));clear F
      cases g:H am.2
      . have p:=Aa (o.o g);clear g r o;go_wp2;go_ret;exact⟨BI (by rw[p.o];rfl),bc.o⟩
      have p:=Aa (r.o.trans g);clear g r o;exact mo
    have ai:¬ (f:Int)<(a.length:Int):=kX;have p:=Aa (show(a.map Prod.snd).all H=true by
     have v:=h.out;rwa [bV kX]at v)
    clear h;go_wp2;go_ret;exact⟨BI (by rw[<- List.all_map];exact p.o.symm),j.out⟩
 have a0:((k:Int)==4)=false:=lA;clear ae;go_enter func135,ntmps135;go_wp2;go_ret;exact⟨BI (by simp[K]),aO _ _⟩
theorem RK{T:Type}(H:aD It->T->Bool)(a b e)(f:silV a=true):hasKids H (a::b) e=hasKids H b e:=by simp[hasKids,f]
theorem QZ{T:Type}(H:aD It->T->Bool)(a e)(b:silV a=false):hasKids H (a::e) ([]:aD T)=false:=by simp[hasKids,b]
theorem Sk{T:Type}(H:aD It->T->Bool)(a b)(e:T)(f)(g:silV a=false):hasKids H (a::b) (e::f)=(H a e&&hasKids H b f):=by simp[hasKids,g]
theorem L8{T:Type}(H:aD It->T->Bool)(w)(a2 az a1 y n bm I bo ap)(bp)(a0)(ay)(z:aD (Nat × T))(h:aD (Nat × aD It))(au:Am w az ay)(ae:Q0 w a1 y n bp a0)(b3:I<=w.heap.size)(b4:ap<=w.heap.size)(L:BZ w bo ap ay.v (h.map Prod.fst))(J:BZ w bm I a0 (z.map Prod.fst))(b6:z.length<=8000)(b7:h.length<=1000)(ax:∀ q,q∈h->q.1<w.heap.size/\w.cell? (A0 q.1 7)=some (.bool (silV q.2)))(an:∀ q,q∈h->∀ S,S∈z->Ic w a2 q.1 S.1 (H q.2 S.2)):
 Calls prog 129 #[P0 a2,P0 az,P0 a1] w fun Z w'=>DT (decide (y=3)&&hasKids H (h.map Prod.snd) (z.map Prod.snd)) w Z w':=by
 refine k9 ?_;intro ad;have bb:=ae.Ap.c3;have bc:=au.c8;have a3:=Aa an;have a6:=Aa J;have a8:=Aa L;have a9:=Aa ax;by_cases aq:y=3
 . subst aq;obtain⟨q,bx,rfl⟩:=J.form;obtain⟨b8,bz,av⟩:=L.form;rw[cM]at bb;rw[av,cM]at bc;clear ae an J L au ax;go_enter func129,ntmps129;go_wp2;go_loopw [24,7] (fun O bq wr=>∃ (i b:Nat) (A:aI),O=I0 (i:Nat)/\A=bq/\i<=h.length/\b<=z.length/\Hid (Below w.heap.size w wr)/\Hid (hasKids H (h.map Prod.snd) (z.map Prod.snd)=hasKids H ((h.drop i).map Prod.snd) ((z.drop b).map Prod.snd))/\
    ((b=z.length/\∃ B c,A=.slice B 0 c)\/(b<z.length/\∃ g c,A=.slice (some (A0 g b)) (z.length-b) c/\z.length-b<=c/\g<w.heap.size/\Hid (∀ m,m<z.length->w.cell? (A0 g m)=some (P0 ((z.map Prod.fst).getD m 0)))))) (fun O _ _=>h.length-(intOf O).toNat)
   case atStart=>
    refine⟨0,0,_,rfl,rfl,by omega,by omega,aO _ _,rfl,?_⟩;rcases a6.o with⟨aw,al⟩|⟨g,c,aw,al,bd,af,aj⟩;exact mn;exact i6
   case round=>
    obtain⟨i,b,A,rfl,rfl,I,bf,j,k,x⟩:=hrel;by_cases ac:i<h.length
    . have be:(i:Int)<(h.length:Int):=by omega
      obtain⟨bi,bv,al,b0,b1,_,ah⟩:=a8.o.at lA;rw[av]at al;injection al with al bd af;subst al;obtain⟨a,br⟩:=a9.o h[i] (aU ac);refine lu ?_;intro ai ab;have r:=Aa (show(h.drop i).map Prod.snd=h[i].2::(h.drop (i+1)).map Prod.snd by rw[cF ac];rfl);have V:=Aa (a3.o h[i] (aU ac));clear ah br af;generalize h[i]=M at*
      cases p:silV M.2
      . rw[p]at ab;have Y:=Aa p;rcases x with⟨f,B,c,rfl⟩|⟨f,g,c,rfl,ao,F,E⟩
        . have e:=Aa (show hasKids H (h.map Prod.snd) (z.map Prod.snd)=false by
           rw[k.out,r.o,show z.drop b=[]from dN kX];exact QZ H _ _ Y.o)
          clear k p;go_wp2;go_ret;exact⟨BI (by rw[e.o]),j.out⟩
        . have K:¬ ((z.length-b:Nat):Int)=0:=by omega
          have bj:(((z.length-b:Nat):Int)==0)=false:=by simpa using K
          have bk:(0:Int)<((z.length-b:Nat):Int):=kX;have b2:wr.cell? (A0 g b)=some (P0 (z[b].1)):=by
           rw[aL (w:=w) (j.out.block g F),E.out b f];simp[f]
          have X:=Aa (show(z.drop b).map Prod.snd=z[b].2::(z.drop (b+1)).map Prod.snd by rw[cF f];rfl);have a4:=Aa (V.o z[b] (aU f));have u:=Aa (show hasKids H (h.map Prod.snd) (z.map Prod.snd)=(H M.2 z[b].2&&hasKids H ((h.drop (i+1)).map Prod.snd) ((z.drop (b+1)).map Prod.snd))by
           rw[k.out,r.o,X.o];exact Sk H _ _ _ _ Y.o)
          have ar:z.length-(b+1)=z.length-b-1:=kX;have bu:=Aa ar;obtain⟨m,o⟩:∃ m,z.length-b=m+1:=⟨z.length-b-1,by omega⟩;have a7:=Aa (show z.length-(b+1)=m by omega);rw[o]at K bj bk ao⊢;clear k p V X r ar o;generalize z[b]=bl at*;go_wp2_with fail;refine(a4.o wr j.out).mono ?_;rintro Z w2⟨rfl,am⟩;have U:=Aa (j.out.trans (am.mono j.out.size));clear am
          cases v:H M.2 bl.2
          . have e:=Aa (show hasKids H (h.map Prod.snd) (z.map Prod.snd)=false by rw[u.o,v];rfl);clear v u;go_wp2;go_ret;exact⟨BI (by rw[e.o];rfl),U.o⟩
          . have e:=Aa (show hasKids H (h.map Prod.snd) (z.map Prod.snd)=hasKids H ((h.drop (i+1)).map Prod.snd) ((z.drop (b+1)).map Prod.snd)by rw[u.o,v];rfl);clear v u;go_wp2_with fail;refine⟨⟨i+1,b+1,_,by go_num,rfl,by omega,by omega,U,e,?_⟩,by simp[intOf];omega⟩;have bh:=a7.o;by_cases bg:m=0;left;exact⟨by omega,_,_,by rw[bg]⟩;right;refine⟨by omega,g,c-1,?_,by omega,F,E⟩;rw[aC kX,bh]
      . rw[p]at ab;have e:=Aa (show hasKids H (h.map Prod.snd) (z.map Prod.snd)=hasKids H ((h.drop (i+1)).map Prod.snd) ((z.drop b).map Prod.snd)by
         rw[k.out,r.o];exact RK H _ _ _ p)
        have ba:=Aa x;clear k p x;go_wp2;go_roundw
        case rel=>exact⟨i+1,b,_,by go_num,rfl,by omega,bf,j,e,ba.o⟩
        case measure=>simp[intOf];omega
    have be:¬ (i:Int)<(h.length:Int):=kX;have e:=Aa (show hasKids H (h.map Prod.snd) (z.map Prod.snd)=decide (b=z.length)by
     rw[k.out,dN kX];show((z.drop b).map Prod.snd).isEmpty=_;by_cases ak:b=z.length;rw[bF ak,dN kX];rfl;rw[bJ ak,cF kX];rfl)
    clear k;rcases x with⟨f,B,c,rfl⟩|⟨f,g,c,rfl,ao,F,E⟩
    . have a5:=Aa f;clear f;go_wp2;go_ret;exact⟨BI (by rw[e.o,bF a5.o]),j.out⟩
    have K:(((z.length-b:Nat):Int)==0)=false:=lA;generalize o:z.length-b=m at*;clear o;go_wp2;go_ret;exact⟨BI (by rw[e.o,bJ kX]),j.out⟩
 have b5:((y:Int)==3)=false:=lA;clear ae;go_enter func129,ntmps129;go_wp2;go_ret;exact⟨BI (by simp[aq]),aO _ _⟩
theorem QK(w j f b a n g h)(ae:Q0 w b a n g h)(k:a≠5):
 Calls prog 132 #[P0 j,P0 f,P0 b] w fun e w'=>DT false w e w':=by
 refine k9 ?_;intro ad;have o:((a:Int)==5)=false:=lA;go_enter func132,ntmps132;go_wp2_with fail;go_quiet (fail);go_wp2;go_ret;exact⟨rfl,DD w _⟩
theorem Ok(w)(z h a n b r k e u o)(p)(O)(y)(v:Am w h y)(g:Q0 w a 5 n O (S0 e 1 u))(Y:n<2)(L:y.v=S0 b 2 r)(M:w.cell? (A0 b n)=some (P0 k))(x:w.cell? (A0 e 0)=some (P0 o))(J:b<w.heap.size)(I:e<w.heap.size)(F:Ic w z k o p):
 Calls prog 132 #[P0 z,P0 h,P0 a] w fun B w'=>DT p w B w':=by
 have j:=g.Ap.lt;have K:=v.lt;have E:∀ W,Below w.heap.size w W->W.cell? (A0 a 0)=some (I0 5)/\W.cell? (A0 a 1)=some (.int .u32 (n:Nat))/\W.cell? (A0 a 3)=some (S0 e 1 u)/\W.cell? (A0 h 8)=some (S0 b 2 r)/\W.cell? (A0 b n)=some (P0 k)/\W.cell? (A0 e 0)=some (P0 o):=fun W f=>by
  refine⟨?_,?_,?_,?_,?_,?_⟩;rw[aL (w:=w) (f.block a j)];exact g.Ap.cell 0;rw[aL (w:=w) (f.block a j)];exact g.Ap.cell 1;rw[aL (w:=w) (f.block a j)];exact g.Ap.cell 3;rw[aL (w:=w) (f.block h K),<- L];exact v.cell 8;rw[aL (w:=w) (f.block b J)];exact M;rw[aL (w:=w) (f.block e I)];exact x
 have A:=Aa E;have ab:=Aa F;have Z:(n:Int)<2:=kX;go_enter func132,ntmps132;go_wp2_with fail;obtain⟨h0,S,U,V,X,x⟩:=A.o w (aO _ _);refine NC 23 _ rfl kZ kZ ?_;simp only[bU,cK,bK,bS];repeat still_step
 refine bL ⟨rfl,?_⟩;unfold Oper.wp;go_simp;exact n6
theorem Acv(c)(e:c=82\/c=39\/CP c=true)(b:c≠82):¬ IU c=6:=by
 rcases DF c e with rfl|rfl|rfl|rfl|rfl|rfl|rfl|rfl|rfl|rfl|rfl|rfl|rfl|rfl|rfl;all_goals first|exact absurd rfl b|(intro a;revert a;decide)
theorem DO.Afr{c}(g:DO c)(a)(j:c.R a=true):(c.G a).length<=1000:=by
 obtain⟨k,l,_,b,e⟩:=g.gr;obtain⟨i,h,_,_,f⟩:=e a j;rw[f];exact(b.rul l[i] (aU h)).2
theorem BK.item{R g f e h}(a:BK R g f (e::h)):Kc e:=by
 obtain⟨b,a⟩:=a
 cases b with
 | zero=>exact a.elim
 | succ b=>exact a.1
def ruleHasB{T:Type}(G:Nat->aD It)(H:aD It->T->Bool)(b:Nat)(a:aD It)(e:Nd T):Bool:=match ruleEnd G b a with|none=>false|some q=>Ds H q e
structure Aes {T:Type} (c:Cx) (H:aD It->T->Bool) (v:Nd T) (w:aE) (As:aD It) (j pb:Nat) (wr:aE):Prop where
 A9:Below w.heap.size w wr
 ex:∃ x r sl f lo hi,BM f c.w0 lo hi pb sl (x::r)/\hi<=c.w0.heap.size/\x.c=82/\(0<=x.r/\x.r<8)/\c.R x.r.toNat=true/\ruleHasB c.G H 8 As v=ruleHasB c.G H (8-j) (x::r) v
theorem Mh{T:Type}(c)(aw:DO c)(H:aD It->T->Bool)(g:Nd T)(w)(Y V am)(k)(a1:Oo c w Y)(h0:Aes c H g w k 0 V w)(a9:∀ f I U y a o,BM I c.w0 U y f false (a::o)->y<=c.w0.heap.size->BK c.R false false (a::o)->(a::o).length<=1000->a.c≠82->Ic w Y f am (Ds H (a::o) g)):
 Calls prog 138 #[P0 Y,P0 V,P0 am] w fun F w'=>DT (ruleHasB c.G H 8 k g) w F w':=by
 have ad:=Aa a1;have z:=Aa aw;have aq:=Aa a9;have an:=Aa h0;go_enter func138,ntmps138;go_wp2;go_loopw [1,7] (fun bg X wr=>∃ b f:Nat,X=I0 (b:Nat)/\bg=P0 f/\b<=8/\Hid (Aes c H g w k b f wr)) (fun _ X _=>8-(intOf X).toNat)
 case atStart=>exact⟨0,V,rfl,rfl,by omega,an⟩
 case round=>
  obtain⟨b,f,rfl,rfl,bm,j⟩:=hrel;by_cases bo:b<8
  . have a0:(b:Int)<8:=by omega
    obtain⟨Z,o,bf,I,U,y,a7,bl,bb,⟨bu,bv⟩,r,J⟩:=j.out.ex;obtain⟨n,L⟩:∃ n:Nat,Z.r=(n:Int):=⟨Z.r.toNat,by omega⟩;obtain⟨bj,bx,bc,a4,Cj,_,_,_,_,_,br⟩:=a7.open;have M:=ad.o.below j.out.A9;have a3:Am wr f bc:=a4.below M.A9 kX;have bi:wr.cell? (A0 f 6)=some (I0 (n:Nat)):=by rw[<- L,<- (Cj.ru bb).2];exact a3.cell 6
    have bh:=M.gr;rw[L]at r;simp only[bE]at r;have ab:=Aa J;have ac:=Aa L;have ae:=Aa M;go_wp2_with fail;refine AX 8 _ rfl rfl kZ kZ ?_;refine gq ?_;refine(HL c z.o (wr.drewN 1) (ae.o.A9.trans ((DD wr 1).mono ae.o.A9.size)) n r).mono ?_;rintro F w2⟨v,ah,al,ak,rfl,au,O,aj⟩;have p:=Aa (j.out.A9.trans (((DD wr 1).trans au).mono j.out.A9.size));have S:=z.o.wf n r;obtain⟨a,h,ai⟩:∃ a h,c.G n=a::h:=by
     obtain⟨x,u⟩:=S
     cases ax:c.G n with
     | nil=>rw[ax]at u;cases x<;>exact u.elim
     | cons a h=>exact⟨a,h,rfl⟩
    rw[ai]at O S;have ay:=O.open;obtain⟨bk,bz,bd,a5,az,_,_,_,_,_,bq⟩:=ay;have a2:=ad.o.below p.o;have a6:Am w2 v bd:=a5.below a2.A9 kX;have be:w2.cell? (A0 v 0)=some (I0 (IU a.c)):=by rw[<- az.k];exact a6.cell 0
    have af:=Aa O;have E:=Aa S;have A:=Aa ai;simp only;repeat still_step
    refine bL ?_;by_cases e:a.c=82
    . have K:IU a.c=6:=by rw[e];rfl
      rw[K]at be;have ao:=Aa (show Aes c H g w k (b+1) v w2 by
       obtain⟨x,u⟩:=E.o
       cases x with
       | zero=>exact u.elim
       | succ x=>
        obtain⟨ba,_,_,a8,_⟩:=u;refine⟨p.o,a,h,false,ah,al,ak,af.o,aj,e,ba.it.r e,a8 e,?_⟩;rw[ab.o,show 8-b=(8-(b+1))+1 by omega];unfold ruleHasB;rw[ruleEnd,ac.o,bE,A.o];simp only[e,dU])
      go_wp2;go_roundw
      case rel=>exact⟨b+1,v,by go_num,rfl,by omega,ao⟩
      case measure=>simp[intOf];omega
    . have K:=Acv a.c E.o.item.it.c e;have bp:(IU a.c==6)=false:=by simpa using K
      have B:=Aa (show ruleHasB c.G H 8 k g=Ds H (a::h) g by
       rw[ab.o,show 8-b=(8-(b+1))+1 by omega];unfold ruleHasB;rw[ruleEnd,ac.o,bE,A.o];simp only[e,cT])
      have ar:=Aa (aq.o v ah al ak a h af.o aj E.o (by rw[<- A.o];exact z.o.Afr n r) e);generalize IU a.c=b0 at*;go_wp2_with fail;refine(ar.o w2 p.o).mono ?_;rintro F b1⟨rfl,av⟩;have ap:=Aa (p.o.trans (av.mono p.o.size));go_wp2;go_ret;exact⟨BI B.o.symm,ap.o⟩
  have a0:¬ (b:Int)<8:=kX;have B:=Aa (show ruleHasB c.G H 8 k g=false by
   obtain⟨Z,o,bf,I,U,y,_,_,_,_,_,J⟩:=j.out.ex;rw[J,show 8-b=0 by omega];rfl)
  go_wp2;go_ret;exact⟨BI B.o.symm,j.out.A9⟩
theorem AU(h:p:=by
 rw[hxc]at ai;exact absurd ai lC):p:=h
theorem Do(h:p:=by
 rw[E]at B
 match h,B with
 | [u],_=>exact⟨u,rfl⟩):p:=h
theorem i5(h:p:=by
 rcases DF x.c al.it.c with hxc|hxc|hxc|hxc|hxc|hxc|hxc|hxc|hxc|hxc|hxc|hxc|hxc|hxc|hxc;all_goals first|exact Or.inl hxc|exact Or.inr (Or.inl hxc)|exact Or.inr (Or.inr hxc)|(rw[hxc]at ai;exact absurd ai lC)):p:=h
theorem i7(h:p:=by
 have af:=ae u kY;rw[ab]at af;exact am a f y _ _ _ ak (b+1) hi u.1 z k q.1 q.2 (o.below e) af al ⟨K,ac y (by rw[E];simp)⟩ kX (L q aa) kX):p:=h
theorem i8(h:p:=by
 obtain⟨I,J,g,O,L,A,r⟩:=ap a (M a F);exact HT a f b p v.k v.n x.w.toNat _ I j (ah a (M a F)) J lO kX):p:=h
theorem mq(h:p:=by
 obtain⟨I,J,g,O,L,A,r⟩:=ap a (M a F);exact Kf a f b p v.k v.n _ I J):p:=h
theorem Dr(h:p:=by
 show _=_;rw[aj 0 kY];simp):p:=h
theorem BM.lens{f w p g b r h e}(o:BM f w p g b r (h::e)):
 ∃ (B:Nat) (z:aD (Nat × aD It)) (a:Pt),Am w b a/\He h a/\a.sl=(r&&Gy h.c)/\BZ w (b+1) g a.v (z.map Prod.fst)/\(∀ q,q∈z->BM B w (b+1) g q.1 (decide (h.c=40)) q.2)/\z.map Prod.snd=segs e.length e/\(p<=b/\b<g)/\z.length<=e.length/\∀ q,q∈z->q.2.length<=e.length:=by
 cases f with
 | zero=>exact o.elim
 | succ f=>
  obtain⟨J,z,a,y,A,v,x,c,d,s,j,k⟩:=o
  cases y
  refine⟨f,z,a,c,d,s,j,k,?_,⟨v,x⟩,?_,fun q aa=>Hy z q aa⟩;exact i9;clear j A;induction z with
  | nil=>simp
  | cons u l F=>
   have ab:=F (fun q aa=>k q (aH _ aa));have I:0<u.2.length:=by
    obtain⟨K,t,E,_⟩:=(k u aG).Jh;rw[E];simp
   simp only[bY,aR,aX];omega
def Ad4(c:Cx)(n:Nat):Prop:=∀ w h a u k v o p b f r e g j,Oo c w h->BM o c.w0 p b f v a->b<=c.w0.heap.size->BK c.R u k a->a.length<=1000->Cb n w r e g j->e<=w.heap.size->Ic w h f g (Db c.G n a j)
theorem GS.mono{n w w' b a e}{x:Nd (Tr n)}(f:GS (Cb n) w b a e x)(j:a<=w.heap.size)(g:Below w.heap.size w w'):GS (Cb n) w' b a e x:=
 Cb.mono (n+1) (x:=x) f (fun h _ k=>g.block h kX) (aB _) (aB _)
theorem LF{T:Type}(H:aD It->T->Bool)(b e)(a:Nd T):Ds H (b::e) a=
 (if b.c=110\/b.c=108 then decide (a.k=0)&&CG a.n b.w.toNat
 else if b.c=39 then decide (a.k=1)
 else if b.c=114\/b.c=46 then decide (a.k=2)
 else if b.c=40 then decide (a.k=3)&&hasKids H (segs e.length e) a.kids
 else if b.c=47 then decide (a.k=5)&&Ly (H ((segs e.length e).getD a.n [])) a.kids
 else if b.c=42\/b.c=116 then decide (a.k=4)&&a.kids.all (H e)
 else false):=rfl
theorem UX(c)(n)(am:Ad4 c n)(w)(f)(x)(y)(b7 be b9)(bg b5 hi b z k p)(v:Nd (Tr n))(o:Oo c w f)(bx:BM bg c.w0 b5 hi b b9 (x::y))(al:hi<=c.w0.heap.size)(b2:BK c.R b7 be (x::y))(bo:(x::y).length<=1000)(b0:GS (Cb n) w z k p v)(bl:k<=w.heap.size)(bi:x.c≠82)(ai:AY [119,64,115] x.c=false):Ic w f b p (Ds (Db c.G n) (x::y) v):=by
 intro W U;obtain⟨K,a9⟩:=b2
 cases K with
 | zero=>exact a9.elim
 | succ K=>
 obtain⟨az,cg,cb,cj,bh,a5,ac⟩:=a9;obtain⟨ak,h,j,br,Cj,ck,av,ae,B,⟨cd,ch⟩,ci,a8⟩:=bx.lens;have ce:y.length<=1000:=by simp at bo;omega
 have V:=o.below U;have ah:∀ a,Below w.heap.size w a->Am a b j:=fun a Y=>br.below (o.below Y).A9 kX
 have b1:∀ a,Below w.heap.size w a->GS (Cb n) a z k p v:=fun a Y=>b0.mono bl Y
 have ap:∀ a,Below w.heap.size w a->∃ I,Q0 a p v.k v.n ⟨v.run.toArray⟩ I/\∃ g:aD (Nat × Tr n),BZ a z k I (g.map Prod.fst)/\(∀ q,q∈g->Cb n a z k q.1 q.2)/\v.kids=g.map Prod.snd/\Afs v:=fun a Y=>by
  obtain⟨I,g,ba,ca,bb,bc,bd,a2⟩:=b1 a Y;exact⟨I,⟨ba,a2.n⟩,g,bb,bc,bd,a2⟩
 have M:∀ a,Below W.heap.size W a->Below w.heap.size w a:=fun a Y=>U.trans (Y.mono U.size)
 rw[LF];rcases DF x.c az.it.c with hxc|hxc|hxc|hxc|hxc|hxc|hxc|hxc|hxc|hxc|hxc|hxc|hxc|hxc|hxc
 . rw[aF (Or.inl hxc)];have b3:=az.w AL;refine CS c W f b p j 0 121 _ V (ah W U) AK kX rfl I5 fun a F=>?_
   exact i8
 . rw[aF (Or.inr hxc)];have b3:=az.w AL;refine CS c W f b p j 1 121 _ V (ah W U) AK kX rfl I5 fun a F=>?_
   exact i8
 . rw[aC AC,aF hxc];refine CS c W f b p j 2 126 _ V (ah W U) AK kX rfl MZ fun a F=>?_
   obtain⟨I,J,g,O,L,A,r⟩:=ap a (M a F);exact KR a f b p v.k v.n _ I J
 . rw[aC AC,aC AC,aC AC,aF hxc];refine CS c W f b p j 3 129 _ V (ah W U) AK kX rfl OH fun a F=>?_
   obtain⟨I,J,g,O,L,A,r⟩:=ap a (M a F);have e:=M a F;have aw:=e.size;rw[A,<- B];refine L8 (Db c.G n) a f b p v.k v.n z k (b+1) hi _ I j g h (ah a e) J kX (by have:=(o.below e).A9.size;omega) (av.mono (fun Z _ a1=>(o.below e).A9.block Z kX) (aB _) (aB _)) O ?_ kX (fun q aa=>?_) (fun q aa S a0=>?_);have:=r.kids;rw[A]at this;simpa using this;have af:=ae q aa;obtain⟨S,t,bv⟩:∃ S t,q.2=S::t:=by obtain⟨S,t,b4,_⟩:=af.Jh;exact⟨S,t,b4⟩
   rw[bv]at af⊢;obtain⟨_,_,b8,bq,_,bz,_,_,_,_,cf⟩:=af.open;have X:=(o.below e).A9;have ax:=X.size;refine⟨by omega,?_⟩;rw[aL (w:=c.w0) (X.block q.1 kX),<- IJ,show Gy S.c=b8.sl by rw[bz,hxc];simp];exact bq.cell 7;exact am a f q.2 _ _ _ ak (b+1) hi q.1 z k S.1 S.2 (o.below e) (ae q aa) al ⟨K,ac q.2 (by rw[<- B];exact eG aa)⟩ (by have:=a8 q aa;omega) (L S a0) kX
 . rw[aC AC,aC AC,aC AC,aC AC,aF hxc];refine CS c W f b p j 4 132 _ V (ah W U) AK kX rfl Oy fun a F=>?_
   obtain⟨I,J,g,O,L,A,r⟩:=ap a (M a F);have e:=M a F;have aw:=e.size;have bm:h.length=2:=by have:=bh hxc;rw[<- B]at this;simpa using this
   by_cases aq:v.k=5;obtain⟨bp,a7⟩:=r.cho aq;obtain⟨S,rfl⟩:∃ S,g=[S]:=by
    rw[A]at a7
    match g,a7 with
    | [S],_=>exact⟨S,rfl⟩
   obtain⟨a4,a3,bf,_,cc,_,bk⟩:=O.at kY;have au:=(av.mono (w':=a) (fun Z _ a1=>(o.below e).A9.block Z kX) (aB _) (aB _));obtain⟨ad,aj,an,_,a6,_,ao⟩:=au.at lA;have ar:v.n<h.length:=kX;have aa:=ao v.n lA;have a0:=bk 0 kY;have X:=(o.below e).A9;have ax:=X.size;have bu:a.cell? (A0 ad v.n)=some (P0 (h[v.n].1)):=by rw[aa];simp[ar]
   subst bf;have b6:Q0 a p 5 v.n ⟨v.run.toArray⟩ (S0 a4 1 a3):=by rw[<- aq];exact J
   have bj:(decide (v.k=5)&&Ly (Db c.G n ((segs y.length y).getD v.n [])) v.kids)=Db c.G n h[v.n].2 S.2:=by
    rw[A,<- B,aq];simp[ar,Ly]
   rw[bj];exact Ok a f b p v.n ad aj h[v.n].1 a4 a3 S.1 _ _ j (ah a e) b6 bp (by rw[an];simp[bm]) bu (by rw[a0];simp) kX kX
    (am a f h[v.n].2 _ _ _ ak (b+1) hi h[v.n].1 z k S.1 S.2 (o.below e) (ae _ (aU ar)) al ⟨K,ac _ (by rw[<- B];exact eG (aU ar))⟩ (by have:=a8 _ (aU ar);omega) (L S kY) kX)
   rw[bJ aq];exact QK a f b p v.k v.n _ I J aq
 . rw[aC AC,aC AC,aC AC,aC AC,aC AC,aF (Or.inl hxc)];refine CS c W f b p j 5 135 _ V (ah W U) AK kX rfl LI fun a F=>?_
   obtain⟨I,J,g,O,L,A,r⟩:=ap a (M a F);have e:=M a F;have aw:=e.size;have E:=a5 AL;obtain⟨u,rfl⟩:∃ u,h=[u]:=by
    exact Do
   have ab:u.2=y:=by rw[E]at B;simpa using B
   have au:=(av.mono (w':=a) (fun Z _ a1=>(o.below e).A9.block Z kX) (aB _) (aB _));obtain⟨ad,aj,an,_,a6,_,ao⟩:=au.at kY;have X:=(o.below e).A9;have ax:=X.size;have aa:=ao 0 kY;have ay:=J.Ap.lt;rw[A];refine I6 (Db c.G n y) a f b p v.k v.n z k ad aj u.1 _ I j g (ah a e) J ay kX kX kX an (by rw[aa];simp) O ?_ (fun q aa=>?_);have:=r.kids;rw[A]at this;simpa using this;exact i7
 . exact absurd hxc bi
 . rw[aC AC,aC AC,aC AC,aC AC,aC AC,aC AC];refine CS c W f b p j 7 141 _ V (ah W U) AK kX rfl Lv fun a F=>?_
   exact Je a f b p
 . rw[aC AC,aC AC,aC AC,aC AC,aC AC,aC AC];refine CS c W f b p j 8 141 _ V (ah W U) AK kX rfl Lv fun a F=>?_
   exact Je a f b p
 . rw[aC AC,aC AC,aF (Or.inl hxc)];refine CS c W f b p j 9 146 _ V (ah W U) AK kX rfl Nh fun a F=>?_
   exact mq
 . rw[aC AC,aC AC,aC AC,aC AC,aC AC,aF (Or.inr hxc)];refine CS c W f b p j 10 135 _ V (ah W U) AK kX rfl LI fun a F=>?_
   obtain⟨I,J,g,O,L,A,r⟩:=ap a (M a F);have e:=M a F;have aw:=e.size;have E:=a5 AL;obtain⟨u,rfl⟩:∃ u,h=[u]:=by
    exact Do
   have ab:u.2=y:=by rw[E]at B;simpa using B
   have au:=(av.mono (w':=a) (fun Z _ a1=>(o.below e).A9.block Z kX) (aB _) (aB _));obtain⟨ad,aj,an,_,a6,_,ao⟩:=au.at kY;have X:=(o.below e).A9;have ax:=X.size;have aa:=ao 0 kY;have ay:=J.Ap.lt;rw[A];refine I6 (Db c.G n y) a f b p v.k v.n z k ad aj u.1 _ I j g (ah a e) J ay kX kX kX an (by rw[aa];simp) O ?_ (fun q aa=>?_);have:=r.kids;rw[A]at this;simpa using this;exact i7
 . exact AU
 . exact AU
 . exact AU
 rw[aC AC,aC AC,aF (Or.inr hxc)];refine CS c W f b p j 14 146 _ V (ah W U) AK kX rfl Nh fun a F=>?_
 exact mq
theorem BK.Af7{R k b o}(e:BK R k false (b::o)):AY [119,64,115] b.c=false:=by
 obtain⟨f,e⟩:=e
 cases f with
 | zero=>exact e.elim
 | succ f=>
  obtain⟨j,_,h,_⟩:=e
  cases g:AY [119,64,115] b.c
  rfl;have hu:AN b.c=true:=by
   rcases DF b.c j.it.c with a|a|a|a|a|a|a|a|a|a|a|a|a|a|a;all_goals rw[a]at g⊢;revert g;decide
  exact absurd (h hu) kY
theorem Z2{b a}(e:AY [119,64,115] b.c=true):inn (b::a)=inn a:=by rw[inn,aF e]
theorem UY{a b}(e:AY [119,64,115] a.c=false):inn (a::b)=a::b:=by rw[inn,aC (by rw[e];simp)]
theorem Xz{T:Type}(G)(H:aD It->T->Bool)(a b)(e:Nd T)(f:a.c=82):hasQ G H (a::b) e=ruleHasB G H 8 (a::b) e:=by
 show(if a.c=82 then _ else _)=_;rw[aF f];rfl
theorem SF{T:Type}(G)(H:aD It->T->Bool)(a b)(e:Nd T)(f:a.c≠82):hasQ G H (a::b) e=Ds H (a::b) e:=by
 show(if a.c=82 then _ else _)=_;rw[aC f]
theorem Aek(c)(aw:DO c)(n)(an:Ad4 c n)(U):∀ w b y X S O K M r e I v a j,Oo c w b->BM K c.w0 M r e O y->r<=c.w0.heap.size->TWf c.R U X S y->y.length<=1000->GS (Cb n) w I v a j->v<=w.heap.size->Ic w b e a (hasQ c.G (Db c.G n) (inn y) j):=by
 induction U with
 | zero=>intro w b y X S O K M r e I v a j _ _ _ a8;exact a8.elim
 | succ U bc=>
  intro w b y X S O K M r e I v a j L V ac ae ah ad ab
  cases y with
  | nil=>exact ae.elim
  | cons x z=>
  have a9:=ae;obtain⟨al,bl,bj,a6,bi,av,a0⟩:=ae
  cases ai:AY [119,64,115] x.c
  . rw[UY ai];by_cases k:x.c=82;rw[Xz _ _ _ _ _ k];obtain⟨af,h,J,F,Cj,_,_,_,_,⟨_,a3⟩,_,_⟩:=V.lens;intro W o;have g:=L.below o;refine CS c W b e a J 6 138 _ g (F.below g.A9 kX) (by rw[Cj.k,k];rfl) kX rfl Om fun f Z=>?_
    have p:=o.trans (Z.mono o.size);have A:=L.below p;have a7:=p.size;refine Mh c aw (Db c.G n) j f b e a (x::z) A ⟨aO _ _,x,z,O,K,M,r,V,ac,k,al.it.r k,a6 k,rfl⟩ ?_;intro bf ar be ay bh bg a5 ax am a1 ba;exact UX c n an f b bh bg false false false ar be ay bf I v a j A a5 ax am a1 (ad.mono ab p) kX ba am.Af7;rw[SF _ _ _ _ _ k];exact UX c n an w b x z X S O K M r e I v a j L V ac ⟨U+1,a9⟩ ah ad ab k ai
  rw[Z2 ai];have E:=av (by
   have:x.c=119\/x.c=64\/x.c=115:=by
    exact i5
   rcases this with Y|Y|Y<;>rw[Y]<;>rfl)
  obtain⟨af,h,J,F,Cj,_,a4,az,B,⟨_,a3⟩,_,_⟩:=V.lens;obtain⟨u,rfl⟩:∃ u,h=[u]:=by
   exact Do
  have bb:u.2=z:=by rw[E]at B;simpa using B
  have ak:=az u kY;rw[bb]at ak;intro W o;have g:=L.below o;have aa:∀ f,Below W.heap.size W f->Calls prog 151 #[P0 b,P0 e,P0 a] f fun ap w'=>DT (hasQ c.G (Db c.G n) (inn z) j) f ap w':=fun f Z=>by
   have p:=o.trans (Z.mono o.size);have A:=L.below p;have a7:=p.size;have a2:=(a4.mono (w':=f) (fun bd _ bm=>A.A9.block bd kX) (aB _) (aB _));obtain⟨au,ao,aq,_,bk,_,aj⟩:=a2.at kY;refine Lm f b e a au ao u.1 _ J (F.below A.A9 kX) aq Dr ?_;exact bc f b z _ _ _ af (e+1) r u.1 I v a j A ak ac (a0 z (by rw[E];simp)) (by simp at ah;omega) (ad.mono ab p) kX
  rcases DF x.c al.it.c with hxc|hxc|hxc|hxc|hxc|hxc|hxc|hxc|hxc|hxc|hxc|hxc|hxc|hxc|hxc
  . exact AU
  . exact AU
  . exact AU
  . exact AU
  . exact AU
  . exact AU
  . exact AU
  . exact AU
  . exact AU
  . exact AU
  . exact AU
  . exact CS c W b e a J 11 151 _ g (F.below g.A9 kX) AK kX rfl Gh aa
  . exact CS c W b e a J 12 151 _ g (F.below g.A9 kX) AK kX rfl Gh aa
  . exact CS c W b e a J 13 151 _ g (F.below g.A9 kX) AK kX rfl Gh aa
  exact AU
theorem Ach(c)(z:DO c)(n):Ad4 c n:=by
 induction n with
 | zero=>intro w u g k a p b h e o j f r v _ _ _ _ _ y;exact y.elim
 | succ n M=>
  intro w u g k a p b h e o j f r v F I B L E J A;obtain⟨x,K⟩:=L;exact Aek c z n M x w u g k a p b h e o j f r v F I B K E J A
theorem js(h:p:=by
 have:=Ys (gb:=r) (fuel:=k) (N:=N) af;rw[<- aa.o]at this;unfold J3 at this;simp only[World.alloc,Array.size_push]at this⊢;exact this):p:=h
theorem jt(h:p:=by
 exact(((((aO w.heap.size w).alloc (aB _) _).alloc kY _).alloc lA _).alloc lA _).drew):p:=h
def J3(g:Array aI)(f:Nat)(bs:aA)(e N:Nat):Array aI:=
 ((((Array.foldl (fun b a=>b.setIfInBounds a.snd a.fst) #[.nilFunc,.nilFunc,.nilFunc,.nilFunc,.nilFunc,.nilFunc,.nilFunc,.nilFunc,.nilFunc,.nilFunc,.nilFunc,.nilFunc,.nilFunc,.nilFunc,.nilFunc,.nilFunc,.nilFunc,.nilFunc,.nilFunc,.nilFunc,.nilFunc,.nilFunc,.nilFunc,.nilFunc,.nilFunc,.nilFunc,.nilFunc,.nilFunc,.nilFunc,.nilFunc,.nilFunc,.nilFunc,.nilFunc,.nilFunc,.nilFunc,.nilFunc,.nilFunc,.nilFunc,.nilFunc,.nilFunc,.nilFunc,.nilFunc,.nilFunc,.nilFunc,.nilFunc,.pointer none,.string {data:=#[]},I0 0,I0 0,.slice none 0 0,.slice none 0 0,I0 0] g.zipIdx 0 46).setIfInBounds
  46 (.string bs)).setIfInBounds 47 (I0 e)).setIfInBounds 48 (I0 N)).setIfInBounds 49 (S0 f bs.size bs.size)
theorem SN(b e bs a N):J3 (XM b) e bs a N=Ed b e bs (FU a N bs.size):=kZ
theorem Po(e:Array (aI × Nat))(a:Array aI)(i f:Nat):(Array.foldl (fun a b=>a.setIfInBounds b.snd b.fst) a e i f).size=a.size:=by
 rw[Array.foldl_eq_foldl_extract,<- Array.foldl_toList];generalize(e.extract i f).toList=l;induction l generalizing a with
 | nil=>rfl
 | cons b h g=>rw[dP,g];simp
theorem Nc(l:aD (aI × Nat))(a:Array aI):(List.foldl (fun a b=>a.setIfInBounds b.snd b.fst) a l).size=a.size:=by
 induction l generalizing a with
 | nil=>rfl
 | cons b f e=>rw[dP,e];simp
theorem Ys{gb bs fuel N a W}(b:Ac W a (Array.replicate bs.size (.bool false)) 4):A7 gb a W.heap.size bs (W.alloc (.cells (Ed gb a bs (FU fuel N bs.size)) 154)).drew (FU fuel N bs.size):=by
 refine⟨?_,?_,by simp[FU],cC _ _ _ _,b.lt⟩;exact Ac.new _ _ _;have:((FU fuel N bs.size).read.map Value.bool).toArray=Array.replicate bs.size (.bool false):=by simp[FU]
 rw[this];exact Ac.alloc b _
def Fm(w:aE)(a:PO)(e:Ending)(w':aE):Prop:=
 Below w.heap.size w w'/\((a.e≠0/\e=.panicked (F7 a.e))\/(a.e=0/\∃ b,e=.returned (.tuple #[b,I0 ((endT a).2.1:Int),I0 ((endT a).2.2:Int)])/\((endT a).2.1=0->(endT a).1=a.t/\∃ g h j f k,b=P0 g/\FA h w' j f k g a.t/\f<=w'.heap.size)/\((endT a).2.1≠0->b=.pointer none)))
theorem QB(r)(bs Z)(ap:bs.size<=4000)(k N:Nat)(cf:k<=100000)(_hN:N<=10000)(G:Nat->aD It)(R:Nat->Bool)(w:aE)(bm:r<w.heap.size)(am:∀ a f,w.heap.size<=a->a<f->DO ⟨w,r,a,f,bs,N,G,R,Z⟩)(al:∃ K j n ab I bc b7 ae,Ac w r #[K] 77/\K=S0 j n ab/\0<n/\j<w.heap.size/\w.cell? (A0 j 2)=some (P0 I)/\BM bc w b7 ae I false (G 0)/\ae<=w.heap.size)(a1:BK R false false (G 0)):
 Calls prog 41 #[P0 r,.string bs,I0 k,I0 N] w fun b w'=>Fm w (tryT G bs N (k+1) k 0 false (G 0) (Ey bs)) b w':=by
 have bu:=Qu bs.size ap;obtain⟨z,M,aa,a9,a6⟩:∃ (z M:Array aI),Hid (∀ a,J3 z a bs k N=Ed r a bs (FU k N bs.size))/\Hid (z.size=46)/\Hid (∀ W:aE,Calls prog 50 #[P0 r] W fun b w'=>b=.returned (.agg z)/\w'=(W.alloc (.cells z 115)).alloc (.cells M 113)):=
  ⟨XM r,E2.toArray,fun a=>SN r a bs k N,rfl,fun W=>KB W r⟩
 have a5:=Aa am;have a3:=Aa al;have aj:=Aa a1;have b5:=a9.o;have bj:=Po;clear am al a1;go_enter func41,ntmps41;go_wp2_with fail;go_cut [11] (fun b9 wc=>∃ a f,b9=P0 f/\w.heap.size<=a/\Below w.heap.size w wc/\A7 r a f bs wc (FU k N bs.size))
 case first=>
  go_region_with (first|(go_at_call 50;refine(a6.o _).mono ?_;rintro _ _⟨rfl,rfl⟩))
  . go_wp2_with fail;go_meet
    case rel=>
     refine⟨w.heap.size+1+1,w.heap.size+1+1+1,rfl,by omega,?_,?_⟩;exact jt;have af:=Ac.new ((w.alloc (.cells z 115)).alloc (.cells M 113)) (Array.replicate bs.size (.bool false)) 4;rw[show((w.alloc (.cells z 115)).alloc (.cells M 113)).heap.size=w.heap.size+1+1 by simp]at af;exact js
  go_wp2_with fail;go_meet
  case rel=>
   refine⟨w.heap.size,w.heap.size+1+1+1,rfl,by omega,?_,?_⟩;exact jt;have af:=Ac.alloc (Ac.alloc (Ac.new w (Array.replicate bs.size (.bool false)) 4) (.cells z 115)) (.cells M 113);exact js
 case rest=>
  clear bj b5;obtain⟨a,f,b3,bz,O,Y⟩:=hcut;subst b3;obtain⟨K,j,n,ab,I,bd,b8,br,bk,bp,ci,bo,bl,b0,bq⟩:=a3.o;subst bp;have ce:=Y.Ap.lt;have b2:=Y.lt;have ar:=a5.o a f bz b2;have be:wc.cell? (A0 r 0)=some (S0 j n ab):=by rw[O.cell (p:=(A0 r 0)) bm];exact bk.cell 0
  have bf:wc.cell? (A0 j 2)=some (P0 I):=by rw[O.cell (p:=(A0 j 2)) bo];exact bl
  have ay:Cc ⟨w,r,a,f,bs,N,G,R,Z⟩ wc (FU k N bs.size) (Ey bs) none:=⟨Y,O,by simp[FU,Ey],rfl,⟨bR _,aB _,by simp[Ey],bR _,fun d=>⟨by simp[Ey],by simp[Ey]⟩⟩,fun cj bv=>by simp[FU]at bv,by simp[FU];omega,fun g b=>by cases b⟩;have av:=aj.o.CA rfl;have F:=Ahr ⟨w,r,a,f,bs,N,G,R,Z⟩ ar (k+1) wc (FU k N bs.size) (Ey bs) none (G 0) false false false false bd b8 br I ay b0 bq aj.o (fun g=>by rcases g with g|g<;>cases g) rfl (by simp[FU]);rw[EV av,D2 av]at F;have aq:Calls prog 62 #[P0 f,P0 I,.agg (X_7 bs.size)] wc fun b w'=>Az ⟨w,r,a,f,bs,N,G,R,Z⟩ wc (FU k N bs.size) none false (tryT G bs N (k+1) k 0 false (G 0) (Ey bs)) b w':=F
  have ah:=Aa aq;have a4:=Aa O;clear F aq ay ar Y O bu;go_wp2_with fail;have F:=ah.o;clear ah;generalize aw:tryT G bs N (k+1) k 0 false (G 0) (Ey bs)=o at*;have X:=Aa aw;clear aw;refine F.mono fun cc y ax=>?_
  have au:=ax.keeps;have v:Hid (Below w.heap.size w y):=a4.o.trans (au.below kX lB lB (fun j b=>by simp[FU,Value.ownBlock]at b) (fun j b=>by cases b));clear F au be bf;rcases ax with⟨d1,d2,L⟩|⟨d1,d2,J,K,L,x,ak,ba,ad,bb⟩|⟨d1,d2,J,K,b6,L,x⟩;subst d2;have h:Fm w (tryT G bs N (k+1) k 0 false (G 0) (Ey bs)) (.panicked (F7 o.e)) y:=by
   rw[X.o];exact⟨v.o,Or.inl ⟨d1,rfl⟩⟩
  have A:=Aa h;clear d1 L h;simp only;exact⟨rfl,A.o⟩
  . subst L;have ch:J.read.length=bs.size:=x.tr.len;have ca:q_ y f 49 (S0 a bs.size bs.size):=x.tr.U7;have a7:=Aa (LS y (some (A0 a 0)) bs.size bs.size (fun B=>J.read.getD B false) false ap (fun B U=>⟨a,0,rfl,by rw[eC];exact x.tr.X2 B U⟩));obtain⟨p,u,b4,a0⟩:∃ p u,K=P0 p/\FA u y wc.heap.size y.heap.size J.sv.ownBlock p o.t:=by
     exact Pw
    subst b4;have ac:endT o=(match o.st.rd.findIdx? (fun E=>!E)with|some i=>([],8,i)|none=>(o.t,0,0)):=by unfold endT;rw[d1,d2];rfl
    rw[<- ak]at ac;have V:=Aa ac;have a8:=Aa a0;have ai:=Aa d1;clear d1 d2 x ak ba ad bb ac a0;simp only;go_wp2_with fail;refine a7.o.mono ?_;rintro cd a2⟨b6,rfl,rfl,bi⟩;rcases bi with⟨i,rfl,ae,az,ao⟩|⟨rfl,an⟩
    . have S:J.read.findIdx? (fun E=>!E)=some i:=by
       rw[iM];refine⟨by omega,?_,fun B U=>?_⟩;have:=az;simp only[aZ]at this;rw[bA kX]at this;simp at this;simp[this];have:=ao B U;simp only[aZ]at this;rw[bA kX]at this;simp at this;simp[this]
      have h:Fm w (tryT G bs N (k+1) k 0 false (G 0) (Ey bs)) (.returned (.tuple #[.pointer none,I0 8,I0 i])) a2:=by
       have e:=V.o;rw[S]at e;simp only at e;rw[X.o];refine⟨v.o,Or.inr ⟨ai.o,.pointer none,?_,?_,?_⟩⟩;rw[e];rfl;rw[e];intro g;cases g
       intro _;rfl
      have A:=Aa h;have cg:(0:Int)<=(i:Int):=kX;clear h S az ao V;simp only;go_wp2;go_ret3;exact A.o
    . have S:J.read.findIdx? (fun E=>!E)=none:=by
       rw[jT];intro E bg;obtain⟨B,U,b⟩:=fT bg;have:=an B kX;simp only[aZ]at this;rw[bA U]at this;simp at this;rw[<- b,this];rfl
      have h:Fm w (tryT G bs N (k+1) k 0 false (G 0) (Ey bs)) (.returned (.tuple #[P0 p,I0 0,I0 0])) a2:=by
       have e:=V.o;rw[S]at e;simp only at e;rw[X.o];refine⟨v.o,Or.inr ⟨ai.o,P0 p,?_,?_,?_⟩⟩;rw[e];rfl;intro _;rw[e];exact⟨rfl,p,u,_,_,_,rfl,a8.o,aB _⟩;rw[e];intro g;exact absurd rfl g
      have A:=Aa h;clear h S an V;simp only;go_wp2;go_ret3;exact A.o
  subst L;have cb:y.cell? (A0 f 51)=some (I0 o.far):=by rw[<- x.far];exact x.tr.Age
  have h:∀ m,Fm w (tryT G bs N (k+1) k 0 false (G 0) (Ey bs)) (.returned (.tuple #[.pointer none,I0 8,I0 o.far])) (y.drewN m):=by
   intro m;have e:endT o=([],8,o.far):=by unfold endT;rw[d1,d2];rfl
   rw[X.o];refine⟨⟨v.o.os,v.o.tape,v.o.output,v.o.size,v.o.block⟩,Or.inr ⟨d1,.pointer none,?_,?_,?_⟩⟩;rw[e];rfl;rw[e];intro g;cases g
   intro _;rfl
  have A:=Aa h;clear h;clear d1 d2 x;simp only;go_wp2_with fail;go_quiet (fail);go_wp2;go_ret3;exact A.o _
theorem Tryz.Abh:(prog.info? 163).map (·.size)=some 2:=kZ
theorem Tryz.Abt:liesAt prog prog.depth 163 (2 / prog.cellsOf 163) 0 163 1=true:=kZ
def BT(l:aD UInt8):aD aI:=l.map fun c=>.int .u8 c.toNat
structure YY (w:aE) (B b:Nat) (l:aD UInt8) (v:aI):Prop where
 ex:∃ p,(p=.pointer none\/p=P0 b)/\Ac w b #[p,v] 163/\w.ownsRow B 5 1 v l.length (BT l)/\v.ownBlock≠some b
 ge:B<=b
def Lh(w:aE)(a b:Nat)(l:aD UInt8):Prop:=∃ e,YY w a b l e
theorem HO(w b a l f)(r:YY w b a l f):
 Calls prog 174 #[P0 a] w fun h w'=>h=.returned (.tuple #[])/\Below b w w'/\Ac w' a #[P0 a,f] 163/\w'.ownsRow b 5 1 f l.length (BT l)/\f.ownBlock≠some a/\w'.heap.size=w.heap.size/\∀ e,e≠a->w'.heap[e]? = w.heap[e]? := by
 obtain⟨K,B,j,A,o⟩:=r.ex;have x:=r.ge;have E:=j.c0;have F:=j.frozen 0;have g:=Aa j;have p:=Aa A;have u:w.shape? a=some (163,2):=by have:=g.o;unfold Ac at this;simp[World.shape?,this]
 obtain⟨J,k,y⟩:=Option.map_eq_some_iff.1 Tryz.Abh;rcases B with rfl|rfl
 . go_enter func174,ntmps174;go_wp2_with fail;rw[Lib.run_to_unsafe w (A0 a 0) underlying161 underlying280 k (by rw[y];decide) u (Nat.zero_lt_succ 1)];simp only[Result.andThen];rw[hU];go_wp2_with fail;rw[run_callFunc_extern func199 kZ kZ kZ (e:=Extern.AbiNoEscape.same) kZ];rw[Lib.run_noEscape];simp only[Result.andThen];rw[hU];go_wp2_with fail;rw[Lib.run_from_unsafe w (A0 a 0) underlying280 underlying161 k u Tryz.Abt];simp only[Result.andThen];rw[hU];go_wp2;go_end0;refine⟨rfl,(aO b w).setCell (p:=(A0 a 0)) x _,g.o.set 0 _,An p.o fun I h=>aN _ _ _ _ (fun v=>o (by rw[h,v])),o,by simp[World.setCell],fun e z=>aN _ _ _ _ z⟩
 go_enter func174,ntmps174;go_wp2_with fail;rw[Lib.run_neq_ptr_same w _ underlying161 k];go_wp2;go_end0;exact⟨rfl,aO _ _,g.o,p.o,o,rfl,fun _ _=>rfl⟩
theorem infoByte:(prog.info? 5).map (fun i=>(i.zero,i.size,i.bytes))=some (some (.int .u8 0),1,1):=kZ
theorem Dv(w g h l k j)(e:YY w g h l j)(am:l.length<=1000000000000)(ak:g<=w.heap.size):
 Calls prog 107 #[P0 h,.int .u8 k.toNat] w fun b w'=>b=.returned .nilIface/\Below g w w'/\∃ z,YY w' g h (l++[k]) z/\(z.ownBlock=j.ownBlock\/∃ u,z.ownBlock=some u/\w.heap.size<=u)/\w.heap.size<=w'.heap.size/\∀ a,a<w.heap.size->a≠h->some a≠j.ownBlock->w'.heap[a]? = w.heap[a]? := by
 obtain⟨ac,U,Z,aa,ab⟩:=cY infoByte;have S:=e.ge;go_enter func107,ntmps107;go_wp2_with fail;refine(HO w g h l j e).mono ?_;rintro b w1⟨rfl,v,p,F,E,y,r⟩;have L:=Aa y;have K:=Aa r;clear y r;have ao:=v.size;have al:=p.lt;have af:=p.c1;have J:=Aa p;have o:=Aa v;clear p v e;simp only;go_wp2_with
  (at_builtin
   refine cS _ rfl _ _ _ rfl g 5 ac _ 1 1 underlying40 U Z aa ab rfl kX j l.length (BT l) rfl (F.alloc _) (A0 w1.heap.size 0) 1 1 [.int .u8 k.toNat] rfl rfl (cD (cs:=#[.int .u8 k.toNat]) (t:=5) (fr:=(0,0)) (cJ w1 _)) (by simp[Value.oneCell']) kX lD kX lA (w1.heap.size+1) kY ?_;intro A ai ae X f B an;have x:=Ac.grown (Ac.alloc J.o (.cells #[.int .u8 k.toNat] 5)) f (fun b=>E b.symm);have ah:=x.c1;have aj:=x.frozen 1)
 go_ret;have y:=L.o;have r:=K.o;have Y:=f.size;simp at Y;have O:A≠h:=by
  rcases B with e|e;intro b;rw[b]at e;exact E e;omega
 refine⟨rfl,?_,_,⟨⟨_,Or.inr rfl,x.set 1 _,?_,?_⟩,S⟩,?_,by simp[World.setCell];omega,fun a ap I ad=>by rw[aN _ _ _ _ I,f.block a lA ad,bC _ _ _ kX];exact r a I⟩;refine⟨f.os.trans o.o.os,f.tape.trans o.o.tape,f.output.trans o.o.output,by simp[World.setCell];omega,fun a V=>?_⟩;rw[aN _ _ _ _ lB,f.block a lA (fun b=>by have:=(F.lt a b.symm).1;omega),bC _ _ _ kX];exact o.o.block a V;refine An (w:=ae) ?_ (fun u b=>aN _ _ _ _ (fun M=>?_));simpa[BT]using X;simp[Value.ownBlock]at b;simp only at M;omega;simp[Value.ownBlock];exact O;rcases B with e|e;exact Or.inl (by rw[e];rfl);exact Or.inr ⟨A,rfl,by omega⟩
theorem B6(w a b l f)(e:Lh w a b l)(o:l.length<=1000000000000)(k:a<=w.heap.size):
 Calls prog 107 #[P0 b,.int .u8 f.toNat] w fun g w'=>g=.returned .nilIface/\Below a w w'/\Lh w' a b (l++[f]):=by
 obtain⟨p,e⟩:=e;refine(Dv w a b l f p e o k).mono ?_;rintro g w'⟨rfl,h,r,j,_⟩;exact⟨rfl,h,r,j⟩
theorem M1(s):Lib.strCells s=BT s.data.toList:=rfl
theorem Km(w f g l s)(p:Lh w f g l)(ao:l.length+s.size<=1000000000000)(am:f<=w.heap.size):
 Calls prog 105 #[P0 g,.string s] w fun a w'=>a=.returned (.tuple #[I0 s.size,.nilIface])/\Below f w w'/\Lh w' f g (l++s.data.toList):=by
 obtain⟨af,Y,ac,ad,ae⟩:=cY infoByte;obtain⟨J,p⟩:=p;have X:=p.ge;go_enter func105,ntmps105;go_wp2_with fail;refine(HO w f g l J p).mono ?_;rintro a w1⟨rfl,z,v,F,aa,I,E⟩;have M:=Aa I;have L:=Aa E;have ap:=z.size;have an:=v.lt;have aj:=v.c1;have K:=Aa v;have o:=Aa z;simp only;go_wp2_with
  (at_builtin
   refine Lib.wpList_append_own_string _ rfl _ _ 40 9 rfl f 5 af underlying40 underlying9 Y ac ad ae J l.length (BT l) rfl F s rfl lD kX kX ?_;intro ah ai r h ar;have k:=Ac.grown K.o h (fun a=>aa a.symm);have ak:=k.c1;have al:=k.frozen 1;obtain⟨u,y,j,ab⟩:∃ u y j,ah=.slice u y j:=by
    rcases r.2 with⟨e,_⟩|⟨b,j,O,e,_⟩;exact⟨_,_,_,e⟩;exact⟨_,_,_,e⟩
   subst ab)
 go_ret2;have I:=M.o;have E:=L.o;have aq:=h.size;have B:∀ b,(Value.slice u y j).ownBlock=some b->b≠g:=by
  intro b a S;subst S;rcases r.2 with⟨e,_⟩|⟨b,j,O,e,_,A,_⟩;rw[e]at a;cases a
  rw[e]at a;simp[Value.ownBlock]at a;subst a;unfold Ac at k;rw[k]at A
  cases A
 refine⟨rfl,?_,_,⟨_,Or.inr rfl,k.set 1 _,?_,fun a=>B g a rfl⟩,X⟩;refine⟨h.os.trans o.o.os,h.tape.trans o.o.tape,h.output.trans o.o.output,by simp[World.setCell];omega,fun x Z=>?_⟩;rw[aN _ _ _ _ lB,h.block x kX (fun a=>by have:=(F.lt x a.symm).1;omega)];exact o.o.block x Z;refine An (w:=ai) ?_ (fun b a=>aN _ _ _ _ (B b a));rw[M1]at r;have U:BT (l++s.data.toList)=BT l++BT s.data.toList:=by simp[BT]
 have V:(l++s.data.toList).length=l.length+s.size:=kY;rw[U,V];exact r
theorem hz(h:p:=by
 have ab:d=0\/d=1\/d=2\/d=3\/d=4\/d=5\/d=6\/d=7:=kX;rcases ab with rfl|rfl|rfl|rfl|rfl|rfl|rfl|rfl<;>exact⟨rfl,rfl,rfl⟩):p:=h
def hoF:aM Ho->aI
 | none=>.nilFunc
 | some a=>CO (if a.low then 183 else 180)
def VG(a:aM Ho):aD aI:=[I0 ((a.getD MB).pl:Nat),I0 ((a.getD MB).w:Nat),hoF a]
def OF(a:Nat->aM Ho):Array aI:=((List.range 8).flatMap fun d=>VG (a d)).toArray
theorem PK(a d)(b:d<8):(OF a)[3*d]? = some (I0 (((a d).getD MB).pl:Nat))/\(OF a)[3*d+1]? = some (I0 (((a d).getD MB).w:Nat))/\(OF a)[3*d+2]? = some (hoF (a d)):=by
 exact hz
def S6(s:Sp):aD aI:=[I0 (s.a:Nat),I0 (s.b:Nat)]++VG (some s.ho)
def Adn(b:Nat)(a:aI)(g:Bool)(f e:aI):aD aI:=[P0 b,a,.bool g,f,e]
def KE(b:Nat)(a:aI)(g:Bool)(f e:aI):Array aI:=(E2++Adn b a g f e).toArray
def E6(f b:aI)(e:aD aI)(a:aD Nat):aD Nat:=f.ownBlock.toList++(b.ownBlock.toList++(e.filterMap Value.ownBlock++a))
def GP(c:Cx)(b:Nat)(w:aE)(z:aI)(r:aD Nat)(l:aD Wt):Prop:=
 ∃ k,Cr w b 192 6 z l.length k/\
  ∀ a (A:a<l.length),∃ h j e y x o p u f v g,((k.drop (a*6)).take 6=[P0 h,P0 j,P0 e]++VG (some l[a].ho))/\r[l[a].hid]? = some e/\
   BM p c.w0 u f h y l[a].As/\f<=c.w0.heap.size/\BK c.R x o l[a].As/\l[a].As.length<=1000/\GS (Cb l[a].n) w v g j l[a].v/\g<=b
structure BO (c:Cx) (B:Nat) (w:aE) (wb:Nat) (bv tv sv:aI) (svs:aD aI) (DR:aD Nat) (st:Wr):Prop where
 Ap:Ac w wb (KE c.gb bv st.wide tv sv) 120
 out:w.ownsRow B 5 1 bv st.out.length (BT st.out)
 wait:GP c B w tv DR st.wait
 Au:w.ownsRow B 197 1 sv svs.length svs
 FV:svs.length=st.Au.length
 sum:∀ (i:Nat) (s:aI) (l:aD Sp),svs[i]? = some s->st.Au[i]? = some l->w.ownsRow B 199 5 s l.length (l.flatMap S6)
 AS:∀ (i b:Nat) (f:Nat->aM Ho),DR[i]? = some b->st.AS[i]? = some f->Ac w b (OF f) 270
 DC:DR.length=st.AS.length
 nd:(wb::E6 tv sv svs DR).Nodup
 nb:∀ g,bv.ownBlock=some g->g ∉ wb::E6 tv sv svs DR
 ge:∀ b∈wb::E6 tv sv svs DR,B<=b/\b<w.heap.size
 A9:Below c.w0.heap.size c.w0 w
 Vs:c.w0.heap.size<=B
theorem DA{tv f g e a}(b:tv.ownBlock=some a):a∈E6 tv f g e:=by unfold E6;simp[b]
theorem Dg{g sv f e a}(b:sv.ownBlock=some a):a∈E6 g sv f e:=by unfold E6;simp[b]
theorem GK{h g a f}{b i:Nat}{s:aI}(h0:a[i]? = some s)(e:s.ownBlock=some b):b∈E6 h g a f:=by
 have:s∈a:=bH h0;unfold E6;simp only[aV,eL];exact Or.inr (Or.inr (Or.inl ⟨s,this,e⟩))
theorem Dy{g e f b}{a i:Nat}(h0:b[i]? = some a):a∈E6 g e f b:=by
 have:a∈b:=bH h0;unfold E6;simp[this]
theorem GP.B9{c a w w' f g l}(z:GP c a w f g l)(E:Below a w w')(L:∀ b,f.ownBlock=some b->w'.heap[b]? = w.heap[b]?):GP c a w' f g l:=by
 obtain⟨Z,A,B⟩:=z;refine⟨Z,A.blocks L,fun e K=>?_⟩;obtain⟨V,Y,F,X,U,x,y,O,I,S,J,h,j,k,o,p,r,u,v⟩:=B e K;exact⟨V,Y,F,X,U,x,y,O,I,S,J,h,j,k,o,p,r,Cb.mono (l[e].n+1) (x:=l[e].v) u (fun M _ aa=>E.block M kX) (aB _) (aB _),v⟩
theorem BO.next{c}{k}{w w'}{u}{z bv' j h}{r}{o}{st}{wide:Bool}{out:aD UInt8}(a:BO c k w u z j h r o st)(x:Below k w w')(p:∀ b,b∈E6 j h r o->w'.heap[b]? = w.heap[b]?)(B:Ac w' u (KE c.gb bv' wide j h) 120)(F:w'.ownsRow k 5 1 bv' out.length (BT out))(E:∀ e,bv'.ownBlock=some e->e ∉ u::E6 j h r o):
 BO c k w' u bv' j h r o {st with wide:=wide,out:=out}:=
 ⟨B,F,a.wait.B9 x (fun e f=>p e (DA f)),An a.Au (fun e f=>p e (Dg f)),a.FV,
  fun i s l g v=>An (a.sum i s l g v) (fun e f=>p e (GK g f)),
  fun i b A g v=>by have:=a.AS i b A g v;unfold Ac at*;rw[p b (Dy g)];exact this,a.DC,a.nd,E,
  fun b y=>⟨(a.ge b y).1,bM (a.ge b y).2 x.size⟩,a.A9.trans (x.mono a.Vs),a.Vs⟩
theorem BO.B9{c}{e}{w w'}{g}{h p k}{o}{j:aD Nat}{st:Wr}(b:BO c e w g h p k o j st)(y:Below e w w')(v:∀ a,e<=a->a<w.heap.size->w'.heap[a]? = w.heap[a]?):BO c e w' g h p k o j st:=by
 have u:∀ a,a∈g::E6 p k o j->w'.heap[a]? = w.heap[a]? := fun a f=>v a (b.ge a f).1 (b.ge a f).2
 have:=BO.next (bv':=h) (wide:=st.wide) (out:=st.out) b y (fun a f=>u a (aH _ f)) (by have:=b.Ap;unfold Ac at*;rw[u g aG];exact this) (An b.out fun r x=>by have:=b.out.lt r x;exact v r this.1 this.2) b.nb;exact this
theorem BO.pre{c f w b g u p r}{h:aD Nat}{st:Wr}(a:BO c f w b g u p r h st):Oo c w b:=by
 have j:=a.ge b aG;have v:=a.Vs;refine⟨a.A9,by omega,fun o x e=>?_,?_,j.2⟩;rw[a.Ap.cell o];unfold KE;have k:=(bI.1 e).1;rw[aQ,aW k,e];exact a.Ap.cell 45
theorem ik(h:p:=by
 refine⟨af.os,af.tape,af.output,by have:=af.size;simp[World.setCell];omega,fun k ae=>?_⟩;rw[aN _ _ _ _ lB];exact af.block k kX (fun e=>by have:=(h.out.lt k e.symm).1;omega)):p:=h
theorem il(h:p:=by
 have ab:=aH f o;have aa:b≠f:=fun e=>by have:=h.nd;rw[bZ]at this;exact this.1 (e▸o)
 rw[aN _ _ _ _ aa];exact af.block b (h.ge b ab).2 (fun e=>h.nb b e.symm ab)):p:=h
theorem B3{w:aE}{e:Nat}{f:TypeId}{j n:Nat}{b:aI}{k:aD aI}(g:w.ownsRow e f j b n k):∃ h a,b=.slice h n a:=by
 rcases g.2 with⟨rfl,rfl⟩|⟨p,a,o,rfl,_⟩;exact⟨_,_,rfl⟩;exact⟨_,_,rfl⟩
theorem RC(l m):BT (l++List.replicate m 0)=BT l++S8 m:=by simp[BT,S8]
theorem VB(a h g e b f):(KE a h g e b).setIfInBounds 46 f=KE a f g e b:=rfl
theorem ZS(e b h g f a):(KE e b h g f).setIfInBounds 47 (.bool a)=KE e b a g f:=rfl
theorem BO.app{c}{a}{w w1}{f}{j r p}{v}{u}{st}(h:BO c a w f j r p v u st)(g cap n)(l)(af:w.grownBy w1 j.ownBlock)(I:w1.ownsRow a 5 1 (S0 g n cap) (st.out++l).length (BT (st.out++l)))(B:j.ownBlock=some g\/w.heap.size<=g):
 BO c a (w1.setCell (A0 f 46) (S0 g n cap)) f (S0 g n cap) r p v u (B5 st l)/\Below a w (w1.setCell (A0 f 46) (S0 g n cap)):=by
 have J:=h.ge f aG;have A:g ∉ f::E6 r p v u:=by
  rcases B with y|y;exact h.nb g y;intro o;have:=(h.ge g o).2;omega
 have F:some f≠j.ownBlock:=fun e=>h.nb f e.symm aG
 have z:Below a w (w1.setCell (A0 f 46) (S0 g n cap)):=by
  exact ik
 have E:Ac w1 f (KE c.gb j st.wide r p) 120:=by
  have:=h.Ap;unfold Ac at*;rw[af.block f J.2 F];exact this
 refine⟨?_,z⟩;refine BO.next (bv':=S0 g n cap) (wide:=st.wide) (out:=st.out++l) h z (fun b o=>?_) (by have:=E.set 46 (S0 g n cap);rw[VB]at this;exact this) (An I fun q e=>?_) (fun q e=>?_);exact il;refine aN _ _ _ _ (fun x=>A ?_);simp[Value.ownBlock]at e;simp only at x;rw[e,x];exact aG;simp[Value.ownBlock]at e;rw[<- e];exact A
theorem IB(c h w a u p o B y st)(g:BO c h w a u p o B y st)(m)(L:0<m)(K:m<=4)(al:st.out.length<=1000000000):
 Calls prog 181 #[P0 a,I0 (m:Nat)] w fun f w'=>∃ e b,f=.returned (.slice (some (A0 e st.out.length)) m (b-st.out.length))/\BO c h w' a (S0 e (st.out.length+m) b) p o B y (B5 st (List.replicate m 0))/\Below h w w':=by
 obtain⟨Y,J,U,V,X⟩:=cY infoByte;have S:=g.ge a aG;have F:h<=w.heap.size:=kX;obtain⟨e,b,w1,O,A,z,I⟩:=Ib (P:=prog) w h 40 3 40 5 .i64 Y underlying40 underlying3 J U V X u st.out.length m (BT st.out) g.out L K kX F;have M:w1.ownsRow h 5 1 (S0 e (st.out.length+m) b) (st.out++List.replicate m 0).length (BT (st.out++List.replicate m 0)):=by
  rw[RC,aR,eJ];exact A
 have v:=g.app e b (st.out.length+m) (List.replicate m 0) z M I;have r:=Aa v.1;have E:=Aa v.2;obtain⟨k,j,rfl⟩:=B3 g.out;have Z:q_ w a 46 (.slice k st.out.length j):=g.Ap.cell 46;have x:Ac w1 a (KE c.gb (.slice k st.out.length j) st.wide p o) 120:=by
  have:=g.Ap;unfold Ac at*;rw[z.block a S.2 (fun f=>g.nb a f.symm aG)];exact this
 have ac:q_ w1 a 46 (.slice k st.out.length j):=x.cell 46;have ai:=x.frozen 46;have ah:(w1.setCell (A0 a 46) (S0 e (st.out.length+m) b)).cell? (A0 a 46)=some (S0 e (st.out.length+m) b):=r.o.Ap.cell 46;have ak:st.out.length+m<=b:=by
  rcases A.2 with⟨f,_⟩|⟨aj,aa,ab,f,_,_,am,_⟩
  cases f
  injection f with ad ae af;omega
 go_enter func181,ntmps181;go_wp2_with
  (at_builtin
   refine Lib.wpList_append_run _ rfl _ _ _ _ rfl _ _ rfl rfl _ _ O ?_)
 generalize w1.setCell (A0 a 46) (S0 e (st.out.length+m) b)=W at*;go_ret;exact⟨e,b,rfl,r.o,E.o⟩
theorem CF(b a n)(e:a.pl+a.w<=b.length):(putAt b a n).length=b.length:=by
 unfold putAt;simp only[aR,cX,dQ,BE];omega
theorem VO(e a n)(k:a.pl+a.w<=e.length)(b):(putAt e a n)[b]? = if a.pl<=b/\b<a.pl+a.w then some ((BP a.low a.w n).getD (b-a.pl) 0)else e[b]? := by
 unfold putAt;have f:(e.take a.pl).length=a.pl:=by rw[cX];omega
 have g:=BE a.low a.w n;by_cases h:b<a.pl;rw[aC kX,bO,aW kX,eB h];by_cases j:b<a.pl+a.w;rw[aF kX,bO,bG kX,f,aW kX,aZ,bA kX];rfl;rw[aC kX,bG (by rw[aR];omega),aR,f,g,eM];congr 1;omega
theorem BO.put{c}{u}{w w1 w2}{o}{v V S}{U}{K}{st}(e:BO c u w o v V S U K st)(a)(n h E)(A)(r:v=S0 h st.out.length E)(f:Below w.heap.size w w1)(ac:w1.heap[h]? = some (.cells A 5 (0,0)))(g:Up w1 w2 h a.pl 5 A (BP a.low a.w n))(M:a.pl+a.w<=st.out.length):
 BO c u w2 o v V S U K (L3 st a n)/\Below u w w2:=by
 obtain⟨X,aa,al,af⟩:=g.ex;have ae:=e.out.lt h (by rw[r];rfl);have L:=e.nb h (by rw[r];rfl);have an:=e.ge o aG;have I:Below u w w2:=⟨g.same.os.trans f.os,g.same.tape.trans f.tape,g.same.output.trans f.output,by rw[g.same.size];exact f.size,fun O au=>by rw[g.same.block O kX];exact f.block O kX⟩;refine⟨?_,I⟩;refine BO.next (bv':=v) (wide:=st.wide) (out:=putAt st.out a n) e I (fun z ah=>?_) ?_ ?_ e.nb;have J:=aH o ah;rw[g.same.block z (fun b=>L (b▸J))];exact f.block z (e.ge z J).2;have:=e.Ap;unfold Ac at*;rw[g.same.block o (fun b=>L (b▸aG)),f.block o an.2];exact this;have y:=CF st.out a n M;rcases e.out.2 with⟨b,_⟩|⟨aq,ao,F,b,Z,ad,aj,ai,ak,am⟩;rw[r]at b;cases b
 rw[r]at b;injection b with p ap Y;injection p with p;injection p with p _ _;subst p Y;have ab:F=A:=by
  have k:=f.block h ae.2;rw[ac,ad]at k;injection k with k;injection k with k;exact k.symm
 subst ab;refine⟨by simp[BT],Or.inr ⟨h,E,X,by rw[r,y],Z,aa,by rw[y];exact aj,ai,by rw[al];exact ak,?_⟩⟩;rw[y];apply List.ext_getElem?;intro j;have B:(F.toList.take (st.out.length*1))[j]? = (BT st.out)[j]? := by rw[am]
 by_cases ar:j<st.out.length;rw[eB kX]at B;rw[eB kX,fH,af j,BE];rw[fH]at B;unfold BT;rw[fI,VO st.out a n M j];by_cases x:a.pl<=j/\j<a.pl+a.w;rw[aF x,aF x];rfl;rw[aC x,aC x,B];unfold BT;rw[fI];rw[fG (by rw[cX];omega),fG (by simp[BT,y];omega)]
theorem Di(h:p:=by
 have:=(bI.1 a).1;simp at this;omega):p:=h
abbrev ly(h:PLift q->p:=by
 intro aa;have I:=Ac.new w #[I0 (f.pl:Nat),I0 (f.w:Nat),.func (.func (BR f.low)) #[] #[]] 190;have j:=(aO w.heap.size w).alloc (aB _) (.cells #[I0 (f.pl:Nat),I0 (f.w:Nat),.func (.func (BR f.low)) #[] #[]] 190);revert I j;exact aa.1):p:=h ⟨z⟩
theorem TQ:∀ a W,Sem.run prog (callFunc 183 a) W=.ok (.enter 183 a) W:=fun a W=>by
 unfold callFunc;go_simp;simp[Tryz.f183]
theorem Rv:∀ a W,Sem.run prog (callFunc 180 a) W=.ok (.enter 180 a) W:=fun a W=>by
 unfold callFunc;go_simp;simp[Tryz.f180]
def BR(a:Bool):Nat:=if a then 183 else 180
theorem Y4(a):∀ b W,Sem.run prog (callFunc (BR a) b) W=.ok (.enter (BR a) b) W:=by
 cases a
 exact Rv;exact TQ
theorem TG(w g b e m f n t a)(h:Ac w b a t)(k:m<=4)(j:e+m<=a.size)(o:n<4294967296):
 Calls prog (BR g) #[.slice (some (A0 b e)) m f,.int .u32 (n:Nat)] w fun p w'=>p=.returned (.tuple #[])/\Up w w' b e t a (BP g m n):=by
 cases g
 exact Jf w b e m f n t a h k j o;exact JL w b e m f n t a h k j o
structure Jx (h:Ho) (n:Nat):Prop where
 lt:h.pl+h.w<=n
 pos:1<=h.w
 le:h.w<=4
theorem Jj(c u w p h K F J B st)(o:BO c u w p h K F J B st)(f)(x:Jx f st.out.length)(n)(ab:n<4294967296)(aq:st.out.length<=1000000000):
 Calls prog 80 #[P0 p,.agg #[I0 (f.pl:Nat),I0 (f.w:Nat),.func (.func (BR f.low)) #[] #[]],.int .u32 (n:Nat)] w fun k w'=>k=.returned (.tuple #[])/\BO c u w' p h K F J B (L3 st f n)/\Below u w w'/\∀ a,a<w.heap.size->some a≠h.ownBlock->w'.heap[a]? = w.heap[a]? := by
 have O:=x.lt;have aj:=x.pos;have S:=x.le;have ad:=o.ge p aG;rcases o.out.2 with⟨k,h0⟩|⟨b,e,r,v,ak,V,au,ar,ax,ay⟩;omega;have Y:=o.out.lt b (by rw[v];rfl);refine ly ?_;intro I j;have ae:=I.c0;have af:=I.c1;have ah:=I.c2;have ai:(w.alloc (.cells #[I0 (f.pl:Nat),I0 (f.w:Nat),.func (.func (BR f.low)) #[] #[]] 190)).cell? (A0 p 46)=some (S0 b st.out.length e):=by
  rw[aL (w:=w) (bC _ _ _ ad.2)];exact(o.Ap.cell 46).trans (congrArg some v)
 have X:(w.alloc (.cells #[I0 (f.pl:Nat),I0 (f.w:Nat),.func (.func (BR f.low)) #[] #[]] 190)).heap[b]? = some (.cells r 5 (0,0)):=by rw[bC _ _ _ Y.2];exact V
 have M:=Aa o;have z:=Aa X;have g:=Aa j;have y:=Aa v;have aw:=Y4 f.low;have U:f.pl+f.w<=r.size:=kX;have a0:IntKind.i64.wrap ((f.pl:Int)+(f.w:Int))=(f.pl:Int)+(f.w:Int):=lI;have al:(f.pl:Int)+(f.w:Int)<=(e:Int):=kX;have am:¬ (e<f.pl+f.w):=kX;have an:¬ ((e:Int)<(f.pl:Int)+(f.w:Int)):=kX;have ao:¬ ((f.pl:Int)+(f.w:Int)<(f.pl:Int)):=kX;have ap:¬ ((f.pl:Int)+(f.w:Int)<0):=kX;have av:(if e=f.pl then some ((A0 b 0):Addr)else some (A0 b f.pl))=some (A0 b f.pl):=aC kX;have az:((f.pl:Int)+(f.w:Int)).toNat-f.pl=f.w:=kX;go_enter func80,ntmps80;go_wp2_with fail;generalize(w.alloc (.cells #[I0 (f.pl:Nat),I0 (f.w:Nat),.func (.func (BR f.low)) #[] #[]] 190))=W at*;refine AX 15 _ rfl rfl kZ kZ ?_;refine gq ?_;refine(TG (W.drewN 1) f.low b f.pl f.w (e-f.pl) n 5 r z.o S U ab).mono ?_;rintro k w2⟨rfl,E⟩;have A:=Aa (M.o.put (w1:=W.drewN 1) f n b e r y.o ⟨g.o.os,g.o.tape,g.o.output,g.o.size,g.o.block⟩ z.o E O);have L:Hid (∀ a,a<w.heap.size->some a≠h.ownBlock->w2.heap[a]? = w.heap[a]?):=by
  have:∀ a,a<w.heap.size->some a≠h.ownBlock->w2.heap[a]? = w.heap[a]? := fun a Z ac=>by
   rw[E.same.block a (fun k=>ac (by rw[y.o,k];rfl))];exact g.o.block a Z
  exact this
 simp only;refine bL ?_;go_wp2;go_end0;exact⟨rfl,A.o.1,A.o.2,L.o⟩
theorem BO.wider{c g w w1 a h p o x u st}(b:BO c g w a h p o x u st)(e)(f:Below w.heap.size w w1):
 BO c g (w1.setCell (A0 a 47) (.bool e)) a h p o x u {st with wide:=e}/\Below g w (w1.setCell (A0 a 47) (.bool e)):=by
 have E:=b.ge a aG;have r:Below g w (w1.setCell (A0 a 47) (.bool e)):=⟨f.os,f.tape,f.output,by have:=f.size;simp[World.setCell];omega,fun F k=>by rw[aN _ _ _ _ lB];exact f.block F kX⟩;have B:Ac w1 a (KE c.gb h st.wide p o) 120:=by have:=b.Ap;unfold Ac at*;rw[f.block a E.2];exact this
 refine⟨?_,r⟩;have k:∀ q,q<w.heap.size->q≠a->(w1.setCell (A0 a 47) (.bool e)).heap[q]? = w.heap[q]? := fun q z A=>by rw[aN _ _ _ _ A];exact f.block q z
 refine BO.next (bv':=h) (wide:=e) (out:=st.out) b r (fun q v=>?_) (by have:=B.set 47 (.bool e);rw[ZS]at this;exact this) (An b.out fun q j=>?_) b.nb;exact k q (b.ge q (aH _ v)).2 (fun j=>by have:=b.nd;rw[bZ]at this;exact this.1 (j▸v));exact k q (b.out.lt q j).2 (fun y=>b.nb q j (y▸aG))
theorem ig(h:p:=by
 rw[aZ]
 cases af:(segs y.length y)[v.n]? with
 | none=>exact⟨by simp,by simp⟩
 | some k=>exact aa k (bH af)):p:=h
theorem mz(h:p:=by
 rename_i p;have:=ao (by rw[p];rfl);exact(Dl h _).mono (aB _) (by rw[BE];omega)):p:=h
def CR(b:aD It):Prop:=b.length<=1000/\∀ a∈b,kW a.c=true->1<=a.w.toNat/\a.w.toNat<=4
theorem CR.sub{e l}(a:CR l)(b:e.Sublist l):CR e:=⟨bQ b.length_le a.1,fun g f=>a.2 g (b.subset f)⟩
theorem CR.tail{b a}(e:CR (b::a)):CR a:=e.sub (List.sublist_cons_self b a)
theorem Oe{c}(a:Ae c=true):kW c=true:=by
 simp only[Ae,cH,dA]at a;rcases a with rfl|rfl<;>rfl
theorem Rr(a):∀ l,l.length<=a->(segs a l).flatten=l:=by
 induction a with
 | zero=>intro l b;cases l with
  | nil=>rfl
  | cons g f=>simp at b
 | succ a e=>intro l b;cases l with
  | nil=>rfl
  | cons g f=>
   simp only[segs,cR];rw[e _ (by simp at b⊢;omega),cA,eH]
theorem BK.YR{R}:∀ f j g a,TWf R f j g a->∀ b∈a,kW b.c=true->1<=b.w.toNat/\b.w.toNat<=4
 | 0,_,_,_,h,_,_,_=>h.elim
 | _+1,_,_,[],h,_,_,_=>h.elim
 | f+1,j,g,y::r,h,b,e,hw=>by
  obtain⟨k,_,_,_,_,_,o⟩:=h;rcases bB.1 e with rfl|e;have:=k.w hw;omega;rw[<- Rr r.length r (aB _)]at e;obtain⟨a,p,u⟩:=List.mem_flatten.1 e;exact BK.YR f _ _ a (o a p) b u hw
theorem BK.Xx{R f e a}(b:BK R f e a)(h:a.length<=1000):CR a:=⟨h,by obtain⟨g,b⟩:=b;exact BK.YR g f e a b⟩
theorem Mu(a):∀ l,(segs a l).length<=a:=by
 induction a with
 | zero=>intro l;simp[segs]
 | succ a b=>intro l;cases l with
  | nil=>simp[segs]
  | cons f e=>simp only[segs,aX];exact Nat.succ_le_succ (b _)
theorem Ch(e):∀ l b,b∈segs e l->b.Sublist l:=by
 induction e with
 | zero=>intro l b a;simp[segs]at a
 | succ e g=>intro l b a;cases l with
  | nil=>simp[segs]at a
  | cons f h=>
   simp only[segs,bB]at a;rcases a with rfl|a;exact(List.take_sublist _ _).cons_cons f;exact((g _ _ a).trans (List.drop_sublist _ _)).cons f
structure BX (st:Wr):Prop where
 hole:∀ (i:Nat) (f:Nat->aM Ho) (d:Nat) (ho:Ho),st.AS[i]? = some f->f d=some ho->Jx ho st.out.length
 Au:st.Au≠[]
structure HU (N g:Nat) (st st':Wr):Prop where
 inv:BX st'
 ge:st.out.length<=st'.out.length
 le:st'.out.length<=st.out.length+g
 AS:∀ i,i<N->st'.AS[i]? = st.AS[i]?
 DC:st.AS.length<=st'.AS.length
 Au:st'.Au.length=st.Au.length
 sum:(st'.Au.getLastD []).length<=(st.Au.getLastD []).length+g
 wait:st'.wait.length<=st.wait.length+g
 set:∀ (i:Nat) (f:Nat->aM Ho) (d:Nat) (ho:Ho),st.AS[i]? = some f->f d=some ho->∃ f' ho',st'.AS[i]? = some f'/\f' d=some ho'
theorem HU.refl{N}{st:Wr}(f:BX st):HU N 0 st st:=⟨f,aB _,aB _,fun _ _=>rfl,aB _,rfl,aB _,aB _,fun _ e _ g a b=>⟨e,g,a,b⟩⟩
theorem HU.trans{N g f}{e b c:Wr}(h:HU N g e b)(a:HU N f b c):HU N (g+f) e c:=
 ⟨a.inv,bQ h.ge a.ge,by have:=h.le;have:=a.le;omega,fun i j=>(a.AS i j).trans (h.AS i j),bQ h.DC a.DC,a.Au.trans h.Au,by have:=h.sum;have:=a.sum;omega,by have:=h.wait;have:=a.wait;omega,fun i p d u e b=>by
  obtain⟨r,v,k,o⟩:=h.set i p d u e b;exact a.set i r d v k o⟩
theorem HU.mono{N e g h}{f b:Wr}(a:HU N g f b)(j:e<=N)(k:g<=h):HU e h f b:=
 ⟨a.inv,a.ge,by have:=a.le;omega,fun i o=>a.AS i kX,a.DC,a.Au,by have:=a.sum;omega,by have:=a.wait;omega,a.set⟩
theorem Jx.more{b n m}(a:Jx b n)(e:n<=m):Jx b m:=⟨bQ a.lt e,a.pos,a.le⟩
theorem B2{st:Wr}(e:BX st)(hid d):(holeOf st hid d).pl+(holeOf st hid d).w<=st.out.length:=by
 unfold holeOf
 cases hid with
 | none=>simp[MB]
 | some i=>
  simp only
  cases a:st.AS[i]? with
  | none=>simp[a,MB]
  | some b=>
   simp only[aZ,a,fP]
   cases f:b d with
   | none=>simp[MB]
   | some g=>exact(e.hole i b d g a f).lt
theorem Dl{N}{st:Wr}(g:BX st)(l):HU N l.length st (B5 st l):=
 ⟨⟨fun i e d f a b=>(g.hole i e d f a b).more (by simp[B5]),g.Au⟩,by simp[B5],by simp[B5],fun _ _=>rfl,aB _,rfl,by simp[B5],by simp[B5],fun _ e _ f a b=>⟨e,f,a,b⟩⟩
theorem ID{st}(a n)(b:a.pl+a.w<=st.out.length):(Ba st a n).out.length=st.out.length:=CF _ _ _ b
theorem D8{N}{st:Wr}(g:BX st)(a n)(j:a.pl+a.w<=st.out.length):HU N 0 st (Ba st a n):=by
 have h:=ID (st:=st) a n j;exact⟨⟨fun i f d k b e=>(g.hole i f d k b e).more (eQ h.symm),g.Au⟩,by omega,by omega,fun _ _=>rfl,aB _,rfl,aB _,aB _,fun _ f _ a b e=>⟨f,a,b,e⟩⟩
theorem Vw{N}{st:Wr}(a:BX st)(s):HU N 1 st (Jr st s):=by
 refine⟨⟨a.hole,by simp[Jr]⟩,aB _,by simp[Jr],fun _ _=>rfl,aB _,?_,?_,by simp[Jr],fun _ f _ g b e=>⟨f,g,b,e⟩⟩;have:0<st.Au.length:=gO.2 a.Au;simp only[Jr,aR,gK,eI];omega;simp[Jr]
theorem R3{N}{st:Wr}(a:BX st)(f:Wt):HU N 1 st (HR st f):=
 ⟨⟨a.hole,a.Au⟩,aB _,by simp[HR],fun _ _=>rfl,aB _,rfl,by simp[HR],by simp[HR],fun _ g _ h b e=>⟨g,h,b,e⟩⟩
theorem Hu{r i}{st:Wr}(p:BX st)(A:CR r)(x:silV r=true):HU i 8 st (wSil r i st):=by
 cases r with
 | nil=>cases x
 | cons f E=>
  unfold wSil;simp only;by_cases v:f.c=39;rw[aF v];exact(Dl p _).mono (aB _) kY;rw[aC v];have z:Ae f.c=true:=by simpa[silV,v]using x
  obtain⟨w1,w2⟩:=A.2 f aG (Oe z);refine⟨⟨fun e y d o b a=>?_,p.Au⟩,by simp[B5,Ef],by simp[B5,Ef];omega,fun e B=>?_,by simp[B5,Ef],rfl,by simp[B5,Ef],by simp[B5,Ef],fun e y d o b a=>?_⟩
  . simp only[B5,Ef,aR,eJ]at b⊢;rw[dW]at b
    cases k:st.AS[e]? with
    | none=>rw[k]at b;cases b
    | some u=>
     rw[k]at b;have h:=dH b;dsimp only at h;by_cases g:i=e;rw[aF g]at h;subst h;dsimp only at a;by_cases j:d=f.d.toNat;rw[aF j]at a
     cases a
     exact⟨aB _,w1,w2⟩;rw[aC j]at a;exact(p.hole e u d o k a).more kX;rw[aC g]at h;subst h;exact(p.hole e u d o k a).more kX
  . simp only[B5,Ef];rw[dW]
    cases k:st.AS[e]? with
    | none=>rfl
    | some u=>
     show some _=some _;dsimp only;rw[aC kX]
  simp only[B5,Ef];rw[dW,b];by_cases g:i=e;by_cases j:d=f.d.toNat;exact⟨_,⟨st.out.length,f.w.toNat,decide (f.c=107)⟩,rfl,by dsimp only;rw[aF g,aF j]⟩;exact⟨_,o,rfl,by dsimp only;rw[aF g,aC j];exact a⟩;exact⟨_,o,rfl,by dsimp only;rw[aC g];exact a⟩
def Od{T:Type}(s:T->Nat)(W:aD It->aM Nat->T->Wr->Wr):Prop:=∀ a hid b st,CR a->BX st->HU st.AS.length (10000*s b) st (W a hid b st)
theorem Nx{T:Type}{s:T->Nat}{W:aD It->aM Nat->T->Wr->Wr}(j:Od s W)(i):∀ (e:aD (aD It)) (f:aD T) (st:Wr),(∀ k∈e,CR k)->BX st->i<=st.AS.length->
 HU i (8*e.length+10000*(f.map s).sum) st (wKids W i e f st)
 | [],f,st,_,a,_=>(HU.refl a).mono (aB _) (bR _)
 | k::e,f,st,g,a,hi=>by
  unfold wKids;by_cases o:silV k=true;rw[aF o];have b:=Hu (i:=i) a (g k aG) o;have h:=Nx j i e f _ (fun k a=>g k (aH _ a)) b.inv (bQ hi b.DC);exact(b.trans h).mono (aB _) lJ;rw[aC o]
  cases f with
  | nil=>exact(HU.refl a).mono (aB _) (bR _)
  | cons p r=>
   have b:=(j k (some i) p st (g k aG) a).mono hi (aB _);have h:=Nx j i e r _ (fun k a=>g k (aH _ a)) b.inv (bQ hi b.DC);exact(b.trans h).mono (aB _) (by simp only[aX,bX,cU];omega)
theorem J7{T:Type}{s:T->Nat}{W:aD It->aM Nat->T->Wr->Wr}(f:Od s W)(a)(g:CR a)(N):∀ (h:aD T) (st:Wr),BX st->N<=st.AS.length->
 HU N (10000*(h.map s).sum) st (wMany W a h st)
 | [],st,e,_=>(HU.refl e).mono (aB _) (bR _)
 | y::ys,st,e,hN=>by
  have b:=(f a none y st g e).mono hN (aB _);have j:=J7 f a g N ys _ b.inv (bQ hN b.DC);exact(b.trans j).mono (aB _) lP
theorem Vz{T:Type}{s:T->Nat}{W:aD It->aM Nat->T->Wr->Wr}(e:Od s W)(k hid)(v:Nd T)(st:Wr)(x:CR k)(h:BX st):
 HU st.AS.length (8008+v.run.length+10000*(v.kids.map s).sum) st (GB W k hid v st):=by
 unfold GB
 cases k with
 | nil=>exact(HU.refl h).mono (aB _) (bR _)
 | cons r y=>
  have ao:=x.2 r aG;have g:=x.tail;have aa:∀ k∈segs y.length y,CR k:=fun k A=>g.sub (Ch _ _ _ A)
  simp only;split;exact mz;split;exact mz;split;exact(Dl h _).mono (aB _) lA;split;exact(Dl h _).mono (aB _) kX;split;have a:=D8 (N:=st.AS.length) h _ v.run.length (B2 h hid r.d.toNat);exact(a.trans (Dl a.inv _)).mono (aB _) kX;split;have u:BX {st with AS:=st.AS++[fun _=>none]}:=⟨fun i j d o a b=>by
   by_cases f:i<st.AS.length;simp only[aW f]at a;exact h.hole i j d o a b;simp only[bG (eZ f)]at a;have h0:i-st.AS.length=0:=by
    exact Di
   rw[h0]at a
   cases a
   exact absurd b kY,h.Au⟩
  have b:=Nx e st.AS.length (segs y.length y) v.kids _ aa u kY;have c:=Mu y.length y;have d:=g.1;refine(HU.trans (g:=0) ?_ b).mono (aB _) kX;exact⟨u,aB _,aB _,fun i f=>aW f,by simp,rfl,aB _,aB _,fun i j d o a b=>⟨j,o,by rw[aW (bI.1 a).1];exact a,b⟩⟩;split
  . cases E:v.kids with
    | nil=>exact(HU.refl h).mono (aB _) (bR _)
    | cons B F=>
     have z:CR ((segs y.length y).getD v.n []):=by
      exact ig
     exact(e _ none B st z h).mono (aB _) lP
  split;exact(J7 e y g st.AS.length v.kids st h (aB _)).mono (aB _) kX;split;have a:=D8 (N:=st.AS.length) h _ v.kids.length (B2 h hid r.d.toNat);have b:=J7 e y g st.AS.length v.kids _ a.inv a.DC;exact(a.trans b).mono (aB _) kX;exact(HU.refl h).mono (aB _) (bR _)
theorem EH{G}(b:∀ i,CR (G i)):∀ n h q,ruleEnd G n h=some q->CR q
 | 0,_,_,a=>by cases a
 | _+1,[],_,a=>by cases a
 | n+1,g::r,q,a=>by
  unfold ruleEnd at a;have e:=b g.r.toNat
  cases f:G g.r.toNat with
  | nil=>rw[f]at a;cases a
  | cons j k=>
   rw[f]at a e;simp only at a;split at a;exact EH b n _ q a
   cases a;exact e
theorem Jz{n}{s:Tr n->Nat}{G:Nat->aD It}(h:∀ i,CR (G i)){W:aD It->aM Nat->Tr n->Wr->Wr}(f:Od s W)(hid)(b:Nd (Tr n))(st)(a:BX st):∀ g,CR g->
 HU st.AS.length (g.length+(8008+b.run.length+10000*(b.kids.map s).sum)) st (wIn G W g hid b st)
 | [],_=>(HU.refl a).mono (aB _) (bR _)
 | x::r,hk=>by
  have e:=Jz h f hid b st a r hk.tail;unfold wIn;split;exact(e.trans (D8 e.inv _ _ (B2 e.inv hid x.d.toNat))).mono (aB _) lJ;split;exact(e.trans (Vw e.inv _)).mono (aB _) lJ;split;exact(R3 a _).mono (aB _) lJ;split;split;exact(HU.refl a).mono (aB _) (bR _);rename_i q j;exact(Vz f q none b st (EH h 8 _ q j) a).mono (aB _) kX;exact(Vz f (x::r) hid b st hk a).mono (aB _) kX
theorem DL{G:Nat->aD It}(b:∀ i,CR (G i)):∀ n,Od (szT n) (BH G n)
 | 0=>fun _ _ _ _ _ a=>(HU.refl a).mono (aB _) (bR _)
 | n+1=>fun g hid h st e a=>by
  have f:=Jz b (DL b n) hid h st a g e;have j:=e.1;refine f.mono (aB _) ?_;unfold szT;omega
section
theorem hg(h:p:=by
 rcases aa with e|e|e<;>rw[e]<;>rfl):p:=h
structure We where
 As:aD It
 n:Nat
 t:Nat
 hid:Nat
 ho:Ho
structure Dp where
 o:aD UInt8
 ts:aD (Ho × Nat)
 es:aD We
 cur:aD Sp
 AS:aD (Nat->aM Ho)
structure Pr where
 p:Nat
 ok:Bool
 D:Dp
structure Mx where
 s:aA
 sk:Nat->Nat
 rn:Nat->aD UInt8 × Nat
 nm:Nat->Nat × Nat
structure E5 (m:Mx):Prop where
 s8:m.s.size<=8000
 sk:∀ a,Al m.s a->BG m.s (a,0) (m.sk a)/\a<=m.sk a/\(a<m.s.size->a<m.sk a)/\Al m.s (m.sk a)
 rn:∀ a,Al m.s a->bt m.s a=34->E0 m.s (m.rn a).1 (a+1) (m.rn a).2/\Al m.s (m.rn a).2
 nm:∀ a,Al m.s a->N4 m.s a->Tn m.s a (m.nm a).1 (m.nm a).2/\Al m.s (m.nm a).2
theorem Afu(s)(z:s.size<=8000):∃ m,m.s=s/\E5 m:=by
 have v:∀ a,∃ b,Al s a->BG s (a,0) b/\a<=b/\(a<s.size->a<b)/\Al s b:=fun a=>by
  by_cases e:Al s a;obtain⟨o,B⟩:=e;obtain⟨b,A⟩:=Af3 o a B 0;exact⟨b,fun _=>A⟩;exact⟨0,fun f=>absurd f e⟩
 have x:∀ a,∃ b:aD UInt8 × Nat,Al s a->bt s a=34->E0 s b.1 (a+1) b.2/\Al s b.2:=fun a=>by
  by_cases e:Al s a/\bt s a=34;obtain⟨l,b,f⟩:=e.1.run e.2;exact⟨(l,b),fun _ _=>f⟩;exact⟨([],0),fun f g=>absurd ⟨f,g⟩ e⟩
 have y:∀ a,∃ b:Nat × Nat,Al s a->N4 s a->Tn s a b.1 b.2/\Al s b.2:=fun a=>by
  by_cases e:Al s a/\N4 s a;obtain⟨l,b,f⟩:=e.1.num e.2;exact⟨(l,b),fun _ _=>f⟩;exact⟨(0,0),fun f g=>absurd ⟨f,g⟩ e⟩
 obtain⟨p,h⟩:=jC.1 v;obtain⟨r,j⟩:=jC.1 x;obtain⟨u,k⟩:=jC.1 y;exact⟨⟨s,p,r,u⟩,rfl,z,h,j,k⟩
def dHole(D:Dp)(hid:aM Nat)(d:Nat):Ho:=match hid with
 | none=>MB
 | some i=>((D.AS.getD i fun _=>none) d).getD MB
def Ek(D:Dp)(l:aD UInt8):Dp:={D with o:=D.o++l}
def Dx(D:Dp)(a:Ho)(n:Nat):Dp:={D with ts:=D.ts++[(a,n)]}
def Ui(D:Dp)(a:Sp):Dp:={D with cur:=D.cur++[a]}
def HB(D:Dp)(a:We):Dp:={D with es:=D.es++[a]}
def Ou(D:Dp):Dp:={D with AS:=D.AS++[fun _=>none]}
def IZ(a:aD It)(i:Nat)(D:Dp):Dp:=match a with
 | []=>D
 | x::_=>if x.c=39 then Ek D [UInt8.ofNat x.b.toNat]
  else Ek {D with AS:=D.AS.modify i fun b a=>if a=x.d.toNat then some ⟨D.o.length,x.w.toNat,decide (x.c=107)⟩else b a} (List.replicate x.w.toNat 0)
def Gu(a:Pr)(b:Nat->Dp->Pr):Pr:=if a.ok=true then b a.p a.D else a
def pKids(s:aA)(W:aD It->Nat->Dp->Pr)(a:Nat):aD (aD It)->Nat->Bool->Dp->Pr
 | [],i,_,D=>⟨i+1,decide (bt s i=41),D⟩
 | k::ks,i,sm,D=>if silV k=true then pKids s W a ks i sm (IZ k a D)else if sm=true/\bt s i≠32 then⟨i,false,D⟩else Gu (W k (if sm=true then i+1 else i) D) fun b D=>pKids s W a ks b true D
def pList(s:aA)(W:Nat->Dp->Pr)(b:Nat->Dp->Dp):Nat->Nat->Nat->Dp->Pr
 | 0,i,_,D=>⟨i,false,D⟩
 | f+1,i,a,D=>if bt s i=93 then⟨i+1,true,b a D⟩else if a≠0/\bt s i≠32 then⟨i,false,D⟩else Gu (W (if a=0 then i else i+1) D) fun e D=>pList s W b f e (a+1) D
def KV(m:Mx)(W:aD It->aM Nat->Nat->Dp->Pr)(b:aD It)(hid:aM Nat)(t:Nat)(D:Dp):Pr:=match b with
 | []=>⟨t,false,D⟩
 | x::a=>
  if x.c=110\/x.c=108 then(if N4 m.s t/\(m.nm t).1<256 ^ x.w.toNat then⟨(m.nm t).2,true,Ek D (BP (decide (x.c=108)) x.w.toNat (m.nm t).1)⟩else⟨t,false,D⟩)
  else if x.c=39 then⟨t+1,decide (bt m.s t=45),Ek D [UInt8.ofNat x.b.toNat]⟩
  else if x.c=46\/x.c=114 then(if bt m.s t=34 then⟨(m.rn t).2,true,if x.c=114 then Dx (Ek D (m.rn t).1) (dHole D hid x.d.toNat) (m.rn t).1.length else Ek D (m.rn t).1⟩else⟨t,false,D⟩)
  else if x.c=40 then(if bt m.s t=40 then pKids m.s (fun b i D'=>W b (some D.AS.length) i D') D.AS.length (segs a.length a) (t+1) false (Ou D)else⟨t,false,D⟩)
  else if x.c=47 then(if bt m.s t=47 then W ((segs a.length a).getD (bt m.s (t+1)-48).toNat []) none (t+3) D else⟨t,false,D⟩)
  else if x.c=42\/x.c=116 then(if bt m.s t=91 then pList m.s (W a none) (fun e D=>if x.c=116 then Dx D (dHole D hid x.d.toNat) e else D) (m.s.size+3) (t+1) 0 D else⟨t,false,D⟩)
  else⟨t,false,D⟩
def pIn(m:Mx)(G:Nat->aD It)(n:Nat)(W:aD It->aM Nat->Nat->Dp->Pr):aD It->aM Nat->Nat->Dp->Pr
 | [],_,t,D=>⟨t,false,D⟩
 | x::a,hid,t,D=>
  if x.c=119 then⟨(pIn m G n W a hid t D).p,(pIn m G n W a hid t D).ok,Dx (pIn m G n W a hid t D).D (dHole D hid x.d.toNat) ((pIn m G n W a hid t D).D.o.length-D.o.length)⟩
  else if x.c=115 then⟨(pIn m G n W a hid t D).p,(pIn m G n W a hid t D).ok,Ui (pIn m G n W a hid t D).D ⟨D.o.length,(pIn m G n W a hid t D).D.o.length,dHole D hid x.d.toNat⟩⟩
  else if x.c=64 then⟨m.sk t,true,HB D ⟨a,n,t,hid.getD 0,dHole D hid x.d.toNat⟩⟩
  else if x.c=82 then(match ruleEnd G 8 (x::a)with|none=>⟨t,false,D⟩|some q=>KV m W q none t D)
  else KV m W (x::a) hid t D
def pT(m:Mx)(G:Nat->aD It):Nat->aD It->aM Nat->Nat->Dp->Pr
 | 0,_,_,t,D=>⟨t,false,D⟩
 | n+1,k,hid,t,D=>pIn m G n (pT m G n) k hid t D
def V7(m:Mx)(a:We):Nat:=10000*(m.sk a.t-a.t)+2*a.As.length+1
def B4(m:Mx)(dn:Nat)(D:Dp):Nat:=D.o.length+D.ts.length+D.cur.length+D.es.length+((D.es.drop dn).map (V7 m)).sum
structure PJ (m:Mx) (dn t:Nat) (D:Dp) (q:Nat) (R:Pr):Prop where
 ok:R.ok=true->Al m.s R.p/\t<=R.p
 FI:B4 m dn R.D+10000*(if R.ok=true then m.s.size+1-R.p else 0)<=B4 m dn D+10000*(m.s.size+1-t)+q
 es:∃ new,R.D.es=D.es++new
 o:D.o.length<=R.D.o.length
section
variable {m:Mx} {dn t i q q':Nat} {D D':Dp} {R:Pr}
theorem PJ.fail(t b):PJ m dn t D q ⟨b,false,D⟩:=⟨fun a=>(by cases a),(by simp only[bT,cT];omega),⟨[],by simp⟩,aB _⟩
theorem PJ.dl(b:PJ m dn t D q R)(e:dn<=D.es.length):dn<=R.D.es.length:=by obtain⟨l,a⟩:=b.es;rw[a];simp;omega
theorem PJ.Ul(a:PJ m dn t D q R)(b:q<=q'):PJ m dn t D q' R:=⟨a.ok,by have:=a.FI;omega,a.es,a.o⟩
theorem PJ.from(a:PJ m dn i D' q R)(k:t<=i)(r:i<=m.s.size)(j:∃ p,D'.es=D.es++p)(o:D.o.length<=D'.o.length)(u:B4 m dn D'+q<=B4 m dn D+10000*(i-t)+q'):PJ m dn t D q' R:=by
 obtain⟨e,g⟩:=a.es;obtain⟨f,h⟩:=j;refine⟨fun b=>⟨(a.ok b).1,bQ k (a.ok b).2⟩,?_,⟨f++e,by rw[g,h,bO]⟩,bQ o a.o⟩;have:=a.FI;omega
theorem PJ.done{b a}(e:a=true->Al m.s b/\t<=b)(k:t<=m.s.size)(g:∃ j,D'.es=D.es++j)(h:D.o.length<=D'.o.length)(f:B4 m dn D'<=B4 m dn D+10000*((if a=true then b else m.s.size+1)-t)+q):PJ m dn t D q ⟨b,a,D'⟩:=by
 refine⟨e,?_,g,h⟩;simp only
 cases a with
 | false=>simp only[bT,cT]at f⊢;omega
 | true=>simp only[dU]at f⊢;have:=(e rfl).1.le;have:=(e rfl).2;omega
theorem PJ.note(a:PJ m dn t D q R)(e:D'.es=R.D.es)(f:R.D.o.length<=D'.o.length)(g:B4 m dn D'<=B4 m dn R.D+q'):PJ m dn t D (q+q') ⟨R.p,R.ok,D'⟩:=
 ⟨a.ok,by have:=a.FI;simp only;omega,by obtain⟨l,b⟩:=a.es;exact⟨l,e.trans b⟩,bQ a.o f⟩
theorem GJ(l):B4 m dn (Ek D l)=B4 m dn D+l.length:=by simp[B4,Ek];omega
theorem H5(a n):B4 m dn (Dx D a n)=B4 m dn D+1:=by simp[B4,Dx];omega
theorem Ab6(a):B4 m dn (Ui D a)=B4 m dn D+1:=by simp[B4,Ui];omega
theorem Xg(b:dn<=D.es.length)(a:We):B4 m dn (HB D a)=B4 m dn D+1+V7 m a:=by simp[B4,HB,dL b];omega
end
theorem U6(a i D):(IZ a i D).es=D.es/\D.o.length<=(IZ a i D).o.length:=by
 cases a with
 | nil=>exact⟨rfl,aB _⟩
 | cons e b=>unfold IZ;simp only;split<;>exact⟨rfl,by simp[Ek]⟩
theorem Zq{m dn}(a)(h:CR a)(b:silV a=true)(i D):B4 m dn (IZ a i D)<=B4 m dn D+8:=by
 cases a with
 | nil=>cases b
 | cons e j=>
  unfold IZ;simp only;split;rw[GJ];simp;rename_i f;rw[GJ,eJ];have g:Ae e.c=true:=by simpa[silV,f]using b
  have:=(h.2 e aG (Oe g)).2;show B4 m dn D+_<=_;omega
theorem QR{m dn h}{W:aD It->Nat->Dp->Pr}:∀ e i sm D,(∀ k∈e,CR k/\∀ i D,Al m.s i->dn<=D.es.length->PJ m dn i D (2*k.length) (W k i D))->Al m.s i->dn<=D.es.length->PJ m dn i D (8*e.length+2*e.flatten.length) (pKids m.s W h e i sm D)
 | [],i,sm,D,hW,a,hd=>by
  rw[pKids];refine PJ.done (fun k=>?_) a.le ⟨[],by simp⟩ (aB _) kX;have J:bt m.s i=41:=by simpa using k
  exact⟨a.one kX,by omega⟩
 | k::e,i,sm,D,hW,a,hd=>by
  obtain⟨g,E⟩:=hW k aG;have r:=fun i sm D=>QR (h:=h) e i sm D (fun k g=>hW k (aH _ g))
  have z:=a.le;simp only[cR,aR,aX];rw[pKids];split;rename_i B;have K:=Zq (m:=m) (dn:=dn) k g B h D;obtain⟨o,u⟩:=U6 k h D;exact(r i sm (IZ k h D) a (by rw[o];exact hd)).from (aB _) z ⟨[],by rw[o];simp⟩ u kX;split;exact PJ.fail _ _;rename_i y;have f:Al m.s (if sm=true then i+1 else i)/\i<=(if sm=true then i+1 else i):=by
   cases sm with
   | true=>exact⟨a.one (by simp at y;omega),by simp⟩
   | false=>exact⟨a,by simp⟩
  generalize(if sm=true then i+1 else i)=F at f;have b:=E F D f.1 hd;have A:=f.1.le;unfold Gu;split;rename_i p;obtain⟨j,I⟩:=b.ok p;have v:=b.FI;have x:=j.le;rw[aF p]at v;exact(r _ true _ j (b.dl hd)).from kX x b.es b.o kX;exact b.from f.2 A ⟨[],by simp⟩ (aB _) kX
theorem Qz{m dn q}{W:Nat->Dp->Pr}{g:Nat->Dp->Dp}(I:q<=10000)(v:∀ i D,Al m.s i->dn<=D.es.length->PJ m dn i D q (W i D))(u:∀ a D,(g a D).es=D.es/\D.o.length<=(g a D).o.length/\B4 m dn (g a D)<=B4 m dn D+1):∀ f i a D,Al m.s i->dn<=D.es.length->PJ m dn i D (if a=0 then q+1 else 1) (pList m.s W g f i a D)
 | 0,i,a,D,e,hd=>PJ.fail _ _
 | f+1,i,a,D,e,hd=>by
  have E:=e.le;rw[pList];by_cases r:bt m.s i=93;obtain⟨y,z,K⟩:=u a D;rw[aF r];exact PJ.done (fun _=>⟨e.one kX,by omega⟩) E ⟨[],by rw[y];simp⟩ z (by rw[aF rfl];omega);rw[aC r];by_cases k:a≠0/\bt m.s i≠32;rw[aF k];exact PJ.fail _ _;rw[aC k];have o:Al m.s (if a=0 then i else i+1)/\(a=0/\i=(if a=0 then i else i+1)\/a≠0/\i+1=(if a=0 then i else i+1)):=by
   by_cases j:a=0;simp[j];exact e;simp[j];exact e.one (by simp[j]at k;omega)
  generalize(if a=0 then i else i+1)=x at o;have b:=v x D o.1 hd;have F:=o.1.le;unfold Gu;by_cases h:(W x D).ok=true;rw[aF h];obtain⟨p,J⟩:=b.ok h;have A:=b.FI;have B:=p.le;rw[aF h]at A;refine(Qz I v u f _ (a+1) _ p (b.dl hd)).from kX B b.es b.o ?_;rw[aC kX];split<;>omega
  rw[aC h];refine b.from kX F ⟨[],by simp⟩ (aB _) ?_;split<;>omega
def WJ(m:Mx)(dn:Nat)(W:aD It->aM Nat->Nat->Dp->Pr):Prop:=∀ a hid t D,CR a->Al m.s t->dn<=D.es.length->PJ m dn t D (2*a.length) (W a hid t D)
theorem X6{m}(o:E5 m){dn}{W:aD It->aM Nat->Nat->Dp->Pr}(r:WJ m dn W)(f hid t D)(v:CR f)(e:Al m.s t)(k:dn<=D.es.length):PJ m dn t D 0 (KV m W f hid t D):=by
 have x:=e.le
 cases f with
 | nil=>exact PJ.fail _ _
 | cons A a=>
  have J:a.length+1<=1000:=v.1;have p:=v.tail;unfold KV;simp only;split;rename_i y;split;rename_i b;obtain⟨g,h⟩:=o.nm t e b.1;have:=g.tx.lt;refine PJ.done (fun _=>⟨h,by omega⟩) x ⟨[],by simp[Ek]⟩ (by simp[Ek]) ?_;have:=(v.2 A aG (by rcases y with b|b<;>rw[b]<;>rfl)).2;rw[GJ,BE,aF rfl];omega;exact PJ.fail _ _;split;refine PJ.done (fun b=>?_) x ⟨[],by simp[Ek]⟩ (by simp[Ek]) ?_;have I:bt m.s t=45:=by simpa using b
  exact⟨e.one kX,by omega⟩;rw[GJ,eI];split<;>omega
  split;split;rename_i b;obtain⟨g,h⟩:=o.rn t e b;have:=g.lt;refine PJ.done (fun _=>⟨h,by omega⟩) x ⟨[],by split<;>simp[Ek,Dx]⟩ (by split<;>simp[Ek,Dx]) ?_;rw[aF rfl];split;rw[H5,GJ];omega;rw[GJ];omega;exact PJ.fail _ _;split;split;rename_i b;have E:=Rr a.length a (aB _);have:=Mu a.length a;have g:=QR (m:=m) (dn:=dn) (h:=D.AS.length) (W:=fun f i D'=>W f (some D.AS.length) i D') (segs a.length a) (t+1) false (Ou D) (fun f o=>⟨p.sub (Ch _ _ _ o),fun i D' u B=>r f _ i D' (p.sub (Ch _ _ _ o)) u B⟩) (e.one kX) k;have h:=(e.one (a:=t) kX).le;refine g.from kX h ⟨[],by simp[Ou]⟩ (aB _) ?_;rw[E];show B4 m dn D+_<=_;omega;exact PJ.fail _ _;split;split;rename_i b;obtain⟨_,_,j⟩:=e.cho b;have:=j.le;have z:CR ((segs a.length a).getD (bt m.s (t+1)-48).toNat []):=by
   rw[aZ]
   cases F:(segs a.length a)[(bt m.s (t+1)-48).toNat]? with
   | none=>exact⟨by simp,fun A y=>by cases y⟩
   | some f=>exact p.sub (Ch _ _ _ (bH F))
  have:=z.1;exact(r _ none (t+3) D z j k).from kX kX ⟨[],by simp⟩ (aB _) kX;exact PJ.fail _ _;split;split;rename_i b;have j:=e.one (a:=t) kX;have:=j.le;refine(Qz (q:=2*a.length) kX (fun i D u k=>r a none i D p u k) (fun K D=>?_) _ (t+1) 0 D j k).from kX this ⟨[],by simp⟩ (aB _) ?_;split;exact⟨rfl,aB _,by rw[H5];omega⟩;exact⟨rfl,aB _,by omega⟩;rw[aF rfl];omega;exact PJ.fail _ _;exact PJ.fail _ _
theorem YP{m}(e:E5 m){dn n G}(j:∀ i,CR (G i)){W:aD It->aM Nat->Nat->Dp->Pr}(f:WJ m dn W):WJ m dn (pIn m G n W)
 | [],hid,t,D,g,a,b=>PJ.fail _ _
 | x::h,hid,t,D,g,a,b=>by
  have k:=YP e (n:=n) j f h hid t D g.tail a b;have u:2*h.length+2=2*(x::h).length:=lA;rw[pIn];split;exact(k.note (D':=Dx _ _ _) rfl (aB _) (by rw[H5];exact aB _)).Ul kX;split;exact(k.note (D':=Ui _ _) rfl (aB _) (by rw[Ab6];exact aB _)).Ul kX;split;obtain⟨_,o,_,p⟩:=e.sk t a;refine PJ.done (fun _=>⟨p,o⟩) a.le ⟨[_],rfl⟩ (aB _) ?_;rw[Xg b,aF rfl];unfold V7;simp only;omega;split;split;exact PJ.fail _ _;rename_i q r;exact(X6 e f q none t D (EH j _ _ _ r) a b).Ul kX;exact(X6 e f _ hid t D g a b).Ul kX
theorem QM{m}(b:E5 m){dn G}(a:∀ i,CR (G i)):∀ n,WJ m dn (pT m G n)
 | 0=>fun _ _ _ _ _ _ _=>PJ.fail _ _
 | n+1=>YP b a (QM b a n)
end
theorem iw(h:p:=by
 induction k with
 | zero=>intro a h;cases h
 | succ k am=>
  intro a h;rw[Bp]at h⊢;split;rename_i r;rw[aF r]at h;split;exact⟨[(j a).As],by simp,fun u x=>by simp at x;subst x;exact o a r⟩;rename_i aa;rw[aC aa]at h;obtain⟨z,ab,ac⟩:=am _ h;refine⟨(j a).As::z,by simp[C3.pre,ab],fun u x=>?_⟩;rcases bB.1 x with rfl|x;exact o a r;exact ac u x;rename_i r;rw[aC r]at h;cases h):p:=h
theorem iv(h:p:=by
 induction k with
 | zero=>intro a _;exact⟨[],rfl,fun u x=>by simp at x,rfl⟩
 | succ k am=>
  intro a h;rw[loopN]at h⊢;split;rename_i r;rw[aF r]at h;obtain⟨z,ab,ac,ai⟩:=am _ h;refine⟨(j a).As::z,by simp[C3.pre,ab],fun u x=>?_,by simp[ai]⟩;rcases bB.1 x with rfl|x;exact o a r;exact ac u x;rename_i r;rw[aC r]at h;cases h):p:=h
theorem ix(h:p:=by
 split;intro al;simp at al;subst al;exact an;rename_i b5;rw[aC b5]at h;split;rename_i ah;rw[aF ah]at h;cases h
 rename_i ah;rw[aC ah]at h;intro al;simp only[GQ.pre,cA,cL]at al;rcases bB.1 al with rfl|al;exact an;exact am 72 _ h x al):p:=h
theorem XI(j:Nat->C3)(b)(o:∀ a,(j a).ok=true->Fa b (j a).As)(k):∀ a,(loopN j k a).ok=true->∃ z,(loopN j k a).As=List.flatten z/\(∀ u,u∈z->Fa b u)/\z.length=k:=by
 exact iv
theorem X4(j:Nat->C3)(s b)(o:∀ a,(j a).ok=true->Fa b (j a).As)(k):∀ a,(Bp j s k a).ok=true->∃ z,(Bp j s k a).As=List.flatten z/\(∀ u,u∈z->Fa b u):=by
 exact iw
theorem Adr(s k a):∀ e,(AF s k a e).ok=true->Fa a (AF s k a e).As:=by
 induction a with
 | zero=>intro e h;cases h
 | succ a v=>
  intro e h;rw[AF]at h⊢;split;rename_i r;rw[aF r]at h;obtain⟨_,_,_,y⟩:=VC s e r;have g:(inner (AF s k a) s a (Ak s e)).ok=true:=h;have A:∃ b,(inner (AF s k a) s a (Ak s e)).As=List.flatten b/\(∀ x,x∈b->Fa a x)/\((Ak s e).inn=1->b.length=1):=by
   unfold inner at g⊢;split;rename_i p;rw[aF p]at g;obtain⟨b,f,j⟩:=X4 _ s a v _ _ g;exact⟨b,f,j,fun u=>by omega⟩;rename_i p;rw[aC p]at g;obtain⟨b,f,j,o⟩:=XI _ a v _ _ g;exact⟨b,f,j,fun u=>by rw[o,u];rfl⟩
  obtain⟨b,f,j,o⟩:=A;refine⟨_,b,by rw[<- f],by rw[<- f],j,fun z=>?_⟩;exact kA.1 (o (y z));exact Bv
theorem R7(s b):∀ e a,(rulesV s b e a).ok=true->∀ x,x∈(rulesV s b e a).Bj->Fa (s.size+1) x.As:=by
 induction b with
 | zero=>intro e a h;cases h
 | succ b am=>
  intro e a h x;rw[rulesV]at h⊢;split;exact Bg;rename_i ab;rw[aC ab]at h;split;exact C9;rename_i ac;rw[aC ac]at h;split;exact EQ;rename_i ai;rw[aC ai]at h;have f:(AF s (bt s a-65) (s.size+1) (a+2)).ok=true:=by simpa using ai
  have an:=Adr s (bt s a-65) (s.size+1) (a+2) f;exact ix
theorem Pc(b f)(r:Int->Prop)(j n):(∀ a,a<n->0<=(A1 b a).pl)->Bz r (j,decide (0<=j))->
 Bz (fun e=>r e\/∃ a,a<n/\f a=true/\e=(A1 b a).pl) (worst b f n j,decide (0<=worst b f n j)):=by
 induction n with
 | zero=>intro _ o;exact o.congr fun e=>by simp
 | succ n B=>
  intro v o;have p:=B (fun a F=>v a kX) o;have z:=v n kX;rw[worst];generalize worst b f n j=w at p;have x:∀ e,(∃ a,a<n+1/\f a=true/\e=(A1 b a).pl)↔((∃ a,a<n/\f a=true/\e=(A1 b a).pl)\/(f n=true/\e=(A1 b n).pl)):=by
   intro e;constructor;rintro⟨a,E,g,h⟩;by_cases k:a=n;subst k;exact Or.inr ⟨g,h⟩;exact Or.inl ⟨a,by omega,g,h⟩;rintro(⟨a,E,g,h⟩|⟨g,h⟩);exact⟨a,by omega,g,h⟩;exact⟨n,by omega,g,h⟩
  cases u:f n
  simp only[dX,bT,cT];exact p.congr fun e=>by rw[x,u];simp
  have A:=p.add (A1 b n).pl;have k:XD (w,decide (0<=w)) (A1 b n).pl=((if(true&&(decide (w<0)||decide ((A1 b n).pl<w)))=true then(A1 b n).pl else w),decide (0<=if(true&&(decide (w<0)||decide ((A1 b n).pl<w)))=true then(A1 b n).pl else w)):=by
   unfold XD;have y:(!(decide (0<=w)))=decide (w<0):=by
    by_cases h0:0<=w;have:¬ w<0:=kX;simp[h0,this];have:w<0:=kX;simp[h0,this]
   simp only[y,dR];split;simp[z];rfl
  rw[<- k];exact A.congr fun e=>by rw[x,u];simp[kI]
def TW:aD Rl->aD Rl->Int->Prop
 | _,[],_=>False
 | seen,a::t,p=>(Dq seen a.r=true/\p=(a.pl:Int))\/TW (seen++[a]) t p
theorem YQ(l):∀ seen e b,KU e l->TW seen l b->(e:Int)<=b:=by
 induction l with
 | nil=>intro seen e b _ a;exact a.elim
 | cons r t h=>
  intro seen e b g a;obtain⟨j,p,k,o,f⟩:=g;rcases a with⟨_,rfl⟩|a;omega;have:=h _ _ b f a;omega
theorem Adu(l):∀ seen e,KU e l->Bz (TW seen l) (twiceV seen l,decide (0<=twiceV seen l)):=by
 induction l with
 | nil=>intro seen e _;exact Or.inl ⟨rfl,fun f h=>h.elim⟩
 | cons v t o=>
  intro seen e k;obtain⟨p,j,r,u,g⟩:=k;rw[twiceV];split;rename_i a;refine Or.inr ⟨by simp,Or.inl ⟨a,rfl⟩,fun f b=>?_⟩;rcases b with⟨_,rfl⟩|b;exact eX _;have:=YQ t _ _ f g b;simp only;omega;rename_i a;exact(o _ j g).congr fun f=>by rw[TW];simp[a]
theorem Bz.seq{g h:Int->Prop}{j t:Int × Bool}(u:Bz g j)(v:Bz h t)(p:∀ k o,g k->h o->k<=o):Bz (fun b=>g b\/h b) (if j.2 then j else t):=by
 rcases u with⟨e,f⟩|⟨e,f,r⟩;rw[e];exact v.congr fun b=>⟨Or.inr,fun a=>by rcases a with a|a;exact(f b a).elim;exact a⟩
 rw[aF e];refine Or.inr ⟨e,Or.inl f,fun b a=>?_⟩;rcases a with a|a;exact r b a;exact p _ _ f a
theorem YF(h l):I8 l->Bz (fun b=>∃ a,a∈l/\FE h a=true/\b=a.pl) (firstMiss h l):=by
 induction l with
 | nil=>intro _;exact Or.inl ⟨rfl,fun b e=>by simp at e⟩
 | cons p t o=>
  intro e;obtain⟨j,k⟩:=fW.1 e;rw[Ik];split;rename_i f;refine Or.inr ⟨rfl,⟨p,aG,f,rfl⟩,?_⟩;rintro b⟨a,g,r,rfl⟩;rcases bB.1 g with rfl|g;exact eX _;have:=j a g;simp only;omega;rename_i f;exact(o k).congr fun b=>by simp[f]
theorem SE(u l):∀ seen r,KU r l->Bz (fun f=>TW seen l f\/∃ a,a∈Ao l/\FE u a=true/\f=a.pl) (scanR u seen l):=by
 induction l with
 | nil=>intro seen r _;exact Or.inl ⟨rfl,fun f e=>by simp[TW,Ao]at e⟩
 | cons k t E=>
  intro seen r B;obtain⟨K,v,z,h,j⟩:=B;have x:KU k.pl (k::t):=⟨aB _,v,z,h,j⟩;rw[scanR];split;rename_i o;refine Or.inr ⟨rfl,Or.inl (Or.inl ⟨o,rfl⟩),fun f p=>?_⟩;rcases p with p|⟨a,b,_,rfl⟩;exact YQ _ _ _ f x p;exact x.pl a b;rename_i o;refine((YF u k.As h.1).seq (E (seen++[k]) v j) ?_).congr fun f=>?_
  rintro J y⟨a,b,_,rfl⟩ (A|⟨F,I,_,rfl⟩);have:=(h.2 a b).2;have:=YQ _ _ _ y j A;omega;have:=(h.2 a b).2;have:=j.pl F I;omega;rw[TW];simp only[o,Ao,bY,aV];constructor;rintro(⟨a,b,g⟩|e|⟨a,b,g⟩);exact Or.inr ⟨a,Or.inl b,g⟩;exact Or.inl (Or.inr e);exact Or.inr ⟨a,Or.inr b,g⟩;rintro((⟨e,_⟩|e)|⟨a,b|b,g⟩)
  cases e
  exact Or.inr (Or.inl e);exact Or.inl ⟨a,b,g⟩;exact Or.inr (Or.inr ⟨a,b,g⟩)
theorem Ab1(e)(P:It->Prop):(∃ f,f∈e/\P f)↔∃ a,a<e.length/\P (A1 e a):=by
 constructor;rintro⟨f,h,j⟩;obtain⟨a,b,rfl⟩:=fT h;exact⟨a,b,by unfold A1;rw[A3 _ _ _ b];exact j⟩;rintro⟨a,b,g⟩;exact⟨A1 e a,by unfold A1;rw[A3 _ _ _ b];exact aU b,g⟩
theorem VN(s)(b:(Ah s).ok=true):(scanR (D9 (Ah s).Bj) [] (Ah s).Bj).2=decide (0<=P5 s)/\((scanR (D9 (Ah s).Bj) [] (Ah s).Bj).2=true->(scanR (D9 (Ah s).Bj) [] (Ah s).Bj).1=P5 s):=by
 obtain⟨f,z,_,_⟩:=Fi s 8 65 0 kX b;have f:KU 0 (Ah s).Bj:=f;have p:=SE (D9 (Ah s).Bj) (Ah s).Bj [] 0 f;have r:=Pc (Ao (Ah s).Bj) (Dh (Ah s).Bj (Ao (Ah s).Bj)) _ _ (Ao (Ah s).Bj).length (P2 s b) (Adu (Ah s).Bj [] 0 f);refine Bz.eq p (r.congr fun A=>?_) (DJ.refl _);have u:=Ab1 (Ao (Ah s).Bj) (fun o=>FE (D9 (Ah s).Bj) o=true/\A=o.pl);rw[u];have j:∀ a,a<(Ao (Ah s).Bj).length->Dh (Ah s).Bj (Ao (Ah s).Bj) a=FE (D9 (Ah s).Bj) (A1 (Ao (Ah s).Bj) a):=by
  intro a k;unfold Dh FE D9;have y:A1 (Ao (Ah s).Bj) a∈Ao (Ah s).Bj:=by unfold A1;rw[A3 _ _ _ k];exact aU k
  obtain⟨B,E,F⟩:=cI.1 y;have x:=(z B E).items _ F
  cases v:((A1 (Ao (Ah s).Bj) a).c==82)
  rfl;have:=x.r (by simpa using v);rw[show(((A1 (Ao (Ah s).Bj) a).r.toNat:Nat):Int)=(A1 (Ao (Ah s).Bj) a).r by omega]
 constructor;rintro(b|⟨a,e,g,h⟩);exact Or.inl b;exact Or.inr ⟨a,e,by rw[<- j a e];exact g,h⟩;rintro(b|⟨a,e,g,h⟩);exact Or.inl b;exact Or.inr ⟨a,e,by rw[j a e];exact g,h⟩
theorem Ac0(a):∀ l,ev a false false l=[]:=by
 induction a with
 | zero=>intro l;rfl
 | succ a b=>
  intro l
  cases l with
  | nil=>rfl
  | cons f e=>simp[ev,b]
theorem PZ(f h):∀ (a:Int->Prop) st,Bz a st->Bz (fun b=>a b\/∃ e,e∈h/\lost PB f false false e.As b) (BL f h st):=by
 induction h with
 | nil=>intro a st g;exact g.congr fun b=>by simp
 | cons e t k=>
  intro a st g;have j:=(YJ f false false e.As FN st a g).2;rw[Ac0]at j;refine Bz.congr (k _ _ j) fun b=>?_
  simp only[bB,iX,PE,false_or,kI]
theorem WH{h}(a)(M:∀ b,b∈a->Fa h b.As)(J:∀ b,b∈a->I8 b.As)(k):
 (∃ e,e<(Ao a).length/\Bm (Ao a) e=false/\k=(A1 (Ao a) e).pl)↔∃ b,b∈a/\lost RB h false false b.As k:=by
 have A:(a.map Rl.As).flatten=Ao a:=by unfold Ao;rw[hD]
 have o:At (Ao a) 0 (a.map Rl.As).flatten:=⟨[],[],by simp[A],rfl⟩;have E:∀ g,g∈a.map Rl.As->Fa h g:=fun g u=>by obtain⟨b,f,rfl⟩:=dF.1 u;exact M b f
 have K:∀ g,g∈a.map Rl.As->I8 g:=fun g u=>by obtain⟨b,f,rfl⟩:=dF.1 u;exact J b f
 have j:∀ q,q∈withSt 0 (a.map Rl.As)->((∃ e,q.1<=e/\e<q.1+q.2.length/\Bm (Ao a) e=false/\k=(A1 (Ao a) e).pl)↔lost RB h false false q.2 k):=by
  intro q j;obtain⟨r,y,X,S⟩:=AV _ 0 o q j;have p:Ctx (Ao a) h false false q.1 q.2 0:=by
   refine⟨fun e F v _ s L=>?_,fun e B=>by rw[GW]at B;simp at B⟩;have:=beside _ E 0 o q j s kX L;rw[Jl kX,GW];simp
  rw[Ab2 h false false q.1 q.2 0 (E _ r) y (K _ r) p k,GW];simp
 constructor;rintro⟨e,F,v,x⟩;obtain⟨q,I,U,V⟩:=Hq (a.map Rl.As) 0 e kX (by rw[A];omega);obtain⟨r,_,_,_⟩:=AV _ 0 o q I;obtain⟨b,f,z⟩:=dF.1 r;exact⟨b,f,by rw[z];exact(j q I).1 ⟨e,U,V,v,x⟩⟩;rintro⟨b,f,z⟩;obtain⟨c,p⟩:=KW (a.map Rl.As) 0 b.As (dF.2 ⟨b,f,rfl⟩);obtain⟨_,y,_,S⟩:=AV _ 0 o _ p;obtain⟨e,F,v,x,O⟩:=(j _ p).2 z;have:=y.le;exact⟨e,by omega,x,O⟩
theorem KU.inc{l}:∀ {e:Nat},KU e l->∀ b,b∈l->I8 b.As:=by
 induction l with
 | nil=>intro e _ b a;simp at a
 | cons r t j=>
  intro e f b a;obtain⟨k,p,o,g,h⟩:=f;rcases bB.1 a with rfl|a;exact g.1;exact j h b a
theorem Af1(c)(a:(Ae c||AN c)=true):kD c=true:=by
 unfold Ae AN AY at a;unfold kD AY;simp at a⊢;omega
theorem Uu(s)(a:(Ah s).ok=true):(BL (s.size+1) (Ah s).Bj (0,false)).2=decide (0<=Lp s)/\((BL (s.size+1) (Ah s).Bj (0,false)).2=true->(BL (s.size+1) (Ah s).Bj (0,false)).1=Lp s):=by
 obtain⟨f,r,_,_⟩:=Fi s 8 65 0 kX a;have f:KU 0 (Ah s).Bj:=f;have u:=R7 s 8 65 0 a;have h0:Bz (fun _=>False) ((0:Int),false):=Or.inl ⟨rfl,fun b a=>a⟩;have j:=PZ (s.size+1) (Ah s).Bj _ _ h0;have h:Bz (fun _=>False) ((-1:Int),decide (0<=(-1:Int))):=Or.inl ⟨rfl,fun b a=>a⟩;have k:=Pc (Ao (Ah s).Bj) (fun i=>!(Bm (Ao (Ah s).Bj) i)) _ _ (Ao (Ah s).Bj).length (P2 s a) h;have o:Bz (fun b=>False\/∃ e,e∈(Ah s).Bj/\lost RB (s.size+1) false false e.As b) (Lp s,decide (0<=Lp s)):=by
  refine Bz.congr k fun b=>?_
  rw[<- WH (Ah s).Bj u f.inc b];simp only[fZ]
 refine Bz.eq j o (DJ.or (DJ.refl _) (DJ.ex fun e g=>Acf _ _ _ _ (f.inc e g) ?_));intro x v p;exact((r e g).items x v).d (Af1 _ p)
theorem same(s):Be s=Gc s:=by
 unfold Be Gc;split;rfl;split;rfl;rename_i p;have j:(Ah s).ok=true:=by simpa using p
 obtain⟨g,k⟩:=VN s j;obtain⟨h,o⟩:=Uu s j;by_cases f:0<=P5 s;have a:(scanR (D9 (Ah s).Bj) [] (Ah s).Bj).2=true:=by rw[g];simpa using f
 rw[aF a,aF f,k a];have a:¬ (scanR (D9 (Ah s).Bj) [] (Ah s).Bj).2=true:=by rw[g];simpa using f
 rw[aC a,aC f];by_cases e:0<=Lp s;have b:(BL (s.size+1) (Ah s).Bj (0,false)).2=true:=by rw[h];simpa using e
 rw[aF b,aF e,o b];have b:¬ (BL (s.size+1) (Ah s).Bj (0,false)).2=true:=by rw[h];simpa using e
 rw[aC b,aC e]

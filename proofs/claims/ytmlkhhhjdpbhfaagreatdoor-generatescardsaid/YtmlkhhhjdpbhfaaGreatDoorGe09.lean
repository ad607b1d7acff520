import Derived.Test.YtmlkhhhjdpbhfaaGreatDoorGe05
import Derived.Test.YtmlkhhhjdpbhfaaGreatDoorGe06
import Derived.Test.YtmlkhhhjdpbhfaaGreatDoorGe07
namespace Go.Proofs.YtmlkhhhjdpbhfaaGreatDoor
open Go.RowKit Go.Proofs.Tryz
set_option maxHeartbeats 4000000
set_option maxRecDepth 100000
variable{p q:Prop}(z:q)
theorem n3(h:p:=by
 obtain⟨cr,af,ae⟩:=j rfl;obtain⟨bb,x,rfl,_,_⟩:=ae.form lA;obtain⟨k,ah⟩:=k rfl;simp only at z B k ah af ae;have an:Hid (Nk s o u w g r v y e n m q p R (f+1) au (b++ad) bb x aq):=by
  refine⟨z,by simp only[aR];omega,by omega,fun h=>by omega,by simpa using af,by simpa using ae,ac.trans A,by have:=A.size;omega,?_⟩;have ab:=a.o;rw[aa.o,ab,aF rfl,C3.QJ]
 simp only;go_wp2;go_roundw
 case rel=>exact⟨f+1,au,b++ad,bb,x,rfl,by go_num,an⟩
 case measure=>simp[intOf];omega):p:=h
theorem n4(h:p:=by
 have ar:Hid (R=⟨false,au,b⟩):=by
  have ab:=a.o;have:R=⟨false,au,b⟩:=by rw[aa.o,ab];simp[C3.pre]
  exact this
 simp only;go_wp2;refine aT (v:=.tuple #[I0 au,.bool false]) (by simp[results,results84,go_sem]) rfl ?_;rw[H.o,ar.o];exact⟨rfl,ac.trans A,fun h=>by cases h⟩):p:=h
theorem g6(h:p:=by
 rw[E.o];simp only[bE];omega):p:=h
theorem Tryz.XF:(prog.info? 132).map (fun i=>(i.zero,i.size,i.bytes))=some (some (.agg #[.int .u8 0,I0 0,I0 0,I0 0,I0 0,I0 0,I0 0,I0 0,I0 0]),9,72):=kZ
def J2(a:C3)(w:aE)(b e:Nat)(j k:aI)(f:aD It)(h:Ending)(w':aE):Prop:=
 h=.returned (.tuple #[I0 a.i,.bool a.ok])/\Fr b e w w'/\
  (a.ok=true->∃ g,Ac w' e #[g,j,k] 130/\w'.ownsRow b 132 9 g (f++a.As).length (cellsL 0 (f++a.As)))
def XG(s:aA)(j:Int)(g:Nat):Prop:=
 ∀ a w b e o h k f,0<=a->a.toNat<=s.size->s.size+1-a.toNat<=g->e<b->b<=w.heap.size->
  Ac w e #[o,h,k] 130->w.ownsRow b 132 9 o f.length (cellsL 0 f)->f.length<=a.toNat->
  Calls prog 84 #[P0 e,.string s,I0 a,I0 j] w fun p w'=>J2 (AF s j g a.toNat) w b e h k f p w'
theorem WQ(s)(e)(z:s.size<=400)(g)(n)(w)(a b)(o x)(v)(y:n<=s.size)(r:a<=w.heap.size)(j:(Ak s n).ok=false):
 Calls prog 84 #[P0 b,.string s,I0 n,I0 e] w fun f w'=>J2 (AF s e (g+1) n) w a b o x v f w':=by
 have H:=Aa (show AF s e (g+1) n=⟨false,(Ak s n).i,[]⟩by rw[AF,aC (by simp[j])]);have k:=Aa j;go_enter func84,ntmps84;go_wp2_with fail;refine(Nr s n w lD kX kX).mono ?_;rintro f w1⟨A,Cj,rfl,h⟩;rw[bE,k.o];simp only[It.cells];have u:=h.size;go_wp2;refine aT (v:=.tuple #[I0 (Ak s n).i,.bool false]) (by simp[results,results84,go_sem]) rfl ?_;rw[H.o];exact⟨rfl,(Fr.refl a b w).below (h.alloc u _) r,fun p=>by cases p⟩
def rest(b:Nat->C3)(s:aA)(e:Nat)(q:Int)(a i:Nat):C3:=
 if q<0 then(if a=0 then Bp b s e i else if bt s i=41 then⟨true,i+1,[]⟩else Bp b s (e-a) i)else loopN b (q.toNat-a) i
theorem C3.pre_nil(q:C3):q.pre []=q:=by simp[C3.pre]
theorem C3.QJ(l m)(q:C3):(q.pre m).pre l=q.pre (l++m):=by simp[C3.pre]
theorem VW(a:Nat->C3)(s e q)(b i:Nat)(f:(q<0/\(b=0\/bt s i≠41)/\b<e)\/(0<=q/\(b:Int)<q)):
 rest a s e q b i=if(a i).ok=true then(rest a s e q (b+1) (a i).i).pre (a i).As else⟨false,(a i).i,[]⟩:=by
 rcases f with⟨j,k,o⟩|⟨j,k⟩;have g:rest a s e q b i=Bp a s (e-b) i:=by
  unfold rest;rw[aF j];by_cases h0:b=0;rw[aF h0,h0,Nat.sub_zero];rw[aC h0,aC (by rcases k with f|f;exact absurd f h0;exact f)]
 have h:rest a s e q (b+1) (a i).i=if bt s (a i).i=41 then⟨true,(a i).i+1,[]⟩else Bp a s (e-(b+1)) (a i).i:=by
  unfold rest;rw[aF j,aC kX]
 rw[g,h,show e-b=(e-(b+1))+1 by omega,Bp];split;split;simp[C3.pre];rfl;rfl;have g:rest a s e q b i=loopN a (q.toNat-b) i:=by unfold rest;rw[aC kX]
 have h:rest a s e q (b+1) (a i).i=loopN a (q.toNat-(b+1)) (a i).i:=by unfold rest;rw[aC kX]
 rw[g,h,show q.toNat-b=(q.toNat-(b+1))+1 by omega,loopN]
theorem Tc(e:Nat->C3)(s b q)(a i:Nat)(h0:0<=q)(f:(a:Int)=q):rest e s b q a i=⟨true,i,[]⟩:=by
 unfold rest;rw[aC kX,show q.toNat-a=0 by omega,loopN]
theorem Uj(f:Nat->C3)(s b q a i)(h0:q<0)(g:0<a)(e:bt s i=41):rest f s b q a i=⟨true,i+1,[]⟩:=by
 unfold rest;rw[aF h0,aC kX,aF e]
theorem TH(b:Nat->C3)(s a q m e):inner b s a ⟨true,m,q,e⟩=rest b s a q 0 m:=by
 unfold inner rest;simp
structure Nk (s:aA) (Ig:Int) (f:Nat) (w:aE) (B gb:Nat) (fi tw:aI) (its0:aD It) (n m:Nat) (q:Int) (X:It) (R:C3) (j i:Nat) (As:aD It) (g c:Nat) (wr:aE):Prop where
 hi:i<=s.size
 hj:As.length+m<=i
 hjj:j+m<=i
 hq:0<=q->(j:Int)<=q
 Ap:Ac wr gb #[S0 g (its0++X::As).length c,fi,tw] 130
 row:wr.ownsRow B 132 9 (S0 g (its0++X::As).length c) (its0++X::As).length (cellsL 0 (its0++X::As))
 fr:Fr B gb w wr
 hB:B<=wr.heap.size
 eq:R=(rest (AF s Ig f) s f q j i).pre As
theorem S1(j:Int)(h:It)(b e:aD It)(p:It)(A:p={h with rl:=j,nx := -(b.length:Int)})(i:Nat)(r:Int)(B:r=i)(a:Nat)(J:a=b.length+1+e.length){w wr:aE}{g o f c:Nat}{u v:aI}(E:Fr g o w wr)(F:g<=f)(z:Ac (wr.setCell (A0 f (b.length*9+6)) (I0 a)) o #[S0 f a c,u,v] 130)(I:(wr.setCell (A0 f (b.length*9+6)) (I0 a)).ownsRow g 132 9 (S0 f a c) a ((cellsL 0 (b++p::e)).set (b.length*9+6) (I0 a))):
 J2 ⟨true,i,{h with rl:=j,nx:=1+(e.length:Int)}::e⟩ w g o u v b (.returned (.tuple #[I0 r,.bool true])) (wr.setCell (A0 f (b.length*9+6)) (I0 a)).drew:=by
 subst B;refine⟨rfl,(E.setCell (Or.inr F) _).drew,fun _=>⟨S0 f a c,z.drew,?_⟩⟩;have x:(b++{h with rl:=j,nx:=1+(e.length:Int)}::e).length=a:=lA;have k:=SO b {h with rl:=j} e (1+e.length);have y:((b.length:Int)+(1+e.length))=(a:Int):=kX;rw[y]at k;simp only at k⊢;rw[x,<- k];subst A;exact I.drew
theorem Acj(s)(o)(c7:s.size<=400)(u)(co:XG s o u)(n)(w)(g r)(ay v y)(e)(cd:n<=s.size)(c1:s.size<=u+n)(ax:r<g)(b0:g<=w.heap.size)(b3:Ac w r #[ay,v,y] 130)(J:w.ownsRow g 132 9 ay e.length (cellsL 0 e))(c4:e.length<=n)(m)(q)(F)(a9:Ak s n=⟨true,m,q,F⟩)(R:C3)(bi:inner (AF s o u) s u ⟨true,m,q,F⟩=R):
 Calls prog 84 #[P0 r,.string s,I0 n,I0 o] w fun K w'=>J2 (AF s o (u+1) n) w g r v y e K w':=by
 obtain⟨bj,a5,a6,aw⟩:=NX s n cd;obtain⟨bl,bm⟩:=Xf s n;rw[a9]at bj a5 a6 aw bl bm;simp only at bj a5 a6 aw bl bm;have aw:=aw trivial;have H:=Aa (show AF s o (u+1) n=⟨R.ok,R.i,{F with rl:=o,nx:=1+R.As.length}::R.As⟩by rw[AF,a9,aF rfl,bi]);have bq:=Aa bi;have br:=Aa a9;have a2:=Aa co;have bu:=Aa a6;obtain⟨cn,b7,ck,cl,cm⟩:=cY Tryz.XF;have cj:ay.ownBlock≠some r:=fun K=>by have:=J.lt r K;omega
 obtain⟨V,X,rfl⟩:∃ V X,ay=.slice V e.length X:=by
  rcases J.2 with⟨rfl,h⟩|⟨I,c,_,rfl,_⟩;exact⟨none,0,by rw[h]⟩;exact⟨_,_,rfl⟩
 go_enter func84,ntmps84;go_wp2_with fail;refine(Nr s n w lD kX kX).mono ?_;rintro K w1⟨cp,Cj,rfl,O⟩;rw[bE,br.o]at Cj⊢;obtain rfl:F=cp:=(Cj rfl).symm;simp only[It.cells,bu.o];have c8:=O.size;have bh:=b3.below O kX;have bo:=J.kept (w':=w1) (row:=none) ⟨O.os,O.tape,O.output,O.size,fun ba cb _=>O.block ba cb⟩ (by cases c9:(Value.slice V e.length X).ownBlock<;>simp);have b1:=(Fr.refl g r w).below O b0;have cu:∀ aj,(w1.alloc aj).cell? (A0 r 0)=some (.slice V e.length X):=fun aj=>(bh.alloc aj).cell 0
 go_wp2_with fail;have L:=Ac.new w1 (X_14 F.c F.w F.b F.r F.d F.pl o) 132;have a4:=bh.alloc (.cells (X_14 F.c F.w F.b F.r F.d F.pl o) 132);have bp:=bo.alloc (.cells (X_14 F.c F.w F.b F.r F.d F.pl o) 132);have b2:=b1.alloc kX (.cells (X_14 F.c F.w F.b F.r F.d F.pl o) 132);have c6:(Value.slice V e.length X).ownBlock≠some w1.heap.size:=fun K=>by have:=bo.lt _ K;omega
 have c0:g<=w1.heap.size:=kX;generalize w1.heap.size=ct at*;generalize w1.alloc (.cells (X_14 F.c F.w F.b F.r F.d F.pl o) 132)=w2 at*;have cy:=L.lt;have be:=a4.c0;have da:=L.c0;have db:=L.c1;have dc:=L.c2;have dd:=L.c3;have de:=L.c4;have df:=L.c5;have dh:=L.c6;have di:=L.c7;have dj:=L.c8;have dk:∀ aj,(w2.alloc aj).cell? (A0 r 0)=some (.slice V e.length X):=fun aj=>(a4.alloc aj).cell 0
 go_cut [] (fun wc=>∃ Z Y,Ac wc r #[S0 Z (e.length+1) Y,v,y] 130/\
  wc.ownsRow g 132 9 (S0 Z (e.length+1) Y) (e.length+1) (cellsL 0 e++[.int .u8 F.c,I0 F.w,I0 F.b,I0 F.r,I0 F.d,I0 F.pl,I0 0,I0 o,I0 0])/\
  Fr g r w wc)
 case first=>
  go_region_law (
   (refine gZ _ lE _ _ _ lE g 132 cn _ 9 72 underlying128 b7 ck cl cm rfl kX (.slice V e.length X) e.length (cellsL 0 e) lE ((bp.alloc _).drew)
     (A0 w2.heap.size 0) 1 1 [.int .u8 F.c,I0 F.w,I0 F.b,I0 F.r,I0 F.d,I0 F.pl,I0 0,I0 o,I0 0] lE lE
     (cD (cs:=(X_14 F.c F.w F.b F.r F.d F.pl o)) (t:=132) (fr:=(0,0)) (cJ w2 _)) (by simp[Value.oneCell'])
     kX lD kX lA (w2.heap.size+1) kY ?_
    intro Z Y dl ch bk cz c5;have am:=((a4.alloc _).drew).grown bk (fB cj);have cv:=am.c0;have cw:=am.frozen 0))
  all_goals
   go_wp2_with fail;go_meet
   case rel=>
    exact⟨Z,Y,am.set 0 _,dS ch ax _,((((b2.alloc kX _).drew).grown bk lA (fun ba K=>(bp.lt ba K).1)).setCell (Or.inl rfl) _)⟩
 case rest=>
  obtain⟨Z,Y,am,ci,bg⟩:=hcut;have bd:Hid (Nk s o u w g r v y e n m q {F with rl:=o,nx := -(e.length:Int)} R 0 m [] Z Y wc):=by
   refine⟨a5,by simp,by omega,fun h=>by omega,by simpa using am,?_,bg,by have:=bg.size;omega,?_⟩;have:cellsL 0 (e++[{F with rl:=o,nx := -(e.length:Int)}])=cellsL 0 e++[.int .u8 F.c,I0 F.w,I0 F.b,I0 F.r,I0 F.d,I0 F.pl,I0 0,I0 o,I0 0]:=by
    rw[GL];simp[cellsL,It.cells,It.off];omega
   rw[this];simpa using ci;rw[<- bq.o,TH,C3.pre_nil]
  obtain⟨p,a1⟩:∃ p:It,Hid (p={F with rl:=o,nx := -(e.length:Int)}):=⟨_,rfl⟩;rw[<- a1.o]at bd;go_wp2;go_loopw [11,15] (fun bc cq wr=>∃ (f i:Nat) (b:aD It) (I c:Nat),bc=I0 i/\cq=I0 f/\Hid (Nk s o u w g r v y e n m q p R f i b I c wr)) (fun bc _ _=>s.size+1-(intOf bc).toNat)
  case atStart=>exact⟨0,m,[],Z,Y,rfl,rfl,bd⟩
  case round=>
   obtain⟨f,i,b,I,c,rfl,rfl,b4⟩:=hrel;obtain⟨ak,c2,c3,ca,b5,J,ac,a3,b6⟩:=b4.out;have S:=Aa b5;have aa:=Aa b6;have E:=Aa (show(e++p::b).length=e.length+1+b.length by simp;omega);by_cases ao:(q<0/\(f=0\/bt s i≠41))\/(0<=q/\(f:Int)<q)
   . have a:Hid (rest (AF s o u) s u q f i=if(AF s o u i).ok=true then(rest (AF s o u) s u q (f+1) (AF s o u i).i).pre (AF s o u i).As else⟨false,(AF s o u i).i,[]⟩):=
      VW (AF s o u) s u q f i (by rcases ao with⟨ab,M⟩|h;exact Or.inl ⟨ab,M,by omega⟩;exact Or.inr h)
     have ce:((f:Int) != q)=true:=by rw[hK];omega
     have a7:(q<0/\f=0)\/(q<0/\0<f/\(bt s i==41)=false)\/(0<=q/\(f:Int)<q):=by
      rcases ao with⟨ab,M⟩|h;by_cases h0:f=0;exact Or.inl ⟨ab,h0⟩;exact Or.inr (Or.inl ⟨ab,by omega,by rcases M with M|M;exact absurd M h0;simpa using M⟩);exact Or.inr (Or.inr h)
     rcases a7 with⟨al,h0⟩|⟨al,h0,bf⟩|⟨al,h0⟩
     . have cx:(f:Int)<=0:=by omega
       go_wp2_with fail;refine(a2.out i wr g r _ v y (e++p::b) kX (by simpa using ak) (by simp only[bE];omega) ax a3 S.o J g6).mono ?_;rintro K aq⟨rfl,A,j⟩;rw[bE]at j⊢;obtain⟨z,B,k⟩:=BA s o u i ak;generalize AF s o u i=ap at z B k a j⊢;obtain⟨av,au,ad⟩:=ap
       cases av
       exact n4;exact n3
     . go_wp2_with (go_at_call 83;refine(AI _ _ _ lD kX).mono ?_;rintro K cs⟨rfl,ai⟩;have ai:=ai.symm;subst ai;simp only[bE]);refine(a2.out i wr g r _ v y (e++p::b) kX (by simpa using ak) (by simp only[bE];omega) ax a3 S.o J g6).mono ?_;rintro K aq⟨rfl,A,j⟩;rw[bE]at j⊢;obtain⟨z,B,k⟩:=BA s o u i ak;generalize AF s o u i=ap at z B k a j⊢;obtain⟨av,au,ad⟩:=ap
       cases av
       exact n4;exact n3
     . go_wp2_with fail;refine(a2.out i wr g r _ v y (e++p::b) kX (by simpa using ak) (by simp only[bE];omega) ax a3 S.o J g6).mono ?_;rintro K aq⟨rfl,A,j⟩;rw[bE]at j⊢;obtain⟨z,B,k⟩:=BA s o u i ak;generalize AF s o u i=ap at z B k a j⊢;obtain⟨av,au,ad⟩:=ap
       cases av
       exact n4;exact n3
   have a7:(q<0/\0<f/\(bt s i==41)=true)\/(0<=q/\((f:Int) != q)=false):=by
    by_cases ab:q<0;refine Or.inl ⟨ab,?_,?_⟩;by_cases h0:f=0;exact absurd (Or.inl ⟨ab,Or.inl h0⟩) ao;omega;by_cases h0:bt s i=41;simpa using h0;exact absurd (Or.inl ⟨ab,Or.inr h0⟩) ao;refine Or.inr ⟨by omega,?_⟩;have M:=ca kX;by_cases bz:(f:Int)=q;simpa using bz;exact absurd (Or.inr ⟨by omega,by omega⟩) ao
   rcases a7 with⟨al,h0,bf⟩|⟨al,h0⟩
   . have az:=Aa (show R=⟨true,i+1,b⟩by rw[aa.o,Uj _ _ _ _ _ _ al h0 (by simpa using bf)];simp[C3.pre]);have ce:((f:Int) != q)=true:=by rw[hK];omega
     go_wp2_with (go_at_call 83;refine(AI _ _ _ lD kX).mono ?_;rintro K cs⟨rfl,ai⟩;have ai:=ai.symm;subst ai;simp only[bE]);have cc:e.length<(e++p::b).length:=by rw[E.o];omega
     have be:=S.o.c0;have a8:=(J.lt I rfl).1;have bv:wr.cell? (A0 I (e.length*9+6))=some (I0 (e.length+p.nx)):=by
      rw[J.cellAt _ kX,Jt 0 _ _ 6 kX];simp[It.off,It.cells]
     have bx:wr.frozen? (A0 I (e.length*9+6))=false:=J.frozenAt _;have a:=J.stored (e.length*9+6) (I0 ((e++p::b).length:Int));have a0:=S.o.Ad (A0 I (e.length*9+6)) lA (I0 ((e++p::b).length:Int));have cf:¬ r=I:=kX;have cg:¬ I=r:=kX;generalize(e++p::b).length=U at*;have b8:(e.length:Int)<(U:Int):=kX;have b9:(0:Int)<=(e.length:Int):=kX;go_region_held3 (fun w'=>w'.cell? (A0 r 0)=some (S0 I U c)) (first|go_keep|(simp[*];done)) (fail)
     go_wp2;refine aT (v:=.tuple #[I0 (i+1),.bool true]) (by simp[results,results84,go_sem]) rfl ?_;rw[H.o,az.o];exact S1 o F e b p a1.o (i+1) ((i:Int)+1) kX U E.o ac a8 a0 a.1
   have az:=Aa (show R=⟨true,i,b⟩by rw[aa.o,Tc _ _ _ _ _ _ al (by simpa using h0)];simp[C3.pre]);go_wp2_with fail;have cc:e.length<(e++p::b).length:=by rw[E.o];omega
   have be:=S.o.c0;have a8:=(J.lt I rfl).1;have bv:wr.cell? (A0 I (e.length*9+6))=some (I0 (e.length+p.nx)):=by
    rw[J.cellAt _ kX,Jt 0 _ _ 6 kX];simp[It.off,It.cells]
   have bx:wr.frozen? (A0 I (e.length*9+6))=false:=J.frozenAt _;have a:=J.stored (e.length*9+6) (I0 ((e++p::b).length:Int));have a0:=S.o.Ad (A0 I (e.length*9+6)) lA (I0 ((e++p::b).length:Int));have cf:¬ r=I:=kX;have cg:¬ I=r:=kX;generalize(e++p::b).length=U at*;have b8:(e.length:Int)<(U:Int):=kX;have b9:(0:Int)<=(e.length:Int):=kX;go_region_held3 (fun w'=>w'.cell? (A0 r 0)=some (S0 I U c)) (first|go_keep|(simp[*];done)) (fail)
   go_wp2;refine aT (v:=.tuple #[I0 (i),.bool true]) (by simp[results,results84,go_sem]) rfl ?_;rw[H.o,az.o];exact S1 o F e b p a1.o i ((i:Int)) kX U E.o ac a8 a0 a.1
theorem Ff(s j)(v:s.size<=400)(a):XG s j a:=by
 induction a with
 | zero=>
  intro y w e g x f k h h0 b o;omega
 | succ a E=>
  intro y w e g x f k h h0 b o A p z B u;obtain⟨n,rfl⟩:=hI h0;rw[bE]at b o u⊢;rcases r:Ak s n with⟨I,m,q,F⟩
  cases I
  exact WQ s j v a n w e g f k h b p (by rw[r]);exact Acj s j v a E n w e g x f k h b kX A p z B u m q F r _ rfl
theorem EX(h:p:=by
 have F:=A8 (J.o rfl);clear J b2 j k o;simp only;go_wp2;refine aT (v:=.tuple #[P0 r,I0 U,.bool false]) (by simp[results,results54,go_sem]) rfl ?_;exact CQ S.out F.o rfl):p:=h
theorem Ew(h:p:=by
 have h:=O;unfold Ac at h⊢;rw[A.block v kX kX];exact h):p:=h
theorem nE(h:p:=by
 go_wp2_with (first
  | refine nU ?_
  | refine nR ?_)
 refine aT (v:=.tuple #[P0 r,I0 (a),.bool false]) (by simp[results,results54,go_sem]) rfl ?_;exact CQ ap.out F.o kX):p:=h
theorem j4(h:p:=by
 intro x ai b5;rw[LG,ai,b5];split;rfl;have ah:=f.out.RW.2.1 y ac;simp only[cL];by_cases ao:Dq b (y:Int)=true;rw[aF ao,aC (by rw[ah,ao];simp)];rw[aC ao,aF (ah.2 (by simpa using ao))]):p:=h
theorem j5(h:p:=by
 clear ab I an V;go_wp2;refine aT (v:=.tuple #[P0 r,I0 (a),.bool false]) (by simp[results,results54,go_sem]) rfl ?_;exact CQ ap.out p.o rfl):p:=h
theorem j6(h:p:=by
 refine aT (v:=.tuple #[P0 r,I0 (a+1),.bool false]) (by simp[results,results54,go_sem]) rfl ?_;exact CQ ap.out F.o kX):p:=h
theorem nF(h:p:=by
 rcases f.out.row.2 with⟨ae,h0⟩|⟨g,ar,_,ae,_⟩;exact⟨none,0,by rw[h0];exact ae⟩;exact⟨_,_,ae⟩):p:=h
theorem ma(h:p:=by
 have h:=p.o;rw[GI _ _ _ _ _ kX]at h;exact h):p:=h
theorem nG(h:p:=by
 intro ai;have h:=p.o;rw[Ii _ _ _ _ _ kX K (by rw[af];exact ai),af]at h;exact h):p:=h
theorem Ex(h:p:=by
 rw[Z.o];omega):p:=h
abbrev nR(h:PLift q->p:=by
 intro aa;go_at_call 82;refine(AP _ _ _ _ kX kX kX).mono ?_;rintro e aj⟨rfl,z⟩;have z:=z.symm;subst z;exact aa.1):p:=h ⟨z⟩
abbrev nS(h:PLift q->p:=by
 intro aa;go_at_call 83;refine(AI _ _ _ lD kX).mono ?_;rintro e aj⟨rfl,z⟩;have z:=z.symm;subst z;simp only[bE,Ra];exact aa.1):p:=h ⟨z⟩
abbrev nT(h:PLift q->p:=by
 intro aa;go_at_call 83;refine(AI _ _ _ lD kX).mono ?_;rintro e aj⟨rfl,z⟩;have z:=z.symm;subst z;simp only[Ra,Xi];exact aa.1):p:=h ⟨z⟩
abbrev nU(h:PLift q->p:=by
 intro aa;go_at_call 83;refine(AI _ _ _ lD kX).mono ?_;rintro e aj⟨rfl,z⟩;have z:=z.symm;subst z;simp only[bE];exact aa.1):p:=h ⟨z⟩
abbrev kb(h:PLift q->p:=by
 intro aa;have M:=A8 L;have al:aq.cell? (A0 v y)=some (I0 u):=by rw[L.cell y];have:=f.out.RW.1;rw[<- Y.o];simp[Ci,List.getD,show y<E.length by omega]
 have am:=L.frozen y;revert M al am;exact aa.1):p:=h ⟨z⟩
abbrev mE(h:PLift q->p:=by
 intro aa;have ad:=f.out.Ap.c0;have ak:=f.out.Ap.c1;have B:=f.out.Ap.c2;have au:=f.out.Ap.frozen 2;have X:wr.cell? (A0 v y)=some (I0 (E.getD y 0)):=by
  rw[f.out.fst.cell y];have:=f.out.RW.1;simp[Ci,List.getD,show y<E.length by omega]
 revert ad ak B au X;exact aa.1):p:=h ⟨z⟩
def Ci(l:aD Int):Array aI:=(l.map fun a=>Value.int .i64 a).toArray
def startR:aD Rl->Int->Nat
 | [],_=>0
 | x::t,r=>if(x.r==r)=true then 0 else x.As.length+startR t r
theorem NK(l g b)(e:Dq l b=true):startR (l++[g]) b=startR l b:=by
 induction l with
 | nil=>simp[Dq]at e
 | cons h t f=>
  simp only[cA,startR];by_cases a:(h.r==b)=true;rw[aF a,aF a];rw[aC a,aC a,f (by simp only[Dq,cQ]at e⊢;simpa[a]using e)]
theorem Ua(l e b)(a:Dq l b=false)(f:e.r=b):startR (l++[e]) b=(Ao l).length:=by
 induction l with
 | nil=>simp[startR,f,Ao]
 | cons h t g=>
  simp only[Dq,cQ,fN]at a;simp only[cA,startR];rw[aC (by simp[a.1]),g (by simp only[Dq];exact a.2)];simp[Ao]
def KY(b:aD Int)(e:aD Rl):Prop:=b.length=8/\(∀ a,a<8->(b.getD a 0<0↔Dq e a=false))/\∀ a:Nat,a<8->Dq e a=true->b.getD a 0=startR e a
def MS(s:aA)(w:aE)(f:Ending)(w':aE):Prop:=
 ∃ e pl,f=.returned (.tuple #[P0 e,I0 pl,.bool (Ah s).ok])/\((Ah s).ok=false->pl=(Ah s).i)/\Below w.heap.size w w'/\
  ((Ah s).ok=true->∃ g c a b,H2 w' e g c (S0 a 8 8) (I0 (twiceV [] (Ah s).Bj)) (Ao (Ah s).Bj)/\Ac w' a (Ci b) 3/\KY b (Ah s).Bj)
structure AtF (s:aA) (w:aE) (fb gb B:Nat) (n a:Nat) (Bj:aD Rl) (v:aI) (fl:aD Int) (wr:aE):Prop where
 hn:n<=8
 ha:a<=s.size
 hb:Bj.length=n
 ni:(Ao Bj).length<=a
 pos:n≠0->0<(Ao Bj).length
 hB:B<=wr.heap.size
 Ap:Ac wr gb #[v,S0 fb 8 8,I0 (twiceV [] Bj)] 130
 row:wr.ownsRow B 132 9 v (Ao Bj).length (cellsL 0 (Ao Bj))
 fst:Ac wr fb (Ci fl) 3
 RW:KY fl Bj
 A9:Below w.heap.size w wr
 eq:if n=0 then a=0/\Bj=[]else Jm (Ah s) (Gq s n a Bj)
theorem Aee{w}{j f b c}{e h}{a}(k:Ac w f #[S0 b a.length c,e,h] 130)(g:w.ownsRow j 132 9 (S0 b a.length c) a.length (cellsL 0 a)):H2 w f b c e h a:=by
 refine⟨k,(g.lt b rfl).2,fun r q o p=>?_⟩;rw[g.cellAt _ kX,Jt 0 a r q p];simp[A1,o]
theorem Aag{s w g e o n p k x h wr}(a:AtF s w g e o n p k x h wr)(v:n≠0)(u:Jm (Ah s) ⟨true,s.size,k⟩):
 MS s w (.returned (.tuple #[P0 e,I0 0,.bool true])) wr:=by
 obtain⟨f,y,b⟩:=u;have b:=b rfl;obtain⟨r,c,rfl,_,_⟩:=a.row.form (a.pos v);refine⟨e,0,by rw[f],(fun j=>by rw[f]at j;cases j),a.A9,fun _=>⟨r,c,g,h,?_,a.fst,?_⟩⟩;rw[b];exact Aee a.Ap a.row;rw[b];exact a.RW
theorem CQ{s w e i}{a:Int}{o:aD Rl}{wr:aE}(j:Below w.heap.size w wr)(k:Jm (Ah s) ⟨false,i,o⟩)(h:a=i):
 MS s w (.returned (.tuple #[P0 e,I0 a,.bool false])) wr:=by
 obtain⟨b,g,p⟩:=k;subst h;exact⟨e,i,by rw[b],fun _=>by rw[g],j,fun f=>by rw[b]at f;cases f⟩
theorem Fr.lower{b g C e f}(a:Fr b g e f)(j:C<=b)(k:C<=g):Below C e f:=⟨a.os,a.tape,a.output,a.size,fun h o=>a.block h kX kX⟩
theorem K0(s f a e)(b:(AF s f a e).ok=true):0<(AF s f a e).As.length:=by
 cases a with
 | zero=>simp[AF]at b
 | succ a=>
  rw[AF]at b⊢;split;simp;rename_i g;rw[aC g]at b
  cases b
theorem LK{j:aD Int}{e:aD Rl}{x:Rl}{r:Nat}(k:KY j e)(p:x.r=r)(_hr:r<8)(a:aD Int)(z:a.length=8)(B:0<=a.getD r 0)(v:∀ q,q≠r->a.getD q 0=j.getD q 0)(A:(Dq e r=true/\a.getD r 0=j.getD r 0)\/(Dq e r=false/\a.getD r 0=(Ao e).length)):KY a (e++[x]):=by
 refine⟨z,fun q h=>?_,fun q h g=>?_⟩;rw[Ln,p];by_cases b:q=r;subst b;constructor;intro u;omega;intro u;simp at u;rw[v q b,k.2.1 q h];have:((r:Int)==(q:Int))=false:=lA;rw[this,cN];by_cases b:q=r;subst b;rcases A with⟨f,o⟩|⟨f,o⟩;rw[o,NK _ _ _ f];exact k.2.2 q h f;rw[o,Ua _ _ _ f p];rw[Ln,p]at g;have y:((r:Int)==(q:Int))=false:=lA;rw[y,cN]at g;rw[v q b,NK _ _ _ g];exact k.2.2 q h g
theorem Hr{s}{w}{h k g n y}{a}{U}{j}{wr}(o:AtF s w h k g n y a U j wr)(_:h<k)(_:k<g){e N p LL}{b}{r}{x}{u}{f}(A:(Ao a).length=LL)(v:e<8/\n<8)(M:p<=s.size)(L:LL+b.length<=p)(V:0<b.length)(z:g<=f.heap.size)(E:Ac f k #[r,S0 h 8 8,I0 x] 130)(O:f.ownsRow g 132 9 r (Ao a++b).length (cellsL 0 (Ao a++b)))(I:Ac f h (Ci j) 3)(S:twiceV [] (a++[⟨e,N,b⟩])=x)(B:Below w.heap.size w f)(F:Jm (Ah s) (Gq s (n+1) p (a++[⟨e,N,b⟩])))(J:j.getD e 0=u)(h0:0<=u):
 Hid (AtF s w h k g (n+1) p (a++[⟨e,N,b⟩]) r j f):=by
 refine⟨by omega,M,by simp[o.hb],?_,fun _=>?_,z,?_,?_,I,?_,B,?_⟩;rw[EM,aR,A];exact L;rw[EM,aR];simp only;omega;rw[S];exact E;rw[EM];exact O;refine LK o.RW rfl v.1 j o.RW.1 (by rw[J];exact h0) (fun _ _=>rfl) (Or.inl ⟨?_,rfl⟩)
 cases K:Dq a e
 have:=(o.RW.2.1 e v.1).2 K;omega;rfl;rw[aC kX];exact F
theorem MX{s}{w}{e k j n z}{g}{Y}{b}{wr}(o:AtF s w e k j n z g Y b wr)(Z:e<k)(aa:k<j){a N p LL}{f}{r}{y}{u}{h}(v:(Ao g).length=LL)(x:a<8/\n<8)(S:p<=s.size)(O:LL+f.length<=p)(ac:0<f.length)(B:j<=h.heap.size)(F:Ac h k #[r,S0 e 8 8,I0 y] 130)(V:h.ownsRow j 132 9 r (Ao g++f).length (cellsL 0 (Ao g++f)))(K:Ac h e (Ci b) 3)(X:twiceV [] (g++[⟨a,N,f⟩])=y)(E:Below w.heap.size w h)(I:Jm (Ah s) (Gq s (n+1) p (g++[⟨a,N,f⟩])))(L:b.getD a 0=u)(J:u<0)(ab:w.heap.size=e):
 Hid (AtF s w e k j (n+1) p (g++[⟨a,N,f⟩]) r (b.set a LL) (h.setCell (A0 e a) (I0 LL))):=by
 have M:=o.RW.1;refine⟨by omega,S,by simp[o.hb],?_,fun _=>?_,by simpa[World.setCell]using B,?_,?_,?_,?_,E.setCell lA _,?_⟩;rw[EM,aR,v];exact O;rw[EM,aR];simp only;omega;rw[X];exact F.Ad _ lA _;rw[EM];exact dS V lA _;have:=K.set a (I0 LL);have A:(Ci b).setIfInBounds a (I0 LL)=Ci (b.set a LL):=by simp[Ci]
 rwa [A]at this;refine LK (r:=a) o.RW rfl x.1 _ (by simpa using M) ?_ (fun q U=>?_) ?_;simp[List.getD,show a<b.length by omega];simp[List.getD,fB U];refine Or.inr ⟨(o.RW.2.1 a x.1).1 (by rw[L];exact J),?_⟩;rw[v];simp[List.getD,show a<b.length by omega];rw[aC kX];exact I
theorem Ny(s)(br:s.size<=400)(w):
 Calls prog 54 #[.string s] w fun e w'=>MS s w e w':=by
 go_enter func54,ntmps54;go_wp2_with fail;have cb:Hid (AtF s w w.heap.size (w.heap.size+1) (w.heap.size+2) 0 0 [] (.slice none 0 0) [-1,-1,-1,-1,-1,-1,-1,-1]
  ((w.alloc (.cells X_20 3)).alloc
    (.cells #[.slice none 0 0,S0 w.heap.size 8 8,I0 (-1)] 130))):=by
  refine⟨by omega,by omega,rfl,by simp[Ao],by simp,by simp,?_,cC _ _ _ _,?_,?_,FO _ _ _,?_⟩;have:=Ac.new (w.alloc (.cells X_20 3)) #[.slice none 0 0,S0 w.heap.size 8 8,I0 (-1)] 130;simpa[twiceV]using this;exact(Ac.new w _ _).alloc _;refine⟨rfl,fun y af=>?_,fun y af h=>by simp[Dq]at h⟩;have ab:y=0\/y=1\/y=2\/y=3\/y=4\/y=5\/y=6\/y=7:=kX;rcases ab with rfl|rfl|rfl|rfl|rfl|rfl|rfl|rfl<;>simp[Dq]
  simp
 generalize cl:((w.alloc (.cells X_20 3)).alloc
  (.cells #[.slice none 0 0,S0 w.heap.size 8 8,I0 (-1)] 130))=W at*
 clear cl;generalize ci:w.heap.size+2=a6 at*;generalize cn:w.heap.size+1=r at*;generalize cc:w.heap.size=v at*;have a7:=A8 cc;have bo:v<r:=kX;have a8:r<a6:=kX;clear ci cn cc;go_loopw [6,7] (fun ca cu wr=>∃ (n a:Nat) (b:aD Rl) (az:aI) (E:aD Int),ca=I0 a/\cu=I0 n/\Hid (AtF s w v r a6 n a b az E wr)) (fun ca _ _=>s.size+1-(intOf ca).toNat)
 case atStart=>exact⟨0,0,[],_,_,rfl,rfl,cb⟩
 case round=>
  clear cb;obtain⟨n,a,b,az,E,rfl,rfl,f⟩:=hrel;have V:=f.out;have cx:=V.hn;have cw:=V.ha;by_cases an:n≠0/\a=s.size
  . have p:Hid (Jm (Ah s) ⟨true,s.size,b⟩):=by
     have h:=V.eq;rw[aC an.1]at h;have ai:Gq s n a b=⟨true,s.size,b⟩:=by unfold Gq;rw[aF an.2]
     rw[ai]at h;exact h
    have bk:((n:Int)==0)=false:=lA;have cz:¬ (a:Int)<(s.size:Int):=kX;have cq:=an.1;clear an;go_wp2;refine aT (v:=.tuple #[P0 r,I0 (0),.bool true]) (by simp[results,results54,go_sem]) rfl ?_;exact Aag f.out cq p.o
  have ap:=A8 V.A9;by_cases I:n≠0/\(n=8\/bt s a≠59);have b8:a<s.size:=kX;have p:Hid (Jm (Ah s) ⟨false,a,b⟩):=by
   have h:=V.eq;rw[aC I.1]at h;have ai:Gq s n a b=⟨false,a,b⟩:=by unfold Gq;rw[aC kX,aF I.2]
   rw[ai]at h;exact h
  have bk:((n:Int)==0)=false:=lA;have cd:(0:Int)<(n:Int):=kX;have cm:(a:Int)<(s.size:Int):=kX;by_cases ab:n=8;have ch:((n:Int)==8)=true:=lA;exact j5;have ch:((n:Int)==8)=false:=lA;have cg:((s[a].toNat:Int) != 59)=true:=by
   have:=I.2;rw[Cs _ _ b8]at this;rw[hK];rcases this with h|h;exact absurd h ab;exact h
  exact j5;by_cases bk:n=0
  . have bp:=V.eq;rw[aF bk]at bp;have p:=Aa (show Jm (Ah s) ((rulesV s (7-n+1) 65 a).pre b)by
     rw[bk,bp.1,bp.2];exact⟨rfl,rfl,fun _=>by simp[GQ.pre,Ah]⟩)
    have cp:((n:Int)==0)=true:=lA;have cd:¬ (0:Int)<(n:Int):=kX;have ce:=Eh s a;have cf:=FT s a;clear bp an I V;by_cases bl:65<=bt s a/\bt s a<=72
    rotate_left;have bq:=Fc (bt s a) 65 72 bl;have F:Hid (Jm (Ah s) ⟨false,a,b⟩):=by
     exact ma
    clear p bl;exact nE;by_cases cj:bt s a<=65
    rotate_left;have bq:=Da (bt s a) 65 72 bl;have F:Hid (Jm (Ah s) ⟨false,a,b⟩):=by
     exact ma
    have cv:65<bt s a:=kX;clear p cj;exact nE;have bq:=Da (bt s a) 65 72 bl;by_cases K:bt s (a+1)=61
    rotate_left
    . have b7:(bt s (a+1) != 61)=true:=by rw[hK];exact K
      have F:Hid (Jm (Ah s) ⟨false,(a+1),b⟩):=by
       have h:=p.o;rw[Ix _ _ _ _ _ kX K]at h;exact h
      clear p K;go_wp2_with (first
       | refine nS ?_
       | refine nR ?_)
      exact j6
    have b7:(bt s (a+1) != 61)=false:=by simpa[bne]using K
    obtain⟨y,af,ac⟩:∃ y:Nat,bt s a-65=(y:Int)/\y<8:=⟨(bt s a-65).toNat,by omega,by omega⟩;have cr:(y:Int)<=0:=kX;have ck:=AT s (a+1) kX;have J:Hid ((AF s (y:Int) (s.size+1) (a+2)).ok=false->Jm (Ah s) ⟨false,(AF s (y:Int) (s.size+1) (a+2)).i,b⟩):=by
     exact nG
    have b2:Hid ((AF s (y:Int) (s.size+1) (a+2)).ok=true->Jm (Ah s) (Gq s (n+1) (AF s (y:Int) (s.size+1) (a+2)).i (b++[⟨y,a,(AF s (y:Int) (s.size+1) (a+2)).As⟩]))):=by
     intro ai;have h:=p.o;have b5:=JH s (7-n) 65 a b n kX kX K (by rw[af];exact ai);rw[af]at b5;exact h.trans b5
    rw[af]at bq;clear p K af;have b6:=A8 bk;clear bk;refine mE ?_;intro ad ak B au X;have a9:Hid (∀ x:Rl,x.r=y->x.pl=a->twiceV [] (b++[x])=if 0<=twiceV [] b then twiceV [] b else if E.getD y 0<0 then -1 else(a:Nat)):=by
     exact j4
    have ct:=Lj [] b;obtain⟨bv,bz,ae⟩:∃ bv bz,az=.slice bv (Ao b).length bz:=by
     exact nF
    rw[ae]at ad;clear ae;have co:=f.out.ni;have cs:(y:Int)<8:=kX;generalize b0:(Ao b).length=bj at*;have Z:=A8 b0;clear b0;generalize b4:twiceV [] b=a5 at*;have bu:=A8 b4;clear b4;generalize b3:E.getD y 0=u at*;have Y:=A8 b3;clear b3;have b9:u<0\/(0<=u/\a5<0)\/(0<=u/\0<=a5):=kX;rcases b9 with ba|⟨ba,b1⟩|⟨ba,b1⟩
    . go_wp2_with (first
       | refine nS ?_
       | refine nR ?_)
      have a0:a6<=wr.heap.size:=by have:=f.out.hB;omega
      have a2:Ac wr r #[az,S0 v 8 8,I0 (a5)] 130:=by have:=f.out.Ap;rwa [bu.o]at this
      have a3:=f.out.row;have a1:Below v w wr:=by have:=f.out.A9;rwa [a7.o]at this
      have O:=f.out.fst;refine(Ff s (y:Int) br (s.size+1) ((a:Int)+2) _ a6 r az (S0 v 8 8) (I0 (a5)) (Ao b) kX kX kX a8 a0 a2 a3 Ex).mono ?_;rintro e aq⟨rfl,A,j⟩;rw[show((a:Int)+2).toNat=a+2 by omega]at j⊢;obtain⟨ax,a4,k⟩:=BA s (y:Int) (s.size+1) (a+2) kX;have o:=K0 s (y:Int) (s.size+1) (a+2);generalize AF s (y:Int) (s.size+1) (a+2)=bf at ax a4 k o J b2 j⊢;obtain⟨bh,U,ay⟩:=bf;have S:Hid (Below w.heap.size w aq):=by rw[a7.o];exact a1.trans (A.lower kX kX)
      have L:Ac aq v (Ci E) 3:=by
       exact Ew
      refine kb ?_;intro M al am;have bd:=A8 (a9.o ⟨y,a,ay⟩ rfl rfl);clear a9 a2 a3 a1 O L a0 ad ak B au X
      cases bh
      exact EX
      . obtain⟨bi,av,aw⟩:=j rfl;obtain⟨k,bg⟩:=k rfl;have o:=o rfl;simp only at ax a4 k bg o av aw;have F:=A8 (b2.o rfl);have bx:=av.c1;have bb:=A8 av;have bc:=A8 aw;have bm:=A.size;clear J b2 j av aw;simp only;go_wp2_with fail;have be:twiceV [] (b++[⟨y,a,ay⟩])=a5:=by have h:=bd.o;rw[h,aF ba];split<;>omega
        exact⟨⟨n+1,U,b++[⟨y,a,ay⟩],bi,(E.set y bj),rfl,by have:=b6.o;subst this;rfl,MX f.out bo a8 (LL:=bj) Z.o ⟨ac,by omega⟩ ax kX o (by have:=f.out.hB;omega) bb.o bc.o M.o be S.out F.o Y.o ba a7.o⟩,by simp[intOf];omega⟩
    . go_wp2_with (first
       | refine nS ?_
       | refine nR ?_)
      have a0:a6<=(wr.setCell (A0 r 2) (I0 (a))).heap.size:=by have:=f.out.hB;simpa[World.setCell]using this
      have a2:Ac (wr.setCell (A0 r 2) (I0 (a))) r #[az,S0 v 8 8,I0 (a)] 130:=f.out.Ap.set 2 _;have a3:(wr.setCell (A0 r 2) (I0 (a))).ownsRow a6 132 9 az (Ao b).length (cellsL 0 (Ao b)):=dS f.out.row a8 _;have a1:Below v w (wr.setCell (A0 r 2) (I0 (a))):=by have:=f.out.A9;rw[a7.o]at this;exact this.setCell lA _
      have O:Ac (wr.setCell (A0 r 2) (I0 (a))) v (Ci E) 3:=f.out.fst.Ad _ lA _;refine(Ff s (y:Int) br (s.size+1) ((a:Int)+2) _ a6 r az (S0 v 8 8) (I0 (a)) (Ao b) kX kX kX a8 a0 a2 a3 Ex).mono ?_;rintro e aq⟨rfl,A,j⟩;rw[show((a:Int)+2).toNat=a+2 by omega]at j⊢;obtain⟨ax,a4,k⟩:=BA s (y:Int) (s.size+1) (a+2) kX;have o:=K0 s (y:Int) (s.size+1) (a+2);generalize AF s (y:Int) (s.size+1) (a+2)=bf at ax a4 k o J b2 j⊢;obtain⟨bh,U,ay⟩:=bf;have S:Hid (Below w.heap.size w aq):=by rw[a7.o];exact a1.trans (A.lower kX kX)
      have L:Ac aq v (Ci E) 3:=by
       exact Ew
      refine kb ?_;intro M al am;have bd:=A8 (a9.o ⟨y,a,ay⟩ rfl rfl);clear a9 a2 a3 a1 O L a0 ad ak B au X
      cases bh
      exact EX
      . obtain⟨bi,av,aw⟩:=j rfl;obtain⟨k,bg⟩:=k rfl;have o:=o rfl;simp only at ax a4 k bg o av aw;have F:=A8 (b2.o rfl);have bx:=av.c1;have bb:=A8 av;have bc:=A8 aw;have bm:=A.size;clear J b2 j av aw;simp only;go_wp2_with fail;have be:twiceV [] (b++[⟨y,a,ay⟩])=(a:Int):=by have h:=bd.o;rw[h,aC kX,aC kX]<;>omega
        exact⟨⟨n+1,U,b++[⟨y,a,ay⟩],bi,E,rfl,by have:=b6.o;subst this;rfl,Hr f.out bo a8 (LL:=bj) Z.o ⟨ac,by omega⟩ ax kX o (by have:=f.out.hB;simp[World.setCell]at bm;omega) bb.o bc.o M.o be S.out F.o Y.o ba⟩,by simp[intOf];omega⟩
    . go_wp2_with (first
       | refine nS ?_
       | refine nR ?_)
      have a0:a6<=wr.heap.size:=by have:=f.out.hB;omega
      have a2:Ac wr r #[az,S0 v 8 8,I0 (a5)] 130:=by have:=f.out.Ap;rwa [bu.o]at this
      have a3:=f.out.row;have a1:Below v w wr:=by have:=f.out.A9;rwa [a7.o]at this
      have O:=f.out.fst;refine(Ff s (y:Int) br (s.size+1) ((a:Int)+2) _ a6 r az (S0 v 8 8) (I0 (a5)) (Ao b) kX kX kX a8 a0 a2 a3 Ex).mono ?_;rintro e aq⟨rfl,A,j⟩;rw[show((a:Int)+2).toNat=a+2 by omega]at j⊢;obtain⟨ax,a4,k⟩:=BA s (y:Int) (s.size+1) (a+2) kX;have o:=K0 s (y:Int) (s.size+1) (a+2);generalize AF s (y:Int) (s.size+1) (a+2)=bf at ax a4 k o J b2 j⊢;obtain⟨bh,U,ay⟩:=bf;have S:Hid (Below w.heap.size w aq):=by rw[a7.o];exact a1.trans (A.lower kX kX)
      have L:Ac aq v (Ci E) 3:=by
       exact Ew
      refine kb ?_;intro M al am;have bd:=A8 (a9.o ⟨y,a,ay⟩ rfl rfl);clear a9 a2 a3 a1 O L a0 ad ak B au X
      cases bh
      exact EX
      . obtain⟨bi,av,aw⟩:=j rfl;obtain⟨k,bg⟩:=k rfl;have o:=o rfl;simp only at ax a4 k bg o av aw;have F:=A8 (b2.o rfl);have bx:=av.c1;have bb:=A8 av;have bc:=A8 aw;have bm:=A.size;clear J b2 j av aw;simp only;go_wp2_with fail;have be:twiceV [] (b++[⟨y,a,ay⟩])=a5:=by have h:=bd.o;rw[h,aF b1]
        exact⟨⟨n+1,U,b++[⟨y,a,ay⟩],bi,E,rfl,by have:=b6.o;subst this;rfl,Hr f.out bo a8 (LL:=bj) Z.o ⟨ac,by omega⟩ ax kX o (by have:=f.out.hB;omega) bb.o bc.o M.o be S.out F.o Y.o ba⟩,by simp[intOf];omega⟩
  have ab:((n:Int)==8)=false:=lA;have b8:a<s.size:=kX;have cy:n<8:=kX;have cg:((s[a].toNat:Int) != 59)=false:=by
   have h:bt s a=59:=by
    by_cases h:bt s a=59;exact h;exact absurd ⟨bk,Or.inr h⟩ I
   rw[Cs _ _ b8]at h;simpa[bne]using h
  have cm:(a:Int)<(s.size:Int):=kX;have p:Hid (Jm (Ah s) ((rulesV s (7-n+1) 72 (a+1)).pre b)):=by
   have h:=V.eq;rw[aC bk]at h;have ai:Gq s n a b=(rulesV s (7-n+1) 72 (a+1)).pre b:=by
    unfold Gq;rw[aC kX,aC (by intro h;exact I ⟨bk,h⟩),show 8-n=7-n+1 by omega]
   rw[ai]at h;exact h
  have cp:((n:Int)==0)=false:=lA;have cd:(0:Int)<(n:Int):=kX;have bp:=trivial;have ce:=Eh s (a+1);have cf:=FT s (a+1);clear bp an I V;by_cases bl:65<=bt s (a+1)/\bt s (a+1)<=72
  rotate_left
  . have bq:=Fc (bt s (a+1)) 65 72 bl;have F:Hid (Jm (Ah s) ⟨false,(a+1),b⟩):=by
     exact ma
    clear p bl;go_wp2_with (first
     | (go_at_call 83;refine(AI _ _ _ lD kX).mono ?_;rintro e aj⟨rfl,z⟩;have z:=z.symm;subst z;simp only[Ra])
     | refine nR ?_)
    exact j6
  have bq:=Da (bt s (a+1)) 65 72 bl;by_cases K:bt s (a+2)=61
  rotate_left
  . have b7:(bt s (a+2) != 61)=true:=by rw[hK];exact K
    have F:Hid (Jm (Ah s) ⟨false,(a+2),b⟩):=by
     have h:=p.o;rw[Ix _ _ _ _ _ kX K]at h;exact h
    clear p K;go_wp2_with (first
     | refine nT ?_
     | refine nR ?_)
    refine aT (v:=.tuple #[P0 r,I0 (a+1+1),.bool false]) (by simp[results,results54,go_sem]) rfl ?_;exact CQ ap.out F.o kX
  have b7:(bt s (a+2) != 61)=false:=by simpa[bne]using K
  obtain⟨y,af,ac⟩:∃ y:Nat,bt s (a+1)-65=(y:Int)/\y<8:=⟨(bt s (a+1)-65).toNat,by omega,by omega⟩;have cr:=trivial;have ck:(a+1)+1<s.size:=AT s (a+2) kX;have J:Hid ((AF s (y:Int) (s.size+1) ((a+1)+2)).ok=false->Jm (Ah s) ⟨false,(AF s (y:Int) (s.size+1) ((a+1)+2)).i,b⟩):=by
   exact nG
  have b2:Hid ((AF s (y:Int) (s.size+1) ((a+1)+2)).ok=true->Jm (Ah s) (Gq s (n+1) (AF s (y:Int) (s.size+1) ((a+1)+2)).i (b++[⟨y,(a+1),(AF s (y:Int) (s.size+1) ((a+1)+2)).As⟩]))):=by
   intro ai;have h:=p.o;have b5:=JH s (7-n) 72 (a+1) b n kX kX K (by rw[af];exact ai);rw[af]at b5;exact h.trans b5
  rw[af]at bq;clear p K af;refine mE ?_;intro ad ak B au X;have a9:Hid (∀ x:Rl,x.r=y->x.pl=(a+1)->twiceV [] (b++[x])=if 0<=twiceV [] b then twiceV [] b else if E.getD y 0<0 then -1 else((a+1):Nat)):=by
   exact j4
  have ct:=Lj [] b;obtain⟨bv,bz,ae⟩:∃ bv bz,az=.slice bv (Ao b).length bz:=by
   exact nF
  rw[ae]at ad;clear ae;have co:=f.out.ni;have cs:(y:Int)<8:=kX;generalize b0:(Ao b).length=bj at*;have Z:=A8 b0;clear b0;generalize b4:twiceV [] b=a5 at*;have bu:=A8 b4;clear b4;generalize b3:E.getD y 0=u at*;have Y:=A8 b3;clear b3;have b9:u<0\/(0<=u/\a5<0)\/(0<=u/\0<=a5):=kX;rcases b9 with ba|⟨ba,b1⟩|⟨ba,b1⟩
  . go_wp2_with (first
     | refine nT ?_
     | refine nR ?_)
    have a0:a6<=wr.heap.size:=by have:=f.out.hB;omega
    have a2:Ac wr r #[az,S0 v 8 8,I0 (a5)] 130:=by have:=f.out.Ap;rwa [bu.o]at this
    have a3:=f.out.row;have a1:Below v w wr:=by have:=f.out.A9;rwa [a7.o]at this
    have O:=f.out.fst;refine(Ff s (y:Int) br (s.size+1) (((a:Int)+1)+2) _ a6 r az (S0 v 8 8) (I0 (a5)) (Ao b) kX kX kX a8 a0 a2 a3 Ex).mono ?_;rintro e aq⟨rfl,A,j⟩;rw[show(((a:Int)+1)+2).toNat=(a+1)+2 by omega]at j⊢;obtain⟨ax,a4,k⟩:=BA s (y:Int) (s.size+1) ((a+1)+2) kX;have o:=K0 s (y:Int) (s.size+1) ((a+1)+2);generalize AF s (y:Int) (s.size+1) ((a+1)+2)=bf at ax a4 k o J b2 j⊢;obtain⟨bh,U,ay⟩:=bf;have S:Hid (Below w.heap.size w aq):=by rw[a7.o];exact a1.trans (A.lower kX kX)
    have L:Ac aq v (Ci E) 3:=by
     exact Ew
    refine kb ?_;intro M al am;have bd:=A8 (a9.o ⟨y,(a+1),ay⟩ rfl rfl);clear a9 a2 a3 a1 O L a0 ad ak B au X
    cases bh
    exact EX
    . obtain⟨bi,av,aw⟩:=j rfl;obtain⟨k,bg⟩:=k rfl;have o:=o rfl;simp only at ax a4 k bg o av aw;have F:=A8 (b2.o rfl);have bx:=av.c1;have bb:=A8 av;have bc:=A8 aw;have bm:=A.size;clear J b2 j av aw;simp only;go_wp2_with fail;have be:twiceV [] (b++[⟨y,(a+1),ay⟩])=a5:=by have h:=bd.o;rw[h,aF ba];split<;>omega
      exact⟨⟨n+1,U,b++[⟨y,(a+1),ay⟩],bi,(E.set y bj),rfl,by go_num,MX f.out bo a8 (LL:=bj) Z.o ⟨ac,by omega⟩ ax kX o (by have:=f.out.hB;omega) bb.o bc.o M.o be S.out F.o Y.o ba a7.o⟩,by simp[intOf];omega⟩
  . go_wp2_with (first
     | refine nT ?_
     | refine nR ?_)
    have a0:a6<=(wr.setCell (A0 r 2) (I0 ((a+1)))).heap.size:=by have:=f.out.hB;simpa[World.setCell]using this
    have a2:Ac (wr.setCell (A0 r 2) (I0 ((a+1)))) r #[az,S0 v 8 8,I0 ((a+1))] 130:=f.out.Ap.set 2 _;have a3:(wr.setCell (A0 r 2) (I0 ((a+1)))).ownsRow a6 132 9 az (Ao b).length (cellsL 0 (Ao b)):=dS f.out.row a8 _;have a1:Below v w (wr.setCell (A0 r 2) (I0 ((a+1)))):=by have:=f.out.A9;rw[a7.o]at this;exact this.setCell lA _
    have O:Ac (wr.setCell (A0 r 2) (I0 ((a+1)))) v (Ci E) 3:=f.out.fst.Ad _ lA _;refine(Ff s (y:Int) br (s.size+1) (((a:Int)+1)+2) _ a6 r az (S0 v 8 8) (I0 ((a+1))) (Ao b) kX kX kX a8 a0 a2 a3 Ex).mono ?_;rintro e aq⟨rfl,A,j⟩;rw[show(((a:Int)+1)+2).toNat=(a+1)+2 by omega]at j⊢;obtain⟨ax,a4,k⟩:=BA s (y:Int) (s.size+1) ((a+1)+2) kX;have o:=K0 s (y:Int) (s.size+1) ((a+1)+2);generalize AF s (y:Int) (s.size+1) ((a+1)+2)=bf at ax a4 k o J b2 j⊢;obtain⟨bh,U,ay⟩:=bf;have S:Hid (Below w.heap.size w aq):=by rw[a7.o];exact a1.trans (A.lower kX kX)
    have L:Ac aq v (Ci E) 3:=by
     exact Ew
    refine kb ?_;intro M al am;have bd:=A8 (a9.o ⟨y,(a+1),ay⟩ rfl rfl);clear a9 a2 a3 a1 O L a0 ad ak B au X
    cases bh
    exact EX
    . obtain⟨bi,av,aw⟩:=j rfl;obtain⟨k,bg⟩:=k rfl;have o:=o rfl;simp only at ax a4 k bg o av aw;have F:=A8 (b2.o rfl);have bx:=av.c1;have bb:=A8 av;have bc:=A8 aw;have bm:=A.size;clear J b2 j av aw;simp only;go_wp2_with fail;have be:twiceV [] (b++[⟨y,(a+1),ay⟩])=((a:Int)+1):=by have h:=bd.o;rw[h,aC kX,aC kX]<;>omega
      exact⟨⟨n+1,U,b++[⟨y,(a+1),ay⟩],bi,E,rfl,by go_num,Hr f.out bo a8 (LL:=bj) Z.o ⟨ac,by omega⟩ ax kX o (by have:=f.out.hB;simp[World.setCell]at bm;omega) bb.o bc.o M.o be S.out F.o Y.o ba⟩,by simp[intOf];omega⟩
  go_wp2_with (first
   | refine nT ?_
   | refine nR ?_)
  have a0:a6<=wr.heap.size:=by have:=f.out.hB;omega
  have a2:Ac wr r #[az,S0 v 8 8,I0 (a5)] 130:=by have:=f.out.Ap;rwa [bu.o]at this
  have a3:=f.out.row;have a1:Below v w wr:=by have:=f.out.A9;rwa [a7.o]at this
  have O:=f.out.fst;refine(Ff s (y:Int) br (s.size+1) (((a:Int)+1)+2) _ a6 r az (S0 v 8 8) (I0 (a5)) (Ao b) kX kX kX a8 a0 a2 a3 Ex).mono ?_;rintro e aq⟨rfl,A,j⟩;rw[show(((a:Int)+1)+2).toNat=(a+1)+2 by omega]at j⊢;obtain⟨ax,a4,k⟩:=BA s (y:Int) (s.size+1) ((a+1)+2) kX;have o:=K0 s (y:Int) (s.size+1) ((a+1)+2);generalize AF s (y:Int) (s.size+1) ((a+1)+2)=bf at ax a4 k o J b2 j⊢;obtain⟨bh,U,ay⟩:=bf;have S:Hid (Below w.heap.size w aq):=by rw[a7.o];exact a1.trans (A.lower kX kX)
  have L:Ac aq v (Ci E) 3:=by
   exact Ew
  refine kb ?_;intro M al am;have bd:=A8 (a9.o ⟨y,(a+1),ay⟩ rfl rfl);clear a9 a2 a3 a1 O L a0 ad ak B au X
  cases bh
  exact EX;obtain⟨bi,av,aw⟩:=j rfl;obtain⟨k,bg⟩:=k rfl;have o:=o rfl;simp only at ax a4 k bg o av aw;have F:=A8 (b2.o rfl);have bx:=av.c1;have bb:=A8 av;have bc:=A8 aw;have bm:=A.size;clear J b2 j av aw;simp only;go_wp2_with fail;have be:twiceV [] (b++[⟨y,(a+1),ay⟩])=a5:=by have h:=bd.o;rw[h,aF b1]
  exact⟨⟨n+1,U,b++[⟨y,(a+1),ay⟩],bi,E,rfl,by go_num,Hr f.out bo a8 (LL:=bj) Z.o ⟨ac,by omega⟩ ax kX o (by have:=f.out.hB;omega) bb.o bc.o M.o be S.out F.o Y.o ba⟩,by simp[intOf];omega⟩
def FD(l:aD It)(d:Int):Bool:=l.any fun a=>a.d==d&&Ae a.c
def KK(l:aD It)(d:Int):Bool:=l.any fun a=>a.d==d&&AN a.c
def vdL(pre:aD It)(a:It)(b:aD It):Bool:=if Ae a.c then !(FD pre a.d)&&KK b a.d else FD pre a.d && !(KK pre a.d)
def RB(b:aD It)(e:Int):Prop:=∃ pre a f,b=pre++a::f/\e=a.pl/\vdL pre a b=false
theorem H8(l d):FD l d=true↔∃ a,a∈l/\a.d=d/\Ae a.c=true:=by simp[FD]
theorem Of(l d):KK l d=true↔∃ a,a∈l/\a.d=d/\AN a.c=true:=by simp[KK]
theorem Hm{p:Type}{pre e f}{b g:p}(h:pre++[b]=e++g::f):(f=[]/\e=pre/\g=b)\/∃ a,f=a++[b]/\pre=e++g::a:=by
 rcases List.eq_nil_or_concat f with rfl|⟨a,j,rfl⟩;left;have:=List.append_inj' h rfl;exact⟨rfl,this.1.symm,by simpa using this.2.symm⟩;right;rw[List.concat_eq_append]at h⊢;have o:pre++[b]=(e++g::a)++[j]:=by rw[h];simp
 have:=List.append_inj' o rfl;have k:b=j:=by simpa using this.2
 subst k;exact⟨a,rfl,this.1⟩
structure Inv (pre:aD It) (sc:Sc):Prop where
 no:∀ d,sc.hid d=none↔FD pre d=false
 so:∀ (d:Nat) p,sc.hid d=some p->∃ a x b,pre=a++x::b/\Ae x.c=true/\x.d=(d:Int)/\x.pl=p/\FD a d=false
 us:∀ d,sc.us d=true->KK pre d=true
 un:∀ d,sc.us d=false->∀ a y b,pre=a++y::b->AN y.c=true->y.d=(d:Int)->FD a d=false
theorem GX(l a d):FD (l++[a]) d=(FD l d||(a.d==d&&Ae a.c)):=by simp[FD]
theorem IN(l a d):KK (l++[a]) d=(KK l d||(a.d==d&&AN a.c)):=by simp[KK]
theorem Inv.nil:Inv [] FN:=⟨fun d=>by simp[FN,FD],fun d f a=>by simp[FN]at a,fun d a=>by simp[FN]at a,fun d _ b g e a=>by simp at a⟩
theorem Inv.Ke{pre g}(j:Inv pre g)(h d f)(u:g.hid d=some f):∃ b a e,pre++[h]=b++a::e/\Ae a.c=true/\a.d=(d:Int)/\a.pl=f/\FD b d=false:=by
 obtain⟨b,a,e,rfl,k,o,p,r⟩:=j.so d f u;exact⟨b,a,e++[h],by simp,k,o,p,r⟩
theorem Inv.step{pre x}(e:Inv pre x)(a)(I:(Ae a.c||AN a.c)=true->0<=a.d):Inv (pre++[a]) (PF x a):=by
 unfold PF
 cases o:Ae a.c
 cases hu:AN a.c
 simp only[bT,cT];refine⟨fun d=>?_,e.Ke a,fun d b=>?_,fun d b k g y f j v=>?_⟩;rw[e.no,GX,o];simp;rw[IN,e.us d b];rfl;rcases Hm f with⟨_,_,rfl⟩|⟨r,_,u⟩;rw[hu]at j;cases j
 exact e.un d b k g r u j v;simp only[bT,cT,dU];have O:=I (by rw[hu];simp);have A:a.d=((a.d.toNat:Nat):Int):=kX;split;rename_i h;simp only[aY,fZ]at h;refine⟨fun d=>?_,e.Ke a,fun d b=>?_,fun d b k g y f j v=>?_⟩;simp only;rw[e.no,GX,o];simp;simp only at b;rw[IN,hu];by_cases f:d=a.d.toNat;subst f;rw[<- A];simp;rw[aC f]at b;rw[e.us d b];rfl;simp only at b;by_cases B:d=a.d.toNat;rw[aF B]at b;cases b
 rw[aC B]at b;rcases Hm f with⟨_,_,rfl⟩|⟨r,_,u⟩;omega;exact e.un d b k g r u j v;rename_i h;refine⟨fun d=>?_,e.Ke a,fun d b=>?_,fun d b k g y f j v=>?_⟩;rw[e.no,GX,o];simp;rw[IN,e.us d b];rfl;rcases Hm f with⟨_,rfl,rfl⟩|⟨r,_,u⟩;have J:g.d.toNat=d:=kX;rw[J,b]at h;exact(e.no d).1 (by cases p:x.hid d with|none=>rfl|some z=>rw[p]at h;simp at h);exact e.un d b k g r u j v;have hu:=EF _ o;simp only[dU];have O:=I (by rw[o];rfl);have A:a.d=((a.d.toNat:Nat):Int):=kX;have E:∀ d:Nat,x.us d=false->∀ (k:aD It) (g:It) (y:aD It),pre++[a]=k++g::y->AN g.c=true->g.d=(d:Int)->FD k d=false:=by
  intro d b k g y f j v;rcases Hm f with⟨_,_,rfl⟩|⟨r,_,u⟩;rw[hu]at j;cases j
  exact e.un d b k g r u j v
 have F:∀ d:Nat,x.us d=true->KK (pre++[a]) d=true:=fun d b=>by rw[IN,e.us d b];rfl
 split;rename_i h;refine⟨fun d=>?_,fun d z b=>?_,F,E⟩;simp only;rw[GX,o];by_cases f:d=a.d.toNat;rw[aF f];subst f;rw[<- A];simp;rw[aC f,e.no];have:(a.d==(d:Int))=false:=by rw[dC];omega
 rw[this];simp;simp only at b;by_cases f:d=a.d.toNat;rw[aF f]at b;have M:a.pl=z:=by simpa using b
 refine⟨pre,a,[],rfl,o,by omega,M,(e.no d).1 ?_⟩;rw[f];cases p:x.hid a.d.toNat with|none=>rfl|some z=>rw[p]at h;simp at h
 rw[aC f]at b;exact e.Ke a d z b;rename_i h;refine⟨fun d=>?_,e.Ke a,F,E⟩;rw[GX,o];by_cases f:d=a.d.toNat;subst f;have p:¬ x.hid a.d.toNat=none:=by intro p;rw[p]at h;simp at h
 have K:FD pre ((a.d.toNat:Nat):Int)=true:=by
  cases L:FD pre ((a.d.toNat:Nat):Int)
  exact(p ((e.no _).2 L)).elim;rfl
 rw[K];simp[p];rw[e.no];have:(a.d==(d:Int))=false:=by rw[dC];omega
 rw[this];simp
def WO(b:aD It):Prop:=b.Pairwise (fun a e=>a.pl<e.pl)/\∀ a,a∈b->(Ae a.c||AN a.c)=true/\0<=a.d/\a.d<8
theorem ZI(e):∀ pre b,Inv pre b->(∀ a,a∈e->(Ae a.c||AN a.c)=true->0<=a.d)->Inv (pre++e) (e.foldl PF b):=by
 induction e with
 | nil=>intro pre b f _;simpa using f
 | cons a t j=>
  intro pre b f g;have:=j (pre++[a]) (PF b a) (f.step a (g a aG)) (fun k h=>g k (aH _ h));simpa using this
theorem IS(a)(e:WO a)(pre g)(b:a=pre++g):Inv pre (pre.foldl PF FN):=by
 have:=ZI pre [] FN Inv.nil (fun h f _=>(e.2 h (by rw[b];exact bW _ f)).2.1);simpa using this
theorem Qt(j k):∀ h,PE h j k↔∃ pre a f,j=pre++a::f/\k=a.pl/\XE (pre.foldl PF h) a=true:=by
 induction j with
 | nil=>intro h;simp[PE]
 | cons o t p=>
  intro h;rw[PE,p];constructor;rintro(⟨b,e⟩|⟨pre,a,f,rfl,e,g⟩);exact⟨[],o,t,rfl,e,b⟩;exact⟨o::pre,a,f,rfl,e,g⟩;rintro⟨pre,a,f,b,e,g⟩
  cases pre with
  | nil=>simp at b;obtain⟨rfl,rfl⟩:=b;exact Or.inl ⟨g,e⟩
  | cons r pre=>simp at b;obtain⟨rfl,rfl⟩:=b;exact Or.inr ⟨pre,a,f,rfl,e,g⟩
theorem PH{a pre post x y}(e:WO a)(b:a=pre++x::post)(f:y∈pre):y.pl<x.pl:=by
 have:=e.1;rw[b]at this;exact(kQ.1 this).2.2 y f x aG
theorem Aeq{b pre g a}(f:WO b)(e:b=pre++a::g):(Ae a.c||AN a.c)=true/\0<=a.d/\a.d<8:=f.2 a (by rw[e];simp)
theorem Iv{pre f}(h:Inv pre f)(a:It)(k:0<=a.d):(f.hid a.d.toNat).isNone=!(FD pre a.d):=by
 have g:a.d=((a.d.toNat:Nat):Int):=kX;have b:=h.no a.d.toNat;rw[<- g]at b
 cases e:f.hid a.d.toNat with
 | none=>rw[b.1 e];rfl
 | some o=>
  cases j:FD pre a.d
  rw[b.2 j]at e;cases e
  rfl
theorem early(e)(j:WO e)(b a h)(f:e=b++a::h)(hu:AN a.c=true)(k:FD b a.d=false):PE FN e a.pl/\RB e a.pl:=by
 have g:Ae a.c=false:=by cases g:Ae a.c;rfl;rw[EF _ g]at hu;cases hu
 constructor;rw[Qt];refine⟨b,a,h,f,rfl,?_⟩;unfold XE;rw[g,hu,Iv (IS e j b _ f) a (Aeq j f).2.1,k];rfl;refine⟨b,a,h,f,rfl,?_⟩;unfold vdL;rw[g,k];rfl
theorem Yu(b)(g:WO b):DJ (PB b) (RB b):=by
 constructor;rintro K (aa|aa);obtain⟨pre,a,A,e,rfl,k⟩:=(Qt b K FN).1 aa;refine⟨a.pl,⟨pre,a,A,e,rfl,?_⟩,eX _⟩;have v:=IS b g pre _ e;obtain⟨d1,d2,al⟩:=Aeq g e;have Z:=Iv v a d2;unfold XE at k;unfold vdL;rw[Z]at k
 cases o:Ae a.c
 rw[o]at k d1;simp at d1;rw[d1]at k;simp only[bT,cT,dU,Bool.not_not]at k⊢
 cases h:FD pre a.d
 rfl;rw[h]at k;have S:(pre.foldl PF FN).us a.d.toNat=true:=by simpa using k
 have:=v.us _ S;rw[show((a.d.toNat:Nat):Int)=a.d by omega]at this;rw[this];rfl;rw[o]at k;simp only[dU,Bool.not_not]at k⊢;rw[k];rfl;obtain⟨d,av,am,hu⟩:=aa;have v:=IS b g b [] kY;obtain⟨z,a,U,e,ab,af,aq,aw⟩:=v.so d K am
 cases ae:KK b a.d
 refine⟨K,⟨z,a,U,e,aq.symm,?_⟩,eX _⟩;unfold vdL;rw[ab,ae];simp;obtain⟨j,B,ac,x⟩:=(Of _ _).1 ae;obtain⟨u,E,y⟩:=fE B;have J:=v.un d hu u j E y x kX;have an:=(early b g u j E y x (by rw[ac,af];exact J)).2;refine⟨j.pl,an,?_⟩;have ap:j∈z\/j=a\/j∈U:=by rw[e]at B;simpa using B
 rcases ap with h|h|h;have:=PH g e h;omega;rw[h]at x;rw[EF _ ab]at x;cases x
 exfalso;have ao:a∈u:=by
  have f:a∈b:=by rw[e];simp
  rw[y]at f;have Y:a.pl<j.pl:=by
   obtain⟨F,I,rfl⟩:=fE h;exact PH (pre:=z++a::F) (post:=I) g (by rw[e];simp) kY
  simp only[aV,bB]at f;rcases f with f|f|f;exact f;rw[f]at Y;omega;obtain⟨F,I,rfl⟩:=fE f;have:=PH (pre:=u++j::F) (post:=I) (x:=a) (y:=j) g (by rw[y];simp) kY;omega
 have:FD u d=true:=(H8 _ _).2 ⟨a,ao,af,ab⟩;rw[J]at this;cases this
 rintro K⟨pre,a,A,e,rfl,p⟩;have v:=IS b g pre _ e;obtain⟨d1,d2,al⟩:=Aeq g e;have Z:=Iv v a d2;unfold vdL at p
 cases o:Ae a.c
 rw[o]at p d1;simp at d1;simp only[bT,cT]at p
 cases h:FD pre a.d
 exact⟨a.pl,Or.inl (early b g pre a A e d1 h).1,eX _⟩;rw[h]at p;have X:KK pre a.d=true:=by simpa using p
 cases S:(pre.foldl PF FN).us a.d.toNat
 obtain⟨j,B,ac,x⟩:=(Of _ _).1 X;obtain⟨u,E,y⟩:=fE B;have J:=v.un _ S u j E y x kX;refine⟨j.pl,Or.inl (early b g u j (E++a::A) (by rw[e,y];simp) x (by rw[ac];rw[show((a.d.toNat:Nat):Int)=a.d by omega]at J;exact J)).1,?_⟩;have:=PH g e B;omega;refine⟨a.pl,Or.inl ((Qt _ _ _).2 ⟨pre,a,A,e,rfl,?_⟩),eX _⟩;unfold XE;rw[o,d1,S];simp;rw[o]at p;simp only[dU]at p
 cases h:FD pre a.d
 rw[h]at p;have X:KK b a.d=false:=by simpa using p
 refine⟨a.pl,Or.inr ⟨a.d.toNat,by omega,?_,?_⟩,eX _⟩
 . have M:=IS b g b [] kY
   cases O:(b.foldl PF FN).hid a.d.toNat with
   | none=>
    have:=(M.no _).1 O;rw[show((a.d.toNat:Nat):Int)=a.d by omega]at this;have ad:FD b a.d=true:=(H8 _ _).2 ⟨a,by rw[e];simp,rfl,o⟩;rw[this]at ad;cases ad
   | some K=>
    obtain⟨z,L,U,V,ar,ah,au,ai⟩:=M.so _ _ O;rw[show((a.d.toNat:Nat):Int)=a.d by omega]at ah ai;have r:L∈b:=by rw[V];simp
    rw[e]at r;simp only[aV,bB]at r;rcases r with r|r|r;have:FD pre a.d=true:=(H8 _ _).2 ⟨L,r,ah,ar⟩;rw[h]at this;cases this
    rw[<- au,r];exfalso;have f:a∈b:=by rw[e];simp
    obtain⟨F,I,rfl⟩:=fE r;have Y:=PH (pre:=pre++a::F) (post:=I) (x:=L) (y:=a) g (by rw[e];simp) kY;rw[V]at f;simp only[aV,bB]at f;rcases f with f|f|f;have:FD z a.d=true:=(H8 _ _).2 ⟨a,f,rfl,o⟩;rw[ai]at this;cases this
    rw[f]at Y;omega;obtain⟨aj,ak,rfl⟩:=fE f;have:=PH (pre:=z++L::aj) (post:=ak) (x:=a) (y:=L) g (by rw[V];simp) kY;omega
 have M:=IS b g b [] kY
 cases O:(b.foldl PF FN).us a.d.toNat
 rfl;have:=M.us _ O;rw[show((a.d.toNat:Nat):Int)=a.d by omega,X]at this
 cases this
 refine⟨a.pl,Or.inl ((Qt _ _ _).2 ⟨pre,a,A,e,rfl,?_⟩),eX _⟩;unfold XE;rw[o,Z,h];rfl
theorem nC(h:p:=by
 cases u with
 | zero=>exact h.elim
 | succ u=>obtain⟨x,z,ab,ac,_⟩:=h;exact⟨x,z.flatten,ab,ac⟩):p:=h
def Fa:Nat->aD It->Prop
 | 0,_=>False
 | f+1,l=>∃ e a,l=e::List.flatten a/\e.nx=1+((List.flatten a).length:Int)/\(∀ b,b∈a->Fa f b)/\(AY [119,64,115] e.c=true->∃ b,a=[b])
theorem Fa.XC{u l}(h:Fa u l):I4 l:=by
 exact nC
def At(e:aD It)(b:Nat)(l:aD It):Prop:=∃ a C,e=a++(l++C)/\a.length=b
theorem At.get{f b l}(g:At f b l)(a)(e:a<l.length):A1 f (b+a)=A1 l a:=by
 obtain⟨h,C,rfl,rfl⟩:=g;unfold A1;rw[A3 _ _ _ lA,A3 _ _ _ e,List.getElem_append_right kX];simp only[Nat.add_sub_cancel_left];rw[jV e]
theorem At.le{b a l}(e:At b a l):a+l.length<=b.length:=by
 obtain⟨f,C,rfl,rfl⟩:=e;simp
theorem At.head{b a e g}(f:At b a (e::g)):A1 b a=e:=by
 have:=f.get 0 kY;simpa[A1]using this
theorem At.tail{b a f e}(h:At b a (f::e)):At b (a+1) e:=by
 obtain⟨g,C,rfl,rfl⟩:=h;exact⟨g++[f],C,by simp,by simp⟩
theorem At.left{b a l m}(f:At b a (l++m)):At b a l:=by
 obtain⟨e,C,rfl,rfl⟩:=f;exact⟨e,m++C,by simp,rfl⟩
theorem At.right{b a l m}(f:At b a (l++m)):At b (a+l.length) m:=by
 obtain⟨e,C,rfl,rfl⟩:=f;exact⟨e++l,C,by simp,by simp⟩
def withSt:Nat->aD (aD It)->aD (Nat × aD It)
 | _,[]=>[]
 | a,z::t=>(a,z)::withSt (a+z.length) t
theorem AV{g}(e):∀ a,At g a e.flatten->∀ q,q∈withSt a e->q.2∈e/\At g q.1 q.2/\a<=q.1/\q.1+q.2.length<=a+e.flatten.length:=by
 induction e with
 | nil=>intro a _ q b;simp[withSt]at b
 | cons r t k=>
  intro a f q b;simp only[withSt,bB]at b;simp only[cR]at f;simp only[cR,aR];rcases b with rfl|b;exact⟨aG,f.left,aB _,by simp only;omega⟩;obtain⟨h,j,o,p⟩:=k _ f.right q b;exact⟨aH _ h,j,by omega,by omega⟩
theorem KW(f):∀ a e,e∈f->∃ c,(c,e)∈withSt a f:=by
 induction f with
 | nil=>intro a e b;simp at b
 | cons j t h=>
  intro a e b;rcases bB.1 b with rfl|b;exact⟨a,by simp[withSt]⟩;obtain⟨c,g⟩:=h (a+j.length) e b;exact⟨c,by simp[withSt,g]⟩
theorem Hq(g):∀ a b,a<=b->b<a+g.flatten.length->∃ q,q∈withSt a g/\q.1<=b/\b<q.1+q.2.length:=by
 induction g with
 | nil=>intro a b h e;simp at e;omega
 | cons f t k=>
  intro a b h e;simp only[cR,aR]at e;by_cases j:b<a+f.length;exact⟨(a,f),by simp[withSt],h,j⟩;obtain⟨q,o,p,r⟩:=k (a+f.length) b kX kX;exact⟨q,by simp[withSt,o],p,r⟩
theorem TU(g):∀ b q e f,q∈withSt b g->e∈withSt b g->q.1<=f->f<q.1+q.2.length->e.1<=f->f<e.1+e.2.length->q=e:=by
 have k:∀ (g:aD (aD It)) b q,q∈withSt b g->b<=q.1:=by
  intro g;induction g with
  | nil=>intro b q a;simp[withSt]at a
  | cons v t j=>
   intro b q a;simp only[withSt,bB]at a;rcases a with rfl|a;exact aB _;have:=j _ q a;omega
 induction g with
 | nil=>intro b q e f a;simp[withSt]at a
 | cons v t j=>
  intro b q e f a h o p r u;simp only[withSt,bB]at a h;rcases a with rfl|a<;>rcases h with rfl|h
  rfl;have:=k _ _ _ h;simp only at o p;omega;have:=k _ _ _ a;simp only at r u;omega;exact j _ q e f a h o p r u
theorem MQ{f a e b}(g:At f a (e::b))(h:e.nx=1+(b.length:Int)):FJ f a=a+(e::b).length:=by
 unfold FJ;rw[g.head,h];simp;omega
theorem Fa.FJ{b e l a}(f:Fa e l)(g:At b a l):FJ b a=a+l.length:=by
 obtain⟨k,j,rfl,h⟩:=f.XC;exact MQ g h
theorem Fa.inside{g}(e):∀ {l:aD It} {a:Nat},Fa e l->At g a l->∀ s,a<=s->s<a+l.length->Proofs.YtmlkhhhjdpbhfaaGreatDoor.FJ g s<=a+l.length:=by
 induction e with
 | zero=>intro l a b;exact b.elim
 | succ e p=>
  intro l a b f s z k;by_cases j:s=a;subst j;rw[b.FJ f];exact aB _;obtain⟨F,h,rfl,A,o,_⟩:=b;simp only[aX]at k⊢;obtain⟨q,v,x,y⟩:=Hq h (a+1) s kX kX;obtain⟨r,u,B,E⟩:=AV h (a+1) f.tail q v;have:=p (o _ r) u s x y;omega
theorem beside{k h}(g)(j:∀ e,e∈g->Fa h e):∀ b,At k b g.flatten->∀ q,q∈withSt b g->∀ s,b<=s->s<q.1->FJ k s<=q.1:=by
 induction g with
 | nil=>intro b _ q a;simp[withSt]at a
 | cons e t u=>
  intro b f q a s v o;simp only[withSt,bB]at a;simp only[cR]at f;rcases a with rfl|a;simp only at o;omega;by_cases p:s<b+e.length;have y:=Fa.inside h (j e aG) f.left s v p;have z:=(AV t _ f.right q a).2.2.1;omega;exact u (fun x r=>j x (aH _ r)) _ f.right q a s kX o
theorem Y7{j k}(f)(h:∀ e,e∈f->Fa k e):∀ b a,f.length<=a->At j b f.flatten->stepsV j (b+f.flatten.length) a b=(withSt b f).map Prod.fst:=by
 induction f with
 | nil=>intro b a _ _;cases a<;>simp[stepsV,withSt]
 | cons e t p=>
  intro b a hF g;simp only[cR]at g;have u:0<e.length:=by obtain⟨x,v,rfl,_⟩:=(h e aG).XC;simp
  cases a with
  | zero=>simp at hF
  | succ a=>
   rw[stepsV,aF (by simp only[cR,aR];omega)];rw[Fa.FJ (h e aG) g.left];have:=p (fun r o=>h r (aH _ o)) (b+e.length) a (by simpa using hF) g.right;simp only[cR,aR,withSt,bX];rw[<- this,Nat.add_assoc]
theorem Ss{f}(b:aD (aD It))(e:∀ a,a∈b->Fa f a):b.length<=b.flatten.length:=by
 induction b with
 | nil=>simp
 | cons a t h=>
  have k:0<a.length:=by obtain⟨p,o,rfl,_⟩:=(e a aG).XC;simp
  have:=h (fun j g=>e j (aH _ g));simp only[cR,aR,aX];omega
theorem Ms{f k b h a}(e:At f b (h::a.flatten))(p:h.nx=1+(a.flatten.length:Int))(g:∀ j,j∈a->Fa k j):CM f b=(withSt (b+1) a).map Prod.fst:=by
 unfold CM;rw[MQ e p];have r:=Ss a g;have o:=e.le;simp only[aX]at o⊢;rw[show b+(a.flatten.length+1)=(b+1)+a.flatten.length by omega];exact Y7 a g (b+1) f.length kX e.tail
def evI:Nat->Bool->Bool->Nat->aD It->aD Nat
 | 0,_,_,_,_=>[]
 | _+1,_,_,_,[]=>[]
 | f+1,own,b,e,a::g=>if a.c=40 then[]else(if(Ae a.c&&own)||(AN a.c&&b)then[e]else[])++(withSt (e+1) (segs g.length g)).flatMap fun q=>evI f false (b&&AY [119,64,115] a.c) q.1 q.2
theorem E4{e}(a)(g:∀ b,b∈a->Fa e b):segs a.flatten.length a.flatten=a:=G7 a (fun b f=>(g b f).XC) _ (aB _)
theorem Acw{h}(b):∀ f e a l,Fa b l->At h a l->(evI b f e a l).map (A1 h)=ev b f e l:=by
 have x:∀ b,(∀ f e a l,Fa b l->At h a l->(evI b f e a l).map (A1 h)=ev b f e l)->∀ f e j a,(∀ k,k∈j->Fa b k)->At h a j.flatten->((withSt a j).flatMap fun q=>evI b f e q.1 q.2).map (A1 h)=j.flatMap (ev b f e):=by
  intro b o f e j;induction j with
  | nil=>intro a _ _;rfl
  | cons k t z=>
   intro a u g;simp only[cR]at g;simp only[withSt,bY,dO];rw[o f e a k (u k aG) g.left,z _ (fun A y=>u A (aH _ y)) g.right]
 induction b with
 | zero=>intro f e a l g;exact g.elim
 | succ b o=>
  intro f e a l g p;obtain⟨E,v,rfl,B,r,_⟩:=g;rw[evI,ev];rw[E4 v r];split;rfl;rw[dO,x b o _ _ v (a+1) r p.tail];congr 1;split;simp[p.head];rfl
theorem Le{u}(f):∀ j g b l,Fa f l->At u b l->∀ e,e∈evI f j g b l->b<=e/\e<b+l.length:=by
 induction f with
 | zero=>intro j g b l h;exact h.elim
 | succ f r=>
  intro j g b l h p e a;obtain⟨F,o,rfl,A,k,_⟩:=h;rw[evI,E4 o k]at a;split at a;simp at a;rcases aV.1 a with a|a;split at a;simp at a;subst a;simp;simp at a;obtain⟨q,y,z⟩:=cI.1 a;obtain⟨v,x,B,E⟩:=AV o (b+1) p.tail q y;have:=r _ _ _ _ (k _ v) x e z;simp only[aX];omega
theorem GW(b):∀ a l,evI b false false a l=[]:=by
 induction b with
 | zero=>intro a l;rfl
 | succ b e=>
  intro a l
  cases l with
  | nil=>rfl
  | cons g f=>simp[evI,e]
theorem Ru{p}(e):∀ g b l,Fa e l->At p b l->∀ f,f∈evI e false g b l->AN (A1 p f).c=true:=by
 induction e with
 | zero=>intro g b l h;exact h.elim
 | succ e u=>
  intro g b l h j f a;obtain⟨B,r,rfl,A,o,_⟩:=h;rw[evI,E4 r o]at a;split at a;simp at a;rcases aV.1 a with a|a;split at a;rename_i k;simp at a;subst a;rw[j.head];simp at k;exact k.1;simp at a;obtain⟨q,y,z⟩:=cI.1 a;obtain⟨v,x,_,_⟩:=AV r (b+1) j.tail q y;exact u _ _ _ (o _ v) x f z
theorem ZC{v}(h):∀ N b g f,(List.flatten f).length<=N->At v b (g::List.flatten f)->(∀ a,a∈f->Fa h a)->(AY [119,64,115] g.c=true->∃ a,f=[a])->
 BN v (N+1) b=(withSt (b+1) f).flatMap fun q=>evI h false (AY [119,64,115] g.c) q.1 q.2:=by
 induction h with
 | zero=>
  intro N b g f _ j u p;rw[BN,j.head];split;rename_i e;obtain⟨a,rfl⟩:=p e;exact(u a aG).elim;rename_i e;simp[evI]
 | succ h J=>
  intro N b g f y j u p;rw[BN,j.head];split;rename_i e;obtain⟨a,rfl⟩:=p e;have I:=u a aG;obtain⟨k,x,rfl,K,A,F⟩:=I;have z:At v (b+1) (k::x.flatten):=by have:=j.tail;simpa using this
  obtain⟨o,rfl⟩:∃ o,N=o+1:=⟨N-1,by simp at y;omega⟩;rw[z.head,J o (b+1) k x (by simp at y;simp;omega) z A F,e];simp only[withSt,bY,List.flatMap_nil,dI];rw[evI,E4 x A];by_cases r:k.c=40;rw[aF r,r];have B:AN 40=false:=lC;have E:AY [119,64,115] 40=false:=lC;rw[B,E];simp[GW];rw[aC r]
  cases hu:AN k.c<;>simp
  rename_i e;have:AY [119,64,115] g.c=false:=by simpa using e
  rw[this];simp[GW]
theorem iy(h:p:=by
 rintro⟨aa,ab,ac,ad⟩;obtain⟨k,am,rfl⟩:=dF.1 ab;exact⟨k,eD.2 ⟨(eD.1 am).1,by simp[Iu,ac,ad]⟩⟩):p:=h
def hu(a:aD It)(b:Nat):Bool:=Ae (A1 a b).c||AN (A1 a b).c
theorem VM{b a c o}(p:Fa a o)(g:At b c o):(c::BN b b.length c).filter (hu b)=evI a true true c o:=by
 cases a with
 | zero=>exact p.elim
 | succ a=>
  obtain⟨e,f,rfl,M,k,E⟩:=p;have B:=g.le;simp only[aX]at B;obtain⟨N,x⟩:∃ N,b.length=N+1:=⟨b.length-1,by omega⟩;rw[x,ZC a N c e f kX g k E,evI,E4 f k];have y:((withSt (c+1) f).flatMap fun q=>evI a false (AY [119,64,115] e.c) q.1 q.2).filter (hu b)=(withSt (c+1) f).flatMap fun q=>evI a false (AY [119,64,115] e.c) q.1 q.2:=by
   rw[List.filter_eq_self];intro F A;obtain⟨q,K,L⟩:=cI.1 A;obtain⟨I,J,_,_⟩:=AV f (c+1) g.tail q K;unfold hu;rw[Ru a _ _ _ (k _ I) J F L];simp
  rw[List.filter_cons,y];have z:hu b c=(Ae e.c||AN e.c):=by unfold hu;rw[g.head]
  rw[z];by_cases j:e.c=40;rw[aF j,j];have r:AN 40=false:=lC;have u:AY [119,64,115] 40=false:=lC;have v:Ae 40=false:=lC;rw[r,u,v];simp[GW];rw[aC j]
  cases h:(Ae e.c||AN e.c)
  simp only[fN]at h;simp[h.1,h.2];simp only[gG,h,dU];simp
theorem Sy{f g b k a}(h:At f b (k::a.flatten))(u:k.nx=1+(a.flatten.length:Int))(j:∀ o,o∈a->Fa g o):
 (AR f b).filter (hu f)=(withSt (b+1) a).flatMap fun q=>evI g true true q.1 q.2:=by
 unfold AR;rw[Ms h u j];have e:∀ q,q∈withSt (b+1) a->Fa g q.2/\At f q.1 q.2:=fun q p=>by
  obtain⟨x,y,_,_⟩:=AV a (b+1) h.tail q p;exact⟨j _ x,y⟩
 generalize withSt (b+1) a=A at e;induction A with
 | nil=>rfl
 | cons q t v=>
  simp only[bX,bY,iL];rw[VM (e q aG).1 (e q aG).2,v (fun z r=>e z (aH _ r))]
theorem UL{A f e b k h}(y:At A e b.flatten)(z:∀ u,u∈b->Fa f u){q:Nat × aD It}(j:q∈withSt e b){a}(v:q.1<=a)(x:a<q.1+q.2.length):
 a∈((withSt e b).flatMap fun q=>evI f k h q.1 q.2)↔a∈evI f k h q.1 q.2:=by
 constructor;intro g;obtain⟨o,p,r⟩:=cI.1 g;obtain⟨B,E,_,_⟩:=AV b e y o p;have:=Le f _ _ _ _ (z _ B) E a r;rw[TU b e q o a j p v x this.1 this.2];exact r;intro g;exact cI.2 ⟨q,j,g⟩
theorem Uy{h}{e g}{r}{j}(f:At h g (r::j.flatten))(p:r.nx=1+(j.flatten.length:Int))(k:∀ u,u∈j->Fa e u)(J:r.c=40){q:Nat × aD It}(o:q∈withSt (g+1) j){b}(F:q.1<=b)(I:b<q.1+q.2.length)(L:hu h b=true):
 Bt h b g=true↔b∈evI e true true q.1 q.2:=by
 have O:=Sy f p k;have y:b∈AR h g↔b∈evI e true true q.1 q.2:=by
  rw[<- UL f.tail k o F I,<- O,eD];simp[L]
 obtain⟨S,U,ac,ad⟩:=AV j (g+1) f.tail q o;have M:=MQ f p;simp only[aX]at M;unfold Bt F6;rw[f.head,J];simp only[beq_self_eq_true,dR,aY,bD,cH,fZ];constructor;rintro⟨⟨_,a⟩,_⟩;exact y.1 a;intro a;refine⟨⟨by omega,y.2 a⟩,?_⟩;by_cases v:b=q.1;right;rw[Ms f p k,v];exact dF.2 ⟨q,o,rfl⟩;left;have B:=k _ S
 cases e with
 | zero=>exact B.elim
 | succ e=>
  obtain⟨c,u⟩:=q;obtain⟨ae,E,A,ab,x,_⟩:=B;simp only at A;subst A;rw[evI,E4 E x]at a;split at a;simp at a;rcases aV.1 a with a|a;split at a;simp at a;exact(v a).elim;simp at a;obtain⟨Y,Z,aa⟩:=cI.1 a;obtain⟨V,X,_,_⟩:=AV E (c+1) U.tail Y Z;have z:=Ru e _ _ _ (x _ V) X b aa
  cases K:Ae (A1 h b).c
  rfl;rw[EF _ K]at z;cases z
theorem YB(l)(b:Nat)(a:b∈l):∃ f,l=l.take (l.idxOf b)++b::f:=by
 induction l with
 | nil=>simp at a
 | cons g t o=>
  by_cases e:g=b;subst e;exact⟨t,by simp⟩;have k:b∈t:=by rcases bB.1 a with a|a;exact(e a.symm).elim;exact a
  obtain⟨f,j⟩:=o k;refine⟨f,?_⟩;have h:(g==b)=false:=by rw[dC];exact e
  rw[List.idxOf_cons,h,cond_false,bU,cA,<- j]
theorem Ac4(a l d):decide (0<Cg a l d true)=FD ((l.filter (hu a)).map (A1 a)) d:=by
 rw[hX,bD,H8];unfold Cg;rw[jB];constructor;rintro⟨k,e⟩;obtain⟨am,b⟩:=eD.1 e;simp only[Iu,dR,gY,dX,cN,aY,dA]at b;exact⟨A1 a k,dF.2 ⟨k,eD.2 ⟨am,by unfold hu;rw[b.2];rfl⟩,rfl⟩,b.1,b.2⟩;exact iy
theorem Acb(a l d):decide (0<Cg a l d false)=KK ((l.filter (hu a)).map (A1 a)) d:=by
 rw[hX,bD,Of];unfold Cg;rw[jB];constructor;rintro⟨k,e⟩;obtain⟨am,b⟩:=eD.1 e;simp only[Iu,dR,Bool.not_false,dX,gF,aY,dA]at b;exact⟨A1 a k,dF.2 ⟨k,eD.2 ⟨am,by unfold hu;rw[b.2];simp⟩,rfl⟩,b.1,b.2⟩;exact iy
theorem Z1(n):(n==0)=!(decide (0<n)):=by cases n<;>simp
theorem M2(a b e)(g:e∈AR a b)(h:hu a e=true):
 ∃ pre k,((AR a b).filter (hu a)).map (A1 a)=pre++A1 a e::k/\verdict a e b=vdL pre (A1 a e) (((AR a b).filter (hu a)).map (A1 a)):=by
 obtain⟨j,f⟩:=YB _ _ g;refine⟨(((AR a b).take ((AR a b).idxOf e)).filter (hu a)).map (A1 a),(j.filter (hu a)).map (A1 a),?_,?_⟩;generalize(AR a b).take ((AR a b).idxOf e)=o at f⊢;rw[f,iL,List.filter_cons,h];simp;unfold verdict vdL;simp only[Z1,Ac4,Acb]
theorem WW(h:aD It)(u:h.Pairwise (fun b r=>b.pl<r.pl)):∀ pre b j g e k,h=pre++b::j->h=g++e::k->b.pl=e.pl->pre=g/\b=e:=by
 induction h with
 | nil=>intro pre b j g e k f;simp at f
 | cons r t y=>
  intro pre b j g e k f a x;obtain⟨o,v⟩:=fW.1 u
  cases pre with
  | nil=>
   simp at f;obtain⟨rfl,rfl⟩:=f
   cases g with
   | nil=>simp at a;exact⟨rfl,a.1⟩
   | cons A p=>
    simp at a;have:=o e (by rw[a.2];simp);omega
  | cons A p=>
   simp at f;obtain⟨rfl,rfl⟩:=f
   cases g with
   | nil=>
    simp at a;have:=o b kY;rw[a.1]at this;omega
   | cons B z=>
    simp at a;obtain⟨rfl,a⟩:=a;have:=y v p b j z e k rfl a x;exact⟨by rw[this.1],this.2⟩
theorem Afw{e}{f b}{u}{a}(F:At e b (u::a.flatten))(O:u.nx=1+(a.flatten.length:Int))(k:∀ h,h∈a->Fa f h)(M:(a.flatMap (ev f true true)).Pairwise (fun u p=>u.pl<p.pl))(J):
 RB (a.flatMap (ev f true true)) J↔∃ g,g∈((withSt (b+1) a).flatMap fun q=>evI f true true q.1 q.2)/\verdict e g b=false/\J=(A1 e g).pl:=by
 have I:=Sy F O k;have x:((AR e b).filter (hu e)).map (A1 e)=a.flatMap (ev f true true):=by
  rw[I];have:∀ (a:aD (aD It)) b,(∀ h,h∈a->Fa f h)->At e b a.flatten->((withSt b a).flatMap fun q=>evI f true true q.1 q.2).map (A1 e)=a.flatMap (ev f true true):=by
   intro a;induction a with
   | nil=>intro b _ _;rfl
   | cons h t S=>
    intro b k v;simp only[cR]at v;simp only[withSt,bY,dO];rw[Acw f true true b h (k h aG) v.left,S _ (fun p z=>k p (aH _ z)) v.right]
  exact this a (b+1) k F.tail
 rw[<- I];constructor;rintro⟨pre,p,U,E,rfl,y⟩;have z:p∈((AR e b).filter (hu e)).map (A1 e):=by rw[x,E];simp
 obtain⟨g,r,rfl⟩:=dF.1 z;obtain⟨A,B⟩:=eD.1 r;obtain⟨L,K,j,o⟩:=M2 e b g A B;rw[x]at j o;obtain⟨rfl,_⟩:=WW _ M _ _ _ _ _ _ E j rfl;exact⟨g,r,by rw[o,y],rfl⟩;rintro⟨g,r,y,rfl⟩;obtain⟨A,B⟩:=eD.1 r;obtain⟨L,K,j,o⟩:=M2 e b g A B;rw[x]at j o;exact⟨L,_,K,j,rfl,by rw[<- o,y]⟩
theorem Pn(b e)(a:hu b e=false):Bm b e=true:=by
 unfold hu at a;simp only[fN]at a;unfold Bm;rw[a.1,a.2];rfl
theorem Ty(b a)(e:hu b a=true)(g:∀ s,s<a->Bt b a s=false):Bm b a=false:=by
 have h0:(!(Ae (A1 b a).c) && !(AN (A1 b a).c))=false:=by unfold hu at e;revert e;cases Ae (A1 b a).c<;>cases AN (A1 b a).c<;>decide
 have f:(List.range a).find? (Bt b a)=none:=by
  rw[iK];intro s h;rw[g s (eN.1 h)];simp
 unfold Bm;rw[h0,f];rfl
theorem Ur(b a e)(g:hu b a=true)(h:e<a)(j:∀ s,s<a->(Bt b a s=true↔s=e)):Bm b a=verdict b a e:=by
 have h0:(!(Ae (A1 b a).c) && !(AN (A1 b a).c))=false:=by unfold hu at g;revert g;cases Ae (A1 b a).c<;>cases AN (A1 b a).c<;>decide
 have k:(List.range a).find? (Bt b a)=some e:=by
  cases f:(List.range a).find? (Bt b a)with
  | none=>
   rw[iK]at f;exact((f e (eN.2 h)) ((j e h).2 rfl)).elim
  | some s=>
   have o:=List.find?_some f;have p:=eN.1 (jR f);rw[(j s p).1 o]
 unfold Bm;rw[h0,k];rfl
def I8(l:aD It):Prop:=l.Pairwise (fun a b=>a.pl<b.pl)
theorem NW(a):∀ l,(segs a l).flatten.Sublist l:=by
 induction a with
 | zero=>intro l;exact fR _
 | succ a f=>
  intro l
  cases l with
  | nil=>exact fR _
  | cons b e=>
   rw[segs,cR,cA];refine List.Sublist.cons_cons b ?_;have:=(f (e.drop (b.nx.toNat-1))).append_left (e.take (b.nx.toNat-1));rwa [eH]at this
theorem Nl{e:aD It->aD It}(b:aD (aD It))(f:∀ a,a∈b->(e a).Sublist a):(b.flatMap e).Sublist b.flatten:=by
 induction b with
 | nil=>exact fR _
 | cons a t h=>
  rw[bY,cR];exact(f a aG).append (h fun j g=>f j (aH _ g))
theorem ZE(e):∀ f a (l:aD It),(ev e f a l).Sublist l:=by
 induction e with
 | zero=>intro f a l;exact fR _
 | succ e j=>
  intro f a l
  cases l with
  | nil=>exact fR _
  | cons g b=>
   rw[ev];split;exact fR _;have h:=(Nl (segs b.length b) (fun k _=>j false (a&&AY [119,64,115] g.c) k)).trans (NW b.length b);split;exact List.Sublist.cons_cons g h;exact List.Sublist.cons g h
theorem Agk(f):∀ g e (l:aD It) b,b∈ev f g e l->(Ae b.c||AN b.c)=true:=by
 induction f with
 | zero=>intro g e l b a;simp[ev]at a
 | succ f j=>
  intro g e l b a
  cases l with
  | nil=>simp[ev]at a
  | cons r p=>
   rw[ev]at a;split at a;simp at a;rcases aV.1 a with a|a;split at a;rename_i h;simp at a;subst a;revert h;cases Ae b.c<;>cases AN b.c<;>simp
   simp at a;obtain⟨k,_,o⟩:=cI.1 a;exact j _ _ k b o
theorem UT{a}{b:aD (aD It)}(e:a∈b):a.Sublist b.flatten:=List.sublist_flatten_of_mem e
def DOk(l:aD It):Prop:=∀ a,a∈l->(Ae a.c||AN a.c)=true->0<=a.d/\a.d<8
theorem Ahs(b p h)(g:aD (aD It))(e:aD It)(v:g.flatten.Sublist e)(u:I8 e)(r:DOk e):WO (g.flatMap (ev b p h)):=by
 have j:=(Nl g (fun f _=>ZE b p h f)).trans v;refine⟨gC j u,fun a o=>?_⟩;have k:(Ae a.c||AN a.c)=true:=by obtain⟨f,_,x⟩:=cI.1 o;exact Agk b _ _ f a x
 exact⟨k,r a (j.subset o) k⟩
theorem Acf(e):∀ h g (l:aD It),I8 l->DOk l->DJ (lost PB e h g l) (lost RB e h g l):=by
 induction e with
 | zero=>intro h g l _ _;exact DJ.refl _
 | succ e J=>
  intro h g l I F
  cases l with
  | nil=>exact DJ.refl _
  | cons k a=>
   have B:I8 a:=(fW.1 I).2;have z:DOk a:=fun x v=>F x (aH _ v)
   have A:∀ u r b,b∈segs a.length a->DJ (lost PB e u r b) (lost RB e u r b):=fun u r b p=>by
    have E:=(UT p).trans (NW a.length a);exact J u r b (gC E B) (fun x v=>z x (E.subset v))
   by_cases y:k.c=40;have o:∀ f:aD It->Int->Prop,lost f (e+1) h g (k::a)=fun j=>f ((segs a.length a).flatMap (ev e true true)) j\/∃ b,b∈segs a.length a/\lost f e true true b j:=fun f=>by funext j;rw[lost,aF y]
   rw[o,o];exact DJ.or (Yu _ (Ahs e true true _ a (NW _ _) B z)) (DJ.ex fun b p=>A true true b p);have o:∀ f:aD It->Int->Prop,lost f (e+1) h g (k::a)=fun j=>(((Ae k.c && !h)||(AN k.c && !g))=true/\j=k.pl)\/∃ b,b∈segs a.length a/\lost f e false (g&&AY [119,64,115] k.c) b j:=fun f=>by funext j;rw[lost,aC y]
   rw[o,o];exact DJ.or (DJ.refl _) (DJ.ex fun b p=>A _ _ b p)
structure Ctx (As:aD It) (f:Nat) (own ar:Bool) (b:Nat) (l:aD It) (S:Nat):Prop where
 dec:∀ k,b<=k->k<b+l.length->hu As k=true->∀ s,s<b->(Bt As k s=true↔s=S/\k∈evI f own ar b l)
 lt:∀ k,k∈evI f own ar b l->S<b
theorem Jl{a b s}(e:FJ a s<=b):Bt a b s=false:=by
 unfold Bt;have:decide (b<FJ a s)=false:=by simp;exact e
 rw[this];simp
theorem TT{a e s}(b:¬ (A1 a s).c=40):Bt a e s=false:=by
 unfold Bt;have:((A1 a s).c==40)=false:=by rw[dC];exact b
 rw[this];simp
theorem Ab2{o}(k):∀ A j a l I,Fa k l->At o a l->I8 l->Ctx o k A j a l I->∀ x,
 (∃ b,a<=b/\b<a+l.length/\Bm o b=false/\x=(A1 o b).pl)↔((∃ b,b∈evI k A j a l/\verdict o b I=false/\x=(A1 o b).pl)\/lost RB k A j l x):=by
 induction k with
 | zero=>intro A j a l I e;exact e.elim
 | succ k X=>
  intro A j a l I e r a3 M x;obtain⟨g,f,rfl,aw,F,a8⟩:=e;have au:I8 f.flatten:=(fW.1 a3).2;have V:∀ q,q∈withSt (a+1) f->I8 q.2:=fun q h=>gC (UT (AV f (a+1) r.tail q h).1) au
  have a5:(∃ b,a<=b/\b<a+(g::f.flatten).length/\Bm o b=false/\x=(A1 o b).pl)↔((Bm o a=false/\x=g.pl)\/∃ q,q∈withSt (a+1) f/\∃ b,q.1<=b/\b<q.1+q.2.length/\Bm o b=false/\x=(A1 o b).pl):=by
   constructor;rintro⟨b,p,v,y,af⟩;by_cases ax:b=a;subst ax;left;exact⟨y,by rw[af,r.head]⟩;right;simp only[aX]at v;obtain⟨q,u,S,a7⟩:=Hq f (a+1) b kX kX;exact⟨q,u,b,S,a7,y,af⟩;rintro(⟨Y,Z⟩|⟨q,u,b,p,v,y,af⟩);exact⟨a,aB _,by simp,Y,by rw[Z,r.head]⟩;obtain⟨z,B,ad,ah⟩:=AV f (a+1) r.tail q u;exact⟨b,by omega,by simp only[aX];omega,y,af⟩
  rw[a5];have ar:∀ q,q∈withSt (a+1) f->∀ b,q.1<=b->b<q.1+q.2.length->a<=b/\b<a+(g::f.flatten).length:=by
   intro q h b p v;obtain⟨z,B,ad,ah⟩:=AV f (a+1) r.tail q h;simp only[aX];omega
  by_cases L:g.c=40;have U:evI (k+1) A j a (g::f.flatten)=[]:=by rw[evI,aF L]
  have a6:hu o a=false:=by unfold hu;rw[r.head,L];decide
  have aa:=Pn o a a6;have J:∀ q,q∈withSt (a+1) f->Ctx o k true true q.1 q.2 a:=by
   intro q h;obtain⟨z,B,ad,ah⟩:=AV f (a+1) r.tail q h;refine⟨fun b p v y s O=>?_,fun b _=>by omega⟩;obtain⟨ak,al⟩:=ar q h b p v;by_cases am:s<a;have:=M.dec b ak al y s am;rw[U]at this;constructor;intro e;have:=(this.1 e).2;simp at this;rintro⟨e,_⟩;omega;by_cases ai:s=a;subst ai;rw[Uy r aw F L h p v y];simp;have Y:=beside f F (a+1) r.tail q h s kX O;rw[Jl kX];constructor;intro e;cases e
   rintro⟨e,_⟩;exact(ai e).elim
  have aj:lost RB (k+1) A j (g::f.flatten) x↔(RB (f.flatMap (ev k true true)) x\/∃ E,E∈f/\lost RB k true true E x):=by rw[lost,aF L,E4 f F]
  rw[aj,U,aa,Afw r aw F (gC (Nl f (fun E _=>ZE k true true E)) au) x];constructor;rintro(⟨e,_⟩|⟨q,u,e⟩)
  cases e
  obtain⟨z,B,_,_⟩:=AV f (a+1) r.tail q u;rcases(X true true q.1 q.2 a (F _ z) B (V q u) (J q u) x).1 e with⟨b,p,v,y⟩|e;exact Or.inr (Or.inl ⟨b,cI.2 ⟨q,u,p⟩,v,y⟩);exact Or.inr (Or.inr ⟨q.2,z,e⟩);rintro(⟨b,p,_⟩|⟨b,p,v,y⟩|⟨E,an,ao⟩);simp at p;obtain⟨q,u,S⟩:=cI.1 p;obtain⟨z,B,_,_⟩:=AV f (a+1) r.tail q u;exact Or.inr ⟨q,u,(X true true q.1 q.2 a (F _ z) B (V q u) (J q u) x).2 (Or.inl ⟨b,S,v,y⟩)⟩;obtain⟨c,h⟩:=KW f (a+1) E an;obtain⟨z,B,_,_⟩:=AV f (a+1) r.tail _ h;exact Or.inr ⟨(c,E),h,(X true true c E a (F _ z) B (V _ h) (J _ h) x).2 (Or.inr ao)⟩;have U:evI (k+1) A j a (g::f.flatten)=(if(Ae g.c&&A)||(AN g.c&&j)then[a]else[])++(withSt (a+1) f).flatMap fun q=>evI k false (j&&AY [119,64,115] g.c) q.1 q.2:=by rw[evI,aC L,E4 f F]
  have aq:∀ q,q∈withSt (a+1) f->∀ b,q.1<=b->b<q.1+q.2.length->(b∈evI (k+1) A j a (g::f.flatten)↔b∈evI k false (j&&AY [119,64,115] g.c) q.1 q.2):=by
   intro q h b p v;obtain⟨z,B,ad,ah⟩:=AV f (a+1) r.tail q h;rw[U,aV,UL r.tail F h p v];constructor;rintro(e|e);split at e;simp at e;omega;simp at e;exact e;exact Or.inr
  have J:∀ q,q∈withSt (a+1) f->Ctx o k false (j&&AY [119,64,115] g.c) q.1 q.2 I:=by
   intro q h;obtain⟨z,B,ad,ah⟩:=AV f (a+1) r.tail q h;refine⟨fun b p v y s O=>?_,fun b J=>?_⟩;obtain⟨ak,al⟩:=ar q h b p v;rw[<- aq q h b p v];by_cases am:s<a;exact M.dec b ak al y s am;have a0:Bt o b s=false:=by
    by_cases ai:s=a;subst ai;exact TT (by rw[r.head];exact L);have Y:=beside f F (a+1) r.tail q h s kX O;exact Jl kX
   rw[a0];constructor;intro e;cases e
   rintro⟨e,Z⟩;have:=M.lt b Z;omega;have av:=Le k _ _ _ _ (F _ z) B b J;have:=M.lt b ((aq q h b av.1 av.2).2 J);omega
  have aj:lost RB (k+1) A j (g::f.flatten) x↔((((Ae g.c && !A)||(AN g.c && !j))=true/\x=g.pl)\/∃ E,E∈f/\lost RB k false (j&&AY [119,64,115] g.c) E x):=by rw[lost,aC L,E4 f F]
  have ac:hu o a=(Ae g.c||AN g.c):=by unfold hu;rw[r.head]
  have a4:(∃ q,q∈withSt (a+1) f/\∃ b,q.1<=b/\b<q.1+q.2.length/\Bm o b=false/\x=(A1 o b).pl)↔((∃ b,b∈((withSt (a+1) f).flatMap fun q=>evI k false (j&&AY [119,64,115] g.c) q.1 q.2)/\verdict o b I=false/\x=(A1 o b).pl)\/∃ E,E∈f/\lost RB k false (j&&AY [119,64,115] g.c) E x):=by
   constructor;rintro⟨q,u,e⟩;obtain⟨z,B,_,_⟩:=AV f (a+1) r.tail q u;rcases(X _ _ q.1 q.2 I (F _ z) B (V q u) (J q u) x).1 e with⟨b,p,v,y⟩|e;exact Or.inl ⟨b,cI.2 ⟨q,u,p⟩,v,y⟩;exact Or.inr ⟨q.2,z,e⟩;rintro(⟨b,p,v,y⟩|⟨E,an,ao⟩);obtain⟨q,u,S⟩:=cI.1 p;obtain⟨z,B,_,_⟩:=AV f (a+1) r.tail q u;exact⟨q,u,(X _ _ q.1 q.2 I (F _ z) B (V q u) (J q u) x).2 (Or.inl ⟨b,S,v,y⟩)⟩;obtain⟨c,h⟩:=KW f (a+1) E an;obtain⟨z,B,_,_⟩:=AV f (a+1) r.tail _ h;exact⟨(c,E),h,(X _ _ c E I (F _ z) B (V _ h) (J _ h) x).2 (Or.inr ao)⟩
  rw[aj,a4]
  cases h:((Ae g.c&&A)||(AN g.c&&j))
  have ab:evI (k+1) A j a (g::f.flatten)=(withSt (a+1) f).flatMap fun q=>evI k false (j&&AY [119,64,115] g.c) q.1 q.2:=by rw[U,h];rfl
  have a1:a ∉ evI (k+1) A j a (g::f.flatten):=by
   rw[ab];intro e;obtain⟨q,u,S⟩:=cI.1 e;obtain⟨z,B,ad,_⟩:=AV f (a+1) r.tail q u;have:=Le k _ _ _ _ (F _ z) B a S;omega
  have aa:Bm o a=false↔((Ae g.c && !A)||(AN g.c && !j))=true:=by
   cases K:hu o a
   rw[Pn o a K];rw[K]at ac;have h0:=ac.symm;simp only[fN]at h0;rw[h0.1,h0.2];simp;rw[Ty o a K (fun s O=>by
    cases az:Bt o a s
    rfl;exact(a1 ((M.dec a (aB _) kY K s O).1 az).2).elim)]
   rw[K]at ac;revert h ac
   cases Ae g.c<;>cases AN g.c<;>cases A<;>cases j<;>simp
  rw[aa,ab];constructor;rintro(e|e|e);exact Or.inr (Or.inl e);exact Or.inl e;exact Or.inr (Or.inr e);rintro(e|e|e);exact Or.inr (Or.inl e);exact Or.inl e;exact Or.inr (Or.inr e);have ab:evI (k+1) A j a (g::f.flatten)=a::(withSt (a+1) f).flatMap fun q=>evI k false (j&&AY [119,64,115] g.c) q.1 q.2:=by rw[U,h];rfl
  have ap:a∈evI (k+1) A j a (g::f.flatten):=by rw[ab];exact aG
  have K:hu o a=true:=by rw[ac];revert h;cases Ae g.c<;>cases AN g.c<;>simp
  have ay:=M.lt a ap;have aa:=Ur o a I K ay (fun s O=>by
   rw[M.dec a (aB _) kY K s O];simp[ap])
  have a2:((Ae g.c && !A)||(AN g.c && !j))=false:=by
   cases ae:Ae g.c
   rw[ae]at h;revert h;cases AN g.c<;>cases j<;>simp
   rw[ae,EF _ ae]at h;rw[EF _ ae];revert h;cases A<;>simp
  rw[aa,a2,ab];constructor;rintro(⟨Y,Z⟩|⟨b,p,v,y⟩|e);exact Or.inl ⟨a,aG,Y,by rw[Z,r.head]⟩;exact Or.inl ⟨b,aH _ p,v,y⟩;exact Or.inr (Or.inr e);rintro(⟨b,p,v,y⟩|⟨e,_⟩|e);rcases bB.1 p with rfl|p;exact Or.inl ⟨v,by rw[y,r.head]⟩;exact Or.inr (Or.inl ⟨b,p,v,y⟩)
  cases e
  exact Or.inr (Or.inr e)
theorem Qs(h:p:=by
 go_enter func112,ntmps112;go_wp2;go_ret2;rw[b3.o];exact⟨rfl,rfl⟩):p:=h
def Ir(s:aA)(t:Nat)(a:aD UInt8):Bool:=decide (t+a.length<=s.size)&&((s.extract t (t+a.length)).toList==a)
def OC(s:aA)(t:Nat)(a:aD UInt8):Ending:=.returned (.tuple #[I0 (if Ir s t a then t+a.length else t:Nat),.bool (Ir s t a)])
theorem Ij(s)(j:s.size<=8000)(w f t)(h:q_ w f 1 (.string s))(k:t<=s.size)(a)(p:a.length<=3):
 Calls prog 112 #[P0 f,I0 (t:Nat),.string ⟨a.toArray⟩] w fun g w'=>g=OC s t a/\w'=w:=by
 have r:=Cv a;have o:(⟨a.toArray⟩:aA).toList=a:=by rw[dZ]
 by_cases b:t+a.length<=s.size
 . cases e:((s.extract t (t+a.length)).toList==a)with
   | true=>
    have b3:=Aa (show OC s t a=.returned (.tuple #[I0 ((t+a.length:Nat):Int),.bool true])by unfold OC Ir;rw[e];simp[b]);exact Qs
   | false=>
    have b3:=Aa (show OC s t a=.returned (.tuple #[I0 (t:Nat),.bool false])by unfold OC Ir;rw[e];simp);exact Qs
 have b3:=Aa (show OC s t a=.returned (.tuple #[I0 (t:Nat),.bool false])by unfold OC Ir;simp[b]);exact Qs
section
theorem gu(h:p:=by
 have a:=(h.fit k v false false ad e st ae hi r).1;have l:=aj k v false false ad e st ae hi r;have b:=am _ _ _ _ a.inv f;have ab:=l.Af;have aa:=l.len;rw[Er ae rfl]at aa;simp only[bT,cT]at aa;have:=GU t (T k v false e st).t;have a9:=b.2;exact⟨by omega,by omega⟩):p:=h
theorem ir(h:p:=by
 rw[aC bh];refine⟨by simp only[BW];omega,?_⟩;simp only[BW,aR,aX,cP];omega):p:=h
theorem Yc(a):∀ n,n<10 ^ (a+1)->Lib.nDigits n<=a+1:=by
 induction a with
 | zero=>intro n b;rw[iR (by simpa using b)];omega
 | succ a f=>
  intro n b;by_cases e:n<10;rw[iR e];omega;rw[Lib.nDigits_big e];have:=f (n / 10) (by rw[fC]at b;omega);omega
theorem XL(n)(a:n<4294967296):(EY n).length<=10:=by
 unfold EY;rw[fM];exact Yc 9 n lA
theorem UJ(a):(CE a).length=2*a.size+2:=by
 have b:∀ n,((List.range n).flatMap fun i=>[F4 (bn a i / 16),F4 (bn a i % 16)]).length=2*n:=by
  intro n;induction n with
  | zero=>rfl
  | succ n e=>rw[gN,eO,aR,e];simp;omega
 simp[CE,b]
theorem GU(a b):(Dk a b).length<=a.length+b.length+1:=by
 unfold Dk;split;omega;simp;omega
structure Lng (st:PS) (sil:Bool) (o:PO):Prop where
 Af:st.Af<=o.st.Af
 len:o.t.length+(if sil then 0 else 1)<=8011*(o.st.Af-st.Af)
variable {R:Nat->Bool} {bs:aA} {N:Nat} {T:Nat->Nat->Bool->aD It->PS->PO}
theorem G4(f e st a t)(k:st.Af<=a.Af)(j:t.length<=8010+8011*(a.Af-st.Af))(h)(b:(Bs N f e a t).ok=true):Lng st h (Bs N f e a t):=by
 unfold Bs at b⊢;by_cases g:a.Af=N;rw[aF g]at b;cases b
 rw[aC g];refine⟨by simp only[BW];omega,?_⟩;simp only[BW];split<;>omega
def TLn(R:Nat->Bool)(bs:aA)(N:Nat)(T:Nat->Nat->Bool->aD It->PS->PO):Prop:=
 ∀ e b q g f a st,BK R g f a->Eb bs N st->(T e b q a st).ok=true->Lng st (silK q a) (T e b q a st)
theorem Er{b e a}(f:BK R b e a)(g:b=false):silK false a=false:=by
 have:=f.CA g
 cases a with
 | nil=>rfl
 | cons j h=>simpa[silK,hidV]using this
theorem RQ(a):silK (silV a) a=silV a:=by
 cases a with
 | nil=>rfl
 | cons b f=>
  simp only[silK,silV]
  cases Ae b.c<;>cases e:decide (b.c=39)<;>rfl
theorem Te(o:bs.size<=4000)(x k q f e st)(al:Kc x)(ao:kW x.c=true\/x.c=39\/x.c=114\/x.c=46)(h:(AJ bs N x q f e st).ok=true):
 Lng st (silK q (x::k)) (AJ bs N x q f e st):=by
 unfold AJ at h⊢;by_cases j:AQ st.rd st.pl st.en (Bl x st)=true;rw[aF j]at h⊢;by_cases ae:x.c=39;rw[aF ae]at h⊢;by_cases g:(bn bs st.pl:Int)≠x.b;rw[aF g]at h;cases h
 rw[aC g]at h⊢;by_cases b:q=true;rw[aF b];exact⟨aB _,by simp[BW,AB,silK,b,ae]⟩;rw[aC b]at h⊢;exact G4 _ _ st (AB st 1) _ (aB _) (by simp only[aX,cP];omega) _ h;rw[aC ae]at h⊢;by_cases ac:x.c=114\/x.c=46;rw[aF ac]at h⊢;refine G4 _ _ st (AB st (Bl x st)) _ (aB _) ?_ _ h;rw[UJ];have:(bs.extract st.pl (st.pl+Bl x st)).size<=bs.size:=lG;omega;rw[aC ac]at h⊢;by_cases a:Ae x.c=true;rw[aF a];exact⟨aB _,by simp[BW,AB,silK,a]⟩;rw[aC a]at h⊢;refine mB ?_;intro ab ad aj;refine G4 _ _ st (AB st (Bl x st)) _ (aB _) ?_ _ h;have p:=Fp bs st.pl (Bl x st);have:=XL (Ie x (bs.extract st.pl (st.pl+Bl x st))) (MC x _ kX);omega;rw[aC j]at h;cases h
theorem Wx(y:O3 R bs N T)(A:TLn R bs N T)(g)(p:∀ a,a∈g->BK R true true a):∀ e b st t,Eb bs N st->(kidsT T g e b st t).ok=true->
 st.Af<=(kidsT T g e b st t).st.Af/\(kidsT T g e b st t).t.length<=t.length+8011*((kidsT T g e b st t).st.Af-st.Af):=by
 induction g with
 | nil=>intro e b st t o _;exact⟨aB _,by simp[kidsT,BW]⟩
 | cons a g B=>
  intro e b st t o f;unfold kidsT at f⊢;by_cases r:(T e b (silV a) a st).ok=true;rw[aF r]at f⊢;have x:=(y.fit e b (silV a) true true a st (p a aG) o r).1;have l:=A e b (silV a) true true a st (p a aG) o r;have h:=B (fun a z=>p a (aH _ z)) _ _ _ _ x.inv f;have v:=l.Af;have j:=l.len;rw[RQ]at j;refine⟨by omega,?_⟩;have k:=h.2
  cases u:silV a
  simp only[u]at k v j h⊢;have:=GU t (T e b false a st).t;simp only[bT,cT]at k j⊢;have:=h.1;simp only[bT,cT]at this;omega;simp only[u]at k v j h⊢;simp only[dU]at k j⊢;have:=h.1;simp only[dU]at this;omega;exact Bd
theorem WR(h:O3 R bs N T)(aj:TLn R bs N T)(e ad)(ae:BK R false ad e)(g):∀ k v st t,Eb bs N st->(manyT T N e g k v st t).ok=true->
 st.Af<=(manyT T N e g k v st t).st.Af/\(manyT T N e g k v st t).t.length+1<=t.length+8011*((manyT T N e g k v st t).st.Af-st.Af):=by
 induction g with
 | zero=>intro k v st t _ f;cases f
 | succ g am=>
  intro k v st t hi f;unfold manyT at f⊢;by_cases cf:(T k v false e st).e≠0;exact nB;rw[aC cf]at f⊢;by_cases j:(T k v false e st).ok=false\/(T k v false e st).st.pl=st.pl;rw[aF j]at f⊢;unfold Bs at f⊢;by_cases bh:st.Af=N;rw[aF bh]at f;cases f
  exact ir;rw[aC j]at f⊢;have r:(T k v false e st).ok=true:=by
   cases o:(T k v false e st).ok with
   | true=>rfl
   | false=>exact absurd (Or.inl o) j
  exact gu
theorem Ub(h:O3 R bs N T)(aj:TLn R bs N T)(e ad)(ae:BK R false ad e)(n):∀ k v st t,Eb bs N st->(Bq T N e n k v st t).ok=true->
 st.Af<=(Bq T N e n k v st t).st.Af/\(Bq T N e n k v st t).t.length+1<=t.length+8011*((Bq T N e n k v st t).st.Af-st.Af):=by
 induction n with
 | zero=>
  intro k v st t hi f;unfold Bq Bs at f⊢;by_cases bh:st.Af=N;rw[aF bh]at f;cases f
  exact ir
 | succ g am=>
  intro k v st t hi f;unfold Bq at f⊢;by_cases r:(T k v false e st).ok=true;rw[aF r]at f⊢;exact gu;exact Bd
theorem N5(c st b)(f:b.ok=true->Lng st false b)(a:(C6 N c b).ok=true):Lng st false (C6 N c b):=by
 unfold C6 at a⊢;by_cases e:b.ok=true;rw[aF e]at a⊢;have l:=f e;have h:=l.Af;have g:=l.len;simp only[bT,cT]at g;exact G4 _ _ st _ _ h lJ _ a;rw[aC e]at a;exact absurd a e
theorem Hj(af:bs.size<=4000)(G)(U:∀ a,R a=true->BK R false false (G a))(j):TLn R bs N (tryT G bs N j):=by
 induction j with
 | zero=>intro h v q aj O p st _ _ f;cases f
 | succ j o=>
  intro h v q aj O p st aa e f;have V:=BQ (R:=R) (bs:=bs) (N:=N) G U j;have ap:=aa;obtain⟨S,X⟩:=aa
  cases S with
  | zero=>exact X.elim
  | succ S=>
  cases p with
  | nil=>exact X.elim
  | cons b a=>
  cases h with
  | zero=>cases f
  | succ h=>
  obtain⟨ab,am,ao,Z,ae,ad,ai⟩:=X;have M:∀ p,p∈segs a.length a->BK R (decide (b.c=40)) (decide (b.c=40)||(O&&AY [119,64,115] b.c)) p:=fun p g=>⟨S,ai p g⟩
  unfold tryT at f⊢;by_cases E:b.c=40
  . rw[aF E]at f⊢;unfold CT Hp at f⊢;by_cases r:(kidsT (tryT G bs N j) (segs a.length a) h v {st with Ai:=fun _=>(0,0)} []).ok=true;rw[aF r]at f⊢;have ah:Eb bs N {st with Ai:=fun _=>(0,0)}:=⟨e.pl,e.en,e.rd,e.Af,fun _=>⟨by simp,by simp⟩⟩;have u:=Wx V o _ (fun p g=>by have:=M p g;rw[E]at this;simpa using this) _ _ _ _ ah r;refine G4 _ _ st {(kidsT (tryT G bs N j) (segs a.length a) h v {st with Ai:=fun _=>(0,0)} []).st with Ai:=st.Ai} _ u.1 ?_ _ f;have:=u.2;simp only[aR,aX,cP]at this⊢;omega;exact Bd
  rw[aC E]at f⊢;by_cases x:b.c=47
  . rw[aF x]at f⊢;have ak:=ae x;have k:silK q (b::a)=false:=by simp[silK,x,Ae]
    rw[k];have h0:BK R false false ((segs a.length a).getD 0 []):=by
     have:=M ((segs a.length a).getD 0 []) (by rw[A3 _ _ _ kX];exact aU _);rw[x]at this;simpa[AY]using this
    have Y:BK R false false ((segs a.length a).getD 1 []):=by
     have:=M ((segs a.length a).getD 1 []) (by rw[A3 _ _ _ kX];exact aU _);rw[x]at this;simpa[AY]using this
    unfold Cn EC at f⊢;split at f;rename_i y;rw[aF y];refine N5 _ st _ (fun r=>?_) f;have:=o h v false false false _ st h0 e r;rw[Er h0 rfl]at this;exact this;rename_i y;rw[aC y];refine N5 _ st _ (fun r=>?_) f;have:=o _ _ false false false _ st Y e r;rw[Er Y rfl]at this;exact this
  rw[aC x]at f⊢;have J:AY [42,116,119,64,115] b.c=true->BK R false (decide (b.c=40)||(O&&AY [119,64,115] b.c)) a:=fun ac=>by
   have:=M a (by rw[ad ac];exact aG);rw[show decide (b.c=40)=false by simp[E]]at this⊢;exact this
  by_cases L:b.c=42
  . rw[aF L]at f⊢;have u:=WR V o a _ (J (by rw[L];rfl)) _ _ _ _ _ e f;exact⟨u.1,by have:=u.2;simp only[cP]at this;split<;>omega⟩
  rw[aC L]at f⊢;by_cases z:b.c=82
  . rw[aF z]at f⊢;have k:silK q (b::a)=false:=by simp[silK,z,Ae]
    have:=o _ _ false false false _ st (U _ (Z z)) e f;rw[Er (U _ (Z z)) rfl]at this;rw[k];exact this
  rw[aC z]at f⊢;by_cases K:b.c=116
  . rw[aF K]at f⊢;have u:=Ub V o a _ (J (by rw[K];rfl)) _ _ _ _ _ e f;exact⟨u.1,by have:=u.2;simp only[cP]at this;split<;>omega⟩
  rw[aC K]at f⊢;by_cases B:b.c=119
  . rw[aF B]at f⊢;have g:=J (by rw[B];rfl);have k:silK q (b::a)=false:=by simp[silK,B,Ae]
    rw[k];unfold BU at f⊢;by_cases I:st.en-st.pl<(st.Ai b.d.toNat).1;rw[aF I]at f;cases f
    rw[aC I]at f⊢;unfold BV at f⊢;by_cases r:(tryT G bs N j h v false a {st with en:=st.pl+(st.Ai b.d.toNat).1}).ok=true;rw[aF r]at f⊢;have an:=e.pl;have al:=e.en;have:=o _ _ false _ _ _ _ g (⟨by simp only;omega,by simp only;omega,e.rd,e.Af,e.Ai⟩:Eb bs N {st with en:=st.pl+(st.Ai b.d.toNat).1}) r;rw[Er g rfl]at this;split at f
    cases f
    rename_i y;rw[aC y];exact⟨this.Af,this.len⟩;exact Bd
  rw[aC B]at f⊢;by_cases F:b.c=64
  . rw[aF F]at f⊢;have g:=J (by rw[F];rfl);have k:silK q (b::a)=false:=by simp[silK,F,Ae]
    rw[k];unfold Nf at f⊢;by_cases I:bs.size<(st.Ai b.d.toNat).1;rw[aF I]at f;cases f
    rw[aC I]at f⊢;unfold PC at f⊢;by_cases r:(tryT G bs N j h v false a {st with pl:=(st.Ai b.d.toNat).1,en:=bs.size}).ok=true;rw[aF r]at f⊢;have:=o _ _ false _ _ _ _ g (⟨by simp only;omega,aB _,e.rd,e.Af,e.Ai⟩:Eb bs N {st with pl:=(st.Ai b.d.toNat).1,en:=bs.size}) r;rw[Er g rfl]at this;exact⟨this.Af,this.len⟩;exact Bd
  rw[aC F]at f⊢;by_cases A:b.c=115
  . rw[aF A]at f⊢;have g:=J (by rw[A];rfl);have k:silK q (b::a)=false:=by simp[silK,A,Ae]
    rw[k];unfold DB Cm at f⊢;by_cases r:(tryT G bs N j h v false a st).ok=true;rw[aF r]at f⊢;have:=o _ _ false _ _ _ _ g e r;rw[Er g rfl]at this;split at f
    cases f
    rename_i y;rw[aC y];exact⟨this.Af,this.len⟩;exact Bd
  rw[aC A]at f⊢;exact Te af b a q h v st ab (Vp b.c ab.it.1 E x L z K B F A) f
end

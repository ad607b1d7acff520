import Derived.Test.YtmlkhhhjdpbhfaaGreatDoorGe14
namespace Go.Proofs.YtmlkhhhjdpbhfaaGreatDoor
open Go.RowKit Go.Proofs.Tryz
set_option maxHeartbeats 4000000
set_option maxRecDepth 100000
variable{p q:Prop}(z:q)
theorem iT(h:p:=by
 simp only;go_wp2;go_end0;exact⟨rfl,ao.o⟩):p:=h
def Aac(w:aE):Prop:=∀ n:Nat,n<4294967296->Calls prog 106 #[.int .u64 n,I0 10] w fun a w'=>a=.returned (.string ⟨(EY n).toArray⟩)/\Below w.heap.size w w'
def Zc(j:Nat):Prop:=∀ e w a b k f g o l t,FA j e k f o g t->f<=a->(∀ w',Below a e w'->Aac w')->Below a e w->a<=w.heap.size->Lh w a b l->l.length+t.length<=1000000000->
 Calls prog 64 #[P0 g,P0 b] w fun h w'=>h=.returned (.tuple #[])/\Below a w w'/\Lh w' a b (l++t)
theorem Z8{b a}(e:a≠[]):Dk b a≠[]:=by
 unfold Dk;split;exact e;simp
theorem HF(b:aD (aD UInt8))(a:Nat)(e:a<b.length):CN (b.take (a+1))=Dk (CN (b.take a)) b[a]:=by
 rw[bN e,HK]
theorem OZ(b:aD (aD UInt8))(e:∀ t,t∈b->t≠[])(a:Nat)(h0:0<a)(f:a<=b.length):CN (b.take a)≠[]:=by
 cases a with
 | zero=>omega
 | succ a=>rw[HF b a kX];exact Z8 (e _ (aU _))
theorem Wq(a b):a.length<=(Dk a b).length/\b.length<=(Dk a b).length:=by
 unfold Dk;split;rename_i e;subst e;simp;simp;omega
theorem IA(b e):∀ a,a+e=b.length->(CN (b.take a)).length<=(CN b).length:=by
 induction e with
 | zero=>intro a g;rw[bV kX];exact aB _
 | succ e h=>
  intro a g;have f:=h (a+1) kX;rw[HF b a kX]at f;have j:=(Wq (CN (b.take a)) b[a]).1;omega
structure UO (w w0:aE) (B b:Nat) (l:aD UInt8) (o:UInt8) (ts:aD (aD UInt8)) (j:Nat) (wr:aE):Prop where
 A9:Below B w wr
 bld:Lh wr B b (l++o::CN (ts.take j))
theorem I7(al)(a0:Zc al)(j w b e K r L l k F ac)(a:aD (Nat × aD UInt8))(az:Pz j K r L ac (a.map Prod.fst))(aw:∀ q,q∈a->FA al j K r L q.1 q.2)(ax:∀ t,t∈a.map Prod.snd->t≠[])(au:r<=b)(hF:∀ w',Below b j w'->Aac w')(aq:Below b j w)(a9:b<=w.heap.size)(ba:Lh w b e l)(bo:l.length+(CN (a.map Prod.snd)).length+2<=1000000000)(bl:a.length<=1000000000):
 Calls prog 109 #[P0 e,.int .u8 k.toNat,ac,.int .u8 F.toNat] w fun p w'=>p=.returned (.tuple #[])/\Below b w w'/\Lh w' b e (l++(k::CN (a.map Prod.snd)++[F])):=by
 obtain⟨ab,ak,bg,a3⟩:∃ ab ak,ac=.slice ab a.length ak/\Hid (∀ f,f<a.length->∃ h,ab=some (A0 h 0)/\h<r/\j.cell? (A0 h f)=some (P0 ((a.map Prod.fst).getD f 0))):=by
  rcases az with⟨V,am⟩|⟨h,a7,V,am,bi,bj,a8⟩;have h0:a=[]:=by simpa using am
  exact⟨none,0,by rw[V,h0];rfl,Aa fun f ad=>by rw[h0]at ad;simp at ad⟩;exact⟨_,a7,by rw[V];simp,Aa fun f ad=>⟨h,rfl,by omega,a8 f AM⟩⟩
 subst bg;have ai:=Aa a0;have ah:=Aa hF;have a4:=Aa aw;have O:=Aa aq;have a5:=Aa ax;clear a0 aw aq az ax hF;go_enter func109,ntmps109;go_wp2_with fail;refine(B6 w b e l k ba kX a9).mono ?_;rintro p w1⟨rfl,ap,ar⟩;have aj:Hid (UO w j b e l k (a.map Prod.snd) 0 w1):=⟨ap,by simpa[CN]using ar⟩;clear ap ar;simp only;go_wp2;go_loopw [15,8,9] (fun ae _ _ wr=>∃ (f:Nat),ae=I0 f/\f<=a.length/\Hid (UO w j b e l k (a.map Prod.snd) f wr)) (fun ae _ _ _=>a.length-(intOf ae).toNat)
 case atStart=>exact⟨0,rfl,by omega,aj⟩
 case round=>
  clear aj;obtain⟨f,rfl,ad,g⟩:=hrel;have bp:=IA (a.map Prod.snd) (a.length-f) f lA;have br:=g.out.A9.size;by_cases z:f<a.length
  . have bd:(f:Int)<(a.length:Int):=by omega
    obtain⟨⟨E,t⟩,B⟩:∃ q,q=a[f]:=⟨_,rfl⟩;have bh:(E,t)∈a:=by rw[B];exact aU z
    have Z:(a.map Prod.fst).getD f 0=E:=by rw[aZ,fI,bA z,<- B];rfl
    have aa:(a.map Prod.snd)[f]'(by simpa using z)=t:=by rw[gD,<- B]
    have u:=HF (a.map Prod.snd) f (by simpa using z);rw[aa]at u;have be:=IA (a.map Prod.snd) (a.length-(f+1)) (f+1) lA;have J:=a4.o _ bh;obtain⟨h,bf,bk,I⟩:=a3.o f z;subst bf;rw[Z]at I;have bu:wr.cell? (A0 h f)=some (P0 E):=by
     rw[g.out.A9.cell (p:=(A0 h f)) (show h<b by omega),O.o.cell (p:=(A0 h f)) (show h<b by omega)];exact I
    by_cases av:f=0
    . have bc:¬ (0:Int)<(f:Int):=by omega
      have Y:CN ((a.map Prod.snd).take f)=[]:=by rw[av];rfl
      rw[Y]at u;have A:CN ((a.map Prod.snd).take (f+1))=t:=by rw[u];simp[Dk]
      have S:=Aa (ai.o j wr b e K r E L _ t J au ah.o (O.o.trans g.out.A9) kX g.out.bld (by rw[Y];simp;rw[A]at be;omega));have By:=g;clear g J I Z aa u B av;go_wp2_with fail;refine S.o.mono ?_;rintro p af⟨rfl,v,y⟩;have an:Hid (UO w j b e l k (a.map Prod.snd) (f+1) af):=⟨By.o.A9.trans v,by rw[A];simpa[Y]using y⟩;clear v y;simp only;exact QE
    . have bc:(0:Int)<(f:Int):=by omega
      have ay:=OZ (a.map Prod.snd) a5.o f kX lA;have A:CN ((a.map Prod.snd).take (f+1))=CN ((a.map Prod.snd).take f)++32::t:=by rw[u];unfold Dk;rw[aC ay]
      have bm:(CN ((a.map Prod.snd).take f)).length+1+t.length=(CN ((a.map Prod.snd).take (f+1))).length:=by rw[A];simp;omega
      have U:=Aa (B6 wr b e _ 32 g.out.bld lA kX);have By:=g;have a6:=Aa J;clear g J I Z aa u B ay;go_wp2_with fail;refine U.o.mono ?_;rintro p M⟨rfl,o,x⟩;have bq:=o.size;have S:=Aa (ai.o j M b e K r E L _ t a6.o au ah.o ((O.o.trans By.o.A9).trans o) kX x lA);have a1:=Aa o;clear o x;simp only;go_wp2_with fail;refine S.o.mono ?_;rintro p af⟨rfl,v,y⟩;have an:Hid (UO w j b e l k (a.map Prod.snd) (f+1) af):=⟨(By.o.A9.trans a1.o).trans v,by rw[A];simpa using y⟩;clear v y;simp only;exact QE
  have bd:¬ (f:Int)<(a.length:Int):=kX;have bb:(a.map Prod.snd).take f=a.map Prod.snd:=bV lA;have X:=g.out.bld;rw[bb]at X;have U:=Aa (B6 wr b e _ F X lA kX);have a2:=Aa g.out.A9;clear g X;go_wp2_with fail;refine U.o.mono ?_;rintro p M⟨rfl,o,x⟩;have ao:Hid (Below b w M/\Lh M b e (l++(k::CN (a.map Prod.snd)++[F]))):=⟨a2.o.trans o,by simpa using x⟩;clear o x;exact iT
def HI(s:aA)(a:Nat):aD UInt8:=(List.range a).flatMap fun i=>[F4 (bn s i / 16),F4 (bn s i % 16)]
theorem Nn(s a):(HI s a).length=2*a:=by
 induction a with
 | zero=>rfl
 | succ a b=>
  have:HI s (a+1)=HI s a++[F4 (bn s a / 16),F4 (bn s a % 16)]:=by simp[HI,gN]
  rw[this,aR,b];simp;omega
theorem IF(n)(a:n<16):({data:=#[48,49,50,51,52,53,54,55,56,57,97,98,99,100,101,102]}:aA)[n]'(a)=F4 n:=by
 have b:n=0\/n=1\/n=2\/n=3\/n=4\/n=5\/n=6\/n=7\/n=8\/n=9\/n=10\/n=11\/n=12\/n=13\/n=14\/n=15:=kX;rcases b with rfl|rfl|rfl|rfl|rfl|rfl|rfl|rfl|rfl|rfl|rfl|rfl|rfl|rfl|rfl|rfl<;>rfl
structure X9 (w:aE) (B b nb:Nat) (l:aD UInt8) (s:aA) (j:Nat) (wr:aE):Prop where
 A9:Below B w wr
 ex:∃ v,YY wr B b (l++34::HI s j) v/\some nb≠v.ownBlock
 row:∀ i,i<s.size->wr.cell? (A0 nb i)=some (.int .u8 (bn s i:Int))
 lt:nb<wr.heap.size
 ne:nb≠b
theorem NG(w b g l s)(bg:s.size<=4000)(af:Lh w b g l)(ae:b<=w.heap.size)(bd:l.length<=1000000000):
 Calls prog 108 #[P0 g,.string s] w fun e w'=>e=.returned (.tuple #[])/\Below b w w'/\Lh w' b g (l++CE s):=by
 obtain⟨a2,ax⟩:=af;have ba:=fun W=>kT (P:=prog) W 9 40 5 s underlying9 underlying40 underlying5
 go_enter func108,ntmps108;go_wp2_with fail;refine(Dv w b g l 34 a2 ax kX ae).mono ?_;rintro e w1⟨rfl,ah,U,aj,bk,bh,bc⟩;have V:=Aa ah;have x:=Aa aj;simp only;go_wp2_with fail;generalize grownCap w1 s.size 0 5=a;have a0:∀ k,U.ownBlock=some k->k<w1.heap.size:=fun k e=>by obtain⟨S,_,_,E,_⟩:=x.o.ex;exact(E.lt k e).2
 have ab:Hid (X9 w b g w1.heap.size l s 0 (w1.alloc (.cells (bytesRow s a) 5 ((bytesRow s a).size,(bytesRow s a).size+1))).drew):=by
  obtain⟨S,av,K,E,au⟩:=x.o.ex;have a8:=K.lt;refine⟨(V.o.alloc kX _).drew,⟨U,⟨⟨S,av,Ac.alloc K _,E.alloc _,au⟩,x.o.ge⟩,fun e=>by have:=a0 _ e.symm;omega⟩,fun i r=>?_,by simp,by omega⟩;have ac:=cJ w1 (.cells (bytesRow s a) 5 ((bytesRow s a).size,(bytesRow s a).size+1));have ad:(w1.alloc (.cells (bytesRow s a) 5 ((bytesRow s a).size,(bytesRow s a).size+1))).drew.cell? (A0 w1.heap.size i)=(bytesRow s a)[i]? := by
   show(w1.alloc _).cell? _=_;unfold World.cell?;simp only[ac];rfl
  rw[ad,bytesRow_at s a i r,F0,Cs s i r];rfl
 generalize(w1.alloc (.cells (bytesRow s a) 5 ((bytesRow s a).size,(bytesRow s a).size+1))).drew=a5 at*;generalize bf:w1.heap.size=o at*;go_loopw [11,5] (fun F _ wr=>∃ (f:Nat),F=I0 f/\f<=s.size/\Hid (X9 w b g o l s f wr)) (fun F _ _=>s.size-(intOf F).toNat)
 case atStart=>exact⟨0,rfl,by omega,ab⟩
 case round=>
  obtain⟨f,rfl,bb,j⟩:=hrel;by_cases al:f<s.size
  . have am:(f:Int)<(s.size:Int):=by omega
    have bl:=j.out.row f al;have a9:=LC s f;have a6:(bn s f:Int) / 16<16:=kX;have a7:(0:Int)<=(bn s f:Int) / 16:=kX;have M:bn s f % 16<16:=kX;have By:=j;have a1:=j.out.A9.size;obtain⟨I,z,B⟩:=j.out.ex;have ar:=Nn s f;have p:=Aa (Dv wr b g _ (F4 (bn s f / 16)) I z lA kX);rw[<- IF (bn s f / 16) kX]at p;go_wp2_with fail;refine p.o.mono ?_;rintro e v⟨rfl,y,u,A,ay,bi,ap⟩;have O:some o≠u.ownBlock:=by
     rcases ay with h|⟨k,h,l⟩;rw[h];exact B;rw[h];intro e;cases e;have:=By.o.lt;omega
    have J:=Aa (Dv v b g _ (F4 (bn s f % 16)) u A lA kX);rw[<- IF (bn s f % 16) M]at J;have X:=Aa y;have aa:=Aa (ap o By.o.lt By.o.ne B);simp only;go_wp2_with fail;refine J.o.mono ?_;rintro e a4⟨rfl,ai,a3,L,az,bj,aq⟩;have an:Hid (X9 w b g o l s (f+1) a4):=by
     have be:=By.o.lt;have aw:=(aq o kX By.o.ne O).trans aa.o;refine⟨(By.o.A9.trans X.o).trans ai,⟨a3,?_,?_⟩,fun i r=>?_,by omega,By.o.ne⟩;rw[IF _ kX,IF _ M]at L;have:HI s (f+1)=HI s f++[F4 (bn s f / 16),F4 (bn s f % 16)]:=by simp[HI,gN]
     rw[this];simpa using L;rcases az with h|⟨k,h,l⟩;rw[h];exact O;rw[h];intro e;cases e;omega
     rw[aL (w:=wr) aw];exact By.o.row i r
    simp only;exact QE
  have am:¬ (f:Int)<(s.size:Int):=kX;have ak:f=s.size:=kX;obtain⟨I,z,B⟩:=j.out.ex;have ar:=Nn s f;have a1:=j.out.A9.size;have p:=Aa (Dv wr b g _ 34 I z lA kX);have Y:=Aa j.out.A9;have Z:=Aa ak;go_wp2_with fail;refine p.o.mono ?_;rintro e v⟨rfl,y,u,A,_⟩;have ao:Hid (Below b w v/\Lh v b g (l++CE s)):=⟨Y.o.trans y,u,by
   have:CE s=34::HI s f++[34]:=by rw[Z.o];rfl
   rw[this];simpa using A⟩
  exact iT
theorem QP(h:p:=by
 rintro e w2⟨rfl,E,f⟩;have ao:Hid (Below g w w2/\Lh w2 g b (l++t)):=⟨E,by rw[a];exact f⟩;clear E f;simp only;go_wp2;go_end0;exact⟨rfl,ao.o⟩):p:=h
theorem Ab4(n):EY n≠[]:=by
 intro a;have:=fM n;have:=Lib.nDigits_pos n;unfold EY at a;rw[a]at*;simp at*;omega
theorem XO(a n e b):HQ a n e b≠[]:=by
 unfold HQ;repeat' split
 all_goals first|exact Ab4 _|simp[CE]
theorem FA.ne{a w g f j h t}(b:FA a w g f h j t):t≠[]:=by
 cases a with
 | zero=>exact b.elim
 | succ a=>
  obtain⟨k,n,p,r,o,_,_,_,_,_,_,e,_⟩:=b;rw[e];exact XO _ _ _ _
theorem Rw(b:aD (aD UInt8))(g:∀ t,t∈b->t≠[]):∀ a,a<=b.length->a<=(CN (b.take a)).length:=by
 intro a;induction a with
 | zero=>intro _;exact bR _
 | succ a h=>
  intro k;have e:=h kX;rw[HF b a kX];have j:0<(b[a]).length:=gO.2 (g _ (aU _));unfold Dk;split;rename_i f;rw[f]at e;simp at e;omega;simp;omega
theorem Sw:∀ y,Zc y:=by
 intro y;induction y with
 | zero=>intro O w g b M L v Y l t ae;exact ae.elim
 | succ y a1=>
  intro O w g b M L v Y l t bo ai hF o J z x;obtain⟨u,n,a2,al,k,aw,b3,b4,b5,p,aj,r,ay,bl,az,bp⟩:=bo;have A:=aw.below o (show v<g by omega);have bz:=A.c0;have bd:=A.c1;have b0:=A.c2;have be:=A.c3;obtain⟨m,rfl⟩:∃ m:Nat,n=(m:Int):=⟨n.toNat,by omega⟩;have bj:m<4294967296:=kX;have ak:∀ t,t∈k.map Prod.snd->t≠[]:=fun t r=>by
   obtain⟨q,bm,rfl⟩:=dF.1 r;exact(aj q bm).ne
  have bg:=Rw (k.map Prod.snd) ak k.length kY;rw[bV kY]at bg;have aa:=Aa a1;have S:=Aa hF;have B:=Aa o;have ab:=Aa aj;have ap:=Aa p;have an:=Aa ak;have bx:=Aa A;have bf:u=0\/u=1\/u=2\/u=3\/u=4\/u=5:=kX;clear a1 hF aj aw A ak ay bl;rcases bf with rfl|rfl|rfl|rfl|rfl|rfl
  . have a:t=EY m:=by rw[r];simp[HQ]
    clear o p;go_enter func64,ntmps64;go_wp2_with fail;refine(S.o w B.o m bj).mono ?_;rintro e w1⟨rfl,j⟩;have bq:=j.size;have av:Below g w w1:=⟨j.os,j.tape,j.output,j.size,fun u ay=>j.block u kX⟩;have K:Lh w1 g b l:=by
     obtain⟨bv,⟨bu,ac,U,V,ar⟩,ad⟩:=z;exact⟨bv,⟨bu,ac,U.below j U.lt,An V fun h e=>j.block h (V.lt h e).2,ar⟩,ad⟩
    have a7:=Aa av;have a8:=Aa K;clear j av K;simp only;go_wp2_with fail;refine(Km w1 g b l ⟨(EY m).toArray⟩ a8.o (by rw[a]at x;show l.length+(EY m).toArray.size<=_;simp;omega) kX).mono ?_;rintro e w2⟨rfl,E,f⟩;have ao:Hid (Below g w w2/\Lh w2 g b (l++t)):=⟨a7.o.trans E,by rw[a];exact f⟩;clear E f;exact iT
  . have a:t=[45]:=by rw[r];simp[HQ]
    clear o p;go_enter func64,ntmps64;go_wp2_with fail;refine(B6 w g b l 45 z kX J).mono ?_;exact QP
  . have a:t=CE a2:=by rw[r];simp[HQ]
    clear o p;go_enter func64,ntmps64;go_wp2_with fail;refine(NG w g b l a2 bp z J kX).mono ?_;exact QP
  . have a:t=40::CN (k.map Prod.snd)++[41]:=by rw[r];simp[HQ]
    have X:l.length+(CN (k.map Prod.snd)).length+2<=1000000000:=by rw[a]at x;simp at x;omega
    clear o p;go_enter func64,ntmps64;go_wp2_with fail;refine(I7 y aa.o O w g b M L Y l 40 41 al k ap.o ab.o an.o ai S.o B.o J z X kX).mono ?_;exact QP
  . have a:t=91::CN (k.map Prod.snd)++[93]:=by rw[r];simp[HQ]
    have X:l.length+(CN (k.map Prod.snd)).length+2<=1000000000:=by rw[a]at x;simp at x;omega
    clear o p;go_enter func64,ntmps64;go_wp2_with fail;refine(I7 y aa.o O w g b M L Y l 91 93 al k ap.o ab.o an.o ai S.o B.o J z X kX).mono ?_;exact QP
  obtain⟨bk,bi⟩:=az rfl;have b9:m<2:=kX;obtain⟨⟨q,Z⟩,rfl⟩:∃ q,k=[q]:=by
   match k,bi with
   | [q],_=>exact⟨q,rfl⟩
  have a:t=47::F4 m::32::Z:=by rw[r];simp[HQ]
  obtain⟨h,F,br,b6,b7,bh⟩:∃ h F,al=S0 h 1 F/\M<=h/\h<L/\O.cell? (A0 h 0)=some (P0 q):=by
   rcases p with⟨_,ae⟩|⟨h,F,ac,U,V,ar,ad⟩;simp at ae;exact⟨h,F,ac,U,V,ad 0 kY⟩
  subst br;have a0:=ab.o (q,Z) kY;have bb:=Aa a0;have X:l.length+3+Z.length<=1000000000:=by rw[a]at x;simp at x;omega
  have b8:(m:Int)<16:=kX;clear o p a0 az bk;go_enter func64,ntmps64;go_wp2_with fail;refine(B6 w g b l 47 z kX J).mono ?_;rintro e w1⟨rfl,j,K⟩;have bq:=j.size;have a4:=Aa j;have a9:=Aa K;have d1:w1.cell? (A0 v 1)=some (.int .u32 m):=by rw[j.cell (p:=(A0 v 1)) (show v<g by omega)];exact bd
  clear j K;have aq:=Aa (B6 w1 g b _ (F4 m) a9.o lA kX);rw[<- IF m kX]at aq;simp only;go_wp2_with fail;refine aq.o.mono ?_;rintro e w2⟨rfl,E,f⟩;have ca:=E.size;have a5:=Aa (a4.o.trans E);have ba:=Aa f;clear E f;simp only;go_wp2_with fail;refine(B6 w2 g b _ 32 ba.o lA kX).mono ?_;rintro e am⟨rfl,af,ax⟩;have cb:=af.size;have I:=a5.o.trans af;have b1:am.cell? (A0 v 3)=some (S0 h 1 F):=by rw[I.cell (p:=(A0 v 3)) (show v<g by omega)];exact be
  have b2:am.cell? (A0 h 0)=some (P0 q):=by rw[I.cell (p:=(A0 h 0)) (show h<g by omega),B.o.cell (p:=(A0 h 0)) (show h<g by omega)];exact bh
  have a6:=Aa I;have bc:=Aa (aa.o O am g b M L q Y _ Z bb.o ai S.o (B.o.trans I) kX ax lA);clear af ax I;simp only;go_wp2_with fail;refine bc.o.mono ?_;rintro e a3⟨rfl,au,ah⟩;have ao:Hid (Below g w a3/\Lh a3 g b (l++t)):=⟨a6.o.trans au,by rw[a];rw[IF m kX]at ah;simpa using ah⟩;clear au ah;exact iT
theorem my(h:p:=by
 refine⟨aB _,v,aq,?_,be⟩;have:=World.ownsRowF_of ab;simpa[Lib.byteCells,BT]using this):p:=h
theorem UH(w f k b e o t)(J:FA f w k b o e t)(I:b<=w.heap.size)(hF:∀ w',Below w.heap.size w w'->Aac w')(M:t.length<=1000000000):
 Calls prog 42 #[P0 e] w fun a w'=>a=.returned (.string ⟨t.toArray⟩)/\Below w.heap.size w w':=by
 have j:=(aO w.heap.size w).alloc (aB _) (.cells X_12 163);have E:Lh (w.alloc (.cells X_12 163)) w.heap.size w.heap.size []:=
  ⟨.slice none 0 0,⟨.pointer none,Or.inl rfl,Ac.new _ _ _,cC _ _ _ _,by simp[Value.ownBlock]⟩,aB _⟩
 have y:=Aa (Sw f w _ w.heap.size w.heap.size k b e o [] t J I hF j kY E lA);have r:=Aa j;go_enter func42,ntmps42;go_wp2_with fail;refine y.o.mono ?_;rintro a w1⟨rfl,h,F⟩;have S:=h.size;have O:(w.alloc (.cells X_12 163)).heap.size=w.heap.size+1:=kY;have A:Lib.IsBuilderF 163 5 w.heap.size w.heap.size (Lib.byteCells t) w1:=by
  obtain⟨v,⟨K,z,aq,ab,be⟩,L⟩:=F;have g:Lib.BuilderAtF 163 5 w.heap.size w.heap.size K (Lib.byteCells t) w1:=by
   exact my
  rcases z with rfl|rfl;exact Or.inl g;exact Or.inr g
 have x:=Aa A;have p:=Aa (r.o.trans h);simp only;go_wp2_with fail;refine(Tryz.Builder_String_any_k w.heap.size w.heap.size t w1 x.o kX).mono ?_;rintro a w2⟨rfl,_,B,_⟩;have u:=Aa (p.o.trans B);simp only;go_wp2;go_ret;exact⟨rfl,u.o⟩
theorem Abe(a b e:Nat)(n:Nat)(w:aE)(am:aA)(Z al:Int)(h:Ac w a #[.string am] 9)(j:Ac w b #[I0 Z] 27)(k:Ac w e #[I0 al] 3)(ax:a<b)(az:b<e):
 CallsD prog 40 #[P0 a,P0 b,P0 e] (.panicking (F7 n)) w fun Y an w'=>Y=.returned (.tuple #[])/\an=.panicking [{v:=.iface 81 (.agg #[I0 n]),recovered:=true}]/\
  Ac w' a #[.string ⟨#[]⟩] 9/\Ac w' b #[I0 n] 27/\Ac w' e #[I0 0] 3/\Below a w w':=by
 have y:a≠b:=kX;have z:a≠e:=kX;have A:b≠e:=kX;have ay:¬ b=a:=kX;have a0:¬ e=a:=kX;have a1:¬ e=b:=kX;unfold F7;refine callsD_of_wpS func40 rfl fun aq ap hu=>?_
 apply wpS_seq;apply wpS_region;simp[wpOpsS,go_sem,recoverD,hu,ntmps40,Exit.thenS];refine wpS_of_wp ?_;have ae:(#[P0 a,P0 b,P0 e]:Array aI)++((Array.replicate 16 undef).setIfInBounds 3 (.iface 81 (.agg #[I0 n]))).setIfInBounds 0 (.iface 81 (.agg #[I0 n]))=#[P0 a,P0 b,P0 e,.iface 81 (.agg #[I0 n]),undef,undef,.iface 81 (.agg #[I0 n]),undef,undef,undef,undef,undef,undef,undef,undef,undef,undef,undef,undef]:=rfl;rw[ae];have ar:∀ W,Sem.run prog (Instr.typeAssert (.iface 81 (.agg #[I0 n])) 20 81 true) W=.ok (.tuple #[.agg #[I0 n],.bool true]) W:=fun W=>by kernel_rfl
 have U:=h.c0;have V:=j.c0;have X:=k.c0;have ab:=h.frozen 0;have ac:=j.frozen 0;have ad:=k.frozen 0;have au:=h.lt;have av:=j.lt;have aw:=k.lt;have F:=Aa h;have I:=Aa j;have J:=Aa k;go_wp2_with fail;have u:=Aa (Ac.new w #[I0 n] 81);have K:Hid (Below a w (w.alloc (.cells #[I0 n] 81))):=(aO _ _).alloc kX _;have o:=Aa (Ac.alloc F.o (.cells #[I0 n] 81));have p:=Aa (Ac.alloc I.o (.cells #[I0 n] 81));have r:=Aa (Ac.alloc J.o (.cells #[I0 n] 81));generalize w.alloc (.cells #[I0 n] 81)=f at*;have U:=o.out.c0;have V:=p.out.c0;have X:=r.out.c0;have ab:=o.out.frozen 0;have ac:=p.out.frozen 0;have ad:=r.out.frozen 0;have af:∀ W,Ac W w.heap.size #[I0 n] 81->W.cell? (A0 w.heap.size 0)=some (I0 n):=fun W g=>g.cell 0
 have B:=u.o.Ad (A0 a 0) lB (.string ⟨#[]⟩);have E:=B.Ad (A0 b 0) lB (I0 n);have ao:=E.Ad (A0 e 0) lB (I0 0);have L:=Aa B;have M:=Aa E;have O:=Aa ao;refine Cl (fun W=>Ac W w.heap.size #[I0 n] 81) [([0,1],2),([],3),([],4)] rfl kZ (fun _ _ d _ _ g=>by cases d<;>exact g) u.o ?_;refine kJ ?_;refine Ab (P0 w.heap.size) rfl (fun W x=>by go_simp) ?_;refine Ab (I0 n) rfl (fun W x=>by have g:=af W x;go_simp) ?_;refine Ag ⟨_,rfl,rfl,?_⟩;unfold Oper.wp;go_simp;refine⟨L.o,?_⟩;refine Ag ⟨_,rfl,rfl,?_⟩;unfold Oper.wp;go_simp;refine⟨M.o,?_⟩;refine Ag ⟨_,rfl,rfl,?_⟩;unfold Oper.wp;go_simp;refine⟨O.o,?_⟩;have ah:Ac (((f.setCell (A0 a 0) (.string ⟨#[]⟩)).setCell (A0 b 0) (I0 n)).setCell (A0 e 0) (I0 0)).drew a #[.string ⟨#[]⟩] 9:=((o.out.set 0 (.string ⟨#[]⟩)).Ad (A0 b 0) y _).Ad (A0 e 0) z _;have ai:Ac (((f.setCell (A0 a 0) (.string ⟨#[]⟩)).setCell (A0 b 0) (I0 n)).setCell (A0 e 0) (I0 0)).drew b #[I0 n] 27:=((p.out.Ad (A0 a 0) (fB y) _).set 0 (I0 n)).Ad (A0 e 0) A _;have aj:Ac (((f.setCell (A0 a 0) (.string ⟨#[]⟩)).setCell (A0 b 0) (I0 n)).setCell (A0 e 0) (I0 0)).drew e #[I0 0] 3:=((r.out.Ad (A0 a 0) (fB z) _).Ad (A0 b 0) (fB A) _).set 0 (I0 0);have ak:Below a w (((f.setCell (A0 a 0) (.string ⟨#[]⟩)).setCell (A0 b 0) (I0 n)).setCell (A0 e 0) (I0 0)).drew:=(((K.o.setCell (p:=(A0 a 0)) (aB _) _).setCell (p:=(A0 b 0)) lB _).setCell (p:=(A0 e 0)) lB _).drew;have S:=Aa (And.intro ah (And.intro ai (And.intro aj ak)));go_wp2_with fail;generalize(((f.setCell (A0 a 0) (.string ⟨#[]⟩)).setCell (A0 b 0) (I0 n)).setCell (A0 e 0) (I0 0)).drew=Wf at*;exact⟨rfl,_,rfl,.tuple #[],by simp[results,results40,go_sem],rfl,rfl,S.out⟩
theorem EE(h:p:=by
 rw[ak.o];omega):p:=h
theorem CZ(h:p:=by
 rw[aa.o];simp):p:=h
theorem CI.frS{a w w'}(b:CI a w w'):Fr w.heap.size a w w':=b.fr _
def okOf:aI->Nat
 | .bool true=>1
 | _=>0
theorem UI(s a n i)(b:CW s i 48 57=false):rdNum s a n i=(n,i):=by
 cases a with
 | zero=>rfl
 | succ a=>rw[rdNum,aC (by rw[b];simp)]
theorem TC{T:Type}(R:aE->Nat->Nat->Nat->T->Prop)(s)(M:s.size<=8000)(w e a)(ao:G8 104 w e s a)(_hrb:e<w.heap.size)(J:a<=s.size):
 Calls prog 75 #[P0 e] w fun g w'=>Dn (GS R) s e w (Hz T s a) g w':=by
 have af:=Aa ao;go_enter func75,ntmps75;go_wp2_with fail;refine(Bh 104 w e s a 48 af.o M J).mono ?_;rintro g w1⟨v,⟨B,rfl,E⟩|⟨B,rfl,E⟩⟩
 . have f:=Aa (show Hz T s a=(some ⟨0,0,[],[]⟩,a+1)by unfold Hz;rw[aF B]);have ak:=Aa v.size;go_wp2;go_ret2;rw[f.o];have K:=Ac.new w1 #[I0 0,.int .u32 0,.string ⟨#[]⟩,.slice none 0 0] 177;exact⟨Ac.alloc E _,(v.frS).alloc EE _,Or.inr ⟨_,_,rfl,rfl,GS.leaf R _ _ _ 0 0 [] K EE kX kX kY⟩⟩
 have aa:=Aa B;go_wp2_with fail;refine(EO 104 w1 e s a 49 57 E M J).mono ?_;rintro g w2⟨ab,⟨o,rfl,F⟩|⟨o,rfl,F⟩⟩
 . have am:=A5 o;have av:=DW o;have ap:CW s a 48 57=true:=bF ⟨am,by omega,by omega⟩;have f:=Aa (show Hz T s a=(if 4294967295<(rdNum s s.size 0 a).1 then(none,(rdNum s s.size 0 a).2)else(some ⟨0,(rdNum s s.size 0 a).1,[],[]⟩,(rdNum s s.size 0 a).2))by unfold Hz;rw[aC CZ,aF o]);have ai:=Aa ap;have ae:=Aa F;have ah:=Aa (v.trans ab);go_wp2;go_loopw [4,5,6] (fun ar O au wr=>∃ (i b h:Nat) (j:Bool),O=.bool j/\au=.int .u64 (b:Nat)/\b<=4294967296/\i<=s.size/\s.size<=h+i/\Hid (CI e w wr)/\Hid (rdNum s s.size 0 a=rdNum s h b i)/\Hid (CW s i 48 57=j)/\Hid (G8 104 wr e s (i+(if j=true then 1 else 0)))/\(j=true->ar=.int .u8 (bt s i))) (fun _ O _ wr=>s.size+1+okOf O-KH wr e)
   case atStart=>exact⟨a,0,s.size,true,rfl,rfl,by omega,J,by omega,ah,rfl,ai,ae,fun _=>rfl⟩
   case round=>
    obtain⟨i,b,h,j,rfl,rfl,a1,ay,ax,r,Z,x,L,aq⟩:=hrel;have U:=Aa (Hs L.out)
    cases j
    . have S:=Aa (Z.out.trans (UI s h b i x.out));have ak:=Aa r.out.size;have u:Hid (G8 104 wr e s i):=L.out;by_cases X:4294967295<b
      . have aj:(4294967295:Int)<(b:Int):=by omega
        have A:=Aa (show Hz T s a=(none,i)by rw[f.o,S.o];simp[X]);go_wp2;go_ret2;rw[A.o];exact⟨u.o,r.out.frS,Or.inl ⟨rfl,rfl⟩⟩
      . have aj:¬ (4294967295:Int)<(b:Int):=by omega
        have A:=Aa (show Hz T s a=(some ⟨0,b,[],[]⟩,i)by rw[f.o,S.o];simp[X]);have a2:IntKind.u32.wrap (b:Int)=b:=by rw[hH];omega
        go_wp2;go_ret2;rw[A.o];have K:=Ac.new wr #[I0 0,.int .u32 (b:Nat),.string ⟨#[]⟩,.slice none 0 0] 177;exact⟨Ac.alloc u.o _,(r.out.frS).alloc EE _,Or.inr ⟨_,_,rfl,rfl,GS.leaf R _ _ _ 0 b [] K EE kX kX kY⟩⟩
    obtain rfl:=aq rfl;have a0:=A5 x.out;have az:=DW x.out;obtain⟨d,aw,al⟩:∃ d:Nat,d<10/\bt s i=48+d:=⟨(bt s i-48).toNat,by omega,by omega⟩;obtain⟨k,rfl⟩:∃ k,h=k+1:=⟨h-1,by omega⟩;have V:=Aa (show rdNum s s.size 0 a=rdNum s k (min (b*10+d) 4294967296) (i+1)by
     rw[Z.out,rdNum,aF x.out,show D1 s i=d by unfold D1;omega])
    have u:Hid (G8 104 wr e s (i+1)):=L.out;rw[al];have a3:IntKind.u8.wrap (48+(d:Int)-48)=d:=lK;go_wp2_with fail;refine(EO 104 wr e s (i+1) 48 57 u.o M kX).mono ?_;have an:(min ((b:Int)*10+(d:Int)) 4294967296)=((min (b*10+d) 4294967296:Nat):Int):=kX;rw[an];have Y:min (b*10+d) 4294967296<=4294967296:=kX;generalize min (b*10+d) 4294967296=ad at*;rintro g a4⟨ac,⟨I,rfl,p⟩|⟨I,rfl,p⟩⟩
    . have y:=Aa I;have z:=Aa (Hs p);go_wp2;go_roundw
      case rel=>exact⟨i+1,ad,k,true,rfl,rfl,Y,by omega,by omega,r.out.trans ac,V,y,p,fun _=>rfl⟩
      case measure=>rw[U.o,z.o];simp[okOf];omega
    have y:=Aa I;have z:=Aa (Hs p);go_wp2;go_roundw
    case rel=>exact⟨i+1,ad,k,false,rfl,rfl,Y,by omega,by omega,r.out.trans ac,V,y,p,fun g=>by cases g⟩
    case measure=>rw[U.o,z.o];simp[okOf];omega
 have f:=Aa (show Hz T s a=(none,a)by unfold Hz;rw[aC CZ,aC (by rw[o];simp)]);go_wp2;go_ret2;rw[f.o];exact⟨F,(v.trans ab).frS,Or.inl ⟨rfl,rfl⟩⟩
theorem na(h:p:=by
 have bz:=Aa (aa.o.trans (ac.fr _));go_wp2;go_ret2;rw[p.o];exact⟨bb,bz.o,Or.inl ⟨rfl,rfl⟩⟩):p:=h
theorem Lh.I1{h w w' a b l}(k:Lh w a b l)(g:CI h w w')(y:h<a):Lh w' a b l:=by
 obtain⟨x,⟨v,o,p,f,r⟩,u⟩:=k;refine⟨x,⟨v,o,Ac.I1 p g kX,An f fun e j=>g.block e (by have:=(f.lt e j).1;omega),r⟩,u⟩
theorem TA(s a i b)(h:i<=s.size)(g:s.size<=a+i):rdRun s a i b=
 if CW s i 34 34 then(some b,i+1)
 else if AG (bt s i)<0 then(none,i)
 else if AG (bt s (i+1))<0 then(none,i+1)
 else rdRun s (a-1) (i+2) (b++[UInt8.ofNat (16*AG (bt s i)+AG (bt s (i+1))).toNat]):=by
 cases a with
 | zero=>
  have e:¬ i<s.size:=kX;rw[rdRun,aC (fun f=>e (A5 f)),aF (by rw[DM s i e];decide)]
 | succ a=>rw[rdRun];rfl
theorem TM{T:Type}(R:aE->Nat->Nat->Nat->T->Prop)(s)(Y:s.size<=8000)(w a b)(a4:G8 104 w a s b)(o:a<w.heap.size)(az:b<=s.size):
 Calls prog 72 #[P0 a] w fun j w'=>Dn (GS R) s a w (Qj T (rdRun s s.size b [])) j w':=by
 have ap:=Aa (Ac.alloc a4 (.cells X_12 163));have K:Hid (Lh (w.alloc (.cells X_12 163)) w.heap.size w.heap.size []):=by
  have:Lh (w.alloc (.cells X_12 163)) w.heap.size w.heap.size []:=
   ⟨.slice none 0 0,⟨.pointer none,Or.inl rfl,Ac.new _ _ _,cC _ _ _ _,by simp[Value.ownBlock]⟩,aB _⟩
  exact this
 have ai:=Aa ((Fr.refl w.heap.size a w).alloc (aB _) (.cells X_12 163));go_enter func72,ntmps72;go_wp2_with fail;generalize w.alloc (.cells X_12 163)=ba at*;go_loopw [5] (fun _ wr=>∃ (i g:Nat) (l:aD UInt8),i<=s.size/\s.size<=g+i/\l.length<=i/\Hid (G8 104 wr a s i)/\Hid (Lh wr w.heap.size w.heap.size l)/\Hid (Fr w.heap.size a w wr)/\Hid (w.heap.size<wr.heap.size)/\Hid (rdRun s s.size b []=rdRun s g i l)) (fun _ wr=>s.size+1-KH wr a)
 case atStart=>exact⟨b,s.size,[],az,by omega,by simp,ap,K,ai,(by obtain⟨v,⟨ad,_,ax,_⟩,_⟩:=K.o;exact ax.lt),rfl⟩
 case round=>
  obtain⟨i,g,l,E,a2,a9,X,U,V,I,a3⟩:=hrel;have an:=Aa (Hs X.out);have u:=Aa (a3.out.trans (TA s g i l E a2));go_wp2_with fail;refine(Bh 104 wr a s i 34 X.out Y E).mono ?_;rintro j w1⟨h,⟨x,rfl,B⟩|⟨x,rfl,B⟩⟩
  . have p:=Aa (show rdRun s s.size b []=(some l,i+1)by rw[u.o,aF x]);have y:=Aa (U.out.I1 h o);have aa:=Aa (V.out.trans (h.fr _));have r:=Aa (h.size);have a8:=A5 x;have ay:Lib.IsBuilderF 163 5 w.heap.size w.heap.size (Lib.byteCells l) w1:=by
     obtain⟨v,⟨ad,av,aq,ab,be⟩,a7⟩:=y.o;have S:Lib.BuilderAtF 163 5 w.heap.size w.heap.size ad (Lib.byteCells l) w1:=by
      exact my
     rcases av with rfl|rfl;exact Or.inl S;exact Or.inr S
    have al:=Aa ay;have ae:=Aa B;go_wp2_with fail;refine(Tryz.Builder_String_any_k w.heap.size w.heap.size l w1 al.o (by have:=r.o;have:=I.out;omega)).mono ?_;rintro j w2⟨rfl,_,e,_⟩;have bz:=Aa (aa.o.trans ⟨e.os,e.tape,e.output,e.size,fun J F _=>e.block J F⟩);have ar:=Aa (show G8 104 w2 a s (i+1)from Ac.below ae.o e o);have au:=Aa e.size;go_wp2;go_ret2;rw[p.o];have a0:=Ac.new w2 #[I0 2,.int .u32 0,.string ⟨l.toArray⟩,.slice none 0 0] 177;have Z:w.heap.size<=w2.heap.size:=by have:=au.o;have:=r.o;have:=I.out;omega
    exact⟨Ac.alloc ar.o _,bz.o.alloc Z _,Or.inr ⟨⟨2,0,l,[]⟩,_,rfl,rfl,GS.leaf R _ _ _ 2 0 l a0 Z kX kX kX⟩⟩
  have y:=Aa (U.out.I1 h o);have aa:=Aa (V.out.trans (h.fr _));have r:=Aa (show w.heap.size<w1.heap.size by rw[h.size];exact I.out);have z:=Aa x;go_wp2_with fail;refine(T1 104 w1 a s i B Y E).mono ?_;rintro j w2⟨ac,⟨k,A,aw,rfl,bb⟩|⟨k,⟨a6,rfl⟩,bb⟩|⟨k,A,aw,⟨a6,rfl⟩,bb⟩⟩
  . have p:=Aa (show rdRun s s.size b []=rdRun s (g-1) (i+2) (l++[UInt8.ofNat (16*AG (bt s i)+AG (bt s (i+1))).toNat])by rw[u.o,aC (by rw[z.o];simp),aC k,aC A]);have af:=Aa (y.o.I1 ac o);have bz:=Aa (aa.o.trans (ac.fr _));have L:=Aa (show w.heap.size<w2.heap.size by rw[ac.size];exact r.o);have ak:=Aa bb;generalize UInt8.ofNat (16*AG (bt s i)+AG (bt s (i+1))).toNat=O at*;go_wp2_with fail;refine(B6 w2 w.heap.size w.heap.size l O af.o kX (hM L.o)).mono ?_;rintro j a5⟨rfl,f,a1⟩;have M:=Aa (show G8 104 a5 a s (i+2)from Ac.below ak.o f o);have aj:=Aa (bz.o.trans ⟨f.os,f.tape,f.output,f.size,fun J F _=>f.block J F⟩);have am:=Aa (bM L.o f.size);have ao:=Aa (Hs M.o);have ah:=Aa a1;go_wp2;go_roundw
    case rel=>exact⟨i+2,g-1,l++[O],by omega,by omega,by simp;omega,M,ah,aj,am,p⟩
    case measure=>rw[an.o,ao.o];omega
  have p:=Aa (show rdRun s s.size b []=(none,i)by rw[u.o,aC (by rw[z.o];simp),aF k]);exact na;have p:=Aa (show rdRun s s.size b []=(none,i+1)by rw[u.o,aC (by rw[z.o];simp),aC k,aF A]);exact na
theorem ZQ(s n i)(f:¬ i<s.size):A4 s n i=(none,i):=by
 have g:∀ a b,CW s i a b=false:=fun a b=>bJ (fun e=>f e.1)
 cases n with
 | zero=>rfl
 | succ n=>
  show El (A4 s n) s i=(none,i);unfold El Hz;simp[g]
theorem rdBetw_step(s n b a i e)(h:i<=s.size)(g:s.size<=a+i):rdBetw (A4 s n) s b a i e=
 match(A4 s n i).1 with
 | none=>(none,(A4 s n i).2)
 | some f=>if CW s (A4 s n i).2 b b then(some (e++[f]),(A4 s n i).2+1)else if CW s (A4 s n i).2 32 32 then rdBetw (A4 s n) s b (a-1) ((A4 s n i).2+1) (e++[f])else(none,(A4 s n i).2):=by
 cases a with
 | zero=>rw[rdBetw,ZQ s n i kX]
 | succ a=>rw[rdBetw];cases (A4 s n i).1<;>rfl
structure AtV (s:aA) (n:Nat) (cl:Int) (k rb:Nat) (w:aE) (a i f:Nat) (kids:aD (Nat × Tr n)) (v:aI) (wr:aE):Prop where
 rd:G8 104 wr rb s i
 Ap:Ac wr w.heap.size #[I0 (k:Nat),.int .u32 0,.string ⟨#[]⟩,v] 177
 Oh:JE n wr (w.heap.size+1) v kids
 fr:Fr w.heap.size rb w wr
 hi:i<=s.size
 ai:a<=i
 len:kids.length<=i
 fu:s.size<=f+i
 eq:rdBetw (A4 s n) s cl s.size a []=rdBetw (A4 s n) s cl f i (kids.map Prod.snd)
theorem Ac.frK{b f w w' a e t}(g:Ac w a e t)(k:Fr b f w w')(h:a<b)(j:a≠f):Ac w' a e t:=by
 unfold Ac at*;rw[k.block a h j];exact g
theorem Lx(s)(ai:s.size<=8000)(n)(b0:Z7 s n)(a)(az:a<=4)(g w f e)(bm:G8 104 w f s e)(bo:f<w.heap.size)(aw:e<=s.size)(cc:s.size<e+n):
 Calls prog 73 #[P0 f,I0 (a:Nat),.int .u8 g] w fun j w'=>Dn (GS (Cb n)) s f w (Em (A4 s n) s a g e) j w':=by
 obtain⟨bz,bi,bu,bv,bx⟩:=cY Mw;have be:=Aa (Ac.alloc bm (.cells #[I0 (a:Nat),.int .u32 0,.string ⟨#[]⟩,.slice none 0 0] 177));have al:=Aa (Ac.new w #[I0 (a:Nat),.int .u32 0,.string ⟨#[]⟩,.slice none 0 0] 177);have ao:=Aa ((Fr.refl w.heap.size f w).alloc (aB _) (.cells #[I0 (a:Nat),.int .u32 0,.string ⟨#[]⟩,.slice none 0 0] 177));have a9:=Aa b0;go_enter func73,ntmps73;go_wp2_with fail;generalize w.alloc (.cells #[I0 (a:Nat),.int .u32 0,.string ⟨#[]⟩,.slice none 0 0] 177)=b3 at*;refine(Bh 104 b3 f s e g be.o ai aw).mono ?_;rintro j w1⟨V,⟨ad,rfl,ae⟩|⟨ad,rfl,ae⟩⟩
 . have K:=Aa (show Em (A4 s n) s a g e=(some ⟨a,0,[],[]⟩,e+1)by unfold Em;rw[aF ad]);have a5:=Aa (Ac.I1 al.o V kX);have a7:=Aa (ao.o.trans (V.fr _));go_wp2;go_ret2;rw[K.o];exact⟨ae,a7.o,Or.inr ⟨_,_,rfl,rfl,GS.leaf (Cb n) _ _ _ a 0 [] a5.o (aB _) az kX kY⟩⟩
 have K:=Aa (show Em (A4 s n) s a g e=JY a (rdBetw (A4 s n) s g s.size e [])by unfold Em;rw[aC (by rw[ad];simp)]);have a3:=Aa (show AtV s n g a f w e e s.size [] (.slice none 0 0) w1 from⟨ae,Ac.I1 al.o V kX,JE.nil _ _ _,ao.o.trans (V.fr _),aw,aB _,by simp,by omega,rfl⟩);go_wp2;go_loopw [9] (fun _ wr=>∃ (i B:Nat) (b:aD (Nat × Tr n)) (F:aI),Hid (AtV s n g a f w e i B b F wr)) (fun _ wr=>s.size+1-KH wr f)
 case atStart=>exact⟨e,s.size,[],_,a3⟩
 case round=>
  obtain⟨i,B,b,F,h⟩:=hrel;have ba:=Aa (Hs h.out.rd);have av:=Aa (h.out.eq.trans (rdBetw_step s n g B i (b.map Prod.snd) h.out.hi h.out.fu));have bj:=h.out.Ap.lt;have b7:=h.out.ai;have b9:=h.out.len;have ax:=h.out.hi;have b8:=h.out.fu;have By:=EB s n i ax;go_wp2_with fail;refine(a9.o wr f i h.out.rd kX ax kX).mono ?_;rintro j w2⟨v,k,E⟩;have a0:=By.le;rcases E with⟨E,rfl⟩|⟨X,x,E,rfl,b2⟩
  . have I:=Aa (show Em (A4 s n) s a g e=(none,(A4 s n i).2)by rw[K.o,av.o,E];rfl);have a6:=Aa (h.out.fr.trans (k.less kX));have ab:=Aa v;go_wp2;go_ret2;rw[I.o];exact⟨ab.o,a6.o,Or.inl ⟨rfl,rfl⟩⟩
  have ca:=By.lt (by rw[E];rfl);have ah:∀ p,F.ownBlock=some p->w.heap.size+1<=p/\p<wr.heap.size:=fun p j=>h.out.Oh.row.lt p j
  have bq:=k.size;have am:=Aa (Ac.frK h.out.Ap k bj kX);have aq:=Aa (h.out.Oh.B9 k.size fun a b1 a1=>k.block a a1 kX);have J:=Aa (h.out.fr.trans (k.less kX));have ab:=Aa v;have bd:=Aa b2;have bc:=Aa E;have b4:=am.o.c3;go_wp2_with
   (at_builtin
    refine cS _ rfl _ _ _ rfl (w.heap.size+1) 55 bz _ 1 8 underlying175 bi bu bv bx rfl kX F b.length (ER (b.map Prod.fst)) rfl (aq.o.row.alloc _) (A0 w2.heap.size 0) 1 1 [P0 x] rfl rfl (cD (cs:=#[P0 x]) (t:=55) (fr:=(0,0)) (cJ w2 _)) (by simp[Value.oneCell']) kX lD kX lA (w2.heap.size+1) kY ?_;intro r o A bl y bh cb;have bk:some w.heap.size≠F.ownBlock:=fun j=>by have:=(ah _ j.symm).1;omega
    have af:=Ac.grown (Ac.alloc am.o (.cells #[P0 x] 55)) y bk;have b5:=af.c3;have b6:=af.frozen 3)
  have bp:=y.size;simp at bp;have br:∀ p,F.ownBlock=some p->p<wr.heap.size:=fun p j=>(ah p j).2
  have ar:Hid (JE n (A.setCell (A0 w.heap.size 3) (S0 r (b.length+1) o)) (w.heap.size+1) (S0 r (b.length+1) o) (b++[(x,X)])):=by
   have:=(JE.push aq.o br kX bq bd.o (.cells #[P0 x] 55) bl y bh).B9 (w':=A.setCell (A0 w.heap.size 3) (S0 r (b.length+1) o)) (by simp[World.setCell]) (fun a b1 a1=>aN _ _ _ _ lB);exact this
  have an:=Aa (af.set 3 (S0 r (b.length+1) o));have a2:∀ q,q<w.heap.size->(A.setCell (A0 w.heap.size 3) (S0 r (b.length+1) o)).heap[q]? = w2.heap[q]? := fun q cd=>by
   rw[aN _ _ _ _ lB,y.block q lA (fun j=>by have:=(ah _ j.symm).1;omega),bC _ _ _ kX]
  have bf:=Aa (show G8 104 (A.setCell (A0 w.heap.size 3) (S0 r (b.length+1) o)) f s (A4 s n i).2 by
   have bg:=ab.o;unfold G8 Ac at*;rw[a2 f bo];exact bg)
  have ap:Hid (Fr w.heap.size f w (A.setCell (A0 w.heap.size 3) (S0 r (b.length+1) o))):=by
   have:Fr w.heap.size f w (A.setCell (A0 w.heap.size 3) (S0 r (b.length+1) o)):=
    ⟨y.os.trans J.o.os,y.tape.trans J.o.tape,y.output.trans J.o.output,by have:=J.o.size;simp[World.setCell];omega,fun q v k=>(a2 q v).trans (J.o.block q v k)⟩
   exact this
  generalize(A.setCell (A0 w.heap.size 3) (S0 r (b.length+1) o))=W at*;have O:=Aa av.o;rw[bc.o]at O;generalize(A4 s n i).2=z at*;refine(Bh 104 W f s z g bf.o ai a0).mono ?_;rintro j aj⟨u,⟨Y,rfl,ac⟩|⟨Y,rfl,ac⟩⟩
  . have I:=Aa (show Em (A4 s n) s a g e=(some ⟨a,0,[],(b++[(x,X)]).map Prod.snd⟩,z+1)by
     rw[K.o,O.o];simp only;rw[aF Y];simp[JY])
    have Z:=Aa (Ac.I1 an.o u kX);have aa:=Aa (ar.o.B9 (w':=aj) (by rw[u.size];omega) (fun q v k=>u.block q kX));have M:=Aa (ap.o.trans (u.fr _));have ay:=A5 Y;go_wp2;go_ret2;rw[I.o];exact⟨ac,M.o,Or.inr ⟨_,_,rfl,rfl,JE.node aa.o Z.o (aB _) kX az lA⟩⟩
  have au:=Aa Y;have Z:=Aa (Ac.I1 an.o u kX);have aa:=Aa (ar.o.B9 (w':=aj) (by rw[u.size];omega) (fun q v k=>u.block q kX));have M:=Aa (ap.o.trans (u.fr _));go_wp2_with fail;refine(Bh 104 aj f s z 32 ac ai a0).mono ?_;rintro j ak⟨L,⟨S,rfl,U⟩|⟨S,rfl,U⟩⟩
  . have ay:=A5 S;have a4:Hid (AtV s n g a f w e (z+1) (B-1) (b++[(x,X)]) (S0 r (b.length+1) o) ak):=by
     have:AtV s n g a f w e (z+1) (B-1) (b++[(x,X)]) _ ak:=
      ⟨U,Ac.I1 Z.o L kX,aa.o.B9 (w':=ak) (by rw[L.size];omega) (fun q v k=>L.block q kX),M.o.trans (L.fr _),ay,by omega,by simp;omega,by omega,by
       rw[O.o,aC (by rw[au.o];simp),aF S];simp⟩
     exact this
    have bb:=Aa (Hs U);go_wp2;go_roundw
    case rel=>exact⟨z+1,B-1,_,_,a4⟩
    case measure=>rw[ba.o,bb.o];omega
  have I:=Aa (show Em (A4 s n) s a g e=(none,z)by
   rw[K.o,O.o,aC (by rw[au.o];simp),aC (by rw[S];simp)];rfl)
  have a8:=Aa (M.o.trans (L.fr _));go_wp2;go_ret2;rw[I.o];exact⟨U,a8.o,Or.inl ⟨rfl,rfl⟩⟩
theorem n2(h:p:=by
 rintro e aj o;have af:=Aa (show Dn (GS (Cb n)) s g w (El (A4 s n) s a) e aj by rw[ah.o];exact o.same ad.o);obtain⟨v,b,rfl⟩:=o.form;go_wp2;go_ret2;exact af.o):p:=h
theorem UB(s)(K:s.size<=8000)(n)(aj:Z7 s n)(w e a)(af:G8 104 w e s a)(ai:e<w.heap.size)(ac:a<=s.size)(ap:s.size<a+n):
 Calls prog 74 #[P0 e] w fun k w'=>Dn (GS (Cb n)) s e w (IV (A4 s n) s a) k w':=by
 have Y:=Aa af;have U:=Aa aj;go_enter func74,ntmps74;go_wp2_with fail;refine(EO 104 w e s a 48 49 Y.o K ac).mono ?_;rintro k w1⟨y,⟨g,rfl,u⟩|⟨g,rfl,u⟩⟩
 . have an:=A5 g;have am:=DW g;have E:=Aa g;obtain⟨d,ad,ae⟩:∃ d:Nat,d<2/\bt s a=48+d:=⟨(bt s a-48).toNat,by omega,by omega⟩;have S:=Aa (show D1 s a=d by unfold D1;omega);rw[ae];have ar:IntKind.u8.wrap (48+(d:Int)-48)=d:=lK;have B:=Aa y;have ab:=Aa y.size;go_wp2_with fail;refine(Bh 104 w1 e s (a+1) 32 u K kX).mono ?_;rintro k w2⟨z,⟨o,rfl,v⟩|⟨o,rfl,v⟩⟩
   . have ao:=A5 o;have f:=Aa (show IV (A4 s n) s a=OA d (A4 s n (a+2))by unfold IV;rw[aF E.o,aF o,S.o]);have Z:=Aa (B.o.trans z);have j:=Aa (z.size.trans ab.o);go_wp2_with fail;refine(U.o w2 e (a+2) v (by rw[j.o];exact ai) kX kX).mono ?_;rintro k b⟨L,M,h⟩;have A:=Aa (show Fr w.heap.size e w b from(Z.o.fr _).trans (M.less (by rw[j.o];omega)));rcases h with⟨h,rfl⟩|⟨O,p,h,rfl,al⟩
     . have r:=Aa (show IV (A4 s n) s a=(none,(A4 s n (a+2)).2)by rw[f.o];unfold OA;rw[h];rfl);go_wp2;go_ret2;rw[r.o];exact⟨L,A.o,Or.inl ⟨rfl,rfl⟩⟩
     . have r:=Aa (show IV (A4 s n) s a=(some ⟨5,d,[],[O]⟩,(A4 s n (a+2)).2)by rw[f.o];unfold OA;rw[h];rfl);have aa:=Aa M.size;have X:=Aa al;have V:=Aa L;have aq:IntKind.u32.wrap (d:Int)=d:=by rw[hH];omega
       go_wp2;go_ret2;rw[r.o];have I:w.heap.size<=b.heap.size:=by have:=aa.o;have:=j.o;omega
       have x:=Ac.new (b.alloc (.cells #[P0 p] 55)) (X_9 (d:Nat) (⟨#[]⟩) b.heap.size) 177;rw[show(b.alloc (.cells #[P0 p] 55)).heap.size=b.heap.size+1 by simp]at x;have ah:=Ac.alloc (Ac.new b #[P0 p] 55) (.cells (X_9 (d:Nat) (⟨#[]⟩) b.heap.size) 177);refine⟨Ac.alloc (Ac.alloc V.o _) _,(A.o.alloc I _).alloc lA _,Or.inr ⟨_,_,rfl,rfl,?_⟩⟩;refine⟨_,[(p,O)],x,⟨by omega,x.lt⟩,Or.inr ⟨b.heap.size,1,rfl,I,by simp;omega,by simp,fun au F=>?_⟩,fun q J=>?_,rfl,⟨by simp,by simp only;omega,fun _=>⟨ad,rfl⟩,by simp,by simp⟩⟩;simp at F;subst F;exact ah.cell 0;simp at J;subst J;refine X.o.mono n (fun av _ ak=>?_) (by have:=j.o;omega) lA;rw[bC _ _ _ lA,bC _ _ _ ak]
   . have f:=Aa (show IV (A4 s n) s a=(none,a+1)by unfold IV;rw[aF E.o,aC (by rw[o];simp)]);go_wp2;go_ret2;rw[f.o];exact⟨v,(B.o.trans z).frS,Or.inl ⟨rfl,rfl⟩⟩
 have f:=Aa (show IV (A4 s n) s a=(none,a)by unfold IV;rw[aC (by rw[g];simp)]);go_wp2;go_ret2;rw[f.o];exact⟨u,y.frS,Or.inl ⟨rfl,rfl⟩⟩
theorem Tp(s)(f:s.size<=8000)(n)(ao:Z7 s n):Z7 s (n+1):=by
 intro w g a an p j ap;show Calls prog 48 #[P0 g] w fun e w'=>Dn (GS (Cb n)) s g w (El (A4 s n) s a) e w'
 have al:=Aa an;have E:=Aa ao;go_enter func48,ntmps48;go_wp2_with fail;refine(Bh 104 w g s a 45 al.o f j).mono ?_;rintro e w1⟨I,⟨F,rfl,J⟩|⟨F,rfl,J⟩⟩
 . have ah:=Aa (show El (A4 s n) s a=(some ⟨1,0,[],[]⟩,a+1)by unfold El;rw[aF F]);have ak:=Aa I.size;go_wp2;go_ret2;rw[ah.o];have am:=Ac.new w1 #[I0 1,.int .u32 0,.string ⟨#[]⟩,.slice none 0 0] 177;exact⟨Ac.alloc J _,(I.frS).alloc EE _,Or.inr ⟨_,_,rfl,rfl,GS.leaf (Cb n) _ _ _ 1 0 [] am EE kX kX kY⟩⟩
 have aa:=Aa F;have U:=Aa I;go_wp2_with fail;refine(Bh 104 w1 g s a 34 J f j).mono ?_;rintro e w2⟨Y,⟨u,rfl,K⟩|⟨u,rfl,K⟩⟩
 . have ah:=Aa (show El (A4 s n) s a=Qj (Tr n) (rdRun s s.size (a+1) [])by unfold El;rw[aC CZ,aF u]);have h:=A5 u;have k:=Aa (U.o.trans Y);go_wp2_with fail;refine(TM (Cb n) s f w2 g (a+1) K (by rw[k.o.size];exact p) h).mono ?_;rintro e A o;have af:=Aa (show Dn (GS (Cb n)) s g w (El (A4 s n) s a) e A by rw[ah.o];exact o.same k.o);obtain⟨v,b,rfl⟩:=o.form;go_wp2;go_ret2;exact af.o
 have r:=Aa u;have k:=Aa (U.o.trans Y);go_wp2_with fail;refine(Bh 104 w2 g s a 40 K f j).mono ?_;rintro e A⟨Z,⟨x,rfl,L⟩|⟨x,rfl,L⟩⟩
 . have ah:=Aa (show El (A4 s n) s a=Em (A4 s n) s 3 41 (a+1)by unfold El;rw[aC CZ,aC (by rw[r.o];simp),aF x]);have h:=A5 x;have ad:=Aa (k.o.trans Z);go_wp2_with fail;refine(Lx s f n E.o 3 kX 41 A g (a+1) L (by rw[ad.o.size];exact p) h kX).mono ?_;exact n2
 have B:=Aa x;have V:=Aa (k.o.trans Z);go_wp2_with fail;refine(Bh 104 A g s a 91 L f j).mono ?_;rintro e ae⟨ab,⟨y,rfl,M⟩|⟨y,rfl,M⟩⟩
 . have ah:=Aa (show El (A4 s n) s a=Em (A4 s n) s 4 93 (a+1)by unfold El;rw[aC CZ,aC (by rw[r.o];simp),aC (by rw[B.o];simp),aF y]);have h:=A5 y;have ad:=Aa (V.o.trans ab);go_wp2_with fail;refine(Lx s f n E.o 4 kX 93 ae g (a+1) M (by rw[ad.o.size];exact p) h kX).mono ?_;exact n2
 have S:=Aa y;have X:=Aa (V.o.trans ab);go_wp2_with fail;refine(Bh 104 ae g s a 47 M f j).mono ?_;rintro e ai⟨ac,⟨z,rfl,O⟩|⟨z,rfl,O⟩⟩
 . have ah:=Aa (show El (A4 s n) s a=IV (A4 s n) s (a+1)by unfold El;rw[aC CZ,aC (by rw[r.o];simp),aC (by rw[B.o];simp),aC (by rw[S.o];simp),aF z]);have h:=A5 z;have ad:=Aa (X.o.trans ac);go_wp2_with fail;refine(UB s f n E.o ai g (a+1) O (by rw[ad.o.size];exact p) h kX).mono ?_;exact n2
 have ah:=Aa (show El (A4 s n) s a=Hz (Tr n) s a by unfold El;rw[aC CZ,aC (by rw[r.o];simp),aC (by rw[B.o];simp),aC (by rw[S.o];simp),aC (by rw[z];simp)]);have ad:=Aa (X.o.trans ac);go_wp2_with fail;refine(TC (Cb n) s f ai g a O (by rw[ad.o.size];exact p) j).mono ?_;exact n2
theorem QD(s)(a:s.size<=8000)(n):Z7 s n:=by
 induction n with
 | zero=>intro w h e _ _ f g;omega
 | succ n b=>exact Tp s a n b
structure ZG (s:aA) (w:aE) (e:Ending) (w':aE):Prop where
 A9:Below w.heap.size w w'
 out:((C1 s).1=none/\e=.returned (.tuple #[.pointer none,I0 9,I0 ((C1 s).2:Nat)]))\/∃ x vb,(C1 s).1=some x/\e=.returned (.tuple #[P0 vb,I0 0,I0 0])/\Cb (s.size+1) w' w.heap.size w'.heap.size vb x
theorem UE(s)(O:s.size<=maxLen)(w):Calls prog 29 #[.string s] w fun r w'=>ZG s w r w':=by
 unfold maxLen at O;by_cases v:8000<s.size
 . have J:(8000:Int)<(s.size:Int):=by omega
   have g:=Aa (show C1 s=(none,0)by unfold C1;rw[aF v]);go_enter func29,ntmps29;go_wp2;go_ret3;refine⟨aO _ _,Or.inl ?_⟩;rw[g.o];exact⟨rfl,rfl⟩
 have J:¬ (8000:Int)<(s.size:Int):=kX;have x:s.size<=8000:=kX;have g:=Aa (show C1 s=if(A4 s (s.size+1) 0).2=s.size then A4 s (s.size+1) 0 else(none,(A4 s (s.size+1) 0).2)by unfold C1;rw[aC v]);have I:Hid (G8 104 (w.alloc (.cells #[.string s,I0 0] 104)) w.heap.size s 0):=Ac.new _ _ _;have A:=Aa ((aO w.heap.size w).alloc (aB _) (.cells #[.string s,I0 0] 104));have By:=EB s (s.size+1) 0 (bR _);have L:=By.le;have p:=Aa (show(w.alloc (.cells #[.string s,I0 0] 104)).heap.size=w.heap.size+1 by simp);go_enter func29,ntmps29;go_wp2_with fail;generalize w.alloc (.cells #[.string s,I0 0] 104)=V at*;refine(QD s x (s.size+1) V w.heap.size 0 I.o (by rw[p.o];omega) kX kX).mono ?_;rintro r w1⟨y,k,o⟩;have b:=Aa (A.o.trans ⟨k.os,k.tape,k.output,k.size,fun j K=>k.block j (by rw[p.o];omega) kX⟩);have X:=y.c1;rcases o with⟨o,rfl⟩|⟨u,z,o,rfl,U⟩
 . have f:=Aa (show C1 s=(none,(A4 s (s.size+1) 0).2)by
    rw[g.o];split;exact Prod.ext o rfl;rfl)
   go_wp2_with fail;go_quiet (fail);go_wp2;go_ret3;refine⟨⟨b.o.os,b.o.tape,b.o.output,b.o.size,b.o.block⟩,Or.inl ?_⟩;rw[f.o];exact⟨rfl,rfl⟩
 have B:=Aa o;have E:=Aa U;go_wp2_with fail;refine(F5 104 w1 w.heap.size s _ y x L).mono ?_;rintro r w2⟨rfl,a,M⟩;have e:=Aa (b.o.trans ⟨a.os,a.tape,a.output,by rw[a.size];omega,fun j K=>a.block j kX⟩);by_cases h:(A4 s (s.size+1) 0).2=s.size
 . rw[bF h];have f:=Aa (show C1 s=(some u,s.size)by rw[g.o,aF h];exact Prod.ext B.o h);have F:=Aa (show Cb (s.size+1) w2 w.heap.size w2.heap.size z u from E.o.mono _ (fun j S _=>a.block j (by rw[p.o]at S;omega)) (by rw[p.o];omega) (by rw[a.size];omega));go_wp2;go_ret3;exact⟨e.o,Or.inr ⟨u,z,by rw[f.o],rfl,F.o⟩⟩
 rw[bJ h];have f:=Aa (show C1 s=(none,(A4 s (s.size+1) 0).2)by rw[g.o,aC h]);have Y:=M.c1;go_wp2_with fail;go_quiet (fail);go_wp2;go_ret3;refine⟨⟨e.o.os,e.o.tape,e.o.output,e.o.size,e.o.block⟩,Or.inl ?_⟩;rw[f.o];exact⟨rfl,rfl⟩

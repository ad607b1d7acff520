import Derived.StillTactics
import Derived.Deep.Quiet
import Derived.Deep.RegionWith
import Derived.BigRegion
import Derived.Deep.LoopGhost
import Derived.OrdersIn
import Derived.OwnWalkIn
import Derived.RangeFuncCalls
import Derived.Test.YtmlkhhhjdpbhfaaGreatDoorGe01
namespace Go.Proofs.YtmlkhhhjdpbhfaaGreatDoor
open Go.RowKit Go.Proofs.Tryz
set_option maxHeartbeats 4000000
set_option maxRecDepth 100000
variable{p q:Prop}(z:q)
theorem nn(h:p:=by
 have a1:=Aa (Ac.new w (C0 b) 146);have ak:Hid (Below w.heap.size w (w.alloc (.cells (C0 b) 146))):=(aO _ _).alloc (aB _) _;have bo:(w.alloc (.cells (C0 b) 146)).heap.size=w.heap.size+1:=kY;go_enter func60,ntmps60;go_wp2_with fail;generalize a:w.alloc (.cells (C0 b) 146)=y at*;generalize ba:w.heap.size=bz at*;have az:=Aa ba;go_loopw [33] (fun ay wr=>∃ f:Nat,ay=I0 f/\f<=z.length/\Hid (Below y.heap.size y wr)/\Hid ((firstMiss b ((z.take f).flatMap Prod.snd)).2=false)) (fun ay _=>z.length-(intOf ay).toNat)
 case atStart=>exact⟨0,rfl,by omega,aO _ _,(by simp[firstMiss]:(firstMiss b ((z.take 0).flatMap Prod.snd)).2=false)⟩
 case round=>
  obtain⟨f,rfl,ad,j,bj⟩:=hrel;have a5:=j.out.size;have v:=a1.o.below j.out kX;have bu:=v.c0;have a2:=v.c1;have a9:=v.c2;have bv:=v.c3;have bg:=v.c4;have bx:=v.c5;have bh:=v.c6;have bi:=v.c7;by_cases av:f<z.length
  . obtain⟨g,rfl,af,p⟩:=a3.o f Bn;have bm:(f:Int)<(z.length:Int):=kX;have aa:=aU av;have ah:(z.map Prod.fst).getD f 0=z[f].1:=by rw[A3 _ _ _ Bn];simp
    rw[ah]at p;have bk:wr.cell? (A0 g f)=some (P0 (z[f].1)):=by
     rw[j.out.cell (p:=(A0 g f)) lA,ak.o.cell (p:=(A0 g f)) lA];exact p
    have o:=a4.o _ aa;have ap:∀ u,u∈z[f].2->u∈r:=fun u x=>by rw[A.o];exact aH _ (cI.2 ⟨_,aa,x⟩)
    have bd:z[f].2.length<=1000:=by
     have ab:=LU z _ aa;rw[A.o]at aw;simp at aw;simp at ab;omega
    have ai:=Aa (a7.out wr aj hi _ _ (o.mono (fun k ab ac=>by rw[j.out.block k kX,ak.o.block k kX]) (aB _) (aB _)) kX (fun u x=>a6.o u (ap u x)) bd);have b3:=Aa (show firstMiss b ((z.take (f+1)).flatMap Prod.snd)=firstMiss b z[f].2 by
     rw[bN av,eO,Ea,bj.out];simp)
    have au:Hid ((firstMiss b ((z.take (f+1)).flatMap Prod.snd)).2=true->firstMiss b (z.flatMap Prod.snd)=firstMiss b ((z.take (f+1)).flatMap Prod.snd)):=by
     intro h;have e:z.flatMap Prod.snd=(z.take (f+1)).flatMap Prod.snd++(z.drop (f+1)).flatMap Prod.snd:=by rw[<- eO,eH]
     rw[e,Ea,aF h]
    generalize z[f]=q at*;go_wp2_with fail;have ao:=ai.o;simp only[C0]at ao;refine ao.mono ?_;rintro e ci⟨rfl,a8⟩;have am:Hid (Below y.heap.size y ci):=j.out.trans (a8.mono kX);generalize bl:firstMiss b q.2=m at*;obtain⟨be,bf⟩:=m
    cases bf
    . have an:=Aa (show(firstMiss b ((z.take (f+1)).flatMap Prod.snd)).2=false by rw[b3.o]);simp only;go_wp2;go_roundw
      case rel=>exact⟨f+1,by go_num,by omega,am,an⟩
      case measure=>simp[intOf];omega
    . have ax:=Aa (show firstMiss b r=(be,true)by rw[al.o,au.o (by rw[b3.o]),b3.o]);simp only;go_wp2;go_ret2;exact⟨by rw[ax.o];rfl,by rw[az.o];exact ak.o.trans (am.o.mono kX)⟩
  have ax:=Aa (show firstMiss b r=(0,false)by
   rw[al.o];have ab:=bj.out;rw[bV kX]at ab;exact Iq b _ ab)
  go_wp2;go_ret2;exact⟨by rw[ax.o];rfl,by rw[az.o];exact ak.o.trans (j.out.mono kX)⟩):p:=h
def C0(a:Nat->Bool):Array aI:=#[.bool (a 0),.bool (a 1),.bool (a 2),.bool (a 3),.bool (a 4),.bool (a 5),.bool (a 6),.bool (a 7)]
def FE(b:Nat->Bool)(a:It):Bool:=a.c==82 && !(b a.r.toNat)
def firstMiss(a:Nat->Bool)(l:aD It):Int × Bool:=match l.find? (FE a)with|some b=>(b.pl,true)|none=>(0,false)
theorem Ik(a b e):firstMiss a (b::e)=if FE a b then(b.pl,true)else firstMiss a e:=by
 unfold firstMiss;rw[List.find?_cons];cases FE a b<;>simp
theorem Ea(a b e):firstMiss a (b++e)=if(firstMiss a b).2 then firstMiss a b else firstMiss a e:=by
 unfold firstMiss;rw[List.find?_append]
 cases b.find? (FE a)<;>simp
theorem X7(c)(e:c=82\/(CC c≠6)):(IU c==6)=(c==82):=by
 unfold IU;by_cases a:c=82;simp[a];rw[aC a];rcases e with b|b;exact absurd b a;have:¬ ((CC c:Int)=6):=kX;rw[dC.2 this,dC.2 a]
def Vc(l:aD It):Prop:=∀ a,a∈l->(a.c=82->0<=a.r/\a.r<8)/\(a.c=82\/CC a.c≠6)
theorem H6.pos{a w h g j e}(b:H6 a w h g j e):0<e.length:=by
 cases a with
 | zero=>exact b.elim
 | succ a=>obtain⟨p,k,o,f,_⟩:=b;rw[f];simp
theorem Abm(l:aD (Nat × aD It))(a:∀ q,q∈l->0<q.2.length):l.length<=(l.flatMap Prod.snd).length:=by
 induction l with
 | nil=>simp
 | cons f j e=>
  have g:=a f aG;have h:=e (fun q b=>a q (aH _ b));simp only[bY,aR,aX];omega
theorem LU(l:aD (Nat × aD It))(q:Nat × aD It)(h:q∈l):q.2.length<=(l.flatMap Prod.snd).length:=by
 exact jj
theorem Iq(b l)(a:(firstMiss b l).2=false):firstMiss b l=(0,false):=by
 unfold firstMiss at a⊢
 cases e:l.find? (FE b)with
 | none=>rfl
 | some f=>rw[e]at a;cases a
def XT(b:Nat->Bool)(w:aE)(a:aD It)(e:Ending)(w':aE):Prop:=
 e=.returned (.tuple #[I0 (firstMiss b a).1,.bool (firstMiss b a).2])/\Below w.heap.size w w'
theorem Kk(b a)(e:a<8):(C0 b)[a]? = some (.bool (b a)):=by
 have ab:a=0\/a=1\/a=2\/a=3\/a=4\/a=5\/a=6\/a=7:=kX;exact DI
theorem Ux(b V):∀ w aj hi K r,H6 V w aj hi K r->hi<=w.heap.size->Vc r->r.length<=1000->
 Calls prog 60 #[P0 K,.agg (C0 b)] w fun e w'=>XT b w r e w':=by
 induction V with
 | zero=>intro w aj hi K r h;exact h.elim
 | succ V cf=>
  intro w aj hi K r b5 cl b6 aw;have a7:=Aa cf;have cg:=Aa b5;obtain⟨B,z,U,bp,co,cn,cp,M,Cj,ar,b2⟩:=b5;have b7:=b6 B (by rw[bp];exact aG);have X:(U.k==6)=(B.c==82):=by rw[Cj.k];exact X7 B.c b7.2
  have A:=Aa bp;have ai:=Aa (Ik b B (z.flatMap Prod.snd));have a4:=Aa b2;have a6:=Aa b6;obtain⟨L,aq,ae,cb⟩:∃ L aq,U.v=.slice L (z.map Prod.fst).length aq/\(∀ f,f<(z.map Prod.fst).length->∃ g,L=some (A0 g 0)/\g<w.heap.size/\w.cell? (A0 g f)=some (P0 ((z.map Prod.fst).getD f 0))):=by
   exact ji
  rw[cM]at ae;have cj:w.cell? (A0 K 8)=some (.slice L z.length aq):=by rw[<- ae];exact M.cell 8
  have ck:∀ F,(w.alloc F).cell? (A0 K 8)=some (.slice L z.length aq):=fun F=>by rw[<- ae];exact(Ac.alloc M F).cell 8
  have ch:∀ F,(w.alloc F).cell? (A0 K 0)=some (I0 U.k):=fun F=>(Ac.alloc M F).cell 0
  have b8:∀ F,(w.alloc F).cell? (A0 K 1)=some (I0 U.pl):=fun F=>(Ac.alloc M F).cell 1
  have b1:∀ F,(w.alloc F).cell? (A0 K 6)=some (I0 U.ru):=fun F=>(Ac.alloc M F).cell 6
  have a3:=Aa cb;have cm:z.length<=1000:=by
   have ab:=Abm z (fun q aa=>H6.pos (b2 q aa));rw[bp]at aw;simp at aw;simp at ab;omega
  have b0:=Aa b7;have br:=Aa Cj;have ca:(FE b B=false/\(B.c==82)=false)\/(FE b B=false/\(B.c==82)=true)\/(FE b B=true/\(B.c==82)=true):=by
   unfold FE
   cases (B.c==82)<;>cases b B.r.toNat<;>simp
  rcases ca with⟨I,J⟩|⟨I,J⟩|⟨I,J⟩
  rotate_left 2
  . have O:B.c=82:=by simpa using J
    obtain⟨cc,cd⟩:=b0.o.1 O;obtain⟨E,S⟩:∃ E:Nat,B.r=(E:Int):=⟨B.r.toNat,by omega⟩;obtain⟨b4,Z⟩:=br.o.ru O;have bq:b E=false:=by
     unfold FE at I;rw[J,S]at I;simpa using I
    have al:=Aa (show firstMiss b r=(B.pl,true)by rw[A.o,ai.o,aF I]);rw[Z,S]at b1;rw[b4]at b8;have Y:E<8:=kX;have ce:(E:Int)<8:=kX;have b9:(w.alloc (.cells (C0 b) 146)).cell? (A0 w.heap.size E)=some (.bool false):=by
     rw[(Ac.new w (C0 b) 146).cell E,Kk b E Y,bq]
    rw[J]at X;go_enter func60,ntmps60;go_wp2;go_ret2;exact⟨by rw[al.o];rfl,(aO _ _).alloc (aB _) _⟩
  have al:=Aa (show firstMiss b r=firstMiss b (z.flatMap Prod.snd)by rw[A.o,ai.o,I];rfl);rw[J]at X;exact nn;have al:=Aa (show firstMiss b r=firstMiss b (z.flatMap Prod.snd)by rw[A.o,ai.o,I];rfl);rw[J]at X;have O:B.c=82:=by simpa using J
  obtain⟨cc,cd⟩:=b0.o.1 O;obtain⟨E,S⟩:∃ E:Nat,B.r=(E:Int):=⟨B.r.toNat,by omega⟩;obtain⟨b4,Z⟩:=br.o.ru O;have bq:b E=true:=by
   unfold FE at I;rw[J,S]at I;simpa using I
  rw[Z,S]at b1;have Y:E<8:=kX;have ce:(E:Int)<8:=kX;have b9:(w.alloc (.cells (C0 b) 146)).cell? (A0 w.heap.size E)=some (.bool true):=by
   rw[(Ac.new w (C0 b) 146).cell E,Kk b E Y,bq]
  exact nn
theorem Ct(h:p:=by
 have ab:¬ (i:Int)<(b.size:Int):=kX;have af:i=b.size:=kX;subst af;go_wp2;go_ret;refine⟨?_,ad.o⟩;rw[<- ac.out];rfl):p:=h
abbrev k8(h:PLift q->p:=by
 intro aa;have ab:(i:Int)<(b.size:Int):=kX;have ae:=ai.o i hi;have aj:=Eh b i;have k:=FT b i;revert ab ae aj k;exact aa.1):p:=h ⟨z⟩
theorem Jq(a w):∃ f W,(convert 9 40 (.string a)).run prog w=.ok (S0 w.heap.size a.size f) W/\Below w.heap.size w W/\W.heap.size=w.heap.size+1/\∀ b,b<a.size->W.cell? (A0 w.heap.size b)=some (.int .u8 (bt a b)):=by
 refine⟨_,_,kT (P:=prog) w 9 40 5 a underlying9 underlying40 underlying5,?_,?_,fun b e=>?_⟩;exact⟨rfl,rfl,rfl,by simp,fun h g=>bC _ _ _ g⟩;simp;rw[Cs a b e];have:(w.drew.alloc (.cells (bytesRow a (grownCap w a.size 0 5)) 5 ((bytesRow a (grownCap w a.size 0 5)).size,(bytesRow a (grownCap w a.size 0 5)).size+1))).heap[w.heap.size]? = some (.cells (bytesRow a (grownCap w a.size 0 5)) 5 ((bytesRow a (grownCap w a.size 0 5)).size,(bytesRow a (grownCap w a.size 0 5)).size+1)):=by
  show(w.heap.push _)[w.heap.size]? = _;simp
 simp only[World.cell?,this];simp[bytesRow,Array.getElem?_append,e]
 try rfl
theorem Af9(a:Nat)(c:Int)(g:0<=c)(h:c<=255)(j:a<16777216):bits .or .u32 ((a:Int)*256) c=(a:Int)*256+c:=by
 have b:=(bits_nat (a*2^8) c.toNat kX kX).1;rw[XQ a c.toNat 8 kX]at b;have e:((a*2^8:Nat):Int)=(a:Int)*256:=kX;have f:((c.toNat:Nat):Int)=c:=kX;rw[e,f]at b;exact b.trans (by rw[cZ,e,f])
theorem OW(b)(x:b.size<=4)(w):
 Calls prog 179 #[.string b] w fun g w'=>g=.returned (.int .u32 (hiV b b.size:Nat))/\Below w.heap.size w w':=by
 obtain⟨u,W,y,j,A,o⟩:=Jq b w;have ai:=Aa o;have ad:=Aa j;go_enter func179,ntmps179;go_wp2;go_loopw [9,3,5] (fun e r _ wr=>∃ (i a:Nat),e=I0 i/\r=.int .u32 a/\i<=b.size/\Hid (a=hiV b i)/\wr=W) (fun e _ _ _=>b.size-(intOf e).toNat)
 case atStart=>exact⟨0,0,rfl,rfl,by omega,(rfl:(0:Nat)=hiV b 0),rfl⟩
 case round=>
  obtain⟨i,a,rfl,rfl,v,ac,rfl⟩:=hrel;by_cases hi:i<b.size
  . refine k8 ?_;intro ab ae aj k;have p:a<16777216:=by
     have h:=Qo b i;rw[<- ac.out]at h;have:=JK i kX;omega
    have z:=Af9 a (bt b i) aj k p;have f:=Aa (show((hiV b (i+1):Nat):Int)=(a:Int)*256+bt b i by rw[hiV,<- ac.out,<- F0];omega);go_wp2;go_roundw
    case rel=>exact⟨i+1,hiV b (i+1),by go_num,by rw[f.o],by omega,rfl,trivial⟩
    case measure=>simp[intOf];omega
  exact Ct
theorem Afv(a:Nat)(c:Int)(i:Nat)(k:0<=c)(o:c<=255)(f:a<256 ^ i)(g:i<=3):bits .or .u32 (a:Int) (c*2 ^ (8*i))=(a:Int)+c*2 ^ (8*i):=by
 have h:=JK i g;have j:c.toNat*2 ^ (8*i)<=255*2 ^ (8*i):=fK _ kX;rw[Un]at f h;have b:=(bits_nat a (c.toNat*2 ^ (8*i)) kX kX).1;rw[Nat.or_comm,XQ c.toNat a (8*i) f]at b;have e:((c.toNat*2 ^ (8*i):Nat):Int)=c*2 ^ (8*i):=by rw[Int.natCast_mul,Int.natCast_pow];congr;omega
 rw[e]at b;rw[b,<- e];omega
theorem QF(b)(z:b.size<=4)(w):
 Calls prog 182 #[.string b] w fun g w'=>g=.returned (.int .u32 (Mm b b.size:Nat))/\Below w.heap.size w w':=by
 obtain⟨x,W,A,j,B,o⟩:=Jq b w;have ai:=Aa o;have ad:=Aa j;go_enter func182,ntmps182;go_wp2;go_loopw [9,3,4,5] (fun e v _ _ wr=>∃ (i a:Nat),e=I0 i/\v=.int .u32 a/\i<=b.size/\Hid (a=Mm b i)/\wr=W) (fun e _ _ _ _=>b.size-(intOf e).toNat)
 case atStart=>exact⟨0,0,rfl,rfl,by omega,(rfl:(0:Nat)=Mm b 0),rfl⟩
 case round=>
  obtain⟨i,a,rfl,rfl,y,ac,rfl⟩:=hrel;by_cases hi:i<b.size
  . refine k8 ?_;intro ab ae aj k;have u:a<256 ^ i:=by rw[ac.out];exact UA b i
    have f:=Aa (show((Mm b (i+1):Nat):Int)=(a:Int)+bt b i*2 ^ (8*i)by rw[Mm,<- ac.out,<- F0,Un];simp);have p:i<=3:=kX;have h:i=0\/i=1\/i=2\/i=3:=kX;have r:=Afv a (bt b i) i aj k u p;rcases h with rfl|rfl|rfl|rfl<;>simp at r f
    all_goals
     go_wp2;go_roundw
     case rel=>exact⟨_,Mm b (_+1),by go_num,by rw[f.o],by omega,rfl,trivial⟩
     case measure=>simp[intOf];omega
  exact Ct
def Aa0(f:Nat)(b:aA->Nat->Nat):Prop:=
 (∀ (a:aA) (_:a.size<=4) (w:aE),Calls prog f #[.string a] w fun e w'=>e=.returned (.int .u32 (b a a.size:Nat))/\Below w.heap.size w w')/\∀ a i,b a i<256 ^ i
theorem Yp:Aa0 179 hiV:=⟨OW,Qo⟩
theorem Aaf:Aa0 182 Mm:=⟨QF,UA⟩
theorem JT(h:p:=by
 rw[CB,<- ac.out];rfl):p:=h
theorem Zi(b:Nat)(a:Nat)(f:a<=4)(g:b<4294967296):bits .and .u32 (b:Int) ((256 ^ a-1:Nat):Int)=((b % 256 ^ a:Nat):Int):=by
 have h:=DS a f;have e:=(bits_nat b (256 ^ a-1) g (by have:0<256 ^ a:=iA kX;omega)).2;rw[e,Un,Nat.and_two_pow_sub_one_eq_mod]
theorem ZK(b a)(f:a<=4):(b % 4294967296) % 256 ^ a=b % 256 ^ a:=by
 have e:256 ^ a ∣ 4294967296:=by
  have:(4294967296:Nat)=256 ^ a*256 ^ (4-a):=by rw[<- Nat.pow_add,show a+(4-a)=4 by omega]
  exact⟨_,this⟩
 exact Nat.mod_mod_of_dvd _ e
theorem MY(b c a)(g:a<=4)(o:0<=c)(_hc1:c<=255)(h:Nat)(k:h=(b*31+c.toNat) % 256 ^ a)(e)(j:e=((256 ^ a-1:Nat):Int)):
 bits .and .u32 (((b:Int)*31+c) % 4294967296) e=(h:Int):=by
 have f:=Zi ((b*31+c.toNat) % 4294967296) a g (Nat.mod_lt _ kX);rw[ZK _ a g,<- k]at f;rw[<- f,j];congr 1;omega
theorem Pv(b)(x:b.size<=4000)(h:Nat)(z:h<=4)(w:aE):
 Calls prog 81 #[.string b,I0 h] w fun o w'=>o=.returned (.int .u32 (CB b h b.size:Nat))/\Below w.heap.size w w':=by
 obtain⟨v,W,y,r,A,u⟩:=Jq b w;have ai:=Aa u;have ad:=Aa r;go_enter func81,ntmps81;have p:h=0\/h=1\/h=2\/h=3\/h=4:=kX;rcases p with rfl|rfl|rfl|rfl|rfl
 . go_wp2;go_loopw [16,6,8] (fun e g _ wr=>∃ (i a:Nat),e=I0 i/\g=.int .u32 a/\i<=b.size/\Hid (a=CB b 0 i)/\wr=W) (fun e _ _ _=>b.size-(intOf e).toNat)
   case atStart=>exact⟨0,0,rfl,rfl,by omega,(rfl:(0:Nat)=CB b 0 0),rfl⟩
   case round=>
    obtain⟨i,a,rfl,rfl,j,ac,rfl⟩:=hrel;by_cases hi:i<b.size
    . refine k8 ?_;intro ab ae aj k;have f:=Aa (MY a (bt b i) 0 kX aj k (CB b 0 (i+1)) JT 0 lC);go_wp2;go_roundw
      case rel=>exact⟨i+1,CB b 0 (i+1),by go_num,by rw[f.o],by omega,rfl,trivial⟩
      case measure=>simp[intOf];omega
    exact Ct
 . go_wp2;go_loopw [16,6,8] (fun e g _ wr=>∃ (i a:Nat),e=I0 i/\g=.int .u32 a/\i<=b.size/\Hid (a=CB b 1 i)/\wr=W) (fun e _ _ _=>b.size-(intOf e).toNat)
   case atStart=>exact⟨0,0,rfl,rfl,by omega,(rfl:(0:Nat)=CB b 1 0),rfl⟩
   case round=>
    obtain⟨i,a,rfl,rfl,j,ac,rfl⟩:=hrel;by_cases hi:i<b.size
    . refine k8 ?_;intro ab ae aj k;have f:=Aa (MY a (bt b i) 1 kX aj k (CB b 1 (i+1)) JT 255 lC);go_wp2;go_roundw
      case rel=>exact⟨i+1,CB b 1 (i+1),by go_num,by rw[f.o],by omega,rfl,trivial⟩
      case measure=>simp[intOf];omega
    exact Ct
 . go_wp2;go_loopw [16,6,8] (fun e g _ wr=>∃ (i a:Nat),e=I0 i/\g=.int .u32 a/\i<=b.size/\Hid (a=CB b 2 i)/\wr=W) (fun e _ _ _=>b.size-(intOf e).toNat)
   case atStart=>exact⟨0,0,rfl,rfl,by omega,(rfl:(0:Nat)=CB b 2 0),rfl⟩
   case round=>
    obtain⟨i,a,rfl,rfl,j,ac,rfl⟩:=hrel;by_cases hi:i<b.size
    . refine k8 ?_;intro ab ae aj k;have f:=Aa (MY a (bt b i) 2 kX aj k (CB b 2 (i+1)) JT 65535 lC);go_wp2;go_roundw
      case rel=>exact⟨i+1,CB b 2 (i+1),by go_num,by rw[f.o],by omega,rfl,trivial⟩
      case measure=>simp[intOf];omega
    exact Ct
 . go_wp2;go_loopw [16,6,8] (fun e g _ wr=>∃ (i a:Nat),e=I0 i/\g=.int .u32 a/\i<=b.size/\Hid (a=CB b 3 i)/\wr=W) (fun e _ _ _=>b.size-(intOf e).toNat)
   case atStart=>exact⟨0,0,rfl,rfl,by omega,(rfl:(0:Nat)=CB b 3 0),rfl⟩
   case round=>
    obtain⟨i,a,rfl,rfl,j,ac,rfl⟩:=hrel;by_cases hi:i<b.size
    . refine k8 ?_;intro ab ae aj k;have f:=Aa (MY a (bt b i) 3 kX aj k (CB b 3 (i+1)) JT 16777215 lC);go_wp2;go_roundw
      case rel=>exact⟨i+1,CB b 3 (i+1),by go_num,by rw[f.o],by omega,rfl,trivial⟩
      case measure=>simp[intOf];omega
    exact Ct
 go_wp2;go_loopw [16,6,8] (fun e g _ wr=>∃ (i a:Nat),e=I0 i/\g=.int .u32 a/\i<=b.size/\Hid (a=CB b 4 i)/\wr=W) (fun e _ _ _=>b.size-(intOf e).toNat)
 case atStart=>exact⟨0,0,rfl,rfl,by omega,(rfl:(0:Nat)=CB b 4 0),rfl⟩
 case round=>
  obtain⟨i,a,rfl,rfl,j,ac,rfl⟩:=hrel;by_cases hi:i<b.size
  . refine k8 ?_;intro ab ae aj k;have f:=Aa (MY a (bt b i) 4 kX aj k (CB b 4 (i+1)) JT 4294967295 lC);go_wp2;go_roundw
    case rel=>exact⟨i+1,CB b 4 (i+1),by go_num,by rw[f.o],by omega,rfl,trivial⟩
    case measure=>simp[intOf];omega
  exact Ct
section
open Go
theorem GV(h:p:=by
 simp[Region.wanted,af]):p:=h
abbrev mJ(h:PLift q->p:=by
 intro aa;simp only[Aa3,aY,bD]at ao;obtain⟨⟨⟨⟨ak,bh⟩,ah⟩,ae⟩,al⟩:=ao;have ap:n<l.length:=by simpa using bh
 have e:(l.take n).length=n:=lA;have am:HeadInv .any l.toArray n (Array.replicate l.toArray.size false):=
  ⟨by simp,fun f av _ aj=>(by rw[gH]at aj;cases aj),fun t _ an=>getD_in (by simpa using an) (gH _ _)⟩
 have H:=QG (md:=.any) ak ah ae bh (l.take n) 0 _ a (fun f ad=>by
  have ar:f<n:=by rw[e]at ad;exact ad
  simp[ar]) (by simpa using e) am (by rw[e];exact al) h
 refine eY o ?_;revert al ae ah ak bh ap e am H;exact aa.1):p:=h ⟨z⟩
abbrev mK(h:PLift q->p:=by
 intro aa;have ai:=wpAnyS_lex (md:=.any) (P:=P) (w:=w2) ak (l.drop (i+1)) (i+1) (b.setIfInBounds i true) aq (fun f=>by simp[eM]) (by simpa[jE]using au) ac;have b5:=wpAny_of_still (Q:=fun ab=>Q .normal ab w2) (Q':=Q) (fun _ h=>h) _ _ _ ai;revert ai b5;exact aa.1):p:=h ⟨z⟩
section
variable {P:Program} {ops:Array Oper} {md:Region.Mode} {w:aE}
def Zj(md:Region.Mode)(ops:Array Oper)(n:Nat):Bool:=
 (List.range ops.size).all fun t=>decide (t<=n)||(List.range t).any fun a=>decide (n<=a)&&Region.waitsFor md ops t a
theorem Gr{b t a}(f:Region.waitsFor md ops t a=true)(k:b.getD a false=false):t ∉ Region.ready md ops b:=by
 intro u;obtain⟨_,x,r,g⟩:=hA.1 u;obtain⟨v,o,e,j,h,p⟩:=kM f
 cases dH (o.symm.trans r)
 have:=g e j h;rw[p,k]at this
 cases this
theorem VL{n f}(F:Region.sinkB md ops n=true)(u:Zj md ops n=true)(S:n<ops.size)(j:HeadInv md ops n f)(d):
 ∀ i,n-i<=d->i<n->f.getD i true=false->∀ t,n<=t->t ∉ Region.ready md ops f:=by
 induction d with
 | zero=>intro i b g;omega
 | succ d K=>
  intro i M y p t U;by_cases J:t=n;subst J;obtain⟨e,h,a⟩:=eS.1 (hG.1 F i (eN.2 y));simp only[aY,bD]at a;have O:=eN.1 h;by_cases z:e=t;subst z;exact Gr a.2 (iV p)
  . cases k:f.getD e false with
    | true=>
     obtain⟨L,A,r,x,v,B⟩:=kM a.2;have g:=j.closed e L A k r x v;rw[B,iV p]at g
     cases g
    | false=>exact K e kX kX (getD_in (by rw[j.size];omega) k) t (aB _)
  intro o;obtain⟨_,V,E,_⟩:=hA.1 o;have I:=(cW.1 E).1;have b:=hG.1 u t (eN.2 I);simp only[cH,bD]at b;rcases b with b|b;omega;obtain⟨e,h,a⟩:=eS.1 b;simp only[aY,bD]at a;have:=eN.1 h;exact Gr a.2 (iV (j.tail e a.1 kX)) o
theorem Wy{n i}{r}{Y}{A:Array Bool->Act->Prop}(E:ops[i]? = some r)(S:∀ (a:Nat) (X:Oper) p o,ops[a]? = some X->X.op≠.select p o)(O:∀ b,HeadInv md ops n b->b.getD i true=false->∀ t,n<=t->t ∉ Region.ready md ops b)(ad:∀ b f,A b f->∀ a∈Region.ready md ops b,n<=a)(u):
 ∀ b f,HeadInv md ops n b->
  (∀ a j,ops[a]? = some j->a≠i->b.getD a true=false->(∀ g∈j.after,Region.binds md g=true->g.on≠i)->r.apart ops j=true)->
  i∈Region.ready md ops b->YieldsAt P ops w r Y f->
  wpAnyL P md ops w n A u (b.setIfInBounds i true) (f.put r.dst Y)->wpAnyL P md ops w n A (u+1) b f:=by
 induction u with
 | zero=>
  intro b f z _ k y H;have x:=(hA.1 k).1;refine⟨gR k,fun a h=>?_⟩;have v:=iZ fun B=>O b z x a B h
  refine⟨v,?_⟩;by_cases e:a=i;subst e;exact y.stOp E H;have:=ad _ _ H a (hJ h e);omega
 | succ u al=>
  intro b f z K k y H;have x:=(hA.1 k).1;refine⟨gR k,fun a h=>?_⟩;have v:=iZ fun B=>O b z x a B h
  refine⟨v,?_⟩;by_cases e:a=i;subst e;exact y.stOp E H;obtain⟨M,j,F,ab⟩:=hA.1 h;have ak:∀ g∈j.after,Region.binds md g=true->g.on≠i:=fun g ae ac af=>by
   have I:=ab g ae ac;rw[af,iV x]at I
   cases I
  have aa:=stOp_put F (K a j F e M ak) (fun p o=>S i r p o E) (fun p o=>S a j p o F) y (H.2 a (hJ h e)).2;refine stOp_mono (fun Z J=>al (b.setIfInBounds a true) Z (z.set h v) (fun V am ah ai U aj=>K V am ah ai ?_ aj) (hJ k (fB e)) J.1 (by rw[jX _ _ e];exact J.2)) aa;by_cases L:a=V;subst L;exact M;rw[getD_set_ne true L]at U;exact U
def midFrom(md:Region.Mode)(ops:Array Oper)(n:Nat):Nat->Nat->Array Bool->Bool
 | 0,_,a=>decide (Region.ready md ops a=[n])&&Region.lexFrom md ops (ops.size-n-1) (n+1) (a.setIfInBounds n true)
 | f+1,b,a=>(Region.ready md ops a).contains b&&Region.free md ops a b&&midFrom md ops n f (b+1) (a.setIfInBounds b true)
def Aa3(md:Region.Mode)(ops:Array Oper)(n:Nat):Bool:=
 Region.noSelect ops&&decide (n<ops.size)&&Region.sinkB md ops n&&Zj md ops n&&midFrom md ops n n 0 (Array.replicate ops.size false)
theorem QG{n}{j:Act->Prop}(A:Region.noSelect ops=true)(z:Region.sinkB md ops n=true)(r:Zj md ops n=true)(x:n<ops.size):
 ∀ l a e f,(∀ b,b<l.length->l[b]? = ops[a+b]?)->a+l.length=n->HeadInv md ops n e->
 midFrom md ops n l.length a e=true->wpStill P ops w j l f->
 wpAnyL P md ops w n (fun E p=>(Region.ready md ops E=[n]/\Region.lexFrom md ops (ops.size-n-1) (n+1) (E.setIfInBounds n true)=true)/\j p) l.length e f
 | [],a,e,f,_,_,_,g,h=>by
  simp only[cP,midFrom,aY,bD]at g;exact⟨g,h⟩
 | o::l,a,e,f,v,hk,B,g,h=>by
  have h0:ops[a]? = some o:=by simpa using(v 0 kY).symm
  simp only[aX,midFrom,aY]at g;obtain⟨⟨L,K⟩,F⟩:=g;have u:a<n:=by simp only[aX]at hk;omega
  have y:a∈Region.ready md ops e:=by simpa using L
  have M:stOp P ops w a (wpStill P ops w j l) f:=by unfold stOp;simp only[h0];exact h
  obtain⟨X,S,I⟩:=yieldsAt_of_stOp h0 M;refine Wy h0 (hZ A) (fun V U O=>VL z r x U n a kX u O) (fun V p J b k=>?_) l.length e f B (Region.free_spec h0 K) y S
   (QG A z r x l (a+1) _ _ (fun b k=>by have:=v (b+1) lA;simpa[Nat.add_assoc,Nat.add_comm 1 b]using this) (by simp only[aX]at hk;omega) (B.set y u) F I)
  rw[J.1.1]at k;simp at k;omega
theorem AX{id}{Q:Exit->Act->aE->Prop}{a}{w}{l:aD Oper}(n:Nat)(g:Oper)(v:l[n]? = some g)(af:g.guard=none)(o:P.follows .mixedOrders=true)(ao:Aa3 .any l.toArray n=true)(h:wpStill P l.toArray {w with drawn:=w.drawn+1} (fun j=>g.wp P j {w with drawn:=w.drawn+1} (fun aq w2=>wpStill P l.toArray w2 (fun ab=>Q .normal ab w2) (l.drop (n+1)) aq) Q) (l.take n) a):(Code.region id l.toArray true).wp P Q a w:=by
 refine mJ ?_;intro al ae ah ak bh ap e am H;have:=wpAny_of_head (Q':=Q) (g:=l.toArray.size-n-1+1) (fun b j r=>by
  obtain⟨⟨p,au⟩,y⟩:=r;refine⟨fun h0=>by rw[p]at h0;simp at h0,fun i k=>?_⟩;rw[p]at k;have u:i=n:=by simpa using k
  subst u;unfold wpOp;have x:l.toArray[i]? = some g:=by simpa using v
  simp only[x];rw[aF GV];refine .inl (eV (fun aq w2 ac=>?_) y);refine mK ?_;intro ai b5;simpa[jE]using b5) _ _ _ H
 rw[e,show n+(l.toArray.size-n-1+1)=l.toArray.size by omega]at this;exact this
end
end
section
open Go
theorem ja(h:p:=by
 induction is with
 | nil=>intro _;exact⟨rfl,fun f h=>by simp at h⟩
 | cons i is am=>
  intro hi;simp only[fF,aY,bD]at hi;obtain⟨ac,aq⟩:=am hi.2;have e:l[i]? = some l[i]:=bA hi.1;constructor;simp only[aP,e,aX,ac];intro f ad;simp only[aP,e]
  cases f with
  | zero=>simp
  | succ f=>simpa using aq f AM):p:=h
theorem jb(h:p:=by
 have ac:=Pm aa h0 (hZ ak) (e.length+g) b a w (Region.free_spec h0 ae) (by simpa using af) ab this;simpa[Nat.add_right_comm]using ac):p:=h
theorem AM(h:p:=by
 simpa using ad):p:=h
section
variable {P:Program} {ops:Array Oper} {md:Region.Mode} {C:aE->Prop} {Q:Exit->Act->aE->Prop}
def opC(P:Program)(ops:Array Oper)(Q:Exit->Act->aE->Prop)(i:Nat)(b:Act->aE->Prop)(a:Act)(w:aE):Prop:=
 match ops[i]? with
 | none=>b a w
 | some e=>if Region.wanted e (yielded ops a.tmps)then e.wp P a w b Q else b (a.put e.dst undef) w
def IQ(P:Program)(md:Region.Mode)(ops:Array Oper)(C:aE->Prop)(Q:Exit->Act->aE->Prop):Nat->Array Bool->Act->aE->Prop
 | 0,b,a,w=>C w/\Region.ready md ops b=[]/\Q .normal a w
 | f+1,b,a,w=>C w/\(Region.ready md ops b=[]->Q .normal a w)/\∀ i∈Region.ready md ops b,opC P ops Q i (IQ P md ops C Q f (b.setIfInBounds i true)) a w
theorem NF{i b w}{h j:Act->aE->Prop}(e:∀ b w,h b w->j b w)(a:opC P ops Q i h b w):opC P ops Q i j b w:=by
 unfold opC at*;split;rename_i f;rw[f]at a;exact e _ _ a;rename_i k f;rw[f]at a;simp only at a;split;rename_i g;rw[aF g]at a;exact eV e a;rename_i g;rw[aC g]at a;exact e _ _ a
theorem GD:∀ f j e w,IQ P md ops C Q f j e w->wpAny P md ops Q f j e w
 | 0,_,_,_,b=>⟨b.2.1,b.2.2⟩
 | f+1,j,e,w,b=>by
  refine⟨b.2.1,fun i p=>?_⟩;have a:=NF (fun k w' o=>GD f _ k w' o) (b.2.2 i p);unfold opC at a;unfold wpOp;split;rename_i g;rw[g]at a;exact a;rename_i r g;rw[g]at a;simp only at a;split;rename_i h;rw[aF h]at a;exact .inl a;rename_i h;rw[aC h]at a;exact a
theorem K8{i a w}{K:Act->Prop}{k:Act->aE->Prop}(b:∀ a,K a->k a w)(g:stOp P ops w i K a):opC P ops Q i k a w:=by
 cases j:ops[i]? with
 | none=>
  unfold stOp at g;unfold opC;simp only[j]at g⊢;exact b _ g
 | some z=>
  obtain⟨A,u,h⟩:=yieldsAt_of_stOp j g;unfold opC;simp only[j];rcases u with⟨f,e|⟨e,rfl⟩|⟨y,v,e,o⟩⟩|⟨f,rfl⟩;rw[aF f];unfold Oper.wp;rw[e];exact b _ h;rw[aF f];unfold Oper.wp;rw[e];exact b _ h;rw[aF f];unfold Oper.wp;rw[e];exact o.mono fun x B ⟨p,r⟩=>by subst p r;exact b _ h
  rw[aC (by simp[f])];exact b _ h
theorem HC{w}(e:C w):∀ f h g,wpAnyS P md ops w (fun b=>Q .normal b w) f h g->IQ P md ops C Q f h g w
 | 0,_,_,a=>⟨e,a.1,a.2⟩
 | f+1,_,_,a=>⟨e,a.1,fun i k=>K8 (fun b j=>HC e f _ b j) (a.2 i k)⟩
def YX(P:Program)(ops:Array Oper)(C:aE->Prop)(b:Oper)(e:aI)(a:Act):Prop:=∀ w,C w->YieldsAt P ops w b e a
theorem YX.put{a e:Oper}{h:aI}{b:Act}(o:YX P ops C a h b)(p:∀ k j,a.op≠.select k j)(g:∀ d,e.dst=some d->d ∉ a.looksAt ops)(f:aI):YX P ops C a h (b.put e.dst f):=fun w r=>
 (o w r).of_same (execOp_put a p b e.dst f g) (wanted_put a b e.dst f g)
theorem YX.defers{b e a}(g:YX P ops C b e a)(f):YX P ops C b e {a with defers:=f}:=fun w h=>(g w h).of_same rfl rfl
theorem Ab0(I:∀ v f d e w,Q (.panic v) (Act.put f d e) w->Q (.panic v) f w){A}{b h}{e}(O:ops[A]? = some h)(M:b.apart ops h=true)(p:∀ x g,b.op≠.select x g)(S:∀ x g,h.op≠.select x g){B:Act->aE->Prop}{f}{w}(r:YX P ops C b e f)(a:opC P ops Q A B (f.put b.dst e) w):opC P ops Q A (fun E w'=>YX P ops C b e E/\B (E.put b.dst e) w') f w:=by
 obtain⟨F,L,k⟩:=Oper.apart_spec M;have o:∀ (g:Act) (j:aI),(g.put b.dst e).put h.dst j=(g.put h.dst j).put b.dst e:=fun g j=>Act.put_comm g e j L
 unfold opC at*;simp only[O]at*;rw[wanted_put h f b.dst e F]at a;split
 . rename_i z;rw[aF z]at a;unfold Oper.wp at*;rw[execOp_put h S f b.dst e F]at a;generalize(execOp f.eval h).run P w=J at*
   cases J with
   | ok n w'=>
    cases n<;>simp only[Oper.upon]at a⊢
    case value j=>rw[o]at a;exact⟨r.put p k _,a⟩
    case skip=>rw[o]at a;exact⟨r.put p k _,a⟩
    case defer d=>
     have y:({f.put b.dst e with defers:=d::(f.put b.dst e).defers}:Act)=({f with defers:=d::f.defers}:Act).put b.dst e:=by cases b.dst<;>rfl
     rw[y,o]at a;exact⟨(r.defers _).put p k _,a⟩
    case enter X K=>
     refine a.mono fun y U u=>?_
     cases y with
     | returned j=>simp only at u⊢;rw[o]at u;exact⟨r.put p k _,u⟩
     | panicked v=>exact I _ _ _ _ _ u
     | outgrown=>exact u
    case row J K=>
     simp only[o]at a;exact a.mono fun j U hu=>⟨r.put p k _,hu⟩
    all_goals exact a
   | halt V w'=>
    cases V<;>simp only[Oper.upon]at a⊢
    all_goals first|exact I _ _ _ _ _ a|exact a
 rename_i z;rw[aC z,o]at a;exact⟨r.put p k _,a⟩
theorem Y3{a f b w}(e:IQ P md ops C Q a f b w):C w:=by cases a<;>exact e.1
theorem Pm(Y:∀ F e d A w,Q (.panic F) (Act.put e d A) w->Q (.panic F) e w){i x A}(B:ops[i]? = some x)(O:∀ (a:Nat) (V:Oper) p o,ops[a]? = some V->V.op≠.select p o)(r):
 ∀ b e w,(∀ a j,ops[a]? = some j->a≠i->b.getD a true=false->(∀ g∈j.after,Region.binds md g=true->g.on≠i)->x.apart ops j=true)->
  i∈Region.ready md ops b->YX P ops C x A e->IQ P md ops C Q r (b.setIfInBounds i true) (e.put x.dst A) w->IQ P md ops C Q (r+1) b e w:=by
 induction r with
 | zero=>
  intro b e w _ v z H;have u:=Y3 H;refine⟨u,fun h=>absurd h (gR v),fun a y=>?_⟩;by_cases f:a=i;subst f;exact K8 (fun _ h=>h) ((z w u).stOp B (K:=fun k=>IQ P md ops C Q 0 (b.setIfInBounds a true) k w) H);have:=hJ y f;rw[H.2.1]at this;cases this
 | succ r aj=>
  intro b e w K v z H;have u:=Y3 H;have ai:=(hA.1 v).1;refine⟨u,fun h=>absurd h (gR v),fun a y=>?_⟩;by_cases f:a=i;subst f;exact K8 (fun _ h=>h) ((z w u).stOp B (K:=fun k=>IQ P md ops C Q (r+1) (b.setIfInBounds a true) k w) H);obtain⟨M,j,E,Z⟩:=hA.1 y;have ah:∀ g∈j.after,Region.binds md g=true->g.on≠i:=fun g ab aa ac=>by
   have I:=Z g ab aa;rw[ac,iV ai]at I
   cases I
  have X:=Ab0 Y E (K a j E f M ah) (fun p o=>O i x p o B) (fun p o=>O a j p o E) z (H.2.2 a (hJ y f));refine NF (fun k w' J=>aj (b.setIfInBounds a true) k w' (fun U ak ad ae S af=>K U ak ad ae ?_ af) (hJ v (fB f)) J.1 (by rw[jX _ _ f];exact J.2)) X;by_cases L:a=U;subst L;exact M;rw[getD_set_ne true L]at S;exact S
def O4(P:Program)(ops:Array Oper)(C:aE->Prop)(b:Act->Prop):aD Oper->Act->Prop
 | [],a=>b a
 | o::rest,a=>∃ e,YX P ops C o e a/\O4 P ops C b rest (a.put o.dst e)
theorem Ab{a rest b}{f:Act->Prop}(e)(h:a.guard=none)(g:∀ w,C w->(execOp b.eval a).run P w=.ok (.value e) w)(j:O4 P ops C f rest (b.put a.dst e)):O4 P ops C f (a::rest) b:=
 ⟨e,fun w k=>.inl ⟨by simp[Region.wanted,h],.inl (g w k)⟩,j⟩
theorem AH{b rest a}{g:Act->Prop}(f)(j:b.guard=none)(e:∀ w,C w->(execOp a.eval b).run P w=.ok (.value f) w)(k:∀ h:Act->Prop,(∀ a,O4 P ops C g rest a->h a)->h (a.put b.dst f)):O4 P ops C g (b::rest) a:=
 Ab f j e (k _ fun _ e=>e)
theorem Ag{b}{a:Act->Prop}(e:a b):O4 P ops C a [] b:=e
def oneFrom(md:Region.Mode)(ops:Array Oper)(n b:Nat):aD Nat->Array Bool->Bool
 | [],a=>decide (Region.ready md ops a=[n])&&Region.lexFrom md ops (ops.size-b) b (a.setIfInBounds n true)
 | i::is,a=>(Region.ready md ops a).contains i&&Region.free md ops a i&&oneFrom md ops n b is (a.setIfInBounds i true)
theorem UM(aa:∀ u a d p w,Q (.panic u) (Act.put a d p) w->Q (.panic u) a w)(ak:Region.noSelect ops=true){n k g w}{r:Act->Prop}(v:∀ b a,Region.ready md ops b=[n]->Region.lexFrom md ops (ops.size-k) k (b.setIfInBounds n true)=true->r a->IQ P md ops C Q g b a w):
 ∀ e l b a,l.length=e.length->(∀ h (j:h<e.length),ops[e[h]]? = l[h]?)->oneFrom md ops n k e b=true->O4 P ops C r l a->IQ P md ops C Q (e.length+g) b a w
 | [],[],b,a,_,_,hB,j=>by
  simp only[oneFrom,aY,bD]at hB;simpa using v b a hB.1 hB.2 j
 | i::e,o::l,b,a,f,hix,hB,j=>by
  have h0:ops[i]? = some o:=hix 0 kY;simp only[oneFrom,aY]at hB;obtain⟨⟨af,ae⟩,x⟩:=hB;obtain⟨p,ab,y⟩:=j;have:=UM aa ak v e l (b.setIfInBounds i true) (a.put o.dst p) (by simpa using f) (fun h ad=>by have:=hix (h+1) AM;simpa using this) x y;exact jb
 | [],_::_,_,_,f,_,_,_=>by simp at f
 | _::_,[],_,_,f,_,_,_=>by simp at f
theorem BF{id}{g}{w}{l:aD Oper}(C:aE->Prop)(a:aD Nat)(n j:Nat)(k:Oper)(o b:aD Oper)(V:l[n]? = some k)(af:k.guard=none)(x:o=a.filterMap fun i=>l[i]?)(aa:b=l.drop j)(U:P.follows .mixedOrders=true)(v:(Region.noSelect l.toArray&&decide (a.length+1+b.length=l.length)&&decide (j+b.length=l.length)&&a.all (fun i=>decide (i<l.length))&&oneFrom .any l.toArray n j a (Array.replicate l.toArray.size false))=true)(K:∀ r g d ae w,Q (.panic r) (Act.put g d ae) w->Q (.panic r) g w)(h:O4 P l.toArray C (fun p=>k.wp P p {w with drawn:=w.drawn+1} (fun aq w2=>C w2/\wpStill P l.toArray w2 (fun B=>Q .normal B w2) b aq) Q) o g)(J:C {w with drawn:=w.drawn+1}):(Code.region id l.toArray true).wp P Q g w:=by
 simp only[aY,bD]at v;obtain⟨⟨⟨⟨A,ai⟩,ah⟩,L⟩,y⟩:=v;refine eY U (GD (C:=C) _ _ _ _ ?_);have O:∀ (is:aD Nat),is.all (fun i=>decide (i<l.length))=true->(is.filterMap fun i=>l[i]?).length=is.length/\∀ f (h:f<is.length),l.toArray[is[f]]? = (is.filterMap fun i=>l[i]?)[f]? := by
  intro is;exact ja
 obtain⟨E,F⟩:=O a L;have Z:l.toArray.size=a.length+(b.length+1):=lA;rw[Z]at y⊢;refine UM (md:=.any) (n:=n) (k:=j) K A (fun ab p z S Y=>?_) a o _ g (by rw[x];exact E) (fun f ad=>by rw[x];exact F f ad) y h;refine⟨J,fun h0=>by rw[z]at h0;simp at h0,fun i hi=>?_⟩;rw[z]at hi;have M:i=n:=by simpa using hi
 subst M;unfold opC;have X:l.toArray[i]? = some k:=by simpa using V
 simp only[X];rw[aF GV];refine eV (fun aq w2 u=>?_) Y;have I:=wpAnyS_lex (md:=.any) (P:=P) (w:=w2) A b j (ab.setIfInBounds i true) aq (fun f=>by rw[aa];simp) (by rw[show b.length=l.toArray.size-j by simp;omega];exact S) u.2;exact HC u.1 _ _ _ I
end
end
section
open Go
section
variable {P:Program} {ops:Array Oper} {md:Region.Mode} {C:aE->Prop} {Q:Exit->Act->aE->Prop}
def walkFrom(md:Region.Mode)(ops:Array Oper)(b:Array Bool->Bool):aD Nat->Array Bool->Bool
 | [],a=>b a
 | i::is,a=>(Region.ready md ops a).contains i&&Region.free md ops a i&&walkFrom md ops b is (a.setIfInBounds i true)
theorem Eo(aa:∀ r a d k w,Q (.panic r) (Act.put a d k) w->Q (.panic r) a w)(ak:Region.noSelect ops=true){u:Array Bool->Bool}{g w}{p:Act->Prop}(v:∀ b a,u b=true->p a->IQ P md ops C Q g b a w):
 ∀ e l b a,l.length=e.length->(∀ h (j:h<e.length),ops[e[h]]? = l[h]?)->walkFrom md ops u e b=true->O4 P ops C p l a->IQ P md ops C Q (e.length+g) b a w
 | [],[],b,a,_,_,hB,j=>by simpa using v b a hB j
 | i::e,o::l,b,a,f,hix,hB,j=>by
  have h0:ops[i]? = some o:=hix 0 kY;simp only[walkFrom,aY]at hB;obtain⟨⟨af,ae⟩,x⟩:=hB;obtain⟨k,ab,y⟩:=j;have:=Eo aa ak v e l (b.setIfInBounds i true) (a.put o.dst k) (by simpa using f) (fun h ad=>by have:=hix (h+1) AM;simpa using this) x y;exact jb
 | [],_::_,_,_,f,_,_,_=>by simp at f
 | _::_,[],_,_,f,_,_,_=>by simp at f
theorem ND(l:aD Oper)(is:aD Nat):is.all (fun i=>decide (i<l.length))=true->(is.filterMap fun i=>l[i]?).length=is.length/\∀ f (h:f<is.length),l.toArray[is[f]]? = (is.filterMap fun i=>l[i]?)[f]? := by
 exact ja
theorem Oj{id}{e}{w}{l:aD Oper}(C:aE->Prop)(a:aD Nat)(n:Nat)(b:aD Nat)(m:Nat)(h j:Oper)(p u:aD Oper)(ak:l[n]? = some h)(af:h.guard=none)(am:l[m]? = some j)(ae:j.guard=none)(K:p=a.filterMap fun i=>l[i]?)(V:u=b.filterMap fun i=>l[i]?)(aj:P.follows .mixedOrders=true)(F:(Region.noSelect l.toArray&&decide (a.length+1+b.length+1=l.length)&&a.all (fun i=>decide (i<l.length))&&b.all (fun i=>decide (i<l.length))&&
   walkFrom .any l.toArray (fun f=>decide (Region.ready .any l.toArray f=[n])&&walkFrom .any l.toArray (fun f=>decide (Region.ready .any l.toArray f=[m])&&decide (Region.ready .any l.toArray (f.setIfInBounds m true)=[])) b (f.setIfInBounds n true)) a (Array.replicate l.toArray.size false))=true)(I:∀ A e d au w,Q (.panic A) (Act.put e d au) w->Q (.panic A) e w)(aa:O4 P l.toArray C (fun x=>h.wp P x {w with drawn:=w.drawn+1} (fun k w2=>C w2/\O4 P l.toArray C (fun y=>j.wp P y w2 (fun z v=>C v/\Q .normal z v) Q) u k) Q) p e)(ab:C {w with drawn:=w.drawn+1}):(Code.region id l.toArray true).wp P Q e w:=by
 simp only[aY,bD]at F;obtain⟨⟨⟨⟨U,av⟩,ac⟩,ad⟩,O⟩:=F;refine eY aj (GD (C:=C) _ _ _ _ ?_);obtain⟨Y,Z⟩:=ND l a ac;obtain⟨d1,d2⟩:=ND l b ad;have aq:l.toArray.size=a.length+(b.length+1+1):=lA;rw[aq]at O⊢;refine Eo (md:=.any) I U (fun aw x J ao=>?_) a p _ e (by rw[K];exact Y) (fun r o=>by rw[K];exact Z r o) O aa;simp only[aY,bD]at J;obtain⟨S,ar⟩:=J;refine⟨ab,fun h0=>by rw[S]at h0;simp at h0,fun i L=>?_⟩;rw[S]at L;have ah:i=n:=by simpa using L
 subst ah;unfold opC;have al:l.toArray[i]? = some h:=by simpa using ak
 simp only[al];rw[aF GV];refine eV (fun k w2 B=>?_) ao;refine Eo (md:=.any) I U (fun f y g ap=>?_) b u _ k (by rw[V];exact d1) (fun r o=>by rw[V];exact d2 r o) ar B.2;simp only[aY,bD]at g;refine⟨B.1,fun h0=>by rw[g.1]at h0;simp at h0,fun X M=>?_⟩;rw[g.1]at M;have ai:X=m:=by simpa using M
 subst ai;unfold opC;have an:l.toArray[X]? = some j:=by simpa using am
 simp only[an];rw[aF (by simp[Region.wanted,ae])];exact eV (fun z v E=>⟨E.1,g.2,E.2⟩) ap
end
end
section
open Go
section
variable {P:Program} {Q:Exit->Act->aE->Prop}
theorem Mp{id}{g}{w}{l:aD Oper}(C:aE->Prop)(a:aD Nat)(n:Nat)(b:aD Nat)(m h:Nat)(p r:Oper)(y B e:aD Oper)(ap:l[n]? = some p)(af:p.guard=none)(ar:l[m]? = some r)(al:r.guard=none)(S:y=a.filterMap fun i=>l[i]?)(aa:B=b.filterMap fun i=>l[i]?)(ay:e=l.drop h)(ao:P.follows .mixedOrders=true)(L:(Region.noSelect l.toArray&&decide (a.length+1+b.length+1+e.length=l.length)&&decide (h+e.length=l.length)&&a.all (fun i=>decide (i<l.length))&&b.all (fun i=>decide (i<l.length))&&
   walkFrom .any l.toArray (fun f=>decide (Region.ready .any l.toArray f=[n])&&walkFrom .any l.toArray (fun f=>decide (Region.ready .any l.toArray f=[m])&&Region.lexFrom .any l.toArray (l.toArray.size-h) h (f.setIfInBounds m true)) b (f.setIfInBounds n true)) a (Array.replicate l.toArray.size false))=true)(M:∀ I g d a0 w,Q (.panic I) (Act.put g d a0) w->Q (.panic I) g w)(ae:O4 P l.toArray C (fun E=>p.wp P E {w with drawn:=w.drawn+1} (fun u w2=>C w2/\O4 P l.toArray C (fun F=>r.wp P F w2 (fun v j=>C j/\wpStill P l.toArray j (fun ab=>Q .normal ab j) e v) Q) B u) Q) y g)(ai:C {w with drawn:=w.drawn+1}):(Code.region id l.toArray true).wp P Q g w:=by
 simp only[aY,bD]at L;obtain⟨⟨⟨⟨⟨z,a2⟩,a1⟩,aj⟩,ak⟩,av⟩:=L;refine eY ao (GD (C:=C) _ _ _ _ ?_);obtain⟨ac,ad⟩:=ND l a aj;obtain⟨d1,d2⟩:=ND l b ak;have Z:l.toArray.size=a.length+(b.length+(e.length+1)+1):=lA;have X:=av;rw[Z];rw[show Array.replicate l.toArray.size false=Array.replicate (a.length+(b.length+(e.length+1)+1)) false by rw[Z]]at X;refine Eo (md:=.any) M z (fun a3 E O aw=>?_) a y _ g (by rw[S];exact ac) (fun o x=>by rw[S];exact ad o x) X ae;simp only[aY,bD]at O;obtain⟨Y,az⟩:=O;refine⟨ai,fun h0=>by rw[Y]at h0;simp at h0,fun i U=>?_⟩;rw[Y]at U;have am:i=n:=by simpa using U
 subst am;unfold opC;have aq:l.toArray[i]? = some p:=by simpa using ap
 simp only[aq];rw[aF GV];refine eV (fun u w2 J=>?_) aw;refine Eo (md:=.any) M z (fun f F k ax=>?_) b B _ u (by rw[aa];exact d1) (fun o x=>by rw[aa];exact d2 o x) az J.2;simp only[aY,bD]at k;refine⟨J.1,fun h0=>by rw[k.1]at h0;simp at h0,fun A V=>?_⟩;rw[k.1]at V;have an:A=m:=by simpa using V
 subst an;unfold opC;have au:l.toArray[A]? = some r:=by simpa using ar
 simp only[au];rw[aF (by simp[Region.wanted,al])];refine eV (fun v j K=>?_) ax;have ah:=wpAnyS_lex (md:=.any) (P:=P) (w:=j) z e h (f.setIfInBounds A true) v (fun o=>by rw[ay];simp) (by rw[show e.length=l.toArray.size-h by simp;omega];exact k.2) K.2;exact HC K.1 _ _ _ ah
end
end
theorem g2(h:p:=by
 have aa:k=0\/k=1\/k=2\/k=3\/k=4\/k=5\/k=6\/k=7\/k=8\/k=9\/k=10\/k=11\/k=12\/k=13\/k=14\/k=15:=kX;rcases aa with rfl|rfl|rfl|rfl|rfl|rfl|rfl|rfl|rfl|rfl|rfl|rfl|rfl|rfl|rfl|rfl<;>rfl):p:=h
theorem AI(s i w)(_hs:s.size<=maxLen)(h0:0<=i):
 Calls prog 83 #[.string s,I0 i] w fun b w'=>b=.returned (.int .u8 (bt s i.toNat))/\w'=w:=by
 obtain⟨n,rfl⟩:=hI h0;unfold maxLen at _hs;by_cases a:n<s.size
 . go_enter func83,ntmps83;go_wp2;go_ret;exact⟨DU (by simp[Cs _ _ a]),rfl⟩
 go_enter func83,ntmps83;go_wp2;go_ret;exact⟨DU (by simp[DM _ _ a]),rfl⟩
theorem AP(c a b w)(h0:0<=c)(h:c<=255)(j:0<=a):
 Calls prog 82 #[.int .u8 c,.int .u8 a,.int .u8 b] w fun e w'=>e=.returned (I0 (C4 c a b))/\w'=w:=by
 by_cases f:c<a
 . go_enter func82,ntmps82;go_wp2;go_ret;exact⟨DU (by simp[C4,f]),rfl⟩
 by_cases g:b<c
 . go_enter func82,ntmps82;go_wp2;go_ret;exact⟨DU (by simp[C4,g]),rfl⟩
 go_enter func82,ntmps82;go_wp2;go_ret;exact⟨DU (by rw[C4,aC kX]),rfl⟩
theorem Cq(s c w)(r:s.size<=maxLen):
 Calls prog 118 #[.string s,.int .u8 c] w fun k w'=>k=.returned (.bool (AY s.data.toList c))/\w'=w:=by
 unfold maxLen at r;go_enter func118,ntmps118;go_wp2;go_loop [5] (fun i=>∃ a:Nat,a<=s.size/\i=I0 a/\Hid (AY (s.data.toList.take a) c=false)) (fun i=>s.size-(intOf i).toNat)
 case atStart=>exact⟨0,bR _,rfl,(show AY (s.data.toList.take 0) c=false by simp[AY])⟩
 case round=>
  obtain⟨a,y,rfl,g⟩:=hrel;by_cases p:a<s.size
  . have b:Hid (AY (s.data.toList.take (a+1)) c=(AY (s.data.toList.take a) c||((s[a].toNat:Int)==c))):=Ot s c a p;by_cases f:((s[a].toNat:Int)==c)=true
    . have h:Hid (AY s.data.toList c=true):=by
       have e:AY (s.data.toList.take (a+1)) c=true:=by rw[b.o,f];simp
       simp only[AY,eS]at e;obtain⟨x,u,v⟩:=e;have:AY s.data.toList c=true:=by simp only[AY,eS];exact⟨x,fL u,v⟩
       exact this
      go_wp2;go_ret;exact⟨BI h.o.symm,rfl⟩
    . have o:((s[a].toNat:Int)==c)=false:=by simpa using f
      have j:=Aa (show AY (s.data.toList.take (a+1)) c=false by rw[b.o,o,g.out];rfl);go_wp2;go_round
      case rel=>exact⟨a+1,by omega,by go_num,j⟩
      case measure=>simp[intOf];omega
  go_wp2;go_ret;exact⟨BI (by have:=g.out;rw[bV lA]at this;rw[this]),rfl⟩
theorem Ll(a w):
 Calls prog 68 #[.bool a] w fun b w'=>b=.returned (I0 (if a then 1 else 0))/\w'=w:=by
 cases a<;>
 . go_enter func68,ntmps68;go_wp2;go_ret;exact⟨rfl,rfl⟩
theorem WY(n w):
 Calls prog 23 #[I0 n] w fun a w'=>a=.returned (I0 n)/\w'=w:=by
 go_enter func23,ntmps23;go_wp2;go_ret;exact⟨rfl,rfl⟩
def TP(a:Nat):Int:=[48,49,50,51,52,53,54,55,56,57,97,98,99,100,101,102].getD a 0
theorem Qh(k)(a:k<16):TP k=if k<10 then 48+(k:Int)else 87+(k:Int):=by
 exact g2
theorem Abg(a c)(e:a<16)(b:(TP a==c)=true):AG c=a:=by
 rw[Qh a e,dA]at b;subst b;unfold AG;split<;>split<;>(try split)<;>omega
theorem WB(c)(a:∀ b,b<16->(TP b==c)=false):AG c = -1:=by
 unfold AG;split;rename_i e;have:=a (c-48).toNat kX;rw[Qh _ kX,aF kX,dC]at this;omega;split;rename_i e;have:=a (c-87).toNat kX;rw[Qh _ kX,aC kX,dC]at this;omega;rfl
theorem Acp(k)(a:k<16):TP k=(((⟨#[48,49,50,51,52,53,54,55,56,57,97,98,99,100,101,102]⟩:aA)[k]'a).toNat:Int):=by
 exact g2
theorem VA{e:Nat->Bool}{b:Nat}(g:∀ a,a<b->e a=false)(f:e b=false):∀ a,a<b+1->e a=false:=by
 intro a j;by_cases h:a=b;rw[h];exact f;exact g a kX
theorem B1(c w):
 Calls prog 110 #[.int .u8 c] w fun k w'=>k=.returned (I0 (AG c))/\w'=w:=by
 go_enter func110,ntmps110;go_wp2;go_loop [4] (fun i=>∃ a:Nat,a<=16/\i=I0 a/\Hid (∀ b,b<a->(TP b==c)=false)) (fun i=>16-(intOf i).toNat)
 case atStart=>exact⟨0,bR _,rfl,fun b o=>by omega⟩
 case round=>
  obtain⟨a,p,rfl,h⟩:=hrel;by_cases j:a<16
  . have g:=Acp a j
    cases e:(TP a==c)
    . have f:Hid (∀ b,b<a+1->(TP b==c)=false):=VA h.out e;rw[g]at e;go_wp2;exact⟨⟨a+1,by omega,by go_num,f⟩,by simp[intOf];omega⟩
    . have f:Hid (AG c=a):=Abg a c j e;rw[g]at e;go_wp2;go_ret;exact⟨DU f.o.symm,rfl⟩
  go_wp2;go_ret;exact⟨DU (by rw[WB c (by have:=h.out;rwa [show a=16 by omega]at this)]),rfl⟩
theorem RM(c w):
 Calls prog 85 #[.int .u8 c] w fun a w'=>a=.returned (.bool (c==104||c==107))/\w'=w:=by
 go_enter func85,ntmps85;go_wp2;all_goals
  go_ret;refine⟨BI ?_,rfl⟩;simp[*]
theorem Jy(c w):
 Calls prog 86 #[.int .u8 c] w fun a w'=>a=.returned (.bool (AY [114,116,119,64,115] c))/\w'=w:=by
 go_enter func86,ntmps86;go_wp2_with (go_at_call 118;refine(Cq _ _ _ lF).mono ?_;rintro a w'⟨rfl,rfl⟩);go_ret;exact⟨rfl,rfl⟩
theorem GO(h:p:=by
 simp[results,results162,go_sem,It.cells,p]):p:=h
abbrev nV(h:PLift q->p:=by
 intro aa
 first|(go_at_call 82;refine(AP _ _ _ _ kX kX kX).mono ?_;rintro e w'⟨rfl,rfl⟩)|(go_at_call 110;refine(B1 _ _).mono ?_;rintro e w'⟨rfl,rfl⟩)|(go_at_call 118;refine(Cq _ _ _ lF).mono ?_;rintro e w'⟨rfl,rfl⟩)
 exact aa.1):p:=h ⟨z⟩
abbrev nW(h:PLift q->p:=by
 intro aa;go_at_call 83;refine(AI _ _ _ ah kX).mono ?_;rintro e w'⟨rfl,rfl⟩;simp only[bE,Ra];exact aa.1):p:=h ⟨z⟩
abbrev nX(h:PLift q->p:=by
 intro aa;go_at_call 83;refine(AI _ _ _ ah kX).mono ?_;rintro e w'⟨rfl,rfl⟩;simp only[bE];exact aa.1):p:=h ⟨z⟩
abbrev ky(h:PLift q->p:=by
 intro aa;have ak:AY [104,107,114,116,119,64,115] (bt s n)=true:=by rw[p];decide
 have af:AY [110,108,40,47,42,104,107,114,116,119,64,115,46] (bt s n)=true:=by rw[p];decide
 revert ak af;exact aa.1):p:=h ⟨z⟩
abbrev kz(h:PLift q->p:=by
 intro aa;have aj:C4 (bt s n) 65 72 = -1:=by rw[p];decide
 have ao:AY [110,108,104,107] (bt s n)=true:=by rw[p];decide
 revert aj ao;exact aa.1):p:=h ⟨z⟩
def De(a:Hd)(w:aE)(e:Ending)(w':aE):Prop:=
 ∃ b,(a.ok=true->b=a.it)/\e=.returned (.tuple #[.agg b.cells,I0 a.i,I0 a.inn,.bool a.ok])/\Below w.heap.size w w'
theorem Ra(n:Nat):((n:Int)+1).toNat=n+1:=kX
theorem tn2(n:Nat):((n:Int)+2).toNat=n+2:=kX
theorem Xi(n:Nat):((n:Int)+1+1).toNat=n+2:=kX
theorem B7{a:Hd}{w w' e}(b)(i:Int)(h:i=a.i)(Cj:a.ok=true->b=a.it)(g:e=.returned (.tuple #[.agg b.cells,I0 i,I0 a.inn,.bool a.ok]))(f:Below w.heap.size w w'):De a w e w':=by
 subst h;exact⟨b,Cj,g,f⟩
theorem Vn{c w a g d pl e h w' b f}(o:w=w')(j:d=b)(k:pl=f):It.mk c w a g d pl e h=It.mk c w' a g b f e h:=by subst o j k;rfl
theorem FO(w a b):Below w.heap.size w ((w.alloc a).alloc b):=((aO _ _).alloc (aB _) _).alloc kY _
theorem Xv(s n w)(ah:s.size<=maxLen)(g:n<=1000)(a:65<=bt s n)(b:bt s n<=72):
 Calls prog 162 #[.string s,I0 n] w fun e w'=>De (Ak s n) w e w':=by
 have H:=Aa (show Ak s n={ok:=true,i:=n+1,it:={c:=82,r:=bt s n-65,pl:=n}}by unfold Ak;rw[aF ⟨a,b⟩]);have f:=Da (bt s n) 65 72 ⟨a,b⟩;go_enter func162,ntmps162;go_wp2_with (first
  | refine nX ?_
  | refine nV ?_)
 refine aT (v:=.tuple #[.agg (It.cells {c:=82,r:=bt s n-65,pl:=n}),I0 (n+1),I0 0,.bool true]) (by simp[results,results162,go_sem,It.cells]) rfl ?_;rw[H.o];exact B7 {c:=82,r:=bt s n-65,pl:=n} ((n:Int)+1) kY (fun _=>rfl) rfl (FO _ _ _)
theorem V5(s n w)(ah:s.size<=maxLen)(r:n<=1000)(a:CP (bt s n)=false)(b:¬ (65<=bt s n/\bt s n<=72))(f:bt s n≠39):
 Calls prog 162 #[.string s,I0 n] w fun e w'=>De (Ak s n) w e w':=by
 have H:=Aa (show Ak s n={ok:=false,i:=n}by unfold Ak;rw[aC b,aC f,aC (by simp[a])]);have o:=Fc (bt s n) 65 72 b;have p:=Eh s n;have k:=FT s n;have h:AY [110,108,40,47,42,104,107,114,116,119,64,115,46] (bt s n)=false:=a;have j:(bt s n==39)=false:=by simpa using f
 by_cases g:(bt s n==0)=true
 rotate_left;simp only[Bool.not_eq_true]at g;all_goals
 go_enter func162,ntmps162;go_wp2_with (first
  | refine nX ?_
  | refine nV ?_)
 refine aT (v:=.tuple #[.agg (It.cells {c:=bt s n,pl:=n}),I0 n,I0 0,.bool false]) (by simp[results,results162,go_sem,It.cells]) rfl ?_;rw[H.o];exact B7 {c:=bt s n,pl:=n} (n:Int) kY (fun _=>by contradiction) rfl (FO _ _ _)
theorem Yr(s n w)(ah:s.size<=maxLen)(o:n<=1000)(p:bt s n=110\/bt s n=108\/bt s n=104\/bt s n=107)(a:¬ (49<=bt s (n+1)/\bt s (n+1)<=52)):
 Calls prog 162 #[.string s,I0 n] w fun e w'=>De (Ak s n) w e w':=by
 rcases p with p|p|p|p;all_goals
  have H:=Aa (show Ak s n={ok:=false,i:=n+1}by simp[Ak,p,CP,kW,AY,a]);refine kz ?_;intro aj ao
  first|have b:AY [104,107,114,116,119,64,115] (bt s n)=true:=by rw[p];decide|have b:AY [104,107,114,116,119,64,115] (bt s n)=false:=by rw[p];decide
  have g:AY [110,108,40,47,42,104,107,114,116,119,64,115,46] (bt s n)=true:=by rw[p];decide
  have k:=Fc (bt s (n+1)) 49 52 a;have j:=Eh s (n+1);have h:=FT s (n+1);rw[p]at aj ao b g;go_enter func162,ntmps162;go_wp2_with (first
   | refine nW ?_
   | refine nV ?_)
  refine aT (v:=.tuple #[.agg (It.cells {c:=bt s n,pl:=n,w:=0}),I0 (n+1),I0 (0),.bool false]) GO rfl ?_;rw[H.o];exact B7 {c:=bt s n,pl:=n,w:=0} ((n:Int)+1) (show((n:Int)+1)=((n+1:Nat):Int)by omega) (fun f=>by cases f) rfl (FO _ _ _)
theorem Ae0(s n w)(ah:s.size<=maxLen)(k:n<=1000)(p:bt s n=110\/bt s n=108)(a:49<=bt s (n+1))(b:bt s (n+1)<=52):
 Calls prog 162 #[.string s,I0 n] w fun e w'=>De (Ak s n) w e w':=by
 rcases p with p|p;all_goals
  have H:=Aa (show Ak s n={ok:=true,i:=n+2,inn:=0,it:={c:=bt s n,w:=bt s (n+1)-48,pl:=n}}by simp[Ak,Br,p,CP,kW,kD,Jg,AY,a,b]);refine kz ?_;intro aj ao;have g:AY [104,107,114,116,119,64,115] (bt s n)=false:=by rw[p];decide
  have f:AY [110,108,40,47,42,104,107,114,116,119,64,115,46] (bt s n)=true:=by rw[p];decide
  have j:=Da (bt s (n+1)) 49 52 ⟨a,b⟩;have h:=Eh s (n+1);rw[p]at aj ao g f;go_enter func162,ntmps162;go_wp2_with (first
   | refine nW ?_
   | refine nV ?_)
  refine aT (v:=.tuple #[.agg (It.cells {c:=bt s n,w:=bt s (n+1)-49+1,pl:=n}),I0 (n+1+1),I0 (0),.bool true]) GO rfl ?_;rw[H.o];exact B7 {c:=bt s n,w:=bt s (n+1)-49+1,pl:=n} ((n:Int)+1+1) (show((n:Int)+1+1)=((n+2:Nat):Int)by omega) (fun _=>Vn kX kX kX) rfl (FO _ _ _)
theorem Aa4(s n w)(h:s.size<=maxLen)(u:n<=1000)(p:bt s n=104\/bt s n=107)(f:49<=bt s (n+1))(g:bt s (n+1)<=52)(a:97<=bt s (n+2))(b:bt s (n+2)<=104):
 Calls prog 162 #[.string s,I0 n] w fun e w'=>De (Ak s n) w e w':=by
 rcases p with p|p;all_goals
  have H:=Aa (show Ak s n={ok:=true,i:=n+3,inn:=0,it:={c:=bt s n,w:=bt s (n+1)-48,d:=bt s (n+2)-97,pl:=((n+2:Nat):Int)}}by simp[Ak,Br,p,CP,kW,kD,Jg,AY,f,g,a,b]);refine kz ?_;intro aj ao;refine ky ?_;intro ak af;have r:=Da (bt s (n+1)) 49 52 ⟨f,g⟩;have j:=Eh s (n+1);have o:=Da (bt s (n+2)) 97 104 ⟨a,b⟩;have k:=Eh s (n+2);rw[p]at aj ao ak af;go_enter func162,ntmps162;go_wp2_with (first
   | (go_at_call 83;refine(AI _ _ _ h kX).mono ?_;rintro e w'⟨rfl,rfl⟩;simp only[bE,Ra,Xi])
   | refine nV ?_)
  refine aT (v:=.tuple #[.agg (It.cells {c:=bt s n,w:=bt s (n+1)-49+1,d:=bt s (n+2)-97,pl:=(n:Int)+1+1}),I0 (n+1+1+1),I0 (0),.bool true]) GO rfl ?_;rw[H.o];exact B7 {c:=bt s n,w:=bt s (n+1)-49+1,d:=bt s (n+2)-97,pl:=(n:Int)+1+1} ((n:Int)+1+1+1) (show((n:Int)+1+1+1)=((n+3:Nat):Int)by omega) (fun _=>Vn kX kX kX) rfl (FO _ _ _)
theorem Ado(s n w)(ah:s.size<=maxLen)(j:n<=1000)(a:bt s n=46\/bt s n=40\/bt s n=47\/bt s n=42)  :
 Calls prog 162 #[.string s,I0 n] w fun e w'=>De (Ak s n) w e w':=by
 rcases a with a|a|a|a;all_goals
  have H:=Aa (show Ak s n={ok:=true,i:=n+1,inn:=Jg (bt s n),it:={c:=bt s n,pl:=n}}by simp[Ak,Br,a,CP,kW,kD,Jg,AY]);have g:C4 (bt s n) 65 72 = -1:=by rw[a];decide
  have h:AY [110,108,104,107] (bt s n)=false:=by rw[a];decide
  have f:AY [104,107,114,116,119,64,115] (bt s n)=false:=by rw[a];decide
  have b:AY [110,108,40,47,42,104,107,114,116,119,64,115,46] (bt s n)=true:=by rw[a];decide
  rw[a]at g h f b;go_enter func162,ntmps162;go_wp2_with (first
   | refine nX ?_
   | refine nV ?_)
  refine aT (v:=.tuple #[.agg (It.cells {c:=bt s n,pl:=n}),I0 (n+1),I0 (Jg (bt s n)),.bool true]) (by simp[results,results162,go_sem,It.cells,a,Jg,AY]) rfl ?_;rw[H.o];exact B7 {c:=bt s n,pl:=n} ((n:Int)+1) (show((n:Int)+1)=((n+1:Nat):Int)by omega) (fun _=>Vn kX kX kX) rfl (FO _ _ _)
def EL(w:aE)(f:aI)(l:aD Nat):Prop:=
 (f=.slice none 0 0/\l=[])\/∃ b a,f=S0 b l.length a/\b<w.heap.size/\l.length<=a/\a<=maxLen/\∀ e,e<l.length->w.cell? (A0 b e)=some (I0 (l.getD e 0:Nat))
theorem EL.below{w w' g l}(a:EL w g l)(e:Below w.heap.size w w'):EL w' g l:=by
 rcases a with a|⟨b,h,rfl,p,j,k,o⟩;exact Or.inl a;exact Or.inr ⟨b,h,rfl,by have:=e.size;omega,j,k,fun f r=>by rw[e.cell (p:=(A0 b f)) p];exact o f r⟩
structure H2 (w:aE) (gb g c:Nat) (fi tw:aI) (As:aD It):Prop where
 Ap:Ac w gb #[S0 g As.length c,fi,tw] 130
 lt:g<w.heap.size
 cell:∀ k q,k<As.length->q<9->w.cell? (A0 g (k*9+q))=((A1 As k).off k).cells[q]?
theorem H2.below{w w' g b c f k h}(a:H2 w g b c f k h)(e:Below w.heap.size w w'):H2 w' g b c f k h:=
 ⟨a.Ap.below e a.Ap.lt,by have:=e.size;have:=a.lt;omega,fun j q o p=>by rw[e.cell (p:=(A0 b (j*9+q))) a.lt];exact a.cell j q o p⟩
theorem H2.c{w g e c f k b}(h:H2 w g e c f k b)(a)(j:a<b.length):w.cell? (A0 e (a*9))=some (.int .u8 (A1 b a).c):=by
 have:=h.cell a 0 j kX;simpa[It.cells,It.off]using this
theorem H2.nx{w h e c g o b}(j:H2 w h e c g o b)(k:Wf b)(a)(f:a<b.length):w.cell? (A0 e (a*9+6))=some (I0 (FJ b a:Nat)):=by
 have:=j.cell a 6 f kX;rw[this];have p:=(k.pos a f).1;simp[It.cells,It.off,FJ];omega
theorem H2.top{w b a c f h e}(g:H2 w b a c f h e):w.cell? (A0 b 0)=some (S0 a e.length c):=g.Ap.cell 0
theorem H9(p l)(b:Nat)(w:aE)(I:EL w p l)(S:l.length<=2000000)(_hk:b<=100000)(J:∀ f,f∈l->f<=100000):
 Calls prog 89 #[p,I0 b] w fun B w'=>B=.returned (.bool (F6 l b))/\w'=w:=by
 obtain⟨k,o,rfl,E⟩:∃ k o,p=.slice k l.length o/\(∀ a,a<l.length->∃ g,k=some (A0 g 0)/\w.cell? (A0 g a)=some (I0 (l.getD a 0:Nat))):=by
  rcases I with⟨rfl,rfl⟩|⟨g,o,rfl,_,_,_,e⟩;exact⟨none,0,rfl,fun a j=>by simp at j⟩;exact⟨_,_,rfl,fun a j=>⟨g,rfl,e a j⟩⟩
 have x:=Aa E;have M:=Aa J;go_enter func89,ntmps89;go_wp2;go_loop [5] (fun i=>∃ a:Nat,a<=l.length/\i=I0 a/\Hid (F6 (l.take a) b=false)) (fun i=>l.length-(intOf i).toNat)
 case atStart=>exact⟨0,bR _,rfl,(show F6 (l.take 0) b=false by simp[F6])⟩
 case round=>
  obtain⟨a,j,rfl,v⟩:=hrel;by_cases h:a<l.length
  . obtain⟨g,rfl,O⟩:=x.o a h;have L:l.take (a+1)=l.take a++[l.getD a 0]:=by rw[bN h,A3 _ _ _ h]
    have A:=Aa L;have K:=Aa (show l.getD a 0∈l by rw[A3 _ _ _ h];exact aU h);generalize l.getD a 0=f at*;by_cases u:f=b
    . have F:((f:Int)==(b:Int))=true:=by simp;omega
      have z:=Aa (show F6 l b=true by rw[<- u];simpa[F6]using K.out);go_wp2;go_ret;exact⟨BI z.o.symm,rfl⟩
    . have F:((f:Int)==(b:Int))=false:=by simp;omega
      have y:=Aa (show F6 (l.take (a+1)) b=false by
       have r:=v.out;rw[A.o];simp only[F6,decide_eq_false_iff_not,aV,dM]at r⊢;intro e;rcases e with e|e;exact r e;exact u e.symm)
      go_wp2;exact⟨⟨a+1,by omega,by go_num,y⟩,by simp[intOf];omega⟩
  go_wp2;go_ret;exact⟨BI (by have:=v.out;rw[bV kX]at this;rw[this]),rfl⟩
theorem ng(h:p:=by
 have ac:i<b.length:=kX;have a1:=ae.o.pos i ac;have a0:i<FJ b i:=lQ;have au:FJ b i<=b.length:=lQ;have ad:=Aa (show CM b k=(a++[i])++stepsV b aq (u-1) (FJ b i)by
  rw[ap.out,show u=(u-1)+1 by omega,stepsV,aF av];simp)
 go_wp2_with
  (at_builtin
   refine cS _ rfl _ _ _ rfl w.heap.size 3 an _ 1 8 underlying24 aj al am ab rfl kX ai a.length (DH a) rfl (ao.out.alloc _) (A0 wr.heap.size 0) 1 1 [I0 i] rfl rfl (cD (cs:=#[I0 i]) (t:=3) (fr:=(0,0)) (cJ wr _)) (by simp[Value.oneCell']) kX lD kX lA (wr.heap.size+1) kY ?_;intro a4 ay w1 aw ar ah az;have aa:=(j.out.alloc kX _).grown ar lA (fun q e=>(ao.out.lt q e).1);have ak:=(af.o.below aa).top;have ax:=(af.o.below aa).nx ae.o i ac)
 go_roundw
 case rel=>
  exact⟨FJ b i,u-1,a++[i],_,rfl,rfl,au,by omega,by simp;omega,by simpa[DH,Hid]using aw,aa,ad⟩
 case measure=>simp[intOf];omega):p:=h
theorem j8(h:p:=by
 exact⟨k+1,b.length,[],_,by go_num,rfl,by omega,by omega,by simp,cC _ _ _ _,aO _ _,(by simp[CM]:CM b k=[]++stepsV b (FJ b k) b.length (k+1))⟩):p:=h
theorem MA:(prog.info? 3).map (fun i=>(i.zero,i.size,i.bytes))=some (some (I0 0),1,8):=kZ
def DH(l:aD Nat):aD aI:=l.map fun a=>I0 (a:Nat)
theorem EL.Ql{w B b l}(a:w.ownsRow B 3 1 b l.length (DH l)):EL w b l:=by
 rcases a.2 with⟨rfl,h0⟩|⟨f,e,p,rfl,r,g,k,j,u,v⟩;exact Or.inl ⟨rfl,cG h0⟩;refine Or.inr ⟨f,e,rfl,(cW.1 g).1,k,j,fun o h=>?_⟩;rw[a.cellAt o kX];simp[DH,h]
theorem Jv(w p y c x z b)(g:H2 w p y c x z b)(v:Wf b)(M:b.length<=1000)(k)(r:k<b.length):
 Calls prog 88 #[P0 p,I0 k] w fun e w'=>∃ f,e=.returned f/\EL w' f (CM b k)/\Below w.heap.size w w':=by
 obtain⟨an,aj,al,am,ab⟩:=cY MA;have S:=v.pos k r;have O:FJ b k<=b.length:=lQ;have af:=Aa g;have ae:=Aa v;have K:=g.lt;have J:=g.Ap.lt;go_enter func88,ntmps88;go_wp2;go_loopw [5,6] (fun ai o wr=>∃ (i u:Nat) (a:aD Nat) (f:aI),o=I0 i/\f=ai/\i<=b.length/\b.length+1<=u+i/\a.length<=i/\Hid (wr.ownsRow w.heap.size 3 1 f a.length (DH a))/\Hid (Below w.heap.size w wr)/\Hid (CM b k=a++stepsV b (FJ b k) u i)) (fun _ o _=>b.length-(intOf o).toNat)
 case atStart=>
  exact j8
 case round=>
  obtain⟨i,u,a,ai,rfl,rfl,L,I,F,ao,j,ap⟩:=hrel;have h:=af.o.below j.out;have U:=j.out.size;have B:=h.top;have E:=h.nx ae.o k r;have A:=Aa h;generalize FJ b k=aq at*;by_cases av:i<aq;exact ng;have ad:=Aa (show CM b k=a by
   rw[ap.out]
   cases u with
   | zero=>simp[stepsV]
   | succ u=>rw[stepsV,aC av];simp)
  go_wp2;go_ret;exact⟨ai,rfl,by rw[ad.o];exact EL.Ql ao.out,j.out⟩
abbrev n0(h:PLift q->p:=by
 intro aa
 first|(go_at_call 118;refine(Cq _ _ _ lF).mono ?_;rintro e aj⟨rfl,z⟩;have z:=z.symm;subst z)|(go_at_call 86;refine(Jy _ _).mono ?_;rintro e aj⟨rfl,z⟩;have z:=z.symm;subst z)
 exact aa.1):p:=h ⟨z⟩
theorem T2(b g e i h)(j:∀ f,f<b.length->f<FJ b f)(o:g<=b.length)(a:h∈stepsV b g e i):i<=h/\h<g:=by
 induction e generalizing i with
 | zero=>simp[stepsV]at a
 | succ e k=>
  rw[stepsV]at a;split at a;rename_i p;rcases bB.1 a with rfl|a;omega;have:=k _ a;have:=j i kX;omega;simp at a
theorem Wf.next{a}(e:Wf a)(b)(f:b<a.length):b<FJ a b/\FJ a b<=a.length:=by
 have:=e.pos b f;unfold FJ;omega
theorem K1(a)(f:Wf a)(b e)(j:b<a.length)(k:e∈CM a b):b<e/\e<a.length:=by
 have g:=f.next b j;have:=T2 a (FJ a b) _ _ e (fun o h=>(f.next o h).1) g.2 k;omega
theorem Oz(e f a i):(stepsV e f a i).length<=a:=by
 induction a generalizing i with
 | zero=>simp[stepsV]
 | succ a b=>rw[stepsV];split;simp[b];simp
theorem Ht(a b):(CM a b).length<=a.length:=Oz _ _ _ _
theorem OD(e a i):(BN e a i).length<=a:=by
 induction a generalizing i with
 | zero=>simp[BN]
 | succ a b=>rw[BN];split;split;simp[b];exact Nat.le_succ_of_le (b _);simp
theorem LX(a)(l:aD Nat):(l.flatMap fun i=>i::BN a a.length i).length<=l.length*(a.length+1):=by
 induction l with
 | nil=>simp
 | cons b f e=>
  simp only[bY,aR,aX];have:=OD a a.length b;rw[gJ];omega
theorem N9(w F ad c ac ao a)(I:H2 w F ad c ac ao a)(ai:Wf a)(be:a.length<=1000)(k)(ah:k<a.length):
 Calls prog 87 #[P0 F,I0 k] w fun e w'=>∃ u,e=.returned u/\EL w' u (AR a k)/\Below w.heap.size w w':=by
 obtain⟨an,af,ak,al,am⟩:=cY MA;have Z:=Aa I;have ab:=Aa ai;have ay:Hid (∀ b,b∈CM a k->b<a.length):=fun b V=>(K1 a ai k b ah V).2
 have ax:=Aa (Ht a k);have b3:=I.lt;have b2:=I.Ap.lt;have ar:Hid (AR a k=(CM a k).flatMap fun i=>i::BN a a.length i):=rfl;go_enter func87,ntmps87;go_wp2_with fail;refine(Jv w F ad c ac ao a Z.o ab.o be k ah).mono ?_;rintro e w1⟨bj,rfl,a6,L⟩;generalize CM a k=g at*;have br:=ax.o;obtain⟨B,E,rfl,ba⟩:∃ B E,bj=.slice B g.length E/\(∀ v,v<g.length->∃ gk,B=some (A0 gk 0)/\gk<w1.heap.size/\w1.cell? (A0 gk v)=some (I0 (g.getD v 0:Nat))):=by
  rcases a6 with⟨rfl,rfl⟩|⟨gk,E,rfl,O,_,_,a3⟩;exact⟨none,0,rfl,fun v U=>by simp at U⟩;exact⟨_,_,rfl,fun v U=>⟨gk,rfl,O,a3 v U⟩⟩
 have aq:=Aa ba;have av:=Aa (Z.o.below L);have a0:=Aa L;have b7:=L.size;simp only;go_wp2;go_loopw [5,7,8] (fun p Y _ wr=>∃ (n:Nat) (f:aD Nat) (u:aI),Y=I0 n/\u=p/\n<=g.length/\Hid (wr.ownsRow w1.heap.size 3 1 u f.length (DH f))/\Hid (Below w1.heap.size w1 wr)/\Hid (f=(g.take n).flatMap fun i=>i::BN a a.length i)) (fun _ Y _ _=>g.length-(intOf Y).toNat)
 case atStart=>
  exact⟨0,[],_,rfl,rfl,by omega,cC _ _ _ _,aO _ _,(by simp:([]:aD Nat)=_)⟩
 case round=>
  obtain⟨n,f,p,rfl,rfl,b6,r,o,K⟩:=hrel;have bi:=o.out.size;by_cases y:n<g.length
  . obtain⟨gk,rfl,O,bb⟩:=aq.o n y;have bu:wr.cell? (A0 gk n)=some (I0 (g.getD n 0:Nat)):=by rw[o.out.cell (p:=(A0 gk n)) O];exact bb
    have V:g.getD n 0<a.length:=ay.o _ (by rw[A3 _ _ _ y];exact aU y);have a7:f.length<=n*(a.length+1):=by
     have a4:=LX a (g.take n);rw[K.out];have a5:(g.take n).length<=n:=List.length_take_le _ _;exact bQ a4 (fK _ a5)
    have bv:f.length<=1001000:=bQ a7 (bQ (fK _ (show n<=1000 by omega)) kX);have az:=Aa (show(g.take (n+1)).flatMap (fun i=>i::BN a a.length i)=f++(g.getD n 0::BN a a.length (g.getD n 0))by
     rw[bN y,eO,<- K.out,A3 _ _ _ y];simp)
    generalize g.getD n 0=b at*;go_wp2_with
     (at_builtin
      refine cS _ rfl _ _ _ rfl w1.heap.size 3 an _ 1 8 underlying24 af ak al am rfl kX p f.length (DH f) rfl (r.out.alloc _) (A0 wr.heap.size 0) 1 1 [I0 b] rfl rfl (cD (cs:=#[I0 b]) (t:=3) (fr:=(0,0)) (cJ wr _)) (by simp[Value.oneCell']) kX lD kX lA (wr.heap.size+1) kY ?_;intro a2 a1 w2 bf bc bz b4;have a8:Hid (Below w1.heap.size w1 w2):=(o.out.alloc kX _).grown bc lA (fun q e=>(r.out.lt q e).1))
    have bg:=Aa (show w2.ownsRow w1.heap.size 3 1 (S0 a2 (f.length+1) a1) (f++[b]).length (DH (f++[b]))by simpa[DH]using bf);go_loopw [5,8] (fun p X ap=>∃ (i j:Nat) (h:aD Nat) (u:aI),X=I0 i/\u=p/\i<a.length/\a.length<=j+i/\b<=i/\h.length+b<=f.length+1+i/\Hid (ap.ownsRow w1.heap.size 3 1 u h.length (DH h))/\Hid (Below w1.heap.size w1 ap)/\Hid (f++(b::BN a a.length b)=h++BN a j i)) (fun _ X _=>a.length-(intOf X).toNat)
    case atStart=>
     exact⟨b,a.length,f++[b],_,rfl,rfl,V,by omega,by omega,by simp,bg,a8,(by simp:f++(b::BN a a.length b)=f++[b]++BN a a.length b)⟩
    case round=>
     obtain⟨i,j,h,p,rfl,rfl,ae,b1,b8,bx,r,o,M⟩:=hrel;have J:=av.o.below o.out;have bi:=o.out.size;have bl:=J.top;have bm:=J.c i ae;have aw:=Aa J
     cases A:AY [119,64,115] (A1 a i).c
     . have x:=Aa (show f++(b::BN a a.length b)=h by
        rw[M.out]
        cases j with
        | zero=>simp[BN]
        | succ j=>rw[BN,aC (by simp[A])];simp)
       go_wp2_with (go_at_call 118;refine(Cq _ _ _ lF).mono ?_;rintro e aj⟨rfl,z⟩;have z:=z.symm;subst z);exact⟨⟨n+1,h,p,by go_num,rfl,by omega,r,o,(by rw[az.o,x.o]:h=_)⟩,by simp[intOf];omega⟩
     have S:=ab.o.one i ae A;have bo:=aw.o.c (i+1) S
     cases hu:AY [114,116,119,64,115] (A1 a (i+1)).c
     . have x:=Aa (show f++(b::BN a a.length b)=h++BN a (j-1) (i+1)by
        rw[M.out,show j=(j-1)+1 by omega,BN,aF A,aC (by simp[AN,hu])];rfl)
       go_wp2_with (first
        | refine n0 ?_)
       exact⟨⟨i+1,j-1,h,p,by go_num,rfl,S,by omega,by omega,by omega,r,o,x⟩,by simp[intOf];omega⟩
     have x:=Aa (show f++(b::BN a a.length b)=(h++[i+1])++BN a (j-1) (i+1)by
      rw[M.out,show j=(j-1)+1 by omega,BN,aF A,aF (by simpa[AN]using hu)];simp)
     go_wp2_with (first
      | refine n0 ?_
      | (at_builtin
         refine cS _ rfl _ _ _ rfl w1.heap.size 3 an _ 1 8 underlying24 af ak al am rfl kX p h.length (DH h) rfl (r.out.alloc _) (A0 wr.heap.size 0) 1 1 [I0 (i+1)] rfl rfl (cD (cs:=#[I0 (i+1)]) (t:=3) (fr:=(0,0)) (cJ wr _)) (by simp[Value.oneCell']) kX lD kX lA (wr.heap.size+1) kY ?_;intro bq bp bk bh bd b0 b5;have a9:Hid (Below w1.heap.size w1 bk):=(o.out.alloc kX _).grown bd lA (fun q e=>(r.out.lt q e).1)))
     exact⟨⟨i+1,j-1,h++[i+1],_,by go_num,rfl,S,by omega,by omega,by simp;omega,by simpa[DH,Hid]using bh,a9,x⟩,by simp[intOf];omega⟩
  have au:=Aa (show AR a k=f by rw[ar.o,K.out,bV kX]);go_wp2;go_ret;exact⟨p,rfl,by rw[au.o];exact EL.Ql r.out,a0.o.trans (o.out.mono kX)⟩
section
open Go
section
variable {P:Program} {md:Region.Mode} {C:aE->Prop} {Q:Exit->Act->aE->Prop} {l:aD Oper}
def segB(md:Region.Mode)(ops:Array Oper):aD (aD Nat × Nat)->Array Bool->Bool
 | [],listed=>decide (Region.ready md ops listed=[])
 | q::r,listed=>q.1.all (fun i=>decide (i<ops.size))&&walkFrom md ops (fun a=>decide (Region.ready md ops a=[q.2])&&segB md ops r (a.setIfInBounds q.2 true)) q.1 listed
def Fj:aD (aD Nat × Nat)->Nat
 | []=>0
 | q::a=>q.1.length+(Fj a+1)
def KJ(P:Program)(ops:Array Oper)(Q:Exit->Act->aE->Prop)(n:Nat)(b:Act->aE->Prop)(e:Act)(w:aE):Prop:=
 ∃ a,ops[n]? = some a/\a.guard=none/\a.wp P e w b Q
def wpSeg(P:Program)(ops:Array Oper)(C:aE->Prop)(Q:Exit->Act->aE->Prop):aD (aD Nat × Nat)->Act->aE->Prop
 | [],a,w=>Q .normal a w
 | q::r,a,w=>O4 P ops C (fun b=>KJ P ops Q q.2 (fun e w2=>C w2/\wpSeg P ops C Q r e w2) b w) (q.1.filterMap fun i=>ops[i]?) a
theorem F1{ops n}{e f:Act->aE->Prop}{a w}(j:∀ a w,e a w->f a w)(b:KJ P ops Q n e a w):opC P ops Q n f a w:=by
 obtain⟨o,k,af,b⟩:=b;unfold opC;simp only[k];rw[aF GV];exact eV (fun g w2 h=>j g w2 h) b
theorem Kv(a:aD Nat)(e:a.all (fun i=>decide (i<l.toArray.size))=true):(a.filterMap fun i=>l.toArray[i]?).length=a.length/\∀ b (e:b<a.length),l.toArray[a[b]]? = (a.filterMap fun i=>l.toArray[i]?)[b]? := by
 have:=ND l a (by simpa using e);simpa using this
theorem Hw(v:∀ j a d B w,Q (.panic j) (Act.put a d B) w->Q (.panic j) a w)(z:Region.noSelect l.toArray=true)(s:aD (aD Nat × Nat)):
 ∀ f a w,segB md l.toArray s f=true->C w->wpSeg P l.toArray C Q s a w->IQ P md l.toArray C Q (Fj s) f a w:=by
 induction s with
 | nil=>
  intro f a w b h g;exact⟨h,by simpa[segB]using b,g⟩
 | cons q I A=>
  intro f a w b h g;simp only[segB,aY]at b;obtain⟨r,u⟩:=Kv q.1 b.1;refine Eo v z (fun F E e y=>?_) q.1 _ _ a r u b.2 g;simp only[aY,bD]at e;refine⟨h,fun h0=>by rw[e.1]at h0;simp at h0,fun i o=>?_⟩;rw[e.1]at o;have x:i=q.2:=by simpa using o
  subst x;exact F1 (fun p w2 k=>A _ p w2 e.2 k.1 k.2) y
theorem Cl{id}{a}{w}(C:aE->Prop)(s:aD (aD Nat × Nat))(o:P.follows .mixedOrders=true)(f:(Region.noSelect l.toArray&&decide (Fj s=l.length)&&segB .any l.toArray s (Array.replicate l.toArray.size false))=true)(j:∀ b a d u w,Q (.panic b) (Act.put a d u) w->Q (.panic b) a w)(h:C {w with drawn:=w.drawn+1})(g:wpSeg P l.toArray C Q s a {w with drawn:=w.drawn+1}):(Code.region id l.toArray true).wp P Q a w:=by
 simp only[aY,bD]at f;obtain⟨⟨r,k⟩,p⟩:=f;refine eY o (GD (C:=C) _ _ _ _ ?_);have:=Hw (md:=.any) j r s _ a _ p h g;have e:l.toArray.size=Fj s:=by simp[k]
 rw[e];rw[e]at this;exact this
theorem E1{id}{g}{w}(C:aE->Prop)(b)(n m)(f j:aD (aD Nat × Nat))(M:P.follows .mixedOrders=true)(v:(Region.noSelect l.toArray&&decide (b.length+(Fj f+1)=l.length)&&decide (b.length+(Fj j+1)=l.length)&&b.all (fun i=>decide (i<l.toArray.size))&&
   walkFrom .any l.toArray (fun k=>decide (Region.ready .any l.toArray k=[n,m])&&segB .any l.toArray f (k.setIfInBounds n true)&&segB .any l.toArray j (k.setIfInBounds m true)) b (Array.replicate l.toArray.size false))=true)(p:∀ u g d S w,Q (.panic u) (Act.put g d S) w->Q (.panic u) g w)(I:C {w with drawn:=w.drawn+1})(F:O4 P l.toArray C (fun o=>KJ P l.toArray Q n (fun e w2=>C w2/\wpSeg P l.toArray C Q f e w2) o {w with drawn:=w.drawn+1}/\KJ P l.toArray Q m (fun e w2=>C w2/\wpSeg P l.toArray C Q j e w2) o {w with drawn:=w.drawn+1}) (b.filterMap fun i=>l.toArray[i]?) g):(Code.region id l.toArray true).wp P Q g w:=by
 simp only[aY,bD]at v;obtain⟨⟨⟨⟨r,L⟩,U⟩,J⟩,O⟩:=v;have E:Fj j=Fj f:=kX;refine eY M (GD (C:=C) _ _ _ _ ?_);obtain⟨z,A⟩:=Kv b J;have B:l.toArray.size=b.length+(Fj f+1):=by simp[L]
 have a:=Eo (md:=.any) (g:=Fj f+1) (w:={w with drawn:=w.drawn+1}) p r (fun k o h y=>?_) b _ _ g z A O F;rw[B]at a⊢;exact a;simp only[aY,bD]at h;refine⟨I,fun h0=>by rw[h.1.1]at h0;simp at h0,fun i x=>?_⟩;rw[h.1.1]at x;have K:i=n\/i=m:=by simpa using x
 rcases K with rfl|rfl;exact F1 (fun e w2 a=>Hw p r f _ e w2 h.1.2 a.1 a.2) y.1;exact F1 (fun e w2 a=>by have:=Hw (md:=.any) p r j _ e w2 h.2 a.1 a.2;rw[E]at this;exact this) y.2
end
end
section
open Go
section
variable {P:Program} {md:Region.Mode} {C:aE->Prop} {Q:Exit->Act->aE->Prop} {l:aD Oper} {ops:Array Oper}
theorem NC{id}{Q:Exit->Act->aE->Prop}{a}{w}{l:aD Oper}(n:Nat)(g:Oper)(x:l[n]? = some g)(o:P.follows .mixedOrders=true)(ao:Aa3 .any l.toArray n=true)(h:wpStill P l.toArray {w with drawn:=w.drawn+1} (fun j=>Region.wanted g (yielded l.toArray j.tmps)=true/\g.wp P j {w with drawn:=w.drawn+1} (fun aq w2=>wpStill P l.toArray w2 (fun ab=>Q .normal ab w2) (l.drop (n+1)) aq) Q) (l.take n) a):(Code.region id l.toArray true).wp P Q a w:=by
 refine mJ ?_;intro al ae ah ak bh ap e am H;have:=wpAny_of_head (Q':=Q) (g:=l.toArray.size-n-1+1) (fun b j u=>by
  obtain⟨⟨r,au⟩,p⟩:=u;refine⟨fun h0=>by rw[r]at h0;simp at h0,fun i k=>?_⟩;rw[r]at k;have v:i=n:=by simpa using k
  subst v;unfold wpOp;have y:l.toArray[i]? = some g:=by simpa using x
  simp only[y];rw[aF p.1];refine .inl (eV (fun aq w2 ac=>?_) p.2);refine mK ?_;intro ai b5;simpa[jE]using b5) _ _ _ H
 rw[e,show n+(l.toArray.size-n-1+1)=l.toArray.size by omega]at this;exact this
end
end
section
open Go
section
variable {P:Program} {md:Region.Mode} {C:aE->Prop} {Q:Exit->Act->aE->Prop} {l:aD Oper}
theorem J4{ops}{f}{a}{b}{w}(n m)(j:Region.ready md ops a=[n,m])(p:C w)(k:KJ P ops Q n (fun e w2=>IQ P md ops C Q f (a.setIfInBounds n true) e w2) b w)(o:KJ P ops Q m (fun e w2=>IQ P md ops C Q f (a.setIfInBounds m true) e w2) b w):IQ P md ops C Q (f+1) a b w:=by
 refine⟨p,fun h0=>by rw[j]at h0;simp at h0,fun i h=>?_⟩;rw[j]at h;have r:i=n\/i=m:=by simpa using h
 rcases r with rfl|rfl;exact F1 (fun _ _ g=>g) k;exact F1 (fun _ _ g=>g) o
theorem V8{ops}{g}{e}{f}{w}(n m h)(k:Region.ready md ops e=[n,m,h])(u:C w)(o:KJ P ops Q n (fun a w2=>IQ P md ops C Q g (e.setIfInBounds n true) a w2) f w)(p:KJ P ops Q m (fun a w2=>IQ P md ops C Q g (e.setIfInBounds m true) a w2) f w)(r:KJ P ops Q h (fun a w2=>IQ P md ops C Q g (e.setIfInBounds h true) a w2) f w):IQ P md ops C Q (g+1) e f w:=by
 refine⟨u,fun h0=>by rw[k]at h0;simp at h0,fun i j=>?_⟩;rw[k]at j;have v:i=n\/i=m\/i=h:=by simpa using j
 rcases v with rfl|rfl|rfl;exact F1 (fun _ _ b=>b) o;exact F1 (fun _ _ b=>b) p;exact F1 (fun _ _ b=>b) r
theorem D7{ops n}{e f:Act->aE->Prop}{a w}(k:∀ a w,e a w->f a w)(b:KJ P ops Q n e a w):KJ P ops Q n f a w:=by
 obtain⟨p,o,j,b⟩:=b;exact⟨p,o,j,eV (fun g w2 h=>k g w2 h) b⟩
def Qa(P:Program)(ops:Array Oper)(C:aE->Prop)(Q:Exit->Act->aE->Prop)(f:aD Nat)(n m:Nat)(g h:aD (aD Nat × Nat))(e:Act)(w:aE):Prop:=
 O4 P ops C (fun b=>KJ P ops Q n (fun a w2=>C w2/\wpSeg P ops C Q g a w2) b w/\KJ P ops Q m (fun a w2=>C w2/\wpSeg P ops C Q h a w2) b w) (f.filterMap fun i=>ops[i]?) e
def Vx(md:Region.Mode)(ops:Array Oper)(b:aD Nat)(n m:Nat)(f g:aD (aD Nat × Nat))(e:Array Bool):Bool:=
 b.all (fun i=>decide (i<ops.size))&&walkFrom md ops (fun a=>decide (Region.ready md ops a=[n,m])&&segB md ops f (a.setIfInBounds n true)&&segB md ops g (a.setIfInBounds m true)) b e
theorem SY(o:∀ r a d E w,Q (.panic r) (Act.put a d E) w->Q (.panic r) a w)(p:Region.noSelect l.toArray=true)(e)(n m)(f h:aD (aD Nat × Nat))(B:Fj f=Fj h)(v)(a)(w)(k:Vx md l.toArray e n m f h v=true)(A:C w)(z:Qa P l.toArray C Q e n m f h a w):IQ P md l.toArray C Q (e.length+(Fj f+1)) v a w:=by
 simp only[Vx,aY]at k;obtain⟨x,y⟩:=Kv e k.1;refine Eo o p (fun I F g u=>?_) e _ _ a x y k.2 z;simp only[aY,bD]at g;refine J4 n m g.1.1 A ?_ ?_;exact D7 (fun j w2 b=>Hw o p f _ j w2 g.1.2 b.1 b.2) u.1;exact D7 (fun j w2 b=>by have:=Hw o p h _ j w2 g.2 b.1 b.2;rw[<- B]at this;exact this) u.2
theorem N8{id}{v}{w}(C:aE->Prop)(o k)(h q n m)(j p r u:aD (aD Nat × Nat))(ai:P.follows .mixedOrders=true)(K:(Region.noSelect l.toArray&&decide (Fj j=Fj p)&&decide (Fj r=k.length+(Fj j+1))&&decide (Fj u=k.length+(Fj j+1))&&decide (o.length+(k.length+(Fj j+1)+1+1)=l.length)&&o.all (fun i=>decide (i<l.toArray.size))&&
   walkFrom .any l.toArray (fun g=>decide (Region.ready .any l.toArray g=[h,q,m])&&
    (decide (Region.ready .any l.toArray (g.setIfInBounds h true)=[q,m])&&Vx .any l.toArray k n m j p ((g.setIfInBounds h true).setIfInBounds q true)&&segB .any l.toArray u ((g.setIfInBounds h true).setIfInBounds m true))&&
    (decide (Region.ready .any l.toArray (g.setIfInBounds q true)=[h,m])&&Vx .any l.toArray k n m j p ((g.setIfInBounds q true).setIfInBounds h true)&&segB .any l.toArray r ((g.setIfInBounds q true).setIfInBounds m true))&&
    (decide (Region.ready .any l.toArray (g.setIfInBounds m true)=[h,q])&&segB .any l.toArray u ((g.setIfInBounds m true).setIfInBounds h true)&&segB .any l.toArray r ((g.setIfInBounds m true).setIfInBounds q true))) o (Array.replicate l.toArray.size false))=true)(y:∀ B v d av w,Q (.panic B) (Act.put v d av) w->Q (.panic B) v w)(ac:C {w with drawn:=w.drawn+1})(a:O4 P l.toArray C (fun x=>
   KJ P l.toArray Q h (fun f w2=>C w2/\KJ P l.toArray Q q (fun e b=>C b/\Qa P l.toArray C Q k n m j p e b) f w2/\KJ P l.toArray Q m (fun e b=>C b/\wpSeg P l.toArray C Q u e b) f w2) x {w with drawn:=w.drawn+1}/\
   KJ P l.toArray Q q (fun f w2=>C w2/\KJ P l.toArray Q h (fun e b=>C b/\Qa P l.toArray C Q k n m j p e b) f w2/\KJ P l.toArray Q m (fun e b=>C b/\wpSeg P l.toArray C Q r e b) f w2) x {w with drawn:=w.drawn+1}/\
   KJ P l.toArray Q m (fun f w2=>C w2/\KJ P l.toArray Q h (fun e b=>C b/\wpSeg P l.toArray C Q u e b) f w2/\KJ P l.toArray Q q (fun e b=>C b/\wpSeg P l.toArray C Q r e b) f w2) x {w with drawn:=w.drawn+1}) (o.filterMap fun i=>l.toArray[i]?) v):(Code.region id l.toArray true).wp P Q v w:=by
 simp only[aY,bD]at K;obtain⟨⟨⟨⟨⟨⟨z,E⟩,F⟩,I⟩,ah⟩,ad⟩,al⟩:=K;refine eY ai (GD (C:=C) _ _ _ _ ?_);obtain⟨M,O⟩:=Kv o ad;have S:l.toArray.size=o.length+(k.length+(Fj j+1)+1+1):=by simp[ah]
 have J:=Eo (md:=.any) (g:=k.length+(Fj j+1)+1+1) (w:={w with drawn:=w.drawn+1}) y z (fun g x L aj=>?_) o _ _ v M O al a;rw[S]at J⊢;exact J;simp only[aY,bD]at L;obtain⟨⟨⟨ap,⟨aq,V⟩,Y⟩,⟨ar,X⟩,Z⟩,⟨au,aa⟩,ab⟩:=L;obtain⟨am,an,ao⟩:=aj;have A:∀ (s:aD (aD Nat × Nat)) (g:Array Bool) (f:Act) (w2:aE),Fj s=k.length+(Fj j+1)->segB .any l.toArray s g=true->C w2->wpSeg P l.toArray C Q s f w2->IQ P .any l.toArray C Q (k.length+(Fj j+1)) g f w2:=fun s g f w2 U ak ae af=>by
  have:=Hw (md:=.any) y z s g f w2 ak ae af;rw[U]at this;exact this
 refine V8 h q m ap ac ?_ ?_ ?_;exact D7 (fun f w2 a=>J4 q m aq a.1 (D7 (fun e b a=>SY y z k n m j p E _ e b V a.1 a.2) a.2.1) (D7 (fun e b a=>A u _ e b I Y a.1 a.2) a.2.2)) am;exact D7 (fun f w2 a=>J4 h m ar a.1 (D7 (fun e b a=>SY y z k n m j p E _ e b X a.1 a.2) a.2.1) (D7 (fun e b a=>A r _ e b F Z a.1 a.2) a.2.2)) an;exact D7 (fun f w2 a=>J4 h q au a.1 (D7 (fun e b a=>A u _ e b I aa a.1 a.2) a.2.1) (D7 (fun e b a=>A r _ e b F ab a.1 a.2) a.2.2)) ao
end
end
section
open Go
section
variable {P:Program} {md:Region.Mode} {C:aE->Prop} {Q:Exit->Act->aE->Prop} {l:aD Oper}
theorem Rm{ops}{a}{rest}{b}{h:Act->Prop}(g)(r:a.guard=none)(f:FuncId)(e)(o:∀ w,C w->(execOp b.eval a).run P w=.ok (.enter f e) w)(p:∀ w,C w->Calls P f e w fun k v=>k=.returned g/\v=w)(u:O4 P ops C h rest (b.put a.dst g)):O4 P ops C h (a::rest) b:=
 ⟨g,fun w j=>.inl ⟨by simp[Region.wanted,r],.inr (.inr ⟨f,e,o w j,p w j⟩)⟩,u⟩
def lsB(b:aD Nat)(e:Array Bool):Array Bool:=b.foldl (fun a i=>a.setIfInBounds i true) e
theorem A2(y:∀ g b d B w,Q (.panic g) (Act.put b d B) w->Q (.panic g) b w)(a)(h m)(e)(b)(w)(j:(Region.noSelect l.toArray&&decide (a.length+h=m)&&a.all (fun i=>decide (i<l.toArray.size))&&walkFrom md l.toArray (fun k=>decide (k=lsB a e)) a e)=true)(r:O4 P l.toArray C (fun f=>IQ P md l.toArray C Q h (lsB a e) f w) (a.filterMap fun i=>l.toArray[i]?) b):IQ P md l.toArray C Q m e b w:=by
 simp only[aY,bD]at j;obtain⟨⟨⟨u,rfl⟩,v⟩,x⟩:=j;obtain⟨o,p⟩:=Kv a v;exact Eo y u (fun k f z A=>by rw[dE z];exact A) a _ _ b o p x r
theorem AZ{ops}{g}{e}{f}{w}(n)(a:decide (Region.ready md ops e=[n])=true)(k:C w)(b:KJ P ops Q n (fun j w2=>IQ P md ops C Q g (e.setIfInBounds n true) j w2) f w):IQ P md ops C Q (g+1) e f w:=by
 have a:=dE a;refine⟨k,fun h0=>by rw[a]at h0;simp at h0,fun i h=>?_⟩;rw[a]at h;have o:i=n:=by simpa using h
 subst o;exact F1 (fun _ _ b=>b) b
theorem DV{ops b a w}(g:decide (Region.ready md ops b=[])=true)(f:C w)(e:Q .normal a w):IQ P md ops C Q 0 b a w:=⟨f,dE g,e⟩
theorem Kq{ops}{C':aE->Prop}(b:∀ w,C' w->C w):∀ f g e w,IQ P md ops C' Q f g e w->IQ P md ops C Q f g e w
 | 0,_,_,_,a=>⟨b _ a.1,a.2⟩
 | f+1,_,_,_,a=>⟨b _ a.1,a.2.1,fun i k=>NF (fun h w' j=>Kq b f _ h w' j) (a.2.2 i k)⟩
theorem En{ops}{f}{a}{b}{w}(n m)(k:decide (Region.ready md ops a=[n,m])=true)(j:C w)(g:KJ P ops Q n (fun e w2=>IQ P md ops C Q f (a.setIfInBounds n true) e w2) b w)(h:KJ P ops Q m (fun e w2=>IQ P md ops C Q f (a.setIfInBounds m true) e w2) b w):IQ P md ops C Q (f+1) a b w:=
 J4 n m (dE k) j g h
theorem Bo{id a w}(C:aE->Prop)(n)(g:decide (l.length=n)=true)(f:P.follows .mixedOrders=true)(e:IQ P .any l.toArray C Q n (Array.replicate n false) a {w with drawn:=w.drawn+1}):(Code.region id l.toArray true).wp P Q a w:=by
 have b:=dE g;subst b;refine eY f (GD (C:=C) _ _ _ _ ?_);simpa using e
end
end
section
open Go
def Kd(a:Oper):Bool:=match a.op with | .defer _=>false|_=>true
theorem Ab5{P:Program}{h e w}{p r:Act->aE->Prop}{Q:Exit->Act->aE->Prop}(l n)(j:Kd h=true)(g:∀ e w,p e w->r e w)(a:h.wp P e w p Q):
 h.wpIn (Fence.wide.inRound l) n P e w r Q:=by
 refine⟨fun _ _=>trivial,?_⟩;rw[Oper.semAt_plain _ _ _ (fun c b=>by unfold Kd at j;rw[b]at j;cases j)];unfold Oper.wp at a;generalize(execOp e.eval h).run P w=u at*
 cases u with
 | ok o w'=>
  cases o with
  | value k=>exact g _ _ a
  | skip=>exact g _ _ a
  | defer d=>exact g _ _ a
  | enter A v=>
   refine⟨fun b=>by simp[Fence.inRound,Fence.wide]at b,?_⟩;refine CallsIn.inRound l (callsIn_wide.2 ?_);refine Calls.mono a ?_;intro b w2 f
   cases b with
   | returned k=>exact g _ _ f
   | panicked z=>exact f
   | outgrown=>exact f
  | row u v=>
   refine⟨fun b=>by simp[Fence.inRound,Fence.wide]at b,fun c x _=>?_⟩;obtain⟨k,w2,y,f⟩:=a c x;exact⟨k,w2,g _ _ y,stepsIn_wide.2 f⟩
  | _=>exact a.elim
 | halt o w'=>cases o<;>first|exact a|exact a.elim
theorem IK{P:Program}{md:Region.Mode}{ops}{C:aE->Prop}{Q:Exit->Act->aE->Prop}(l n)(g:ops.all Kd=true):∀ f o e w,IQ P md ops C Q f o e w->wpAnyIn (Fence.wide.inRound l) n P md ops Q f o e w
 | 0,_,_,_,b=>⟨b.2.1,b.2.2⟩
 | f+1,o,e,w,b=>by
  refine⟨b.2.1,fun i h=>?_⟩;have a:=b.2.2 i h;unfold opC at a;unfold wpOpIn
  cases j:ops[i]? with
  | none=>rw[j]at a;exact IK l n g f _ e w a
  | some u=>
   rw[j]at a;simp only at a⊢;have r:Kd u=true:=by
    obtain⟨h,p⟩:=cW.1 j;rw[Array.all_eq_true]at g;rw[<- p];exact g i h
   split;rename_i k;rw[aF k]at a;exact Ab5 l n r (fun e w b=>IK l n g f _ e w b) a;rename_i k;rw[aC k]at a;exact⟨fun _ _=>trivial,IK l n g f _ _ w a⟩
theorem Mc{P:Program}{Q:Exit->Act->aE->Prop}{l:aD Oper}{id:Nat}{a:Act}{w:aE}{g n:Nat}(C:aE->Prop)(s:aD (aD Nat × Nat))(r:P.follows .mixedOrders=true)(f:(l.toArray.all Kd&&(Region.noSelect l.toArray&&decide (Fj s=l.length)&&segB .any l.toArray s (Array.replicate l.toArray.size false)))=true)(k:∀ b a d x w,Q (.panic b) (Act.put a d x) w->Q (.panic b) a w)(j:C {w with drawn:=w.drawn+1})(h:wpSeg P l.toArray C Q s a {w with drawn:=w.drawn+1}):(Code.region id l.toArray true).wpIn (Fence.wide.inRound g) n P Q a w:=by
 simp only[aY,bD]at f;obtain⟨o,⟨v,p⟩,u⟩:=f;have e:l.toArray.size=Fj s:=by simp[p]
 refine wpIn_region_any r (IK (C:=C) g n o _ _ _ _ ?_);have:=Hw (md:=.any) k v s _ a _ u j h;rw[e];rw[e]at this;exact this
end

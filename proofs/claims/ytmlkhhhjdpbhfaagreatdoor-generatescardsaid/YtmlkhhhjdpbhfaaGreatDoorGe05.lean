import Derived.Test.YtmlkhhhjdpbhfaaGreatDoorShelf
import Derived.Lib.ItoaMem
import Derived.Lib.ItoaLen
import Derived.Test.YtmlkhhhjdpbhfaaGreatDoorGe02
import Derived.Test.YtmlkhhhjdpbhfaaGreatDoorGe03
namespace Go.Proofs.YtmlkhhhjdpbhfaaGreatDoor
open Go.RowKit Go.Proofs.Tryz
set_option maxHeartbeats 4000000
set_option maxRecDepth 100000
variable{p q:Prop}(z:q)
def D9(b:aD Rl)(a:Nat):Bool:=Dq b a
def scanR(b:Nat->Bool):aD Rl->aD Rl->Int × Bool
 | _,[]=>(0,false)
 | seen,a::t=>if Dq seen a.r then(a.pl,true)else if(firstMiss b a.As).2 then firstMiss b a.As else scanR b (seen++[a]) t
theorem Ph(e seen a f)(h:(scanR e seen a).2=false):scanR e seen (a++f)=scanR e (seen++a) f:=by
 induction a generalizing seen with
 | nil=>simp
 | cons j t g=>
  rw[scanR]at h;rw[cA,scanR];split;exact Bg;rename_i ab;rw[aC ab]at h;split;rename_i b;rw[aF b]at h;rw[b]at h;cases h
  rename_i b;rw[aC b]at h;rw[g _ h];simp
theorem TJ(b seen l)(h:(scanR b seen l).2=false):scanR b seen l=(0,false):=by
 induction l generalizing seen with
 | nil=>rfl
 | cons f t e=>
  rw[scanR]at h⊢;split;exact Bg;rename_i ab;rw[aC ab]at h;split;rename_i a;rw[aF a,a]at h;cases h
  rename_i a;rw[aC a]at h;exact e _ h
theorem Lf(e a)(g:a<8):(C0 e).setIfInBounds a (.bool true)=C0 (fun b=>e b||b==a):=by
 have f:a=0\/a=1\/a=2\/a=3\/a=4\/a=5\/a=6\/a=7:=kX;rcases f with rfl|rfl|rfl|rfl|rfl|rfl|rfl|rfl<;>simp[C0]
theorem NZ(l:aD Rl)(f:Rl)(b:Nat)(g:f.r=b):D9 (l++[f])=fun a=>D9 l a||a==b:=by
 funext a;unfold D9;rw[Ln,g];congr 1;by_cases e:a=b;subst e;simp;have:¬ ((b:Int)=(a:Int)):=kX;rw[dC.2 this,dC.2 e]
structure RAt (s:aA) (w:aE) (v:aI) (l:aD (Rl × Nat)):Prop where
 shape:∃ g cap,v=S0 g l.length cap/\g<w.heap.size/\∀ j,(h:j<l.length)->w.cell? (A0 g (j*3))=some (I0 l[j].1.r)/\w.cell? (A0 g (j*3+1))=some (I0 l[j].1.pl)/\w.cell? (A0 g (j*3+2))=some (P0 (l[j].2))
 rep:∀ q,q∈l->∃ lo hi,0<lo/\hi<=w.heap.size/\BM (s.size+1) w lo hi q.2 false q.1.As
 num:∀ q,q∈l->0<=q.1.r/\q.1.r<8
 rul:∀ q,q∈l->Vc q.1.As/\q.1.As.length<=1000
 len:l.length<=8
theorem RAt.below{s w w' j}{l:aD (Rl × Nat)}(o:RAt s w j l)(a:Below w.heap.size w w'):RAt s w' j l:=by
 obtain⟨⟨b,k,p,g,r⟩,u,v,x,y⟩:=o;have I:=a.size;refine⟨⟨b,k,p,by omega,fun e A=>?_⟩,fun q B=>?_,v,x,y⟩;obtain⟨f,h,c⟩:=r e A;exact⟨by rw[a.cell (p:=(A0 b (e*3))) g];exact f,by rw[a.cell (p:=(A0 b (e*3+1))) g];exact h,by rw[a.cell (p:=(A0 b (e*3+2))) g];exact c⟩;obtain⟨F,z,f,h,c⟩:=u q B;exact⟨F,z,f,by omega,c.mono (fun E _ J=>a.block E kX) (aB _) (aB _)⟩
structure At1 (w:aE) (tb qb:Nat) (f g:Nat->Bool) (wr:aE):Prop where
 A9:Below w.heap.size w wr
 b1:Ac wr tb (C0 f) 146
 b2:Ac wr qb (C0 g) 146
theorem K6(s w F a8)(l:aD (Rl × Nat))(S:Ac w F #[a8] 77)(ax:RAt s w a8 l):
 Calls prog 38 #[P0 F] w fun x w'=>
  x=.returned (.tuple #[I0 (scanR (D9 (l.map Prod.fst)) [] (l.map Prod.fst)).1,.bool (scanR (D9 (l.map Prod.fst)) [] (l.map Prod.fst)).2])/\Below w.heap.size w w':=by
 have be:=Aa ax;have ba:=Aa S;have cj:=S.lt;obtain⟨⟨p,aw,rfl,ci,ay⟩,_,az,a4,cm⟩:=ax;have am:=Aa ay;have ao:=Aa az;have bh:=Aa a4;have bj:∀ e ai,((w.alloc e).alloc ai).cell? (A0 F 0)=some (S0 p l.length aw):=fun e ai=>(Ac.alloc (Ac.alloc S e) ai).cell 0
 have al:Hid (At1 w w.heap.size (w.heap.size+1) (fun _=>false) (fun _=>false) ((w.alloc (.cells (C0 fun _=>false) 146)).alloc (.cells (C0 fun _=>false) 146))):=
  ⟨((aO _ _).alloc (aB _) _).alloc kY _,(Ac.new w _ _).alloc _,by simpa using Ac.new (w.alloc (.cells (C0 fun _=>false) 146)) (C0 fun _=>false) 146⟩
 clear S ay az a4;go_enter func38,ntmps38;go_wp2_with fail;simp only[C0]at al;generalize bl:((w.alloc (.cells #[.bool false,.bool false,.bool false,.bool false,.bool false,.bool false,.bool false,.bool false] 146)).alloc (.cells #[.bool false,.bool false,.bool false,.bool false,.bool false,.bool false,.bool false,.bool false] 146))=bi at*;clear bl bj;generalize bx:w.heap.size+1=h at*;generalize a6:w.heap.size=j at*;have k:=Aa a6;have cg:j<h:=kX;have L:Hid (∀ a,(f:a<l.length)->(l.map Prod.fst).take (a+1)=(l.map Prod.fst).take a++[l[a].1]):=by
  intro a f;rw[bN (by simpa using f)];simp
 clear bx a6;go_loopw [17] (fun aj wr=>∃ a:Nat,aj=I0 a/\a<=l.length/\Hid (At1 w j h (D9 ((l.map Prod.fst).take a)) (fun _=>false) wr)) (fun aj _=>l.length-(intOf aj).toNat)
 case atStart=>
  refine⟨0,rfl,by omega,?_⟩;have x:D9 ((l.map Prod.fst).take 0)=fun _=>false:=by funext ah;simp[D9,Dq]
  have f:At1 w j h (D9 ((l.map Prod.fst).take 0)) (fun _=>false) bi:=by rw[x];exact al.o
  exact f
 case round=>
  obtain⟨a,rfl,cl,g⟩:=hrel;have o:=g.out.A9;rw[k.o]at o;have Y:=o.size;rw[k.o]at Y;have a7:=g.out.b1.lt;have a0:=g.out.b2.lt;by_cases U:a<l.length
  . obtain⟨z,d1,d2⟩:=am.o a U;have br:(a:Int)<(l.length:Int):=kX;obtain⟨V,X⟩:=ao.o l[a] (aU U);obtain⟨b,v⟩:∃ b:Nat,l[a].1.r=(b:Int):=⟨l[a].1.r.toNat,by omega⟩;have B:b<8:=kX;have b0:(b:Int)<8:=kX;have ar:wr.cell? (A0 p (a*3))=some (I0 b):=by rw[o.cell (p:=(A0 p (a*3))) lA,z,v]
    have au:wr.cell? (A0 p (a*3+1))=some (I0 (l[a].1.pl:Int)):=by rw[o.cell (p:=(A0 p (a*3+1))) lA,d1]
    have av:wr.cell? (A0 p (a*3+2))=some (P0 (l[a].2)):=by rw[o.cell (p:=(A0 p (a*3+2))) lA,d2]
    have cd:∀ e,(wr.alloc e).cell? (A0 j b)=some (.bool (D9 ((l.map Prod.fst).take a) b)):=fun e=>by rw[(g.out.b1.alloc e).cell b,Kk _ _ B]
    have ce:∀ e,(wr.alloc e).frozen? (A0 j b)=false:=fun e=>(g.out.b1.alloc e).frozen b
    have bu:¬ wr.heap.size=j:=kX;have bv:¬ j=wr.heap.size:=kX;have bb:Hid (∀ e,At1 w j h (D9 ((l.map Prod.fst).take (a+1))) (fun _=>false) ((wr.alloc e).setCell (A0 j b) (.bool true))):=by
     intro e;refine⟨(g.out.A9.alloc (by rw[k.o];omega) e).setCell (by simp;rw[k.o];omega) _,?_,(g.out.b2.alloc e).Ad _ lA _⟩;have f:=(g.out.b1.alloc e).set b (.bool true);rw[Lf _ _ B,<- NZ _ l[a].1 b v,<- L.o a U]at f;exact f
    have bc:Hid (∀ e,At1 w j h (D9 ((l.map Prod.fst).take (a+1))) (fun _=>false) ((wr.setCell (A0 j b) (.bool true)).alloc e)):=by
     intro e;have f:=(g.out.b1).set b (.bool true);rw[Lf _ _ B,<- NZ _ l[a].1 b v,<- L.o a U]at f;exact⟨(g.out.A9.setCell (by simp;rw[k.o];omega) _).alloc (by rw[k.o];simp[World.setCell];omega) e,f.alloc e,(g.out.b2.Ad _ lA _).alloc e⟩
    clear z d1 d2 V X v g;generalize l[a]=q at*;go_wp2_with fail
    first
     | exact⟨⟨a+1,by go_num,by omega,bb.o _⟩,by simp[intOf];omega⟩
     | exact⟨⟨a+1,by go_num,by omega,bc.o _⟩,by simp[intOf];omega⟩
  have aq:Hid (At1 w j h (D9 (l.map Prod.fst)) (fun _=>false) wr):=by
   have f:=g.out;rw[bV lA]at f;exact f
  have bo:wr.cell? (A0 F 0)=some (S0 p l.length aw):=by rw[o.cell (p:=(A0 F 0)) lA];exact ba.o.cell 0
  clear g;go_wp2;go_loopw [30] (fun ak r=>∃ a:Nat,ak=I0 a/\a<=l.length/\Hid (At1 w j h (D9 (l.map Prod.fst)) (D9 ((l.map Prod.fst).take a)) r)/\Hid ((scanR (D9 (l.map Prod.fst)) [] ((l.map Prod.fst).take a)).2=false)) (fun ak _=>l.length-(intOf ak).toNat)
  case atStart=>
   refine⟨0,rfl,by omega,?_,(by simp[scanR]:(scanR (D9 (l.map Prod.fst)) [] ((l.map Prod.fst).take 0)).2=false)⟩;have x:D9 ((l.map Prod.fst).take 0)=fun _=>false:=by funext ah;simp[D9,Dq]
   have f:At1 w j h (D9 (l.map Prod.fst)) (D9 ((l.map Prod.fst).take 0)) wr:=by rw[x];exact aq.o
   exact f
  case round=>
   rename aE=>r
   obtain⟨i,rfl,ck,g,A⟩:=hrel;clear bo aq o Y a7 a0;have o:=g.out.A9;rw[k.o]at o;have Y:=o.size;rw[k.o]at Y;have a7:=g.out.b1.lt;have a0:=g.out.b2.lt;by_cases J:i<l.length
   . obtain⟨z,d1,d2⟩:=am.o i J;have br:(i:Int)<(l.length:Int):=kX;have K:=aU J;obtain⟨V,X⟩:=ao.o l[i] K;obtain⟨b,v⟩:∃ b:Nat,l[i].1.r=(b:Int):=⟨l[i].1.r.toNat,by omega⟩;have B:b<8:=kX;have b0:(b:Int)<8:=kX;have ar:r.cell? (A0 p (i*3))=some (I0 b):=by rw[o.cell (p:=(A0 p (i*3))) lA,z,v]
     have au:r.cell? (A0 p (i*3+1))=some (I0 (l[i].1.pl:Int)):=by rw[o.cell (p:=(A0 p (i*3+1))) lA,d1]
     have av:r.cell? (A0 p (i*3+2))=some (P0 (l[i].2)):=by rw[o.cell (p:=(A0 p (i*3+2))) lA,d2]
     have ac:∀ e,(r.alloc e).cell? (A0 h b)=some (.bool (D9 ((l.map Prod.fst).take i) b)):=fun e=>by rw[(g.out.b2.alloc e).cell b,Kk _ _ B]
     have bk:∀ e,(r.alloc e).frozen? (A0 h b)=false:=fun e=>(g.out.b2.alloc e).frozen b
     have bu:¬ r.heap.size=h:=kX;have bv:¬ h=r.heap.size:=kX;have M:Hid (scanR (D9 (l.map Prod.fst)) [] (l.map Prod.fst)=scanR (D9 (l.map Prod.fst)) ((l.map Prod.fst).take i) (l[i].1::(l.map Prod.fst).drop (i+1))):=by
      have f:=Ph (D9 (l.map Prod.fst)) [] ((l.map Prod.fst).take i) ((l.map Prod.fst).drop i) A.out;rw[eH,cL]at f;have x:(l.map Prod.fst).drop i=l[i].1::(l.map Prod.fst).drop (i+1):=by rw[cF (by simpa using J)];simp
      rw[x]at f;exact f
     cases y:D9 ((l.map Prod.fst).take i) b
     rotate_left
     . have E:=Aa (show scanR (D9 (l.map Prod.fst)) [] (l.map Prod.fst)=((l[i].1.pl:Int),true)by
        rw[M.o,scanR,aF (by rw[v];exact y)])
       have Z:=Aa o;rw[y]at ac;clear g A M z d1 d2 V X v K y;generalize l[i]=q at*;go_wp2;go_ret2;exact⟨by rw[E.o];rfl,by rw[k.o];exact Z.o.alloc kX _⟩
     . rw[y]at ac;obtain⟨b2,bq,cn,bp,a2⟩:=be.o.rep l[i] K;have a1:=a2.toT;clear a2;rw[k.o]at bp;obtain⟨a3,bz⟩:=bh.o l[i] K;have af:¬ Dq ((l.map Prod.fst).take i) l[i].1.r=true:=by rw[v];intro f;rw[show D9 ((l.map Prod.fst).take i) b=Dq ((l.map Prod.fst).take i) (b:Int)from rfl,f]at y;cases y
       have ap:Hid (∀ e,At1 w j h (D9 (l.map Prod.fst)) (D9 ((l.map Prod.fst).take (i+1))) ((r.setCell (A0 h b) (.bool true)).alloc e)):=by
        intro e;have f:=(g.out.b2).set b (.bool true);rw[Lf _ _ B,<- NZ _ l[i].1 b v,<- L.o i J]at f;exact⟨(g.out.A9.setCell (by simp;rw[k.o];omega) _).alloc (by rw[k.o];simp[World.setCell];omega) e,(g.out.b1.Ad _ lA _).alloc e,f.alloc e⟩
       have ab:=Aa (show scanR (D9 (l.map Prod.fst)) [] (l.map Prod.fst)=if(firstMiss (D9 (l.map Prod.fst)) l[i].1.As).2 then firstMiss (D9 (l.map Prod.fst)) l[i].1.As else scanR (D9 (l.map Prod.fst)) ((l.map Prod.fst).take i++[l[i].1]) ((l.map Prod.fst).drop (i+1))by
        rw[M.o,scanR,aC af])
       have aa:Hid ((firstMiss (D9 (l.map Prod.fst)) l[i].1.As).2=false->(scanR (D9 (l.map Prod.fst)) [] ((l.map Prod.fst).take (i+1))).2=false):=by
        intro f;rw[L.o i J,Ph _ _ _ _ A.out,cL,scanR,aC af,aC (by rw[f];simp)];rfl
       have co:¬ j=h:=kX;have cp:¬ h=j:=kX;have bf:=Aa a1;have bg:=Aa a3;clear g A M z d1 d2 V X v K y a1 a3 af o;generalize l[i]=q at*;go_upto_region 13 with fail;have u:=Aa (ap.o (.cells (X_3 b q.1.pl q.2) 123));have ad:=Ac.new (r.setCell (A0 h b) (.bool true)) (X_3 b q.1.pl q.2) 123;have a5:(r.setCell (A0 h b) (.bool true)).heap.size=r.heap.size:=by simp[World.setCell]
       rw[a5]at ad;have b5:=ad.c2;clear ap ac bk ad a5 ar au av;generalize((r.setCell (A0 h b) (.bool true)).alloc (.cells (X_3 b q.1.pl q.2) 123))=cb at*;have b6:=u.o.b1.c0;have t1:=u.o.b1.c1;have t2:=u.o.b1.c2;have t3:=u.o.b1.c3;have b7:=u.o.b1.c4;have b8:=u.o.b1.c5;have b9:=u.o.b1.c6;have ca:=u.o.b1.c7;have I:=u.o.A9;rw[k.o]at I;have b1:=I.size;rw[k.o]at b1;have a9:=Aa I;go_wp2_with fail;have ae:=Ux (D9 (l.map Prod.fst)) (s.size+1) cb b2 bq q.2 q.1.As (bf.o.mono (fun ah cf ch=>I.block ah kX) (aB _) (aB _)) kX bg.o bz;simp only[C0]at ae;refine ae.mono ?_;rintro x cc⟨rfl,O⟩;have an:Hid (At1 w j h (D9 (l.map Prod.fst)) (D9 ((l.map Prod.fst).take (i+1))) cc):=⟨by rw[k.o];exact a9.o.trans (O.mono kX),u.o.b1.below O u.o.b1.lt,u.o.b2.below O u.o.b2.lt⟩;clear ae b6 t1 t2 t3 b7 b8 b9 ca I b5 O;generalize bm:firstMiss (D9 (l.map Prod.fst)) q.1.As=m at*;clear bm;obtain⟨b3,b4⟩:=m
       cases b4
       . have bd:=Aa (aa.o rfl);clear aa ab;simp only;go_wp2;go_roundw
         case rel=>exact⟨i+1,by go_num,by omega,an,bd⟩
         case measure=>simp[intOf];omega
       . have E:=Aa (show scanR (D9 (l.map Prod.fst)) [] (l.map Prod.fst)=(b3,true)by rw[ab.o];simp);clear aa ab;simp only;go_wp2;go_ret2;exact⟨by rw[E.o];rfl,an.o.A9⟩
   have E:Hid (scanR (D9 (l.map Prod.fst)) [] (l.map Prod.fst)=(0,false)):=by
    have f:=A.out;rw[bV lA]at f;exact TJ _ _ _ f
   have Z:=Aa o;clear g A;go_wp2;go_ret2;exact⟨by rw[E.o];rfl,by rw[k.o];exact Z.o⟩
section
theorem Bd(h:p:=by
 rw[aC r]at f;exact absurd f r):p:=h
theorem ip(h:p:=by
 have a:=(h.fit k v false false ad e st ae hi r).1;have b:=am _ _ _ _ a.inv f;exact⟨⟨b.1.inv,b.1.en.trans a.en,bQ a.ge b.1.ge,fun _=>(b.1.Ai rfl).trans (a.Ai ab)⟩,b.2⟩):p:=h
theorem nA(h:p:=by
 exact⟨⟨⟨by simp only[BW];omega,hi.en,a.inv.rd,a.inv.Af,a.inv.Ai⟩,rfl,a.ge,fun _=>a.Ai ab⟩,rfl⟩):p:=h
theorem nB(h:p:=by
 rw[aF cf]at f⊢;exact absurd (h.fit k v false false ad e st ae hi f).2 cf):p:=h
abbrev mB(h:PLift q->p:=by
 intro aa;have ab:kW x.c=true:=by rcases ao with h|h|h|h<;>first|exact h|exact absurd h ae|exact absurd (Or.inl h) ac|exact absurd (Or.inr h) ac
 have ad:=al.w ab;have aj:Bl x st=x.w.toNat:=by
  unfold Bl;rw[aC ae,aC (fun h=>ac (Or.inl h)),aC (fun h=>ac (Or.inr h))]
 revert ab ad aj;exact aa.1):p:=h ⟨z⟩
structure Kc (x:It):Prop where
 it:GN x
 w:kW x.c=true->1<=x.w/\x.w<=4
 b:x.c=39->0<=x.b/\x.b<=255
def TWf(R:Nat->Bool):Nat->Bool->Bool->aD It->Prop
 | 0,_,_,_=>False
 | _+1,_,_,[]=>False
 | f+1,own,e,a::b=>Kc a/\(Ae a.c=true->own=true)/\(AN a.c=true->e=true)/\(a.c=82->R a.r.toNat=true)/\
  (a.c=47->(segs b.length b).length=2)/\(AY [42,116,119,64,115] a.c=true->segs b.length b=[b])/\
  ∀ g,g∈segs b.length b->TWf R f (decide (a.c=40)) (decide (a.c=40)||(e&&AY [119,64,115] a.c)) g
structure Eb (bs:aA) (N:Nat) (st:PS):Prop where
 pl:st.pl<=st.en
 en:st.en<=bs.size
 rd:st.rd.length=bs.size
 Af:st.Af<=N
 Ai:∀ d,(st.Ai d).1<4294967296/\(st.Ai d).2<=4
structure Dt (bs:aA) (N:Nat) (st:PS) (hid:Bool) (o:PO):Prop where
 inv:Eb bs N o.st
 en:o.st.en=st.en
 ge:st.pl<=o.st.pl
 Ai:hid=false->o.st.Ai=st.Ai
def hidV(a:aD It):Bool:=match a with|x::_=>Ae x.c|[]=>false
def BK(R:Nat->Bool)(f a:Bool)(e:aD It):Prop:=∃ b,TWf R b f a e
structure O3 (R:Nat->Bool) (bs:aA) (N:Nat) (T:Nat->Nat->Bool->aD It->PS->PO):Prop where
 fit:∀ fuel far q own ctx k st,BK R own ctx k->Eb bs N st->(T fuel far q k st).ok=true->Dt bs N st (hidV k) (T fuel far q k st)/\(T fuel far q k st).e=0
 less:∀ fuel far q k st,(T fuel far q k st).fuel<=fuel
theorem Gs(N a b st t):(Bs N a b st t).fuel<=a:=by
 unfold Bs;split;exact bR _;exact aB _
theorem Ft(bs N f e st a t)(b:Eb bs N a)(k:a.en=st.en)(o:st.pl<=a.pl)(j:a.Ai=st.Ai)(hid)(g:(Bs N f e a t).ok=true):
 Dt bs N st hid (Bs N f e a t)/\(Bs N f e a t).e=0:=by
 unfold Bs at g⊢;by_cases h:a.Af=N;rw[aF h]at g;cases g
 rw[aC h];have:=b.Af;exact⟨⟨⟨b.pl,b.en,b.rd,by simp only[BW];omega,b.Ai⟩,k,o,fun _=>j⟩,rfl⟩
theorem Xe(bs N st n)(a:Eb bs N st)(b:AQ st.rd st.pl st.en n=true):Eb bs N (AB st n):=by
 unfold AQ at b;simp only[aY,bD]at b;have:=a.pl;exact⟨by simp only[AB];omega,a.en,by simp only[AB,Ca];exact a.rd,a.Af,a.Ai⟩
theorem Fp(bs:aA)(a n:Nat):(bs.extract a (a+n)).size<=n:=lG
theorem MC(e a)(b:a.size<=4):Ie e a<4294967296:=by
 have f:=Qo a a.size;have g:=UA a a.size;have h:=DS a.size b;unfold Ie;split<;>omega
theorem Xb(bs N x q f e st)(al:Kc x)(ao:kW x.c=true\/x.c=39\/x.c=114\/x.c=46)(o:Eb bs N st)(h:(AJ bs N x q f e st).ok=true):
 Dt bs N st (Ae x.c) (AJ bs N x q f e st)/\(AJ bs N x q f e st).e=0:=by
 unfold AJ at h⊢;by_cases j:AQ st.rd st.pl st.en (Bl x st)=true;rw[aF j]at h⊢;have a:=Xe bs N st (Bl x st) o j;have b:st.pl<=(AB st (Bl x st)).pl:=by simp[AB]
 by_cases ae:x.c=39;have aj:Bl x st=1:=by unfold Bl;rw[aF ae]
 rw[aj]at a b;rw[aF ae]at h⊢;by_cases k:(bn bs st.pl:Int)≠x.b;rw[aF k]at h;cases h
 rw[aC k]at h⊢;by_cases p:q=true;rw[aF p];exact⟨⟨a,rfl,b,fun _=>rfl⟩,rfl⟩;rw[aC p]at h⊢;exact Ft bs N _ _ st _ _ a rfl b rfl _ h;rw[aC ae]at h⊢;by_cases ac:x.c=114\/x.c=46;rw[aF ac]at h⊢;exact Ft bs N _ _ st _ _ a rfl b rfl _ h;rw[aC ac]at h⊢;by_cases g:Ae x.c=true;rw[aF g];refine mB ?_;intro ab ad aj;refine⟨⟨⟨a.pl,a.en,a.rd,a.Af,fun d=>?_⟩,rfl,b,fun h=>by rw[g]at h;cases h⟩,rfl⟩;simp only[BW];split;have r:=Fp bs st.pl (Bl x st);exact⟨MC x _ kX,by simp only;omega⟩;exact o.Ai d;rw[aC g]at h⊢;exact Ft bs N _ _ st _ _ a rfl b rfl _ h;rw[aC j]at h;cases h
theorem LH(bs N e q a b st):(AJ bs N e q a b st).fuel<=a:=by
 unfold AJ;repeat' split
 all_goals first|exact aB _|exact Gs _ _ _ _ _
variable {R:Nat->Bool} {bs:aA} {N:Nat} {T:Nat->Nat->Bool->aD It->PS->PO}
theorem ZZ(p:O3 R bs N T)(g)(o:∀ a,a∈g->BK R true true a):∀ e b st t,Eb bs N st->(kidsT T g e b st t).ok=true->
 Eb bs N (kidsT T g e b st t).st/\(kidsT T g e b st t).st.en=st.en/\st.pl<=(kidsT T g e b st t).st.pl/\(kidsT T g e b st t).e=0:=by
 induction g with
 | nil=>intro e b st t k _;exact⟨k,rfl,aB _,rfl⟩
 | cons a g v=>
  intro e b st t k f;unfold kidsT at f⊢;by_cases r:(T e b (silV a) a st).ok=true;rw[aF r]at f⊢;have j:=(p.fit e b (silV a) true true a st (o a aG) k r).1;have h:=v (fun a u=>o a (aH _ u)) _ _ _ _ j.inv f;exact⟨h.1,h.2.1.trans j.en,bQ j.ge h.2.2.1,h.2.2.2⟩;exact Bd
theorem NV(f:O3 R bs N T)(e):∀ a b st t,(kidsT T e a b st t).fuel<=a:=by
 induction e with
 | nil=>intro a b st t;exact aB _
 | cons h e g=>
  intro a b st t;unfold kidsT;split;exact bQ (g _ _ _ _) (f.less _ _ _ _ _);exact f.less _ _ _ _ _
theorem X3(h:O3 R bs N T)(e ad)(ae:BK R false ad e)(ab:hidV e=false)(g):∀ k v st t,Eb bs N st->(manyT T N e g k v st t).ok=true->
 Dt bs N st false (manyT T N e g k v st t)/\(manyT T N e g k v st t).e=0:=by
 induction g with
 | zero=>intro k v st t _ f;cases f
 | succ g am=>
  intro k v st t hi f;unfold manyT at f⊢;by_cases cf:(T k v false e st).e≠0;exact nB;rw[aC cf]at f⊢;by_cases j:(T k v false e st).ok=false\/(T k v false e st).st.pl=st.pl;rw[aF j]at f⊢;exact Ft bs N _ _ st st _ hi rfl (aB _) rfl _ f;rw[aC j]at f⊢;have r:(T k v false e st).ok=true:=by
   cases o:(T k v false e st).ok with
   | false=>exact absurd (Or.inl o) j
   | true=>rfl
  exact ip
theorem Ns(h:O3 R bs N T)(g e):∀ a b st t,(manyT T N g e a b st t).fuel<=a:=by
 induction e with
 | zero=>intro a b st t;exact bR _
 | succ e j=>
  intro a b st t;have f:=h.less a b false g st;unfold manyT;split;exact f;split;exact bQ (Gs _ _ _ _ _) f;exact bQ (j _ _ _ _) f
theorem Xn(h:O3 R bs N T)(e ad)(ae:BK R false ad e)(ab:hidV e=false)(n):∀ k v st t,Eb bs N st->(Bq T N e n k v st t).ok=true->
 Dt bs N st false (Bq T N e n k v st t)/\(Bq T N e n k v st t).e=0:=by
 induction n with
 | zero=>intro k v st t hi f;unfold Bq at f⊢;exact Ft bs N _ _ st st _ hi rfl (aB _) rfl _ f
 | succ n am=>
  intro k v st t hi f;unfold Bq at f⊢;by_cases r:(T k v false e st).ok=true;rw[aF r]at f⊢;exact ip;exact Bd
theorem LN(g:O3 R bs N T)(f n):∀ a b st t,(Bq T N f n a b st t).fuel<=a:=by
 induction n with
 | zero=>intro a b st t;exact Gs _ _ _ _ _
 | succ n h=>
  intro a b st t;have e:=g.less a b false f st;unfold Bq;split;exact bQ (h _ _ _ _) e;exact e
theorem Pb(c st a)(g:a.ok=true->Dt bs N st false a/\a.e=0)(b:(C6 N c a).ok=true):Dt bs N st false (C6 N c a)/\(C6 N c a).e=0:=by
 unfold C6 at b⊢;by_cases f:a.ok=true;rw[aF f]at b⊢;have e:=(g f).1;exact Ft bs N _ _ st _ _ e.inv e.en e.ge (e.Ai rfl) _ b;rw[aC f]at b;exact absurd b f
theorem LM(c a):(C6 N c a).fuel<=a.fuel:=by
 unfold C6;split;exact Gs _ _ _ _ _;exact aB _
theorem TK(o:O3 R bs N T)(a b f)(h0:BK R false f a)(r:BK R false f b)(u:hidV a=false)(v:hidV b=false)(h g st)(p:Eb bs N st)(e:(Cn T N a b h g st).ok=true):
 Dt bs N st false (Cn T N a b h g st)/\(Cn T N a b h g st).e=0:=by
 unfold Cn EC at e⊢;split;rename_i j;rw[aF j]at e;exact Pb 48 st _ (fun k=>by have:=o.fit h g false false f a st h0 p k;rw[u]at this;exact this) e;rename_i j;rw[aC j]at e;exact Pb 49 st _ (fun k=>by have:=o.fit _ _ false false f b st r p k;rw[v]at this;exact this) e
theorem Kg(e:O3 R bs N T)(f g a b st):(Cn T N f g a b st).fuel<=a:=by
 unfold Cn EC;have h0:=e.less a b false f st;split;exact bQ (LM _ _) h0;exact bQ (LM _ _) (bQ (e.less _ _ _ _ _) h0)
theorem W9(o:O3 R bs N T)(a)(u:∀ j,j∈a->BK R true true j)(e b st)(g:Eb bs N st)(f:(CT T N a e b st).ok=true):
 Dt bs N st false (CT T N a e b st)/\(CT T N a e b st).e=0:=by
 unfold CT Hp at f⊢;have p:Eb bs N {st with Ai:=fun _=>(0,0)}:=⟨g.pl,g.en,g.rd,g.Af,fun _=>⟨by simp,by simp⟩⟩;by_cases r:(kidsT T a e b {st with Ai:=fun _=>(0,0)} []).ok=true;rw[aF r]at f⊢;obtain⟨h,k,c,_⟩:=ZZ o a u e b _ [] p r;exact Ft bs N _ _ st {(kidsT T a e b {st with Ai:=fun _=>(0,0)} []).st with Ai:=st.Ai} _ ⟨h.pl,h.en,h.rd,h.Af,g.Ai⟩ k c rfl _ f;exact Bd
theorem Lq(e:O3 R bs N T)(a b f st):(CT T N a b f st).fuel<=b:=by
 unfold CT Hp;split;exact bQ (Gs _ _ _ _ _) (NV e a _ _ _ _);exact NV e a _ _ _ _
theorem Tm(o:O3 R bs N T)(d b h)(p:BK R false h b)(ab:hidV b=false)(g e st)(hi:Eb bs N st)(f:(BU T d b g e st).ok=true):
 Dt bs N st false (BU T d b g e st)/\(BU T d b g e st).e=0:=by
 unfold BU at f⊢;by_cases j:st.en-st.pl<d;rw[aF j]at f;cases f
 rw[aC j]at f⊢;unfold BV at f⊢;have v:=hi.pl;have u:=hi.en;by_cases r:(T g e false b {st with en:=st.pl+d}).ok=true;rw[aF r]at f⊢;have a:=(o.fit g e false false h b {st with en:=st.pl+d} p ⟨by simp,by simp only;omega,hi.rd,hi.Af,hi.Ai⟩ r).1;split;rename_i k;rw[aF k]at f;cases f
 rename_i k;exact nA;exact Bd
theorem JP(g:O3 R bs N T)(d f a e st):(BU T d f a e st).fuel<=a:=by
 unfold BU BV;have b:=g.less a e false f {st with en:=st.pl+d};split;exact aB _;split;split;exact b;exact b;exact b
theorem Aej(o:O3 R bs N T)(d a j)(u:BK R false j a)(p:hidV a=false)(e b st)(g:Eb bs N st)(f:(Nf T bs d a e b st).ok=true):
 Dt bs N st false (Nf T bs d a e b st)/\(Nf T bs d a e b st).e=0:=by
 unfold Nf at f⊢;by_cases k:bs.size<d;rw[aF k]at f;cases f
 rw[aC k]at f⊢;unfold PC at f⊢;by_cases r:(T e b false a {st with pl:=d,en:=bs.size}).ok=true;rw[aF r]at f⊢;have h:=(o.fit e b false false j a {st with pl:=d,en:=bs.size} u ⟨by simp only;omega,aB _,g.rd,g.Af,g.Ai⟩ r).1;exact⟨⟨⟨g.pl,g.en,h.inv.rd,h.inv.Af,h.inv.Ai⟩,rfl,aB _,fun _=>h.Ai p⟩,rfl⟩;exact Bd
theorem Sb(g:O3 R bs N T)(d f a b st):(Nf T bs d f a b st).fuel<=a:=by
 unfold Nf PC;have e:=g.less a b false f {st with pl:=d,en:=bs.size};split;exact aB _;split;exact e;exact e
theorem Ti(j:O3 R bs N T)(d:Nat × Nat)(b h)(k:BK R false h b)(ab:hidV b=false)(g e st)(hi:Eb bs N st)(f:(DB T bs d b g e st).ok=true):
 Dt bs N st false (DB T bs d b g e st)/\(DB T bs d b g e st).e=0:=by
 unfold DB Cm at f⊢;by_cases r:(T g e false b st).ok=true;rw[aF r]at f⊢;have a:=(j.fit g e false false h b st k hi r).1;split;rename_i o;rw[aF o]at f;cases f
 have:=a.inv.pl;have p:=a.en;exact nA;exact Bd
theorem JQ(g:O3 R bs N T)(d:Nat × Nat)(f a e st):(DB T bs d f a e st).fuel<=a:=by
 unfold DB Cm;have b:=g.less a e false f st;split;split;exact b;exact b;exact b
theorem BK.CA{g h b}(a:BK R g h b)(j:g=false):hidV b=false:=by
 obtain⟨e,a⟩:=a
 cases e with
 | zero=>exact a.elim
 | succ e=>
  cases b with
  | nil=>exact a.elim
  | cons k o=>
   cases f:Ae k.c with
   | false=>exact f
   | true=>have:=a.2.1 f;rw[j]at this;cases this
theorem Vp(c)(a:c=82\/c=39\/CP c=true)(h:c≠40)(k:c≠47)(j:c≠42)(b:c≠82)(f:c≠116)(g:c≠119)(o:c≠64)(e:c≠115):kW c=true\/c=39\/c=114\/c=46:=by
 rcases a with a|a|a;exact absurd a b;exact Or.inr (Or.inl a);simp only[CP,kW,AY,cQ,dG,cN,cH,dA]at a⊢;rcases a with a|a|a|a|a|a|a|a|a|a|a|a|a<;>simp at a<;>subst a<;>simp_all
theorem BQ(G)(ab:∀ b,R b=true->BK R false false (G b))(O):O3 R bs N (tryT G bs N O):=by
 induction O with
 | zero=>exact⟨fun _ _ _ _ _ _ _ _ _ F=>(by cases F),fun _ _ _ _ _=>bR _⟩
 | succ O g=>
  constructor
  . intro k M q ah S h st ⟨K,p⟩ j a
    cases K with
    | zero=>exact p.elim
    | succ K=>
    cases h with
    | nil=>exact p.elim
    | cons f b=>
    cases k with
    | zero=>cases a
    | succ k=>
    obtain⟨V,af,ad,ac,aa,Z,U⟩:=p;have o:∀ {u:Int},f.c=u->Ae u=false->hidV (f::b)=false:=fun L F=>by show Ae f.c=false;rw[L];exact F
    unfold tryT at a⊢;by_cases r:f.c=40
    . rw[aF r]at a⊢;rw[o r rfl];exact W9 g _ (fun h p=>⟨K,by have:=U h p;simp only[r,decide_true,Bool.true_or]at this;exact this⟩) _ _ _ j a
    rw[aC r]at a⊢;have I:∀ h,h∈segs b.length b->BK R false (S&&AY [119,64,115] f.c) h:=fun h p=>⟨K,by have:=U h p;simp only[r,jZ,gF]at this;exact this⟩
    by_cases A:f.c=47
    . rw[aF A]at a⊢;rw[o A rfl];have ae:=aa A;have X:(segs b.length b).getD 0 []∈segs b.length b:=by rw[A3 _ _ _ kX];exact aU _
      have Y:(segs b.length b).getD 1 []∈segs b.length b:=by rw[A3 _ _ _ kX];exact aU _
      exact TK g _ _ _ (I _ X) (I _ Y) ((I _ X).CA rfl) ((I _ Y).CA rfl) _ _ _ j a
    rw[aC A]at a⊢;have J:∀ {u:Int},f.c=u->AY [42,116,119,64,115] u=true->BK R false (S&&AY [119,64,115] f.c) b:=fun L F=>I b (by rw[Z (by rw[L];exact F)];simp)
    by_cases z:f.c=42
    . rw[aF z]at a⊢;rw[o z rfl];have e:=J z rfl;exact X3 g b _ e (e.CA rfl) _ _ _ _ _ j a
    rw[aC z]at a⊢;by_cases E:f.c=82
    . rw[aF E]at a⊢;rw[o E rfl];have e:=ab _ (ac E);have:=g.fit k M false false false _ st e j a;rw[e.CA rfl]at this;exact this
    rw[aC E]at a⊢;by_cases x:f.c=116
    . rw[aF x]at a⊢;rw[o x rfl];have e:=J x rfl;exact Xn g b _ e (e.CA rfl) _ _ _ _ _ j a
    rw[aC x]at a⊢;by_cases y:f.c=119
    . rw[aF y]at a⊢;rw[o y rfl];have e:=J y rfl;exact Tm g _ b _ e (e.CA rfl) _ _ _ j a
    rw[aC y]at a⊢;by_cases B:f.c=64
    . rw[aF B]at a⊢;rw[o B rfl];have e:=J B rfl;exact Aej g _ b _ e (e.CA rfl) _ _ _ j a
    rw[aC B]at a⊢;by_cases v:f.c=115
    . rw[aF v]at a⊢;rw[o v rfl];have e:=J v rfl;exact Ti g _ b _ e (e.CA rfl) _ _ _ j a
    rw[aC v]at a⊢;exact Xb bs N f q k M st V (Vp f.c V.it.c r A z E x y B v) j a
  intro k M q h st
  cases h with
  | nil=>exact bR _
  | cons f b=>
  cases k with
  | zero=>exact bR _
  | succ k=>
  unfold tryT;refine bQ ?_ (eW k);repeat' split
  all_goals first|exact Lq g _ _ _ _|exact Kg g _ _ _ _ _|exact Ns g _ _ _ _ _ _|exact g.less _ _ _ _ _|exact LN g _ _ _ _ _ _|exact JP g _ _ _ _ _|exact Sb g _ _ _ _ _|exact JQ g _ _ _ _ _|exact LH _ _ _ _ _ _ _
end
theorem nO(h:p:=by
 rcases h.sv with e|⟨g,e,l⟩;exact Or.inl e;exact Or.inr fun ax aa=>by rw[e]at aa;cases aa;exact l):p:=h
def CN(l:aD (aD UInt8)):aD UInt8:=l.foldl Dk []
def HQ(a n:Int)(e:aA)(b:aD (aD UInt8)):aD UInt8:=
 if a=0 then EY n.toNat else if a=1 then[45]else if a=2 then CE e else if a=3 then 40::CN b++[41]else if a=4 then 91::CN b++[93]
 else 47::F4 n.toNat::32::b.getD 0 []
def Pz(w:aE)(h g:Nat)(j:aM Nat)(e:aI)(l:aD Nat):Prop:=
 (e=.slice none 0 0/\l=[])\/∃ a f,e=S0 a l.length f/\h<=a/\a<g/\some a≠j/\∀ b,b<l.length->w.cell? (A0 a b)=some (P0 (l.getD b 0))
def FA:Nat->aE->Nat->Nat->aM Nat->Nat->aD UInt8->Prop
 | 0,_,_,_,_,_,_=>False
 | f+1,w,lo,hi,sb,vb,t=>∃ (a n:Int) (e:aA) (g:aI) (b:aD (Nat × aD UInt8)),Ac w vb (X_11 a n e g) 177/\lo<=vb/\vb<hi/\some vb≠sb/\
  Pz w lo hi sb g (b.map Prod.fst)/\(∀ q,q∈b->FA f w lo hi sb q.1 q.2)/\t=HQ a n e (b.map Prod.snd)/\(0<=a/\a<=5)/\(0<=n/\n<4294967296)/\(a=5->n<2/\b.length=1)/\e.size<=4000
theorem Pz.mono{w w' h g lo' hi' o sb' p l}(f:Pz w h g o p l)(k:∀ a,h<=a->a<g->some a≠o->w'.heap[a]? = w.heap[a]? /\ some a≠sb')(y:lo'<=h)(z:g<=hi'):Pz w' lo' hi' sb' p l:=by
 rcases f with f|⟨e,r,v,j,b,c,d⟩;exact Or.inl f;exact Or.inr ⟨e,r,v,by omega,by omega,(k e j b c).2,fun x u=>by rw[aL (w:=w) (k e j b c).1];exact d x u⟩
theorem FA.mono{h}:∀ {w w':aE} {g f lo' hi' e:Nat} {k sb':aM Nat} {t:aD UInt8},FA h w g f k e t->(∀ a,g<=a->a<f->some a≠k->w'.heap[a]? = w.heap[a]? /\ some a≠sb')->lo'<=g->f<=hi'->FA h w' lo' hi' sb' e t:=by
 induction h with
 | zero=>intro w w' g f lo' hi' e k sb' t o;exact o.elim
 | succ h z=>
  intro w w' g f lo' hi' e k sb' t o j p r;obtain⟨a,n,B,E,A,u,b,c,d,v,x,i⟩:=o;refine⟨a,n,B,E,A,?_,by omega,by omega,(j e b c d).2,v.mono j p r,fun q y=>z (x q y) j p r,i⟩;unfold Ac at*;rw[(j e b c d).1];exact u
theorem FA.fuel{b}:∀ {w:aE} {f e h:Nat} {g:aM Nat} {t:aD UInt8},FA b w f e g h t->∀ {a:Nat},b<=a->FA a w f e g h t:=by
 induction b with
 | zero=>intro w f e h g t j;exact j.elim
 | succ b v=>
  intro w f e h g t j a B;obtain⟨x,n,z,A,y,k,o,c,d,p,r,i⟩:=j
  cases a with
  | zero=>omega
  | succ a=>exact⟨x,n,z,A,y,k,o,c,d,p,fun q u=>v (r q u) kX,i⟩
def F2(a:Nat->Nat × Nat):Array aI:=((List.range 8).flatMap fun d=>[Value.int .u32 (a d).1,I0 (a d).2]).toArray
def EG(w:aE)(b:Nat)(a:Nat->Nat × Nat):Prop:=Ac w b (F2 a) 268
structure Cx where
 w0:aE
 gb:Nat
 rb:Nat
 tb:Nat
 bs:aA
 N:Nat
 G:Nat->aD It
 R:Nat->Bool
 sg:aA
structure DO (c:Cx):Prop where
 le:c.w0.heap.size<=c.rb
 lt:c.rb<c.tb
 bs:c.bs.size<=4000
 N:c.N<=10000
 gr:∃ v l,Ac c.w0 c.gb #[v] 77/\RAt c.sg c.w0 v l/\∀ r,c.R r=true->∃ i,∃ (h:i<l.length),l[i].1.r=(r:Int)/\(∀ j,j<i->∀ h,l[j].1.r≠(r:Int))/\c.G r=l[i].1.As
 wf:∀ r,c.R r=true->BK c.R false false (c.G r)
def Ce(b:aM Nat):aM Addr:=b.map fun a=>(A0 a 0)
structure Cc (c:Cx) (w:aE) (s:Ts) (st:PS) (ho:aM Nat):Prop where
 tr:A7 c.gb c.rb c.tb c.bs w s
 A9:Below c.w0.heap.size c.w0 w
 nd:s.nodes+st.Af=c.N
 rd:s.read=st.rd
 inv:Eb c.bs c.N st
 sp:∀ p,p∈s.Aw->p.1<=p.2/\p.2<=c.bs.size
 HX:s.Aw.length+s.fuel<=100000
 hid:∀ h,ho=some h->EG w h st.Ai/\c.tb<h/\some h≠s.sv.ownBlock
structure Core (c:Cx) (w:aE) (s:Ts) (hb:aM Nat) (fuel far:Nat) (w':aE) (s':Ts):Prop where
 tr:A7 c.gb c.rb c.tb c.bs w' s'
 fuel:s'.fuel=fuel
 far:s'.far=far
 sp:∃ new,s'.Aw=s.Aw++new/\JB s.read new s'.read
 HX:s'.Aw.length+s'.fuel<=100000
 fr:TF c.tb c.rb s.sv.ownBlock hb w w'
 sv:s'.sv.ownBlock=s.sv.ownBlock\/∃ g,s'.sv.ownBlock=some g/\w.heap.size<=g
def VOk(w:aE)(g:Nat)(h:aM Nat)(a:Bool)(b:aI)(t:aD UInt8):Prop:=
 (a=true/\b=.pointer none)\/(a=false/\∃ f e,b=P0 e/\FA f w g w.heap.size h e t)
def Az(c:Cx)(w:aE)(s:Ts)(e:aM Nat)(k:Bool)(a:PO)(g:Ending)(w':aE):Prop:=
 (a.e≠0/\g=.panicked (F7 a.e)/\TF c.tb c.rb s.sv.ownBlock e w w')\/
 (a.e=0/\a.ok=true/\∃ b f,g=.returned (.tuple #[f,I0 a.st.pl,.bool true])/\Core c w s e a.fuel a.far w' b/\b.read=a.st.rd/\b.nodes+a.st.Af=c.N/\VOk w' w.heap.size b.sv.ownBlock k f a.t/\∀ h,e=some h->EG w' h a.st.Ai)\/
 (a.e=0/\a.ok=false/\∃ b f j,g=.returned (.tuple #[f,I0 j,.bool false])/\Core c w s e a.fuel a.far w' b)
def FZ(b:aD It)(a:aM Nat):aM Nat:=if hidV b then a else none
def silK(q:Bool)(a:aD It):Bool:=match a with|x::_=>Ae x.c||(q&&decide (x.c=39))|[]=>false
def QI(c:Cx)(f:Nat):Prop:=
 ∀ w s st b a h e k q p r g j,Cc c w s st b->BM p c.w0 r g j k a->g<=c.w0.heap.size->BK c.R h e a->(h=true\/e=true->b.isSome=true)->(q=(k&&silV a))->s.fuel<=f->
  Calls prog 62 #[P0 c.tb,P0 j,Bb st.pl st.en (Ce b)] w fun o w'=>Az c w s (FZ a b) (silK q a) (tryT c.G c.bs c.N f s.fuel s.far q a st) o w'
theorem TF.less{h f g hb b e}(a:TF h f g none b e):TF h f g hb b e:=⟨a.os,a.tape,a.output,a.size,fun r p j k o _=>a.block r p j k o kY⟩
theorem Core.trans{c w w1 w2 s f p hb b y E k o}(h:Core c w s hb y E w1 f)(a:Core c w1 f b k o w2 p)(z:b=hb\/b=none\/∀ g,b=some g->w.heap.size<=g):Core c w s hb k o w2 p:=by
 obtain⟨A,r,v⟩:=h.sp;obtain⟨B,u,x⟩:=a.sp;have F:=h.fr.size;have j:f.sv.ownBlock=s.sv.ownBlock\/∀ g,f.sv.ownBlock=some g->w.heap.size<=g:=by
  exact nO
 refine⟨a.tr,a.fuel,a.far,⟨A++B,by rw[u,r,bO],v.app x⟩,a.HX,?_,?_⟩;rcases z with e|e|e;subst e;exact h.fr.trans a.fr j (Or.inl rfl);subst e;exact h.fr.trans (a.fr.less (hb:=hb)) j (Or.inl rfl);exact h.fr.trans a.fr j (Or.inr e);rcases a.sv with e|⟨g,e,l⟩;rcases h.sv with aa|⟨g,aa,l⟩;exact Or.inl (e.trans aa);exact Or.inr ⟨g,e.trans aa,l⟩;exact Or.inr ⟨g,e,by omega⟩
theorem Core.refl{c w w' s}(a:A7 c.gb c.rb c.tb c.bs w' s)(f:TF c.tb c.rb none none w w')(e:s.Aw.length+s.fuel<=100000)(b):Core c w s b s.fuel s.far w' s:=
 ⟨a,rfl,rfl,⟨[],by simp,rfl⟩,e,f.any _ _,Or.inl rfl⟩
theorem Core.A9{c:Cx}(g:DO c){w w' s r st o f h p}(e:Cc c w s st o)(j:Core c w s f h p w' r)(k:∀ a,f=some a->c.tb<a):Below c.w0.heap.size c.w0 w':=by
 have u:=g.le;have v:=g.lt;have x:=e.tr.Ap.lt;exact e.A9.trans (j.fr.below kX kX kX (fun a b=>by have:=e.tr.D0 a b;omega) (fun a b=>by have:=k a b;omega))
theorem Cc.next{c:Cx}(r:DO c){w w'}{s o}{st j}{k g}{F S}(h:Cc c w s st k)(b:Core c w s g F S w' o)(u:g=none\/g=k)(O:o.read=j.rd)(M:o.nodes+j.Af=c.N)(L:Eb c.bs c.N j)(I:∀ b,k=some b->g=none->j.Ai=st.Ai)(J:∀ b,g=some b->EG w' b j.Ai):Cc c w' o j k:=by
 have K:∀ f,g=some f->c.tb<f:=fun f e=>by
  rcases u with a|a;rw[a]at e;cases e
  rw[a]at e;exact(h.hid f e).2.1
 obtain⟨Z,A,B⟩:=b.sp;refine⟨b.tr,b.A9 r h K,M,O,L,fun x v=>?_,b.HX,fun f e=>?_⟩;rw[A]at v;rcases aV.1 v with a|a;exact h.sp x a;have:=B.in x a;rw[h.rd,h.inv.rd]at this;exact this;obtain⟨y,U,z⟩:=h.hid f e;have Y:=Ac.lt y;refine⟨?_,U,?_⟩;rcases u with a|a;rw[I f e a];have X:=r.lt;exact b.fr.Ap y kX kX z (by rw[a];simp);exact J f (by rw[a];exact e);rcases b.sv with p|⟨V,p,l⟩;rw[p];exact z;rw[p];intro E;cases E;omega
theorem Az.ahead{c w w1 w' s f k A y e j z}(h:Core c w s none j z w1 f)(u:Az c w1 f k A y e w'):Az c w s k A y e w':=by
 have F:=h.fr.size;have o:Core c w s k j z w1 f:=⟨h.tr,h.fuel,h.far,h.sp,h.HX,h.fr.less,h.sv⟩;have E:f.sv.ownBlock=s.sv.ownBlock\/∀ g,f.sv.ownBlock=some g->w.heap.size<=g:=by
  exact nO
 rcases u with⟨a,b,d⟩|⟨a,b,v,x,d,e,j,g,i,J⟩|⟨a,b,v,x,u,d,e⟩;exact Or.inl ⟨a,b,o.fr.trans d E (Or.inl rfl)⟩;refine Or.inr (Or.inl ⟨a,b,v,x,d,o.trans e (Or.inl rfl),j,g,?_,J⟩);rcases i with⟨p,r⟩|⟨p,B,K,r,I⟩;exact Or.inl ⟨p,r⟩;exact Or.inr ⟨p,B,K,r,I.mono (fun _ _ _ h=>⟨rfl,h⟩) F (aB _)⟩;exact Or.inr (Or.inr ⟨a,b,v,x,u,d,o.trans e (Or.inl rfl)⟩)
theorem Az.fail{c w w1 w2 s b g o f far}(e st)(a:Core c w s g f far w1 b)(k:w2=w1.setCell (A0 c.tb 51) (I0 (max b.far e:Nat)))(j h):
 Az c w s g o (CK f far e st) (.returned (.tuple #[j,I0 h,.bool false])) w2:=by
 refine Or.inr (Or.inr ⟨rfl,rfl,{b with far:=max b.far e},j,h,rfl,?_⟩);subst k;exact⟨a.tr.set 51 _ (S5 c.gb c.rb c.bs b (max b.far e)) rfl rfl rfl,a.fuel,by simp only[CK];rw[a.far],a.sp,a.HX,a.fr.setCell _ _ (Or.inl rfl),a.sv⟩
theorem Tz{rd a e n}(b:AQ rd a e n=true)(o:e<=rd.length)(k:a<=e):JB rd [(a,a+n)] (FQ rd a (a+n) true):=by
 unfold AQ at b;simp only[aY,bD,fZ]at b;refine⟨by simp,by simp only;omega,fun i f g=>?_,rfl⟩;simp only at f g
 cases h:rd.getD i false with
 | false=>rfl
 | true=>
  have:((List.range n).any fun j=>rd.getD (a+j) false)=true:=(P8 rd a n).2 ⟨i-a,by omega,by rw[show a+(i-a)=i by omega];exact h⟩;rw[this]at b;cases b.2
theorem Core.read{c w w' s a e n b}(h:AQ s.read a e n=true)(j:e<=s.read.length)(g:a<=e)(r:s.Aw.length+s.fuel+1<=100000)(p:A7 c.gb c.rb c.tb c.bs w' (C2 s a n b))(k:TF c.tb c.rb s.sv.ownBlock none w w')(o:b.ownBlock=s.sv.ownBlock\/∃ f,b.ownBlock=some f/\w.heap.size<=f):
 Core c w s none s.fuel s.far w' (C2 s a n b):=
 ⟨p,rfl,rfl,⟨[(a,a+n)],rfl,Tz h j g⟩,by simp only[C2,aR,aX,cP];omega,k,o⟩
theorem fX(h:p:=by
 go_wp2_with fail;refine(DE c.gb c.rb c.tb c.bs u s a1.o st.pl).mono ?_;rintro e aq⟨rfl,cd⟩;have a2:=Aa cd;clear cd;simp only;go_wp2;go_ret3;rw[an.o];exact Az.fail st.pl st A.o a2.o _ _):p:=h
theorem gt(h:p:=by
 simp only[C2,BW,AB];rw[x]):p:=h
theorem Co(h:p:=by
 have:=ai.o.N;omega):p:=h
abbrev lk(h:PLift q->p:=by
 intro aa;rintro e u⟨rfl,am,v,k,ap⟩;have a0:=bz.o.size;have A:Hid (Core c w s none s.fuel s.far u (C2 s st.pl n am)):=Core.UP z (by rw[x,ao];exact ar) aj a3 bz.o v k ap;revert u am v k ap a0 A;exact aa.1):p:=h ⟨z⟩
abbrev l1(h:PLift q->p:=by
 intro aa;have av:=o.tr.Ap.lt;have ay:=p.lt;have ae:=p.bs;have aj:=o.inv.pl;have ar:=o.inv.en;have ao:=o.inv.rd;have x:=o.rd;revert av ay ae aj ar ao x;exact aa.1):p:=h ⟨z⟩
abbrev m1(h:PLift q->p:=by
 intro aa;refine(IC c.gb c.rb c.tb c.bs ae ad s au.o st.pl st.en n f aj ar kX z).mono ?_;rintro e u⟨rfl,v,k⟩;have A:=Aa (Core.refl v (bz.o.trans k (Or.inl rfl) (Or.inl rfl)) kX none);revert u v k A;exact aa.1):p:=h ⟨z⟩
theorem A7.Du{e f g bs w w' s}(a:A7 e f g bs w s)(b:Below w.heap.size w w'):A7 e f g bs w' s:=by
 refine⟨a.Ap.below b a.Ap.lt,a.rd.below b a.rd.lt,a.len,?_,a.lt⟩;refine a.own.kept (row:=none) ⟨b.os,b.tape,b.output,b.size,fun j h _=>b.block j h⟩ ?_
 cases o:s.sv.ownBlock with
 | none=>exact Or.inl rfl
 | some k=>exact Or.inr kY
theorem TF.Du{k g j f e b c}(h:TF k g j f e b)(a:Below b.heap.size b c):TF k g j f e c:=
 ⟨a.os.trans h.os,a.tape.trans h.tape,a.output.trans h.output,bQ h.size a.size,fun i v o p r u=>by rw[a.block i Fu,h.block i v o p r u]⟩
theorem Core.Du{c w w1 w2 s h e b g}(a:Core c w s e b g w1 h)(f:Below w1.heap.size w1 w2):Core c w s e b g w2 h:=⟨a.tr.Du f,a.fuel,a.far,a.sp,a.HX,a.fr.Du f,a.sv⟩
theorem Core.drewN{c w w1 s g e b f}(a:Core c w s e b f w1 g)(n):Core c w s e b f (w1.drewN n) g:=⟨a.tr.drewN n,a.fuel,a.far,a.sp,a.HX,a.fr.drewN n,a.sv⟩
theorem Core.UP{c w w1 w' s a f n e}(o:AQ s.read a f n=true)(p:f<=s.read.length)(j:a<=f)(k:s.Aw.length+s.fuel+1<=100000)(h:TF c.tb c.rb none none w w1)(v:A7 c.gb c.rb c.tb c.bs w' (C2 s a n e))(r:TF c.tb c.rb s.sv.ownBlock none w1 w')(u:e.ownBlock=s.sv.ownBlock\/∃ b,e.ownBlock=some b/\w1.heap.size<=b):
 Core c w s none s.fuel s.far w' (C2 s a n e):=by
 refine Core.read o p j k v ((h.any s.sv.ownBlock none).trans r (Or.inl rfl) (Or.inl rfl)) ?_;rcases u with g|⟨b,g,l⟩;exact Or.inl g;exact Or.inr ⟨b,g,by have:=h.size;omega⟩
theorem Az.dead{c w w1 s g a h fuel far st t}(e:Core c w s a fuel far w1 g)(b)(f:st.Af=c.N):Az c w s a h (Bs c.N fuel far st t) (.panicked (F7 7)) (w1.alloc b):=by
 unfold Bs;rw[aF f];exact Or.inl ⟨by simp[HP],rfl,e.fr.alloc b⟩
theorem Core.made{c w w1 w2 s f e h g m}(a:Core c w s e h g w1 f)(o:A7 c.gb c.rb c.tb c.bs w2 {f with nodes:=m})(k:TF c.tb c.rb none none w1 w2):Core c w s e h g w2 {f with nodes:=m}:=by
 obtain⟨p,j,b⟩:=a.sp;exact⟨o,a.fuel,a.far,⟨p,j,b⟩,a.HX,a.fr.trans (k.any s.sv.ownBlock e) (Or.inl rfl) (Or.inl rfl),a.sv⟩
theorem QV(a)(h0 : -9223372036854775808<=a)(b:a<=9223372036854775807):IntKind.i64.wrap a=a:=lI
def IT(N b a n:Nat)(t:aD UInt8)(st:PS):PO:=if AQ st.rd st.pl st.en n=true then Bs N b a (AB st n) t else CK b a st.pl st
theorem Zp{w a lo sb k n run}(b:Ac w a #[I0 k,.int .u32 n,.string run,.slice none 0 0] 177)(e:lo<=a)(f:some a≠sb)(g:0<=k/\k<=4)(h:0<=n/\n<4294967296)(o:run.size<=4000):
 FA 1 w lo w.heap.size sb a (HQ k n run []):=
 ⟨k,n,run,_,[],b,e,b.lt,f,Or.inl ⟨rfl,rfl⟩,fun q j=>by simp at j,rfl,⟨g.1,by omega⟩,h,fun p=>by omega,o⟩
theorem nr(h:p:=by
 have ab:=ah.o.2 (c.bs.extract st.pl (st.pl+n)) (c.bs.extract st.pl (st.pl+n)).size;have ac:=DS _ a4;exact(by omega:E (c.bs.extract st.pl (st.pl+n)) (c.bs.extract st.pl (st.pl+n)).size<4294967296)):p:=h
abbrev gq(h:PLift q->p:=by
 intro aa;simp only[bU,cK,bK,bS];repeat still_step
 refine bL ?_;unfold Oper.wp;go_simp;exact aa.1):p:=h ⟨z⟩
abbrev k7(h:PLift q->p:=by
 intro aa;have aw:some w.heap.size≠s.sv.ownBlock:=fun e=>by have:=af.o.tr.D0 _ e.symm;omega
 have ax:some b≠s.sv.ownBlock:=fun e=>by have:=af.o.tr.D0 _ e.symm;omega
 revert aw ax;exact aa.1):p:=h ⟨z⟩
abbrev ll(h:PLift q->p:=by
 intro aa;have r:=Aa (k.Ap bc.o kX kX aw kY);have al:=Aa (show Am u b j from k.Ap az.o kX kX ax kY);have b2:=k.size;revert r al b2;exact aa.1):p:=h ⟨z⟩
theorem Jc(c)(p:DO c)(w s st f b j)(n:Nat)(o:Cc c w s st none)(a3:s.Aw.length+s.fuel+1<=100000)(V:Am w b j)(a6:j.wd=(n:Int))(bo:n<=4)(br:b<c.rb)(F:Nat)(E:aA->Nat->Nat)(bm:F=179\/F=182)(Z:Aa0 F E):
 Calls prog 178 #[P0 c.tb,P0 b,Bb st.pl st.en f,.func (.func F) #[] #[]] w fun e w'=>Az c w s none false (IT c.N s.fuel s.far n (EY (E (c.bs.extract st.pl (st.pl+n)) (c.bs.extract st.pl (st.pl+n)).size)) st) e w':=by
 have ah:=Aa Z;clear Z;rcases bm with rfl|rfl;all_goals
  refine l1 ?_;intro av ay ae aj ar ao x;have bu:=V.lt;have af:=Aa o;have ai:=Aa p;have L:=Aa (o.tr.alloc (AD st.pl st.en f));have K:=Aa ((TF.refl c.tb c.rb none none w).alloc (AD st.pl st.en f));have g:=Aa (Ac.new w (X_1 st.pl st.en f) 159);have B:=Aa (show Am (w.alloc (AD st.pl st.en f)) b j from Ac.alloc V _);have X:(w.alloc (AD st.pl st.en f)).heap.size=w.heap.size+1:=kY;unfold AD at L K B X;clear o p V;unfold Bb;go_enter func178,ntmps178;go_wp2_with fail;generalize w.alloc (.cells (X_1 st.pl st.en f) 159)=a at*;have M:=g.o.c0;have bj:=g.o.c1;have bk:=g.o.c2;have a9:a.cell? (A0 b 2)=some (I0 n):=by rw[<- a6];exact B.o.cell 2
  refine AX 7 _ rfl rfl kZ kZ ?_;refine gq ?_;rw[show IntKind.u32.wrap (n:Int)=(n:Int)by rw[Mt];omega];have au:=Aa (L.o.drewN 1);have bz:=Aa (K.o.drewN 1);have bc:Hid (Ac a.drew w.heap.size (X_1 st.pl st.en f) 159):=g.o;have az:Hid (Am a.drew b j):=B.o;have bv:a.drew.heap.size=w.heap.size+1:=X;clear M bj bk a9 L K g B X;change Hid (A7 c.gb c.rb c.tb c.bs a.drew s)at au;change Hid (TF c.tb c.rb none none w a.drew)at bz;generalize a.drew=ad at*
  cases z:AQ s.read st.pl st.en n
  . have an:=Aa (show IT c.N s.fuel s.far n (EY (E (c.bs.extract st.pl (st.pl+n)) (c.bs.extract st.pl (st.pl+n)).size)) st=CK s.fuel s.far st.pl st by unfold IT;rw[<- x,z];rfl);refine m1 ?_;intro u v k A;have r:=Aa (k.Ap bc.o kX kX kY kY);have a1:=Aa v;clear v k z au bz bc az;have M:=r.o.c0;simp only;repeat still_step
    refine bL ?_;exact fX
  . have bl:AQ st.rd st.pl st.en n=true:=by rw[<- x];exact z
    have an:=Aa (show IT c.N s.fuel s.far n (EY (E (c.bs.extract st.pl (st.pl+n)) (c.bs.extract st.pl (st.pl+n)).size)) st=Bs c.N s.fuel s.far (AB st n) (EY (E (c.bs.extract st.pl (st.pl+n)) (c.bs.extract st.pl (st.pl+n)).size))by unfold IT;rw[bl];rfl);have a4:(c.bs.extract st.pl (st.pl+n)).size<=4:=bQ (Fp _ _ _) bo;refine(HD c.gb c.rb c.tb c.bs ae ad s au.o st.pl st.en n f aj ar kX z kX).mono ?_;refine lk ?_;intro u am v k ap a0 A;refine k7 ?_;intro aw ax;refine ll ?_;intro r al b2;clear v k z au bz bc az ap;simp only;repeat still_step
    refine bL ?_;go_wp2_with fail;refine(ah.o.1 (c.bs.extract st.pl (st.pl+n)) a4 u).mono ?_;rintro e aq⟨rfl,y⟩;have h:=Aa (A.o.Du y);have ba:=Aa (r.o.below y kX);have bf:=Aa (show Am aq b j from al.o.below y kX);have bx:=y.size;clear y A r al;have Y:Hid (E (c.bs.extract st.pl (st.pl+n)) (c.bs.extract st.pl (st.pl+n)).size<4294967296):=by
     exact nr
    generalize U:E (c.bs.extract st.pl (st.pl+n)) (c.bs.extract st.pl (st.pl+n)).size=O;have be:=Aa U;rw[U]at Y;clear U;simp only;go_wp2_with fail;have bq:=af.o.nd
    cases a5:s.nodes with
    | zero=>
     refine(Fb c.gb c.rb c.tb c.bs aq _ h.o.tr 0 O ByteArray.empty (.slice none 0 0) a5 rfl).mono ?_;rintro e J⟨rfl,a8⟩;have bi:=Aa a8;clear a8;simp only;go_wp2_with fail;refine⟨rfl,?_⟩;rw[an.o,bi.o];exact Az.dead h.o _ lS
    | succ m=>
     refine(Fs c.gb c.rb c.tb c.bs aq _ h.o.tr 0 O ByteArray.empty (.slice none 0 0) m a5 Co rfl).mono ?_;rintro e J⟨rfl,a7,I,ak,b0⟩;have bb:=Aa (I.Ap ba.o kX kX kY kY);have bg:=Aa (show Am J b j from I.Ap bf.o kX kX kY kY);have bd:=Aa (h.o.made a7 I);have bh:=Aa ak;clear a7 I ak;have M:=bb.o.c0;have a9:J.cell? (A0 b 2)=some (I0 n):=by rw[<- a6];exact bg.o.cell 2
     simp only;go_wp2_with fail;go_quiet (fail);go_wp2;go_ret3;rw[an.o];have bp:¬ (AB st n).Af=c.N:=lS;unfold Bs;rw[aC bp];refine Or.inr (Or.inl ⟨rfl,rfl,_,_,rfl,bd.o.drewN nq,?_,?_,Or.inr ⟨rfl,1,aq.heap.size,rfl,?_⟩,fun S e=>by cases e⟩);exact gt;simp only[BW,AB];omega;have S:=Zp (w:=J.drewN nq) (lo:=w.heap.size) (sb:=am.ownBlock) bh.o kX (fun e=>by have:=h.o.tr.D0 _ e.symm;omega) (k:=0) (n:=(O:Int)) (run:=ByteArray.empty) ⟨by omega,by omega⟩ ⟨by omega,by have:=Y.o;omega⟩ kY;rw[<- be.o]at S;exact S
theorem Pp(h:p:=by
 unfold AQ at ab;simp only[aY,bD]at ab;exact ab.1):p:=h
abbrev m6(h:PLift q->p:=by
 intro aa;simp only[aP,aS,aJ,aK,bK,bS];refine Ab _ rfl (fun W a=>rfl) ?_;refine Ab _ rfl (fun W a=>rfl) ?_;refine Ab _ rfl (fun W a=>by go_simp;rfl) ?_;refine Ab _ rfl (fun W a=>rfl) ?_;exact aa.1):p:=h ⟨z⟩
abbrev m7(h:PLift q->p:=by
 intro aa;refine Ab (I0 st.pl) rfl (fun W a=>by go_simp) ?_;refine Ab _ rfl (fun W a=>rfl) ?_;refine Ab _ rfl (fun W a=>by go_simp;rfl) ?_;refine Ab _ rfl (fun W a=>by go_simp;rfl) ?_;refine Ag ?_;unfold Oper.wp;go_simp;exact aa.1):p:=h ⟨z⟩
abbrev m8(h:PLift q->p:=by
 intro aa;refine BF (fun W=>W.cell? (A0 w.heap.size 0)=some (I0 st.pl)) [0,1,2,4,5,6,7,8] 3 9 _ _ _ rfl rfl rfl rfl kZ kZ (fun _ _ d _ _ h=>by cases d<;>exact h) ?_ ac;exact aa.1):p:=h ⟨z⟩
theorem Lz(c)(p:DO c)(w)(s)(st)(f)(n:Nat)(o:Cc c w s st none)(a3:s.Aw.length+s.fuel+1<=100000)(X:n<4294967296):
 Calls prog 192 #[P0 c.tb,Bb st.pl st.en f,.int .u32 n] w fun e w'=>Az c w s none false (IT c.N s.fuel s.far n (CE (c.bs.extract st.pl (st.pl+n))) st) e w':=by
 refine l1 ?_;intro av ay ae aj ar ao x;have y:=Aa o;have ai:=Aa p;have au:=Aa (o.tr.alloc (AD st.pl st.en f));have bz:=Aa ((TF.refl c.tb c.rb none none w).alloc (AD st.pl st.en f));have b:=Aa (Ac.new w (X_1 st.pl st.en f) 159);have V:(w.alloc (AD st.pl st.en f)).heap.size=w.heap.size+1:=kY;unfold AD at au bz V;clear o p;unfold Bb;go_enter func192,ntmps192;go_wp2_with fail;generalize w.alloc (.cells (X_1 st.pl st.en f) 159)=ad at*
 cases z:AQ s.read st.pl st.en n
 have an:=Aa (show IT c.N s.fuel s.far n (CE (c.bs.extract st.pl (st.pl+n))) st=CK s.fuel s.far st.pl st by unfold IT;rw[<- x,z];rfl);refine m1 ?_;intro u v k A;have g:=Aa (k.Ap b.o kX kX kY kY);have a1:=Aa v;clear v k z au bz b;have ac:=g.o.c0;simp only;exact fX;have ab:AQ st.rd st.pl st.en n=true:=by rw[<- x];exact z
 have Z:n<=st.en-st.pl:=by
  exact Pp
 have an:=Aa (show IT c.N s.fuel s.far n (CE (c.bs.extract st.pl (st.pl+n))) st=Bs c.N s.fuel s.far (AB st n) (CE (c.bs.extract st.pl (st.pl+n)))by unfold IT;rw[ab];rfl);refine(HD c.gb c.rb c.tb c.bs ae ad s au.o st.pl st.en n f aj ar kX z kX).mono ?_;refine lk ?_;intro u am v k ap a0 A;have S:some w.heap.size≠s.sv.ownBlock:=fun e=>by have:=y.o.tr.D0 _ e.symm;omega
 have g:=Aa (k.Ap b.o kX kX S kY);have af:=k.size;have ak:(c.bs.extract st.pl (st.pl+n)).size=n:=lG;clear v k z au bz b ap;have ac:=g.o.c0;simp only;go_wp2_with fail;have Y:=y.o.nd
 cases E:s.nodes with
 | zero=>
  have L:=Aa (fun W (h:A7 c.gb c.rb c.tb c.bs W (C2 s st.pl n am))=>Fb c.gb c.rb c.tb c.bs W _ h 2 0 (c.bs.extract st.pl (st.pl+n)) (.slice none 0 0) E rfl);refine m8 ?_;refine m6 ?_;refine m7 ?_;refine(L.o _ (A.o.tr.drewN 1)).mono ?_;rintro e r⟨rfl,rfl⟩;simp only;refine⟨rfl,?_⟩;rw[an.o];exact Az.dead (A.o.drewN 1) _ lS
 | succ m=>
  have M:=Aa (fun W (h:A7 c.gb c.rb c.tb c.bs W (C2 s st.pl n am))=>Fs c.gb c.rb c.tb c.bs W _ h 2 0 (c.bs.extract st.pl (st.pl+n)) (.slice none 0 0) m E Co rfl);refine m8 ?_;refine m6 ?_;refine m7 ?_;refine(M.o _ (A.o.tr.drewN 1)).mono ?_;rintro e r⟨rfl,I,j,B,F⟩;have K:=Aa ((A.o.drewN 1).made I j);have J:=Aa (j.Ap (show Ac (u.drewN 1) w.heap.size _ _ from g.o) kX kX kY kY);have O:=Aa B;have ah:r.heap.size=u.heap.size+1:=F;clear I j B F;simp only;refine⟨J.o.cell 0,?_⟩;repeat still_step
  refine bL ?_;go_wp2;go_ret3;rw[an.o];have U:¬ (AB st n).Af=c.N:=lS;unfold Bs;rw[aC U];refine Or.inr (Or.inl ⟨rfl,rfl,_,_,?_,K.o,?_,?_,Or.inr ⟨rfl,1,u.heap.size,rfl,?_⟩,fun h e=>by cases e⟩);simp[BW,AB];exact QV _ kX kX;exact gt;simp only[BW,AB];omega;exact Zp (w:=r) (lo:=w.heap.size) (sb:=am.ownBlock) O.o kX (fun e=>by have:=A.o.tr.D0 _ e.symm;omega) (k:=2) (n:=0) (run:=c.bs.extract st.pl (st.pl+n)) ⟨by omega,by omega⟩ ⟨by omega,by omega⟩ kX
theorem n1(h:p:=by
 go_wp2_with fail;refine a.o.mono (Az.through ab.o (fun w2 _ h=>?_) (fun v k b w2 h=>?_))
 . have ao:=Aa h;simp only;go_wp2_with fail;exact⟨rfl,ao.o⟩
 have ao:=Aa h;simp only;go_wp2;go_ret3;exact ao.o):p:=h
theorem AL(h:p:=by
 rw[hxc];rfl):p:=h
abbrev ln(h:PLift q->p:=by
 intro aa;have a:=Aa ac;have ab:Hid (Core c w s .none s.fuel s.far (w.alloc (AD st.pl st.en (Ce f))) s):=Core.refl (o.tr.alloc _) ((TF.refl c.tb c.rb .none .none w).alloc _) kX _;unfold AD at a ab;revert a ab;exact aa.1):p:=h ⟨z⟩
theorem Cc.alloc{c}(g:DO c){w s st h}(a:Cc c w s st h)(b):Cc c (w.alloc b) s st h:=by
 have o:=a.tr.Ap.lt;have j:=g.le;have k:=g.lt;exact⟨a.tr.alloc b,a.A9.alloc kX b,a.nd,a.rd,a.inv,a.sp,a.HX,fun f e=>⟨Ac.alloc (a.hid f e).1 b,(a.hid f e).2⟩⟩
theorem Cc.drewN{c w s st f}(a:Cc c w s st f)(n):Cc c (w.drewN n) s st f:=
 ⟨a.tr.drewN n,⟨a.A9.os,a.A9.tape,a.A9.output,a.A9.size,a.A9.block⟩,a.nd,a.rd,a.inv,a.sp,a.HX,fun e b=>⟨(a.hid e b).1,(a.hid e b).2⟩⟩
theorem Cc.none{c w s st e}(a:Cc c w s st e):Cc c w s st .none:=⟨a.tr,a.A9,a.nd,a.rd,a.inv,a.sp,a.HX,fun _ b=>by cases b⟩
theorem EG.cell{w b}{a:Nat->Nat × Nat}(e:EG w b a)(d)(f:d<8):w.cell? (A0 b (d*2))=some (.int .u32 (a d).1)/\w.cell? (A0 b (d*2+1))=some (I0 (a d).2):=by
 refine k4 ?_;intro ab;rw[Ac.cell e,Ac.cell e];exact g9
theorem M6(bs N a q f e st)(g:a.c=110\/a.c=108):
 AJ bs N a q f e st=IT N f e a.w.toNat (EY (Ie a (bs.extract st.pl (st.pl+a.w.toNat)))) st:=by
 have h:Bl a st=a.w.toNat:=by unfold Bl;rcases g with b|b<;>simp[b]
 unfold AJ IT;rw[h];rcases g with b|b<;>simp[b,Ae]
theorem Na(bs N a q e b st)(g:a.c=114\/a.c=46):
 AJ bs N a q e b st=IT N e b (Bl a st) (CE (bs.extract st.pl (st.pl+Bl a st))) st:=by
 unfold AJ IT;rcases g with f|f<;>simp[f]
theorem Az.through{c}{w w1}{s}{g}{p}{f}(y:Core c w s .none s.fuel s.far w1 s){P:Ending->aE->Prop}(x:∀ w2,TF c.tb c.rb s.sv.ownBlock g w w2->Az c w s g p f (.panicked (F7 f.e)) w2->P (.panicked (F7 f.e)) w2)(r:∀ b (h:Int) a w2,Az c w s g p f (.returned (.tuple #[b,I0 h,.bool a])) w2->P (.returned (.tuple #[b,I0 h,.bool a])) w2):
 ∀ j w2,Az c w1 s g p f j w2->P j w2:=by
 intro j w2 u;have v:=Az.ahead y u;rcases v with⟨e,a,d⟩|⟨e,a,o,b,d,k⟩|⟨e,a,o,b,h,d,k⟩;subst a;exact x w2 d (Or.inl ⟨e,rfl,d⟩);subst d;exact r _ _ _ _ (Or.inr (Or.inl ⟨e,a,o,b,rfl,k⟩));subst d;exact r _ _ _ _ (Or.inr (Or.inr ⟨e,a,o,b,h,rfl,k⟩))
theorem QA(c)(p:DO c)(w s st f g j e q)(o:Cc c w s st f)(x:s.Aw.length+s.fuel+1<=100000)(A:Am w g j)(y:He e j)(B:Kc e)(hxc:e.c=110)(z:g<c.rb):
 Calls prog 120 #[P0 c.tb,P0 g,Bb st.pl st.en (Ce f)] w fun r w'=>Az c w s none false (AJ c.bs c.N e q s.fuel s.far st) r w':=by
 have E:=B.w AL;have u:AJ c.bs c.N e q s.fuel s.far st=IT c.N s.fuel s.far e.w.toNat (EY (hiV (c.bs.extract st.pl (st.pl+e.w.toNat)) (c.bs.extract st.pl (st.pl+e.w.toNat)).size)) st:=by
  rw[M6 _ _ _ _ _ _ _ (Or.inl hxc)];unfold Ie;rw[aC kX]
 have ac:=Jc c p (w.alloc (AD st.pl st.en (Ce f))) s st (Ce f) g j e.w.toNat (o.alloc p _).none x (Ac.alloc A _) (by rw[y.wd];omega) kX z _ _ (Or.inl rfl) Yp;rw[<- u]at ac;refine ln ?_;intro a ab;unfold Bb at a⊢;go_enter func120,ntmps120;exact n1
theorem Xc(c)(p:DO c)(w s st f g j e q)(o:Cc c w s st f)(x:s.Aw.length+s.fuel+1<=100000)(A:Am w g j)(y:He e j)(B:Kc e)(hxc:e.c=108)(z:g<c.rb):
 Calls prog 123 #[P0 c.tb,P0 g,Bb st.pl st.en (Ce f)] w fun r w'=>Az c w s none false (AJ c.bs c.N e q s.fuel s.far st) r w':=by
 have E:=B.w AL;have u:AJ c.bs c.N e q s.fuel s.far st=IT c.N s.fuel s.far e.w.toNat (EY (Mm (c.bs.extract st.pl (st.pl+e.w.toNat)) (c.bs.extract st.pl (st.pl+e.w.toNat)).size)) st:=by
  rw[M6 _ _ _ _ _ _ _ (Or.inr hxc)];unfold Ie;rw[aF kX]
 have ac:=Jc c p (w.alloc (AD st.pl st.en (Ce f))) s st (Ce f) g j e.w.toNat (o.alloc p _).none x (Ac.alloc A _) (by rw[y.wd];omega) kX z _ _ (Or.inr rfl) Aaf;rw[<- u]at ac;refine ln ?_;intro a ab;unfold Bb at a⊢;go_enter func123,ntmps123;exact n1
theorem Uo(c)(g:DO c)(w s st f x e q)(o:Cc c w s st f)(r:s.Aw.length+s.fuel+1<=100000)(j:e.c=46):
 Calls prog 157 #[P0 c.tb,P0 x,Bb st.pl st.en (Ce f)] w fun p w'=>Az c w s none false (AJ c.bs c.N e q s.fuel s.far st) p w':=by
 have A:=o.inv.pl;have z:=o.inv.en;have y:=g.bs;have u:Bl e st=st.en-st.pl:=by unfold Bl;simp[j]
 have ac:=Lz c g (w.alloc (AD st.pl st.en (Ce f))) s st (Ce f) (Bl e st) (o.alloc g _).none r kX;rw[<- Na c.bs c.N e q s.fuel s.far st (Or.inr j),u,show((st.en-st.pl:Nat):Int)=(st.en:Int)-(st.pl:Int)by omega]at ac;refine ln ?_;intro a ab;unfold Bb at a⊢;go_enter func157,ntmps157;exact n1
theorem WX(c)(u:DO c)(w s st a e j b q)(h:Cc c w s st (some a))(A:s.Aw.length+s.fuel+1<=100000)(J:Am w e j)(F:He b j)(K:Kc b)(hxc:b.c=114)(_hpb:e<c.rb):
 Calls prog 145 #[P0 c.tb,P0 e,Bb st.pl st.en (Ce (some a))] w fun z w'=>Az c w s none false (AJ c.bs c.N b q s.fuel s.far st) z w':=by
 have U:=K.it.d AL;obtain⟨d,v⟩:∃ d:Nat,b.d=(d:Int):=⟨b.d.toNat,by omega⟩;have B:d<8:=kX;have V:(d:Int)<8:=kX;have E:j.dp=(d:Int):=by rw[(F.dp AL).1,v]
 have X:=(h.inv.Ai d).1;have I:Bl b st=(st.Ai d).1:=by unfold Bl;simp[hxc,v]
 have x:=Lz c u ((w.alloc (AD st.pl st.en (Ce (some a)))).drewN 1) s st (Ce (some a)) (Bl b st) ((h.alloc u _).none.drewN 1) A kX;rw[<- Na c.bs c.N b q s.fuel s.far st (Or.inl hxc),I]at x;have g:=Aa x;have r:Hid (Core c w s .none s.fuel s.far ((w.alloc (AD st.pl st.en (Ce (some a)))).drewN 1) s):=Core.refl ((h.tr.alloc _).drewN 1) (((TF.refl c.tb c.rb .none .none w).alloc _).drewN 1) kX _;have f:=Aa (Ac.new w (X_1 st.pl st.en (Ce (some a))) 159);have p:=Aa (show Am (w.alloc (AD st.pl st.en (Ce (some a)))) e j from Ac.alloc J _);have o:=Aa (show EG (w.alloc (AD st.pl st.en (Ce (some a)))) a st.Ai from Ac.alloc (h.hid a rfl).1 _);unfold AD at g r p o;unfold Bb at g⊢;simp only[Ce,cO]at g r f p o⊢;go_enter func145,ntmps145;go_wp2_with fail;generalize w.alloc (.cells (X_3 st.pl st.en a) 159)=y at*;have L:=f.o.c0;have M:=f.o.c1;have O:=f.o.c2;have Z:y.cell? (A0 e 3)=some (I0 d):=by rw[<- E];exact p.o.cell 3
 have h0:=(o.o.cell d B).1;refine AX 12 _ rfl rfl kZ kZ ?_;refine gq ?_;refine g.o.mono (Az.through r.o (fun w2 _ a=>?_) (fun ab Y S w2 a=>?_));have k:=Aa a;simp only;exact⟨rfl,k.o⟩;have k:=Aa a;simp only;repeat still_step
 refine bL ?_;go_wp2;go_ret3;exact k.o
abbrev l2(h:PLift q->p:=by
 intro aa;simp only[aP,aS,aJ,aK,bK,bS];exact aa.1):p:=h ⟨z⟩
abbrev m3(h:PLift q->p:=by
 intro aa;refine Ab _ rfl (fun W a=>rfl) ?_;refine Ab _ rfl (fun W a=>by go_simp;rfl) ?_;refine Ab _ rfl (fun W a=>rfl) ?_;refine Ab (I0 st.pl) rfl (fun W a=>by go_simp) ?_;refine Ab _ rfl (fun W a=>by go_simp;rfl) ?_;refine Ag ?_;unfold Oper.wp;go_simp;exact aa.1):p:=h ⟨z⟩
theorem Aca(bs a)(b:a<bs.size):∃ h0:0<(bs.extract a (a+1)).size,((bs.extract a (a+1))[0].toNat:Int)=bt bs a:=by
 have e:(bs.extract a (a+1)).size=1:=lG;refine⟨by omega,?_⟩;rw[Cs bs a b];simp[jU]
theorem SD(c)(p:DO c)(w s st v b j f q)(o:Cc c w s st v)(bd:s.Aw.length+s.fuel+1<=100000)(Z:Am w b j)(be:He f j)(_:Kc f)(a2:f.c=39)(bo:b<c.rb)(bg:j.sl=q):
 Calls prog 125 #[P0 c.tb,P0 b,Bb st.pl st.en (Ce v)] w fun e w'=>Az c w s none q (AJ c.bs c.N f q s.fuel s.far st) e w':=by
 refine l1 ?_;intro av ay ae aj ar ao x;have bp:=Z.lt;have bi:=be.vl;have am:Bl f st=1:=by unfold Bl;rw[aF a2]
 have af:=Aa o;have ai:=Aa p;have F:=Aa (o.tr.alloc (AD st.pl st.en (Ce v)));have z:=Aa ((TF.refl c.tb c.rb none none w).alloc (AD st.pl st.en (Ce v)));have bc:=Aa (Ac.new w (X_1 st.pl st.en (Ce v)) 159);have az:=Aa (show Am (w.alloc (AD st.pl st.en (Ce v))) b j from Ac.alloc Z _);have bh:(w.alloc (AD st.pl st.en (Ce v))).heap.size=w.heap.size+1:=kY;unfold AD at F z bh az;clear o p Z;unfold Bb;generalize Ce v=S at*;go_enter func125,ntmps125;go_wp2_with fail;generalize w.alloc (.cells (X_1 st.pl st.en S) 159)=ad at*
 cases y:AQ s.read st.pl st.en 1
 . have A:=Aa (show AJ c.bs c.N f q s.fuel s.far st=CK s.fuel s.far st.pl st by unfold AJ;rw[am,<- x,y];rfl);refine(IC c.gb c.rb c.tb c.bs ae ad s F.o st.pl st.en 1 S aj ar kX y).mono ?_;rintro e u⟨rfl,L,k⟩;have E:=Aa (Core.refl L (z.o.trans k (Or.inl rfl) (Or.inl rfl)) kX none);have r:=Aa (k.Ap bc.o kX kX kY kY);clear L k y F z bc;simp only;go_wp2_with fail;go_quiet (fail);have X:(u.drewN nq).cell? (A0 w.heap.size 0)=some (I0 st.pl):=r.o.cell 0;go_wp2_with fail;refine(DE c.gb c.rb c.tb c.bs (u.drewN nq) s (E.o.tr.drewN nq) st.pl).mono ?_;rintro e b0⟨rfl,a0⟩;have a9:=Aa a0;clear a0;simp only;go_wp2;go_ret3;rw[A.o];exact Az.fail st.pl st (E.o.drewN nq) a9.o _ _
 have ab:AQ st.rd st.pl st.en 1=true:=by rw[<- x];exact y
 have bm:1<=st.en-st.pl:=by
  exact Pp
 have A:=Aa (show AJ c.bs c.N f q s.fuel s.far st=if(bn c.bs st.pl:Int)≠f.b then CK s.fuel s.far st.pl st else if q then BW s.fuel s.far (AB st 1) []else Bs c.N s.fuel s.far (AB st 1) [45]by unfold AJ;rw[am,ab,aF rfl,aF a2]);obtain⟨bv,bx⟩:=Aca c.bs st.pl kX;refine(HD c.gb c.rb c.tb c.bs ae ad s F.o st.pl st.en 1 S aj ar kX y kX).mono ?_;rintro e u⟨rfl,U,L,k,aq⟩;have bk:=z.o.size;have E:Hid (Core c w s none s.fuel s.far u (C2 s st.pl 1 U)):=Core.UP y (by rw[x,ao];exact ar) aj bd z.o L k aq;refine k7 ?_;intro aw ax;refine ll ?_;intro r al b2;clear L k y F z bc az aq;have bj:u.cell? (A0 b 5)=some (.int .u8 f.b):=by rw[<- bi];exact al.o.cell 5
 simp only;go_wp2_with fail;go_quiet (fail);have h:=Aa (E.o.drewN nq);have ac:Hid (Ac (u.drewN nq) w.heap.size (X_1 st.pl st.en S) 159):=r.o;have a7:Hid (Am (u.drewN nq) b j):=al.o;have bq:w.heap.size<(u.drewN nq).heap.size:=(by omega:w.heap.size<u.heap.size);generalize u.drewN nq=I at*;clear E r al bj;have X:=ac.o.c0;have bz:I.cell? (A0 b 7)=some (.bool q):=by rw[<- bg];exact a7.o.cell 7
 have ak:=F0 c.bs st.pl;by_cases O:bt c.bs st.pl=f.b
 . have bb:(bt c.bs st.pl != f.b)=false:=by simp[O]
   have J:AJ c.bs c.N f q s.fuel s.far st=if q then BW s.fuel s.far (AB st 1) []else Bs c.N s.fuel s.far (AB st 1) [45]:=by rw[A.o,aC (by rw[ak,O];simp)]
   have B:=Aa J;clear J A
   cases q
   . have K:AJ c.bs c.N f false s.fuel s.far st=Bs c.N s.fuel s.far (AB st 1) [45]:=B.o;have M:=Aa K;clear K B;go_wp2_with fail;have bl:=af.o.nd
     cases an:s.nodes with
     | zero=>
      have a5:=Aa (fun W (g:A7 c.gb c.rb c.tb c.bs W (C2 s st.pl 1 U))=>Fb c.gb c.rb c.tb c.bs W _ g 1 0 ByteArray.empty (.slice none 0 0) an rfl);refine BF (fun W=>W.cell? (A0 w.heap.size 0)=some (I0 st.pl)) [0,1,3,4,5] 2 6 _ _ _ rfl rfl rfl rfl kZ kZ (fun _ _ d _ _ g=>by cases d<;>exact g) ?_ X;refine l2 ?_;refine m3 ?_;refine(a5.o _ (h.o.tr.drewN 1)).mono ?_;rintro e V⟨rfl,rfl⟩;simp only;refine⟨rfl,?_⟩;rw[M.o];exact Az.dead (h.o.drewN 1) _ lS
     | succ m=>
      have a6:=Aa (fun W (g:A7 c.gb c.rb c.tb c.bs W (C2 s st.pl 1 U))=>Fs c.gb c.rb c.tb c.bs W _ g 1 0 ByteArray.empty (.slice none 0 0) m an Co rfl);refine BF (fun W=>W.cell? (A0 w.heap.size 0)=some (I0 st.pl)) [0,1,3,4,5] 2 6 _ _ _ rfl rfl rfl rfl kZ kZ (fun _ _ d _ _ g=>by cases d<;>exact g) ?_ X;refine l2 ?_;refine m3 ?_;refine(a6.o _ (h.o.tr.drewN 1)).mono ?_;rintro e V⟨rfl,au,Y,ah,ap⟩;have a4:=Aa ((h.o.drewN 1).made au Y);have a3:=Aa (Y.Ap (show Ac (I.drewN 1) w.heap.size _ _ from ac.o) kX kX kY kY);have a8:=Aa ah;have br:V.heap.size=I.heap.size+1:=ap;clear au Y ah ap;simp only;refine⟨a3.o.cell 0,?_⟩;repeat still_step
      refine bL ?_;go_wp2;go_ret3;rw[M.o];have bf:¬ (AB st 1).Af=c.N:=lS;unfold Bs;rw[aC bf];refine Or.inr (Or.inl ⟨rfl,rfl,_,_,?_,a4.o,?_,?_,Or.inr ⟨rfl,1,I.heap.size,rfl,?_⟩,fun g e=>by cases e⟩);simp[BW,AB];exact QV _ kX kX;exact gt;simp only[BW,AB];omega;exact Zp (w:=V) (lo:=w.heap.size) (sb:=U.ownBlock) a8.o kX (fun e=>by have:=h.o.tr.D0 _ e.symm;omega) (k:=1) (n:=0) (run:=ByteArray.empty) ⟨by omega,by omega⟩ ⟨by omega,by omega⟩ kY
   . have K:AJ c.bs c.N f true s.fuel s.far st=BW s.fuel s.far (AB st 1) []:=B.o;have M:=Aa K;clear K B;go_wp2_with fail;go_quiet (fail);go_wp2;go_ret3;rw[M.o];refine Or.inr (Or.inl ⟨rfl,rfl,_,_,?_,h.o.drewN nq,?_,?_,Or.inl ⟨rfl,rfl⟩,fun g e=>by cases e⟩);simp[BW,AB];exact gt;simp only[C2,BW,AB];exact af.o.nd
 have bb:(bt c.bs st.pl != f.b)=true:=by simp[O]
 have J:AJ c.bs c.N f q s.fuel s.far st=CK s.fuel s.far st.pl st:=by rw[A.o,aF (by rw[ak];exact O)]
 have B:=Aa J;clear J A;go_wp2_with fail;refine(DE c.gb c.rb c.tb c.bs I _ h.o.tr st.pl).mono ?_;rintro e V⟨rfl,a1⟩;have ba:=Aa a1;clear a1;simp only;go_wp2;go_ret3;rw[B.o];exact Az.fail st.pl st h.o ba.o _ _
def Zo(b:Nat->Nat × Nat)(d:Nat)(e n:Nat):Nat->Nat × Nat:=fun a=>if a=d then(e,n)else b a
theorem SP(a:Nat->Nat × Nat)(d)(e:d<8)(b n:Nat):((F2 a).setIfInBounds (d*2) (.int .u32 b)).setIfInBounds (d*2+1) (I0 n)=F2 (Zo a d b n):=by
 refine k4 ?_;intro ab;exact DI
theorem EG.set{w a}{e:Nat->Nat × Nat}(g:EG w a e)(d)(f:d<8)(b n:Nat):EG ((w.setCell (A0 a (d*2)) (.int .u32 b)).setCell (A0 a (d*2+1)) (I0 n)) a (Zo e d b n):=by
 have:=Ac.set (Ac.set g (d*2) (.int .u32 b)) (d*2+1) (I0 n);rw[SP _ _ f]at this;exact this
def QC(b a n d e:Nat)(st:PS):PO:=if AQ st.rd st.pl st.en n=true then BW b a {AB st n with Ai:=Zo st.Ai d e n} []else CK b a st.pl st
theorem A7.Ad{j f g bs w s}(b:A7 j f g bs w s)(a h)(k:a.block≠g)(o:a.block≠f)(p:some a.block≠s.sv.ownBlock):A7 j f g bs (w.setCell a h) s:=by
 refine⟨Ac.Ad b.Ap a (fB k) h,Ac.Ad b.rd a (fB o) h,b.len,?_,b.lt⟩;refine b.own.kept (row:=some a.block) ⟨rfl,rfl,rfl,by simp[World.setCell],fun x _ r=>aN _ _ _ _ (by intro e;exact r (by rw[e]))⟩ ?_
 cases u:s.sv.ownBlock with
 | none=>exact Or.inl rfl
 | some v=>exact Or.inr (by intro e;cases e;exact p u.symm)
theorem Core.hid{c w w1 s b e o h}(a:Core c w s none e o w1 b)(f:h≠c.tb)(g:h≠c.rb)(j:some h≠b.sv.ownBlock)(i k p v):Core c w s (some h) e o ((w1.setCell (A0 h i) p).setCell (A0 h k) v) b:=
 ⟨(a.tr.Ad (A0 h i) p f g j).Ad (A0 h k) v f g j,a.fuel,a.far,a.sp,a.HX,((a.fr.less (hb:=some h)).setCell _ _ (Or.inr (Or.inr (Or.inr (Or.inl rfl))))).setCell _ _ (Or.inr (Or.inr (Or.inr (Or.inl rfl)))),a.sv⟩
abbrev l3(h:PLift q->p:=by
 intro aa;refine AH (P0 b) rfl (fun W a=>by obtain⟨ad,ak,B,y⟩:=a;go_simp) (fun h g=>?_);go_simp;refine g _ ?_;exact aa.1):p:=h ⟨z⟩
theorem MH(c)(p:DO c)(w s st f b j)(n d:Nat)(o:Cc c w s st (some f))(a3:s.Aw.length+s.fuel+1<=100000)(a9:Am w b j)(X:j.wd=(n:Int))(b9:n<=4)(bj:j.dp=(d:Int))(a8:d<8)(cn:b<c.rb)(S:Nat)(E:aA->Nat->Nat)(b7:S=179\/S=182)(bi:Aa0 S E):
 Calls prog 190 #[P0 c.tb,P0 b,Bb st.pl st.en (some (A0 f 0)),.func (.func S) #[] #[]] w fun e w'=>Az c w s (some f) true (QC s.fuel s.far n d (E (c.bs.extract st.pl (st.pl+n)) (c.bs.extract st.pl (st.pl+n)).size) st) e w':=by
 have ah:=Aa bi;clear bi;obtain⟨F,J⟩:∃ F:aI,F=.func (.func S) #[] #[]:=⟨_,rfl⟩;have be:=Aa J;clear J;rcases b7 with rfl|rfl;all_goals
  refine l1 ?_;intro av ay ae aj ar ao x;have cq:=a9.lt;have af:=Aa o;have cf:=Aa p;have a5:=Aa (o.tr.alloc (AD st.pl st.en (some (A0 f 0))));have Z:=Aa ((TF.refl c.tb c.rb none none w).alloc (AD st.pl st.en (some (A0 f 0))));have L:=Aa (Ac.new w (X_3 st.pl st.en f) 159);have U:=Aa (show Am (w.alloc (AD st.pl st.en (some (A0 f 0)))) b j from Ac.alloc a9 _);have ba:(w.alloc (AD st.pl st.en (some (A0 f 0)))).heap.size=w.heap.size+1:=kY;have ai:=Aa (show EG (w.alloc (AD st.pl st.en (some (A0 f 0)))) f st.Ai from Ac.alloc (o.hid f rfl).1 _);unfold AD at a5 Z U ba ai;clear o p a9;unfold Bb;go_enter func190,ntmps190;go_wp2_with fail;generalize w.alloc (.cells (X_3 st.pl st.en f) 159)=I at*;have V:=L.o.c0;have b0:=L.o.c1;have a6:=L.o.c2;have cb:I.cell? (A0 b 2)=some (I0 n):=by rw[<- X];exact U.o.cell 2
  refine AX 7 _ rfl rfl kZ kZ ?_;refine gq ?_;rw[show IntKind.u32.wrap (n:Int)=(n:Int)by rw[Mt];omega];have O:=Aa (a5.o.drewN 1);have bz:=Aa (Z.o.drewN 1);have bc:Hid (Ac I.drew w.heap.size (X_3 st.pl st.en f) 159):=L.o;have az:Hid (Am I.drew b j):=U.o;have cr:I.drew.heap.size=w.heap.size+1:=ba;clear V b0 a6 cb a5 Z L U ba;change Hid (EG I.drew f st.Ai)at ai;change Hid (A7 c.gb c.rb c.tb c.bs I.drew s)at O;change Hid (TF c.tb c.rb none none w I.drew)at bz;generalize I.drew=bg at*
  cases z:AQ s.read st.pl st.en n
  . have an:=Aa (show QC s.fuel s.far n d (E (c.bs.extract st.pl (st.pl+n)) (c.bs.extract st.pl (st.pl+n)).size) st=CK s.fuel s.far st.pl st by unfold QC;rw[<- x,z];rfl);refine(IC c.gb c.rb c.tb c.bs ae bg s O.o st.pl st.en n (some (A0 f 0)) aj ar kX z).mono ?_;rintro e u⟨rfl,v,k⟩;have A:=Aa (Core.refl v (bz.o.trans k (Or.inl rfl) (Or.inl rfl)) kX (some f));have r:=Aa (k.Ap bc.o kX kX kY kY);have a1:=Aa v;clear v k z O bz bc az;have V:=r.o.c0;simp only;repeat still_step
    refine bL ?_;exact fX
  . have b6:AQ st.rd st.pl st.en n=true:=by rw[<- x];exact z
    have an:=Aa (show QC s.fuel s.far n d (E (c.bs.extract st.pl (st.pl+n)) (c.bs.extract st.pl (st.pl+n)).size) st=BW s.fuel s.far {AB st n with Ai:=Zo st.Ai d (E (c.bs.extract st.pl (st.pl+n)) (c.bs.extract st.pl (st.pl+n)).size) n} []by unfold QC;rw[b6];rfl);have a4:(c.bs.extract st.pl (st.pl+n)).size<=4:=bQ (Fp _ _ _) b9;refine(HD c.gb c.rb c.tb c.bs ae bg s O.o st.pl st.en n (some (A0 f 0)) aj ar kX z kX).mono ?_;refine lk ?_;intro u am v k ap a0 A;refine k7 ?_;intro aw ax;refine ll ?_;intro r al b2;have bv:=Aa (ai.o);have bp:=Aa k;clear v k z O bz bc az ap;have cm:b≠f:=by have:=(af.o.hid f rfl).2.1;omega
    obtain⟨b8,ci,bk⟩:=af.o.hid f rfl;have cj:=b8.lt;have bf:Hid (EG u f st.Ai):=by
     have ab:=bv.o;exact bp.o.Ap ab kX kX bk kY
    simp only;repeat still_step
    refine bL ?_;go_wp2_with fail;have V:=r.o.c0;have a6:=r.o.c2;have cc:u.cell? (A0 b 2)=some (I0 n):=by rw[<- X];exact al.o.cell 2
    have ce:u.cell? (A0 b 3)=some (I0 d):=by rw[<- bj];exact al.o.cell 3
    have ch:(d:Int)<8:=kX;refine Oj (fun W=>W.cell? (A0 w.heap.size 0)=some (I0 st.pl)/\W.cell? (A0 w.heap.size 2)=some (P0 f)/\W.cell? (A0 b 2)=some (I0 n)/\W.cell? (A0 b 3)=some (I0 d)) [0,1,2,3,4,5,6,7,9,10,11,12,14] 8 [13,15] 16 _ _ _ _ rfl rfl rfl rfl rfl rfl kZ kZ (fun _ _ d _ _ f=>by cases d<;>exact f) ?_ ⟨V,a6,cc,ce⟩;simp only[aP,aS,aJ,aK];refine AH (.pointer (some (A0 w.heap.size 2))) rfl (fun W a=>by obtain⟨ad,ak,B,y⟩:=a;go_simp) (fun h g=>?_);go_simp;refine g _ ?_;clear g h;refine AH (P0 f) rfl (fun W a=>by obtain⟨ad,ak,B,y⟩:=a;go_simp) (fun h g=>?_);go_simp;refine g _ ?_;clear g h;refine l3 ?_;refine l3 ?_;refine AH (.pointer (some (A0 b 3))) rfl (fun W a=>by obtain⟨ad,ak,B,y⟩:=a;go_simp) (fun h g=>?_);go_simp;refine g _ ?_;clear g h;refine AH (I0 d) rfl (fun W a=>by obtain⟨ad,ak,B,y⟩:=a;go_simp) (fun h g=>?_);go_simp;refine g _ ?_;clear g h;refine AH F rfl (fun W a=>by obtain⟨ad,ak,B,y⟩:=a;rw[be.o];go_simp) (fun h g=>?_);have J:=be.o;subst J;go_simp;refine g _ ?_;clear g h;refine AH (.string (c.bs.extract st.pl (st.pl+n))) rfl (fun W a=>by obtain⟨ad,ak,B,y⟩:=a;go_simp) (fun h g=>?_);go_simp;refine g _ ?_;clear g h;refine l3 ?_;refine l3 ?_;refine AH (.pointer (some (A0 b 2))) rfl (fun W a=>by obtain⟨ad,ak,B,y⟩:=a;go_simp) (fun h g=>?_);go_simp;refine g _ ?_;clear g h;refine AH (I0 n) rfl (fun W a=>by obtain⟨ad,ak,B,y⟩:=a;go_simp) (fun h g=>?_);go_simp;refine g _ ?_;clear g h;refine AH (P0 f) rfl (fun W a=>by obtain⟨ad,ak,B,y⟩:=a;go_simp) (fun h g=>?_);go_simp;refine g _ ?_;clear g h;refine Ag ?_;unfold Oper.wp;go_simp;refine(ah.o.1 (c.bs.extract st.pl (st.pl+n)) a4 (u.drewN 1)).mono ?_;rintro e aq⟨rfl,K⟩;have bd:=Aa ((A.o.drewN 1).Du K);have cs:(u.drewN 1).heap.size=u.heap.size:=rfl;have Y:=Aa (Ac.below (show Ac (u.drewN 1) w.heap.size _ _ from r.o) K kX);have au:=Aa (show Am aq b j from Ac.below (show Am (u.drewN 1) b j from al.o) K kX);have M:=Aa (show EG aq f st.Ai from Ac.below (show EG (u.drewN 1) f st.Ai from bf.o) K (by have:=a0;omega));have ct:=K.size;clear K r al bf;have cg:Hid (E (c.bs.extract st.pl (st.pl+n)) (c.bs.extract st.pl (st.pl+n)).size<4294967296):=by
     exact nr
    generalize J:E (c.bs.extract st.pl (st.pl+n)) (c.bs.extract st.pl (st.pl+n)).size=F;have bq:=Aa J;clear J;have a7:=Y.o.c0;have bh:=Y.o.c2;have bb:aq.cell? (A0 b 2)=some (I0 n):=by rw[<- X];exact au.o.cell 2
    have bl:aq.cell? (A0 b 3)=some (I0 d):=by rw[<- bj];exact au.o.cell 3
    have h0:=(M.o.cell d a8).1;have ab:=(M.o.cell d a8).2;have b3:aq.frozen? (A0 f (d*2))=false:=M.o.frozen _;have b4:aq.frozen? (A0 f (d*2+1))=false:=M.o.frozen _;simp only;refine⟨⟨a7,bh,bb,bl⟩,?_⟩;refine AH (.agg #[.int .u32 F,I0 n]) rfl (fun W a=>by obtain⟨ad,ak,B,y⟩:=a;go_simp) (fun h g=>?_);go_simp;refine g _ ?_;clear g h;refine AH (.pointer (some (A0 f (d*2)))) rfl (fun W a=>by obtain⟨ad,ak,B,y⟩:=a;go_simp) (fun h g=>?_);go_simp;refine g _ ?_;clear g h;refine Ag ?_;have ck:¬ w.heap.size=f:=kX;have cl:¬ f=w.heap.size:=kX;have co:¬ f=b:=kX;have cp:¬ b=f:=kX;go_simp;have ca:some f≠(C2 s st.pl n am).sv.ownBlock:=by
     rcases bd.o.sv with e|⟨b5,e,l⟩;rw[e];exact bk;rw[e];intro b1;cases b1;omega
    have bo:=Aa (bd.o.hid (h:=f) kX kX ca (d*2) (d*2+1) (.int .u32 F) (I0 n));have br:=Aa (M.o.set d a8 F n);have bm:Hid (Ac ((aq.setCell (A0 f (d*2)) (.int .u32 F)).setCell (A0 f (d*2+1)) (I0 n)) w.heap.size (X_3 st.pl st.en f) 159):=(Y.o.Ad _ lB _).Ad _ lB _;have bu:Hid (Am ((aq.setCell (A0 f (d*2)) (.int .u32 F)).setCell (A0 f (d*2+1)) (I0 n)) b j):=Ac.Ad (Ac.Ad au.o _ lB _) _ lB _;generalize(aq.setCell (A0 f (d*2)) (.int .u32 F)).setCell (A0 f (d*2+1)) (I0 n)=bx at*;clear a7 bh bb bl h0 ab b3 b4;have a7:=bm.o.c0;have bb:bx.cell? (A0 b 2)=some (I0 n):=by rw[<- X];exact bu.o.cell 2
    go_wp2_with fail;go_quiet (fail);go_wp2;go_ret3;rw[an.o,bq.o];refine Or.inr (Or.inl ⟨rfl,rfl,_,_,?_,bo.o.drewN nq,?_,?_,Or.inl ⟨rfl,rfl⟩,fun b5 e=>?_⟩);simp[BW,AB];exact gt;simp only[C2,BW,AB];exact af.o.nd
    cases e
    exact br.o
abbrev m4(h:PLift q->p:=by
 intro aa;rw[<- ad]at ac;have a:=Aa ac;have ab:Hid (Core c w s .none s.fuel s.far (w.alloc (AD st.pl st.en (Ce (some h)))) s):=Core.refl (o.tr.alloc _) ((TF.refl c.tb c.rb .none .none w).alloc _) kX _;unfold AD at a ab;unfold Bb at a⊢;simp only[Ce,cO]at a ab⊢;revert a ab;exact aa.1):p:=h ⟨z⟩
theorem NT(bs N a q f e st)(g:a.c=104\/a.c=107):
 AJ bs N a q f e st=QC f e a.w.toNat a.d.toNat (Ie a (bs.extract st.pl (st.pl+a.w.toNat))) st:=by
 have h:Bl a st=a.w.toNat:=by unfold Bl;rcases g with b|b<;>simp[b]
 unfold AJ QC Zo;rw[h];rcases g with b|b<;>simp[b,Ae]
theorem Qr(c)(j:DO c)(w s st h g f e q)(o:Cc c w s st (some h))(x:s.Aw.length+s.fuel+1<=100000)(A:Am w g f)(p:He e f)(r:Kc e)(hxc:e.c=104)(z:g<c.rb):
 Calls prog 140 #[P0 c.tb,P0 g,Bb st.pl st.en (Ce (some h))] w fun u w'=>Az c w s (some h) true (AJ c.bs c.N e q s.fuel s.far st) u w':=by
 have E:=r.w AL;have B:=r.it.d AL;have y:f.dp=(e.d.toNat:Int):=by rw[(p.dp AL).1];omega
 have ad:AJ c.bs c.N e q s.fuel s.far st=QC s.fuel s.far e.w.toNat e.d.toNat (hiV (c.bs.extract st.pl (st.pl+e.w.toNat)) (c.bs.extract st.pl (st.pl+e.w.toNat)).size) st:=by
  rw[NT _ _ _ _ _ _ _ (Or.inl hxc)];unfold Ie;rw[aC kX]
 have ac:=MH c j (w.alloc (AD st.pl st.en (Ce (some h)))) s st h g f e.w.toNat e.d.toNat (o.alloc j _) x (Ac.alloc A _) (by rw[p.wd];omega) kX y kX z _ _ (Or.inl rfl) Yp;refine m4 ?_;intro a ab;go_enter func140,ntmps140;exact n1
theorem L1(c)(j:DO c)(w s st h g f e q)(o:Cc c w s st (some h))(x:s.Aw.length+s.fuel+1<=100000)(A:Am w g f)(p:He e f)(r:Kc e)(hxc:e.c=107)(z:g<c.rb):
 Calls prog 143 #[P0 c.tb,P0 g,Bb st.pl st.en (Ce (some h))] w fun u w'=>Az c w s (some h) true (AJ c.bs c.N e q s.fuel s.far st) u w':=by
 have E:=r.w AL;have B:=r.it.d AL;have y:f.dp=(e.d.toNat:Int):=by rw[(p.dp AL).1];omega
 have ad:AJ c.bs c.N e q s.fuel s.far st=QC s.fuel s.far e.w.toNat e.d.toNat (Mm (c.bs.extract st.pl (st.pl+e.w.toNat)) (c.bs.extract st.pl (st.pl+e.w.toNat)).size) st:=by
  rw[NT _ _ _ _ _ _ _ (Or.inr hxc)];unfold Ie;rw[aF kX]
 have ac:=MH c j (w.alloc (AD st.pl st.en (Ce (some h)))) s st h g f e.w.toNat e.d.toNat (o.alloc j _) x (Ac.alloc A _) (by rw[p.wd];omega) kX y kX z _ _ (Or.inr rfl) Aaf;refine m4 ?_;intro a ab;go_enter func143,ntmps143;exact n1
theorem QE(h:p:=by
 go_wp2;go_roundw
 case rel=>exact⟨f+1,by go_num,by omega,an⟩
 case measure=>simp[intOf];omega):p:=h
theorem np(h:p:=by
 simp only;refine⟨⟨r.o.cell 0,r.o.cell 1,r.o.cell 2,ac,by rw[<- ab];exact al.o.cell 6⟩,?_⟩;repeat still_step
 refine bL ?_;go_wp2;go_ret3;exact ao.o):p:=h
theorem nP(h:p:=by
 rcases h with⟨_,_,d⟩|⟨_,_,I,v,_,e,_⟩|⟨_,_,I,v,k,_,e⟩;exact d;exact e.fr;exact e.fr):p:=h
abbrev m5(h:PLift q->p:=by
 intro aa;refine AH (P0 c.tb) rfl (fun W a=>by obtain⟨ad,ak,B,y,x⟩:=a;go_simp) (fun h g=>?_);go_simp;refine g _ ?_;refine AH (P0 c.tb) rfl (fun W a=>by obtain⟨ad,ak,B,y,x⟩:=a;go_simp) (fun h g=>?_);go_simp;refine g _ ?_;exact aa.1):p:=h ⟨z⟩
abbrev m2(h:PLift q->p:=by
 intro aa;have a3:=Aa (Ac.new w (X_1 st.pl st.en (Ce f)) 159);have v:=Aa (show Am (w.alloc (AD st.pl st.en (Ce f))) b j from Ac.alloc ah _);have A:Hid (Core c w s .none s.fuel s.far (w.alloc (AD st.pl st.en (Ce f))) s):=Core.refl (o.tr.alloc _) ((TF.refl c.tb c.rb .none .none w).alloc _) o.HX _;revert a3 v A;exact aa.1):p:=h ⟨z⟩
theorem HL(c)(A:DO c)(w)(h:Below c.w0.heap.size c.w0 w)(e)(ab:c.R e=true):
 Calls prog 189 #[P0 c.gb,I0 e] w fun U w'=>∃ K V J j,U=.returned (P0 K)/\Below w.heap.size w w'/\BM V c.w0 J j K false (c.G e)/\j<=c.w0.heap.size:=by
 obtain⟨aq,l,p,g,y⟩:=A.gr;obtain⟨i,j,F,E,z⟩:=y e ab;obtain⟨a,S,rfl,r,B⟩:=g.shape;obtain⟨J,aj,ao,Y,u⟩:=g.rep l[i] (aU j);rw[<- z]at u;have am:=g.len;have X:=p.lt;have ap:=h.size;have k:=Aa h;have L:=Aa B;have M:=Aa E;have x:=Aa u;have ah:w.cell? (A0 c.gb 0)=some (S0 a l.length S):=by rw[h.cell (p:=(A0 c.gb 0)) X];exact p.cell 0
 clear p g y h B E u A;go_enter func189,ntmps189;go_wp2;go_loopw [12,6] (fun v _ wr=>∃ f:Nat,v=I0 f/\f<=i/\Hid (Below w.heap.size w wr)) (fun v _ _=>i+1-(intOf v).toNat)
 case atStart=>exact⟨0,rfl,by omega,aO _ _⟩
 case round=>
  obtain⟨f,rfl,ak,b⟩:=hrel;have I:f<l.length:=kX;have al:(f:Int)<(l.length:Int):=kX;obtain⟨o,d1,d2⟩:=L.o f I;have ai:=b.out.size;have ad:wr.cell? (A0 a (f*3))=some (I0 l[f].1.r):=by rw[b.out.cell (p:=(A0 a (f*3))) lB,k.o.cell (p:=(A0 a (f*3))) r];exact o
  have ae:wr.cell? (A0 a (f*3+1))=some (I0 l[f].1.pl):=by rw[b.out.cell (p:=(A0 a (f*3+1))) lB,k.o.cell (p:=(A0 a (f*3+1))) r];exact d1
  have af:wr.cell? (A0 a (f*3+2))=some (P0 (l[f].2)):=by rw[b.out.cell (p:=(A0 a (f*3+2))) lB,k.o.cell (p:=(A0 a (f*3+2))) r];exact d2
  by_cases Z:f=i
  . subst Z;have aa:(l[f].1.r==(e:Int))=true:=by simp[F]
    have O:=Aa x.o;have an:=Aa (b.out.alloc kX (.cells (X_3 (l[f].1.r) (l[f].1.pl:Int) (l[f].2)) 123));clear o d1 d2 x F z;generalize l[f]=ac at*;go_wp2;go_ret;exact⟨_,_,_,_,rfl,an.o,O.o,Y⟩
  have aa:(l[f].1.r==(e:Int))=false:=by simpa using M.o f kX I
  have an:=Aa (b.out.alloc kX (.cells (X_3 (l[f].1.r) (l[f].1.pl:Int) (l[f].2)) 123));clear o d1 d2;generalize l[f]=ac at*;exact QE
theorem EV{a}(b:hidV a=false)(e):FZ a e=none:=by unfold FZ;rw[b];rfl
theorem D2{a}(b:hidV a=false):silK false a=false:=by
 cases a with
 | nil=>rfl
 | cons f g=>have e:Ae f.c=false:=b;simp[silK,e]
theorem Az.keeps{c w w' s b a e}(h:Az c w s none b a e w'):TF c.tb c.rb s.sv.ownBlock none w w':=by
 exact nP
theorem OQ(c)(E:DO c)(p)(bf:QI c p)(w s st f b j u)(o:Cc c w s st f)(ah:Am w b j)(a8:He u j)(be:Kc u)(ay:u.c=82)(M:c.R u.r.toNat=true)(bm:b<c.rb)(a6:s.fuel<=p):
 Calls prog 137 #[P0 c.tb,P0 b,Bb st.pl st.en (Ce f)] w fun e w'=>Az c w s none false (tryT c.G c.bs c.N p s.fuel s.far false (c.G u.r.toNat) st) e w':=by
 have bp:=be.it.r ay;obtain⟨k,av⟩:∃ k:Nat,u.r=(k:Int):=⟨u.r.toNat,by omega⟩;rw[av]at M⊢;simp only[bE]at M⊢;have ab:j.ru=(k:Int):=by rw[(a8.ru ay).2,av]
 have bk:=o.tr.Ap.lt;have bl:=E.lt;have bj:=E.le;have bo:=ah.lt;have af:=Aa o;have aj:=Aa E;have a0:=Aa bf;have a4:=Aa (E.wf k M);have ar:=(E.wf k M).CA rfl;have U:=Aa (o.alloc E (AD st.pl st.en (Ce f)));refine m2 ?_;intro a3 v A;have bd:(w.alloc (AD st.pl st.en (Ce f))).heap.size=w.heap.size+1:=kY;unfold AD at U v A bd;unfold Bb;generalize ba:Ce f=ae at*;have a1:=Aa ba;go_enter func137,ntmps137;go_wp2_with fail;generalize w.alloc (.cells (X_1 st.pl st.en ae) 159)=V at*;refine Mp (fun W=>W.cell? (A0 w.heap.size 0)=some (I0 st.pl)/\W.cell? (A0 w.heap.size 1)=some (I0 st.en)/\W.cell? (A0 w.heap.size 2)=some (.pointer ae)/\W.cell? (A0 c.tb 45)=some (P0 c.gb)/\W.cell? (A0 b 6)=some (I0 k)) [0,1,2,3,4,5,6,7,8,9,11] 10 [] 12 13 _ _ _ _ _ rfl rfl rfl rfl rfl rfl rfl kZ kZ (fun _ _ d _ _ z=>by cases d<;>exact z) ?_ ⟨a3.o.cell 0,a3.o.cell 1,a3.o.cell 2,U.o.tr.Vy,by rw[<- ab];exact v.o.cell 6⟩;refine l2 ?_;refine m5 ?_;refine m5 ?_;refine AH (.pointer (some (A0 c.tb 45))) rfl (fun W a=>by obtain⟨ad,ak,B,y,x⟩:=a;go_simp) (fun h g=>?_);go_simp;refine g _ ?_;refine AH (P0 c.gb) rfl (fun W a=>by obtain⟨ad,ak,B,y,x⟩:=a;go_simp) (fun h g=>?_);go_simp;refine g _ ?_;refine AH (P0 b) rfl (fun W a=>by obtain⟨ad,ak,B,y,x⟩:=a;go_simp) (fun h g=>?_);go_simp;refine g _ ?_;refine AH (P0 b) rfl (fun W a=>by obtain⟨ad,ak,B,y,x⟩:=a;go_simp) (fun h g=>?_);go_simp;refine g _ ?_;refine AH (.pointer (some (A0 b 6))) rfl (fun W a=>by obtain⟨ad,ak,B,y,x⟩:=a;go_simp) (fun h g=>?_);go_simp;refine g _ ?_;refine AH (I0 k) rfl (fun W a=>by obtain⟨ad,ak,B,y,x⟩:=a;go_simp) (fun h g=>?_);go_simp;refine g _ ?_;refine AH (.agg (X_1 st.pl st.en ae)) rfl (fun W a=>by obtain⟨ad,ak,B,y,x⟩:=a;go_simp) (fun h g=>?_);go_simp;refine g _ ?_;refine Ag ?_;unfold Oper.wp;go_simp;refine(HL c aj.o (V.drewN 1) (U.o.drewN 1).A9 k M).mono ?_;rintro e w2⟨bh,a5,bg,a9,rfl,L,bc,a7⟩;have X:Below V.heap.size V w2:=⟨L.os,L.tape,L.output,L.size,L.block⟩;have S:=Aa (a3.o.below X a3.o.lt);have an:=Aa (show Am w2 b j from v.o.below X v.o.lt);have ap:=Aa (A.o.Du X);have am:Hid (Cc c w2 s st f):=Cc.next aj.o U.o ⟨ap.o.tr,rfl,rfl,⟨[],by simp,rfl⟩,af.o.HX,(TF.refl c.tb c.rb _ .none V).Du X,Or.inl rfl⟩ (Or.inl rfl) af.o.rd af.o.nd af.o.inv (fun _ _ _=>rfl) (fun _ e=>by cases e);have a2:=Aa bc;simp only;refine⟨⟨S.o.cell 0,S.o.cell 1,S.o.cell 2,am.o.tr.Vy,by rw[<- ab];exact an.o.cell 6⟩,?_⟩;refine Ag ?_;go_simp;have Z:=a0.o w2 s st f (c.G k) false false false false a5 bg a9 bh am.o a2.o a7 a4.o (fun z=>by rcases z with z|z<;>cases z) rfl a6;rw[EV ar,D2 ar,a1.o]at Z;unfold Bb at Z;refine k7 ?_;intro aw ax;refine Z.mono fun bi Y au=>?_
 have aq:=au.keeps;have r:=Aa (aq.Ap S.o kX kX aw kY);have al:=Aa (show Am Y b j from aq.Ap an.o kX kX ax kY);have bb:=Az.ahead ap.o au;rcases bb with⟨F,I,J⟩|⟨F,I,ai,O,J,K⟩|⟨F,I,ai,O,az,J,K⟩;subst I;have ao:Hid (Az c w s .none false (tryT c.G c.bs c.N p s.fuel s.far false (c.G k) st) (.panicked (F7 (tryT c.G c.bs c.N p s.fuel s.far false (c.G k) st).e)) Y):=Or.inl ⟨F,rfl,J⟩;simp only;exact⟨rfl,ao.o⟩;subst J;have ao:Hid (Az c w s .none false (tryT c.G c.bs c.N p s.fuel s.far false (c.G k) st) (.returned (.tuple #[O,I0 (tryT c.G c.bs c.N p s.fuel s.far false (c.G k) st).st.pl,.bool true])) Y):=Or.inr (Or.inl ⟨F,I,ai,O,rfl,K⟩);have ac:=K.1.tr.Vy;exact np;subst J;have ao:Hid (Az c w s .none false (tryT c.G c.bs c.N p s.fuel s.far false (c.G k) st) (.returned (.tuple #[O,I0 az,.bool false])) Y):=Or.inr (Or.inr ⟨F,I,ai,O,az,rfl,K⟩);have ac:=K.tr.Vy;exact np
theorem i9(h:p:=by
 have ab:z.flatMap Prod.snd=(z.map Prod.snd).flatten:=by rw[hD]
 rw[ab];exact(G7 (z.map Prod.snd) (fun s ah=>by obtain⟨q,aa,rfl⟩:=dF.1 ah;exact(k q aa).Jh) _ (aB _)).symm):p:=h
theorem jp(h:p:=by
 go_wp2_with fail;refine(DE c.gb c.rb c.tb c.bs ad s b3.o.tr st.pl).mono ?_;rintro e ci⟨rfl,bj⟩;have bl:=Aa bj;clear bj;simp only;go_wp2;go_ret3;rw[an.o];exact Az.fail st.pl st a0.o bl.o _ _):p:=h
theorem h6(h:p:=by
 simp only;repeat still_step
 refine bL ?_;go_wp2;go_ret3;rw[y.o];exact ao.o):p:=h
theorem mc(h:p:=by
 clear ac ab;simp only;refine⟨rfl,?_⟩;rw[y.o];exact ao.o):p:=h
abbrev lj(h:PLift q->p:=by
 intro aa;have a6:=Aa bk;have a8:=Aa bc;have f:=Aa (o.alloc p (AD st.pl st.en (Ce (some h))));have a3:=Aa (Ac.new w (X_1 st.pl st.en (Ce (some h))) 159);have v:=Aa (show Am (w.alloc (AD st.pl st.en (Ce (some h)))) b j from Ac.alloc ah _);have A:Hid (Core c w s .none s.fuel s.far (w.alloc (AD st.pl st.en (Ce (some h)))) s):=Core.refl (o.tr.alloc _) ((TF.refl c.tb c.rb .none .none w).alloc _) o.HX _;have a:(w.alloc (AD st.pl st.en (Ce (some h)))).heap.size=w.heap.size+1:=kY;obtain⟨bf,a1,be⟩:=o.hid h rfl;have bg:=Ac.lt bf;have r:=Aa (show EG (w.alloc (AD st.pl st.en (Ce (some h)))) h st.Ai from Ac.alloc bf _);unfold AD at f v A a r;unfold Bb;simp only[Ce,cO]at f a3 v A a r⊢;revert r;revert bg;revert be;revert a1;revert a;revert A;revert v;revert a3;revert f;revert a8;revert a6;exact aa.1):p:=h ⟨z⟩
abbrev li(h:PLift q->p:=by
 intro aa;obtain⟨g,aq,a7,au,z,k,a5,bd,a9,bc,bb⟩:=a2.ex;have av:=o.tr.Ap.lt;have ay:=p.lt;have bh:=p.le;have ae:=p.bs;have aj:=o.inv.pl;have ar:=o.inv.en;have bi:=ah.lt;have a4:=bk.CA rfl;have af:=Aa o;have ai:=Aa p;have ap:=Aa am;revert g aq a7 au z k a5 bd a9 bc bb av ay bh ae aj ar bi a4 af ai ap;exact aa.1):p:=h ⟨z⟩
abbrev l0(h:PLift q->p:=by
 intro aa;have ak:=al.it.d AL;obtain⟨d,az⟩:∃ d:Nat,x.d=(d:Int):=⟨x.d.toNat,by omega⟩;rw[az];simp only[bE];have ba:d<8:=kX;have bm:(d:Int)<8:=kX;revert ak d az ba bm;exact aa.1):p:=h ⟨z⟩
theorem BM.Jh{a w j h k o e}(b:BM a w j h k o e):I4 e:=by
 cases a with
 | zero=>exact b.elim
 | succ a=>
  obtain⟨p,r,u,f,g,_⟩:=b;exact⟨p,_,f,g⟩
theorem BM.open{e w o f b p g h}(j:BM e w o f b p (g::h)):
 ∃ (y:Nat) (z:aD (Nat × aD It)) (a:Pt),Am w b a/\He g a/\a.sl=(p&&Gy g.c)/\BZ w (b+1) f a.v (z.map Prod.fst)/\(∀ q,q∈z->BM y w (b+1) f q.1 (decide (g.c=40)) q.2)/\z.map Prod.snd=segs h.length h/\o<=b/\b<f:=by
 cases e with
 | zero=>exact j.elim
 | succ e=>
  obtain⟨B,z,a,x,A,r,u,c,d,s,v,k⟩:=j
  cases x
  refine⟨e,z,a,c,d,s,v,k,?_,r,u⟩;exact i9
structure K2 (c:Cx) (w:aE) (p:Pt) (r:aD It):Prop where
 ex:∃ g cap qb f lo hi,p.v=S0 g 1 cap/\g<c.w0.heap.size/\c.w0.cell? (A0 g 0)=some (P0 qb)/\BM f c.w0 lo hi qb false r/\hi<=c.w0.heap.size
theorem QW(c)(p:DO c)(I)(am:QI c I)(w s st h b j x F bv)(o:Cc c w s st (some h))(ah:Am w b j)(cn:He x j)(al:Kc x)(hxc:x.c=119)(a2:K2 c w j F)(bk:BK c.R false bv F)(cz:b<c.rb)(cm:s.fuel<=I):
 Calls prog 150 #[P0 c.tb,P0 b,Bb st.pl st.en (Ce (some h))] w fun e w'=>Az c w s none false (BU (tryT c.G c.bs c.N I) (st.Ai x.d.toNat).1 F s.fuel s.far st) e w':=by
 refine l0 ?_;intro ak d az ba bm;have cl:j.dp=(d:Int):=by rw[(cn.dp AL).1,az]
 have cx:=(o.inv.Ai d).1;generalize ca:(st.Ai d).1=u at*;have ce:=Aa ca;clear ca;refine li ?_;intro g aq a7 au z k a5 bd a9 bc bb av ay bh ae aj ar bi a4 af ai ap;refine lj ?_;intro a6 a8 f a3 v A a a1 be bg r;go_enter func150,ntmps150;go_wp2_with fail;generalize w.alloc (.cells (X_3 st.pl st.en h) 159)=O at*;have E:=a3.o.c2;have cs:O.cell? (A0 b 3)=some (I0 d):=by rw[<- cl];exact v.o.cell 3
 have h0:O.cell? (A0 h (d*2))=some (.int .u32 u):=by rw[<- ce.o];exact(r.o.cell d ba).1
 go_quiet (fail);have b3:=Aa (f.o.drewN nq);have M:Hid (Ac (O.drewN nq) w.heap.size (X_3 st.pl st.en h) 159):=a3.o;have b4:Hid (Am (O.drewN nq) b j):=v.o;have a0:=Aa (A.o.drewN nq);have c0:(O.drewN nq).heap.size=w.heap.size+1:=a;generalize O.drewN nq=ad at*;clear E cs h0 f a3 v A r a;have bp:=M.o.c0;have ac:=M.o.c1;have E:=M.o.c2;have cj:=M.o.frozen 1;by_cases b9:st.en-st.pl<u;have ck:((st.en:Int)-(st.pl:Int))<(u:Int):=kX;have an:=Aa (show BU (tryT c.G c.bs c.N I) u F s.fuel s.far st=CK s.fuel s.far st.pl st by unfold BU;rw[aF b9]);exact jp;have ck:¬ ((st.en:Int)-(st.pl:Int))<(u:Int):=kX;have b8:BU (tryT c.G c.bs c.N I) u F s.fuel s.far st=BV u st (tryT c.G c.bs c.N I s.fuel s.far false F {st with en:=st.pl+u}):=by unfold BU;rw[aC b9]
 have y:=Aa b8;clear b8;have cy:u<=4000:=kX;go_wp2_with fail;have X:Hid (Ac (ad.setCell (A0 w.heap.size 1) (I0 (st.pl+u))) w.heap.size (X_3 st.pl (st.pl+u) h) 159):=M.o.set 1 _;have ch:Hid (Am (ad.setCell (A0 w.heap.size 1) (I0 (st.pl+u))) b j):=Ac.Ad b4.o _ lB _;refine k7 ?_;intro aw ax;have b5:Hid (Core c w s .none s.fuel s.far (ad.setCell (A0 w.heap.size 1) (I0 (st.pl+u))) s):=⟨a0.o.tr.Ad _ _ lB lB (by simpa using aw),rfl,rfl,⟨[],by simp,rfl⟩,af.o.HX,a0.o.fr.setCell _ _ (Or.inr (Or.inr (Or.inr (Or.inr (aB _))))),Or.inl rfl⟩;have c1:(ad.setCell (A0 w.heap.size 1) (I0 (st.pl+u))).heap.size=w.heap.size+1:=by simp[World.setCell];omega
 generalize ad.setCell (A0 w.heap.size 1) (I0 (st.pl+u))=S at*;have bo:Hid (Cc c S s {st with en:=st.pl+u} (some h)):=Cc.next ai.o af.o b5.o (Or.inl rfl) af.o.rd af.o.nd ⟨by simp,by simp only;omega,af.o.inv.rd,af.o.inv.Af,af.o.inv.Ai⟩ (fun _ _ _=>rfl) (fun _ e=>by cases e);clear bp ac E cj b3 M b4 a0;have bp:=X.o.c0;have ac:=X.o.c1;have E:=X.o.c2;have ct:S.cell? (A0 b 8)=some (S0 g 1 aq):=by rw[<- a5];exact ch.o.cell 8
 have cr:S.cell? (A0 g 0)=some (P0 a7):=by rw[bo.o.A9.cell (p:=(A0 g 0)) bd];exact a9
 refine AX 8 _ rfl rfl kZ kZ ?_;refine gq ?_;have V:=ap.o (S.drewN 1) s {st with en:=st.pl+u} (some h) F false bv false false au z k a7 (bo.o.drewN 1) a8.o bb a6.o (fun _=>rfl) rfl cm;rw[EV a4,D2 a4]at V;unfold Bb at V;simp only[Ce,cO,cZ]at V;have cg:Hid ((tryT c.G c.bs c.N I s.fuel s.far false F {st with en:=st.pl+u}).ok=true->(tryT c.G c.bs c.N I s.fuel s.far false F {st with en:=st.pl+u}).e=0):=fun bx=>((BQ c.G ai.o.wf I).fit s.fuel s.far false false bv F _ a6.o bo.o.inv bx).2
 generalize tryT c.G c.bs c.N I s.fuel s.far false F {st with en:=st.pl+u}=B at*;refine V.mono fun cw L bz=>?_
 have cb:=bz.keeps;have cd:=Aa (cb.Ap (show Ac (S.drewN 1) w.heap.size _ _ from X.o) kX kX aw kY);have cq:=Az.ahead (b5.o.drewN 1) bz;clear bp ac E ct cr V bz cb;have cv:=cd.o.c1;rcases cq with⟨ac,E,ab⟩|⟨ac,E,Z,K,ab,J,bq,br,bu,b6⟩|⟨ac,E,Z,K,b0,ab,J⟩;subst E;have ao:Hid (Az c w s .none false (BV u st B) (.panicked (F7 B.e)) L):=by
  have co:B.ok=false:=by
   cases bx:B.ok with
   | false=>rfl
   | true=>exact absurd (cg.o bx) ac
  have:BV u st B=B:=by unfold BV;rw[co];simp
  have U:Az c w s .none false (BV u st B) (.panicked (F7 B.e)) L:=by rw[this];exact Or.inl ⟨ac,rfl,ab⟩
  exact U
 exact mc
 . subst ab;by_cases Y:B.st.pl=st.pl+u;have cp:((B.st.pl:Int) != (st.pl:Int)+(u:Int))=false:=lA;have ao:Hid (Az c w s .none false (BV u st B) (.returned (.tuple #[K,I0 B.st.pl,.bool true])) L):=by
    have:BV u st B=BW B.fuel B.far {B.st with en:=st.en} B.t:=by unfold BV;rw[aF E,aC (by simpa using Y)]
    have U:Az c w s .none false (BV u st B) (.returned (.tuple #[K,I0 B.st.pl,.bool true])) L:=by
     rw[this];exact Or.inr (Or.inl ⟨rfl,rfl,Z,K,rfl,J,bq,br,bu,fun _ e=>by cases e⟩)
    exact U
   clear ac E J bq br bu b6 Y;generalize B.st.pl=b1 at*;exact h6
   . have cp:((B.st.pl:Int) != (st.pl:Int)+(u:Int))=true:=by simp;omega
     have b7:BV u st B=CK B.fuel B.far B.st.pl st:=by unfold BV;rw[aF E,aF Y]
     have cf:=Aa b7;have b2:=Aa J;clear ac E J bq br bu b6 Y b7;generalize cc:B.st.pl=b1 at*;have cu:=Aa cc;clear cc;simp only;repeat still_step
     refine bL ?_;go_wp2_with fail;refine(DE c.gb c.rb c.tb c.bs L Z b2.o.tr b1).mono ?_;rintro e ci⟨rfl,bj⟩;have bl:=Aa bj;clear bj;simp only;go_wp2;go_ret3;rw[y.o,cf.o];exact Az.fail b1 st b2.o bl.o _ _
 subst ab;have ao:Hid (Az c w s .none false (BV u st B) (.returned (.tuple #[K,I0 b0,.bool false])) L):=by
  have:BV u st B=B:=by unfold BV;rw[E];simp
  have U:Az c w s .none false (BV u st B) (.returned (.tuple #[K,I0 b0,.bool false])) L:=by rw[this];exact Or.inr (Or.inr ⟨ac,E,Z,K,b0,rfl,J⟩)
  exact U
 clear ac E J;exact h6
section
open Go.Sort Go.Lib
def MO (w:aE):Prop:=Lib.TabIs prog w "internal/strconv.uint64pow10" .u64 Lib.pow10Tab
theorem WM(w:aE)(T:TypeId)(a:Nat)(h:a<=24):Holds (fun(f:UInt8)=>Value.int .u8 f.toNat) (w.alloc (.cells Lib.zeros24 T)) w.heap.size 0 (Array.replicate a (0:UInt8)):=fun e b=>by
 have g:e<a:=by simpa using b
 refine⟨?_,World.frozen?_alloc_new _ _ _ _⟩;rw[World.cell?_alloc_new,Lib.zeros24_at _ kX,getElem!_pos _ e b];simp
theorem Ags(w:aE)(f:Obj)(b:Array UInt8)(e:Nat):∃ h,(putRow (fun(a:UInt8)=>Value.int .u8 a.toNat) (w.alloc f) w.heap.size 0 b).drewN e=grow (w.drewN e) h:=by
 rw[alloc_eq_grow];obtain⟨j,_,g⟩:=putRow_grow_new (fun(a:UInt8)=>Value.int .u8 a.toNat) w #[f] w.heap.size 0 b (aB _);exact⟨j,by rw[g];rfl⟩
theorem Uz(a:Nat)(hu:a<4294967296)(w:aE)(A:MO w):
 Calls prog 175 #[.int .u64 a,I0 10] w fun g w'=>g=.returned (.string ⟨(Lib.decDigits a).toArray⟩)/\∃ e o,w'=grow (w.drewN e) o:=by
 by_cases E:a<100
 . have F:(a:Int)<100:=by omega
   go_enter func175,ntmps175;go_wp2_with fail;refine(Tryz.internal_strconv_small a E _).mono ?_;rintro g w'⟨rfl,k⟩;rw[k];simp only;go_wp2;go_ret;exact⟨rfl,0,#[],by simp[World.drewN_zero]⟩
 have F:¬ (a:Int)<100:=kX;have I:1<=a:=kX;have j:a<18446744073709551616:=kX;have K:=Lib.nDigits_le20 a j;have B:prog.arrayLen 282=24:=by simp[Program.arrayLen,underlying282]
 have L:∀ W,(Instr.sliceAt 282 (P0 w.heap.size) none (some (I0 (Lib.nDigits a:Int))) none).run prog W=.ok (S0 w.heap.size (Lib.nDigits a) 24) W:=fun W=>by
  rw[run_sliceAt_array_h W 282 (A0 w.heap.size 0) (by simp[Program.arrayLen,Program.elem,underlying282]) .i64 (Lib.nDigits a:Int) kX (by rw[B];omega)];go_simp
 have r:=WM w 282 (Lib.nDigits a) kX;have u:=Tryz.internal_strconv_formatBase10 w.heap.size 0 24 a (Array.replicate (Lib.nDigits a) 0) (w.alloc (.cells Lib.zeros24 282)) r (by rw[gL];exact Lib.lt_pow_nDigits a) j (by rw[gL];omega);rw[gL]at u;have x:=Lib.hid r;have y:=Lib.hid A;go_enter func175,ntmps175;go_wp2_with fail;refine(Tryz.internal_strconv_numDigits a I j _ (Lib.tabIs_alloc y.o _)).mono ?_;rintro g w'⟨rfl,k⟩;rw[k];simp only;go_wp2_with fail;refine u.mono ?_;rintro g w'⟨rfl,e,M,f,rfl,hF⟩;have J:(convert 40 9 (S0 w.heap.size (Lib.nDigits a) 24)).run prog ((putRow (fun(b:UInt8)=>Value.int .u8 b.toNat) (w.alloc (.cells Lib.zeros24 282)) w.heap.size 0 f).drewN e)=.ok (.string ⟨(Lib.decDigits a).toArray⟩) ((putRow (fun(b:UInt8)=>Value.int .u8 b.toNat) (w.alloc (.cells Lib.zeros24 282)) w.heap.size 0 f).drewN e):=by
  have p:=eE (P:=prog) ((putRow (fun(b:UInt8)=>Value.int .u8 b.toNat) (w.alloc (.cells Lib.zeros24 282)) w.heap.size 0 f).drewN e) 40 9 5 (A0 w.heap.size 0) 24 (Lib.decDigits a) underlying40 underlying5 underlying9 (fun v h=>by
   rw[Lib.row_is_numeral hF v h,Lib.add_plain,World.cell?_drewN];exact cell?_putRow (fun(b:UInt8)=>Value.int .u8 b.toNat) _ w.heap.size 0 _ f x.o (by rw[hF.size,gL]) v (by rw[hF.size];rw[fM]at h;exact h))
  rw[fM]at p;exact p
 simp only;go_wp2;go_ret;obtain⟨o,z⟩:=Ags w (.cells Lib.zeros24 282) f e;exact⟨rfl,e,o,z⟩
theorem TX(w b e):Below w.heap.size w (grow (w.drewN b) e):=by
 refine⟨rfl,rfl,rfl,?_,fun f a=>?_⟩;simp[grow];simp only[grow];exact Array.getElem?_append_left a
theorem Wi(n:Nat)(f:n<4294967296)(w:aE)(e:MO w):
 Calls prog 106 #[.int .u64 n,I0 10] w fun a w'=>a=.returned (.string ⟨(EY n).toArray⟩)/\Below w.heap.size w w':=by
 go_enter func106,ntmps106;go_wp2_with fail;refine(Uz n f w e).mono ?_;rintro a w'⟨rfl,h,j,g⟩;have b:=Lib.hid g;simp only;go_wp2;go_ret;exact⟨rfl,by rw[b.o];exact TX w h j⟩
theorem MO.below{w w'}(a:MO w)(g:Below w.heap.size w w'):MO w':=by
 unfold MO TabIs World.var? at*
 cases f:prog.globalNamed "internal/strconv.uint64pow10" with
 | none=>simp[f]at a
 | some b=>
  simp only[f,Option.bind_some]at a⊢;have h:b<w.heap.size:=by
   rcases Nat.lt_or_ge b w.heap.size with e|e;exact e;rw[kG e]at a;simp at a
  rw[g.block b h];exact a
end

import Derived.Deep.WholeRow
import Derived.Great.BuildSlice
import Derived.Test.YtmlkhhhjdpbhfaaGreatDoorGe02
import Derived.Test.YtmlkhhhjdpbhfaaGreatDoorGe03
namespace Go.Proofs.YtmlkhhhjdpbhfaaGreatDoor
open Go.RowKit Go.Proofs.Tryz
set_option maxHeartbeats 4000000
set_option maxRecDepth 100000
variable{p q:Prop}(z:q)
theorem Afd(s n w)(ah:s.size<=maxLen)(k:n<=1000)(p:bt s n=114\/bt s n=116\/bt s n=119\/bt s n=64\/bt s n=115)(a:97<=bt s (n+1))(b:bt s (n+1)<=104):
 Calls prog 162 #[.string s,I0 n] w fun e w'=>De (Ak s n) w e w':=by
 rcases p with p|p|p|p|p;all_goals
  have H:=Aa (show Ak s n={ok:=true,i:=n+2,inn:=Jg (bt s n),it:={c:=bt s n,w:=0,d:=bt s (n+1)-97,pl:=((n+1:Nat):Int)}}by simp[Ak,Br,p,CP,kW,kD,Jg,AY,a,b]);have f:C4 (bt s n) 65 72 = -1:=by rw[p];decide
  have g:AY [110,108,104,107] (bt s n)=false:=by rw[p];decide
  refine ky ?_;intro ak af;have j:=Da (bt s (n+1)) 97 104 ⟨a,b⟩;have h:=Eh s (n+1);rw[p]at f g ak af;go_enter func162,ntmps162;go_wp2_with (first
   | refine nW ?_
   | refine nV ?_)
  refine aT (v:=.tuple #[.agg (It.cells {c:=bt s n,w:=0,d:=bt s (n+1)-97,pl:=(n:Int)+1}),I0 (n+1+1),I0 (Jg (bt s n)),.bool true]) (by simp[results,results162,go_sem,It.cells,p,Jg,AY]) rfl ?_;rw[H.o];exact B7 {c:=bt s n,w:=0,d:=bt s (n+1)-97,pl:=(n:Int)+1} ((n:Int)+1+1) (show((n:Int)+1+1)=((n+2:Nat):Int)by omega) (fun _=>Vn kX kX kX) rfl (FO _ _ _)
theorem Wc(s n w)(h:s.size<=maxLen)(v:n<=1000)(p:bt s n=104\/bt s n=107)(b:49<=bt s (n+1))(f:bt s (n+1)<=52)(a:¬ (97<=bt s (n+2)/\bt s (n+2)<=104)):
 Calls prog 162 #[.string s,I0 n] w fun e w'=>De (Ak s n) w e w':=by
 rcases p with p|p;all_goals
  have H:=Aa (show Ak s n={ok:=false,i:=n+2}by simp[Ak,Br,p,CP,kW,kD,AY,b,f,a]);refine kz ?_;intro aj ao;refine ky ?_;intro ak af;have u:=Da (bt s (n+1)) 49 52 ⟨b,f⟩;have j:=Eh s (n+1);have r:=Fc (bt s (n+2)) 97 104 a;have o:=Eh s (n+2);have k:=FT s (n+2);rw[p]at aj ao ak af;go_enter func162,ntmps162;go_wp2_with (first
   | (go_at_call 83;refine(AI _ _ _ h kX).mono ?_;rintro e w'⟨rfl,rfl⟩;simp only[bE,Ra,Xi])
   | refine nV ?_)
  refine aT (v:=.tuple #[.agg (It.cells {c:=bt s n,pl:=(n:Int)+1+1,w:=bt s (n+1)-49+1,d := -1}),I0 (n+1+1),I0 (0),.bool false]) GO rfl ?_;rw[H.o];exact B7 {c:=bt s n,pl:=(n:Int)+1+1,w:=bt s (n+1)-49+1,d := -1} ((n:Int)+1+1) (show((n:Int)+1+1)=((n+2:Nat):Int)by omega) (fun g=>by cases g) rfl (FO _ _ _)
theorem Yw(s n w)(ah:s.size<=maxLen)(o:n<=1000)(p:bt s n=114\/bt s n=116\/bt s n=119\/bt s n=64\/bt s n=115)(a:¬ (97<=bt s (n+1)/\bt s (n+1)<=104)):
 Calls prog 162 #[.string s,I0 n] w fun e w'=>De (Ak s n) w e w':=by
 rcases p with p|p|p|p|p;all_goals
  have H:=Aa (show Ak s n={ok:=false,i:=n+1}by simp[Ak,Br,p,CP,kW,kD,AY,a]);have f:C4 (bt s n) 65 72 = -1:=by rw[p];decide
  have g:AY [110,108,104,107] (bt s n)=false:=by rw[p];decide
  refine ky ?_;intro ak af;have k:=Fc (bt s (n+1)) 97 104 a;have j:=Eh s (n+1);have h:=FT s (n+1);rw[p]at f g ak af;go_enter func162,ntmps162;go_wp2_with (first
   | refine nW ?_
   | refine nV ?_)
  refine aT (v:=.tuple #[.agg (It.cells {c:=bt s n,pl:=(n:Int)+1,w:=0,d := -1}),I0 (n+1),I0 (0),.bool false]) GO rfl ?_;rw[H.o];exact B7 {c:=bt s n,pl:=(n:Int)+1,w:=0,d := -1} ((n:Int)+1) (show((n:Int)+1)=((n+1:Nat):Int)by omega) (fun b=>by cases b) rfl (FO _ _ _)
abbrev nY(h:PLift q->p:=by
 intro aa;go_at_call 83;refine(AI _ _ _ ah kX).mono ?_;rintro e w'⟨rfl,rfl⟩;simp only[bE,Ra,tn2];exact aa.1):p:=h ⟨z⟩
theorem Wn(s n w)(ah:s.size<=maxLen)(h:n<=1000)(f:bt s n=39)(b:AG (bt s (n+1))<0):
 Calls prog 162 #[.string s,I0 n] w fun e w'=>De (Ak s n) w e w':=by
 have H:=Aa (show Ak s n={ok:=false,i:=n+1}by simp[Ak,f,b]);have g:C4 39 65 72 = -1:=lC;go_enter func162,ntmps162;go_wp2_with (first
  | refine nY ?_
  | refine nV ?_)
 refine aT (v:=.tuple #[.agg (It.cells {c:=39,pl:=n}),I0 (n+1),I0 0,.bool false]) (by simp[results,results162,go_sem,It.cells]) rfl ?_;rw[H.o];exact B7 {c:=39,pl:=n} ((n:Int)+1) (show((n:Int)+1)=((n+1:Nat):Int)by omega) (fun a=>by cases a) rfl (FO _ _ _)
theorem Ab3(a)(b : -100000<=a)(e:a<=100000):IntKind.i64.wrap a=a:=lI
theorem Ve(w a b):Below w.heap.size w ((w.alloc a).alloc b).drew:=(FO w a b).drew
theorem Xs(s n w)(ah:s.size<=maxLen)(u:n<=1000)(h:bt s n=39)(o:0<=AG (bt s (n+1)))(g:AG (bt s (n+2))<0):
 Calls prog 162 #[.string s,I0 n] w fun e w'=>De (Ak s n) w e w':=by
 have H:Hid (Ak s n={ok:=false,i:=n+2}):=by
  have h0:¬ AG (bt s (n+1))<0:=kX;have f:AG (bt s (n+2))<0:=kX;have:Ak s n={ok:=false,i:=n+2}:=by simp only[Ak,h,h0,f,dU,cT];simp
  exact this
 have r:C4 39 65 72 = -1:=lC;have j:=FY (bt s (n+1));have k:=FY (bt s (n+2));have p:¬ 0<=AG (bt s (n+2)):=kX;go_enter func162,ntmps162;go_wp2_with (first
  | refine nY ?_
  | refine nV ?_)
 go_region_with (go_at_call 68;refine(Ll _ _).mono ?_;rintro e w'⟨rfl,rfl⟩)
 all_goals
  go_wp2;refine aT (v:=.tuple #[.agg (It.cells {c:=39,b:=16*AG (bt s (n+1))+AG (bt s (n+2)),pl:=n}),I0 (n+2),I0 0,.bool false]) (by simp[results,results162,go_sem,It.cells,Act.put,g];rw[Ab3 ((n:Int)+3) kX kX,Ab3 _ kX kX];try omega) rfl ?_;rw[H.o];exact B7 {c:=39,b:=16*AG (bt s (n+1))+AG (bt s (n+2)),pl:=n} ((n:Int)+2) (show((n:Int)+2)=((n+2:Nat):Int)by omega) (fun a=>by cases a) rfl (Ve _ _ _)
theorem VZ(s n w)(ah:s.size<=maxLen)(r:n<=1000)(f:bt s n=39)(j:0<=AG (bt s (n+1)))(k:0<=AG (bt s (n+2))):
 Calls prog 162 #[.string s,I0 n] w fun e w'=>De (Ak s n) w e w':=by
 have H:Hid (Ak s n={ok:=true,i:=n+3,it:={c:=39,b:=16*AG (bt s (n+1))+AG (bt s (n+2)),pl:=n}}):=by
  have h0:¬ AG (bt s (n+1))<0:=kX;have a:¬ AG (bt s (n+2))<0:=kX;have:Ak s n={ok:=true,i:=n+3,it:={c:=39,b:=16*AG (bt s (n+1))+AG (bt s (n+2)),pl:=n}}:=by simp only[Ak,f,h0,a,dU,cT];simp
  exact this
 have p:C4 39 65 72 = -1:=lC;have g:=FY (bt s (n+1));have h:=FY (bt s (n+2));have o:¬ AG (bt s (n+2))<0:=kX;go_enter func162,ntmps162;go_wp2_with (first
  | refine nY ?_
  | refine nV ?_)
 go_region_with (go_at_call 68;refine(Ll _ _).mono ?_;rintro e w'⟨rfl,rfl⟩)
 all_goals
  go_wp2;refine aT (v:=.tuple #[.agg (It.cells {c:=39,b:=16*AG (bt s (n+1))+AG (bt s (n+2)),pl:=n}),I0 (n+3),I0 0,.bool true]) (by simp[results,results162,go_sem,It.cells,Act.put];rw[Ab3 ((n:Int)+3) kX kX,Ab3 _ kX kX];try omega) rfl ?_;rw[H.o];exact B7 {c:=39,b:=16*AG (bt s (n+1))+AG (bt s (n+2)),pl:=n} ((n:Int)+3) (show((n:Int)+3)=((n+3:Nat):Int)by omega) (fun _=>rfl) rfl (Ve _ _ _)
theorem Uv(c)(h:CP c=true):c=110\/c=108\/c=40\/c=47\/c=42\/c=104\/c=107\/c=114\/c=116\/c=119\/c=64\/c=115\/c=46:=by
 exact XN
theorem Nr(s g w)(e:s.size<=maxLen)(h0:0<=g)(x:g<=1000):
 Calls prog 162 #[.string s,I0 g] w fun r w'=>De (Ak s g.toNat) w r w':=by
 obtain⟨n,rfl⟩:=hI h0;have b:n<=1000:=kX;rw[bE];by_cases o:65<=bt s n/\bt s n<=72;exact Xv s n w e b o.1 o.2;by_cases h:bt s n=39;by_cases u:AG (bt s (n+1))<0;exact Wn s n w e b h u;by_cases v:AG (bt s (n+2))<0;exact Xs s n w e b h kX v;exact VZ s n w e b h kX kX;by_cases p:CP (bt s n)=true
 rotate_left;exact V5 s n w e b (by simpa using p) o h;by_cases f:49<=bt s (n+1)/\bt s (n+1)<=52;all_goals by_cases j:97<=bt s (n+1)/\bt s (n+1)<=104
 all_goals by_cases k:97<=bt s (n+2)/\bt s (n+2)<=104
 all_goals rcases Uv _ p with a|a|a|a|a|a|a|a|a|a|a|a|a
 all_goals first
  | (exact Ae0 s n w e b kX f.1 f.2;done)
  | (exact Yr s n w e b kX f;done)
  | (exact Aa4 s n w e b kX f.1 f.2 k.1 k.2;done)
  | (exact Wc s n w e b kX f.1 f.2 k;done)
  | (exact Afd s n w e b kX j.1 j.2;done)
  | (exact Yw s n w e b kX j;done)
  | (exact Ado s n w e b kX;done)
theorem WP(h:p:=by
 rename_i an;have:=A5 an;exact⟨by simp only;omega,by simp only;omega,fun _=>by simp only;omega⟩):p:=h
theorem i1(h:p:=by
 rw[ae,rdNum,aF (show CW s a 48 57=true from bF ⟨aj,by omega,by omega⟩)];have:=F9 s u (min (0*10+D1 s a) 4294967296) (a+1) kX;omega):p:=h
def CW(s:aA)(i:Nat)(a b:Int):Bool:=decide (i<s.size/\a<=bt s i/\bt s i<=b)
theorem A5{s i a b}(e:CW s i a b=true):i<s.size:=(dE e).1
theorem DW{s i a b}(e:CW s i a b=true):a<=bt s i/\bt s i<=b:=(dE e).2
structure Nd (T:Type) where
 k:Nat
 n:Nat
 run:aD UInt8
 kids:aD T
def Tr:Nat->Type
 | 0=>Empty
 | n+1=>Nd (Tr n)
def D1(s:aA)(a:Nat):Nat:=(bt s a-48).toNat
def rdNum(s:aA):Nat->Nat->Nat->Nat × Nat
 | 0,n,a=>(n,a)
 | f+1,n,a=>if CW s a 48 57 then rdNum s f (min (n*10+D1 s a) 4294967296) (a+1)else(n,a)
def Hz(T:Type)(s:aA)(a:Nat):aM (Nd T) × Nat:=
 if CW s a 48 48 then(some ⟨0,0,[],[]⟩,a+1)
 else if CW s a 49 57 then(if 4294967295<(rdNum s s.size 0 a).1 then(none,(rdNum s s.size 0 a).2)else(some ⟨0,(rdNum s s.size 0 a).1,[],[]⟩,(rdNum s s.size 0 a).2))
 else(none,a)
def rdRun(s:aA):Nat->Nat->aD UInt8->aM (aD UInt8) × Nat
 | 0,a,_=>(none,a)
 | f+1,a,b=>
  if CW s a 34 34 then(some b,a+1)
  else if AG (bt s a)<0 then(none,a)
  else if AG (bt s (a+1))<0 then(none,a+1)
  else rdRun s f (a+2) (b++[UInt8.ofNat (16*AG (bt s a)+AG (bt s (a+1))).toNat])
def Qj(T:Type)(a:aM (aD UInt8) × Nat):aM (Nd T) × Nat:=(a.1.map fun l=>⟨2,0,l,[]⟩,a.2)
def rdBetw{T:Type}(R:Nat->aM T × Nat)(s:aA)(b:Int):Nat->Nat->aD T->aM (aD T) × Nat
 | 0,a,_=>(none,a)
 | f+1,a,e=>
  match(R a).1 with
  | none=>(none,(R a).2)
  | some g=>if CW s (R a).2 b b then(some (e++[g]),(R a).2+1)else if CW s (R a).2 32 32 then rdBetw R s b f ((R a).2+1) (e++[g])else(none,(R a).2)
def JY{T:Type}(b:Nat)(a:aM (aD T) × Nat):aM (Nd T) × Nat:=(a.1.map fun l=>⟨b,0,[],l⟩,a.2)
def Em{T:Type}(R:Nat->aM T × Nat)(s:aA)(e:Nat)(b:Int)(a:Nat):aM (Nd T) × Nat:=
 if CW s a b b then(some ⟨e,0,[],[]⟩,a+1)else JY e (rdBetw R s b s.size a [])
def OA{T:Type}(d:Nat)(a:aM T × Nat):aM (Nd T) × Nat:=(a.1.map fun b=>⟨5,d,[],[b]⟩,a.2)
def IV{T:Type}(R:Nat->aM T × Nat)(s:aA)(a:Nat):aM (Nd T) × Nat:=
 if CW s a 48 49 then(if CW s (a+1) 32 32 then OA (D1 s a) (R (a+2))else(none,a+1))else(none,a)
def El{T:Type}(R:Nat->aM T × Nat)(s:aA)(a:Nat):aM (Nd T) × Nat:=
 if CW s a 45 45 then(some ⟨1,0,[],[]⟩,a+1)
 else if CW s a 34 34 then Qj T (rdRun s s.size (a+1) [])
 else if CW s a 40 40 then Em R s 3 41 (a+1)
 else if CW s a 91 91 then Em R s 4 93 (a+1)
 else if CW s a 47 47 then IV R s (a+1)
 else Hz T s a
def A4(s:aA):(n:Nat)->Nat->aM (Tr n) × Nat
 | 0,a=>(none,a)
 | n+1,a=>El (A4 s n) s a
def C1(s:aA):aM (Tr (s.size+1)) × Nat:=
 if 8000<s.size then(none,0)
 else if(A4 s (s.size+1) 0).2=s.size then A4 s (s.size+1) 0 else(none,(A4 s (s.size+1) 0).2)
theorem F9(s b):∀ n a,a<=s.size->a<=(rdNum s b n a).2/\(rdNum s b n a).2<=s.size:=by
 induction b with
 | zero=>intro n a e;exact⟨aB _,e⟩
 | succ b g=>
  intro n a e;rw[rdNum];split;rename_i f;have:=g (min (n*10+D1 s a) 4294967296) (a+1) (A5 f);omega;exact⟨aB _,e⟩
theorem Aab(s e):∀ a b,a<=s.size->a<=(rdRun s e a b).2/\(rdRun s e a b).2<=s.size:=by
 induction e with
 | zero=>intro a b f;exact⟨aB _,f⟩
 | succ e r=>
  intro a b f;have j:∀ i,¬ AG (bt s i)<0->i<s.size:=fun i g=>by
   by_cases h:i<s.size;exact h;rw[DM s i h]at g;exact absurd lC g
  rw[rdRun];split;rename_i p;have:=A5 p;simp only;omega;split;exact⟨aB _,f⟩;rename_i k;have:=j _ k;split;simp only;omega;rename_i o;have:=j _ o;have:=r (a+2) (b++[UInt8.ofNat (16*AG (bt s a)+AG (bt s (a+1))).toNat]) kX;omega
structure RdO {T:Type} (s:aA) (a:Nat) (r:aM T × Nat):Prop where
 ge:a<=r.2
 le:r.2<=s.size
 lt:r.1.isSome=true->a<r.2
def Mf{T:Type}(s:aA)(R:Nat->aM T × Nat):Prop:=∀ a,a<=s.size->RdO s a (R a)
theorem Xh{T:Type}(s)(R:Nat->aM T × Nat)(p:Mf s R)(h e):∀ a b,a<=s.size->a<=(rdBetw R s h e a b).2/\(rdBetw R s h e a b).2<=s.size:=by
 induction e with
 | zero=>intro a b f;exact⟨aB _,f⟩
 | succ e r=>
  intro a b f;have j:=p a f;have k:=j.ge;have o:=j.le;rw[rdBetw];split;exact⟨k,o⟩;split;rename_i g;have:=A5 g;simp only;omega;split;rename_i u _ _ g;have:=A5 g;have:=r ((R a).2+1) (b++[u]) kX;omega;exact⟨k,o⟩
theorem U2(T:Type)(s a)(f:a<=s.size):RdO s a (Hz T s a):=by
 unfold Hz;split;exact WP;split;rename_i an;have aj:=A5 an;have h:=DW an;have b:=F9 s s.size 0 a f;have g:a<(rdNum s s.size 0 a).2:=by
  obtain⟨u,ae⟩:∃ u,s.size=u+1:=⟨s.size-1,by omega⟩;exact i1
 split;exact⟨b.1,b.2,fun e=>by cases e⟩;exact⟨b.1,b.2,fun _=>g⟩;exact⟨aB _,f,fun e=>by cases e⟩
theorem Qw{T:Type}(s)(R:Nat->aM T × Nat)(g:Mf s R):Mf s (El R s):=by
 intro a k;have h:∀ j b,a<s.size->RdO s a (Em R s j b (a+1)):=fun j b r=>by
  unfold Em;split;exact WP;have:=Xh s R g b s.size (a+1) [] kX;exact⟨by simp only[JY];omega,by simp only[JY];omega,fun _=>by simp only[JY];omega⟩
 unfold El;split;exact WP;split;rename_i an;have:=A5 an;have:=Aab s s.size (a+1) [] kX;exact⟨by simp only[Qj];omega,by simp only[Qj];omega,fun _=>by simp only[Qj];omega⟩;split;rename_i an;exact h 3 41 (A5 an);split;rename_i an;exact h 4 93 (A5 an);split;rename_i an;have:=A5 an;unfold IV;split;rename_i o;have:=A5 o;split;rename_i p;have:=A5 p;have f:=g (a+1+2) kX;have:=f.ge;have:=f.le;exact⟨by simp only[OA];omega,by simp only[OA];omega,fun _=>by simp only[OA];omega⟩;exact⟨by simp only;omega,by simp only;omega,fun e=>by cases e⟩;exact⟨by simp only;omega,by simp only;omega,fun e=>by cases e⟩;exact U2 T s a k
theorem EB(s n):Mf s (A4 s n):=by
 induction n with
 | zero=>intro f b;exact⟨aB _,b,fun a=>by cases a⟩
 | succ n e=>exact Qw s _ e
def G8(t:TypeId)(w:aE)(a:Nat)(s:aA)(i:Nat):Prop:=Ac w a #[.string s,I0 i] t
structure CI (rb:Nat) (w w':aE):Prop where
 os:w'.os=w.os
 tape:w'.tape=w.tape
 output:w'.output=w.output
 size:w'.heap.size=w.heap.size
 block:∀ k,k≠rb->w'.heap[k]? = w.heap[k]?
theorem CI.refl(a w):CI a w w:=⟨rfl,rfl,rfl,rfl,fun _ _=>rfl⟩
theorem CI.drewN(rb w n):CI rb w (w.drewN n):=⟨rfl,rfl,rfl,rfl,fun _ _=>rfl⟩
theorem CI.trans{e f b c}(h:CI e f b)(a:CI e b c):CI e f c:=⟨a.os.trans h.os,a.tape.trans h.tape,a.output.trans h.output,a.size.trans h.size,fun i g=>(a.block i g).trans (h.block i g)⟩
theorem CI.setCell{a e b}(f:CI a e b)(h j):CI a e (b.setCell (A0 a h) j):=
 f.trans ⟨rfl,rfl,rfl,by simp[World.setCell],fun k g=>aN _ _ _ _ g⟩
theorem CI.fr{rb w w'}(a:CI rb w w')(B):Fr B rb w w':=⟨a.os,a.tape,a.output,by rw[a.size];omega,fun e _ b=>a.block e b⟩
theorem Ac.I1{e w w' a b t}(f:Ac w a b t)(h:CI e w w')(g:a≠e):Ac w' a b t:=by
 unfold Ac at*;rw[h.block a g];exact f
theorem G8.drewN{t w rb s i}(a:G8 t w rb s i)(n):G8 t (w.drewN n) rb s i:=a
theorem F5(t w a s i)(b:G8 t w a s i)(_hs:s.size<=8000)(_hi:i<=s.size):
 Calls prog 49 #[P0 a] w fun e w'=>e=.returned (.bool (decide (i=s.size)))/\CI a w w'/\G8 t w' a s i:=by
 have g:=b.c0;have j:=b.c1;have f:=Aa b;go_enter func49,ntmps49;go_wp2_with fail;go_quiet (fail);go_wp2;go_ret;refine⟨?_,CI.drewN _ _ _,f.o.drewN _⟩;exact ii
def Agj(t:TypeId)(s:aA)(i:Nat)(b e:Int)(a:Nat)(w:aE)(f:Ending)(w':aE):Prop:=
 CI a w w'/\((CW s i b e=true/\f=.returned (.tuple #[.int .u8 (bt s i),.bool true])/\G8 t w' a s (i+1))\/
  (CW s i b e=false/\f=.returned (.tuple #[.int .u8 0,.bool false])/\G8 t w' a s i))
theorem EO(t w h s i f g)(z:G8 t w h s i)(v:s.size<=8000)(u:i<=s.size):
 Calls prog 97 #[P0 h,.int .u8 f,.int .u8 g] w fun e w'=>Agj t s i f g h w e w':=by
 by_cases E:i=s.size
 . have bj:=Aa (show CW s i f g=false by
    unfold CW;simp;omega)
   have k:=Aa z;have ab:=Hid.o (p:=i=s.size) E;go_enter func97,ntmps97;go_wp2_with fail;refine(F5 t w h s i k.o v u).mono ?_;exact n9
 have x:i<s.size:=kX;have J:(i:Int)<(s.size:Int):=kX;have k:=Aa z;have r:=Aa (Cs s i x)
 cases b:CW s i f g
 . have F:(s[i].toNat:Int)<f\/(¬ (s[i].toNat:Int)<f/\g<(s[i].toNat:Int)):=by
    unfold CW at b;rw[r.out]at b;simp at b;by_cases j:(s[i].toNat:Int)<f;exact Or.inl j;exact Or.inr ⟨j,b x kX⟩
   have o:=Aa b;rcases F with j|⟨j,A⟩;all_goals
    go_enter func97,ntmps97;go_wp2_with fail;refine(F5 t w h s i k.o v u).mono ?_;refine ku ?_;intro w1 y a ad ak;have p:=Aa a;go_wp2_with fail;go_quiet (fail);go_wp2;go_ret2;exact⟨y.trans (CI.drewN _ _ _),Or.inr ⟨o.o,rfl,p.o.drewN _⟩⟩
 have B:¬ (s[i].toNat:Int)<f/\¬ g<(s[i].toNat:Int):=by
  unfold CW at b;rw[r.out]at b;simp at b;omega
 obtain⟨j,A⟩:=B;have o:=Aa b;go_enter func97,ntmps97;go_wp2_with fail;refine(F5 t w h s i k.o v u).mono ?_;refine ku ?_;intro w1 y a ad ak;have I:=a.frozen 1;have p:=Aa a;go_wp2_with fail;go_quiet (fail);go_wp2;go_ret2;refine⟨(y.trans (CI.drewN _ _ _)).setCell _ _,Or.inl ⟨o.o,?_,?_⟩⟩;rw[r.out];rfl;exact(p.o.drewN _).set 1 _
def Af2(t:TypeId)(s:aA)(i:Nat)(a:Int)(b:Nat)(w:aE)(e:Ending)(w':aE):Prop:=
 CI b w w'/\((CW s i a a=true/\e=.returned (.bool true)/\G8 t w' b s (i+1))\/(CW s i a a=false/\e=.returned (.bool false)/\G8 t w' b s i))
theorem Bh(t w b s i a)(p:G8 t w b s i)(r:s.size<=8000)(o:i<=s.size):
 Calls prog 59 #[P0 b,.int .u8 a] w fun h w'=>Af2 t s i a b w h w':=by
 have k:=Aa p;go_enter func59,ntmps59;go_wp2_with fail;refine(EO t w b s i a a k.o r o).mono ?_;rintro h w1⟨j,⟨f,rfl,g⟩|⟨f,rfl,g⟩⟩
 . have e:=Aa f;simp only;go_wp2;go_ret;exact⟨j,Or.inl ⟨e.o,rfl,g⟩⟩
 have e:=Aa f;simp only;go_wp2;go_ret;exact⟨j,Or.inr ⟨e.o,rfl,g⟩⟩
def Ahb(t:TypeId)(s:aA)(i:Nat)(a:Nat)(w:aE)(b:Ending)(w':aE):Prop:=
 CI a w w'/\((∃ d:Nat,d<16/\AG (bt s i)=d/\i<s.size/\b=.returned (.tuple #[.int .u8 (d:Nat),.bool true])/\G8 t w' a s (i+1))\/(AG (bt s i)<0/\(∃ e:Int,b=.returned (.tuple #[.int .u8 e,.bool false]))/\G8 t w' a s i))
theorem Ks(t w h s i)(B:G8 t w h s i)(x:s.size<=8000)(v:i<=s.size):
 Calls prog 177 #[P0 h] w fun j w'=>Ahb t s i h w j w':=by
 have z:=Aa B;go_enter func177,ntmps177;go_wp2_with fail;refine(EO t w h s i 48 57 z.o x v).mono ?_;rintro j w1⟨r,⟨a,rfl,k⟩|⟨a,rfl,k⟩⟩
 . have f:=A5 a;have e:=DW a;have u:=Aa a;obtain⟨d,A,p⟩:∃ d:Nat,d<10/\bt s i=48+d:=⟨(bt s i-48).toNat,by omega,by omega⟩;have g:AG (bt s i)=d:=by unfold AG;rw[aF ⟨e.1,e.2⟩];omega
   have b:=Aa g;rw[p];have E:IntKind.u8.wrap (48+(d:Int)-48)=d:=lK;go_wp2;go_ret2;exact⟨r,Or.inl ⟨d,by omega,b.o,f,rfl,k⟩⟩
 have u:=Aa a;go_wp2_with fail;refine(EO t w1 h s i 97 102 k x v).mono ?_;rintro j w2⟨y,⟨a,rfl,o⟩|⟨a,rfl,o⟩⟩
 . have f:=A5 a;have e:=DW a;obtain⟨d,A,p⟩:∃ d:Nat,d<6/\bt s i=97+d:=⟨(bt s i-97).toNat,by omega,by omega⟩;have g:AG (bt s i)=(10+d:Nat):=by unfold AG;rw[aC kX,aF ⟨e.1,e.2⟩];omega
   have b:=Aa g;rw[p];have E:IntKind.u8.wrap (97+(d:Int)-97)=d:=lK;have J:IntKind.u8.wrap ((d:Int)+10)=(10+d:Nat):=lK;go_wp2;go_ret2;exact⟨r.trans y,Or.inl ⟨10+d,by omega,b.o,f,by rw[show((10+d:Nat):Int)=10+(d:Int)by omega];rfl,o⟩⟩
 have g:AG (bt s i)<0:=by
  by_cases f:i<s.size;have F:=gQ u.o;have I:=gQ a;unfold AG;rw[aC kX,aC kX];omega;rw[DM s i f];decide
 have b:=Aa g;go_wp2;go_ret2;exact⟨r.trans y,Or.inr ⟨b.o,⟨_,rfl⟩,o⟩⟩
def Ag4(t:TypeId)(s:aA)(i:Nat)(a:Nat)(w:aE)(b:Ending)(w':aE):Prop:=
 CI a w w'/\((¬ AG (bt s i)<0/\¬ AG (bt s (i+1))<0/\i+1<s.size/\b=.returned (.tuple #[.int .u8 ((UInt8.ofNat (16*AG (bt s i)+AG (bt s (i+1))).toNat).toNat:Int),.bool true])/\G8 t w' a s (i+2))\/
  (AG (bt s i)<0/\(∃ e,b=.returned (.tuple #[e,.bool false]))/\G8 t w' a s i)\/(¬ AG (bt s i)<0/\AG (bt s (i+1))<0/\i<s.size/\(∃ e,b=.returned (.tuple #[e,.bool false]))/\G8 t w' a s (i+1)))
theorem T1(t w b s i)(A:G8 t w b s i)(r:s.size<=8000)(y:i<=s.size):
 Calls prog 119 #[P0 b] w fun f w'=>Ag4 t s i b w f w':=by
 have v:=Aa A;go_enter func119,ntmps119;go_wp2_with fail;refine(Ks t w b s i v.o r y).mono ?_;rintro f w1⟨j,⟨d,F,k,p,rfl,g⟩|⟨k,⟨E,rfl⟩,g⟩⟩
 . have a:=Aa k;go_wp2_with fail;refine(Ks t w1 b s (i+1) g r p).mono ?_;rintro f w2⟨u,⟨d2,I,o,z,rfl,h⟩|⟨o,⟨E,rfl⟩,h⟩⟩
   . have e:=Aa o;have J:IntKind.u8.wrap ((d:Int)*16)=((d*16:Nat):Int):=lK;have K:IntKind.u8.wrap (((d*16:Nat):Int)+(d2:Int))=((16*d+d2:Nat):Int):=lK;have B:((UInt8.ofNat (16*(d:Int)+(d2:Int)).toNat).toNat:Int)=((16*d+d2:Nat):Int):=by
      rw[show(16*(d:Int)+(d2:Int)).toNat=16*d+d2 by omega];simp;omega
     have x:=Aa B;go_wp2;go_ret2;refine⟨j.trans u,Or.inl ⟨by rw[a.o];omega,by rw[e.o];omega,z,?_,h⟩⟩;rw[a.o,e.o,x.o,show((16*d+d2:Nat):Int)=(d:Int)*16+(d2:Int)by omega];rfl
   . have e:=Aa o;go_wp2;go_ret2;exact⟨j.trans u,Or.inr (Or.inr ⟨by rw[a.o];omega,e.o,p,⟨_,rfl⟩,h⟩)⟩
 have a:=Aa k;go_wp2;go_ret2;exact⟨j,Or.inr (Or.inl ⟨a.o,⟨_,rfl⟩,g⟩)⟩
theorem Cz{P:Program}{ops}{Q:Exit->Act->aE->Prop}{b}{w w'}{rest}{a}(e)(h:a.guard=none)(f:(execOp b.eval a).run P w=.ok (.value e) w')(j:wpList P ops Q rest (b.put a.dst e) w'):wpList P ops Q (a::rest) b w:=
 iN h fun k g=>by unfold Oper.wp;rw[f,hU];exact g _ _ j
theorem YK{P:Program}{ops}{Q:Exit->Act->aE->Prop}{b}{w w'}{rest}{a}(g:a.guard=none)(e:(execOp b.eval a).run P w=.ok .skip w')(h:wpList P ops Q rest (b.put a.dst undef) w'):wpList P ops Q (a::rest) b w:=
 iN g fun j f=>by unfold Oper.wp;rw[e,Oper.upon_skip];exact f _ _ h
theorem Bw{P:Program}{w}{f:Operand->aI}{b}{t}{e:Array (Nat × Operand)}{a}(h:b.op=.build t e)(g:P.built t (e.map fun(i,j)=>(i,f j)).toList=some a):(execOp f b).run P w=.ok (.value (.agg a)) w:=by
 unfold execOp;rw[h];simp only[fY,run_build w t _ a g,Result.andThen,fO]
theorem Nb{P:Program}{w}{e:Operand->aI}{a t c}(b:a.op=.alloc t)(f:(zeroValue t).run P w=.ok (.agg c) w):
 (execOp e a).run P w=.ok (.value (P0 w.heap.size)) (w.alloc (.cells c t)):=by
 unfold execOp;rw[b];go_simp
 done
theorem Nu{P:Program}{w:aE}{a:Operand->aI}{e:Oper}{t:TypeId}{b f:Operand}{c c':Array aI}(k:e.op=.store t b f)(h:a b=P0 w.heap.size)(p:a f=.agg c')(j:(P.info? t).map (·.size)=some c'.size)(o:c.size=c'.size)(g:c'.all (·.oneCell')=true):(execOp a e).run P (w.alloc (.cells c t))=.ok .skip (w.alloc (.cells c' t)):=by
 unfold execOp;rw[k];simp only[h,p,fY,run_storeAt_new w t c c' j o g,Result.andThen,fO]
theorem JM{P:Program}{b:Func}{a:Nat}{t:TypeId}{e:Array aI}{w:aE}{ad:Addr}{f:aI}(h:b.results=#[.cell a t])(g:e.getD a undef=.pointer (some ad))(j:(loadVar t ad).run P w=.ok f w):(results b e).run P w=.ok f w:=by
 unfold results;rw[h];simp only[List.mapM_toArray,List.mapM_cons,List.mapM_nil,g,asAddr,fY,fO,Result.andThen,j,map_eq_pure_bind,bind_assoc,pure_bind];rfl
def zDo:Array aI:=Array.replicate 45 .nilFunc
theorem Tryz.Adq:(prog.info? 113).map (fun i=>(i.zero,i.size))=some (some (.agg zDo),45):=kZ
theorem QS(w):Calls prog 76 #[] w fun b w'=>b=.returned (.agg E2.toArray)/\w'=w.alloc (.cells E2.toArray 113):=by
 obtain⟨e,a⟩:=zero_of_info Tryz.Adq;go_enter func76,ntmps76;refine wp_seq ?_;refine iH ?_;refine Cz _ rfl (Nb rfl (e _)) ?_;refine jK ?_;show Code.wp _ _ _ _ _;refine wp_seq ?_;refine iH ?_;refine Cz (.agg #[CO 120,CO 121,CO 122]) rfl (Bw rfl kZ) ?_;refine Cz (.agg #[CO 123,CO 121,CO 124]) rfl (Bw rfl kZ) ?_;refine Cz (.agg #[CO 125,CO 126,CO 127]) rfl (Bw rfl kZ) ?_;refine Cz (.agg #[CO 128,CO 129,CO 130]) rfl (Bw rfl kZ) ?_;refine Cz (.agg #[CO 131,CO 132,CO 133]) rfl (Bw rfl kZ) ?_;refine Cz (.agg #[CO 134,CO 135,CO 136]) rfl (Bw rfl kZ) ?_;refine Cz (.agg #[CO 137,CO 138,CO 139]) rfl (Bw rfl kZ) ?_;refine Cz (.agg #[CO 140,CO 141,CO 142]) rfl (Bw rfl kZ) ?_;refine Cz (.agg #[CO 143,CO 141,CO 144]) rfl (Bw rfl kZ) ?_;refine Cz (.agg #[CO 145,CO 146,CO 147]) rfl (Bw rfl kZ) ?_;refine Cz (.agg #[CO 148,CO 135,CO 149]) rfl (Bw rfl kZ) ?_;refine Cz (.agg #[CO 150,CO 151,CO 152]) rfl (Bw rfl kZ) ?_;refine Cz (.agg #[CO 153,CO 151,CO 154]) rfl (Bw rfl kZ) ?_;refine Cz (.agg #[CO 155,CO 151,CO 156]) rfl (Bw rfl kZ) ?_;refine Cz (.agg #[CO 157,CO 146,CO 158]) rfl (Bw rfl kZ) ?_;refine Cz (.agg E2.toArray) rfl (Bw rfl kZ) ?_;refine YK rfl (Nu (w:=w) (c:=zDo) (c':=E2.toArray) rfl kZ kZ a kZ kZ) ?_;refine jK ?_;show Code.wp _ _ _ _ _;refine wp_ret ?_;refine aT (v:=.agg E2.toArray) ?_ rfl ?_;refine JM (a:=0) (t:=113) (ad:=(A0 w.heap.size 0)) results76 ?_ ?_;kernel_rfl;exact run_loadVar_new w 113 E2.toArray _ _ underlying113 a;exact⟨rfl,rfl⟩
theorem Xq{P:Program}{w}{f:Operand->aI}{a}{e:Operand}{b}(g:a.op=.move e)(h:f e=b):(execOp f a).run P w=.ok (.value b) w:=by
 unfold execOp;rw[g];simp only[h,fO]
def zWk:Array aI:=#[.nilFunc,.nilFunc,.nilFunc,.nilFunc,.nilFunc,.nilFunc,.nilFunc,.nilFunc,.nilFunc,.nilFunc,.nilFunc,.nilFunc,.nilFunc,.nilFunc,.nilFunc,.nilFunc,.nilFunc,.nilFunc,.nilFunc,.nilFunc,.nilFunc,.nilFunc,.nilFunc,.nilFunc,.nilFunc,.nilFunc,.nilFunc,.nilFunc,.nilFunc,.nilFunc,.nilFunc,.nilFunc,.nilFunc,.nilFunc,.nilFunc,.nilFunc,.nilFunc,.nilFunc,.nilFunc,.nilFunc,.nilFunc,.nilFunc,.nilFunc,.nilFunc,.nilFunc,.pointer none]
theorem Tryz.Ad8:(prog.info? 115).map (fun i=>(i.zero,i.size))=some (some (.agg zWk),46):=kZ
def XM(a:Nat):Array aI:=(E2++[Value.pointer (some (A0 a 0))]).toArray
theorem P9(w:aE)(c b:Array aI)(t:TypeId)(e:Obj):((w.alloc (.cells c t)).alloc e).setRow w.heap.size b=(w.alloc (.cells b t)).alloc e:=by
 simp only[World.setRow,World.alloc];congr 1;apply Array.ext_getElem?;intro i;rw[kH];by_cases a:w.heap.size=i;subst a;simp[kV];have g:¬ i=w.heap.size:=fun f=>a f.symm
 simp[a,g,kV]
theorem KB(w a):Calls prog 50 #[P0 a] w fun e w'=>e=.returned (.agg (XM a))/\w'=(w.alloc (.cells (XM a) 115)).alloc (.cells E2.toArray 113):=by
 obtain⟨f,b⟩:=zero_of_info Tryz.Ad8;go_enter func50,ntmps50;refine wp_seq ?_;refine iH ?_;refine Cz _ rfl (Nb rfl (f _)) ?_;refine jK ?_;show Code.wp _ _ _ _ _;refine wp_seq ?_;refine iH ?_;refine wpList_callTo rfl _ rfl 76 #[] kZ _ _ (QS _) ?_;refine Cz (P0 a) rfl (Xq rfl kZ) ?_;refine Cz (.agg (XM a)) rfl (Bw rfl kZ) ?_;refine wpList_store_row rfl _ _ _ rfl w.heap.size (XM a) kZ kZ 115 zWk ?_ b kZ kZ ?_;exact Ac.alloc (Ac.new w zWk 115) _;rw[P9];refine jK ?_;show Code.wp _ _ _ _ _;refine wp_ret ?_;refine aT (v:=.agg (XM a)) ?_ rfl ?_;refine JM (a:=2) (t:=115) (ad:=(A0 w.heap.size 0)) results50 ?_ ?_;kernel_rfl;exact run_loadVar_row _ w.heap.size 115 115 (XM a) (0,0) _ (Ac.alloc (Ac.new w (XM a) 115) _) underlying115 rfl b;exact⟨rfl,rfl⟩
abbrev Rb:=aD UInt8 × Bool × Nat
def Ge(s:aA)(l:aD UInt8)(a:Nat):Sum Rb (Bool × Nat):=
 if bt s a=45 then .inl (l,false,a+1)
 else if bt s a=34 then .inl (35::l,false,a+1)
 else if bt s a=40 then .inl (41::l,true,a+1)
 else if bt s a=91 then .inl (93::l,true,a+1)
 else if bt s a=47 then .inl (50::l,false,a+1)
 else if bt s a=48 then .inl (l,false,a+1)
 else if a<(rdNum s s.size 0 a).2/\(rdNum s s.size 0 a).1<4294967296 then .inl (l,false,(rdNum s s.size 0 a).2)else .inr (false,(rdNum s s.size 0 a).2)
def Hi(s:aA)(l:aD UInt8)(a:Nat):Sum Rb (Bool × Nat):=
 if bt s a=34 then .inl (l,false,a+1)
 else if AG (bt s a)<0 then .inr (false,a)
 else if AG (bt s (a+1))<0 then .inr (false,a+1)
 else .inl (35::l,false,a+2)
def GA(s:aA)(a:Rb):Sum Rb (Bool × Nat):=
 if a.2.2<s.size then
  match a.1 with
  | []=>.inr (false,a.2.2)
  | c::b=>
   if(c=41\/c=93)/\bt s a.2.2≠c.toNat then
    (if a.2.1 then .inl (86::c::b,false,a.2.2)else if bt s a.2.2=32 then .inl (86::c::b,false,a.2.2+1)else .inr (false,a.2.2))
   else if c=41\/c=93 then .inl (b,false,a.2.2+1)
   else if c=86 then Ge s b a.2.2
   else if c=35 then Hi s b a.2.2
   else if c=43 then(if bt s a.2.2=32 then .inl (86::b,false,a.2.2+1)else .inr (false,a.2.2))
   else if bt s a.2.2=48\/bt s a.2.2=49 then .inl (43::b,false,a.2.2+1)else .inr (false,a.2.2)
 else .inr (a.1.isEmpty,a.2.2)
def tRuns(s:aA):Nat->Rb->aM (Bool × Nat)
 | 0,_=>none
 | k+1,x=>match GA s x with
  | .inl y=>tRuns s k y
  | .inr r=>some r
def Ends(s:aA)(e:Rb)(b:Bool × Nat):Prop:=∃ a,tRuns s a e=some b
theorem Ends.go{s}{b y:Rb}{a:Bool × Nat}(e:GA s b=.inl y)(g:Ends s y a):Ends s b a:=by
 obtain⟨n,f⟩:=g;exact⟨n+1,by rw[tRuns,e];exact f⟩
theorem Ends.stop{s}{b:Rb}{a:Bool × Nat}(e:GA s b=.inr a):Ends s b a:=⟨1,by rw[tRuns,e]⟩
theorem Ends.next{s}{e f:Rb}{b:Bool × Nat}(h:Ends s e b)(g:GA s e=.inl f):Ends s f b:=by
 obtain⟨n,a⟩:=h
 cases n with
 | zero=>cases a
 | succ n=>rw[tRuns,g]at a;exact⟨n,a⟩
theorem Ends.is{s}{e:Rb}{b r':Bool × Nat}(g:Ends s e b)(f:GA s e=.inr r'):r'=b:=by
 obtain⟨n,a⟩:=g
 cases n with
 | zero=>cases a
 | succ n=>rw[tRuns,f]at a;exact dH a
def Goes{T:Type}(s:aA)(l:aD UInt8)(e:Rb)(a:aM T × Nat):Prop:=
 ∀ b,(match a.1 with|some _=>Ends s (l,false,a.2) b|none=>b=(false,a.2))->Ends s e b
theorem Goes.go{T:Type}{s l}{b y:Rb}{a:aM T × Nat}(e:GA s b=.inl y)(g:Goes s l y a):Goes s l b a:=fun h f=>Ends.go e (g h f)
theorem Goes.stop{T:Type}{s l}{b:Rb}{a}(e:GA s b=.inr (false,a)):Goes s l b ((none,a):aM T × Nat):=fun g f=>by cases f;exact Ends.stop e
theorem Goes.done{T:Type}{s l}{e:T}{a}:Goes s l (l,false,a) ((some e,a):aM T × Nat):=fun _ b=>b
theorem Goes.one{T:Type}{s l}{b:Rb}{f:T}{a}(e:GA s b=.inl (l,false,a)):Goes s l b ((some f,a):aM T × Nat):=Goes.go e Goes.done
theorem Goes.map{T j:Type}{s l}{h:Rb}{a:aM T × Nat}{b:aM j × Nat}(p:Goes s l h a)(e:a.2=b.2)(f:a.1.isSome=b.1.isSome):Goes s l h b:=fun r g=>p r (by
 obtain⟨k,u⟩:=a;obtain⟨o,v⟩:=b;simp only at e f g⊢;subst e
 cases k<;>cases o<;>first|exact g|cases f)
theorem ED{s c r f a}(b:a<s.size):GA s (c::r,f,a)=
 if(c=41\/c=93)/\bt s a≠c.toNat then(if f then .inl (86::c::r,false,a)else if bt s a=32 then .inl (86::c::r,false,a+1)else .inr (false,a))
 else if c=41\/c=93 then .inl (r,false,a+1)else if c=86 then Ge s r a else if c=35 then Hi s r a
 else if c=43 then(if bt s a=32 then .inl (86::r,false,a+1)else .inr (false,a))else if bt s a=48\/bt s a=49 then .inl (43::r,false,a+1)else .inr (false,a):=by
 unfold GA;rw[aF (by exact b)]
theorem Hg{s c f b a}(e:¬ a<s.size):GA s (c::f,b,a)=.inr (false,a):=by
 unfold GA;rw[aC (by exact e)];rfl
theorem XY{s b e a}(f:a<s.size):GA s (86::b,e,a)=Ge s b a:=by rw[ED f];simp
theorem Ko{s b e a}(f:a<s.size):GA s (35::b,e,a)=Hi s b a:=by rw[ED f];simp
theorem Ej{s a c}(b:CW s a c c=true):a<s.size/\bt s a=c:=⟨A5 b,by have:=DW b;omega⟩
theorem FC{s a c}(b:¬ CW s a c c=true)(e:a<s.size):bt s a≠c:=fun f=>b (bF ⟨e,by omega,by omega⟩)
def Fol{T:Type}(s:aA)(b:Nat)(R:Nat->aM T × Nat):Prop:=∀ a l,b<=a->a<=s.size->Goes s l (86::l,false,a) (R a)
theorem Tj(s l):∀ e a j,a<=s.size->s.size<a+e->Goes s l (35::l,false,a) (rdRun s e a j):=by
 intro e;induction e with
 | zero=>intro a j p r;omega
 | succ e u=>
  intro a j p r;rw[rdRun];by_cases b:a<s.size;split;rename_i f;exact Goes.one (by rw[Ko b,Hi,aF (Ej f).2]);rename_i f;have o:=FC f b;split;rename_i g;exact Goes.stop (by rw[Ko b,Hi,aC o,aF g]);rename_i g;split;rename_i h;exact Goes.stop (by rw[Ko b,Hi,aC o,aC g,aF h]);rename_i h;have v:=cB fun k=>h (by rw[DM s _ k];decide)
  exact Goes.go (y:=(35::l,false,a+2)) (by rw[Ko b,Hi,aC o,aC g,aC h]) (u (a+2) _ kX kX);have f:¬ CW s a 34 34=true:=fun k=>b (A5 k)
  rw[aC f,aF (by rw[DM s _ b];decide)];exact Goes.stop (Hg b)
theorem Yi{T:Type}{s}{R:Nat->aM T × Nat}(k:Mf s R){a}(j:a<=s.size)(p:¬ a<s.size):R a=(none,a):=by
 have b:=k a j;have g:=b.ge;have h:=b.le;have e:=b.lt;generalize R a=q at*;obtain⟨o,f⟩:=q;simp only at g h e
 cases o with
 | none=>rw[show f=a by omega]
 | some r=>have:=e rfl;omega
theorem RV{T:Type}{s B}{R:Nat->aM T × Nat}(K:Fol s B R)(u:Mf s R)(c)(x:c=41\/c=93)(l):
 ∀ h a r,B<=a->a<=s.size->s.size<a+h->Goes s l (86::c::l,false,a) (rdBetw R s c.toNat h a r):=by
 intro h;induction h with
 | zero=>intro a r A j J;omega
 | succ h M=>
  intro a r A j J;have o:=K a (c::l) A j;have E:=(u a j).ge;have F:=(u a j).le;have z:=(u a j).lt;rw[rdBetw];generalize R a=y at*;obtain⟨y,f⟩:=y;simp only at E F z⊢
  cases y with
  | none=>intro e g;exact o e g
  | some S=>
   have O:=z rfl;simp only;by_cases k:CW s f c.toNat c.toNat=true;rw[aF k];obtain⟨b,v⟩:=Ej k;exact fun e g=>o e (Ends.go (y:=(l,false,f+1)) (by rw[ED b,aC (fun I=>I.2 v),aF x]) g)
   rw[aC k];by_cases p:CW s f 32 32=true;rw[aF p];obtain⟨b,v⟩:=Ej p;exact fun e g=>o e (Ends.go (y:=(86::c::l,false,f+1)) (by rw[ED b,aF ⟨x,FC k b⟩];simp[v]) (M (f+1) _ kX kX kX e g))
   rw[aC p];intro e g;have L:e=(false,f):=g;subst L;refine o _ ?_;by_cases b:f<s.size;exact Ends.stop (by rw[ED b,aF ⟨x,FC k b⟩];simp[FC p b]);exact Ends.stop (Hg b)
theorem Ng{T:Type}{s k}{R:Nat->aM T × Nat}(u:Fol s k R)(j:Mf s R)(c)(e:c=41\/c=93)(l z a)(r:k<=a)(h0:0<a)(h:a<=s.size):
 Goes s l (c::l,true,a) (Em R s z c.toNat a):=by
 unfold Em;split;rename_i f;obtain⟨b,v⟩:=Ej f;exact Goes.one (by rw[ED b,aC (fun p=>p.2 v),aF e]);rename_i f;have y:=RV u j c e l s.size a [] r h kX;by_cases b:a<s.size;exact Goes.go (by rw[ED b,aF ⟨e,FC f b⟩];rfl) (y.map rfl (by simp[JY]));obtain⟨g,x⟩:∃ g,s.size=g+1:=⟨s.size-1,by omega⟩;have o:rdBetw R s c.toNat s.size a []=(none,a):=by rw[x,rdBetw,Yi j h b]
 rw[o];exact Goes.stop (Hg b)
theorem VU{T:Type}{s j}{R:Nat->aM T × Nat}(k:Fol s j R)(l a)(p:j<=a):Goes s l (50::l,false,a) (IV R s a):=by
 unfold IV;by_cases b:a<s.size;split;rename_i h;have r:=DW h;refine Goes.go (y:=(43::l,false,a+1)) (by rw[ED b];simp;omega) ?_;by_cases e:a+1<s.size;split;rename_i g;have o:=(Ej g).2;refine Goes.go (y:=(86::l,false,a+1+1)) (by rw[ED e];simp[o]) ?_;exact(k (a+2) l kX kX).map rfl (by simp[OA]);rename_i g;exact Goes.stop (by rw[ED e];simp[FC g e]);rw[aC (fun f=>e (A5 f))];exact Goes.stop (Hg e);rename_i h;refine Goes.stop ?_;rw[ED b];have:¬ (bt s a=48\/bt s a=49):=fun f=>h (bF ⟨b,by omega,by omega⟩)
 simp[this];rw[aC (fun f=>b (A5 f))];exact Goes.stop (Hg b)
theorem Xr{T:Type}(s l a)(aj:a<s.size)(j:bt s a≠45)(k:bt s a≠34)(o:bt s a≠40)(p:bt s a≠91)(r:bt s a≠47):Goes s l (86::l,false,a) (Hz T s a):=by
 have b:GA s (86::l,false,a)=_:=XY aj;rw[Ge,aC j,aC k,aC o,aC p,aC r]at b;unfold Hz;split;rename_i e;rw[aF (Ej e).2]at b;exact Goes.one b;rename_i e;rw[aC (FC e aj)]at b;obtain⟨u,ae⟩:∃ u,s.size=u+1:=⟨s.size-1,by omega⟩;split;rename_i f;have y:=DW f;have z:a<(rdNum s s.size 0 a).2:=by
  exact i1
 split;rename_i v;rw[aC kX]at b;exact Goes.stop b;rename_i v;rw[aF kX]at b;exact Goes.one b;rename_i f;have x:¬ CW s a 48 57=true:=fun h=>f (by
  have:=DW h;have:=FC e aj;exact bF ⟨aj,by omega,by omega⟩)
 have g:(rdNum s s.size 0 a).2=a:=by rw[ae,rdNum,aC x]
 rw[g,aC kX]at b;exact Goes.stop b
theorem YN{T:Type}{s j}{R:Nat->aM T × Nat}(g:Fol s j R)(h:Mf s R):Fol s (j-1) (El R s):=by
 intro f l x u;by_cases b:f<s.size;unfold El;have a:GA s (86::l,false,f)=_:=XY b;rw[Ge]at a;split;rename_i e;rw[aF (Ej e).2]at a;exact Goes.one a;rename_i k;rw[aC (FC k b)]at a;split;rename_i e;rw[aF (Ej e).2]at a;exact(Goes.go a (Tj s l s.size (f+1) [] kX kX)).map rfl (by simp[Qj]);rename_i o;rw[aC (FC o b)]at a;split;rename_i e;rw[aF (Ej e).2]at a;exact Goes.go a (Ng g h 41 (Or.inl rfl) l 3 (f+1) kX kX kX);rename_i p;rw[aC (FC p b)]at a;split;rename_i e;rw[aF (Ej e).2]at a;exact Goes.go a (Ng g h 93 (Or.inr rfl) l 4 (f+1) kX kX kX);rename_i r;rw[aC (FC r b)]at a;split;rename_i e;rw[aF (Ej e).2]at a;exact Goes.go a (VU g l (f+1) kX);rename_i v;exact Xr s l f b (FC k b) (FC o b) (FC p b) (FC r b) (FC v b);rw[Yi (Qw s R h) u b];exact Goes.stop (Hg b)
theorem ZV(s):∀ n,Fol s (s.size+1-n) (A4 s n):=by
 intro n;induction n with
 | zero=>intro b l e f;omega
 | succ n a=>have:=YN a (EB s n);rw[show s.size+1-n-1=s.size+1-(n+1)by omega]at this;exact this
theorem WZ(s)(j:s.size<=8000):Ends s ([86],false,0) ((C1 s).1.isSome,(C1 s).2):=by
 have f:=ZV s (s.size+1) 0 [] kX (bR _);have g:=(EB s (s.size+1) 0 (bR _)).le;refine f _ ?_;unfold C1;rw[aC kX];generalize A4 s (s.size+1) 0=a at*;obtain⟨a,e⟩:=a;simp only at g⊢;by_cases b:e=s.size
 . rw[aF b]
   cases a with
   | none=>rfl
   | some h=>exact Ends.stop (by unfold GA;rw[aC lA];rfl)
 rw[aC b]
 cases a with
 | none=>rfl
 | some h=>exact Ends.stop (by unfold GA;rw[aF lA];rfl)
theorem h8(h:p:=by
 unfold Ol;rw[aC];rintro⟨_,h|h⟩;omega;simp only[AY,cQ,dG,cN,cH,dA]at h;rcases h with h|h|h<;>(simp at h;omega)):p:=h
theorem h7(h:p:=by
 unfold DX;rw[aF lB,aC lB,aC lB,aC lB,aC lB]):p:=h
theorem ml(h:p:=by
 unfold DX;rw[aF (by exact aj),aF lB];unfold Ol;rw[aC lB]):p:=h
def Sep(s:aA)(a:Nat):Prop:=a=s.size\/bt s a=32\/bt s a=41\/bt s a=93
def decV(s:aA):Nat->Nat->Nat->Nat
 | 0,n,_=>n
 | k+1,n,a=>decV s k (n*10+D1 s a) (a+1)
structure RU (s:aA) (a n b:Nat):Prop where
 lt:a<b
 le:b<=s.size
 Yy:∀ i,a<=i->i<b->48<=bt s i/\bt s i<=57
 dec:decV s (b-a) 0 a=n
 n:n<4294967296
def E0(s:aA):aD UInt8->Nat->Nat->Prop
 | [],a,b=>bt s a=34/\b=a+1
 | x::l,a,b=>0<=AG (bt s a)/\0<=AG (bt s (a+1))/\x=UInt8.ofNat (16*AG (bt s a)+AG (bt s (a+1))).toNat/\E0 s l (a+2) b
def Js{T:Type}(R:Nat->aM T × Nat)(s:aA)(e:Int):aD T->Nat->Nat->Prop
 | [],a,b=>bt s a=e/\b=a+1
 | y::ys,a,b=>bt s a=32/\∃ m,R (a+1)=(some y,m)/\Js R s e ys m b
def LA{T:Type}(R:Nat->aM T × Nat)(s:aA)(e:Int):aD T->Nat->Nat->Prop
 | [],a,b=>bt s a=e/\b=a+1
 | y::ys,a,b=>∃ m,R a=(some y,m)/\Js R s e ys m b
theorem Aaa(s):∀ g b e l f,rdRun s g b e=(some l,f)->∃ h,l=e++h/\E0 s h b f:=by
 intro g;induction g with
 | zero=>intro b e l f a;cases a
 | succ g o=>
  intro b e l f a;rw[rdRun]at a;split at a;rename_i k;cases a;exact⟨[],by simp,(Ej k).2,rfl⟩
  split at a
  cases a
  split at a
  cases a
  rename_i r u;obtain⟨h,j,p⟩:=o _ _ _ _ a;exact⟨UInt8.ofNat (16*AG (bt s b)+AG (bt s (b+1))).toNat::h,by rw[j];simp,by omega,by omega,rfl,p⟩
theorem Xt{T:Type}(R:Nat->aM T × Nat)(s o):∀ g b e l f,rdBetw R s o g b e=(some l,f)->∃ h j m,l=e++h::j/\R b=(some h,m)/\Js R s o j m f:=by
 intro g;induction g with
 | zero=>intro b e l f a;cases a
 | succ g v=>
  intro b e l f a;rw[rdBetw]at a
  cases u:R b with
  | mk A m=>
   rw[u]at a
   cases A with
   | none=>cases a
   | some p=>
    simp only at a;split at a;rename_i k;cases a;exact⟨p,[],m,rfl,rfl,(Ej k).2,rfl⟩
    split at a;rename_i k;obtain⟨h,j,z,r,x,y⟩:=v _ _ _ _ a;exact⟨p,h::j,m,by rw[r];simp,rfl,(Ej k).2,z,x,y⟩
    cases a
theorem Rh{T:Type}{R:Nat->aM T × Nat}{s k b e g}{f:Nd T}(a:Em R s k b e=(some f,g)):f.k=k/\LA R s b f.kids e g:=by
 unfold Em at a;split at a;rename_i o;cases a;exact⟨rfl,(Ej o).2,rfl⟩
 unfold JY at a
 cases j:rdBetw R s b s.size e []with
 | mk v m=>
  rw[j]at a
  cases v with
  | none=>cases a
  | some l=>
   cases a
   obtain⟨x,y,u,h,p,r⟩:=Xt R s b _ _ _ _ _ j;simp only[cL]at h;subst h;exact⟨rfl,u,p,r⟩
theorem Yo(s):∀ b n a,n<=4294967296->a<=s.size->s.size<=a+b->(∀ i,a<=i->i<(rdNum s b n a).2->48<=bt s i/\bt s i<=57)/\((rdNum s b n a).1<4294967296->(rdNum s b n a).1=decV s ((rdNum s b n a).2-a) n a)/\(n=4294967296->(rdNum s b n a).1=4294967296):=by
 intro b;induction b with
 | zero=>intro n a j k o;exact⟨fun i p f=>by simp only[rdNum]at f;omega,fun _=>by simp[rdNum,decV],fun e=>e⟩
 | succ b x=>
  intro n a j k o;rw[rdNum];split;rename_i g;have E:=A5 g;have r:=DW g;obtain⟨y,z,h⟩:=x (min (n*10+D1 s a) 4294967296) (a+1) kX kX kX;have A:=F9 s b (min (n*10+D1 s a) 4294967296) (a+1) kX;refine⟨fun i B u=>?_,fun v=>?_,fun I=>h kX⟩;by_cases e:i=a;subst e;exact r;exact y i kX u;have F:n*10+D1 s a<4294967296:=iZ fun e=>by
   have:=h kX;omega
  have:=z v;rw[this,show(rdNum s b (min (n*10+D1 s a) 4294967296) (a+1)).2-a=((rdNum s b (min (n*10+D1 s a) 4294967296) (a+1)).2-(a+1))+1 by omega,decV,hV kX];exact⟨fun i p f=>by simp only at f;omega,fun _=>by simp[decV],fun e=>e⟩
theorem Ab8{T:Type}{s a k}{j:Nd T}(A:a<=s.size)(h0:0<a\/s.size<=8000)(b:Hz T s a=(some j,k)):j.k=0/\RU s a j.n k:=by
 have g:=(U2 T s a A);rw[b]at g;unfold Hz at b;split at b;rename_i f
 cases b
 obtain⟨r,p⟩:=Ej f;refine⟨rfl,⟨by omega,by omega,fun i x o=>?_,?_,by simp⟩⟩;rw[show i=a by omega];omega;rw[show a+1-a=1 by omega];simp only[decV,D1];rw[p];decide;split at b;rename_i f;split at b
 cases b
 rename_i J
 cases b
 have h:a<(rdNum s s.size 0 a).2:=g.lt rfl;have r:=A5 f;obtain⟨e,z⟩:∃ e,s.size=e+1:=⟨s.size-1,by omega⟩;have p:=DW f;have u:(∀ i,a<=i->i<(rdNum s s.size 0 a).2->48<=bt s i/\bt s i<=57)/\((rdNum s s.size 0 a).1<4294967296->(rdNum s s.size 0 a).1=decV s ((rdNum s s.size 0 a).2-a) 0 a):=by
  have y:CW s a 48 57=true:=bF ⟨r,by omega,by omega⟩;have v:rdNum s s.size 0 a=rdNum s e (min (0*10+D1 s a) 4294967296) (a+1):=by rw[z,rdNum,aF y]
  have I:D1 s a<=9:=by unfold D1;omega
  obtain⟨B,E,_⟩:=Yo s e (min (0*10+D1 s a) 4294967296) (a+1) kX kX kX;have F:=F9 s e (min (0*10+D1 s a) 4294967296) (a+1) kX;rw[v];refine⟨fun i x o=>?_,fun h=>?_⟩;by_cases b:i=a;subst b;omega;exact B i kX o;rw[E h,show(rdNum s e (min (0*10+D1 s a) 4294967296) (a+1)).2-a=((rdNum s e (min (0*10+D1 s a) 4294967296) (a+1)).2-(a+1))+1 by omega,decV,hV kX]
 exact⟨rfl,h,g.le,u.1,(u.2 kX).symm,by simp only;omega⟩
 cases b
def Aad{T:Type}(R:Nat->aM T × Nat)(s:aA)(a:Nat)(b:Nd T)(e:Nat):Prop:=
 (b.k=0/\RU s a b.n e)\/(b.k=1/\bt s a=45/\e=a+1)\/(b.k=2/\bt s a=34/\E0 s b.run (a+1) e)\/(b.k=3/\bt s a=40/\LA R s 41 b.kids (a+1) e)\/
 (b.k=4/\bt s a=91/\LA R s 93 b.kids (a+1) e)\/(b.k=5/\bt s a=47/\b.n<=1/\bt s (a+1)=48+b.n/\bt s (a+2)=32/\∃ f,b.kids=[f]/\R (a+3)=(some f,e))
theorem Mr{T:Type}{R:Nat->aM T × Nat}{s e h}{k:Nd T}(u:e<=s.size)(r:s.size<=8000)(a:El R s e=(some k,h)):Aad R s e k h:=by
 unfold El at a;split at a;rename_i b;cases a;exact Or.inr (Or.inl ⟨rfl,(Ej b).2,rfl⟩)
 split at a
 . rename_i b;unfold Qj at a
   cases f:rdRun s s.size (e+1) []with
   | mk g m=>
    rw[f]at a
    cases g with
    | none=>cases a
    | some l=>
     cases a
     obtain⟨z,j,v⟩:=Aaa s _ _ _ _ _ f;simp only[cL]at j;subst j;exact Or.inr (Or.inr (Or.inl ⟨rfl,(Ej b).2,v⟩))
 split at a;rename_i b;have:=Rh a;exact Or.inr (Or.inr (Or.inr (Or.inl ⟨this.1,(Ej b).2,this.2⟩)));split at a;rename_i b;have:=Rh a;exact Or.inr (Or.inr (Or.inr (Or.inr (Or.inl ⟨this.1,(Ej b).2,this.2⟩))));split at a;rename_i b;unfold IV at a;split at a;rename_i o;have y:=DW o;split at a
 . rename_i p;unfold OA at a
   cases f:R (e+1+2)with
   | mk g m=>
    rw[f]at a
    cases g with
    | none=>cases a
    | some x=>
     cases a
     exact Or.inr (Or.inr (Or.inr (Or.inr (Or.inr ⟨rfl,(Ej b).2,by simp only[D1];omega,by simp only[D1];omega,(Ej p).2,x,rfl,f⟩))))
 cases a
 cases a
 exact Or.inl (Ab8 u (Or.inr r) a)
def qEnd(s:aA):Nat->Nat->aM Nat
 | 0,_=>none
 | f+1,i=>if i<s.size then(if bt s i=34 then some i else qEnd s f (i+1))else none
def Ol(s:aA)(a:Nat)(d:Int):Sum (Nat × Int) Nat:=if d=0/\(a+1=s.size\/AY [32,41,93] (bt s (a+1))=true)then .inr (a+1)else .inl (a+1,d)
def DX(s:aA)(a:Nat × Int):aM (Sum (Nat × Int) Nat):=
 if a.1<s.size then
  if bt s a.1=40\/bt s a.1=91 then some (Ol s a.1 (a.2+1))
  else if bt s a.1=41\/bt s a.1=93 then some (Ol s a.1 (a.2-1))
  else if bt s a.1=47 then some (.inl (a.1+3,a.2))
  else if bt s a.1=34 then(qEnd s s.size (a.1+1)).map fun b=>Ol s b a.2
  else some (Ol s a.1 a.2)
 else some (.inr s.size)
def skRuns(s:aA):Nat->Nat × Int->aM Nat
 | 0,_=>none
 | k+1,x=>match DX s x with
  | none=>none
  | some (.inl y)=>skRuns s k y
  | some (.inr r)=>some r
def BG(s:aA)(e:Nat × Int)(b:Nat):Prop:=∃ a,skRuns s a e=some b
theorem BG.go{s}{b y:Nat × Int}{a}(e:DX s b=some (.inl y))(g:BG s y a):BG s b a:=by
 obtain⟨n,f⟩:=g;exact⟨n+1,by rw[skRuns,e];exact f⟩
theorem BG.stop{s}{b:Nat × Int}{a}(e:DX s b=some (.inr a)):BG s b a:=⟨1,by rw[skRuns,e]⟩
theorem BG.inv{s}{g:Nat × Int}{f}(k:BG s g f):∃ b,DX s g=some b/\(∀ h,b=.inl h->BG s h f)/\∀ q,b=.inr q->q=f:=by
 obtain⟨n,a⟩:=k
 cases n with
 | zero=>cases a
 | succ n=>
  rw[skRuns]at a
  cases j:DX s g with
  | none=>rw[j]at a;cases a
  | some b=>
   rw[j]at a;exact⟨b,rfl,fun h e=>by subst e;exact⟨n,a⟩,fun q e=>by subst e;exact dH a⟩
def ZR(s:aA)(a:Nat)(d:Int)(b:Nat):Prop:=if d=0 then b=a else BG s (a,d) b
theorem ZR.to{s j d f}(k:Sep s (j+1))(a:ZR s (j+1) d f){g:Nat × Int}(b:DX s g=some (Ol s j d)):BG s g f:=by
 have h:j+1=s.size\/AY [32,41,93] (bt s (j+1))=true:=by
  rcases k with a|a|a|a;exact Or.inl a;all_goals (right;rw[a];rfl)
 unfold ZR at a;unfold Ol at b;by_cases e:d=0;rw[aF e]at a;rw[aF ⟨e,h⟩]at b;subst a;exact BG.stop b;rw[aC e]at a;rw[aC (fun o=>e o.1)]at b;exact BG.go b a
def SkF{T:Type}(s:aA)(R:Nat->aM T × Nat):Prop:=∀ a f b,a<=s.size->R a=(some f,b)->Sep s b->∀ d e,0<=d->ZR s b d e->BG s (a,d) e
theorem Rj(s):∀ l b f a,E0 s l b f->s.size<b+a->qEnd s a b=some (f-1)/\b<f:=by
 intro l;induction l with
 | nil=>
  intro b f a e z;obtain⟨g,rfl⟩:=e;have A:=cB fun e=>by rw[DM s _ e]at g;exact absurd g lC
  obtain⟨a,rfl⟩:∃ j,a=j+1:=⟨a-1,by omega⟩;exact⟨by rw[qEnd,aF A,aF g];simp,by omega⟩
 | cons I l B=>
  intro b f a e z;obtain⟨g,x,_,y⟩:=e;have k:∀ i,0<=AG (bt s i)->i<s.size/\bt s i≠34:=fun i h=>⟨cB fun e=>by rw[DM s _ e]at h;exact absurd h lC,fun v=>by rw[v]at h;exact absurd h lC⟩
  obtain⟨o,p⟩:=k b g;obtain⟨r,u⟩:=k (b+1) x;obtain⟨a,rfl⟩:∃ j,a=j+2:=⟨a-2,by omega⟩;obtain⟨E,F⟩:=B (b+2) f a y kX;exact⟨by rw[qEnd,aF o,aC p,qEnd,aF r,aC u];exact E,by omega⟩
theorem ML{T:Type}{s}{R:Nat->aM T × Nat}(u:SkF s R)(v:Mf s R)(g)(I:g=41\/g=93){f}(x:Sep s f)(d)(J:0<=d)(j)(z:ZR s f d j):
 ∀ e m,Js R s g e m f->m<=s.size->Sep s m/\BG s (m,d+1) j:=by
 intro e;induction e with
 | nil=>
  intro m a y;obtain⟨b,rfl⟩:=a;have h:=cB fun a=>by rw[DM s _ a]at b;omega
  refine⟨Or.inr kX,z.to x ?_⟩;unfold DX;rw[aF (by exact h),aC lB,aF lB,show((m,d+1):Nat × Int).2-1=d by simp only;omega]
 | cons F e A=>
  intro m a y;obtain⟨b,p,k,r⟩:=a;have h:=cB fun a=>by rw[DM s _ a]at b;exact absurd b lC
  have o:=v (m+1) kX;rw[k]at o;obtain⟨B,E⟩:=A p r o.le;refine⟨Or.inr (Or.inl b),BG.go (y:=(m+1,d+1)) ?_ (u (m+1) F p kX k B (d+1) j kX (by unfold ZR;rw[aC kX];exact E))⟩;unfold DX;rw[aF (by exact h),aC lB,aC lB,aC lB,aC lB];unfold Ol;rw[aC lB]
theorem Ps{T:Type}{s}{R:Nat->aM T × Nat}(g:SkF s R)(h:Mf s R)(a)(r:a=41\/a=93){f}(p:Sep s f)(d)(u:0<=d)(b)(v:ZR s f d b)(e m)(k:LA R s a e m f)(j:m<=s.size):BG s (m,d+1) b:=by
 cases e with
 | nil=>exact(ML g h a r p d u b v [] m k j).2
 | cons E e=>
  obtain⟨y,o,z⟩:=k;have x:=h m j;rw[o]at x;obtain⟨A,B⟩:=ML g h a r p d u b v e y z x.le;exact g m E y j o A (d+1) b kX (by unfold ZR;rw[aC kX];exact B)
theorem Xp{s b n}(r:Sep s b)(d)(_:0<=d)(j)(y:ZR s b d j):∀ e a,b-a=e->RU s a n b\/(a<b/\b<=s.size/\∀ i,a<=i->i<b->48<=bt s i/\bt s i<=57)->BG s (a,d) j:=by
 intro e;induction e with
 | zero=>
  intro a v h;rcases h with h|h;have:=h.lt;omega;omega
 | succ e z=>
  intro a v h;have k:=h.elim (fun h=>⟨h.lt,h.le,h.Yy⟩) id;obtain⟨o,p,f⟩:=k;have A:=f a (aB _) o;have g:DX s (a,d)=some (Ol s a d):=by
   exact h7
  by_cases x:a+1=b;subst x;exact y.to r g;refine BG.go (y:=(a+1,d)) ?_ (z (a+1) kX (Or.inr ⟨by omega,p,fun i E u=>f i kX u⟩));rw[g];have B:=f (a+1) kX kX;exact h8
theorem Uf{T:Type}{s}{R:Nat->aM T × Nat}(z:s.size<=8000)(p:SkF s R)(r:Mf s R):SkF s (El R s):=by
 intro a E e x j f d o k g;have u:=Qw s R r a x;rw[j]at u;have K:a<e:=u.lt rfl;have J:e<=s.size:=u.le;have aj:a<s.size:=kX;rcases Mr x z j with⟨_,b⟩|⟨_,b,rfl⟩|⟨_,b,h⟩|⟨_,b,h⟩|⟨_,b,h⟩|⟨_,b,L,M,y,F,_,A⟩;exact Xp f d k o g _ a rfl (Or.inl b);refine g.to f ?_;unfold DX;rw[aF (by exact aj),aC lB,aC lB,aC lB,aC lB];obtain⟨B,O⟩:=Rj s E.run (a+1) e s.size h kX;have v:e-1+1=e:=kX;refine ZR.to (j:=e-1) (d:=d) (by rw[v];exact f) (by rw[v];exact g) ?_;unfold DX;rw[aF (by exact aj),aC lB,aC lB,aC lB,aF (by exact b)];simp only[B,cO];refine BG.go (y:=(a+1,d+1)) ?_ (Ps p r 41 (Or.inl rfl) f d k o g _ _ h kX);exact ml;refine BG.go (y:=(a+1,d+1)) ?_ (Ps p r 93 (Or.inr rfl) f d k o g _ _ h kX);exact ml;have I:=cB fun j=>by rw[DM s _ j]at y;exact absurd y lC
 refine BG.go (y:=(a+3,d)) ?_ (p (a+3) F e kX A f d o k g);unfold DX;rw[aF (by exact aj),aC lB,aC lB,aF (by exact b)]
theorem T9{s}(b:s.size<=8000):∀ n,SkF s (A4 s n):=by
 intro n;induction n with
 | zero=>intro f h g _ a;cases a
 | succ n e=>exact Uf b e (EB s n)
theorem PG{s}(g:s.size<=8000){n b a}{e:Tr n}(h:b<=s.size)(f:A4 s n b=(some e,a))(j:Sep s a):BG s (b,0) a:=T9 g n b e a h f j 0 a (eX _) (by unfold ZR;rw[aF rfl])
abbrev N4(s:aA) (a:Nat):Prop:=48<=bt s a/\bt s a<=57
structure Tn (s:aA) (a n b:Nat):Prop where
 tx:RU s a n b
 no:¬ N4 s b
def Tk(s:aA)(a b:Nat):Prop:=
 (∃ n,Tn s a n b)\/(bt s a=34/\∃ l,E0 s l (a+1) b)\/(bt s a=47/\(∃ n:Nat,n<=1/\bt s (a+1)=48+n)/\bt s (a+2)=32/\b=a+3)\/((bt s a=45\/bt s a=40\/bt s a=41\/bt s a=91\/bt s a=93\/bt s a=32)/\b=a+1)
def AlF(s:aA):Nat->Nat->Prop
 | 0,a=>a=s.size
 | f+1,a=>a=s.size\/∃ b,Tk s a b/\AlF s f b
def Al(s:aA)(a:Nat):Prop:=∃ b,AlF s b a
theorem E0.lt{s}:∀ {l:aD UInt8} {a b:Nat},E0 s l a b->a<s.size/\b=a+2*l.length+1/\b<=s.size
 | [],a,b,h=>by obtain⟨e,rfl⟩:=h;have:=AT s a kX;simp;omega
 | x::l,a,b,h=>by
  have:=E0.lt h.2.2.2;simp only[aX];omega
theorem Tk.lt{s b e}(a:Tk s b e):b<e/\e<=s.size:=by
 rcases a with⟨n,a⟩|⟨a,l,f⟩|⟨a,f,g,rfl⟩|⟨a,rfl⟩;exact⟨a.tx.lt,a.tx.le⟩;have:=f.lt;omega;have:=AT s (b+2) kX;omega;have:=AT s b kX;omega
theorem Al.end(s):Al s s.size:=⟨0,rfl⟩
theorem Al.cons{s e a}(g:Tk s e a)(b:Al s a):Al s e:=by obtain⟨f,b⟩:=b;exact⟨f+1,Or.inr ⟨a,g,b⟩⟩
theorem Al.inv{s e}(a:Al s e):e=s.size\/∃ b,Tk s e b/\Al s b:=by
 obtain⟨f,a⟩:=a
 cases f with
 | zero=>exact Or.inl a
 | succ f=>rcases a with a|⟨b,a,g⟩;exact Or.inl a;exact Or.inr ⟨b,a,f,g⟩
theorem Al.le{s b}(a:Al s b):b<=s.size:=by rcases a.inv with a|⟨e,a,_⟩;omega;have:=a.lt;omega
theorem Al.one{s a}(b:Al s a)(g:bt s a=45\/bt s a=40\/bt s a=41\/bt s a=91\/bt s a=93\/bt s a=32):Al s (a+1):=by
 have h:=AT s a kX;rcases b.inv with b|⟨f,⟨n,b⟩|⟨b,_⟩|⟨b,_⟩|⟨_,rfl⟩,e⟩;omega;have:=b.tx.Yy a (aB _) b.tx.lt;omega;omega;omega;exact e
theorem Al.cho{s a}(b:Al s a)(j:bt s a=47):(∃ n:Nat,n<=1/\bt s (a+1)=48+n)/\bt s (a+2)=32/\Al s (a+3):=by
 have k:=AT s a kX;rcases b.inv with b|⟨h,⟨n,b⟩|⟨b,_⟩|⟨_,e,f,rfl⟩|⟨b,rfl⟩,g⟩;omega;have:=b.tx.Yy a (aB _) b.tx.lt;omega;omega;exact⟨e,f,g⟩;omega
theorem Al.run{s b}(a:Al s b)(g:bt s b=34):∃ l e,E0 s l (b+1) e/\Al s e:=by
 have h:=AT s b kX;rcases a.inv with a|⟨e,⟨n,a⟩|⟨_,l,a⟩|⟨a,_⟩|⟨a,rfl⟩,f⟩;omega;have:=a.tx.Yy b (aB _) a.tx.lt;omega;exact⟨l,e,a,f⟩;omega;omega
theorem Al.num{s b}(a:Al s b)(f:N4 s b):∃ n e,Tn s b n e/\Al s e:=by
 unfold N4 at f;have h:=AT s b kX;rcases a.inv with a|⟨e,⟨n,a⟩|⟨a,_⟩|⟨a,_⟩|⟨a,rfl⟩,g⟩;omega;exact⟨n,e,a,g⟩;all_goals omega
theorem E0.det{s}:∀ {l f:aD UInt8} {a g h:Nat},E0 s l a g->E0 s f a h->l=f/\g=h:=by
 have j:∀ a,bt s a=34->0<=AG (bt s a)->False:=fun a e b=>by rw[e]at b;exact absurd b lC
 intro l;induction l with
 | nil=>
  intro f a g h e b
  cases f with
  | nil=>exact⟨rfl,e.2.trans b.2.symm⟩
  | cons r f=>exact(j a e.1 b.1).elim
 | cons u l p=>
  intro f a g h e b
  cases f with
  | nil=>exact(j a b.1 e.1).elim
  | cons r f=>
   obtain⟨k,o⟩:=p e.2.2.2 b.2.2.2;exact⟨by rw[e.2.2.1,b.2.2.1,k],o⟩
theorem Tn.det{s h n j b e}(f:Tn s h n b)(g:Tn s h j e):n=j/\b=e:=by
 have a:b=e:=by
  rcases Nat.lt_trichotomy b e with a|a|a;exact(f.no (g.tx.Yy b (hM f.tx.lt) a)).elim;exact a;exact(g.no (f.tx.Yy e (hM g.tx.lt) a)).elim
 subst a;exact⟨f.tx.dec.symm.trans g.tx.dec,rfl⟩
theorem BG.det{s f g}:∀ {b:Nat × Int},BG s b f->BG s b g->f=g:=by
 have u:∀ e b,skRuns s e b=some f->BG s b g->f=g:=by
  intro e;induction e with
  | zero=>intro b a;cases a
  | succ e r=>
   intro b a h;obtain⟨v,k,o,p⟩:=h.inv;rw[skRuns,k]at a
   cases v with
   | inl j=>exact r j a (o j rfl)
   | inr q=>exact(dH a).symm.trans (p q rfl)
 intro b a h;obtain⟨e,a⟩:=a;exact u e b a h
theorem Sep.Adl{s b}(a:Sep s b):¬ N4 s b:=by
 unfold N4;rcases a with a|a|a|a;rw[DM s b kX];omega;all_goals omega
theorem Qq{T:Type}{s}{R:Nat->aM T × Nat}(r:∀ e B a,e<=s.size->R e=(some B,a)->Sep s a->Al s a->Al s e)(u:Mf s R)(f)(F:f=41\/f=93){a}(v:Al s a):
 ∀ b m,Js R s f b m a->m<=s.size->Sep s m/\Al s m:=by
 intro b;induction b with
 | nil=>
  intro m g x;obtain⟨h,rfl⟩:=g;exact⟨Or.inr kX,Al.cons (Or.inr (Or.inr (Or.inr ⟨by omega,rfl⟩))) v⟩
 | cons E b y=>
  intro m g x;obtain⟨h,o,j,p⟩:=g;have I:=AT s m kX;have k:=u (m+1) kX;rw[j]at k;obtain⟨z,A⟩:=y o p k.le;exact⟨Or.inr (Or.inl h),Al.cons (Or.inr (Or.inr (Or.inr ⟨by omega,rfl⟩))) (r (m+1) E o kX j z A)⟩
theorem HE{s}(F:s.size<=8000):∀ n a p b,a<=s.size->A4 s n a=(some p,b)->Sep s b->Al s b->Al s a:=by
 intro n;induction n with
 | zero=>intro a p b _ k;cases k
 | succ n j=>
  intro a p b I k v f;have B:∀ e,e=41\/e=93->∀ h,a+1<=s.size->LA (A4 s n) s e h (a+1) b->Al s (a+1):=by
   intro e x h o y
   cases h with
   | nil=>exact(Qq j (EB s n) e x f [] (a+1) y o).2
   | cons r h=>
    obtain⟨A,u,E⟩:=y;have z:=EB s n (a+1) o;rw[u]at z;obtain⟨J,K⟩:=Qq j (EB s n) e x f h A E z.le;exact j (a+1) r A o u J K
  rcases Mr (R:=A4 s n) I F k with⟨_,q⟩|⟨_,q,rfl⟩|⟨_,q,g⟩|⟨_,q,g⟩|⟨_,q,g⟩|⟨_,q,L,M,O,r,_,S⟩;exact Al.cons (Or.inl ⟨_,q,v.Adl⟩) f;exact Al.cons (Or.inr (Or.inr (Or.inr ⟨by omega,rfl⟩))) f;exact Al.cons (Or.inr (Or.inl ⟨q,_,g⟩)) f;have:=AT s a kX;exact Al.cons (Or.inr (Or.inr (Or.inr ⟨by omega,rfl⟩))) (B 41 (Or.inl rfl) _ kX g);have:=AT s a kX;exact Al.cons (Or.inr (Or.inr (Or.inr ⟨by omega,rfl⟩))) (B 93 (Or.inr rfl) _ kX g);have:=AT s (a+2) kX;exact Al.cons (Or.inr (Or.inr (Or.inl ⟨q,⟨_,L,M⟩,O,rfl⟩))) (j (a+3) r b kX S v f)
theorem Af3{s}:∀ o a,AlF s o a->∀ d,∃ e,BG s (a,d) e/\a<=e/\(a<s.size->a<e)/\Al s e:=by
 have I:∀ d,∃ e,BG s (s.size,d) e/\s.size<=e/\(s.size<s.size->s.size<e)/\Al s e:=fun d=>⟨s.size,BG.stop (by unfold DX;rw[aC kY]),aB _,fun h=>h,Al.end s⟩
 intro o;induction o with
 | zero=>rintro a rfl d;exact I d
 | succ o E=>
  rintro a (rfl|⟨e,J,r⟩) d;exact I d;obtain⟨K,S⟩:=J.lt;have F:∀ f k,DX s (f,k)=some (Ol s (e-1) d)->a<=f->∃ b,BG s (f,k) b/\a<=b/\(a<s.size->a<b)/\Al s b:=by
   intro f k g X;have A:e-1+1=e:=kX;unfold Ol at g;rw[A]at g;split at g;exact⟨e,BG.stop g,by omega,fun _=>by omega,o,r⟩;obtain⟨b,j,v,_,x⟩:=E e r d;exact⟨b,BG.go g j,by omega,fun _=>by omega,x⟩
  rcases J with⟨n,h⟩|⟨h,l,L⟩|⟨h,_,_,rfl⟩|⟨h,rfl⟩;have O:∀ z f,e-f=z->a<=f->f<e->∃ b,BG s (f,d) b/\a<=b/\(a<s.size->a<b)/\Al s b:=by
   intro z;induction z with
   | zero=>intro f A _ _;omega
   | succ z M=>
    intro f A p y;have U:=h.tx.Yy f p y;have B:DX s (f,d)=some (Ol s f d):=by
     exact h7
    by_cases Y:f+1=e;rw[show f=e-1 by omega]at B⊢;exact F _ _ B kX;obtain⟨b,j,v⟩:=M (f+1) kX kX kX;refine⟨b,BG.go (y:=(f+1,d)) ?_ j,v⟩;have V:=h.tx.Yy (f+1) kX kX;rw[B];exact h8
  exact O _ a rfl (aB _) K;obtain⟨j,v⟩:=Rj s l (a+1) e s.size L kX;refine F a d ?_ (aB _);unfold DX;rw[aF lB,aC lB,aC lB,aC lB,aF (by exact h)];simp only[j,cO];obtain⟨b,j,v,_,x⟩:=E _ r d;refine⟨b,BG.go (y:=(a+3,d)) ?_ j,by omega,fun _=>by omega,x⟩;unfold DX;rw[aF lB,aC lB,aC lB,aF (by exact h)];have u:∀ k,DX s (a,d)=some (Ol s a k)->∃ b,BG s (a,d) b/\a<=b/\(a<s.size->a<b)/\Al s b:=by
   intro k g;unfold Ol at g;split at g;exact⟨a+1,BG.stop g,by omega,fun _=>by omega,o,r⟩;obtain⟨b,j,v,_,x⟩:=E (a+1) r k;exact⟨b,BG.go g j,by omega,fun _=>by omega,x⟩
  unfold DX at u;rw[aF lB]at u;by_cases p:bt s a=40\/bt s a=91;exact u (d+1) (by rw[aF (by exact p)]);by_cases y:bt s a=41\/bt s a=93;exact u (d-1) (by rw[aC (by exact p),aF (by exact y)]);exact u d (by rw[aC (by exact p),aC (by exact y),aC lB,aC lB])
theorem iz(h:p:=by
 constructor;rintro((h|h|h)|h|h);exact Or.inl h;exact Or.inr (Or.inl (Or.inl h));exact Or.inr (Or.inr (Or.inl h));exact Or.inr (Or.inl (Or.inr h));exact Or.inr (Or.inr (Or.inr h));rintro(h|(h|h)|(h|h));exact Or.inl (Or.inl h);exact Or.inl (Or.inr (Or.inl h));exact Or.inr (Or.inl h);exact Or.inl (Or.inr (Or.inr h));exact Or.inr (Or.inr h)):p:=h
abbrev mC(h:PLift q->p:=by
 intro aa;simp only[ae,dR,dX,gG,Bool.or_true,gF,dU,dP,iB,PF,ab,hu,bT,cT,gY,gS,iW,hY];exact aa.1):p:=h ⟨z⟩
def Bz(e:Int->Prop)(b:Int × Bool):Prop:=(b.2=false/\∀ a,¬ e a)\/(b.2=true/\e b.1/\∀ a,e a->b.1<=a)
def DJ(b T:Int->Prop):Prop:=(∀ a,b a->∃ q,T q/\q<=a)/\(∀ a,T a->∃ q,b q/\q<=a)
theorem Bz.congr{h T:Int->Prop}{j:Int × Bool}(k:Bz h j)(b:∀ a,h a↔T a):Bz T j:=by
 rcases k with⟨e,f⟩|⟨e,f,o⟩;exact Or.inl ⟨e,fun a g=>f a ((b a).2 g)⟩;exact Or.inr ⟨e,(b _).1 f,fun a g=>o a ((b a).2 g)⟩
theorem Bz.move{b T:Int->Prop}{o:Int × Bool}(e:Bz b o)(p:DJ b T)(u:∀ a,T a->b a\/∃ q,b q/\q<a)(v:∀ a,b a->T a\/∃ q,b q/\q<a):Bz T o:=by
 rcases e with⟨g,h⟩|⟨g,h,j⟩;exact Or.inl ⟨g,fun a k=>by obtain⟨q,f,_⟩:=p.2 a k;exact h q f⟩;refine Or.inr ⟨g,?_,fun a k=>?_⟩;rcases v _ h with e|⟨q,f,r⟩;exact e;have:=j q f;omega;rcases u a k with e|⟨q,f,r⟩;exact j a e;have:=j q f;omega
theorem Bz.eq{o T:Int->Prop}{k t:Int × Bool}(g:Bz o k)(p:Bz T t)(f:DJ o T):k.2=t.2/\(k.2=true->k.1=t.1):=by
 rcases g with⟨h,j⟩|⟨h,j,u⟩;rcases p with⟨e,a⟩|⟨e,a,r⟩;exact⟨h.trans e.symm,fun g=>by rw[h]at g;cases g⟩;obtain⟨q,b,_⟩:=f.2 _ a;exact(j q b).elim;rcases p with⟨e,a⟩|⟨e,a,r⟩;obtain⟨q,b,_⟩:=f.1 _ j;exact(a q b).elim;obtain⟨q,b,z⟩:=f.2 _ a;obtain⟨x,v,y⟩:=f.1 _ j;have:=u q b;have:=r x v;exact⟨h.trans e.symm,fun _=>by omega⟩
theorem Bz.add{g:Int->Prop}{st:Int × Bool}(j:Bz g st)(d):Bz (fun b=>g b\/b=d) (XD st d):=by
 unfold XD;rcases j with⟨e,f⟩|⟨e,f,h⟩;rw[e,aF kY];exact Or.inr ⟨rfl,Or.inr rfl,fun b a=>by rcases a with a|a;exact(f b a).elim;simp[a]⟩;by_cases k:d<st.1;rw[aF (by simp[k])];exact Or.inr ⟨rfl,Or.inr rfl,fun b a=>by rcases a with a|a;have:=h b a;simp only;omega;simp[a]⟩;rw[aC (by simp[e];omega)];exact Or.inr ⟨e,Or.inl f,fun b a=>by rcases a with a|a;exact h b a;omega⟩
theorem DJ.refl(b:Int->Prop):DJ b b:=⟨fun p a=>⟨p,a,eX _⟩,fun p a=>⟨p,a,eX _⟩⟩
theorem DJ.or{g T h j:Int->Prop}(k:DJ g T)(o:DJ h j):DJ (fun b=>g b\/h b) (fun b=>T b\/j b):=by
 constructor;intro b a;rcases a with a|a;obtain⟨q,e,f⟩:=k.1 b a;exact⟨q,Or.inl e,f⟩;obtain⟨q,e,f⟩:=o.1 b a;exact⟨q,Or.inr e,f⟩;intro b a;rcases a with a|a;obtain⟨q,e,f⟩:=k.2 b a;exact⟨q,Or.inl e,f⟩;obtain⟨q,e,f⟩:=o.2 b a;exact⟨q,Or.inr e,f⟩
theorem DJ.ex{o:Type}{l:aD o}{j T:o->Int->Prop}(k:∀ a,a∈l->DJ (j a) (T a)):DJ (fun b=>∃ a,a∈l/\j a b) (fun b=>∃ a,a∈l/\T a b):=by
 constructor;intro b ⟨a,e,h⟩;obtain⟨q,f,g⟩:=(k a e).1 b h;exact⟨q,⟨a,e,f⟩,g⟩;intro b ⟨a,e,h⟩;obtain⟨q,f,g⟩:=(k a e).2 b h;exact⟨q,⟨a,e,f⟩,g⟩
def PF(a:Sc)(b:It):Sc:=
 if Ae b.c then(if(a.hid b.d.toNat).isNone then⟨fun e=>if e=b.d.toNat then some b.pl else a.hid e,a.us⟩else a)
 else if AN b.c then(if !(a.hid b.d.toNat).isNone && !(a.us b.d.toNat)then⟨a.hid,fun e=>if e=b.d.toNat then true else a.us e⟩else a)else a
def XE(b:Sc)(a:It):Bool:=
 if Ae a.c then !(b.hid a.d.toNat).isNone else if AN a.c then !(!(b.hid a.d.toNat).isNone && !(b.us a.d.toNat))else false
def PE:Sc->aD It->Int->Prop
 | _,[],_=>False
 | b,a::t,p=>(XE b a=true/\p=a.pl)\/PE (PF b a) t p
def Agp(a:Sc)(b:Int):Prop:=∃ d,d<8/\a.hid d=some b/\a.us d=false
def PB(a:aD It)(b:Int):Prop:=PE FN a b\/Agp (a.foldl PF FN) b
theorem O5(b f e):∀ a,PE a (b++f) e↔PE a b e\/PE (b.foldl PF a) f e:=by
 induction b with
 | nil=>intro a;simp[PE]
 | cons h t g=>intro a;simp only[cA,PE,dP,g];rw[kI]
def ev:Nat->Bool->Bool->aD It->aD It
 | 0,_,_,_=>[]
 | _+1,_,_,[]=>[]
 | f+1,own,b,a::e=>if a.c=40 then[]else(if(Ae a.c&&own)||(AN a.c&&b)then[a]else[])++(segs e.length e).flatMap (ev f false (b&&AY [119,64,115] a.c))
def lost(g:aD It->Int->Prop):Nat->Bool->Bool->aD It->Int->Prop
 | 0,_,_,_,_=>False
 | _+1,_,_,[],_=>False
 | f+1,own,h,b::a,p=>
  if b.c=40 then g ((segs a.length a).flatMap (ev f true true)) p\/∃ e,e∈segs a.length a/\lost g f true true e p
  else(((Ae b.c && !own)||(AN b.c && !h))=true/\p=b.pl)\/∃ e,e∈segs a.length a/\lost g f false (h&&AY [119,64,115] b.c) e p
theorem EF(c)(a:Ae c=true):AN c=false:=by
 simp only[Ae,cH,dA]at a;rcases a with a|a<;>rw[a]<;>decide
theorem VR(h g a e)(st:Int × Bool)(k:Int->Prop)(f:Bz k st):
 (Dj h g a (e,st)).1=(if(Ae a.c&&h)||(AN a.c&&g)then[a]else[]).foldl PF e/\
   Bz (fun b=>k b\/PE e (if(Ae a.c&&h)||(AN a.c&&g)then[a]else[]) b\/(((Ae a.c && !h)||(AN a.c && !g))=true/\b=a.pl)) (Dj h g a (e,st)).2:=by
 unfold Dj G0 L5
 cases ab:Ae a.c
 cases hu:AN a.c
 simp;exact f.congr fun b=>by simp[PE]
 cases g
 simp;exact(f.add a.pl).congr fun b=>by simp[PE]
 cases ae:(!(e.hid a.d.toNat).isNone && !(e.us a.d.toNat))
 refine mC ?_;have j:XE e a=true:=by unfold XE;rw[ab,hu,ae];rfl
 exact⟨trivial,(f.add a.pl).congr fun b=>by simp[PE,j]⟩;refine mC ?_;have j:XE e a=false:=by unfold XE;rw[ab,hu,ae];rfl
 exact⟨trivial,f.congr fun b=>by simp[PE,j]⟩;have hu:=EF _ ab
 cases h
 simp[hu];exact(f.add a.pl).congr fun b=>by simp[PE]
 cases ae:(e.hid a.d.toNat).isNone
 simp only[ae,hu,dX,gG,cN,dU,dP,iB,PF,ab,bT,cT,gY,gS,iW,hY];exact⟨trivial,(f.add a.pl).congr fun b=>by simp[PE,XE,ab,ae]⟩;simp only[ae,hu,dX,gG,cN,dU,dP,iB,PF,ab,bT,cT,gY,gS,iW,hY];exact⟨trivial,f.congr fun b=>by simp[PE,XE,ab,ae]⟩
theorem Ac3(b)(j:aD Nat):∀ (e:Int->Prop) (st:Int × Bool),Bz e st->Bz (fun a=>e a\/∃ d,d∈j/\b.hid d=some a/\b.us d=false) (j.foldl (endStep b) st):=by
 induction j with
 | nil=>intro e st g;exact g.congr fun a=>by simp
 | cons d t k=>
  intro e st g;rw[dP]
  cases h:b.hid d with
  | none=>
   have f:endStep b st d=st:=by unfold endStep;rw[h]
   rw[f];exact(k e st g).congr fun a=>by simp[h]
  | some pl=>
   cases hu:b.us d
   have f:endStep b st d=XD st pl:=by unfold endStep;rw[h];simp[hu]
   rw[f];refine(k _ _ (g.add pl)).congr fun a=>?_
   simp only[bB,iX,h,hu,gW,kL,kI];rw[show(pl=a)=(a=pl)from propext eq_comm];have f:endStep b st d=st:=by unfold endStep;rw[h];simp[hu]
   rw[f];exact(k e st g).congr fun a=>by simp[hu]
def Adg(b:Nat):Prop:=∀ e a l f st (h:Int->Prop),Bz h st->
 (walkV b e a l (f,st)).1=(ev b e a l).foldl PF f/\Bz (fun g=>h g\/PE f (ev b e a l) g\/lost PB b e a l g) (walkV b e a l (f,st)).2
theorem Re(f)(u:Adg f)(g e)(j:aD (aD It)):∀ b st (k:Int->Prop),Bz k st->
 (j.foldl (fun a s=>walkV f g e s a) (b,st)).1=(j.flatMap (ev f g e)).foldl PF b/\
   Bz (fun o=>k o\/PE b (j.flatMap (ev f g e)) o\/∃ a,a∈j/\lost PB f g e a o) (j.foldl (fun a s=>walkV f g e s a) (b,st)).2:=by
 induction j with
 | nil=>intro b st k h;exact⟨rfl,h.congr fun o=>by simp[PE]⟩
 | cons a t v=>
  intro b st k h;obtain⟨p,r⟩:=u g e a b st k h;rw[dP,bY,dK];obtain⟨x,y⟩:=v (walkV f g e a (b,st)).1 (walkV f g e a (b,st)).2 _ r;refine⟨?_,?_⟩;rw[<- p];exact x;refine Bz.congr y fun o=>?_
  rw[O5,<- p];simp only[bB,iX];exact iz
theorem YJ(a):Adg a:=by
 induction a with
 | zero=>intro j e l k st o h;exact⟨rfl,h.congr fun r=>by simp[ev,PE,lost]⟩
 | succ a v=>
  intro j e l k st o h
  cases l with
  | nil=>exact⟨rfl,h.congr fun r=>by simp[ev,PE,lost]⟩
  | cons f b=>
   simp only[walkV,ev,lost];by_cases u:f.c=40;simp only[aF u];obtain⟨g,p⟩:=Re a v true true (segs b.length b) FN st o h;refine⟨rfl,?_⟩;have x:=Ac3 ((segs b.length b).foldl (fun A s=>walkV a true true s A) (FN,st)).1 (List.range 8) _ _ p;refine Bz.congr x fun r=>?_
   rw[g];simp only[eN,PB,Agp,PE];constructor;rintro((h|h|h)|h);exact Or.inl h;exact Or.inr (Or.inr (Or.inl (Or.inl h)));exact Or.inr (Or.inr (Or.inr h));exact Or.inr (Or.inr (Or.inl (Or.inr h)));rintro(h|h|((h|h)|h));exact Or.inl (Or.inl h);exact h.elim;exact Or.inl (Or.inr (Or.inl h));exact Or.inr h;exact Or.inl (Or.inr (Or.inr h));simp only[aC u];obtain⟨g,p⟩:=VR j e f k st o h;obtain⟨y,z⟩:=Re a v false (e&&AY [119,64,115] f.c) (segs b.length b) (Dj j e f (k,st)).1 (Dj j e f (k,st)).2 _ p;refine⟨?_,?_⟩;rw[dK,<- g];exact y;refine Bz.congr z fun r=>?_
   rw[O5,<- g];exact iz

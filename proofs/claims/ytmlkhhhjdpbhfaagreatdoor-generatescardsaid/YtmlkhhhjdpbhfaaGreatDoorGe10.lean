import Derived.Test.YtmlkhhhjdpbhfaaGreatDoorGe06
namespace Go.Proofs.YtmlkhhhjdpbhfaaGreatDoor
open Go.RowKit Go.Proofs.Tryz
set_option maxHeartbeats 4000000
set_option maxRecDepth 100000
variable{p q:Prop}(z:q)
theorem iY(h:p:=by
 rcases ae with⟨k,rfl⟩|⟨k,rfl⟩|⟨k,rfl⟩|⟨k,rfl⟩|⟨k,ab,aa,ac,rfl⟩;all_goals
  go_wp2_with (go_at_call 118;refine(ap.o _ _).mono ?_;rintro e aj⟨rfl,a⟩;subst a);go_roundw
  case rel=>exact⟨_,i+1,rfl,by go_num,by omega,by omega,by omega,JZ,lH⟩
  case measure=>simp[intOf];omega):p:=h
theorem Si(h:p:=by
 go_roundw
 case rel=>exact⟨_,m+1,rfl,by go_num,by omega,by omega,by omega,JZ,lH⟩
 case measure=>simp[intOf];omega):p:=h
theorem i0(h:p:=by
 go_wp2_with (go_at_call 118;refine(ap.o _ _).mono ?_;rintro e aj⟨rfl,a⟩;subst a);go_ret;exact⟨DU (by have:=b.o;omega),rfl⟩):p:=h
theorem JZ(h:p:=by
 first|exact ad|(have h:=ad.o;rw[x]at h;exact h)):p:=h
theorem US(s):∀ f i b,qEnd s f i=some b->i<=b/\b<s.size/\bt s b=34/\∀ m,i<=m->m<b->m<s.size/\bt s m≠34
 | 0,_,_,a=>by cases a
 | f+1,i,b,a=>by
  rw[qEnd]at a;split at a;rename_i h;split at a;rename_i e;cases a;exact⟨aB _,h,e,fun m k g=>by omega⟩
  rename_i e;obtain⟨p,j,c,d⟩:=US s f (i+1) b a;refine⟨by omega,j,c,fun m k g=>?_⟩;by_cases o:m=i;subst o;exact⟨h,e⟩;exact d m kX g
  cases a
theorem Jd(s)(a3:s.size<=8000)(t A)(a4:t<=s.size)(O:BG s (t,0) A)(w):
 Calls prog 70 #[.string s,I0 (t:Nat)] w fun e w'=>e=.returned (I0 (A:Nat))/\w'=w:=by
 have ap:=Aa (fun(c:Int) (W:aE)=>Cq ⟨#[32,41,93]⟩ c W lC);have af:=Aa O;clear O;go_enter func70,ntmps70;go_wp2;go_loopw [5,6] (fun av u wr=>∃ (d:Int) (i:Nat),av=I0 d/\u=I0 i/\i<=8010/\d<=i /\ - (i:Int)<=d/\Hid (BG s (i,d) A)/\wr=w) (fun _ u _=>8010-(intOf u).toNat)
 case atStart=>exact⟨0,t,rfl,rfl,by omega,by omega,by omega,af,rfl⟩
 case round=>
  obtain⟨d,i,rfl,rfl,a1,ax,ay,S,rfl⟩:=hrel;obtain⟨X,g,B,I⟩:=S.out.inv;clear S;unfold DX at g;simp only at g;by_cases L:i<s.size
  . rw[aF L,Cs s i L]at g;have ak:(i:Int)<(s.size:Int):=kX;have v:∀ (p:Nat) (j:Int),X=Ol s p j->Hid ((j=0/\(p+1=s.size\/AY [32,41,93] (bt s (p+1))=true)->p+1=A)/\(¬ (j=0/\(p+1=s.size\/AY [32,41,93] (bt s (p+1))=true))->BG s (p+1,j) A)):=fun p j e=>by
     refine⟨fun h=>I _ (by rw[e,Ol,aF h]),fun h=>B _ (by rw[e,Ol,aC h])⟩
    have E:=Aa B;clear B I;by_cases U:(s[i].toNat:Int)=34
    . rw[aC kX,aC kX,aC kX,aF U]at g
      cases F:qEnd s s.size (i+1)with
      | none=>rw[F]at g;cases g
      | some p=>
       rw[F]at g;have f:=v p d (by simpa using g.symm);obtain⟨aq,ar,au,Y⟩:=US s _ _ _ F;rw[Cs s p ar]at au;have Z:=Aa Y;clear v g E F Y;go_wp2;go_loopw [6] (fun u aw=>∃ m:Nat,u=I0 m/\i+1<=m/\m<=p/\aw=wr) (fun u _=>p-(intOf u).toNat)
       case atStart=>exact⟨i+1,by go_num,aB _,aq,rfl⟩
       case round=>
        obtain⟨m,rfl,am,a2,rfl⟩:=hrel;by_cases al:m<p
        . obtain⟨ao,an⟩:=Z.o m am al;rw[Cs s m ao]at an;go_wp2;go_roundw
          case rel=>exact⟨m+1,by go_num,by omega,by omega,by first|rfl|trivial⟩
          case measure=>simp[intOf];omega
        obtain rfl:m=p:=kX;by_cases y:m+1=s.size
        . by_cases x:d=0
          . have b:=Aa (f.o.1 ⟨x,Or.inl y⟩);clear f;all_goals
             go_wp2;go_ret;exact⟨DU (by have:=b.o;omega),rfl⟩
          . have ad:=Aa (f.o.2 (fun h=>x h.1));clear f;all_goals
             go_wp2;exact Si
        have K:m+1<s.size:=kX;have ah:((m:Int)+1==(s.size:Int))=false:=lA;have r:=Cs s (m+1) K
        cases o:AY [32,41,93] (bt s (m+1))with
        | true=>
         have J:AY ({data:=#[32,41,93]}:aA).data.toList (s[m+1].toNat:Int)=true:=by rw[<- r];exact o
         by_cases x:d=0
         . have b:=Aa (f.o.1 ⟨x,Or.inr o⟩);clear f o r;all_goals
            exact i0
         have ad:=Aa (f.o.2 (fun h=>x h.1));clear f o r;all_goals
          go_wp2_with (go_at_call 118;refine(ap.o _ _).mono ?_;rintro e aj⟨rfl,a⟩;subst a);exact Si
        | false=>
         have J:AY ({data:=#[32,41,93]}:aA).data.toList (s[m+1].toNat:Int)=false:=by rw[<- r];exact o
         have ad:=Aa (f.o.2 (fun h=>h.2.elim y (fun e=>by rw[o]at e;cases e)));clear f o r;by_cases x:d=0;all_goals
          all_goals
           go_wp2_with (go_at_call 118;refine(ap.o _ _).mono ?_;rintro e aj⟨rfl,a⟩;subst a);exact Si
    by_cases V:(s[i].toNat:Int)=47
    . rw[aC kX,aC kX,aF V]at g
      cases g
      have ad:=Aa (E.out _ rfl);clear v E;go_wp2;go_roundw
      case rel=>exact⟨_,i+3,rfl,by go_num,by omega,by omega,by omega,JZ,lH⟩
      case measure=>simp[intOf];omega
    have ai:∃ j:Int,j<=d+1/\d-1<=j/\X=Ol s i j/\(((s[i].toNat:Int)=40/\j=d+1)\/((s[i].toNat:Int)=91/\j=d+1)\/((s[i].toNat:Int)=41/\j=d-1)\/((s[i].toNat:Int)=93/\j=d-1)\/(¬ (s[i].toNat:Int)=40/\¬ (s[i].toNat:Int)=91/\¬ (s[i].toNat:Int)=41/\¬ (s[i].toNat:Int)=93/\j=d)):=by
     by_cases z:(s[i].toNat:Int)=40\/(s[i].toNat:Int)=91;rw[aF z]at g;cases g
     exact⟨d+1,by omega,by omega,rfl,by rcases z with k|k;exact Or.inl ⟨k,rfl⟩;exact Or.inr (Or.inl ⟨k,rfl⟩)⟩;rw[aC z]at g;by_cases ab:(s[i].toNat:Int)=41\/(s[i].toNat:Int)=93;rw[aF ab]at g;cases g
     exact⟨d-1,by omega,by omega,rfl,by rcases ab with k|k;exact Or.inr (Or.inr (Or.inl ⟨k,rfl⟩));exact Or.inr (Or.inr (Or.inr (Or.inl ⟨k,rfl⟩)))⟩;rw[aC ab,aC V,aC U]at g;cases g
     exact⟨d,by omega,by omega,rfl,Or.inr (Or.inr (Or.inr (Or.inr ⟨fun h=>z (Or.inl h),fun h=>z (Or.inr h),fun h=>ab (Or.inl h),fun h=>ab (Or.inr h),rfl⟩)))⟩
    obtain⟨j,az,a0,M,ae⟩:=ai;have f:=v i j M;clear v g E M;by_cases y:i+1=s.size
    . by_cases x:j=0
      . have b:=Aa (f.o.1 ⟨x,Or.inl y⟩);clear f;rcases ae with⟨k,rfl⟩|⟨k,rfl⟩|⟨k,rfl⟩|⟨k,rfl⟩|⟨k,ab,aa,ac,rfl⟩;all_goals
         go_wp2;go_ret;exact⟨DU (by have:=b.o;omega),rfl⟩
      . have ad:=Aa (f.o.2 (fun h=>x h.1));clear f;rcases ae with⟨k,rfl⟩|⟨k,rfl⟩|⟨k,rfl⟩|⟨k,rfl⟩|⟨k,ab,aa,ac,rfl⟩;all_goals
         go_wp2;go_roundw
         case rel=>exact⟨_,i+1,rfl,by go_num,by omega,by omega,by omega,JZ,lH⟩
         case measure=>simp[intOf];omega
    . have K:i+1<s.size:=by omega
      have ah:((i:Int)+1==(s.size:Int))=false:=lA;have r:=Cs s (i+1) K
      cases o:AY [32,41,93] (bt s (i+1))with
      | true=>
       have J:AY ({data:=#[32,41,93]}:aA).data.toList (s[i+1].toNat:Int)=true:=by rw[<- r];exact o
       by_cases x:j=0
       . have b:=Aa (f.o.1 ⟨x,Or.inr o⟩);clear f o r;rcases ae with⟨k,rfl⟩|⟨k,rfl⟩|⟨k,rfl⟩|⟨k,rfl⟩|⟨k,ab,aa,ac,rfl⟩;all_goals
          exact i0
       have ad:=Aa (f.o.2 (fun h=>x h.1));clear f o r;exact iY
      | false=>
       have J:AY ({data:=#[32,41,93]}:aA).data.toList (s[i+1].toNat:Int)=false:=by rw[<- r];exact o
       have ad:=Aa (f.o.2 (fun h=>h.2.elim y (fun e=>by rw[o]at e;cases e)));clear f o r;by_cases x:j=0;all_goals
        exact iY
  have ak:¬ (i:Int)<(s.size:Int):=kX;rw[aC L]at g
  cases g
  have x:=I _ rfl;subst x;clear B I;go_wp2;go_ret;exact⟨rfl,rfl⟩
theorem J9(h:p:=by
 go_ret3;exact⟨⟨_,a+1,_,by go_num,an.o⟩,rfl⟩):p:=h
def pB(l:aD UInt8):aA:=⟨l.reverse.toArray⟩
theorem P4(a l):pB l++⟨#[a]⟩=pB (a::l):=by apply gE;simp[pB]
theorem Kb(l):(pB l).size=l.length:=by show l.reverse.toArray.size=_;simp
def TO(f:Sum Rb (Bool × Nat))(e:aA)(a:Nat)(b:Bool):Prop:=match f with
 | .inl x=>b=true/\e=pB x.1/\a=x.2.2
 | .inr r=>b=false/\r=(false,a)
def TPo(g:Sum Rb (Bool × Nat))(f:Ending):Prop:=∃ b a e,f=.returned (.tuple #[.string b,I0 (a:Nat),.bool e])/\TO g b a e
theorem Tf(s)(S:s.size<=8000)(l a)(I:a<s.size)(O:l.length<=20000)(w):
 Calls prog 67 #[.string (pB l),.string s,I0 (a:Nat)] w fun h w'=>TPo (Hi s l a) h/\w'=w:=by
 have J:=Kb l;obtain⟨o,b⟩:∃ o,Hi s l a=o:=⟨_,rfl⟩;rw[b];rw[Hi,Cs s a I]at b;have b:=b.symm;have k:=P4 35 l;obtain⟨g,j⟩:∃ g,pB l=g:=⟨_,rfl⟩;rw[j]at J k⊢;have L:(a:Int)<(s.size:Int):=kX;have h0:AG 0<0:=lC;by_cases v:(s[a].toNat:Int)=34
 . rw[aF v]at b;have an:=Aa (show TO o g (a+1) true from by rw[b,<- j];exact⟨rfl,rfl,rfl⟩);clear b j k;go_enter func67,ntmps67;go_wp2;exact J9
 rw[aC v]at b;obtain⟨E,A⟩:∃ u,AG (s[a].toNat:Int)=u:=⟨_,rfl⟩;have p:=Aa (fun W=>B1 (s[a].toNat:Int) W);rw[A]at p b;clear A;by_cases x:E<0
 . rw[aF x]at b;have an:=Aa (show TO o g a false from by rw[b];exact⟨rfl,rfl⟩);clear b j k;go_enter func67,ntmps67;go_wp2_with (go_at_call 110;refine(p.o _).mono ?_;rintro h f⟨rfl,e⟩;rw[e];clear e f);go_ret3;exact⟨⟨_,a,_,rfl,an.o⟩,rfl⟩
 rw[aC x]at b;by_cases y:a+1<s.size
 . rw[Cs s (a+1) y]at b;have M:(a:Int)+1<(s.size:Int):=kX;obtain⟨F,B⟩:∃ u,AG (s[a+1].toNat:Int)=u:=⟨_,rfl⟩;have r:=Aa (fun W=>B1 (s[a+1].toNat:Int) W);rw[B]at r b;clear B;by_cases z:F<0
   . rw[aF z]at b;have an:=Aa (show TO o g (a+1) false from by rw[b];exact⟨rfl,rfl⟩);clear b j k;go_enter func67,ntmps67;go_upto_region 8 with(go_at_call 110;refine(p.o _).mono ?_;rintro h f⟨rfl,e⟩;rw[e];clear e f);go_wp2_with (go_at_call 110;refine(r.o _).mono ?_;rintro h f⟨rfl,e⟩;rw[e];clear e f);exact J9
   . rw[aC z]at b;have an:=Aa (show TO o (g++⟨#[35]⟩) (a+2) true from by rw[b,k];exact⟨rfl,rfl,rfl⟩);clear b j k;go_enter func67,ntmps67;go_upto_region 8 with(go_at_call 110;refine(p.o _).mono ?_;rintro h f⟨rfl,e⟩;rw[e];clear e f);go_wp2_with (go_at_call 110;refine(r.o _).mono ?_;rintro h f⟨rfl,e⟩;rw[e];clear e f);go_ret3;exact⟨⟨_,a+2,_,by go_num,an.o⟩,rfl⟩
 rw[DM s (a+1) y,aF h0]at b;have K:(a:Int)+1=(s.size:Int):=kX;have an:=Aa (show TO o (g++⟨#[35]⟩) (a+1) false from by rw[b];exact⟨rfl,rfl⟩);clear b j k;go_enter func67,ntmps67;go_wp2_with (go_at_call 110;refine(p.o _).mono ?_;rintro h f⟨rfl,e⟩;rw[e];clear e f);exact J9
theorem XH(s b a i)(h:a<=42949672969)(g:i<s.size)(f:48<=bt s i/\bt s i<=57):rdNum s (b+1) (min a 4294967296) i=rdNum s b (min (if a<4294967296 then 10*a+D1 s i else a) 4294967296) (i+1):=by
 have e:CW s i 48 57=true:=bF ⟨g,f⟩;rw[rdNum,aF e];congr 1;split<;>omega
theorem Qc(s)(ap:s.size<=8000)(l a)(U:a<s.size)(am:l.length<=20000)(w):
 Calls prog 66 #[.string (pB l),.string s,I0 (a:Nat)] w fun b w'=>TPo (Ge s l a) b/\w'=w:=by
 have X:=Kb l;obtain⟨k,e⟩:∃ k,Ge s l a=k:=⟨_,rfl⟩;rw[e];rw[Ge,Cs s a U]at e;have e:=e.symm;have o:=fun af=>P4 af l
 obtain⟨g,j⟩:∃ g,pB l=g:=⟨_,rfl⟩;rw[j]at X⊢;have aj:(a:Int)<(s.size:Int):=kX;by_cases B:(s[a].toNat:Int)=45\/(s[a].toNat:Int)=34\/(s[a].toNat:Int)=40\/(s[a].toNat:Int)=91\/(s[a].toNat:Int)=47\/(s[a].toNat:Int)=48
 . rcases B with b|b|b|b|b|b
   case' inl=>have an:=Aa (show TO k g (a+1) true from by rw[e,b,<- j];exact⟨rfl,rfl,rfl⟩)
   case' inr.inl=>have an:=Aa (show TO k (g++⟨#[35]⟩) (a+1) true from by rw[e,b,<- j,o];exact⟨rfl,rfl,rfl⟩)
   case' inr.inr.inl=>have an:=Aa (show TO k (g++⟨#[41]⟩) (a+1) true from by rw[e,b,<- j,o];exact⟨rfl,rfl,rfl⟩)
   case' inr.inr.inr.inl=>have an:=Aa (show TO k (g++⟨#[93]⟩) (a+1) true from by rw[e,b,<- j,o];exact⟨rfl,rfl,rfl⟩)
   case' inr.inr.inr.inr.inl=>have an:=Aa (show TO k (g++⟨#[50]⟩) (a+1) true from by rw[e,b,<- j,o];exact⟨rfl,rfl,rfl⟩)
   case' inr.inr.inr.inr.inr=>have an:=Aa (show TO k g (a+1) true from by rw[e,b,<- j];exact⟨rfl,rfl,rfl⟩)
   all_goals
    clear e j o;go_enter func66,ntmps66;go_wp2;exact J9
 rw[aC kX,aC kX,aC kX,aC kX,aC kX,aC kX]at e;obtain⟨q,y⟩:∃ q,rdNum s s.size 0 a=q:=⟨_,rfl⟩;rw[y]at e;have an:=Aa (show∀ i n:Nat,q=(min n 4294967296,i)->TO k g i (decide (a<i)&&decide (n<4294967296))from fun i n b=>by
  rw[e,b];by_cases h:a<i/\n<4294967296;rw[aF lB,bF h.1,bF h.2,<- j];exact⟨rfl,rfl,rfl⟩;rw[aC lB];exact⟨by simpa using h,rfl⟩)
 have K:=Aa y;have I:¬ (s[a].toNat:Int)=45/\¬ (s[a].toNat:Int)=34/\¬ (s[a].toNat:Int)=40/\¬ (s[a].toNat:Int)=91/\¬ (s[a].toNat:Int)=47/\¬ (s[a].toNat:Int)=48:=kX;obtain⟨Y,Z,aa,ab,ac,ad⟩:=I;clear e j o B y;go_enter func66,ntmps66;go_wp2_with fail;clear Y Z aa ab ac ad;go_loopw [9,10] (fun ae z wr=>∃ n i:Nat,ae=I0 n/\z=I0 i/\a<=i/\i<=s.size/\n<=42949672969/\Hid (∃ f,s.size<=f+i/\q=rdNum s f (min n 4294967296) i)/\wr=w) (fun _ z _=>s.size-(intOf z).toNat)
 case atStart=>exact⟨0,a,rfl,rfl,aB _,by omega,by omega,⟨s.size,by omega,K.o.symm⟩,rfl⟩
 case round=>
  obtain⟨n,i,rfl,rfl,I,ai,S,r,rfl⟩:=hrel;by_cases u:i<s.size/\48<=bt s i/\bt s i<=57
  . obtain⟨d1,d2,F⟩:=u;have p:Hid (∃ f,s.size<=f+(i+1)/\q=rdNum s f (min (if n<4294967296 then 10*n+D1 s i else n) 4294967296) (i+1)):=by
     obtain⟨f,M,v⟩:=r.out;obtain⟨f,rfl⟩:∃ O,f=O+1:=⟨f-1,by omega⟩;exact⟨f,by omega,by rw[v,XH s f n i S d1 ⟨d2,F⟩]⟩
    have J:D1 s i=(bt s i-48).toNat:=rfl;rw[J,Cs s i d1]at p;rw[Cs s i d1]at d2 F;have ah:(i:Int)<(s.size:Int):=kX;clear r J;by_cases E:n<4294967296
    . rw[aF E]at p;have L:(n:Int)<4294967296:=kX;go_wp2;go_roundw
      case rel=>exact⟨10*n+((s[i].toNat:Int)-48).toNat,i+1,by go_num,by go_num,by omega,by omega,by omega,p,by first|rfl|trivial⟩
      case measure=>simp[intOf];omega
    . rw[aC E]at p;have L:¬ (n:Int)<4294967296:=kX;go_wp2;go_roundw
      case rel=>exact⟨n,i+1,rfl,by go_num,by omega,by omega,by omega,p,by first|rfl|trivial⟩
      case measure=>simp[intOf];omega
  have A:=Aa (an.o i n (by
   obtain⟨f,M,v⟩:=r.out;rw[v]
   cases f with
   | zero=>rfl
   | succ f=>
    have h:¬ CW s i 48 57=true:=fun h=>u (dE h)
    rw[rdNum,aC h]))
  clear an r;have x:¬ (i:Int)<(s.size:Int)\/∃ h:i<s.size,(i:Int)<(s.size:Int)/\(¬ 48<=(s[i].toNat:Int)\/(48<=(s[i].toNat:Int)/\¬ (s[i].toNat:Int)<=57)):=by
   by_cases h:i<s.size;refine Or.inr ⟨h,by omega,?_⟩;rw[Cs s i h]at u;omega;exact Or.inl kX
  clear u;rcases x with x|⟨ak,x,V|⟨V,al⟩⟩;all_goals
   by_cases ao:(a:Int)<(i:Int)
   . go_wp2;go_ret3;exact⟨⟨g,i,decide ((n:Int)<4294967296),rfl,by have:=A.o;rw[bF (show a<i by omega),dR]at this;rw[show decide ((n:Int)<4294967296)=decide (n<4294967296)from decide_eq_decide.2 kX];exact this⟩,rfl⟩
   . go_wp2;go_ret3;exact⟨⟨g,i,false,rfl,by have:=A.o;rw[bJ (show¬ a<i by omega),dX]at this;exact this⟩,rfl⟩

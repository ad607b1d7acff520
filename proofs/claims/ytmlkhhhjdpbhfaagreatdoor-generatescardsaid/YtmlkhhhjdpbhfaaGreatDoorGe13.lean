import Derived.Test.YtmlkhhhjdpbhfaaGreatDoorGe10
namespace Go.Proofs.YtmlkhhhjdpbhfaaGreatDoor
open Go.RowKit Go.Proofs.Tryz
set_option maxHeartbeats 4000000
set_option maxRecDepth 100000
variable{p q:Prop}(z:q)
theorem Fy(h:p:=by
 go_ret2;exact⟨by rw[<- b.o];rfl,rfl⟩):p:=h
theorem Ae9(l):(pB l).toList.isEmpty=l.isEmpty:=by rw[dZ];simp[pB]
theorem Aa2(a l)(b:l.length<(pB (a::l)).size):(pB (a::l))[l.length]=a:=by
 show(a::l).reverse.toArray[l.length]'_=a;simp
theorem Aer(a l):(pB (a::l)).extract 0 l.length=pB l:=by
 apply gE;rw[hS];simp[pB]
theorem Agq(b q):((pB (b::q)).toList==(pB q).toList)=false:=by
 rw[dC];intro a;have:=gI List.length a;simp[dZ,pB]at this
theorem u8i{c d:UInt8}(a:(c.toNat:Int)=(d.toNat:Int)):c=d:=UInt8.toNat_inj.1 (Int.ofNat_inj.1 a)
theorem M9(s):∀ f n a,(rdNum s f n a).2=a\/(a<(rdNum s f n a).2/\48<=bt s ((rdNum s f n a).2-1)/\bt s ((rdNum s f n a).2-1)<=57)
 | 0,_,_=>Or.inl rfl
 | f+1,n,a=>by
  rw[rdNum];split;rename_i g;have h:=DW g;rcases M9 s f (min (n*10+D1 s a) 4294967296) (a+1)with b|⟨j,e⟩;rw[b];exact Or.inr ⟨by omega,h⟩;exact Or.inr ⟨by omega,e⟩;exact Or.inl rfl
theorem VQ{s l k h g a}(B:g<s.size)(b:Ge s l g=.inl (k,h,a)):
 g<a/\a<=s.size/\k.length<=l.length+1/\((h=true/\(bt s (a-1)=40\/(bt s (a-1)≠40/\bt s (a-1)=91))/\(∃ f,k=f::l))\/(h=false/\bt s (a-1)≠40/\bt s (a-1)≠91)):=by
 unfold Ge at b;have j:∀ (o:aD UInt8) (p:Bool) (f:Int),bt s g=f->o.length<=l.length+1->(p=true/\(f=40\/(f≠40/\f=91))/\(∃ f,o=f::l))\/(p=false/\f≠40/\f≠91)->(Sum.inl (o,p,g+1):Sum Rb (Bool × Nat))=.inl (k,h,a)->g<a/\a<=s.size/\k.length<=l.length+1/\((h=true/\(bt s (a-1)=40\/(bt s (a-1)≠40/\bt s (a-1)=91))/\(∃ f,k=f::l))\/(h=false/\bt s (a-1)≠40/\bt s (a-1)≠91)):=by
  intro o p f x v u e
  cases e
  subst x;exact⟨by omega,by omega,v,u⟩
 split at b;rename_i e;exact j _ _ 45 e kY kY b;split at b;rename_i e;exact j _ _ 34 e kY kY b;split at b;rename_i e;exact j _ _ 40 e kY kY b;split at b;rename_i e;exact j _ _ 91 e kY kY b;split at b;rename_i e;exact j _ _ 47 e kY kY b;split at b;rename_i e;exact j _ _ 48 e kY kY b;split at b;rename_i e
 cases b
 have r:=F9 s s.size 0 g kX;rcases M9 s s.size 0 g with y|⟨_,z,A⟩;omega;exact⟨e.1,r.2,by omega,Or.inr ⟨rfl,by omega,by omega⟩⟩
 cases b
theorem XP{s l g f b e}(j:b<s.size)(a:Hi s l b=.inl (g,f,e)):f=false/\b<e/\e<=s.size/\g.length<=l.length+1:=by
 unfold Hi at a;split at a
 cases a;exact⟨rfl,by omega,by omega,by omega⟩
 split at a
 cases a
 split at a
 cases a
 rename_i h
 cases a
 have:b+1<s.size:=cB fun a=>h (by rw[DM s _ a];decide)
 exact⟨rfl,by omega,by omega,by simp⟩
theorem dtree_calls(s w):
 Calls prog 43 #[.string s] w fun k w'=>k=.returned (.tuple #[.bool (C1 s).1.isSome,I0 ((C1 s).2:Nat)])/\w'=w:=by
 by_cases ai:s.size<=8000
 . have F:=WZ s ai;obtain⟨A,ah⟩:∃ A:Bool × Nat,((C1 s).1.isSome,(C1 s).2)=A:=⟨_,rfl⟩;rw[ah]at F;rw[show(C1 s).1.isSome=A.1 by rw[<- ah],show(C1 s).2=A.2 by rw[<- ah]];have ay:=Aa F;have M:=Aa (fun bf l=>P4 bf l);have a9:¬ (8000:Int)<(s.size:Int):=kX;go_enter func43,ntmps43;go_wp2;go_loopw [4,5,6] (fun be ak al wr=>∃ (l:aD UInt8) (j:Bool) (a:Nat),be=.string (pB l)/\ak=.bool j/\al=I0 a/\a<=s.size/\l.length+(if j=true then 1 else 0)<=2*a+1/\Hid (Ends s (l,j,a) A)/\wr=w) (fun _ ak al _=>2*(8000-(intOf al).toNat)+(match ak with | .bool true=>1|_=>0))
   case atStart=>exact⟨[86],false,0,rfl,rfl,rfl,bR _,by simp,ay,rfl⟩
   case round=>
    obtain⟨l,j,a,rfl,rfl,rfl,bj,a5,F,rfl⟩:=hrel;have av:=Kb l;have af:=Ae9 l;by_cases x:a<s.size
    . have a3:(a:Int)<(s.size:Int):=by omega
      cases l with
      | nil=>
       have ad:=Aa (F.out.is (r':=(false,a)) (by unfold GA;rw[aF x]));have a6:pB []=(⟨#[]⟩:aA):=rfl;rw[a6];go_wp2;go_ret2;exact⟨by rw[<- ad.o];rfl,rfl⟩
      | cons c q=>
       have e:=ED (s:=s) (c:=c) (r:=q) (f:=j) x;rw[Cs s a x]at e;have a4:=Aa2 c q (by rw[Kb];simp);have a7:=Aer c q;have ba:((pB (c::q)).size:Int)-1=(q.length:Int):=by rw[av];simp
       obtain⟨B,Y⟩:∃ B,pB (c::q)=B:=⟨_,rfl⟩;have b0:q.length+1=B.size:=by rw[<- Y,av];rfl
       have bo:∀ g,B[q.length]'g=c:=by subst Y;exact fun g=>a4
       rw[Y]at a7 ba af⊢;have bl:(q.length:Int)<(B.size:Int):=kX;have au:q.length+1+(if j=true then 1 else 0)<=2*a+1:=a5;have bz:q.length<=16001:=kX;have bk:B.toList.isEmpty=false:=af;have aq:=F.out;have r:=Aa (show∀ am,GA s (c::q,j,a)=.inl am->Ends s am A from fun am g=>aq.next g);have J:=Aa (show∀ p,GA s (c::q,j,a)=.inr p->p=A from fun p g=>aq.is g);have an:=Aa Y;by_cases o:c=41\/c=93
       . have a8:q.length+1<=2*a+1:=by omega
         by_cases v:(s[a].toNat:Int)=(c.toNat:Int)
         . rw[aC (fun g=>g.2 v),aF o]at e;have b:=Aa (r.o _ e);rcases o with rfl|rfl;all_goals
            go_wp2;go_roundw
            case rel=>exact⟨q,false,a+1,rfl,rfl,by go_num,by omega,by simp;omega,b,by first|rfl|trivial⟩
            case measure=>cases j<;>simp[intOf]<;>omega
         . rw[aF ⟨o,v⟩]at e
           cases j with
           | true=>
            rw[aF rfl]at e;have b:=Aa (r.o _ e);rcases o with rfl|rfl;all_goals
             first|have L:¬ (s[a].toNat:Int)=41:=v|have L:¬ (s[a].toNat:Int)=93:=v
             go_wp2;go_roundw
             case rel=>exact⟨86::_::q,false,a,by rw[<- M.o,an.o],rfl,rfl,by omega,by simp at au⊢;omega,b,by first|rfl|trivial⟩
             case measure=>simp[intOf]
           | false=>
            rw[aC lC]at e;by_cases E:(s[a].toNat:Int)=32
            . rw[aF E]at e;have b:=Aa (r.o _ e);rcases o with rfl|rfl;all_goals
               first|have L:¬ (s[a].toNat:Int)=41:=v|have L:¬ (s[a].toNat:Int)=93:=v
               go_wp2;go_roundw
               case rel=>exact⟨86::_::q,false,a+1,by rw[<- M.o,an.o],rfl,by go_num,by omega,by simp at au⊢;omega,b,by first|rfl|trivial⟩
               case measure=>simp[intOf];omega
            rw[aC E]at e;have b:=Aa (J.o _ e);rcases o with rfl|rfl;all_goals
             first|have L:¬ (s[a].toNat:Int)=41:=v|have L:¬ (s[a].toNat:Int)=93:=v
             go_wp2;exact Fy
       have a8:q.length+1<=2*a+1:=kX;have bp:¬ (c.toNat:Int)=41:=fun g=>o (Or.inl (u8i (d:=41) g))
       have bq:¬ (c.toNat:Int)=93:=fun g=>o (Or.inr (u8i (d:=93) g))
       rw[aC (fun g=>o g.1),aC o]at e;have ar:q.length<=20000:=kX;have I:=Aa (Qc s ai q a x ar wr);have O:=Aa (Tf s ai q a x ar wr);have ao:=Aa (fun p=>Ll p wr);by_cases X:c=86
       . rw[aF X]at e;subst X;rcases z:Ge s q a with⟨aj,az,ae⟩|p
         . rw[z]at I e;have b:=Aa (r.o _ e);obtain⟨bb,Z,aw,ax⟩:=VQ x z;obtain⟨u,rfl⟩:∃ u,ae=u+1:=⟨ae-1,by omega⟩;have a2:u<s.size:=kX;rw[show u+1-1=u from rfl,Cs s u a2]at ax;have bm:(u:Int)<(s.size:Int):=kX;rcases ax with⟨rfl,a1,p,rfl⟩|⟨rfl,ap,a0⟩
           . have bx:=Agq p q;simp only[aX]at aw;rcases a1 with ap|⟨ap,a0⟩;all_goals
              go_wp2_with (go_at_call 66;refine I.o.mono ?_;rintro k h⟨⟨S,K,aa,rfl,rfl,rfl,rfl⟩,f⟩;rw[f];clear f h);go_roundw
              case rel=>exact⟨p::q,true,u+1,rfl,rfl,by go_num,Z,by simp;omega,b,by first|rfl|trivial⟩
              case measure=>cases j<;>simp[intOf]<;>omega
           . go_wp2_with (go_at_call 66;refine I.o.mono ?_;rintro k h⟨⟨S,K,aa,rfl,rfl,rfl,rfl⟩,f⟩;rw[f];clear f h);go_roundw
             case rel=>exact⟨aj,false,u+1,rfl,rfl,by go_num,Z,by simp;omega,b,by first|rfl|trivial⟩
             case measure=>cases j<;>simp[intOf]<;>omega
         . rw[z]at I e;have b:=Aa (J.o _ e);go_wp2_with (go_at_call 66;refine I.o.mono ?_;rintro k h⟨⟨S,K,aa,rfl,rfl,rfl⟩,f⟩;rw[f];clear f h);exact Fy
       rw[aC X]at e;have br:¬ (c.toNat:Int)=86:=fun g=>X (u8i (d:=86) g)
       by_cases U:c=35
       . rw[aF U]at e;subst U;rcases z:Hi s q a with⟨aj,az,ae⟩|p
         . rw[z]at O e;have b:=Aa (r.o _ e);obtain⟨rfl,bb,Z,aw⟩:=XP x z;go_wp2_with (go_at_call 67;refine O.o.mono ?_;rintro k h⟨⟨S,K,aa,rfl,rfl,rfl,rfl⟩,f⟩;rw[f];clear f h);go_roundw
           case rel=>exact⟨aj,false,K,rfl,rfl,rfl,Z,by simp;omega,b,by first|rfl|trivial⟩
           case measure=>cases j<;>simp[intOf]<;>omega
         . rw[z]at O e;have b:=Aa (J.o _ e);go_wp2_with (go_at_call 67;refine O.o.mono ?_;rintro k h⟨⟨S,K,aa,rfl,rfl,rfl⟩,f⟩;rw[f];clear f h);exact Fy
       rw[aC U]at e;have bu:¬ (c.toNat:Int)=35:=fun g=>U (u8i (d:=35) g)
       have b1:=Kb q;have ac:=Aa (ao.o true);have ab:=Aa (ao.o false);rw[aF rfl]at ac;rw[aC lC]at ab;by_cases V:c=43
       . rw[aF V]at e;subst V;by_cases E:(s[a].toNat:Int)=32
         . rw[aF E]at e;have b:=Aa (r.o _ e);go_wp2_with (go_at_call 68;refine ac.o.mono ?_;rintro k h⟨rfl,f⟩;rw[f];clear f h);go_roundw
           case rel=>exact⟨86::q,false,a+1,by rw[<- M.o],rfl,by go_num,by omega,by simp;omega,b,by first|rfl|trivial⟩
           case measure=>cases j<;>simp[intOf]<;>omega
         . rw[aC E]at e;have b:=Aa (J.o _ e);have bg:((s[a].toNat:Int)==32)=false:=by simpa using E
           go_wp2_with (go_at_call 68;refine ab.o.mono ?_;rintro k h⟨rfl,f⟩;rw[f];clear f h);exact Fy
       rw[aC V]at e;have bv:¬ (c.toNat:Int)=43:=fun g=>V (u8i (d:=43) g)
       by_cases y:(s[a].toNat:Int)=48\/(s[a].toNat:Int)=49
       . rw[aF y]at e;have b:=Aa (r.o _ e);rcases y with y|y;all_goals
          go_wp2_with (go_at_call 68;refine ac.o.mono ?_;rintro k h⟨rfl,f⟩;rw[f];clear f h);go_roundw
          case rel=>exact⟨43::q,false,a+1,by rw[<- M.o],rfl,by go_num,by omega,by simp;omega,b,by first|rfl|trivial⟩
          case measure=>cases j<;>simp[intOf]<;>omega
       rw[aC y]at e;have b:=Aa (J.o _ e);have bc:¬ (s[a].toNat:Int)=48:=fun g=>y (Or.inl g)
       have bd:¬ (s[a].toNat:Int)=49:=fun g=>y (Or.inr g)
       have bi:((s[a].toNat:Int)==49)=false:=by simpa using bd
       have bh:((s[a].toNat:Int)==48)=false:=by simpa using bc
       go_wp2_with (go_at_call 68;refine ab.o.mono ?_;rintro k h⟨rfl,f⟩;rw[f];clear f h);exact Fy
    have ad:=Aa (F.out.is (r':=(l.isEmpty,a)) (by unfold GA;rw[aC x]));have a3:¬ (a:Int)<(s.size:Int):=kX;have r:=Aa af;go_wp2;go_ret2;exact⟨by rw[<- ad.o,<- r.o];rfl,rfl⟩
 have k:C1 s=(none,0):=by unfold C1;rw[aF kX]
 rw[k];have a9:(8000:Int)<(s.size:Int):=kX;go_enter func43,ntmps43;go_wp2;go_ret2;exact⟨rfl,rfl⟩

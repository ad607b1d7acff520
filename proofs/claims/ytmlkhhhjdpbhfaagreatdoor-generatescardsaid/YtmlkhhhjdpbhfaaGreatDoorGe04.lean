import Derived.Test.YtmlkhhhjdpbhfaaGreatDoorGe01
namespace Go.Proofs.YtmlkhhhjdpbhfaaGreatDoor
open Go.RowKit Go.Proofs.Tryz
set_option maxHeartbeats 4000000
set_option maxRecDepth 100000
variable{p q:Prop}(z:q)
abbrev kn(h:PLift q->p:=by
 intro aa;go_wp2_with fail;go_quiet (fail);go_wp2_with fail;refine(ES (w.drewN nq) f b st j ad.o af.o aj).mono ?_;rintro e w1⟨rfl,ab,ac⟩;simp only;go_wp2_with fail;rename_i bp a5 a6;revert bp a5 a6 nq w1 ab ac;exact aa.1):p:=h ⟨z⟩
def Vo(a:Int):Bool:=a==11||a==12||a==13
def Afb(a:Nat):Bool:=(sh a).d && !(RT a)
theorem Kj(a w):Calls prog 104 #[I0 a] w fun b w'=>b=.returned (.bool (Vo a))/\w'=w:=by
 go_enter func104,ntmps104;go_wp2;all_goals
  go_ret;refine⟨?_,rfl⟩
  first
   | rfl
   | (unfold Vo;simp[*])
theorem Eu.dep{w}(b:Eu w)(f)(h:f<15):w.cell? (A0 0 (f*6+3))=some (.bool (sh f).d):=by
 have e:∀ q a,Mi[q]? = some a->w.cell? (A0 0 q)=some a:=fun q a g=>by have:=b.1 q a g;simpa using this
 refine ka ?_;intro ab;rcases ab with rfl|rfl|rfl|rfl|rfl|rfl|rfl|rfl|rfl|rfl|rfl|rfl|rfl|rfl|rfl<;>exact e _ _ rfl
theorem OV(a:Nat)(k:a<15)(w:aE)(j:Eu w):Calls prog 102 #[I0 a] w fun h w'=>h=.returned (.bool (Afb a))/\w'=w:=by
 have g:=j.dep a k;have o:(a:Int)<15:=kX;have f:Hid (Afb a=((sh a).d && !(RT a))):=rfl
 cases b:(sh a).d
 . rw[b]at g;go_enter func102,ntmps102;go_wp2;go_ret;exact⟨by rw[f.o,b];rfl,rfl⟩
 rw[b]at g;go_enter func102,ntmps102;go_wp2_with (go_at_call 100;refine(Gi _ _).mono ?_;rintro h p⟨rfl,e⟩;have e:=e.symm;subst e);go_ret;exact⟨by rw[f.o,b];rfl,rfl⟩
def Et(w:aE)(a:Nat)(st:Int × Bool):Prop:=Ac w a #[I0 st.1,.bool st.2] 149
def bw(st:Int × Bool)(d:Int):Int × Bool:=if !st.2||decide (d<st.1)then(d,true)else st
theorem ES(w a h)(st:Int × Bool)(b)(f:Et w a st)(x:Am w h b)(v:h≠a):
 Calls prog 173 #[P0 a,P0 h] w fun k w'=>k=.returned (.tuple #[])/\Et w' a (bw st b.EZ)/\Df a w w':=by
 have o:=f.c0;have p:=f.c1;have z:=f.frozen 0;have A:=f.frozen 1;have y:=x.c4;have j:=Aa f;have B:¬ a=h:=fun k=>v k.symm
 obtain⟨pl,r⟩:=st;simp only at o p
 cases r
 . have e:Hid (bw (pl,false) b.EZ=(b.EZ,true)):=rfl;go_enter func173,ntmps173;go_wp2_with fail;go_quiet (fail);go_wp2;go_end0;rw[e.o];exact⟨rfl,Ac.set (Ac.set (show Et (w.drewN nq) a (pl,false)from j.o) 0 _) 1 _,((Df.drewN a w nq).setCell _ _).setCell _ _⟩
 by_cases g:b.EZ<pl
 . have e:=Aa (show bw (pl,true) b.EZ=(b.EZ,true)by unfold bw;simp[g]);have u:decide (b.EZ<pl)=true:=by simpa using g
   go_enter func173,ntmps173;go_wp2_with fail;go_quiet (fail);go_wp2;go_end0;rw[e.o];exact⟨rfl,Ac.set (Ac.set (show Et (w.drewN nq) a (pl,true)from j.o) 0 _) 1 _,((Df.drewN a w nq).setCell _ _).setCell _ _⟩
 have e:=Aa (show bw (pl,true) b.EZ=(pl,true)by unfold bw;simp[g]);have u:decide (b.EZ<pl)=false:=by simpa using g
 go_enter func173,ntmps173;go_wp2_with fail;go_quiet (fail);go_wp2;go_end0;rw[e.o];exact⟨rfl,j.o,Df.drewN a w nq⟩
def BJ(a:aM Nat):aI:=.pointer (a.map fun q=>(A0 q 0))
def FP(a:Nat->aM Nat)(b:Nat->Bool):Array aI:=
 #[BJ (a 0),BJ (a 1),BJ (a 2),BJ (a 3),BJ (a 4),BJ (a 5),BJ (a 6),BJ (a 7),.bool (b 0),.bool (b 1),.bool (b 2),.bool (b 3),.bool (b 4),.bool (b 5),.bool (b 6),.bool (b 7)]
def GY(w:aE)(b:Nat)(a:Nat->aM Nat)(e:Nat->Bool):Prop:=Ac w b (FP a e) 256
def upO(b:Nat->aM Nat)(d q:Nat):Nat->aM Nat:=fun a=>if a=d then some q else b a
def upB(b:Nat->Bool)(d:Nat):Nat->Bool:=fun a=>if a=d then true else b a
theorem J0(a:Nat->aM Nat)(b d)(e:d<8):(FP a b)[d]? = some (BJ (a d))/\(FP a b)[8+d]? = some (.bool (b d)):=by
 refine k4 ?_;intro ab;exact g9
theorem S2(a:Nat->aM Nat)(b d q)(e:d<8):(FP a b).setIfInBounds d (BJ (some q))=FP (upO a d q) b:=by
 refine k4 ?_;intro ab;rcases ab with rfl|rfl|rfl|rfl|rfl|rfl|rfl|rfl<;>simp[FP,upO]
theorem S3(a:Nat->aM Nat)(b d)(e:d<8):(FP a b).setIfInBounds (8+d) (.bool true)=FP a (upB b d):=by
 refine k4 ?_;intro ab;rcases ab with rfl|rfl|rfl|rfl|rfl|rfl|rfl|rfl<;>simp[FP,upB]
theorem ZL(w f b)(st:Int × Bool)(j)(a:Et w f st)(g:Am w b j)(aj:b≠f):
 Calls prog 101 #[P0 f,P0 b,.pointer none] w fun e w'=>e=.returned (.tuple #[])/\Et w' f (bw st j.EZ)/\Df f w w':=by
 have ad:=Aa a;have af:=Aa g;go_enter func101,ntmps101;refine kn ?_;intro _ _ _ nq w1 ab ac;exact aT (v:=.tuple #[]) (by simp[results,results101,go_sem]) rfl ⟨rfl,ab,(Df.drewN f w nq).trans ac⟩
theorem Xm(w f b a)(st:Int × Bool)(j)(g:Nat->aM Nat)(h)(d:Nat)(B:j.dp=(d:Int))(v:d<8)(A:Et w f st)(y:Am w b j)(p:GY w a g h)(aj:b≠f)(E:b≠a)(x:a≠f):
 Calls prog 101 #[P0 f,P0 b,P0 a] w fun e w'=>e=.returned (.tuple #[])/\DG f a w w'/\
  ((g d≠none/\Et w' f (bw st j.EZ)/\GY w' a g h)\/(g d=none/\Et w' f st/\GY w' a (upO g d b) h)):=by
 have F:w.cell? (A0 b 3)=some (I0 d):=by rw[<- B];exact y.cell 3
 have k:w.cell? (A0 a d)=some (BJ (g d)):=by rw[Ac.cell p d];exact(J0 g h d v).1
 have I:=Ac.frozen p d;have ad:=Aa A;have af:=Aa y;have r:=Aa p;have J:(d:Int)<8:=kX;have K:¬ a=b:=fun e=>E e.symm
 cases o:g d with
 | some q=>
  rw[o]at k;simp only[BJ,cO]at k;have z:=Aa o;go_enter func101,ntmps101;refine kn ?_;intro _ _ _ nq w1 ab ac;exact aT (v:=.tuple #[]) (by simp[results,results101,go_sem]) rfl ⟨rfl,(((Df.drewN f w nq).trans ac).two a),Or.inl ⟨by simp,ab,Ac.same (show GY (w.drewN nq) a g h from r.o) ac x⟩⟩
 | none=>
  rw[o]at k;simp only[BJ,hT]at k;have z:=Aa o;go_enter func101,ntmps101;go_wp2_with fail;go_quiet (fail);go_wp2_with fail;go_region
  all_goals
   go_wp2;go_end0;refine⟨rfl,?_,Or.inr ⟨trivial,?_,?_⟩⟩
   . exact((Df.drewN f w (nq+1)).two a).setCell _ _
   . exact Ac.Ad (ad.o) _ (fB x) _
   . have u:=Ac.set (r.o) d (BJ (some b));rw[S2 _ _ _ _ v]at u;exact u
theorem Aav(w f b)(st:Int × Bool)(j)(a:Et w f st)(g:Am w b j)(aj:b≠f):
 Calls prog 103 #[P0 f,P0 b,.pointer none] w fun e w'=>e=.returned (.tuple #[])/\Et w' f (bw st j.EZ)/\Df f w w':=by
 have ad:=Aa a;have af:=Aa g;go_enter func103,ntmps103;refine kn ?_;intro _ _ _ nq w1 ab ac;exact aT (v:=.tuple #[]) (by simp[results,results103,go_sem]) rfl ⟨rfl,ab,(Df.drewN f w nq).trans ac⟩
theorem Aah(w f b a)(st:Int × Bool)(j)(g:Nat->aM Nat)(h)(d:Nat)(E:j.dp=(d:Int))(u:d<8)(B:Et w f st)(z:Am w b j)(p:GY w a g h)(aj:b≠f)(F:b≠a)(v:a≠f):
 Calls prog 103 #[P0 f,P0 b,P0 a] w fun e w'=>e=.returned (.tuple #[])/\DG f a w w'/\
  (((g d=none\/h d=true)/\Et w' f (bw st j.EZ)/\GY w' a g h)\/((g d≠none/\h d=false)/\Et w' f st/\GY w' a g (upB h d))):=by
 have I:w.cell? (A0 b 3)=some (I0 d):=by rw[<- E];exact z.cell 3
 have k:w.cell? (A0 a d)=some (BJ (g d)):=by rw[Ac.cell p d];exact(J0 g h d u).1
 have x:w.cell? (A0 a (8+d))=some (.bool (h d)):=by rw[Ac.cell p (8+d)];exact(J0 g h d u).2
 have J:=Ac.frozen p (8+d);have ad:=Aa B;have af:=Aa z;have r:=Aa p;have K:(d:Int)<8:=kX;have L:¬ a=b:=fun e=>F e.symm
 cases o:g d with
 | none=>
  rw[o]at k;simp only[BJ,hT]at k;have A:=Aa o;go_enter func103,ntmps103;refine kn ?_;intro _ _ _ nq w1 ab ac;exact aT (v:=.tuple #[]) (by simp[results,results103,go_sem]) rfl ⟨rfl,(((Df.drewN f w nq).trans ac).two a),Or.inl ⟨Or.inl kY,ab,Ac.same (show GY (w.drewN nq) a g h from r.o) ac v⟩⟩
 | some q=>
  rw[o]at k;simp only[BJ,cO]at k;have A:=Aa o
  cases hu:h d
  . rw[hu]at x;go_enter func103,ntmps103;go_wp2_with fail;go_quiet (fail);go_wp2_with fail;go_region
    all_goals
     go_wp2;go_end0;refine⟨rfl,?_,Or.inr ⟨⟨by simp,by simp⟩,?_,?_⟩⟩
     . exact((Df.drewN f w (nq+1)).two a).setCell _ _
     . exact Ac.Ad (ad.o) _ (fB v) _
     . have y:=Ac.set (r.o) (8+d) (.bool true);rw[S3 _ _ _ u]at y;exact y
  rw[hu]at x;go_enter func103,ntmps103;refine kn ?_;intro _ _ _ nq w1 ab ac;exact aT (v:=.tuple #[]) (by simp[results,results103,go_sem]) rfl ⟨rfl,(((Df.drewN f w nq).trans ac).two a),Or.inl ⟨Or.inr kY,ab,Ac.same (show GY (w.drewN nq) a g h from r.o) ac v⟩⟩

import Derived.Test.YtmlkhhhjdpbhfaaGreatDoorGe14
namespace Go.Proofs.YtmlkhhhjdpbhfaaGreatDoor
open Go.RowKit Go.Proofs.Tryz
set_option maxHeartbeats 4000000
set_option maxRecDepth 100000
variable{p q:Prop}(z:q)
theorem nc(h:p:=by
 rintro e w2⟨rfl,o,ae,ak⟩;have af:=Aa o;have bc:=Aa (al.o.2.trans ae);have aj:=Aa ak;go_wp2;go_end0;rw[ah.o];exact⟨rfl,af.o,bc.o,fun k ab ac ai=>(aj.o k (bM ab ad.o.1) ai).trans (ad.o.2 k ab ac)⟩):p:=h
theorem LB(c g w a h r p v u st)(A:BO c g w a h r p v u st)(f)(x:Jx f st.out.length)(n)(M:n<4294967296)(L:st.out.length<=1000000000):
 Calls prog 78 #[P0 a,.agg #[I0 (f.pl:Nat),I0 (f.w:Nat),.func (.func (BR f.low)) #[] #[]],I0 (n:Nat)] w fun e w'=>e=.returned (.tuple #[])/\BO c g w' a h r p v u (Ba st f n)/\Below g w w'/\∀ k,k<w.heap.size->k≠a->some k≠h.ownBlock->w'.heap[k]? = w.heap[k]? := by
 have ac:=x.pos;have ai:=x.le;have ap:=A.ge a aG;refine ly ?_;intro I j;have U:∀ b:Bool,BO c g ((w.setCell (A0 a 47) (.bool b)).alloc (.cells #[I0 (f.pl:Nat),I0 (f.w:Nat),.func (.func (BR f.low)) #[] #[]] 190)) a h r p v u {st with wide:=b}/\Below g w ((w.setCell (A0 a 47) (.bool b)).alloc (.cells #[I0 (f.pl:Nat),I0 (f.w:Nat),.func (.func (BR f.low)) #[] #[]] 190)):=fun b=>by
  have ab:=A.wider b (aO w.heap.size w);have y:(w.setCell (A0 a 47) (.bool b)).heap.size=w.heap.size:=by simp[World.setCell]
  have ae:=(aO g (w.setCell (A0 a 47) (.bool b))).alloc (by rw[y];omega) (.cells #[I0 (f.pl:Nat),I0 (f.w:Nat),.func (.func (BR f.low)) #[] #[]] 190);exact⟨ab.1.B9 ae (fun q _ ac=>bC _ _ _ ac),ab.2.trans ae⟩
 have S:∀ b:Bool,w.heap.size<=((w.setCell (A0 a 47) (.bool b)).alloc (.cells #[I0 (f.pl:Nat),I0 (f.w:Nat),.func (.func (BR f.low)) #[] #[]] 190)).heap.size/\∀ k,k<w.heap.size->k≠a->((w.setCell (A0 a 47) (.bool b)).alloc (.cells #[I0 (f.pl:Nat),I0 (f.w:Nat),.func (.func (BR f.low)) #[] #[]] 190)).heap[k]? = w.heap[k]? := fun b=>by
  have y:(w.setCell (A0 a 47) (.bool b)).heap.size=w.heap.size:=by simp[World.setCell]
  refine⟨by rw[World.size_alloc,y];omega,fun k V X=>?_⟩;rw[bC _ _ _ (by rw[y];exact V),aN _ _ _ _ X]
 have K:Ac (w.alloc (.cells #[I0 (f.pl:Nat),I0 (f.w:Nat),.func (.func (BR f.low)) #[] #[]] 190)) a (KE c.gb h st.wide r p) 120:=Ac.alloc A.Ap _;have Z:=I.c1;have J:(w.alloc (.cells #[I0 (f.pl:Nat),I0 (f.w:Nat),.func (.func (BR f.low)) #[] #[]] 190)).cell? (A0 a 47)=some (.bool st.wide):=K.cell 47;have am:=K.frozen 47;have O:=Aa (fun W=>H3 n f.w kX ai W);have af:=Aa U;have E:=Aa S;have ao:IntKind.u64.wrap (n:Int)=n:=by rw[IntKind.wrap_u64];omega
 have an:IntKind.u32.wrap (n:Int)=n:=by rw[hH];omega
 cases z:st.wide
 . rw[z]at J;go_enter func78,ntmps78;go_wp2_with fail;refine(O.o _).mono ?_;rintro e w1⟨rfl,Y⟩;rw[Y];have al:=Aa (af.o (!CG n f.w));have ad:=Aa (E.o (!CG n f.w));have B:Ba st f n=L3 {st with wide:=!CG n f.w} f n:=by unfold Ba;rw[z];rfl
   have ah:=Aa B;generalize CG n f.w=F at*;go_wp2_with fail;generalize(w.setCell (A0 a 47) (.bool !F)).alloc (.cells #[I0 (f.pl:Nat),I0 (f.w:Nat),.func (.func (BR f.low)) #[] #[]] 190)=W at*;refine(Jj c g W a h r p v u {st with wide:=!F} al.o.1 f x n M L).mono ?_;exact nc
 rw[z]at J;have al:=Aa (af.o true);have ad:=Aa (E.o true);have B:Ba st f n=L3 {st with wide:=true} f n:=by unfold Ba;rw[z];rfl
 have ah:=Aa B;go_enter func78,ntmps78;go_wp2_with fail;generalize(w.setCell (A0 a 47) (.bool true)).alloc (.cells #[I0 (f.pl:Nat),I0 (f.w:Nat),.func (.func (BR f.low)) #[] #[]] 190)=W at*;refine(Jj c g W a h r p v u {st with wide:=true} al.o.1 f x n M L).mono ?_;exact nc
theorem Jn(c e w f g o j k h st)(b:BO c e w f g o j k h st)(a)(r:Jx a st.out.length)(n)(v:n<4294967296)(u:st.out.length<=1000000000):
 Calls prog 78 #[P0 f,.agg #[I0 (a.pl:Nat),I0 (a.w:Nat),.func (.func (BR a.low)) #[] #[]],I0 (n:Nat)] w fun p w'=>p=.returned (.tuple #[])/\BO c e w' f g o j k h (Ba st a n)/\Below e w w':=
 (LB c e w f g o j k h st b a r n v u).mono fun _ _ b=>⟨b.1,b.2.1,b.2.2.1⟩
theorem ib(h:p:=by
 refine⟨?_,?_⟩;rw[aL (w:=w) (a.block b au),<- ao];exact ah.cell 2;rw[aL (w:=w) (a.block p av)];exact ap.Ap.cell 1):p:=h
theorem n7(h:p:=by
 have r:=Aa (ar.trans an.o.2);refine⟨r.o,?_⟩;go_wp2;go_end0;exact⟨rfl,r.o,_,_,_,_,[],by rw[dI];exact an.o.1⟩):p:=h
abbrev lv(h:PLift q->p:=by
 intro aa;refine Ab _ rfl (fun W a=>rfl) ?_;refine Ab _ rfl (fun W a=>rfl) ?_;refine Ab (P0 b) rfl (fun W a=>by go_simp) ?_;refine Ab (.pointer (some (A0 b 2))) rfl (fun W a=>by go_simp) ?_;refine Ab (I0 (m:Nat)) rfl (fun W a=>by obtain⟨h0,ab⟩:=ai.o W a;go_simp) ?_;refine Ab _ rfl (fun W a=>rfl) ?_;refine Ab (P0 p) rfl (fun W a=>by go_simp) ?_;refine Ab (.pointer (some (A0 p 1))) rfl (fun W a=>by go_simp) ?_;refine Ab (.int .u32 (n:Nat)) rfl (fun W a=>by obtain⟨h0,ab⟩:=ai.o W a;go_simp) ?_;refine Ag ⟨_,rfl,rfl,?_⟩;unfold Oper.wp;go_simp;have aq:=al.o.B9 ac (fun _ _ _=>rfl);refine(IB c g _ f ad ak am af ae st aq m kX o aj).mono ?_;revert aq;exact aa.1):p:=h ⟨z⟩
abbrev k6(h:PLift q->p:=by
 intro aa;have ac:Below g w (w.drewN 1):=⟨rfl,rfl,rfl,aB _,fun _ _=>rfl⟩;revert ac;exact aa.1):p:=h ⟨z⟩
def C5(c:Cx)(a:Nat)(w:aE)(o:Nat)(f:aD Nat)(st:Wr)(e:Ending)(w':aE):Prop:=
 e=.returned (.tuple #[])/\Below a w w'/\∃ b k h j g,BO c a w' o b k h j (f++g) st
theorem VI(a b m n):putAt (a++List.replicate m 0) ⟨a.length,m,b⟩ n=a++BP b m n:=by
 unfold putAt;simp only;rw[eT,dN kY];simp
theorem BO.row{c g w y f m h x u v k st}(j:BO c g w y (S0 f (st.out.length+m) h) x u v k (B5 st (List.replicate m 0))):
 ∃ b,Ac w f b 5/\st.out.length+m<=b.size:=by
 rcases j.out.2 with⟨e,_⟩|⟨E,z,b,e,_,o,p,_,r,_⟩
 cases e
 injection e with a A B;injection a with a;injection a with a;subst a;refine⟨b,o,?_⟩;rw[r];simp[B5]at p;omega
theorem BO.num{c}{e}{w w2}{r a m f}{p k}{o}{h}{st}(u:BO c e w r (S0 a (st.out.length+m) f) p k o h (B5 st (List.replicate m 0)))(b)(n)(g)(x:Ac w a g 5)(y:Up w w2 a st.out.length 5 g (BP b m n)):BO c e w2 r (S0 a (st.out.length+m) f) p k o h (B5 st (BP b m n))/\Below e w w2:=by
 have j:(B5 st (List.replicate m 0)).out.length=st.out.length+m:=by simp[B5]
 have:=u.put (w1:=w) ⟨st.out.length,m,b⟩ n a f g (by rw[j]) (aO _ _) x y (by rw[j];exact aB _);have v:L3 (B5 st (List.replicate m 0)) ⟨st.out.length,m,b⟩ n=B5 st (BP b m n):=by
  unfold L3 B5;simp only;rw[VI]
 rw[v]at this;exact this
theorem Kh(c g w f ad ak am af ae st)(h:BO c g w f ad ak am af ae st)(aj:st.out.length<=1000000000)(b p J n m:Nat)(K:aA)(L I:aI)(v:Pt)(ah:Am w b v)(au:b<g)(ap:Q0 w p J n K L)(av:p<g)(ao:v.wd=(m:Int))(O:1<=m)(o:m<=4):
 Calls prog 122 #[P0 f,P0 b,P0 p,I] w fun e w'=>C5 c g w f ae (B5 st (BP false m n)) e w':=by
 have E:=ap.n;have y:∀ W,Below g w W->W.cell? (A0 b 2)=some (I0 (m:Nat))/\W.cell? (A0 p 1)=some (.int .u32 (n:Nat)):=fun W a=>by
  exact ib
 have ai:=Aa y;have al:=Aa h;go_enter func122,ntmps122;go_wp2_with fail;refine k6 ?_;intro ac;refine Cl (fun W=>Below g w W) [([0,1,2,3,4,6,7,8,9],5),([],10)] rfl kZ (fun _ _ d _ _ h=>by cases d<;>exact h) ac ?_;refine kJ ?_;refine lv ?_;intro aq;rintro e w2⟨x,M,rfl,B,z⟩;have ar:=ac.trans z;have j:=Aa B;refine⟨ar,?_⟩;refine Ag ⟨_,rfl,rfl,?_⟩;unfold Oper.wp;go_simp;obtain⟨k,u,A⟩:=j.o.row;refine(Jf w2 x st.out.length m _ n 5 k u o A E).mono ?_;rintro e S⟨rfl,F⟩;have an:=Aa (j.o.num false n k u F);exact n7
theorem Im(c g w f ad ak am af ae st)(h:BO c g w f ad ak am af ae st)(aj:st.out.length<=1000000000)(b p J n m:Nat)(K:aA)(L I:aI)(v:Pt)(ah:Am w b v)(au:b<g)(ap:Q0 w p J n K L)(av:p<g)(ao:v.wd=(m:Int))(O:1<=m)(o:m<=4):
 Calls prog 124 #[P0 f,P0 b,P0 p,I] w fun e w'=>C5 c g w f ae (B5 st (BP true m n)) e w':=by
 have E:=ap.n;have y:∀ W,Below g w W->W.cell? (A0 b 2)=some (I0 (m:Nat))/\W.cell? (A0 p 1)=some (.int .u32 (n:Nat)):=fun W a=>by
  exact ib
 have ai:=Aa y;have al:=Aa h;go_enter func124,ntmps124;go_wp2_with fail;refine k6 ?_;intro ac;refine Cl (fun W=>Below g w W) [([0,1,2,3,4,6,7,8,9],5),([],10)] rfl kZ (fun _ _ d _ _ h=>by cases d<;>exact h) ac ?_;refine kJ ?_;refine lv ?_;intro aq;rintro e w2⟨x,M,rfl,B,z⟩;have ar:=ac.trans z;have j:=Aa B;refine⟨ar,?_⟩;refine Ag ⟨_,rfl,rfl,?_⟩;unfold Oper.wp;go_simp;obtain⟨k,u,A⟩:=j.o.row;refine(JL w2 x st.out.length m _ n 5 k u o A E).mono ?_;rintro e S⟨rfl,F⟩;have an:=Aa (j.o.num true n k u F);exact n7
theorem kP(h:p:=by
 rw[aN _ _ _ _ ab];exact af.block b ac ai):p:=h
theorem kU(h:p:=by
 exact h.nb q e (by rw[o];exact aG)):p:=h
theorem UC(c)(w)(f e)(o j)(k)(a b:Nat)(R:aE->Prop)(y:Oo c w f)(A:Am w e k)(x:k.k=(a:Int))(I:a<15)(v:E2[a*3+2]? = some (CO b))(K:∀ h W,Sem.run prog (callFunc b h) W=.ok (.enter b h) W)(u:Calls prog b #[P0 f,P0 e,o,j] (w.drewN 1) fun g w'=>g=.returned (.tuple #[])/\R w'):
 Calls prog 159 #[P0 f,P0 e,o,j] w fun g w'=>g=.returned (.tuple #[])/\R w':=by
 have J:(a:Int)<15:=kX;have F:q_ w f (a*3+2) (.func (.func b) #[] #[]):=y.fns _ _ v;have L:w.cell? (A0 e 0)=some (I0 a):=by rw[<- x];exact A.cell 0
 have p:=Aa u;go_enter func159,ntmps159;go_wp2_with fail;refine AX 15 _ rfl rfl kZ kZ ?_;refine gq ?_;refine p.o.mono fun E M z=>?_
 obtain⟨rfl,B⟩:=z;have r:=Aa B;simp only;refine bL ?_;go_wp2;go_end0;exact⟨rfl,r.o⟩
theorem Ha(c f w b A ad ab ac x st)(e:BO c f w b A ad ab ac x st)(am:st.out.length<=1000000000)(j a:Nat)(ae V:aI)(z:Pt)(S:Am w j z)(_hpb:j<f)(I:z.vl=(a:Int))(al:a<256):
 Calls prog 127 #[P0 b,P0 j,ae,V] w fun g w'=>C5 c f w b x (B5 st [UInt8.ofNat a]) g w':=by
 obtain⟨aa,J,X,Y,Z⟩:=cY infoByte;have ao:=e.ge b aG;have U:((UInt8.ofNat a).toNat:Int)=a:=lA;obtain⟨q,h,rfl⟩:=B3 e.out;have ah:q_ w b 46 (.slice q st.out.length h):=e.Ap.cell 46;have ai:∀ k,(w.alloc k).cell? (A0 b 46)=some (.slice q st.out.length h):=fun k=>(Ac.alloc e.Ap k).cell 46
 have aq:w.cell? (A0 j 5)=some (.int .u8 (a:Nat)):=by rw[<- I];exact S.cell 5
 have o:=Aa e;have M:=e.out;have L:some b≠(Value.slice q st.out.length h).ownBlock:=fun g=>e.nb b g.symm aG
 go_enter func127,ntmps127;go_wp2_with fail;go_region_law (
  (refine gZ _ lE _ _ _ lE f 5 aa _ 1 1 underlying40 J X Y Z rfl kX (.slice q st.out.length h) st.out.length (BT st.out) lE ((M.alloc _).drew)
    (A0 w.heap.size 0) 1 1 [.int .u8 a] lE lE
    (cD (cs:=#[.int .u8 a]) (t:=5) (fr:=(0,0)) (cJ w _)) (by simp[Value.oneCell'])
    kX lD kX lA (w.heap.size+1) kY ?_
   intro p B af O y F an;have r:=((o.o.Ap.alloc _).drew).grown y L;have aj:q_ af b 46 (.slice q st.out.length h):=r.cell 46;have ak:=r.frozen 46))
 all_goals
  go_wp2;go_end0;have v:Below f w (w.alloc (.cells #[.int .u8 a] 5)).drew:=((aO f w).alloc kX _).drew;have K:=o.o.B9 (w':=(w.alloc (.cells #[.int .u8 a] 5)).drew) v (fun ap _ E=>bC _ _ _ E);have u:=K.app p B (st.out.length+1) [UInt8.ofNat a] y (by unfold BT;rw[dO,bX,dV,U,aR];exact O) (by
   rcases F with g|g;exact Or.inl g;refine Or.inr ?_;show(w.alloc (.cells #[.int .u8 a] 5)).heap.size<=p;simp;omega)
  exact⟨rfl,v.trans u.2,_,_,_,_,[],by rw[dI];exact u.1⟩
section
open Go
theorem mv(h:p:=by
 have:=b.Ap;unfold Ac at*;rw[ak.block f ap.2 (fun e=>h.nb f e.symm aG)];exact this):p:=h
abbrev lw(h:PLift q->p:=by
 intro aa;obtain⟨an,aj,al,am,ab⟩:=cY infoByte;have ap:=h.ge f aG;have ao:=Yh a;have ae:Below g w w.drew:=⟨rfl,rfl,rfl,aB _,fun _ _=>rfl⟩;have b:=h.B9 (w':=w.drew) ae (fun k _ ac=>rfl);obtain⟨ai,w1,af,j,ak,ah⟩:=Gj (P:=Tryz.prog) w.drew g 40 9 40 5 an Tryz.underlying40 Tryz.underlying9 aj al am ab ad st.out.length (BT st.out) b.out ⟨a.toArray⟩ (by rw[ao];omega) (by have:w.drew.heap.size=w.heap.size:=rfl;omega);revert an aj al am ab ap ao ae b ai w1 af j ak ah;exact aa.1):p:=h ⟨z⟩
section
variable {P:Program} (w:aE)
theorem Gj(base)(t k v b)(i:TypeInfo)(r:P.underlying t=some (.slice b))(hu:P.underlying k=some .string)(o:P.info? b=some i)(O:i.zero=some (.int .u8 0))(E:i.size=1)(J:i.bytes=1)(x)(n)(a)(B:w.ownsRow base b 1 x n a)(s)(aj:n+s.size<=140737488355328)(X:base<=w.heap.size):
 ∃ y w',(Builtin.append_ #[t,k] v #[x,.string s]).run P w=.ok y w'/\w'.ownsRow base b 1 y (n+s.size) (a++Lib.strCells s)/\w.grownBy w' x.ownBlock/\(y.ownBlock=x.ownBlock\/∃ e,y.ownBlock=some e/\w.heap.size<=e):=by
 have u:a.length=n:=by simpa using B.1
 have ar:(a++Lib.strCells s).length=(n+s.size)*1:=by rw[aR,u,gP,Nat.mul_one]
 have I:∀ (j:Nat) (S:aM Nat),
  (w.drew.alloc (.cells (a.toArray++(Lib.strCells s).toArray++Builtin.zeroCells (Value.int .u8 0).cells (grownCap w (n+s.size) j b-(n+s.size))) b)).ownsRow base b 1
    (S0 w.heap.size (n+s.size) (grownCap w (n+s.size) j b)) (n+s.size) (a++Lib.strCells s)/\
  w.grownBy (w.drew.alloc (.cells (a.toArray++(Lib.strCells s).toArray++Builtin.zeroCells (Value.int .u8 0).cells (grownCap w (n+s.size) j b-(n+s.size))) b)) S:=by
  intro j S;have ac:=kK w (n+s.size) j b;have z:=iJ w (n+s.size) j b lD;refine⟨⟨ar,.inr ⟨w.heap.size,_,_,rfl,X,cJ w.drew _,ac,z,?_,?_⟩⟩,⟨rfl,rfl,rfl,by simp,fun F A _=>bC w.drew _ F A⟩⟩;have ai:(Value.int IntKind.u8 0).cells.size=1:=rfl;simp only[iS,dJ,jM,ai,u,gP];omega;exact mw
 rcases B.2 with⟨rfl,rfl⟩|⟨e,f,aa,rfl,Y,L,al,z,Z,ab⟩;have af:=cG u;subst af;by_cases p:s.size=0;have ad:=cG (by rw[gP];exact p);refine⟨.slice none 0 0,w,?_,by rw[p,ad];exact cC w base b 1,⟨rfl,rfl,rfl,aB _,fun _ _ _=>rfl⟩,Or.inl rfl⟩;have K:=Lib.run_firstCells_string (P:=P) w 1 s;rw[p]at K;simp[Builtin.append_,fJ r,fJ hu,sizeOf,typeInfo,o,E,Builtin.lenOf,p,K];have h:=run_append_nil_string (P:=P) w t k v b i (.int .u8 0) r hu o O s kX kX (by rw[J];omega);have g:=I 0 (Value.ownBlock (.slice none 0 0));simp only[eC,cL,Array.empty_append]at g⊢;have V:(s.data.map fun U=>Value.int .u8 U.toNat)=(Lib.strCells s).toArray:=by
  apply Array.ext';simp[Lib.strCells]
 rw[V]at h;exact⟨_,_,h,g.1,g.2,Or.inr ⟨_,rfl,aB _⟩⟩;by_cases M:n+s.size<=f;have ak:aa.size=f:=by simpa using Z
 have h:=Lib.run_append_room_string (P:=P) w t k v b i r hu o E e n f aa L s M kX;refine⟨_,_,h,⟨ar,.inr ⟨e,f,_,rfl,Y,jD w e aa _ b _ L,M,z,?_,?_⟩⟩,⟨rfl,rfl,rfl,by simp,fun F _ A=>setRow_other w e F _ (fun b=>A (by simp[Value.ownBlock,b]))⟩,Or.inl rfl⟩;simp only[dJ,aR,cX,dQ,fU,gP];omega;exact mx;have ae:=B.cells (g:=e) rfl;have h:=Lib.run_append_grow_string (P:=P) w t k v b i (.int .u8 0) r hu o O (A0 e 0) n f a (by rw[E];simpa using u) ae s kX kX (by rw[J];exact jN kX kX);have g:=I f (Value.ownBlock (S0 e n f));exact⟨_,_,h,g.1,g.2,Or.inr ⟨_,rfl,aB _⟩⟩
end
theorem Yh(a:aD UInt8):(⟨a.toArray⟩:aA).size=a.length:=by simp[ByteArray.size]
theorem BO.append{c}{a}{w w1}{f}{g bv' p j}{x}{v}{st}(h:BO c a w f g p j x v st)(l)(af:w.grownBy w1 g.ownBlock)(I:w1.ownsRow a 5 1 bv' (st.out++l).length (BT (st.out++l)))(B:bv'.ownBlock=g.ownBlock\/∃ r,bv'.ownBlock=some r/\w.heap.size<=r):
 BO c a (w1.setCell (A0 f 46) bv') f bv' p j x v (B5 st l)/\Below a w (w1.setCell (A0 f 46) bv'):=by
 have J:=h.ge f aG;have A:∀ q,bv'.ownBlock=some q->q ∉ f::E6 p j x v:=fun q e=>by
  rcases B with u|⟨r,u,K⟩;exact h.nb q (u▸e);rw[u]at e;injection e with e;intro o;have:=(h.ge q o).2;omega
 have F:some f≠g.ownBlock:=fun e=>h.nb f e.symm aG
 have z:Below a w (w1.setCell (A0 f 46) bv'):=by
  exact ik
 have E:Ac w1 f (KE c.gb g st.wide p j) 120:=by
  have:=h.Ap;unfold Ac at*;rw[af.block f J.2 F];exact this
 refine⟨?_,z⟩;refine BO.next (bv':=bv') (wide:=st.wide) (out:=st.out++l) h z (fun b o=>?_) (by have:=E.set 46 bv';rw[VB]at this;exact this) (An I fun q e=>?_) A;exact il;exact aN _ _ _ _ (fun y=>A q e (by simp only at y;rw[y];exact aG))
theorem HS{P:Program}{w}{ops}{a}{b}{k:Act->aE->Prop}{Q:Exit->Act->aE->Prop}{o:Prop}(r:a.guard=none)(s j:Operand)(t e)(u:a.op=.call {callee:=.builtin .append,args:=#[s,j],argTypes:=#[t,e]})(g h)(x:b.eval s=g)(y:b.eval j=h)(f)(w')(v:(Builtin.append_ #[t,e] a.type #[g,h]).run P w=.ok f w')(p:k (b.put a.dst f) w'):
 if Region.wanted a (yielded ops b.tmps)=true then Oper.wp P a b w k Q else o:=by
 rw[aF (by simp[Region.wanted,r])];exact Lib.wp_append_run w s j t e u g h x y f w' v p
theorem Mn(c g w f ad x v J u st)(h:BO c g w f ad x v J u st)(U:st.out.length<=1000000000)(I y k n a K F)(E:Q0 w y k n ⟨a.toArray⟩ K)(V:a.length<=8000):
 Calls Tryz.prog 158 #[P0 f,P0 I,P0 y,F] w fun e w'=>C5 c g w f u (B5 st a) e w':=by
 refine lw ?_;intro an aj al am ab ap ao ae b ai w1 af j ak ah;have B:=b.append (bv':=ai) a ak (by
  rw[ao]at j;have A:BT (st.out++a)=BT st.out++Lib.strCells ⟨a.toArray⟩:=by simp[BT,Lib.strCells]
  rw[A,aR];exact j) ah
 have p:=Aa B;obtain⟨q,o,rfl⟩:=B3 h.out;have L:q_ w f 46 (.slice q st.out.length o):=h.Ap.cell 46;have X:=E.Ap.c2;have r:Ac w1 f (KE c.gb (.slice q st.out.length o) st.wide x v) 120:=by
  exact mv
 have O:q_ w1 f 46 (.slice q st.out.length o):=r.cell 46;have S:=r.frozen 46;obtain⟨q',M,rfl⟩:=B3 j;have z:=Aa ae;go_enter Tryz.func158,Tryz.ntmps158;go_wp2_with fail;go_region_law (
  (refine HS lE _ _ _ _ lE _ _ lE lE _ _ af ?_))
 all_goals
  go_wp2;go_end0;exact⟨rfl,z.o.trans p.o.2,_,_,_,_,[],by rw[dI];exact p.o.1⟩
end
structure Afp (w:aE) (hb d:Nat) (ho:Ho):Prop where
 c0:w.cell? (A0 hb (d*3))=some (I0 (ho.pl:Nat))
 c1:w.cell? (A0 hb (d*3+1))=some (I0 (ho.w:Nat))
 c2:w.cell? (A0 hb (d*3+2))=some (.func (.func (BR ho.low)) #[] #[])
theorem BO.hole{c k w B o A y z h st}(p:BO c k w B o A y z h st){i a d:Nat}{b:Nat->aM Ho}{j:Ho}(r:h[i]? = some a)(u:st.AS[i]? = some b)(v:b d=some j)(x:d<8):Afp w a d j:=by
 have a:=p.AS i a b r u;obtain⟨e,f,g⟩:=PK b d x;rw[v]at e f g;rw[dB]at e f g;exact⟨(a.cell (d*3)).trans e,(a.cell (d*3+1)).trans f,(a.cell (d*3+2)).trans g⟩
theorem BO.Abi{c g w f ad u r z y st}(h:BO c g w f ad u r z y st)(B:st.out.length<=1000000000)(a)(E:a.length<=8000):
 ∃ q o q' p w1,ad=.slice q st.out.length o/\w.cell? (A0 f 46)=some (.slice q st.out.length o)/\(Builtin.append_ #[40,9] 40 #[.slice q st.out.length o,.string ⟨a.toArray⟩]).run prog w.drew=.ok (.slice q' (st.out.length+a.length) p) w1/\
  w1.cell? (A0 f 46)=some (.slice q st.out.length o)/\w1.frozen? (A0 f 46)=false/\BO c g (w1.setCell (A0 f 46) (.slice q' (st.out.length+a.length) p)) f (.slice q' (st.out.length+a.length) p) u r z y (B5 st a)/\Below g w (w1.setCell (A0 f 46) (.slice q' (st.out.length+a.length) p)):=by
 refine lw ?_;intro an aj al am ab ap ao ae b ai w1 af j ak ah;rw[ao]at j;have v:=b.append (bv':=ai) a ak (by
  have A:BT (st.out++a)=BT st.out++Lib.strCells ⟨a.toArray⟩:=by simp[BT,Lib.strCells]
  rw[A,aR];exact j) ah
 obtain⟨q,o,rfl⟩:=B3 h.out;have x:Ac w1 f (KE c.gb (.slice q st.out.length o) st.wide u r) 120:=by
  exact mv
 obtain⟨q',p,rfl⟩:=B3 j;exact⟨q,o,q',p,w1,rfl,h.Ap.cell 46,af,x.cell 46,x.frozen 46,v.1,ae.trans v.2⟩
theorem Ml(c)(g)(w)(f)(p J F)(I)(h)(st)(X:BO c g w f p J F I h st)(y:st.out.length<=1000000000)(o e al n u d:Nat)(b:Ho)(a:aD UInt8)(an:aI)(E:Pt)(af:Am w o E)(ae:Q0 w e al n ⟨a.toArray⟩ an)(ak:e<g)(ai:a.length<=8000)(ab:E.dp=(d:Int))(ax:d<8)(j:Afp w u d b)(B:Jx b st.out.length):
 Calls prog 147 #[P0 f,P0 o,P0 e,P0 u] w fun r w'=>C5 c g w f h (B5 (Ba st b a.length) a) r w':=by
 obtain⟨a3,az,a0,a1,a2⟩:=cY infoByte;have aj:=Yh a;have a4:w.cell? (A0 o 3)=some (I0 (d:Nat)):=by rw[<- ab];exact af.cell 3
 have am:=ae.Ap.c2;have au:=j.c0;have av:=j.c1;have aw:=j.c2;have ay:(d:Int)<8:=kX;have L:=Aa X;have S:=Aa (show∀ W,Below g w W->W.cell? (A0 e 2)=some (.string ⟨a.toArray⟩)from fun W Y=>by rw[aL (w:=w) (Y.block e ak)];exact am);have ao:=Aa aj;generalize ah:(⟨a.toArray⟩:aA)=a5 at*;have O:=Aa ah;go_enter func147,ntmps147;go_wp2_with fail;refine AX 14 _ rfl rfl kZ kZ ?_;refine gq ?_;refine k6 ?_;intro ac;refine(Jn c g (w.drewN 1) f p J F I h st (L.o.B9 ac (fun _ _ _=>rfl)) b B a.length kX y).mono ?_;rintro r w2⟨rfl,ad,Z⟩;have v:=ac.trans Z;have a6:=S.o w2 v;have z:(Ba st b a.length).out.length=st.out.length:=by unfold Ba L3;exact CF _ _ _ B.lt
 obtain⟨q,ap,q',aq,a7,rfl,U,k,V,ar,A,x⟩:=ad.Abi (by rw[z];exact y) a ai;simp only[z]at U k V A x;rw[O.o]at k;have M:=Aa A;have K:=Aa (v.trans x);simp only;refine bL ?_;go_wp2_with fail;go_region_law (
  (refine HS lE _ _ _ _ lE _ _ lE lE _ _ k ?_))
 all_goals
  go_wp2;go_end0;exact⟨rfl,K.o,_,_,_,_,[],by rw[dI];exact M.o⟩
theorem nf(h:p:=by
 go_wp2_with fail;refine ai.o.mono ?_;rintro e w2⟨rfl,af⟩;have ab:=Aa af;go_wp2;go_end0;exact⟨rfl,ab.o⟩):p:=h
theorem Zv{l:aD Nat}(j:l.Nodup){i a}(f:i<l.length)(g:a<l.length)(e:l[i]=l[a]):i=a:=by
 have h:=List.pairwise_iff_getElem.1 j;rcases Nat.lt_trichotomy i a with b|b|b;exact absurd e (h i a f g b);exact b;exact absurd e.symm (h a i g f b)
def Iw(w:aE)(a d:Nat)(b:Ho):aE:=((w.setCell (A0 a (d*3)) (I0 (b.pl:Nat))).setCell (A0 a (d*3+1)) (I0 (b.w:Nat))).setCell (A0 a (d*3+2)) (.func (.func (BR b.low)) #[] #[])
theorem D3(w e d f b)(a:b≠e):(Iw w e d f).heap[b]? = w.heap[b]? := by
 unfold Iw;rw[aN _ _ _ _ a,aN _ _ _ _ a,aN _ _ _ _ a]
theorem Ym(b d)(f:d<8)(a):(((OF b).setIfInBounds (d*3) (I0 (a.pl:Nat))).setIfInBounds (d*3+1) (I0 (a.w:Nat))).setIfInBounds (d*3+2) (.func (.func (BR a.low)) #[] #[])=OF (fun e=>if e=d then some a else b e):=by
 refine k4 ?_;intro ab;exact DI
theorem BO.Adv{c u w r L A y z v st}(f:BO c u w r L A y z v st){i b d p}(g)(o:v[i]? = some b)(M:st.AS[i]? = some p)(aa:d<8):
 BO c u (Iw w b d g) r L A y z v (Ef st i d g)/\Below u w (Iw w b d g):=by
 have I:=bH o;have O:b∈r::E6 A y z v:=aH _ (Dy o);have ao:=f.ge b O;have K:=f.nd;rw[bZ]at K;have ah:r≠b:=fun e=>K.1 (e▸Dy o)
 have J:=K.2;unfold E6 at J;rw[bP,bP,bP]at J;obtain⟨_,⟨_,⟨_,ai,U⟩,B⟩,S⟩:=J;have al:∀ a,A.ownBlock=some a->a≠b:=fun a e=>S a (by simp[e]) b (by simp[I])
 have am:∀ a,y.ownBlock=some a->a≠b:=fun a e=>B a (by simp[e]) b (by simp[I])
 have an:∀ s a,s∈z->s.ownBlock=some a->a≠b:=fun s a aj e=>U a (eL.2 ⟨s,aj,e⟩) b I
 have ak:(Iw w b d g).heap.size=w.heap.size:=by simp[Iw,World.setCell]
 have E:Below u w (Iw w b d g):=⟨rfl,rfl,rfl,by omega,fun x ap=>D3 w b d g x kX⟩;refine⟨⟨?_,?_,f.wait.B9 E (fun a e=>D3 w b d g a (al a e)),?_,f.FV,fun h s l j k=>?_,fun h k a j e=>?_,?_,f.nd,f.nb,fun k X=>by rw[ak];exact f.ge k X,f.A9.trans (E.mono f.Vs),f.Vs⟩,E⟩;have:=f.Ap;unfold Ac at*;rw[D3 w b d g r ah];exact this;exact An f.out fun a e=>D3 w b d g a (fun B=>f.nb a e (B▸O))
 exact An f.Au fun a e=>D3 w b d g a (am a e)
 exact An (f.sum h s l j k) fun a e=>D3 w b d g a (an s a (bH j) e)
 have ad:(Ef st i d g).AS[h]? = if i=h then(st.AS[h]?).map (fun p x=>if x=d then some g else p x)else st.AS[h]? := by
  unfold Ef;simp only[dW];split<;>simp
 rw[ad]at e;by_cases F:i=h;subst F;rw[aF rfl,M]at e;rw[o]at j
 cases j
 cases e
 have Z:=f.AS i b p o M;have:=((Z.set (d*3) (I0 (g.pl:Nat))).set (d*3+1) (I0 (g.w:Nat))).set (d*3+2) (.func (.func (BR g.low)) #[] #[]);rw[Ym p d aa g]at this;exact this;rw[aC F]at e;have Y:k≠b:=fun V=>F (by
  subst V;obtain⟨ab,ac⟩:=bI.1 o;obtain⟨ae,af⟩:=bI.1 j;exact Zv ai ab ae (ac.trans af.symm))
 have:=f.AS h k a j e;unfold Ac at*;rw[D3 w b d g k Y];exact this;rw[f.DC];simp[Ef]
theorem Ka(c)(k)(w)(g)(U y v)(x)(o)(st)(h:BO c k w g U y v x o st)(aa:st.out.length<=1000000000)(e a d m i:Nat)(p:Nat->aM Ho)(f:Bool)(u:Pt)(K:Am w e u)(af:e<k)(Z:u.dp=(d:Int))(F:d<8)(ah:u.wd=(m:Int))(au:1<=m)(ab:m<=4)(r:o[i]? = some a)(E:st.AS[i]? = some p):
 Calls prog 191 #[P0 g,P0 e,P0 a,.func (.func (BR f)) #[] #[]] w fun b w'=>C5 c k w g o (B5 (Ef st i d ⟨st.out.length,m,f⟩) (List.replicate m 0)) b w':=by
 have a2:w.cell? (A0 e 3)=some (I0 (d:Nat)):=by rw[<- Z];exact K.cell 3
 have ai:w.cell? (A0 e 2)=some (I0 (m:Nat)):=by rw[<- ah];exact K.cell 2
 obtain⟨q,V,rfl⟩:=B3 h.out;have aj:q_ w g 46 (.slice q st.out.length V):=h.Ap.cell 46;have j:=h.AS i a p r E;obtain⟨A,B,b⟩:=PK p d F;rw[dB]at A B b;have ay:=(j.cell (d*3)).trans A;have az:=(j.cell (d*3+1)).trans B;have a0:=(j.cell (d*3+2)).trans b;have an:=j.frozen (d*3);have ao:=j.frozen (d*3+1);have ap:=j.frozen (d*3+2);have aq:(d:Int)<8:=kX;have ad:a∈g::E6 y v x o:=aH _ (Dy r);have ar:=h.ge a ad;have ae:¬ a=g:=fun b=>by have:=h.nd;rw[bZ]at this;exact this.1 (b▸Dy r)
 have av:¬ g=a:=fun b=>ae b.symm
 have aw:¬ a=e:=kX;have ax:¬ e=a:=kX;have M:=Aa h;generalize hoF (p d)=al at*;go_enter func191,ntmps191;go_wp2_with fail;go_region
 have X:((w.setCell (A0 a (d*3)) (I0 st.out.length)).setCell (A0 a (d*3+1)) (I0 m)).setCell (A0 a (d*3+2)) (.func (.func (BR f)) #[] #[])=Iw w a d ⟨st.out.length,m,f⟩:=rfl;rw[X];have J:=M.o.Adv ⟨st.out.length,m,f⟩ r E F;have I:Below k (Iw w a d ⟨st.out.length,m,f⟩) (Iw w a d ⟨st.out.length,m,f⟩).drew:=⟨rfl,rfl,rfl,aB _,fun _ _=>rfl⟩;have S:=Aa (J.1.B9 I (fun _ _ _=>rfl));have z:=Aa (J.2.trans I);generalize(Iw w a d ⟨st.out.length,m,f⟩).drew=W at*;have a1:W.cell? (A0 e 2)=some (I0 (m:Nat)):=by rw[aL (w:=w) (z.o.block e af)];exact ai
 go_wp2_with fail;refine(IB c k W g _ y v x o _ S.o m kX ab aa).mono ?_;rintro b w2⟨am,ak,rfl,ac,Y⟩;have O:=Aa ac;have L:=Aa (z.o.trans Y);go_wp2;go_end0;exact⟨rfl,L.o,_,_,_,_,[],by rw[dI];exact O.o⟩
theorem Ky(c)(a)(w)(h)(k u p)(r)(b)(st)(v:BO c a w h k u p r b st)(B:st.out.length<=1000000000)(g j d m i:Nat)(L:aI)(o:Nat->aM Ho)(f:Pt)(J:Am w g f)(I:g<a)(A:f.dp=(d:Int))(z:d<8)(K:f.wd=(m:Int))(F:1<=m)(E:m<=4)(x:b[i]? = some j)(y:st.AS[i]? = some o):
 Calls prog 142 #[P0 h,P0 g,L,P0 j] w fun e w'=>C5 c a w h b (B5 (Ef st i d ⟨st.out.length,m,false⟩) (List.replicate m 0)) e w':=by
 have ai:=Aa (Ka c a w h k u p r b st v B g j d m i o false f J I A z K F E x y);go_enter func142,ntmps142;exact nf
theorem Ih(c)(a)(w)(h)(k u p)(r)(b)(st)(v:BO c a w h k u p r b st)(B:st.out.length<=1000000000)(g j d m i:Nat)(L:aI)(o:Nat->aM Ho)(f:Pt)(J:Am w g f)(I:g<a)(A:f.dp=(d:Int))(z:d<8)(K:f.wd=(m:Int))(F:1<=m)(E:m<=4)(x:b[i]? = some j)(y:st.AS[i]? = some o):
 Calls prog 144 #[P0 h,P0 g,L,P0 j] w fun e w'=>C5 c a w h b (B5 (Ef st i d ⟨st.out.length,m,true⟩) (List.replicate m 0)) e w':=by
 have ai:=Aa (Ka c a w h k u p r b st v B g j d m i o true f J I A z K F E x y);go_enter func144,ntmps144;exact nf
abbrev lz(h:PLift q->p:=by
 intro aa;obtain⟨q,ab,af⟩:=B3 h.out;have aj:w.cell? (A0 f 46)=some (.slice q st.out.length ab):=by rw[<- af];exact h.Ap.cell 46
 have ak:w.cell? (A0 b 8)=some (S0 g 1 aq):=by rw[<- a5];exact ah.cell 8
 have ai:w.cell? (A0 b 3)=some (I0 (d:Nat)):=by rw[<- ac];exact ah.cell 3
 have bm:(d:Int)<8:=kX;have al:=Aa h;have ad:=Aa ae;revert q ab af aj ak ai bm al ad;exact aa.1):p:=h ⟨z⟩
def Af6(hid:aM Nat)(e:aI)(b:aD Nat):Prop:=match hid with
 | none=>True
 | some i=>∃ a,e=P0 a/\b[i]? = some a
def H0(c:Cx)(a e:Nat)(v:aE)(j:Nat)(u f:aI)(hid:aM Nat)(st k:Wr):Prop:=∀ w g r o p b,Below a v w->BO c a w e g r o p b st->Af6 hid f b->
 Calls prog 159 #[P0 e,P0 j,u,f] w fun h w'=>C5 c a w e b k h w'
theorem NM{e:Type}{l m:aD e}{i:Nat}{b:e}(a:l[i]? = some b):(l++m)[i]? = some b:=by
 rw[aW (bI.1 a).1];exact a
theorem J5(c)(e)(w)(f)(x K I)(J)(j)(st a)(h:BO c e w f x K I J j st)(ap:a.out.length<=1000000000)(a1:st.out.length<=a.out.length)(b g aq F k d i:Nat)(p:Ho)(y:Nat->aM Ho)(L:aI)(v:Pt)(ah:Am w b v)(av:b<e)(_hgB:g<e)(ac:v.dp=(d:Int))(ao:d<8)(a5:v.v=S0 g 1 aq)(a2:w.cell? (A0 g 0)=some (P0 F))(ae:H0 c e f w F L (P0 k) (some i) st a)(z:j[i]? = some k)(Y:a.AS[i]? = some y)(Z:y d=some p)(au:Jx p a.out.length):
 Calls prog 152 #[P0 f,P0 b,L,P0 k] w fun r w'=>C5 c e w f j (Ba a p (a.out.length-st.out.length)) r w':=by
 refine lz ?_;intro q ab af aj ak ai bm al ad;go_enter func152,ntmps152;go_wp2_with fail;refine(ad.o w x K I J j (aO _ _) al.o ⟨k,rfl,z⟩).mono ?_;rintro r w2⟨rfl,A,V,az,ax,ay,E,o⟩;have S:=Aa o;have M:=Aa A;have u:=o.hole (NM (m:=E) z) Y Z ao;have a4:=u.c0;have a6:=u.c1;have a7:=u.c2;obtain⟨aw,X,an⟩:=B3 o.out;have a0:w2.cell? (A0 f 46)=some (.slice aw a.out.length X):=by rw[<- an];exact o.Ap.cell 46
 have a8:w2.cell? (A0 b 3)=some (I0 (d:Nat)):=by rw[aL (w:=w) (A.block b av)];exact ai
 have a3:IntKind.i64.wrap ((a.out.length:Int)-(st.out.length:Int))=((a.out.length-st.out.length:Nat):Int):=lI;go_wp2_with fail;refine AX 16 _ rfl rfl kZ kZ ?_;refine gq ?_;have B:Below e w2 (w2.drewN 1):=⟨rfl,rfl,rfl,aB _,fun _ _=>rfl⟩;refine(Jn c e (w2.drewN 1) f V az ax ay (j++E) a (S.o.B9 B (fun _ _ _=>rfl)) p au (a.out.length-st.out.length) kX ap).mono ?_;rintro r a9⟨rfl,ar,am⟩;have U:=Aa ar;have O:=Aa (M.o.trans (B.trans am));simp only;refine bL ?_;go_wp2;go_end0;exact⟨rfl,O.o,_,_,_,_,_,U.o⟩
theorem RA(b a g h e f):(KE b a g h e).setIfInBounds 48 f=KE b a g f e:=rfl
theorem BO.X5{c}{o}{w w1}{k}{p K j g}{h}{f}{st}{y}(e:BO c o w k p K g h f st)(A:Below o w w1)(B:Ac w1 k (KE c.gb p st.wide j g) 120)(J:GP c o w1 j f y)(I:(k::E6 j g h f).Nodup)(F:∀ b,p.ownBlock=some b->b ∉ k::E6 j g h f)(E:∀ a∈k::E6 j g h f,o<=a/\a<w1.heap.size)(v:∀ a,p.ownBlock=some a\/a∈g.ownBlock.toList++(h.filterMap Value.ownBlock++f)->w1.heap[a]? = w.heap[a]?):
 BO c o w1 k p j g h f {st with wait:=y}:=
 ⟨B,An e.out fun b r=>v b (Or.inl r),J,An e.Au fun b r=>v b (Or.inr (by simp[r])),e.FV,
  fun i s l u x=>An (e.sum i s l u x) fun b r=>v b (Or.inr (by
   have:b∈h.filterMap Value.ownBlock:=eL.2 ⟨s,bH u,r⟩;simp only[aV];exact Or.inr (Or.inl this))),
  fun i a z u x=>by
   have:=e.AS i a z u x;unfold Ac at*;rw[v a (Or.inr (by have:=bH u;simp[this]))];exact this,e.DC,I,F,E,e.A9.trans (A.mono e.Vs),e.Vs⟩
theorem GP.more{c}{v}{w w1}{I}{z}{l}{E}(x:Below v w w1)(aj:E.length=l.length*6)(ad:∀ a (al:a<l.length),∃ g h x u r j k o e p f,((E.drop (a*6)).take 6=[P0 g,P0 h,P0 x]++VG (some l[a].ho))/\z[l[a].hid]? = some x/\
   BM k c.w0 o e g u l[a].As/\e<=c.w0.heap.size/\BK c.R r j l[a].As/\l[a].As.length<=1000/\GS (Cb l[a].n) w p f h l[a].v/\f<=v)(b:Wt)(g h y)(u r j k o e p f)(ae:z[b.hid]? = some y)(X:BM k c.w0 o e g u b.As)(Y:e<=c.w0.heap.size)(Z:BK c.R r j b.As)(aa:b.As.length<=1000)(ab:GS (Cb b.n) w p f h b.v)(ac:f<=v)(ai:Cr w1 v 192 6 I (l.length+1) (E++([P0 g,P0 h,P0 y]++VG (some b.ho)))):
 GP c v w1 I z (l++[b]):=by
 refine⟨_,by rw[aR];exact ai,fun a af=>?_⟩;rw[aR,eI]at af;by_cases F:a<l.length;obtain⟨g,h,y,u,r,j,k,o,e,p,f,J,K,L,M,O,S,U,V⟩:=ad a F;have A:(l++[b])[a]=l[a]:=jV F;rw[A];refine⟨g,h,y,u,r,j,k,o,e,p,f,?_,K,L,M,O,S,Cb.mono (l[a].n+1) (x:=l[a].v) U (fun B _ ak=>x.block B kX) (aB _) (aB _),V⟩;rw[dL kX,jF (by rw[dQ];omega)];exact J;have ah:a=l.length:=kX;subst ah;have A:(l++[b])[l.length]=b:=kY;rw[A];refine⟨g,h,y,u,r,j,k,o,e,p,f,?_,ae,X,Y,Z,aa,Cb.mono (b.n+1) (x:=b.v) ab (fun B _ ak=>x.block B kX) (aB _) (aB _),ac⟩;rw[<- aj,jO];rfl
theorem Tt(f b e a):E6 f b e a=f.ownBlock.toList++(b.ownBlock.toList++(e.filterMap Value.ownBlock++a)):=rfl
theorem BO.Acn{c}{r}{w w1}{f g off cap}{z p k}{u}{j}{st}{e:Wt}(h:BO c r w f z p k u j st)(af:w.grownBy w1 p.ownBlock)(ae:∀ q,p.ownBlock=some q->r<=q)(A:p.ownBlock=some g\/w.heap.size<=g)(Y:g<w1.heap.size)(X:r<=g)(ah:∀ w2,Below r w w2->w2.heap[g]? = w1.heap[g]? -> GP c r w2 (.slice (some (A0 g off)) (st.wait.length+1) cap) j (st.wait++[e])):
 BO c r (w1.setCell (A0 f 48) (.slice (some (A0 g off)) (st.wait.length+1) cap)) f z (.slice (some (A0 g off)) (st.wait.length+1) cap) k u j (HR st e)/\Below r w (w1.setCell (A0 f 48) (.slice (some (A0 g off)) (st.wait.length+1) cap)):=by
 have aj:=h.ge f aG;have y:=h.nd;rw[bZ]at y;have O:∀ b,p.ownBlock=some b->b≠f:=fun b e v=>y.1 (v▸DA e)
 have L:g≠f:=by
  rcases A with e|e;exact O g e;omega
 have ad:(w1.setCell (A0 f 48) (.slice (some (A0 g off)) (st.wait.length+1) cap)).heap.size=w1.heap.size:=by simp[World.setCell]
 have B:Below r w (w1.setCell (A0 f 48) (.slice (some (A0 g off)) (st.wait.length+1) cap)):=by
  refine⟨af.os,af.tape,af.output,by have:=af.size;omega,fun S ak=>?_⟩;rw[aN _ _ _ _ lB];exact af.block S kX (fun e=>by have:=ae S e.symm;omega)
 have M:∀ b,b≠f->b<w.heap.size->some b≠p.ownBlock->(w1.setCell (A0 f 48) (.slice (some (A0 g off)) (st.wait.length+1) cap)).heap[b]? = w.heap[b]? := fun b ab ac ai=>by
  exact kP
 have V:Ac w1 f (KE c.gb z st.wide p k) 120:=by
  have:=h.Ap;unfold Ac at*;rw[af.block f aj.2 (fun e=>O f e.symm rfl)];exact this
 have J:=y.2;rw[Tt]at J;have K:=J;rw[bP]at K;obtain⟨_,aa,U⟩:=K;have I:∀ b,b∈k.ownBlock.toList++(u.filterMap Value.ownBlock++j)->some b≠p.ownBlock:=fun b a e=>U b (by simp[<- e]) b a rfl
 have x:∀ b,b∈k.ownBlock.toList++(u.filterMap Value.ownBlock++j)->b∈E6 p k u j:=fun b a=>by rw[Tt];exact cE _ a
 have E:E6 (.slice (some (A0 g off)) (st.wait.length+1) cap) k u j=g::(k.ownBlock.toList++(u.filterMap Value.ownBlock++j)):=rfl;have Z:g ∉ k.ownBlock.toList++(u.filterMap Value.ownBlock++j):=fun o=>by
  rcases A with e|e;exact I g o e.symm;have:=(h.ge g (aH _ (x g o))).2;omega
 refine⟨?_,B⟩;refine BO.X5 h B (by have:=V.set 48 (.slice (some (A0 g off)) (st.wait.length+1) cap);rw[RA]at this;exact this) (ah _ B (aN _ _ _ _ L)) ?_ (fun q e=>?_) (fun b a=>?_) (fun b a=>?_);rw[E,bZ,bZ];refine⟨fun o=>?_,Z,aa⟩;rcases bB.1 o with e|e;exact L e.symm;exact y.1 (x f e);rw[E];intro o;rcases bB.1 o with o|o;exact kU;rcases bB.1 o with o|o;subst o;rcases A with F|F;exact h.nb q e (aH _ (DA F));have:=(h.out.lt q e).2;omega;exact h.nb q e (aH _ (x q o));rw[ad];have al:=af.size;rw[E]at a;rcases bB.1 a with a|a;rw[a];omega;rcases bB.1 a with a|a;rw[a];exact⟨X,Y⟩;have:=h.ge b (aH _ (x b a));omega;rcases a with e|e;exact M b (fun v=>h.nb b e (v▸aG)) (h.out.lt b e).2 (fun v=>h.nb b e (aH _ (DA v.symm)));exact M b (fun v=>y.1 (v▸x b e)) (h.ge b (aH _ (x b e))).2 (I b e)
theorem To{T:Type}(W:aD It->aM Nat->T->Wr->Wr)(b a):∀ st,wMany W b a st=a.foldl (fun s e=>W b none e s) st:=by
 induction a with
 | nil=>intro st;rfl
 | cons e g f=>intro st;exact f _
def S7{T:Type}(a:T->Wr->Wr)(e:aD (Nat × T))(st:Wr)(b:Nat):Wr:=(e.take b).foldl (fun s q=>a q.2 s) st
theorem R2{T:Type}(e:T->Wr->Wr)(b:aD (Nat × T))(st a)(f:a<b.length):S7 e b st (a+1)=e b[a].2 (S7 e b st a):=by
 unfold S7;rw[bN f,dK];rfl
theorem HN{T:Type}(v:T->Wr->Wr)(c)(b)(w)(u)(g o h)(k)(x)(st)(O:BO c b w u g o h k x st)(y r B J A az n a0 U)(a3)(af ay)(aa)(a:aD (Nat × T))(Z:Am w y aa)(av:y<b)(aq:r<b)(Y:Q0 w A az n a3 af)(_hvb:A<b)(be:U<=b)(aw:aa.v=S0 r 1 B)(ax:w.cell? (A0 r 0)=some (P0 J))(I:BZ w a0 U af (a.map Prod.fst))(bf:a.length<=8000)(V:∀ f (ar:f<a.length),H0 c b u w J (P0 (a[f].1)) (.pointer none) none (S7 v a st f) (S7 v a st (f+1))):
 Calls prog 136 #[P0 u,P0 y,P0 A,ay] w fun M w'=>C5 c b w u x (S7 v a st a.length) M w':=by
 obtain⟨q,ao,rfl⟩:=I.form;have bj:w.cell? (A0 A 3)=some (.slice q a.length ao):=by have:=Y.Ap.cell 3;rw[cM]at this;exact this
 have a2:w.cell? (A0 y 8)=some (S0 r 1 B):=by rw[<- aw];exact Z.cell 8
 have al:=Aa O;have ai:=Aa V;have ak:=Aa I;clear O V I Z Y;go_enter func136,ntmps136;go_wp2;go_loopw [15] (fun K wr=>∃ f:Nat,K=I0 (f:Nat)/\f<=a.length/\Hid (Below b w wr)/\Hid (∃ g o h k e,BO c b wr u g o h k (x++e) (S7 v a st f))) (fun K _=>a.length-(intOf K).toNat)
 case atStart=>exact⟨0,rfl,by omega,aO _ _,(⟨g,o,h,k,[],by rw[dI];exact al.o⟩:∃ g o h k e,BO c b w u g o h k (x++e) (S7 v a st 0))⟩
 case round=>
  obtain⟨f,rfl,ar,j,F⟩:=hrel;by_cases ab:f<a.length
  . have au:(f:Int)<(a.length:Int):=by omega
    obtain⟨bi,a8,E,ba,bb,_,ah⟩:=ak.o.at lA;injection E with E a9 ap;subst E;have bd:wr.cell? (A0 bi f)=some (P0 (a[f].1)):=by
     exact mp
    have a7:wr.cell? (A0 y 8)=some (S0 r 1 B):=by rw[aL (w:=w) (j.out.block y av)];exact a2
    have bg:wr.cell? (A0 r 0)=some (P0 J):=by rw[aL (w:=w) (j.out.block r aq)];exact ax
    have aj:=Aa (ai.o f ab);clear ah ap;generalize a[f]=bh at*;obtain⟨L,ae,ac,ad,e,z⟩:=F.out;have am:=Aa z;clear z F;go_wp2_with fail;refine(aj.o wr L ae ac ad (x++e) j.out am.o trivial).mono ?_;rintro M w2⟨rfl,S,an,a6,a4,a5,a1,X⟩;have bc:=Aa (j.out.trans S);have p:=Aa (show∃ g o h k e,BO c b w2 u g o h k (x++e) (S7 v a st (f+1))from⟨an,a6,a4,a5,e++a1,by rw[<- bO];exact X⟩);clear X S;exact mo
  have au:¬ (f:Int)<(a.length:Int):=kX;obtain rfl:f=a.length:=kX;go_wp2;go_end0;obtain⟨L,ae,ac,ad,e,z⟩:=F.out;exact⟨rfl,j.out,_,_,_,_,_,z⟩
theorem JW(c)(g)(w)(a)(h z x)(y)(e)(st v)(L:BO c g w a h z x y e st)(f A n b j u o K B)(Y)(X)(r)(S:Am w f r)(p:Q0 w A 5 n Y (S0 o 1 K))(ae:n<2)(U:r.v=S0 b 2 j)(ah:w.cell? (A0 b n)=some (P0 u))(ai:w.cell? (A0 o 0)=some (P0 B))(O:H0 c g a w u (P0 B) (.pointer none) none st v):
 Calls prog 133 #[P0 a,P0 f,P0 A,X] w fun k w'=>C5 c g w a e v k w':=by
 have Z:=p.Ap.c1;have ab:=p.Ap.c3;have ad:w.cell? (A0 f 8)=some (S0 b 2 j):=by rw[<- U];exact S.cell 8
 have af:(n:Int)<2:=kX;have I:=Aa L;have F:=Aa O;go_enter func133,ntmps133;go_wp2_with fail;refine AX 17 _ rfl rfl kZ kZ ?_;refine gq ?_;refine k6 ?_;intro ac;refine(F.o (w.drewN 1) h z x y e ac (I.o.B9 ac (fun _ _ _=>rfl)) trivial).mono ?_;rintro k w2⟨rfl,M,V⟩;have J:=Aa V;have E:=Aa (ac.trans M);simp only;refine bL ?_;go_wp2;go_end0;exact⟨rfl,E.o,J.o⟩
theorem Lb{T:Type}(r:T->Wr->Wr)(c)(g)(w)(j)(y J F)(I)(k)(st)(S:BO c g w j y J F I k st)(a4:st.out.length<=1000000000)(o e M x p u n ae E A d i:Nat)(b:Ho)(O:Nat->aM Ho)(af:aA)(K:aI)(v:Pt)(a:aD (Nat × T))(ab:Am w o v)(Z:o<g)(U:e<g)(Y:Q0 w p u n af K)(ad:p<g)(a2:E<=g)(a1:v.dp=(d:Int))(a0:d<8)(a9:v.v=S0 e 1 M)(ba:w.cell? (A0 e 0)=some (P0 x))(X:BZ w ae E K (a.map Prod.fst))(a5:a.length<=8000)(ar:k[i]? = some A)(au:st.AS[i]? = some O)(av:O d=some b)(a8:Jx b st.out.length)(a3:∀ h (V:h<a.length),H0 c g j w x (P0 (a[h].1)) (.pointer none) none (S7 r a (Ba st b a.length) h) (S7 r a (Ba st b a.length) (h+1))):
 Calls prog 149 #[P0 j,P0 o,P0 p,P0 A] w fun z w'=>C5 c g w j k (S7 r a (Ba st b a.length) a.length) z w':=by
 obtain⟨q,aq,be⟩:=X.form;have bp:w.cell? (A0 p 3)=some (.slice q a.length aq):=by have:=Y.Ap.cell 3;rw[be,cM]at this;exact this
 have bo:w.cell? (A0 o 3)=some (I0 (d:Nat)):=by rw[<- a1];exact ab.cell 3
 have B:=S.hole ar au av a0;have bl:=B.c0;have bm:=B.c1;have bf:=B.c2;have bk:(d:Int)<8:=kX;have am:=Aa S;have ak:=Aa a3;have al:=Aa X;have an:=Aa ab;have L:=Aa Y;go_enter func149,ntmps149;go_wp2_with fail;refine AX 14 _ rfl rfl kZ kZ ?_;refine gq ?_;refine k6 ?_;intro ac;refine(Jn c g (w.drewN 1) j y J F I k st (am.o.B9 ac (fun _ _ _=>rfl)) b a8 a.length kX a4).mono ?_;rintro z w2⟨rfl,a6,aw⟩;have f:=ac.trans aw;have bb:w2.cell? (A0 e 0)=some (P0 x):=by rw[aL (w:=w) (f.block e U)];exact ba
 have aj:=Aa (HN r c g w2 j y J F I k (Ba st b a.length) a6 o e M x p u n ae E af K (P0 A) v a (Ac.below an.o f Z) Z U ⟨Ac.below L.o.Ap f ad,L.o.n⟩ ad a2 a9 bb (al.o.mono (fun u _ bf=>f.block u kX) (aB _) (aB _)) a5
  (fun h V bj ap bi bg bh az ax a7 bd=>ak.o h V bj ap bi bg bh az (f.trans ax) a7 bd))
 have ah:=Aa f;simp only;refine bL ?_;go_wp2_with fail;refine aj.o.mono ?_;rintro z bq⟨rfl,ay,bc⟩;have ao:=Aa bc;have ai:=Aa (ah.o.trans ay);go_wp2;go_end0;exact⟨rfl,ai.o,ao.o⟩
theorem L6(c)(ak:DO c)(g)(w)(b)(x K I)(J)(r)(st F)(h:BO c g w b x K I J r st)(e f:Nat)(L au:aI)(E:Pt)(ap:Am w e E)(ao:e<g)(ar:E.ru=(f:Int))(ai:c.R f=true)(an:∀ j ad ax A,BM ad c.w0 ax A j false (c.G f)->A<=c.w0.heap.size->H0 c g b w j L (.pointer none) none st F):
 Calls prog 139 #[P0 b,P0 e,L,au] w fun k w'=>C5 c g w b r F k w':=by
 have ah:∀ W,Below g w W->W.cell? (A0 e 6)=some (I0 (f:Nat)):=fun W a=>by rw[aL (w:=w) (a.block e ao),<- ar];exact ap.cell 6
 have Y:q_ w b 45 (P0 c.gb):=h.Ap.cell 45;have M:=Aa ah;have V:=Aa h;have S:=Aa an;have O:=Aa ak;go_enter func139,ntmps139;go_wp2_with fail;refine k6 ?_;intro ac;refine Cl (fun W=>Below g w W/\W.cell? (A0 b 45)=some (P0 c.gb)) [([0,1,2,3,4,5,6,7,8,9,11],10),([],12)] rfl kZ (fun _ _ d _ _ h=>by cases d<;>exact h) ⟨ac,Y⟩ ?_;refine kJ ?_;refine k5 ?_;refine Ab (P0 b) rfl (fun W a=>by go_simp) ?_;refine Ab (P0 b) rfl (fun W a=>by go_simp) ?_;refine Ab (.pointer (some (A0 b 45))) rfl (fun W a=>by go_simp) ?_;refine Ab (P0 c.gb) rfl (fun W a=>by obtain⟨h0,af⟩:=a;go_simp) ?_;refine Ab _ rfl (fun W a=>rfl) ?_;refine Ab (P0 e) rfl (fun W a=>by go_simp) ?_;refine Ab (.pointer (some (A0 e 6))) rfl (fun W a=>by go_simp) ?_;refine Ab (I0 (f:Nat)) rfl (fun W a=>by obtain⟨h0,af⟩:=a;have a1:=M.o W h0;go_simp) ?_;refine Ab _ rfl (fun W a=>rfl) ?_;refine Ag ⟨_,rfl,rfl,?_⟩;unfold Oper.wp;go_simp;have o:=V.o.B9 ac (fun _ _ _=>rfl);refine(HL c O.o (w.drewN 1) o.A9 f ai).mono ?_;rintro k w2⟨j,ae,ay,am,rfl,z,aq,al⟩;have a2:=o.ge b aG;have p:Below g (w.drewN 1) w2:=z.mono kX;have y:=o.B9 p (fun av _ aw=>z.block av aw);have U:=Aa (S.o j ae ay am aq al w2 x K I J r (ac.trans p) y trivial);have u:=Aa (ac.trans p);have Z:q_ w2 b 45 (P0 c.gb):=y.Ap.cell 45;refine⟨⟨u.o,Z⟩,?_⟩;refine Ag ⟨_,rfl,rfl,?_⟩;unfold Oper.wp;go_simp;refine U.o.mono ?_;rintro k az⟨rfl,aj,a0,a6,a4,a5,a3,B⟩;have v:=Aa (u.o.trans aj);have X:=Aa B;have ab:q_ az b 45 (P0 c.gb):=B.Ap.cell 45;refine⟨⟨v.o,ab⟩,?_⟩;go_wp2;go_end0;exact⟨rfl,v.o,_,_,_,_,_,X.o⟩
theorem BO.N1{c u w x A r o p h st}(b:BO c u w x A r o p h st):
 BO c u (w.alloc (.cells (OF fun _=>none) 270)) x A r o p (h++[w.heap.size]) {st with AS:=st.AS++[fun _=>none]}:=by
 have ak:=b.ge x aG;have V:Below u w (w.alloc (.cells (OF fun _=>none) 270)):=(aO u w).alloc kX _;have g:=b.B9 V (fun al _ f=>bC _ _ _ f);have z:E6 r o p (h++[w.heap.size])=E6 r o p h++[w.heap.size]:=by unfold E6;simp
 have Z:∀ e,e∈x::E6 r o p h->e<w.heap.size:=fun e a=>(b.ge e a).2
 have aa:(w.alloc (.cells (OF fun _=>none) 270)).heap.size=w.heap.size+1:=kY;refine⟨g.Ap,g.out,?_,g.Au,g.FV,g.sum,fun i e y j f=>?_,by simp[b.DC],?_,fun E B=>?_,fun e a=>?_,g.A9,g.Vs⟩;obtain⟨aj,J,K⟩:=g.wait;refine⟨aj,J,fun ab Y=>?_⟩;obtain⟨af,ai,a,ah,ae,S,y,ac,v,ad,X,L,M,O⟩:=K ab Y;exact⟨af,ai,a,ah,ae,S,y,ac,v,ad,X,L,NM M,O⟩;by_cases v:i<h.length;rw[aW v]at j;simp only at f;rw[aW (by rw[<- b.DC];exact v)]at f;exact g.AS i e y j f;rw[bG kX]at j;simp only at f;rw[bG (by rw[<- b.DC];omega)]at f;have F:i-h.length=0:=by
  have:=(bI.1 j).1;simp at this;omega
 rw[F]at j;rw[<- b.DC,F]at f
 cases j
 cases f
 exact Ac.new _ _ _;rw[z,<- cA,bP];refine⟨b.nd,by simp,fun I U e a=>?_⟩;simp at a;have:=Z I U;omega;rw[z,<- cA,aV];intro k;rcases k with k|k;exact b.nb E B k;simp at k;have:=(b.out.lt E B).2;omega;rw[z,<- cA,aV]at a;rw[aa];rcases a with a|a;have:=b.ge e a;omega;simp at a;omega
theorem JU{T:Type}(c)(e)(w)(y)(r x u)(v)(k)(st)(S:BO c e w y r x u v k st)(Y Z ci n cj B ck bb)(cn)(bp ch)(bo)(z:aD (Nat × T))(h:aD (Nat × aD It))(p:Nat->Wr)(b:Nat->Nat)(bk:Am w Y bo)(c1:Y<e)(bj:Q0 w Z ci n cn bp)(c4:Z<e)(cx:B<=e)(cy:bb<=e)(au:BZ w ck bb bo.v (h.map Prod.fst))(ar:BZ w cj B bp (z.map Prod.fst))(c0:z.length<=8000)(c2:h.length<=1000)(bm:∀ q,q∈h->q.1<e/\w.cell? (A0 q.1 7)=some (.bool (silV q.2)))(a8:p 0={st with AS:=st.AS++[fun _=>none]})(bc:b 0=0)(be:∀ i (B:i<h.length),b (i+1)=b i+(if silV h[i].2=true then 0 else 1))(bd:∀ i (B:i<h.length),silV h[i].2=false->b i<z.length)(bf:∀ i (B:i<h.length),silV h[i].2=true->H0 c e y w h[i].1 (.pointer none) (P0 w.heap.size) (some st.AS.length) (p i) (p (i+1)))(bg:∀ i (B:i<h.length) (cg:silV h[i].2=false),H0 c e y w h[i].1 (P0 ((z[b i]'(bd i B cg)).1)) (P0 w.heap.size) (some st.AS.length) (p i) (p (i+1))):
 Calls prog 130 #[P0 y,P0 Y,P0 Z,ch] w fun ap w'=>C5 c e w y k (p h.length) ap w':=by
 have c5:=S.ge y aG;obtain⟨q,b8,rfl⟩:=ar.form;obtain⟨cm,b9,bl⟩:=au.form;have j:Below e w (w.alloc (.cells (OF fun _=>none) 270)):=(aO e w).alloc kX _;have aq:=S.N1;rw[<- a8]at aq;have cr:∀ K,(w.alloc K).cell? (A0 Z 3)=some (.slice q z.length b8):=fun K=>by
  rw[aL (w:=w) (bC _ _ _ lB)];have:=bj.Ap.cell 3;rw[cM]at this;exact this
 have cs:∀ K,(w.alloc K).cell? (A0 Y 8)=some (.slice cm h.length b9):=fun K=>by
  rw[aL (w:=w) (bC _ _ _ lB)];have a7:=bk.c8;rw[bl,cM]at a7;exact a7
 have a6:Hid (BO c e (w.alloc (.cells X_19 270)) y r x u v (k++[w.heap.size]) (p 0)):=aq;have a4:Hid (Below e w (w.alloc (.cells X_19 270))):=j;have b1:=Aa (show(k++[w.heap.size])[st.AS.length]? = some w.heap.size by rw[<- S.DC];simp);have b0:=Aa ar;have b3:=Aa au;have b4:=Aa bm;have bx:=Aa bf;have bz:=Aa bg;have bv:=Aa be;have bq:=Aa bd;have a5:=Aa bc;clear S aq j ar au bm bf bg be bj bk a8 bc;go_enter func130,ntmps130;go_wp2_with fail;generalize w.alloc (.cells X_19 270)=cp at*;go_loopw [23,9] (fun a3 co wr=>∃ (i:Nat) (ad:aI),a3=I0 (i:Nat)/\ad=co/\i<=h.length/\Hid (b i<=z.length)/\Hid (Below e w wr)/\Hid (∃ r x u v f,BO c e wr y r x u v (k++f) (p i)/\(k++f)[st.AS.length]? = some w.heap.size)/\
  ((b i=z.length/\∃ b6 c,ad=.slice b6 0 c)\/(b i<z.length/\∃ g c,ad=.slice (some (A0 g (b i))) (z.length-b i) c/\z.length-b i<=c/\g<e/\Hid (∀ m,m<z.length->w.cell? (A0 g m)=some (P0 ((z.map Prod.fst).getD m 0)))))) (fun a3 _ _=>h.length-(intOf a3).toNat)
 case atStart=>
  refine⟨0,_,rfl,rfl,by omega,(by rw[a5.o];omega:b 0<=z.length),a4,(⟨r,x,u,v,[w.heap.size],a6.o,b1.o⟩:∃ r x u v f,BO c e cp y r x u v (k++f) (p 0)/\(k++f)[st.AS.length]? = some w.heap.size),?_⟩;rw[a5.o];rcases b0.o with⟨aw,al⟩|⟨g,c,aw,al,ca,af,aj⟩;exact mn;exact i6
 case round=>
  clear a6 a4;obtain⟨i,ad,rfl,rfl,B,cd,j,U,X⟩:=hrel;by_cases ac:i<h.length
  . have cc:(i:Int)<(h.length:Int):=by omega
    obtain⟨bi,ct,al,cu,cv,_,ah⟩:=b3.o.at lA;rw[bl]at al;injection al with al ca af;subst al;obtain⟨a,br⟩:=b4.o h[i] (aU ac);refine lu ?_;intro ai ab;have M:=Aa (bv.o i ac);obtain⟨an,a1,ax,az,f,I,bh⟩:=U.out;have O:=Aa I;have L:=Aa bh;clear ah br af I U bh
    cases A:silV h[i].2
    . rw[A]at ab;have am:=Aa (bz.o i ac A);have cz:=bq.o i ac A;have E:=Aa (show b (i+1)=b i+1 by rw[M.o,A];simp);have cq:=Aa A;rcases X with⟨V,_⟩|⟨V,g,b7,rfl,cb,ba,a9⟩;omega;have cw:wr.cell? (A0 g (b i))=some (P0 (z[b i].1)):=by
       rw[aL (w:=w) (j.out.block g ba),a9.out (b i) V];simp[V]
      obtain⟨m,o⟩:∃ m,z.length-b i=m+1:=⟨z.length-b i-1,by omega⟩;have b2:=Aa (show z.length-(b i+1)=m by omega);rw[o]at cb⊢;have c3:(0:Int)<(m:Int)+1:=kX;have bu:=Aa V;generalize z[b i]=c6 at*;clear o M A;generalize h[i]=cl at*;go_wp2_with fail;refine(am.o wr an a1 ax az (k++f) j.out O.o ⟨_,rfl,L.o⟩).mono ?_;rintro ap w2⟨rfl,F,ao,a2,ay,a0,av,J⟩;have ae:=Aa (j.out.trans F);have ak:=Aa (show∃ r x u v f,BO c e w2 y r x u v (k++f) (p (i+1))/\(k++f)[st.AS.length]? = some w.heap.size from⟨ao,a2,ay,a0,f++av,by rw[<- bO];exact J,by rw[<- bO];exact NM L.o⟩);clear J F;go_wp2_with fail;refine⟨⟨i+1,_,by go_num,rfl,by omega,(by rw[E.o];have:=bu.o;omega:b (i+1)<=z.length),ae,ak,?_⟩,by simp[intOf];omega⟩;have cf:=b2.o;rw[E.o];by_cases ce:m=0;left;exact⟨by omega,_,_,by rw[ce]⟩;right;refine⟨by omega,g,b7-1,?_,by omega,ba,a9⟩;rw[aC kX,cf]
    . rw[A]at ab;have am:=Aa (bx.o i ac A);have E:=Aa (show b (i+1)=b i by rw[M.o,A];simp);have b5:=Aa X;clear A M X;generalize h[i]=cl at*;go_wp2_with fail;refine(am.o wr an a1 ax az (k++f) j.out O.o ⟨_,rfl,L.o⟩).mono ?_;rintro ap w2⟨rfl,F,ao,a2,ay,a0,av,J⟩;have ae:=Aa (j.out.trans F);have ak:=Aa (show∃ r x u v f,BO c e w2 y r x u v (k++f) (p (i+1))/\(k++f)[st.AS.length]? = some w.heap.size from⟨ao,a2,ay,a0,f++av,by rw[<- bO];exact J,by rw[<- bO];exact NM L.o⟩);clear J F;go_wp2;go_roundw
      case rel=>exact⟨i+1,_,by go_num,rfl,by omega,(by rw[E.o];exact cd.out:b (i+1)<=z.length),ae,ak,by rw[E.o];exact b5.o⟩
      case measure=>simp[intOf];omega
  have cc:¬ (i:Int)<(h.length:Int):=kX;obtain rfl:i=h.length:=kX;obtain⟨an,a1,ax,az,f,I,_⟩:=U.out;have O:=Aa I;clear I U X;go_wp2;go_end0;exact⟨rfl,j.out,_,_,_,_,_,O.o⟩
theorem NO{a b c:aD Nat}{j}(k:(a++(b++c)).Nodup)(h:j ∉ a++(b++c)):(a++([j]++c)).Nodup:=by
 rw[bP,bP]at k;obtain⟨r,⟨_,u,_⟩,v⟩:=k;simp only[aV,not_or]at h;rw[bP,bP];refine⟨r,⟨by simp,u,fun o f p e g=>?_⟩,fun o f p e g=>?_⟩;simp at f;subst f;subst g;exact h.2.2 e;simp only[aV,dM]at e;rcases e with e|e;subst e;subst g;exact h.1 f;exact v o f p (by simp[e]) g
theorem ZW(b a g e h f):(KE b a g e h).setIfInBounds 49 f=KE b a g e f:=rfl
theorem BO.Zu{c}{g}{w w1}{o}{p f M k}{O b}{j}{st}{v}(e:BO c g w o p f M O j st)(y:Below g w w1)(B:Ac w1 o (KE c.gb p st.wide f k) 120)(J:w1.ownsRow g 197 1 k b.length b)(K:b.length=v.length)(L:∀ (i:Nat) (s:aI) (l:aD Sp),b[i]? = some s->v[i]? = some l->w1.ownsRow g 199 5 s l.length (l.flatMap S6))(I:(o::E6 f k b j).Nodup)(F:∀ h,p.ownBlock=some h->h ∉ o::E6 f k b j)(E:∀ a∈o::E6 f k b j,g<=a/\a<w1.heap.size)(u:∀ a,p.ownBlock=some a\/f.ownBlock=some a\/a∈j->w1.heap[a]? = w.heap[a]?):
 BO c g w1 o p f k b j {st with Au:=v}:=
 ⟨B,An e.out fun h r=>u h (Or.inl r),e.wait.B9 y (fun h r=>u h (Or.inr (Or.inl r))),J,K,L,fun i a z x A=>by
  have:=e.AS i a z x A;unfold Ac at*;rw[u a (Or.inr (Or.inr (bH x)))];exact this,e.DC,I,F,E,e.A9.trans (y.mono e.Vs),e.Vs⟩
theorem Tryz.Ad7:(prog.info? 197).map (fun i=>(i.zero,i.size,i.bytes))=some (some (.slice none 0 0),1,24):=kZ
theorem BO.Aew{c}{A}{w w1}{p}{F v r}{j}{x}{st}(h:BO c A w p F v r j x st)(k u)(af:w.grownBy w1 r.ownBlock)(O:w1.ownsRow A 197 1 (S0 k (j.length+1) u) (j.length+1) (j++[.slice none 0 0]))(I:r.ownBlock=some k\/w.heap.size<=k):
 BO c A (w1.setCell (A0 p 49) (S0 k (j.length+1) u)) p F v (S0 k (j.length+1) u) (j++[.slice none 0 0]) x {st with Au:=st.Au++[[]]}/\Below A w (w1.setCell (A0 p 49) (S0 k (j.length+1) u)):=by
 have al:=h.ge p aG;have y:=h.nd;rw[bZ]at y;have ah:=(O.lt k rfl).2;have ae:=(O.lt k rfl).1;have X:k≠p:=by
  rcases I with e|e;intro g;exact y.1 (g▸Dg e);omega
 have ak:∀ b,r.ownBlock=some b->b≠p:=fun b e g=>y.1 (g▸Dg e)
 have U:Below A w (w1.setCell (A0 p 49) (S0 k (j.length+1) u)):=by
  refine⟨af.os,af.tape,af.output,by have:=af.size;simp[World.setCell];omega,fun Z am=>?_⟩;rw[aN _ _ _ _ lB];exact af.block Z kX (fun e=>by have:=(h.ge Z (aH _ (Dg e.symm))).1;omega)
 have E:∀ b,b≠p->b<w.heap.size->some b≠r.ownBlock->(w1.setCell (A0 p 49) (S0 k (j.length+1) u)).heap[b]? = w.heap[b]? := fun b ab ac ai=>by
  exact kP
 have ad:Ac w1 p (KE c.gb F st.wide v r) 120:=by
  have:=h.Ap;unfold Ac at*;rw[af.block p al.2 (fun e=>ak p e.symm rfl)];exact this
 have K:=y.2;have L:=K;unfold E6 at L;rw[bP,bP,bP]at L;obtain⟨_,⟨_,⟨_,_,_⟩,g⟩,aa⟩:=L;have z:∀ b,b∈v.ownBlock.toList\/b∈j.filterMap Value.ownBlock\/b∈x->some b≠r.ownBlock:=fun b f e=>by
  rcases f with f|f|f;exact aa b f b (by simp[<- e]) rfl;exact g b (by simp[<- e]) b (by simp only[aV];exact Or.inl f) rfl;exact g b (by simp[<- e]) b (by simp only[aV];exact Or.inr f) rfl
 have Y:E6 v (S0 k (j.length+1) u) (j++[.slice none 0 0]) x=v.ownBlock.toList++([k]++(j.filterMap Value.ownBlock++x)):=by
  unfold E6;rw[gB];simp[Value.ownBlock]
 have J:∀ b,b∈E6 v (S0 k (j.length+1) u) (j++[.slice none 0 0]) x->b=k\/(b∈E6 v r j x/\some b≠r.ownBlock):=fun b f=>by
  rw[Y]at f;simp only[aV,dM]at f;have o:∀ b,b∈v.ownBlock.toList\/b∈j.filterMap Value.ownBlock\/b∈x->b∈E6 v r j x:=fun b f=>by
   unfold E6;simp only[aV];rcases f with f|f|f;exact Or.inl f;exact Or.inr (Or.inr (Or.inl f));exact Or.inr (Or.inr (Or.inr f))
  rcases f with f|f|f|f;exact Or.inr ⟨o b (Or.inl f),z b (Or.inl f)⟩;exact Or.inl f;exact Or.inr ⟨o b (Or.inr (Or.inl f)),z b (Or.inr (Or.inl f))⟩;exact Or.inr ⟨o b (Or.inr (Or.inr f)),z b (Or.inr (Or.inr f))⟩
 refine⟨?_,U⟩;refine BO.Zu h U (by have:=ad.set 49 (S0 k (j.length+1) u);rw[ZW]at this;exact this) (An (by rw[aR];exact O) fun q e=>?_) (by simp[h.FV]) (fun i s l a b=>?_) ?_ (fun q e=>?_) (fun b f=>?_) (fun b f=>?_);simp[Value.ownBlock]at e;subst e;exact aN _ _ _ _ X;by_cases B:i<j.length;rw[aW B]at a;rw[aW (by rw[<- h.FV];exact B)]at b;refine An (h.sum i s l a b) fun q e=>E q (fun g=>y.1 (g▸GK a e)) ((h.sum i s l a b).lt q e).2 (z q (Or.inr (Or.inl (eL.2 ⟨s,bH a,e⟩))))
 rw[bG kX]at a;rw[bG (by rw[<- h.FV];omega)]at b;have V:i-j.length=0:=by
  exact Di
 rw[V]at a;rw[<- h.FV,V]at b
 cases a
 cases b
 exact cC _ _ _ _;rw[bZ];refine⟨fun o=>?_,?_⟩;rcases J p o with e|e;exact X e.symm;exact y.1 e.1;rw[Y];rcases I with e|e;have:r.ownBlock.toList=[k]:=by simp[e]
 have M:=K;unfold E6 at M;rw[this]at M;exact M;refine NO (b:=r.ownBlock.toList) K (fun o=>?_);have:=(h.ge k (aH _ o)).2;omega;intro o;rcases bB.1 o with o|o;exact kU;rcases J q o with g|g;subst g;rcases I with S|S;exact h.nb q e (aH _ (Dg S));have:=(h.out.lt q e).2;omega;exact h.nb q e (aH _ g.1);have aj:(w1.setCell (A0 p 49) (S0 k (j.length+1) u)).heap.size=w1.heap.size:=by simp[World.setCell]
 rw[aj];have an:=af.size;rcases bB.1 f with f|f;rw[f];omega;rcases J b f with g|g;rw[g];exact⟨ae,ah⟩;have:=h.ge b (aH _ g.1);omega;rcases f with e|e|e;exact E b (fun g=>h.nb b e (g▸aG)) (h.out.lt b e).2 (fun g=>h.nb b e (aH _ (Dg g.symm)));exact E b (fun g=>y.1 (g▸DA e)) (h.ge b (aH _ (DA e))).2 (z b (Or.inl (by simp[e])));obtain⟨i,B⟩:=List.getElem?_of_mem e;exact E b (fun g=>y.1 (g▸Dy B)) (h.ge b (aH _ (Dy B))).2 (z b (Or.inr (Or.inr e)))
theorem G6(c g w b Y ap ao a j st K)(f:BO c g w b Y ap ao a j st)(ae:st.Au.length<=100000000)(J L p hid)(aj:Af6 hid p j)(ac:H0 c g b w J L p hid {st with Au:=st.Au++[[]]} K):
 Calls prog 77 #[P0 b,P0 J,L,p] w fun e w'=>C5 c g w b j K e w':=by
 obtain⟨an,ab,ak,al,am⟩:=cY Tryz.Ad7;have ax:=f.ge b aG;have aw:a.length<=100000000:=by rw[f.FV];exact ae
 obtain⟨q,h,k⟩:=B3 f.Au;have aq:w.cell? (A0 b 49)=some (.slice q a.length h):=by rw[<- k];exact f.Ap.cell 49
 have I:=f.Au;rw[k]at I;have E:=f.nd;rw[bZ]at E;have af:some b≠(Value.slice q a.length h).ownBlock:=fun e=>E.1 (Dg (by rw[k];exact e.symm))
 have u:=Aa f;have S:=Aa ac;have X:=Aa aj;have v:=Aa k;go_enter func77,ntmps77;go_wp2_with
  (at_builtin
   refine cS _ rfl _ _ _ rfl g 197 an _ 1 24 underlying118 ab ak al am rfl kX (.slice q a.length h) a.length a rfl (I.alloc _) (A0 w.heap.size 0) 1 1 [.slice none 0 0] rfl rfl (cD (cs:=#[.slice none 0 0]) (t:=197) (fr:=(0,0)) (cJ w _)) (by simp[Value.oneCell']) kX lD kX lA (w.heap.size+1) kY ?_;intro y x M ah o A av;have z:=Ac.grown (Ac.alloc u.o.Ap (.cells #[.slice none 0 0] 197)) o af;have ar:M.cell? (A0 b 49)=some (.slice q a.length h):=by rw[<- v.o];exact z.cell 49
   have au:=z.frozen 49)
 have B:Below g w (w.alloc (.cells #[.slice none 0 0] 197)):=(aO g w).alloc kX _;have ad:=u.o.B9 (w':=w.alloc (.cells #[.slice none 0 0] 197)) B (fun ay _ Z=>bC _ _ _ Z);rw[<- v.o]at o A;have F:=ad.Aew y x o ah (by
  rcases A with e|e;exact Or.inl e;exact Or.inr lA)
 have U:=Aa F.1;have r:=Aa (B.trans F.2);generalize M.setCell (A0 b 49) (S0 y (a.length+1) x)=W at*;refine(S.o W _ _ _ _ j r.o U.o X.o).mono ?_;rintro e az⟨rfl,aa,ai⟩;have V:=Aa ai;have O:=Aa (r.o.trans aa);go_wp2;go_end0;exact⟨rfl,O.o,V.o⟩
theorem ZM{w:aE}{h b n f i:Nat}{g:TypeId}{o:aD aI}(k:w.ownsRow h g 1 (S0 b n f) n o)(_hi:i<n)(e):(w.setCell (A0 b i) e).ownsRow h g 1 (S0 b n f) n (o.set i e):=by
 have x:=k.1;rcases k.2 with⟨a,_⟩|⟨J,F,j,a,r,v,z,y,A,E⟩
 cases a
 injection a with a I p;injection a with a;injection a with a _ _;subst a p;have u:Ac w b j g:=v;have B:=u.set i e;refine⟨by simpa using x,Or.inr ⟨b,f,j.setIfInBounds i e,rfl,r,B,z,y,by simpa using A,?_⟩⟩;rw[<- E,jQ,List.take_set]
theorem Rf{a b c d e:aD Nat}{f}(g:(a++(b++((c++d)++e))).Nodup)(k:f ∉ a++(b++((c++d)++e))):(a++(b++((c++[f])++e))).Nodup:=by
 have h:(((a++b)++c)++(d++e)).Nodup:=by simpa[bO]using g
 have j:=NO (a:=(a++b)++c) (b:=d) (c:=e) h (by simpa[bO]using k);simpa[bO]using j
theorem BO.Aef{c}{A}{w w1}{z j x}{aa u s}{g}{r}{st}(h:BO c A w z aa u (S0 j (g.length+1) x) (g++[s]) r st)(M)(l)(L:st.Au=st.Au.dropLast++[l])(k v)(af:w.grownBy w1 s.ownBlock)(am:w1.ownsRow A 199 5 (S0 k (l.length+1) v) (l.length+1) (l.flatMap S6++S6 M))(I:s.ownBlock=some k\/w.heap.size<=k):
 BO c A (w1.setCell (A0 j g.length) (S0 k (l.length+1) v)) z aa u (S0 j (g.length+1) x) (g++[S0 k (l.length+1) v]) r (Jr st M)/\Below A w (w1.setCell (A0 j g.length) (S0 k (l.length+1) v)):=by
 have E:=h.nd;rw[bZ]at E;have B:=E.2;have X:=B;unfold E6 at X;rw[bP,bP,bP,gB,bP]at X;obtain⟨_,⟨_,⟨⟨_,_,ar⟩,_,aq⟩,O⟩,ad⟩:=X;have K:∀ b,s.ownBlock=some b->b∈E6 u (S0 j (g.length+1) x) (g++[s]) r:=fun b e=>GK (i:=g.length) kY e
 have Y:j∈E6 u (S0 j (g.length+1) x) (g++[s]) r:=Dg rfl;have ay:=h.ge j (aH _ Y);have aw:=(am.lt k rfl);have ao:∀ b,s.ownBlock=some b->b≠j:=fun b e=>fun p=>O j (by simp[Value.ownBlock]) b (by simp only[aV,eL];exact Or.inl (Or.inr ⟨s,by simp,e⟩)) p.symm
 have ax:k≠j:=by
  rcases I with e|e;exact ao k e;omega
 have aj:Below A w (w1.setCell (A0 j g.length) (S0 k (l.length+1) v)):=by
  refine⟨af.os,af.tape,af.output,by have:=af.size;simp[World.setCell];omega,fun y a4=>?_⟩;rw[aN _ _ _ _ lB];exact af.block y kX (fun e=>by have:=(h.ge y (aH _ (K y e.symm))).1;omega)
 have F:∀ b,b≠j->b<w.heap.size->some b≠s.ownBlock->(w1.setCell (A0 j g.length) (S0 k (l.length+1) v)).heap[b]? = w.heap[b]? := fun b ab ac ai=>by
  exact kP
 have an:E6 u (S0 j (g.length+1) x) (g++[S0 k (l.length+1) v]) r=u.ownBlock.toList++([j]++((g.filterMap Value.ownBlock++[k])++r)):=by
  unfold E6;rw[gB];simp[Value.ownBlock]
 have J:E6 u (S0 j (g.length+1) x) (g++[s]) r=u.ownBlock.toList++([j]++((g.filterMap Value.ownBlock++s.ownBlock.toList)++r)):=by
  have av:[s].filterMap Value.ownBlock=s.ownBlock.toList:=by
   rw[aP]
   cases s.ownBlock<;>rfl
  unfold E6;rw[gB,av];rfl
 have V:∀ b,b∈E6 u (S0 j (g.length+1) x) (g++[S0 k (l.length+1) v]) r->b=k\/b∈E6 u (S0 j (g.length+1) x) (g++[s]) r:=fun b f=>by
  rw[an]at f;rw[J];simp only[aV,dM]at f⊢;rcases f with f|f|(f|f)|f;exact Or.inr (Or.inl f);exact Or.inr (Or.inr (Or.inl f));exact Or.inr (Or.inr (Or.inr (Or.inl (Or.inl f))));exact Or.inl f;exact Or.inr (Or.inr (Or.inr (Or.inr f)))
 have a1:Jr st M={st with Au:=st.Au.dropLast++[l++[M]]}:=by
  unfold Jr;rw[show st.Au.getLastD []=l by rw[L];simp]
 have ah:g.length=st.Au.dropLast.length:=by
  have:=h.FV;rw[L]at this;simp at this;rw[gK];have ac:=gI List.length L;simp at ac;omega
 refine⟨?_,aj⟩;rw[a1];have a2:=h.ge z aG;have a3:z≠j:=fun e=>E.1 (e▸Y)
 have ap:some z≠s.ownBlock:=fun e=>E.1 (K z e.symm)
 have a0:(w1.setCell (A0 j g.length) (S0 k (l.length+1) v)).heap.size=w1.heap.size:=by simp[World.setCell]
 have S:∀ b,b∈u.ownBlock.toList\/b∈g.filterMap Value.ownBlock\/b∈r->some b≠s.ownBlock/\b≠j:=fun b f=>by
  have Z:∀ q,s.ownBlock=some q->q∈[s].filterMap Value.ownBlock:=fun q e=>eL.2 ⟨s,by simp,e⟩
  rcases f with f|f|f;exact⟨fun e=>ad b f b (by simp only[aV];exact Or.inr (Or.inl (Or.inr (Z b e.symm)))) rfl,fun e=>ad b f j (by simp[Value.ownBlock]) e⟩;exact⟨fun e=>ar b f b (Z b e.symm) rfl,fun e=>O j (by simp[Value.ownBlock]) b (by simp only[aV];exact Or.inl (Or.inl f)) e.symm⟩;exact⟨fun e=>aq b (by simp only[aV];exact Or.inr (Z b e.symm)) b f rfl,fun e=>O j (by simp[Value.ownBlock]) b (by simp only[aV];exact Or.inr f) e.symm⟩
 have U:∀ b,b∈u.ownBlock.toList\/b∈g.filterMap Value.ownBlock\/b∈r->b<w.heap.size:=fun b f=>by
  have:b∈E6 u (S0 j (g.length+1) x) (g++[s]) r:=by
   rw[J];simp only[aV];rcases f with f|f|f;exact Or.inl f;exact Or.inr (Or.inr (Or.inl (Or.inl f)));exact Or.inr (Or.inr (Or.inr f))
  exact(h.ge b (aH _ this)).2
 refine BO.Zu h aj (by have:=h.Ap;unfold Ac at*;rw[F z a3 a2.2 ap];exact this) ?_ (by simp[ah]) (fun i q m a b=>?_) ?_ (fun q e=>?_) (fun b f=>?_) (fun b f=>?_);have ab:=An (w':=w1) h.Au fun q e=>by
  simp[Value.ownBlock]at e;subst e;exact af.block j ay.2 (fun e=>ao j e.symm rfl)
 rw[aR]at ab⊢;have ac:=ZM ab (i:=g.length) kY (S0 k (l.length+1) v);rw[List.set_append_right _ _ (aB _)]at ac;simpa using ac;by_cases ak:i<g.length;rw[aW ak]at a;rw[aW kX]at b;have au:st.Au[i]? = some m:=by rw[L,aW kX];exact b
 have az:=h.sum i q m (by rw[aW ak];exact a) au;exact An az fun y e=>by
  have o:=eL.2 ⟨q,bH a,e⟩;have:=S y (Or.inr (Or.inl o));exact F y this.2 (U y (Or.inr (Or.inl o))) this.1
 rw[bG kX]at a;rw[bG kX]at b;have al:i-g.length=0:=by
  exact Di
 rw[al]at a;rw[<- ah,al]at b
 cases a
 cases b
 rw[aR,eO];refine An (by simpa using am) fun y e=>?_
 simp[Value.ownBlock]at e;subst e;exact aN _ _ _ _ ax;rw[bZ];refine⟨fun o=>?_,?_⟩;rcases V z o with e|e;rcases I with p|p;exact ap (e▸p.symm);omega;exact E.1 e;rw[an];rw[J]at B;rcases I with e|e;rw[show s.ownBlock.toList=[k]by simp[e]]at B;exact B;refine Rf (d:=s.ownBlock.toList) B (fun o=>?_);rw[<- J]at o;have:=(h.ge k (aH _ o)).2;omega;intro o;rcases bB.1 o with o|o;exact kU;rcases V q o with p|p;subst p;rcases I with ae|ae;exact h.nb q e (aH _ (K q ae));have:=(h.out.lt q e).2;omega;exact h.nb q e (aH _ p);rw[a0];have a5:=af.size;rcases bB.1 f with f|f;rw[f];omega;rcases V b f with p|p;rw[p];exact aw;have:=h.ge b (aH _ p);omega;rcases f with e|e|e;exact F b (fun p=>h.nb b e (by rw[p];exact aH _ Y)) (h.out.lt b e).2 (fun p=>h.nb b e (aH _ (K b p.symm)));have:=S b (Or.inl (by simp[e]));exact F b this.2 (U b (Or.inl (by simp[e]))) this.1;have:=S b (Or.inr (Or.inr e));exact F b this.2 (U b (Or.inr (Or.inr e))) this.1
section
theorem IL(b l a n)(e:a.pl+a.w<=b.length):putAt (b++l) a n=putAt b a n++l:=by
 unfold putAt;rw[jF kX,dL e];simp
theorem MN(e a n)(b:a.w=0):putAt e a n=e:=by
 have:BP a.low a.w n=[]:=cG (by rw[BE,b]);unfold putAt;rw[this,b];simp
theorem WN(f a b n m)(r:a.pl+a.w<=b.pl)(u:b.pl+b.w<=f.length):putAt (putAt f a n) b m=putAt (putAt f b m) a n:=by
 have k:f=f.take (a.pl+a.w)++f.drop (a.pl+a.w):=(eH _ _).symm;have p:∀ (g e:aD UInt8),g.length=a.pl+a.w->putAt (putAt (g++e) a n) b m=putAt (putAt (g++e) b m) a n:=by
  intro g e h;have j:∀ (c e:aD UInt8),c.length=a.pl+a.w->putAt (c++e) b m=c++(e.take (b.pl-(a.pl+a.w))++BP b.low b.w m++e.drop (b.pl-(a.pl+a.w)+b.w)):=by
   intro c e o;unfold putAt;rw[List.take_append,List.drop_append,o,bV kX,kE kX,show b.pl+b.w-(a.pl+a.w)=b.pl-(a.pl+a.w)+b.w by omega];simp
  rw[IL _ _ _ _ kX,j _ _ (by rw[CF _ _ _ kX,h]),j _ _ h,IL _ _ _ _ kX]
 rw[k];exact p _ _ (by rw[cX];omega)
section
variable {h0:Ho} {m:Nat}
structure S9 (h0:Ho) (st:Wr) (hid:aM Nat):Prop where
 le:h0.pl+h0.w<=st.out.length
 AS:∀ i,hid=some i->i<st.AS.length/\∀ f d g,st.AS[i]? = some f->f d=some g->h0.pl+h0.w<=g.pl
theorem S9.hole{st hid}(f:S9 h0 st hid)(d):(holeOf st hid d).w=0\/h0.pl+h0.w<=(holeOf st hid d).pl:=by
 unfold holeOf
 cases hid with
 | none=>exact Or.inl rfl
 | some i=>
  simp only
  cases a:st.AS[i]? with
  | none=>left;simp[a,MB]
  | some b=>
   simp only[aZ,a,fP]
   cases g:b d with
   | none=>left;simp[MB]
   | some e=>right;exact(f.AS i rfl).2 b d e a g
theorem S9.none{st hid}(b:S9 h0 st hid):S9 h0 st none:=⟨b.le,fun i a=>by cases a⟩
theorem S9.up{N a st f hid}(b:S9 h0 st hid)(hu:HU N a st f)(o:st.AS.length<=N):S9 h0 f hid:=
 ⟨bQ b.le hu.ge,fun i g=>by
  obtain⟨j,k⟩:=b.AS i g;refine⟨bM j hu.DC,fun h d a e=>?_⟩;rw[hu.AS i kX]at e;exact k h d a e⟩
theorem GF{st}(a:h0.pl+h0.w<=st.out.length)(l):B5 (Ba st h0 m) l=Ba (B5 st l) h0 m:=by
 simp only[B5,Ba,L3,IL _ _ _ _ a]
theorem Se{st a}(n)(f:a.pl+a.w<=st.out.length)(b:a.w=0\/h0.pl+h0.w<=a.pl):Ba (Ba st h0 m) a n=Ba (Ba st a n) h0 m:=by
 have e:putAt (putAt st.out h0 m) a n=putAt (putAt st.out a n) h0 m:=by
  rcases b with b|b;rw[MN _ _ _ b,MN _ _ _ b];exact WN _ _ _ _ _ b f
 simp only[Ba,L3,e,Bool.or_assoc,Bool.or_comm (!CG m h0.w)]
theorem Ki{st}(a:h0.pl+h0.w<=st.out.length):(Ba st h0 m).out.length=st.out.length:=ID _ _ a
theorem Acq{st}(a:h0.pl+h0.w<=st.out.length)(b i):wSil b i (Ba st h0 m)=Ba (wSil b i st) h0 m:=by
 cases b with
 | nil=>rfl
 | cons e f=>
  unfold wSil;simp only;split;exact GF a _;rw[Ki a];exact GF (st:=Ef st i e.d.toNat ⟨st.out.length,e.w.toNat,decide (e.c=107)⟩) a _
def Com{T:Type}(h0:Ho)(m:Nat)(W:aD It->aM Nat->T->Wr->Wr):Prop:=∀ a hid b st,CR a->BX st->S9 h0 st hid->W a hid b (Ba st h0 m)=Ba (W a hid b st) h0 m
theorem S9.sil{st i}(g:S9 h0 st (some i))(y:BX st){e}(v:CR e)(x:silV e=true):S9 h0 (wSil e i st) (some i):=by
 have hu:=Hu (i:=i) y v x;refine⟨bQ g.le hu.ge,fun z p=>?_⟩
 cases p
 obtain⟨u,h⟩:=g.AS i rfl;refine⟨bM u hu.DC,fun k d f a b=>?_⟩
 cases e with
 | nil=>exact h k d f a b
 | cons B A=>
  unfold wSil at a;simp only at a;split at a;exact h k d f a b;simp only[B5,Ef,dW]at a
  cases j:st.AS[i]? with
  | none=>rw[j]at a;cases a
  | some r=>
   rw[j]at a;have o:=dH a;simp only[dU]at o;subst o;simp only at b;split at b
   cases b;exact g.le
   exact h r d f j b
theorem K5{T:Type}{s:T->Nat}{W:aD It->aM Nat->T->Wr->Wr}(g:Od s W)(h:Com h0 m W)(i):∀ a b st,(∀ k∈a,CR k)->BX st->S9 h0 st (some i)->
 wKids W i a b (Ba st h0 m)=Ba (wKids W i a b st) h0 m
 | [],b,st,_,_,_=>rfl
 | k::a,b,st,hk,hv,e=>by
  have f:=hk k aG;rw[MD,MD];split;rename_i o;rw[Acq e.le];exact K5 g h i a b _ (fun q j=>hk q (aH _ j)) (Hu (i:=i) hv f o).inv (e.sil hv f o)
  cases b with
  | nil=>rfl
  | cons p r=>
   simp only;rw[h k (some i) p st f hv e];have hu:=g k (some i) p st f hv;exact K5 g h i a r _ (fun q j=>hk q (aH _ j)) hu.inv (e.up hu (aB _))
theorem IH{T:Type}{s:T->Nat}{W:aD It->aM Nat->T->Wr->Wr}(e:Od s W)(f:Com h0 m W)(a)(b:CR a):∀ h st,BX st->h0.pl+h0.w<=st.out.length->
 wMany W a h (Ba st h0 m)=Ba (wMany W a h st) h0 m
 | [],st,_,_=>rfl
 | y::ys,st,hv,g=>by
  have hF:S9 h0 st none:=⟨g,fun i j=>by cases j⟩;rw[wMany,wMany,f a none y st b hv hF];have hu:=e a none y st b hv;exact IH e f a b ys _ hu.inv (bQ g hu.ge)
theorem RN{T:Type}{s:T->Nat}{W:aD It->aM Nat->T->Wr->Wr}(x:Od s W)(j:Com h0 m W)(f hid)(u:Nd T)(st)(y:CR f)(e:BX st)(a:S9 h0 st hid):
 GB W f hid u (Ba st h0 m)=Ba (GB W f hid u st) h0 m:=by
 unfold GB
 cases f with
 | nil=>rfl
 | cons k h=>
  simp only;have p:=B2 e hid k.d.toNat;have K:=a.hole k.d.toNat;have E:∀ n,Ba (Ba st h0 m) (holeOf (Ba st h0 m) hid k.d.toNat) n=Ba (Ba st (holeOf st hid k.d.toNat) n) h0 m:=fun n=>Se n p K
  have B:∀ f∈segs h.length h,CR f:=fun f J=>y.tail.sub (Ch _ _ _ J)
  split;exact GF a.le _;split;exact GF a.le _;split;exact GF a.le _;split;exact GF a.le _;split;rw[E,GF (by rw[ID _ _ p];exact a.le)];split;refine K5 x j _ _ _ {st with AS:=st.AS++[fun _=>none]} B ⟨fun r v d A b o=>?_,e.Au⟩ ⟨a.le,fun r I=>?_⟩;by_cases L:r<st.AS.length;rw[aW L]at b;exact e.hole r v d A b o
  . rw[bG kX]at b
    cases g:r-st.AS.length with
    | zero=>rw[g]at b;cases b;cases o
    | succ q=>rw[g]at b;simp at b
  cases I
  refine⟨by simp[Ba,L3],fun v d A b o=>?_⟩;have z:(st.AS++[fun _=>none])[st.AS.length]? = some v:=b;rw[bG (aB _),iO]at z
  cases z
  cases o
  split
  . unfold Rp
    cases u.kids with
    | nil=>rfl
    | cons F O=>
     simp only
     cases g:(segs h.length h)[u.n]? with
     | none=>
      rw[aZ,g];exact j _ none F st ⟨by simp,fun k M=>by cases M⟩ e a.none
     | some q=>
      rw[aZ,g];exact j _ none F st (B q (bH g)) e a.none
  split;exact IH x j h y.tail _ _ e a.le;split;rw[E];exact IH x j h y.tail _ _ (D8 (N:=0) e _ _ p).inv (by rw[ID _ _ p];exact a.le);rfl
theorem Ip{G}(b:∀ i,CR (G i)):∀ n h q,ruleEnd G n h=some q->CR q
 | 0,_,_,a=>by cases a
 | _+1,[],_,a=>by cases a
 | n+1,g::r,q,a=>by
  unfold ruleEnd at a;have e:=b g.r.toNat
  cases f:G g.r.toNat with
  | nil=>rw[f]at a;cases a
  | cons j l=>
   rw[f]at a e;simp only at a;split at a;exact Ip b n _ q a
   cases a;exact e
theorem UZ{n}{s:Tr n->Nat}{G}(h:∀ i,CR (G i)){W:aD It->aM Nat->Tr n->Wr->Wr}(e:Od s W)(j:Com h0 m W)(hid)(b:Nd (Tr n))(st)(f:BX st)(a:S9 h0 st hid):∀ o,CR o->wIn G W o hid b (Ba st h0 m)=Ba (wIn G W o hid b st) h0 m
 | [],_=>rfl
 | x::g,hk=>by
  have p:=UZ h e j hid b st f a g hk.tail;have hu:=Jz h e hid b st f g hk.tail;have k:=a.up hu (aB _);rw[wIn,wIn];split;rw[p,Ki a.le,Ki k.le];exact Se _ (B2 hu.inv hid x.d.toNat) (k.hole _);split;rw[p,Ki a.le,Ki k.le];rfl;split;rfl;split
  . cases r:ruleEnd G 8 (x::g)with
    | none=>rfl
    | some q=>exact RN e j q none b st (Ip h _ _ _ r) f a.none
  exact RN e j (x::g) hid b st hk f a
theorem MG{G}(a:∀ i,CR (G i)):∀ n,Com h0 m (BH G n)
 | 0=>fun _ _ _ _ _ _ _=>rfl
 | n+1=>fun g hid h st e f b=>UZ a (DL a n) (MG a n) hid h st f b g e
end
end
section
theorem CL(h:p:=by
 exact⟨fun e=>(by cases e),fun _=>Or.inl rfl⟩):p:=h
theorem mh(h:p:=by
 unfold holeOf
 cases hid with
 | none=>rfl
 | some i=>simp only[aZ,hu.AS i (ab i rfl)]):p:=h
def EA(b:aD (Ho × Nat))(a:aD UInt8):aD UInt8:=b.foldl (fun a t=>putAt a t.1 t.2) a
def NB(a:aD (Ho × Nat)):Bool:=a.any fun t=>!CG t.2 t.1.w
def InB(a:aD (Ho × Nat))(n:Nat):Prop:=∀ t∈a,t.1.pl+t.1.w<=n/\t.1.w<=4
theorem Hv(b:aD (Ho × Nat)):∀ a,InB b a.length->(EA b a).length=a.length:=by
 induction b with
 | nil=>intro a _;rfl
 | cons t b h=>
  intro a e;have f:(putAt a t.1 t.2).length=a.length:=CF _ _ _ (e t aG).1;show(EA b (putAt a t.1 t.2)).length=a.length;rw[h _ (fun q g=>by rw[f];exact e q (aH _ g)),f]
theorem VY(b:aD (Ho × Nat)):∀ a l,InB b a.length->EA b (a++l)=EA b a++l:=by
 induction b with
 | nil=>intro a l _;rfl
 | cons t b g=>
  intro a l e;have h0:=(e t aG).1;show EA b (putAt (a++l) t.1 t.2)=EA b (putAt a t.1 t.2)++l;rw[IL _ _ _ _ h0,g _ _ (fun q f=>by rw[CF _ _ _ h0];exact e q (aH _ f))]
def Acg(a:Wt × Nat):We:=⟨a.1.As,a.1.n,a.2,a.1.hid,a.1.ho⟩
def WtV(s:aA)(a:Wt × Nat):Prop:=Al s a.2/\a.2<=s.size/\∃ b,A4 s (a.1.n+1) a.2=(some (a.1.v:Tr (a.1.n+1)),b)/\Sep s b/\Al s b
theorem MK{st}(e:BX st)(hid d):(holeOf st hid d).w<=4:=by
 unfold holeOf
 cases hid with
 | none=>simp[MB]
 | some i=>
  simp only
  cases a:st.AS[i]? with
  | none=>simp[a,MB]
  | some b=>
   simp only[aZ,a,fP]
   cases f:b d with
   | none=>simp[MB]
   | some g=>exact(e.hole i b d g a f).le
structure Rel (m:Mx) (dn:Nat) (pre:aD (aD Sp)) (D:Dp) (st:Wr):Prop where
 out:st.out=EA D.ts D.o
 UQ:InB D.ts D.o.length
 wide:st.wide=NB D.ts
 wait:∃ ps:aD (Wt × Nat),st.wait=ps.map Prod.fst/\D.es.drop dn=ps.map Acg/\∀ p∈ps,WtV m.s p
 dn:dn<=D.es.length
 Au:st.Au=pre++[D.cur]
 AS:st.AS=D.AS
section
variable {m:Mx} {dn:Nat} {pre:aD (aD Sp)} {D:Dp} {st:Wr}
theorem Rel.len(a:Rel m dn pre D st):D.o.length=st.out.length:=by rw[a.out,Hv _ _ a.UQ]
theorem Rel.app(a:Rel m dn pre D st)(l):Rel m dn pre (Ek D l) (B5 st l):=
 ⟨by show st.out++l=EA D.ts (D.o++l);rw[a.out,VY _ _ _ a.UQ],fun t b=>by have:=a.UQ t b;simp[Ek];exact⟨by omega,this.2⟩,a.wide,a.wait,a.dn,a.Au,a.AS⟩
theorem Rel.tell(a:Rel m dn pre D st)(b n)(f:b.pl+b.w<=st.out.length/\b.w<=4):Rel m dn pre (Dx D b n) (Ba st b n):=by
 have g:=a.len;refine⟨by show putAt st.out b n=_;rw[a.out];simp[EA,Dx],fun t e=>?_,by show(st.wide || !CG n b.w)=_;rw[a.wide];simp[NB,Dx],a.wait,a.dn,a.Au,a.AS⟩;rcases aV.1 e with e|e;exact a.UQ t e;simp at e;subst e;rw[<- g]at f;exact f
theorem Rel.sum(a:Rel m dn pre D st)(b):Rel m dn pre (Ui D b) (Jr st b):=
 ⟨a.out,a.UQ,a.wide,a.wait,a.dn,by simp[Jr,Ui,a.Au],a.AS⟩
theorem Rel.later(a:Rel m dn pre D st)(e:Wt × Nat)(j:WtV m.s e):Rel m dn pre (HB D (Acg e)) (HR st e.1):=by
 obtain⟨k,f,g,h⟩:=a.wait;refine⟨a.out,a.UQ,a.wide,⟨k++[e],by simp[HR,f],by simp[HB,dL a.dn,g],fun q b=>?_⟩,by have:=a.dn;simp[HB];omega,a.Au,a.AS⟩;rcases aV.1 b with b|b;exact h q b;simp at b;subst b;exact j
theorem Rel.new(a:Rel m dn pre D st):Rel m dn pre (Ou D) {st with AS:=st.AS++[fun _=>none]}:=⟨a.out,a.UQ,a.wide,a.wait,a.dn,a.Au,by simp[Ou,a.AS]⟩
theorem Rel.sil(a:Rel m dn pre D st)(b i):Rel m dn pre (IZ b i D) (wSil b i st):=by
 cases b with
 | nil=>exact a
 | cons e h=>
  unfold IZ wSil;simp only;split;exact a.app _;have g:Rel m dn pre {D with AS:=D.AS.modify i fun f b=>if b=e.d.toNat then some ⟨D.o.length,e.w.toNat,decide (e.c=107)⟩else f b} (Ef st i e.d.toNat ⟨st.out.length,e.w.toNat,decide (e.c=107)⟩):=⟨a.out,a.UQ,a.wide,a.wait,a.dn,a.Au,by simp only[Ef,a.AS,a.len]⟩;exact g.app _
theorem Rel.hole(a:Rel m dn pre D st)(hid d):dHole D hid d=holeOf st hid d:=by cases hid<;>simp only[dHole,holeOf,a.AS]
end
def WT(s:aA)(dn:Nat)(D:Dp):Prop:=∃ a∈D.es.drop dn,bt s a.t=41/\CR a.As
theorem WT.more{s dn D D'}(f:WT s dn D)(j:dn<=D.es.length)(a:∃ b,D'.es=D.es++b):WT s dn D':=by
 obtain⟨e,g,h⟩:=f;obtain⟨b,a⟩:=a;exact⟨e,by rw[a,dL j];exact bW _ g,h⟩
def OG(s:aA)(dn:Nat)(R:Pr):Prop:=R.ok=false\/WT s dn R.D
theorem UN{m}{W:aD It->aM Nat->Nat->Dp->Pr}(e hid t D)(h:bt m.s t=41):(KV m W e hid t D).ok=false:=by
 cases e with
 | nil=>rfl
 | cons k j=>
  unfold KV;have a:∀ c:Int,c≠41->¬ bt m.s t=c:=fun c f b=>f (b.symm.trans h)
  have g:¬ N4 m.s t:=fun b=>by unfold N4 at b;omega
  simp only[a 34 lC,a 40 lC,a 47 lC,a 91 lC,a 45 lC,g,iW,cT];repeat' split
  all_goals rfl
theorem YS{m G n dn}{W:aD It->aM Nat->Nat->Dp->Pr}:∀ e hid t D,CR e->bt m.s t=41->dn<=D.es.length->OG m.s dn (pIn m G n W e hid t D)
 | [],hid,t,D,hk,a,hd=>Or.inl rfl
 | x::f,hid,t,D,hk,a,hd=>by
  have b:=YS (G:=G) (n:=n) (W:=W) f hid t D hk.tail a hd;rw[pIn];split;exact b;split;exact b;split;refine Or.inr ⟨⟨f,n,t,hid.getD 0,dHole D hid x.d.toNat⟩,?_,a,hk.tail⟩;show _∈(D.es++[_]).drop dn;rw[dL hd];exact cE _ aG;split;split;exact Or.inl rfl;exact Or.inl (UN _ _ _ _ a);exact Or.inl (UN _ _ _ _ a)
theorem Adk{m G dn}:∀ n a hid t D,CR a->bt m.s t=41->dn<=D.es.length->OG m.s dn (pT m G n a hid t D)
 | 0,_,_,_,_,_,_,_=>Or.inl rfl
 | _+1,a,hid,t,D,hk,ht,hd=>YS a hid t D hk ht hd
theorem KX{s}(o:s.size<=8000):∀ {n a e:Nat} {k:Tr n},a<=s.size->A4 s n a=(some k,e)->bt s a≠93/\bt s a≠41/\bt s a≠32/\a<e/\e<=s.size
 | 0,_,_,_,_,f=>by cases f
 | n+1,a,e,k,ha,f=>by
  have g:=EB s (n+1) a ha;rw[f]at g;have h:a<e:=g.lt rfl;have j:e<=s.size:=g.le;rcases Mr (R:=A4 s n) ha o f with⟨_,b⟩|⟨_,b,_⟩|⟨_,b,_⟩|⟨_,b,_⟩|⟨_,b,_⟩|⟨_,b,_⟩;have:=b.Yy a (aB _) b.lt;exact⟨by omega,by omega,by omega,h,j⟩;all_goals exact⟨by omega,by omega,by omega,h,j⟩
structure UU (m:Mx) (dn:Nat) (pre:aD (aD Sp)) (has:Bool) (b:Nat) (st':Wr) (R:Pr):Prop where
 yes:has=true->R.ok=true/\R.p=b/\Rel m dn pre R.D st'
 no:has=false->OG m.s dn R
def ZU(st:Wr)(hid:aM Nat):Prop:=∀ i,hid=some i->i<st.AS.length
def SX(m:Mx)(dn:Nat)(pre:aD (aD Sp))(n:Nat)(H:aD It->Tr n->Bool)(W:aD It->aM Nat->Tr n->Wr->Wr)(P:aD It->aM Nat->Nat->Dp->Pr):Prop:=
 ∀ b hid t a e D st,CR b->t<=m.s.size->A4 m.s n t=(some e,a)->Sep m.s a->Al m.s a->Rel m dn pre D st->BX st->ZU st hid->UU m dn pre (H b e) a (W b hid e st) (P b hid t D)
def Lw{n:Nat}(s:aA)(b:Int)(sm:Bool)(e:aD (Tr n))(i a:Nat):Prop:=if sm=true then Js (A4 s n) s b e i a else LA (A4 s n) s b e i a
theorem Lw.nil{n s b sm i a}(e:Lw (n:=n) s b sm [] i a):bt s i=b/\a=i+1:=by cases sm<;>exact e
theorem Lw.cons{n s}(r:s.size<=8000){b}(z:b=41\/b=93){sm}{p:Tr n}{g i f}(h:Lw s b sm (p::g) i f)(u:i<=s.size)(y:Al s f):
 ∃ e a,e=(if sm=true then i+1 else i)/\(sm=true->bt s i=32)/\bt s i≠b/\e<=s.size/\A4 s n e=(some p,a)/\Sep s a/\Al s a/\a<=s.size/\Lw s b true g a f:=by
 have x:∀ e,e<=s.size->(∃ a,A4 s n e=(some p,a)/\Js (A4 s n) s b g a f)->∃ a,A4 s n e=(some p,a)/\Sep s a/\Al s a/\a<=s.size/\Lw s b true g a f:=by
  rintro e A⟨a,j,k⟩;have v:=(KX r A j).2.2.2.2;obtain⟨B,E⟩:=Qq (HE r n) (EB s n) b z y g a k v;exact⟨a,j,B,E,v,k⟩
 cases sm with
 | true=>
  obtain⟨j,k⟩:=h;have:=AT s i kX;obtain⟨a,o⟩:=x (i+1) kX k;exact⟨i+1,a,rfl,fun _=>j,by omega,by omega,o⟩
 | false=>
  obtain⟨a,o⟩:=x i u h;have:=KX r u o.1;exact⟨i,a,rfl,(by intro h;cases h),by omega,u,o⟩
section
variable {m:Mx} {dn n:Nat} {pre:aD (aD Sp)} {H:aD It->Tr n->Bool} {W:aD It->aM Nat->Tr n->Wr->Wr} {P:aD It->aM Nat->Nat->Dp->Pr}
theorem Nw(E:E5 m)(aa:Od (szT n) W)(J:WJ m dn P)(Z:SX m dn pre n H W P)(Y:∀ k hid t D,CR k->bt m.s t=41->dn<=D.es.length->OG m.s dn (P k hid t D))(a y)(K:Al m.s y):
 ∀ h f i sm D st,(∀ k∈h,CR k)->Lw m.s 41 sm f i y->Al m.s i->Rel m dn pre D st->BX st->a<st.AS.length->
 UU m dn pre (hasKids H h f) y (wKids W a h f st) (pKids m.s (fun k i D=>P k (some a) i D) a h i sm D)
 | [],f,i,sm,D,st,hk,hx,j,p,hv,B=>by
  rw[pKids]
  cases f with
  | nil=>obtain⟨g,z⟩:=hx.nil;exact⟨fun _=>⟨bF g,z.symm,p⟩,fun b=>by cases b⟩
  | cons x ad=>
   obtain⟨e,u,_,_,S,_⟩:=hx.cons E.s8 (Or.inl rfl) j.le K;exact⟨fun b=>(by cases b),fun _=>Or.inl (bJ S)⟩
 | k::h,f,i,sm,D,st,hk,hx,j,p,hv,B=>by
  have v:=hk k aG;have M:=fun q o=>hk q (aH _ o)
  have ac:=fun f i sm D st=>Nw E aa J Z Y a y K h f i sm D st M
  have O:∀ e,Al m.s e->OG m.s dn (P k (some a) e D)->OG m.s dn (Gu (P k (some a) e D) fun u D=>pKids m.s (fun k i D=>P k (some a) i D) a h u true D):=by
   intro e L r;unfold Gu;split;rename_i F;rcases r with r|r;rw[F]at r;cases r
   have g:=J k (some a) e D v L p.dn;have A:=g.dl p.dn;exact Or.inr (r.more A (QR h _ true _ (fun q o=>⟨M q o,fun i D j A=>J q (some a) i D (M q o) j A⟩) (g.ok F).1 A).es);rename_i F;exact Or.inl (by simpa using F)
  rw[IG,MD,pKids];split;rename_i ak;have hu:=Hu (i:=a) hv v ak;exact ac f i sm _ _ hx j (p.sil k a) hu.inv (bM B hu.DC)
  cases f with
  | nil=>
   obtain⟨g,z⟩:=hx.nil;refine⟨fun b=>(by cases b),fun _=>?_⟩;split;exact Or.inl rfl;rename_i aj;have al:sm=false:=by cases sm with|true=>exact absurd ⟨rfl,by omega⟩ aj|false=>rfl
   subst al;exact O i j (Y k _ i D v g p.dn)
  | cons x ad=>
   obtain⟨e,u,g,z,S,U,V,X,I,am,ai⟩:=hx.cons E.s8 (Or.inl rfl) j.le K;rw[aC (fun b=>b.2 (z b.1)),<- g];have L:=HE E.s8 n e x u U V X I;have ab:=Z k (some a) e u x D st v U V X I p hv (fun i b=>by cases b;exact B);simp only
   cases o:H k x with
   | false=>exact⟨fun b=>(by cases b),fun _=>O e L (ab.no o)⟩
   | true=>
    obtain⟨ae,af,ah⟩:=ab.yes o;have hu:=aa k (some a) x st v hv;unfold Gu;rw[aF ae,af,dR];exact ac ad u true _ _ ai I ah hu.inv (bM B hu.DC)
theorem M5(v:E5 m)(U:Od (szT n) W)(J:WJ m dn P)(S:SX m dn pre n H W P)(b)(j:CR b)(f:Nat->Dp->Dp)(O:∀ a D,(f a D).es=D.es/\D.o.length<=(f a D).o.length/\B4 m dn (f a D)<=B4 m dn D+1)(p)(V:Al m.s p):
 ∀ k g i a D st,Lw m.s 93 (decide (a≠0)) k i p->m.s.size+2<=g+i->Al m.s i->Rel m dn pre D st->BX st->
 (k.all (H b)=true->∃ D',pList m.s (P b none) f g i a D=⟨p,true,f (a+k.length) D'⟩/\Rel m dn pre D' (wMany W b k st))/\(k.all (H b)=false->OG m.s dn (pList m.s (P b none) f g i a D))
 | k,0,i,a,D,st,hx,hf,h,hr,hv=>by have:=h.le;omega
 | [],g+1,i,a,D,st,hx,hf,h,hr,hv=>by
  obtain⟨A,B⟩:=hx.nil;rw[pList,aF A];exact⟨fun _=>⟨D,by rw[B];rfl,hr⟩,fun e=>by cases e⟩
 | y::L,g+1,i,a,D,st,hx,hf,h,hr,hv=>by
  obtain⟨o,K,A,B,ad,E,F,M,I,ah,ae⟩:=hx.cons v.s8 (Or.inr rfl) h.le V;have e:(if a=0 then i else i+1)=o:=by rw[A];by_cases r:a=0<;>simp[r]
  rw[pList,aC ad,aC (fun r=>r.2 (B (bF r.1))),e];have af:=HE v.s8 n o y K E F M I;have ai:=(KX v.s8 E F).2.2.2.1;have aj:i<=o:=by rw[<- e];split<;>omega
  have X:=S b none o K y D st j E F M I hr hv (fun i e=>by cases e);have Y:=J b none o D j af hr.dn;rw[fF]
  cases Z:H b y with
  | false=>
   refine⟨fun e=>(by cases e),fun _=>?_⟩;unfold Gu;split;rename_i x;rcases X.no Z with z|z;rw[x]at z;cases z
   have u:=Y.dl hr.dn;exact Or.inr (z.more u (Qz (q:=2*b.length) (by have:=j.1;omega) (fun i D h u=>J b none i D j h u) O g _ (a+1) _ (Y.ok x).1 u).es);rename_i x;exact Or.inl (by simpa using x)
  | true=>
   obtain⟨aa,ab,ac⟩:=X.yes Z;have hu:=U b none y st j hv;unfold Gu;rw[aF aa,ab,dR,aX,show a+(L.length+1)=a+1+L.length by omega];exact M5 v U J S b j f O p V L g K (a+1) _ _ (by simpa using ae) kX I ac hu.inv
theorem Aad.kinds{T:Type}{R:Nat->aM T × Nat}{s a g}{e:Nd T}(h:Aad R s a e g):(e.k=0↔N4 s a)/\(e.k=1↔bt s a=45)/\(e.k=2↔bt s a=34)/\(e.k=3↔bt s a=40)/\(e.k=4↔bt s a=91)/\(e.k=5↔bt s a=47):=by
 unfold N4;rcases h with⟨f,b⟩|⟨f,b,_⟩|⟨f,b,_⟩|⟨f,b,_⟩|⟨f,b,_⟩|⟨f,b,_⟩;have:=b.Yy a (aB _) b.lt;omega;all_goals omega
theorem Wd(B:E5 m)(M:Od (szT n) W)(am:∀ h0 S,Com h0 S W)(ai:WJ m dn P)(U:SX m dn pre n H W P)(ao:∀ a hid t D,CR a->bt m.s t=41->dn<=D.es.length->OG m.s dn (P a hid t D))(an:∀ p,H [] p=false)(ap:∀ hid t D,(P [] hid t D).ok=false)(a)(hid)(t h)(g:Nd (Tr n))(D)(st)(ar:CR a)(aj:t<=m.s.size)(ah:El (A4 m.s n) m.s t=(some g,h))(V:Sep m.s h)(O:Al m.s h)(k:Rel m dn pre D st)(j:BX st)(ab:ZU st hid):
 UU m dn pre (Ds H a g) h (GB W a hid g st) (KV m P a hid t D):=by
 have x:=Mr aj B.s8 ah;have I:=HE B.s8 (n+1) t g h aj ah V O;obtain⟨Y,Z,aa,ac,ad,ae⟩:=x.kinds
 cases a with
 | nil=>exact⟨fun e=>(by cases e),fun _=>Or.inl rfl⟩
 | cons f L=>
  have J:=ar.tail;rw[MP];unfold GB KV;simp only;by_cases r:f.c=110\/f.c=108
  . rw[aF r,aF r];by_cases b:N4 m.s t
    . have h0:=Y.2 b;have v:RU m.s t g.n h:=by
       rcases x with⟨_,a⟩|⟨a,_⟩|⟨a,_⟩|⟨a,_⟩|⟨a,_⟩|⟨a,_⟩;exact a;all_goals omega
      obtain⟨d1,d2⟩:=(B.nm t I b).1.det ⟨v,V.Adl⟩;rw[d1,d2,bF h0,dR];unfold CG;by_cases o:g.n<256 ^ f.w.toNat;rw[aF (show N4 m.s t/\g.n<256 ^ f.w.toNat from⟨b,o⟩),bF o];refine⟨fun _=>⟨rfl,rfl,?_⟩,fun e=>by cases e⟩;rcases r with c|c;rw[aF c,bJ kX];exact k.app _;rw[aC kX,aF c,bF c];exact k.app _;rw[aC (show¬ (N4 m.s t/\g.n<256 ^ f.w.toNat)from fun e=>o e.2),bJ o];exact CL
    rw[aC (show¬ (N4 m.s t/\(m.nm t).1<256 ^ f.w.toNat)from fun e=>b e.1),bJ (fun e=>b (Y.1 e)),dX];exact CL
  rw[aC r,aC r,aC (show¬ f.c=110 from fun e=>r (Or.inl e)),aC (show¬ f.c=108 from fun e=>r (Or.inr e))];by_cases y:f.c=39
  . rw[aF y,aF y,aF y];refine⟨fun e=>?_,fun e=>Or.inl (bJ fun q=>gQ e (Z.2 q))⟩;have e:=dE e;refine⟨bF (Z.1 e),?_,k.app _⟩;rcases x with⟨a,_⟩|⟨_,_,a⟩|⟨a,_⟩|⟨a,_⟩|⟨a,_⟩|⟨a,_⟩;omega;exact a.symm;all_goals omega
  rw[aC y,aC y,aC y];by_cases u:f.c=114\/f.c=46
  . rw[aF u,aF (u.symm)];by_cases b:bt m.s t=34
    . have h0:=aa.2 b;have v:E0 m.s g.run (t+1) h:=by
       rcases x with⟨a,_⟩|⟨a,_⟩|⟨_,_,a⟩|⟨a,_⟩|⟨a,_⟩|⟨a,_⟩;omega;omega;exact a;all_goals omega
      obtain⟨d1,d2⟩:=(B.rn t I b).1.det v;rw[d1,d2,bF h0,aF b];refine⟨fun _=>⟨rfl,rfl,?_⟩,fun e=>by cases e⟩;rcases u with c|c;rw[aF c,aC kX,aF c,GF (B2 j hid _),k.hole];refine(k.app _).tell _ _ ⟨?_,MK j hid _⟩;have:=B2 j hid f.d.toNat;simp only[B5,aR];omega;rw[aF c,aC kX];exact k.app _
    rw[aC b,bJ (fun e=>b (aa.1 e))];exact CL
  rw[aC u,aC (show¬ (f.c=46\/f.c=114)from fun e=>u e.symm),aC (show¬ f.c=46 from fun e=>u (Or.inr e)),aC (show¬ f.c=114 from fun e=>u (Or.inl e))];by_cases z:f.c=40
  . rw[aF z,aF z,aF z];by_cases b:bt m.s t=40
    . have v:LA (A4 m.s n) m.s 41 g.kids (t+1) h:=by
       rcases x with⟨a,_⟩|⟨a,_⟩|⟨a,_⟩|⟨_,_,a⟩|⟨a,_⟩|⟨a,_⟩;omega;omega;omega;exact a;all_goals omega
      rw[aF b,bF (ac.2 b),dR,<- k.AS];refine Nw B M ai U ao st.AS.length h O _ _ (t+1) false _ _ (fun q K=>J.sub (Ch _ _ _ K)) v (I.one kX) k.new ⟨fun i af d au E h=>?_,j.Au⟩ kY;simp only at E⊢;rw[List.getElem?_append]at E;split at E;exact j.hole i af d au E h;have:af=fun _=>none:=by
       have:=bH E;simpa using this
      subst this
      cases h
    rw[aC b,bJ (fun e=>b (ac.1 e)),dX];exact CL
  rw[aC z,aC z,aC z];by_cases A:f.c=47;rw[aF A,aF A,aF A];by_cases b:bt m.s t=47
  . obtain⟨az,aw,a0,p,ax,ay⟩:g.n<=1/\bt m.s (t+1)=48+g.n/\bt m.s (t+2)=32/\∃ p,g.kids=[p]/\A4 m.s n (t+3)=(some p,h):=by
     rcases x with⟨a,_⟩|⟨a,_⟩|⟨a,_⟩|⟨a,_⟩|⟨a,_⟩|⟨_,_,a⟩;omega;omega;omega;omega;omega;exact a
    have o:=(I.cho b).2.2.le;rw[aF b,bF (ae.2 b),dR,aw,show(48+(g.n:Int)-48).toNat=g.n by omega,ax]
    cases K:(segs L.length L)[g.n]? with
    | none=>
     rw[aZ,K];refine⟨fun e=>?_,fun _=>Or.inl (ap _ _ _)⟩;rw[show Ly (H (Option.getD none [])) [p]=H [] p from rfl,an]at e
     cases e
    | some a=>
     rw[aZ,K];exact U a none (t+3) h p D st (J.sub (Ch _ _ _ (bH K))) o ay V O k j (fun i e=>by cases e)
  rw[aC b,bJ (fun e=>b (ae.1 e)),dX];exact CL;rw[aC A,aC A,aC A];by_cases F:f.c=42\/f.c=116;rw[aF F,aF F];by_cases b:bt m.s t=91;have v:LA (A4 m.s n) m.s 93 g.kids (t+1) h:=by
   rcases x with⟨a,_⟩|⟨a,_⟩|⟨a,_⟩|⟨a,_⟩|⟨_,_,a⟩|⟨a,_⟩;omega;omega;omega;omega;exact a;omega
  rw[aF b,bF (ad.2 b),dR];obtain⟨ak,al⟩:=M5 B M ai U L J (fun S D=>if f.c=116 then Dx D (dHole D hid f.d.toNat) S else D) (fun S D=>by
   split;exact⟨rfl,aB _,by rw[H5];omega⟩;exact⟨rfl,aB _,by omega⟩) h O g.kids (m.s.size+3) (t+1) 0 D st v kX (I.one kX) k j
  refine⟨fun e=>?_,al⟩;obtain⟨D',av,X⟩:=ak e;have hu:=J7 M L J st.AS.length g.kids st j (aB _);rw[av];refine⟨rfl,rfl,?_⟩;simp only;rcases F with c|c;rw[aF c,aC (show¬ f.c=116 by omega)];exact X;have aq:dHole D' hid f.d.toNat=holeOf st hid f.d.toNat:=by
   rw[X.hole];exact mh
  have o:=B2 j hid f.d.toNat;have:=hu.ge;rw[aC (show¬ f.c=42 by omega),aF c,aF c,IH M (am _ _) L J _ _ j o,aq,eC];exact X.tell _ _ ⟨by omega,MK j hid _⟩;rw[aC b,bJ (fun e=>b (ad.1 e)),dX];exact CL;rw[aC F,aC F];exact CL
theorem SL{G}(K:∀ i,CR (G i))(v:E5 m)(L:Od (szT n) W)(M:∀ h0 ae,Com h0 ae W)(S:WJ m dn P)(V:SX m dn pre n H W P)(U:∀ h hid t D,CR h->bt m.s t=41->dn<=D.es.length->OG m.s dn (P h hid t D))(O:∀ af,H [] af=false)(X:∀ hid t D,(P [] hid t D).ok=false)(t e)(b:Nd (Tr n))(D st)(z:t<=m.s.size)(u:El (A4 m.s n) m.s t=(some b,e))(y:Sep m.s e)(E:Al m.s e)(g:Rel m dn pre D st)(A:BX st):
 ∀ h hid,CR h->ZU st hid->UU m dn pre (hasDIn G H h b) e (wIn G W h hid b st) (pIn m G n P h hid t D)
 | [],hid,p,ab=>⟨fun a=>(by cases a),fun _=>Or.inl rfl⟩
 | x::B,hid,p,ab=>by
  have Y:Al m.s t:=HE v.s8 (n+1) t b e z u y E;have F:=SL K v L M S V U O X t e b D st z u y E g A B hid p.tail ab;have hu:=Jz K L hid b st A B p.tail;have Z:holeOf (wIn G W B hid b st) hid x.d.toNat=holeOf st hid x.d.toNat:=by
   exact mh
  have ai:=B2 A hid x.d.toNat;have ah:=hu.ge;have aa:=g.len;rw[hasDIn,wIn,pIn];by_cases f:x.c=119;rw[aF (Or.inl f),aF f,aF f];refine⟨fun a=>?_,fun a=>F.no a⟩;obtain⟨I,J,r⟩:=F.yes a;refine⟨I,J,?_⟩;simp only;rw[Z,g.hole,aa,r.len];exact r.tell _ _ ⟨by omega,MK A hid _⟩;by_cases j:x.c=115;rw[aF (Or.inr j),aC f,aC f,aF j,aF j];refine⟨fun a=>?_,fun a=>F.no a⟩;obtain⟨I,J,r⟩:=F.yes a;refine⟨I,J,?_⟩;simp only;rw[Z,g.hole,aa,r.len];exact r.sum _;rw[aC (fun a=>a.elim f j),aC f,aC f,aC j,aC j];by_cases k:x.c=64;rw[aF k,aF k,aF k];refine⟨fun _=>⟨rfl,(v.sk t Y).1.det (PG (n:=n+1) v.s8 z u y),?_⟩,fun a=>by cases a⟩;rw[g.hole];exact g.later (⟨B,n,b,hid.getD 0,holeOf st hid x.d.toNat⟩,t) ⟨Y,z,e,u,y,E⟩;rw[aC k,aC k,aC k];have ac:=fun q hid p ab=>Wd v L M S V U O X q hid t e b D st p z u y E g A ab
  by_cases o:x.c=82
  . rw[aF o,aF o,aF o]
    cases ad:ruleEnd G 8 (x::B)with
    | none=>exact⟨fun a=>(by cases a),fun _=>Or.inl rfl⟩
    | some q=>exact ac q none (EH K _ _ _ ad) (fun i a=>by cases a)
  rw[aC o,aC o,aC o];exact ac _ hid p ab
end
theorem Qp{m dn pre G}(a:∀ i,CR (G i))(e:E5 m):∀ n,SX m dn pre n (ZN G n) (BH G n) (pT m G n)
 | 0=>fun _ _ _ _ h=>h.elim
 | n+1=>fun g hid t j h D st b f k v o u x r=>SL a e (DL a n) (fun h0 y=>MG a n) (QM e a n) (Qp a e n) (fun g hid t D b f p=>Adk n g hid t D b f p) (fun z=>by cases n<;>rfl) (fun hid t D=>by cases n<;>rfl) t j h D st f k v o u x g hid b r
end
theorem Fe{j f:Type}(P:f->Prop)(e:f->j->f)(h:∀ b a,P b->P (e b a)):∀ (l:aD j) (b:f),P b->P (l.foldl e b)
 | [],_,g=>g
 | a::l,b,g=>Fe P e h l (e b a) (h b a g)
theorem Ga(st:Int × Bool)(d):(XD st d).2=true:=by
 unfold XD;by_cases a:st.2=true;by_cases b:d<st.1<;>simp[a,b]
 simp[a]
theorem P1(e)(st:Int × Bool)(b:st.2=true):(Sa e st).2=true:=by
 unfold Sa;refine Fe (fun f:Int × Bool=>f.2=true) _ (fun h g a=>?_) _ _ b;unfold endStep;split;split;exact a;exact Ga _ _;exact a
theorem TL(e b f)(q:Sc × (Int × Bool))(a:q.2.2=true):(Dj e b f q).2.2=true:=by
 unfold Dj G0 L5;split;split;exact a;exact Ga _ _;split;split;exact a;exact Ga _ _;exact a
theorem Hx:∀ f j e o q,q.2.2=true->(walkV f j e o q).2.2=true
 | 0,_,_,_,_,a=>a
 | _+1,_,_,[],_,a=>a
 | f+1,j,e,p::r,q,a=>by
  unfold walkV;split;exact P1 _ _ (Fe (fun k:Sc × (Int × Bool)=>k.2.2=true) _ (fun g b h=>Hx f _ _ b g h) _ _ a);exact Fe (fun k:Sc × (Int × Bool)=>k.2.2=true) _ (fun g b h=>Hx f _ _ b g h) _ _ (TL j e p q a)
def Eg(b:Nat)(f a:Bool)(e:aD (aD It))(q:Sc × (Int × Bool)):Sc × (Int × Bool):=e.foldl (fun g s=>walkV b f a s g) q
theorem JA(b e a f g)(q:Sc × (Int × Bool)):Eg b e a (f::g) q=Eg b e a g (walkV b e a f q):=rfl
theorem Tl(a k e j)(q:Sc × (Int × Bool))(g:q.2.2=true):(Eg a k e j q).2.2=true:=
 Fe (fun o:Sc × (Int × Bool)=>o.2.2=true) _ (fun f b h=>Hx a _ _ b f h) _ _ g
theorem FB{b f a ks}{q:Sc × (Int × Bool)}(e:(Eg b f a ks q).2.2=false):q.2.2=false:=by
 cases g:q.2.2 with
 | false=>rfl
 | true=>rw[Tl b f a ks q g]at e;exact e
theorem I2(b h f e a)(q:Sc × (Int × Bool))(g:e.c=40):
 walkV (b+1) h f (e::a) q=(q.1,Sa (Eg b true true (segs a.length a) (FN,q.2)).1 (Eg b true true (segs a.length a) (FN,q.2)).2):=by
 rw[walkV,aF g];rfl
theorem Fl(f g b a e)(q:Sc × (Int × Bool))(h:a.c≠40):
 walkV (f+1) g b (a::e) q=Eg f false (b&&AY [119,64,115] a.c) (segs e.length e) (Dj g b a q):=by
 rw[walkV,aC h];rfl
theorem O7{f b a}{q:Sc × (Int × Bool)}(e:Ae a.c=false):(Dj f b a q).1.hid=q.1.hid:=by
 unfold Dj L5;rw[aC (by simp[e])];split;split<;>rfl
 rfl
theorem KS:∀ f e b j q,(walkV f e b j q).2.2=false->(e=true->∀ a o,j=a::o->Ae a.c=false)->(walkV f e b j q).1.hid=q.1.hid
 | 0,_,_,_,_,_,_=>rfl
 | _+1,_,_,[],_,_,_=>rfl
 | f+1,e,b,a::o,q,h,hn=>by
  by_cases u:a.c=40;rw[I2 f e b a o q u];rw[Fl f e b a o q u]at h⊢;have x:∀ k g,(Eg f false (b&&AY [119,64,115] a.c) k g).2.2=false->(Eg f false (b&&AY [119,64,115] a.c) k g).1.hid=g.1.hid:=by
   intro k;induction k with
   | nil=>intro g _;rfl
   | cons j k y=>
    intro g r;rw[JA]at r⊢;rw[y _ r];exact KS f false _ j g (FB r) (fun v=>by cases v)
  rw[x _ _ h];have h0:=FB h
  cases p:Ae a.c with
  | false=>exact O7 p
  | true=>
   cases e with
   | true=>rw[hn rfl a o rfl]at p;cases p
   | false=>
    unfold Dj G0 at h0;rw[aF p]at h0;simp[Ga]at h0
theorem Pf{f e}:∀ b a,(Eg f false e b a).2.2=false->(Eg f false e b a).1.hid=a.1.hid
 | [],_,_=>rfl
 | k::b,a,g=>by
  rw[JA]at g⊢;rw[Pf b _ g];exact KS f false e k a (FB g) (fun h=>by cases h)
theorem T4{e b a h}{q:Sc × (Int × Bool)}(g:Ae a.c=true)(f:(walkV (e+1) true b (a::h) q).2.2=false):
 (walkV (e+1) true b (a::h) q).1.hid=fun j=>if j=a.d.toNat then some a.pl else q.1.hid j:=by
 have p:a.c≠40:=fun k=>by rw[k]at g;revert g;decide
 rw[Fl e true b a h q p]at f⊢;rw[Pf _ _ f];have h0:=FB f;unfold Dj G0 at h0⊢;rw[aF g]at h0⊢;split;rfl;rename_i o;rw[aC o]at h0;simp[Ga]at h0
theorem PX{h k g a o}{q:Sc × (Int × Bool)}(hu:AN a.c=true)(j:(walkV (h+1) k g (a::o) q).2.2=false):g=true/\q.1.hid a.d.toNat≠none:=by
 have f:Ae a.c=false:=by
  cases f:Ae a.c with
  | false=>rfl
  | true=>
   simp only[Ae,cH,dA]at f;rcases f with b|b<;>(rw[b]at hu;exact absurd hu lC)
 have p:a.c≠40:=fun b=>by rw[b]at hu;exact absurd hu lC
 rw[Fl h k g a o q p]at j;have h0:=FB j;unfold Dj L5 at h0;rw[aC (by simp[f]),aF hu]at h0;split at h0;rename_i e;simp only[aY,fZ,Option.isNone_eq_false_iff]at e;exact⟨e.1.1,fun b=>by rw[b]at e;exact absurd e.1.2 kY⟩;simp[Ga]at h0

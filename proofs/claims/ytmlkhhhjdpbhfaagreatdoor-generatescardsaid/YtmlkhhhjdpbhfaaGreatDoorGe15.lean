import Derived.Laws.CopyOwn
import Derived.Deep.CutBlock
import Derived.Test.YtmlkhhhjdpbhfaaGreatDoorGe14
namespace Go.Proofs.YtmlkhhhjdpbhfaaGreatDoor
open Go.RowKit Go.Proofs.Tryz
set_option maxHeartbeats 4000000
set_option maxRecDepth 100000
variable{p q:Prop}(z:q)
theorem iu(h:p:=by
 exact⟨fun h=>ao (by rw[<- p];exact h),fun h=>absurd (p.symm.trans h) ae,fun h=>aa (p.symm.trans h),fun h=>Vi _ (by rw[<- p];exact h)⟩):p:=h
theorem EN(h:p:=by
 simpa using al):p:=h
structure Ade (h:Hd):Prop where
 w:kW h.it.c=true->1<=h.it.w/\h.it.w<=4
 b:h.it.c=39->0<=h.it.b/\h.it.b<=255
 two:h.it.c=47->h.inn=2
 one:AY [42,116,119,64,115] h.it.c=true->h.inn=1
theorem Vi(c)(a:AY [42,116,119,64,115] c=true):Jg c=1:=by
 simp only[AY,cQ,dG,cN,cH,dA]at a;rcases a with a|a|a|a|a;rw[show c=42 by simp at a;omega];decide;rw[show c=116 by simp at a;omega];decide;rw[show c=119 by simp at a;omega];decide;rw[show c=64 by simp at a;omega];decide;rw[show c=115 by simp at a;omega];decide
theorem Ab9(s a)(h:(Ak s a).ok=true):Ade (Ak s a):=by
 unfold Ak at h⊢;split;exact⟨fun h=>absurd (show kW 82=true from h) lC,fun h=>absurd (show(82:Int)=39 from h) lC,fun h=>absurd (show(82:Int)=47 from h) lC,fun h=>absurd (show AY [42,116,119,64,115] 82=true from h) lC⟩;rename_i x;rw[aC x]at h;split;rename_i ae;rw[aF ae]at h;split;rename_i j;rw[aF j]at h;cases h
 rename_i j;rw[aC j]at h;split;rename_i o;rw[aF o]at h;cases h
 rename_i o;have y:=FY (bt s (a+1));have z:=FY (bt s (a+2));exact⟨fun h=>absurd (show kW 39=true from h) lC,fun _=>⟨by simp only;omega,by simp only;omega⟩,fun h=>absurd (show(39:Int)=47 from h) lC,fun h=>absurd (show AY [42,116,119,64,115] 39=true from h) lC⟩;rename_i ae;rw[aC ae]at h;split;rename_i g;rw[aF g]at h;have aa:bt s a=47->Jg (bt s a)=2:=fun r=>by rw[r];decide
 have k:∀ (i:Nat) (b:It),b.c=bt s a->(kW (bt s a)=true->1<=b.w/\b.w<=4)->(Br s (bt s a) i b).ok=true->Ade (Br s (bt s a) i b):=by
  intro i b p ao e;unfold Br at e⊢;split;rename_i u;rw[aF u]at e;split;exact iu;rename_i v;rw[aC v]at e;cases e
  exact iu
 split;rename_i ao;rw[aF ao]at h;split;rename_i f;rw[aF f]at h;exact k _ _ rfl (fun _=>⟨by simp only;omega,by simp only;omega⟩) h;rename_i f;rw[aC f]at h;cases h
 rename_i ao;rw[aC ao]at h;exact k _ _ rfl (fun h=>absurd h ao) h;rename_i g;rw[aC g]at h;cases h
def Vv:Nat->aD It->Prop
 | 0,_=>False
 | f+1,l=>∃ b a,l=b::List.flatten a/\b.nx=1+((List.flatten a).length:Int)/\(∀ e,e∈a->Vv f e)/\(b.c=47->a.length=2)/\(AY [42,116,119,64,115] b.c=true->a.length=1)/\Kc b
theorem Vv.XC{u l}(h:Vv u l):I4 l:=by
 exact nC
theorem Vv.segs{e}(a)(g:∀ b,b∈a->Vv e b):Proofs.YtmlkhhhjdpbhfaaGreatDoor.segs a.flatten.length a.flatten=a:=G7 a (fun b f=>(g b f).XC) _ (aB _)
theorem Wo(j:Nat->C3)(b)(o:∀ a,(j a).ok=true->Vv b (j a).As)(k):∀ a,(loopN j k a).ok=true->∃ z,(loopN j k a).As=List.flatten z/\(∀ u,u∈z->Vv b u)/\z.length=k:=by
 exact iv
theorem Xw(j:Nat->C3)(s b)(o:∀ a,(j a).ok=true->Vv b (j a).As)(k):∀ a,(Bp j s k a).ok=true->∃ z,(Bp j s k a).As=List.flatten z/\(∀ u,u∈z->Vv b u):=by
 exact iw
theorem Acr(s u a):∀ b,(AF s u a b).ok=true->Vv a (AF s u a b).As:=by
 induction a with
 | zero=>intro b h;cases h
 | succ a y=>
  intro b h;rw[AF]at h⊢;split;rename_i r;rw[aF r]at h;have p:=Ab9 s b r;have v:=(Nt s b r).1;have j:(inner (AF s u a) s a (Ak s b)).ok=true:=h;have B:∃ e,(inner (AF s u a) s a (Ak s b)).As=List.flatten e/\(∀ z,z∈e->Vv a z)/\((Ak s b).inn=1->e.length=1)/\((Ak s b).inn=2->e.length=2):=by
   unfold inner at j⊢;split;rename_i x;rw[aF x]at j;obtain⟨e,g,k⟩:=Xw _ s a y _ _ j;exact⟨e,g,k,fun f=>by omega,fun f=>by omega⟩;rename_i x;rw[aC x]at j;obtain⟨e,g,k,o⟩:=Wo _ a y _ _ j;exact⟨e,g,k,fun f=>by rw[o,f];rfl,fun f=>by rw[o,f];rfl⟩
  obtain⟨e,g,k,o,A⟩:=B;refine⟨_,e,by rw[<- g],by rw[<- g],k,?_,?_,?_⟩;exact fun f=>A (p.two f)
  exact fun f=>o (p.one f)
  exact⟨⟨v.c,v.r,v.d⟩,p.w,p.b⟩;exact Bv
theorem Ww(s b):∀ e a,(rulesV s b e a).ok=true->∀ x,x∈(rulesV s b e a).Bj->Vv (s.size+1) x.As:=by
 induction b with
 | zero=>intro e a h;cases h
 | succ b am=>
  intro e a h x;rw[rulesV]at h⊢;split;exact Bg;rename_i ab;rw[aC ab]at h;split;exact C9;rename_i ac;rw[aC ac]at h;split;exact EQ;rename_i ai;rw[aC ai]at h;have f:(AF s (bt s a-65) (s.size+1) (a+2)).ok=true:=by simpa using ai
  have an:=Acr s (bt s a-65) (s.size+1) (a+2) f;exact ix
theorem Aeg(R)(F:aD It->Int->Prop)(j):∀ o h l,Vv j l->(∀ A,¬ lost F j o h l A)->(∀ a,a∈l->a.c=82->R a.r.toNat=true)->TWf R j o h l:=by
 induction j with
 | zero=>intro o h l u;exact u.elim
 | succ j M=>
  intro o h l u p B;obtain⟨a,z,rfl,S,E,J,I,K⟩:=u;have k:=Vv.segs z E;have L:∀ b,b∈z->∀ g,g∈b->g∈a::z.flatten:=fun b f g y=>aH _ (List.mem_flatten.2 ⟨b,f,y⟩)
  have O:=p;unfold TWf;refine⟨K,fun v=>?_,fun hu=>?_,B a aG,fun r=>by rw[k];exact J r,fun r=>?_,fun b f=>?_⟩;by_cases e:a.c=40;rw[e]at v;cases v
  . cases o with
    | true=>rfl
    | false=>exact absurd (by unfold lost;rw[aC e];exact Or.inl ⟨by simp[v],rfl⟩) (p a.pl)
  by_cases e:a.c=40;rw[e]at hu;cases hu
  . cases h with
    | true=>rfl
    | false=>exact absurd (by unfold lost;rw[aC e];exact Or.inl ⟨by simp[hu],rfl⟩) (p a.pl)
  rw[k];obtain⟨b,f⟩:=kA.1 (I r);rw[f];simp;rw[k]at f;refine M _ _ b (E b f) (fun A x=>p A ?_) (fun g y=>B g (L b f g y));unfold lost;by_cases e:a.c=40;rw[aF e,k];rw[e]at x;exact Or.inr ⟨b,f,by simpa using x⟩;rw[aC e,k];exact Or.inr ⟨b,f,by simpa[e]using x⟩
def rulePt(e:aD Rl)(b:Nat):aD It:=match e.find? (fun a=>a.r==(b:Int))with|some a=>a.As|none=>[]
def BY(b:aD Rl)(a:Nat):Bool:=Dq b a
theorem E7{b e}(f:BY b e=true):∃ i,∃ (p:i<b.length),b[i].r=(e:Int)/\(∀ a,a<i->∀ h,b[a].r≠(e:Int))/\rulePt b e=b[i].As:=by
 induction b with
 | nil=>cases f
 | cons v t u=>
  by_cases al:v.r=(e:Int);refine⟨0,by simp,al,fun a h=>by omega,?_⟩;unfold rulePt;rw[hP EN];rfl;have j:BY t e=true:=by unfold BY Dq at f⊢;simpa[al]using f
  obtain⟨i,p,k,o,g⟩:=u j;refine⟨i+1,by simp;omega,by simpa using k,fun a h r=>?_,?_⟩
  . cases a with
    | zero=>exact al
    | succ a=>simpa using o a kX (by simp at r;omega)
  unfold rulePt at g⊢;rw[kC EN];simpa using g
theorem F8(s)(a:(Be s).1=0):s.size<=400/\(Ah s).ok=true/\(scanR (D9 (Ah s).Bj) [] (Ah s).Bj).2=false/\(BL (s.size+1) (Ah s).Bj (0,false)).2=false:=by
 unfold Be at a;split at a
 cases a
 rename_i g;split at a
 cases a
 rename_i b;split at a
 cases a
 rename_i e;split at a
 cases a
 rename_i f;exact⟨by omega,by simpa using b,by simpa using e,by simpa using f⟩
theorem Bz.none{b:Int->Prop}{q:Int × Bool}(a:Bz b q)(e:q.2=false):∀ p,¬ b p:=by
 rcases a with⟨_,a⟩|⟨a,_⟩;exact a;rw[e]at a;cases a
theorem Wh(s)(b:(Be s).1=0):∀ a,a∈(Ah s).Bj->BK (BY (Ah s).Bj) false false a.As:=by
 obtain⟨z,h,r,u⟩:=F8 s b;intro a e;have o:KU 0 (Ah s).Bj:=(Fi s 8 65 0 kX h).1;have h0:Bz (fun _=>False) ((0:Int),false):=Or.inl ⟨rfl,fun j b=>b⟩;have x:=Bz.none (PZ (s.size+1) (Ah s).Bj _ _ h0) u;have y:=Bz.none (SE (D9 (Ah s).Bj) (Ah s).Bj [] 0 o) r;refine⟨s.size+1,Aeg _ PB _ _ _ _ (Ww s 8 65 0 h a e) (fun j p=>x j (Or.inr ⟨a,e,p⟩)) (fun f v k=>?_)⟩;have:=y f.pl
 cases g:BY (Ah s).Bj f.r.toNat with
 | true=>rfl
 | false=>
  exact absurd (Or.inr ⟨f,cI.2 ⟨a,e,v⟩,by unfold FE;unfold BY at g;unfold D9;rw[g,k];rfl,rfl⟩) this
theorem Fo(s)(h:(Ah s).ok=true):BY (Ah s).Bj 0=true:=by
 unfold Ah at h⊢;rw[rulesV]at h⊢;split;exact Bg;rename_i ab;rw[aC ab]at h;split;exact C9;rename_i ac;rw[aC ac]at h;split;exact EQ;rename_i ai;rw[aC ai]at h;have a:bt s 0-65=0:=by
  have:¬ ¬ (65<=bt s 0/\bt s 0<=65):=ab;omega
 split;unfold BY Dq;simp[a];rename_i b;rw[aC b]at h;split;exact gz;unfold BY Dq GQ.pre;simp[a]
theorem GC(s)(e:(Be s).1=0)(a)(g:BY (Ah s).Bj a=true):BK (BY (Ah s).Bj) false false (rulePt (Ah s).Bj a):=by
 obtain⟨i,f,_,_,b⟩:=E7 g;rw[b];exact Wh s e _ (aU f)
theorem Abn(e j)(k:∀ a,a∈e->Fa j a.As)(a)(h:BY e a=true):At (Ao e) (startR e a) (rulePt e a)/\Fa j (rulePt e a):=by
 induction e with
 | nil=>cases h
 | cons b t y=>
  by_cases al:b.r=(a:Int);have f:rulePt (b::t) a=b.As:=by unfold rulePt;rw[hP EN]
  have g:startR (b::t) a=0:=by unfold startR;rw[aF EN]
  rw[f,g];exact⟨⟨[],Ao t,by simp[Ao],rfl⟩,k b aG⟩;have p:BY t a=true:=by unfold BY Dq at h⊢;simpa[al]using h
  obtain⟨⟨o,C,r,u⟩,v⟩:=y (fun q x=>k q (aH _ x)) p;have f:rulePt (b::t) a=rulePt t a:=by unfold rulePt;rw[kC EN]
  have g:startR (b::t) a=b.As.length+startR t a:=by rw[startR,aC EN]
  rw[f,g];refine⟨⟨b.As++o,C,?_,by simp[u]⟩,v⟩;rw[bO,<- r];simp[Ao]
def Q9(rd:aD Bool):Array aI:=(rd.map Value.bool).toArray
def IY(a:Nat->Nat × Nat):Array aI:=((List.range 8).flatMap fun d=>[Value.int .i64 ((a d).1:Int),I0 ((a d).2:Int)]).toArray
def TV(w:aE)(a:Nat)(rd:aD Bool):Prop:=Ac w a (Q9 rd) 4
def Aas(w:aE)(a:Nat)(b:Nat->Nat × Nat):Prop:=Ac w a (IY b) 240
theorem Vd(rd a)(b:a<rd.length):(Q9 rd)[a]? = some (.bool (rd.getD a false)):=by simp[Q9,b]
theorem Np(a:Nat->Nat × Nat):(IY a).size=16:=lE
theorem Gv(a:Nat->Nat × Nat)(d)(b:d<8):(IY a)[2*d]? = some (I0 ((a d).1:Int))/\(IY a)[2*d+1]? = some (I0 ((a d).2:Int)):=by
 refine k4 ?_;intro ab;exact g9
theorem H2.nine{w k b c j x g}(o:H2 w k b c j x g){a f v}(h:At g a (f::v)):
 w.cell? (A0 b (a*9))=some (.int .u8 f.c)/\w.cell? (A0 b (a*9+1))=some (I0 f.w)/\w.cell? (A0 b (a*9+2))=some (I0 f.b)/\w.cell? (A0 b (a*9+3))=some (I0 f.r)/\w.cell? (A0 b (a*9+4))=some (I0 f.d)/\
 w.cell? (A0 b (a*9+5))=some (I0 f.pl)/\w.cell? (A0 b (a*9+6))=some (I0 (a+f.nx))/\w.cell? (A0 b (a*9+7))=some (I0 f.rl)/\w.cell? (A0 b (a*9+8))=some (I0 0):=by
 have p:a<g.length:=by have:=h.le;simp at this;omega
 have r:=h.head;have e:∀ q,q<9->w.cell? (A0 b (a*9+q))=((A1 g a).off a).cells[q]? := fun q u=>o.cell a q p u
 rw[r]at e;exact⟨by simpa[It.cells,It.off]using e 0 kX,by simpa[It.cells,It.off]using e 1 kX,by simpa[It.cells,It.off]using e 2 kX,by simpa[It.cells,It.off]using e 3 kX,by simpa[It.cells,It.off]using e 4 kX,by simpa[It.cells,It.off]using e 5 kX,by simpa[It.cells,It.off]using e 6 kX,by simpa[It.cells,It.off]using e 7 kX,by simpa[It.cells,It.off]using e 8 kX⟩
structure Rx where
 w0:aE
 gb:Nat
 g:Nat
 cap:Nat
 fb:Nat
 pb:Nat
 tw:aI
 As:aD It
 fl:aD Int
 bs:aA
 N:Nat
 G:Nat->aD It
 R:Nat->Bool
structure DK (c:Rx):Prop where
 Fw:H2 c.w0 c.gb c.g c.cap (S0 c.fb 8 8) c.tw c.As
 fst:Ac c.w0 c.fb (Ci c.fl) 3
 fl:c.fl.length=8
 pb:c.w0.heap.size<=c.pb
 bs:c.bs.size<=4000
 N:c.N<=10000
 wf:Wf c.As
 len:c.As.length<=400
 Ig:∀ r,c.R r=true->r<8/\∃ b:Nat,c.fl.getD r 0=(b:Int)/\At c.As b (c.G r)/\∃ f,Fa f (c.G r)
 JI:∀ r,c.R r=true->BK c.R false false (c.G r)
structure Cp (c:Rx) (w:aE) (st:PS) (rb db fuel far:Nat):Prop where
 pg:FW w c.pb c.gb c.bs fuel c.N far 0
 A9:Below c.w0.heap.size c.w0 w
 rd:TV w rb st.rd
 dp:Aas w db st.Ai
 inv:Eb c.bs c.N st
theorem Bf{w e b h j s t}(f:Ac w e h s)(a:Ac w b j t)(g:s≠t):e≠b:=by
 rintro rfl;unfold Ac at*;rw[f]at a;exact g (by injection a with a;injection a)
theorem Cp.Qv{c w st b e g f}(a:Cp c w st b e g f):b≠c.pb:=Bf a.rd a.pg lC
theorem Cp.Og{c w st g a f e}(b:Cp c w st g a f e):a≠c.pb:=Bf b.dp b.pg lC
theorem Fr.Ap{b e w w'}(g:Fr b e w w'){a f t}(k:Ac w a f t)(h:a<b)(j:a≠e):Ac w' a f t:=by
 unfold Ac at*;rw[g.block a h j];exact k
structure Ez (c:Rx) (w:aE) (st:PS) (rb db:Nat):Prop where
 rd:TV w rb st.rd
 dp:Aas w db st.Ai
 Qv:rb≠c.pb
 Og:db≠c.pb
theorem Cp.st{c w st rb db e b}(a:Cp c w st rb db e b):Ez c w st rb db:=⟨a.rd,a.dp,a.Qv,a.Og⟩
theorem Ez.fr{c w w' st rb b B}(a:Ez c w st rb b)(f:Fr B c.pb w w')(e:w.heap.size<=B):Ez c w' st rb b:=
 ⟨f.Ap a.rd (bM a.rd.lt e) a.Qv,f.Ap a.dp (bM a.dp.lt e) a.Og,a.Qv,a.Og⟩
theorem Cp.fr{c}(u:DK c){w w' st b rb o k e r p g f}(h:Cp c w st rb o r p)(a:Fr w.heap.size c.pb w w')(x:FW w' c.pb c.gb c.bs g c.N f 0)(j:Ez c w' b k e)(v:Eb c.bs c.N b):Cp c w' b k e g f:=by
 have B:=u.pb;have A:=h.pg.lt;refine⟨x,h.A9.trans ⟨a.os,a.tape,a.output,a.size,fun y z=>a.block y kX kX⟩,j.rd,j.dp,v⟩
theorem Cp.Fw{c}(g:DK c){w st h a e b}(f:Cp c w st h a e b):H2 w c.gb c.g c.cap (S0 c.fb 8 8) c.tw c.As:=g.Fw.below f.A9
def AO(c:Rx)(w:aE)(a:PO)(e:Ending)(w':aE):Prop:=
 Fr w.heap.size c.pb w w'/\∃ b rb db fuel far t,e=EI b rb c.bs.size db t a.ok/\FW w' c.pb c.gb c.bs fuel c.N far a.e/\(a.e=0->fuel=a.fuel/\far=a.far)/\(a.ok=true->b=a.st/\t=a.t/\Ez c w' a.st rb db)
def OB(c:Rx)(h:Nat):Prop:=
 ∀ w st j f a g b e p r k q,Cp c w st j f a g->At c.As e b->Fa p b->BK c.R r k b->a<=100000->a<h->
  Calls prog 56 #[P0 c.pb,I0 e,.agg (AA st j c.bs.size f),.bool q] w fun o w'=>AO c w (tryT c.G c.bs c.N h a g q b st) o w'
theorem AO.fail{c w w' g st j h f e b a}(p:Fr w.heap.size c.pb w w')(o:g=EI j h c.bs.size f [] false)(r:FW w' c.pb c.gb c.bs e c.N (max b a) 0):AO c w (CK e b a st) g w':=
 ⟨p,j,h,f,e,max b a,[],o,r,fun _=>⟨rfl,rfl⟩,fun k=>by cases k⟩
theorem AO.made{c w w' j st rb db g f t}(k:Fr w.heap.size c.pb w w')(b:j=(G1 c.N 0 st rb c.bs.size db t).1)(e:FW w' c.pb c.gb c.bs g c.N f (G1 c.N 0 st rb c.bs.size db t).2)(h:Ez c w' st rb db):AO c w (Bs c.N g f st t) j w':=by
 unfold G1 at b e;unfold Bs;by_cases a:st.Af=c.N;rw[aF a]at b e⊢;exact⟨k,st,rb,db,g,f,[],b,e,fun a=>absurd a (by simp[HP]),fun a=>absurd a (by simp[HP])⟩;rw[aC a]at b e⊢;exact⟨k,_,rb,db,g,f,t,b,e,fun _=>⟨rfl,rfl⟩,fun _=>⟨rfl,rfl,⟨h.rd,h.dp,h.Qv,h.Og⟩⟩⟩
theorem Fr.low{b e h f g}(a:Fr b h f g)(k:e<=b):Fr e h f g:=⟨a.os,a.tape,a.output,a.size,fun j o=>a.block j kX⟩
abbrev E8(w:aE) (b:Nat) (v0 v1 v2 v3 v4:aI):aE:=((((w.setCell (A0 b 0) v0).setCell (A0 b 1) v1).setCell (A0 b 2) v2).setCell (A0 b 3) v3).setCell (A0 b 4) v4
theorem Hl{e f w}(p:Below e f w){b}(a:e<=b)(g h j k o):Below e f (E8 w b g h j k o):=
 ((((p.setCell (p:=(A0 b 0)) a g).setCell (p:=(A0 b 1)) a h).setCell (p:=(A0 b 2)) a j).setCell (p:=(A0 b 3)) a k).setCell (p:=(A0 b 4)) a o
theorem Fr.BB{e g f w}(r:Fr e g f w){b}(a:e<=b)(h j k o p):Fr e g f (E8 w b h j k o p):=
 ((((r.setCell (p:=(A0 b 0)) (Or.inr a) h).setCell (p:=(A0 b 1)) (Or.inr a) j).setCell (p:=(A0 b 2)) (Or.inr a) k).setCell (p:=(A0 b 3)) (Or.inr a) o).setCell (p:=(A0 b 4)) (Or.inr a) p
theorem Ac.Ar{w e f t}(p:Ac w e f t){b}(a:e≠b)(g h j k o):Ac (E8 w b g h j k o) e f t:=
 ((((p.Ad (A0 b 0) a g).Ad (A0 b 1) a h).Ad (A0 b 2) a j).Ad (A0 b 3) a k).Ad (A0 b 4) a o
theorem Ac.BB{w b j k o p r t}(u:Ac w b #[j,k,o,p,r] t)(a e f g h):Ac (E8 w b a e f g h) b #[a,e,f,g,h] t:=
 ((((u.set 0 a).set 1 e).set 2 f).set 3 g).set 4 h
theorem D5(w b a e f g h):(E8 w b a e f g h).heap.size=w.heap.size:=by simp[World.setCell]
section
theorem mf(h:p:=by
 have:=h.ho i b u ab ac;unfold Ac at*;rw[f b (cE _ (bH ab))];exact this):p:=h
theorem QU(h:p:=by
 rcases bB.1 o with rfl|o;exact aG;exact aH _ (bW _ o)):p:=h
def hoD(a:Ho):aD aI:=[I0 (a.pl:Nat),I0 (a.w:Nat),.bool a.low]
def Hn(a:Nat->aM Ho):Array aI:=((List.range 8).flatMap fun d=>hoD ((a d).getD MB)).toArray
def Ta(t:Ho × Nat):aD aI:=hoD t.1++[I0 (t.2:Nat)]
def W6(s:Sp):aD aI:=hoD s.ho++[I0 (s.a:Nat),I0 (s.b:Nat)]
structure Lt where
 e:We
 k:Nat
def UW(a:aD Nat)(l:Lt):aD aI:=[I0 (l.k:Nat),I0 (l.e.t:Nat)]++hoD l.e.ho++[S0 (a.getD l.e.hid 0) 8 8]
structure Dm where
 o:aD UInt8
 ts:aD (Ho × Nat)
 ls:aD Lt
 cur:aD Sp
 AS:aD (Nat->aM Ho)
 rv:Nat->aI
 DR:aD Nat
def Dm.ab(d:Dm):Dp:=⟨d.o,d.ts,d.ls.map Lt.e,d.cur,d.AS⟩
structure Wk (c:Rx) (s:aA) (l:Lt):Prop where
 pt:At c.As l.k l.e.As
 trs:∃ f,Fa f l.e.As
 JI:BK c.R false true l.e.As
 Xx:CR l.e.As
 al:Al s l.e.t
 dep:s.size+1<=l.e.n+1+l.e.t
def FH(i:Nat):TypeId:=if i=0 then 171 else if i=1 then 98 else 101
def Gz(i:Nat):Nat:=if i=0 then 6 else if i=1 then 4 else 5
def Dm.xs(d:Dm)(i:Nat):aD aI:=if i=0 then d.ls.flatMap (UW d.DR)else if i=1 then d.ts.flatMap Ta else d.cur.flatMap W6
def Dm.len(d:Dm)(i:Nat):Nat:=if i=0 then d.ls.length else if i=1 then d.ts.length else d.cur.length
def Dm.rows(d:Dm):aD Nat:=(d.rv 0).ownBlock.toList++((d.rv 1).ownBlock.toList++(d.rv 2).ownBlock.toList)
def wdC(b:Nat)(s:aA)(e:aD UInt8)(a:Nat->aI):Array aI:=#[P0 b,.string s,.string ⟨e.toArray⟩,a 0,a 1,a 2]
structure D4 (c:Rx) (s:aA) (w:aE) (d:Dm):Prop where
 Ap:Ac w c.pb (wdC c.gb s d.o d.rv) 91
 row:∀ i,i<3->w.ownsRow c.w0.heap.size (FH i) (Gz i) (d.rv i) (d.len i) (d.xs i)
 ho:∀ (i b:Nat) (f:Nat->aM Ho),d.DR[i]? = some b->d.AS[i]? = some f->Ac w b (Hn f) 96
 DC:d.DR.length=d.AS.length
 nd:(c.pb::(d.rows++d.DR)).Nodup
 ge:∀ b∈c.pb::(d.rows++d.DR),c.w0.heap.size<=b/\b<w.heap.size
 hid:∀ l∈d.ls,l.e.hid<d.DR.length/\Wk c s l
 A9:Below c.w0.heap.size c.w0 w
theorem Ep{d:Dm}{i a:Nat}(f:i<3)(b:(d.rv i).ownBlock=some a):a∈d.rows:=by
 have e:i=0\/i=1\/i=2:=kX;unfold Dm.rows;rcases e with rfl|rfl|rfl<;>simp[b]
structure Kp (own:aD Nat) (w w':aE):Prop where
 os:w'.os=w.os
 tape:w'.tape=w.tape
 output:w'.output=w.output
 size:w.heap.size<=w'.heap.size
 block:∀ b,b<w.heap.size->b ∉ own->w'.heap[b]? = w.heap[b]?
theorem Kp.refl(a w):Kp a w w:=⟨rfl,rfl,rfl,aB _,fun _ _ _=>rfl⟩
theorem Kp.trans{o o' w w1 w2}(h:Kp o w w1)(a:Kp o' w1 w2)(g:∀ b∈o',b∈o\/w.heap.size<=b):Kp o w w2:=
 ⟨a.os.trans h.os,a.tape.trans h.tape,a.output.trans h.output,bQ h.size a.size,fun b hb e=>(a.block b (bM hb h.size) (fun f=>(g b f).elim e kX)).trans (h.block b hb e)⟩
theorem Kp.Bu{o w w'}(a:Below w.heap.size w w'):Kp o w w':=⟨a.os,a.tape,a.output,a.size,fun b e _=>a.block b e⟩
theorem Kp.mono{e a w w'}(f:Kp e w w')(g:∀ b∈e,b∈a\/w.heap.size<=b):Kp a w w':=(Kp.refl a w).trans f g
theorem Kp.alloc{a w w'}(e:Kp a w w')(b):Kp a w (w'.alloc b):=e.trans (o':=[]) (Kp.Bu ((aO _ _).alloc (aB _) b)) (fun _ f=>by cases f)
theorem Kp.drew{b w w'}(a:Kp b w w')(n):Kp b w (w'.drewN n):=⟨a.os,a.tape,a.output,a.size,a.block⟩
theorem Kp.setCell{e w w'}(a:Kp e w w')(b j o)(g:b∈e\/w.heap.size<=b):Kp e w (w'.setCell (A0 b j) o):=
 ⟨a.os,a.tape,a.output,by simp[World.setCell];exact a.size,fun k h f=>by rw[aN _ _ _ _ (by rintro rfl;exact g.elim f kX)];exact a.block k h f⟩
theorem Kp.grown{f w w1 w2 j}(a:Kp f w w1)(x:w1.grownBy w2 j)(y:∀ b,j=some b->b∈f\/w.heap.size<=b):Kp f w w2:=by
 obtain⟨o,p,r,u,v⟩:=x;exact⟨o.trans a.os,p.trans a.tape,r.trans a.output,bQ a.size u,fun e g h=>(v e (bM g a.size) (fun k=>(y e k.symm).elim h kX)).trans (a.block e g h)⟩
theorem Kp.Ap{f w w'}(g:Kp f w w'){a b t}(e:Ac w a b t)(h:a ∉ f):Ac w' a b t:=by
 have:=e.lt;unfold Ac at*;rw[g.block a this h];exact e
theorem Kp.cell{e w w'}(f:Kp e w w'){a}(g:a<w.heap.size)(h:a ∉ e)(b):w'.cell? (A0 a b)=w.cell? (A0 a b):=aL (f.block a g h)
section
variable {c:Rx} {s:aA} {w w':aE} {d:Dm}
theorem D4.below(a:D4 c s w d)(e:∀ b∈c.pb::(d.rows++d.DR),w'.heap[b]? = w.heap[b]?)(g:Below c.w0.heap.size w w'):D4 c s w' d:=
 ⟨by have:=a.Ap;unfold Ac at*;rw[e _ aG];exact this,
  fun i h=>An (a.row i h) fun p k=>e p (aH _ (bW _ (Ep h k))),
  fun i b o f r=>by have:=a.ho i b o f r;unfold Ac at*;rw[e b (aH _ (cE _ (bH f)))];exact this,
  a.DC,a.nd,fun b j=>⟨(a.ge b j).1,bM (a.ge b j).2 g.size⟩,a.hid,a.A9.trans g⟩
theorem D4.B9{o:aD Nat}(f:D4 c s w d)(b:Kp o w w')(h:∀ a∈o,c.w0.heap.size<=a/\a ∉ c.pb::(d.rows++d.DR)):D4 c s w' d:=
 f.below (fun a e=>b.block a (f.ge a e).2 (fun g=>(h a g).2 e)) ⟨b.os,b.tape,b.output,b.size,fun a g=>b.block a (bM g f.A9.size) (fun e=>by have:=(h a e).1;omega)⟩
theorem D4.more(a:D4 c s w d)(e:Below w.heap.size w w'):D4 c s w' d:=a.B9 (o:=[]) (Kp.Bu e) (fun _ b=>by cases b)
theorem D4.alloc(b:D4 c s w d)(a:Obj):D4 c s (w.alloc a) d:=b.more ((aO _ _).alloc (aB _) a)
theorem D4.drew(a:D4 c s w d)(n:Nat):D4 c s (w.drewN n) d:=a.more ⟨rfl,rfl,rfl,aB _,fun _ _=>rfl⟩
theorem D4.lt(a:D4 c s w d):c.pb<w.heap.size:=(a.ge _ aG).2
theorem D4.pge(a:D4 c s w d):c.w0.heap.size<=c.pb:=(a.ge _ aG).1
theorem Abp(a s f b)(e:Nat->aI):(wdC a s f e).setIfInBounds 2 (.string ⟨b.toArray⟩)=wdC a s b e:=rfl
theorem Ac2(a s e)(f:Nat->aI)(i)(j:i<3)(g):(wdC a s e f).setIfInBounds (3+i) g=wdC a s e fun b=>if b=i then g else f b:=by
 have h:i=0\/i=1\/i=2:=kX;rcases h with rfl|rfl|rfl<;>rfl
theorem D4.out(h:D4 c s w d)(o':aD UInt8):D4 c s (w.setCell (A0 c.pb 2) (.string ⟨o'.toArray⟩)) {d with o:=o'}:=by
 have g:=h.nd;rw[bZ]at g;have f:∀ b,b∈d.rows++d.DR->(w.setCell (A0 c.pb 2) (.string ⟨o'.toArray⟩)).heap[b]? = w.heap[b]? := fun b a=>aN _ _ _ _ (by rintro rfl;exact g.1 a)
 have p:Below c.w0.heap.size w (w.setCell (A0 c.pb 2) (.string ⟨o'.toArray⟩)):=(aO _ _).setCell (p:=(A0 c.pb 2)) h.pge _;refine⟨by have:=h.Ap.set 2 (.string ⟨o'.toArray⟩);rw[Abp]at this;exact this,fun i e=>An (h.row i e) fun k j=>f k (bW _ (Ep e j)),fun i b u ab ac=>?_,h.DC,h.nd,fun b a=>⟨(h.ge b a).1,by have:=(h.ge b a).2;simp[World.setCell];exact this⟩,h.hid,h.A9.trans p⟩;exact mf
theorem D4.Ahw{w2:aE}(k:D4 c s w d)(i)(ai:i<3)(g x)(h)(U:w.grownBy w2 (d.rv i).ownBlock)(L:(d.rv i).ownBlock=some g\/w.heap.size<=g)(X:w2.ownsRow c.w0.heap.size (FH i) (Gz i) (S0 g (h.len i) x) (h.len i) (h.xs i))(ar:h.o=d.o)(y:h.DR=d.DR/\h.AS=d.AS)(F:h.rv=fun b=>if b=i then S0 g (h.len i) x else d.rv b)(ae:∀ b,b<3->b≠i->h.len b=d.len b/\h.xs b=d.xs b)(au:∀ l∈h.ls,l.e.hid<d.DR.length/\Wk c s l):
 D4 c s (w2.setCell (A0 c.pb (3+i)) (S0 g (h.len i) x)) h/\Kp (c.pb::d.rows) w (w2.setCell (A0 c.pb (3+i)) (S0 g (h.len i) x))/\∀ f∈h.rows,f∈d.rows\/w.heap.size<=f:=by
 have aj:=k.nd;rw[bZ]at aj;obtain⟨K,A⟩:=aj;rw[bP]at A;obtain⟨A,a2,Z⟩:=A;have a4:=k.lt;have I:∀ q,(d.rv i).ownBlock=some q->q∈d.rows:=fun q a=>Ep ai a
 have am:some c.pb≠(d.rv i).ownBlock:=fun a=>K (bW _ (I _ a.symm))
 have ah:g≠c.pb:=by
  rintro rfl;rcases L with a|a;exact am a.symm;omega
 have a3:=(X.lt g rfl).2;have ax:=U;obtain⟨_,_,_,a5,av⟩:=ax;have al:∀ f,f<w.heap.size->f≠c.pb->(d.rv i).ownBlock≠some f->(w2.setCell (A0 c.pb (3+i)) (S0 g (h.len i) x)).heap[f]? = w.heap[f]? := fun f e a0 a1=>by
  rw[aN _ _ _ _ a0];exact av f e (fun a=>a1 a.symm)
 have E:Kp (c.pb::d.rows) w (w2.setCell (A0 c.pb (3+i)) (S0 g (h.len i) x)):=((Kp.refl _ w).grown U (fun q a=>Or.inl (aH _ (I q a)))).setCell _ _ _ (Or.inl aG);have ak:∀ b,b<3->b≠i->∀ q,(d.rv b).ownBlock=some q->(d.rv i).ownBlock≠some q:=by
  intro b p r q a v;have aa:=A;unfold Dm.rows at aa;rw[bP,bP]at aa;obtain⟨_,⟨_,_,O⟩,z⟩:=aa;have V:i=0\/i=1\/i=2:=kX;have ay:b=0\/b=1\/b=2:=kX;rcases V with rfl|rfl|rfl<;>rcases ay with rfl|rfl|rfl
  exact r rfl;exact z q (by simp[v]) q (by simp[a]) rfl;exact z q (by simp[v]) q (by simp[a]) rfl;exact z q (by simp[a]) q (by simp[v]) rfl;exact r rfl;exact O q (by simp[v]) q (by simp[a]) rfl;exact z q (by simp[a]) q (by simp[v]) rfl;exact O q (by simp[a]) q (by simp[v]) rfl;exact r rfl
 have M:∀ f∈h.rows,f=g\/(f∈d.rows/\∃ b,b<3/\b≠i/\(d.rv b).ownBlock=some f):=by
  intro f e;unfold Dm.rows at e;rw[F]at e;simp only[aV,Option.mem_toList]at e;have Y:∀ b,b<3->(if b=i then Value.slice (some (A0 g 0)) (h.len i) x else d.rv b).ownBlock=some f->f=g\/(f∈d.rows/\∃ b,b<3/\b≠i/\(d.rv b).ownBlock=some f):=by
   intro b p a;split at a;simp[Value.ownBlock]at a;exact Or.inl a.symm;rename_i r;exact Or.inr ⟨Ep p a,b,p,r,a⟩
  rcases e with a|a|a;exact Y 0 kX a;exact Y 1 kX a;exact Y 2 kX a
 refine⟨⟨?_,fun b p=>?_,fun b f aq S ad=>?_,by rw[y.1,y.2];exact k.DC,?_,fun f o=>?_,fun l az=>by rw[y.1];exact au l az,?_⟩,E,fun f e=>?_⟩;have e:=(k.Ap.grown U am).set (3+i) (S0 g (h.len i) x);rw[Ac2 _ _ _ _ _ ai]at e;rw[ar,F];exact e;by_cases r:b=i;subst r;rw[F];simp only[dU];exact An X fun q a=>aN _ _ _ _ (by rw[<- (show g=q by simpa[Value.ownBlock]using a)];exact ah)
 rw[F];simp only[r,cT];rw[(ae b p r).1,(ae b p r).2];refine An (k.row b p) fun q a=>al q ((k.row b p).lt q a).2 (fun v=>K (bW _ (v▸Ep p a))) (ak b p r q a)
 rw[y.1]at S;rw[y.2]at ad;have af:=bH S;have e:=k.ho b f aq S ad;have:=e.lt;unfold Ac at*;rw[al f this (fun a=>K (cE _ (a▸af))) (fun a=>Z f (I f a) f af rfl)];exact e;have aw:g ∉ d.DR:=fun o=>by
  rcases L with a|a;exact Z g (I g a) g o rfl;have:=(k.ge g (aH _ (cE _ o))).2;omega
 rw[y.1,bZ,bP];refine⟨fun o=>?_,?_,a2,fun u j f e a=>?_⟩;rcases aV.1 o with o|o;rcases M _ o with a|a;exact ah a.symm;exact K (bW _ a.1);exact K (cE _ o);have B:∀ b,b<3->b≠i->(d.rv b).ownBlock≠some g:=fun b p r a=>by
  rcases L with v|v;exact ak b p r g a v;have:=((k.row b p).lt g a).2;omega
 unfold Dm.rows at A⊢;rw[F];have V:i=0\/i=1\/i=2:=kX;have J:(Value.slice (some (A0 g 0)) (h.len i) x).ownBlock=some g:=rfl;rw[bP,bP]at A⊢;obtain⟨an,⟨ao,ap,O⟩,z⟩:=A;have ab:∀ ac:aI,ac.ownBlock.toList.Nodup:=fun ac=>by cases ac.ownBlock<;>simp
 rcases V with rfl|rfl|rfl;refine⟨ab _,⟨ao,ap,O⟩,fun u j f e a=>?_⟩;simp[J]at j;subst j;subst a;simp at e;rcases e with e|e;exact B 1 kX kX e;exact B 2 kX kX e;refine⟨an,⟨ab _,ap,fun u j f e a=>?_⟩,fun u j f e a=>?_⟩;simp[J]at j;subst j;subst a;simp at e;exact B 2 kX kX e;subst a;simp[J]at j e;rcases e with e|e;subst e;exact B 0 kX kX j;exact z u (by simp[j]) u (by simp[e]) rfl;refine⟨an,⟨ao,ab _,fun u j f e a=>?_⟩,fun u j f e a=>?_⟩;subst a;simp[J]at j e;subst e;exact B 1 kX kX j;subst a;simp[J]at j e;rcases e with e|e;exact z u (by simp[j]) u (by simp[e]) rfl;subst e;exact B 0 kX kX j;subst a;rcases M _ j with a|a;subst a;exact aw e;exact Z u a.1 u e rfl;rw[y.1]at o;rw[show(w2.setCell (A0 c.pb (3+i)) (S0 g (h.len i) x)).heap.size=w2.heap.size by simp[World.setCell]];rcases bB.1 o with rfl|o;exact⟨k.pge,by omega⟩;rcases aV.1 o with o|o;rcases M _ o with rfl|a;exact X.lt _ rfl;have:=k.ge f (aH _ (bW _ a.1));omega;have:=k.ge f (aH _ (cE _ o));omega;exact k.A9.trans ⟨E.os,E.tape,E.output,E.size,fun f e=>E.block f (bM e k.A9.size) (fun o=>by
  have:=(k.ge f QU).1;omega)⟩
 rcases M _ e with rfl|a;rcases L with a|a;exact Or.inl (I _ a);exact Or.inr a;exact Or.inl a.1
end
end
section
theorem N3(s t b):Ir s t b=true↔(t+b.length<=s.size/\∀ a (e:a<b.length),bt s (t+a)=(b[a].toNat:Int)):=by
 have h:(s.extract t (t+b.length)).toList=(s.data.toList.drop t).take b.length:=by
  rw[dZ,hS,kS,gU,show t+b.length-t=b.length by omega]
 unfold Ir;rw[h];simp only[aY,bD,dA];refine and_congr_right fun k=>?_
 have o:s.data.toList.length=s.size:=by rw[fU];rfl
 constructor;intro e a g;have f:((s.data.toList.drop t).take b.length)[a]? = b[a]? := by rw[e]
 rw[eB g,eM,bA kX,bA g]at f;rw[Cs s (t+a) kX,<- dH f];rfl;intro e;apply fA (by rw[cX,dQ];omega);intro a f j;have:=e a j;rw[Cs s (t+a) kX]at this;rw[List.getElem_take,List.getElem_drop];apply UInt8.toNat_inj.1;exact Int.ofNat_inj.1 this
theorem Zb(s t c)(f:0<c.toNat):Ir s t [c]=decide (bt s t=(c.toNat:Int)):=by
 rw[hX,N3,bD];constructor;intro a;simpa using a.2 0 kY;intro a;refine⟨?_,fun e b=>?_⟩;have:=AT s t kX;simp;omega;obtain rfl:e=0:=by simp at b;omega
 simpa using a
theorem EJ(s)(j:s.size<=8000)(w b t)(g:q_ w b 1 (.string s))(k:t<=s.size)(a)(h:0<a.toNat):
 Calls prog 112 #[P0 b,I0 (t:Nat),.string ⟨#[a]⟩] w fun e w'=>e=.returned (.tuple #[I0 (if bt s t=(a.toNat:Int)then t+1 else t:Nat),.bool (decide (bt s t=(a.toNat:Int)))])/\w'=w:=
 (Ij s j w b t g k [a] kY).mono fun e w' f=>by
   refine⟨f.1.trans ?_,f.2⟩;unfold OC;rw[Zb s t a h];simp
structure Ck (c:Rx) (s:aA) (w:aE) (d:Dm) (w':aE) (d':Dm):Prop where
 mem:D4 c s w' d'
 kp:Kp (c.pb::d.rows) w w'
 rows:∀ b∈d'.rows,b∈d.rows\/w.heap.size<=b
 DR:∃ more,d'.DR=d.DR++more/\∀ b∈more,w.heap.size<=b
def A6(c:Rx)(s:aA)(w:aE)(d:Dm)(R:Pr)(e:Ending)(w':aE):Prop:=
 ∃ b a,e=.returned (.tuple #[I0 (b:Nat),.bool R.ok])/\(R.ok=true->b=R.p)/\a.ab=R.D/\Ck c s w d w' a
structure Ei (c:Rx) (m:Mx) (dn:Nat) (w:aE) (d:Dm) (t q:Nat):Prop where
 mem:D4 c m.s w d
 al:Al m.s t
 dl:dn<=d.ab.es.length
 FI:B4 m dn d.ab+10000*(m.s.size+1-t)+q<=1000000000
structure M8 (c:Rx) (bk:Nat) (k:aD It) (own ctx:Bool) (hid:aM Nat):Prop where
 pt:At c.As bk k
 trs:∃ f,Fa f k
 JI:BK c.R own ctx k
 Xx:CR k
 nh:hidV k=false
 ho:ctx=true->∃ i,hid=some i
def Zx(d:Dm)(hid:aM Nat)(b:aI):Prop:=∀ i,hid=some i->∃ a,d.DR[i]? = some a/\b=S0 a 8 8
def WI(c:Rx)(m:Mx)(dn n:Nat):Prop:=
 ∀ w d b a h f hid e t,Ei c m dn w d t (2*a.length)->M8 c b a h f hid->Zx d hid e->m.s.size+1<=n+t->
  Calls prog 69 #[P0 c.pb,I0 (b:Nat),I0 (t:Nat),e,.slice none 0 0] w fun g w'=>A6 c m.s w d (pT m c.G n a hid t d.ab) g w'
def FK(d:Dm)(e:Ho × Nat)(b:aI):Dm:={d with ts:=d.ts++[e],rv:=fun a=>if a=1 then b else d.rv a}
def Nz(d:Dm)(e:Sp)(b:aI):Dm:={d with cur:=d.cur++[e],rv:=fun a=>if a=2 then b else d.rv a}
def JV(d:Dm)(e:Lt)(b:aI):Dm:={d with ls:=d.ls++[e],rv:=fun a=>if a=0 then b else d.rv a}
section
variable {c:Rx} {m:Mx} {s:aA} {dn t q:Nat} {w w1 w2:aE} {d d1 d2:Dm}
theorem Ei.len(a:Ei c m dn w d t q):d.o.length<=1000000000/\d.ts.length<=1000000000/\d.cur.length<=1000000000/\d.ls.length<=1000000000:=by
 have:=a.FI;simp only[B4,Dm.ab,cM]at this;omega
theorem Ck.refl(a:D4 c s w d)(b:Below w.heap.size w w1):Ck c s w d w1 d:=⟨a.more b,Kp.Bu b,fun _ a=>Or.inl a,[],by simp,fun e a=>by cases a⟩
theorem Ck.trans(q:Ck c s w d w1 d1)(a:Ck c s w1 d1 w2 d2):Ck c s w d w2 d2:=by
 have p:=q.kp.size;obtain⟨k,e,f⟩:=q.DR;obtain⟨o,g,j⟩:=a.DR;refine⟨a.mem,q.kp.trans a.kp (fun b hb=>?_),fun b hb=>?_,k++o,by rw[g,e,bO],fun b hb=>?_⟩;rcases bB.1 hb with rfl|hb;exact Or.inl aG;exact(q.rows b hb).elim (fun h=>Or.inl (aH _ h)) Or.inr;rcases a.rows b hb with h|h;exact q.rows b h;exact Or.inr kX;rcases aV.1 hb with h|h;exact f b h;have:=j b h;omega
theorem A6.from{R:Pr}{a}(b:A6 c s w1 d R a w2)(j:D4 c s w d)(h:Below w.heap.size w w1):A6 c s w d R a w2:=by
 obtain⟨k,d2,e,f,g,q⟩:=b;exact⟨k,d2,e,f,g,(Ck.refl j h).trans q⟩
theorem A6.fail{e}{R:Pr}(b:R.ok=false)(f:d1.ab=R.D)(q:Ck c s w d w1 d1):A6 c s w d R (.returned (.tuple #[I0 (e:Nat),.bool false])) w1:=
 ⟨e,d1,by rw[b],fun a=>(by rw[b]at a;cases a),f,q⟩
theorem D4.Abf(a:D4 c s w d)(l):Ck c s w d (w.setCell (A0 c.pb 2) (.string ⟨(d.o++l).toArray⟩)) {d with o:=d.o++l}:=
 ⟨a.out _,(Kp.refl _ _).setCell _ _ _ (Or.inl aG),fun b a=>Or.inl a,[],by simp,fun b a=>by cases a⟩
theorem D4.Afa(g:D4 c s w d)(i)(v:i<3)(e f)(a)(u:w.grownBy w2 (d.rv i).ownBlock)(r:(d.rv i).ownBlock=some e\/w.heap.size<=e)(x:w2.ownsRow c.w0.heap.size (FH i) (Gz i) (S0 e (a.len i) f) (a.len i) (a.xs i))(j:a.o=d.o)(h:a.DR=d.DR/\a.AS=d.AS)(k:a.rv=fun b=>if b=i then S0 e (a.len i) f else d.rv b)(o:∀ b,b<3->b≠i->a.len b=d.len b/\a.xs b=d.xs b)(p:∀ l∈a.ls,l.e.hid<d.DR.length/\Wk c s l):
 Ck c s w d (w2.setCell (A0 c.pb (3+i)) (S0 e (a.len i) f)) a:=by
 obtain⟨y,z,A⟩:=g.Ahw i v e f a u r x j h k o p;exact⟨y,z,A,[],by simp[h.1],fun B g=>by cases g⟩
theorem D4.tell(g:D4 c s w d)(e:Ho × Nat)(a b)(o:w.grownBy w2 (d.rv 1).ownBlock)(k:(d.rv 1).ownBlock=some a\/w.heap.size<=a)(p:w2.ownsRow c.w0.heap.size (FH 1) (Gz 1) (S0 a (d.ts.length+1) b) (d.ts.length+1) (d.ts.flatMap Ta++Ta e)):Ck c s w d (w2.setCell (A0 c.pb 4) (S0 a (d.ts.length+1) b)) (FK d e (S0 a (d.ts.length+1) b)):=by
 have f:(FK d e (S0 a (d.ts.length+1) b)).len 1=d.ts.length+1:=by simp[Dm.len,FK]
 have r:(FK d e (S0 a (d.ts.length+1) b)).xs 1=d.ts.flatMap Ta++Ta e:=by simp[Dm.xs,FK]
 have:=g.Afa 1 kX a b (FK d e (S0 a (d.ts.length+1) b)) o k (by rw[f,r];exact p) rfl ⟨rfl,rfl⟩ (by rw[f];rfl) (fun h u v=>by
  have j:h=0\/h=2:=kX;rcases j with rfl|rfl<;>exact⟨rfl,rfl⟩) g.hid
 rw[f]at this;exact this
theorem D4.sum(g:D4 c s w d)(e)(a b)(o:w.grownBy w2 (d.rv 2).ownBlock)(k:(d.rv 2).ownBlock=some a\/w.heap.size<=a)(p:w2.ownsRow c.w0.heap.size (FH 2) (Gz 2) (S0 a (d.cur.length+1) b) (d.cur.length+1) (d.cur.flatMap W6++W6 e)):Ck c s w d (w2.setCell (A0 c.pb 5) (S0 a (d.cur.length+1) b)) (Nz d e (S0 a (d.cur.length+1) b)):=by
 have f:(Nz d e (S0 a (d.cur.length+1) b)).len 2=d.cur.length+1:=by simp[Dm.len,Nz]
 have r:(Nz d e (S0 a (d.cur.length+1) b)).xs 2=d.cur.flatMap W6++W6 e:=by simp[Dm.xs,Nz]
 have:=g.Afa 2 kX a b (Nz d e (S0 a (d.cur.length+1) b)) o k (by rw[f,r];exact p) rfl ⟨rfl,rfl⟩ (by rw[f];rfl) (fun h u v=>by
  have j:h=0\/h=1:=kX;rcases j with rfl|rfl<;>exact⟨rfl,rfl⟩) g.hid
 rw[f]at this;exact this
theorem D4.later(h:D4 c s w d)(b:Lt)(r:b.e.hid<d.DR.length/\Wk c s b)(a e)(p:w.grownBy w2 (d.rv 0).ownBlock)(o:(d.rv 0).ownBlock=some a\/w.heap.size<=a)(u:w2.ownsRow c.w0.heap.size (FH 0) (Gz 0) (S0 a (d.ls.length+1) e) (d.ls.length+1) (d.ls.flatMap (UW d.DR)++UW d.DR b)):Ck c s w d (w2.setCell (A0 c.pb 3) (S0 a (d.ls.length+1) e)) (JV d b (S0 a (d.ls.length+1) e)):=by
 have g:(JV d b (S0 a (d.ls.length+1) e)).len 0=d.ls.length+1:=by simp[Dm.len,JV]
 have v:(JV d b (S0 a (d.ls.length+1) e)).xs 0=d.ls.flatMap (UW d.DR)++UW d.DR b:=by simp[Dm.xs,JV]
 have:=h.Afa 0 kX a e (JV d b (S0 a (d.ls.length+1) e)) p o (by rw[g,v];exact u) rfl ⟨rfl,rfl⟩ (by rw[g];rfl) (fun j x y=>by
  have k:j=1\/j=2:=kX;rcases k with rfl|rfl<;>exact⟨rfl,rfl⟩) (fun l f=>by
   rcases aV.1 f with f|f;exact h.hid l f;simp at f;subst f;exact r)
 rw[g]at this;exact this
end
theorem YO(d)(a:Lt)(b):(JV d a b).ab=HB d.ab a.e:=by simp[JV,Dm.ab,HB]
end
theorem RE(h:p:=by
 go_ret2;exact A6.fail (by rw[ad.o]) (by rw[ad.o]) (Ck.refl al.o ak.o)):p:=h
theorem KM(s):∀ k n a,decV s (k+1) n a=decV s k n a*10+D1 s (a+k)
 | 0,n,a=>rfl
 | k+1,n,a=>by rw[decV,KM s k,decV,show a+1+k=a+(k+1)by omega]
theorem Vj(s n b):∀ m a,decV s a n b<=decV s (a+m) n b
 | 0,a=>aB _
 | m+1,a=>by
  have e:=Vj s n b m a;have f:=KM s (a+m) n b;rw[show a+(m+1)=a+m+1 by omega];omega
def P6(a:It)(b:Nat):Array aI:=(X_4 a.c a.w a.b a.r a.d a.pl (b+a.nx) a.rl)
def W8(m:Mx)(a:It)(t:Nat)(D:Dp):Pr:=if N4 m.s t/\(m.nm t).1<256 ^ a.w.toNat then⟨(m.nm t).2,true,Ek D (BP (decide (a.c=108)) a.w.toNat (m.nm t).1)⟩else⟨t,false,D⟩
theorem Aem{m}(o:E5 m){t}(k:Al m.s t):∃ n a,t<=a/\a<=m.s.size/\(∀ i,t<=i->i<a->N4 m.s i)/\¬ N4 m.s a/\decV m.s (a-t) 0 t=n/\n<4294967296/\∀ e D,W8 m e t D=if a≠t/\n<256 ^ e.w.toNat then⟨a,true,Ek D (BP (decide (e.c=108)) e.w.toNat n)⟩else⟨t,false,D⟩:=by
 by_cases g:N4 m.s t;obtain⟨f,_⟩:=o.nm t k g;have j:=f.tx.lt;refine⟨_,_,hM j,f.tx.le,f.tx.Yy,f.no,f.tx.dec,f.tx.n,fun e D=>?_⟩;unfold W8;by_cases h:(m.nm t).1<256 ^ e.w.toNat;rw[aF ⟨g,h⟩,aF ⟨by omega,h⟩];rw[aC (fun b=>h b.2),aC (fun b=>h b.2)];refine⟨0,t,aB _,k.le,fun i j p=>by omega,g,by rw[iO];rfl,by omega,fun e D=>?_⟩;unfold W8;rw[aC (fun b=>g b.1),aC (fun b=>b.1 rfl)]
theorem OE(c m)(an:E5 m)(dn w d t q)(v:Ei c m dn w d t q)(b)(k e:Nat)(bj:b.w=(e:Int))(A:e<=4):
 Calls prog 111 #[P0 c.pb,.agg (P6 b k),I0 (t:Nat)] w fun g w'=>A6 c m.s w d (W8 m b t d.ab) g w':=by
 obtain⟨n,f,a3,a4,V,X,Y,a5,a6⟩:=Aem an v.al;have ae:=a6 b d.ab;have bk:b.w.toNat=e:=kX;rw[bk]at ae;have b2:=v.len.1;have b3:=v.mem.lt;have bg:=an.s8;obtain⟨s,bh⟩:∃ s,m.s=s:=⟨_,rfl⟩;have x:=v.mem;rw[bh]at a4 V X Y bg x⊢;have ay:∀ p,(w.alloc p).cell? (A0 c.pb 1)=some (.string s):=fun p=>(Ac.alloc x.Ap p).cell 1
 have az:∀ p,(w.alloc p).cell? (A0 c.pb 2)=some (.string ⟨d.o.toArray⟩):=fun p=>(Ac.alloc x.Ap p).cell 2
 have al:=Aa x;have ar:=Aa V;have av:=Aa X;have L:=Aa Y;have y:=Aa ae;have S:=Aa (fun W:aE=>K3 e A W);generalize W8 m b t d.ab=R at*;unfold P6;rw[bj];go_enter func111,ntmps111;go_upto_block 0 with fail;have ba:=Ac.new w (X_4 b.c e b.b b.r b.d b.pl (k+b.nx) b.rl) 132;have ab:Below w.heap.size w (w.alloc (.cells (X_4 b.c e b.b b.r b.d b.pl (k+b.nx) b.rl) 132)):=(aO _ _).alloc (aB _) _;have bm:=ay (.cells (X_4 b.c e b.b b.r b.d b.pl (k+b.nx) b.rl) 132);have a0:=az (.cells (X_4 b.c e b.b b.r b.d b.pl (k+b.nx) b.rl) 132);have b4:w.heap.size<(w.alloc (.cells (X_4 b.c e b.b b.r b.d b.pl (k+b.nx) b.rl) 132)).heap.size:=kY;have K:=Aa ba;have ak:=Aa ab;have O:=Aa (al.o.more ab);generalize w.alloc (.cells (X_4 b.c e b.b b.r b.d b.pl (k+b.nx) b.rl) 132)=U at*;go_cut [8,9] (fun B u wc=>B=I0 (n:Nat)/\u=I0 (f:Nat)/\wc=U)
 case first=>
  go_wp2;go_loopw [8,9] (fun B u wr=>∃ i j:Nat,B=I0 j/\u=I0 i/\t<=i/\i<=f/\j<=n/\Hid (j=decV s (i-t) 0 t)/\wr=U) (fun _ u _=>f-(intOf u).toNat)
  case atStart=>exact⟨t,0,rfl,rfl,aB _,a3,bR _,(by rw[iO];rfl:0=decV s (t-t) 0 t),rfl⟩
  case round=>
   obtain⟨i,j,rfl,rfl,be,bz,bv,af,rfl⟩:=hrel;by_cases bf:i<f
   . have o:i<s.size:=by omega
     have am:=ar.o i be bf;have bc:D1 s i=(s[i].toNat)-48:=by unfold D1;rw[Cs s i o];omega
     unfold N4 at am;rw[Cs s i o]at am;have I:=Aa (show j*10+D1 s i=decV s (i+1-t) 0 t by rw[show i+1-t=(i-t)+1 by omega,KM,af.out,show t+(i-t)=i by omega]);have bi:j*10+D1 s i<=n:=by
      have h:=Vj s 0 t (f-(i+1)) (i+1-t);rw[show i+1-t+(f-(i+1))=f-t by omega,L.o,<- I.o]at h;exact h
     have z:48<=s[i].toNat:=kX;have bu:s[i].toNat<=57:=kX;go_wp2;go_roundw
     case rel=>exact⟨i+1,j*10+D1 s i,by rw[bc];go_num,by go_num,by omega,by omega,bi,I,by first|rfl|trivial⟩
     case measure=>simp[intOf];omega
   obtain rfl:i=f:=kX;have a8:n=j:=by rw[af.out];exact L.o.symm
   subst a8;have bd:¬ i<s.size\/(∃ h:i<s.size,¬ 48<=s[i].toNat)\/(∃ h:i<s.size,48<=s[i].toNat/\¬ s[i].toNat<=57):=by
    by_cases o:i<s.size;have ao:=av.o;unfold N4 at ao;rw[Cs s i o]at ao;by_cases z:48<=s[i].toNat;exact Or.inr (Or.inr ⟨o,z,by omega⟩);exact Or.inr (Or.inl ⟨o,z⟩);exact Or.inl o
   rcases bd with Z|⟨Z,a7⟩|⟨Z,a7,br⟩;all_goals
    go_wp2_with fail;go_meet
    case rel=>exact⟨rfl,rfl,rfl⟩
 case rest=>
  obtain⟨rfl,rfl,rfl⟩:=hcut;have bl:=K.o.c1;by_cases aj:f=t
  . subst aj;have ad:=Aa (show R=⟨f,false,d.ab⟩by rw[y.o,aC (fun g=>g.1 rfl)]);go_wp2;exact RE
  have b0:((f:Int)==(t:Int))=false:=lA;by_cases ai:n<256 ^ e
  . have aw:=Aa (y.o.trans (aF ⟨aj,ai⟩));have a9:¬ 256 ^ e<=n:=kX;generalize(256 ^ e:Nat)=ax at*;have b1:(BP (decide (b.c=108)) e n).length<=4:=by rw[BE];exact A
    have bx:¬ 9223372036854775807<d.o.length+(BP (decide (b.c=108)) e n).length:=kX;have M:Hid (∀ W,Kp [c.pb] wc W->W.cell? (A0 w.heap.size 0)=some (.int .u8 b.c)/\W.cell? (A0 w.heap.size 1)=some (I0 e)):=fun W a=>by
     have aq:=a.Ap K.o lA;exact⟨aq.cell 0,aq.cell 1⟩
    have ac:Kp [c.pb] wc (wc.drewN 1):=(Kp.refl _ _).drew 1;have bo:wc.drew.cell? (A0 c.pb 2)=some (.string ⟨d.o.toArray⟩):=a0;have bb:Below wc.heap.size wc (wc.drewN 1):=⟨rfl,rfl,rfl,aB _,fun _ _=>rfl⟩;have au:Hid (∀ W,Below wc.heap.size wc W->Calls prog 71 #[I0 (n:Nat),I0 (e:Nat),.bool (decide (b.c=108))] W fun g w'=>g=.returned (.string ⟨(BP (decide (b.c=108)) e n).toArray⟩)/\Below wc.heap.size wc w'/\w'.cell? (A0 c.pb 2)=some (.string ⟨d.o.toArray⟩)/\w'.frozen? (A0 c.pb 2)=false):=fun W a=>
     (J8 n e (decide (b.c=108)) a5 A W).mono fun g w' h=>by
       have ah:=a.trans (h.2.mono a.size);have ap:=O.o.Ap.below ah O.o.lt;exact⟨h.1,ah,ap.cell 2,ap.frozen 2⟩
    go_wp2_with (go_at_call 45;refine(S.o _).mono ?_;rintro g F⟨rfl,r⟩;rw[r];clear r F);refine E1 (fun W=>Kp [c.pb] wc W) [0,1,2,3,5,6,7,8,9,10] 4 11 [([],11),([12,13,14],15)] [([],4),([12,13,14],15)] rfl kZ (fun _ _ d _ _ h=>by cases d<;>exact h) ac ?_;refine jL ?_;refine k5 ?_;refine Ab (P0 c.pb) rfl (fun W a=>by go_simp) ?_;refine Ab (.pointer (some (A0 c.pb 2))) rfl (fun W a=>by go_simp) ?_;refine Ab _ rfl (fun W a=>rfl) ?_;refine Ab (.pointer (some (A0 w.heap.size 1))) rfl (fun W a=>by go_simp) ?_;refine Ab (I0 e) rfl (fun W a=>by obtain⟨a1,a2⟩:=M.o W a;go_simp) ?_;refine Ab (P0 w.heap.size) rfl (fun W a=>by go_simp) ?_;refine Ab (.int .u8 b.c) rfl (fun W a=>by obtain⟨a1,a2⟩:=M.o W a;go_simp) ?_;refine Ab (.bool (decide (b.c=108))) rfl (fun W a=>by go_simp;rfl) ?_;refine Ag ⟨⟨_,rfl,rfl,?za⟩,⟨_,rfl,rfl,?zb⟩⟩;all_goals
     unfold Oper.wp;go_simp
    case' za=>
     refine⟨ac,?_⟩;simp only[wpSeg,aP,aS,aQ,aJ,aK];refine Ag ⟨_,rfl,rfl,?_⟩;unfold Oper.wp;go_simp
    all_goals
     refine(au.o _ bb).mono ?_;rintro g w2⟨rfl,E,bp,bq⟩;refine⟨Kp.Bu E,?_⟩
    case' zb=>
     simp only[wpSeg,aP,aS,aQ,aJ,aK];refine Ag ⟨_,rfl,rfl,?_⟩;unfold Oper.wp;go_simp;refine⟨Kp.Bu E,?_⟩
    all_goals
     refine Ab (.string ⟨(d.o++BP (decide (b.c=108)) e n).toArray⟩) rfl (fun W a=>by go_simp;rw[DQ]) ?_;refine Ab (P0 c.pb) rfl (fun W a=>by go_simp) ?_;refine Ab (.pointer (some (A0 c.pb 2))) rfl (fun W a=>by go_simp) ?_;refine Ag ⟨_,rfl,rfl,?_⟩;unfold Oper.wp;go_simp;refine⟨(Kp.Bu E).setCell _ _ _ (Or.inl kY),?_⟩;have J:=Aa (ak.o.trans (E.mono ak.o.size));go_wp2;go_ret2;rw[aw.o];exact⟨f,_,rfl,fun _=>rfl,rfl,(Ck.refl al.o J.o).trans ((al.o.more J.o).Abf _)⟩
  have ad:=Aa (y.o.trans (aC (fun g=>ai g.2)));have a9:256 ^ e<=n:=kX;generalize(256 ^ e:Nat)=ax at*;go_wp2_with (go_at_call 45;refine(S.o _).mono ?_;rintro g F⟨rfl,r⟩;rw[r];clear r F);exact RE
section
open Go
def slT(i:Nat):TypeId:=if i=0 then 87 else if i=1 then 88 else 89
theorem Tryz.V9:((Tryz.prog.info? 171).map fun i=>(i.zero.map (fun a=>a.cells.size),i.size,i.bytes))=some (some 6,6,64):=kZ
theorem Tryz.XX:((Tryz.prog.info? 98).map fun i=>(i.zero.map (fun a=>a.cells.size),i.size,i.bytes))=some (some 4,4,32):=kZ
theorem Tryz.Ab7:((Tryz.prog.info? 101).map fun i=>(i.zero.map (fun a=>a.cells.size),i.size,i.bytes))=some (some 5,5,40):=kZ
theorem Zl(i)(v:i<3):∃ a b,Tryz.prog.info? (FH i)=some a/\a.zero=some b/\a.size=Gz i/\b.cells.size=Gz i/\a.bytes<=64:=by
 have k:∀ (t:TypeId) (e h:Nat),((Tryz.prog.info? t).map fun i=>(i.zero.map (fun b=>b.cells.size),i.size,i.bytes))=some (some e,e,h)->h<=64->∃ a b,Tryz.prog.info? t=some a/\a.zero=some b/\a.size=e/\b.cells.size=e/\a.bytes<=64:=by
  intro t e h f u
  cases p:Tryz.prog.info? t with
  | none=>rw[p]at f;cases f
  | some a=>
   rw[p]at f;simp only[cO,gW,Prod.mk.injEq]at f;obtain⟨g,r,o⟩:=f
   cases j:a.zero with
   | none=>rw[j]at g;cases g
   | some b=>rw[j]at g;exact⟨a,b,rfl,j,r,by simpa using g,by omega⟩
 have o:i=0\/i=1\/i=2:=kX;rcases o with rfl|rfl|rfl;rw[show FH 0=171 from rfl,show Gz 0=6 from rfl];exact k _ 6 64 Tryz.V9 kX;rw[show FH 1=98 from rfl,show Gz 1=4 from rfl];exact k _ 4 32 Tryz.XX kX;rw[show FH 2=101 from rfl,show Gz 2=5 from rfl];exact k _ 5 40 Tryz.Ab7 kX
theorem Af5(i)(b:i<3):Tryz.prog.underlying (slT i)=some (.slice (FH i)):=by
 have a:i=0\/i=1\/i=2:=kX;rcases a with rfl|rfl|rfl;exact Tryz.underlying87;exact Tryz.underlying88;exact Tryz.underlying89
theorem XK(i):0<Gz i:=by unfold Gz;split;omega;split<;>omega
theorem Acy{ops}{Q:Exit->Act->aE->Prop}{n}{e}{u:Act->aE->Prop}{j}{w}(S:ops[n]? = some e)(K:e.guard=none)(s z:Operand)(i)(x:i<3)(U:e.op=.call {callee:=.builtin .append,args:=#[s,z],argTypes:=#[slT i,slT i]})(h)(g)(a)(r)(Y:j.eval s=g)(V:w.ownsRow h (FH i) (Gz i) g a r)(p)(f)(Z:j.eval z=S0 p 1 1)(O:Ac w p f.toArray (FH i))(M:f.length=Gz i)(B:∀ y∈f,y.oneCell'=true)(aj:a<=1000000000)(J:h<=w.heap.size)(A:∀ b k w',w'.ownsRow h (FH i) (Gz i) (S0 b (a+1) k) (a+1) (r++f)->w.grownBy w' g.ownBlock->(g.ownBlock=some b\/w.heap.size<=b)->u (j.put e.dst (S0 b (a+1) k)) w'):KJ Tryz.prog ops Q n u j w:=by
 obtain⟨o,ah,aa,ab,ac,ad,ae⟩:=Zl i x;have ak:(a+1)*o.bytes<=(a+1)*64:=Nat.mul_le_mul_left _ ae;obtain⟨b,k,w',X,E,F,I,ai⟩:=run_append_lies (P:=Tryz.prog) w (slT i) e.type h (FH i) o ah (Gz i) o.bytes (Af5 i x) aa ab ac rfl ad (XK i) g a r V (A0 p 0) 1 1 f (by rw[M];omega)
  (fun af y L=>by rw[gA,eC,O.cell af,aQ];exact L) B kX lD kX J w.heap.size rfl
 refine⟨e,S,K,?_⟩;unfold Oper.wp execOp;simp only[U,resolve,invoke,builtin,fY,fO,gV,List.map_toArray,bX,dV,Y,Z,X];exact A b k w' E F (by rcases I with v|v;exact Or.inl v;exact Or.inr kX)
theorem Qg(b):∀ a∈hoD b,a.oneCell'=true:=by
 intro a hu;simp only[hoD,bB,jA,hY]at hu;rcases hu with rfl|rfl|rfl<;>rfl
theorem Mv(b:Ho × Nat):∀ a∈Ta b,a.oneCell'=true:=by
 intro a hu;rcases aV.1 hu with hu|hu;exact Qg _ a hu;simp at hu;subst hu;rfl
theorem Abl(b):∀ a∈W6 b,a.oneCell'=true:=by
 intro a hu;rcases aV.1 hu with hu|hu;exact Qg _ a hu;simp at hu;rcases hu with rfl|rfl<;>rfl
theorem D4.Uc{c s w d}(e:D4 c s w d){a}(f:w.heap.size<=a):a ∉ c.pb::d.rows:=by
 intro b;have:=(e.ge a (by rcases bB.1 b with rfl|b;exact aG;exact aH _ (bW _ b))).2;omega
theorem D4.hbn{c s w d}(g:D4 c s w d){a}(f:a∈d.DR):a ∉ c.pb::d.rows:=by
 have e:=g.nd;rw[bZ,bP]at e;intro b;rcases bB.1 b with rfl|b;exact e.1 (cE _ f);exact e.2.2.2 a b a f rfl
theorem IE{c}{s}{d}{ops}{Q:Exit->Act->aE->Prop}{n}{k}{x:Act->aE->Prop}{g}{w}(M:ops[n]? = some k)(I:k.guard=none)(u v:Operand)(i)(j:i<3)(O:k.op=.call {callee:=.builtin .append,args:=#[u,v],argTypes:=#[slT i,slT i]})(h:D4 c s w d)(U:g.eval u=d.rv i)(r)(f)(V:g.eval v=S0 r 1 1)(L:Ac w r f.toArray (FH i))(J:f.length=Gz i)(B:∀ X∈f,X.oneCell'=true)(K:d.len i<=1000000000)(y:aI->Dm)(E:∀ a b w2,w.grownBy w2 (d.rv i).ownBlock->((d.rv i).ownBlock=some a\/w.heap.size<=a)->w2.ownsRow c.w0.heap.size (FH i) (Gz i) (S0 a (d.len i+1) b) (d.len i+1) (d.xs i++f)->Ck c s w d (w2.setCell (A0 c.pb (3+i)) (S0 a (d.len i+1) b)) (y (S0 a (d.len i+1) b)))(A:∀ a n b e,Kp (c.pb::d.rows) w e->Ac e c.pb (wdC c.gb s d.o d.rv) 91->Ck c s w d (e.setCell (A0 c.pb (3+i)) (S0 a n b)) (y (S0 a n b))->x (g.put k.dst (S0 a n b)) e):KJ Tryz.prog ops Q n x g w:=by
 refine Acy M I u v i j O c.w0.heap.size (d.rv i) (d.len i) (d.xs i) U (h.row i j) r f V L J B K h.A9.size fun a b e S p F=>?_
 refine A a _ b e ((Kp.refl _ _).grown p (fun q o=>Or.inl (aH _ (Ep j o)))) (h.Ap.grown p fun o=>?_) (E a b e p F S);have z:=h.nd;rw[bZ]at z;exact z.1 (bW _ (Ep j o.symm))
end
abbrev k3(h:PLift q->p:=by
 intro aa;iterate 2 refine Ab _ rfl (fun W a=>by go_simp<;>rfl) ?_
 refine Ag ?_;exact aa.1):p:=h ⟨z⟩
abbrev lp(h:PLift q->p:=by
 intro aa;iterate 7 refine Ab _ rfl (fun W a=>by obtain⟨ab,ac,ai,b5⟩:=ar.o W a;go_simp<;>rfl) ?_
 refine Ab (.pointer (some (A0 ae (b*3)))) rfl (fun W a=>by go_simp;intro h;omega) ?_;iterate 3 refine Ab _ rfl (fun W a=>by obtain⟨ab,ac,ai,b5⟩:=ar.o W a;go_simp<;>rfl) ?_
 refine Ag ?_;exact aa.1):p:=h ⟨z⟩
theorem E0.drop{s}:∀ {l:aD UInt8} {b e:Nat},E0 s l b e->∀ a,a<=l.length->E0 s (l.drop a) (b+2*a) e
 | l,b,e,h,0,_=>h
 | [],b,e,h,a+1,f=>by simp at f
 | x::l,b,e,h,a+1,f=>by
  have:=E0.drop h.2.2.2 a (by simpa using f);rw[show b+2+2*a=b+2*(a+1)by omega]at this;exact this
theorem Vu(c):AG c<=15:=by unfold AG;split;omega;split<;>omega
theorem Zr(a b)(e:0<=a)(f:a<=15)(g:0<=b)(h:b<=15):(16*a+b) % 256=((UInt8.ofNat (16*a+b).toNat).toNat:Int):=by
 rw[fV];omega
theorem M4{W a b}(e:Ac W a #[.int .u8 b.toNat] 5):(convert 40 9 (S0 a 1 1)).run prog W=.ok (.string ⟨#[b]⟩) W:=by
 refine eE _ 40 9 5 (A0 a 0) 1 [b] underlying40 underlying5 underlying9 fun g f=>?_
 obtain rfl:g=0:=by simp at f;omega
 exact e.cell 0
theorem PT(a d)(b:d<8):(Hn a)[d*3]? = some (I0 (((a d).getD MB).pl:Nat))/\(Hn a)[d*3+1]? = some (I0 (((a d).getD MB).w:Nat))/\(Hn a)[d*3+2]? = some (.bool ((a d).getD MB).low):=by
 exact hz
structure HoI (d:Dm) (w:aE) (x:It) (hv:aI) (g:Ho) (i hb dd:Nat):Prop where
 hv:hv=S0 hb 8 8
 mem:d.DR[i]? = some hb
 xd:x.d=(dd:Int)
 lt:dd<8
 bl:hb<w.heap.size
 c0:w.cell? (A0 hb (dd*3))=some (I0 (g.pl:Nat))
 c1:w.cell? (A0 hb (dd*3+1))=some (I0 (g.w:Nat))
 c2:w.cell? (A0 hb (dd*3+2))=some (.bool g.low)
theorem HoI.of{c s w d x hv hid i}(h:D4 c s w d)(v:Zx d hid hv)(j:hid=some i)(h0:0<=x.d)(y:x.d<8):∃ a,HoI d w x hv (dHole d.ab hid x.d.toNat) i a x.d.toNat:=by
 obtain⟨a,e,r⟩:=v i j;subst j;have f:=(bI.1 e).1;have g:d.AS[i]? = some (d.AS[i]'(by rw[<- h.DC];exact f)):=bA _;have b:=h.ho i a _ e g;obtain⟨k,o,p⟩:=PT (d.AS[i]'(by rw[<- h.DC];exact f)) x.d.toNat kX;have u:dHole d.ab (some i) x.d.toNat=((d.AS[i]'(by rw[<- h.DC];exact f)) x.d.toNat).getD MB:=by
  unfold dHole Dm.ab;simp only[aZ,g,fP]
 rw[u];exact⟨a,r,e,by omega,by omega,b.lt,(b.cell _).trans k,(b.cell _).trans o,(b.cell _).trans p⟩
structure PW (c:Rx) (s:aA) (d:Dm) (W0:aE) (run:aD UInt8) (k:Nat) (wr:aE):Prop where
 mem:D4 c s wr {d with o:=d.o++run.take k}
 kp:Kp [c.pb] W0 wr
theorem PW.next{c s d e b a wr w2}(f:PW c s d e b a wr)(g:Below wr.heap.size wr w2):
 PW c s d e b (a+1) (w2.setCell (A0 c.pb 2) (.string ⟨(d.o++b.take (a+1)).toArray⟩)):=
 ⟨(f.mem.more g).out _,(f.kp.trans (o':=[]) (Kp.Bu g) (fun _ h=>by cases h)).setCell _ _ _ (Or.inl kY)⟩
def Aau(m:Mx)(a:It)(hid:aM Nat)(t:Nat)(D:Dp):Pr:=if bt m.s t=34 then⟨(m.rn t).2,true,if a.c=114 then Dx (Ek D (m.rn t).1) (dHole D hid a.d.toNat) (m.rn t).1.length else Ek D (m.rn t).1⟩else⟨t,false,D⟩
theorem Tb(c m)(K:E5 m)(dn w d t q)(J:Ei c m dn w d t q)(g I)(A:g.c=46\/g.c=114)(hid bx)(U:g.c=114->∃ i ae b,HoI d w g bx (dHole d.ab hid g.d.toNat) i ae b):
 Calls prog 113 #[P0 c.pb,.agg (P6 g I),I0 (t:Nat),bx] w fun S w'=>A6 c m.s w d (Aau m g hid t d.ab) S w':=by
 have cq:=J.len;have cs:=J.mem.lt;have br:=K.s8;have bv:=J.al.le;have ap:=K.rn t J.al;have L:Hid (Aau m g hid t d.ab=if bt m.s t=34 then⟨(m.rn t).2,true,if g.c=114 then Dx (Ek d.ab (m.rn t).1) (dHole d.ab hid g.d.toNat) (m.rn t).1.length else Ek d.ab (m.rn t).1⟩else⟨t,false,d.ab⟩):=rfl;generalize Aau m g hid t d.ab=R at*;obtain⟨s,bu⟩:∃ s,m.s=s:=⟨_,rfl⟩;have X:=J.mem;rw[bu]at X br bv ap L⊢;generalize(m.rn t).2=k at*;generalize(m.rn t).1=e at*;have a0:Below w.heap.size w (w.alloc (.cells (P6 g I) 132)):=(aO _ _).alloc (aB _) _;have bh:(w.alloc (.cells (P6 g I) 132)).cell? (A0 c.pb 1)=some (.string s):=(Ac.alloc X.Ap _).cell 1;have O:=Aa (EJ s br _ c.pb t bh bv 34 lC);have cu:(w.alloc (.cells (P6 g I) 132)).heap.size=w.heap.size+1:=kY;have al:=Aa X;have b7:=Aa (X.more a0);have b4:=Aa (Ac.new w (P6 g I) 132);have ak:=Aa a0;clear J a0 X bu K;by_cases z:bt s t=34
 rotate_left
 . have y:Hid (¬ bt s t=((34:UInt8).toNat:Int)):=z;have ad:=Aa (L.o.trans (aC z));rw[aC y.o,bJ y.o]at O;clear ap L z y U;unfold P6 at*;go_enter func113,ntmps113;go_wp2_with (go_at_call 112;refine O.o.mono ?_;rintro S ba⟨rfl,Z⟩;rw[Z];clear Z ba);exact RE
 have y:Hid (bt s t=((34:UInt8).toNat:Int)):=z;have M:=Aa (L.o.trans (aF z));rw[aF y.o,bF y.o]at O;have a8:=(ap z).1;obtain⟨t1,t2,t3⟩:=a8.lt;have ah:=Aa a8;clear ap L z y a8;unfold P6 at*;go_enter func113,ntmps113;go_upto_block 0 with(go_at_call 112;refine O.o.mono ?_;rintro S ba⟨rfl,Z⟩;rw[Z];clear Z ba);clear O bh;generalize w.alloc (.cells (X_4 g.c g.w g.b g.r g.d g.pl (I+g.nx) g.rl) 132)=am at*;go_cut [10,12] (fun a9 af wc=>a9=I0 ((k-1:Nat):Int)/\af=I0 (e.length:Nat)/\Hid (PW c s d am e e.length wc))
 case first=>
  go_wp2;go_loopw [10,12] (fun a9 af wr=>∃ f:Nat,a9=I0 ((t+1+2*f:Nat):Int)/\af=I0 (f:Nat)/\f<=e.length/\Hid (PW c s d am e f wr)) (fun _ af _=>e.length-(intOf af).toNat)
  case atStart=>exact⟨0,rfl,rfl,bR _,(⟨by rw[cK,dI];exact b7.o,Kp.refl _ _⟩:PW c s d am e 0 am)⟩
  case round=>
   obtain⟨f,rfl,rfl,V,j⟩:=hrel;have Y:=ah.o.drop f V;obtain⟨i,a6⟩:∃ i,t+1+2*f=i:=⟨_,rfl⟩;have bz:=j.out.mem.Ap.c1;by_cases bo:f<e.length
   . rw[a6]at Y⊢;rw[cF bo]at Y;obtain⟨B,E,au,ch⟩:=Y;have cd:=cB fun h=>by rw[DM s _ h]at E;exact absurd E lC
     have a7:i<s.size:=kX;rw[Cs s i a7]at B au;rw[Cs s (i+1) cd]at E au;have cr:¬ (s[i].toNat:Int)=34:=fun S=>by rw[S]at B;exact absurd B lC
     have b2:=Vu (s[i].toNat:Int);have b3:=Vu (s[i+1].toNat:Int);have bd:=Aa (fun W=>B1 (s[i].toNat:Int) W);have be:=Aa (fun W=>B1 (s[i+1].toNat:Int) W);have aw:=Aa (Zr _ _ B b2 E b3);rw[<- au]at aw;have b0:q_ wr c.pb 2 (.string ⟨(d.o++e.take f).toArray⟩):=j.out.mem.Ap.cell 2;clear au ch;generalize AG (s[i].toNat:Int)=av at*;generalize AG (s[i+1].toNat:Int)=bb at*;go_wp2_with fail;have bj:Kp [c.pb] wr wr.drew/\wr.drew.cell? (A0 c.pb 1)=some (.string s):=⟨(Kp.refl _ _).drew 1,bz⟩;refine Bo (fun W=>Kp [c.pb] wr W/\W.cell? (A0 c.pb 1)=some (.string s)) 29 kZ rfl ?_;refine A2 (fun _ _ d _ _ h=>by cases d<;>exact h) [0,1,2,3,5,6,7,8,9,10,11,12,13,14,15,16,17,18,19,20,21,22] 7 29 _ _ _ kZ ?_;refine jL ?_;iterate 10 refine Ab _ rfl (fun W a=>by have ab:=a.2;go_simp<;>rfl) ?_
     refine Rm (I0 av) rfl 110 #[.int .u8 (s[i].toNat:Int)] (fun W a=>by go_simp) (fun W a=>bd.o W) ?_;refine Ab (I0 (16*av)) rfl (fun W a=>by go_simp;rw[dD];omega) ?_;iterate 5 refine Ab _ rfl (fun W a=>by have ab:=a.2;go_simp<;>rfl) ?_
     refine Ab (I0 (i+1)) rfl (fun W a=>by go_simp;rw[dD];omega) ?_;refine Ab (.int .u8 (s[i+1].toNat:Int)) rfl (fun W a=>by go_simp;rw[dif_pos ⟨by omega,by omega⟩];rfl) ?_;refine Rm (I0 bb) rfl 110 #[.int .u8 (s[i+1].toNat:Int)] (fun W a=>by go_simp) (fun W a=>be.o W) ?_;refine Ab (I0 (16*av+bb)) rfl (fun W a=>by go_simp;rw[dD];omega) ?_;refine Ab (.int .u8 (e[f].toNat:Int)) rfl (fun W a=>by go_simp;exact aw.o) ?_;refine Ag ?_;have cw:wr.drew.cell? (A0 c.pb 2)=some (.string ⟨(d.o++e.take f).toArray⟩):=b0;obtain⟨p,u⟩:∃ W,(wr.alloc (.cells #[.int .u8 (e[f].toNat:Int)] 5)).drew=W:=⟨_,rfl⟩;have v:=u▸((aO wr.heap.size wr).alloc (aB _) _).drew;have ao:=j.out.mem.more v;have cv:q_ p c.pb 2 (.string ⟨(d.o++e.take f).toArray⟩):=ao.Ap.cell 2;have ck:=ao.Ap.frozen 2;have aj:(Kp [c.pb] wr p/\p.cell? (A0 c.pb 1)=some (.string s))/\Ac p wr.heap.size #[.int .u8 (e[f].toNat:Int)] 5:=⟨⟨Kp.Bu v,ao.Ap.cell 1⟩,u▸Ac.new wr _ _⟩;have ct:=j.out.mem.lt;have bc:=Aa (j.out.next v);have cc:(Kp [c.pb] wr (p.setCell (A0 c.pb 2) (.string ⟨(d.o++e.take (f+1)).toArray⟩))/\(p.setCell (A0 c.pb 2) (.string ⟨(d.o++e.take (f+1)).toArray⟩)).cell? (A0 c.pb 1)=some (.string s))/\Ac (p.setCell (A0 c.pb 2) (.string ⟨(d.o++e.take (f+1)).toArray⟩)) wr.heap.size #[.int .u8 (e[f].toNat:Int)] 5:=
      ⟨⟨aj.1.1.setCell _ _ _ (Or.inl kY),bc.o.mem.Ap.cell 1⟩,aj.2.Ad (A0 c.pb 2) lB _⟩
     have b6:Hid ((⟨(d.o++e.take f).toArray⟩:aA)++⟨#[e[f]]⟩=⟨(d.o++e.take (f+1)).toArray⟩):=by
      have:(⟨(d.o++e.take f).toArray⟩:aA)++⟨[e[f]].toArray⟩=⟨(d.o++e.take (f+1)).toArray⟩:=by rw[DQ,bO,List.take_append_getElem bo]
      exact this
     have cp:(⟨(d.o++e.take f).toArray⟩:aA).size<=1000008000:=by rw[Cv,aR,cX];omega
     have az:=Aa u;clear bz b0 j ao v u U M aw bd be ah;generalize(⟨(d.o++e.take f).toArray⟩:aA)=ci at*;generalize(⟨(d.o++e.take (f+1)).toArray⟩:aA)=ca at*;generalize e[f]=b1 at*;refine En 4 23 kZ bj ⟨_,rfl,rfl,?za⟩ ⟨_,rfl,rfl,?zb⟩;all_goals
      unfold Oper.wp;go_simp
     case' za=>
      refine AZ 23 kZ bj ⟨_,rfl,rfl,?_⟩;unfold Oper.wp;go_simp
     all_goals
      rw[az.o];refine Kq (C':=fun W=>(Kp [c.pb] wr W/\W.cell? (A0 c.pb 1)=some (.string s))/\Ac W wr.heap.size #[.int .u8 b1.toNat] 5) (fun W h=>h.1) _ _ _ _ ?_
     case' za=>refine A2 (fun _ _ d _ _ h=>by cases d<;>exact h) [24] 4 5 _ _ _ kZ ?_
     case' zb=>refine A2 (fun _ _ d _ _ h=>by cases d<;>exact h) [24] 5 6 _ _ _ kZ ?_
     all_goals
      refine jL ?_;refine Ab (.string ⟨#[b1]⟩) rfl (fun W a=>by have ab:=M4 a.2;go_simp) ?_;refine Ag ?_
     case' zb=>
      refine AZ 4 kZ aj ⟨_,rfl,rfl,?_⟩;unfold Oper.wp;go_simp
     all_goals
      refine A2 (fun _ _ d _ _ h=>by cases d<;>exact h) [25,26,27] 1 4 _ _ _ kZ ?_;refine jL ?_;refine Ab (.string ca) rfl (fun W a=>by go_simp;rw[aC kX,b6.o]) ?_;refine k3 ?_;refine AZ 28 kZ aj ⟨_,rfl,rfl,?_⟩;unfold Oper.wp;go_simp;refine DV (P:=prog) kZ cc ?_;go_wp2;go_roundw
      case rel=>exact⟨f+1,by rw[<- a6];go_num,by go_num,by omega,bc⟩
      case measure=>simp[intOf];omega
   obtain rfl:f=e.length:=kX;rw[hE]at Y;obtain⟨B,E⟩:=Y;rw[a6]at B E⊢;have a7:=AT s i kX;rw[Cs s i a7]at B;subst E;go_wp2_with fail;go_meet
   case rel=>exact⟨rfl,rfl,j⟩
 case rest=>
  obtain⟨rfl,rfl,j⟩:=hcut;have a1:((k-1:Nat):Int)+1=(k:Int):=kX;have cm:k<=8000:=kX;clear t2;obtain⟨bf,bk⟩:∃ bf,k-1=bf:=⟨_,rfl⟩;rw[bk]at a1⊢;clear bk;have F:Hid (Ck c s w d wc {d with o:=d.o++e}):=by
   have bp:=j.out.mem;rw[fQ]at bp;have:Ck c s w d wc {d with o:=d.o++e}:=⟨bp,(Kp.Bu ak.o).trans j.out.kp (fun k K=>by simp at K;subst K;exact Or.inl aG),fun k h=>Or.inl h,[],by simp,fun k h=>by cases h⟩;exact this
  have cn:w.heap.size≠c.pb:=kX;have an:=j.out.kp.Ap b4.o lA;have bg:=an.c0;rcases A with A|A
  . rw[A]at bg;have ax:=Aa (M.o.trans (by rw[aC kX]));clear j an U ah M;go_wp2;go_ret2;rw[ax.o];exact⟨k,_,by rw[<- a1];rfl,fun _=>rfl,rfl,F.o⟩
  obtain⟨i,ae,b,x⟩:=U A;have ax:=Aa (M.o.trans (by rw[aF A]));have cf:=x.hv;subst cf;generalize dHole d.ab hid g.d.toNat=r at*;rw[A]at bg;have co:=x.lt;have a5:=al.o.hbn (bH x.mem);have a4:=x.bl;have cg:=al.o.Uc (aB _);have bm:=F.o.kp;have ar:Hid (∀ W,Kp (c.pb::d.rows) wc W->W.cell? (A0 w.heap.size 4)=some (I0 b)/\W.cell? (A0 ae (b*3))=some (I0 (r.pl:Nat))/\W.cell? (A0 ae (b*3+1))=some (I0 (r.w:Nat))/\W.cell? (A0 ae (b*3+2))=some (.bool r.low)):=fun W a=>by
   have ab:=a.Ap an cg;have V:=bm.trans a (fun k h=>Or.inl h);exact⟨by rw[<- x.xd];exact ab.cell 4,(V.cell a4 a5 _).trans x.c0,(V.cell a4 a5 _).trans x.c1,(V.cell a4 a5 _).trans x.c2⟩
  have bl:Kp (c.pb::d.rows) wc wc.drew:=(Kp.refl _ _).drew 1;obtain⟨p,u⟩:∃ W,(wc.alloc (.cells #[I0 (r.pl:Nat),I0 (r.w:Nat),.bool r.low,I0 (e.length:Nat)] 98)).drew=W:=⟨_,rfl⟩;have v:=u▸((aO wc.heap.size wc).alloc (aB _) _).drew;have ce:Ac p wc.heap.size (Ta (r,e.length)).toArray (FH 1):=u▸Ac.new wc _ _;have ay:=Aa (F.o.mem.more v);have b8:=Aa (F.o.trans (Ck.refl F.o.mem v));have a2:Kp (c.pb::d.rows) wc p:=Kp.Bu v;have cy:q_ p c.pb 4 (d.rv 1):=ay.o.Ap.cell 4;have cz:wc.drew.cell? (A0 c.pb 4)=some (d.rv 1):=F.o.mem.Ap.cell 4;have az:=Aa u;clear j bm an U ah v u M x;go_wp2_with fail;refine Bo (fun W=>Kp (c.pb::d.rows) wc W) 17 kZ rfl ?_;refine A2 (fun _ _ d _ _ h=>by cases d<;>exact h) [0,1,2,3,5,6,7,8,9,10,11] 6 17 _ _ _ kZ ?_;refine jL ?_;refine lp ?_;refine En 4 12 kZ bl ⟨_,rfl,rfl,?zc⟩ ⟨_,rfl,rfl,?zd⟩;all_goals
   unfold Oper.wp;go_simp
  case' zc=>
   refine AZ 12 kZ bl ⟨_,rfl,rfl,?_⟩;unfold Oper.wp;go_simp
  all_goals rw[az.o]
  case' zd=>
   refine AZ 4 kZ a2 ⟨_,rfl,rfl,?_⟩;unfold Oper.wp;go_simp
  all_goals
   refine AZ 13 kZ a2 ?_;refine IE rfl rfl _ _ 1 kX rfl ay.o rfl wc.heap.size (Ta (r,e.length)) rfl ce rfl (Mv _) (by simp[Dm.len];omega) (FK {d with o:=d.o++e} (r,e.length)) (fun bi cb w2 ab ac ai=>ay.o.tell _ bi cb ab ac ai) ?_;intro bi nq cj cx aq a3 bq;have aq:=a2.trans aq (fun k h=>Or.inl h);have b9:=Aa (b8.o.trans bq);have cl:=a3.frozen 4;have c0:=a3.cell 4;clear bq a3;refine A2 (fun _ _ d _ _ h=>by cases d<;>exact h) [14,15] 1 3 _ _ _ kZ ?_;refine jL ?_;refine k3 ?_;refine AZ 16 kZ aq ⟨_,rfl,rfl,?_⟩;unfold Oper.wp;go_simp;refine DV (P:=prog) kZ (aq.setCell _ _ _ (Or.inl aG)) ?_;go_wp2;go_ret2;rw[ax.o];exact⟨k,_,by rw[<- a1];rfl,fun _=>rfl,rfl,b9.o⟩
abbrev mQ(h:PLift q->p:=by
 intro aa;have a5:=b.o.c0;have a6:=b.o.c1;have e:=b.o.c2;have a7:=b.o.c3;have a8:=b.o.c4;have bq:∀ f,wr.frozen? (A0 (w.heap.size+1) f)=false:=fun f=>b.o.frozen f
 revert a5 a6 e a7 a8 bq;exact aa.1):p:=h ⟨z⟩
abbrev mR(h:PLift q->p:=by
 intro aa;have ab:=a.o.c1;have ac:=a.o.c2;have af:=a.o.c3;have ai:=a.o.c4;revert ab ac af ai;exact aa.1):p:=h ⟨z⟩
theorem Z9(l a):FQ l a a true=l:=by
 exact nK
theorem Xk(l b a)(j:b<=a):(FQ l b a true).set a true=FQ l b (a+1) true:=by
 apply fA (by rw[List.length_set,Ca,Ca]);intro i h e;rw[Ca]at e;rw[List.getElem_set,Gk _ _ _ _ _ e,Gk _ _ _ _ _ e];by_cases g:a=i;subst g;rw[aF rfl,aF kX];rw[aC g];by_cases f:b<=i/\i<a;rw[aF f,aF kX];rw[aC f,aC kX]
theorem Abu(rd a b):(Q9 rd).setIfInBounds a (.bool b)=Q9 (rd.set a b):=by
 unfold Q9;rw[List.map_set];simp
theorem QN(rd a b n)(e:¬ n<=b-a):AQ rd a b n=false:=by simp[AQ,e]
theorem R6(rd b e n a)(g:a<n)(f:rd.getD (b+a) false=true):AQ rd b e n=false:=by
 have:((List.range n).any fun a=>rd.getD (b+a) false)=true:=by rw[eS];exact⟨a,eN.2 g,f⟩
 unfold AQ;rw[this];simp
theorem Ry(rd b e n)(f:n<=e-b)(h:∀ a,a<n->rd.getD (b+a) false=false):AQ rd b e n=true:=by
 have:((List.range n).any fun a=>rd.getD (b+a) false)=false:=by
  rw[List.any_eq_false];intro a g;rw[h a (eN.1 g)];simp
 unfold AQ;rw[this];simp[f]
def Wp(w:aE)(st:PS)(f m b n:Nat)(e:Ending)(w':aE):Prop:=
 Below w.heap.size w w'/\(AQ st.rd st.pl st.en n=true->∃ a,e=.returned (.tuple #[.agg (AA (AB st n) a m b),.bool true])/\TV w' a (AB st n).rd/\w.heap.size<=a)/\
 (AQ st.rd st.pl st.en n=false->e=.returned (.tuple #[.agg (AA st f m b),.bool false]))
theorem Tryz.ZH:(prog.info? 4).map (·.size)=some 1:=kZ
theorem T0(w a b e m rd)(r:TV w e rd)(g:rd.length=m)(y:m<=4000):
 ∃ h f,Sem.run prog (Instr.makeSlice 137 (I0 m) (I0 m)) ((w.alloc a).alloc b)=.ok (S0 (w.heap.size+1+1) m m) h/\
  (∀ k,Sem.run prog (Builtin.copy_ #[137,137] k #[S0 (w.heap.size+1+1) m m,S0 e m m]) h=.ok (I0 m) f)/\
  Ac f (w.heap.size+1+1) (Q9 rd) 4/\Below (w.heap.size+1+1) ((w.alloc a).alloc b) f/\f.heap.size=w.heap.size+3/\Below (w.heap.size+1+1) ((w.alloc a).alloc b) h:=by
 have B:=r.lt;have u:((w.alloc a).alloc b).heap.size=w.heap.size+1+1:=kY;have p:=Qu m y ((w.alloc a).alloc b);rw[u]at p;have o:Ac (((w.alloc a).alloc b).alloc (.cells ((List.replicate m false).map Value.bool).toArray 4)) (w.heap.size+1+1) ((List.replicate m false).map Value.bool).toArray 4:=by
  have:=Ac.new ((w.alloc a).alloc b) ((List.replicate m false).map Value.bool).toArray 4;rw[u]at this;exact this
 have z:TV (((w.alloc a).alloc b).alloc (.cells ((List.replicate m false).map Value.bool).toArray 4)) e rd:=Ac.alloc (Ac.alloc (Ac.alloc r _) _) _;refine⟨_,(((w.alloc a).alloc b).alloc (.cells ((List.replicate m false).map Value.bool).toArray 4)).setRow (w.heap.size+1+1) (Q9 rd),p,fun k=>?_,?_,?_,?_,(aO _ _).alloc kY _⟩;have:=run_copy_row (P:=prog) _ 137 137 k 4 (w.heap.size+1+1) 0 m m (A0 e 0) m m ((List.replicate m false).map Value.bool).toArray 4 (rd.map Value.bool) underlying137 Tryz.ZH o (by simp[g]) (fun j A hu=>?_) (by simp[g]) (fun A hu=>by
  obtain⟨E,_,rfl⟩:=dF.1 hu;rfl)
 have v:goInt (rd.map Value.bool).length=I0 m:=by rw[cM,g];rfl
 have x:((((List.replicate m false).map Value.bool).toArray.toList.take 0++rd.map Value.bool++((List.replicate m false).map Value.bool).toArray.toList.drop (0+(rd.map Value.bool).length)).toArray)=Q9 rd:=by
  rw[cK,cL,dN (by simp[g]),dI];rfl
 rw[v,x]at this;exact this;have:((A0 e 0):Addr).add j=(A0 e j):=by unfold Addr.add;split<;>simp_all
 rw[this,z.cell j];simpa[Q9]using hu;exact jD _ _ _ _ _ _ o;exact below_setRow ((aO _ _).alloc kY _) (aB _) _;simp[World.setRow]
theorem FF(w ax st)(h m j n:Nat)(I:TV w h st.rd)(au:st.rd.length=m)(av:m<=4000)(a4:st.pl<=st.en)(a0:st.en<=m)(a3:n<=4294967296):
 Calls prog 163 #[ax,.agg (AA st h m j),I0 n] w fun Y w'=>Wp w st h m j n Y w':=by
 have a9:=I.lt;have S:=Aa I;have r:=Aa au;unfold AA;by_cases aq:n<=st.en-st.pl
 . have ap:¬ (st.en:Int)-(st.pl:Int)<(n:Int):=by omega
   obtain⟨X,A,aw,al,aj,u,ba,ak⟩:=T0 w (.cells (AA st h m j) 140) (.cells X_2 140) h m st.rd S.o r.o av;have ad:=(Ac.alloc (Ac.new w (AA st h m j) 140) _).below u kX;have ah:Ac A (w.heap.size+1) X_2 140:=by
    have:=Ac.new (w.alloc (.cells (AA st h m j) 140)) X_2 140;have Z:=this.below u kY;simpa using Z
   have ae:=(((aO w.heap.size w).alloc (aB _) _).alloc kY _).trans (u.mono kX);have be:q_ X w.heap.size 2 (S0 h m m):=((Ac.alloc (Ac.new w (AA st h m j) 140) _).below ak kX).cell 2;have x:=Aa ad;have V:=Aa ah;have z:=Aa ae;have U:=Aa aj;have az:=al 3;have bd:=x.o.c0;unfold AA at aw;go_enter func163,ntmps163;go_wp2;go_loopw [9] (fun v wr=>∃ i:Nat,v=I0 i/\st.pl<=i/\i<=st.pl+n/\Hid (∀ f,f<i-st.pl->st.rd.getD (st.pl+f) false=false)/\Hid (Ac wr (w.heap.size+1+1) (Q9 (FQ st.rd st.pl i true)) 4)/\Hid (Below (w.heap.size+1+1) A wr)) (fun v _=>st.pl+n-(intOf v).toNat)
   case atStart=>
    refine⟨st.pl,rfl,aB _,by omega,fun f E=>by omega,?_,aO _ _⟩;have g:=U.o;rw[<- Z9 st.rd st.pl]at g;exact g
   case round=>
    obtain⟨i,rfl,am,a1,F,p,k⟩:=hrel;have bb:=k.out.size;have a:=Aa (x.o.below k.out kX);have b:=Aa (V.o.below k.out kX);have bc:=a.o.c0;by_cases a2:i<st.pl+n
    . have ar:(i:Int)<(st.pl:Int)+(n:Int):=by omega
      have B:i<m:=kX;have J:wr.cell? (A0 (w.heap.size+1+1) i)=some (.bool (st.rd.getD i false)):=by
       have g:=p.out.cell i;rw[Vd _ _ (by rw[Ca,r.o];exact B),KL _ _ _ _ _ (by rw[r.o];exact B),aC kX]at g;exact g
      cases o:st.rd.getD i false
      . rw[o]at J;have ay:=p.out.frozen i;have O:Hid (∀ f,f<i+1-st.pl->st.rd.getD (st.pl+f) false=false):=fun f E=>by
         by_cases ao:f<i-st.pl;exact F.out f ao;rw[show st.pl+f=i by omega];exact o
        have y:=Aa (p.out.set i (.bool true));rw[Abu,Xk _ _ _ am]at y;go_wp2;go_roundw
        case rel=>exact⟨i+1,by go_num,by omega,by omega,O,y,k.out.setCell (p:=(A0 (w.heap.size+1+1) i)) (aB _) _⟩
        case measure=>simp[intOf];omega
      . rw[o]at J;have L:=Aa (R6 st.rd st.pl st.en n (i-st.pl) kX (by rw[show st.pl+(i-st.pl)=i by omega];exact o));refine mR ?_;intro ab ac af ai;refine mQ ?_;intro a5 a6 e a7 a8 bq;go_wp2;refine aT (v:=.tuple #[.agg (AA st h m j),.bool false]) (by simp[results,results163,go_sem,AA,a5,a6,e,a7,a8]) rfl ?_;refine⟨Hl (z.o.trans (k.out.mono kX)) (b:=w.heap.size+1) kX _ _ _ _ _,fun g=>?_,fun _=>rfl⟩;rw[L.o]at g;cases g
    have ar:¬ (i:Int)<(st.pl:Int)+(n:Int):=kX;have an:i=st.pl+n:=kX;subst an;have M:=Aa (Ry st.rd st.pl st.en n kX (fun f E=>F.out f kX));refine mR ?_;intro ab ac af ai;have ay:∀ f,wr.frozen? (A0 w.heap.size f)=false:=fun f=>a.o.frozen f
    refine mQ ?_;intro a5 a6 e a7 a8 bq;go_wp2;refine aT (v:=.tuple #[.agg (AA (AB st n) (w.heap.size+1+1) m j),.bool true]) (by simp[results,results163,go_sem,AA,AB,a5,a6,e,a7,a8]) rfl ?_;refine⟨Hl (((z.o.trans (k.out.mono kX)).setCell (p:=(A0 w.heap.size 2)) (aB _) _).setCell (p:=(A0 w.heap.size 0)) (aB _) _) (b:=w.heap.size+1) kX _ _ _ _ _,fun _=>⟨w.heap.size+1+1,rfl,?_,by omega⟩,fun g=>?_⟩;exact((p.out.Ad (A0 w.heap.size 2) lB _).Ad (A0 w.heap.size 0) lB _).Ar (b:=w.heap.size+1) kX _ _ _ _ _;rw[M.o]at g;cases g
 have ap:(st.en:Int)-(st.pl:Int)<(n:Int):=kX;have K:=Aa (QN st.rd st.pl st.en n aq);go_enter func163,ntmps163;go_wp2;refine aT (v:=.tuple #[.agg (AA st h m j),.bool false]) (by simp[results,results163,go_sem,AA]) rfl ?_;refine⟨((aO _ _).alloc (aB _) _).alloc kY _,fun g=>?_,fun _=>rfl⟩;rw[K.o]at g;cases g
theorem nJ(h:p:=by
 refine kj ?_;intro e w2 E b4 bj bc cc br b7 b6 b8 b9 ca bu a2 a9 bv bg _
 cases z:AQ st.rd st.pl st.en n
 . rw[bj z];rw[z]at b3;clear b4 bj z;unfold AA;go_wp2_with fail;have r:=Aa (bc.o.below ((aO _ _).alloc (aB _) (.cells (X_0 st.pl st.en g c.bs.size c.bs.size j st.Af) 140)));refine(CH _ c.pb c.gb c.bs k c.N v 0 st.pl st g c.bs.size j r.o.pg).mono ?_;rintro e aq⟨rfl,cg,ck⟩;obtain⟨a4,bi,bo,bb⟩:=r.o.next ck cg;obtain⟨a5,a6,bf,a7,a8,bq⟩:=bb.Bi;have b2:=Aa a4;have cr:=Aa cg;clear a4 bi bo bb cg ck;unfold EI AA;go_wp2;refine aT (v:=.tuple (X_5 (AA st g c.bs.size j) (⟨#[]⟩))) ld rfl ?_;rw[b3.o];simp only[bT,cT];exact AO.fail (b2.o.BB (b:=w.heap.size+1) kX _ _ _ _ _) rfl (Ac.Ar cr.o (b:=w.heap.size+1) kX _ _ _ _ _)
 obtain⟨u,cf,cz,c6⟩:=b4 z;rw[cf];rw[z]at b3;have c0:=Aa cz;have c5:st.pl+n<=c.bs.size:=by have:=Gn z;omega
 clear b4 bj z cz;have r:=Aa (bc.o.below ((aO _ _).alloc (aB _) (.cells (AA (AB st n) u c.bs.size j) 140)));have L:=Aa (Ac.new w2 (AA (AB st n) u c.bs.size j) 140);unfold AA AB at r L;simp only[cZ]at r L;unfold AA AB;go_wp2_with fail;have c2:=Aa (Ac.alloc cc (.cells (X_0 (st.pl+n) st.en u c.bs.size c.bs.size j st.Af) 140));have cl:=Aa (Ac.alloc c0.out (.cells (X_0 (st.pl+n) st.en u c.bs.size c.bs.size j st.Af) 140));generalize w2.alloc (.cells (X_0 (st.pl+n) st.en u c.bs.size c.bs.size j st.Af) 140)=co at*;have c7:=L.o.c0;have cp:=r.o.box.c0;have am:=r.o.pg.c1;have c8:=c2.o.c0;clear bu a2 a9 bv bg;go_quiet (fail);go_wp2_with fail;have K:=Aa (fun(W:aE) (h:Ac W w2.heap.size (X_0 (st.pl+n) st.en u c.bs.size c.bs.size j st.Af) 140)=>(⟨h.cell 0,h.cell 1,h.cell 2,h.cell 3,h.cell 4⟩:U5 W w2.heap.size (I0 (st.pl+n)) (I0 st.en) (S0 u c.bs.size c.bs.size) (S0 j 8 8) (I0 st.Af)));refine Cl (fun W=>U5 W w2.heap.size (I0 (st.pl+n)) (I0 st.en) (S0 u c.bs.size c.bs.size) (S0 j 8 8) (I0 st.Af)) [([0,1,2],3),([],4),([5,6,7],8),([],9),([],10)] rfl kZ (fun _ _ d _ _ h=>by cases d<;>exact h) (K.o _ L.o) ?_;simp only[wpSeg,aP,aS,aQ,aJ,aK];refine Ab _ rfl (fun W a=>rfl) ?_;refine Ab (.agg (X_0 (st.pl+n) st.en u c.bs.size c.bs.size j st.Af)) rfl (fun W a=>by obtain⟨h0,ab,ac,ai,b5⟩:=a;go_simp) ?_;refine Ab _ rfl (fun W a=>rfl) ?_;refine Ag ⟨_,rfl,rfl,?_⟩;unfold Oper.wp;go_simp;refine(J1 (c.bs.extract st.pl (st.pl+n)) ?_ _).mono ?_;rw[cV];omega;rintro e aq⟨rfl,c4,cd⟩;have cq:Hid (EW c w st g j k v aq):=by
  have h:EW c w st g j k v aq:=by rw[cd];exact((r.o.drewN nq).drewN 1).drewN c4
  exact h
 have cs:Hid (Ac aq w2.heap.size (X_0 (st.pl+n) st.en u c.bs.size c.bs.size j st.Af) 140):=by rw[cd];exact L.o
 have J:Hid (Ac aq u (Q9 (AB st n).rd) 4):=by rw[cd];exact cl.o
 clear cd;refine⟨K.o _ cs.o,?_⟩;refine Ag ⟨_,rfl,rfl,?_⟩;unfold Oper.wp;go_simp;have ce:=Dd aq c.pb c.gb c.bs k c.N v 0 (AB st n) u c.bs.size j (CE (c.bs.extract st.pl (st.pl+n))) cq.o.pg b0 c3;unfold AA AB at ce;simp only[cZ]at ce;refine ce.mono ?_;clear ce;rintro e ci⟨cy,ch,cm⟩;obtain⟨a4,bi,bo,bb⟩:=cq.o.next cm ch;have cw:=cm.Ap cs.o cs.o.lt kX;have cv:=cm.Ap J.o J.o.lt (Bf J.o cq.o.pg lC);obtain⟨I,be,cn,cx⟩:=Gt c.N 0 (AB st n) u c.bs.size j (CE (c.bs.extract st.pl (st.pl+n)));have cu:=bi.dp;have bz:Hid (AO c w (AJ c.bs c.N x q k v st) (EI I u c.bs.size j be cn) (E8 ci (w.heap.size+1) (I0 I.pl) (I0 I.en) (S0 u c.bs.size c.bs.size) (S0 j 8 8) (I0 I.Af))):=by
  have h:AO c w (AJ c.bs c.N x q k v st) (EI I u c.bs.size j be cn) (E8 ci (w.heap.size+1) (I0 I.pl) (I0 I.en) (S0 u c.bs.size c.bs.size) (S0 j 8 8) (I0 I.Af)):=by
   rw[b3.o,aF trivial];refine AO.made (st:=AB st n) (rb:=u) (db:=j) (a4.BB (b:=w.heap.size+1) kX _ _ _ _ _) cx.symm (Ac.Ar ch (b:=w.heap.size+1) kX _ _ _ _ _) ⟨Ac.Ar cv (b:=w.heap.size+1) kX _ _ _ _ _,Ac.Ar cu (b:=w.heap.size+1) (fun e=>?_) _ _ _ _ _,?_,bi.Og⟩;exact Bf cu bb lC e;exact Bf cv ch lC
  exact h
 have cj:=cy.trans cx;subst cj;have ct:=Aa (Ac.Ar cw (b:=w.heap.size+1) kX (I0 I.pl) (I0 I.en) (S0 u c.bs.size c.bs.size) (S0 j 8 8) (I0 I.Af));have c1:=Aa cw;obtain⟨a5,a6,bf,a7,a8,bq⟩:=bb.Bi;clear a4 bi bo bb ch cm cw cv cu cx cy;unfold EI AA;simp only;refine⟨K.o _ c1.o,?_⟩;refine Ab (.agg (X_0 I.pl I.en u c.bs.size c.bs.size j I.Af)) rfl (fun W a=>by go_simp) ?_;refine Ab (.string ⟨be.toArray⟩) rfl (fun W a=>by go_simp) ?_;refine Ab (.bool cn) rfl (fun W a=>by go_simp) ?_;refine Ag ⟨_,rfl,rfl,?_⟩;unfold Oper.wp;go_simp;refine⟨K.o _ ct.o,?_⟩;refine Ag ⟨_,rfl,rfl,?_⟩;unfold Oper.wp;go_simp;refine⟨K.o _ ct.o,?_⟩;refine Ag ⟨_,rfl,rfl,?_⟩;unfold Oper.wp;go_simp;refine⟨K.o _ ct.o,?_⟩;go_wp2;refine aT (v:=.tuple (X_6 (AA I u c.bs.size j) (⟨be.toArray⟩) cn)) ld rfl ?_;exact bz.o):p:=h
theorem Gx(h:p:=by
 rw[bj z];rw[z]at b3;clear b4 bj z;unfold AA;go_wp2_with fail;have r:=Aa (bc.o.below ((aO _ _).alloc (aB _) (.cells (X_0 st.pl st.en g c.bs.size c.bs.size j st.Af) 140)));refine(CH _ c.pb c.gb c.bs k c.N v 0 st.pl st g c.bs.size j r.o.pg).mono ?_;rintro e aq⟨rfl,cg,ck⟩;obtain⟨a4,bi,bo,bb⟩:=r.o.next ck cg;obtain⟨a5,a6,bf,a7,a8,bq⟩:=bb.Bi;have b2:=Aa a4;have cr:=Aa cg;clear a4 bi bo bb cg ck;unfold EI AA;go_wp2;refine aT (v:=.tuple (X_5 (AA st g c.bs.size j) (⟨#[]⟩))) ld rfl ?_;rw[b3.o];simp only[bT,cT];exact AO.fail (b2.o.BB (b:=w.heap.size+1) kX _ _ _ _ _) rfl (Ac.Ar cr.o (b:=w.heap.size+1) kX _ _ _ _ _)):p:=h
theorem JJ(h:p:=by
 have:=(Ac.alloc (Ac.alloc (Ac.alloc o.dp A) B) F).cell (2*d);rw[(Gv st.Ai d ba).1,bh]at this;rw[dB d 2];exact this):p:=h
theorem ld(h:p:=by
 simp[results,results91,go_sem,AA,a5,a6,bf,a7,a8]):p:=h
theorem Mj(h:p:=by
 rw[ao];rcases A with rfl|rfl<;>rfl):p:=h
abbrev k2(h:PLift q->p:=by
 intro aa;have f:=o.Fw p;obtain⟨ah,av,ax,aw,an,ay,az,a0,a1⟩:=f.nine af;have ad:=f.top;have bk:=o.pg.c0;have bd:=f.lt;have bl:=f.Ap.lt;have aj:=o.pg.lt;have ap:b<c.As.length:=by have:=af.le;simp at this;omega
 have ar:=p.len;have ae:=p.bs;revert f ah av ax aw an ay az a0 a1 ad bk bd bl aj ap ar ae;exact aa.1):p:=h ⟨z⟩
abbrev kj(h:PLift q->p:=by
 intro aa;rintro e w2⟨E,b4,bj⟩;have bc:=Aa (a3.o.below E);have cc:=cb.o.below E cb.o.lt;have br:=E.size;have b7:w.heap.size<w2.heap.size:=kX;have b6:w.heap.size+1<w2.heap.size:=kX;have b8:w.heap.size+1+1<w2.heap.size:=kX;have b9:c.pb<w2.heap.size:=kX;have ca:¬ w2.heap.size=c.pb:=kX;obtain⟨bu,a2,a9,bv,bg,_⟩:=bc.o.box.Bi;rename_i bp;revert e w2 E b4 bj bc cc br b7 b6 b8 b9 ca bu a2 a9 bv bg bp;exact aa.1):p:=h ⟨z⟩
abbrev kF(h:PLift q->p:=by
 intro aa;have au:((w.alloc (.cells (AA st g c.bs.size j) 140)).alloc (.cells AE 140)).heap.size=w.heap.size+1+1:=kY;revert au;exact aa.1):p:=h ⟨z⟩
abbrev lf(h:PLift q->p:=by
 intro aa;obtain⟨d,ak⟩:∃ d:Nat,x.d=(d:Int):=⟨x.d.toNat,by have:=al.it.d (by rw[ao];rfl);omega⟩;have ba:d<8:=by have:=al.it.d (by rw[ao];rfl);omega
 have bm:(d:Int)<8:=kX;revert d ak ba bm;exact aa.1):p:=h ⟨z⟩
abbrev lc(h:PLift q->p:=by
 intro aa;refine(FF y _ st g c.bs.size j n a3.o.sa.rd bh ae bx b1 kX).mono ?_;exact aa.1):p:=h ⟨z⟩
theorem Ac.Bi{w a f g h j k t}(b:Ac w a #[f,g,h,j,k] t):
 w.cell? (A0 a 0)=some f/\w.cell? (A0 a 1)=some g/\w.cell? (A0 a 2)=some h/\w.cell? (A0 a 3)=some j/\w.cell? (A0 a 4)=some k/\∀ e,w.frozen? (A0 a e)=false:=
 ⟨b.cell 0,b.cell 1,b.cell 2,b.cell 3,b.cell 4,fun e=>b.frozen e⟩
def AE:Array aI:=X_2
theorem Gt(N f st e n a t):∃ h j g,(G1 N f st e n a t).1=EI h e n a j g:=by
 unfold G1;by_cases b:st.Af=N;rw[aF b];exact⟨st,[],false,rfl⟩;rw[aC b];exact⟨_,t,true,rfl⟩
structure U5 (W:aE) (b:Nat) (v0 v1 v2 v3 v4:aI):Prop where
 c0:W.cell? (A0 b 0)=some v0
 c1:W.cell? (A0 b 1)=some v1
 c2:W.cell? (A0 b 2)=some v2
 c3:W.cell? (A0 b 3)=some v3
 c4:W.cell? (A0 b 4)=some v4
structure EW (c:Rx) (w:aE) (st:PS) (rb db fuel far:Nat) (W:aE):Prop where
 fr:Fr w.heap.size c.pb w W
 pg:FW W c.pb c.gb c.bs fuel c.N far 0
 sa:Ez c W st rb db
 box:Ac W w.heap.size (AA st rb c.bs.size db) 140
 res:Ac W (w.heap.size+1) AE 140
 lt:c.pb<w.heap.size
theorem EW.new{c w st rb a f e}(b:Cp c w st rb a f e):
 EW c w st rb a f e ((w.alloc (.cells (AA st rb c.bs.size a) 140)).alloc (.cells AE 140)):=by
 have g:Fr w.heap.size c.pb w ((w.alloc (.cells (AA st rb c.bs.size a) 140)).alloc (.cells AE 140)):=((Fr.refl _ _ w).alloc (aB _) _).alloc kY _;refine⟨g,Ac.alloc (Ac.alloc b.pg _) _,b.st.fr g (aB _),Ac.alloc (Ac.new w _ _) _,?_,b.pg.lt⟩;have:=Ac.new (w.alloc (.cells (AA st rb c.bs.size a) 140)) AE 140;simpa using this
theorem EW.below{c w st j f h g W e}(a:EW c w st j f h g W)(b:Below W.heap.size W e):EW c w st j f h g e:=by
 have o:=a.fr.size;have k:=a.fr.below b o;refine⟨k,Ac.below a.pg b a.pg.lt,⟨Ac.below a.sa.rd b a.sa.rd.lt,Ac.below a.sa.dp b a.sa.dp.lt,a.sa.Qv,a.sa.Og⟩,a.box.below b a.box.lt,a.res.below b a.res.lt,a.lt⟩
theorem EW.drewN{c w st rb b f e W}(a:EW c w st rb b f e W)(n):EW c w st rb b f e (W.drewN n):=
 ⟨a.fr.drewN n,a.pg,⟨a.sa.rd,a.sa.dp,a.sa.Qv,a.sa.Og⟩,a.box,a.res,a.lt⟩
theorem EW.next{c w st g f o j p k h W b}(a:EW c w st g f o j W)(e:Fr W.heap.size c.pb W b)(_hp:FW b c.pb c.gb c.bs p c.N k h):
 Fr w.heap.size c.pb w b/\Ez c b st g f/\Ac b w.heap.size (AA st g c.bs.size f) 140/\Ac b (w.heap.size+1) AE 140:=by
 have r:=a.fr.size;have u:=a.lt;exact⟨a.fr.trans (e.low r),a.sa.fr e (aB _),e.Ap a.box a.box.lt kX,e.Ap a.res a.res.lt kX⟩
theorem Gn{rd b e n}(a:AQ rd b e n=true):n<=e-b:=by
 unfold AQ at a;simp only[aY,bD]at a;exact a.1
theorem Gl(h:p:=by
 exact AO.fail (ci.o.BB (b:=w.heap.size+1) kX _ _ _ _ _) rfl (Ac.Ar cj.o (b:=w.heap.size+1) kX _ _ _ _ _)):p:=h
theorem Tryz.Abx:(prog.info? 240).map (fun i=>(i.zero,i.size,i.bytes))=some (some (.agg #[I0 0,I0 0]),2,16):=kZ
theorem Tryz.Abd:(prog.info? 240).map (·.size)=some 2:=kZ
theorem Q3(W):Sem.run prog (Instr.makeSlice 138 (I0 8) (I0 8)) W=.ok (S0 W.heap.size 8 8) (W.alloc (.cells (IY fun _=>(0,0)) 240)):=by
 obtain⟨p,g,k,b,o⟩:=cY Tryz.Abx;have:=iI (P:=prog) W 138 240 p (.agg #[I0 0,I0 0]) underlying138 g k .i64 .i64 8 8 kX kX (by rw[b];omega) (by rw[o];omega) kX;rw[b]at this;have e:madeCells (Value.agg #[I0 0,I0 0]).cells ((8:Int).toNat*2)=IY fun _=>(0,0):=by
  have f:(Value.agg #[I0 0,I0 0]).cells=#[I0 0,I0 0]:=by simp[Value.cells]
  have j:IY (fun _=>(0,0))=Array.replicate 16 (I0 0):=rfl;rw[f,j];apply Array.ext;simp[madeCells];intro i r u;have h:i % 2=0\/i % 2=1:=kX;simp only[madeCells,Array.getElem_map,Array.getElem_range,Array.getElem_replicate];rcases h with a|a<;>simp[a]
 rw[e]at this;exact this
theorem Ac1(a:Nat->Nat × Nat)(d)(f:d<8)(e n:Nat):((IY a).setIfInBounds (d*2) (I0 e)).setIfInBounds (d*2+1) (I0 n)=IY fun b=>if b=d then(e,n)else a b:=by
 refine k4 ?_;intro ab;exact DI
theorem Abv(f:Nat->Nat × Nat):∀ e∈(IY f).toList,e.oneCell'=true:=by
 intro e b;simp only[IY,cI]at b;obtain⟨d,_,a⟩:=b;simp only[bB,jA,hY]at a;rcases a with rfl|rfl<;>rfl
theorem T3(W e)(a:Nat->Nat × Nat)(v:Aas W e a):
 ∃ b f,Sem.run prog (Instr.makeSlice 138 (I0 8) (I0 8)) W=.ok (S0 W.heap.size 8 8) b/\
  (∀ r,Sem.run prog (Builtin.copy_ #[138,138] r #[S0 W.heap.size 8 8,S0 e 8 8]) b=.ok (I0 8) f)/\
  Ac f W.heap.size (IY a) 240/\Below W.heap.size W f/\f.heap.size=W.heap.size+1/\Below W.heap.size W b:=by
 have k:Ac (W.alloc (.cells (IY fun _=>(0,0)) 240)) W.heap.size (IY fun _=>(0,0)) 240:=Ac.new _ _ _;have x:Aas (W.alloc (.cells (IY fun _=>(0,0)) 240)) e a:=Ac.alloc v _;refine⟨_,(W.alloc (.cells (IY fun _=>(0,0)) 240)).setRow W.heap.size (IY a),Q3 W,fun r=>?_,?_,?_,?_,(aO _ _).alloc (aB _) _⟩
 . generalize W.alloc (.cells (IY fun _=>(0,0)) 240)=b at*;have o:=run_loadCells_list (P:=prog) b (A0 e 0) (IY a).toList (fun j A hu=>by
    have:((A0 e 0):Addr).add j=(A0 e j):=by unfold Addr.add;split<;>simp_all
    rw[this,x.cell j];simpa using hu)
   have p:=run_storeCells_at (P:=prog) W.heap.size 0 240 (IY a).toList 0 (IY fun _=>(0,0)) b k (by simp[Np]) (Abv a);have u:((IY fun _=>(0,0)).toList.take (0+0)++(IY a).toList++(IY fun _=>(0,0)).toList.drop (0+0+(IY a).toList.length)).toArray=IY a:=by
    rw[show(IY fun _=>(0,0)).toList.take (0+0)=[]from rfl,cL,dN (by simp[Np]),dI]
   rw[u]at p;have z:(IY a).toList.length=16:=by simp[Np]
   rw[z]at o;have g:=Tryz.Abd
   cases h:prog.info? 240 with
   | none=>rw[h]at g;cases g
   | some i=>
    have y:i.size=2:=by rw[h]at g;simpa using g
    simp[Builtin.copy_,fJ underlying138,Builtin.lenOf,Builtin.firstCells,sizeOf,typeInfo,h,y,o,p,goInt]
 exact jD _ _ _ _ _ _ k;exact below_setRow ((aO _ _).alloc (aB _) _) (aB _) _;simp[World.setRow]
theorem AO.fit{c w w' e st rb db b a t}(g:Fr w.heap.size c.pb w w')(f:e=EI st rb c.bs.size db t true)(h:FW w' c.pb c.gb c.bs b c.N a 0)(j:Ez c w' st rb db):AO c w (BW b a st t) e w':=
 ⟨g,st,rb,db,b,a,t,f,h,fun _=>⟨rfl,rfl⟩,fun _=>⟨rfl,rfl,j⟩⟩
theorem EW.made{c w Ey st B y rb db j h W g p t}(r:EW c w Ey B y j h W)(o:Ez c W st rb db)(A:p=(G1 c.N 0 st rb c.bs.size db t).1)(x:FW g c.pb c.gb c.bs j c.N h (G1 c.N 0 st rb c.bs.size db t).2)(u:Fr W.heap.size c.pb W g):
 ∃ a f e,p=EI a rb c.bs.size db f e/\Ac g (w.heap.size+1) AE 140/\
  AO c w (Bs c.N j h st t) (EI a rb c.bs.size db f e) (E8 g (w.heap.size+1) (I0 a.pl) (I0 a.en) (S0 rb c.bs.size c.bs.size) (S0 db 8 8) (I0 a.Af)):=by
 obtain⟨z,E,F,k⟩:=r.next u x;obtain⟨a,f,e,v⟩:=Gt c.N 0 st rb c.bs.size db t;have b:=o.fr u (aB _);have I:=r.lt;refine⟨a,f,e,A.trans v,k,?_⟩;exact AO.made (z.BB (b:=w.heap.size+1) kX _ _ _ _ _) v.symm (Ac.Ar x (b:=w.heap.size+1) kX _ _ _ _ _) ⟨Ac.Ar b.rd (b:=w.heap.size+1) (Bf b.rd k lC) _ _ _ _ _,Ac.Ar b.dp (b:=w.heap.size+1) (Bf b.dp k lC) _ _ _ _ _,o.Qv,o.Og⟩
theorem Ez.below{c W b st g e}(a:Ez c W st g e)(f:Below W.heap.size W b):Ez c b st g e:=⟨Ac.below a.rd f a.rd.lt,Ac.below a.dp f a.dp.lt,a.Qv,a.Og⟩
theorem Ez.drewN{c W st rb b}(a:Ez c W st rb b)(n):Ez c (W.drewN n) st rb b:=⟨a.rd,a.dp,a.Qv,a.Og⟩
theorem Ez.BB{c W st g e b h}(a:Ez c W st g e)(f:Ac W b h 140)(j k o p r):Ez c (E8 W b j k o p r) st g e:=
 ⟨Ac.Ar a.rd (Bf a.rd f lC) _ _ _ _ _,Ac.Ar a.dp (Bf a.dp f lC) _ _ _ _ _,a.Qv,a.Og⟩
abbrev lW(h:PLift q->p:=by
 intro aa;have ap:b<c.As.length:=by have:=af.le;simp at this;omega
 have ar:=p.len;have ae:=p.bs;have b0:=p.N;revert ap ar ae b0;exact aa.1):p:=h ⟨z⟩
abbrev kk(h:PLift q->p:=by
 intro aa;rw[<- y.o]at a4;have bz:=Aa a4;subst cj;obtain⟨am,aq,a3,bc,bj,a2⟩:=a9.Bi;unfold EI AA;go_wp2_with fail;revert bz am aq a3 bc bj a2;exact aa.1):p:=h ⟨z⟩
def Uh(w:aE)(a:Nat):Nat:=match w.cell? (A0 a 2)with|some (.int _ n)=>n.toNat|_=>0
theorem Pu{w b g bs a N f e}(h:FW w b g bs a N f e):Uh w b=a:=by
 unfold Uh;rw[show w.cell? (A0 b 2)=some (I0 a)from h.cell 2];simp
theorem EW.pre{c}(j:DK c){w st g b f e W}(a:EW c w st g b f e W)(h:Below c.w0.heap.size c.w0 w)(k:Eb c.bs c.N st):Cp c W st g b f e:=by
 have p:=j.pb;have r:=a.lt;exact⟨a.pg,h.trans ⟨a.fr.os,a.fr.tape,a.fr.output,a.fr.size,fun o u=>a.fr.block o kX kX⟩,a.sa.rd,a.sa.dp,k⟩
structure MAt (c:Rx) (T:Nat->Nat->Bool->aD It->PS->PO) (r:aD It) (w:aE) (O:PO) (gj:Nat) (t:aD UInt8) (st:PS) (rb db fuel far:Nat) (wr:aE):Prop where
 DY:EW c w st rb db fuel far wr
 inv:Eb c.bs c.N st
 rem:O=manyT T c.N r gj fuel far st t
 gas:fuel<gj
 len:t.length<=8011*st.Af
theorem AO.dead{c w w' f b j h e fuel far}(o:Fr w.heap.size c.pb w w')(k:f=EI j h c.bs.size e [] false)(g:b.ok=false)(h0:b.e≠0)(p:FW w' c.pb c.gb c.bs fuel c.N far b.e):AO c w b f w':=
 ⟨o,j,h,e,fuel,far,[],by rw[g];exact k,p,fun a=>absurd a h0,fun a=>by rw[g]at a;cases a⟩
theorem AO.none{c w w' g a o k f}(r:Fr w.heap.size c.pb w w')(p:g=EI o k c.bs.size f [] false)(j:a.ok=false){e b}(v:FW w' c.pb c.gb c.bs e c.N b a.e)(u:a.e=0->e=a.fuel/\b=a.far):AO c w a g w':=
 ⟨r,o,k,f,e,b,[],by rw[j];exact p,v,u,fun h=>by rw[j]at h;cases h⟩
theorem Adh(t:aD UInt8):(({data:=#[91]}:aA)++⟨t.toArray⟩)++{data:=#[93]}=⟨(91::t++[93]).toArray⟩:=by
 rw[show({data:=#[91]}:aA)=⟨[91].toArray⟩from rfl,show({data:=#[93]}:aA)=⟨[93].toArray⟩from rfl,DQ,DQ];simp
theorem SZ(c)(p:DK c)(h)(bu:OB c h)(w st g j k I)(M:Cp c w st g j k I)(b cv e ba)(af:At c.As b (cv::e))(bq:Fa ba e)(br:BK c.R false false e)(c8:k<=100000)(c9:k<h):
 Calls prog 94 #[P0 c.pb,I0 b,.agg (AA st g c.bs.size j)] w fun u w'=>AO c w (manyT (tryT c.G c.bs c.N h) c.N e (k+1) k I st []) u w':=by
 refine lW ?_;intro ap ar ae b0;have bm:=M.pg.lt;have bx:=Aa af.tail;have b9:=Aa bq;have V:=Aa br;have b3:=Aa bu;have S:=Aa p;have b2:=Aa M.A9;have ah:Hid (MAt c (tryT c.G c.bs c.N h) e w (manyT (tryT c.G c.bs c.N h) c.N e (k+1) k I st []) (k+1) [] st g j k I ((w.alloc (.cells (AA st g c.bs.size j) 140)).alloc (.cells AE 140))):=⟨EW.new M,M.inv,rfl,by omega,by simp⟩;refine kF ?_;intro au;clear M p bu af bq br;generalize manyT (tryT c.G c.bs c.N h) c.N e (k+1) k I st []=a0 at*;unfold AA AE at ah au;unfold AA;go_enter func94,ntmps94;go_wp2_with fail;generalize(w.alloc (.cells (X_0 st.pl st.en g c.bs.size c.bs.size j st.Af) 140)).alloc (.cells X_2 140)=c2 at*;go_loopw [9,10,11,12,13] (fun cu _ _ _ _ wr=>∃ (X:Nat) (t:aD UInt8) (f:PS) (A z o r:Nat),cu=.string ⟨t.toArray⟩/\o<=k/\w.heap.size+1<wr.heap.size/\Hid (MAt c (tryT c.G c.bs c.N h) e w a0 X t f A z o r wr)) (fun _ _ _ _ _ wr=>Uh wr c.pb)
 case atStart=>exact⟨k+1,[],st,g,j,k,I,rfl,aB _,by omega,ah⟩
 case round=>
  clear ah au;obtain⟨X,t,f,A,z,o,r,rfl,c7,dm,x⟩:=hrel;have bo:=x.out.DY.pre S.o b2.o x.out.inv;obtain⟨a1,a5,a6,a7,a8,_⟩:=x.out.DY.box.Bi;have J:=b3.o wr f A z o r e (b+1) ba false false false bo bx.o b9.o V.o kX kX;have aw:Hid ((tryT c.G c.bs c.N h o r false e f).ok=true->((Dt c.bs c.N f (hidV e) (tryT c.G c.bs c.N h o r false e f)/\(tryT c.G c.bs c.N h o r false e f).e=0)/\(tryT c.G c.bs c.N h o r false e f).fuel<o)/\Lng f (silK false e) (tryT c.G c.bs c.N h o r false e f)):=fun E=>⟨⟨(BQ c.G S.o.JI h).fit o r false false false e _ V.o x.out.inv E,GH c.G S.o.JI h o r false e f E⟩,Hj ae c.G S.o.JI h o r false false false e f V.o x.out.inv E⟩
  obtain⟨gk,cf⟩:∃ gk,X=gk+1:=⟨X-1,by have:=x.out.gas;omega⟩;have ao:=x.out.rem;rw[cf]at ao;have y:=Aa (ao.trans (MI _ _ _ gk _ _ _ _));clear ao;generalize cl:tryT c.G c.bs c.N h o r false e f=a at*;clear cl;have U:=Aa J;have By:=x;clear J bo x;unfold AA at U;simp only[cZ]at U;go_wp2_with fail;refine U.o.mono ?_;clear U a1 a5 a6 a7 a8;rintro u w2⟨al,ct,F,B,c5,c4,dr,rfl,ac,bg,bl⟩;obtain⟨bb,bd,aj,ak⟩:=By.o.DY.next al ac;have dl:=al.size;have dc:w.heap.size<w2.heap.size:=kX;have ch:w.heap.size+1<w2.heap.size:=kX;have dd:c.pb<w2.heap.size:=kX;have de:¬ w2.heap.size=c.pb:=kX;have df:¬ w2.heap.size=w.heap.size:=kX;have dh:¬ w2.heap.size=w.heap.size+1:=kX;have cr:=ac.c5;obtain⟨a1,a5,a6,a7,a8,c3⟩:=aj.Bi;obtain⟨cw,cx,cy,cz,c0,du⟩:=ak.Bi;have ad:=Aa bb;have ay:=Aa ac;have b7:=Aa bd;have ai:=Aa aj;have az:=Aa ak;have av:=Aa bg;have ax:=Aa bl;clear bb bd aj ak ac bg bl al;have co:=By.o.inv.Af;have dp:(⟨t.toArray⟩:aA).size<=80110000:=by rw[Cv];have:=By.o.len;omega
  unfold EI AA;by_cases Z:a.e≠0
  . have c6:¬ (a.e:Int)=0:=by omega
    rw[aF Z]at y;have bk:a.ok=false:=by
     cases v:a.ok with
     | false=>rfl
     | true=>exact absurd (aw.o v).1.1.2 Z
    rw[bk];go_wp2;refine aT (v:=.tuple (X_5 (AA f A c.bs.size z) (⟨#[]⟩))) (by simp[results,results94,go_sem,AA,cw,cx,cy,cz,c0,ch]) rfl ?_;rw[y.o];exact AO.dead ((ad.o.BB (b:=w.heap.size+1) kX _ _ _ _ _).alloc lR _) rfl bk Z (Ac.alloc (Ac.Ar ay.o (b:=w.heap.size+1) kX _ _ _ _ _) _)
  rw[aC Z]at y;have ab:a.e=0:=kX;rw[ab]at cr;have O:Hid (EW c w f A z a.fuel a.far w2):=by
   have v:EW c w f A z a.fuel a.far w2:=⟨ad.o,by have:=ay.o;rw[ab,(av.o ab).1,(av.o ab).2]at this;exact this,b7.o,ai.o,az.o,bm⟩;exact v
  by_cases K:a.ok=false\/a.st.pl=f.pl
  . rw[aF K]at y;have b1:=Aa (Adh t);generalize(⟨t.toArray⟩:aA)=c1 at*;have cg:∀ L,a.ok=L->L=false\/(L=true/\(ct.pl:Int)=(f.pl:Int)):=fun L u=>by
     cases L with
     | false=>exact Or.inl rfl
     | true=>
      refine Or.inr ⟨rfl,?_⟩;rcases K with v|v;rw[v]at u;cases u
      rw[(ax.o u).1,v]
    rcases cg _ rfl with bf|⟨bf,db⟩;all_goals
     rw[bf];go_wp2_with fail;rw[b1.o];have J:=fun bv=>Dd (w2.alloc bv) c.pb c.gb c.bs a.fuel c.N a.far 0 f A c.bs.size z (91::t++[93]) (O.o.below ((aO _ _).alloc (aB _) bv)).pg b0 co
     unfold AA at J;refine(J _).mono ?_;clear J;rintro u ds⟨cd,cm,ce⟩;obtain⟨cs,t2,cq,cj,a9,a4⟩:=(O.o.below ((aO _ _).alloc (aB _) _)).made (O.o.sa.below ((aO _ _).alloc (aB _) _)) cd cm ce;refine kk ?_;intro bz am aq a3 bc bj a2;refine aT (v:=.tuple (X_6 (AA cs A c.bs.size z) (⟨t2.toArray⟩) cq)) (by simp[results,results94,go_sem,AA,am,aq,a3,bc,bj]) rfl ?_;exact bz.o
  rw[aC K]at y;have E:a.ok=true:=by
   cases v:a.ok with
   | false=>exact absurd (Or.inl v) K
   | true=>rfl
  obtain⟨⟨⟨an,_⟩,cp⟩,bi⟩:=aw.o E;obtain⟨ca,cb,bp⟩:=ax.o E;subst ca;subst cb;rw[E];have b5:=Aa an;have b8:=Aa bp;have di:=bi.Af;have bh:=bi.len;rw[Er V.o rfl]at bh;simp only[bT,cT]at bh;have dj:=an.inv.Af;have dk:¬ (a.st.pl:Int)=(f.pl:Int):=fun u=>K (Or.inr kX)
  have dq:=By.o.len;have da:=GU t a.t;have b4:=Aa (fun W=>Hk t a.t W kX kX);clear an bp K;go_wp2_with
   (go_at_call 170
    refine(b4.o _).mono ?_;rintro u dt⟨rfl,rfl⟩)
  have Y:EW c w a.st F B a.fuel a.far ((E8 w2 w.heap.size (I0 a.st.pl) (I0 a.st.en) (S0 F c.bs.size c.bs.size) (S0 B 8 8) (I0 a.st.Af)).alloc (.cells (X_0 a.st.pl a.st.en F c.bs.size c.bs.size B a.st.Af) 140)):=by
   have cc:EW c w a.st F B a.fuel a.far (E8 w2 w.heap.size (I0 a.st.pl) (I0 a.st.en) (S0 F c.bs.size c.bs.size) (S0 B 8 8) (I0 a.st.Af)):=
    ⟨ad.o.BB (aB _) _ _ _ _ _,Ac.Ar O.o.pg kX _ _ _ _ _,b8.o.BB ai.o _ _ _ _ _,Ac.BB ai.o _ _ _ _ _,Ac.Ar az.o kX _ _ _ _ _,bm⟩
   exact cc.below ((aO _ _).alloc (aB _) _)
  have be:MAt c (tryT c.G c.bs c.N h) e w a0 gk (Dk t a.t) a.st F B a.fuel a.far _:=⟨Y,b5.o.inv,y.o,by have:=By.o.gas;omega,by omega⟩;have b6:=Aa be;have ci:=Pu Y.pg;have ck:=Pu By.o.DY.pg;have cn:=Y.res.lt;clear be Y;go_roundw
  case rel=>exact⟨gk,Dk t a.t,a.st,F,B,a.fuel,a.far,rfl,by omega,cn,b6⟩
  case measure=>rw[ck];exact lt_of_eq_of_lt ci cp
theorem Uk(c)(p:DK c)(w st g j k v)(o:Cp c w st g j k v)(b x O)(af:At c.As b (x::O))(A:x.c=46)(q):
 Calls prog 91 #[P0 c.pb,I0 b,.agg (AA st g c.bs.size j),.bool q] w fun e w'=>AO c w (AJ c.bs c.N x q k v st) e w':=by
 refine k2 ?_;intro f ah av ax aw an ay az a0 a1 ad bk bd bl aj ap ar ae;have bx:=o.inv.pl;have b1:=o.inv.en;have bh:=o.inv.rd;have c3:=o.inv.Af;have b0:=p.N;rw[A]at ah;have M:Bl x st=st.en-st.pl:=by unfold Bl;rw[aC kX,aC kX,aF A]
 have X:((st.en:Int)-(st.pl:Int))=((Bl x st:Nat):Int):=by rw[M];omega
 have b3:=Aa (show AJ c.bs c.N x q k v st=if AQ st.rd st.pl st.en (Bl x st)then Bs c.N k v (AB st (Bl x st)) (CE (c.bs.extract st.pl (st.pl+Bl x st)))else CK k v st.pl st by
  unfold AJ;rw[aC (show¬ x.c=39 by omega),aF (show x.c=114\/x.c=46 from Or.inr A)])
 generalize Bl x st=n at*;have U:=Aa o;have S:=Aa p;have F:=Aa (EW.new o);have V:n<=c.bs.size:=kX;clear f af o p A M;refine kF ?_;intro au;unfold AA AE at F au;unfold AA;go_enter func91,ntmps91;go_wp2_with fail;generalize(w.alloc (.cells (X_0 st.pl st.en g c.bs.size c.bs.size j st.Af) 140)).alloc (.cells X_2 140)=B at*;have a3:=Aa (F.o.below ((aO _ _).alloc (aB _) (.cells #[.int .u8 46,I0 x.w,I0 x.b,I0 x.r,I0 x.d,I0 x.pl,I0 (b+x.nx),I0 x.rl,I0 0] 132)));have cb:=Aa (Ac.new B #[.int .u8 46,I0 x.w,I0 x.b,I0 x.r,I0 x.d,I0 x.pl,I0 (b+x.nx),I0 x.rl,I0 0] 132);rw[au]at cb;have Y:(B.alloc (.cells #[.int .u8 46,I0 x.w,I0 x.b,I0 x.r,I0 x.d,I0 x.pl,I0 (b+x.nx),I0 x.rl,I0 0] 132)).heap.size=w.heap.size+3:=lA;generalize B.alloc (.cells #[.int .u8 46,I0 x.w,I0 x.b,I0 x.r,I0 x.d,I0 x.pl,I0 (b+x.nx),I0 x.rl,I0 0] 132)=y at*;refine lc ?_;exact nJ

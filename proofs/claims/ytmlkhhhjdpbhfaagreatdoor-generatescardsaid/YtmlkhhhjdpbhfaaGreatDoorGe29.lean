import Derived.Test.YtmlkhhhjdpbhfaaGreatDoorGe26
namespace Go.Proofs.YtmlkhhhjdpbhfaaGreatDoor
open Go.RowKit Go.Proofs.Tryz
set_option maxHeartbeats 4000000
set_option maxRecDepth 100000
variable{p q:Prop}(z:q)
theorem me(h:p:=by
 exact Or.inr ⟨_,1,rfl,ae.lt,aB _,by unfold maxLen;omega,fun f ad=>by obtain rfl:f=0:=AM;exact ae.cell 0⟩):p:=h
theorem jY(h:p:=by
 exact⟨_,_,_,h,rfl,fun _=>⟨g,rfl,ab,ac⟩⟩):p:=h
theorem flat_get{j k:Type}(g:j->aD k)(e)(h:∀ a,(g a).length=e):∀ (l:aD j) (i b:Nat) (f:i<l.length),b<e->(l.flatMap g)[i*e+b]? = (g l[i])[b]?
 | [],i,b,f,_=>by simp at f
 | a::l,0,b,f,hj=>by rw[bY,hL,eC,aW (by rw[h];exact hj)];rfl
 | a::l,i+1,b,f,hj=>by
  rw[bY,bG (by rw[h,gJ];omega),h,show(i+1)*e+b-e=i*e+b by rw[gJ];omega];exact flat_get g e h l i b (by simpa using f) hj
theorem NA{o:Type}{w:aE}{p:Nat}{v:TypeId}{k:Nat}{j:aI}{l:aD o}{f:o->aD aI}(x:w.ownsRow p v k j l.length (l.flatMap f))(e:∀ r,(f r).length=k){b n u:Nat}(z:j=S0 b n u)(i a)(y:i<l.length)(g:a<k):w.cell? (A0 b (i*k+a))=(f l[i])[a]? := by
 have h:(f l[i])[a]? = some ((f l[i])[a]'(by rw[e];exact g)):=bA _;have:=x.cells (g:=b) (by rw[z];rfl) (i*k+a) _ ((flat_get f k e l i a y g).trans h);rw[gA,eC]at this;rw[this,h]
theorem Fk{w:aE}{g:Nat}{h:TypeId}{p n:Nat}{f:aI}{r:aD aI}(e:w.ownsRow g h p f n r):(f=.slice none 0 0/\n=0)\/∃ b a,f=S0 b n a/\n<=a/\a<=maxLen:=by
 rcases e.2 with e|⟨b,a,u,j,_,_,k,o,_⟩;exact Or.inl e;exact Or.inr ⟨b,a,j,k,o⟩
theorem D4.Ahu{c s w d}(h:D4 c s w d):D4 c s (w.setCell (A0 c.pb 5) (.slice none 0 0)) {d with cur:=[],rv:=fun g=>if g=2 then .slice none 0 0 else d.rv g}:=by
 have j:=h.nd;rw[bZ]at j;have v:∀ b,b∈({d with cur:=[],rv:=fun g=>if g=2 then .slice none 0 0 else d.rv g}:Dm).rows->b∈d.rows:=fun b a=>by
  unfold Dm.rows at a⊢;simp only[aV]at a⊢;rcases a with a|a|a;exact Or.inl a;exact Or.inr (Or.inl a);simp[Value.ownBlock]at a
 have f:∀ b,b∈d.rows++d.DR->(w.setCell (A0 c.pb 5) (.slice none 0 0)).heap[b]? = w.heap[b]? := fun b e=>aN _ _ _ _ (by rintro rfl;exact j.1 e)
 have A:Below c.w0.heap.size w (w.setCell (A0 c.pb 5) (.slice none 0 0)):=(aO _ _).setCell (p:=(A0 c.pb 5)) h.pge _;refine⟨h.Ap.set 5 (.slice none 0 0),fun i x=>?_,fun i b u ab ac=>?_,h.DC,?_,fun b e=>?_,h.hid,h.A9.trans A⟩;by_cases ac:i=2;subst ac;exact cC _ _ _ _;have p:({d with cur:=[],rv:=fun g=>if g=2 then .slice none 0 0 else d.rv g}:Dm).rv i=d.rv i:=aC ac;have z:i=0\/i=1:=kX;rw[p];rcases z with rfl|rfl<;>exact An (h.row _ x) fun y p=>f y (bW _ (Ep x p))
 exact mf;rw[bZ,bP]at*;refine⟨fun e=>?_,?_,j.2.2.1,fun k r b a=>j.2.2.2 k (v k r) b a⟩;rcases aV.1 e with e|e;exact j.1 (bW _ (v _ e));exact j.1 (cE _ e);have o:=j.2.1;unfold Dm.rows at o⊢;rw[bP,bP]at*;refine⟨o.1,⟨o.2.1.1,by simp[Value.ownBlock],fun k _ b a=>by simp[Value.ownBlock]at a⟩,fun k r b a=>?_⟩;rcases aV.1 a with a|a;exact o.2.2 k r b (bW _ a);simp[Value.ownBlock]at a;have B:b∈c.pb::(d.rows++d.DR):=by
  rcases bB.1 e with rfl|e;exact aG;rcases aV.1 e with e|e;exact aH _ (bW _ (v _ e));exact aH _ (cE _ e)
 have:=h.ge b B;exact⟨this.1,by simp[World.setCell];exact this.2⟩
theorem Tryz.VK:(prog.info? 89).map (fun i=>(i.zero,i.size,i.bytes))=some (some (.slice none 0 0),1,24):=kZ
structure AlS (c:Rx) (w:aE) (d:Dm) (sv:aI) (vs:aD aI) (ls:aD (aD Sp)):Prop where
 row:w.ownsRow c.w0.heap.size 89 1 sv (vs++[d.rv 2]).length (vs++[d.rv 2])
 len:vs.length=ls.length
 each:∀ (k:Nat) (v:aI) (l:aD Sp),vs[k]? = some v->ls[k]? = some l->w.ownsRow c.w0.heap.size (FH 2) (Gz 2) v l.length (l.flatMap W6)
 out:∀ b,sv.ownBlock=some b->b ∉ c.pb::(d.rows++d.DR)
 outs:∀ v∈vs,∀ b,v.ownBlock=some b->b ∉ c.pb::d.rows/\sv.ownBlock≠some b/\b<w.heap.size
structure AlI (c:Rx) (m:Mx) (B:Nat) (R:aD (aD Sp) × Bool × Dp) (ok:Bool) (i f:Nat) (d:Dm) (sv:aI) (vs:aD aI) (ls:aD (aD Sp)) (w:aE):Prop where
 eq:R=if ok=true then allP m c.G f i d.ab (ls++[d.cur])else(ls++[d.cur],false,d.ab)
 fi:ok=true->f+i=100000000/\B4 m i d.ab<=B/\i<=d.ab.es.length
 mem:D4 c m.s w d
 Au:AlS c w d sv vs ls
 cnt:ls.length<=i
structure AlQ (c:Rx) (w:aE) (d:Dm) (sv:aI) (vs:aD aI) (ls:aD (aD Sp)):Prop where
 row:w.ownsRow c.w0.heap.size 89 1 sv vs.length vs
 len:vs.length=ls.length
 each:∀ (k:Nat) (v:aI) (l:aD Sp),vs[k]? = some v->ls[k]? = some l->w.ownsRow c.w0.heap.size (FH 2) (Gz 2) v l.length (l.flatMap W6)
 out:∀ b,sv.ownBlock=some b->b ∉ c.pb::(d.rows++d.DR)
 outs:∀ v∈vs,∀ b,v.ownBlock=some b->b ∉ c.pb::d.rows/\sv.ownBlock≠some b/\b<w.heap.size
theorem AlS.to{c s w ac d v ab M}{aa:aD (aD Sp)}(f:AlS c w d ab M aa)(J:D4 c s w d){h}(Y:∀ a∈h,a∈d.rows/\(d.rv 2).ownBlock≠some a)(p:Kp (c.pb::h) w ac)(ah:∀ a∈v.rows,a∈h\/w.heap.size<=a)(S:∃ L,v.DR=d.DR++L/\∀ a∈L,w.heap.size<=a):AlQ c ac v ab (M++[d.rv 2]) (aa++[d.cur]):=by
 have X:=J.nd;rw[bZ]at X;have A:∀ a,a∈c.pb::h->a∈c.pb::d.rows:=fun a b=>by
  rcases bB.1 b with rfl|b;exact aG;exact aH _ (Y a b).1
 have V:=fun a e=>(f.row.lt a e).2
 have F:∀ a,(d.rv 2).ownBlock=some a->a ∉ c.pb::h/\a<w.heap.size/\a∈d.rows:=fun a e=>by
  have b:=Ep (d:=d) (i:=2) kX e;refine⟨fun K=>?_,((J.row 2 kX).lt a e).2,b⟩;rcases bB.1 K with rfl|K;exact X.1 (bW _ b);exact(Y a K).2 e
 have I:∀ a,a<w.heap.size->a ∉ c.pb::h->a ∉ c.pb::v.rows:=fun a S y b=>by
  rcases bB.1 b with rfl|b;exact y aG;rcases ah a b with f|f;exact y (aH _ f);omega
 obtain⟨L,ad,ae⟩:=S;refine⟨An f.row fun g e=>p.block g (V g e) (fun b=>f.out g e ?_),by simp[f.len],fun Z E l o u=>?_,fun a e=>?_,fun E j a e=>?_⟩;rcases bB.1 (A _ b)with rfl|b;exact aG;exact aH _ (bW _ b);by_cases U:Z<M.length;rw[aW U]at o;rw[aW (by rw[<- f.len];exact U)]at u;refine An (f.each Z E l o u) fun g e=>?_
 obtain⟨r,_,k⟩:=f.outs E (bH o) g e;exact p.block g k fun b=>r (A _ b)
 rw[bG kX]at o;rw[bG (by rw[<- f.len];omega)]at u;have O:=bH o;have x:=bH u;simp at O x;subst O x;exact An (J.row 2 kX) fun g e=>p.block g (F g e).2.1 (F g e).1
 have z:=f.out a e;have af:=V a e;intro b;have y:a ∉ c.pb::h:=fun b=>by
  rcases bB.1 (A _ b)with rfl|b;exact z aG;exact z (aH _ (bW _ b))
 rcases bB.1 b with rfl|b;exact z aG;rcases aV.1 b with b|b;exact I a af y (aH _ b);rw[ad]at b;rcases aV.1 b with b|b;exact z (aH _ (cE _ b));have:=ae a b;omega;rcases aV.1 j with j|j;obtain⟨r,B,k⟩:=f.outs E j a e;exact⟨I a k (fun b=>r (A _ b)),B,bM k p.size⟩;simp at j;subst j;obtain⟨r,B,k⟩:=F a e;exact⟨I a B r,fun x=>f.out a x (aH _ (bW _ k)),bM B p.size⟩
theorem AlQ.app{c s w j d f h}{z:aD (aD Sp)}(e:AlQ c w d f h z)(v:D4 c s w d){A g cap n}(I:(w.alloc A).grownBy j f.ownBlock)(L:j.ownsRow c.w0.heap.size 89 1 (S0 g n cap) n (h++[d.rv 2]))(K:n=h.length+1)(x:f.ownBlock=some g\/g=w.heap.size+1):AlS c j d (S0 g n cap) h z/\D4 c s j d:=by
 subst K;have r:Kp f.ownBlock.toList w j:=((Kp.refl _ w).alloc A).grown I (fun g a=>Or.inl (by simp[a]));have y:∀ b,(Value.slice (some (A0 g 0)) (h.length+1) cap).ownBlock=some b->b=g:=fun b a=>by simp[Value.ownBlock]at a;exact a.symm
 refine⟨⟨by simpa using L,e.len,fun O p l u B=>An (e.each O p l u B) fun q a=>?_,fun b a=>?_,fun p M b a=>?_⟩,v.B9 r fun b F=>?_⟩;obtain⟨_,k,o⟩:=e.outs p (bH u) q a;exact r.block q o (by simpa using k);rw[y b a];rcases x with a|a;exact e.out g a;exact fun J=>by have:=(v.ge _ J).2;omega
 obtain⟨S,k,o⟩:=e.outs p M b a;refine⟨S,fun E=>?_,bM o r.size⟩;rw[y b E]at k o;rcases x with a|a;exact k a;omega;have a:f.ownBlock=some b:=by simpa using F
 exact⟨(e.row.lt b a).1,e.out b a⟩
def QT(c:Rx)(m:Mx)(R:aD (aD Sp) × Bool × Dp)(h:Ending)(w':aE):Prop:=
 ∃ f a b,h=.returned (.tuple #[f,.bool R.2.1])/\b.ab=R.2.2/\D4 c m.s w' b/\w'.ownsRow c.w0.heap.size 89 1 f a.length a/\a.length=R.1.length/\∀ (e:Nat) (g:aI) (l:aD Sp),a[e]? = some g->R.1[e]? = some l->w'.ownsRow c.w0.heap.size (FH 2) (Gz 2) g l.length (l.flatMap W6)
theorem AlI.post{c m j}{R:aD (aD Sp) × Bool × Dp}{e i f d k o x}{w:aE}(a:AlI c m j R e i f d k o x w)(b:e=false\/d.ab.es.length<=i)(I:j<100000000):QT c m R (.returned (.tuple #[k,.bool e])) w:=by
 have A:R=(x++[d.cur],e,d.ab):=by
  rw[a.eq]
  cases e with
  | false=>rfl
  | true=>
   rcases b with b|b
   cases b
   obtain⟨E,y,F⟩:=a.fi rfl;have J:d.ab.es.length<=j:=by unfold B4 at y;omega
   obtain⟨f,rfl⟩:∃ z,f=z+1:=⟨f-1,by omega⟩;rw[aF rfl,allP,fG b]
 rw[A];refine⟨k,o++[d.rv 2],d,rfl,rfl,a.mem,a.Au.row,by simp[a.Au.len],fun v B l g h=>?_⟩;by_cases u:v<o.length;rw[aW u]at g;rw[aW (by rw[<- a.Au.len];exact u)]at h;exact a.Au.each v B l g h;rw[bG kX]at g;rw[bG (by rw[<- a.Au.len];omega)]at h;have p:=bH g;have r:=bH h;simp at p r;subst p r;exact a.mem.row 2 kX
theorem XA{c m dn}(g:DK c)(r:E5 m)(j:∀ i,CR (c.G i))(h0:c.R 0=true)(o)(x:At c.As o (c.G 0))(w d)(A:Ei c m dn w d 0 0)(z u)(K:EL w u [0]):
 Calls prog 69 #[P0 c.pb,I0 (o:Nat),I0 ((0:Nat):Int),z,u] w fun b w'=>A6 c m.s w d (pT m c.G (m.s.size+1) (c.G 0) none 0 d.ab) b w':=by
 obtain⟨_,_,_,_,E⟩:=g.Ig 0 h0;have k:=g.JI 0 h0;have B:=j 0;rw[pT]
 cases y:c.G 0 with
 | nil=>obtain⟨p,a⟩:=k;rw[y]at a;cases p<;>exact a.elim
 | cons e I=>
  rw[y]at x E k B;obtain⟨Cj,F,L⟩:Kc e/\AN e.c=false/\(e.c=82->c.R e.r.toNat=true):=by
   obtain⟨p,a⟩:=k
   cases p with
   | zero=>exact a.elim
   | succ p=>exact⟨a.1,by cases J:AN e.c with|false=>rfl|true=>exact absurd (a.2.2.1 J) kY,a.2.2.2.1⟩
  have h:∀ v:Int,AN v=true->e.c≠v:=fun v a b=>by rw[b,a]at F;cases F
  rw[pIn,aC (h 119 rfl),aC (h 115 rfl),aC (h 64 rfl)];by_cases f:e.c=82;rw[aF f,Lk];exact put_rules g r j (J6 g r j _) none z 0 d kX 8 w o e I [0] u lC lC A x f (L f) (Cj.it.r f).1 (fun v a=>by simp at a;subst a;exact⟨by omega,Rch.one y f⟩) (fun b=>by cases b) K;rw[aC f];exact P7 g r j (J6 g r j _) w d o e I false false none z u 0 A ⟨x,E,k,B,k.CA rfl,fun b=>by cases b⟩ (fun i b=>by cases b) kX f (h 119 rfl) (h 115 rfl) (h 64 rfl)
theorem row_one{w e a b f}(g:Ac w a #[b] f)(h:e<=a):w.ownsRow e f 1 (S0 a 1 1) 1 [b]:=⟨rfl,Or.inr ⟨a,1,#[b],rfl,h,g,aB _,by unfold maxLen;omega,rfl,rfl⟩⟩
theorem WC(c)(E:DK c)(m)(o:E5 m)(ax:∀ i,CR (c.G i))(h0:c.R 0=true)(w d)(v:D4 c m.s w d)(fb:d.ab=⟨[],[],[],[],[]⟩)(dq:Al m.s 0):
 Calls prog 44 #[P0 c.pb] w fun M w'=>QT c m (TB m c.G d.ab) M w':=by
 obtain⟨_,bf,ds,dr,_⟩:=E.Ig 0 h0;have fk:=o.s8;have bx:=v.lt;have gg:=SH;have fi:B4 m 0 d.ab=0:=by rw[fb];rfl
 have bl:∀ W,Below w.heap.size w W->Ei c m 0 W d 0 0:=fun W a=>⟨v.more a,dq,bR _,by rw[fi];omega⟩
 have b6:=Aa (fun W a fn rv (fj:EL W rv [0])=>XA E o ax h0 bf dr W d (bl W a) fn rv fj);have bm:=(ax 0).1;have cm:=QM (dn:=0) o ax (m.s.size+1) (c.G 0) none 0 d.ab (ax 0) dq (bR _);have cn:∀ e,e<c.w0.heap.size->e ∉ c.pb::d.rows:=fun e j o=>by
  have:=(v.ge e QU).1;omega
 have ce:=E.Fw.below v.A9;have dv:=bM E.fst.lt v.A9.size;have dw:=ce.Ap.lt;have a5:Hid (∀ W,(Kp (c.pb::d.rows) w W/\W.cell? (A0 c.pb 0)=some (P0 c.gb))->W.cell? (A0 c.pb 0)=some (P0 c.gb)/\W.cell? (A0 c.gb 1)=some (S0 c.fb 8 8)/\W.cell? (A0 c.fb 0)=some (I0 bf)):=fun W a=>by
  refine⟨a.2,(a.1.cell dw (cn _ E.Fw.Ap.lt) 1).trans (ce.Ap.cell 1),?_⟩;rw[a.1.cell dv (cn _ E.fst.lt) 0,(E.fst.below v.A9 E.fst.lt).cell 0,<- ds];have f7:=E.fl;simp[Ci,List.getD,show 0<c.fl.length by omega]
 obtain⟨r,cr⟩:∃ f0,pT m c.G (m.s.size+1) (c.G 0) none 0 d.ab=f0:=⟨_,rfl⟩;have dk:TB m c.G d.ab=if(r.ok&&decide (r.p=m.s.size))=true then allP m c.G 100000000 0 r.D [r.D.cur]else([r.D.cur],false,r.D):=by rw[<- cr];rfl
 generalize TB m c.G d.ab=R at*;rw[cr]at b6 cm;have dc:=Aa dk;have c6:=Aa cm;have f6:=Aa v;have b7:=Aa ax;have c2:=Aa E;have be:=Aa o;have aw:Kp (c.pb::d.rows) w w.drew/\w.drew.cell? (A0 c.pb 0)=some (P0 c.gb):=⟨(Kp.refl _ _).drew 1,v.Ap.cell 0⟩;clear dk cr v cm ce E ax o bl cn dv dw dr ds;go_enter func44,ntmps44;go_wp2_with fail;go_cut [4,5] (fun f2 f3 wc=>∃ (U:Nat) (d2:Dm),f2=I0 U/\f3=.bool r.ok/\Hid ((r.ok=true->U=r.p)/\d2.ab=r.D/\D4 c m.s wc d2))
 case first=>
  refine Bo (fun W=>Kp (c.pb::d.rows) w W/\W.cell? (A0 c.pb 0)=some (P0 c.gb)) 18 kZ rfl ?_;refine A2 (fun _ _ d _ _ h=>by cases d<;>exact h) [0,1,2,3,4,5,6,7,8,9] 8 18 _ _ _ kZ ?_;refine jL ?_;iterate 10 refine Ab _ rfl (fun W a=>by obtain⟨ab,ac,av⟩:=a5.o W a;go_simp<;>rfl) ?_
  refine Ag ?_;have a1:∀ W F,(Kp (c.pb::d.rows) w W/\W.cell? (A0 c.pb 0)=some (P0 c.gb))->c.pb<W.heap.size->(Kp (c.pb::d.rows) w (W.alloc F)/\(W.alloc F).cell? (A0 c.pb 0)=some (P0 c.gb)):=fun W F h J=>⟨h.1.alloc F,(aL (bC W F c.pb J)).trans h.2⟩
  refine En 10 11 kZ aw ⟨_,rfl,rfl,?za⟩ ⟨_,rfl,rfl,?zb⟩;all_goals
   unfold Oper.wp;go_simp
  case' za=>
   refine AZ 11 kZ (show Kp (c.pb::d.rows) w ((w.alloc (.cells (Hn fun _=>none) 96)).drew)/\((w.alloc (.cells (Hn fun _=>none) 96)).drew).cell? (A0 c.pb 0)=some (P0 c.gb)from a1 w.drew _ aw bx) ⟨_,rfl,rfl,?_⟩;unfold Oper.wp;go_simp;obtain⟨k,u⟩:∃ W,((w.alloc (.cells (Hn fun _=>none) 96)).alloc (.cells #[I0 0] 3)).drew=W:=⟨_,rfl⟩;have cf:=u▸(((aO _ _).alloc (aB _) _).alloc kY _).drew;have cl:EL k (S0 (w.heap.size+1) 1 1) [0]:=by
    have ae:Ac k (w.heap.size+1) #[I0 0] 3:=by
     have:=Ac.new (w.alloc (.cells (Hn fun _=>none) 96)) #[I0 0] 3;rw[show(w.alloc (.cells (Hn fun _=>none) 96)).heap.size=w.heap.size+1 by simp]at this;exact u▸this
    exact me
   have cd:Kp (c.pb::d.rows) w k/\k.cell? (A0 c.pb 0)=some (P0 c.gb):=u▸a1 (w.alloc (.cells (Hn fun _=>none) 96)).drew _ (a1 w.drew _ aw bx) lA;rw[u]
  case' zb=>
   refine AZ 10 kZ (show Kp (c.pb::d.rows) w ((w.alloc (.cells #[I0 0] 3)).drew)/\((w.alloc (.cells #[I0 0] 3)).drew).cell? (A0 c.pb 0)=some (P0 c.gb)from a1 w.drew _ aw bx) ⟨_,rfl,rfl,?_⟩;unfold Oper.wp;go_simp;obtain⟨k,u⟩:∃ W,((w.alloc (.cells #[I0 0] 3)).alloc (.cells (Hn fun _=>none) 96)).drew=W:=⟨_,rfl⟩;have cf:=u▸(((aO _ _).alloc (aB _) _).alloc kY _).drew;have cl:EL k (S0 w.heap.size 1 1) [0]:=by
    have ae:Ac k w.heap.size #[I0 0] 3:=u▸Ac.alloc (Ac.new w #[I0 0] 3) _;exact me
   have cd:Kp (c.pb::d.rows) w k/\k.cell? (A0 c.pb 0)=some (P0 c.gb):=u▸a1 (w.alloc (.cells #[I0 0] 3)).drew _ (a1 w.drew _ aw bx) lA;rw[u]
  all_goals
   refine AZ 12 kZ cd ⟨_,rfl,rfl,?_⟩;unfold Oper.wp;go_simp;refine(b6.o k cf _ _ cl).mono ?_;rintro M c1⟨U,d2,rfl,ec,dl,bz⟩;have e7:Kp (c.pb::d.rows) w c1/\c1.cell? (A0 c.pb 0)=some (P0 c.gb):=⟨cd.1.trans bz.kp (fun e h=>Or.inl h),bz.mem.Ap.cell 0⟩;have ez:Hid ((r.ok=true->U=r.p)/\d2.ab=r.D/\D4 c m.s c1 d2):=⟨ec,dl,bz.mem⟩;clear bz ec dl cf cl u;refine A2 (fun _ _ d _ _ h=>by cases d<;>exact h) [13,14,15,16,17] 0 5 _ _ _ kZ ?_;refine jL ?_;iterate 5 refine Ab _ rfl (fun W a=>by go_simp<;>rfl) ?_
   refine Ag ?_;refine DV (P:=prog) kZ e7 ?_;go_wp2_with fail;go_meet
   case rel=>exact⟨U,d2,rfl,rfl,ez⟩
 case rest=>
  obtain⟨U,d2,rfl,rfl,b2⟩:=hcut;have Z:=Aa b2.out.2.2;have b5:=Aa b2.out.2.1;have c7:=Aa b2.out.1;have ek:=Z.o.Ap.c1;have cw:=Z.o.Ap.c5;have gh:=Z.o.lt;obtain⟨ap,a8⟩:∃ e,(r.ok&&decide (r.p=m.s.size))=e:=⟨_,rfl⟩;have A:Hid (AlI c m 80012000 R ap 0 100000000 d2 (S0 wc.heap.size 1 1) [] [] (wc.alloc (.cells #[d2.rv 2] 89))):=by
   have o:=Z.o;have:AlI c m 80012000 R ap 0 100000000 d2 (S0 wc.heap.size 1 1) [] [] (wc.alloc (.cells #[d2.rv 2] 89)):=by
    refine⟨?_,fun h=>⟨rfl,?_,bR _⟩,o.alloc _,⟨row_one (Ac.new wc _ _) o.A9.size,rfl,fun b4 f1 l h=>by simp at h,fun e j=>?_,fun f1 h=>by cases h⟩,bR _⟩;rw[dc.o,a8,<- b5.o];rfl;have ab:=c6.o.FI;have ac:r.ok=true:=by rw[<- a8]at h;simp at h;exact h.1
    rw[aF ac]at ab;rw[b5.o];omega;simp[Value.ownBlock]at j;subst j;exact fun bp=>by have:=(o.ge _ bp).2;omega
   exact this
  have L:(r.ok=false/\ap=false)\/(r.ok=true/\ap=decide (U=m.s.size)):=by
   cases h:r.ok with
   | false=>left;rw[<- a8,h];exact⟨rfl,rfl⟩
   | true=>right;rw[<- a8,h,dR,c7.o h];exact⟨rfl,rfl⟩
  clear b2 a8 b6 a5 c6 dc c7 aw;obtain⟨e0,an,e3,eh⟩:∃ x n p,d2.rv 2=.slice x n p:=by
   rcases Fk (Z.o.row 2 kX)with h|⟨g,p,h,_⟩;exact⟨_,_,_,h.1⟩;exact⟨_,_,_,h⟩
  obtain⟨df,S,dh,a3⟩:∃ x n p,d2.rv 0=.slice x n p:=by
   rcases Fk (Z.o.row 0 kX)with h|⟨g,p,h,_⟩;exact⟨_,_,_,h.1⟩;exact⟨_,_,_,h⟩
  have bb:=A.o.mem.Ap.c3;rw[eh]at cw A bb;rw[a3]at bb;clear Z b5 eh a3;by_cases bu:ap=false
  . subst bu;have b8:=Aa (A.o.post (Or.inl rfl) kX);have ba:r.ok=false\/(r.ok=true/\¬ U=m.s.size):=by
     rcases L with h|h;exact Or.inl h.1;exact Or.inr ⟨h.1,gQ h.2.symm⟩
    clear L A b7 c2 be;rcases ba with h|⟨h,ac⟩;all_goals
     rw[h];go_wp2;go_loopw [6,7,8] (fun cy cz bc wr=>cy=S0 wc.heap.size 1 1/\cz=.bool false/\bc=I0 0/\wr=wc.alloc (.cells #[.slice e0 an e3] 89)) (fun _ _ _ _=>0)
     case atStart=>exact⟨rfl,by first|rfl|(simp;omega),rfl,rfl⟩
     case round=>
      obtain⟨rfl,rfl,rfl,rfl⟩:=hrel;go_wp2_with fail;all_goals
       go_ret2;exact b8.o
  have fg:r.ok=true/\U=m.s.size/\ap=true:=by
   rcases L with h|h;exact absurd h.2 bu;have:ap=true:=by simpa using bu
   rw[this]at h;exact⟨h.1,dE h.2.symm,this⟩
  obtain⟨h,rfl,rfl⟩:=fg;rw[h];clear L bu h;go_wp2;go_loopw [6,7,8] (fun cy cz bc wr=>∃ (i af:Nat) (ao:Bool) (b:Dm) (V:aD aI) (am:aD (aD Sp)) (x:aM Addr) (n p:Nat),cy=.slice x n p/\cz=.bool ao/\bc=I0 i/\i<=80012000/\Hid (AlI c m 80012000 R ao i af b (.slice x n p) V am wr)) (fun _ _ bc _=>100000000-(intOf bc).toNat)
  case atStart=>exact⟨0,100000000,true,d2,[],[],_,_,_,rfl,rfl,rfl,by omega,A⟩
  case round=>
   clear A ek bb cw;obtain⟨i,af,ao,b,V,am,x,n,p,rfl,rfl,rfl,gd,O⟩:=hrel;obtain⟨df,S,dh,a3,bq,co⟩:∃ x n p,b.rv 0=.slice x n p/\n=b.ls.length/\(0<n->∃ g,x=some (A0 g 0)/\n<=p/\p<=maxLen):=by
    rcases Fk (O.out.mem.row 0 kX)with h|⟨g,p,h,ab,ac⟩;exact⟨_,_,_,h.1,h.2.symm,fun h=>by omega⟩;exact jY
   have bo:b.ab.es.length=S:=by rw[bq];simp[Dm.ab]
   have bb:q_ wr c.pb 3 (.slice df S dh):=(O.out.mem.Ap.cell 3).trans (by rw[<- a3];rfl);by_cases a9:ao=false\/S<=i
   . have b8:=Aa (O.out.post (by rw[bo];exact a9) kX);have E:(ao=false/\(i:Int)<(S:Int))\/¬ (i:Int)<(S:Int):=by
      by_cases J:(i:Int)<(S:Int);exact Or.inl ⟨a9.resolve_right kX,J⟩;exact Or.inr J
     clear O co bq bo a9;rcases E with⟨rfl,J⟩|J;all_goals
      go_wp2;go_ret2;exact b8.o
   have ff:ao=true:=by cases ao with|false=>exact absurd (Or.inl rfl) a9|true=>rfl
   have ge:i<S:=kX;subst ff;obtain⟨ah,rfl,f9,ga⟩:=co kX;obtain⟨gc,ea,_⟩:=O.out.fi rfl;have v:=O.out.mem;have ck:i<b.ls.length:=kX;obtain⟨l,J⟩:∃ l,b.ls[i]=l:=⟨_,rfl⟩;have d3:=J▸aU ck;obtain⟨fd,y⟩:=v.hid l d3;have aj:∀ f,f<6->wr.cell? (A0 ah (i*6+f))=(UW b.DR l)[f]? := fun f ad=>by
    have:=NA (f:=UW b.DR) (k:=6) (l:=b.ls) (v.row 0 kX) (fun _=>rfl) a3 i f ck ad;rw[J]at this;exact this
   obtain⟨j,cj⟩:∃ j,b.DR[l.e.hid]? = some j:=⟨_,bA fd⟩;have dx:b.DR.getD l.e.hid 0=j:=by rw[aZ,cj];rfl
   have ft:q_ wr ah (i*6) (I0 (l.k:Nat)):=aj 0 kX;have fu:q_ wr ah (i*6+1) (I0 (l.e.t:Nat)):=aj 1 kX;have fv:q_ wr ah (i*6+2) (I0 (l.e.ho.pl:Nat)):=aj 2 kX;have fw:q_ wr ah (i*6+3) (I0 (l.e.ho.w:Nat)):=aj 3 kX;have fx:q_ wr ah (i*6+4) (.bool l.e.ho.low):=aj 4 kX;have a4:wr.cell? (A0 ah (i*6+5))=some (S0 j 8 8):=by rw[aj 5 kX,<- dx];rfl
   obtain⟨af,rfl⟩:∃ g,af=g+1:=⟨af-1,by omega⟩;have ch:b.ab.es[i]? = some l.e:=by simp[Dm.ab,bA ck,J]
   have K:=O.out.eq;rw[aF rfl,allP,ch]at K;simp only at K;obtain⟨au,bg⟩:∃ D,Dx {b.ab with cur:=[]} l.e.ho b.ab.o.length=D:=⟨_,rfl⟩;rw[bg]at K;have eb:B4 m (i+1) au+V7 m l.e<=80012000+1:=by
    rw[<- bg,H5];have ab:B4 m (i+1) {b.ab with cur:=[]}<=B4 m (i+1) b.ab:=by unfold B4;simp only[cP];omega
    have ac:B4 m (i+1) b.ab+V7 m l.e=B4 m i b.ab:=by
     unfold B4;rw[cF (show i<b.ab.es.length by omega),bX,cU];have:b.ab.es[i]'kX=l.e:=by have:=ch;rw[bA kX]at this;exact dH this
     rw[this];omega
    omega
   have el:∀ F,(wr.alloc F).cell? (A0 c.pb 5)=some (b.rv 2):=fun F=>(v.alloc F).Ap.cell 5
   have di:∀ F,(wr.alloc F).frozen? (A0 c.pb 5)=false:=fun F=>(v.alloc F).Ap.frozen 5
   have gi:=v.lt;have d0:b.o.length<=80012000/\b.ts.length<=80012000:=by have:=ea;simp only[B4,Dm.ab,cM]at this;omega
   have A:=Aa O.out;have HEq:=Aa K;have eo:=Aa y;have c5:=Aa cj;have c3:=Aa bg;have et:=Aa eb;clear O K v y d3 J aj ch dx cj ea a9 co bg eb a3;go_upto_region 9 with fail;obtain⟨k,u⟩:∃ W,(wr.setCell (A0 c.pb 5) (.slice none 0 0)).alloc (.cells #[I0 (l.k:Nat),I0 (l.e.t:Nat),I0 (l.e.ho.pl:Nat),I0 (l.e.ho.w:Nat),.bool l.e.ho.low,S0 j 8 8] 171)=W:=⟨_,rfl⟩;rw[u];obtain⟨d1,ak⟩:∃ d,({b with cur:=[],rv:=fun f=>if f=2 then .slice none 0 0 else b.rv f}:Dm)=d:=⟨_,rfl⟩;have br:=A.o.mem.Ahu;rw[ak]at br;have fl:(wr.setCell (A0 c.pb 5) (.slice none 0 0)).heap.size=wr.heap.size:=by simp[World.setCell]
   have bp:=u▸br.alloc _;have bk:Ac k wr.heap.size #[I0 (l.k:Nat),I0 (l.e.t:Nat),I0 (l.e.ho.pl:Nat),I0 (l.e.ho.w:Nat),.bool l.e.ho.low,S0 j 8 8] 171:=by
    have:=Ac.new (wr.setCell (A0 c.pb 5) (.slice none 0 0)) #[I0 (l.k:Nat),I0 (l.e.t:Nat),I0 (l.e.ho.pl:Nat),I0 (l.e.ho.w:Nat),.bool l.e.ho.low,S0 j 8 8] 171;rw[fl]at this;exact u▸this
   have b1:wr.heap.size ∉ c.pb::d1.rows:=br.Uc kX;have dz:Kp (c.pb::d1.rows) wr k:=u▸((Kp.refl _ _).setCell _ _ _ (Or.inl aG)).alloc _;have ef:∀ e∈d1.rows,e∈b.rows/\(b.rv 2).ownBlock≠some e:=fun e j=>by
    have d5:=A.o.mem.nd;rw[bZ,bP]at d5;have an:=d5.2.1;rw[<- ak]at j;unfold Dm.rows at j an⊢;rw[bP,bP]at an;simp only[aV,dU,show((0:Nat)=2)=False by simp,show((1:Nat)=2)=False by simp,cT]at j an⊢;rcases j with j|j|j;exact⟨Or.inl j,fun M=>an.2.2 e j e (Or.inr (by simp[M])) rfl⟩;exact⟨Or.inr (Or.inl j),fun M=>an.2.1.2.2 e j e (by simp[M]) rfl⟩;simp[Value.ownBlock]at j
   have dm:d1.ab={b.ab with cur:=[]}:=by rw[<- ak];rfl
   have d6:d1.o=b.o:=by rw[<- ak]
   have eg:d1.ts.length=b.ts.length:=by rw[<- ak]
   have dy:d1.DR=b.DR:=by rw[<- ak]
   have bd:=Aa bp;have b9:=Aa dz;have ew:=Aa ef;have en:=Aa dm;have c4:=Aa dy;have er:=Aa d6;have gj:d1.ts.length<=80012000:=by rw[eg];exact d0.2
   clear ak br bp dz ef dm u el di bb ft fu fv fw fx a4 dy d6 eg d0;obtain⟨de,bh⟩:∃ W,(k.alloc (.cells #[I0 (l.e.ho.pl:Nat),I0 (l.e.ho.w:Nat),.bool l.e.ho.low,I0 (d1.o.length:Nat)] 98)).drew=W:=⟨_,rfl⟩;have bj:=bh▸((aO k.heap.size k).alloc (aB _) _).drew;have d4:Ac de k.heap.size (Ta (l.e.ho,d1.o.length)).toArray (FH 1):=bh▸Ac.new k _ _;have a6:=Aa (bd.o.more bj);have c9:=Aa (Ck.refl bd.o bj);have bm:KO c d1 k k.drew:=⟨(Kp.refl _ _).drew 1,bd.o.Ap.cell 2⟩;have a2:KO c d1 k de:=⟨Kp.Bu bj,a6.o.Ap.cell 2⟩;have f4:=a6.o.Ap.c4;have f5:k.drew.cell? (A0 c.pb 4)=some (d1.rv 1):=bd.o.Ap.cell 4;have fm:d1.len 1<=1000000000:=show d1.ts.length<=1000000000 by omega
   have a5:Hid (∀ W,KO c d1 k W->W.cell? (A0 wr.heap.size 2)=some (I0 (l.e.ho.pl:Nat))/\W.cell? (A0 wr.heap.size 3)=some (I0 (l.e.ho.w:Nat))/\W.cell? (A0 wr.heap.size 4)=some (.bool l.e.ho.low)/\W.cell? (A0 c.pb 2)=some (.string ⟨d1.o.toArray⟩)):=fun W a=>by
    have ab:=a.kp.Ap bk b1;exact⟨ab.cell 2,ab.cell 3,ab.cell 4,a.out⟩
   have dd:=Aa bh;clear bj bh;go_cut [] (fun wc=>∃ X,Hid (X.ab=au/\Ck c m.s k d1 wc X))
   case first=>
    refine Bo (KO c d1 k) 18 kZ rfl ?_;refine A2 (fun _ _ d _ _ h=>by cases d<;>exact h) [0,1,2,3,5,6,7,8,9,10,11,12] 6 18 _ _ _ kZ ?_;refine jL ?_;iterate 10 refine Ab _ rfl (fun W a=>by obtain⟨ab,ac,av,e6⟩:=a5.o W a;go_simp<;>rfl) ?_
    refine Ab (I0 (d1.o.length:Nat)) rfl (fun W a=>by go_simp) ?_;refine Ab _ rfl (fun W a=>by go_simp<;>rfl) ?_;refine Ag ?_;refine En 4 13 kZ bm ⟨_,rfl,rfl,?zc⟩ ⟨_,rfl,rfl,?zd⟩;all_goals
     unfold Oper.wp;go_simp
    case' zc=>
     refine AZ 13 kZ bm ⟨_,rfl,rfl,?_⟩;unfold Oper.wp;go_simp
    all_goals rw[dd.o]
    case' zd=>
     refine AZ 4 kZ a2 ⟨_,rfl,rfl,?_⟩;unfold Oper.wp;go_simp
    all_goals
     refine AZ 14 kZ a2 ?_;refine IE rfl rfl _ _ 1 kX rfl a6.o rfl k.heap.size (Ta (l.e.ho,d1.o.length)) rfl d4 rfl (Mv _) fm (FK d1 (l.e.ho,d1.o.length)) (fun a7 p w2 ab ac av=>a6.o.tell _ a7 p ab ac av) ?_;intro a7 nq cc ar a4 bi ee;have a4:KO c d1 k ar:=⟨a2.kp.trans a4 (fun e h=>Or.inl h),bi.cell 2⟩;have da:=Aa (c9.o.trans ee);have di:=bi.frozen 4;have el:=bi.cell 4;have fy:KO c d1 k (ar.setCell (A0 c.pb 4) (S0 a7 nq cc)):=⟨a4.kp.setCell _ _ _ (Or.inl aG),da.o.mem.Ap.cell 2⟩;clear ee bi;refine A2 (fun _ _ d _ _ h=>by cases d<;>exact h) [15,16] 1 3 _ _ _ kZ ?_;refine jL ?_;refine k3 ?_;refine AZ 17 kZ a4 ⟨_,rfl,rfl,?_⟩;unfold Oper.wp;go_simp;refine DV (P:=prog) kZ fy ?_;go_wp2_with fail;go_meet
     case rel=>
      refine⟨FK d1 (l.e.ho,d1.o.length) (S0 a7 nq cc),?_⟩;have:(FK d1 (l.e.ho,d1.o.length) (S0 a7 nq cc)).ab=au:=by
       rw[<- c3.o,<- en.o,show b.ab.o.length=d1.o.length by rw[er.o];rfl];rfl
      exact⟨this,da.o⟩
   case rest=>
    obtain⟨X,cu⟩:=hcut;have a0:=cu.out.2;have ai:=cu.out.1;have ei:∀ e,e<k.heap.size->e ∉ c.pb::d1.rows->e ∉ c.pb::X.rows:=fun e ab ac o=>by
     rcases bB.1 o with rfl|o;exact ac aG;rcases a0.rows e o with h|h;exact ac (aH _ h);omega
    have ay:=a0.kp.Ap bk b1;have fe:=bk.lt;have ct:=ei _ fe b1;have bf:=ay.c0;have e1:=ay.c1;have e2:=ay.c5;have ci:X.ab.es=b.ab.es:=by rw[ai,<- c3.o];rfl
    have cg:i+1<=X.ab.es.length:=by rw[ci,bo];omega
    have y:=eo.o;have d8:=et.o;have fo:V7 m l.e=10000*(m.sk l.e.t-l.e.t)+2*l.e.As.length+1:=rfl;obtain⟨z,b3⟩:∃ z,pT m c.G (l.e.n+1) l.e.As (some l.e.hid) l.e.t au=z:=⟨_,rfl⟩;have cp:=J6 c2.o be.o b7.o (l.e.n+1) wc X l.k l.e.As false true (some l.e.hid) (S0 j 8 8) l.e.t (dn:=i+1) ⟨a0.mem,y.al,cg,by rw[ai];omega⟩ ⟨y.pt,y.trs,y.JI,y.Xx,y.JI.CA rfl,fun _=>⟨_,rfl⟩⟩ (fun f M=>by
     cases M
     obtain⟨ej,ab,_⟩:=a0.DR;refine⟨j,?_,rfl⟩;rw[ab,c4.o,aW (bI.1 c5.o).1];exact c5.o) y.dep
    have bv:=QM (dn:=i+1) be.o b7.o (l.e.n+1) l.e.As (some l.e.hid) l.e.t au y.Xx y.al (by rw[<- ai];exact cg);have b0:=be.o.sk l.e.t y.al;rw[ai,b3]at cp;rw[b3]at bv;have K:=HEq.o;rw[b3]at K;obtain⟨Y,L⟩:∃ e,(z.ok&&decide (z.p=m.sk l.e.t))=e:=⟨_,rfl⟩;rw[L]at K;have dt:Y=true->z.ok=true/\z.p=m.sk l.e.t:=fun h=>by rw[h]at L;simpa using L
    have bq:i+1<=80012000:=by
     have:au.es.length=S:=by rw[<- ai,ci];exact bo
     unfold B4 at d8;omega
    have d9:Y=true->B4 m (i+1) z.D<=80012000:=fun h=>by
     obtain⟨ab,ac⟩:=dt h;have:=bv.FI;rw[aF ab,ac]at this;have av:=b0.2.1;have e6:=b0.2.2.2.le;omega
    have du:i+1<=z.D.es.length:=by
     obtain⟨gl,h⟩:=bv.es;rw[h,<- ai];simp only[aR];omega
    have eq:=Aa (show∀ ar B cx c0,B.ab=z.D->D4 c m.s ar B->AlS c ar B cx c0 (am++[b.cur])->AlI c m 80012000 R Y (i+1) af B cx c0 (am++[b.cur]) ar from fun ar B cx c0 ab ac av=>⟨by rw[K,<- ab];rfl,fun h=>⟨by omega,by rw[ab];exact d9 h,by rw[ab];exact du⟩,ac,av,by have:=A.o.cnt;simp;omega⟩);have ex:=Aa (fun W=>Jd m.s fk l.e.t (m.sk l.e.t) y.al.le b0.1 W);have c8:=Aa cp;have dj:∀ I B,Ck c m.s wc X I B->AlQ c I B (.slice x n p) (V++[b.rv 2]) (am++[b.cur])/\I.cell? (A0 wr.heap.size 1)=some (I0 (l.e.t:Nat))/\wr.heap.size<I.heap.size:=fun I B al=>by
     have cq:=a0.trans al;refine⟨A.o.Au.to A.o.mem ew.o (b9.o.trans cq.kp (fun e h=>Or.inl h)) (fun e j=>(cq.rows e j).imp id (fun h=>bQ b9.o.size h)) ?_,(al.kp.Ap ay ct).cell 1,(al.kp.Ap ay ct).lt⟩;obtain⟨ej,ab,ac⟩:=cq.DR;exact⟨ej,by rw[ab,c4.o],fun e j=>bQ b9.o.size (ac e j)⟩
    have db:=Aa dj;have gb:(V++[b.rv 2]).length<=80012001:=by have ab:=A.o.cnt;have ac:=A.o.Au.len;simp;omega
    have d7:(z.ok=false/\Y=false)\/(z.ok=true/\Y=decide (z.p=m.sk l.e.t)):=by
     rw[<- L]
     cases z.ok
     exact Or.inl ⟨rfl,rfl⟩;exact Or.inr ⟨rfl,by simp⟩
    obtain⟨fs,bl,fp,fq,fr⟩:=cY Tryz.VK;clear dj cp bv K L dt d9 du b0 d8 fo y ci cu a0 ai cg b3 ay ct ei a5 c9 a6 dd bm a2 f4 f5 d4 bk b1;go_upto_region 11 with(go_at_call 69;refine c8.o.mono ?_;rintro M I⟨fz,B,rfl,ed,dp,al⟩);obtain⟨aq,gm,gn⟩:=db.o I B al;have eu:=Aa (show∀ b4,AlQ c (I.drewN b4) B (.slice x n p) (V++[b.rv 2]) (am++[b.cur])from fun _=>⟨aq.row,aq.len,aq.each,aq.out,aq.outs⟩);have az:=al.mem;obtain⟨ca,cv,cb,cs⟩:∃ x n p,B.rv 2=.slice x n p:=by
     rcases Fk (az.row 2 kX)with h|⟨g,p,h,_⟩;exact⟨_,_,_,h.1⟩;exact⟨_,_,_,h⟩
    have ek:=az.Ap.c1;have cw:∀ n,(I.drewN n).cell? (A0 c.pb 5)=some (.slice ca cv cb):=fun _=>(az.Ap.cell 5).trans (by rw[<- cs];rfl)
    have ep:=Aa (fun n=>az.drew n);have es:=Aa (show∀ b4,(I.drewN b4).ownsRow c.w0.heap.size 89 1 (.slice x n p) (V++[b.rv 2]).length (V++[b.rv 2])from fun _=>aq.row);have ey:=Aa cs;have em:=Aa dp;have f8:=az.A9.size;have fa:(z.ok=false/\Y=false)\/(z.ok=true/\Y=decide ((fz:Int)=(m.sk l.e.t:Int))):=by
     rcases d7 with h|⟨ab,ac⟩;exact Or.inl h;rw[ed ab];exact Or.inr ⟨ab,by rw[ac];congr 1;exact propext ⟨fun h=>by omega,fun h=>by omega⟩⟩
    clear al az ed d7 aq db c8 cs dp bf e1 e2;rcases fa with⟨ab,ac⟩|⟨ab,ac⟩
    case' inl=>
     rw[ab];go_quiet (fail)
    case' inr=>
     rw[ab];go_quiet (first|(go_at_call 70;exact eP (ex.o _)))
    all_goals
     go_wp2_with
      (at_builtin
       refine cS _ rfl _ _ _ rfl c.w0.heap.size 89 fs _ 1 24 underlying92 bl fp fq fr rfl kX _ _ _ rfl ((es.o nq).alloc _) (A0 I.heap.size 0) 1 1 [.slice ca cv cb] rfl rfl (cD (cs:=#[.slice ca cv cb]) (t:=89) (fr:=(0,0)) (cJ (I.drewN nq) _)) (by simp[Value.oneCell']) kX lD kX lA (I.heap.size+1) kY ?_;intro e5 e4 go fh fc e9 gf)
     have ba:=(eu.o nq).app (ep.o nq) (g:=e5) (cap:=e4) (n:=V.length+1+1) fc (by rw[ey.o];simpa using fh) kY e9;have e8:=eq.o _ _ _ _ em.o ba.2 ba.1;clear ba;go_roundw
     case rel=>exact⟨i+1,af,Y,B,V++[b.rv 2],am++[b.cur],_,_,_,rfl,by rw[ac]<;>rfl,by go_num,bq,e8⟩
     case measure=>simp[intOf];omega

import Derived.Test.YtmlkhhhjdpbhfaaGreatDoorGe16
namespace Go.Proofs.YtmlkhhhjdpbhfaaGreatDoor
open Go.RowKit Go.Proofs.Tryz
set_option maxHeartbeats 4000000
set_option maxRecDepth 100000
theorem Tryz.Aea:(prog.info? 199).map (fun i=>(i.zero,i.size,i.bytes))=some (some (.agg #[I0 0,I0 0,I0 0,I0 0,.nilFunc]),5,40):=kZ
def spV(s:Sp):Array aI:=#[I0 (s.a:Nat),I0 (s.b:Nat),I0 (s.ho.pl:Nat),I0 (s.ho.w:Nat),.func (.func (BR s.ho.low)) #[] #[]]
theorem Ue(c o w k ax ao bo u I st)(j:BO c o w k ax ao bo u I st)(a)(z:st.Au≠[])(bf:st.Au.length<=100000000)(b8:(st.Au.getLastD []).length<=100000000):
 Calls prog 193 #[P0 k,.agg #[I0 (a.a:Nat),I0 (a.b:Nat),I0 (a.ho.pl:Nat),I0 (a.ho.w:Nat),.func (.func (BR a.ho.low)) #[] #[]]] w fun f w'=>C5 c o w k I (Jr st a) f w':=by
 obtain⟨bl,a6,bi,bj,bk⟩:=cY Tryz.Aea;have ca:=j.ge k aG;have S:st.Au=st.Au.dropLast++[st.Au.getLastD []]:=by
  rw[fS,jG z];exact(jH z).symm
 have x:=j.FV;obtain⟨b,s,rfl⟩:∃ b s,u=b++[s]:=by
  have ai:u≠[]:=fun f=>by rw[f]at x;exact z (cG x.symm)
  exact⟨u.dropLast,u.getLast ai,(jH ai).symm⟩
 generalize a9:st.Au.getLastD []=l at*;have a7:b.length+1=st.Au.length:=by simpa using x
 have ak:st.Au[b.length]? = some l:=by
  rw[S,bG (by rw[gK];omega),gK,show b.length-(st.Au.length-1)=0 by omega];rfl
 have O:=j.sum b.length s l kY ak;obtain⟨A,v,be⟩:=B3 O;have y:=j.Au;rcases y.2 with⟨f,a1⟩|⟨e,r,a0,f,_,ah,_,_,bg,bh⟩;simp at a1;rw[aR,eI]at f;subst f;have ay:∀ h,(w.alloc h).cell? (A0 k 49)=some (S0 e (b.length+1) r):=fun h=>(Ac.alloc j.Ap h).cell 49
 have ae:w.cell? (A0 e b.length)=some s:=by
  rw[aR,eI]at y;have:=y.cellAt b.length kY;simpa using this
 have M:=j.nd;rw[bZ]at M;have bb:e∈E6 ao (S0 e (b.length+1) r) (b++[s]) I:=Dg rfl;have aj:=j.ge e (aH _ bb);have E:Below o w (w.alloc (.cells (spV a) 199)):=(aO o w).alloc kX _;have K:=j.B9 E (fun bm _ B=>bC _ _ _ B);have p:=Ac.new w (spV a) 199;have am:(w.alloc (.cells (spV a) 199)).heap.size=w.heap.size+1:=kY;have ad:(w.alloc (.cells (spV a) 199)).cell? (A0 e b.length)=some s:=by rw[aL (w:=w) (bC _ _ _ aj.2)];exact ae
 have al:=O.alloc (.cells (spV a) 199);have bc:some e≠s.ownBlock:=fun f=>by
  have L:=M.2;unfold E6 at L;rw[bP,bP]at L;obtain⟨_,⟨_,_,a2⟩,_⟩:=L;exact a2 e (by simp[Value.ownBlock]) e (by simp only[aV,eL];exact Or.inl ⟨s,by simp,f.symm⟩) rfl
 have F:Ac (w.alloc (.cells (spV a) 199)) e a0 197:=by
  unfold Ac;rw[bC _ _ _ aj.2];exact ah
 have av:=Aa S;have ap:=Aa E;have X:=Aa K;have U:=K.Ap;clear j K E O S x ak ah bh y ae bg;unfold spV at*;subst be;have b6:b.length<=100000000:=kX;have b9:(b.length:Int)+1-1=(b.length:Int):=kX;have b4:(b.length:Int)<(b.length:Int)+1:=kX;have b5:¬ (b.length:Int)<0:=kX;clear a7 a9 bf z;go_enter func193,ntmps193;go_wp2_with fail;clear ay;have Y:=Aa am;clear am;generalize w.alloc (.cells #[I0 (a.a:Nat),I0 (a.b:Nat),I0 (a.ho.pl:Nat),I0 (a.ho.w:Nat),.func (.func (BR a.ho.low)) #[] #[]] 199)=g at*;have a3:=Y.o.symm;have bz:q_ g k 49 (S0 e (b.length+1) r):=U.cell 49;have b0:∀ h,(g.alloc h).cell? (A0 k 49)=some (S0 e (b.length+1) r):=fun h=>(Ac.alloc U h).cell 49
 have ba:e<g.heap.size:=kX;have b3:∀ h,(g.alloc h).cell? (A0 e b.length)=some (.slice A l.length v):=fun h=>by rw[aL (w:=g) (bC _ _ _ ba)];exact ad
 have bp:=p.c0;have bq:=p.c1;have br:=p.c2;have bu:=p.c3;have bv:=p.c4;have af:=(F.cell b.length).symm.trans ad;have ar:=Aa af;have an:some k≠(Value.slice A l.length v).ownBlock:=fun f=>M.1 (GK (i:=b.length) kY f.symm)
 have aw:=Aa an;clear af an;have aq:=Aa F;have au:=Aa al;clear U p F al Y;clear a3;go_region_law (
  (refine gZ _ lE _ _ _ lE o 199 bl _ 5 40 underlying197 a6 bi bj bk rfl kX (.slice A l.length v) l.length (l.flatMap S6) lE ((au.o.alloc _).drew)
    (A0 g.heap.size 0) 1 1 (S6 a) lE lE
    (cD (cs:=#[I0 (a.a:Nat),I0 (a.b:Nat),I0 (a.ho.pl:Nat),I0 (a.ho.w:Nat),.func (.func (BR a.ho.low)) #[] #[]]) (t:=199) (fr:=(0,0)) (cJ g _)) (by simp[S6,VG,hoF,CO,Value.oneCell'])
    kX lD kX lA (g.heap.size+1) kY ?_
   intro Z az V bd J a5 b7;have aa:=((aq.o.alloc _).drew).grown J bc;have bx:V.cell? (A0 e b.length)=some (.slice A l.length v):=by
    exact(aa.cell _).trans ar.o
   have a4:=((X.o.Ap.alloc _).drew).grown J aw.o;have b1:q_ V k 49 (S0 e (b.length+1) r):=a4.cell 49;have b2:V.frozen? (A0 e b.length)=false:=aa.frozen _))
 all_goals
  go_wp2;go_end0;have ac:Below o g (g.alloc (.cells #[I0 (a.a:Nat),I0 (a.b:Nat),I0 (a.ho.pl:Nat),I0 (a.ho.w:Nat),.func (.func (BR a.ho.low)) #[] #[]] 199)).drew:=((aO o g).alloc kX _).drew;have a8:=X.o.B9 (w':=(g.alloc (.cells #[I0 (a.a:Nat),I0 (a.b:Nat),I0 (a.ho.pl:Nat),I0 (a.ho.w:Nat),.func (.func (BR a.ho.low)) #[] #[]] 199)).drew) ac (fun bm _ B=>bC _ _ _ B);have ab:=a8.Aef a l av.o Z az J bd (by
   rcases a5 with f|f;exact Or.inl f;refine Or.inr ?_;show(g.alloc _).heap.size<=Z;simp;omega)
  exact⟨rfl,ap.o.trans (ac.trans ab.2),_,_,_,_,[],by rw[dI];exact ab.1⟩
theorem Kz(c)(e)(w)(f)(z L J)(K)(j)(st a)(h:BO c e w f z L J K j st)(av:a.Au≠[])(aw:a.Au.length<=100000000)(ax:(a.Au.getLastD []).length<=100000000)(b g aq I k d i:Nat)(v:Ho)(A:Nat->aM Ho)(M:aI)(y:Pt)(ah:Am w b y)(au:b<e)(_hgB:g<e)(ac:y.dp=(d:Int))(ap:d<8)(a5:y.v=S0 g 1 aq)(a6:w.cell? (A0 g 0)=some (P0 I))(ae:H0 c e f w I M (P0 k) (some i) st a)(B:j[i]? = some k)(Z:a.AS[i]? = some A)(am:A d=some v):
 Calls prog 156 #[P0 f,P0 b,M,P0 k] w fun r w'=>C5 c e w f j (Jr a ⟨st.out.length,a.out.length,v⟩) r w':=by
 refine lz ?_;intro q ab af aj ak ai bm al ad;have p:=Aa (And.intro av (And.intro aw ax));go_enter func156,ntmps156;go_wp2_with fail;refine(ad.o w z L J K j (aO _ _) al.o ⟨k,rfl,B⟩).mono ?_;rintro r w2⟨rfl,E,X,a2,a0,a1,x,o⟩;have U:=Aa o;have O:=Aa E;have u:=o.hole (NM (m:=x) B) Z am ap;have a7:=u.c0;have a8:=u.c1;have a9:=u.c2;obtain⟨az,Y,ao⟩:=B3 o.out;have a4:w2.cell? (A0 f 46)=some (.slice az a.out.length Y):=by rw[<- ao];exact o.Ap.cell 46
 have ba:w2.cell? (A0 b 3)=some (I0 (d:Nat)):=by rw[aL (w:=w) (E.block b au)];exact ai
 go_wp2_with fail;refine AX 16 _ rfl rfl kZ kZ ?_;refine gq ?_;have F:Below e w2 (w2.drewN 1):=⟨rfl,rfl,rfl,aB _,fun _ _=>rfl⟩;refine(Ue c e (w2.drewN 1) f X a2 a0 a1 (j++x) a (U.o.B9 F (fun _ _ _=>rfl)) ⟨st.out.length,a.out.length,v⟩ p.o.1 p.o.2.1 p.o.2.2).mono ?_;rintro r be⟨rfl,an,a3,bd,bb,bc,ay,ar⟩;have V:=Aa ar;have S:=Aa (O.o.trans (F.trans an));simp only;refine bL ?_;go_wp2;go_end0;exact⟨rfl,S.o,_,_,_,_,x++ay,by rw[<- bO];exact V.o⟩

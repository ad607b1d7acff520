import Derived.Test.YtmlkhhhjdpbhfaaGreatDoorFo11
import Derived.Test.YtmlkhhhjdpbhfaaGreatDoorFo01
import Derived.Test.YtmlkhhhjdpbhfaaGreatDoorFo04
namespace Go.Proofs.YtmlkhhhjdpbhfaaGreatDoor
open Go.RowKit
def Ord (lo hi:Nat)(l:List It):Prop:=l.Pairwise (fun x y=>x.pl<y.pl)∧∀ x,x∈l→(lo:Int)≤x.pl∧x.pl<(hi:Int)
theorem Ord.nil (lo hi:Nat):Ord lo hi []:=⟨List.Pairwise.nil,fun x hx=>by simp at hx⟩
theorem Ord.append {lo mid hi:Nat}{a b:List It}(ha:Ord lo mid a)(hb:Ord mid hi b)(h1:lo≤mid)(h2:mid≤hi):Ord lo hi (a++b):=by
 refine ⟨List.pairwise_append.2 ⟨ha.1,hb.1,fun x hx y hy=>?_⟩,fun x hx=>?_⟩
 · have:=ha.2 x hx;have:=hb.2 y hy;omega
 · rcases List.mem_append.1 hx with h | h
   · have:=ha.2 x h;omega
   · have:=hb.2 x h;omega
theorem Ord.cons {lo mid hi:Nat}{x:It}{r:List It}(hx:(lo:Int)≤x.pl∧x.pl<(mid:Int))(hr:Ord mid hi r)(h2:mid≤hi):Ord lo hi (x::r):=by
 refine ⟨List.pairwise_cons.2 ⟨fun y hy=>?_,hr.1⟩,fun y hy=>?_⟩
 · have:=hr.2 y hy;omega
 · rcases List.mem_cons.1 hy with rfl | h
   · omega
   · have:=hr.2 y h;omega
structure ItemOk (x:It):Prop where
 c:x.c=82∨x.c=39∨kAny x.c=true
 r:x.c=82→0≤x.r∧x.r<8
 d:kD x.c=true→0≤x.d∧x.d<8
theorem headV_item (s:ByteArray)(a:Nat)(h:(headV s a).ok=true):ItemOk (headV s a).it∧(a:Int)≤(headV s a).it.pl∧(headV s a).it.pl<((headV s a).i:Int):=by
 unfold headV at h ⊢
 split
 · rename_i h1
   exact ⟨⟨Or.inl rfl,fun _=>⟨by simp only;omega,by simp only;omega⟩,fun h=>absurd (show kD 82=true from h) (by decide)⟩,by simp,by simp;omega⟩
 · rename_i hr
   rw[if_neg hr] at h
   split
   · rename_i h39
     rw[if_pos h39] at h
     split
     · rename_i hx;rw[if_pos hx] at h;cases h
     · rename_i hx
       rw[if_neg hx] at h
       split
       · rename_i hy;rw[if_pos hy] at h;cases h
       · exact ⟨⟨Or.inr (Or.inl rfl),fun h=>absurd (show (39:Int)=82 from h) (by decide),fun h=>absurd (show kD 39=true from h) (by decide)⟩,by simp,by simp;omega⟩
   · rename_i h39
     rw[if_neg h39] at h
     split
     · rename_i hk
       rw[if_pos hk] at h
       have h82:bt s a≠82:=by intro e;rw[e] at hk;revert hk;decide
       have dep:∀ (i:Nat) (it:It),it.c=bt s a→(a:Int)≤it.pl→it.pl<(i:Int)→(depHd s (bt s a) i it).ok=true→ItemOk (depHd s (bt s a) i it).it∧(a:Int)≤(depHd s (bt s a) i it).it.pl∧(depHd s (bt s a) i it).it.pl<((depHd s (bt s a) i it).i:Int):=by
        intro i it hc hp1 hp2 hd
        unfold depHd at hd ⊢
        split
        · rename_i h1
          rw[if_pos h1] at hd
          split
          · rename_i h2
            refine ⟨⟨Or.inr (Or.inr (by simp only;rw[hc];exact hk)),fun e=>absurd (hc.symm.trans e) h82,fun _=>⟨by simp only;omega,by simp only;omega⟩⟩,by simp only;omega,by simp only;omega⟩
          · rename_i h2;rw[if_neg h2] at hd;cases hd
        · rename_i h1
          exact ⟨⟨Or.inr (Or.inr (by rw[hc];exact hk)),fun e=>absurd (hc.symm.trans e) h82,fun h=>absurd (by rw[hc] at h;exact h) h1⟩,hp1,hp2⟩
       split
       · rename_i hw
         rw[if_pos hw] at h
         split
         · rename_i h4
           rw[if_pos h4] at h
           exact dep _ _ rfl (by simp) (by simp;omega) h
         · rename_i h4;rw[if_neg h4] at h;cases h
       · rename_i hw
         rw[if_neg hw] at h
         exact dep _ _ rfl (by simp) (by simp only;omega) h
     · rename_i hk;rw[if_neg hk] at h;cases h
def GoodO (s:ByteArray)(p:Nat→Res):Prop:=∀ a,a≤s.size→(p a).ok=true→Ord a (p a).i (p a).its∧∀ x,x∈(p a).its→ItemOk x
theorem loopN_ord (s:ByteArray)(p:Nat→Res)(hg:Good s p)(hp:GoodO s p)(k:Nat):∀ a,a≤s.size→(loopN p k a).ok=true→Ord a (loopN p k a).i (loopN p k a).its∧∀ x,x∈(loopN p k a).its→ItemOk x:=by
 induction k with
 | zero=>intro a _ _;exact ⟨Ord.nil _ _,fun x hx=>by simp[loopN] at hx⟩
 | succ k ih=>
  intro a ha h
  rw[loopN] at h ⊢
  split
  · rename_i hok
    rw[if_pos hok] at h
    obtain ⟨g1,g2,_⟩:=hg a ha
    obtain ⟨h1,h2⟩:=hp a ha hok
    obtain ⟨i1,i2⟩:=ih _ g1 h
    have g4:=(loopN_good s p hg k (p a).i g1).2.1
    exact ⟨h1.append i1 g2 g4,fun x hx=>by rcases List.mem_append.1 hx with h | h;exact h2 x h;exact i2 x h⟩
  · rename_i hok;rw[if_neg hok] at h;cases h
theorem loopB_ord (s:ByteArray)(p:Nat→Res)(hg:Good s p)(hp:GoodO s p)(k:Nat):∀ a,a≤s.size→(loopB p s k a).ok=true→Ord a (loopB p s k a).i (loopB p s k a).its∧∀ x,x∈(loopB p s k a).its→ItemOk x:=by
 induction k with
 | zero=>intro a _ h;cases h
 | succ k ih=>
  intro a ha h
  rw[loopB] at h ⊢
  split
  · rename_i hok
    rw[if_pos hok] at h
    obtain ⟨g1,g2,_⟩:=hg a ha
    obtain ⟨h1,h2⟩:=hp a ha hok
    split
    · refine ⟨⟨h1.1,fun x hx=>?_⟩,h2⟩
      have:=h1.2 x hx
      simp only
      omega
    · rename_i h41
      rw[if_neg h41] at h
      obtain ⟨i1,i2⟩:=ih _ g1 h
      have g4:=(loopB_good s p hg k (p a).i g1).2.1
      exact ⟨h1.append i1 g2 g4,fun x hx=>by rcases List.mem_append.1 hx with h | h;exact h2 x h;exact i2 x h⟩
  · rename_i hok;rw[if_neg hok] at h;cases h
theorem prs_ord (s:ByteArray)(rule:Int)(f:Nat):GoodO s (prs s rule f):=by
 induction f with
 | zero=>intro a _ h;cases h
 | succ f ih=>
  intro a ha h
  rw[prs] at h ⊢
  split
  · rename_i hok
    rw[if_pos hok] at h
    obtain ⟨it,p1,p2⟩:=headV_item s a hok
    obtain ⟨b1,b2,_,_⟩:=headV_bd s a ha
    have hin:(Ord (headV s a).i (inner (prs s rule f) s f (headV s a)).i (inner (prs s rule f) s f (headV s a)).its∧∀ x,x∈(inner (prs s rule f) s f (headV s a)).its→ItemOk x)∧(headV s a).i≤(inner (prs s rule f) s f (headV s a)).i:=by
     have h':(inner (prs s rule f) s f (headV s a)).ok=true:=h
     unfold inner at h' ⊢
     split
     · rename_i hneg
       rw[if_pos hneg] at h'
       exact ⟨loopB_ord s _ (prs_good s rule f) ih _ _ b2 h',(loopB_good s _ (prs_good s rule f) _ _ b2).2.1⟩
     · rename_i hneg
       rw[if_neg hneg] at h'
       exact ⟨loopN_ord s _ (prs_good s rule f) ih _ _ b2 h',(loopN_good s _ (prs_good s rule f) _ _ b2).2.1⟩
    obtain ⟨⟨i1,i2⟩,i3⟩:=hin
    refine ⟨Ord.cons ⟨p1,p2⟩ i1 i3,fun x hx=>?_⟩
    rcases List.mem_cons.1 hx with rfl | hx
    · exact ⟨it.c,it.r,it.d⟩
    · exact i2 x hx
  · rename_i hok;rw[if_neg hok] at h;cases h
def OrdR:Nat→List Rl→Prop
 | _,[]=>True
 | lo,x::t=>lo≤x.pl∧∃ hi,x.pl+1≤hi∧Ord (x.pl+1) hi x.its∧OrdR hi t
structure RlOk (n:Nat) (x:Rl):Prop where
 num:0≤x.r∧x.r<8
 items:∀ y,y∈x.its→ItemOk y
 len:x.its.length≤n
theorem rules_ord (s:ByteArray)(k:Nat):∀ top a,top≤72→(rulesV s k top a).ok=true→OrdR a (rulesV s k top a).rls∧(∀ x,x∈(rulesV s k top a).rls→RlOk s.size x)∧(rulesV s k top a).rls.length≤k∧0<(rulesV s k top a).rls.length:=by
 induction k with
 | zero=>intro top a _ h;cases h
 | succ k ih=>
  intro top a ht h
  rw[rulesV] at h ⊢
  split
  · rename_i h1;rw[if_pos h1] at h;cases h
  · rename_i h1
    rw[if_neg h1] at h
    have h1':65≤bt s a∧bt s a≤top:=by simpa using h1
    split
    · rename_i h2;rw[if_pos h2] at h;cases h
    · rename_i h2
      rw[if_neg h2] at h
      have hlt:=bt_pos_lt s (a+1) (by omega)
      obtain ⟨g1,g2,g3⟩:=prs_good s (bt s a-65) (s.size+1) (a+2) (by omega)
      split
      · rename_i h3;rw[if_pos h3] at h;cases h
      · rename_i h3
        rw[if_neg h3] at h
        have h3':(prs s (bt s a-65) (s.size+1) (a+2)).ok=true:=by simpa using h3
        obtain ⟨o1,o2⟩:=prs_ord s (bt s a-65) (s.size+1) (a+2) (by omega) h3'
        obtain ⟨g3,g4⟩:=g3 h3'
        have hx:RlOk s.size ⟨bt s a-65,a,(prs s (bt s a-65) (s.size+1) (a+2)).its⟩:=⟨⟨by simp only;omega,by simp only;omega⟩,o2,by simp only;omega⟩
        have ho:Ord (a+1) (prs s (bt s a-65) (s.size+1) (a+2)).i (prs s (bt s a-65) (s.size+1) (a+2)).its:=⟨o1.1,fun x hx=>by have:=o1.2 x hx;omega⟩
        split
        · refine ⟨⟨Nat.le_refl _,(prs s (bt s a-65) (s.size+1) (a+2)).i,by simp only;omega,ho,trivial⟩,fun x hx2=>?_,by simp,by simp⟩
          simp at hx2
          subst hx2
          exact hx
        · rename_i h4
          rw[if_neg h4] at h
          split
          · rename_i h5;rw[if_pos h5] at h;cases h
          · rename_i h5
            rw[if_neg h5] at h
            obtain ⟨i1,i2,i3,i4⟩:=ih 72 _ (by omega) h
            simp only[RRes.pre,List.cons_append,List.nil_append,List.length_cons] at *
            refine ⟨⟨Nat.le_refl _,(prs s (bt s a-65) (s.size+1) (a+2)).i+1,by simp only;omega,⟨ho.1,fun x hx=>⟨(ho.2 x hx).1,Int.lt_trans (ho.2 x hx).2 (by omega)⟩⟩,i1⟩,fun x hx2=>?_,Nat.succ_le_succ i3,Nat.succ_pos _⟩
            rcases List.mem_cons.1 hx2 with rfl | hx2
            · exact hx
            · exact i2 x hx2
theorem OrdR.pl {l:List Rl}:∀ {lo:Nat},OrdR lo l→∀ x,x∈allIts l→(lo:Int)≤x.pl:=by
 induction l with
 | nil=>intro lo _ x hx;simp[allIts] at hx
 | cons r t ih=>
  intro lo h x hx
  obtain ⟨h1,hi,h2,h3,h4⟩:=h
  simp only[allIts,List.flatMap_cons,List.mem_append] at hx
  rcases hx with hx | hx
  · have:=h3.2 x hx;omega
  · have:=ih h4 x hx;omega
end Go.Proofs.YtmlkhhhjdpbhfaaGreatDoor
namespace Go.Proofs.YtmlkhhhjdpbhfaaGreatDoor
open Go.RowKit
structure ItR (x:It):Prop where
 it:ItemOk x
 w:kW x.c=true→1≤x.w∧x.w≤4
 b:x.c=39→0≤x.b∧x.b≤255
def TWf (R:Nat→Bool):Nat→Bool→Bool→List It→Prop
 | 0,_,_,_=>False
 | _+1,_,_,[]=>False
 | f+1,own,ctx,x::r=>ItR x∧(hidesB x.c=true→own=true)∧(usesB x.c=true→ctx=true)∧(x.c=82→R x.r.toNat=true)∧
  (x.c=47→(segs r.length r).length=2)∧(inB [42,116,119,64,115] x.c=true→segs r.length r=[r])∧
  ∀ k,k∈segs r.length r→TWf R f (decide (x.c=40)) (decide (x.c=40)||(ctx&&inB [119,64,115] x.c)) k
structure PInv (bs:ByteArray) (N:Nat) (st:PS):Prop where
 pl:st.pl≤st.en
 en:st.en≤bs.size
 rd:st.rd.length=bs.size
 vals:st.vals≤N
 deps:∀ d,(st.deps d).1<4294967296∧(st.deps d).2≤4
structure Keeps (bs:ByteArray) (N:Nat) (st:PS) (hid:Bool) (o:PO):Prop where
 inv:PInv bs N o.st
 en:o.st.en=st.en
 ge:st.pl≤o.st.pl
 deps:hid=false→o.st.deps=st.deps
def hidV (k:List It):Bool:=match k with | x::_=>hidesB x.c | []=>false
def TrW (R:Nat→Bool)(own ctx:Bool)(k:List It):Prop:=∃ f,TWf R f own ctx k
structure TOk (R:Nat→Bool) (bs:ByteArray) (N:Nat) (T:Nat→Nat→Bool→List It→PS→PO):Prop where
 fit:∀ fuel far q own ctx k st,TrW R own ctx k→PInv bs N st→(T fuel far q k st).ok=true→Keeps bs N st (hidV k) (T fuel far q k st)∧(T fuel far q k st).e=0
 less:∀ fuel far q k st,(T fuel far q k st).fuel≤fuel
theorem madeO_less (N fuel far:Nat)(st:PS)(t:List UInt8):(madeO N fuel far st t).fuel≤fuel:=by
 unfold madeO;split
 · exact Nat.zero_le _
 · exact Nat.le_refl _
theorem madeO_fit (bs:ByteArray)(N fuel far:Nat)(st st':PS)(t:List UInt8)(hi:PInv bs N st')(he:st'.en=st.en)(hg:st.pl≤st'.pl)(hd:st'.deps=st.deps)(hid:Bool)(h:(madeO N fuel far st' t).ok=true):
 Keeps bs N st hid (madeO N fuel far st' t)∧(madeO N fuel far st' t).e=0:=by
 unfold madeO at h ⊢
 by_cases hv:st'.vals=N
 · rw[if_pos hv] at h;cases h
 · rw[if_neg hv]
   have:=hi.vals
   exact ⟨⟨⟨hi.pl,hi.en,hi.rd,by simp only[fitO];omega,hi.deps⟩,he,hg,fun _=>hd⟩,rfl⟩
theorem readS_inv (bs:ByteArray)(N:Nat)(st:PS)(n:Nat)(h:PInv bs N st)(hc:canRead st.rd st.pl st.en n=true):PInv bs N (readS st n):=by
 unfold canRead at hc
 simp only[Bool.and_eq_true,decide_eq_true_eq] at hc
 have:=h.pl
 exact ⟨by simp only[readS];omega,h.en,by simp only[readS,setR_len];exact h.rd,h.vals,h.deps⟩
theorem extract_le (bs:ByteArray)(a n:Nat):(bs.extract a (a+n)).size≤n:=by rw[ByteArray.size_extract];omega
theorem numT_lt (x:It)(b:ByteArray)(h:b.size≤4):numT x b<4294967296:=by
 have h1:=hiV_lt b b.size
 have h2:=loV_lt b b.size
 have h3:=pow_le4 b.size h
 unfold numT;split<;>omega
theorem bytesT_ok (bs:ByteArray)(N:Nat)(x:It)(q:Bool)(fuel far:Nat)(st:PS)(hx:ItR x)(hw:kW x.c=true∨x.c=39∨x.c=114∨x.c=46)(hi:PInv bs N st)(h:(bytesT bs N x q fuel far st).ok=true):
 Keeps bs N st (hidesB x.c) (bytesT bs N x q fuel far st)∧(bytesT bs N x q fuel far st).e=0:=by
 unfold bytesT at h ⊢
 by_cases hc:canRead st.rd st.pl st.en (lenT x st)=true
 · rw[if_pos hc] at h ⊢
   have hr:=readS_inv bs N st (lenT x st) hi hc
   have hge:st.pl≤(readS st (lenT x st)).pl:=by simp[readS]
   by_cases h39:x.c=39
   · have hl:lenT x st=1:=by unfold lenT;rw[if_pos h39]
     rw[hl] at hr hge
     rw[if_pos h39] at h ⊢
     by_cases hb:(bn bs st.pl:Int)≠x.b
     · rw[if_pos hb] at h;cases h
     · rw[if_neg hb] at h ⊢
       by_cases hq:q=true
       · rw[if_pos hq];exact ⟨⟨hr,rfl,hge,fun _=>rfl⟩,rfl⟩
       · rw[if_neg hq] at h ⊢;exact madeO_fit bs N _ _ st _ _ hr rfl hge rfl _ h
   · rw[if_neg h39] at h ⊢
     by_cases h2:x.c=114∨x.c=46
     · rw[if_pos h2] at h ⊢;exact madeO_fit bs N _ _ st _ _ hr rfl hge rfl _ h
     · rw[if_neg h2] at h ⊢
       by_cases h3:hidesB x.c=true
       · rw[if_pos h3]
         have hw':kW x.c=true:=by rcases hw with h | h | h | h<;>first | exact h | exact absurd h h39 | exact absurd (Or.inl h) h2 | exact absurd (Or.inr h) h2
         have hwd:=hx.w hw'
         have hl:lenT x st=x.w.toNat:=by
          unfold lenT;rw[if_neg h39,if_neg (fun h=>h2 (Or.inl h)),if_neg (fun h=>h2 (Or.inr h))]
         refine ⟨⟨⟨hr.pl,hr.en,hr.rd,hr.vals,fun d=>?_⟩,rfl,hge,fun h=>by rw[h3] at h;cases h⟩,rfl⟩
         simp only[fitO]
         split
         · have hs:=extract_le bs st.pl (lenT x st)
           exact ⟨numT_lt x _ (by omega),by simp only;omega⟩
         · exact hi.deps d
       · rw[if_neg h3] at h ⊢;exact madeO_fit bs N _ _ st _ _ hr rfl hge rfl _ h
 · rw[if_neg hc] at h;cases h
theorem bytesT_less (bs:ByteArray)(N:Nat)(x:It)(q:Bool)(fuel far:Nat)(st:PS):(bytesT bs N x q fuel far st).fuel≤fuel:=by
 unfold bytesT
 repeat' split
 all_goals first | exact Nat.le_refl _ | exact madeO_less _ _ _ _ _
variable {R:Nat→Bool} {bs:ByteArray} {N:Nat} {T:Nat→Nat→Bool→List It→PS→PO}
theorem kidsT_ok (h:TOk R bs N T)(ks:List (List It))(hk:∀ k,k∈ks→TrW R true true k):∀ fuel far st t,PInv bs N st→(kidsT T ks fuel far st t).ok=true→
 PInv bs N (kidsT T ks fuel far st t).st∧(kidsT T ks fuel far st t).st.en=st.en∧st.pl≤(kidsT T ks fuel far st t).st.pl∧(kidsT T ks fuel far st t).e=0:=by
 induction ks with
 | nil=>intro fuel far st t hi _;exact ⟨hi,rfl,Nat.le_refl _,rfl⟩
 | cons k ks ih=>
  intro fuel far st t hi ho
  unfold kidsT at ho ⊢
  by_cases hok:(T fuel far (silV k) k st).ok=true
  · rw[if_pos hok] at ho ⊢
    have a:=(h.fit fuel far (silV k) true true k st (hk k List.mem_cons_self) hi hok).1
    have b:=ih (fun k hk'=>hk k (List.mem_cons_of_mem _ hk')) _ _ _ _ a.inv ho
    exact ⟨b.1,b.2.1.trans a.en,Nat.le_trans a.ge b.2.2.1,b.2.2.2⟩
  · rw[if_neg hok] at ho;exact absurd ho hok
theorem kidsT_less (h:TOk R bs N T)(ks:List (List It)):∀ fuel far st t,(kidsT T ks fuel far st t).fuel≤fuel:=by
 induction ks with
 | nil=>intro fuel far st t;exact Nat.le_refl _
 | cons k ks ih=>
  intro fuel far st t
  unfold kidsT
  split
  · exact Nat.le_trans (ih _ _ _ _) (h.less _ _ _ _ _)
  · exact h.less _ _ _ _ _
theorem manyT_ok (h:TOk R bs N T)(kid:List It)(ctx:Bool)(hk:TrW R false ctx kid)(hh:hidV kid=false)(g:Nat):∀ fuel far st t,PInv bs N st→(manyT T N kid g fuel far st t).ok=true→
 Keeps bs N st false (manyT T N kid g fuel far st t)∧(manyT T N kid g fuel far st t).e=0:=by
 induction g with
 | zero=>intro fuel far st t _ ho;cases ho
 | succ g ih=>
  intro fuel far st t hi ho
  unfold manyT at ho ⊢
  by_cases he:(T fuel far false kid st).e≠0
  · rw[if_pos he] at ho ⊢
    exact absurd (h.fit fuel far false false ctx kid st hk hi ho).2 he
  · rw[if_neg he] at ho ⊢
    by_cases h2:(T fuel far false kid st).ok=false∨(T fuel far false kid st).st.pl=st.pl
    · rw[if_pos h2] at ho ⊢;exact madeO_fit bs N _ _ st st _ hi rfl (Nat.le_refl _) rfl _ ho
    · rw[if_neg h2] at ho ⊢
      have hok:(T fuel far false kid st).ok=true:=by
       cases hc:(T fuel far false kid st).ok with
       | false=>exact absurd (Or.inl hc) h2
       | true=>rfl
      have a:=(h.fit fuel far false false ctx kid st hk hi hok).1
      have b:=ih _ _ _ _ a.inv ho
      exact ⟨⟨b.1.inv,b.1.en.trans a.en,Nat.le_trans a.ge b.1.ge,fun _=>(b.1.deps rfl).trans (a.deps hh)⟩,b.2⟩
theorem manyT_less (h:TOk R bs N T)(kid:List It)(g:Nat):∀ fuel far st t,(manyT T N kid g fuel far st t).fuel≤fuel:=by
 induction g with
 | zero=>intro fuel far st t;exact Nat.zero_le _
 | succ g ih=>
  intro fuel far st t
  have hl:=h.less fuel far false kid st
  unfold manyT
  split
  · exact hl
  · split
    · exact Nat.le_trans (madeO_less _ _ _ _ _) hl
    · exact Nat.le_trans (ih _ _ _ _) hl
theorem timesT_ok (h:TOk R bs N T)(kid:List It)(ctx:Bool)(hk:TrW R false ctx kid)(hh:hidV kid=false)(n:Nat):∀ fuel far st t,PInv bs N st→(timesT T N kid n fuel far st t).ok=true→
 Keeps bs N st false (timesT T N kid n fuel far st t)∧(timesT T N kid n fuel far st t).e=0:=by
 induction n with
 | zero=>intro fuel far st t hi ho;unfold timesT at ho ⊢;exact madeO_fit bs N _ _ st st _ hi rfl (Nat.le_refl _) rfl _ ho
 | succ n ih=>
  intro fuel far st t hi ho
  unfold timesT at ho ⊢
  by_cases hok:(T fuel far false kid st).ok=true
  · rw[if_pos hok] at ho ⊢
    have a:=(h.fit fuel far false false ctx kid st hk hi hok).1
    have b:=ih _ _ _ _ a.inv ho
    exact ⟨⟨b.1.inv,b.1.en.trans a.en,Nat.le_trans a.ge b.1.ge,fun _=>(b.1.deps rfl).trans (a.deps hh)⟩,b.2⟩
  · rw[if_neg hok] at ho;exact absurd ho hok
theorem timesT_less (h:TOk R bs N T)(kid:List It)(n:Nat):∀ fuel far st t,(timesT T N kid n fuel far st t).fuel≤fuel:=by
 induction n with
 | zero=>intro fuel far st t;exact madeO_less _ _ _ _ _
 | succ n ih=>
  intro fuel far st t
  have hl:=h.less fuel far false kid st
  unfold timesT
  split
  · exact Nat.le_trans (ih _ _ _ _) hl
  · exact hl
theorem chosen_ok (c:UInt8)(st:PS)(o:PO)(ho:o.ok=true→Keeps bs N st false o∧o.e=0)(h:(chosen N c o).ok=true):Keeps bs N st false (chosen N c o)∧(chosen N c o).e=0:=by
 unfold chosen at h ⊢
 by_cases hok:o.ok=true
 · rw[if_pos hok] at h ⊢
   have a:=(ho hok).1
   exact madeO_fit bs N _ _ st _ _ a.inv a.en a.ge (a.deps rfl) _ h
 · rw[if_neg hok] at h;exact absurd h hok
theorem chosen_less (c:UInt8)(o:PO):(chosen N c o).fuel≤o.fuel:=by
 unfold chosen;split
 · exact madeO_less _ _ _ _ _
 · exact Nat.le_refl _
theorem choiceT_ok (h:TOk R bs N T)(k0 k1:List It)(ctx:Bool)(h0:TrW R false ctx k0)(h1:TrW R false ctx k1)(hh0:hidV k0=false)(hh1:hidV k1=false)(fuel far:Nat)(st:PS)(hi:PInv bs N st)(ho:(choiceT T N k0 k1 fuel far st).ok=true):
 Keeps bs N st false (choiceT T N k0 k1 fuel far st)∧(choiceT T N k0 k1 fuel far st).e=0:=by
 unfold choiceT choice2 at ho ⊢
 split
 · rename_i hc
   rw[if_pos hc] at ho
   exact chosen_ok 48 st _ (fun hk=>by have:=h.fit fuel far false false ctx k0 st h0 hi hk;rw[hh0] at this;exact this) ho
 · rename_i hc
   rw[if_neg hc] at ho
   exact chosen_ok 49 st _ (fun hk=>by have:=h.fit _ _ false false ctx k1 st h1 hi hk;rw[hh1] at this;exact this) ho
theorem choiceT_less (h:TOk R bs N T)(k0 k1:List It)(fuel far:Nat)(st:PS):(choiceT T N k0 k1 fuel far st).fuel≤fuel:=by
 unfold choiceT choice2
 have h0:=h.less fuel far false k0 st
 split
 · exact Nat.le_trans (chosen_less _ _) h0
 · exact Nat.le_trans (chosen_less _ _) (Nat.le_trans (h.less _ _ _ _ _) h0)
theorem wholeT_ok (h:TOk R bs N T)(ks:List (List It))(hk:∀ k,k∈ks→TrW R true true k)(fuel far:Nat)(st:PS)(hi:PInv bs N st)(ho:(wholeT T N ks fuel far st).ok=true):
 Keeps bs N st false (wholeT T N ks fuel far st)∧(wholeT T N ks fuel far st).e=0:=by
 unfold wholeT wholeE at ho ⊢
 have hi0:PInv bs N { st with deps:=fun _=>(0,0) }:=⟨hi.pl,hi.en,hi.rd,hi.vals,fun _=>⟨by simp,by simp⟩⟩
 by_cases hok:(kidsT T ks fuel far { st with deps:=fun _=>(0,0) } []).ok=true
 · rw[if_pos hok] at ho ⊢
   obtain ⟨a,b,c,_⟩:=kidsT_ok h ks hk fuel far _ [] hi0 hok
   exact madeO_fit bs N _ _ st { (kidsT T ks fuel far { st with deps:=fun _=>(0,0) } []).st with deps:=st.deps } _ ⟨a.pl,a.en,a.rd,a.vals,hi.deps⟩ b c rfl _ ho
 · rw[if_neg hok] at ho;exact absurd ho hok
theorem wholeT_less (h:TOk R bs N T)(ks:List (List It))(fuel far:Nat)(st:PS):(wholeT T N ks fuel far st).fuel≤fuel:=by
 unfold wholeT wholeE
 split
 · exact Nat.le_trans (madeO_less _ _ _ _ _) (kidsT_less h ks _ _ _ _)
 · exact kidsT_less h ks _ _ _ _
theorem windowT_ok (h:TOk R bs N T)(d:Nat)(kid:List It)(ctx:Bool)(hk:TrW R false ctx kid)(hh:hidV kid=false)(fuel far:Nat)(st:PS)(hi:PInv bs N st)(ho:(windowT T d kid fuel far st).ok=true):
 Keeps bs N st false (windowT T d kid fuel far st)∧(windowT T d kid fuel far st).e=0:=by
 unfold windowT at ho ⊢
 by_cases hd:st.en-st.pl<d
 · rw[if_pos hd] at ho;cases ho
 · rw[if_neg hd] at ho ⊢
   unfold windowE at ho ⊢
   have hpl:=hi.pl
   have hen:=hi.en
   by_cases hok:(T fuel far false kid { st with en:=st.pl+d }).ok=true
   · rw[if_pos hok] at ho ⊢
     have a:=(h.fit fuel far false false ctx kid { st with en:=st.pl+d } hk ⟨by simp,by simp only;omega,hi.rd,hi.vals,hi.deps⟩ hok).1
     split
     · rename_i hne;rw[if_pos hne] at ho;cases ho
     · rename_i hne
       have hpe:(T fuel far false kid { st with en:=st.pl+d }).st.pl=st.pl+d:=by simpa using hne
       exact ⟨⟨⟨by simp only[fitO];omega,hi.en,a.inv.rd,a.inv.vals,a.inv.deps⟩,rfl,a.ge,fun _=>a.deps hh⟩,rfl⟩
   · rw[if_neg hok] at ho;exact absurd ho hok
theorem windowT_less (h:TOk R bs N T)(d:Nat)(kid:List It)(fuel far:Nat)(st:PS):(windowT T d kid fuel far st).fuel≤fuel:=by
 unfold windowT windowE
 have hl:=h.less fuel far false kid { st with en:=st.pl+d }
 split
 · exact Nat.le_refl _
 · split
   · split
     · exact hl
     · exact hl
   · exact hl
theorem atT_ok (h:TOk R bs N T)(d:Nat)(kid:List It)(ctx:Bool)(hk:TrW R false ctx kid)(hh:hidV kid=false)(fuel far:Nat)(st:PS)(hi:PInv bs N st)(ho:(atT T bs d kid fuel far st).ok=true):
 Keeps bs N st false (atT T bs d kid fuel far st)∧(atT T bs d kid fuel far st).e=0:=by
 unfold atT at ho ⊢
 by_cases hd:bs.size<d
 · rw[if_pos hd] at ho;cases ho
 · rw[if_neg hd] at ho ⊢
   unfold atE at ho ⊢
   by_cases hok:(T fuel far false kid { st with pl:=d,en:=bs.size }).ok=true
   · rw[if_pos hok] at ho ⊢
     have a:=(h.fit fuel far false false ctx kid { st with pl:=d,en:=bs.size } hk ⟨by simp only;omega,Nat.le_refl _,hi.rd,hi.vals,hi.deps⟩ hok).1
     exact ⟨⟨⟨hi.pl,hi.en,a.inv.rd,a.inv.vals,a.inv.deps⟩,rfl,Nat.le_refl _,fun _=>a.deps hh⟩,rfl⟩
   · rw[if_neg hok] at ho;exact absurd ho hok
theorem atT_less (h:TOk R bs N T)(d:Nat)(kid:List It)(fuel far:Nat)(st:PS):(atT T bs d kid fuel far st).fuel≤fuel:=by
 unfold atT atE
 have hl:=h.less fuel far false kid { st with pl:=d,en:=bs.size }
 split
 · exact Nat.le_refl _
 · split
   · exact hl
   · exact hl
theorem summedT_ok (h:TOk R bs N T)(d:Nat × Nat)(kid:List It)(ctx:Bool)(hk:TrW R false ctx kid)(hh:hidV kid=false)(fuel far:Nat)(st:PS)(hi:PInv bs N st)(ho:(summedT T bs d kid fuel far st).ok=true):
 Keeps bs N st false (summedT T bs d kid fuel far st)∧(summedT T bs d kid fuel far st).e=0:=by
 unfold summedT summedE at ho ⊢
 by_cases hok:(T fuel far false kid st).ok=true
 · rw[if_pos hok] at ho ⊢
   have a:=(h.fit fuel far false false ctx kid st hk hi hok).1
   split
   · rename_i hne;rw[if_pos hne] at ho;cases ho
   · have:=a.inv.pl
     have he:=a.en
     exact ⟨⟨⟨by simp only[fitO];omega,hi.en,a.inv.rd,a.inv.vals,a.inv.deps⟩,rfl,a.ge,fun _=>a.deps hh⟩,rfl⟩
 · rw[if_neg hok] at ho;exact absurd ho hok
theorem summedT_less (h:TOk R bs N T)(d:Nat × Nat)(kid:List It)(fuel far:Nat)(st:PS):(summedT T bs d kid fuel far st).fuel≤fuel:=by
 unfold summedT summedE
 have hl:=h.less fuel far false kid st
 split
 · split
   · exact hl
   · exact hl
 · exact hl
theorem TrW.notHid {own ctx:Bool}{k:List It}(h:TrW R own ctx k)(ho:own=false):hidV k=false:=by
 obtain ⟨f,h⟩:=h
 cases f with
 | zero=>exact h.elim
 | succ f=>
  cases k with
  | nil=>exact h.elim
  | cons x r=>
   cases hh:hidesB x.c with
   | false=>exact hh
   | true=>have:=h.2.1 hh;rw[ho] at this;cases this
theorem kW_list (c:Int)(h:c=82∨c=39∨kAny c=true)(h40:c≠40)(h47:c≠47)(h42:c≠42)(h82:c≠82)(h116:c≠116)(h119:c≠119)(h64:c≠64)(h115:c≠115):kW c=true∨c=39∨c=114∨c=46:=by
 rcases h with h | h | h
 · exact absurd h h82
 · exact Or.inr (Or.inl h)
 · simp only[kAny,kW,inB,List.any_cons,List.any_nil,Bool.or_false,Bool.or_eq_true,beq_iff_eq] at h ⊢
   rcases h with h | h | h | h | h | h | h | h | h | h | h | h | h<;>simp at h<;>subst h<;>simp_all
theorem tryT_ok (G:Nat→List It)(hG:∀ r,R r=true→TrW R false false (G r))(g:Nat):TOk R bs N (tryT G bs N g):=by
 induction g with
 | zero=>exact ⟨fun _ _ _ _ _ _ _ _ _ h=>(by cases h),fun _ _ _ _ _=>Nat.zero_le _⟩
 | succ g ih=>
  constructor
  · intro fuel far q own ctx k st ⟨f,hk⟩ hi ho
    cases f with
    | zero=>exact hk.elim
    | succ f=>
    cases k with
    | nil=>exact hk.elim
    | cons x r=>
    cases fuel with
    | zero=>cases ho
    | succ fuel=>
    obtain ⟨hx,hown,hctx,hrule,h2,h1,hkids⟩:=hk
    have nothid:∀ {c':Int},x.c=c'→hidesB c'=false→hidV (x::r)=false:=fun e h=>by show hidesB x.c=false;rw[e];exact h
    unfold tryT at ho ⊢
    by_cases c40:x.c=40
    · rw[if_pos c40] at ho ⊢
      rw[nothid c40 rfl]
      exact wholeT_ok ih _ (fun k hk=>⟨f,by have:=hkids k hk;simp only[c40,decide_true,Bool.true_or] at this;exact this⟩) _ _ _ hi ho
    rw[if_neg c40] at ho ⊢
    have hkid:∀ k,k∈segs r.length r→TrW R false (ctx&&inB [119,64,115] x.c) k:=fun k hk=>⟨f,by have:=hkids k hk;simp only[c40,decide_false,Bool.false_or] at this;exact this⟩
    by_cases c47:x.c=47
    · rw[if_pos c47] at ho ⊢
      rw[nothid c47 rfl]
      have hl:=h2 c47
      have m0:(segs r.length r).getD 0 []∈segs r.length r:=by rw[getD_lt _ _ _ (by omega)];exact List.getElem_mem _
      have m1:(segs r.length r).getD 1 []∈segs r.length r:=by rw[getD_lt _ _ _ (by omega)];exact List.getElem_mem _
      exact choiceT_ok ih _ _ _ (hkid _ m0) (hkid _ m1) ((hkid _ m0).notHid rfl) ((hkid _ m1).notHid rfl) _ _ _ hi ho
    rw[if_neg c47] at ho ⊢
    have one:∀ {c':Int},x.c=c'→inB [42,116,119,64,115] c'=true→TrW R false (ctx&&inB [119,64,115] x.c) r:=fun e h=>hkid r (by rw[h1 (by rw[e];exact h)];simp)
    by_cases c42:x.c=42
    · rw[if_pos c42] at ho ⊢
      rw[nothid c42 rfl]
      have hr:=one c42 rfl
      exact manyT_ok ih r _ hr (hr.notHid rfl) _ _ _ _ _ hi ho
    rw[if_neg c42] at ho ⊢
    by_cases c82:x.c=82
    · rw[if_pos c82] at ho ⊢
      rw[nothid c82 rfl]
      have hr:=hG _ (hrule c82)
      have:=ih.fit fuel far false false false _ st hr hi ho
      rw[hr.notHid rfl] at this
      exact this
    rw[if_neg c82] at ho ⊢
    by_cases c116:x.c=116
    · rw[if_pos c116] at ho ⊢
      rw[nothid c116 rfl]
      have hr:=one c116 rfl
      exact timesT_ok ih r _ hr (hr.notHid rfl) _ _ _ _ _ hi ho
    rw[if_neg c116] at ho ⊢
    by_cases c119:x.c=119
    · rw[if_pos c119] at ho ⊢
      rw[nothid c119 rfl]
      have hr:=one c119 rfl
      exact windowT_ok ih _ r _ hr (hr.notHid rfl) _ _ _ hi ho
    rw[if_neg c119] at ho ⊢
    by_cases c64:x.c=64
    · rw[if_pos c64] at ho ⊢
      rw[nothid c64 rfl]
      have hr:=one c64 rfl
      exact atT_ok ih _ r _ hr (hr.notHid rfl) _ _ _ hi ho
    rw[if_neg c64] at ho ⊢
    by_cases c115:x.c=115
    · rw[if_pos c115] at ho ⊢
      rw[nothid c115 rfl]
      have hr:=one c115 rfl
      exact summedT_ok ih _ r _ hr (hr.notHid rfl) _ _ _ hi ho
    rw[if_neg c115] at ho ⊢
    exact bytesT_ok bs N x q fuel far st hx (kW_list x.c hx.it.c c40 c47 c42 c82 c116 c119 c64 c115) hi ho
  · intro fuel far q k st
    cases k with
    | nil=>exact Nat.zero_le _
    | cons x r=>
    cases fuel with
    | zero=>exact Nat.zero_le _
    | succ fuel=>
    unfold tryT
    refine Nat.le_trans ?_ (Nat.le_succ fuel)
    repeat' split
    all_goals first | exact wholeT_less ih _ _ _ _ | exact choiceT_less ih _ _ _ _ _ | exact manyT_less ih _ _ _ _ _ _ | exact ih.less _ _ _ _ _ | exact timesT_less ih _ _ _ _ _ _ | exact windowT_less ih _ _ _ _ _ | exact atT_less ih _ _ _ _ _ | exact summedT_less ih _ _ _ _ _ | exact bytesT_less _ _ _ _ _ _ _
end Go.Proofs.YtmlkhhhjdpbhfaaGreatDoor

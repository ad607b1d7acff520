import Derived.Test.YtmlkhhhjdpbhfaaGreatDoorFo13
import Derived.Test.YtmlkhhhjdpbhfaaGreatDoorFo03
namespace Go.Proofs.YtmlkhhhjdpbhfaaGreatDoor
open Go.RowKit
theorem nDig_pow (k:Nat):∀ n,n<10 ^ (k+1)→Lib.nDigits n≤k+1:=by
 induction k with
 | zero=>intro n h;rw[Lib.nDigits_small (by simpa using h)];omega
 | succ k ih=>
  intro n h
  by_cases h10:n<10
  · rw[Lib.nDigits_small h10];omega
  · rw[Lib.nDigits_big h10]
    have:=ih (n / 10) (by rw[Nat.pow_succ] at h;omega)
    omega
theorem decT_len (n:Nat)(h:n<4294967296):(decT n).length≤10:=by
 unfold decT;rw[Lib.decDigits_length];exact nDig_pow 9 n (by simp;omega)
theorem quoteT_len (b:ByteArray):(quoteT b).length=2*b.size+2:=by
 have h:∀ n,((List.range n).flatMap fun i=>[hexT (bn b i / 16),hexT (bn b i % 16)]).length=2*n:=by
  intro n
  induction n with
  | zero=>rfl
  | succ n ih=>rw[List.range_succ,List.flatMap_append,List.length_append,ih];simp;omega
 simp[quoteT,h]
theorem joinT_le (a b:List UInt8):(joinT a b).length≤a.length+b.length+1:=by
 unfold joinT
 split
 · omega
 · simp;omega
structure Lng (st:PS) (sil:Bool) (o:PO):Prop where
 vals:st.vals≤o.st.vals
 len:o.t.length+(if sil then 0 else 1)≤8011*(o.st.vals-st.vals)
variable {R:Nat→Bool} {bs:ByteArray} {N:Nat} {T:Nat→Nat→Bool→List It→PS→PO}
theorem madeO_lng (fuel far:Nat)(st st':PS)(t:List UInt8)(hv:st.vals≤st'.vals)(ht:t.length≤8010+8011*(st'.vals-st.vals))(sil:Bool)(h:(madeO N fuel far st' t).ok=true):Lng st sil (madeO N fuel far st' t):=by
 unfold madeO at h ⊢
 by_cases hn:st'.vals=N
 · rw[if_pos hn] at h;cases h
 · rw[if_neg hn]
   refine ⟨by simp only[fitO];omega,?_⟩
   simp only[fitO]
   split<;>omega
def TLn (R:Nat→Bool)(bs:ByteArray)(N:Nat)(T:Nat→Nat→Bool→List It→PS→PO):Prop:=
 ∀ fuel far q own ctx k st,TrW R own ctx k→PInv bs N st→(T fuel far q k st).ok=true→Lng st (silK q k) (T fuel far q k st)
theorem silK_not {own ctx:Bool}{k:List It}(h:TrW R own ctx k)(ho:own=false):silK false k=false:=by
 have:=h.notHid ho
 cases k with
 | nil=>rfl
 | cons x r=>simpa[silK,hidV] using this
theorem silK_sil (k:List It):silK (silV k) k=silV k:=by
 cases k with
 | nil=>rfl
 | cons x r=>
  simp only[silK,silV]
  cases hidesB x.c<;>cases hx:decide (x.c=39)<;>rfl
theorem bytesT_lng (hbs:bs.size≤4000)(x:It)(r:List It)(q:Bool)(fuel far:Nat)(st:PS)(hx:ItR x)(hw:kW x.c=true∨x.c=39∨x.c=114∨x.c=46)(h:(bytesT bs N x q fuel far st).ok=true):
 Lng st (silK q (x::r)) (bytesT bs N x q fuel far st):=by
 unfold bytesT at h ⊢
 by_cases hc:canRead st.rd st.pl st.en (lenT x st)=true
 · rw[if_pos hc] at h ⊢
   by_cases h39:x.c=39
   · rw[if_pos h39] at h ⊢
     by_cases hb:(bn bs st.pl:Int)≠x.b
     · rw[if_pos hb] at h;cases h
     · rw[if_neg hb] at h ⊢
       by_cases hq:q=true
       · rw[if_pos hq]
         exact ⟨Nat.le_refl _,by simp[fitO,readS,silK,hq,h39]⟩
       · rw[if_neg hq] at h ⊢
         exact madeO_lng _ _ st (readS st 1) _ (Nat.le_refl _) (by simp only[List.length_cons,List.length_nil];omega) _ h
   · rw[if_neg h39] at h ⊢
     by_cases h2:x.c=114∨x.c=46
     · rw[if_pos h2] at h ⊢
       refine madeO_lng _ _ st (readS st (lenT x st)) _ (Nat.le_refl _) ?_ _ h
       rw[quoteT_len]
       have:(bs.extract st.pl (st.pl+lenT x st)).size≤bs.size:=by rw[ByteArray.size_extract];omega
       omega
     · rw[if_neg h2] at h ⊢
       by_cases h3:hidesB x.c=true
       · rw[if_pos h3]
         exact ⟨Nat.le_refl _,by simp[fitO,readS,silK,h3]⟩
       · rw[if_neg h3] at h ⊢
         have hw':kW x.c=true:=by rcases hw with h | h | h | h<;>first | exact h | exact absurd h h39 | exact absurd (Or.inl h) h2 | exact absurd (Or.inr h) h2
         have hwd:=hx.w hw'
         have hl:lenT x st=x.w.toNat:=by
          unfold lenT;rw[if_neg h39,if_neg (fun h=>h2 (Or.inl h)),if_neg (fun h=>h2 (Or.inr h))]
         refine madeO_lng _ _ st (readS st (lenT x st)) _ (Nat.le_refl _) ?_ _ h
         have hs:=extract_le bs st.pl (lenT x st)
         have:=decT_len (numT x (bs.extract st.pl (st.pl+lenT x st))) (numT_lt x _ (by omega))
         omega
 · rw[if_neg hc] at h;cases h
theorem kidsT_lng (h:TOk R bs N T)(hl:TLn R bs N T)(ks:List (List It))(hk:∀ k,k∈ks→TrW R true true k):∀ fuel far st t,PInv bs N st→(kidsT T ks fuel far st t).ok=true→
 st.vals≤(kidsT T ks fuel far st t).st.vals∧(kidsT T ks fuel far st t).t.length≤t.length+8011*((kidsT T ks fuel far st t).st.vals-st.vals):=by
 induction ks with
 | nil=>intro fuel far st t hi _;exact ⟨Nat.le_refl _,by simp[kidsT,fitO]⟩
 | cons k ks ih=>
  intro fuel far st t hi ho
  unfold kidsT at ho ⊢
  by_cases hok:(T fuel far (silV k) k st).ok=true
  · rw[if_pos hok] at ho ⊢
    have a:=(h.fit fuel far (silV k) true true k st (hk k List.mem_cons_self) hi hok).1
    have l:=hl fuel far (silV k) true true k st (hk k List.mem_cons_self) hi hok
    have b:=ih (fun k hk'=>hk k (List.mem_cons_of_mem _ hk')) _ _ _ _ a.inv ho
    have lv:=l.vals
    have ll:=l.len
    rw[silK_sil] at ll
    refine ⟨by omega,?_⟩
    have b2:=b.2
    cases hs:silV k
    · simp only[hs] at b2 lv ll b ⊢
      have:=joinT_le t (T fuel far false k st).t
      simp only[Bool.false_eq_true,if_false] at b2 ll ⊢
      have:=b.1
      simp only[Bool.false_eq_true,if_false] at this
      omega
    · simp only[hs] at b2 lv ll b ⊢
      simp only[if_true] at b2 ll ⊢
      have:=b.1
      simp only[if_true] at this
      omega
  · rw[if_neg hok] at ho;exact absurd ho hok
theorem manyT_lng (h:TOk R bs N T)(hl:TLn R bs N T)(kid:List It)(ctx:Bool)(hk:TrW R false ctx kid)(g:Nat):∀ fuel far st t,PInv bs N st→(manyT T N kid g fuel far st t).ok=true→
 st.vals≤(manyT T N kid g fuel far st t).st.vals∧(manyT T N kid g fuel far st t).t.length+1≤t.length+8011*((manyT T N kid g fuel far st t).st.vals-st.vals):=by
 induction g with
 | zero=>intro fuel far st t _ ho;cases ho
 | succ g ih=>
  intro fuel far st t hi ho
  unfold manyT at ho ⊢
  by_cases he:(T fuel far false kid st).e≠0
  · rw[if_pos he] at ho ⊢
    exact absurd (h.fit fuel far false false ctx kid st hk hi ho).2 he
  · rw[if_neg he] at ho ⊢
    by_cases h2:(T fuel far false kid st).ok=false∨(T fuel far false kid st).st.pl=st.pl
    · rw[if_pos h2] at ho ⊢
      unfold madeO at ho ⊢
      by_cases hn:st.vals=N
      · rw[if_pos hn] at ho;cases ho
      · rw[if_neg hn]
        refine ⟨by simp only[fitO];omega,?_⟩
        simp only[fitO,List.length_append,List.length_cons,List.length_nil]
        omega
    · rw[if_neg h2] at ho ⊢
      have hok:(T fuel far false kid st).ok=true:=by
       cases hh:(T fuel far false kid st).ok with
       | true=>rfl
       | false=>exact absurd (Or.inl hh) h2
      have a:=(h.fit fuel far false false ctx kid st hk hi hok).1
      have l:=hl fuel far false false ctx kid st hk hi hok
      have b:=ih _ _ _ _ a.inv ho
      have lv:=l.vals
      have ll:=l.len
      rw[silK_not hk rfl] at ll
      simp only[Bool.false_eq_true,if_false] at ll
      have:=joinT_le t (T fuel far false kid st).t
      have b1:=b.1
      have b2:=b.2
      exact ⟨by omega,by omega⟩
theorem timesT_lng (h:TOk R bs N T)(hl:TLn R bs N T)(kid:List It)(ctx:Bool)(hk:TrW R false ctx kid)(n:Nat):∀ fuel far st t,PInv bs N st→(timesT T N kid n fuel far st t).ok=true→
 st.vals≤(timesT T N kid n fuel far st t).st.vals∧(timesT T N kid n fuel far st t).t.length+1≤t.length+8011*((timesT T N kid n fuel far st t).st.vals-st.vals):=by
 induction n with
 | zero=>
  intro fuel far st t hi ho
  unfold timesT madeO at ho ⊢
  by_cases hn:st.vals=N
  · rw[if_pos hn] at ho;cases ho
  · rw[if_neg hn]
    refine ⟨by simp only[fitO];omega,?_⟩
    simp only[fitO,List.length_append,List.length_cons,List.length_nil]
    omega
 | succ g ih=>
  intro fuel far st t hi ho
  unfold timesT at ho ⊢
  by_cases hok:(T fuel far false kid st).ok=true
  · rw[if_pos hok] at ho ⊢
    have a:=(h.fit fuel far false false ctx kid st hk hi hok).1
    have l:=hl fuel far false false ctx kid st hk hi hok
    have b:=ih _ _ _ _ a.inv ho
    have lv:=l.vals
    have ll:=l.len
    rw[silK_not hk rfl] at ll
    simp only[Bool.false_eq_true,if_false] at ll
    have:=joinT_le t (T fuel far false kid st).t
    have b1:=b.1
    have b2:=b.2
    exact ⟨by omega,by omega⟩
  · rw[if_neg hok] at ho;exact absurd ho hok
theorem chosen_lng (c:UInt8)(st:PS)(o:PO)(ho:o.ok=true→Lng st false o)(h:(chosen N c o).ok=true):Lng st false (chosen N c o):=by
 unfold chosen at h ⊢
 by_cases hok:o.ok=true
 · rw[if_pos hok] at h ⊢
   have l:=ho hok
   have lv:=l.vals
   have ll:=l.len
   simp only[Bool.false_eq_true,if_false] at ll
   exact madeO_lng _ _ st _ _ lv (by simp only[List.length_cons];omega) _ h
 · rw[if_neg hok] at h;exact absurd h hok
theorem tryT_lng (hbs:bs.size≤4000)(G:Nat→List It)(hG:∀ r,R r=true→TrW R false false (G r))(g:Nat):TLn R bs N (tryT G bs N g):=by
 induction g with
 | zero=>intro fuel far q own ctx k st _ _ ho;cases ho
 | succ g ih=>
  intro fuel far q own ctx k st hw hi ho
  have hT:=tryT_ok (R:=R) (bs:=bs) (N:=N) G hG g
  have hw0:=hw
  obtain ⟨f,hf⟩:=hw
  cases f with
  | zero=>exact hf.elim
  | succ f=>
  cases k with
  | nil=>exact hf.elim
  | cons x r=>
  cases fuel with
  | zero=>cases ho
  | succ fuel=>
  obtain ⟨hx,hho,huc,hr,h2,h1,hks⟩:=hf
  have hkid:∀ k,k∈segs r.length r→TrW R (decide (x.c=40)) (decide (x.c=40)||(ctx&&inB [119,64,115] x.c)) k:=fun k hk=>⟨f,hks k hk⟩
  unfold tryT at ho ⊢
  by_cases h40:x.c=40
  · rw[if_pos h40] at ho ⊢
    unfold wholeT wholeE at ho ⊢
    by_cases hok:(kidsT (tryT G bs N g) (segs r.length r) fuel far { st with deps:=fun _=>(0,0) } []).ok=true
    · rw[if_pos hok] at ho ⊢
      have hi':PInv bs N { st with deps:=fun _=>(0,0) }:=⟨hi.pl,hi.en,hi.rd,hi.vals,fun _=>⟨by simp,by simp⟩⟩
      have b:=kidsT_lng hT ih _ (fun k hk=>by have:=hkid k hk;rw[h40] at this;simpa using this) _ _ _ _ hi' hok
      refine madeO_lng _ _ st { (kidsT (tryT G bs N g) (segs r.length r) fuel far { st with deps:=fun _=>(0,0) } []).st with deps:=st.deps } _ b.1 ?_ _ ho
      have:=b.2
      simp only[List.length_append,List.length_cons,List.length_nil] at this ⊢
      omega
    · rw[if_neg hok] at ho;exact absurd ho hok
  rw[if_neg h40] at ho ⊢
  by_cases h47:x.c=47
  · rw[if_pos h47] at ho ⊢
    have h2':=h2 h47
    have hs:silK q (x::r)=false:=by simp[silK,h47,hidesB]
    rw[hs]
    have h0:TrW R false false ((segs r.length r).getD 0 []):=by
     have:=hkid ((segs r.length r).getD 0 []) (by rw[getD_lt _ _ _ (by omega)];exact List.getElem_mem _)
     rw[h47] at this;simpa[inB] using this
    have h1':TrW R false false ((segs r.length r).getD 1 []):=by
     have:=hkid ((segs r.length r).getD 1 []) (by rw[getD_lt _ _ _ (by omega)];exact List.getElem_mem _)
     rw[h47] at this;simpa[inB] using this
    unfold choiceT choice2 at ho ⊢
    split at ho
    · rename_i hh
      rw[if_pos hh]
      refine chosen_lng _ st _ (fun hok=>?_) ho
      have:=ih fuel far false false false _ st h0 hi hok
      rw[silK_not h0 rfl] at this;exact this
    · rename_i hh
      rw[if_neg hh]
      refine chosen_lng _ st _ (fun hok=>?_) ho
      have:=ih _ _ false false false _ st h1' hi hok
      rw[silK_not h1' rfl] at this;exact this
  rw[if_neg h47] at ho ⊢
  have one:inB [42,116,119,64,115] x.c=true→TrW R false (decide (x.c=40)||(ctx&&inB [119,64,115] x.c)) r:=fun h=>by
   have:=hkid r (by rw[h1 h];exact List.mem_cons_self)
   rw[show decide (x.c=40)=false by simp[h40]] at this ⊢
   exact this
  by_cases h42:x.c=42
  · rw[if_pos h42] at ho ⊢
    have b:=manyT_lng hT ih r _ (one (by rw[h42];rfl)) _ _ _ _ _ hi ho
    exact ⟨b.1,by have:=b.2;simp only[List.length_nil] at this;split<;>omega⟩
  rw[if_neg h42] at ho ⊢
  by_cases h82:x.c=82
  · rw[if_pos h82] at ho ⊢
    have hs:silK q (x::r)=false:=by simp[silK,h82,hidesB]
    have:=ih _ _ false false false _ st (hG _ (hr h82)) hi ho
    rw[silK_not (hG _ (hr h82)) rfl] at this
    rw[hs];exact this
  rw[if_neg h82] at ho ⊢
  by_cases h116:x.c=116
  · rw[if_pos h116] at ho ⊢
    have b:=timesT_lng hT ih r _ (one (by rw[h116];rfl)) _ _ _ _ _ hi ho
    exact ⟨b.1,by have:=b.2;simp only[List.length_nil] at this;split<;>omega⟩
  rw[if_neg h116] at ho ⊢
  by_cases h119:x.c=119
  · rw[if_pos h119] at ho ⊢
    have hk:=one (by rw[h119];rfl)
    have hs:silK q (x::r)=false:=by simp[silK,h119,hidesB]
    rw[hs]
    unfold windowT at ho ⊢
    by_cases hd:st.en-st.pl<(st.deps x.d.toNat).1
    · rw[if_pos hd] at ho;cases ho
    · rw[if_neg hd] at ho ⊢
      unfold windowE at ho ⊢
      by_cases hok:(tryT G bs N g fuel far false r { st with en:=st.pl+(st.deps x.d.toNat).1 }).ok=true
      · rw[if_pos hok] at ho ⊢
        have hpl:=hi.pl
        have hen:=hi.en
        have:=ih _ _ false _ _ _ _ hk (⟨by simp only;omega,by simp only;omega,hi.rd,hi.vals,hi.deps⟩:PInv bs N { st with en:=st.pl+(st.deps x.d.toNat).1 }) hok
        rw[silK_not hk rfl] at this
        split at ho
        · cases ho
        · rename_i hh
          rw[if_neg hh]
          exact ⟨this.vals,this.len⟩
      · rw[if_neg hok] at ho;exact absurd ho hok
  rw[if_neg h119] at ho ⊢
  by_cases h64:x.c=64
  · rw[if_pos h64] at ho ⊢
    have hk:=one (by rw[h64];rfl)
    have hs:silK q (x::r)=false:=by simp[silK,h64,hidesB]
    rw[hs]
    unfold atT at ho ⊢
    by_cases hd:bs.size<(st.deps x.d.toNat).1
    · rw[if_pos hd] at ho;cases ho
    · rw[if_neg hd] at ho ⊢
      unfold atE at ho ⊢
      by_cases hok:(tryT G bs N g fuel far false r { st with pl:=(st.deps x.d.toNat).1,en:=bs.size }).ok=true
      · rw[if_pos hok] at ho ⊢
        have:=ih _ _ false _ _ _ _ hk (⟨by simp only;omega,Nat.le_refl _,hi.rd,hi.vals,hi.deps⟩:PInv bs N { st with pl:=(st.deps x.d.toNat).1,en:=bs.size }) hok
        rw[silK_not hk rfl] at this
        exact ⟨this.vals,this.len⟩
      · rw[if_neg hok] at ho;exact absurd ho hok
  rw[if_neg h64] at ho ⊢
  by_cases h115:x.c=115
  · rw[if_pos h115] at ho ⊢
    have hk:=one (by rw[h115];rfl)
    have hs:silK q (x::r)=false:=by simp[silK,h115,hidesB]
    rw[hs]
    unfold summedT summedE at ho ⊢
    by_cases hok:(tryT G bs N g fuel far false r st).ok=true
    · rw[if_pos hok] at ho ⊢
      have:=ih _ _ false _ _ _ _ hk hi hok
      rw[silK_not hk rfl] at this
      split at ho
      · cases ho
      · rename_i hh
        rw[if_neg hh]
        exact ⟨this.vals,this.len⟩
    · rw[if_neg hok] at ho;exact absurd ho hok
  rw[if_neg h115] at ho ⊢
  exact bytesT_lng hbs x r q fuel far st hx (kW_list x.c hx.it.1 h40 h47 h42 h82 h116 h119 h64 h115) ho
end Go.Proofs.YtmlkhhhjdpbhfaaGreatDoor
namespace Go.Proofs.YtmlkhhhjdpbhfaaGreatDoor
open Go.RowKit
def IsMin (S:Int→Prop)(r:Int × Bool):Prop:=(r.2=false∧∀ p,¬ S p)∨(r.2=true∧S r.1∧∀ p,S p→r.1≤p)
def MinEq (S T:Int→Prop):Prop:=(∀ p,S p→∃ q,T q∧q≤p)∧(∀ p,T p→∃ q,S q∧q≤p)
theorem IsMin.congr {S T:Int→Prop}{r:Int × Bool}(h:IsMin S r)(e:∀ p,S p↔T p):IsMin T r:=by
 rcases h with ⟨h1,h2⟩ | ⟨h1,h2,h3⟩
 · exact Or.inl ⟨h1,fun p hp=>h2 p ((e p).2 hp)⟩
 · exact Or.inr ⟨h1,(e _).1 h2,fun p hp=>h3 p ((e p).2 hp)⟩
theorem IsMin.move {S T:Int→Prop}{r:Int × Bool}(h:IsMin S r)(e:MinEq S T)(k:∀ p,T p→S p∨∃ q,S q∧q<p)(k2:∀ p,S p→T p∨∃ q,S q∧q<p):IsMin T r:=by
 rcases h with ⟨h1,h2⟩ | ⟨h1,h2,h3⟩
 · exact Or.inl ⟨h1,fun p hp=>by obtain ⟨q,hq,_⟩:=e.2 p hp;exact h2 q hq⟩
 · refine Or.inr ⟨h1,?_,fun p hp=>?_⟩
   · rcases k2 _ h2 with h | ⟨q,hq,hl⟩
     · exact h
     · have:=h3 q hq;omega
   · rcases k p hp with h | ⟨q,hq,hl⟩
     · exact h3 p h
     · have:=h3 q hq;omega
theorem IsMin.eq {S T:Int→Prop}{r t:Int × Bool}(h:IsMin S r)(k:IsMin T t)(e:MinEq S T):r.2=t.2∧(r.2=true→r.1=t.1):=by
 rcases h with ⟨h1,h2⟩ | ⟨h1,h2,h3⟩
 · rcases k with ⟨k1,k2⟩ | ⟨k1,k2,k3⟩
   · exact ⟨h1.trans k1.symm,fun h=>by rw[h1] at h;cases h⟩
   · obtain ⟨q,hq,_⟩:=e.2 _ k2
     exact (h2 q hq).elim
 · rcases k with ⟨k1,k2⟩ | ⟨k1,k2,k3⟩
   · obtain ⟨q,hq,_⟩:=e.1 _ h2
     exact (k2 q hq).elim
   · obtain ⟨q,hq,q2⟩:=e.2 _ k2
     obtain ⟨p,hp,p2⟩:=e.1 _ h2
     have:=h3 q hq
     have:=k3 p hp
     exact ⟨h1.trans k1.symm,fun _=>by omega⟩
theorem IsMin.add {S:Int→Prop}{st:Int × Bool}(h:IsMin S st)(d:Int):IsMin (fun p=>S p∨p=d) (bwV st d):=by
 unfold bwV
 rcases h with ⟨h1,h2⟩ | ⟨h1,h2,h3⟩
 · rw[h1,if_pos (by simp)]
   exact Or.inr ⟨rfl,Or.inr rfl,fun p hp=>by rcases hp with hp | hp;exact (h2 p hp).elim;simp[hp]⟩
 · by_cases hd:d<st.1
   · rw[if_pos (by simp[hd])]
     exact Or.inr ⟨rfl,Or.inr rfl,fun p hp=>by rcases hp with hp | hp;have:=h3 p hp;simp only;omega;simp[hp]⟩
   · rw[if_neg (by simp[h1];omega)]
     exact Or.inr ⟨h1,Or.inl h2,fun p hp=>by rcases hp with hp | hp;exact h3 p hp;omega⟩
theorem MinEq.refl (S:Int→Prop):MinEq S S:=⟨fun p h=>⟨p,h,Int.le_refl _⟩,fun p h=>⟨p,h,Int.le_refl _⟩⟩
theorem MinEq.or {S T S' T':Int→Prop}(h:MinEq S T)(k:MinEq S' T'):MinEq (fun p=>S p∨S' p) (fun p=>T p∨T' p):=by
 constructor
 · intro p hp
   rcases hp with hp | hp
   · obtain ⟨q,h1,h2⟩:=h.1 p hp;exact ⟨q,Or.inl h1,h2⟩
   · obtain ⟨q,h1,h2⟩:=k.1 p hp;exact ⟨q,Or.inr h1,h2⟩
 · intro p hp
   rcases hp with hp | hp
   · obtain ⟨q,h1,h2⟩:=h.2 p hp;exact ⟨q,Or.inl h1,h2⟩
   · obtain ⟨q,h1,h2⟩:=k.2 p hp;exact ⟨q,Or.inr h1,h2⟩
theorem MinEq.ex {α:Type}{l:List α}{S T:α→Int→Prop}(h:∀ z,z∈l→MinEq (S z) (T z)):MinEq (fun p=>∃ z,z∈l∧S z p) (fun p=>∃ z,z∈l∧T z p):=by
 constructor
 · intro p ⟨z,hz,hp⟩
   obtain ⟨q,h1,h2⟩:=(h z hz).1 p hp;exact ⟨q,⟨z,hz,h1⟩,h2⟩
 · intro p ⟨z,hz,hp⟩
   obtain ⟨q,h1,h2⟩:=(h z hz).2 p hp;exact ⟨q,⟨z,hz,h1⟩,h2⟩
def scE (sc:Sc)(x:It):Sc:=
 if hidesB x.c then (if (sc.hid x.d.toNat).isNone then ⟨fun k=>if k=x.d.toNat then some x.pl else sc.hid k,sc.us⟩ else sc)
 else if usesB x.c then (if !(sc.hid x.d.toNat).isNone && !(sc.us x.d.toNat) then ⟨sc.hid,fun k=>if k=x.d.toNat then true else sc.us k⟩ else sc) else sc
def bdE (sc:Sc)(x:It):Bool:=
 if hidesB x.c then !(sc.hid x.d.toNat).isNone else if usesB x.c then !(!(sc.hid x.d.toNat).isNone && !(sc.us x.d.toNat)) else false
def PE:Sc→List It→Int→Prop
 | _,[],_=>False
 | sc,x::t,p=>(bdE sc x=true∧p=x.pl)∨PE (scE sc x) t p
def PEnd (sc:Sc)(p:Int):Prop:=∃ d,d<8∧sc.hid d=some p∧sc.us d=false
def PB (es:List It)(p:Int):Prop:=PE Sc0 es p∨PEnd (es.foldl scE Sc0) p
theorem PE_append (a b:List It)(p:Int):∀ sc,PE sc (a++b) p↔PE sc a p∨PE (a.foldl scE sc) b p:=by
 induction a with
 | nil=>intro sc;simp[PE]
 | cons x t ih=>intro sc;simp only[List.cons_append,PE,List.foldl_cons,ih];rw[or_assoc]
def ev:Nat→Bool→Bool→List It→List It
 | 0,_,_,_=>[]
 | _+1,_,_,[]=>[]
 | f+1,own,ar,x::r=>if x.c=40 then [] else (if (hidesB x.c&&own)||(usesB x.c&&ar) then [x] else [])++(segs r.length r).flatMap (ev f false (ar&&inB [119,64,115] x.c))
def lost (X:List It→Int→Prop):Nat→Bool→Bool→List It→Int→Prop
 | 0,_,_,_,_=>False
 | _+1,_,_,[],_=>False
 | f+1,own,ar,x::r,p=>
  if x.c=40 then X ((segs r.length r).flatMap (ev f true true)) p∨∃ z,z∈segs r.length r∧lost X f true true z p
  else (((hidesB x.c && !own)||(usesB x.c && !ar))=true∧p=x.pl)∨∃ z,z∈segs r.length r∧lost X f false (ar&&inB [119,64,115] x.c) z p
theorem hides_uses (c:Int)(h:hidesB c=true):usesB c=false:=by
 simp only[hidesB,Bool.or_eq_true,beq_iff_eq] at h
 rcases h with h | h<;>rw[h]<;>decide
theorem stepV_min (own ar:Bool)(x:It)(sc:Sc)(st:Int × Bool)(S:Int→Prop)(h:IsMin S st):
 (stepV own ar x (sc,st)).1=(if (hidesB x.c&&own)||(usesB x.c&&ar) then [x] else []).foldl scE sc∧
   IsMin (fun p=>S p∨PE sc (if (hidesB x.c&&own)||(usesB x.c&&ar) then [x] else []) p∨(((hidesB x.c && !own)||(usesB x.c && !ar))=true∧p=x.pl)) (stepV own ar x (sc,st)).2:=by
 unfold stepV hideV useV
 cases hh:hidesB x.c
 · cases hu:usesB x.c
   · simp
     exact h.congr fun p=>by simp[PE]
   · cases ar
     · simp
       exact (h.add x.pl).congr fun p=>by simp[PE]
     · cases hb:(!(sc.hid x.d.toNat).isNone && !(sc.us x.d.toNat))
       · simp only[hb,Bool.true_and,Bool.false_and,Bool.and_true,Bool.or_true,Bool.false_or,if_true,List.foldl_cons,List.foldl_nil,scE,hh,hu,Bool.false_eq_true,if_false,Bool.not_true,Bool.and_false,false_and,or_false]
         have e:bdE sc x=true:=by unfold bdE;rw[hh,hu,hb];rfl
         exact ⟨trivial,(h.add x.pl).congr fun p=>by simp[PE,e]⟩
       · simp only[hb,Bool.true_and,Bool.false_and,Bool.and_true,Bool.or_true,Bool.false_or,if_true,List.foldl_cons,List.foldl_nil,scE,hh,hu,Bool.false_eq_true,if_false,Bool.not_true,Bool.and_false,false_and,or_false]
         have e:bdE sc x=false:=by unfold bdE;rw[hh,hu,hb];rfl
         exact ⟨trivial,h.congr fun p=>by simp[PE,e]⟩
 · have hu:=hides_uses _ hh
   cases own
   · simp[hu]
     exact (h.add x.pl).congr fun p=>by simp[PE]
   · cases hb:(sc.hid x.d.toNat).isNone
     · simp only[hb,hu,Bool.false_and,Bool.and_true,Bool.or_false,if_true,List.foldl_cons,List.foldl_nil,scE,hh,Bool.false_eq_true,if_false,Bool.not_true,Bool.and_false,false_and,or_false]
       exact ⟨trivial,(h.add x.pl).congr fun p=>by simp[PE,bdE,hh,hb]⟩
     · simp only[hb,hu,Bool.false_and,Bool.and_true,Bool.or_false,if_true,List.foldl_cons,List.foldl_nil,scE,hh,Bool.false_eq_true,if_false,Bool.not_true,Bool.and_false,false_and,or_false]
       exact ⟨trivial,h.congr fun p=>by simp[PE,bdE,hh,hb]⟩
theorem end_min (sc:Sc)(ds:List Nat):∀ (S:Int→Prop) (st:Int × Bool),IsMin S st→IsMin (fun p=>S p∨∃ d,d∈ds∧sc.hid d=some p∧sc.us d=false) (ds.foldl (endStep sc) st):=by
 induction ds with
 | nil=>intro S st h;exact h.congr fun p=>by simp
 | cons d t ih=>
  intro S st h
  rw[List.foldl_cons]
  cases hd:sc.hid d with
  | none=>
   have e:endStep sc st d=st:=by unfold endStep;rw[hd]
   rw[e]
   exact (ih S st h).congr fun p=>by simp[hd]
  | some pl=>
   cases hu:sc.us d
   · have e:endStep sc st d=bwV st pl:=by unfold endStep;rw[hd];simp[hu]
     rw[e]
     refine (ih _ _ (h.add pl)).congr fun p=>?_
     simp only[List.mem_cons,exists_eq_or_imp,hd,hu,Option.some.injEq,and_true,or_assoc]
     rw[show (pl=p)=(p=pl) from propext eq_comm]
   · have e:endStep sc st d=st:=by unfold endStep;rw[hd];simp[hu]
     rw[e]
     exact (ih S st h).congr fun p=>by simp[hu]
def WalkM (f:Nat):Prop:=∀ own ar l sc st (S:Int→Prop),IsMin S st→
 (walkV f own ar l (sc,st)).1=(ev f own ar l).foldl scE sc∧IsMin (fun p=>S p∨PE sc (ev f own ar l) p∨lost PB f own ar l p) (walkV f own ar l (sc,st)).2
theorem fold_min (f:Nat)(ih:WalkM f)(own ar:Bool)(zs:List (List It)):∀ sc st (S:Int→Prop),IsMin S st→
 (zs.foldl (fun z s=>walkV f own ar s z) (sc,st)).1=(zs.flatMap (ev f own ar)).foldl scE sc∧
   IsMin (fun p=>S p∨PE sc (zs.flatMap (ev f own ar)) p∨∃ z,z∈zs∧lost PB f own ar z p) (zs.foldl (fun z s=>walkV f own ar s z) (sc,st)).2:=by
 induction zs with
 | nil=>intro sc st S h;exact ⟨rfl,h.congr fun p=>by simp[PE]⟩
 | cons z t iht=>
  intro sc st S h
  obtain ⟨h1,h2⟩:=ih own ar z sc st S h
  rw[List.foldl_cons,List.flatMap_cons,List.foldl_append]
  obtain ⟨k1,k2⟩:=iht (walkV f own ar z (sc,st)).1 (walkV f own ar z (sc,st)).2 _ h2
  refine ⟨?_,?_⟩
  · rw[← h1];exact k1
  · refine IsMin.congr k2 fun p=>?_
    rw[PE_append,← h1]
    simp only[List.mem_cons,exists_eq_or_imp]
    constructor
    · rintro ((h | h | h) | h | h)
      · exact Or.inl h
      · exact Or.inr (Or.inl (Or.inl h))
      · exact Or.inr (Or.inr (Or.inl h))
      · exact Or.inr (Or.inl (Or.inr h))
      · exact Or.inr (Or.inr (Or.inr h))
    · rintro (h | (h | h) | (h | h))
      · exact Or.inl (Or.inl h)
      · exact Or.inl (Or.inr (Or.inl h))
      · exact Or.inr (Or.inl h)
      · exact Or.inl (Or.inr (Or.inr h))
      · exact Or.inr (Or.inr h)
theorem walk_min (f:Nat):WalkM f:=by
 induction f with
 | zero=>intro own ar l sc st S h;exact ⟨rfl,h.congr fun p=>by simp[ev,PE,lost]⟩
 | succ f ih=>
  intro own ar l sc st S h
  cases l with
  | nil=>exact ⟨rfl,h.congr fun p=>by simp[ev,PE,lost]⟩
  | cons x r=>
   simp only[walkV,ev,lost]
   by_cases hc:x.c=40
   · simp only[if_pos hc]
     obtain ⟨h1,h2⟩:=fold_min f ih true true (segs r.length r) Sc0 st S h
     refine ⟨rfl,?_⟩
     have h3:=end_min ((segs r.length r).foldl (fun z s=>walkV f true true s z) (Sc0,st)).1 (List.range 8) _ _ h2
     refine IsMin.congr h3 fun p=>?_
     rw[h1]
     simp only[List.mem_range,PB,PEnd,PE]
     constructor
     · rintro ((h | h | h) | h)
       · exact Or.inl h
       · exact Or.inr (Or.inr (Or.inl (Or.inl h)))
       · exact Or.inr (Or.inr (Or.inr h))
       · exact Or.inr (Or.inr (Or.inl (Or.inr h)))
     · rintro (h | h | ((h | h) | h))
       · exact Or.inl (Or.inl h)
       · exact h.elim
       · exact Or.inl (Or.inr (Or.inl h))
       · exact Or.inr h
       · exact Or.inl (Or.inr (Or.inr h))
   · simp only[if_neg hc]
     obtain ⟨h1,h2⟩:=stepV_min own ar x sc st S h
     obtain ⟨k1,k2⟩:=fold_min f ih false (ar&&inB [119,64,115] x.c) (segs r.length r) (stepV own ar x (sc,st)).1 (stepV own ar x (sc,st)).2 _ h2
     refine ⟨?_,?_⟩
     · rw[List.foldl_append,← h1];exact k1
     · refine IsMin.congr k2 fun p=>?_
       rw[PE_append,← h1]
       constructor
       · rintro ((h | h | h) | h | h)
         · exact Or.inl h
         · exact Or.inr (Or.inl (Or.inl h))
         · exact Or.inr (Or.inr (Or.inl h))
         · exact Or.inr (Or.inl (Or.inr h))
         · exact Or.inr (Or.inr (Or.inr h))
       · rintro (h | (h | h) | (h | h))
         · exact Or.inl (Or.inl h)
         · exact Or.inl (Or.inr (Or.inl h))
         · exact Or.inr (Or.inl h)
         · exact Or.inl (Or.inr (Or.inr h))
         · exact Or.inr (Or.inr h)
def hasH (l:List It)(d:Int):Bool:=l.any fun y=>y.d==d&&hidesB y.c
def hasU (l:List It)(d:Int):Bool:=l.any fun y=>y.d==d&&usesB y.c
theorem split_snoc {α:Type}{pre a b:List α}{x y:α}(h:pre++[x]=a++y::b):(b=[]∧a=pre∧y=x)∨∃ b',b=b'++[x]∧pre=a++y::b':=by
 rcases List.eq_nil_or_concat b with rfl | ⟨b',z,rfl⟩
 · left
   have:=List.append_inj' h rfl
   exact ⟨rfl,this.1.symm,by simpa using this.2.symm⟩
 · right
   rw[List.concat_eq_append] at h ⊢
   have h2:pre++[x]=(a++y::b')++[z]:=by rw[h];simp
   have:=List.append_inj' h2 rfl
   have e:x=z:=by simpa using this.2
   subst e
   exact ⟨b',rfl,this.1⟩
structure Inv (pre:List It) (sc:Sc):Prop where
 no:∀ d:Nat,sc.hid d=none↔hasH pre d=false
 so:∀ (d:Nat) p,sc.hid d=some p→∃ (a:List It) (x:It) (b:List It),pre=a++x::b∧hidesB x.c=true∧x.d=(d:Int)∧x.pl=p∧hasH a d=false
 us:∀ d:Nat,sc.us d=true→hasU pre d=true
 un:∀ d:Nat,sc.us d=false→∀ (a:List It) (y:It) (b:List It),pre=a++y::b→usesB y.c=true→y.d=(d:Int)→hasH a d=false
theorem hasH_snoc (l:List It)(x:It)(d:Int):hasH (l++[x]) d=(hasH l d||(x.d==d&&hidesB x.c)):=by simp[hasH]
theorem hasU_snoc (l:List It)(x:It)(d:Int):hasU (l++[x]) d=(hasU l d||(x.d==d&&usesB x.c)):=by simp[hasU]
theorem Inv.nil:Inv [] Sc0:=⟨fun d=>by simp[Sc0,hasH],fun d p h=>by simp[Sc0] at h,fun d h=>by simp[Sc0] at h,fun d _ a y b h=>by simp at h⟩
theorem Inv.so_snoc {pre:List It}{sc:Sc}(h:Inv pre sc)(x:It)(d:Nat)(p:Int)(hd:sc.hid d=some p):∃ (a:List It) (y:It) (b:List It),pre++[x]=a++y::b∧hidesB y.c=true∧y.d=(d:Int)∧y.pl=p∧hasH a d=false:=by
 obtain ⟨a,y,b,rfl,h1,h2,h3,h4⟩:=h.so d p hd
 exact ⟨a,y,b++[x],by simp,h1,h2,h3,h4⟩
theorem Inv.step {pre:List It}{sc:Sc}(h:Inv pre sc)(x:It)(hx:(hidesB x.c||usesB x.c)=true→0≤x.d):Inv (pre++[x]) (scE sc x):=by
 unfold scE
 cases hh:hidesB x.c
 · cases hu:usesB x.c
   · simp only[Bool.false_eq_true,if_false]
     refine ⟨fun d=>?_,h.so_snoc x,fun d hd=>?_,fun d hd a y b e hy hyd=>?_⟩
     · rw[h.no,hasH_snoc,hh];simp
     · rw[hasU_snoc,h.us d hd];rfl
     · rcases split_snoc e with ⟨_,_,rfl⟩ | ⟨b',_,e2⟩
       · rw[hu] at hy;cases hy
       · exact h.un d hd a y b' e2 hy hyd
   · simp only[Bool.false_eq_true,if_false,if_true]
     have hx0:=hx (by rw[hu];simp)
     have hxd:x.d=((x.d.toNat:Nat):Int):=by omega
     split
     · rename_i hc
       simp only[Bool.and_eq_true,Bool.not_eq_true'] at hc
       refine ⟨fun d=>?_,h.so_snoc x,fun d hd=>?_,fun d hd a y b e hy hyd=>?_⟩
       · simp only;rw[h.no,hasH_snoc,hh];simp
       · simp only at hd
         rw[hasU_snoc,hu]
         by_cases e:d=x.d.toNat
         · subst e;rw[← hxd];simp
         · rw[if_neg e] at hd;rw[h.us d hd];rfl
       · simp only at hd
         by_cases e3:d=x.d.toNat
         · rw[if_pos e3] at hd;cases hd
         · rw[if_neg e3] at hd
           rcases split_snoc e with ⟨_,_,rfl⟩ | ⟨b',_,e2⟩
           · omega
           · exact h.un d hd a y b' e2 hy hyd
     · rename_i hc
       refine ⟨fun d=>?_,h.so_snoc x,fun d hd=>?_,fun d hd a y b e hy hyd=>?_⟩
       · rw[h.no,hasH_snoc,hh];simp
       · rw[hasU_snoc,h.us d hd];rfl
       · rcases split_snoc e with ⟨_,rfl,rfl⟩ | ⟨b',_,e2⟩
         · have e4:y.d.toNat=d:=by omega
           rw[e4,hd] at hc
           exact (h.no d).1 (by cases hn:sc.hid d with | none=>rfl | some p=>rw[hn] at hc;simp at hc)
         · exact h.un d hd a y b' e2 hy hyd
 · have hu:=hides_uses _ hh
   simp only[if_true]
   have hx0:=hx (by rw[hh];rfl)
   have hxd:x.d=((x.d.toNat:Nat):Int):=by omega
   have hun:∀ d:Nat,sc.us d=false→∀ (a:List It) (y:It) (b:List It),pre++[x]=a++y::b→usesB y.c=true→y.d=(d:Int)→hasH a d=false:=by
    intro d hd a y b e hy hyd
    rcases split_snoc e with ⟨_,_,rfl⟩ | ⟨b',_,e2⟩
    · rw[hu] at hy;cases hy
    · exact h.un d hd a y b' e2 hy hyd
   have hus:∀ d:Nat,sc.us d=true→hasU (pre++[x]) d=true:=fun d hd=>by rw[hasU_snoc,h.us d hd];rfl
   split
   · rename_i hc
     refine ⟨fun d=>?_,fun d p hd=>?_,hus,hun⟩
     · simp only
       rw[hasH_snoc,hh]
       by_cases e:d=x.d.toNat
       · rw[if_pos e];subst e;rw[← hxd];simp
       · rw[if_neg e,h.no]
         have:(x.d==(d:Int))=false:=by rw[beq_eq_false_iff_ne];omega
         rw[this];simp
     · simp only at hd
       by_cases e:d=x.d.toNat
       · rw[if_pos e] at hd
         have hp:x.pl=p:=by simpa using hd
         refine ⟨pre,x,[],rfl,hh,by omega,hp,(h.no d).1 ?_⟩
         rw[e];cases hn:sc.hid x.d.toNat with | none=>rfl | some p=>rw[hn] at hc;simp at hc
       · rw[if_neg e] at hd
         exact h.so_snoc x d p hd
   · rename_i hc
     refine ⟨fun d=>?_,h.so_snoc x,hus,hun⟩
     rw[hasH_snoc,hh]
     by_cases e:d=x.d.toNat
     · subst e
       have hn:¬ sc.hid x.d.toNat=none:=by intro hn;rw[hn] at hc;simp at hc
       have h2:hasH pre ((x.d.toNat:Nat):Int)=true:=by
        cases h3:hasH pre ((x.d.toNat:Nat):Int)
        · exact (hn ((h.no _).2 h3)).elim
        · rfl
       rw[h2];simp[hn]
     · rw[h.no]
       have:(x.d==(d:Int))=false:=by rw[beq_eq_false_iff_ne];omega
       rw[this];simp
end Go.Proofs.YtmlkhhhjdpbhfaaGreatDoor

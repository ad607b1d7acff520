import Derived.Test.YtmlkhhhjdpbhfaaGreatDoorFo51
import Derived.Test.YtmlkhhhjdpbhfaaGreatDoorFo25
namespace Go.Proofs.YtmlkhhhjdpbhfaaGreatDoor
open Go.RowKit
def FitV (G:Nat→List It)(k:List It)(t:List UInt8):Prop:=∃ m,∃ v:Tr m,Can m v∧txtT m v=t∧hasT G m k v=true
variable {G:Nat→List It}
theorem FitV.ne {k:List It}{t:List UInt8}(h:FitV G k t):t≠[]:=by
 obtain ⟨m,v,h1,h2,_⟩:=h
 obtain ⟨c,r,e,_⟩:=txt_head h1
 rw[← h2,e];simp
theorem FitV.at {k:List It}{t:List UInt8}(h:FitV G k t)(m:Nat)(hm:t.length≤m):∃ v:Tr m,Can m v∧txtT m v=t∧hasT G m k v=true:=by
 obtain ⟨n,v,h1,h2,h3⟩:=h
 obtain ⟨v',a,b,c⟩:=can_at G n v h1 m (by rw[h2];exact hm)
 exact ⟨v',a,b.trans h2,(c k).trans h3⟩
def FitKs (G:Nat→List It):List (List It)→List (List UInt8)→Prop
 | [],ts=>ts=[]
 | k::ks,ts=>if silV k=true then FitKs G ks ts else ∃ t ts',ts=t::ts'∧FitV G k t∧FitKs G ks ts'
theorem FitKs.ne:∀ {ks:List (List It)} {ts:List (List UInt8)},FitKs G ks ts→∀ t∈ts,t≠[]
 | [],ts,h,t,ht=>by rw[show ts=[] from h] at ht;simp at ht
 | k::ks,ts,h,t,ht=>by
  unfold FitKs at h
  split at h
  · exact FitKs.ne h t ht
  · obtain ⟨u,us,rfl,h1,h2⟩:=h
    rcases List.mem_cons.1 ht with rfl | ht
    · exact h1.ne
    · exact FitKs.ne h2 t ht
theorem fitKs_at (m:Nat):∀ (ks:List (List It)) (ts:List (List UInt8)),FitKs G ks ts→(∀ t∈ts,t.length≤m)→∃ vs:List (Tr m),(∀ y∈vs,Can m y)∧vs.map (txtT m)=ts∧hasKids (hasT G m) ks vs=true
 | [],ts,h,_=>⟨[],by simp,by rw[show ts=[] from h];rfl,rfl⟩
 | k::ks,ts,h,hl=>by
  unfold FitKs at h
  split at h
  · rename_i hs
    obtain ⟨vs,a,b,c⟩:=fitKs_at m ks ts h hl
    exact ⟨vs,a,b,by unfold hasKids;rw[if_pos hs];exact c⟩
  · rename_i hs
    obtain ⟨u,us,rfl,h1,h2⟩:=h
    obtain ⟨y,ya,yb,yc⟩:=h1.at m (hl u List.mem_cons_self)
    obtain ⟨vs,a,b,c⟩:=fitKs_at m ks us h2 (fun t ht=>hl t (List.mem_cons_of_mem _ ht))
    refine ⟨y::vs,fun z hz=>?_,by rw[List.map_cons,yb,b],by unfold hasKids;rw[if_neg hs];simp[yc,c]⟩
    rcases List.mem_cons.1 hz with rfl | hz
    · exact ya
    · exact a z hz
theorem fitL_at (m:Nat)(k:List It):∀ (ts:List (List UInt8)),(∀ t∈ts,FitV G k t∧t.length≤m)→∃ vs:List (Tr m),(∀ y∈vs,Can m y)∧vs.map (txtT m)=ts∧vs.all (hasT G m k)=true
 | [],_=>⟨[],by simp,rfl,rfl⟩
 | t::ts,h=>by
  obtain ⟨y,ya,yb,yc⟩:=(h t List.mem_cons_self).1.at m (h t List.mem_cons_self).2
  obtain ⟨vs,a,b,c⟩:=fitL_at m k ts (fun t ht=>h t (List.mem_cons_of_mem _ ht))
  refine ⟨y::vs,fun z hz=>?_,by rw[List.map_cons,yb,b],by simp[yc] at c ⊢;exact c⟩
  rcases List.mem_cons.1 hz with rfl | hz
  · exact ya
  · exact a z hz
theorem hasT_top {n:Nat}{x:It}{r:List It}(v:Nd (Tr n))(hi:inB [119,64,115] x.c=false)(h82:x.c≠82):hasT G (n+1) (x::r) v=hasTop (hasT G n) (x::r) v:=by
 show hasQ G (hasT G n) (inn (x::r)) v=_
 rw[show inn (x::r)=x::r by rw[inn,if_neg (by rw[hi];simp)]]
 show (if x.c=82 then _ else _)=_
 rw[if_neg h82]
theorem fit_struct {x:It}{r:List It}{ts:List (List UInt8)}(hc:x.c=40)(h:FitKs G (segs r.length r) ts):FitV G (x::r) (40::joinL ts++[41]):=by
 obtain ⟨vs,a,b,c⟩:=fitKs_at (joinL ts).length _ _ h (fun t ht=>joinL_ge ht h.ne)
 refine ⟨(joinL ts).length+1,(⟨3,0,[],vs⟩:Nd (Tr (joinL ts).length)),Or.inr (Or.inr (Or.inr (Or.inl ⟨Or.inl rfl,rfl,rfl,a⟩))),?_,?_⟩
 · show 40::joinL (vs.map (txtT _))++[41]=_
   rw[b]
 · rw[hasT_top _ (by rw[hc];rfl) (by omega)]
   unfold hasTop
   simp only
   rw[if_neg (by omega),if_neg (by omega),if_neg (by omega),if_pos hc]
   simpa using c
theorem fit_list {x:It}{r:List It}{ts:List (List UInt8)}(hc:x.c=42∨x.c=116)(h:∀ t∈ts,FitV G r t):FitV G (x::r) (91::joinL ts++[93]):=by
 have hne:∀ t∈ts,t≠[]:=fun t ht=>(h t ht).ne
 obtain ⟨vs,a,b,c⟩:=fitL_at (G:=G) (joinL ts).length r ts (fun t ht=>⟨h t ht,joinL_ge ht hne⟩)
 refine ⟨(joinL ts).length+1,(⟨4,0,[],vs⟩:Nd (Tr (joinL ts).length)),Or.inr (Or.inr (Or.inr (Or.inl ⟨Or.inr rfl,rfl,rfl,a⟩))),?_,?_⟩
 · show 91::joinL (vs.map (txtT _))++[93]=_
   rw[b]
 · rw[hasT_top _ (by rcases hc with h | h<;>rw[h]<;>rfl) (by omega)]
   unfold hasTop
   simp only
   rw[if_neg (by omega),if_neg (by omega),if_neg (by omega),if_neg (by omega),if_neg (by omega),if_pos hc]
   simpa using c
theorem fit_choice {x:It}{r:List It}{t:List UInt8}(n:Nat)(hn:n<2)(hc:x.c=47)(h:FitV G ((segs r.length r).getD n []) t):FitV G (x::r) (47::UInt8.ofNat (48+n)::32::t):=by
 obtain ⟨m,y,a,b,c⟩:=h
 refine ⟨m+1,(⟨5,n,[],[y]⟩:Nd (Tr m)),Or.inr (Or.inr (Or.inr (Or.inr ⟨rfl,hn,rfl,y,rfl,a⟩))),?_,?_⟩
 · show 47::UInt8.ofNat (48+n)::32::joinL ([y].map (txtT m))=_
   rw[← b]
   simp[joinL,joinT]
 · rw[hasT_top _ (by rw[hc];rfl) (by omega)]
   unfold hasTop
   simp only
   rw[if_neg (by omega),if_neg (by omega),if_neg (by omega),if_neg (by omega),if_pos hc]
   simpa[headB] using c
theorem fit_in {x:It}{r:List It}{t:List UInt8}(hi:inB [119,64,115] x.c=true)(h:FitV G r t):FitV G (x::r) t:=by
 obtain ⟨m,v,a,b,c⟩:=h
 refine ⟨m,v,a,b,?_⟩
 cases m with
 | zero=>exact a.elim
 | succ m=>
  show hasQ G (hasT G m) (inn (x::r)) v=true
  rw[show inn (x::r)=inn r by rw[inn,if_pos hi]]
  exact c
theorem madeO_t {N fuel far:Nat}{st:PS}{t:List UInt8}(h:(madeO N fuel far st t).ok=true):(madeO N fuel far st t).t=t:=by
 unfold madeO at h ⊢
 split
 · rename_i hn;rw[if_pos hn] at h;cases h
 · rfl
end Go.Proofs.YtmlkhhhjdpbhfaaGreatDoor
namespace Go.Proofs.YtmlkhhhjdpbhfaaGreatDoor
open Go.RowKit
theorem nodup_lt:∀ (n:Nat) (l:List Nat),l.Nodup→(∀ j∈l,j<n)→l.length≤n
 | 0,l,_,h=>by
  cases l with
  | nil=>simp
  | cons a l=>have:=h a List.mem_cons_self;omega
 | n+1,l,hn,h=>by
  by_cases hm:n∈l
  · have h1:=nodup_lt n (l.erase n) (hn.erase n) (fun j hj=>by
     have h2:=hn.mem_erase_iff.1 hj
     have h3:=h j h2.2
     have h4:=h2.1
     omega)
    rw[List.length_erase_of_mem hm] at h1
    omega
  · have:=nodup_lt n l hn (fun j hj=>by
     have h3:=h j hj
     have h4:j≠n:=fun e=>hm (e▸hj)
     omega)
    omega
def rE (G:Nat→List It):Nat→Nat→Option (List It)
 | 0,_=>none
 | k+1,i=>match G i with
  | []=>none
  | y::r=>if y.c=82 then rE G k y.r.toNat else some (y::r)
theorem ruleEnd_rE (G:Nat→List It):∀ (k:Nat) (x:It) (r:List It),ruleEnd G k (x::r)=rE G k x.r.toNat
 | 0,_,_=>rfl
 | k+1,x,r=>by
  unfold ruleEnd rE
  cases hg:G x.r.toNat with
  | nil=>rfl
  | cons y z=>
   simp only
   split
   · exact ruleEnd_rE G k y z
   · rfl
theorem rE_up {G:Nat→List It}{q:List It}:∀ (k d i:Nat),rE G k i=some q→rE G (k+d) i=some q
 | 0,_,_,h=>by cases h
 | k+1,d,i,h=>by
  rw[show k+1+d=(k+d)+1 by omega]
  unfold rE at h ⊢
  cases hg:G i with
  | nil=>rw[hg] at h;cases h
  | cons y z=>
   rw[hg] at h
   simp only at h ⊢
   split
   · rename_i hy;rw[if_pos hy] at h;exact rE_up k d _ h
   · rename_i hy;rw[if_neg hy] at h;exact h
theorem rE_chain {G:Nat→List It}{R:Nat→Bool}(h8:∀ i,R i=true→i<8)(hR:∀ i y z,R i=true→G i=y::z→y.c=82→R y.r.toNat=true){q:List It}:∀ (k i:Nat),R i=true→rE G (k+1) i=some q→rE G k i=none→
 ∃ l:List Nat,l.length=k+1∧l.Nodup∧∀ j∈l,j<8∧∃ d,d≤k∧rE G (d+1) j=some q
 | 0,i,hi,h,_=>⟨[i],rfl,by simp,fun j hj=>by
  rw[List.mem_singleton] at hj
  subst hj
  exact ⟨h8 j hi,0,Nat.le_refl _,h⟩⟩
 | k+1,i,hi,h,hn=>by
  have h':=h
  have hn':=hn
  unfold rE at h hn
  cases hg:G i with
  | nil=>rw[hg] at h;cases h
  | cons y z=>
   rw[hg] at h hn
   simp only at h hn
   by_cases hy:y.c=82
   · rw[if_pos hy] at h hn
     obtain ⟨l,h1,h2,h3⟩:=rE_chain h8 hR k y.r.toNat (hR i y z hi hg hy) h hn
     refine ⟨i::l,by simp[h1],List.nodup_cons.2 ⟨fun hm=>?_,h2⟩,fun j hj=>?_⟩
     · obtain ⟨_,d,hd,he⟩:=h3 i hm
       have:=rE_up (d+1) (k-d) i he
       rw[show d+1+(k-d)=k+1 by omega,hn'] at this
       cases this
     · rcases List.mem_cons.1 hj with rfl | hj
       · exact ⟨h8 j hi,k+1,Nat.le_refl _,h'⟩
       · obtain ⟨a,d,hd,he⟩:=h3 j hj
         exact ⟨a,d,by omega,he⟩
   · rw[if_neg hy] at hn;cases hn
theorem rE_eight {G:Nat→List It}{R:Nat→Bool}(h8:∀ i,R i=true→i<8)(hR:∀ i y z,R i=true→G i=y::z→y.c=82→R y.r.toNat=true){q:List It}{i:Nat}(hi:R i=true)(h:rE G 9 i=some q):rE G 8 i=some q:=by
 cases hn:rE G 8 i with
 | some q'=>have:=rE_up 8 1 i hn;rw[h] at this;exact this.symm
 | none=>
  obtain ⟨l,h1,h2,h3⟩:=rE_chain h8 hR 8 i hi h hn
  have:=nodup_lt 8 l h2 (fun j hj=>(h3 j hj).1)
  omega
theorem noUse {R:Nat→Bool}{own:Bool}{x:It}{r:List It}(h:TrW R own false (x::r)):inB [119,64,115] x.c=false:=by
 obtain ⟨f,h⟩:=h
 cases f with
 | zero=>exact h.elim
 | succ f=>
  cases hi:inB [119,64,115] x.c with
  | false=>rfl
  | true=>
   have hu:usesB x.c=true:=by
    simp only[inB,List.any_cons,List.any_nil,Bool.or_false,Bool.or_eq_true,beq_iff_eq] at hi
    rcases hi with e | e | e<;>(rw[← e];decide)
   exact absurd (h.2.2.1 hu) (by simp)
theorem fit_rule {G:Nat→List It}{R:Nat→Bool}(h8:∀ i,R i=true→i<8)(hG:∀ i,R i=true→TrW R false false (G i)){x:It}{r:List It}{t:List UInt8}(hc:x.c=82)(hr:R x.r.toNat=true)(h:FitV G (G x.r.toNat) t):FitV G (x::r) t:=by
 have hR:∀ i y z,R i=true→G i=y::z→y.c=82→R y.r.toNat=true:=fun i y z hi hg hy=>by
  have:=hG i hi
  rw[hg] at this
  obtain ⟨f,h⟩:=this
  cases f with
  | zero=>exact h.elim
  | succ f=>exact h.2.2.2.1 hy
 obtain ⟨m,v,a,b,c⟩:=h
 refine ⟨m,v,a,b,?_⟩
 cases m with
 | zero=>exact a.elim
 | succ m=>
  have hg:=hG _ hr
  have c':hasQ G (hasT G m) (inn (G x.r.toNat)) v=true:=c
  show hasQ G (hasT G m) (inn (x::r)) v=true
  rw[show inn (x::r)=x::r by rw[inn,if_neg (by rw[hc];decide)]]
  unfold hasQ
  simp only[if_pos hc]
  rw[ruleEnd_rE]
  cases hk:G x.r.toNat with
  | nil=>rw[hk] at hg;obtain ⟨f,h⟩:=hg;cases f<;>exact h.elim
  | cons y z=>
   rw[hk] at hg c'
   rw[show inn (y::z)=y::z by rw[inn,if_neg (by rw[noUse hg];simp)]] at c'
   unfold hasQ at c'
   by_cases hy:y.c=82
   · simp only[if_pos hy] at c'
     rw[ruleEnd_rE] at c'
     cases he:rE G 8 y.r.toNat with
     | none=>rw[he] at c';cases c'
     | some q=>
      rw[he] at c'
      have h9:rE G 9 x.r.toNat=some q:=by
       unfold rE
       rw[hk]
       simp only
       rw[if_pos hy]
       exact he
      rw[rE_eight h8 hR hr h9]
      exact c'
   · simp only[if_neg hy] at c'
     have h1:rE G 8 x.r.toNat=some (y::z):=by
      unfold rE
      rw[hk]
      simp only
      rw[if_neg hy]
     rw[h1]
     exact c'
end Go.Proofs.YtmlkhhhjdpbhfaaGreatDoor
namespace Go.Proofs.YtmlkhhhjdpbhfaaGreatDoor
open Go.RowKit
variable {G:Nat→List It} {R:Nat→Bool} {bs:ByteArray} {N:Nat} {T:Nat→Nat→Bool→List It→PS→PO}
theorem fit_leaf {x:It}{r:List It}(v:Nd (Tr 0))(hi:inB [119,64,115] x.c=false)(h82:x.c≠82)(hv:CanN (Can 0) v)(hh:hasTop (hasT G 0) (x::r) v=true):FitV G (x::r) (txtN (txtT 0) v):=
 ⟨1,v,hv,rfl,by rw[hasT_top v hi h82];exact hh⟩
theorem mk_data (b:ByteArray):(⟨b.data.toList.toArray⟩:ByteArray)=b:=by cases b;simp
theorem bytesT_fit (x:It)(r:List It)(q:Bool)(fuel far:Nat)(st:PS)(hx:ItR x)(hw:kW x.c=true∨x.c=39∨x.c=114∨x.c=46)(hsl:silK q (x::r)=false)(h:(bytesT bs N x q fuel far st).ok=true):FitV G (x::r) (bytesT bs N x q fuel far st).t:=by
 unfold bytesT at h ⊢
 by_cases hc:canRead st.rd st.pl st.en (lenT x st)=true
 · rw[if_pos hc] at h ⊢
   by_cases h39:x.c=39
   · rw[if_pos h39] at h ⊢
     by_cases hb:(bn bs st.pl:Int)≠x.b
     · rw[if_pos hb] at h;cases h
     · rw[if_neg hb] at h ⊢
       by_cases hq:q=true
       · exfalso
         simp[silK,hq,h39] at hsl
       · rw[if_neg hq] at h ⊢
         rw[madeO_t h]
         refine fit_leaf (⟨1,0,[],[]⟩:Nd (Tr 0)) (by rw[h39];decide) (by omega) (Or.inr (Or.inl ⟨rfl,rfl,rfl,rfl⟩)) ?_
         unfold hasTop
         simp only
         rw[if_neg (by omega),if_pos h39]
         rfl
   · rw[if_neg h39] at h ⊢
     by_cases h2:x.c=114∨x.c=46
     · rw[if_pos h2] at h ⊢
       rw[madeO_t h]
       have:=fit_leaf (G:=G) (x:=x) (r:=r) (⟨2,0,(bs.extract st.pl (st.pl+lenT x st)).data.toList,[]⟩:Nd (Tr 0)) (by rcases h2 with h | h<;>rw[h]<;>decide) (by omega) (Or.inr (Or.inr (Or.inl ⟨rfl,rfl,rfl⟩))) (by
        unfold hasTop
        simp only
        rw[if_neg (by omega),if_neg h39,if_pos h2]
        rfl)
       have e:txtN (txtT 0) (⟨2,0,(bs.extract st.pl (st.pl+lenT x st)).data.toList,[]⟩:Nd (Tr 0))=quoteT (bs.extract st.pl (st.pl+lenT x st)):=by
        show quoteT ⟨(bs.extract st.pl (st.pl+lenT x st)).data.toList.toArray⟩=_
        rw[mk_data]
       rw[e] at this
       exact this
     · rw[if_neg h2] at h ⊢
       by_cases h3:hidesB x.c=true
       · exfalso
         simp[silK,h3] at hsl
       · rw[if_neg h3] at h ⊢
         rw[madeO_t h]
         have hw':kW x.c=true:=by rcases hw with h | h | h | h<;>first | exact h | exact absurd h h39 | exact absurd (Or.inl h) h2 | exact absurd (Or.inr h) h2
         have hwd:=hx.w hw'
         have hl:lenT x st=x.w.toNat:=by
          unfold lenT;rw[if_neg h39,if_neg (fun h=>h2 (Or.inl h)),if_neg (fun h=>h2 (Or.inr h))]
         have hs:=extract_le bs st.pl (lenT x st)
         have hn:=numT_lt x (bs.extract st.pl (st.pl+lenT x st)) (by omega)
         have hn2:numT x (bs.extract st.pl (st.pl+lenT x st))<256 ^ x.w.toNat:=by
          have h4:=hiV_lt (bs.extract st.pl (st.pl+lenT x st)) (bs.extract st.pl (st.pl+lenT x st)).size
          have h5:=loV_lt (bs.extract st.pl (st.pl+lenT x st)) (bs.extract st.pl (st.pl+lenT x st)).size
          have h6:256 ^ (bs.extract st.pl (st.pl+lenT x st)).size≤256 ^ x.w.toNat:=Nat.pow_le_pow_right (by omega) (by omega)
          unfold numT
          split<;>omega
         have h4:x.c=110∨x.c=108:=by
          simp only[kW,inB,List.any_cons,List.any_nil,Bool.or_false,Bool.or_eq_true,beq_iff_eq] at hw'
          simp only[hidesB,Bool.or_eq_true,beq_iff_eq] at h3
          rcases hw' with e | e | e | e<;>simp at e<;>omega
         refine fit_leaf (⟨0,numT x (bs.extract st.pl (st.pl+lenT x st)),[],[]⟩:Nd (Tr 0)) (by rcases h4 with h | h<;>rw[h]<;>decide) (by omega) (Or.inl ⟨rfl,hn,rfl,rfl⟩) ?_
         unfold hasTop
         simp only
         rw[if_pos h4]
         simp[withinB,hn2]
 · rw[if_neg hc] at h;cases h
def TFt (G:Nat→List It)(R:Nat→Bool)(bs:ByteArray)(N:Nat)(T:Nat→Nat→Bool→List It→PS→PO):Prop:=
 ∀ fuel far q own ctx k st,TrW R own ctx k→PInv bs N st→(T fuel far q k st).ok=true→silK q k=false→FitV G k (T fuel far q k st).t
theorem kidsT_fit (h:TOk R bs N T)(hl:TFt G R bs N T)(ks:List (List It))(hk:∀ k,k∈ks→TrW R true true k):∀ fuel far st t,PInv bs N st→(kidsT T ks fuel far st t).ok=true→
 ∃ ts:List (List UInt8),FitKs G ks ts∧(kidsT T ks fuel far st t).t=ts.foldl joinT t:=by
 induction ks with
 | nil=>intro fuel far st t hi _;exact ⟨[],rfl,rfl⟩
 | cons k ks ih=>
  intro fuel far st t hi ho
  unfold kidsT at ho ⊢
  by_cases hok:(T fuel far (silV k) k st).ok=true
  · rw[if_pos hok] at ho ⊢
    have a:=(h.fit fuel far (silV k) true true k st (hk k List.mem_cons_self) hi hok).1
    obtain ⟨ts,h1,h2⟩:=ih (fun k hk'=>hk k (List.mem_cons_of_mem _ hk')) _ _ _ _ a.inv ho
    cases hs:silV k with
    | true=>
     rw[hs] at h2
     simp only[if_true] at h2
     refine ⟨ts,?_,?_⟩
     · unfold FitKs;rw[if_pos hs];exact h1
     · simp only[if_true];exact h2
    | false=>
     have l:=hl fuel far (silV k) true true k st (hk k List.mem_cons_self) hi hok (by rw[silK_sil];exact hs)
     refine ⟨(T fuel far (silV k) k st).t::ts,?_,?_⟩
     · unfold FitKs
       rw[if_neg (by rw[hs];simp)]
       exact ⟨_,ts,rfl,l,h1⟩
     · rw[List.foldl_cons]
       rw[hs] at h2 ⊢
       simp only[Bool.false_eq_true,if_false] at h2 ⊢
       exact h2
  · rw[if_neg hok] at ho;exact absurd ho hok
theorem manyT_fit (h:TOk R bs N T)(hl:TFt G R bs N T)(kid:List It)(ctx:Bool)(hk:TrW R false ctx kid)(g:Nat):∀ fuel far st t,PInv bs N st→(manyT T N kid g fuel far st t).ok=true→
 ∃ ts:List (List UInt8),(∀ u∈ts,FitV G kid u)∧(manyT T N kid g fuel far st t).t=91::ts.foldl joinT t++[93]:=by
 induction g with
 | zero=>intro fuel far st t _ ho;cases ho
 | succ g ih=>
  intro fuel far st t hi ho
  unfold manyT at ho ⊢
  by_cases he:(T fuel far false kid st).e≠0
  · rw[if_pos he] at ho ⊢
    exact absurd (h.fit fuel far false false ctx kid st hk hi ho).2 he
  · rw[if_neg he] at ho ⊢
    by_cases h2:(T fuel far false kid st).ok=false∨(T fuel far false kid st).st.pl=st.pl
    · rw[if_pos h2] at ho ⊢
      exact ⟨[],by simp,madeO_t ho⟩
    · rw[if_neg h2] at ho ⊢
      have hok:(T fuel far false kid st).ok=true:=by
       cases hh:(T fuel far false kid st).ok with
       | true=>rfl
       | false=>exact absurd (Or.inl hh) h2
      have a:=(h.fit fuel far false false ctx kid st hk hi hok).1
      have l:=hl fuel far false false ctx kid st hk hi hok (silK_not hk rfl)
      obtain ⟨ts,h3,h4⟩:=ih _ _ _ _ a.inv ho
      exact ⟨(T fuel far false kid st).t::ts,fun u hu=>by
       rcases List.mem_cons.1 hu with rfl | hu
       · exact l
       · exact h3 u hu,h4⟩
theorem timesT_fit (h:TOk R bs N T)(hl:TFt G R bs N T)(kid:List It)(ctx:Bool)(hk:TrW R false ctx kid)(n:Nat):∀ fuel far st t,PInv bs N st→(timesT T N kid n fuel far st t).ok=true→
 ∃ ts:List (List UInt8),(∀ u∈ts,FitV G kid u)∧(timesT T N kid n fuel far st t).t=91::ts.foldl joinT t++[93]:=by
 induction n with
 | zero=>
  intro fuel far st t hi ho
  unfold timesT at ho ⊢
  exact ⟨[],by simp,madeO_t ho⟩
 | succ g ih=>
  intro fuel far st t hi ho
  unfold timesT at ho ⊢
  by_cases hok:(T fuel far false kid st).ok=true
  · rw[if_pos hok] at ho ⊢
    have a:=(h.fit fuel far false false ctx kid st hk hi hok).1
    have l:=hl fuel far false false ctx kid st hk hi hok (silK_not hk rfl)
    obtain ⟨ts,h3,h4⟩:=ih _ _ _ _ a.inv ho
    exact ⟨(T fuel far false kid st).t::ts,fun u hu=>by
     rcases List.mem_cons.1 hu with rfl | hu
     · exact l
     · exact h3 u hu,h4⟩
  · rw[if_neg hok] at ho;exact absurd ho hok
theorem chosen_fit {x:It}{r:List It}(n:Nat)(hn:n<2)(hc:x.c=47)(o:PO)(c:UInt8)(hcc:c=UInt8.ofNat (48+n))(ho:o.ok=true→FitV G ((segs r.length r).getD n []) o.t)(h:(chosen N c o).ok=true):FitV G (x::r) (chosen N c o).t:=by
 unfold chosen at h ⊢
 by_cases hok:o.ok=true
 · rw[if_pos hok] at h ⊢
   rw[madeO_t h,hcc]
   exact fit_choice n hn hc (ho hok)
 · rw[if_neg hok] at h;exact absurd h hok
theorem tryT_fit (h8:∀ i,R i=true→i<8)(hG:∀ r,R r=true→TrW R false false (G r))(g:Nat):TFt G R bs N (tryT G bs N g):=by
 induction g with
 | zero=>intro fuel far q own ctx k st _ _ ho;cases ho
 | succ g ih=>
  intro fuel far q own ctx k st hw hi ho hsl
  have hT:=tryT_ok (R:=R) (bs:=bs) (N:=N) G hG g
  obtain ⟨f,hf⟩:=hw
  cases f with
  | zero=>exact hf.elim
  | succ f=>
  cases k with
  | nil=>exact hf.elim
  | cons x r=>
  cases fuel with
  | zero=>cases ho
  | succ fuel=>
  obtain ⟨hx,hho,huc,hr,h2,h1,hks⟩:=hf
  have hkid:∀ k,k∈segs r.length r→TrW R (decide (x.c=40)) (decide (x.c=40)||(ctx&&inB [119,64,115] x.c)) k:=fun k hk=>⟨f,hks k hk⟩
  unfold tryT at ho ⊢
  by_cases h40:x.c=40
  · rw[if_pos h40] at ho ⊢
    unfold wholeT wholeE at ho ⊢
    by_cases hok:(kidsT (tryT G bs N g) (segs r.length r) fuel far { st with deps:=fun _=>(0,0) } []).ok=true
    · rw[if_pos hok] at ho ⊢
      have hi':PInv bs N { st with deps:=fun _=>(0,0) }:=⟨hi.pl,hi.en,hi.rd,hi.vals,fun _=>⟨by simp,by simp⟩⟩
      obtain ⟨ts,b1,b2⟩:=kidsT_fit hT ih _ (fun k hk=>by have:=hkid k hk;rw[h40] at this;simpa using this) _ _ _ _ hi' hok
      rw[madeO_t ho,b2]
      exact fit_struct h40 b1
    · rw[if_neg hok] at ho;exact absurd ho hok
  rw[if_neg h40] at ho ⊢
  by_cases h47:x.c=47
  · rw[if_pos h47] at ho ⊢
    have h2':=h2 h47
    have h0:TrW R false false ((segs r.length r).getD 0 []):=by
     have:=hkid ((segs r.length r).getD 0 []) (by rw[getD_lt _ _ _ (by omega)];exact List.getElem_mem _)
     rw[h47] at this;simpa[inB] using this
    have h1':TrW R false false ((segs r.length r).getD 1 []):=by
     have:=hkid ((segs r.length r).getD 1 []) (by rw[getD_lt _ _ _ (by omega)];exact List.getElem_mem _)
     rw[h47] at this;simpa[inB] using this
    unfold choiceT choice2 at ho ⊢
    split at ho
    · rename_i hh
      rw[if_pos hh]
      exact chosen_fit 0 (by omega) h47 _ 48 rfl (fun hok=>ih fuel far false false false _ st h0 hi hok (silK_not h0 rfl)) ho
    · rename_i hh
      rw[if_neg hh]
      exact chosen_fit 1 (by omega) h47 _ 49 rfl (fun hok=>ih _ _ false false false _ st h1' hi hok (silK_not h1' rfl)) ho
  rw[if_neg h47] at ho ⊢
  have one:inB [42,116,119,64,115] x.c=true→TrW R false (decide (x.c=40)||(ctx&&inB [119,64,115] x.c)) r:=fun h=>by
   have:=hkid r (by rw[h1 h];exact List.mem_cons_self)
   rw[show decide (x.c=40)=false by simp[h40]] at this ⊢
   exact this
  by_cases h42:x.c=42
  · rw[if_pos h42] at ho ⊢
    obtain ⟨ts,b1,b2⟩:=manyT_fit hT ih r _ (one (by rw[h42];rfl)) _ _ _ _ _ hi ho
    rw[b2]
    exact fit_list (Or.inl h42) b1
  rw[if_neg h42] at ho ⊢
  by_cases h82:x.c=82
  · rw[if_pos h82] at ho ⊢
    exact fit_rule h8 hG h82 (hr h82) (ih _ _ false false false _ st (hG _ (hr h82)) hi ho (silK_not (hG _ (hr h82)) rfl))
  rw[if_neg h82] at ho ⊢
  by_cases h116:x.c=116
  · rw[if_pos h116] at ho ⊢
    obtain ⟨ts,b1,b2⟩:=timesT_fit hT ih r _ (one (by rw[h116];rfl)) _ _ _ _ _ hi ho
    rw[b2]
    exact fit_list (Or.inr h116) b1
  rw[if_neg h116] at ho ⊢
  by_cases h119:x.c=119
  · rw[if_pos h119] at ho ⊢
    have hk:=one (by rw[h119];rfl)
    refine fit_in (by rw[h119];decide) ?_
    unfold windowT at ho ⊢
    by_cases hd:st.en-st.pl<(st.deps x.d.toNat).1
    · rw[if_pos hd] at ho;cases ho
    · rw[if_neg hd] at ho ⊢
      unfold windowE at ho ⊢
      by_cases hok:(tryT G bs N g fuel far false r { st with en:=st.pl+(st.deps x.d.toNat).1 }).ok=true
      · rw[if_pos hok] at ho ⊢
        have hpl:=hi.pl
        have hen:=hi.en
        have:=ih _ _ false _ _ _ _ hk (⟨by simp only;omega,by simp only;omega,hi.rd,hi.vals,hi.deps⟩:PInv bs N { st with en:=st.pl+(st.deps x.d.toNat).1 }) hok (silK_not hk rfl)
        split at ho
        · cases ho
        · rename_i hh
          rw[if_neg hh]
          exact this
      · rw[if_neg hok] at ho;exact absurd ho hok
  rw[if_neg h119] at ho ⊢
  by_cases h64:x.c=64
  · rw[if_pos h64] at ho ⊢
    have hk:=one (by rw[h64];rfl)
    refine fit_in (by rw[h64];decide) ?_
    unfold atT at ho ⊢
    by_cases hd:bs.size<(st.deps x.d.toNat).1
    · rw[if_pos hd] at ho;cases ho
    · rw[if_neg hd] at ho ⊢
      unfold atE at ho ⊢
      by_cases hok:(tryT G bs N g fuel far false r { st with pl:=(st.deps x.d.toNat).1,en:=bs.size }).ok=true
      · rw[if_pos hok] at ho ⊢
        exact ih _ _ false _ _ _ _ hk (⟨by simp only;omega,Nat.le_refl _,hi.rd,hi.vals,hi.deps⟩:PInv bs N { st with pl:=(st.deps x.d.toNat).1,en:=bs.size }) hok (silK_not hk rfl)
      · rw[if_neg hok] at ho;exact absurd ho hok
  rw[if_neg h64] at ho ⊢
  by_cases h115:x.c=115
  · rw[if_pos h115] at ho ⊢
    have hk:=one (by rw[h115];rfl)
    refine fit_in (by rw[h115];decide) ?_
    unfold summedT summedE at ho ⊢
    by_cases hok:(tryT G bs N g fuel far false r st).ok=true
    · rw[if_pos hok] at ho ⊢
      have:=ih _ _ false _ _ _ _ hk hi hok (silK_not hk rfl)
      split at ho
      · cases ho
      · rename_i hh
        rw[if_neg hh]
        exact this
    · rw[if_neg hok] at ho;exact absurd ho hok
  rw[if_neg h115] at ho ⊢
  exact bytesT_fit x r q fuel far st hx (kW_list x.c hx.it.1 h40 h47 h42 h82 h116 h119 h64 h115) hsl ho
end Go.Proofs.YtmlkhhhjdpbhfaaGreatDoor
namespace Go.Proofs.YtmlkhhhjdpbhfaaGreatDoor
open Go.RowKit
variable {G:Nat→List It} {R:Nat→Bool} {bs:ByteArray} {N:Nat} {T:Nat→Nat→Bool→List It→PS→PO}
theorem madeO_far {N fuel far:Nat}{st:PS}{t:List UInt8}:(madeO N fuel far st t).far≤far:=by
 unfold madeO
 split
 · exact Nat.zero_le _
 · exact Nat.le_refl _
theorem failO_far {fuel far a n:Nat}{st:PS}(h:far≤n)(h2:a≤n):(failO fuel far a st).far≤n:=Nat.max_le.2 ⟨h,h2⟩
def FarOk (R:Nat→Bool)(bs:ByteArray)(N:Nat)(T:Nat→Nat→Bool→List It→PS→PO):Prop:=
 ∀ fuel far q own ctx k st,TrW R own ctx k→PInv bs N st→far≤bs.size→(T fuel far q k st).far≤bs.size
theorem kidsT_far (h:TOk R bs N T)(hl:FarOk R bs N T)(ks:List (List It))(hk:∀ k,k∈ks→TrW R true true k):∀ fuel far st t,PInv bs N st→far≤bs.size→(kidsT T ks fuel far st t).far≤bs.size:=by
 induction ks with
 | nil=>intro fuel far st t _ hf;exact hf
 | cons k ks ih=>
  intro fuel far st t hi hf
  have l:=hl fuel far (silV k) true true k st (hk k List.mem_cons_self) hi hf
  unfold kidsT
  by_cases hok:(T fuel far (silV k) k st).ok=true
  · rw[if_pos hok]
    exact ih (fun k hk'=>hk k (List.mem_cons_of_mem _ hk')) _ _ _ _ (h.fit fuel far (silV k) true true k st (hk k List.mem_cons_self) hi hok).1.inv l
  · rw[if_neg hok];exact l
theorem manyT_far (h:TOk R bs N T)(hl:FarOk R bs N T)(kid:List It)(ctx:Bool)(hk:TrW R false ctx kid)(g:Nat):∀ fuel far st t,PInv bs N st→far≤bs.size→(manyT T N kid g fuel far st t).far≤bs.size:=by
 induction g with
 | zero=>intro fuel far st t _ _;exact Nat.zero_le _
 | succ g ih=>
  intro fuel far st t hi hf
  have l:=hl fuel far false false ctx kid st hk hi hf
  unfold manyT
  by_cases he:(T fuel far false kid st).e≠0
  · rw[if_pos he];exact l
  · rw[if_neg he]
    by_cases h2:(T fuel far false kid st).ok=false∨(T fuel far false kid st).st.pl=st.pl
    · rw[if_pos h2];exact Nat.le_trans madeO_far l
    · rw[if_neg h2]
      have hok:(T fuel far false kid st).ok=true:=by
       cases hh:(T fuel far false kid st).ok with
       | true=>rfl
       | false=>exact absurd (Or.inl hh) h2
      exact ih _ _ _ _ (h.fit fuel far false false ctx kid st hk hi hok).1.inv l
theorem timesT_far (h:TOk R bs N T)(hl:FarOk R bs N T)(kid:List It)(ctx:Bool)(hk:TrW R false ctx kid)(n:Nat):∀ fuel far st t,PInv bs N st→far≤bs.size→(timesT T N kid n fuel far st t).far≤bs.size:=by
 induction n with
 | zero=>
  intro fuel far st t _ hf
  unfold timesT
  exact Nat.le_trans madeO_far hf
 | succ g ih=>
  intro fuel far st t hi hf
  have l:=hl fuel far false false ctx kid st hk hi hf
  unfold timesT
  by_cases hok:(T fuel far false kid st).ok=true
  · rw[if_pos hok]
    exact ih _ _ _ _ (h.fit fuel far false false ctx kid st hk hi hok).1.inv l
  · rw[if_neg hok];exact l
theorem chosen_far (c:UInt8)(o:PO)(n:Nat)(h:o.far≤n):(chosen N c o).far≤n:=by
 unfold chosen
 split
 · exact Nat.le_trans madeO_far h
 · exact h
theorem bytesT_far (x:It)(q:Bool)(fuel far:Nat)(st:PS)(n:Nat)(h:far≤n)(h2:st.pl≤n):(bytesT bs N x q fuel far st).far≤n:=by
 unfold bytesT
 split
 · split
   · split
     · exact failO_far h h2
     · split
       · exact h
       · exact Nat.le_trans madeO_far h
   · split
     · exact Nat.le_trans madeO_far h
     · split
       · exact h
       · exact Nat.le_trans madeO_far h
 · exact failO_far h h2
theorem tryT_far (hG:∀ r,R r=true→TrW R false false (G r))(g:Nat):FarOk R bs N (tryT G bs N g):=by
 induction g with
 | zero=>intro fuel far q own ctx k st _ _ _;exact Nat.zero_le _
 | succ g ih=>
  intro fuel far q own ctx k st hw hi hf0
  have hT:=tryT_ok (R:=R) (bs:=bs) (N:=N) G hG g
  have hpl:=hi.pl
  have hen:=hi.en
  obtain ⟨f,hf⟩:=hw
  cases f with
  | zero=>exact hf.elim
  | succ f=>
  cases k with
  | nil=>exact hf.elim
  | cons x r=>
  cases fuel with
  | zero=>exact Nat.zero_le _
  | succ fuel=>
  obtain ⟨hx,hho,huc,hr,h2,h1,hks⟩:=hf
  have hkid:∀ k,k∈segs r.length r→TrW R (decide (x.c=40)) (decide (x.c=40)||(ctx&&inB [119,64,115] x.c)) k:=fun k hk=>⟨f,hks k hk⟩
  unfold tryT
  by_cases h40:x.c=40
  · rw[if_pos h40]
    unfold wholeT wholeE
    have hi':PInv bs N { st with deps:=fun _=>(0,0) }:=⟨hi.pl,hi.en,hi.rd,hi.vals,fun _=>⟨by simp,by simp⟩⟩
    have b:=kidsT_far hT ih (segs r.length r) (fun k hk=>by have:=hkid k hk;rw[h40] at this;simpa using this) fuel far { st with deps:=fun _=>(0,0) } [] hi' hf0
    split
    · exact Nat.le_trans madeO_far b
    · exact b
  rw[if_neg h40]
  by_cases h47:x.c=47
  · rw[if_pos h47]
    have h2':=h2 h47
    have h0:TrW R false false ((segs r.length r).getD 0 []):=by
     have:=hkid ((segs r.length r).getD 0 []) (by rw[getD_lt _ _ _ (by omega)];exact List.getElem_mem _)
     rw[h47] at this;simpa[inB] using this
    have h1':TrW R false false ((segs r.length r).getD 1 []):=by
     have:=hkid ((segs r.length r).getD 1 []) (by rw[getD_lt _ _ _ (by omega)];exact List.getElem_mem _)
     rw[h47] at this;simpa[inB] using this
    have a:=ih fuel far false false false _ st h0 hi hf0
    unfold choiceT choice2
    split
    · exact chosen_far _ _ _ a
    · exact chosen_far _ _ _ (ih _ _ false false false _ st h1' hi a)
  rw[if_neg h47]
  have one:inB [42,116,119,64,115] x.c=true→TrW R false (decide (x.c=40)||(ctx&&inB [119,64,115] x.c)) r:=fun h=>by
   have:=hkid r (by rw[h1 h];exact List.mem_cons_self)
   rw[show decide (x.c=40)=false by simp[h40]] at this ⊢
   exact this
  by_cases h42:x.c=42
  · rw[if_pos h42]
    exact manyT_far hT ih r _ (one (by rw[h42];rfl)) _ _ _ _ _ hi hf0
  rw[if_neg h42]
  by_cases h82:x.c=82
  · rw[if_pos h82]
    exact ih _ _ false false false _ st (hG _ (hr h82)) hi hf0
  rw[if_neg h82]
  by_cases h116:x.c=116
  · rw[if_pos h116]
    exact timesT_far hT ih r _ (one (by rw[h116];rfl)) _ _ _ _ _ hi hf0
  rw[if_neg h116]
  by_cases h119:x.c=119
  · rw[if_pos h119]
    have hk:=one (by rw[h119];rfl)
    unfold windowT
    by_cases hd:st.en-st.pl<(st.deps x.d.toNat).1
    · rw[if_pos hd];exact failO_far hf0 (by omega)
    · rw[if_neg hd]
      have hi':PInv bs N { st with en:=st.pl+(st.deps x.d.toNat).1 }:=⟨by simp only;omega,by simp only;omega,hi.rd,hi.vals,hi.deps⟩
      have a:=ih fuel far false _ _ _ _ hk hi' hf0
      unfold windowE
      by_cases hok:(tryT G bs N g fuel far false r { st with en:=st.pl+(st.deps x.d.toNat).1 }).ok=true
      · rw[if_pos hok]
        have k:=(hT.fit fuel far false _ _ _ _ hk hi' hok).1.inv
        have k1:=k.pl
        have k2:=k.en
        split
        · exact failO_far a (by omega)
        · exact a
      · rw[if_neg hok];exact a
  rw[if_neg h119]
  by_cases h64:x.c=64
  · rw[if_pos h64]
    have hk:=one (by rw[h64];rfl)
    unfold atT
    by_cases hd:bs.size<(st.deps x.d.toNat).1
    · rw[if_pos hd];exact failO_far hf0 (by omega)
    · rw[if_neg hd]
      have a:=ih fuel far false _ _ _ _ hk (⟨by simp only;omega,Nat.le_refl _,hi.rd,hi.vals,hi.deps⟩:PInv bs N { st with pl:=(st.deps x.d.toNat).1,en:=bs.size }) hf0
      unfold atE
      split
      · exact a
      · exact a
  rw[if_neg h64]
  by_cases h115:x.c=115
  · rw[if_pos h115]
    have hk:=one (by rw[h115];rfl)
    have a:=ih fuel far false _ _ _ _ hk hi hf0
    unfold summedT summedE
    split
    · split
      · exact failO_far a (by omega)
      · exact a
    · exact a
  rw[if_neg h115]
  exact bytesT_far x q fuel far st _ hf0 (by omega)
end Go.Proofs.YtmlkhhhjdpbhfaaGreatDoor

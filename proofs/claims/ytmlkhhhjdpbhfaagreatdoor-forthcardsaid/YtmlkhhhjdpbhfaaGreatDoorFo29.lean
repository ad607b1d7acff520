import Derived.Test.YtmlkhhhjdpbhfaaGreatDoorFo28
import Derived.Test.YtmlkhhhjdpbhfaaGreatDoorFo26
import Derived.Test.YtmlkhhhjdpbhfaaGreatDoorFo09
import Derived.Test.YtmlkhhhjdpbhfaaGreatDoorFo12
import Derived.Test.YtmlkhhhjdpbhfaaGreatDoorFo23
import Derived.Test.YtmlkhhhjdpbhfaaGreatDoorFo24
import Derived.Test.YtmlkhhhjdpbhfaaGreatDoorFo25
namespace Go.Proofs.YtmlkhhhjdpbhfaaGreatDoor
open Go.RowKit
theorem Wf.next {its:List It}(h:Wf its)(k:Nat)(hk:k<its.length):k<nxt its k∧nxt its k≤its.length:=by
 have:=h.pos k hk;unfold nxt;omega
theorem hide {p:Prop}(h:p):Hid p:=h
theorem Ints.take {w:World}{l:List Nat}{g cap:Nat}(n:Nat)(hn:n≤l.length)(h:Ints w (.slice (some ⟨g,0,none⟩) l.length cap) l):Ints w (.slice (some ⟨g,0,none⟩) n cap) (l.take n):=by
 rcases h with ⟨h,_⟩ | ⟨g',cap',h,hg,h1,h2,h3⟩
 · simp at h
 · simp only[Value.slice.injEq,Option.some.injEq,Addr.mk.injEq,and_true,true_and] at h
   obtain ⟨rfl,rfl⟩:=h
   refine Or.inr ⟨g,cap,by simp[Nat.min_eq_left hn],hg,by simp;omega,h2,fun j hj=>?_⟩
   simp at hj
   rw[h3 j (by omega),getD_lt _ _ _ (by omega),getD_lt _ _ _ (by simp;omega)]
   simp
structure Bun (w0:World) (gb g c:Nat) (fi tw:Value) (its:List It) (gs cap:Nat) (S:List Nat) (pb:Nat) (d:Int) (w:World):Prop where
 grm:Grm w gb g c fi tw its
 ints:Ints w (.slice (some ⟨gs,0,none⟩) S.length cap) S
 cell:w.cell? ⟨pb,4,none⟩=some (.int .i64 d)
 lt:pb<w.heap.size
 bel:Below w0.heap.size w0 w
theorem Bun.drew {w0:World}{gb g c:Nat}{fi tw:Value}{its:List It}{gs cap:Nat}{S:List Nat}{pb:Nat}{d:Int}{w:World}(h:Bun w0 gb g c fi tw its gs cap S pb d w):Bun w0 gb g c fi tw its gs cap S pb d w.drew:=
 ⟨⟨h.grm.blk,h.grm.lt,h.grm.cell⟩,h.ints,h.cell,h.lt,h.bel.drew⟩
theorem Bun.next {w0:World}{gb g c:Nat}{fi tw:Value}{its:List It}{gs cap:Nat}{S:List Nat}{pb:Nat}{d:Int}{w w':World}(h:Bun w0 gb g c fi tw its gs cap S pb d w)(hb:Below w.heap.size w w'):Bun w0 gb g c fi tw its gs cap S pb d w':=
 ⟨h.grm.below hb,h.ints.below hb,by rw[hb.cell (p:=⟨pb,4,none⟩) h.lt];exact h.cell,by have:=hb.size;have:=h.lt;omega,h.bel.trans (hb.mono h.bel.size)⟩
def TW:List Rl→List Rl→Int→Prop
 | _,[],_=>False
 | seen,x::t,p=>(hasR seen x.r=true∧p=(x.pl:Int))∨TW (seen++[x]) t p
theorem tw_lo (l:List Rl):∀ seen lo p,OrdR lo l→TW seen l p→(lo:Int)≤p:=by
 induction l with
 | nil=>intro seen lo p _ h;exact h.elim
 | cons x t ih=>
  intro seen lo p ho h
  obtain ⟨h1,hi,h2,h3,h4⟩:=ho
  rcases h with ⟨_,rfl⟩ | h
  · omega
  · have:=ih _ _ p h4 h;omega
theorem IsMin.seq {A B:Int→Prop}{r t:Int × Bool}(ha:IsMin A r)(hb:IsMin B t)(h:∀ a b,A a→B b→a≤b):IsMin (fun p=>A p∨B p) (if r.2 then r else t):=by
 rcases ha with ⟨h1,h2⟩ | ⟨h1,h2,h3⟩
 · rw[h1]
   exact hb.congr fun p=>⟨Or.inr,fun hp=>by rcases hp with hp | hp;exact (h2 p hp).elim;exact hp⟩
 · rw[if_pos h1]
   refine Or.inr ⟨h1,Or.inl h2,fun p hp=>?_⟩
   rcases hp with hp | hp
   · exact h3 p hp
   · exact h _ _ h2 hp
theorem miss_min (th:Nat→Bool)(l:List It):PlInc l→IsMin (fun p=>∃ y,y∈l∧missB th y=true∧p=y.pl) (firstMiss th l):=by
 induction l with
 | nil=>intro _;exact Or.inl ⟨rfl,fun p h=>by simp at h⟩
 | cons x t ih=>
  intro h
  obtain ⟨h1,h2⟩:=List.pairwise_cons.1 h
  rw[firstMiss_cons]
  split
  · rename_i hc
    refine Or.inr ⟨rfl,⟨x,List.mem_cons_self,hc,rfl⟩,?_⟩
    rintro p ⟨y,y1,y2,rfl⟩
    rcases List.mem_cons.1 y1 with rfl | y1
    · exact Int.le_refl _
    · have:=h1 y y1;simp only;omega
  · rename_i hc
    exact (ih h2).congr fun p=>by simp[hc]
theorem scan_min (th:Nat→Bool)(l:List Rl):∀ seen lo,OrdR lo l→IsMin (fun p=>TW seen l p∨∃ y,y∈allIts l∧missB th y=true∧p=y.pl) (scanR th seen l):=by
 induction l with
 | nil=>intro seen lo _;exact Or.inl ⟨rfl,fun p h=>by simp[TW,allIts] at h⟩
 | cons x t ih=>
  intro seen lo ho
  have ho':=ho
  obtain ⟨h1,hi,h2,h3,h4⟩:=ho
  have hx:OrdR x.pl (x::t):=⟨Nat.le_refl _,hi,h2,h3,h4⟩
  rw[scanR]
  split
  · rename_i hc
    refine Or.inr ⟨rfl,Or.inl (Or.inl ⟨hc,rfl⟩),fun p hp=>?_⟩
    rcases hp with hp | ⟨y,y1,_,rfl⟩
    · exact tw_lo _ _ _ p hx hp
    · exact hx.pl y y1
  · rename_i hc
    refine ((miss_min th x.its h3.1).seq (ih (seen++[x]) hi h4) ?_).congr fun p=>?_
    · rintro a b ⟨y,y1,_,rfl⟩ (hb | ⟨z,z1,_,rfl⟩)
      · have:=(h3.2 y y1).2;have:=tw_lo _ _ _ b h4 hb;omega
      · have:=(h3.2 y y1).2;have:=h4.pl z z1;omega
    · rw[TW]
      simp only[hc,allIts,List.flatMap_cons,List.mem_append]
      constructor
      · rintro (⟨y,y1,y2⟩ | h | ⟨y,y1,y2⟩)
        · exact Or.inr ⟨y,Or.inl y1,y2⟩
        · exact Or.inl (Or.inr h)
        · exact Or.inr ⟨y,Or.inr y1,y2⟩
      · rintro ((⟨h,_⟩ | h) | ⟨y,y1 | y1,y2⟩)
        · cases h
        · exact Or.inr (Or.inl h)
        · exact Or.inl ⟨y,y1,y2⟩
        · exact Or.inr (Or.inr ⟨y,y1,y2⟩)
theorem ev_none (f:Nat):∀ l,ev f false false l=[]:=by
 induction f with
 | zero=>intro l;rfl
 | succ f ih=>
  intro l
  cases l with
  | nil=>rfl
  | cons x r=>simp[ev,ih]
theorem wrong_min (F:Nat)(rls:List Rl):∀ (S:Int→Prop) st,IsMin S st→IsMin (fun p=>S p∨∃ r,r∈rls∧lost PB F false false r.its p) (wrongD F rls st):=by
 induction rls with
 | nil=>intro S st h;exact h.congr fun p=>by simp
 | cons r t ih=>
  intro S st h
  have h1:=(walk_min F false false r.its Sc0 st S h).2
  rw[ev_none] at h1
  refine IsMin.congr (ih _ _ h1) fun p=>?_
  simp only[List.mem_cons,exists_eq_or_imp,PE,false_or,or_assoc]
structure HeadR (h:Hd):Prop where
 w:kW h.it.c=true→1≤h.it.w∧h.it.w≤4
 b:h.it.c=39→0≤h.it.b∧h.it.b≤255
 two:h.it.c=47→h.inn=2
 one:inB [42,116,119,64,115] h.it.c=true→h.inn=1
theorem inB_one (c:Int)(h:inB [42,116,119,64,115] c=true):kIn c=1:=by
 simp only[inB,List.any_cons,List.any_nil,Bool.or_false,Bool.or_eq_true,beq_iff_eq] at h
 rcases h with h | h | h | h | h
 · rw[show c=42 by simp at h;omega];decide
 · rw[show c=116 by simp at h;omega];decide
 · rw[show c=119 by simp at h;omega];decide
 · rw[show c=64 by simp at h;omega];decide
 · rw[show c=115 by simp at h;omega];decide
theorem headV_r (s:ByteArray)(a:Nat)(h:(headV s a).ok=true):HeadR (headV s a):=by
 unfold headV at h ⊢
 split
 · exact ⟨fun h=>absurd (show kW 82=true from h) (by decide),fun h=>absurd (show (82:Int)=39 from h) (by decide),fun h=>absurd (show (82:Int)=47 from h) (by decide),fun h=>absurd (show inB [42,116,119,64,115] 82=true from h) (by decide)⟩
 · rename_i hr
   rw[if_neg hr] at h
   split
   · rename_i h39
     rw[if_pos h39] at h
     split
     · rename_i hx;rw[if_pos hx] at h;cases h
     · rename_i hx
       rw[if_neg hx] at h
       split
       · rename_i hy;rw[if_pos hy] at h;cases h
       · rename_i hy
         have b1:=hexV_bd (bt s (a+1))
         have b2:=hexV_bd (bt s (a+2))
         exact ⟨fun h=>absurd (show kW 39=true from h) (by decide),fun _=>⟨by simp only;omega,by simp only;omega⟩,fun h=>absurd (show (39:Int)=47 from h) (by decide),fun h=>absurd (show inB [42,116,119,64,115] 39=true from h) (by decide)⟩
   · rename_i h39
     rw[if_neg h39] at h
     split
     · rename_i hk
       rw[if_pos hk] at h
       have h47:bt s a=47→kIn (bt s a)=2:=fun e=>by rw[e];decide
       have dep:∀ (i:Nat) (it:It),it.c=bt s a→(kW (bt s a)=true→1≤it.w∧it.w≤4)→(depHd s (bt s a) i it).ok=true→HeadR (depHd s (bt s a) i it):=by
        intro i it hc hw hd
        unfold depHd at hd ⊢
        split
        · rename_i h1
          rw[if_pos h1] at hd
          split
          · exact ⟨fun h=>hw (by rw[← hc];exact h),fun h=>absurd (hc.symm.trans h) h39,fun h=>h47 (hc.symm.trans h),fun h=>inB_one _ (by rw[← hc];exact h)⟩
          · rename_i h2;rw[if_neg h2] at hd;cases hd
        · exact ⟨fun h=>hw (by rw[← hc];exact h),fun h=>absurd (hc.symm.trans h) h39,fun h=>h47 (hc.symm.trans h),fun h=>inB_one _ (by rw[← hc];exact h)⟩
       split
       · rename_i hw
         rw[if_pos hw] at h
         split
         · rename_i h4
           rw[if_pos h4] at h
           exact dep _ _ rfl (fun _=>⟨by simp only;omega,by simp only;omega⟩) h
         · rename_i h4;rw[if_neg h4] at h;cases h
       · rename_i hw
         rw[if_neg hw] at h
         exact dep _ _ rfl (fun h=>absurd h hw) h
     · rename_i hk;rw[if_neg hk] at h;cases h
def TrQ:Nat→List It→Prop
 | 0,_=>False
 | f+1,l=>∃ x kids,l=x::List.flatten kids∧x.nx=1+((List.flatten kids).length:Int)∧(∀ z,z∈kids→TrQ f z)∧(x.c=47→kids.length=2)∧(inB [42,116,119,64,115] x.c=true→kids.length=1)∧ItR x
theorem TrQ.seg {f:Nat}{l:List It}(h:TrQ f l):SegOk l:=by
 cases f with
 | zero=>exact h.elim
 | succ f=>obtain ⟨x,kids,h1,h2,_⟩:=h;exact ⟨x,kids.flatten,h1,h2⟩
theorem TrQ.segs {f:Nat}(zs:List (List It))(hz:∀ z,z∈zs→TrQ f z):Proofs.YtmlkhhhjdpbhfaaGreatDoor.segs zs.flatten.length zs.flatten=zs:=segs_flat zs (fun z h=>(hz z h).seg) _ (Nat.le_refl _)
theorem loopN_trq (p:Nat→Res)(f:Nat)(hp:∀ a,(p a).ok=true→TrQ f (p a).its)(k:Nat):∀ a,(loopN p k a).ok=true→∃ kids,(loopN p k a).its=List.flatten kids∧(∀ z,z∈kids→TrQ f z)∧kids.length=k:=by
 induction k with
 | zero=>intro a _;exact ⟨[],rfl,fun z hz=>by simp at hz,rfl⟩
 | succ k ih=>
  intro a h
  rw[loopN] at h ⊢
  split
  · rename_i hok
    rw[if_pos hok] at h
    obtain ⟨kids,h1,h2,h3⟩:=ih _ h
    refine ⟨(p a).its::kids,by simp[Res.pre,h1],fun z hz=>?_,by simp[h3]⟩
    rcases List.mem_cons.1 hz with rfl | hz
    · exact hp a hok
    · exact h2 z hz
  · rename_i hok;rw[if_neg hok] at h;cases h
theorem loopB_trq (p:Nat→Res)(s:ByteArray)(f:Nat)(hp:∀ a,(p a).ok=true→TrQ f (p a).its)(k:Nat):∀ a,(loopB p s k a).ok=true→∃ kids,(loopB p s k a).its=List.flatten kids∧(∀ z,z∈kids→TrQ f z):=by
 induction k with
 | zero=>intro a h;cases h
 | succ k ih=>
  intro a h
  rw[loopB] at h ⊢
  split
  · rename_i hok
    rw[if_pos hok] at h
    split
    · exact ⟨[(p a).its],by simp,fun z hz=>by simp at hz;subst hz;exact hp a hok⟩
    · rename_i h41
      rw[if_neg h41] at h
      obtain ⟨kids,h1,h2⟩:=ih _ h
      refine ⟨(p a).its::kids,by simp[Res.pre,h1],fun z hz=>?_⟩
      rcases List.mem_cons.1 hz with rfl | hz
      · exact hp a hok
      · exact h2 z hz
  · rename_i hok;rw[if_neg hok] at h;cases h
theorem prs_trq (s:ByteArray)(rule:Int)(f:Nat):∀ a,(prs s rule f a).ok=true→TrQ f (prs s rule f a).its:=by
 induction f with
 | zero=>intro a h;cases h
 | succ f ih=>
  intro a h
  rw[prs] at h ⊢
  split
  · rename_i hok
    rw[if_pos hok] at h
    have hr:=headV_r s a hok
    have hi:=(headV_item s a hok).1
    have h':(inner (prs s rule f) s f (headV s a)).ok=true:=h
    have hin:∃ kids,(inner (prs s rule f) s f (headV s a)).its=List.flatten kids∧(∀ z,z∈kids→TrQ f z)∧((headV s a).inn=1→kids.length=1)∧((headV s a).inn=2→kids.length=2):=by
     unfold inner at h' ⊢
     split
     · rename_i hneg
       rw[if_pos hneg] at h'
       obtain ⟨kids,h1,h2⟩:=loopB_trq _ s f ih _ _ h'
       exact ⟨kids,h1,h2,fun e=>by omega,fun e=>by omega⟩
     · rename_i hneg
       rw[if_neg hneg] at h'
       obtain ⟨kids,h1,h2,h3⟩:=loopN_trq _ f ih _ _ h'
       exact ⟨kids,h1,h2,fun e=>by rw[h3,e];rfl,fun e=>by rw[h3,e];rfl⟩
    obtain ⟨kids,h1,h2,h3,h4⟩:=hin
    refine ⟨_,kids,by rw[← h1],by rw[← h1],h2,?_,?_,?_⟩
    · exact fun e=>h4 (hr.two e)
    · exact fun e=>h3 (hr.one e)
    · exact ⟨⟨hi.c,hi.r,hi.d⟩,hr.w,hr.b⟩
  · rename_i hok;rw[if_neg hok] at h;cases h
theorem rules_trq (s:ByteArray)(k:Nat):∀ top a,(rulesV s k top a).ok=true→∀ x,x∈(rulesV s k top a).rls→TrQ (s.size+1) x.its:=by
 induction k with
 | zero=>intro top a h;cases h
 | succ k ih=>
  intro top a h x
  rw[rulesV] at h ⊢
  split
  · rename_i h1;rw[if_pos h1] at h;cases h
  · rename_i h1
    rw[if_neg h1] at h
    split
    · rename_i h2;rw[if_pos h2] at h;cases h
    · rename_i h2
      rw[if_neg h2] at h
      split
      · rename_i h3;rw[if_pos h3] at h;cases h
      · rename_i h3
        rw[if_neg h3] at h
        have h3':(prs s (bt s a-65) (s.size+1) (a+2)).ok=true:=by simpa using h3
        have ht:=prs_trq s (bt s a-65) (s.size+1) (a+2) h3'
        split
        · intro hx;simp at hx;subst hx;exact ht
        · rename_i h4
          rw[if_neg h4] at h
          split
          · rename_i h5;rw[if_pos h5] at h;cases h
          · rename_i h5
            rw[if_neg h5] at h
            intro hx
            simp only[RRes.pre,List.cons_append,List.nil_append] at hx
            rcases List.mem_cons.1 hx with rfl | hx
            · exact ht
            · exact ih 72 _ h x hx
theorem twf_of (R:Nat→Bool)(X:List It→Int→Prop)(f:Nat):∀ own ctx l,TrQ f l→(∀ p,¬ lost X f own ctx l p)→(∀ x,x∈l→x.c=82→R x.r.toNat=true)→TWf R f own ctx l:=by
 induction f with
 | zero=>intro own ctx l h;exact h.elim
 | succ f ih=>
  intro own ctx l h hl hR
  obtain ⟨x,kids,rfl,hx,hk,h2,h1,hi⟩:=h
  have hs:=TrQ.segs kids hk
  have hmem:∀ z,z∈kids→∀ y,y∈z→y∈x::kids.flatten:=fun z hz y hy=>List.mem_cons_of_mem _ (List.mem_flatten.2 ⟨z,hz,hy⟩)
  have hl':=hl
  unfold TWf
  refine ⟨hi,fun hh=>?_,fun hu=>?_,hR x List.mem_cons_self,fun e=>by rw[hs];exact h2 e,fun e=>?_,fun z hz=>?_⟩
  · by_cases c40:x.c=40
    · rw[c40] at hh;cases hh
    · cases own with
      | true=>rfl
      | false=>exact absurd (by unfold lost;rw[if_neg c40];exact Or.inl ⟨by simp[hh],rfl⟩) (hl x.pl)
  · by_cases c40:x.c=40
    · rw[c40] at hu;cases hu
    · cases ctx with
      | true=>rfl
      | false=>exact absurd (by unfold lost;rw[if_neg c40];exact Or.inl ⟨by simp[hu],rfl⟩) (hl x.pl)
  · rw[hs]
    obtain ⟨z,hz⟩:=List.length_eq_one_iff.1 (h1 e)
    rw[hz];simp
  · rw[hs] at hz
    refine ih _ _ z (hk z hz) (fun p hp=>hl p ?_) (fun y hy=>hR y (hmem z hz y hy))
    unfold lost
    by_cases c40:x.c=40
    · rw[if_pos c40,hs]
      rw[c40] at hp
      exact Or.inr ⟨z,hz,by simpa using hp⟩
    · rw[if_neg c40,hs]
      exact Or.inr ⟨z,hz,by simpa[c40] using hp⟩
def rulePt (rls:List Rl)(r:Nat):List It:=match rls.find? (fun x=>x.r==(r:Int)) with | some x=>x.its | none=>[]
def ruleHas (rls:List Rl)(r:Nat):Bool:=hasR rls r
theorem ruleHas_find {rls:List Rl}{r:Nat}(h:ruleHas rls r=true):∃ i,∃ (hi:i<rls.length),rls[i].r=(r:Int)∧(∀ j,j<i→∀ (hj:j<rls.length),rls[j].r≠(r:Int))∧rulePt rls r=rls[i].its:=by
 induction rls with
 | nil=>cases h
 | cons x t ih=>
  by_cases hx:x.r=(r:Int)
  · refine ⟨0,by simp,hx,fun j hj=>by omega,?_⟩
    unfold rulePt
    rw[List.find?_cons_of_pos (by simpa using hx)]
    rfl
  · have h':ruleHas t r=true:=by unfold ruleHas hasR at h ⊢;simpa[hx] using h
    obtain ⟨i,hi,h1,h2,h3⟩:=ih h'
    refine ⟨i+1,by simp;omega,by simpa using h1,fun j hj hl=>?_,?_⟩
    · cases j with
      | zero=>exact hx
      | succ j=>simpa using h2 j (by omega) (by simp at hl;omega)
    · unfold rulePt at h3 ⊢
      rw[List.find?_cons_of_neg (by simpa using hx)]
      simpa using h3
theorem pressV_ok (s:ByteArray)(h:(pressV s).1=0):s.size≤400∧(formV s).ok=true∧(scanR (inR (formV s).rls) [] (formV s).rls).2=false∧(wrongD (s.size+1) (formV s).rls (0,false)).2=false:=by
 unfold pressV at h
 split at h
 · cases h
 · rename_i h1
   split at h
   · cases h
   · rename_i h2
     split at h
     · cases h
     · rename_i h3
       split at h
       · cases h
       · rename_i h4
         exact ⟨by omega,by simpa using h2,by simpa using h3,by simpa using h4⟩
theorem IsMin.none {S:Int→Prop}{q:Int × Bool}(h:IsMin S q)(h2:q.2=false):∀ p,¬ S p:=by
 rcases h with ⟨_,h⟩ | ⟨h,_⟩
 · exact h
 · rw[h2] at h;cases h
theorem rules_wf2 (s:ByteArray)(h:(pressV s).1=0):∀ x,x∈(formV s).rls→TrW (ruleHas (formV s).rls) false false x.its:=by
 obtain ⟨hs,hok,hsc,hwr⟩:=pressV_ok s h
 intro x hx
 have ho:OrdR 0 (formV s).rls:=(rules_ord s 8 65 0 (by omega) hok).1
 have h0:IsMin (fun _=>False) ((0:Int),false):=Or.inl ⟨rfl,fun p h=>h⟩
 have n1:=IsMin.none (wrong_min (s.size+1) (formV s).rls _ _ h0) hwr
 have n2:=IsMin.none (scan_min (inR (formV s).rls) (formV s).rls [] 0 ho) hsc
 refine ⟨s.size+1,twf_of _ PB _ _ _ _ (rules_trq s 8 65 0 hok x hx) (fun p hp=>n1 p (Or.inr ⟨x,hx,hp⟩)) (fun y hy hc=>?_)⟩
 have:=n2 y.pl
 cases hR:ruleHas (formV s).rls y.r.toNat with
 | true=>rfl
 | false=>
  exact absurd (Or.inr ⟨y,List.mem_flatMap.2 ⟨x,hx,hy⟩,by unfold missB;unfold ruleHas at hR;unfold inR;rw[hR,hc];rfl,rfl⟩) this
theorem form_first (s:ByteArray)(h:(formV s).ok=true):ruleHas (formV s).rls 0=true:=by
 unfold formV at h ⊢
 rw[rulesV] at h ⊢
 split
 · rename_i h1;rw[if_pos h1] at h;cases h
 · rename_i h1
   rw[if_neg h1] at h
   split
   · rename_i h2;rw[if_pos h2] at h;cases h
   · rename_i h2
     rw[if_neg h2] at h
     split
     · rename_i h3;rw[if_pos h3] at h;cases h
     · rename_i h3
       rw[if_neg h3] at h
       have h65:bt s 0-65=0:=by
        have:¬ ¬ (65≤bt s 0∧bt s 0≤65):=h1
        omega
       split
       · unfold ruleHas hasR;simp[h65]
       · rename_i h4
         rw[if_neg h4] at h
         split
         · rename_i h5;rw[if_pos h5] at h;cases h
         · unfold ruleHas hasR RRes.pre;simp[h65]
theorem rule_wf (s:ByteArray)(h:(pressV s).1=0)(r:Nat)(hr:ruleHas (formV s).rls r=true):TrW (ruleHas (formV s).rls) false false (rulePt (formV s).rls r):=by
 obtain ⟨i,hi,_,_,e⟩:=ruleHas_find hr
 rw[e]
 exact rules_wf2 s h _ (List.getElem_mem hi)
theorem set_same {w:World}{b:Nat}{v:Value}{t:TypeId}(h:Blk w b #[v] t):w.setCell ⟨b,0,none⟩ v=w:=by
 rw[setCell_eq_setRow w b 0 #[v] t (0,0) v h]
 exact setRow_self w b #[v] t (0,0) h
set_option maxRecDepth 100000 in
set_option maxHeartbeats 1000000 in
theorem pparse_calls (w:World)(gb:Nat)(bs:ByteArray)(fuel N:Nat)(o:PO)(_hgb:gb<w.heap.size)(hF:∀ w',Below w.heap.size w w'→FmtC w')(ht:o.ok=true→o.t.length≤1000000000)(hcall:∀ W,Below w.heap.size w W→Calls Tryz.prog 41 #[.pointer (some ⟨gb,0,none⟩),.string bs,.int .i64 fuel,.int .i64 N] W fun e w'=>ParsePost W o e w')(hee:o.e≠0→(endT o)=([],o.e,0))(hok:(endT o).2.1=0→o.ok=true):
 Calls Tryz.prog 27 #[.pointer (some ⟨gb,0,none⟩),.string bs,.int .i64 fuel,.int .i64 N] w fun e w'=>e=.returned (.tuple #[.string ⟨(endT o).1.toArray⟩,.int .i64 ((endT o).2.1:Int),.int .i64 ((endT o).2.2:Int)])∧Below w.heap.size w w':=by
 have hmf:∀ (fn:Fn) (first cap:Array Value) (w:World),(Instr.makeFunc fn first cap).run Tryz.prog w=.ok (.func fn first cap) w:=fun _ _ _ _=>rfl
 have HF:=hide' hF
 have HT:=hide' ht
 have HCall:=hide' hcall
 have HE:=hide' hee
 have HK:=hide' hok
 clear hF ht hcall hee hok
 go_enter_defers Tryz.func27,Tryz.ntmps27
 go_wp2_with fail
 have hS:Blk (((w.alloc (.cells #[.string ⟨#[]⟩] 9)).alloc (.cells #[.int .i64 0] 27)).alloc (.cells #[.int .i64 0] 3)) w.heap.size #[.string ⟨#[]⟩] 9:=Blk.alloc (Blk.alloc (Blk.new w _ _) _) _
 have hE:Blk (((w.alloc (.cells #[.string ⟨#[]⟩] 9)).alloc (.cells #[.int .i64 0] 27)).alloc (.cells #[.int .i64 0] 3)) (w.heap.size+1) #[.int .i64 0] 27:=by
  have:=Blk.new (w.alloc (.cells #[.string ⟨#[]⟩] 9)) #[.int .i64 0] 27
  rw[show (w.alloc (.cells #[.string ⟨#[]⟩] 9)).heap.size=w.heap.size+1 by simp] at this
  exact Blk.alloc this _
 have hP:Blk (((w.alloc (.cells #[.string ⟨#[]⟩] 9)).alloc (.cells #[.int .i64 0] 27)).alloc (.cells #[.int .i64 0] 3)) (w.heap.size+1+1) #[.int .i64 0] 3:=by
  have:=Blk.new ((w.alloc (.cells #[.string ⟨#[]⟩] 9)).alloc (.cells #[.int .i64 0] 27)) #[.int .i64 0] 3
  rw[show ((w.alloc (.cells #[.string ⟨#[]⟩] 9)).alloc (.cells #[.int .i64 0] 27)).heap.size=w.heap.size+1+1 by simp] at this
  exact this
 have hB0:Below w.heap.size w (((w.alloc (.cells #[.string ⟨#[]⟩] 9)).alloc (.cells #[.int .i64 0] 27)).alloc (.cells #[.int .i64 0] 3)):=(((Below.refl _ _).alloc (Nat.le_refl _) _).alloc (by simp) _).alloc (by simp;omega) _
 have hs0:(((w.alloc (.cells #[.string ⟨#[]⟩] 9)).alloc (.cells #[.int .i64 0] 27)).alloc (.cells #[.int .i64 0] 3)).heap.size=w.heap.size+1+1+1:=by simp
 generalize ((w.alloc (.cells #[.string ⟨#[]⟩] 9)).alloc (.cells #[.int .i64 0] 27)).alloc (.cells #[.int .i64 0] 3)=W0 at *
 refine (HCall.out W0 hB0).mono ?_
 rintro e w2 ⟨hb2,⟨hoe,rfl⟩ | ⟨hoe,v,rfl,hyes,hno⟩⟩
 · have hbw:Below w.heap.size w w2:=hB0.trans (hb2.mono (by omega))
   have H1:=hS.below hb2 (by omega)
   have H2:=hE.below hb2 (by omega)
   have H3:=hP.below hb2 (by omega)
   have HEE:=HE.out hoe
   go_wp2_with fail
   refine leaves_cons (f:=40) (args:=#[.pointer (some ⟨w.heap.size,0,none⟩),.pointer (some ⟨w.heap.size+1,0,none⟩),.pointer (some ⟨w.heap.size+1+1,0,none⟩)]) (by simp) (by simp[go_sem]) ?_
   refine (rec_out w.heap.size (w.heap.size+1) (w.heap.size+1+1) o.e w2 ⟨#[]⟩ 0 0 H1 H2 H3 (by omega) (by omega)).mono ?_
   rintro e u' w3 ⟨rfl,rfl,k1,k2,k3,k4⟩
   have r1:w3.cell? ⟨w.heap.size,0,none⟩=some (.string ⟨#[]⟩):=k1.cell 0
   have r2:w3.cell? ⟨w.heap.size+1,0,none⟩=some (.int .i64 o.e):=k2.cell 0
   have r3:w3.cell? ⟨w.heap.size+1+1,0,none⟩=some (.int .i64 0):=k3.cell 0
   have hb3:Below w.heap.size w w3:=hbw.trans k4
   rw[HEE]
   simp[Leaves,settle,results,Tryz.results27,go_sem,r1,r2,r3,hb3]
 · have hbw:Below w.heap.size w w2:=hB0.trans (hb2.mono (by omega))
   have H1:=hide' (hS.below hb2 (by omega))
   have H2:=hide' (hE.below hb2 (by omega))
   have H3:=hide' (hP.below hb2 (by omega))
   have hs2:=hb2.size
   have c1:w2.cell? ⟨w.heap.size,0,none⟩=some (.string ⟨#[]⟩):=H1.out.cell 0
   have c2:w2.cell? ⟨w.heap.size+1,0,none⟩=some (.int .i64 0):=H2.out.cell 0
   have c3:w2.cell? ⟨w.heap.size+1+1,0,none⟩=some (.int .i64 0):=H3.out.cell 0
   have f1:w2.frozen? ⟨w.heap.size,0,none⟩=false:=H1.out.frozen 0
   have f2:w2.frozen? ⟨w.heap.size+1,0,none⟩=false:=H2.out.frozen 0
   have f3:w2.frozen? ⟨w.heap.size+1+1,0,none⟩=false:=H3.out.frozen 0
   have HBw:=hide' hbw
   have HY:=hide' hyes
   clear hyes hno hS hE hP hB0 hb2 hbw
   by_cases hz:(endT o).2.1=0
   · have he2:endT o=(o.t,0,0):=by
      unfold endT at hz ⊢
      rw[if_neg (fun h=>h hoe)] at hz ⊢
      split at hz
      · simp at hz
      · rw[if_neg (by assumption)]
        split at hz
        · simp at hz
        · rfl
     obtain ⟨_,vb,fv,lo,hi,sb,hv,hrep,hhi⟩:=HY.out hz
     subst hv
     have HE2:=hide' he2
     rw[he2]
     have hsame1:w2.setCell ⟨w.heap.size+1,0,none⟩ (.int .i64 0)=w2:=set_same H2.out
     have hsame2:w2.setCell ⟨w.heap.size+1+1,0,none⟩ (.int .i64 0)=w2:=set_same H3.out
     have HTx:=hide' (text_calls w2 fv lo hi vb sb o.t hrep hhi (fun w' hb=>HF.out w' (HBw.out.trans (hb.mono (by omega)))) (HT.out (HK.out hz)))
     clear hz he2 hrep HY
     simp only
     go_wp2_with fail
     refine HTx.out.mono ?_
     rintro e w5 ⟨rfl,hb5⟩
     have hs5:=hb5.size
     have K1:=hide' (H1.out.below hb5 (by omega))
     have K2:=hide' (H2.out.below hb5 (by omega))
     have K3:=hide' (H3.out.below hb5 (by omega))
     have K4:=hide' (HBw.out.trans (hb5.mono (by omega)))
     clear c1 c2 c3 f1 f2 f3 hsame1 hsame2
     have c1:w5.cell? ⟨w.heap.size,0,none⟩=some (.string ⟨#[]⟩):=K1.out.cell 0
     have c2:w5.cell? ⟨w.heap.size+1,0,none⟩=some (.int .i64 0):=K2.out.cell 0
     have c3:w5.cell? ⟨w.heap.size+1+1,0,none⟩=some (.int .i64 0):=K3.out.cell 0
     have f1:w5.frozen? ⟨w.heap.size,0,none⟩=false:=K1.out.frozen 0
     have f2:w5.frozen? ⟨w.heap.size+1,0,none⟩=false:=K2.out.frozen 0
     have f3:w5.frozen? ⟨w.heap.size+1+1,0,none⟩=false:=K3.out.frozen 0
     have HB6:Hid (Below w.heap.size w (((w5.setCell ⟨w.heap.size,0,none⟩ (.string ⟨o.t.toArray⟩)).setCell ⟨w.heap.size+1,0,none⟩ (.int .i64 0)).setCell ⟨w.heap.size+1+1,0,none⟩ (.int .i64 0))):=((K4.out.setCell (p:=⟨w.heap.size,0,none⟩) (Nat.le_refl _) _).setCell (p:=⟨w.heap.size+1,0,none⟩) (by simp only;omega) _).setCell (p:=⟨w.heap.size+1+1,0,none⟩) (by simp only;omega) _
     have HS1:Hid (Blk (((w5.setCell ⟨w.heap.size,0,none⟩ (.string ⟨o.t.toArray⟩)).setCell ⟨w.heap.size+1,0,none⟩ (.int .i64 0)).setCell ⟨w.heap.size+1+1,0,none⟩ (.int .i64 0)) w.heap.size #[.string ⟨o.t.toArray⟩] 9):=((K1.out.set 0 _).setOther ⟨w.heap.size+1,0,none⟩ (by simp only;omega) _).setOther ⟨w.heap.size+1+1,0,none⟩ (by simp only;omega) _
     have HS2:Hid (Blk (((w5.setCell ⟨w.heap.size,0,none⟩ (.string ⟨o.t.toArray⟩)).setCell ⟨w.heap.size+1,0,none⟩ (.int .i64 0)).setCell ⟨w.heap.size+1+1,0,none⟩ (.int .i64 0)) (w.heap.size+1) #[.int .i64 0] 27):=((K2.out.setOther ⟨w.heap.size,0,none⟩ (by simp only;omega) _).set 0 _).setOther ⟨w.heap.size+1+1,0,none⟩ (by simp only;omega) _
     have HS3:Hid (Blk (((w5.setCell ⟨w.heap.size,0,none⟩ (.string ⟨o.t.toArray⟩)).setCell ⟨w.heap.size+1,0,none⟩ (.int .i64 0)).setCell ⟨w.heap.size+1+1,0,none⟩ (.int .i64 0)) (w.heap.size+1+1) #[.int .i64 0] 3):=((K3.out.setOther ⟨w.heap.size,0,none⟩ (by simp only;omega) _).setOther ⟨w.heap.size+1,0,none⟩ (by simp only;omega) _).set 0 _
     go_wp2_with fail
     refine leaves_cons (f:=40) (args:=#[.pointer (some ⟨w.heap.size,0,none⟩),.pointer (some ⟨w.heap.size+1,0,none⟩),.pointer (some ⟨w.heap.size+1+1,0,none⟩)]) (by simp) (by simp[go_sem]) ?_
     refine (rec_idle _ _ _ _).mono ?_
     rintro e u' w7 ⟨rfl,rfl,rfl⟩
     rw[HE2.out]
     have r1:=HS1.out.cell 0
     have r2:=HS2.out.cell 0
     have r3:=HS3.out.cell 0
     have hb6:=HB6.out
     generalize ((w5.setCell ⟨w.heap.size,0,none⟩ (.string ⟨o.t.toArray⟩)).setCell ⟨w.heap.size+1,0,none⟩ (.int .i64 0)).setCell ⟨w.heap.size+1+1,0,none⟩ (.int .i64 0)=W7 at *
     simp only[List.getElem?_toArray,List.getElem?_cons_zero] at r1 r2 r3
     simp[Leaves,settle,results,Tryz.results27,go_sem,r1,r2,r3,hb6]
   · have hz':¬ ((endT o).2.1:Int)=0:=by omega
     have HZ:Hid ((endT o).1=[]):=by
      have:(endT o).1=[]:=by
       unfold endT at hz ⊢
       split at hz
       · rw[if_pos (by assumption)]
       · rw[if_neg (by assumption)]
         split at hz
         · rw[if_pos (by assumption)]
         · rw[if_neg (by assumption)]
           split at hz
           · rfl
           · simp at hz
      exact this
     obtain ⟨e1,he1⟩:∃ e1,(endT o).2.1=e1:=⟨_,rfl⟩
     obtain ⟨e2,he2⟩:∃ e2,(endT o).2.2=e2:=⟨_,rfl⟩
     rw[he1] at hz'
     rw[he1,he2]
     have HE1:=hide' he1
     have HE2:=hide' he2
     clear hz he1 he2
     go_wp2_with fail
     have k1:=(H1.out.setOther ⟨w.heap.size+1,0,none⟩ (by simp only;omega) (.int .i64 e1)).setOther ⟨w.heap.size+1+1,0,none⟩ (by simp only;omega) (.int .i64 e2)
     have k2:=(H2.out.set 0 (.int .i64 e1)).setOther ⟨w.heap.size+1+1,0,none⟩ (by simp only;omega) (.int .i64 e2)
     have k3:=(H3.out.setOther ⟨w.heap.size+1,0,none⟩ (by simp only;omega) (.int .i64 e1)).set 0 (.int .i64 e2)
     have k4:=(HBw.out.setCell (p:=⟨w.heap.size+1,0,none⟩) (by simp only;omega) (.int .i64 e1)).setCell (p:=⟨w.heap.size+1+1,0,none⟩) (by simp only;omega) (.int .i64 e2)
     have K1:Hid (Blk ((w2.setCell ⟨w.heap.size+1,0,none⟩ (.int .i64 e1)).setCell ⟨w.heap.size+1+1,0,none⟩ (.int .i64 e2)) w.heap.size #[.string ⟨#[]⟩] 9):=k1
     have K2:Hid (Blk ((w2.setCell ⟨w.heap.size+1,0,none⟩ (.int .i64 e1)).setCell ⟨w.heap.size+1+1,0,none⟩ (.int .i64 e2)) (w.heap.size+1) #[.int .i64 e1] 27):=k2
     have K3:Hid (Blk ((w2.setCell ⟨w.heap.size+1,0,none⟩ (.int .i64 e1)).setCell ⟨w.heap.size+1+1,0,none⟩ (.int .i64 e2)) (w.heap.size+1+1) #[.int .i64 e2] 3):=k3
     have K4:=hide' k4
     clear k1 k2 k3 k4 c1 c2 c3 f1 f2 f3
     generalize (w2.setCell ⟨w.heap.size+1,0,none⟩ (.int .i64 e1)).setCell ⟨w.heap.size+1+1,0,none⟩ (.int .i64 e2)=W3 at *
     have c1:W3.cell? ⟨w.heap.size,0,none⟩=some (.string ⟨#[]⟩):=K1.out.cell 0
     have c2:W3.cell? ⟨w.heap.size+1,0,none⟩=some (.int .i64 e1):=K2.out.cell 0
     have c3:W3.cell? ⟨w.heap.size+1+1,0,none⟩=some (.int .i64 e2):=K3.out.cell 0
     have f1:W3.frozen? ⟨w.heap.size,0,none⟩=false:=K1.out.frozen 0
     have f2:W3.frozen? ⟨w.heap.size+1,0,none⟩=false:=K2.out.frozen 0
     have f3:W3.frozen? ⟨w.heap.size+1+1,0,none⟩=false:=K3.out.frozen 0
     have n12:¬ w.heap.size+1=w.heap.size:=by omega
     have HB6:Hid (Below w.heap.size w (((W3.setCell ⟨w.heap.size,0,none⟩ (.string ⟨#[]⟩)).setCell ⟨w.heap.size+1,0,none⟩ (.int .i64 e1)).setCell ⟨w.heap.size+1+1,0,none⟩ (.int .i64 e2)).drew):=(((K4.out.setCell (p:=⟨w.heap.size,0,none⟩) (Nat.le_refl _) _).setCell (p:=⟨w.heap.size+1,0,none⟩) (by simp only;omega) _).setCell (p:=⟨w.heap.size+1+1,0,none⟩) (by simp only;omega) _).drew
     have HS1:Hid (Blk (((W3.setCell ⟨w.heap.size,0,none⟩ (.string ⟨#[]⟩)).setCell ⟨w.heap.size+1,0,none⟩ (.int .i64 e1)).setCell ⟨w.heap.size+1+1,0,none⟩ (.int .i64 e2)).drew w.heap.size #[.string ⟨#[]⟩] 9):=((K1.out.set 0 (.string ⟨#[]⟩)).setOther ⟨w.heap.size+1,0,none⟩ (by simp only;omega) _).setOther ⟨w.heap.size+1+1,0,none⟩ (by simp only;omega) _
     have HS2:Hid (Blk (((W3.setCell ⟨w.heap.size,0,none⟩ (.string ⟨#[]⟩)).setCell ⟨w.heap.size+1,0,none⟩ (.int .i64 e1)).setCell ⟨w.heap.size+1+1,0,none⟩ (.int .i64 e2)).drew (w.heap.size+1) #[.int .i64 e1] 27):=((K2.out.setOther ⟨w.heap.size,0,none⟩ (by simp only;omega) _).set 0 _).setOther ⟨w.heap.size+1+1,0,none⟩ (by simp only;omega) _
     have HS3:Hid (Blk (((W3.setCell ⟨w.heap.size,0,none⟩ (.string ⟨#[]⟩)).setCell ⟨w.heap.size+1,0,none⟩ (.int .i64 e1)).setCell ⟨w.heap.size+1+1,0,none⟩ (.int .i64 e2)).drew (w.heap.size+1+1) #[.int .i64 e2] 3):=((K3.out.setOther ⟨w.heap.size,0,none⟩ (by simp only;omega) _).setOther ⟨w.heap.size+1,0,none⟩ (by simp only;omega) _).set 0 _
     go_region
     go_wp2_with fail
     refine leaves_cons (f:=40) (args:=#[.pointer (some ⟨w.heap.size,0,none⟩),.pointer (some ⟨w.heap.size+1,0,none⟩),.pointer (some ⟨w.heap.size+1+1,0,none⟩)]) (by simp) (by simp[go_sem]) ?_
     refine (rec_idle _ _ _ _).mono ?_
     rintro e u' w7 ⟨rfl,rfl,rfl⟩
     rw[HE1.out,HE2.out,HZ.out]
     have r1:=HS1.out.cell 0
     have r2:=HS2.out.cell 0
     have r3:=HS3.out.cell 0
     have hb6:=HB6.out
     generalize (((W3.setCell ⟨w.heap.size,0,none⟩ (.string ⟨#[]⟩)).setCell ⟨w.heap.size+1,0,none⟩ (.int .i64 e1)).setCell ⟨w.heap.size+1+1,0,none⟩ (.int .i64 e2)).drew=W7 at *
     simp only[List.getElem?_toArray,List.getElem?_cons_zero] at r1 r2 r3
     simp[Leaves,settle,results,Tryz.results27,go_sem,r1,r2,r3,hb6]
end Go.Proofs.YtmlkhhhjdpbhfaaGreatDoor

import Derived.Test.YtmlkhhhjdpbhfaaGreatDoorFo38
import Derived.Test.YtmlkhhhjdpbhfaaGreatDoorFo28
namespace Go.Proofs.YtmlkhhhjdpbhfaaGreatDoor
open Go.RowKit
theorem foldl_keep {α β:Type}(P:β→Prop)(g:β→α→β)(h:∀ b a,P b→P (g b a)):∀ (l:List α) (b:β),P b→P (l.foldl g b)
 | [],_,hb=>hb
 | a::l,b,hb=>foldl_keep P g h l (g b a) (h b a hb)
theorem bwV_flag (st:Int × Bool)(d:Int):(bwV st d).2=true:=by
 unfold bwV
 by_cases h:st.2=true
 · by_cases h2:d<st.1<;>simp[h,h2]
 · simp[h]
theorem endV_keep (sc:Sc)(st:Int × Bool)(h:st.2=true):(endV sc st).2=true:=by
 unfold endV
 refine foldl_keep (fun z:Int × Bool=>z.2=true) _ (fun b a hb=>?_) _ _ h
 unfold endStep
 split
 · split
   · exact hb
   · exact bwV_flag _ _
 · exact hb
theorem stepV_keep (own ar:Bool)(x:It)(q:Sc × (Int × Bool))(h:q.2.2=true):(stepV own ar x q).2.2=true:=by
 unfold stepV hideV useV
 split
 · split
   · exact h
   · exact bwV_flag _ _
 split
 · split
   · exact h
   · exact bwV_flag _ _
 · exact h
theorem walkV_keep:∀ (f:Nat) (own ar:Bool) (k:List It) (q:Sc × (Int × Bool)),q.2.2=true→(walkV f own ar k q).2.2=true
 | 0,_,_,_,_,h=>h
 | _+1,_,_,[],_,h=>h
 | f+1,own,ar,x::r,q,h=>by
  unfold walkV
  split
  · exact endV_keep _ _ (foldl_keep (fun z:Sc × (Int × Bool)=>z.2.2=true) _ (fun b a hb=>walkV_keep f _ _ a b hb) _ _ h)
  · exact foldl_keep (fun z:Sc × (Int × Bool)=>z.2.2=true) _ (fun b a hb=>walkV_keep f _ _ a b hb) _ _ (stepV_keep own ar x q h)
def foldW (f:Nat)(own ar:Bool)(ks:List (List It))(q:Sc × (Int × Bool)):Sc × (Int × Bool):=ks.foldl (fun z s=>walkV f own ar s z) q
theorem foldW_cons (f:Nat)(own ar:Bool)(k:List It)(ks:List (List It))(q:Sc × (Int × Bool)):foldW f own ar (k::ks) q=foldW f own ar ks (walkV f own ar k q):=rfl
theorem foldW_keep (f:Nat)(own ar:Bool)(ks:List (List It))(q:Sc × (Int × Bool))(h:q.2.2=true):(foldW f own ar ks q).2.2=true:=
 foldl_keep (fun z:Sc × (Int × Bool)=>z.2.2=true) _ (fun b a hb=>walkV_keep f _ _ a b hb) _ _ h
theorem foldW_ok {f:Nat}{own ar:Bool}{ks:List (List It)}{q:Sc × (Int × Bool)}(h:(foldW f own ar ks q).2.2=false):q.2.2=false:=by
 cases e:q.2.2 with
 | false=>rfl
 | true=>rw[foldW_keep f own ar ks q e] at h;exact h
theorem walkV_struct' (f:Nat)(own ar:Bool)(x:It)(r:List It)(q:Sc × (Int × Bool))(hc:x.c=40):
 walkV (f+1) own ar (x::r) q=(q.1,endV (foldW f true true (segs r.length r) (Sc0,q.2)).1 (foldW f true true (segs r.length r) (Sc0,q.2)).2):=by
 rw[walkV,if_pos hc];rfl
theorem walkV_else (f:Nat)(own ar:Bool)(x:It)(r:List It)(q:Sc × (Int × Bool))(hc:x.c≠40):
 walkV (f+1) own ar (x::r) q=foldW f false (ar&&inB [119,64,115] x.c) (segs r.length r) (stepV own ar x q):=by
 rw[walkV,if_neg hc];rfl
theorem stepV_hid {own ar:Bool}{x:It}{q:Sc × (Int × Bool)}(hh:hidesB x.c=false):(stepV own ar x q).1.hid=q.1.hid:=by
 unfold stepV useV
 rw[if_neg (by simp[hh])]
 split
 · split<;>rfl
 · rfl
theorem walkV_hid:∀ (f:Nat) (own ar:Bool) (k:List It) (q:Sc × (Int × Bool)),(walkV f own ar k q).2.2=false→(own=true→∀ x r,k=x::r→hidesB x.c=false)→(walkV f own ar k q).1.hid=q.1.hid
 | 0,_,_,_,_,_,_=>rfl
 | _+1,_,_,[],_,_,_=>rfl
 | f+1,own,ar,x::r,q,h,hn=>by
  by_cases hc:x.c=40
  · rw[walkV_struct' f own ar x r q hc]
  · rw[walkV_else f own ar x r q hc] at h ⊢
    have hf:∀ (ks:List (List It)) (z:Sc × (Int × Bool)),(foldW f false (ar&&inB [119,64,115] x.c) ks z).2.2=false→(foldW f false (ar&&inB [119,64,115] x.c) ks z).1.hid=z.1.hid:=by
     intro ks
     induction ks with
     | nil=>intro z _;rfl
     | cons k ks ih=>
      intro z hz
      rw[foldW_cons] at hz ⊢
      rw[ih _ hz]
      exact walkV_hid f false _ k z (foldW_ok hz) (fun e=>by cases e)
    rw[hf _ _ h]
    have h0:=foldW_ok h
    cases hh:hidesB x.c with
    | false=>exact stepV_hid hh
    | true=>
     cases own with
     | true=>rw[hn rfl x r rfl] at hh;cases hh
     | false=>
      unfold stepV hideV at h0
      rw[if_pos hh] at h0
      simp[bwV_flag] at h0
theorem foldW_hid {f:Nat}{ar:Bool}:∀ (ks:List (List It)) (z:Sc × (Int × Bool)),(foldW f false ar ks z).2.2=false→(foldW f false ar ks z).1.hid=z.1.hid
 | [],_,_=>rfl
 | k::ks,z,hz=>by
  rw[foldW_cons] at hz ⊢
  rw[foldW_hid ks _ hz]
  exact walkV_hid f false ar k z (foldW_ok hz) (fun e=>by cases e)
theorem walkV_sets {f:Nat}{ar:Bool}{x:It}{r:List It}{q:Sc × (Int × Bool)}(hh:hidesB x.c=true)(h:(walkV (f+1) true ar (x::r) q).2.2=false):
 (walkV (f+1) true ar (x::r) q).1.hid=fun k=>if k=x.d.toNat then some x.pl else q.1.hid k:=by
 have hc:x.c≠40:=fun e=>by rw[e] at hh;revert hh;decide
 rw[walkV_else f true ar x r q hc] at h ⊢
 rw[foldW_hid _ _ h]
 have h0:=foldW_ok h
 unfold stepV hideV at h0 ⊢
 rw[if_pos hh] at h0 ⊢
 split
 · rfl
 · rename_i h1
   rw[if_neg h1] at h0
   simp[bwV_flag] at h0
theorem walkV_use {f:Nat}{own ar:Bool}{x:It}{r:List It}{q:Sc × (Int × Bool)}(hu:usesB x.c=true)(h:(walkV (f+1) own ar (x::r) q).2.2=false):ar=true∧q.1.hid x.d.toNat≠none:=by
 have hh:hidesB x.c=false:=by
  cases hh:hidesB x.c with
  | false=>rfl
  | true=>
   simp only[hidesB,Bool.or_eq_true,beq_iff_eq] at hh
   rcases hh with e | e<;>(rw[e] at hu;exact absurd hu (by decide))
 have hc:x.c≠40:=fun e=>by rw[e] at hu;exact absurd hu (by decide)
 rw[walkV_else f own ar x r q hc] at h
 have h0:=foldW_ok h
 unfold stepV useV at h0
 rw[if_neg (by simp[hh]),if_pos hu] at h0
 split at h0
 · rename_i h1
   simp only[Bool.and_eq_true,Bool.not_eq_true',Option.isNone_eq_false_iff] at h1
   exact ⟨h1.1.1,fun e=>by rw[e] at h1;exact absurd h1.1.2 (by simp)⟩
 · simp[bwV_flag] at h0
def ScG (own ar:Bool)(k:List It)(sc:Sc):Prop:=∃ F z,k.length≤F∧(walkV F own ar k (sc,z)).2.2=false
def HolAt (st:Wr)(hid:Option Nat)(sc:Sc):Prop:=∀ d,sc.hid d≠none→∃ i f ho,hid=some i∧st.hol[i]? = some f∧f d=some ho
theorem HolAt.up {N g:Nat}{st st':Wr}{hid:Option Nat}{sc sc':Sc}(h:HolAt st hid sc)(hu:WUp N g st st')(he:sc'.hid=sc.hid):HolAt st' hid sc':=fun d hd=>by
 rw[he] at hd
 obtain ⟨i,f,ho,a,b,c⟩:=h d hd
 obtain ⟨f',ho',b',c'⟩:=hu.set i f d ho b c
 exact ⟨i,f',ho',a,b',c'⟩
theorem HolAt.hole {st:Wr}{hid:Option Nat}{sc:Sc}(h:HolAt st hid sc){d:Nat}(hd:sc.hid d≠none):∃ i f,hid=some i∧st.hol[i]? = some f∧f d=some (holeOf st hid d):=by
 obtain ⟨i,f,ho,rfl,b,c⟩:=h d hd
 refine ⟨i,f,rfl,b,?_⟩
 rw[c]
 simp[holeOf,List.getD_eq_getElem?_getD,b,c]
theorem ScG.use {own ar:Bool}{x:It}{r:List It}{sc:Sc}(h:ScG own ar (x::r) sc)(hu:usesB x.c=true):ar=true∧sc.hid x.d.toNat≠none:=by
 obtain ⟨F,z,hl,hw⟩:=h
 cases F with
 | zero=>simp at hl
 | succ f=>exact walkV_use hu hw
theorem foldW_one {f:Nat}{own ar:Bool}{k:List It}{q:Sc × (Int × Bool)}:foldW f own ar [k] q=walkV f own ar k q:=rfl
theorem ScG.inner {own ar:Bool}{x:It}{r:List It}{sc:Sc}(h:ScG own ar (x::r) sc)(hi:inB [119,64,115] x.c=true)(hs:segs r.length r=[r]):∃ sc',sc'.hid=sc.hid∧ScG false true r sc':=by
 obtain ⟨F,z,hl,hw⟩:=h
 cases F with
 | zero=>simp at hl
 | succ f=>
  have hu:usesB x.c=true:=by
   simp only[inB,List.any_cons,List.any_nil,Bool.or_false,Bool.or_eq_true,beq_iff_eq] at hi
   rcases hi with e | e | e<;>(rw[← e];decide)
  have hh:hidesB x.c=false:=by
   simp only[inB,List.any_cons,List.any_nil,Bool.or_false,Bool.or_eq_true,beq_iff_eq] at hi
   rcases hi with e | e | e<;>(rw[← e];decide)
  have hc:x.c≠40:=fun e=>by rw[e] at hu;exact absurd hu (by decide)
  have har:=(walkV_use hu hw).1
  rw[walkV_else f own ar x r _ hc,hs,foldW_one,hi,har] at hw
  refine ⟨(stepV own ar x (sc,z)).1,stepV_hid hh,f,(stepV own ar x (sc,z)).2,by simp at hl;omega,?_⟩
  rw[har]
  exact hw
theorem foldW_take {f:Nat}{own ar:Bool}:∀ (ks:List (List It)) (q:Sc × (Int × Bool)),(foldW f own ar ks q).2.2=false→∀ i (hi:i<ks.length),(walkV f own ar ks[i] (foldW f own ar (ks.take i) q)).2.2=false∧foldW f own ar (ks.take (i+1)) q=walkV f own ar ks[i] (foldW f own ar (ks.take i) q)
 | [],_,_,i,hi=>by simp at hi
 | k::ks,q,h,0,_=>⟨foldW_ok (ks:=ks) h,by simp[foldW]⟩
 | k::ks,q,h,i+1,hi=>by
  have:=foldW_take ks (walkV f own ar k q) h i (by simpa using hi)
  simpa[foldW] using this
theorem ScG.other {own ar:Bool}{x:It}{r:List It}{sc:Sc}(h:ScG own ar (x::r) sc)(hc:x.c≠40)(hi:inB [119,64,115] x.c=false):∀ k∈segs r.length r,∃ sc',ScG false false k sc':=by
 intro k hk
 obtain ⟨F,z,hl,hw⟩:=h
 cases F with
 | zero=>simp at hl
 | succ f=>
  rw[walkV_else f own ar x r _ hc,hi,Bool.and_false] at hw
  obtain ⟨i,hlt,rfl⟩:=List.getElem_of_mem hk
  have:=(foldW_take _ _ hw i hlt).1
  have hl2:=(segs_subl _ _ _ hk).length_le
  exact ⟨_,f,_,by simp at hl;omega,this⟩
def ScKs:List (List It)→Sc→Prop
 | [],_=>True
 | k::ks,sc=>ScG true true k sc∧∃ sc',((∀ y t,k=y::t→hidesB y.c=false)→sc'.hid=sc.hid)∧(∀ y t,k=y::t→hidesB y.c=true→sc'.hid=fun d=>if d=y.d.toNat then some y.pl else sc.hid d)∧ScKs ks sc'
theorem ScKs.of {f:Nat}:∀ (ks:List (List It)) (sc:Sc) (z:Int × Bool),(∀ k∈ks,k.length≤f)→(foldW f true true ks (sc,z)).2.2=false→ScKs ks sc
 | [],_,_,_,_=>trivial
 | k::ks,sc,z,hl,h=>by
  rw[foldW_cons] at h
  have a:=foldW_ok h
  have hk:=hl k List.mem_cons_self
  refine ⟨⟨f,z,hk,a⟩,(walkV f true true k (sc,z)).1,fun hn=>walkV_hid f true true k _ a (fun _=>hn),fun y t e hh=>?_,ScKs.of ks _ (walkV f true true k (sc,z)).2 (fun k h=>hl k (List.mem_cons_of_mem _ h)) h⟩
  subst e
  cases f with
  | zero=>simp at hk
  | succ f=>exact walkV_sets hh a
theorem ScG.kids {own ar:Bool}{x:It}{r:List It}{sc:Sc}(h:ScG own ar (x::r) sc)(hc:x.c=40):ScKs (segs r.length r) Sc0:=by
 obtain ⟨F,z,hl,hw⟩:=h
 cases F with
 | zero=>simp at hl
 | succ f=>
  rw[walkV_struct' f own ar x r _ hc] at hw
  have hw2:(foldW f true true (segs r.length r) (Sc0,z)).2.2=false:=by
   cases e:(foldW f true true (segs r.length r) (Sc0,z)).2.2 with
   | false=>rfl
   | true=>have:=endV_keep (foldW f true true (segs r.length r) (Sc0,z)).1 _ e;rw[this] at hw;exact hw
  exact ScKs.of _ _ z (fun k hk=>by have:=(segs_subl _ _ _ hk).length_le;simp at hl;omega) hw2
theorem wrongD_rule {F:Nat}:∀ (rls:List Rl) (st:Int × Bool),(wrongD F rls st).2=false→∀ r∈rls,∃ z,(walkV F false false r.its (Sc0,z)).2.2=false
 | [],_,_,r,hr=>by simp at hr
 | q::rls,st,h,r,hr=>by
  have hk:∀ (l:List Rl) (z:Int × Bool),z.2=true→(wrongD F l z).2=true:=fun l z hz=>foldl_keep (fun z:Int × Bool=>z.2=true) _ (fun b a hb=>walkV_keep F false false a.its (Sc0,b) hb) l z hz
  have h':(wrongD F rls (walkV F false false q.its (Sc0,st)).2).2=false:=h
  rcases List.mem_cons.1 hr with rfl | hr
  · refine ⟨st,?_⟩
    cases e:(walkV F false false r.its (Sc0,st)).2.2 with
    | false=>rfl
    | true=>rw[hk rls _ e] at h';exact h'
  · exact wrongD_rule rls _ h' r hr
def SuOk (s:Sp)(n:Nat):Prop:=s.a≤s.b∧s.b≤n∧HoOk s.ho n
structure WtOk (st:Wr):Prop where
 wt:∀ e∈st.wait,HoOk e.ho st.out.length∧KOk e.its∧∃ sc,ScG false true e.its sc∧HolAt st (some e.hid) sc
 su:∀ l∈st.sums,∀ s∈l,SuOk s st.out.length
theorem SuOk.more {s:Sp}{n m:Nat}(h:SuOk s n)(hm:n≤m):SuOk s m:=⟨h.1,Nat.le_trans h.2.1 hm,h.2.2.more hm⟩
theorem WtOk.up {N g:Nat}{st st':Wr}(h:WtOk st)(hu:WUp N g st st')(he:st'.wait=st.wait)(hs:st'.sums=st.sums):WtOk st':=by
 refine ⟨fun e hm=>?_,fun l hl s hm=>?_⟩
 · rw[he] at hm
   obtain ⟨a,b,sc,c,d⟩:=h.wt e hm
   exact ⟨a.more hu.ge,b,sc,c,d.up hu rfl⟩
 · rw[hs] at hl
   exact (h.su l hl s hm).more hu.ge
def GOk (R:Nat→Bool)(G:Nat→List It):Prop:=(∀ i,KOk (G i))∧∀ i,R i=true→TrW R false false (G i)∧∃ sc,ScG false false (G i) sc
def WtC {T:Type}(R:Nat→Bool)(W:List It→Option Nat→T→Wr→Wr):Prop:=∀ k hid y st own ctx ar sc,TrW R own ctx k→KOk k→ScG own ar k sc→(ar=true→HolAt st hid sc)→WInv st→WtOk st→WtOk (W k hid y st)
theorem TrW.segs1 {R:Nat→Bool}{own ctx:Bool}{x:It}{r:List It}(h:TrW R own ctx (x::r))(hc:inB [42,116,119,64,115] x.c=true):segs r.length r=[r]:=by
 obtain ⟨f,h⟩:=h
 cases f with
 | zero=>exact h.elim
 | succ f=>exact h.2.2.2.2.2.1 hc
theorem TrW.kid {R:Nat→Bool}{own ctx:Bool}{x:It}{r k:List It}(h:TrW R own ctx (x::r))(hk:k∈segs r.length r):TrW R (decide (x.c=40)) (decide (x.c=40)||(ctx&&inB [119,64,115] x.c)) k:=by
 obtain ⟨f,h⟩:=h
 cases f with
 | zero=>exact h.elim
 | succ f=>exact ⟨f,h.2.2.2.2.2.2 k hk⟩
theorem TrW.rule {R:Nat→Bool}{own ctx:Bool}{x:It}{r:List It}(h:TrW R own ctx (x::r))(hc:x.c=82):R x.r.toNat=true:=by
 obtain ⟨f,h⟩:=h
 cases f with
 | zero=>exact h.elim
 | succ f=>exact h.2.2.2.1 hc
theorem wSil_wait (k:List It)(i:Nat)(st:Wr):(wSil k i st).wait=st.wait:=by
 unfold wSil
 split
 · rfl
 · split<;>rfl
theorem wSil_sums (k:List It)(i:Nat)(st:Wr):(wSil k i st).sums=st.sums:=by
 unfold wSil
 split
 · rfl
 · split<;>rfl
theorem wKids_wt {T:Type}{R:Nat→Bool}{s:T→Nat}{W:List It→Option Nat→T→Wr→Wr}(hU:WOk s W)(hW:WtC R W)(i:Nat)(ctx:Bool):∀ (ks:List (List It)) (vs:List T) (st:Wr) (sc:Sc),(∀ k∈ks,KOk k∧TrW R true ctx k)→ScKs ks sc→HolAt st (some i) sc→i<st.hol.length→WInv st→WtOk st→WtOk (wKids W i ks vs st)
 | [],_,_,_,_,_,_,_,_,h=>h
 | k::ks,vs,st,sc,hk,hs,ha,hi,hv,h=>by
  obtain ⟨hk1,hk2⟩:=hk k List.mem_cons_self
  obtain ⟨hs1,sc',hs2,hs3,hs4⟩:=hs
  unfold wKids
  by_cases hsil:silV k=true
  · rw[if_pos hsil]
    have a:=wSil_up (i:=i) hv hk1 hsil
    refine wKids_wt hU hW i ctx ks vs _ sc' (fun k h=>hk k (List.mem_cons_of_mem _ h)) hs4 ?_ (Nat.lt_of_lt_of_le hi a.holL) a.inv (h.up a (wSil_wait k i st) (wSil_sums k i st))
    cases k with
    | nil=>cases hsil
    | cons x r=>
     cases hh:hidesB x.c with
     | false=>exact ha.up a (hs2 fun y t e=>by cases e;exact hh)
     | true=>
      intro d hd
      rw[hs3 x r rfl hh] at hd
      by_cases hdx:d=x.d.toNat
      · have h39:x.c≠39:=fun e=>by rw[e] at hh;revert hh;decide
        refine ⟨i,fun k=>if k=x.d.toNat then some ⟨st.out.length,x.w.toNat,decide (x.c=107)⟩ else (st.hol[i]) k,⟨st.out.length,x.w.toNat,decide (x.c=107)⟩,rfl,?_,by simp[hdx]⟩
        unfold wSil
        simp only[if_neg h39,wOut,wHide]
        rw[List.getElem?_modify,List.getElem?_eq_getElem hi]
        simp
      · simp only[hdx,if_false] at hd
        exact ha.up a (sc':=sc) rfl d hd
  · rw[if_neg hsil]
    cases vs with
    | nil=>exact h
    | cons y ys=>
     have a:=hU k (some i) y st hk1 hv
     have hnh:∀ y t,k=y::t→hidesB y.c=false:=fun y t e=>by
      subst e
      cases hh:hidesB y.c with
      | false=>rfl
      | true=>exact absurd (by simp[silV,hh]) hsil
     exact wKids_wt hU hW i ctx ks ys _ sc' (fun k h=>hk k (List.mem_cons_of_mem _ h)) hs4 (ha.up a (hs2 hnh)) (Nat.lt_of_lt_of_le hi a.holL) a.inv (hW k (some i) y st true ctx true sc hk2 hk1 hs1 (fun _=>ha) hv h)
theorem wMany_wt {T:Type}{R:Nat→Bool}{s:T→Nat}{W:List It→Option Nat→T→Wr→Wr}(hU:WOk s W)(hW:WtC R W)(k:List It)(own ctx:Bool)(sc:Sc)(hk:KOk k)(ht:TrW R own ctx k)(hs:ScG own false k sc):∀ (vs:List T) (st:Wr),WInv st→WtOk st→WtOk (wMany W k vs st)
 | [],_,_,h=>h
 | y::ys,st,hv,h=>wMany_wt hU hW k own ctx sc hk ht hs ys _ (hU k none y st hk hv).inv (hW k none y st own ctx false sc ht hk hs (fun e=>by cases e) hv h)
theorem TrW.kidNo {R:Nat→Bool}{own ctx:Bool}{x:It}{r k:List It}(h:TrW R own ctx (x::r))(hc:x.c≠40)(hk:k∈segs r.length r):∃ ctx',TrW R false ctx' k:=by
 have:=h.kid hk
 rw[decide_eq_false hc] at this
 exact ⟨_,this⟩
theorem TrW.kidOf {R:Nat→Bool}{own ctx:Bool}{x:It}{r k:List It}(h:TrW R own ctx (x::r))(hc:x.c=40)(hk:k∈segs r.length r):TrW R true true k:=by
 have:=h.kid hk
 rw[decide_eq_true hc] at this
 exact this
theorem wTop_wt {T:Type}{R:Nat→Bool}{s:T→Nat}{W:List It→Option Nat→T→Wr→Wr}(hU:WOk s W)(hW:WtC R W)(h0:∀ hid y st,W [] hid y st=st)(k:List It)(hid:Option Nat)(v:Nd T)(st:Wr)(own ctx ar:Bool)(sc:Sc)(ht:TrW R own ctx k)(hk:KOk k)(hs:ScG own ar k sc)(hv:WInv st)(h:WtOk st):
 WtOk (wTop W k hid v st):=by
 unfold wTop
 cases k with
 | nil=>exact h
 | cons x r=>
  have hr:=hk.tail
  have hseg:∀ k∈segs r.length r,KOk k:=fun k hm=>hr.sub (segs_subl _ _ _ hm)
  simp only
  split
  · exact h.up (wOut_up (N:=0) hv _) rfl rfl
  split
  · exact h.up (wOut_up (N:=0) hv _) rfl rfl
  split
  · exact h.up (wOut_up (N:=0) hv _) rfl rfl
  split
  · exact h.up (wOut_up (N:=0) hv _) rfl rfl
  split
  · have a:=wTell_up (N:=0) hv _ v.run.length (holeOf_le hv hid x.d.toNat)
    exact (h.up a rfl rfl).up (wOut_up (N:=0) a.inv _) rfl rfl
  split
  · rename_i hc
    have h2:WInv { st with hol:=st.hol++[fun _=>none] }:=⟨fun i f d ho a b=>by
     by_cases hi:i<st.hol.length
     · simp only[List.getElem?_append_left hi] at a
       exact hv.hole i f d ho a b
     · simp only[List.getElem?_append_right (Nat.le_of_not_lt hi)] at a
       have h0:i-st.hol.length=0:=by
        have:=(List.getElem?_eq_some_iff.1 a).1
        simp at this;omega
       rw[h0] at a
       cases a
       exact absurd b (by simp),hv.sums⟩
    have a:WUp st.hol.length 0 st { st with hol:=st.hol++[fun _=>none] }:=⟨h2,Nat.le_refl _,Nat.le_refl _,fun i hi=>List.getElem?_append_left hi,by simp,rfl,Nat.le_refl _,Nat.le_refl _,fun i f d ho a b=>⟨f,ho,by rw[List.getElem?_append_left (List.getElem?_eq_some_iff.1 a).1];exact a,b⟩⟩
    exact wKids_wt hU hW st.hol.length true (segs r.length r) v.kids _ Sc0 (fun k hm=>⟨hseg k hm,ht.kidOf hc hm⟩) (hs.kids hc) (fun d hd=>absurd rfl hd) (by simp) h2 (h.up a rfl rfl)
  split
  · rename_i hc
    cases hvk:v.kids with
    | nil=>exact h
    | cons y ys=>
     show WtOk (W ((segs r.length r).getD v.n []) none y st)
     rw[List.getD_eq_getElem?_getD]
     cases hg:(segs r.length r)[v.n]? with
     | none=>rw[Option.getD_none,h0];exact h
     | some k=>
      have hm:=List.mem_of_getElem? hg
      obtain ⟨ctx',ht'⟩:=ht.kidNo (by omega) hm
      obtain ⟨sc',hs'⟩:=hs.other (by omega) (by rw[hc];decide) k hm
      exact hW k none y st false ctx' false sc' ht' (hseg k hm) hs' (fun e=>by cases e) hv h
  split
  · rename_i hc
    have h1:=ht.segs1 (by rw[hc];decide)
    have hm:r∈segs r.length r:=by rw[h1];simp
    obtain ⟨ctx',ht'⟩:=ht.kidNo (by omega) hm
    obtain ⟨sc',hs'⟩:=hs.other (by omega) (by rw[hc];decide) r hm
    exact wMany_wt hU hW r false ctx' sc' hr ht' hs' v.kids st hv h
  split
  · rename_i hc
    have h1:=ht.segs1 (by rw[hc];decide)
    have hm:r∈segs r.length r:=by rw[h1];simp
    obtain ⟨ctx',ht'⟩:=ht.kidNo (by omega) hm
    obtain ⟨sc',hs'⟩:=hs.other (by omega) (by rw[hc];decide) r hm
    have a:=wTell_up (N:=0) hv _ v.kids.length (holeOf_le hv hid x.d.toNat)
    exact wMany_wt hU hW r false ctx' sc' hr ht' hs' v.kids _ a.inv (h.up a rfl rfl)
  · exact h
theorem ruleEnd_wt {R:Nat→Bool}{G:Nat→List It}(hG:GOk R G):∀ (n:Nat) (own ctx:Bool) (x:It) (r q:List It),TrW R own ctx (x::r)→x.c=82→ruleEnd G n (x::r)=some q→TrW R false false q∧∃ sc,ScG false false q sc
 | 0,_,_,_,_,_,_,_,e=>by cases e
 | n+1,own,ctx,x,r,q,ht,hc,e=>by
  unfold ruleEnd at e
  have hg:=hG.2 x.r.toNat (ht.rule hc)
  cases hk:G x.r.toNat with
  | nil=>rw[hk] at e;cases e
  | cons y z=>
   rw[hk] at e hg
   simp only at e
   split at e
   · rename_i hy
     exact ruleEnd_wt hG n _ _ y z q hg.1 hy e
   · cases e;exact hg
theorem wIn_wt {n:Nat}{R:Nat→Bool}{s:Tr n→Nat}{G:Nat→List It}(hG:GOk R G){W:List It→Option Nat→Tr n→Wr→Wr}(hU:WOk s W)(hW:WtC R W)(h0:∀ hid y st,W [] hid y st=st)(hid:Option Nat)(v:Nd (Tr n))(st:Wr)(hv:WInv st)(h:WtOk st):∀ k own ctx ar sc,TrW R own ctx k→KOk k→ScG own ar k sc→(ar=true→HolAt st hid sc)→
 WtOk (wIn G W k hid v st)
 | [],_,_,_,_,_,_,_,_=>h
 | x::r,own,ctx,ar,sc,ht,hk,hs,ha=>by
  have hup:=wIn_up hG.1 hU hid v st hv r hk.tail
  have hih:inB [119,64,115] x.c=true→x.c≠64→WtOk (wIn G W r hid v st):=fun hi _=>by
   have h5:inB [42,116,119,64,115] x.c=true:=by
    simp only[inB,List.any_cons,List.any_nil,Bool.or_false,Bool.or_eq_true,beq_iff_eq] at hi ⊢
    omega
   have hu:usesB x.c=true:=by
    simp only[inB,List.any_cons,List.any_nil,Bool.or_false,Bool.or_eq_true,beq_iff_eq] at hi
    rcases hi with e | e | e<;>(rw[← e];decide)
   have h1:=ht.segs1 h5
   have hc:x.c≠40:=fun e=>by rw[e] at hi;exact absurd hi (by decide)
   obtain ⟨ctx',ht'⟩:=ht.kidNo hc (k:=r) (by rw[h1];simp)
   obtain ⟨sc',e1,hs'⟩:=hs.inner hi h1
   exact wIn_wt hG hU hW h0 hid v st hv h r false ctx' true sc' ht' hk.tail hs' (fun _=>(ha (hs.use hu).1).up (WUp.refl (N:=0) hv) e1)
  unfold wIn
  split
  · rename_i hc
    exact (hih (by rw[hc];decide) (by omega)).up (wTell_up (N:=0) hup.inv _ _ (holeOf_le hup.inv hid x.d.toNat)) rfl rfl
  split
  · rename_i hc
    have hu:usesB x.c=true:=by rw[hc];decide
    have hq:=hih (by rw[hc];decide) (by omega)
    obtain ⟨har,hd⟩:=hs.use hu
    obtain ⟨i,f,rfl,hf,ho⟩:=((ha har).up hup (sc':=sc) rfl).hole hd
    have hge:=hup.ge
    have hup2:=hup.inv
    generalize wIn G W r (some i) v st=st1 at *
    have hsu:=wSum_up (N:=0) hup2 ⟨st.out.length,st1.out.length,holeOf st1 (some i) x.d.toNat⟩
    refine ⟨fun e he=>?_,fun l hl s hm=>?_⟩
    · obtain ⟨a,b,sc2,c,d⟩:=hq.wt e he
      exact ⟨a,b,sc2,c,d.up hsu rfl⟩
    · rcases List.mem_append.1 hl with hl | hl
      · exact hq.su l (List.dropLast_subset _ hl) s hm
      · rw[List.mem_singleton] at hl
        subst hl
        rcases List.mem_append.1 hm with hm | hm
        · refine hq.su _ ?_ s hm
          rw[List.getLastD_eq_getLast?,List.getLast?_eq_some_getLast hup2.sums]
          exact List.getLast_mem hup2.sums
        · rw[List.mem_singleton] at hm
          subst hm
          exact ⟨hge,Nat.le_refl _,hup2.hole i f _ _ hf ho⟩
  split
  · rename_i hc
    have hu:usesB x.c=true:=by rw[hc];decide
    have hi:inB [119,64,115] x.c=true:=by rw[hc];decide
    have h1:=ht.segs1 (by rw[hc];decide)
    obtain ⟨har,hd⟩:=hs.use hu
    obtain ⟨i,f,rfl,hf,ho⟩:=(ha har).hole hd
    obtain ⟨sc',e1,hs'⟩:=hs.inner hi h1
    have hw:=wWait_up (N:=0) hv ⟨r,n,v,i,holeOf st (some i) x.d.toNat⟩
    refine ⟨fun e he=>?_,h.su⟩
    rcases List.mem_append.1 he with he | he
    · obtain ⟨a,b,sc2,c,d⟩:=h.wt e he
      exact ⟨a,b,sc2,c,d.up hw rfl⟩
    · rw[List.mem_singleton] at he
      subst he
      exact ⟨hv.hole i f _ _ hf ho,hk.tail,sc',hs',(ha har).up hw e1⟩
  split
  · rename_i hc
    split
    · exact h
    · rename_i q hq
      obtain ⟨htq,scq,hsq⟩:=ruleEnd_wt hG 8 own ctx x r q ht hc hq
      exact wTop_wt hU hW h0 q none v st false false false scq htq (ruleEnd_ok hG.1 8 _ q hq) hsq hv h
  · exact wTop_wt hU hW h0 (x::r) hid v st own ctx ar sc ht hk hs hv h
theorem writeT_nil (G:Nat→List It):∀ n hid y st,writeT G n [] hid y st=st
 | 0,_,_,_=>rfl
 | _+1,_,_,_=>rfl
theorem writeT_wt {R:Nat→Bool}{G:Nat→List It}(hG:GOk R G):∀ n,WtC R (writeT G n)
 | 0=>fun _ _ _ _ _ _ _ _ _ _ _ _ _ h=>h
 | n+1=>fun k hid y st own ctx ar sc ht hk hs ha hv h=>wIn_wt hG (writeT_up hG.1 n) (writeT_wt hG n) (writeT_nil G n) hid y st hv h k own ctx ar sc ht hk hs ha
def pot (st:Wr):Nat:=st.out.length+(st.wait.map fun e=>10000*szT (e.n+1) e.v).sum
theorem pot_up {N g:Nat}{st st':Wr}(hu:WUp N g st st')(he:st'.wait=st.wait):pot st'≤pot st+g:=by
 have:=hu.le
 unfold pot
 rw[he]
 omega
def PotOk {T:Type}(s:T→Nat)(W:List It→Option Nat→T→Wr→Wr):Prop:=∀ k hid y st,KOk k→WInv st→pot (W k hid y st)≤pot st+10000*s y
theorem wKids_pot {T:Type}{s:T→Nat}{W:List It→Option Nat→T→Wr→Wr}(hU:WOk s W)(hW:PotOk s W)(i:Nat):∀ (ks:List (List It)) (vs:List T) (st:Wr),(∀ k∈ks,KOk k)→WInv st→pot (wKids W i ks vs st)≤pot st+(8*ks.length+10000*(vs.map s).sum)
 | [],_,_,_,_=>Nat.le_add_right _ _
 | k::ks,vs,st,hk,hv=>by
  have hk1:=hk k List.mem_cons_self
  unfold wKids
  by_cases hs:silV k=true
  · rw[if_pos hs]
    have a:=wSil_up (i:=i) hv hk1 hs
    have b:=wKids_pot hU hW i ks vs _ (fun k h=>hk k (List.mem_cons_of_mem _ h)) a.inv
    have c:=pot_up a (wSil_wait k i st)
    simp only[List.length_cons]
    omega
  · rw[if_neg hs]
    cases vs with
    | nil=>exact Nat.le_add_right _ _
    | cons y ys=>
     have a:=hW k (some i) y st hk1 hv
     have b:=wKids_pot hU hW i ks ys _ (fun k h=>hk k (List.mem_cons_of_mem _ h)) (hU k (some i) y st hk1 hv).inv
     simp only[List.length_cons,List.map_cons,List.sum_cons]
     omega
theorem wMany_pot {T:Type}{s:T→Nat}{W:List It→Option Nat→T→Wr→Wr}(hU:WOk s W)(hW:PotOk s W)(k:List It)(hk:KOk k):∀ (vs:List T) (st:Wr),WInv st→pot (wMany W k vs st)≤pot st+10000*(vs.map s).sum
 | [],_,_=>Nat.le_add_right _ _
 | y::ys,st,hv=>by
  have a:=hW k none y st hk hv
  have b:=wMany_pot hU hW k hk ys _ (hU k none y st hk hv).inv
  simp only[List.map_cons,List.sum_cons]
  show pot (wMany W k ys (W k none y st))≤_
  omega
theorem wTop_pot {T:Type}{s:T→Nat}{W:List It→Option Nat→T→Wr→Wr}(hU:WOk s W)(hW:PotOk s W)(k:List It)(hid:Option Nat)(v:Nd T)(st:Wr)(hk:KOk k)(hv:WInv st):
 pot (wTop W k hid v st)≤pot st+(8008+v.run.length+10000*(v.kids.map s).sum):=by
 unfold wTop
 cases k with
 | nil=>exact Nat.le_add_right _ _
 | cons x r=>
  have hw:=hk.2 x List.mem_cons_self
  have hr:=hk.tail
  have hseg:∀ k∈segs r.length r,KOk k:=fun k hm=>hr.sub (segs_subl _ _ _ hm)
  simp only
  split
  · rename_i hc
    have:=hw (by rw[hc];rfl)
    have a:=pot_up (wOut_up (N:=0) hv (numB false x.w.toNat v.n)) rfl
    rw[numB_length] at a
    omega
  split
  · rename_i hc
    have:=hw (by rw[hc];rfl)
    have a:=pot_up (wOut_up (N:=0) hv (numB true x.w.toNat v.n)) rfl
    rw[numB_length] at a
    omega
  split
  · have a:=pot_up (wOut_up (N:=0) hv [UInt8.ofNat x.b.toNat]) rfl
    simp only[List.length_singleton] at a
    omega
  split
  · have a:=pot_up (wOut_up (N:=0) hv v.run) rfl
    omega
  split
  · have a:=wTell_up (N:=0) hv _ v.run.length (holeOf_le hv hid x.d.toNat)
    have b:=pot_up a rfl
    have c:=pot_up (wOut_up (N:=0) a.inv v.run) rfl
    omega
  split
  · have h2:WInv { st with hol:=st.hol++[fun _=>none] }:=⟨fun i f d ho a b=>by
     by_cases hi:i<st.hol.length
     · simp only[List.getElem?_append_left hi] at a
       exact hv.hole i f d ho a b
     · simp only[List.getElem?_append_right (Nat.le_of_not_lt hi)] at a
       have h0:i-st.hol.length=0:=by
        have:=(List.getElem?_eq_some_iff.1 a).1
        simp at this;omega
       rw[h0] at a
       cases a
       exact absurd b (by simp),hv.sums⟩
    have b:=wKids_pot hU hW st.hol.length (segs r.length r) v.kids _ hseg h2
    have c:=segs_le r.length r
    have d:=hr.1
    have e:pot { st with hol:=st.hol++[fun _=>none] }=pot st:=rfl
    omega
  split
  · cases hvk:v.kids with
    | nil=>exact Nat.le_add_right _ _
    | cons y ys=>
     have hK:KOk ((segs r.length r).getD v.n []):=by
      rw[List.getD_eq_getElem?_getD]
      cases hg:(segs r.length r)[v.n]? with
      | none=>exact ⟨by simp,by simp⟩
      | some k=>exact hseg k (List.mem_of_getElem? hg)
     have a:=hW _ none y st hK hv
     simp only[wHead,List.map_cons,List.sum_cons]
     omega
  split
  · have a:=wMany_pot hU hW r hr v.kids st hv
    omega
  split
  · have a:=wTell_up (N:=0) hv _ v.kids.length (holeOf_le hv hid x.d.toNat)
    have b:=pot_up a rfl
    have c:=wMany_pot hU hW r hr v.kids _ a.inv
    omega
  · exact Nat.le_add_right _ _
theorem szT_succ (n:Nat)(v:Nd (Tr n)):szT (n+1) v=1+v.run.length+(v.kids.map (szT n)).sum:=rfl
theorem wIn_pot {n:Nat}{G:Nat→List It}(hG:∀ i,KOk (G i)){W:List It→Option Nat→Tr n→Wr→Wr}(hU:WOk (szT n) W)(hW:PotOk (szT n) W)(hid:Option Nat)(v:Nd (Tr n))(st:Wr)(hv:WInv st):∀ k,KOk k→
 pot (wIn G W k hid v st)≤pot st+10000*szT (n+1) v
 | [],_=>Nat.le_add_right _ _
 | x::r,hk=>by
  have ih:=wIn_pot hG hU hW hid v st hv r hk.tail
  have hup:=wIn_up hG hU hid v st hv r hk.tail
  have hz:=szT_succ n v
  unfold wIn
  split
  · have a:=pot_up (wTell_up (N:=0) hup.inv _ ((wIn G W r hid v st).out.length-st.out.length) (holeOf_le hup.inv hid x.d.toNat)) rfl
    omega
  split
  · exact ih
  split
  · unfold pot wWait
    simp only[List.map_append,List.sum_append,List.map_cons,List.map_nil,List.sum_cons,List.sum_nil]
    omega
  split
  · split
    · exact Nat.le_add_right _ _
    · rename_i q hq
      have a:=wTop_pot hU hW q none v st (ruleEnd_ok hG 8 _ q hq) hv
      omega
  · have a:=wTop_pot hU hW (x::r) hid v st hk hv
    omega
theorem writeT_pot {G:Nat→List It}(hG:∀ i,KOk (G i)):∀ n,PotOk (szT n) (writeT G n)
 | 0=>fun _ _ _ _ _ _=>Nat.le_add_right _ _
 | n+1=>fun k hid y st hk hv=>wIn_pot hG (writeT_up hG n) (writeT_pot hG n) hid y st hv k hk
end Go.Proofs.YtmlkhhhjdpbhfaaGreatDoor

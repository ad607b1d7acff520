import Derived.Test.YtmlkhhhjdpbhfaaGreatDoorFo36
import Derived.Test.YtmlkhhhjdpbhfaaGreatDoorFo27
import Derived.Test.YtmlkhhhjdpbhfaaGreatDoorFo34
import Derived.Test.YtmlkhhhjdpbhfaaGreatDoorFo35
import Derived.Test.YtmlkhhhjdpbhfaaGreatDoorFo23
namespace Go.Proofs.YtmlkhhhjdpbhfaaGreatDoor
open Go.RowKit
theorem RepS.lens {f:Nat}{w:World}{lo hi pb:Nat}{sl:Bool}{x:It}{r:List It}(h:RepS f w lo hi pb sl (x::r)):
 ∃ (f':Nat) (kids:List (Nat × List It)) (p:Pt),PtBlk w pb p∧ItPt x p∧p.sl=(sl&&silB x.c)∧PtrsAt w (pb+1) hi p.v (kids.map Prod.fst)∧(∀ q,q∈kids→RepS f' w (pb+1) hi q.1 (decide (x.c=40)) q.2)∧kids.map Prod.snd=segs r.length r∧(lo≤pb∧pb<hi)∧kids.length≤r.length∧∀ q,q∈kids→q.2.length≤r.length:=by
 cases f with
 | zero=>exact h.elim
 | succ f=>
  obtain ⟨x',kids,p,e1,e2,a,b,c,d,s,e,k⟩:=h
  cases e1
  refine ⟨f,kids,p,c,d,s,e,k,?_,⟨a,b⟩,?_,fun q hq=>mem_flat_le' kids q hq⟩
  · have h1:kids.flatMap Prod.snd=(kids.map Prod.snd).flatten:=by rw[List.flatMap_def]
    rw[h1]
    exact (segs_flat (kids.map Prod.snd) (fun s hs=>by obtain ⟨q,hq,rfl⟩:=List.mem_map.1 hs;exact (k q hq).segOk) _ (Nat.le_refl _)).symm
  · clear e e2
    induction kids with
    | nil=>simp
    | cons z l ih=>
     have h1:=ih (fun q hq=>k q (List.mem_cons_of_mem _ hq))
     have h2:0<z.2.length:=by
      obtain ⟨y,t,hz,_⟩:=(k z List.mem_cons_self).segOk
      rw[hz];simp
     simp only[List.flatMap_cons,List.length_append,List.length_cons]
     omega
def HasC (c:Cx)(n:Nat):Prop:=∀ (w:World) (wb:Nat) (its:List It) (own ctx sl:Bool) (f lo hi pb lo2 hi2 vb:Nat) (x:Tr n),HPre c w wb→RepS f c.w0 lo hi pb sl its→hi≤c.w0.heap.size→TrW c.R own ctx its→its.length≤1000→RepY n w lo2 hi2 vb x→hi2≤w.heap.size→HasAt w wb pb vb (hasT c.G n its x)
theorem NdT.mono {n:Nat}{w w':World}{lo hi vb:Nat}{x:Nd (Tr n)}(h:NdT (RepY n) w lo hi vb x)(hh:hi≤w.heap.size)(hb:Below w.heap.size w w'):NdT (RepY n) w' lo hi vb x:=
 RepY.mono (n+1) (x:=x) h (fun k _ k2=>hb.block k (by omega)) (Nat.le_refl _) (Nat.le_refl _)
theorem hasTop_cons {T:Type}(H:List It→T→Bool)(x:It)(r:List It)(v:Nd T):hasTop H (x::r) v=
 (if x.c=110∨x.c=108 then decide (v.k=0)&&withinB v.n x.w.toNat
 else if x.c=39 then decide (v.k=1)
 else if x.c=114∨x.c=46 then decide (v.k=2)
 else if x.c=40 then decide (v.k=3)&&hasKids H (segs r.length r) v.kids
 else if x.c=47 then decide (v.k=5)&&headB (H ((segs r.length r).getD v.n [])) v.kids
 else if x.c=42∨x.c=116 then decide (v.k=4)&&v.kids.all (H r)
 else false):=rfl
theorem has_top (c:Cx)(n:Nat)(ih:HasC c n)(w:World)(wb:Nat)(x:It)(r:List It)(own ctx sl:Bool)(f lo hi pb lo2 hi2 vb:Nat)(v:Nd (Tr n))(hp:HPre c w wb)(hrep:RepS f c.w0 lo hi pb sl (x::r))(hhi:hi≤c.w0.heap.size)(hwf:TrW c.R own ctx (x::r))(hlen:(x::r).length≤1000)(hv:NdT (RepY n) w lo2 hi2 vb v)(hh2:hi2≤w.heap.size)(h82:x.c≠82)(hin:inB [119,64,115] x.c=false):HasAt w wb pb vb (hasTop (hasT c.G n) (x::r) v):=by
 intro W hW
 obtain ⟨f0,hw0⟩:=hwf
 cases f0 with
 | zero=>exact hw0.elim
 | succ f0=>
 obtain ⟨hx,hown,hctx,hrule,h2,h1,hkw⟩:=hw0
 obtain ⟨f',ps,p,hpt0,hit,hsl,hptrs,hkids,hsegs,⟨hlo,hpbh⟩,hpl,hkl⟩:=hrep.lens
 have hlr:r.length≤1000:=by simp at hlen;omega
 have hpW:=hp.below hW
 have hpt:∀ W',Below w.heap.size w W'→PtBlk W' pb p:=fun W' h=>hpt0.below (hp.below h).bel (by omega)
 have hvW:∀ W',Below w.heap.size w W'→NdT (RepY n) W' lo2 hi2 vb v:=fun W' h=>hv.mono hh2 h
 have hnd:∀ W',Below w.heap.size w W'→∃ vv,NdB W' vb v.k v.n ⟨v.run.toArray⟩ vv∧∃ ids:List (Nat × Tr n),PtrsAt W' lo2 hi2 vv (ids.map Prod.fst)∧(∀ q,q∈ids→RepY n W' lo2 hi2 q.1 q.2)∧v.kids=ids.map Prod.snd∧NdOk v:=fun W' h=>by
  obtain ⟨vv,ids,a1,a2,a3,a4,a5,a6⟩:=hvW W' h
  exact ⟨vv,⟨a1,a6.n⟩,ids,a3,a4,a5,a6⟩
 have hsw:∀ W',Below W.heap.size W W'→Below w.heap.size w W':=fun W' h=>hW.trans (h.mono hW.size)
 have hle:=hW.size
 rw[hasTop_cons]
 rcases kinds_list x.c hx.it.c with hxc | hxc | hxc | hxc | hxc | hxc | hxc | hxc | hxc | hxc | hxc | hxc | hxc | hxc | hxc
 · rw[if_pos (Or.inl hxc)]
   have hww:=hx.w (by rw[hxc];rfl)
   refine has_walk c W wb pb vb p 0 121 _ hpW (hpt W hW) (by rw[hit.k,hxc];rfl) (by omega) rfl run_hasNumber fun W' h'=>?_
   obtain ⟨vv,nb,ids,hids,hreps,hkk,hok⟩:=hnd W' (hsw W' h')
   exact hasNumber_calls W' wb pb vb v.k v.n x.w.toNat _ vv p (hpt W' (hsw W' h')) nb (by rw[hit.wd];omega) (by omega)
 · rw[if_pos (Or.inr hxc)]
   have hww:=hx.w (by rw[hxc];rfl)
   refine has_walk c W wb pb vb p 1 121 _ hpW (hpt W hW) (by rw[hit.k,hxc];rfl) (by omega) rfl run_hasNumber fun W' h'=>?_
   obtain ⟨vv,nb,ids,hids,hreps,hkk,hok⟩:=hnd W' (hsw W' h')
   exact hasNumber_calls W' wb pb vb v.k v.n x.w.toNat _ vv p (hpt W' (hsw W' h')) nb (by rw[hit.wd];omega) (by omega)
 · rw[if_neg (by rw[hxc];decide),if_pos hxc]
   refine has_walk c W wb pb vb p 2 126 _ hpW (hpt W hW) (by rw[hit.k,hxc];rfl) (by omega) rfl run_hasNothing fun W' h'=>?_
   obtain ⟨vv,nb,ids,hids,hreps,hkk,hok⟩:=hnd W' (hsw W' h')
   exact hasNothing_calls W' wb pb vb v.k v.n _ vv nb
 · rw[if_neg (by rw[hxc];decide),if_neg (by rw[hxc];decide),if_neg (by rw[hxc];decide),if_pos hxc]
   refine has_walk c W wb pb vb p 3 129 _ hpW (hpt W hW) (by rw[hit.k,hxc];rfl) (by omega) rfl run_hasStruct fun W' h'=>?_
   obtain ⟨vv,nb,ids,hids,hreps,hkk,hok⟩:=hnd W' (hsw W' h')
   have hbW:=hsw W' h'
   have hs':=hbW.size
   rw[hkk,← hsegs]
   refine hasStruct_calls (hasT c.G n) W' wb pb vb v.k v.n lo2 hi2 (pb+1) hi _ vv p ids ps (hpt W' hbW) nb (by omega) (by have:=(hp.below hbW).bel.size;omega) (hptrs.mono (fun k _ k2=>(hp.below hbW).bel.block k (by omega)) (Nat.le_refl _) (Nat.le_refl _)) hids ?_ (by omega) (fun q hq=>?_) (fun q hq y hy=>?_)
   · have:=hok.kids;rw[hkk] at this;simpa using this
   · have hr:=hkids q hq
     obtain ⟨y,t,hqe⟩:∃ y t,q.2=y::t:=by obtain ⟨y,t,hz,_⟩:=hr.segOk;exact ⟨y,t,hz⟩
     rw[hqe] at hr ⊢
     obtain ⟨_,_,p',hpt',_,hsl',_,_,_,_,hlt'⟩:=hr.open
     have hb:=(hp.below hbW).bel
     have hsz:=hb.size
     refine ⟨by omega,?_⟩
     rw[World.cell?_of_block (w:=c.w0) (hb.block q.1 (by omega)),← silB_silV,show silB y.c=p'.sl by rw[hsl',hxc];simp]
     exact hpt'.cell 7
   · exact ih W' wb q.2 _ _ _ f' (pb+1) hi q.1 lo2 hi2 y.1 y.2 (hp.below hbW) (hkids q hq) hhi ⟨f0,hkw q.2 (by rw[← hsegs];exact List.mem_map_of_mem hq)⟩ (by have:=hkl q hq;omega) (hreps y hy) (by omega)
 · rw[if_neg (by rw[hxc];decide),if_neg (by rw[hxc];decide),if_neg (by rw[hxc];decide),if_neg (by rw[hxc];decide),if_pos hxc]
   refine has_walk c W wb pb vb p 4 132 _ hpW (hpt W hW) (by rw[hit.k,hxc];rfl) (by omega) rfl run_hasChoice fun W' h'=>?_
   obtain ⟨vv,nb,ids,hids,hreps,hkk,hok⟩:=hnd W' (hsw W' h')
   have hbW:=hsw W' h'
   have hs':=hbW.size
   have hl2:ps.length=2:=by have:=h2 hxc;rw[← hsegs] at this;simpa using this
   by_cases hk5:v.k=5
   · obtain ⟨hn2,hk1⟩:=hok.cho hk5
     obtain ⟨y,rfl⟩:∃ y,ids=[y]:=by
      rw[hkk] at hk1
      match ids,hk1 with
      | [y],_=>exact ⟨y,rfl⟩
     obtain ⟨g2,cap2,e2,_,hg2,_,hc2⟩:=hids.at (by simp)
     have hpa:=(hptrs.mono (w':=W') (fun k _ k2=>(hp.below hbW).bel.block k (by omega)) (Nat.le_refl _) (Nat.le_refl _))
     obtain ⟨g,cap,e1,_,hg,_,hc1⟩:=hpa.at (by simp;omega)
     have hnl:v.n<ps.length:=by omega
     have hq:=hc1 v.n (by simp;omega)
     have hy:=hc2 0 (by simp)
     have hb:=(hp.below hbW).bel
     have hsz:=hb.size
     have hq':W'.cell? ⟨g,v.n,none⟩=some (.pointer (some ⟨ps[v.n].1,0,none⟩)):=by rw[hq];simp[hnl]
     subst e2
     have nb':NdB W' vb 5 v.n ⟨v.run.toArray⟩ (.slice (some ⟨g2,0,none⟩) 1 cap2):=by rw[← hk5];exact nb
     have hB:(decide (v.k=5)&&headB (hasT c.G n ((segs r.length r).getD v.n [])) v.kids)=hasT c.G n ps[v.n].2 y.2:=by
      rw[hkk,← hsegs,hk5]
      simp[hnl,headB]
     rw[hB]
     exact hasChoice_yes W' wb pb vb v.n g cap ps[v.n].1 g2 cap2 y.1 _ _ p (hpt W' hbW) nb' hn2 (by rw[e1];simp[hl2]) hq' (by rw[hy];simp) (by omega) (by omega)
      (ih W' wb ps[v.n].2 _ _ _ f' (pb+1) hi ps[v.n].1 lo2 hi2 y.1 y.2 (hp.below hbW) (hkids _ (List.getElem_mem hnl)) hhi ⟨f0,hkw _ (by rw[← hsegs];exact List.mem_map_of_mem (List.getElem_mem hnl))⟩ (by have:=hkl _ (List.getElem_mem hnl);omega) (hreps y (by simp)) (by omega))
   · rw[decide_eq_false hk5]
     exact hasChoice_no W' wb pb vb v.k v.n _ vv nb hk5
 · rw[if_neg (by rw[hxc];decide),if_neg (by rw[hxc];decide),if_neg (by rw[hxc];decide),if_neg (by rw[hxc];decide),if_neg (by rw[hxc];decide),if_pos (Or.inl hxc)]
   refine has_walk c W wb pb vb p 5 135 _ hpW (hpt W hW) (by rw[hit.k,hxc];rfl) (by omega) rfl run_hasList fun W' h'=>?_
   obtain ⟨vv,nb,ids,hids,hreps,hkk,hok⟩:=hnd W' (hsw W' h')
   have hbW:=hsw W' h'
   have hs':=hbW.size
   have hone:=h1 (by rw[hxc];rfl)
   obtain ⟨z,rfl⟩:∃ z,ps=[z]:=by
    rw[hone] at hsegs
    match ps,hsegs with
    | [z],_=>exact ⟨z,rfl⟩
   have hz2:z.2=r:=by rw[hone] at hsegs;simpa using hsegs
   have hpa:=(hptrs.mono (w':=W') (fun k _ k2=>(hp.below hbW).bel.block k (by omega)) (Nat.le_refl _) (Nat.le_refl _))
   obtain ⟨g,cap,e1,_,hg,_,hc1⟩:=hpa.at (by simp)
   have hb:=(hp.below hbW).bel
   have hsz:=hb.size
   have hq:=hc1 0 (by simp)
   have hvl:=nb.blk.lt
   rw[hkk]
   refine hasList_calls (hasT c.G n r) W' wb pb vb v.k v.n lo2 hi2 g cap z.1 _ vv p ids (hpt W' hbW) nb hvl (by omega) (by omega) (by omega) e1 (by rw[hq];simp) hids ?_ (fun q hq=>?_)
   · have:=hok.kids;rw[hkk] at this;simpa using this
   · have hr:=hkids z (by simp)
     rw[hz2] at hr
     exact ih W' wb r _ _ _ f' (pb+1) hi z.1 lo2 hi2 q.1 q.2 (hp.below hbW) hr hhi ⟨f0,hkw r (by rw[hone];simp)⟩ (by omega) (hreps q hq) (by omega)
 · exact absurd hxc h82
 · rw[if_neg (by rw[hxc];decide),if_neg (by rw[hxc];decide),if_neg (by rw[hxc];decide),if_neg (by rw[hxc];decide),if_neg (by rw[hxc];decide),if_neg (by rw[hxc];decide)]
   refine has_walk c W wb pb vb p 7 141 _ hpW (hpt W hW) (by rw[hit.k,hxc];rfl) (by omega) rfl run_hasNone fun W' h'=>?_
   exact hasNone_calls W' wb pb vb
 · rw[if_neg (by rw[hxc];decide),if_neg (by rw[hxc];decide),if_neg (by rw[hxc];decide),if_neg (by rw[hxc];decide),if_neg (by rw[hxc];decide),if_neg (by rw[hxc];decide)]
   refine has_walk c W wb pb vb p 8 141 _ hpW (hpt W hW) (by rw[hit.k,hxc];rfl) (by omega) rfl run_hasNone fun W' h'=>?_
   exact hasNone_calls W' wb pb vb
 · rw[if_neg (by rw[hxc];decide),if_neg (by rw[hxc];decide),if_pos (Or.inl hxc)]
   refine has_walk c W wb pb vb p 9 146 _ hpW (hpt W hW) (by rw[hit.k,hxc];rfl) (by omega) rfl run_hasRun fun W' h'=>?_
   obtain ⟨vv,nb,ids,hids,hreps,hkk,hok⟩:=hnd W' (hsw W' h')
   exact hasRun_calls W' wb pb vb v.k v.n _ vv nb
 · rw[if_neg (by rw[hxc];decide),if_neg (by rw[hxc];decide),if_neg (by rw[hxc];decide),if_neg (by rw[hxc];decide),if_neg (by rw[hxc];decide),if_pos (Or.inr hxc)]
   refine has_walk c W wb pb vb p 10 135 _ hpW (hpt W hW) (by rw[hit.k,hxc];rfl) (by omega) rfl run_hasList fun W' h'=>?_
   obtain ⟨vv,nb,ids,hids,hreps,hkk,hok⟩:=hnd W' (hsw W' h')
   have hbW:=hsw W' h'
   have hs':=hbW.size
   have hone:=h1 (by rw[hxc];rfl)
   obtain ⟨z,rfl⟩:∃ z,ps=[z]:=by
    rw[hone] at hsegs
    match ps,hsegs with
    | [z],_=>exact ⟨z,rfl⟩
   have hz2:z.2=r:=by rw[hone] at hsegs;simpa using hsegs
   have hpa:=(hptrs.mono (w':=W') (fun k _ k2=>(hp.below hbW).bel.block k (by omega)) (Nat.le_refl _) (Nat.le_refl _))
   obtain ⟨g,cap,e1,_,hg,_,hc1⟩:=hpa.at (by simp)
   have hb:=(hp.below hbW).bel
   have hsz:=hb.size
   have hq:=hc1 0 (by simp)
   have hvl:=nb.blk.lt
   rw[hkk]
   refine hasList_calls (hasT c.G n r) W' wb pb vb v.k v.n lo2 hi2 g cap z.1 _ vv p ids (hpt W' hbW) nb hvl (by omega) (by omega) (by omega) e1 (by rw[hq];simp) hids ?_ (fun q hq=>?_)
   · have:=hok.kids;rw[hkk] at this;simpa using this
   · have hr:=hkids z (by simp)
     rw[hz2] at hr
     exact ih W' wb r _ _ _ f' (pb+1) hi z.1 lo2 hi2 q.1 q.2 (hp.below hbW) hr hhi ⟨f0,hkw r (by rw[hone];simp)⟩ (by omega) (hreps q hq) (by omega)
 · rw[hxc] at hin;exact absurd hin (by decide)
 · rw[hxc] at hin;exact absurd hin (by decide)
 · rw[hxc] at hin;exact absurd hin (by decide)
 · rw[if_neg (by rw[hxc];decide),if_neg (by rw[hxc];decide),if_pos (Or.inr hxc)]
   refine has_walk c W wb pb vb p 14 146 _ hpW (hpt W hW) (by rw[hit.k,hxc];rfl) (by omega) rfl run_hasRun fun W' h'=>?_
   obtain ⟨vv,nb,ids,hids,hreps,hkk,hok⟩:=hnd W' (hsw W' h')
   exact hasRun_calls W' wb pb vb v.k v.n _ vv nb
theorem TrW.noUse {R:Nat→Bool}{own:Bool}{x:It}{r:List It}(h:TrW R own false (x::r)):inB [119,64,115] x.c=false:=by
 obtain ⟨f,h⟩:=h
 cases f with
 | zero=>exact h.elim
 | succ f=>
  obtain ⟨hx,_,hctx,_⟩:=h
  cases hi:inB [119,64,115] x.c
  · rfl
  · have hu:usesB x.c=true:=by
     rcases kinds_list x.c hx.it.c with hxc | hxc | hxc | hxc | hxc | hxc | hxc | hxc | hxc | hxc | hxc | hxc | hxc | hxc | hxc
     all_goals rw[hxc] at hi ⊢;revert hi;decide
    exact absurd (hctx hu) (by simp)
theorem inn_in {x:It}{r:List It}(h:inB [119,64,115] x.c=true):inn (x::r)=inn r:=by rw[inn,if_pos h]
theorem inn_out {x:It}{r:List It}(h:inB [119,64,115] x.c=false):inn (x::r)=x::r:=by rw[inn,if_neg (by rw[h];simp)]
theorem hasQ_rule {T:Type}(G:Nat→List It)(H:List It→T→Bool)(x:It)(r:List It)(v:Nd T)(h:x.c=82):hasQ G H (x::r) v=ruleHasB G H 8 (x::r) v:=by
 show (if x.c=82 then _ else _)=_
 rw[if_pos h];rfl
theorem hasQ_top {T:Type}(G:Nat→List It)(H:List It→T→Bool)(x:It)(r:List It)(v:Nd T)(h:x.c≠82):hasQ G H (x::r) v=hasTop H (x::r) v:=by
 show (if x.c=82 then _ else _)=_
 rw[if_neg h]
theorem has_in (c:Cx)(hc:CxOk c)(n:Nat)(ih:HasC c n)(f0:Nat):∀ (w:World) (wb:Nat) (its:List It) (own ctx sl:Bool) (f lo hi pb lo2 hi2 vb:Nat) (v:Nd (Tr n)),HPre c w wb→RepS f c.w0 lo hi pb sl its→hi≤c.w0.heap.size→TWf c.R f0 own ctx its→its.length≤1000→NdT (RepY n) w lo2 hi2 vb v→hi2≤w.heap.size→HasAt w wb pb vb (hasQ c.G (hasT c.G n) (inn its) v):=by
 induction f0 with
 | zero=>intro w wb its own ctx sl f lo hi pb lo2 hi2 vb v _ _ _ hw;exact hw.elim
 | succ f0 ihf=>
  intro w wb its own ctx sl f lo hi pb lo2 hi2 vb v hp hrep hhi hwf hlen hv hh2
  cases its with
  | nil=>exact hwf.elim
  | cons x r=>
  have hwf':=hwf
  obtain ⟨hx,hown,hctx,hrule,h2,h1,hkw⟩:=hwf
  cases hin:inB [119,64,115] x.c
  · rw[inn_out hin]
    by_cases h82:x.c=82
    · rw[hasQ_rule _ _ _ _ _ h82]
      obtain ⟨f',ps,p,hpt0,hit,_,_,_,_,⟨_,hpbh⟩,_,_⟩:=hrep.lens
      intro W hW
      have hpW:=hp.below hW
      refine has_walk c W wb pb vb p 6 138 _ hpW (hpt0.below hpW.bel (by omega)) (by rw[hit.k,h82];rfl) (by omega) rfl run_hasOfRule fun W' h'=>?_
      have hbW:Below w.heap.size w W':=hW.trans (h'.mono hW.size)
      have hpW':=hp.below hbW
      have hs':=hbW.size
      refine hasOfRule_calls c hc (hasT c.G n) v W' wb pb vb (x::r) hpW' ⟨Below.refl _ _,x,r,sl,f,lo,hi,hrep,hhi,h82,hx.it.r h82,hrule h82,rfl⟩ ?_
      intro qb f2 lo3 hi3 y r2 hrep2 hhi3 hwf2 hlen2 hy
      exact has_top c n ih W' wb y r2 false false false f2 lo3 hi3 qb lo2 hi2 vb v hpW' hrep2 hhi3 hwf2 hlen2 (hv.mono hh2 hbW) (by omega) hy hwf2.noUse
    · rw[hasQ_top _ _ _ _ _ h82]
      exact has_top c n ih w wb x r own ctx sl f lo hi pb lo2 hi2 vb v hp hrep hhi ⟨f0+1,hwf'⟩ hlen hv hh2 h82 hin
  · rw[inn_in hin]
    have hone:=h1 (by
     have:x.c=119∨x.c=64∨x.c=115:=by
      rcases kinds_list x.c hx.it.c with hxc | hxc | hxc | hxc | hxc | hxc | hxc | hxc | hxc | hxc | hxc | hxc | hxc | hxc | hxc
      all_goals first | exact Or.inl hxc | exact Or.inr (Or.inl hxc) | exact Or.inr (Or.inr hxc) | (rw[hxc] at hin;exact absurd hin (by decide))
     rcases this with h | h | h<;>rw[h]<;>rfl)
    obtain ⟨f',ps,p,hpt0,hit,_,hptrs,hkids,hsegs,⟨_,hpbh⟩,_,_⟩:=hrep.lens
    obtain ⟨z,rfl⟩:∃ z,ps=[z]:=by
     rw[hone] at hsegs
     match ps,hsegs with
     | [z],_=>exact ⟨z,rfl⟩
    have hz2:z.2=r:=by rw[hone] at hsegs;simpa using hsegs
    have hr:=hkids z (by simp)
    rw[hz2] at hr
    intro W hW
    have hpW:=hp.below hW
    have hcall:∀ W',Below W.heap.size W W'→Calls Tryz.prog 151 #[.pointer (some ⟨wb,0,none⟩),.pointer (some ⟨pb,0,none⟩),.pointer (some ⟨vb,0,none⟩)] W' fun e w'=>HasPost (hasQ c.G (hasT c.G n) (inn r) v) W' e w':=fun W' h'=>by
     have hbW:Below w.heap.size w W':=hW.trans (h'.mono hW.size)
     have hpW':=hp.below hbW
     have hs':=hbW.size
     have hpa:=(hptrs.mono (w':=W') (fun k _ k2=>hpW'.bel.block k (by omega)) (Nat.le_refl _) (Nat.le_refl _))
     obtain ⟨g,cap,e1,_,hg,_,hc1⟩:=hpa.at (by simp)
     refine hasOfInner_calls W' wb pb vb g cap z.1 _ p (hpt0.below hpW'.bel (by omega)) e1 (by rw[hc1 0 (by simp)];simp) ?_
     exact ihf W' wb r _ _ _ f' (pb+1) hi z.1 lo2 hi2 vb v hpW' hr hhi (hkw r (by rw[hone];simp)) (by simp at hlen;omega) (hv.mono hh2 hbW) (by omega)
    rcases kinds_list x.c hx.it.c with hxc | hxc | hxc | hxc | hxc | hxc | hxc | hxc | hxc | hxc | hxc | hxc | hxc | hxc | hxc
    · rw[hxc] at hin;exact absurd hin (by decide)
    · rw[hxc] at hin;exact absurd hin (by decide)
    · rw[hxc] at hin;exact absurd hin (by decide)
    · rw[hxc] at hin;exact absurd hin (by decide)
    · rw[hxc] at hin;exact absurd hin (by decide)
    · rw[hxc] at hin;exact absurd hin (by decide)
    · rw[hxc] at hin;exact absurd hin (by decide)
    · rw[hxc] at hin;exact absurd hin (by decide)
    · rw[hxc] at hin;exact absurd hin (by decide)
    · rw[hxc] at hin;exact absurd hin (by decide)
    · rw[hxc] at hin;exact absurd hin (by decide)
    · exact has_walk c W wb pb vb p 11 151 _ hpW (hpt0.below hpW.bel (by omega)) (by rw[hit.k,hxc];rfl) (by omega) rfl run_hasOfInner hcall
    · exact has_walk c W wb pb vb p 12 151 _ hpW (hpt0.below hpW.bel (by omega)) (by rw[hit.k,hxc];rfl) (by omega) rfl run_hasOfInner hcall
    · exact has_walk c W wb pb vb p 13 151 _ hpW (hpt0.below hpW.bel (by omega)) (by rw[hit.k,hxc];rfl) (by omega) rfl run_hasOfInner hcall
    · rw[hxc] at hin;exact absurd hin (by decide)
theorem has_all (c:Cx)(hc:CxOk c)(n:Nat):HasC c n:=by
 induction n with
 | zero=>intro w wb its own ctx sl f lo hi pb lo2 hi2 vb x _ _ _ _ _ h;exact h.elim
 | succ n ih=>
  intro w wb its own ctx sl f lo hi pb lo2 hi2 vb x hp hrep hhi hwf hlen hv hh2
  obtain ⟨f0,hw0⟩:=hwf
  exact has_in c hc n ih f0 w wb its own ctx sl f lo hi pb lo2 hi2 vb x hp hrep hhi hw0 hlen hv hh2
def hoF:Option Ho→Value
 | none=>.nilFunc
 | some h=>fnV (if h.low then 183 else 180)
def hoC (o:Option Ho):List Value:=[.int .i64 ((o.getD ho0).pl:Nat),.int .i64 ((o.getD ho0).w:Nat),hoF o]
def holC (f:Nat→Option Ho):Array Value:=((List.range 8).flatMap fun d=>hoC (f d)).toArray
theorem holC_cell (f:Nat→Option Ho)(d:Nat)(hd:d<8):(holC f)[3*d]? = some (.int .i64 (((f d).getD ho0).pl:Nat))∧(holC f)[3*d+1]? = some (.int .i64 (((f d).getD ho0).w:Nat))∧(holC f)[3*d+2]? = some (hoF (f d)):=by
 have h8:d=0∨d=1∨d=2∨d=3∨d=4∨d=5∨d=6∨d=7:=by omega
 rcases h8 with rfl | rfl | rfl | rfl | rfl | rfl | rfl | rfl<;>exact ⟨rfl,rfl,rfl⟩
def spC (s:Sp):List Value:=[.int .i64 (s.a:Nat),.int .i64 (s.b:Nat)]++hoC (some s.ho)
def wrTail (gb:Nat)(bv:Value)(wide:Bool)(tv sv:Value):List Value:=[.pointer (some ⟨gb,0,none⟩),bv,.bool wide,tv,sv]
def wrC (gb:Nat)(bv:Value)(wide:Bool)(tv sv:Value):Array Value:=(doFns++wrTail gb bv wide tv sv).toArray
def rst (tv sv:Value)(svs:List Value)(hbs:List Nat):List Nat:=tv.ownBlock.toList++(sv.ownBlock.toList++(svs.filterMap Value.ownBlock++hbs))
def WaitAt (c:Cx)(B:Nat)(w:World)(tv:Value)(hbs:List Nat)(l:List Wt):Prop:=
 ∃ xs,OffRow w B 192 6 tv l.length xs∧
  ∀ j (h:j<l.length),∃ pb vb hb sl own ctx f lo hi lo2 hi2,((xs.drop (j*6)).take 6=[.pointer (some ⟨pb,0,none⟩),.pointer (some ⟨vb,0,none⟩),.pointer (some ⟨hb,0,none⟩)]++hoC (some l[j].ho))∧hbs[l[j].hid]? = some hb∧
   RepS f c.w0 lo hi pb sl l[j].its∧hi≤c.w0.heap.size∧TrW c.R own ctx l[j].its∧l[j].its.length≤1000∧NdT (RepY l[j].n) w lo2 hi2 vb l[j].v∧hi2≤B
structure WrM (c:Cx) (B:Nat) (w:World) (wb:Nat) (bv tv sv:Value) (svs:List Value) (hbs:List Nat) (st:Wr):Prop where
 blk:Blk w wb (wrC c.gb bv st.wide tv sv) 120
 out:w.ownsRow B 5 1 bv st.out.length (byteC st.out)
 wait:WaitAt c B w tv hbs st.wait
 sums:w.ownsRow B 197 1 sv svs.length svs
 sumsL:svs.length=st.sums.length
 sum:∀ (i:Nat) (s:Value) (l:List Sp),svs[i]? = some s→st.sums[i]? = some l→w.ownsRow B 199 5 s l.length (l.flatMap spC)
 hol:∀ (i b:Nat) (f:Nat→Option Ho),hbs[i]? = some b→st.hol[i]? = some f→Blk w b (holC f) 270
 holL:hbs.length=st.hol.length
 nd:(wb::rst tv sv svs hbs).Nodup
 nb:∀ g,bv.ownBlock=some g→g ∉ wb::rst tv sv svs hbs
 ge:∀ b∈wb::rst tv sv svs hbs,B≤b∧b<w.heap.size
 bel:Below c.w0.heap.size c.w0 w
 leB:c.w0.heap.size≤B
theorem mem_rst_tv {tv sv:Value}{svs:List Value}{hbs:List Nat}{g:Nat}(h:tv.ownBlock=some g):g∈rst tv sv svs hbs:=by unfold rst;simp[h]
theorem mem_rst_sv {tv sv:Value}{svs:List Value}{hbs:List Nat}{g:Nat}(h:sv.ownBlock=some g):g∈rst tv sv svs hbs:=by unfold rst;simp[h]
theorem mem_rst_svs {tv sv:Value}{svs:List Value}{hbs:List Nat}{g i:Nat}{s:Value}(h0:svs[i]? = some s)(h:s.ownBlock=some g):g∈rst tv sv svs hbs:=by
 have:s∈svs:=List.mem_of_getElem? h0
 unfold rst;simp only[List.mem_append,List.mem_filterMap];exact Or.inr (Or.inr (Or.inl ⟨s,this,h⟩))
theorem mem_rst_hbs {tv sv:Value}{svs:List Value}{hbs:List Nat}{g i:Nat}(h0:hbs[i]? = some g):g∈rst tv sv svs hbs:=by
 have:g∈hbs:=List.mem_of_getElem? h0
 unfold rst;simp[this]
theorem WaitAt.keep {c:Cx}{B:Nat}{w w':World}{tv:Value}{hbs:List Nat}{l:List Wt}(h:WaitAt c B w tv hbs l)(hb:Below B w w')(hk:∀ g,tv.ownBlock=some g→w'.heap[g]? = w.heap[g]?):WaitAt c B w' tv hbs l:=by
 obtain ⟨xs,h1,h7⟩:=h
 · refine ⟨xs,h1.blocks hk,fun j hj=>?_⟩
   obtain ⟨pb,vb,hb',sl,own,ctx,f,lo,hi,lo2,hi2,a1,a2,a3,a4,a5,a6,a7,a8⟩:=h7 j hj
   exact ⟨pb,vb,hb',sl,own,ctx,f,lo,hi,lo2,hi2,a1,a2,a3,a4,a5,a6,RepY.mono (l[j].n+1) (x:=l[j].v) a7 (fun k _ k2=>hb.block k (by omega)) (Nat.le_refl _) (Nat.le_refl _),a8⟩
theorem WrM.next {c:Cx}{B:Nat}{w w':World}{wb:Nat}{bv bv' tv sv:Value}{svs:List Value}{hbs:List Nat}{st:Wr}{wide:Bool}{out:List UInt8}(h:WrM c B w wb bv tv sv svs hbs st)(hb:Below B w w')(hk:∀ b,b∈rst tv sv svs hbs→w'.heap[b]? = w.heap[b]?)(hblk:Blk w' wb (wrC c.gb bv' wide tv sv) 120)(hown:w'.ownsRow B 5 1 bv' out.length (byteC out))(hnb:∀ g,bv'.ownBlock=some g→g ∉ wb::rst tv sv svs hbs):
 WrM c B w' wb bv' tv sv svs hbs { st with wide:=wide,out:=out }:=
 ⟨hblk,hown,h.wait.keep hb (fun g e=>hk g (mem_rst_tv e)),ownsRow_blocks h.sums (fun g e=>hk g (mem_rst_sv e)),h.sumsL,
  fun i s l h1 h2=>ownsRow_blocks (h.sum i s l h1 h2) (fun g e=>hk g (mem_rst_svs h1 e)),
  fun i b f h1 h2=>by have:=h.hol i b f h1 h2;unfold Blk at *;rw[hk b (mem_rst_hbs h1)];exact this,h.holL,h.nd,hnb,
  fun b hm=>⟨(h.ge b hm).1,Nat.lt_of_lt_of_le (h.ge b hm).2 hb.size⟩,h.bel.trans (hb.mono h.leB),h.leB⟩
theorem WrM.keep {c:Cx}{B:Nat}{w w':World}{wb:Nat}{bv tv sv:Value}{svs:List Value}{hbs:List Nat}{st:Wr}(h:WrM c B w wb bv tv sv svs hbs st)(hb:Below B w w')(hk:∀ b,B≤b→b<w.heap.size→w'.heap[b]? = w.heap[b]?):WrM c B w' wb bv tv sv svs hbs st:=by
 have hg:∀ b,b∈wb::rst tv sv svs hbs→w'.heap[b]? = w.heap[b]? := fun b hm=>hk b (h.ge b hm).1 (h.ge b hm).2
 have:=WrM.next (bv':=bv) (wide:=st.wide) (out:=st.out) h hb (fun b hm=>hg b (List.mem_cons_of_mem _ hm)) (by have:=h.blk;unfold Blk at *;rw[hg wb List.mem_cons_self];exact this) (ownsRow_blocks h.out fun g e=>by have:=h.out.lt g e;exact hk g this.1 this.2) h.nb
 exact this
theorem WrM.pre {c:Cx}{B:Nat}{w:World}{wb:Nat}{bv tv sv:Value}{svs:List Value}{hbs:List Nat}{st:Wr}(h:WrM c B w wb bv tv sv svs hbs st):HPre c w wb:=by
 have hg:=h.ge wb List.mem_cons_self
 have hl:=h.leB
 refine ⟨h.bel,by omega,fun j v hj=>?_,?_,hg.2⟩
 · rw[h.blk.cell j]
   unfold wrC
   have hlt:j<doFns.length:=(List.getElem?_eq_some_iff.1 hj).1
   rw[List.getElem?_toArray,List.getElem?_append_left hlt,hj]
 · exact h.blk.cell 45
end Go.Proofs.YtmlkhhhjdpbhfaaGreatDoor

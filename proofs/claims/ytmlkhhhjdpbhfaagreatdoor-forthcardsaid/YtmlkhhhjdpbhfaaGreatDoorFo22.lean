import Derived.Test.YtmlkhhhjdpbhfaaGreatDoorFo21
import Derived.Test.YtmlkhhhjdpbhfaaGreatDoorFo04
import Derived.Deep.WholeRow
import Derived.Great.BuildSlice
namespace Go.Proofs.YtmlkhhhjdpbhfaaGreatDoor
open Go.RowKit
theorem oneKid {c:Cx}{w:World}{p:Pt}{r:List It}{kids:List (Nat × List It)}{f lo hi:Nat}(h1:kids.map Prod.snd=[r])(h2:PtrsAt c.w0 lo hi p.v (kids.map Prod.fst))(h3:∀ q,q∈kids→RepS f c.w0 lo hi q.1 false q.2)(h4:hi≤c.w0.heap.size):OneKid c w p r:=by
 match kids,h1 with
 | [(qb,k)],h1=>
  simp at h1
  subst h1
  rcases h2 with ⟨_,h⟩ | ⟨g,cap,e1,e2,e3,e4,e5⟩
  · simp at h
  · exact ⟨g,cap,qb,f,lo,hi,e1,by omega,e5 0 (by simp),h3 (qb,k) (by simp),h4⟩
theorem twoKids {c:Cx}{p:Pt}{kids:List (Nat × List It)}{f lo hi:Nat}(h0:kids.length=2)(h2:PtrsAt c.w0 lo hi p.v (kids.map Prod.fst))(h3:∀ q,q∈kids→RepS f c.w0 lo hi q.1 false q.2)(h4:hi≤c.w0.heap.size):TwoKids c p ((kids.map Prod.snd).getD 0 []) ((kids.map Prod.snd).getD 1 []):=by
 match kids,h0 with
 | [(q0,k0),(q1,k1)],_=>
  rcases h2 with ⟨_,h⟩ | ⟨g,cap,e1,e2,e3,e4,e5⟩
  · simp at h
  · exact ⟨g,cap,q0,q1,f,lo,hi,e1,by omega,e5 0 (by simp),e5 1 (by simp),h3 (q0,k0) (by simp),h3 (q1,k1) (by simp),h4⟩
theorem kinds_list (c:Int)(h:c=82∨c=39∨kAny c=true):c=110∨c=108∨c=39∨c=40∨c=47∨c=42∨c=82∨c=104∨c=107∨c=114∨c=116∨c=119∨c=64∨c=115∨c=46:=by
 rcases h with h | h | h
 · subst h;decide
 · subst h;decide
 · simp only[kAny,inB,List.any_cons,List.any_nil,Bool.or_false,Bool.or_eq_true,beq_iff_eq] at h
   rcases h with h | h | h | h | h | h | h | h | h | h | h | h | h<;>simp at h<;>subst h<;>decide
theorem tryT_succ (G:Nat→List It)(bs:ByteArray)(N g fuel far:Nat)(q:Bool)(x:It)(r:List It)(st:PS):tryT G bs N (g+1) (fuel+1) far q (x::r) st=
 if x.c=40 then wholeT (tryT G bs N g) N (segs r.length r) fuel far st
 else if x.c=47 then choiceT (tryT G bs N g) N ((segs r.length r).getD 0 []) ((segs r.length r).getD 1 []) fuel far st
 else if x.c=42 then manyT (tryT G bs N g) N r (fuel+1) fuel far st []
 else if x.c=82 then tryT G bs N g fuel far false (G x.r.toNat) st
 else if x.c=116 then timesT (tryT G bs N g) N r (st.deps x.d.toNat).1 fuel far st []
 else if x.c=119 then windowT (tryT G bs N g) (st.deps x.d.toNat).1 r fuel far st
 else if x.c=64 then atT (tryT G bs N g) bs (st.deps x.d.toNat).1 r fuel far st
 else if x.c=115 then summedT (tryT G bs N g) bs (st.deps x.d.toNat) r fuel far st
 else bytesT bs N x q fuel far st:=rfl
theorem tryC (c:Cx)(hc:CxOk c):∀ g,TryC c g:=by
 intro g
 induction g with
 | zero=>
  intro w s st ho k own ctx sl q f lo hi pb hp hrep hhi hwf hho hq hf
  exact try_zero c w s st ho _ _ pb hp (by omega)
 | succ g ih=>
  intro w s st ho k own ctx sl q f lo hi pb hp hrep hhi hwf hho hq hf
  obtain ⟨f0,hwf0⟩:=hwf
  cases f0 with
  | zero=>exact hwf0.elim
  | succ f0=>
  cases k with
  | nil=>exact hwf0.elim
  | cons x r=>
  obtain ⟨hx,hown,hctx,hrule,h2,h1,hkw⟩:=hwf0
  obtain ⟨f',kids,p,hpt0,hit,hsl,hptrs,hkids,hsegs,hlo,hpbh⟩:=hrep.open
  have hle:=hc.le
  have hpb:pb<c.rb:=by omega
  have hpt:PtBlk w pb p:=hpt0.below hp.bel (by omega)
  obtain ⟨fu,nd,fa,rdd,spp,svv⟩:=s
  cases fu with
  | zero=>exact try_zero c w _ st ho _ _ pb hp rfl
  | succ F=>
  have hF:F≤g:=by simp only at hf;omega
  have hbud:=hp.bud
  simp only at hbud
  have hq2:p.sl=q:=by rw[hsl,hq];congr 1;exact silB_silV x r
  rcases kinds_list x.c hx.it.c with hxc | hxc | hxc | hxc | hxc | hxc | hxc | hxc | hxc | hxc | hxc | hxc | hxc | hxc | hxc
  · -- 110
    have hO:tryT c.G c.bs c.N (g+1) (F+1) fa q (x::r) st=bytesT c.bs c.N x q F fa st:=by
     rw[tryT_succ]
     rw[if_neg (by rw[hxc];decide),if_neg (by rw[hxc];decide),if_neg (by rw[hxc];decide),if_neg (by rw[hxc];decide),if_neg (by rw[hxc];decide),if_neg (by rw[hxc];decide),if_neg (by rw[hxc];decide),if_neg (by rw[hxc];decide)]
    have hH:hidK (x::r) ho=none:=by
     show (if hidesB x.c then _ else _)=_
     rw[hxc];rfl
    have hS:silK q (x::r)=false:=by
     show (hidesB x.c||(q&&decide (x.c=39)))=_
     rw[hxc];cases q<;>rfl
    rw[hH,hS]
    simp only
    rw[hO]
    exact try_walk c hc w _ st ho none false _ pb p 0 120 F hp hpt hpb (by rw[hit.k,hxc];rfl) (by omega) rfl run_tryNumber rfl (fun W hP hQ=>number_calls c hc W _ st ho pb p x q hP (by simp only;omega) hQ hit hx hxc hpb)
  · -- 108
    have hO:tryT c.G c.bs c.N (g+1) (F+1) fa q (x::r) st=bytesT c.bs c.N x q F fa st:=by
     rw[tryT_succ]
     rw[if_neg (by rw[hxc];decide),if_neg (by rw[hxc];decide),if_neg (by rw[hxc];decide),if_neg (by rw[hxc];decide),if_neg (by rw[hxc];decide),if_neg (by rw[hxc];decide),if_neg (by rw[hxc];decide),if_neg (by rw[hxc];decide)]
    have hH:hidK (x::r) ho=none:=by
     show (if hidesB x.c then _ else _)=_
     rw[hxc];rfl
    have hS:silK q (x::r)=false:=by
     show (hidesB x.c||(q&&decide (x.c=39)))=_
     rw[hxc];cases q<;>rfl
    rw[hH,hS]
    simp only
    rw[hO]
    exact try_walk c hc w _ st ho none false _ pb p 1 123 F hp hpt hpb (by rw[hit.k,hxc];rfl) (by omega) rfl run_tryLowNumber rfl (fun W hP hQ=>low_calls c hc W _ st ho pb p x q hP (by simp only;omega) hQ hit hx hxc hpb)
  · -- 39
    have hO:tryT c.G c.bs c.N (g+1) (F+1) fa q (x::r) st=bytesT c.bs c.N x q F fa st:=by
     rw[tryT_succ]
     rw[if_neg (by rw[hxc];decide),if_neg (by rw[hxc];decide),if_neg (by rw[hxc];decide),if_neg (by rw[hxc];decide),if_neg (by rw[hxc];decide),if_neg (by rw[hxc];decide),if_neg (by rw[hxc];decide),if_neg (by rw[hxc];decide)]
    have hH:hidK (x::r) ho=none:=by
     show (if hidesB x.c then _ else _)=_
     rw[hxc];rfl
    have hS:silK q (x::r)=q:=by
     show (hidesB x.c||(q&&decide (x.c=39)))=_
     rw[hxc];cases q<;>rfl
    rw[hH,hS]
    simp only
    rw[hO]
    exact try_walk c hc w _ st ho none q _ pb p 2 125 F hp hpt hpb (by rw[hit.k,hxc];rfl) (by omega) rfl run_tryFixed rfl (fun W hP hQ=>fixed_calls c hc W _ st ho pb p x q hP (by simp only;omega) hQ hit hx hxc hpb hq2)
  · -- 40
    have hO:tryT c.G c.bs c.N (g+1) (F+1) fa q (x::r) st=wholeT (tryT c.G c.bs c.N g) c.N (kids.map Prod.snd) F fa st:=by
     rw[hsegs,tryT_succ]
     rw[if_pos hxc]
    have hH:hidK (x::r) ho=none:=by
     show (if hidesB x.c then _ else _)=_
     rw[hxc];rfl
    have hS:silK q (x::r)=false:=by
     show (hidesB x.c||(q&&decide (x.c=39)))=_
     rw[hxc];cases q<;>rfl
    rw[hH,hS]
    simp only
    rw[hO]
    exact try_walk c hc w _ st ho none false _ pb p 3 128 F hp hpt hpb (by rw[hit.k,hxc];rfl) (by omega) rfl run_tryStruct rfl (fun W hP hQ=>tstruct_calls c hc g ih W _ st ho pb p kids f' (pb+1) hi hP hpt0 hptrs (fun q hq=>by have:=hkids q hq;rw[hxc] at this;exact this) hhi (fun q hq=>⟨f0,by have:=hkw q.2 (by rw[← hsegs];exact List.mem_map_of_mem hq);rw[hxc] at this;simpa using this⟩) hF)
  · -- 47
    have hO:tryT c.G c.bs c.N (g+1) (F+1) fa q (x::r) st=choiceT (tryT c.G c.bs c.N g) c.N ((kids.map Prod.snd).getD 0 []) ((kids.map Prod.snd).getD 1 []) F fa st:=by
     rw[hsegs];rw[tryT_succ]
     rw[if_neg (by rw[hxc];decide),if_pos hxc]
    have hl:=h2 hxc
    have hlen:kids.length=2:=by rw[← hsegs] at hl;simpa using hl
    have hm0:(kids.map Prod.snd).getD 0 []∈segs r.length r:=by rw[hsegs,getD_lt _ _ _ (by omega)];exact List.getElem_mem _
    have hm1:(kids.map Prod.snd).getD 1 []∈segs r.length r:=by rw[hsegs,getD_lt _ _ _ (by omega)];exact List.getElem_mem _
    have hkid0:∀ k,k∈segs r.length r→TrW c.R false false k:=fun k hk=>⟨f0,by have:=hkw k hk;rw[hxc] at this;simpa[inB] using this⟩
    have hH:hidK (x::r) ho=none:=by
     show (if hidesB x.c then _ else _)=_
     rw[hxc];rfl
    have hS:silK q (x::r)=false:=by
     show (hidesB x.c||(q&&decide (x.c=39)))=_
     rw[hxc];cases q<;>rfl
    rw[hH,hS]
    simp only
    rw[hO]
    exact try_walk c hc w _ st ho none false _ pb p 4 131 F hp hpt hpb (by rw[hit.k,hxc];rfl) (by omega) rfl run_tryChoice rfl (fun W hP hQ=>choice_calls c hc g ih W _ st ho pb p _ _ hP hQ (twoKids hlen hptrs (fun q hq=>by have:=hkids q hq;rw[hxc] at this;exact this) hhi) (hkid0 _ hm0) (hkid0 _ hm1) hpb hF)
  · -- 42
    have hO:tryT c.G c.bs c.N (g+1) (F+1) fa q (x::r) st=manyT (tryT c.G c.bs c.N g) c.N r (F+1) F fa st []:=by
     rw[tryT_succ]
     rw[if_neg (by rw[hxc];decide),if_neg (by rw[hxc];decide),if_pos hxc]
    have hs1:=h1 (by rw[hxc];rfl)
    have hone:kids.map Prod.snd=[r]:=by rw[hsegs,hs1]
    have hkr:TrW c.R false false r:=⟨f0,by have:=hkw r (by rw[hs1];simp);rw[hxc] at this;simpa[inB] using this⟩
    have hH:hidK (x::r) ho=none:=by
     show (if hidesB x.c then _ else _)=_
     rw[hxc];rfl
    have hS:silK q (x::r)=false:=by
     show (hidesB x.c||(q&&decide (x.c=39)))=_
     rw[hxc];cases q<;>rfl
    rw[hH,hS]
    simp only
    rw[hO]
    exact try_walk c hc w _ st ho none false _ pb p 5 134 F hp hpt hpb (by rw[hit.k,hxc];rfl) (by omega) rfl run_tryMany rfl (fun W hP hQ=>many_calls c hc g ih W _ st ho pb p r hP hpt0 (oneKid hone hptrs (fun q hq=>by have:=hkids q hq;rw[hxc] at this;exact this) hhi) hkr hF)
  · -- 82
    have hO:tryT c.G c.bs c.N (g+1) (F+1) fa q (x::r) st=tryT c.G c.bs c.N g F fa false (c.G x.r.toNat) st:=by
     rw[tryT_succ]
     rw[if_neg (by rw[hxc];decide),if_neg (by rw[hxc];decide),if_neg (by rw[hxc];decide),if_pos hxc]
    have hH:hidK (x::r) ho=none:=by
     show (if hidesB x.c then _ else _)=_
     rw[hxc];rfl
    have hS:silK q (x::r)=false:=by
     show (hidesB x.c||(q&&decide (x.c=39)))=_
     rw[hxc];cases q<;>rfl
    rw[hH,hS]
    simp only
    rw[hO]
    exact try_walk c hc w _ st ho none false _ pb p 6 137 F hp hpt hpb (by rw[hit.k,hxc];rfl) (by omega) rfl run_tryRule rfl (fun W hP hQ=>tryRule_calls c hc g ih W _ st ho pb p x hP hQ hit hx hxc (hrule hxc) hpb hF)
  · -- 104
    obtain ⟨h,rfl⟩:=Option.isSome_iff_exists.1 (hho (Or.inl (hown (by rw[hxc];rfl))))
    have hO:tryT c.G c.bs c.N (g+1) (F+1) fa q (x::r) st=bytesT c.bs c.N x q F fa st:=by
     rw[tryT_succ]
     rw[if_neg (by rw[hxc];decide),if_neg (by rw[hxc];decide),if_neg (by rw[hxc];decide),if_neg (by rw[hxc];decide),if_neg (by rw[hxc];decide),if_neg (by rw[hxc];decide),if_neg (by rw[hxc];decide),if_neg (by rw[hxc];decide)]
    have hH:hidK (x::r) (some h)=(some h):=by
     show (if hidesB x.c then _ else _)=_
     rw[hxc];rfl
    have hS:silK q (x::r)=true:=by
     show (hidesB x.c||(q&&decide (x.c=39)))=_
     rw[hxc];cases q<;>rfl
    rw[hH,hS]
    simp only
    rw[hO]
    exact try_walk c hc w _ st (some h) (some h) true _ pb p 7 140 F hp hpt hpb (by rw[hit.k,hxc];rfl) (by omega) rfl run_tryHidden rfl (fun W hP hQ=>hidden_calls c hc W _ st h pb p x q hP (by simp only;omega) hQ hit hx hxc hpb)
  · -- 107
    obtain ⟨h,rfl⟩:=Option.isSome_iff_exists.1 (hho (Or.inl (hown (by rw[hxc];rfl))))
    have hO:tryT c.G c.bs c.N (g+1) (F+1) fa q (x::r) st=bytesT c.bs c.N x q F fa st:=by
     rw[tryT_succ]
     rw[if_neg (by rw[hxc];decide),if_neg (by rw[hxc];decide),if_neg (by rw[hxc];decide),if_neg (by rw[hxc];decide),if_neg (by rw[hxc];decide),if_neg (by rw[hxc];decide),if_neg (by rw[hxc];decide),if_neg (by rw[hxc];decide)]
    have hH:hidK (x::r) (some h)=(some h):=by
     show (if hidesB x.c then _ else _)=_
     rw[hxc];rfl
    have hS:silK q (x::r)=true:=by
     show (hidesB x.c||(q&&decide (x.c=39)))=_
     rw[hxc];cases q<;>rfl
    rw[hH,hS]
    simp only
    rw[hO]
    exact try_walk c hc w _ st (some h) (some h) true _ pb p 8 143 F hp hpt hpb (by rw[hit.k,hxc];rfl) (by omega) rfl run_tryLowHidden rfl (fun W hP hQ=>lowHidden_calls c hc W _ st h pb p x q hP (by simp only;omega) hQ hit hx hxc hpb)
  · -- 114
    obtain ⟨h,rfl⟩:=Option.isSome_iff_exists.1 (hho (Or.inr (hctx (by rw[hxc];rfl))))
    have hO:tryT c.G c.bs c.N (g+1) (F+1) fa q (x::r) st=bytesT c.bs c.N x q F fa st:=by
     rw[tryT_succ]
     rw[if_neg (by rw[hxc];decide),if_neg (by rw[hxc];decide),if_neg (by rw[hxc];decide),if_neg (by rw[hxc];decide),if_neg (by rw[hxc];decide),if_neg (by rw[hxc];decide),if_neg (by rw[hxc];decide),if_neg (by rw[hxc];decide)]
    have hH:hidK (x::r) (some h)=none:=by
     show (if hidesB x.c then _ else _)=_
     rw[hxc];rfl
    have hS:silK q (x::r)=false:=by
     show (hidesB x.c||(q&&decide (x.c=39)))=_
     rw[hxc];cases q<;>rfl
    rw[hH,hS]
    simp only
    rw[hO]
    exact try_walk c hc w _ st (some h) none false _ pb p 9 145 F hp hpt hpb (by rw[hit.k,hxc];rfl) (by omega) rfl run_tryRun rfl (fun W hP hQ=>run_calls c hc W _ st h pb p x q hP (by simp only;omega) hQ hit hx hxc hpb)
  · -- 116
    obtain ⟨h,rfl⟩:=Option.isSome_iff_exists.1 (hho (Or.inr (hctx (by rw[hxc];rfl))))
    have hO:tryT c.G c.bs c.N (g+1) (F+1) fa q (x::r) st=timesT (tryT c.G c.bs c.N g) c.N r (st.deps x.d.toNat).1 F fa st []:=by
     rw[tryT_succ]
     rw[if_neg (by rw[hxc];decide),if_neg (by rw[hxc];decide),if_neg (by rw[hxc];decide),if_neg (by rw[hxc];decide),if_pos hxc]
    have hs1:=h1 (by rw[hxc];rfl)
    have hone:kids.map Prod.snd=[r]:=by rw[hsegs,hs1]
    have hkr:TrW c.R false false r:=⟨f0,by have:=hkw r (by rw[hs1];simp);rw[hxc] at this;simpa[inB] using this⟩
    have hH:hidK (x::r) (some h)=none:=by
     show (if hidesB x.c then _ else _)=_
     rw[hxc];rfl
    have hS:silK q (x::r)=false:=by
     show (hidesB x.c||(q&&decide (x.c=39)))=_
     rw[hxc];cases q<;>rfl
    rw[hH,hS]
    simp only
    rw[hO]
    exact try_walk c hc w _ st (some h) none false _ pb p 10 148 F hp hpt hpb (by rw[hit.k,hxc];rfl) (by omega) rfl run_tryTimes rfl (fun W hP hQ=>times_calls c hc g ih W _ st h pb p x r hP hpt0 hit hx hxc (oneKid hone hptrs (fun q hq=>by have:=hkids q hq;rw[hxc] at this;exact this) hhi) hkr hF)
  · -- 119
    obtain ⟨h,rfl⟩:=Option.isSome_iff_exists.1 (hho (Or.inr (hctx (by rw[hxc];rfl))))
    have hO:tryT c.G c.bs c.N (g+1) (F+1) fa q (x::r) st=windowT (tryT c.G c.bs c.N g) (st.deps x.d.toNat).1 r F fa st:=by
     rw[tryT_succ]
     rw[if_neg (by rw[hxc];decide),if_neg (by rw[hxc];decide),if_neg (by rw[hxc];decide),if_neg (by rw[hxc];decide),if_neg (by rw[hxc];decide),if_pos hxc]
    have hs1:=h1 (by rw[hxc];rfl)
    have hone:kids.map Prod.snd=[r]:=by rw[hsegs,hs1]
    have hkr:TrW c.R false ctx r:=⟨f0,by have:=hkw r (by rw[hs1];simp);rw[hxc] at this;simpa[inB] using this⟩
    have hH:hidK (x::r) (some h)=none:=by
     show (if hidesB x.c then _ else _)=_
     rw[hxc];rfl
    have hS:silK q (x::r)=false:=by
     show (hidesB x.c||(q&&decide (x.c=39)))=_
     rw[hxc];cases q<;>rfl
    rw[hH,hS]
    simp only
    rw[hO]
    exact try_walk c hc w _ st (some h) none false _ pb p 11 150 F hp hpt hpb (by rw[hit.k,hxc];rfl) (by omega) rfl run_tryWindow rfl (fun W hP hQ=>window_calls c hc g ih W _ st h pb p x r ctx hP hQ hit hx hxc (oneKid hone hptrs (fun q hq=>by have:=hkids q hq;rw[hxc] at this;exact this) hhi) hkr hpb hF)
  · -- 64
    obtain ⟨h,rfl⟩:=Option.isSome_iff_exists.1 (hho (Or.inr (hctx (by rw[hxc];rfl))))
    have hO:tryT c.G c.bs c.N (g+1) (F+1) fa q (x::r) st=atT (tryT c.G c.bs c.N g) c.bs (st.deps x.d.toNat).1 r F fa st:=by
     rw[tryT_succ]
     rw[if_neg (by rw[hxc];decide),if_neg (by rw[hxc];decide),if_neg (by rw[hxc];decide),if_neg (by rw[hxc];decide),if_neg (by rw[hxc];decide),if_neg (by rw[hxc];decide),if_pos hxc]
    have hs1:=h1 (by rw[hxc];rfl)
    have hone:kids.map Prod.snd=[r]:=by rw[hsegs,hs1]
    have hkr:TrW c.R false ctx r:=⟨f0,by have:=hkw r (by rw[hs1];simp);rw[hxc] at this;simpa[inB] using this⟩
    have hH:hidK (x::r) (some h)=none:=by
     show (if hidesB x.c then _ else _)=_
     rw[hxc];rfl
    have hS:silK q (x::r)=false:=by
     show (hidesB x.c||(q&&decide (x.c=39)))=_
     rw[hxc];cases q<;>rfl
    rw[hH,hS]
    simp only
    rw[hO]
    exact try_walk c hc w _ st (some h) none false _ pb p 12 153 F hp hpt hpb (by rw[hit.k,hxc];rfl) (by omega) rfl run_tryAt rfl (fun W hP hQ=>at_calls c hc g ih W _ st h pb p x r ctx hP hQ hit hx hxc (oneKid hone hptrs (fun q hq=>by have:=hkids q hq;rw[hxc] at this;exact this) hhi) hkr hpb hF)
  · -- 115
    obtain ⟨h,rfl⟩:=Option.isSome_iff_exists.1 (hho (Or.inr (hctx (by rw[hxc];rfl))))
    have hO:tryT c.G c.bs c.N (g+1) (F+1) fa q (x::r) st=summedT (tryT c.G c.bs c.N g) c.bs (st.deps x.d.toNat) r F fa st:=by
     rw[tryT_succ]
     rw[if_neg (by rw[hxc];decide),if_neg (by rw[hxc];decide),if_neg (by rw[hxc];decide),if_neg (by rw[hxc];decide),if_neg (by rw[hxc];decide),if_neg (by rw[hxc];decide),if_neg (by rw[hxc];decide),if_pos hxc]
    have hs1:=h1 (by rw[hxc];rfl)
    have hone:kids.map Prod.snd=[r]:=by rw[hsegs,hs1]
    have hkr:TrW c.R false ctx r:=⟨f0,by have:=hkw r (by rw[hs1];simp);rw[hxc] at this;simpa[inB] using this⟩
    have hH:hidK (x::r) (some h)=none:=by
     show (if hidesB x.c then _ else _)=_
     rw[hxc];rfl
    have hS:silK q (x::r)=false:=by
     show (hidesB x.c||(q&&decide (x.c=39)))=_
     rw[hxc];cases q<;>rfl
    rw[hH,hS]
    simp only
    rw[hO]
    exact try_walk c hc w _ st (some h) none false _ pb p 13 155 F hp hpt hpb (by rw[hit.k,hxc];rfl) (by omega) rfl run_trySummed rfl (fun W hP hQ=>summed_calls c hc g ih W _ st h pb p x r ctx hP hQ hit hx hxc (oneKid hone hptrs (fun q hq=>by have:=hkids q hq;rw[hxc] at this;exact this) hhi) hkr hpb hF)
  · -- 46
    have hO:tryT c.G c.bs c.N (g+1) (F+1) fa q (x::r) st=bytesT c.bs c.N x q F fa st:=by
     rw[tryT_succ]
     rw[if_neg (by rw[hxc];decide),if_neg (by rw[hxc];decide),if_neg (by rw[hxc];decide),if_neg (by rw[hxc];decide),if_neg (by rw[hxc];decide),if_neg (by rw[hxc];decide),if_neg (by rw[hxc];decide),if_neg (by rw[hxc];decide)]
    have hH:hidK (x::r) ho=none:=by
     show (if hidesB x.c then _ else _)=_
     rw[hxc];rfl
    have hS:silK q (x::r)=false:=by
     show (hidesB x.c||(q&&decide (x.c=39)))=_
     rw[hxc];cases q<;>rfl
    rw[hH,hS]
    simp only
    rw[hO]
    exact try_walk c hc w _ st ho none false _ pb p 14 157 F hp hpt hpb (by rw[hit.k,hxc];rfl) (by omega) rfl run_tryRest rfl (fun W hP hQ=>rest_calls c hc W _ st ho pb x q hP (by simp only;omega) hxc)
theorem wpL_val {P:Program}{ops:Array Oper}{Q:Exit→Act→World→Prop}{a:Act}{w w':World}{rest:List Oper}{o:Oper}(v:Value)(hg:o.guard=none)(h:(execOp a.eval o).run P w=.ok (.value v) w')(hk:wpList P ops Q rest (a.put o.dst v) w'):wpList P ops Q (o::rest) a w:=
 wpList_plain hg fun K hK=>by unfold Oper.wp;rw[h,Oper.upon_value];exact hK _ _ hk
theorem wpL_skip {P:Program}{ops:Array Oper}{Q:Exit→Act→World→Prop}{a:Act}{w w':World}{rest:List Oper}{o:Oper}(hg:o.guard=none)(h:(execOp a.eval o).run P w=.ok .skip w')(hk:wpList P ops Q rest (a.put o.dst undef) w'):wpList P ops Q (o::rest) a w:=
 wpList_plain hg fun K hK=>by unfold Oper.wp;rw[h,Oper.upon_skip];exact hK _ _ hk
theorem exec_build {P:Program}{w:World}{ρ:Operand→Value}{o:Oper}{t:TypeId}{parts:Array (Nat × Operand)}{cells:Array Value}(ho:o.op=.build t parts)(h:P.built t (parts.map fun (i,x)=>(i,ρ x)).toList=some cells):(execOp ρ o).run P w=.ok (.value (.agg cells)) w:=by
 unfold execOp
 rw[ho]
 simp only[Sem.run_bind,run_build w t _ cells h,Result.andThen,Sem.run_pure]
theorem exec_alloc {P:Program}{w:World}{ρ:Operand→Value}{o:Oper}{t:TypeId}{c:Array Value}(ho:o.op=.alloc t)(h:(zeroValue t).run P w=.ok (.agg c) w):
 (execOp ρ o).run P w=.ok (.value (.pointer (some ⟨w.heap.size,0,none⟩))) (w.alloc (.cells c t)):=by
 unfold execOp
 rw[ho]
 go_simp
 done
theorem exec_store_new {P:Program}{w:World}{ρ:Operand→Value}{o:Oper}{t:TypeId}{a x:Operand}{c c':Array Value}(ho:o.op=.store t a x)(ha:ρ a=.pointer (some ⟨w.heap.size,0,none⟩))(hx:ρ x=.agg c')(hi:(P.info? t).map (·.size)=some c'.size)(hs:c.size=c'.size)(h1:c'.all (·.oneCell')=true):(execOp ρ o).run P (w.alloc (.cells c t))=.ok .skip (w.alloc (.cells c' t)):=by
 unfold execOp
 rw[ho]
 simp only[ha,hx,Sem.run_bind,run_storeAt_new w t c c' hi hs h1,Result.andThen,Sem.run_pure]
theorem results_cell {P:Program}{fn:Func}{a:Nat}{t:TypeId}{tmps:Array Value}{w:World}{ad:Addr}{v:Value}(hf:fn.results=#[.cell a t])(ha:tmps.getD a undef=.pointer (some ad))(hl:(loadVar t ad).run P w=.ok v w):(results fn tmps).run P w=.ok v w:=by
 unfold results
 rw[hf]
 simp only[List.mapM_toArray,List.mapM_cons,List.mapM_nil,ha,asAddr,Sem.run_bind,Sem.run_pure,Result.andThen,hl,map_eq_pure_bind,bind_assoc,pure_bind]
 rfl
def zDo:Array Value:=Array.replicate 45 .nilFunc
theorem Tryz.infoDo:(Tryz.prog.info? 113).map (fun i=>(i.zero,i.size))=some (some (.agg zDo),45):=by kernel_rfl
set_option maxRecDepth 100000 in
set_option maxHeartbeats 1000000 in
theorem doings_calls (w:World):Calls Tryz.prog 76 #[] w fun e w'=>e=.returned (.agg doFns.toArray)∧w'=w.alloc (.cells doFns.toArray 113):=by
 obtain ⟨hz,hsz⟩:=zero_of_info Tryz.infoDo
 go_enter Tryz.func76,Tryz.ntmps76
 refine wp_seq ?_
 refine wp_region_lit ?_
 refine wpL_val _ rfl (exec_alloc rfl (hz _)) ?_
 refine wpList_nil ?_
 show Code.wp _ _ _ _ _
 refine wp_seq ?_
 refine wp_region_lit ?_
 refine wpL_val (.agg #[fnV 120,fnV 121,fnV 122]) rfl (exec_build rfl (by kernel_rfl)) ?_
 refine wpL_val (.agg #[fnV 123,fnV 121,fnV 124]) rfl (exec_build rfl (by kernel_rfl)) ?_
 refine wpL_val (.agg #[fnV 125,fnV 126,fnV 127]) rfl (exec_build rfl (by kernel_rfl)) ?_
 refine wpL_val (.agg #[fnV 128,fnV 129,fnV 130]) rfl (exec_build rfl (by kernel_rfl)) ?_
 refine wpL_val (.agg #[fnV 131,fnV 132,fnV 133]) rfl (exec_build rfl (by kernel_rfl)) ?_
 refine wpL_val (.agg #[fnV 134,fnV 135,fnV 136]) rfl (exec_build rfl (by kernel_rfl)) ?_
 refine wpL_val (.agg #[fnV 137,fnV 138,fnV 139]) rfl (exec_build rfl (by kernel_rfl)) ?_
 refine wpL_val (.agg #[fnV 140,fnV 141,fnV 142]) rfl (exec_build rfl (by kernel_rfl)) ?_
 refine wpL_val (.agg #[fnV 143,fnV 141,fnV 144]) rfl (exec_build rfl (by kernel_rfl)) ?_
 refine wpL_val (.agg #[fnV 145,fnV 146,fnV 147]) rfl (exec_build rfl (by kernel_rfl)) ?_
 refine wpL_val (.agg #[fnV 148,fnV 135,fnV 149]) rfl (exec_build rfl (by kernel_rfl)) ?_
 refine wpL_val (.agg #[fnV 150,fnV 151,fnV 152]) rfl (exec_build rfl (by kernel_rfl)) ?_
 refine wpL_val (.agg #[fnV 153,fnV 151,fnV 154]) rfl (exec_build rfl (by kernel_rfl)) ?_
 refine wpL_val (.agg #[fnV 155,fnV 151,fnV 156]) rfl (exec_build rfl (by kernel_rfl)) ?_
 refine wpL_val (.agg #[fnV 157,fnV 146,fnV 158]) rfl (exec_build rfl (by kernel_rfl)) ?_
 refine wpL_val (.agg doFns.toArray) rfl (exec_build rfl (by kernel_rfl)) ?_
 refine wpL_skip rfl (exec_store_new (w:=w) (c:=zDo) (c':=doFns.toArray) rfl (by kernel_rfl) (by kernel_rfl) hsz (by kernel_rfl) (by kernel_rfl)) ?_
 refine wpList_nil ?_
 show Code.wp _ _ _ _ _
 refine wp_ret ?_
 refine bodyPost_ret (v:=.agg doFns.toArray) ?_ rfl ?_
 · refine results_cell (a:=0) (t:=113) (ad:=⟨w.heap.size,0,none⟩) Tryz.results76 ?_ ?_
   · kernel_rfl
   · exact run_loadVar_new w 113 doFns.toArray _ _ Tryz.underlying113 hsz
 · exact ⟨rfl,rfl⟩
theorem exec_move {P:Program}{w:World}{ρ:Operand→Value}{o:Oper}{x:Operand}{v:Value}(ho:o.op=.move x)(hx:ρ x=v):(execOp ρ o).run P w=.ok (.value v) w:=by
 unfold execOp
 rw[ho]
 simp only[hx,Sem.run_pure]
def zWk:Array Value:=#[.nilFunc,.nilFunc,.nilFunc,.nilFunc,.nilFunc,.nilFunc,.nilFunc,.nilFunc,.nilFunc,.nilFunc,.nilFunc,.nilFunc,.nilFunc,.nilFunc,.nilFunc,.nilFunc,.nilFunc,.nilFunc,.nilFunc,.nilFunc,.nilFunc,.nilFunc,.nilFunc,.nilFunc,.nilFunc,.nilFunc,.nilFunc,.nilFunc,.nilFunc,.nilFunc,.nilFunc,.nilFunc,.nilFunc,.nilFunc,.nilFunc,.nilFunc,.nilFunc,.nilFunc,.nilFunc,.nilFunc,.nilFunc,.nilFunc,.nilFunc,.nilFunc,.nilFunc,.pointer none]
theorem Tryz.infoWk:(Tryz.prog.info? 115).map (fun i=>(i.zero,i.size))=some (some (.agg zWk),46):=by kernel_rfl
def wkC (gb:Nat):Array Value:=(doFns++[Value.pointer (some ⟨gb,0,none⟩)]).toArray
theorem setRow_under (w:World)(c c':Array Value)(t:TypeId)(o:Obj):((w.alloc (.cells c t)).alloc o).setRow w.heap.size c'=(w.alloc (.cells c' t)).alloc o:=by
 simp only[World.setRow,World.alloc]
 congr 1
 apply Array.ext_getElem?
 intro i
 rw[Array.getElem?_modify]
 by_cases h:w.heap.size=i
 · subst h
   simp[Array.getElem?_push]
 · have h':¬ i=w.heap.size:=fun e=>h e.symm
   simp[h,h',Array.getElem?_push]
set_option maxRecDepth 100000 in
set_option maxHeartbeats 400000 in
theorem walkOf_calls (w:World)(gb:Nat):Calls Tryz.prog 50 #[.pointer (some ⟨gb,0,none⟩)] w fun e w'=>e=.returned (.agg (wkC gb))∧w'=(w.alloc (.cells (wkC gb) 115)).alloc (.cells doFns.toArray 113):=by
 obtain ⟨hz,hsz⟩:=zero_of_info Tryz.infoWk
 go_enter Tryz.func50,Tryz.ntmps50
 refine wp_seq ?_
 refine wp_region_lit ?_
 refine wpL_val _ rfl (exec_alloc rfl (hz _)) ?_
 refine wpList_nil ?_
 show Code.wp _ _ _ _ _
 refine wp_seq ?_
 refine wp_region_lit ?_
 refine wpList_callTo rfl _ rfl 76 #[] (by kernel_rfl) _ _ (doings_calls _) ?_
 refine wpL_val (.pointer (some ⟨gb,0,none⟩)) rfl (exec_move rfl (by kernel_rfl)) ?_
 refine wpL_val (.agg (wkC gb)) rfl (exec_build rfl (by kernel_rfl)) ?_
 refine wpList_store_row rfl _ _ _ rfl w.heap.size (wkC gb) (by kernel_rfl) (by kernel_rfl) 115 zWk ?_ hsz (by kernel_rfl) (by kernel_rfl) ?_
 · exact Blk.alloc (Blk.new w zWk 115) _
 rw[setRow_under]
 refine wpList_nil ?_
 show Code.wp _ _ _ _ _
 refine wp_ret ?_
 refine bodyPost_ret (v:=.agg (wkC gb)) ?_ rfl ?_
 · refine results_cell (a:=2) (t:=115) (ad:=⟨w.heap.size,0,none⟩) Tryz.results50 ?_ ?_
   · kernel_rfl
   · exact run_loadVar_row _ w.heap.size 115 115 (wkC gb) (0,0) _ (Blk.alloc (Blk.new w (wkC gb) 115) _) Tryz.underlying115 rfl hsz
 · exact ⟨rfl,rfl⟩
end Go.Proofs.YtmlkhhhjdpbhfaaGreatDoor

import Derived.Test.YtmlkhhhjdpbhfaaGreatDoorFo43
import Derived.Test.YtmlkhhhjdpbhfaaGreatDoorFo44
import Derived.Test.YtmlkhhhjdpbhfaaGreatDoorFo45
import Derived.Test.YtmlkhhhjdpbhfaaGreatDoorFo40
import Derived.Test.YtmlkhhhjdpbhfaaGreatDoorFo42
namespace Go.Proofs.YtmlkhhhjdpbhfaaGreatDoor
open Go.RowKit
theorem write_rule (c:Cx)(hc:CxOk c)(hG:GOk c.R c.G)(B wb n:Nat)(ih:WritC c B wb n)(w0:World)(lo2 hi2 vb:Nat)(v:Nd (Tr n))(hval:NdT (RepY n) w0 lo2 hi2 vb v)(hh2:hi2≤B):∀ (m:Nat) (x:It) (r q:List It) (own ctx sl:Bool) (f lo hi pb:Nat) (hid:Option Nat) (hv:Value) (st:Wr),RepS f c.w0 lo hi pb sl (x::r)→hi≤c.w0.heap.size→TrW c.R own ctx (x::r)→x.c=82→ruleEnd c.G m (x::r)=some q→hasTop (hasT c.G n) q v=true→WInv st→Bnd (8008+v.run.length+10000*(v.kids.map (szT n)).sum) st→
 KidW c B wb w0 pb (.pointer (some ⟨vb,0,none⟩)) hv hid st (wTop (writeT c.G n) q none v st)
 | 0,_,_,_,_,_,_,_,_,_,_,_,_,_,_,_,_,_,e,_,_,_=>by cases e
 | m+1,x,r,q,own,ctx,sl,f,lo,hi,pb,hid,hv,st,hrep,hhi,hwf,hxc,e,hhas,hinv,hbd=>by
  intro w bv tv sv svs hbs hb0 hm _
  have hR:=hwf.rule hxc
  obtain ⟨f0,hw0⟩:=hwf
  cases f0 with
  | zero=>exact hw0.elim
  | succ f0=>
  obtain ⟨hx,_⟩:=hw0
  obtain ⟨f',ps,p,hpt0,hit,hsl,hptrs,hkids,hsegs,⟨hlo,hpbh⟩,hpl,hkl⟩:=hrep.lens
  have hleB:=hm.leB
  have hpB:pb<B:=by omega
  have hpt:∀ W,WrM c B W wb bv tv sv svs hbs st→PtBlk W pb p:=fun W hM=>hpt0.below hM.bel (by omega)
  have hr8:=hx.it.r hxc
  obtain ⟨hgt,sc,hgs⟩:=hG.2 x.r.toNat hR
  have hgl:=hc.glen x.r.toNat hR
  unfold ruleEnd at e
  refine kid_walk c B w wb bv tv sv svs hbs st _ hm pb _ hv p 6 139 (hpt w hm) (by rw[hit.k,hxc];rfl) (by omega) rfl run_writeRule fun W hW hM=>?_
  refine writeRule_calls c hc B W wb bv tv sv svs hbs st _ hM pb x.r.toNat _ hv p (hpt W hM) hpB (by rw[(hit.ru hxc).2];omega) hR fun qb f2 lo3 hi3 hrep2 hhi3=>?_
  cases hk:c.G x.r.toNat with
  | nil=>rw[hk] at e;cases e
  | cons y z=>
   rw[hk] at e hgt hgs hrep2 hgl
   simp only at e
   split at e
   · rename_i hy
     exact (write_rule c hc hG B wb n ih w0 lo2 hi2 vb v hval hh2 m y z q false false false f2 lo3 hi3 qb none _ st hrep2 hhi3 hgt hy e hhas hinv hbd).later (hb0.trans hW)
   · cases e
     exact (write_top c hG.1 B wb n ih w0 y z false false false false f2 lo3 hi3 qb lo2 hi2 vb v none _ st sc hrep2 hhi3 hgt hgl hval hh2 hhas hgs (fun e=>by cases e) hinv hbd).later (hb0.trans hW)
theorem wIn_cons {n:Nat}(G:Nat→List It)(W:List It→Option Nat→Tr n→Wr→Wr)(x:It)(r:List It)(hid:Option Nat)(v:Nd (Tr n))(st:Wr):wIn G W (x::r) hid v st=
 (if x.c=119 then wTell (wIn G W r hid v st) (holeOf (wIn G W r hid v st) hid x.d.toNat) ((wIn G W r hid v st).out.length-st.out.length)
 else if x.c=115 then wSum (wIn G W r hid v st) ⟨st.out.length,(wIn G W r hid v st).out.length,holeOf (wIn G W r hid v st) hid x.d.toNat⟩
 else if x.c=64 then wWait st ⟨r,n,v,hid.getD 0,holeOf st hid x.d.toNat⟩
 else if x.c=82 then (match ruleEnd G 8 (x::r) with | none=>st | some q=>wTop W q none v st)
 else wTop W (x::r) hid v st):=rfl
set_option maxHeartbeats 1000000 in
theorem write_in (c:Cx)(hc:CxOk c)(hG:GOk c.R c.G)(B wb n:Nat)(ih:WritC c B wb n)(w0:World)(lo2 hi2 vb:Nat)(v:Nd (Tr n))(hval:NdT (RepY n) w0 lo2 hi2 vb v)(hh2:hi2≤B)(hid:Option Nat)(hv:Value)(st:Wr)(hinv:WInv st):∀ (its:List It) (own ctx ar sl:Bool) (f lo hi pb:Nat) (sc:Sc),RepS f c.w0 lo hi pb sl its→hi≤c.w0.heap.size→TrW c.R own ctx its→its.length≤1000→hasQ c.G (hasT c.G n) (inn its) v=true→ScG own ar its sc→(ar=true→HolAt st hid sc)→Bnd (its.length+(8008+v.run.length+10000*(v.kids.map (szT n)).sum)) st→
 KidW c B wb w0 pb (.pointer (some ⟨vb,0,none⟩)) hv hid st (wIn c.G (writeT c.G n) its hid v st)
 | [],_,_,_,_,_,_,_,_,_,_,_,h,_,_,_,_,_=>by
  obtain ⟨f,h⟩:=h
  cases f<;>exact h.elim
 | x::r,own,ctx,ar,sl,f,lo,hi,pb,sc,hrep,hhi,hwf,hlen,hhas,hsc,hol,hbd=>by
  have hkok:=hwf.kok hlen
  have hwf':=hwf
  obtain ⟨f0,hw0⟩:=hwf
  cases f0 with
  | zero=>exact hw0.elim
  | succ f0=>
  obtain ⟨hx,hown,hctx,hrule,h2,h1,hkw⟩:=hw0
  rw[wIn_cons]
  cases hin:inB [119,64,115] x.c with
  | false=>
   have hne:x.c≠119∧x.c≠64∧x.c≠115:=by
    refine ⟨fun e=>?_,fun e=>?_,fun e=>?_⟩<;>(rw[e] at hin;exact absurd hin (by decide))
   rw[inn_out hin] at hhas
   rw[if_neg hne.1,if_neg hne.2.2,if_neg hne.2.1]
   by_cases h82:x.c=82
   · rw[if_pos h82]
     unfold hasQ at hhas
     simp only[if_pos h82] at hhas
     cases hq:ruleEnd c.G 8 (x::r) with
     | none=>rw[hq] at hhas;cases hhas
     | some q=>
      rw[hq] at hhas
      exact write_rule c hc hG B wb n ih w0 lo2 hi2 vb v hval hh2 8 x r q own ctx sl f lo hi pb hid hv st hrep hhi hwf' h82 hq hhas hinv (hbd.mono (by omega))
   · rw[if_neg h82]
     rw[hasQ_top _ _ _ _ _ h82] at hhas
     exact write_top c hG.1 B wb n ih w0 x r own ctx ar sl f lo hi pb lo2 hi2 vb v hid hv st sc hrep hhi hwf' hlen hval hh2 hhas hsc hol hinv (hbd.mono (by omega))
  | true=>
   rw[inn_in hin] at hhas
   have h3:x.c=119∨x.c=64∨x.c=115:=by
    rcases kinds_list x.c hx.it.c with hxc | hxc | hxc | hxc | hxc | hxc | hxc | hxc | hxc | hxc | hxc | hxc | hxc | hxc | hxc
    all_goals first | exact Or.inl hxc | exact Or.inr (Or.inl hxc) | exact Or.inr (Or.inr hxc) | (rw[hxc] at hin;exact absurd hin (by decide))
   have hone:=h1 (by rcases h3 with h | h | h<;>rw[h]<;>rfl)
   have hu:usesB x.c=true:=by rcases h3 with h | h | h<;>rw[h]<;>rfl
   have hkD:kD x.c=true:=by rcases h3 with h | h | h<;>rw[h]<;>rfl
   obtain ⟨f',ps,p,hpt0,hit,hsl,hptrs,hkids,hsegs,⟨hlo,hpbh⟩,hpl,hkl⟩:=hrep.lens
   obtain ⟨z,rfl⟩:∃ z,ps=[z]:=by
    rw[hone] at hsegs
    match ps,hsegs with
    | [z],_=>exact ⟨z,rfl⟩
   have hz2:z.2=r:=by rw[hone] at hsegs;simpa using hsegs
   have hr:=hkids z (by simp)
   rw[hz2] at hr
   have hmem:r∈segs r.length r:=by rw[hone];simp
   obtain ⟨ctx',ht'⟩:=hwf'.kidNo (by omega) hmem
   obtain ⟨sc',e1,hs'⟩:=hsc.inner hin hone
   obtain ⟨har,hsd⟩:=hsc.use hu
   have hol':HolAt st hid sc':=(hol har).up (WUp.refl (N:=0) hinv) e1
   have hlr:r.length≤1000:=by simp at hlen;omega
   have hd:=hx.it.d hkD
   have hdp:=(hit.dp hkD).1
   simp only[List.length_cons] at hbd
   have hup:=wIn_up hG.1 (writeT_up hG.1 n) hid v st hinv r hkok.tail
   have hb1:Bnd 1 (wIn c.G (writeT c.G n) r hid v st):=hbd.up hup (by omega)
   obtain ⟨i,fh,hie,hf1,hd1⟩:=((hol har).up hup (sc':=sc) rfl).hole hsd
   have hw64:x.c≠64→KidW c B wb w0 z.1 (.pointer (some ⟨vb,0,none⟩)) hv hid st (wIn c.G (writeT c.G n) r hid v st):=fun _=>
    write_in c hc hG B wb n ih w0 lo2 hi2 vb v hval hh2 hid hv st hinv r false ctx' true _ f' (pb+1) hi z.1 sc' hr hhi ht' hlr hhas hs' (fun _=>hol') (hbd.mono (by omega))
   intro w bv tv sv svs hbs hb0 hm hvi
   have hleB:=hm.leB
   have hpB:pb<B:=by omega
   have hpt:∀ W,WrM c B W wb bv tv sv svs hbs st→PtBlk W pb p:=fun W hM=>hpt0.below hM.bel (by omega)
   have hptrs':∀ W,WrM c B W wb bv tv sv svs hbs st→PtrsAt W (pb+1) hi p.v ([z].map Prod.fst):=fun W hM=>hptrs.mono (fun k _ k2=>hM.bel.block k (by omega)) (Nat.le_refl _) (Nat.le_refl _)
   rcases h3 with hxc | hxc | hxc
   · rw[if_pos hxc]
     have hk:=hw64 (by omega)
     clear hw64
     generalize wIn c.G (writeT c.G n) r hid v st=st1 at *
     subst hie
     obtain ⟨hb,rfl,hbi⟩:=hvi
     refine kid_walk c B w wb bv tv sv svs hbs st _ hm pb _ _ p 11 152 (hpt w hm) (by rw[hit.k,hxc];rfl) (by omega) rfl run_writeWindow fun W hW hM=>?_
     obtain ⟨g,cap,e1,_,hg,_,hc1⟩:=(hptrs' W hM).at (by simp)
     exact writeWindow_calls c B W wb bv tv sv svs hbs st st1 hM (by have:=hb1.out;omega) hup.ge pb g cap z.1 hb x.d.toNat i _ fh _ p (hpt W hM) hpB (by omega) (by rw[hdp];omega) (by omega) e1 (by rw[hc1 0 (by simp)];simp) (hk.later (hb0.trans hW)) hbi hf1 hd1 (hup.inv.hole i fh _ _ hf1 hd1)
   · rw[if_neg (by omega),if_neg (by omega),if_pos hxc]
     obtain ⟨i0,fh0,hie0,hf0,hd0⟩:=(hol har).hole hsd
     subst hie0
     obtain ⟨hb,rfl,hbi⟩:=hvi
     refine kid_walk c B w wb bv tv sv svs hbs st _ hm pb _ _ p 12 154 (hpt w hm) (by rw[hit.k,hxc];rfl) (by omega) rfl run_writeAt fun W hW hM=>?_
     obtain ⟨g,cap,e1,_,hg,_,hc1⟩:=(hptrs' W hM).at (by simp)
     have hval':NdT (RepY n) W lo2 hi2 vb v:=RepY.mono (n+1) (x:=v) hval (fun k _ k2=>(hb0.trans hW).block k (by omega)) (Nat.le_refl _) (Nat.le_refl _)
     have hsz:=hM.bel.size
     exact writeAt_calls c B W wb bv tv sv svs hbs st hM (by have:=hbd.wait;omega) pb g cap z.1 vb hb x.d.toNat i0 n _ fh0 v r p (hpt W hM) (by rw[hdp];omega) (by omega) e1 (by rw[hc1 0 (by simp)];simp) (by omega) hbi hf0 hd0 _ _ _ f' (pb+1) hi lo2 hi2 hr hhi ht' hlr hval' hh2
   · rw[if_neg (by omega),if_pos hxc]
     have hk:=hw64 (by omega)
     clear hw64
     generalize wIn c.G (writeT c.G n) r hid v st=st1 at *
     subst hie
     obtain ⟨hb,rfl,hbi⟩:=hvi
     refine kid_walk c B w wb bv tv sv svs hbs st _ hm pb _ _ p 13 156 (hpt w hm) (by rw[hit.k,hxc];rfl) (by omega) rfl run_writeSummed fun W hW hM=>?_
     obtain ⟨g,cap,e1,_,hg,_,hc1⟩:=(hptrs' W hM).at (by simp)
     exact writeSummed_calls c B W wb bv tv sv svs hbs st st1 hM hup.inv.sums hb1.sums (by have:=hb1.sum;omega) pb g cap z.1 hb x.d.toNat i _ fh _ p (hpt W hM) hpB (by omega) (by rw[hdp];omega) (by omega) e1 (by rw[hc1 0 (by simp)];simp) (hk.later (hb0.trans hW)) hbi hf1 hd1
theorem write_all (c:Cx)(hc:CxOk c)(hG:GOk c.R c.G)(B wb:Nat):∀ n,WritC c B wb n
 | 0=>fun _ _ _ _ _ _ _ _ _ _ _ _ _ _ _ _ _ _ _ _ _ _ h=>h.elim
 | n+1=>fun w0 its own ctx ar sl f lo hi pb lo2 hi2 vb x hid hv st sc hrep hhi hwf hlen hval hh2 hhas hsc hol hinv hbd=>
  write_in c hc hG B wb n (write_all c hc hG B wb n) w0 lo2 hi2 vb x hval hh2 hid hv st hinv its own ctx ar sl f lo hi pb sc hrep hhi hwf hlen hhas hsc hol (hbd.mono (by unfold szT;omega))
theorem ScG.noHid {ar:Bool}{x:It}{r:List It}{sc:Sc}(h:ScG false ar (x::r) sc):hidesB x.c=false:=by
 obtain ⟨F,z,hl,hw⟩:=h
 cases F with
 | zero=>simp at hl
 | succ f=>
  cases hh:hidesB x.c with
  | false=>rfl
  | true=>
   have hc:x.c≠40:=fun e=>by rw[e] at hh;exact absurd hh (by decide)
   rw[walkV_else f false ar x r _ hc] at hw
   have h0:=foldW_ok hw
   unfold stepV hideV at h0
   rw[if_pos hh] at h0
   simp[bwV_flag] at h0
theorem TrW.noOwn {R:Nat→Bool}{own ctx ar:Bool}{k:List It}{sc:Sc}(h:TrW R own ctx k)(hs:ScG false ar k sc):TrW R false ctx k:=by
 obtain ⟨f,h⟩:=h
 cases f with
 | zero=>exact h.elim
 | succ f=>
  cases k with
  | nil=>exact h.elim
  | cons x r=>
   have hn:=hs.noHid
   refine ⟨f+1,?_⟩
   unfold TWf at h ⊢
   exact ⟨h.1,fun e=>(by rw[hn] at e;cases e),h.2.2⟩
structure PieceOk (G:Nat→List It) (m p:Nat) (st st':Wr):Prop where
 inv:WInv st'
 wt:WtOk st'
 has:∀ e∈st'.wait,hasT G (e.n+1) e.its e.v=true
 pot:pot st'≤pot st+p
 sums:st'.sums.length=st.sums.length
 mu:(st'.wait.map wMu).sum+1≤(st.wait.map wMu).sum+m
theorem piece_ok {R:Nat→Bool}{G:Nat→List It}(hG:GOk R G){n:Nat}{k:List It}{own ctx ar:Bool}{sc:Sc}{hid:Option Nat}{v:Nd (Tr n)}{st:Wr}(ht:TrW R own ctx k)(hk:KOk k)(hs:ScG own ar k sc)(ha:ar=true→HolAt st hid sc)(hh:hasT G (n+1) k v=true)(hv:WInv st)(hw:WtOk st)(has:∀ e∈st.wait,hasT G (e.n+1) e.its e.v=true):
 PieceOk G (k.length+1001*(v.run.length+(v.kids.map (szT n)).sum)) (10000*szT (n+1) v) st (wIn G (writeT G n) k hid v st):=by
 have hu:=writeT_up hG.1 (n+1) k hid v st hk hv
 obtain ⟨m,h1,l,h2,h3,h4⟩:=wIn_new hG.1 (writeT_new hG.1 n) hid v st k hk.1 hh
 refine ⟨hu.inv,writeT_wt hG (n+1) k hid v st own ctx ar sc ht hk hs ha hv hw,fun e he=>?_,writeT_pot hG.1 (n+1) k hid v st hk hv,hu.sums,?_⟩
 · rw[h2] at he
   rcases List.mem_append.1 he with he | he
   · exact has e he
   · exact h3 e he
 · rw[h2,List.map_append,List.sum_append]
   omega
structure LInv (G:Nat→List It) (P Q:Nat) (st:Wr):Prop where
 inv:WInv st
 wt:WtOk st
 has:∀ e∈st.wait,hasT G (e.n+1) e.its e.v=true
 pot:pot st≤P
 cnt:st.sums.length+(st.wait.map wMu).sum≤Q
def wTake (st:Wr)(e:Wt)(ws:List Wt):Wr:=wTell { st with wait:=ws } e.ho st.out.length
theorem wMu_le (l:List Wt)(h:∀ e∈l,e.its≠[]):l.length≤(l.map wMu).sum:=by
 induction l with
 | nil=>simp
 | cons e l ih=>
  have h1:=ih fun e he=>h e (List.mem_cons_of_mem _ he)
  have h2:0<e.its.length:=List.length_pos_iff.2 (h e List.mem_cons_self)
  simp only[List.length_cons,List.map_cons,List.sum_cons]
  unfold wMu at *
  omega
theorem hasT_ne {G:Nat→List It}{n:Nat}{k:List It}{v:Tr (n+1)}(h:hasT G (n+1) k v=true):k≠[]:=fun e=>by subst e;cases h
structure TakeOk (G:Nat→List It) (e:Wt) (ws:List Wt) (P Q:Nat) (st:Wr):Prop where
 inv:WInv { wTake st e ws with sums:=(wTake st e ws).sums++[[]] }
 bd:Bnd (10000*szT (e.n+1) e.v) { wTake st e ws with sums:=(wTake st e ws).sums++[[]] }
 hol:∃ sc,ScG false true e.its sc∧HolAt { wTake st e ws with sums:=(wTake st e ws).sums++[[]] } (some e.hid) sc
 ho:HoOk e.ho st.out.length
 kok:KOk e.its
 has:hasT G (e.n+1) e.its e.v=true
 next:LInv G P Q (wPiece G e.n e.its (some e.hid) e.v (wTake st e ws))
 mu:((wPiece G e.n e.its (some e.hid) e.v (wTake st e ws)).wait.map wMu).sum+1≤(st.wait.map wMu).sum
theorem take_ok {R:Nat→Bool}{G:Nat→List It}(hG:GOk R G){P Q:Nat}{st:Wr}{e:Wt}{ws:List Wt}(h:LInv G P Q st)(hst:st.wait=e::ws){own ctx:Bool}(ht:TrW R own ctx e.its)(hP:P≤80000000)(hQ:Q≤10000000):TakeOk G e ws P Q st:=by
 have hem:e∈st.wait:=by rw[hst];exact List.mem_cons_self
 obtain ⟨hho,hkok,sc,hsc,hol⟩:=h.wt.wt e hem
 have hlen:(wTake st e ws).out.length=st.out.length:=putAt_length _ _ _ hho.lt
 have hh:=h.has e hem
 have hinv:WInv { wTake st e ws with sums:=(wTake st e ws).sums++[[]] }:=⟨fun i f d ho a b=>(h.inv.hole i f d ho a b).more (Nat.le_of_eq hlen.symm),by simp⟩
 have hup:WUp 0 0 st { wTake st e ws with sums:=st.sums }:=by
  refine ⟨⟨fun i f d ho a b=>(h.inv.hole i f d ho a b).more (Nat.le_of_eq hlen.symm),h.inv.sums⟩,Nat.le_of_eq hlen.symm,Nat.le_of_eq hlen,fun _ _=>rfl,Nat.le_refl _,rfl,Nat.le_refl _,?_,fun i f d ho a b=>⟨f,ho,a,b⟩⟩
  show ws.length≤st.wait.length+0
  rw[hst];simp
 have hwt:WtOk { wTake st e ws with sums:=(wTake st e ws).sums++[[]] }:=by
  refine ⟨fun e' he'=>?_,fun l hl s hs=>?_⟩
  · obtain ⟨a,b,sc',c,d⟩:=h.wt.wt e' (by rw[hst];exact List.mem_cons_of_mem _ he')
    exact ⟨a.more (Nat.le_of_eq hlen.symm),b,sc',c,d⟩
  · rcases List.mem_append.1 hl with hl | hl
    · exact (h.wt.su l hl s hs).more (Nat.le_of_eq hlen.symm)
    · rw[List.mem_singleton] at hl
      subst hl
      simp at hs
 have hholT:HolAt { wTake st e ws with sums:=(wTake st e ws).sums++[[]] } (some e.hid) sc:=hol
 have p:=piece_ok hG (hid:=some e.hid) (ht.noOwn hsc) hkok hsc (fun _=>hholT) hh hinv hwt (fun e' he'=>h.has e' (by rw[hst];exact List.mem_cons_of_mem _ he'))
 have hmu:(st.wait.map wMu).sum=wMu e+(ws.map wMu).sum:=by rw[hst];simp
 have hpot:pot st=st.out.length+(10000*szT (e.n+1) e.v+(ws.map fun e=>10000*szT (e.n+1) e.v).sum):=by unfold pot;rw[hst];simp
 have hpot2:pot { wTake st e ws with sums:=(wTake st e ws).sums++[[]] }=st.out.length+(ws.map fun e=>10000*szT (e.n+1) e.v).sum:=by
  show (wTake st e ws).out.length+_=_
  rw[hlen];rfl
 have hp:=h.pot
 have hc:=h.cnt
 have hwl:=wMu_le ws fun e' he'=>hasT_ne (h.has e' (by rw[hst];exact List.mem_cons_of_mem _ he'))
 have hpm:((wPiece G e.n e.its (some e.hid) e.v (wTake st e ws)).wait.map wMu).sum+1≤(ws.map wMu).sum+wMu e:=p.mu
 have hps:(wPiece G e.n e.its (some e.hid) e.v (wTake st e ws)).sums.length=st.sums.length+1:=by
  have:(wPiece G e.n e.its (some e.hid) e.v (wTake st e ws)).sums.length=((wTake st e ws).sums++[[]]).length:=p.sums
  rw[this,List.length_append];rfl
 have hpp:pot (wPiece G e.n e.its (some e.hid) e.v (wTake st e ws))≤_:=p.pot
 refine ⟨hinv,⟨?_,?_,?_,?_⟩,⟨sc,hsc,hholT⟩,hho,hkok,hh,⟨p.inv,p.wt,p.has,by omega,by omega⟩,by omega⟩
 · show (wTake st e ws).out.length+_≤_
   rw[hlen];omega
 · show ws.length+_≤_
   omega
 · show ((wTake st e ws).sums++[[]]).length≤_
   rw[List.length_append]
   show st.sums.length+1≤_
   omega
 · show (((wTake st e ws).sums++[[]]).getLastD []).length+_≤_
   rw[List.getLastD_eq_getLast?,List.getLast?_append]
   simp
   omega
theorem wRest_nil {G:Nat→List It}{st:Wr}(f:Nat)(h:st.wait=[]):wRest G f st=st:=by
 cases f with
 | zero=>rfl
 | succ f=>unfold wRest;rw[h]
theorem wRest_cons {G:Nat→List It}{st:Wr}{e:Wt}{ws:List Wt}(f:Nat)(h:st.wait=e::ws):wRest G (f+1) st=wRest G f (wPiece G e.n e.its (some e.hid) e.v (wTake st e ws)):=by
 rw[wRest,h]
 rfl
theorem least_ex (P:World→Nat→Prop):∃ f:World→Nat,∀ w n,P w n→P w (f w)∧f w≤n:=by
 have h:∀ w,∃ m,∀ n,P w n→P w m∧m≤n:=fun w=>by
  by_cases hex:∃ n,P w n
  · obtain ⟨n,hn⟩:=hex
    have:∃ m,P w m∧∀ k,P w k→m≤k:=by
     induction n using Nat.strongRecOn with
     | ind n ih=>
      by_cases hm:∃ m,m<n∧P w m
      · obtain ⟨m,h1,h2⟩:=hm
        exact ih m h1 h2
      · exact ⟨n,hn,fun m hp=>Nat.le_of_not_lt fun hl=>hm ⟨m,hl,hp⟩⟩
    obtain ⟨m,h1,h2⟩:=this
    exact ⟨m,fun n hn=>⟨h1,h2 n hn⟩⟩
  · exact ⟨0,fun n hn=>absurd ⟨n,hn⟩ hex⟩
 exact ⟨fun w=>Classical.choose (h w),fun w=>Classical.choose_spec (h w)⟩
theorem OffRow.head {w:World}{base:Nat}{e:TypeId}{v:Value}{n:Nat}{xs:List Value}(h:OffRow w base e 6 v (n+1) xs):
 ∃ g off cap,v=.slice (some ⟨g,off,none⟩) (n+1) cap∧n+1≤cap∧g<w.heap.size∧(∀ j,j<6→w.cell? ⟨g,off+j,none⟩=xs[j]?)∧
  ∀ (w':World) (a:Option Addr),w'.heap[g]? = w.heap[g]? → (cap=1→a=some ⟨g,off,none⟩)→(cap≠1→a=some ⟨g,off+6,none⟩)→OffRow w' base e 6 (.slice a n (cap-1)) n (xs.drop 6):=by
 rcases h.2 with ⟨_,h0⟩ | ⟨g,off,cap,cur,rfl,h1,h2,h3,h4,h5,h6⟩
 · omega
 · refine ⟨g,off,cap,rfl,h3,(Array.getElem?_eq_some_iff.1 h2).1,fun j hj=>?_,fun w' a hw ha hb=>?_⟩
   · rw[← h6,List.getElem?_take_of_lt (by omega),List.getElem?_drop]
     simp[World.cell?,h2]
   · have hl:(xs.drop 6).length=n*6:=by rw[List.length_drop,h.1];omega
     refine ⟨hl,Or.inr ?_⟩
     by_cases hc:cap=1
     · rw[ha hc]
       have hn:n=0:=by omega
       subst hn
       refine ⟨g,off,cap-1,cur,rfl,h1,by rw[hw];exact h2,by omega,by omega,by omega,?_⟩
       have:xs.drop 6=[]:=List.eq_nil_of_length_eq_zero (by simpa using hl)
       rw[this];simp
     · rw[hb hc]
       refine ⟨g,off+6,cap-1,cur,rfl,h1,by rw[hw];exact h2,by omega,by omega,by omega,?_⟩
       rw[← h6,List.drop_take,List.drop_drop]
       congr 1
       omega
structure HeadAt (c:Cx) (B:Nat) (w:World) (hbs:List Nat) (e:Wt) (g off pb vb hb:Nat):Prop where
 c0:w.cell? ⟨g,off,none⟩=some (.pointer (some ⟨pb,0,none⟩))
 c1:w.cell? ⟨g,off+1,none⟩=some (.pointer (some ⟨vb,0,none⟩))
 c2:w.cell? ⟨g,off+2,none⟩=some (.pointer (some ⟨hb,0,none⟩))
 c3:w.cell? ⟨g,off+3,none⟩=some (.int .i64 (e.ho.pl:Nat))
 c4:w.cell? ⟨g,off+4,none⟩=some (.int .i64 (e.ho.w:Nat))
 c5:w.cell? ⟨g,off+5,none⟩=some (.func (.func (putF e.ho.low)) #[] #[])
 hid:hbs[e.hid]? = some hb
 val:∃ lo2 hi2,NdT (RepY e.n) w lo2 hi2 vb e.v∧hi2≤B
 part:∃ sl own ctx f lo hi,RepS f c.w0 lo hi pb sl e.its∧hi≤c.w0.heap.size∧TrW c.R own ctx e.its∧e.its.length≤1000
theorem WrM.takeWait {c:Cx}{B:Nat}{w:World}{wb:Nat}{bv tv sv:Value}{svs:List Value}{hbs:List Nat}{st:Wr}{e:Wt}{ws:List Wt}(h:WrM c B w wb bv tv sv svs hbs st)(hst:st.wait=e::ws):
 ∃ g off cap pb vb hb,tv=.slice (some ⟨g,off,none⟩) (ws.length+1) cap∧ws.length+1≤cap∧g<w.heap.size∧HeadAt c B w hbs e g off pb vb hb∧
  ∀ (w1:World) (a:Option Addr),Below w.heap.size w w1→(cap=1→a=some ⟨g,off,none⟩)→(cap≠1→a=some ⟨g,off+6,none⟩)→WrM c B (w1.setCell ⟨wb,48,none⟩ (.slice a ws.length (cap-1))) wb bv (.slice a ws.length (cap-1)) sv svs hbs { st with wait:=ws }∧Below B w (w1.setCell ⟨wb,48,none⟩ (.slice a ws.length (cap-1))):=by
 have hwb:=h.ge wb List.mem_cons_self
 have hw0:WaitAt c B w tv hbs (e::ws):=by rw[← hst];exact h.wait
 obtain ⟨xs,h1,h7⟩:=hw0
 obtain ⟨g,off,cap,rfl,hcap,hgw,hcell,hrow⟩:=OffRow.head h1
 obtain ⟨pb,vb,hb,sl,own,ctx,f,lo,hi,lo2,hi2,a1,a2,a3,a4,a5,a6,a7,a8⟩:=h7 0 (by simp)
 simp only[List.getElem_cons_zero] at a1 a2 a3 a5 a6 a7
 rw[Nat.zero_mul,List.drop_zero] at a1
 have hx:∀ j,j<6→xs[j]? = ([Value.pointer (some ⟨pb,0,none⟩),.pointer (some ⟨vb,0,none⟩),.pointer (some ⟨hb,0,none⟩)]++hoC (some e.ho))[j]? := fun j hj=>by rw[← a1,List.getElem?_take_of_lt hj]
 have hcc:∀ j,j<6→w.cell? ⟨g,off+j,none⟩=([Value.pointer (some ⟨pb,0,none⟩),.pointer (some ⟨vb,0,none⟩),.pointer (some ⟨hb,0,none⟩)]++hoC (some e.ho))[j]? := fun j hj=>(hcell j hj).trans (hx j hj)
 have hndo:=h.nd
 rw[List.nodup_cons] at hndo
 have hgwb:g≠wb:=fun e=>hndo.1 (e▸mem_rst_tv (tv:=.slice (some ⟨g,off,none⟩) (ws.length+1) cap) rfl)
 refine ⟨g,off,cap,pb,vb,hb,rfl,hcap,hgw,⟨hcc 0 (by omega),hcc 1 (by omega),hcc 2 (by omega),hcc 3 (by omega),hcc 4 (by omega),hcc 5 (by omega),a2,⟨lo2,hi2,a7,a8⟩,⟨sl,own,ctx,f,lo,hi,a3,a4,a5,a6⟩⟩,fun w1 a hb1 ha hb'=>?_⟩
 have hs1:(w1.setCell ⟨wb,48,none⟩ (.slice a ws.length (cap-1))).heap.size=w1.heap.size:=by simp[World.setCell]
 have hbel:Below B w (w1.setCell ⟨wb,48,none⟩ (.slice a ws.length (cap-1))):=⟨hb1.os,hb1.tape,hb1.output,by have:=hb1.size;omega,fun k hk=>by rw[Below.heap_setCell _ _ _ _ (by simp only;omega)];exact hb1.block k (by omega)⟩
 have hother:∀ b,b≠wb→b<w.heap.size→(w1.setCell ⟨wb,48,none⟩ (.slice a ws.length (cap-1))).heap[b]? = w.heap[b]? := fun b h1 h2=>by
  rw[Below.heap_setCell _ _ _ _ h1];exact hb1.block b h2
 have hown:(Value.slice a ws.length (cap-1)).ownBlock=(Value.slice (some ⟨g,off,none⟩) (ws.length+1) cap).ownBlock:=by
  by_cases hc:cap=1
  · rw[ha hc];rfl
  · rw[hb' hc];rfl
 have hrst:rst (.slice a ws.length (cap-1)) sv svs hbs=rst (.slice (some ⟨g,off,none⟩) (ws.length+1) cap) sv svs hbs:=by unfold rst;rw[hown]
 have hblk1:Blk w1 wb (wrC c.gb bv st.wide (.slice (some ⟨g,off,none⟩) (ws.length+1) cap) sv) 120:=by
  have:=h.blk;unfold Blk at *;rw[hb1.block wb hwb.2];exact this
 refine ⟨h.waitTo hbel (by have:=hblk1.set 48 (.slice a ws.length (cap-1));rw[wrC_wait] at this;exact this) ?_ (by rw[hrst];exact h.nd) (fun q e=>by rw[hrst];exact h.nb q e) (fun b hm=>?_) (fun b hm=>?_),hbel⟩
 · refine ⟨xs.drop 6,hrow _ a (hother g hgwb hgw) ha hb',fun j hj=>?_⟩
   obtain ⟨pb,vb,hb,sl,own,ctx,f,lo,hi,lo2,hi2,b1,b2,b3,b4,b5,b6,b7,b8⟩:=h7 (j+1) (by simp;omega)
   simp only[List.getElem_cons_succ] at b1 b2 b3 b5 b6 b7
   refine ⟨pb,vb,hb,sl,own,ctx,f,lo,hi,lo2,hi2,?_,b2,b3,b4,b5,b6,RepY.mono (ws[j].n+1) (x:=ws[j].v) b7 (fun k _ k2=>hbel.block k (by omega)) (Nat.le_refl _) (Nat.le_refl _),b8⟩
   rw[List.drop_drop,← b1]
   congr 2
   omega
 · rw[hrst] at hm
   have:=h.ge b hm
   have:=hb1.size
   omega
 · rcases hm with hm | hm
   · have:=h.out.lt b hm
     exact hother b (fun e=>h.nb b hm (e▸List.mem_cons_self)) this.2
   · have hm':b∈rst (.slice (some ⟨g,off,none⟩) (ws.length+1) cap) sv svs hbs:=by rw[rst_tv];exact List.mem_append_right _ hm
     exact hother b (fun e=>hndo.1 (e▸hm')) (h.ge b (List.mem_cons_of_mem _ hm')).2
end Go.Proofs.YtmlkhhhjdpbhfaaGreatDoor

import Derived.Test.YtmlkhhhjdpbhfaaGreatDoorFo40
import Derived.Test.YtmlkhhhjdpbhfaaGreatDoorFo42
namespace Go.Proofs.YtmlkhhhjdpbhfaaGreatDoor
open Go.RowKit
theorem run_writeNumber:∀ args W,Sem.run Tryz.prog (callFunc 122 args) W=.ok (.enter 122 args) W:=fun args W=>by
 unfold callFunc
 go_simp
 simp[Tryz.f122]
theorem run_writeLowNumber:∀ args W,Sem.run Tryz.prog (callFunc 124 args) W=.ok (.enter 124 args) W:=fun args W=>by
 unfold callFunc
 go_simp
 simp[Tryz.f124]
theorem run_writeFixed:∀ args W,Sem.run Tryz.prog (callFunc 127 args) W=.ok (.enter 127 args) W:=fun args W=>by
 unfold callFunc
 go_simp
 simp[Tryz.f127]
theorem run_writeRest:∀ args W,Sem.run Tryz.prog (callFunc 158 args) W=.ok (.enter 158 args) W:=fun args W=>by
 unfold callFunc
 go_simp
 simp[Tryz.f158]
theorem run_writeRun:∀ args W,Sem.run Tryz.prog (callFunc 147 args) W=.ok (.enter 147 args) W:=fun args W=>by
 unfold callFunc
 go_simp
 simp[Tryz.f147]
theorem run_writeHidden:∀ args W,Sem.run Tryz.prog (callFunc 142 args) W=.ok (.enter 142 args) W:=fun args W=>by
 unfold callFunc
 go_simp
 simp[Tryz.f142]
theorem run_writeLowHidden:∀ args W,Sem.run Tryz.prog (callFunc 144 args) W=.ok (.enter 144 args) W:=fun args W=>by
 unfold callFunc
 go_simp
 simp[Tryz.f144]
theorem run_writeWindow:∀ args W,Sem.run Tryz.prog (callFunc 152 args) W=.ok (.enter 152 args) W:=fun args W=>by
 unfold callFunc
 go_simp
 simp[Tryz.f152]
theorem run_writeMany:∀ args W,Sem.run Tryz.prog (callFunc 136 args) W=.ok (.enter 136 args) W:=fun args W=>by
 unfold callFunc
 go_simp
 simp[Tryz.f136]
theorem run_writeChoice:∀ args W,Sem.run Tryz.prog (callFunc 133 args) W=.ok (.enter 133 args) W:=fun args W=>by
 unfold callFunc
 go_simp
 simp[Tryz.f133]
theorem run_writeTimes:∀ args W,Sem.run Tryz.prog (callFunc 149 args) W=.ok (.enter 149 args) W:=fun args W=>by
 unfold callFunc
 go_simp
 simp[Tryz.f149]
theorem run_writeRule:∀ args W,Sem.run Tryz.prog (callFunc 139 args) W=.ok (.enter 139 args) W:=fun args W=>by
 unfold callFunc
 go_simp
 simp[Tryz.f139]
theorem run_writeStruct:∀ args W,Sem.run Tryz.prog (callFunc 130 args) W=.ok (.enter 130 args) W:=fun args W=>by
 unfold callFunc
 go_simp
 simp[Tryz.f130]
theorem run_writeSummed:∀ args W,Sem.run Tryz.prog (callFunc 156 args) W=.ok (.enter 156 args) W:=fun args W=>by
 unfold callFunc
 go_simp
 simp[Tryz.f156]
theorem run_writeAt:∀ args W,Sem.run Tryz.prog (callFunc 154 args) W=.ok (.enter 154 args) W:=fun args W=>by
 unfold callFunc
 go_simp
 simp[Tryz.f154]
theorem KidW.later {c:Cx}{B wb:Nat}{w0 w:World}{qb:Nat}{vv hv:Value}{hid:Option Nat}{st st':Wr}(h:KidW c B wb w0 qb vv hv hid st st')(hb:Below B w0 w):KidW c B wb w qb vv hv hid st st':=
 fun W bv tv sv svs hbs hb' hm hv=>h W bv tv sv svs hbs (hb.trans hb') hm hv
theorem kid_walk (c:Cx)(B:Nat)(w:World)(wb:Nat)(bv tv sv:Value)(svs:List Value)(hbs:List Nat)(st st':Wr)(hm:WrM c B w wb bv tv sv svs hbs st)(pb:Nat)(vv hv:Value)(p:Pt)(kd fn:Nat)(hpt:PtBlk w pb p)(hk:p.k=(kd:Int))(hkd:kd<15)(hfn:doFns[kd*3+2]? = some (fnV fn))(hrun:∀ args W,Sem.run Tryz.prog (callFunc fn args) W=.ok (.enter fn args) W)(hcall:∀ W,Below B w W→WrM c B W wb bv tv sv svs hbs st→Calls Tryz.prog fn #[.pointer (some ⟨wb,0,none⟩),.pointer (some ⟨pb,0,none⟩),vv,hv] W fun e w'=>WrPost c B W wb hbs st' e w'):
 Calls Tryz.prog 159 #[.pointer (some ⟨wb,0,none⟩),.pointer (some ⟨pb,0,none⟩),vv,hv] w fun e w'=>WrPost c B w wb hbs st' e w':=by
 have hdr:Below B w (w.drewN 1):=⟨rfl,rfl,rfl,Nat.le_refl _,fun _ _=>rfl⟩
 refine write_walk c w wb pb vv hv p kd fn (fun w'=>Below B w w'∧∃ bv tv sv svs more,WrM c B w' wb bv tv sv svs (hbs++more) st') hm.pre hpt hk hkd hfn hrun ?_
 refine (hcall _ hdr (hm.keep hdr (fun _ _ _=>rfl))).mono ?_
 rintro e w' ⟨e1,b,r⟩
 exact ⟨e1,hdr.trans b,r⟩
theorem write_sil (c:Cx)(B wb:Nat)(w0:World)(x:It)(r:List It)(sl:Bool)(f lo hi pb i:Nat)(vv hv:Value)(st:Wr)(hrep:RepS f c.w0 lo hi pb sl (x::r))(hhi:hi≤c.w0.heap.size)(hx:ItR x)(hs:silV (x::r)=true)(hlt:i<st.hol.length)(hout:st.out.length≤1000000000):
 KidW c B wb w0 pb vv hv (some i) st (wSil (x::r) i st):=by
 intro w bv tv sv svs hbs hb0 hm hvi
 obtain ⟨hb,rfl,hbi⟩:=hvi
 obtain ⟨f',ps,p,hpt0,hit,hsl,hptrs,hkids,hsegs,⟨hlo,hpbh⟩,hpl,hkl⟩:=hrep.lens
 have hleB:=hm.leB
 have hpB:pb<B:=by omega
 have hpt:∀ W,WrM c B W wb bv tv sv svs hbs st→PtBlk W pb p:=fun W hM=>hpt0.below hM.bel (by omega)
 obtain ⟨fh,hfh⟩:∃ fh,st.hol[i]? = some fh:=⟨st.hol[i],List.getElem?_eq_getElem hlt⟩
 have h3:x.c=39∨x.c=104∨x.c=107:=by
  simp only[silV,hidesB,Bool.or_eq_true,beq_iff_eq,decide_eq_true_eq] at hs
  omega
 unfold wSil
 rcases h3 with hxc | hxc | hxc
 · simp only[if_pos hxc]
   have hbb:=hx.b hxc
   exact kid_walk c B w wb bv tv sv svs hbs st _ hm pb vv _ p 2 127 (hpt w hm) (by rw[hit.k,hxc];rfl) (by omega) rfl run_writeFixed fun W hW hM=>writeFixed_calls c B W wb bv tv sv svs hbs st hM hout pb x.b.toNat vv _ p (hpt W hM) hpB (by rw[hit.vl];omega) (by omega)
 · simp only[if_neg (show ¬ x.c=39 by omega)]
   have hww:=hx.w (by rw[hxc];rfl)
   have hd:=hx.it.d (by rw[hxc];rfl)
   have hdp:=(hit.dp (by rw[hxc];rfl)).1
   rw[show decide (x.c=107)=false by rw[hxc];rfl]
   exact kid_walk c B w wb bv tv sv svs hbs st _ hm pb vv _ p 7 142 (hpt w hm) (by rw[hit.k,hxc];rfl) (by omega) rfl run_writeHidden fun W hW hM=>writeHidden_calls c B W wb bv tv sv svs hbs st hM hout pb hb x.d.toNat x.w.toNat i vv fh p (hpt W hM) hpB (by rw[hdp];omega) (by omega) (by rw[hit.wd];omega) (by omega) (by omega) hbi hfh
 · simp only[if_neg (show ¬ x.c=39 by omega)]
   have hww:=hx.w (by rw[hxc];rfl)
   have hd:=hx.it.d (by rw[hxc];rfl)
   have hdp:=(hit.dp (by rw[hxc];rfl)).1
   rw[show decide (x.c=107)=true by rw[hxc];rfl]
   exact kid_walk c B w wb bv tv sv svs hbs st _ hm pb vv _ p 8 144 (hpt w hm) (by rw[hit.k,hxc];rfl) (by omega) rfl run_writeLowHidden fun W hW hM=>writeLowHidden_calls c B W wb bv tv sv svs hbs st hM hout pb hb x.d.toNat x.w.toNat i vv fh p (hpt W hM) hpB (by rw[hdp];omega) (by omega) (by rw[hit.wd];omega) (by omega) (by omega) hbi hfh
def WritC (c:Cx)(B wb n:Nat):Prop:=∀ (w0:World) (its:List It) (own ctx ar sl:Bool) (f lo hi pb lo2 hi2 vb:Nat) (x:Tr n) (hid:Option Nat) (hv:Value) (st:Wr) (sc:Sc),RepS f c.w0 lo hi pb sl its→hi≤c.w0.heap.size→TrW c.R own ctx its→its.length≤1000→RepY n w0 lo2 hi2 vb x→hi2≤B→hasT c.G n its x=true→ScG own ar its sc→(ar=true→HolAt st hid sc)→WInv st→Bnd (10000*szT n x) st→
 KidW c B wb w0 pb (.pointer (some ⟨vb,0,none⟩)) hv hid st (writeT c.G n its hid x st)
theorem wTop_cons {T:Type}(W:List It→Option Nat→T→Wr→Wr)(x:It)(r:List It)(hid:Option Nat)(v:Nd T)(st:Wr):wTop W (x::r) hid v st=
 (if x.c=110 then wOut st (numB false x.w.toNat v.n)
 else if x.c=108 then wOut st (numB true x.w.toNat v.n)
 else if x.c=39 then wOut st [UInt8.ofNat x.b.toNat]
 else if x.c=46 then wOut st v.run
 else if x.c=114 then wOut (wTell st (holeOf st hid x.d.toNat) v.run.length) v.run
 else if x.c=40 then wKids W st.hol.length (segs r.length r) v.kids { st with hol:=st.hol++[fun _=>none] }
 else if x.c=47 then wHead (W ((segs r.length r).getD v.n []) none) v.kids st
 else if x.c=42 then wMany W r v.kids st
 else if x.c=116 then wMany W r v.kids (wTell st (holeOf st hid x.d.toNat) v.kids.length)
 else st):=rfl
theorem WInv.newHol {st:Wr}(hv:WInv st):WInv { st with hol:=st.hol++[fun _=>none] }:=⟨fun i f d ho a b=>by
 by_cases hi:i<st.hol.length
 · simp only[List.getElem?_append_left hi] at a
   exact hv.hole i f d ho a b
 · simp only[List.getElem?_append_right (Nat.le_of_not_lt hi)] at a
   have h0:i-st.hol.length=0:=by
    have:=(List.getElem?_eq_some_iff.1 a).1
    simp at this;omega
   rw[h0] at a
   cases a
   exact absurd b (by simp),hv.sums⟩
set_option maxHeartbeats 2000000 in
theorem write_top (c:Cx)(hG:∀ i,KOk (c.G i))(B wb n:Nat)(ih:WritC c B wb n)(w0:World)(x:It)(r:List It)(own ctx ar sl:Bool)(f lo hi pb lo2 hi2 vb:Nat)(v:Nd (Tr n))(hid:Option Nat)(hv:Value)(st:Wr)(sc:Sc)(hrep:RepS f c.w0 lo hi pb sl (x::r))(hhi:hi≤c.w0.heap.size)(hwf:TrW c.R own ctx (x::r))(hlen:(x::r).length≤1000)(hval:NdT (RepY n) w0 lo2 hi2 vb v)(hh2:hi2≤B)(hhas:hasTop (hasT c.G n) (x::r) v=true)(hsc:ScG own ar (x::r) sc)(hol:ar=true→HolAt st hid sc)(hinv:WInv st)(hbd:Bnd (8008+v.run.length+10000*(v.kids.map (szT n)).sum) st):
 KidW c B wb w0 pb (.pointer (some ⟨vb,0,none⟩)) hv hid st (wTop (writeT c.G n) (x::r) hid v st):=by
 intro w bv tv sv svs hbs hb0 hm hvi
 have hU:=writeT_up hG n
 have hkok:=hwf.kok hlen
 have hwf':=hwf
 obtain ⟨f0,hw0⟩:=hwf
 cases f0 with
 | zero=>exact hw0.elim
 | succ f0=>
 obtain ⟨hx,hown,hctx,hrule,h2,h1,hkw⟩:=hw0
 obtain ⟨f',ps,p,hpt0,hit,hsl,hptrs,hkids,hsegs,⟨hlo,hpbh⟩,hpl,hkl⟩:=hrep.lens
 obtain ⟨vv,ids,hvblk,⟨hv1,hv2⟩,hids0,hreps,hkk,hok⟩:=hval
 have hlr:r.length≤1000:=by simp at hlen;omega
 have hleB:=hm.leB
 have hpB:pb<B:=by omega
 have hvB:vb<B:=by omega
 have hout:st.out.length≤1000000000:=by have:=hbd.out;omega
 have hpt:∀ W,WrM c B W wb bv tv sv svs hbs st→PtBlk W pb p:=fun W hM=>hpt0.below hM.bel (by omega)
 have hptrs':∀ W,WrM c B W wb bv tv sv svs hbs st→PtrsAt W (pb+1) hi p.v (ps.map Prod.fst):=fun W hM=>hptrs.mono (fun k _ k2=>hM.bel.block k (by omega)) (Nat.le_refl _) (Nat.le_refl _)
 have hnd:∀ W,Below B w W→NdB W vb v.k v.n ⟨v.run.toArray⟩ vv:=fun W hW=>⟨Blk.below hvblk (hb0.trans hW) hvB,hok.n⟩
 have hids:∀ W,Below B w W→PtrsAt W lo2 hi2 vv (ids.map Prod.fst):=fun W hW=>hids0.mono (fun k _ k2=>(hb0.trans hW).block k (by omega)) (Nat.le_refl _) (Nat.le_refl _)
 have hidl:ids.length≤8000:=by have:=hok.kids;rw[hkk] at this;simpa using this
 have huse:usesB x.c=true→∃ i hb fh,hid=some i∧hv=.pointer (some ⟨hb,0,none⟩)∧hbs[i]? = some hb∧st.hol[i]? = some fh∧fh x.d.toNat=some (holeOf st hid x.d.toNat)∧HoOk (holeOf st hid x.d.toNat) st.out.length:=fun hu=>by
  obtain ⟨har,hsd⟩:=hsc.use hu
  obtain ⟨i,fh,rfl,hf1,hd1⟩:=(hol har).hole hsd
  obtain ⟨hb,rfl,hbi⟩:=hvi
  exact ⟨i,hb,fh,rfl,rfl,hbi,hf1,hd1,hinv.hole i fh _ _ hf1 hd1⟩
 rw[hasTop_cons] at hhas
 rw[wTop_cons]
 rcases kinds_list x.c hx.it.c with hxc | hxc | hxc | hxc | hxc | hxc | hxc | hxc | hxc | hxc | hxc | hxc | hxc | hxc | hxc
 · rw[if_pos hxc]
   have hww:=hx.w (by rw[hxc];rfl)
   exact kid_walk c B w wb bv tv sv svs hbs st _ hm pb _ hv p 0 122 (hpt w hm) (by rw[hit.k,hxc];rfl) (by omega) rfl run_writeNumber fun W hW hM=>writeNumber_calls c B W wb bv tv sv svs hbs st hM hout pb vb v.k v.n x.w.toNat _ vv hv p (hpt W hM) hpB (hnd W hW) hvB (by rw[hit.wd];omega) (by omega) (by omega)
 · rw[if_neg (by omega),if_pos hxc]
   have hww:=hx.w (by rw[hxc];rfl)
   exact kid_walk c B w wb bv tv sv svs hbs st _ hm pb _ hv p 1 124 (hpt w hm) (by rw[hit.k,hxc];rfl) (by omega) rfl run_writeLowNumber fun W hW hM=>writeLowNumber_calls c B W wb bv tv sv svs hbs st hM hout pb vb v.k v.n x.w.toNat _ vv hv p (hpt W hM) hpB (hnd W hW) hvB (by rw[hit.wd];omega) (by omega) (by omega)
 · rw[if_neg (by omega),if_neg (by omega),if_pos hxc]
   have hbb:=hx.b hxc
   exact kid_walk c B w wb bv tv sv svs hbs st _ hm pb _ hv p 2 127 (hpt w hm) (by rw[hit.k,hxc];rfl) (by omega) rfl run_writeFixed fun W hW hM=>writeFixed_calls c B W wb bv tv sv svs hbs st hM hout pb x.b.toNat _ hv p (hpt W hM) hpB (by rw[hit.vl];omega) (by omega)
 · rw[if_neg (by omega),if_neg (by omega),if_neg (by omega),if_neg (by omega),if_neg (by omega),if_pos hxc]
   rw[if_neg (by omega),if_neg (by omega),if_neg (by omega),if_pos hxc] at hhas
   simp only[Bool.and_eq_true,decide_eq_true_eq] at hhas
   have hkoks:∀ k∈segs r.length r,KOk k:=fun k hm=>hkok.tail.sub (segs_subl _ _ _ hm)
   have seq:=kids_seq (H:=hasT c.G n) hU st.hol.length (segs r.length r) v.kids { st with hol:=st.hol++[fun _=>none] } Sc0 hkoks (hsc.kids hxc) (fun d hd=>absurd rfl hd) (by simp) hinv.newHol hhas.2 (by
    have hsl:=segs_le r.length r
    exact ⟨by have:=hbd.out;simp only;omega,by have:=hbd.wait;simp only;omega,hbd.sums,by have:=hbd.sum;simp only;omega⟩)
   have hT:∀ k∈segs r.length r,TrW c.R true true k:=fun k hm=>hwf'.kidOf hxc hm
   generalize hst0:({ st with hol:=st.hol++[fun _=>none] }:Wr)=st0 at *
   rw[← hsegs] at seq hT ⊢
   have hfin:wKids (writeT c.G n) st.hol.length (ps.map Prod.snd) v.kids st0=wKids (writeT c.G n) st.hol.length ((ps.map Prod.snd).take ps.length) v.kids st0:=by
    rw[List.take_of_length_le (by simp)]
   rw[hfin]
   refine kid_walk c B w wb bv tv sv svs hbs st _ hm pb _ hv p 3 130 (hpt w hm) (by rw[hit.k,hxc];rfl) (by omega) rfl run_writeStruct fun W hW hM=>?_
   have hq:∀ j (hj:j<ps.length),KidAt (hasT c.G n) (szT n) (writeT c.G n) st.hol.length ps[j].2 v.kids (joV (ps.map Prod.snd) j) (wKids (writeT c.G n) st.hol.length ((ps.map Prod.snd).take j) v.kids st0) (wKids (writeT c.G n) st.hol.length ((ps.map Prod.snd).take (j+1)) v.kids st0):=fun j hj=>by
    have:=seq j (by simpa using hj)
    rw[List.getElem_map] at this
    exact this
   have hjl:∀ j (hj:j<ps.length),silV ps[j].2=false→joV (ps.map Prod.snd) j<ids.length:=fun j hj hn=>by
    obtain ⟨a,_⟩:=(hq j hj).val hn
    rw[hkk] at a
    simpa using a
   refine writeStruct_calls c B W wb bv tv sv svs hbs st hM pb vb v.k v.n lo2 hi2 (pb+1) hi _ vv hv p ids ps (fun j=>wKids (writeT c.G n) st.hol.length ((ps.map Prod.snd).take j) v.kids st0) (joV (ps.map Prod.snd)) (hpt W hM) hpB (hnd W hW) hvB hh2 (by omega) (hptrs' W hM) (hids W hW) hidl (by omega) (fun q hq=>?_) hst0.symm (joV_zero _) (fun j hj=>?_) hjl (fun j hj hs=>?_) (fun j hj hn=>?_)
   · have hr:=hkids q hq
     obtain ⟨y,t,hqe⟩:∃ y t,q.2=y::t:=by obtain ⟨y,t,hz,_⟩:=hr.segOk;exact ⟨y,t,hz⟩
     rw[hqe] at hr ⊢
     obtain ⟨_,_,p',hpt',_,hsl',_,_,_,_,hlt'⟩:=hr.open
     refine ⟨by omega,?_⟩
     rw[World.cell?_of_block (w:=c.w0) (hM.bel.block q.1 (by omega)),← silB_silV,show silB y.c=p'.sl by rw[hsl',hxc];simp]
     exact hpt'.cell 7
   · have:=joV_succ (ps.map Prod.snd) j (by simpa using hj)
     rw[List.getElem_map] at this
     exact this
   · have hr:=hkids ps[j] (List.getElem_mem hj)
     have a:=hq j hj
     have ht:=hT ps[j].2 (List.mem_map_of_mem (List.getElem_mem hj))
     rw[a.sil hs]
     obtain ⟨y,t,hqe⟩:∃ y t,ps[j].2=y::t:=by obtain ⟨y,t,hz,_⟩:=hr.segOk;exact ⟨y,t,hz⟩
     rw[hqe] at hr hs ht ⊢
     refine write_sil c B wb W y t _ f' (pb+1) hi ps[j].1 st.hol.length _ _ _ hr hhi ?_ hs a.lt (by have:=a.bd.out;omega)
     obtain ⟨fy,hty⟩:=ht
     cases fy with
     | zero=>exact hty.elim
     | succ fy=>exact hty.1
   · have a:=hq j hj
     obtain ⟨b,e,hh,hb⟩:=a.val hn
     obtain ⟨sc1,hs1,hs2⟩:=a.sc
     have hj':=hjl j hj hn
     have he:v.kids[joV (ps.map Prod.snd) j]=(ids[joV (ps.map Prod.snd) j]).2:=by simp only[hkk,List.getElem_map]
     rw[he] at e hh hb
     rw[e]
     exact (ih w0 ps[j].2 true true true _ f' (pb+1) hi ps[j].1 lo2 hi2 ids[joV (ps.map Prod.snd) j].1 ids[joV (ps.map Prod.snd) j].2 _ _ _ sc1 (hkids ps[j] (List.getElem_mem hj)) hhi (hT _ (List.mem_map_of_mem (List.getElem_mem hj))) (by have:=hkl ps[j] (List.getElem_mem hj);omega) (hreps _ (List.getElem_mem hj')) hh2 hh hs1 (fun _=>hs2) a.inv hb).later (hb0.trans hW)
 · rw[if_neg (by omega),if_neg (by omega),if_neg (by omega),if_neg (by omega),if_neg (by omega),if_neg (by omega),if_pos hxc]
   rw[if_neg (by omega),if_neg (by omega),if_neg (by omega),if_neg (by omega),if_pos hxc] at hhas
   simp only[Bool.and_eq_true,decide_eq_true_eq] at hhas
   obtain ⟨hk5,hhd⟩:=hhas
   have hl2:ps.length=2:=by have:=h2 hxc;rw[← hsegs] at this;simpa using this
   obtain ⟨hn2,hk1⟩:=hok.cho hk5
   obtain ⟨y,rfl⟩:∃ y,ids=[y]:=by
    rw[hkk] at hk1
    match ids,hk1 with
    | [y],_=>exact ⟨y,rfl⟩
   have hnl:v.n<ps.length:=by omega
   have hmem:ps[v.n].2∈segs r.length r:=by rw[← hsegs];exact List.mem_map_of_mem (List.getElem_mem hnl)
   have hge:(segs r.length r).getD v.n []=ps[v.n].2:=by rw[← hsegs];simp[hnl]
   rw[hge] at hhd ⊢
   rw[hkk] at hhd hbd ⊢
   simp only[List.map_cons,List.map_nil,headB,wHead,List.sum_cons,List.sum_nil] at hhd hbd ⊢
   obtain ⟨ctx',ht'⟩:=hwf'.kidNo (by omega) hmem
   obtain ⟨sc',hs'⟩:=hsc.other (by omega) (by rw[hxc];decide) _ hmem
   refine kid_walk c B w wb bv tv sv svs hbs st _ hm pb _ hv p 4 133 (hpt w hm) (by rw[hit.k,hxc];rfl) (by omega) rfl run_writeChoice fun W hW hM=>?_
   obtain ⟨g2,cap2,e2,_,hg2,_,hc2⟩:=(hids W hW).at (by simp)
   obtain ⟨g,cap,e1,_,hg,_,hc1⟩:=(hptrs' W hM).at (by simp;omega)
   have hq:=hc1 v.n (by simp;omega)
   have hy:=hc2 0 (by simp)
   have hq':W.cell? ⟨g,v.n,none⟩=some (.pointer (some ⟨ps[v.n].1,0,none⟩)):=by rw[hq];simp[hnl]
   have nb':NdB W vb 5 v.n ⟨v.run.toArray⟩ (.slice (some ⟨g2,0,none⟩) 1 cap2):=by
    have:=hnd W hW
    rw[hk5,e2] at this
    exact this
   exact writeChoice_calls c B W wb bv tv sv svs hbs st _ hM pb vb v.n g cap ps[v.n].1 g2 cap2 y.1 _ hv p (hpt W hM) nb' hn2 (by rw[e1];simp[hl2]) hq' (by rw[hy];simp)
    ((ih w0 ps[v.n].2 false ctx' false _ f' (pb+1) hi ps[v.n].1 lo2 hi2 y.1 y.2 none _ st sc' (hkids _ (List.getElem_mem hnl)) hhi ht' (by have:=hkl _ (List.getElem_mem hnl);omega) (hreps y (by simp)) hh2 hhd hs' (fun e=>by cases e) hinv (hbd.mono (by omega))).later (hb0.trans hW))
 · rw[if_neg (by omega),if_neg (by omega),if_neg (by omega),if_neg (by omega),if_neg (by omega),if_neg (by omega),if_neg (by omega),if_pos hxc]
   rw[if_neg (by omega),if_neg (by omega),if_neg (by omega),if_neg (by omega),if_neg (by omega),if_pos (by omega)] at hhas
   simp only[Bool.and_eq_true,decide_eq_true_eq,List.all_eq_true] at hhas
   have hone:=h1 (by rw[hxc];rfl)
   obtain ⟨z,rfl⟩:∃ z,ps=[z]:=by
    rw[hone] at hsegs
    match ps,hsegs with
    | [z],_=>exact ⟨z,rfl⟩
   have hz2:z.2=r:=by rw[hone] at hsegs;simpa using hsegs
   have hmem:r∈segs r.length r:=by rw[hone];simp
   obtain ⟨ctx',ht'⟩:=hwf'.kidNo (by omega) hmem
   obtain ⟨sc',hs'⟩:=hsc.other (by omega) (by rw[hxc];decide) _ hmem
   have hr:=hkids z (by simp)
   rw[hz2] at hr
   have seq:=many_seq hU (k:=r) hkok.tail ids st hinv (hbd.mono (by rw[← hkk];omega))
   rw[hkk,← stJ_all]
   refine kid_walk c B w wb bv tv sv svs hbs st _ hm pb _ hv p 5 136 (hpt w hm) (by rw[hit.k,hxc];rfl) (by omega) rfl run_writeMany fun W hW hM=>?_
   obtain ⟨g,cap,e1,_,hg,_,hc1⟩:=(hptrs' W hM).at (by simp)
   refine writeMany_calls (fun y s=>writeT c.G n r none y s) c B W wb bv tv sv svs hbs st hM pb g cap z.1 vb v.k v.n lo2 hi2 _ vv hv p ids (hpt W hM) hpB (by omega) (hnd W hW) hvB hh2 e1 (by rw[hc1 0 (by simp)];simp) (hids W hW) hidl (fun j hj=>?_)
   rw[stJ_succ _ _ _ _ hj]
   exact (ih w0 r false ctx' false _ f' (pb+1) hi z.1 lo2 hi2 ids[j].1 ids[j].2 none _ _ sc' hr hhi ht' hlr (hreps _ (List.getElem_mem hj)) hh2 (hhas.2 _ (by rw[hkk];exact List.mem_map_of_mem (List.getElem_mem hj))) hs' (fun e=>by cases e) (seq j hj).1 (seq j hj).2).later (hb0.trans hW)
 · rw[if_neg (by omega),if_neg (by omega),if_neg (by omega),if_neg (by omega),if_neg (by omega),if_neg (by omega)] at hhas;cases hhas
 · rw[if_neg (by omega),if_neg (by omega),if_neg (by omega),if_neg (by omega),if_neg (by omega),if_neg (by omega)] at hhas;cases hhas
 · rw[if_neg (by omega),if_neg (by omega),if_neg (by omega),if_neg (by omega),if_neg (by omega),if_neg (by omega)] at hhas;cases hhas
 · rw[if_neg (by omega),if_neg (by omega),if_neg (by omega),if_neg (by omega),if_pos hxc]
   have hd:=hx.it.d (by rw[hxc];rfl)
   have hdp:=(hit.dp (by rw[hxc];rfl)).1
   obtain ⟨i,hb,fh,rfl,rfl,hbi,hf1,hd1,hho⟩:=huse (by rw[hxc];rfl)
   exact kid_walk c B w wb bv tv sv svs hbs st _ hm pb _ _ p 9 147 (hpt w hm) (by rw[hit.k,hxc];rfl) (by omega) rfl run_writeRun fun W hW hM=>writeRun_calls' c B W wb bv tv sv svs hbs st hM hout pb vb v.k v.n hb x.d.toNat _ v.run vv p (hpt W hM) (hnd W hW) hvB hok.run (by rw[hdp];omega) (by omega) (hM.hole hbi hf1 hd1 (by omega)) hho
 · rw[if_neg (by omega),if_neg (by omega),if_neg (by omega),if_neg (by omega),if_neg (by omega),if_neg (by omega),if_neg (by omega),if_neg (by omega),if_pos hxc]
   rw[if_neg (by omega),if_neg (by omega),if_neg (by omega),if_neg (by omega),if_neg (by omega),if_pos (by omega)] at hhas
   simp only[Bool.and_eq_true,decide_eq_true_eq,List.all_eq_true] at hhas
   have hd:=hx.it.d (by rw[hxc];rfl)
   have hdp:=(hit.dp (by rw[hxc];rfl)).1
   obtain ⟨i,hb,fh,rfl,rfl,hbi,hf1,hd1,hho⟩:=huse (by rw[hxc];rfl)
   have hone:=h1 (by rw[hxc];rfl)
   obtain ⟨z,rfl⟩:∃ z,ps=[z]:=by
    rw[hone] at hsegs
    match ps,hsegs with
    | [z],_=>exact ⟨z,rfl⟩
   have hz2:z.2=r:=by rw[hone] at hsegs;simpa using hsegs
   have hmem:r∈segs r.length r:=by rw[hone];simp
   obtain ⟨ctx',ht'⟩:=hwf'.kidNo (by omega) hmem
   obtain ⟨sc',hs'⟩:=hsc.other (by omega) (by rw[hxc];decide) _ hmem
   have hr:=hkids z (by simp)
   rw[hz2] at hr
   have hkl':v.kids.length=ids.length:=by rw[hkk];simp
   have a:=wTell_up (N:=0) hinv (holeOf st (some i) x.d.toNat) ids.length (holeOf_le hinv (some i) x.d.toNat)
   have seq:=many_seq hU (k:=r) hkok.tail ids _ a.inv (hbd.up a (by rw[← hkk];omega))
   rw[hkl',hkk,← stJ_all]
   refine kid_walk c B w wb bv tv sv svs hbs st _ hm pb _ _ p 10 149 (hpt w hm) (by rw[hit.k,hxc];rfl) (by omega) rfl run_writeTimes fun W hW hM=>?_
   obtain ⟨g,cap,e1,_,hg,_,hc1⟩:=(hptrs' W hM).at (by simp)
   refine writeTimes_calls (fun y s=>writeT c.G n r none y s) c B W wb bv tv sv svs hbs st hM hout pb g cap z.1 vb v.k v.n lo2 hi2 hb x.d.toNat i _ fh _ vv p ids (hpt W hM) hpB (by omega) (hnd W hW) hvB hh2 (by rw[hdp];omega) (by omega) e1 (by rw[hc1 0 (by simp)];simp) (hids W hW) hidl hbi hf1 hd1 hho (fun j hj=>?_)
   rw[stJ_succ _ _ _ _ hj]
   exact (ih w0 r false ctx' false _ f' (pb+1) hi z.1 lo2 hi2 ids[j].1 ids[j].2 none _ _ sc' hr hhi ht' hlr (hreps _ (List.getElem_mem hj)) hh2 (hhas.2 _ (by rw[hkk];exact List.mem_map_of_mem (List.getElem_mem hj))) hs' (fun e=>by cases e) (seq j hj).1 (seq j hj).2).later (hb0.trans hW)
 · rw[if_neg (by omega),if_neg (by omega),if_neg (by omega),if_neg (by omega),if_neg (by omega),if_neg (by omega)] at hhas;cases hhas
 · rw[if_neg (by omega),if_neg (by omega),if_neg (by omega),if_neg (by omega),if_neg (by omega),if_neg (by omega)] at hhas;cases hhas
 · rw[if_neg (by omega),if_neg (by omega),if_neg (by omega),if_neg (by omega),if_neg (by omega),if_neg (by omega)] at hhas;cases hhas
 · rw[if_neg (by omega),if_neg (by omega),if_neg (by omega),if_pos hxc]
   exact kid_walk c B w wb bv tv sv svs hbs st _ hm pb _ hv p 14 158 (hpt w hm) (by rw[hit.k,hxc];rfl) (by omega) rfl run_writeRest fun W hW hM=>writeRest_calls c B W wb bv tv sv svs hbs st hM hout pb vb v.k v.n v.run vv hv (hnd W hW) hok.run
theorem nodup_swap {a b c:List Nat}{g:Nat}(h:(a++(b++c)).Nodup)(hg:g ∉ a++(b++c)):(a++([g]++c)).Nodup:=by
 rw[List.nodup_append,List.nodup_append] at h
 obtain ⟨h1,⟨_,h2,_⟩,h3⟩:=h
 simp only[List.mem_append,not_or] at hg
 rw[List.nodup_append,List.nodup_append]
 refine ⟨h1,⟨by simp,h2,fun x hx y hy e=>?_⟩,fun x hx y hy e=>?_⟩
 · simp at hx;subst hx;subst e;exact hg.2.2 hy
 · simp only[List.mem_append,List.mem_singleton] at hy
   rcases hy with hy | hy
   · subst hy;subst e;exact hg.1 hx
   · exact h3 x hx y (by simp[hy]) e
theorem wrC_sums (gb:Nat)(bv:Value)(wide:Bool)(tv sv v:Value):(wrC gb bv wide tv sv).setIfInBounds 49 v=wrC gb bv wide tv v:=rfl
theorem WrM.sumsTo {c:Cx}{B:Nat}{w w1:World}{wb:Nat}{bv tv sv sv':Value}{svs svs':List Value}{hbs:List Nat}{st:Wr}{sums':List (List Sp)}(h:WrM c B w wb bv tv sv svs hbs st)(hb:Below B w w1)(hblk':Blk w1 wb (wrC c.gb bv st.wide tv sv') 120)(hown:w1.ownsRow B 197 1 sv' svs'.length svs')(hsl:svs'.length=sums'.length)(hsum:∀ (i:Nat) (s:Value) (l:List Sp),svs'[i]? = some s→sums'[i]? = some l→w1.ownsRow B 199 5 s l.length (l.flatMap spC))(hnd:(wb::rst tv sv' svs' hbs).Nodup)(hnb:∀ g,bv.ownBlock=some g→g ∉ wb::rst tv sv' svs' hbs)(hge:∀ b∈wb::rst tv sv' svs' hbs,B≤b∧b<w1.heap.size)(hok:∀ b,bv.ownBlock=some b∨tv.ownBlock=some b∨b∈hbs→w1.heap[b]? = w.heap[b]?):
 WrM c B w1 wb bv tv sv' svs' hbs { st with sums:=sums' }:=
 ⟨hblk',ownsRow_blocks h.out fun g e=>hok g (Or.inl e),h.wait.keep hb (fun g e=>hok g (Or.inr (Or.inl e))),hown,hsl,hsum,fun i b f h1 h2=>by
  have:=h.hol i b f h1 h2;unfold Blk at *;rw[hok b (Or.inr (Or.inr (List.mem_of_getElem? h1)))];exact this,h.holL,hnd,hnb,hge,h.bel.trans (hb.mono h.leB),h.leB⟩
theorem Tryz.infoSl:(Tryz.prog.info? 197).map (fun i=>(i.zero,i.size,i.bytes))=some (some (.slice none 0 0),1,24):=by kernel_rfl
theorem WrM.newSum {c:Cx}{B:Nat}{w w1:World}{wb:Nat}{bv tv sv:Value}{svs:List Value}{hbs:List Nat}{st:Wr}(h:WrM c B w wb bv tv sv svs hbs st)(g cap:Nat)(hg:w.grownBy w1 sv.ownBlock)(hown:w1.ownsRow B 197 1 (.slice (some ⟨g,0,none⟩) (svs.length+1) cap) (svs.length+1) (svs++[.slice none 0 0]))(hat:sv.ownBlock=some g∨w.heap.size≤g):
 WrM c B (w1.setCell ⟨wb,49,none⟩ (.slice (some ⟨g,0,none⟩) (svs.length+1) cap)) wb bv tv (.slice (some ⟨g,0,none⟩) (svs.length+1) cap) (svs++[.slice none 0 0]) hbs { st with sums:=st.sums++[[]] }∧Below B w (w1.setCell ⟨wb,49,none⟩ (.slice (some ⟨g,0,none⟩) (svs.length+1) cap)):=by
 have hwb:=h.ge wb List.mem_cons_self
 have hndo:=h.nd
 rw[List.nodup_cons] at hndo
 have hgl:g<w1.heap.size:=(hown.lt g rfl).2
 have hgB:B≤g:=(hown.lt g rfl).1
 have hnw:g≠wb:=by
  rcases hat with e | e
  · intro e2;exact hndo.1 (e2▸mem_rst_sv e)
  · omega
 have hsvw:∀ b,sv.ownBlock=some b→b≠wb:=fun b e e2=>hndo.1 (e2▸mem_rst_sv e)
 have hbel:Below B w (w1.setCell ⟨wb,49,none⟩ (.slice (some ⟨g,0,none⟩) (svs.length+1) cap)):=by
  refine ⟨hg.os,hg.tape,hg.output,by have:=hg.size;simp[World.setCell];omega,fun k hk=>?_⟩
  rw[Below.heap_setCell _ _ _ _ (by simp only;omega)]
  exact hg.block k (by omega) (fun e=>by have:=(h.ge k (List.mem_cons_of_mem _ (mem_rst_sv e.symm))).1;omega)
 have hother:∀ b,b≠wb→b<w.heap.size→some b≠sv.ownBlock→(w1.setCell ⟨wb,49,none⟩ (.slice (some ⟨g,0,none⟩) (svs.length+1) cap)).heap[b]? = w.heap[b]? := fun b h1 h2 h3=>by
  rw[Below.heap_setCell _ _ _ _ h1];exact hg.block b h2 h3
 have hblk1:Blk w1 wb (wrC c.gb bv st.wide tv sv) 120:=by
  have:=h.blk;unfold Blk at *;rw[hg.block wb hwb.2 (fun e=>hsvw wb e.symm rfl)];exact this
 have hn2:=hndo.2
 have hn3:=hn2
 unfold rst at hn3
 rw[List.nodup_append,List.nodup_append,List.nodup_append] at hn3
 obtain ⟨_,⟨_,⟨_,_,_⟩,e2⟩,e1⟩:=hn3
 have hdis:∀ b,b∈tv.ownBlock.toList∨b∈svs.filterMap Value.ownBlock∨b∈hbs→some b≠sv.ownBlock:=fun b hb e=>by
  rcases hb with hb | hb | hb
  · exact e1 b hb b (by simp[← e]) rfl
  · exact e2 b (by simp[← e]) b (by simp only[List.mem_append];exact Or.inl hb) rfl
  · exact e2 b (by simp[← e]) b (by simp only[List.mem_append];exact Or.inr hb) rfl
 have hrs:rst tv (.slice (some ⟨g,0,none⟩) (svs.length+1) cap) (svs++[.slice none 0 0]) hbs=tv.ownBlock.toList++([g]++(svs.filterMap Value.ownBlock++hbs)):=by
  unfold rst
  rw[List.filterMap_append]
  simp[Value.ownBlock]
 have hmem:∀ b,b∈rst tv (.slice (some ⟨g,0,none⟩) (svs.length+1) cap) (svs++[.slice none 0 0]) hbs→b=g∨(b∈rst tv sv svs hbs∧some b≠sv.ownBlock):=fun b hb=>by
  rw[hrs] at hb
  simp only[List.mem_append,List.mem_singleton] at hb
  have hm:∀ b,b∈tv.ownBlock.toList∨b∈svs.filterMap Value.ownBlock∨b∈hbs→b∈rst tv sv svs hbs:=fun b hb=>by
   unfold rst;simp only[List.mem_append]
   rcases hb with hb | hb | hb
   · exact Or.inl hb
   · exact Or.inr (Or.inr (Or.inl hb))
   · exact Or.inr (Or.inr (Or.inr hb))
  rcases hb with hb | hb | hb | hb
  · exact Or.inr ⟨hm b (Or.inl hb),hdis b (Or.inl hb)⟩
  · exact Or.inl hb
  · exact Or.inr ⟨hm b (Or.inr (Or.inl hb)),hdis b (Or.inr (Or.inl hb))⟩
  · exact Or.inr ⟨hm b (Or.inr (Or.inr hb)),hdis b (Or.inr (Or.inr hb))⟩
 refine ⟨?_,hbel⟩
 refine WrM.sumsTo h hbel (by have:=hblk1.set 49 (.slice (some ⟨g,0,none⟩) (svs.length+1) cap);rw[wrC_sums] at this;exact this) (ownsRow_blocks (by rw[List.length_append];exact hown) fun q e=>?_) (by simp[h.sumsL]) (fun i s l a b=>?_) ?_ (fun q e=>?_) (fun b hb=>?_) (fun b hb=>?_)
 · simp[Value.ownBlock] at e
   subst e
   exact Below.heap_setCell _ _ _ _ hnw
 · by_cases hi:i<svs.length
   · rw[List.getElem?_append_left hi] at a
     rw[List.getElem?_append_left (by rw[← h.sumsL];exact hi)] at b
     refine ownsRow_blocks (h.sum i s l a b) fun q e=>hother q (fun e2=>hndo.1 (e2▸mem_rst_svs a e)) ((h.sum i s l a b).lt q e).2 (hdis q (Or.inr (Or.inl (List.mem_filterMap.2 ⟨s,List.mem_of_getElem? a,e⟩))))
   · rw[List.getElem?_append_right (by omega)] at a
     rw[List.getElem?_append_right (by rw[← h.sumsL];omega)] at b
     have hi0:i-svs.length=0:=by
      have:=(List.getElem?_eq_some_iff.1 a).1
      simp at this;omega
     rw[hi0] at a
     rw[← h.sumsL,hi0] at b
     cases a
     cases b
     exact World.ownsRow_nil _ _ _ _
 · rw[List.nodup_cons]
   refine ⟨fun hm=>?_,?_⟩
   · rcases hmem wb hm with e | e
     · exact hnw e.symm
     · exact hndo.1 e.1
   · rw[hrs]
     rcases hat with e | e
     · have:sv.ownBlock.toList=[g]:=by simp[e]
       have hn4:=hn2
       unfold rst at hn4
       rw[this] at hn4
       exact hn4
     · refine nodup_swap (b:=sv.ownBlock.toList) hn2 (fun hm=>?_)
       have:=(h.ge g (List.mem_cons_of_mem _ hm)).2
       omega
 · intro hm
   rcases List.mem_cons.1 hm with hm | hm
   · exact h.nb q e (by rw[hm];exact List.mem_cons_self)
   · rcases hmem q hm with e2 | e2
     · subst e2
       rcases hat with e3 | e3
       · exact h.nb q e (List.mem_cons_of_mem _ (mem_rst_sv e3))
       · have:=(h.out.lt q e).2;omega
     · exact h.nb q e (List.mem_cons_of_mem _ e2.1)
 · have hs1:(w1.setCell ⟨wb,49,none⟩ (.slice (some ⟨g,0,none⟩) (svs.length+1) cap)).heap.size=w1.heap.size:=by simp[World.setCell]
   rw[hs1]
   have hsz:=hg.size
   rcases List.mem_cons.1 hb with hb | hb
   · rw[hb];omega
   · rcases hmem b hb with e2 | e2
     · rw[e2];exact ⟨hgB,hgl⟩
     · have:=h.ge b (List.mem_cons_of_mem _ e2.1);omega
 · rcases hb with e | e | e
   · exact hother b (fun e2=>h.nb b e (e2▸List.mem_cons_self)) (h.out.lt b e).2 (fun e2=>h.nb b e (List.mem_cons_of_mem _ (mem_rst_sv e2.symm)))
   · exact hother b (fun e2=>hndo.1 (e2▸mem_rst_tv e)) (h.ge b (List.mem_cons_of_mem _ (mem_rst_tv e))).2 (hdis b (Or.inl (by simp[e])))
   · obtain ⟨i,hi⟩:=List.getElem?_of_mem e
     exact hother b (fun e2=>hndo.1 (e2▸mem_rst_hbs hi)) (h.ge b (List.mem_cons_of_mem _ (mem_rst_hbs hi))).2 (hdis b (Or.inr (Or.inr e)))
end Go.Proofs.YtmlkhhhjdpbhfaaGreatDoor

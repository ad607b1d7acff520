import Derived.Test.YtmlkhhhjdpbhfaaGreatDoorFo26
import Derived.Test.YtmlkhhhjdpbhfaaGreatDoorFo03
namespace Go.Proofs.YtmlkhhhjdpbhfaaGreatDoor
open Go.RowKit
def ScM (B0:Nat)(w:World)(sb:Nat)(sc:Sc):Prop:=
 ∃ hp:Nat→Option Nat,ScAt w sb hp sc.us∧∀ d,d<8→(hp d=none∧sc.hid d=none)∨∃ q p,hp d=some q∧q<B0∧PtBlk w q p∧sc.hid d=some p.dpl
structure WS (B0 bb:Nat) (o:Option Nat) (q:Sc × (Int × Bool)) (w:World):Prop where
 bd:BdAt w bb q.2
 sc:∀ sb,o=some sb→ScM B0 w sb q.1∧sb≠bb∧B0≤sb
 hb:B0≤bb
 shp:Shp w
 pos:0<B0
structure FrW (bb:Nat) (o:Option Nat) (w w':World):Prop where
 os:w'.os=w.os
 tape:w'.tape=w.tape
 output:w'.output=w.output
 size:w.heap.size≤w'.heap.size
 block:∀ k,k<w.heap.size→k≠bb→o≠some k→w'.heap[k]? = w.heap[k]?
theorem FrW.refl (bb:Nat)(o:Option Nat)(w:World):FrW bb o w w:=⟨rfl,rfl,rfl,Nat.le_refl _,fun _ _ _ _=>rfl⟩
theorem FrW.trans {bb:Nat}{o:Option Nat}{a b c:World}(h:FrW bb o a b)(k:FrW bb o b c):FrW bb o a c:=
 ⟨k.os.trans h.os,k.tape.trans h.tape,k.output.trans h.output,Nat.le_trans h.size k.size,fun i hi h1 h2=>(k.block i (by have:=h.size;omega) h1 h2).trans (h.block i hi h1 h2)⟩
theorem FrW.below {bb B0:Nat}{o:Option Nat}{w w':World}(h:FrW bb o w w')(hb:B0≤bb)(ho:∀ sb,o=some sb→B0≤sb)(hB:B0≤w.heap.size):Below B0 w w':=
 ⟨h.os,h.tape,h.output,h.size,fun k hk=>h.block k (by omega) (by omega) (fun e=>by have:=ho k e;omega)⟩
theorem Same.frW {bb:Nat}{w w':World}(h:Same bb w w')(o:Option Nat):FrW bb o w w':=⟨h.os,h.tape,h.output,by rw[h.size];omega,fun k _ h1 _=>h.block k h1⟩
theorem Same2.frW {bb sb:Nat}{w w':World}(h:Same2 bb sb w w'):FrW bb (some sb) w w':=⟨h.os,h.tape,h.output,by rw[h.size];omega,fun k _ h1 h2=>h.block k h1 (fun e=>h2 (by rw[e]))⟩
theorem FrW.toNone {bb sb:Nat}{w w1 w2:World}(h:FrW bb none w w1)(k:FrW bb (some sb) w1 w2)(hs:w.heap.size≤sb):FrW bb none w w2:=
 ⟨k.os.trans h.os,k.tape.trans h.tape,k.output.trans h.output,Nat.le_trans h.size k.size,fun i hi h1 h2=>(k.block i (by have:=h.size;omega) h1 (fun e=>by simp at e;omega)).trans (h.block i hi h1 h2)⟩
structure LetOk (x:It):Prop where
 st:(kOf x.c==3)=(x.c==40)
 hid:kHid (kOf x.c)=hidesB x.c
 use:∃ j:Nat,j<15∧kOf x.c=(j:Int)∧kUse j=usesB x.c
 keep:kKeep (kOf x.c)=inB [119,64,115] x.c
 dep:hidesB x.c=true∨usesB x.c=true→kD x.c=true∧0≤x.d∧x.d<8
theorem RepT.segOk {f:Nat}{w:World}{lo hi pb:Nat}{seg:List It}(h:RepT f w lo hi pb seg):SegOk seg:=by
 cases f with
 | zero=>exact h.elim
 | succ f=>obtain ⟨x,kids,p,e,hn,_⟩:=h;exact ⟨x,_,e,hn⟩
theorem segs_kids (kids:List (Nat × List It))(h:∀ q,q∈kids→SegOk q.2):segs (kids.flatMap Prod.snd).length (kids.flatMap Prod.snd)=kids.map Prod.snd:=by
 have e:kids.flatMap Prod.snd=(kids.map Prod.snd).flatten:=by rw[List.flatMap_def]
 rw[e]
 exact segs_flat _ (fun s hs=>by obtain ⟨q,hq,rfl⟩:=List.mem_map.1 hs;exact h q hq) _ (Nat.le_refl _)
def WalkC (f:Nat):Prop:=
 ∀ (w:World) (lo hi pb:Nat) (seg:List It) (own:Bool) (o:Option Nat) (q:Sc × (Int × Bool)) (B0 bb:Nat),RepT f w lo hi pb seg→hi≤B0→B0≤w.heap.size→WS B0 bb o q w→(∀ x,x∈seg→LetOk x)→seg.length≤1000→(own=true→o.isSome=true)→
  Calls Tryz.prog 61 #[.pointer (some ⟨bb,0,none⟩),.pointer (some ⟨pb,0,none⟩),ptrO (if own then o else none),ptrO o] w fun e w'=>
   e=.returned (.tuple #[])∧WS B0 bb o (walkV f own o.isSome seg q) w'∧FrW bb o w w'
def foldK (f:Nat)(own ar:Bool)(kids:List (Nat × List It))(q:Sc × (Int × Bool)):Sc × (Int × Bool):=(kids.map Prod.snd).foldl (fun z s=>walkV f own ar s z) q
theorem foldK_snoc (f:Nat)(own ar:Bool)(kids:List (Nat × List It))(k:Nat × List It)(q:Sc × (Int × Bool)):foldK f own ar (kids++[k]) q=walkV f own ar k.2 (foldK f own ar kids q):=by
 simp[foldK]
theorem ScM.fr {B0:Nat}{w w':World}{sb:Nat}{sc:Sc}(h:ScM B0 w sb sc)(hb:Below B0 w w')(hs:w'.heap[sb]? = w.heap[sb]?):ScM B0 w' sb sc:=by
 obtain ⟨hp,h1,h2⟩:=h
 refine ⟨hp,?_,fun d hd=>?_⟩
 · unfold ScAt Blk at *;rw[hs];exact h1
 · rcases h2 d hd with h | ⟨q,p,a,b,c,e⟩
   · exact Or.inl h
   · refine Or.inr ⟨q,p,a,b,?_,e⟩
     unfold PtBlk Blk at *
     rw[hb.block q b];exact c
set_option maxRecDepth 100000 in
theorem idx_p (hp:Nat→Option Nat)(j:Nat)(hj:j<8)(w:World):(Instr.index 254 (.agg #[ptrO (hp 0),ptrO (hp 1),ptrO (hp 2),ptrO (hp 3),ptrO (hp 4),ptrO (hp 5),ptrO (hp 6),ptrO (hp 7)]) (.int .i64 j)).run Tryz.prog w=.ok (ptrO (hp j)) w:=by
 have h8:j=0∨j=1∨j=2∨j=3∨j=4∨j=5∨j=6∨j=7:=by omega
 rcases h8 with rfl | rfl | rfl | rfl | rfl | rfl | rfl | rfl<;>rfl
theorem wpList_index_p {ops:Array Oper}{rest:List Oper}{op:Oper}{a:Act}{w:World}{Q:Exit→Act→World→Prop}(hgd:op.guard=none)(x y:Operand)(ho:op.op=.index 254 x y)(hp:Nat→Option Nat)(j:Nat)(hj:j<8)(hx:a.eval x=.agg #[ptrO (hp 0),ptrO (hp 1),ptrO (hp 2),ptrO (hp 3),ptrO (hp 4),ptrO (hp 5),ptrO (hp 6),ptrO (hp 7)])(hy:a.eval y=.int .i64 j)(h:wpList Tryz.prog ops Q rest (a.put op.dst (ptrO (hp j))) w):wpList Tryz.prog ops Q (op::rest) a w:=
 wpList_plain hgd fun _ hK=>by
  unfold Oper.wp execOp
  simp only[ho,hx,hy,idx_p hp j hj,Sem.run_bind,Sem.run_pure,Result.andThen_ok]
  exact hK _ _ h
theorem mem_flat_le' (l:List (Nat × List It))(q:Nat × List It)(h:q∈l):q.2.length≤(l.flatMap Prod.snd).length:=by
 induction l with
 | nil=>simp at h
 | cons x r ih=>
  simp only[List.flatMap_cons,List.length_append]
  rcases List.mem_cons.1 h with rfl | h
  · omega
  · have:=ih h;omega
set_option maxRecDepth 100000 in
set_option maxHeartbeats 4000000 in
theorem struct_calls (f:Nat)(ih:WalkC f)(w:World)(lo hi pb:Nat)(_x:It)(kids:List (Nat × List It))(p:Pt)(q:Sc × (Int × Bool))(B0 bb:Nat)(_hpb:pb<hi)(hhi:hi≤B0)(hB:B0≤w.heap.size)(hblk:PtBlk w pb p)(hptr:PtrsAt w lo hi p.v (kids.map Prod.fst))(hkids:∀ z,z∈kids→RepT f w lo hi z.1 z.2)(hlet:∀ y,y∈kids.flatMap Prod.snd→LetOk y)(hlen:(kids.flatMap Prod.snd).length≤1000)(hws:WS B0 bb none q w):
 Calls Tryz.prog 99 #[.pointer (some ⟨bb,0,none⟩),.pointer (some ⟨pb,0,none⟩)] w fun e w'=>
  e=.returned (.tuple #[])∧WS B0 bb none (q.1,endV (foldK f true true kids (Sc0,q.2)).1 (foldK f true true kids (Sc0,q.2)).2) w'∧FrW bb none w w':=by
 obtain ⟨ao,cap,hv,hcell⟩:∃ ao cap,p.v=.slice ao (kids.map Prod.fst).length cap∧(∀ j,j<(kids.map Prod.fst).length→∃ g,ao=some ⟨g,0,none⟩∧g<B0∧w.cell? ⟨g,j,none⟩=some (.pointer (some ⟨(kids.map Prod.fst).getD j 0,0,none⟩))):=by
  rcases hptr with ⟨hv,hnil⟩ | ⟨g,cap,hv,hg1,hg2,_,hc⟩
  · exact ⟨none,0,by rw[hv,hnil];rfl,fun j hj=>by rw[hnil] at hj;simp at hj⟩
  · exact ⟨_,_,hv,fun j hj=>⟨g,rfl,by omega,hc j hj⟩⟩
 rw[List.length_map] at hv
 have c7a:∀ o,(w.alloc o).cell? ⟨pb,8,none⟩=some (.slice ao kids.length cap):=fun o=>by rw[← hv];exact (Blk.alloc hblk o).cell 8
 have hbbl:=hws.bd.lt
 have HW0:Hid (WS B0 bb (some w.heap.size) (Sc0,q.2) (w.alloc (.cells (scells (fun _=>none) (fun _=>false)) 256))):=by
  refine ⟨Blk.alloc hws.bd _,fun sb e=>?_,hws.hb,hws.shp.fr (rb:=w.heap.size) (B:=w.heap.size) ((Fr.refl _ _ _).alloc (Nat.le_refl _) _) (by have:=hws.pos;omega) (by have:=hws.pos;omega),hws.pos⟩
  simp at e
  subst e
  exact ⟨⟨fun _=>none,Blk.new _ _ _,fun d _=>Or.inl ⟨rfl,rfl⟩⟩,by omega,hB⟩
 have HF0:Hid (FrW bb none w (w.alloc (.cells (scells (fun _=>none) (fun _=>false)) 256))):=⟨rfl,rfl,rfl,by simp,fun k hk _ _=>Below.heap_alloc _ _ _ hk⟩
 have hklen:kids.length≤1000:=by
  have h1:kids.length≤(kids.flatMap Prod.snd).length:=by
   clear hcell hv c7a HW0 HF0 hptr hlet hlen
   induction kids with
   | nil=>simp
   | cons z t iht=>
    obtain ⟨y,r,e,_⟩:=(hkids z List.mem_cons_self).segOk
    have:=iht (fun z hz=>hkids z (List.mem_cons_of_mem _ hz))
    simp only[List.flatMap_cons,List.length_append,List.length_cons,e];omega
  omega
 have HIH:=hide' ih
 have HKids:=hide' hkids
 have HLet:=hide' hlet
 have HCell:=hide' hcell
 have hb0:=hws.hb
 have hpos:=hws.pos
 have HWS:=hide' hws
 clear ih hkids hlet hcell hv hptr hblk hws
 go_enter Tryz.func99,Tryz.ntmps99
 go_wp2_with fail
 simp only[scells,ptrO,Option.map_none] at HW0 HF0
 generalize hW:w.alloc (.cells #[.pointer none,.pointer none,.pointer none,.pointer none,.pointer none,.pointer none,.pointer none,.pointer none,.bool false,.bool false,.bool false,.bool false,.bool false,.bool false,.bool false,.bool false] 256)=W0 at *
 clear hW c7a
 generalize hsb:w.heap.size=sb at *
 have HSB:=hide' hsb
 clear hsb
 go_loopw [14] (fun v14 wr=>∃ j:Nat,v14=.int .i64 j∧j≤kids.length∧Hid (WS B0 bb (some sb) (foldK f true true (kids.take j) (Sc0,q.2)) wr)∧Hid (FrW bb none w wr)∧Hid (sb<wr.heap.size)) (fun v14 _=>kids.length-(intOf v14).toNat)
 case atStart=>exact ⟨0,rfl,by omega,HW0,HF0,(by obtain ⟨⟨hp,h1,_⟩,_⟩:=HW0.out.sc sb rfl;exact Blk.lt h1:sb<W0.heap.size)⟩
 case round=>
  obtain ⟨j,rfl,hj,hat,hfr,hsbl⟩:=hrel
  have hsb2:=hsbl.out
  have hfs:=hfr.out.size
  rw[HSB.out] at hfs
  by_cases hlt:j<kids.length
  · obtain ⟨g,rfl,hg,hc⟩:=HCell.out j (by simpa using hlt)
    have hjj:(j:Int)<(kids.length:Int):=by omega
    have hq:kids[j]∈kids:=List.getElem_mem hlt
    have hpt:(kids.map Prod.fst).getD j 0=kids[j].1:=by rw[getD_lt _ _ _ (by simpa using hlt)];simp
    rw[hpt] at hc
    have hbel:=hfr.out.below (B0:=B0) hb0 (fun _ e=>by cases e) (by rw[HSB.out];omega)
    have hcw:wr.cell? ⟨g,j,none⟩=some (.pointer (some ⟨kids[j].1,0,none⟩)):=by
     rw[hbel.cell (p:=⟨g,j,none⟩) hg];exact hc
    have hkr:=(HKids.out _ hq).mono (w':=wr) (fun k h1 h2=>hbel.block k (by omega)) (Nat.le_refl _) (Nat.le_refl _)
    have hlen2:kids[j].2.length≤1000:=by have h1:=mem_flat_le' kids _ hq;omega
    have hmem:∀ z,z∈kids[j].2→z∈kids.flatMap Prod.snd:=fun z hz=>List.mem_flatMap.2 ⟨_,hq,hz⟩
    have HC:=hide' (HIH.out wr lo hi _ _ true (some sb) _ B0 bb hkr hhi (by omega) hat.out (fun z hz=>HLet.out z (hmem z hz)) hlen2 (fun _=>rfl))
    have HT:Hid (walkV f true true kids[j].2 (foldK f true true (kids.take j) (Sc0,q.2))=foldK f true true (kids.take (j+1)) (Sc0,q.2)):=by
     have:walkV f true true kids[j].2 (foldK f true true (kids.take j) (Sc0,q.2))=foldK f true true (kids.take (j+1)) (Sc0,q.2):=by
      rw[List.take_succ_eq_append_getElem hlt,foldK_snoc]
     exact this
    clear hc hpt hkr hmem hlen2 hat hq
    generalize kids[j]=z at *
    go_wp2_with fail
    have hcc:=HC.out
    simp only[ptrO,if_true,Option.map_some,Option.isSome_some] at hcc
    refine hcc.mono ?_
    rintro e w5 ⟨rfl,hws5,hfr5⟩
    rw[HT.out] at hws5
    have HN1:=hide' hws5
    have HN2:=hide' (hfr.out.toNone hfr5 (by rw[HSB.out];exact Nat.le_refl _))
    have hs5:=hfr5.size
    clear hcc HC hws5 hfr5 hcw
    simp only
    go_wp2_with fail
    go_roundw
    case rel=>exact ⟨j+1,by go_num,by omega,HN1,HN2,(by omega:sb<w5.heap.size)⟩
    case measure=>simp[intOf];omega
  · have HTk:Hid (WS B0 bb (some sb) (foldK f true true kids (Sc0,q.2)) wr):=by
     have h:=hat.out
     rw[List.take_of_length_le (by omega)] at h
     exact h
    clear hat
    generalize hz:foldK f true true kids (Sc0,q.2)=z at *
    have HZ:=hide' hz
    clear hz
    obtain ⟨⟨hp,hsc,hd⟩,hsbb,_⟩:=HTk.out.sc sb rfl
    have b0:wr.cell? ⟨sb,0,none⟩=some (ptrO (hp 0)):=hsc.cell 0
    have b1:wr.cell? ⟨sb,1,none⟩=some (ptrO (hp 1)):=hsc.cell 1
    have b2:wr.cell? ⟨sb,2,none⟩=some (ptrO (hp 2)):=hsc.cell 2
    have b3:wr.cell? ⟨sb,3,none⟩=some (ptrO (hp 3)):=hsc.cell 3
    have b4:wr.cell? ⟨sb,4,none⟩=some (ptrO (hp 4)):=hsc.cell 4
    have b5:wr.cell? ⟨sb,5,none⟩=some (ptrO (hp 5)):=hsc.cell 5
    have b6:wr.cell? ⟨sb,6,none⟩=some (ptrO (hp 6)):=hsc.cell 6
    have b7:wr.cell? ⟨sb,7,none⟩=some (ptrO (hp 7)):=hsc.cell 7
    have HSc:=hide' hsc
    have HD:=hide' hd
    clear hsc hd
    go_wp2_with fail
    generalize hA:#[ptrO (hp 0),ptrO (hp 1),ptrO (hp 2),ptrO (hp 3),ptrO (hp 4),ptrO (hp 5),ptrO (hp 6),ptrO (hp 7)]=A at *
    have HA:=hide' hA
    clear hA b0 b1 b2 b3 b4 b5 b6 b7
    go_loopw [24] (fun v24 wq=>∃ j:Nat,v24=.int .i64 j∧j≤8∧Hid (BdAt wq bb ((List.range j).foldl (endStep z.1) z.2))∧Hid (Same bb wr wq)) (fun v24 _=>8-(intOf v24).toNat)
    case atStart=>exact ⟨0,rfl,by omega,HTk.out.bd,Same.refl _ _⟩
    case round=>
     rename World=>wq
     obtain ⟨d,rfl,hd,hbd,hsm⟩:=hrel
     by_cases hd8:d<8
     · have hd8':(d:Int)<8:=by omega
       have HIdx:=hide' (fun (W:World)=>idx_p hp d hd8 W)
       have hsq:ScAt wq sb hp z.1.us:=Blk.same HSc.out hsm.out hsbb
       have cu:wq.cell? ⟨sb,8+d,none⟩=some (.bool (z.1.us d)):=by rw[Blk.cell hsq (8+d)];exact (scells_h hp z.1.us d hd8).2
       have HRange:Hid ((List.range (d+1)).foldl (endStep z.1) z.2=endStep z.1 ((List.range d).foldl (endStep z.1) z.2) d):=by
        have:(List.range (d+1)).foldl (endStep z.1) z.2=endStep z.1 ((List.range d).foldl (endStep z.1) z.2) d:=by rw[List.range_succ,List.foldl_append];rfl
        exact this
       have hdd:=HD.out d hd8
       clear hsq
       rcases hdd with ⟨h1,h2⟩ | ⟨q',p',h1,h2,h3,h4⟩
       · have hpj:ptrO (hp d)=.pointer none:=by rw[h1];rfl
         have HN:Hid (BdAt wq bb ((List.range (d+1)).foldl (endStep z.1) z.2)):=by
          have:BdAt wq bb ((List.range (d+1)).foldl (endStep z.1) z.2):=by rw[HRange.out];unfold endStep;rw[h2];exact hbd.out
          exact this
         clear h1 h2
         go_wp2_with (refine wpList_index_p rfl _ _ rfl hp d hd8 (by rw[HA.out];rfl) rfl ?_)
         go_roundw
         case rel=>exact ⟨d+1,by go_num,by omega,HN,hsm⟩
         case measure=>simp[intOf];omega
       · have hpj:ptrO (hp d)=.pointer (some ⟨q',0,none⟩):=by rw[h1];rfl
         cases hu:z.1.us d
         · rw[hu] at cu
           have HP':Hid (PtBlk wq q' p'):=Blk.same h3 hsm.out (by omega)
           have HN:Hid ((List.range (d+1)).foldl (endStep z.1) z.2=bw ((List.range d).foldl (endStep z.1) z.2) p'.dpl):=by
            have:(List.range (d+1)).foldl (endStep z.1) z.2=bw ((List.range d).foldl (endStep z.1) z.2) p'.dpl:=by rw[HRange.out];unfold endStep;rw[h4,hu];rfl
            exact this
           clear h1 h3 h4 hu
           go_wp2_with (refine wpList_index_p rfl _ _ rfl hp d hd8 (by rw[HA.out];rfl) rfl ?_)
           refine (wrong_calls wq bb q' _ p' hbd.out HP'.out (by omega)).mono ?_
           rintro e w6 ⟨rfl,k1,k2⟩
           have HN1:Hid (BdAt w6 bb ((List.range (d+1)).foldl (endStep z.1) z.2)):=by
            have:BdAt w6 bb ((List.range (d+1)).foldl (endStep z.1) z.2):=by rw[HN.out];exact k1
            exact this
           have HN2:=hide' (hsm.out.trans k2)
           clear k1 k2 cu
           simp only
           go_wp2_with fail
           go_roundw
           case rel=>exact ⟨d+1,by go_num,by omega,HN1,HN2⟩
           case measure=>simp[intOf];omega
         · rw[hu] at cu
           have HN:Hid (BdAt wq bb ((List.range (d+1)).foldl (endStep z.1) z.2)):=by
            have:BdAt wq bb ((List.range (d+1)).foldl (endStep z.1) z.2):=by rw[HRange.out];unfold endStep;rw[h4,hu];exact hbd.out
            exact this
           clear h1 h3 h4 hu
           go_wp2_with (refine wpList_index_p rfl _ _ rfl hp d hd8 (by rw[HA.out];rfl) rfl ?_)
           go_roundw
           case rel=>exact ⟨d+1,by go_num,by omega,HN,hsm⟩
           case measure=>simp[intOf];omega
     · have HBd:Hid (BdAt wq bb (endV z.1 z.2)):=by
        have h:=hbd.out
        rw[show d=8 by omega] at h
        exact h
       have HFf:=hide' (hfr.out.trans (hsm.out.frW none))
       go_wp2_with fail
       go_end0
       rw[HZ.out]
       refine ⟨rfl,⟨HBd.out,(fun _ e=>by cases e),hb0,?_,hpos⟩,HFf.out⟩
       exact HTk.out.shp.fr (B:=wr.heap.size) (hsm.out.fr _) (by omega) (by have:=HTk.out.shp.2;omega)
theorem WS.bdS {B0 bb:Nat}{o:Option Nat}{q:Sc × (Int × Bool)}{w w':World}{st:Int × Bool}(h:WS B0 bb o q w)(hB:B0≤w.heap.size)(hb:BdAt w' bb st)(hs:Same bb w w'):WS B0 bb o (q.1,st) w':=by
 have hbel:Below B0 w w':=⟨hs.os,hs.tape,hs.output,by rw[hs.size];omega,fun k hk=>hs.block k (by have:=h.hb;omega)⟩
 refine ⟨hb,fun sb e=>?_,h.hb,h.shp.fr (B:=w.heap.size) (hs.fr _) (by have:=h.hb;have:=h.pos;omega) (by have:=h.pos;omega),h.pos⟩
 obtain ⟨a,b,c⟩:=h.sc sb e
 exact ⟨a.fr hbel (hs.block sb b),b,c⟩
theorem WS.bare {B0 bb:Nat}{o:Option Nat}{q:Sc × (Int × Bool)}{w:World}(h:WS B0 bb o q w):WS B0 bb none q w:=⟨h.bd,(fun _ e=>by cases e),h.hb,h.shp,h.pos⟩
theorem WS.up {B0 bb:Nat}{o:Option Nat}{q q':Sc × (Int × Bool)}{w w':World}(h:WS B0 bb o q w)(hB:B0≤w.heap.size)(h':WS B0 bb none q' w')(hf:FrW bb none w w')(hq:q'.1=q.1)(ho:∀ sb,o=some sb→sb<w.heap.size):WS B0 bb o q' w'∧FrW bb o w w':=by
 refine ⟨⟨h'.bd,fun sb e=>?_,h'.hb,h'.shp,h'.pos⟩,⟨hf.os,hf.tape,hf.output,hf.size,fun k k1 k2 _=>hf.block k k1 k2 (by simp)⟩⟩
 obtain ⟨a,b,c⟩:=h.sc sb e
 rw[hq]
 exact ⟨a.fr (hf.below h.hb (fun _ e=>by cases e) hB) (hf.block sb (ho sb e) b (by simp)),b,c⟩
theorem WS.lt {B0 bb:Nat}{o:Option Nat}{q:Sc × (Int × Bool)}{w:World}(h:WS B0 bb o q w)(sb:Nat)(e:o=some sb):sb<w.heap.size:=by
 obtain ⟨⟨hp,a,_⟩,_⟩:=h.sc sb e
 exact Blk.lt a
theorem foldK_scope (f:Nat)(kids:List (Nat × List It)):∀ q:Sc × (Int × Bool),(foldK f false false kids q).1=q.1:=by
 have hw:∀ (f:Nat) (s:List It) (q:Sc × (Int × Bool)),(walkV f false false s q).1=q.1:=by
  intro f
  induction f with
  | zero=>intro s q;rfl
  | succ f ih=>
   intro s q
   cases s with
   | nil=>rfl
   | cons x r=>
    rw[walkV]
    split
    · rfl
    · have hs:∀ (l:List (List It)) (z:Sc × (Int × Bool)),(l.foldl (fun z s=>walkV f false (false&&inB [119,64,115] x.c) s z) z).1=z.1:=by
       intro l
       induction l with
       | nil=>intro z;rfl
       | cons y t iht=>
        intro z
        rw[List.foldl_cons,iht]
        simp only[Bool.false_and]
        exact ih y z
      rw[hs]
      unfold stepV hideV useV
      split
      · simp
      · split<;>simp
 intro q
 unfold foldK
 induction kids generalizing q with
 | nil=>rfl
 | cons k t iht=>rw[List.map_cons,List.foldl_cons,iht,hw]
theorem WS.hideS {B0 bb sb pb:Nat}{q:Sc × (Int × Bool)}{w w':World}{x:It}{p:Pt}{hp:Nat→Option Nat}{d:Nat}(h:WS B0 bb (some sb) q w)(_hB:B0≤w.heap.size)(hd8:d<8)(hxd:x.d.toNat=d)(hpl:p.dpl=x.pl)(hpb:pb<B0)(hP:PtBlk w pb p)(hhp:∀ k,k<8→(hp k=none∧q.1.hid k=none)∨∃ q' p',hp k=some q'∧q'<B0∧PtBlk w q' p'∧q.1.hid k=some p'.dpl)(hs:Same2 bb sb w w')(hc:(hp d≠none∧BdAt w' bb (bw q.2 p.dpl)∧ScAt w' sb hp q.1.us)∨(hp d=none∧BdAt w' bb q.2∧ScAt w' sb (upO hp d pb) q.1.us)):WS B0 bb (some sb) (hideV true x q) w':=by
 obtain ⟨_,hsb,hBsb⟩:=h.sc sb rfl
 have hbl:∀ k,k<B0→w'.heap[k]? = w.heap[k]? := fun k hk=>hs.block k (by have:=h.hb;omega) (by omega)
 have hP':∀ q' p',q'<B0→PtBlk w q' p'→PtBlk w' q' p':=fun q' p' h1 h2=>by unfold PtBlk Blk at *;rw[hbl q' h1];exact h2
 have hshp:Shp w':=h.shp.fr (B:=B0) (rb:=bb) ⟨hs.os,hs.tape,hs.output,by rw[hs.size];omega,fun k hk _=>hbl k hk⟩ (by have:=h.hb;have:=h.pos;omega) h.pos
 rcases hc with ⟨c1,c2,c3⟩ | ⟨c1,c2,c3⟩
 · have hn:(q.1.hid d).isNone=false:=by
    rcases hhp d hd8 with ⟨a,_⟩ | ⟨q',p',a,b,c,e⟩
    · exact absurd a c1
    · rw[e];rfl
   have e:hideV true x q=(q.1,bwV q.2 x.pl):=by unfold hideV;rw[hxd,hn];rfl
   rw[e]
   refine ⟨by rw[← hpl];exact c2,fun s' e=>?_,h.hb,hshp,h.pos⟩
   simp at e
   subst e
   refine ⟨⟨hp,c3,fun k hk=>?_⟩,hsb,hBsb⟩
   rcases hhp k hk with a | ⟨q',p',a,b,c,e⟩
   · exact Or.inl a
   · exact Or.inr ⟨q',p',a,b,hP' q' p' b c,e⟩
 · have hn:(q.1.hid d).isNone=true:=by
    rcases hhp d hd8 with ⟨_,a⟩ | ⟨q',p',a,_⟩
    · rw[a];rfl
    · rw[c1] at a;cases a
   have e:hideV true x q=(⟨fun k=>if k=d then some x.pl else q.1.hid k,q.1.us⟩,q.2):=by unfold hideV;rw[hxd,hn];rfl
   rw[e]
   refine ⟨c2,fun s' e=>?_,h.hb,hshp,h.pos⟩
   simp at e
   subst e
   refine ⟨⟨upO hp d pb,c3,fun k hk=>?_⟩,hsb,hBsb⟩
   unfold upO
   by_cases hkd:k=d
   · simp only[hkd,if_true]
     exact Or.inr ⟨pb,p,rfl,hpb,hP' pb p hpb hP,by rw[hpl]⟩
   · simp only[hkd,if_false]
     rcases hhp k hk with a | ⟨q',p',a,b,c,e⟩
     · exact Or.inl a
     · exact Or.inr ⟨q',p',a,b,hP' q' p' b c,e⟩
theorem WS.useS {B0 bb sb:Nat}{q:Sc × (Int × Bool)}{w w':World}{x:It}{p:Pt}{hp:Nat→Option Nat}{d:Nat}(h:WS B0 bb (some sb) q w)(_hB:B0≤w.heap.size)(hd8:d<8)(hxd:x.d.toNat=d)(hpl:p.dpl=x.pl)(hhp:∀ k,k<8→(hp k=none∧q.1.hid k=none)∨∃ q' p',hp k=some q'∧q'<B0∧PtBlk w q' p'∧q.1.hid k=some p'.dpl)(hs:Same2 bb sb w w')(hc:((hp d=none∨q.1.us d=true)∧BdAt w' bb (bw q.2 p.dpl)∧ScAt w' sb hp q.1.us)∨((hp d≠none∧q.1.us d=false)∧BdAt w' bb q.2∧ScAt w' sb hp (upB q.1.us d))):WS B0 bb (some sb) (useV true x q) w':=by
 obtain ⟨_,hsb,hBsb⟩:=h.sc sb rfl
 have hbl:∀ k,k<B0→w'.heap[k]? = w.heap[k]? := fun k hk=>hs.block k (by have:=h.hb;omega) (by omega)
 have hP':∀ q' p',q'<B0→PtBlk w q' p'→PtBlk w' q' p':=fun q' p' h1 h2=>by unfold PtBlk Blk at *;rw[hbl q' h1];exact h2
 have hshp:Shp w':=h.shp.fr (B:=B0) (rb:=bb) ⟨hs.os,hs.tape,hs.output,by rw[hs.size];omega,fun k hk _=>hbl k hk⟩ (by have:=h.hb;have:=h.pos;omega) h.pos
 have keep:∀ k,k<8→(hp k=none∧q.1.hid k=none)∨∃ q' p',hp k=some q'∧q'<B0∧PtBlk w' q' p'∧q.1.hid k=some p'.dpl:=fun k hk=>by
  rcases hhp k hk with a | ⟨q',p',a,b,c,e⟩
  · exact Or.inl a
  · exact Or.inr ⟨q',p',a,b,hP' q' p' b c,e⟩
 have hnone:hp d=none→(q.1.hid d).isNone=true:=fun a=>by
  rcases hhp d hd8 with ⟨_,b⟩ | ⟨q',p',b,_⟩
  · rw[b];rfl
  · rw[a] at b;cases b
 have hsome:hp d≠none→(q.1.hid d).isNone=false:=fun a=>by
  rcases hhp d hd8 with ⟨b,_⟩ | ⟨q',p',_,_,_,b⟩
  · exact absurd b a
  · rw[b];rfl
 rcases hc with ⟨c1,c2,c3⟩ | ⟨⟨c1,c4⟩,c2,c3⟩
 · have e:useV true x q=(q.1,bwV q.2 x.pl):=by
    unfold useV
    rw[hxd]
    rcases c1 with c1 | c1
    · rw[hnone c1];rfl
    · rw[c1];simp
   rw[e]
   refine ⟨by rw[← hpl];exact c2,fun s' e=>?_,h.hb,hshp,h.pos⟩
   simp at e
   subst e
   exact ⟨⟨hp,c3,keep⟩,hsb,hBsb⟩
 · have e:useV true x q=(⟨q.1.hid,fun k=>if k=d then true else q.1.us k⟩,q.2):=by unfold useV;rw[hxd,hsome c1,c4];rfl
   rw[e]
   refine ⟨c2,fun s' e=>?_,h.hb,hshp,h.pos⟩
   simp at e
   subst e
   exact ⟨⟨hp,c3,keep⟩,hsb,hBsb⟩
structure In0 (f:Nat) (w:World) (lo hi pb:Nat) (x:It) (kids:List (Nat × List It)) (p:Pt) (B0 bb:Nat) (o:Option Nat) (q:Sc × (Int × Bool)):Prop where
 hpb:pb<hi
 hhi:hi≤B0
 hB:B0≤w.heap.size
 blk:PtBlk w pb p
 ptr:PtrsAt w lo hi p.v (kids.map Prod.fst)
 rep:∀ z,z∈kids→RepT f w lo hi z.1 z.2
 lets:∀ y,y∈kids.flatMap Prod.snd→LetOk y
 len:(kids.flatMap Prod.snd).length≤1000
 ws:WS B0 bb o q w
 it:ItPt x p
 lx:LetOk x
theorem flat_ge' (l:List (Nat × List It))(h:∀ q,q∈l→SegOk q.2):l.length≤(l.flatMap Prod.snd).length:=by
 induction l with
 | nil=>simp
 | cons x r ih=>
  obtain ⟨y,t,e,_⟩:=h x List.mem_cons_self
  have h2:=ih (fun q hq=>h q (List.mem_cons_of_mem _ hq))
  simp only[List.flatMap_cons,List.length_append,List.length_cons,e];omega
end Go.Proofs.YtmlkhhhjdpbhfaaGreatDoor

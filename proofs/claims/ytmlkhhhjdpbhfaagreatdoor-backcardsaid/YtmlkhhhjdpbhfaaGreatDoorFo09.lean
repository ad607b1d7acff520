import Derived.Test.YtmlkhhhjdpbhfaaGreatDoorFo06
import Derived.Test.YtmlkhhhjdpbhfaaGreatDoorFo07
import Derived.Test.YtmlkhhhjdpbhfaaGreatDoorFo08
import Derived.Test.YtmlkhhhjdpbhfaaGreatDoorFo01
namespace Go.Proofs.YtmlkhhhjdpbhfaaGreatDoor
open Go.RowKit
set_option maxRecDepth 100000 in
set_option maxHeartbeats 8000000 in
theorem tail_n (s:ByteArray)(rule:Int)(hs:s.size≤400)(f:Nat)(ih:PartS s rule f)(x:Sh)(hn1 : -1≤x.n)(hn2:x.n≤2)(hw:x.w=false)(hd:x.d=false)(hv:x.v=false)(w:World)(rb pb i:Nat)(p:Pt)(hr:Rd w rb s i)(hS:Shp w)(h0:0<rb)(hrp:rb<pb)(hi:i≤s.size)(hf:s.size+1-i≤f)(hM:Mk f w pb false p [])(hnil:p.v=.slice none 0 0):
 Calls Tryz.prog 172 #[.pointer (some ⟨rb,0,none⟩),.pointer (some ⟨pb,0,none⟩),.agg x.row] w fun e w'=>TailPost s f rb pb w (tailH x s i p).p x.n (tailR (prs s rule f) s f x.n (tailH x s i p)) e w':=by
 have HS:Hid (Shp w):=hS
 have HI:Hid (PartS s rule f):=ih
 have hpl:=hM.blk.lt
 have HST:Hid (St s f rb pb w.heap.size x w i p (w.alloc (.cells x.row 252))):=
  ⟨Blk.alloc hr _,hM.fr ((Fr.refl _ _ _).alloc (Nat.le_refl _) _) hrp,hnil,(Fr.refl _ _ _).alloc (by omega) _,by simp,Blk.new _ _ _⟩
 have HW:Hid (x.w=false):=hw
 have HD:Hid (x.d=false):=hd
 have HV:Hid (x.v=false):=hv
 clear hr hM hS ih hnil
 go_enter Tryz.func172,Tryz.ntmps172
 simp only[Sh.row,hw,hd,hv] at HST ⊢
 clear hw hd hv
 have hcell:∀ j,(w.alloc (.cells #[.int .u8 x.a,.int .u8 x.b,.bool false,.bool false,.bool false,.int .i64 x.n] 252)).cell? ⟨w.heap.size,j,none⟩=x.row[j]? := fun j=>HST.out.box.cell j
 clear hcell
 go_upto_region 7 with fail
 generalize hWA:(w.alloc (.cells #[.int .u8 x.a,.int .u8 x.b,.bool false,.bool false,.bool false,.int .i64 x.n] 252))=WA at *
 clear hWA
 generalize hbx:w.heap.size=bx at *
 have HBX:=hide' hbx
 clear hbx
 have HTH:Hid (tailH x s i p=⟨true,i,p⟩):=by
  have:tailH x s i p=⟨true,i,p⟩:=by
   simp[tailH,tailW,tailD,tailX,HW.out,HD.out,HV.out]
  exact this
 -- the parts within
 have HS3:Hid (Shp WA):=HS.out.fr HST.out.fr h0 (by omega)
 have b5:WA.cell? ⟨bx,5,none⟩=some (.int .i64 x.n):=HST.out.box.cell 5
 have HRT:Hid (tailR (prs s rule f) s f x.n (tailH x s i p)=if x.n<0 then loopB (prs s rule f) s f i else loopN (prs s rule f) x.n.toNat i):=by
  have:tailR (prs s rule f) s f x.n (tailH x s i p)=if x.n<0 then loopB (prs s rule f) s f i else loopN (prs s rule f) x.n.toNat i:=by unfold tailR;rw[HTH.out];simp
  exact this
 have HQ:Hid ((tailH x s i p).p=p):=by
  have:(tailH x s i p).p=p:=by rw[HTH.out]
  exact this
 clear HTH
 by_cases hneg:x.n = -1
 · have hneg':(x.n == -1)=true:=by simpa using hneg
   have HRT2:Hid (tailR (prs s rule f) s f x.n (tailH x s i p)=loopB (prs s rule f) s f i):=by
    have:tailR (prs s rule f) s f x.n (tailH x s i p)=loopB (prs s rule f) s f i:=by rw[HRT.out,if_pos (by omega)]
    exact this
   have HNEG:=hide' hneg
   clear HRT hneg
   go_wp2_with fail
   refine (bracket_calls s rule hs f HI.out _ rb pb i p HST.out.rd HS3.out h0 hrp (by omega) (by omega) HST.out.made.any).mono ?_
   rintro e w7 ⟨rfl,d1,d2,d3,d4⟩
   simp only
   go_wp2_with fail
   go_ret
   rw[HRT2.out,HQ.out]
   refine ⟨rfl,d1,HST.out.fr.trans d2,by have:=HST.out.sz;omega,fun h=>?_⟩
   obtain ⟨more,v',e1,e2⟩:=d4 h
   exact ⟨more,v',by rw[decide_eq_true (by have:=HNEG.out;omega)];simpa using e1,e2⟩
 · have hneg':(x.n == -1)=false:=by simpa using hneg
   obtain ⟨m,hm⟩:∃ m:Nat,x.n=(m:Int):=⟨x.n.toNat,by omega⟩
   have HRT2:Hid (tailR (prs s rule f) s f x.n (tailH x s i p)=loopN (prs s rule f) m i):=by
    have:tailR (prs s rule f) s f x.n (tailH x s i p)=loopN (prs s rule f) m i:=by rw[HRT.out,if_neg (by omega),hm];rfl
    exact this
   have HMm:=hide' hm
   rw[hm] at b5 hneg'
   have hm2:m≤2:=by omega
   clear HRT hneg hm hn1 hn2
   go_wp2_with fail
   go_loopw [39] (fun v39 wr=>∃ (i' k:Nat) (kids:List (Nat × List It)) (v:Value),v39=.int .i64 k∧Hid (AtN s rule f rb pb w p m i i' k kids v wr)) (fun v39 _=>m-(intOf v39).toNat)
   case atStart=>exact ⟨i,0,[],_,rfl,⟨HST.out.rd,HST.out.made,HST.out.fr,HST.out.sz,by omega,Nat.le_refl _,by simp,by omega,by simp[Res.pre]⟩⟩
   case round=>
    obtain ⟨i',k,kids,v,rfl,hat⟩:=hrel
    have Ha:=hat
    obtain ⟨a1,a2,a3,a4,a5,a6,a7,a8,a9⟩:=hat.out
    by_cases hlt:k<m
    · have HSr:Hid (Shp wr):=HS.out.fr a3 h0 (by omega)
      have HUn:Hid (loopN (prs s rule f) (m-k) i'=if (prs s rule f i').ok=true then (loopN (prs s rule f) (m-(k+1)) (prs s rule f i').i).pre (prs s rule f i').its else ⟨false,(prs s rule f i').i,[]⟩):=by
       have:loopN (prs s rule f) (m-k) i'=if (prs s rule f i').ok=true then (loopN (prs s rule f) (m-(k+1)) (prs s rule f i').i).pre (prs s rule f i').its else ⟨false,(prs s rule f i').i,[]⟩:=by
        rw[show m-k=(m-(k+1))+1 by omega,loopN]
       exact this
      have HA9:Hid (loopN (prs s rule f) m i=(loopN (prs s rule f) (m-k) i').pre (kids.flatMap Prod.snd)):=a9
      have HGood:Hid ((prs s rule f i').i≤s.size∧i'≤(prs s rule f i').i∧((prs s rule f i').ok=true→i'<(prs s rule f i').i∧(prs s rule f i').its.length≤(prs s rule f i').i-i')):=prs_good s rule f i' a5
      clear a1 a2 a9 hat
      go_wp2_with fail
      refine (innerPart_calls s rule f HI.out wr rb pb i' false { p with v:=v } kids Ha.out.rd HSr.out h0 hrp a5 (by omega) Ha.out.made (by omega)).mono ?_
      rintro e w2 ⟨rfl,b1,b2,b3,b4⟩
      generalize hpr:prs s rule f i'=r at *
      clear hpr
      obtain ⟨rok,ri,rits⟩:=r
      cases rok
      · have HF:Hid (loopN (prs s rule f) m i=⟨false,ri,kids.flatMap Prod.snd⟩):=by
         have:loopN (prs s rule f) m i=⟨false,ri,kids.flatMap Prod.snd⟩:=by
          have h:=HUn.out
          rw[HA9.out,h];simp[Res.pre]
         exact this
        clear HUn HA9
        simp only
        go_wp2_with fail
        go_ret
        rw[HRT2.out,HF.out]
        exact ⟨rfl,b1,a3.trans b2,by omega,fun h=>by cases h⟩
      · obtain ⟨q,v',hmk⟩:=b4 rfl
        obtain ⟨g1,g2,_⟩:=HGood.out
        simp only at b1 g1 g2
        have HN:Hid (AtN s rule f rb pb w p m i ri (k+1) (kids++[(q,rits)]) v' w2):=by
         refine ⟨b1,hmk.all,a3.trans b2,by omega,g1,by omega,by simp;omega,by omega,?_⟩
         have h:=HUn.out
         rw[if_pos (by trivial)] at h
         rw[HA9.out,h,Res.pre_pre'];simp
        clear b4 hmk HUn HA9 HGood b1 b2
        simp only
        go_wp2_with fail
        go_roundw
        case rel=>exact ⟨ri,k+1,_,v',by go_num,HN⟩
        case measure=>simp[intOf];omega
    · have HF:Hid (loopN (prs s rule f) m i=⟨true,i',kids.flatMap Prod.snd⟩):=by
       have:loopN (prs s rule f) m i=⟨true,i',kids.flatMap Prod.snd⟩:=by
        rw[a9,show m-k=0 by omega];simp[loopN,Res.pre]
       exact this
      clear a9
      go_wp2_with fail
      go_ret
      rw[HRT2.out,HQ.out,HF.out]
      exact ⟨rfl,a1,a3,a4,fun _=>⟨kids,v,by rw[decide_eq_false (by have:=HMm.out;omega)];exact a2,rfl⟩⟩
theorem tail_calls (s:ByteArray)(rule:Int)(hs:s.size≤400)(f:Nat)(ih:PartS s rule f)(j:Nat)(hj:j<15)(w:World)(rb pb i:Nat)(p:Pt)(hr:Rd w rb s i)(hS:Shp w)(h0:0<rb)(hrp:rb<pb)(hi:i≤s.size)(hf:s.size+1-i≤f)(hM:Mk f w pb false p [])(hnil:p.v=.slice none 0 0):
 Calls Tryz.prog 172 #[.pointer (some ⟨rb,0,none⟩),.pointer (some ⟨pb,0,none⟩),.agg (sh j).row] w fun e w'=>TailPost s f rb pb w (tailH (sh j) s i p).p (sh j).n (tailR (prs s rule f) s f (sh j).n (tailH (sh j) s i p)) e w':=by
 have hb:=sh_bd j hj
 have h15:j=0∨j=1∨j=2∨j=3∨j=4∨j=5∨j=6∨j=7∨j=8∨j=9∨j=10∨j=11∨j=12∨j=13∨j=14:=by omega
 rcases h15 with rfl | rfl | rfl | rfl | rfl | rfl | rfl | rfl | rfl | rfl | rfl | rfl | rfl | rfl | rfl
 · exact tail_w s rule hs f ih (sh 0) hb.1 hb.2 rfl rfl rfl w rb pb i p hr hS h0 hrp hi hf hM hnil
 · exact tail_w s rule hs f ih (sh 1) hb.1 hb.2 rfl rfl rfl w rb pb i p hr hS h0 hrp hi hf hM hnil
 · exact tail_v s rule hs f ih (sh 2) hb.1 hb.2 rfl rfl rfl w rb pb i p hr hS h0 hrp hi hf hM hnil
 · exact tail_n s rule hs f ih (sh 3) hb.1 hb.2 rfl rfl rfl w rb pb i p hr hS h0 hrp hi hf hM hnil
 · exact tail_n s rule hs f ih (sh 4) hb.1 hb.2 rfl rfl rfl w rb pb i p hr hS h0 hrp hi hf hM hnil
 · exact tail_n s rule hs f ih (sh 5) hb.1 hb.2 rfl rfl rfl w rb pb i p hr hS h0 hrp hi hf hM hnil
 · exact tail_n s rule hs f ih (sh 6) hb.1 hb.2 rfl rfl rfl w rb pb i p hr hS h0 hrp hi hf hM hnil
 · exact tail_wd s rule hs f ih (sh 7) hb.1 hb.2 rfl rfl rfl w rb pb i p hr hS h0 hrp hi hf hM hnil
 · exact tail_wd s rule hs f ih (sh 8) hb.1 hb.2 rfl rfl rfl w rb pb i p hr hS h0 hrp hi hf hM hnil
 · exact tail_d s rule hs f ih (sh 9) hb.1 hb.2 rfl rfl rfl w rb pb i p hr hS h0 hrp hi hf hM hnil
 · exact tail_d s rule hs f ih (sh 10) hb.1 hb.2 rfl rfl rfl w rb pb i p hr hS h0 hrp hi hf hM hnil
 · exact tail_d s rule hs f ih (sh 11) hb.1 hb.2 rfl rfl rfl w rb pb i p hr hS h0 hrp hi hf hM hnil
 · exact tail_d s rule hs f ih (sh 12) hb.1 hb.2 rfl rfl rfl w rb pb i p hr hS h0 hrp hi hf hM hnil
 · exact tail_d s rule hs f ih (sh 13) hb.1 hb.2 rfl rfl rfl w rb pb i p hr hS h0 hrp hi hf hM hnil
 · exact tail_n s rule hs f ih (sh 14) hb.1 hb.2 rfl rfl rfl w rb pb i p hr hS h0 hrp hi hf hM hnil
theorem Shp.row {w:World}(h:Shp w)(j:Nat)(hj:j<15):w.cell? ⟨0,j*6,none⟩=some (.int .u8 (sh j).a)∧w.cell? ⟨0,j*6+1,none⟩=some (.int .u8 (sh j).b)∧w.cell? ⟨0,j*6+2,none⟩=some (.bool (sh j).w)∧
 w.cell? ⟨0,j*6+3,none⟩=some (.bool (sh j).d)∧w.cell? ⟨0,j*6+4,none⟩=some (.bool (sh j).v)∧w.cell? ⟨0,j*6+5,none⟩=some (.int .i64 (sh j).n):=by
 have h2:∀ q v,shpL[q]? = some v→w.cell? ⟨0,q,none⟩=some v:=fun q v hq=>by have:=h.1 q v hq;simpa using this
 have h15:j=0∨j=1∨j=2∨j=3∨j=4∨j=5∨j=6∨j=7∨j=8∨j=9∨j=10∨j=11∨j=12∨j=13∨j=14:=by omega
 rcases h15 with rfl | rfl | rfl | rfl | rfl | rfl | rfl | rfl | rfl | rfl | rfl | rfl | rfl | rfl | rfl<;>
  exact ⟨h2 _ _ rfl,h2 _ _ rfl,h2 _ _ rfl,h2 _ _ rfl,h2 _ _ rfl,h2 _ _ rfl⟩
def PartPostS (s:ByteArray)(f:Nat)(rb:Nat)(w:World)(r:Res)(e:Ending)(w':World):Prop:=
 ∃ o,e=.returned (.tuple #[.pointer o,.bool r.ok])∧Rd w' rb s r.i∧Fr w.heap.size rb w w'∧(r.ok=true→∃ pb,o=some ⟨pb,0,none⟩∧RepS f w' w.heap.size w'.heap.size pb false r.its)
theorem prs_match (s:ByteArray)(rule:Int)(f a j:Nat)(h:kindV (bt s a)=j)(hj:j<15):
 (prs s rule (f+1) a).ok=(tailR (prs s rule f) s f (sh j).n (tailH (sh j) s (a+1) (pt0 j (bt s a) a))).ok∧
 (prs s rule (f+1) a).i=(tailR (prs s rule f) s f (sh j).n (tailH (sh j) s (a+1) (pt0 j (bt s a) a))).i∧
 ((prs s rule (f+1) a).ok=true→∃ x:It,ItPt x (tailH (sh j) s (a+1) (pt0 j (bt s a) a)).p∧
   x.nx=1+((tailR (prs s rule f) s f (sh j).n (tailH (sh j) s (a+1) (pt0 j (bt s a) a))).its.length:Int)∧
   (prs s rule (f+1) a).its=x::(tailR (prs s rule f) s f (sh j).n (tailH (sh j) s (a+1) (pt0 j (bt s a) a))).its):=by
 obtain ⟨m1,m2,m3⟩:=match_all s a j h hj
 rw[prs]
 cases hok:(headV s a).ok
 · rw[hok] at m1
   rw[if_neg (by simp)]
   have e:tailR (prs s rule f) s f (sh j).n (tailH (sh j) s (a+1) (pt0 j (bt s a) a))=⟨false,(tailH (sh j) s (a+1) (pt0 j (bt s a) a)).i,[]⟩:=by unfold tailR;rw[← m1];simp
   rw[e]
   exact ⟨rfl,m2,fun h=>by cases h⟩
 · rw[hok] at m1
   obtain ⟨m3,m4⟩:=m3 hok
   rw[if_pos rfl]
   have e:tailR (prs s rule f) s f (sh j).n (tailH (sh j) s (a+1) (pt0 j (bt s a) a))=inner (prs s rule f) s f (headV s a):=by
    unfold tailR inner;rw[← m1,if_pos rfl,m3,m2]
   rw[e]
   refine ⟨rfl,rfl,fun _=>⟨_,?_,?_,rfl⟩⟩
   · exact ⟨m4.k,m4.wd,m4.vl,m4.ru,m4.dp⟩
   · rfl
theorem Fr.less {B C g:Nat}{a b:World}(h:Fr B g a b)(hC:C≤B):Fr C g a b:=⟨h.os,h.tape,h.output,h.size,fun k hk hne=>h.block k (by omega) hne⟩
structure W3ok (s:ByteArray) (f:Nat) (rb j:Nat) (c:Int) (i:Nat) (w w2 W:World):Prop where
 rd:Rd W rb s (i+1)
 fr:Fr w.heap.size rb w W
 made:Mk f W w2.heap.size false (pt0 j c i) []
 sz:w2.heap.size<W.heap.size
theorem w3ok_of (s:ByteArray)(f:Nat)(rb j:Nat)(c:Int)(i:Nat)(w w2:World)(hr:Rd w2 rb s i)(hf:Fr w.heap.size rb w w2)(hsz:w.heap.size≤w2.heap.size)(ru:Int)(hru:pt0 j c i={ k:=j,pl:=i,ru:=ru }):
 W3ok s f rb j c i w w2 ((w2.setCell ⟨rb,1,none⟩ (.int .i64 ((i:Int)+1))).alloc (.cells #[.int .i64 j,.int .i64 i,.int .i64 0,.int .i64 0,.int .i64 0,.int .u8 0,.int .i64 ru,.bool false,.slice none 0 0] 185)):=by
 have hs:(w2.setCell ⟨rb,1,none⟩ (.int .i64 ((i:Int)+1))).heap.size=w2.heap.size:=by simp[World.setCell]
 refine ⟨?_,?_,?_,by simp[World.setCell]⟩
 · have h:Rd (w2.setCell ⟨rb,1,none⟩ (.int .i64 ((i+1:Nat):Int))) rb s (i+1):=Blk.set hr 1 _
   rw[show ((i+1:Nat):Int)=(i:Int)+1 by omega] at h
   exact Blk.alloc h _
 · exact (hf.setCell (Or.inl rfl) _).alloc (by rw[hs];exact hsz) _
 · rw[hru]
   refine ⟨?_,World.ownsRow_nil _ _ _ _,fun q hq=>by simp at hq⟩
   have:=Blk.new (w2.setCell ⟨rb,1,none⟩ (.int .i64 ((i:Int)+1))) #[.int .i64 j,.int .i64 i,.int .i64 0,.int .i64 0,.int .i64 0,.int .u8 0,.int .i64 ru,.bool false,.slice none 0 0] 185
   rw[hs] at this
   exact this
theorem kOf_brack (c:Int)(j:Nat)(h:kOf c=j)(hj:j<15):decide ((sh j).n<0)=decide (c=40):=by
 unfold kOf at h
 split at h
 · rename_i h82
   have:j=6:=by omega
   subst this h82
   rfl
 · have hk:kindV c=j:=by omega
   by_cases h40:c=40
   · subst h40
     have:kindV 40=3:=by decide
     have:j=3:=by omega
     subst this
     rfl
   · have h3:j≠3:=by
      rintro rfl
      have:=kindV_in c 3 hk (by omega)
      simp[sh,shapesL] at this
      omega
     rw[decide_eq_false h40]
     have h15:j=0∨j=1∨j=2∨j=4∨j=5∨j=6∨j=7∨j=8∨j=9∨j=10∨j=11∨j=12∨j=13∨j=14:=by omega
     rcases h15 with rfl | rfl | rfl | rfl | rfl | rfl | rfl | rfl | rfl | rfl | rfl | rfl | rfl | rfl<;>rfl
theorem tailH_k (x:Sh)(s:ByteArray)(i:Nat)(p:Pt):(tailH x s i p).p.k=p.k:=by
 unfold tailH tailX tailD tailW
 repeat' split
 all_goals rfl
theorem pt0_k (j:Nat)(c:Int)(i:Nat):(pt0 j c i).k=j∧(pt0 j c i).sl=false:=⟨rfl,rfl⟩
theorem part_fin2 {s:ByteArray}{f rb j:Nat}{c:Int}{i:Nat}{w w2 W w5:World}{r R:Res}{q:Pt}(hm:r.ok=R.ok∧r.i=R.i∧(r.ok=true→∃ x:It,ItPt x q∧x.nx=1+(R.its.length:Int)∧r.its=x::R.its))(hW:W3ok s f rb j c i w w2 W)(d1:Rd w5 rb s R.i)(d2:Fr w2.heap.size rb W w5)(_:W.heap.size≤w5.heap.size)(hq:q.sl=false)(hqk:q.k=j)(hj:j<15)(d4:R.ok=true→∃ kids v',Mk f w5 w2.heap.size (decide ((sh j).n<0)) { q with v:=v' } kids∧kids.flatMap Prod.snd=R.its)(hsz:w.heap.size≤w2.heap.size):
 PartPostS s (f+1) rb w r (.returned (.tuple #[.pointer (some ⟨w2.heap.size,0,none⟩),.bool R.ok])) w5:=by
 obtain ⟨m1,m2,m3⟩:=hm
 refine ⟨_,by rw[m1],by rw[m2];exact d1,hW.fr.trans (d2.less hsz),fun hok=>⟨_,rfl,?_⟩⟩
 obtain ⟨x,hx,hn,hits⟩:=m3 hok
 obtain ⟨kids,v',hmk,hk⟩:=d4 (m1▸hok)
 rw[hits,← hk]
 exact hmk.rep ⟨hx.k,hx.wd,hx.vl,hx.ru,hx.dp⟩ hq (Or.inr (kOf_brack x.c j (by rw[← hx.k,hqk]) hj)) (by rw[hn,hk]) hsz
set_option maxRecDepth 100000 in
set_option maxHeartbeats 4000000 in
theorem part_callsS (s:ByteArray)(rule:Int)(hs:s.size≤400)(f:Nat)(ih:PartS s rule f)(w:World)(rb i:Nat)(hr:Rd w rb s i)(hS:Shp w)(h0:0<rb)(hi:i≤s.size)(hf:s.size+1-i≤f+1):
 Calls Tryz.prog 98 #[.pointer (some ⟨rb,0,none⟩)] w fun e w'=>PartPostS s (f+1) rb w (prs s rule (f+1) i) e w':=by
 have HR:Hid (Rd w rb s i):=hr
 have HS:Hid (Shp w):=hS
 have HI:Hid (PartS s rule f):=ih
 have hrl:=hr.lt
 clear hr hS ih
 by_cases hend:i=s.size
 · have HP:Hid (prs s rule (f+1) i=⟨false,i,[]⟩):=by
    have:prs s rule (f+1) i=⟨false,i,[]⟩:=by
     have hh:headV s i={ ok:=false,i:=i }:=by
      have hb:bt s i=0:=bt_out s i (by omega)
      simp[headV,hb,kAny,inB]
     rw[prs,hh,if_neg (by simp)]
    exact this
   have HE:=hide' hend
   clear hend
   go_enter Tryz.func98,Tryz.ntmps98
   go_wp2_with fail
   refine (atEnd_calls w rb s i HR.out hs hi).mono ?_
   rintro e w1 ⟨rfl,hsm,hr1⟩
   rw[decide_eq_true HE.out]
   simp only
   go_wp2_with fail
   go_ret2
   rw[HP.out]
   exact ⟨none,rfl,hr1,hsm.fr _,fun h=>by cases h⟩
 · have hlt:i<s.size:=by omega
   have hlt':(i:Int)<(s.size:Int):=by omega
   have hbt:bt s i=(s[i].toNat:Int):=bt_in s i hlt
   have HBt:=hide' hbt
   clear hbt
   go_enter Tryz.func98,Tryz.ntmps98
   go_wp2_with fail
   refine (atEnd_calls w rb s i HR.out hs hi).mono ?_
   rintro e w1 ⟨rfl,hsm,hr1⟩
   rw[decide_eq_false hend]
   simp only
   have c0:w1.cell? ⟨rb,0,none⟩=some (.string s):=hr1.cell 0
   have c1:w1.cell? ⟨rb,1,none⟩=some (.int .i64 i):=hr1.cell 1
   have HR1:Hid (Rd w1 rb s i):=hr1
   have HF1:Hid (Fr w.heap.size rb w w1):=hsm.fr _
   have hs1:=hsm.size
   have HS1:Hid (Shp w1):=HS.out.fr HF1.out h0 (by omega)
   clear hr1 hend hsm
   go_wp2_with fail
   go_quiet (fail)
   go_wp2_with fail
   rw[← HBt.out]
   clear HBt
   refine (kindOf_calls (w1.drewN nq) (bt s i) ⟨HS1.out.1,HS1.out.2⟩).mono ?_
   rintro e w2 ⟨rfl,hb2⟩
   have hb2s:=hb2.size
   have hd2:(w1.drewN nq).heap.size=w1.heap.size:=rfl
   rw[hd2] at hb2s
   have HR2:Hid (Rd w2 rb s i):=Blk.below (HR1.out.drewN nq) hb2 (by rw[hd2];omega)
   have HF2:Hid (Fr w.heap.size rb w w2):=(HF1.out.drewN nq).below hb2 (by rw[hd2];omega)
   have HS2:Hid (Shp w2):=HS.out.fr HF2.out h0 (by omega)
   clear c0 c1 hb2
   by_cases hk:kindV (bt s i)<15
   rotate_left
   · have hk15:kindV (bt s i)=15:=by
      have:kindV (bt s i)≤shapesL.length:=List.findIdx_le_length
      have hl:shapesL.length=15:=rfl
      omega
     have HP:Hid (prs s rule (f+1) i=⟨false,i,[]⟩):=by
      have:prs s rule (f+1) i=⟨false,i,[]⟩:=by rw[prs,match_none s i hk15,if_neg (by simp)]
      exact this
     have e2:kindB (bt s i)=false:=by unfold kindB;simpa using hk
     rw[e2]
     clear e2 hk hk15
     simp only
     go_wp2_with fail
     go_ret2
     rw[HP.out]
     exact ⟨none,rfl,HR2.out,HF2.out,fun h=>by cases h⟩
   · have HPM:=hide' (prs_match s rule f i (kindV (bt s i)) rfl hk)
     have e1:kindK (bt s i)=(kindV (bt s i):Int):=by unfold kindK;rw[if_pos hk]
     have e2:kindB (bt s i)=true:=by unfold kindB;simpa using hk
     have hin:=kindV_in (bt s i) _ rfl hk
     rw[e1,e2]
     clear e1 e2
     generalize hj:kindV (bt s i)=j at *
     clear hj
     have hj15:(j:Int)<15:=by omega
     have blo:=bt_lo s i
     have bhi:=bt_hi s i
     have c1:w2.cell? ⟨rb,1,none⟩=some (.int .i64 i):=HR2.out.cell 1
     have c1a:∀ o,(w2.alloc o).cell? ⟨rb,1,none⟩=some (.int .i64 i):=fun o=>(Blk.alloc HR2.out o).cell 1
     have f1a:∀ o,(w2.alloc o).frozen? ⟨rb,1,none⟩=false:=fun o=>(Blk.alloc HR2.out o).frozen 1
     have hrb2:rb<w2.heap.size:=by omega
     have hne1:¬ w2.heap.size=rb:=by omega
     have hne2:¬ rb=w2.heap.size:=by omega
     have rows:=fun (W:World) (h:Shp W)=>Shp.row h j hk
     have HRows:=hide' rows
     clear rows
     simp only
     by_cases hj6:j=6
     · have HJ6:=hide' hj6
       have hj6':((j:Int)==6)=true:=by simp;omega
       have hb65:65≤bt s i:=by rw[hj6] at hin;exact hin.1
       have hb72:bt s i≤72:=by rw[hj6] at hin;exact hin.2
       clear hj6 hin
       go_upto_region 11 with fail
       have HW3:Hid (W3ok s f rb j (bt s i) i w w2 ((w2.setCell ⟨rb,1,none⟩ (.int .i64 ((i:Int)+1))).alloc (.cells #[.int .i64 j,.int .i64 i,.int .i64 0,.int .i64 0,.int .i64 0,.int .u8 0,.int .i64 (bt s i-65),.bool false,.slice none 0 0] 185))):=
        w3ok_of s f rb j (bt s i) i w w2 HR2.out HF2.out (by omega) (bt s i-65) (by unfold pt0;rw[if_pos HJ6.out])
       generalize hW:((w2.setCell ⟨rb,1,none⟩ (.int .i64 ((i:Int)+1))).alloc (.cells #[.int .i64 j,.int .i64 i,.int .i64 0,.int .i64 0,.int .i64 0,.int .u8 0,.int .i64 (bt s i-65),.bool false,.slice none 0 0] 185))=W3 at *
       clear hW
       have HS3:Hid (Shp W3):=HS.out.fr HW3.out.fr h0 (by omega)
       obtain ⟨r0,r1,r2,r3,r4,r5⟩:=HRows.out W3 HS3.out
       clear c1 c1a f1a HRows
       go_wp2_with fail
       have ht:=tail_calls s rule hs f HI.out j hk W3 rb w2.heap.size (i+1) (pt0 j (bt s i) i) HW3.out.rd HS3.out h0 hrb2 (by omega) (by omega) HW3.out.made rfl
       simp only[Sh.row] at ht
       refine ht.mono ?_
       rintro e w5 ⟨rfl,d1,d2,d3,d4⟩
       clear ht r0 r1 r2 r3 r4 r5
       simp only
       go_wp2_with fail
       go_ret2
       exact part_fin2 HPM.out HW3.out d1 d2 d3 (by rw[tailH_sl];exact (pt0_k _ _ _).2) (by rw[tailH_k];exact (pt0_k _ _ _).1) hk d4 (by omega)
     · have HJ6:=hide' hj6
       have hj6':((j:Int)==6)=false:=by simp;omega
       clear hj6 hin
       go_upto_region 11 with fail
       have HW3:Hid (W3ok s f rb j (bt s i) i w w2 ((w2.setCell ⟨rb,1,none⟩ (.int .i64 ((i:Int)+1))).alloc (.cells #[.int .i64 j,.int .i64 i,.int .i64 0,.int .i64 0,.int .i64 0,.int .u8 0,.int .i64 (0),.bool false,.slice none 0 0] 185))):=
        w3ok_of s f rb j (bt s i) i w w2 HR2.out HF2.out (by omega) (0) (by unfold pt0;rw[if_neg HJ6.out])
       generalize hW:((w2.setCell ⟨rb,1,none⟩ (.int .i64 ((i:Int)+1))).alloc (.cells #[.int .i64 j,.int .i64 i,.int .i64 0,.int .i64 0,.int .i64 0,.int .u8 0,.int .i64 (0),.bool false,.slice none 0 0] 185))=W3 at *
       clear hW
       have HS3:Hid (Shp W3):=HS.out.fr HW3.out.fr h0 (by omega)
       obtain ⟨r0,r1,r2,r3,r4,r5⟩:=HRows.out W3 HS3.out
       clear c1 c1a f1a HRows
       go_wp2_with fail
       have ht:=tail_calls s rule hs f HI.out j hk W3 rb w2.heap.size (i+1) (pt0 j (bt s i) i) HW3.out.rd HS3.out h0 hrb2 (by omega) (by omega) HW3.out.made rfl
       simp only[Sh.row] at ht
       refine ht.mono ?_
       rintro e w5 ⟨rfl,d1,d2,d3,d4⟩
       clear ht r0 r1 r2 r3 r4 r5
       simp only
       go_wp2_with fail
       go_ret2
       exact part_fin2 HPM.out HW3.out d1 d2 d3 (by rw[tailH_sl];exact (pt0_k _ _ _).2) (by rw[tailH_k];exact (pt0_k _ _ _).1) hk d4 (by omega)
theorem part_allS (s:ByteArray)(rule:Int)(hs:s.size≤400)(f:Nat):PartS s rule f:=by
 induction f with
 | zero=>intro w rb i _ _ _ h1 h2;omega
 | succ f ih=>intro w rb i hr hS h0 hi hf;exact part_callsS s rule hs f ih w rb i hr hS h0 hi hf
structure Rl where
 r:Int
 pl:Nat
 its:List It
structure RRes where
 ok:Bool
 i:Nat
 rls:List Rl
def RRes.pre (l:List Rl)(q:RRes):RRes:=⟨q.ok,q.i,l++q.rls⟩
def rulesV (s:ByteArray):Nat→Int→Nat→RRes
 | 0,_,a=>⟨false,a,[]⟩
 | k+1,top,a=>
  if ¬ (65≤bt s a∧bt s a≤top) then ⟨false,a,[]⟩
  else if bt s (a+1)≠61 then ⟨false,a+1,[]⟩
  else if ¬ (prs s (bt s a-65) (s.size+1) (a+2)).ok=true then ⟨false,(prs s (bt s a-65) (s.size+1) (a+2)).i,[]⟩
  else if (prs s (bt s a-65) (s.size+1) (a+2)).i=s.size then ⟨true,s.size,[⟨bt s a-65,a,(prs s (bt s a-65) (s.size+1) (a+2)).its⟩]⟩
  else if k=0∨bt s (prs s (bt s a-65) (s.size+1) (a+2)).i≠59 then ⟨false,(prs s (bt s a-65) (s.size+1) (a+2)).i,[]⟩
  else (rulesV s k 72 ((prs s (bt s a-65) (s.size+1) (a+2)).i+1)).pre [⟨bt s a-65,a,(prs s (bt s a-65) (s.size+1) (a+2)).its⟩]
def formV (s:ByteArray):RRes:=rulesV s 8 65 0
def allIts (rls:List Rl):List It:=rls.flatMap Rl.its
def hasR (rls:List Rl)(r:Int):Bool:=rls.any fun x=>x.r==r
theorem hasR_snoc (l:List Rl)(x:Rl)(r:Int):hasR (l++[x]) r=(hasR l r||x.r==r):=by simp[hasR]
def EqR (x y:RRes):Prop:=x.ok=y.ok∧x.i=y.i∧(y.ok=true→x.rls=y.rls)
theorem EqR.refl (x:RRes):EqR x x:=⟨rfl,rfl,fun _=>rfl⟩
theorem EqR.trans {x y z:RRes}(h:EqR x y)(k:EqR y z):EqR x z:=⟨h.1.trans k.1,h.2.1.trans k.2.1,fun hz=>(h.2.2 (k.1.trans hz)).trans (k.2.2 hz)⟩
def restF (s:ByteArray)(n a:Nat)(rls:List Rl):RRes:=
 if a=s.size then ⟨true,s.size,rls⟩ else if n=8∨bt s a≠59 then ⟨false,a,rls⟩ else (rulesV s (8-n) 72 (a+1)).pre rls
theorem rules_step (s:ByteArray)(k:Nat)(top:Int)(a:Nat)(rls:List Rl)(n:Nat)(hk:k+1+n=8)(h1:65≤bt s a∧bt s a≤top)(h2:bt s (a+1)=61)(h3:(prs s (bt s a-65) (s.size+1) (a+2)).ok=true):
 EqR ((rulesV s (k+1) top a).pre rls) (restF s (n+1) (prs s (bt s a-65) (s.size+1) (a+2)).i (rls++[⟨bt s a-65,a,(prs s (bt s a-65) (s.size+1) (a+2)).its⟩])):=by
 rw[rulesV,if_neg (by simpa using h1),if_neg (by simpa using h2),if_neg (by simpa using h3)]
 unfold restF
 split
 · exact ⟨rfl,rfl,fun _=>by simp[RRes.pre]⟩
 · rename_i hne
   by_cases hc:k=0∨bt s (prs s (bt s a-65) (s.size+1) (a+2)).i≠59
   · rw[if_pos hc,if_pos (by rcases hc with h | h;exact Or.inl (by omega);exact Or.inr h)]
     exact ⟨rfl,rfl,fun h=>by cases h⟩
   · rw[if_neg hc,if_neg (by intro h;apply hc;rcases h with h | h;exact Or.inl (by omega);exact Or.inr h),show 8-(n+1)=k by omega]
     exact ⟨rfl,rfl,fun _=>by simp[RRes.pre]⟩
theorem rules_fail1 (s:ByteArray)(k:Nat)(top:Int)(a:Nat)(rls:List Rl)(h:¬ (65≤bt s a∧bt s a≤top)):(rulesV s (k+1) top a).pre rls=⟨false,a,rls⟩:=by
 rw[rulesV,if_pos h];simp[RRes.pre]
theorem rules_fail2 (s:ByteArray)(k:Nat)(top:Int)(a:Nat)(rls:List Rl)(h:65≤bt s a∧bt s a≤top)(h2:bt s (a+1)≠61):(rulesV s (k+1) top a).pre rls=⟨false,a+1,rls⟩:=by
 rw[rulesV,if_neg (by simpa using h),if_pos h2];simp[RRes.pre]
theorem rules_fail3 (s:ByteArray)(k:Nat)(top:Int)(a:Nat)(rls:List Rl)(h:65≤bt s a∧bt s a≤top)(h2:bt s (a+1)=61)(h3:(prs s (bt s a-65) (s.size+1) (a+2)).ok=false):
 (rulesV s (k+1) top a).pre rls=⟨false,(prs s (bt s a-65) (s.size+1) (a+2)).i,rls⟩:=by
 rw[rulesV,if_neg (by simpa using h),if_neg (by simpa using h2),if_pos (by simp[h3])];simp[RRes.pre]
end Go.Proofs.YtmlkhhhjdpbhfaaGreatDoor

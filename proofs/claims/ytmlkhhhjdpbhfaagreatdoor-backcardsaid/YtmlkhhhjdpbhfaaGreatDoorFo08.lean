import Derived.Test.YtmlkhhhjdpbhfaaGreatDoorFo06
namespace Go.Proofs.YtmlkhhhjdpbhfaaGreatDoor
open Go.RowKit
set_option maxRecDepth 100000 in
set_option maxHeartbeats 8000000 in
theorem tail_wd (s:ByteArray)(rule:Int)(hs:s.size≤400)(f:Nat)(ih:PartS s rule f)(x:Sh)(hn1 : -1≤x.n)(hn2:x.n≤2)(hw:x.w=true)(hd:x.d=true)(hv:x.v=false)(w:World)(rb pb i:Nat)(p:Pt)(hr:Rd w rb s i)(hS:Shp w)(h0:0<rb)(hrp:rb<pb)(hi:i≤s.size)(hf:s.size+1-i≤f)(hM:Mk f w pb false p [])(hnil:p.v=.slice none 0 0):
 Calls Tryz.prog 172 #[.pointer (some ⟨rb,0,none⟩),.pointer (some ⟨pb,0,none⟩),.agg x.row] w fun e w'=>TailPost s f rb pb w (tailH x s i p).p x.n (tailR (prs s rule f) s f x.n (tailH x s i p)) e w':=by
 have HS:Hid (Shp w):=hS
 have HI:Hid (PartS s rule f):=ih
 have hpl:=hM.blk.lt
 have HST:Hid (St s f rb pb w.heap.size x w i p (w.alloc (.cells x.row 252))):=
  ⟨Blk.alloc hr _,hM.fr ((Fr.refl _ _ _).alloc (Nat.le_refl _) _) hrp,hnil,(Fr.refl _ _ _).alloc (by omega) _,by simp,Blk.new _ _ _⟩
 have HW:Hid (x.w=true):=hw
 have HD:Hid (x.d=true):=hd
 have HV:Hid (x.v=false):=hv
 clear hr hM hS ih hnil
 go_enter Tryz.func172,Tryz.ntmps172
 simp only[Sh.row,hw,hd,hv] at HST ⊢
 clear hw hd hv
 go_wp2_with fail
 generalize hWA:(w.alloc (.cells #[.int .u8 x.a,.int .u8 x.b,.bool true,.bool true,.bool false,.int .i64 x.n] 252))=WA at *
 clear hWA
 generalize hbx:w.heap.size=bx at *
 have HBX:=hide' hbx
 clear hbx
 refine (width_calls WA rb pb s i p HST.out.rd HST.out.made.blk (by omega) hs (by omega)).mono ?_
 rintro e w1 ⟨rfl,hsm,hrd,p',hp',hv',hpe⟩
 cases hok:takeOk s i 49 52
 · have HTF:Hid (tailR (prs s rule f) s f x.n (tailH x s i p)=⟨false,i,[]⟩):=by
    have:tailR (prs s rule f) s f x.n (tailH x s i p)=⟨false,i,[]⟩:=by
     simp[tailR,tailH,tailW,HW.out,hok,stepI]
    exact this
   rw[hok] at hrd
   have hrd2:Rd w1 rb s (i):=hrd
   have hfr2:=HST.out.fr.trans (hsm.fr _ (Nat.le_refl _))
   have hsz2:w.heap.size≤w1.heap.size:=by have:=HST.out.sz;have:=hsm.size;omega
   clear hok hpe
   simp only
   go_wp2_with fail
   go_ret
   rw[HTF.out]
   exact ⟨rfl,hrd2,hfr2,hsz2,fun h=>by cases h⟩
 have hpe:=hpe hok
 subst hpe
 have hlt:=takeOk_lt s i 49 52 hok (by omega)
 rw[hok] at hrd
 have HOK0:=hide' hok
 have hrd2:Rd w1 rb s (i+1):=hrd
 have HST:=hide' (HST.out.next hsm hrd2 hp' rfl (by omega) (by omega))
 clear hok hrd hp' hv' hsm hrd2
 have b2w1:w1.cell? ⟨bx,2,none⟩=some (.bool true):=by have h:=HST.out.box.cell 2;rw[h,← HW.out];rfl
 have b3w1:w1.cell? ⟨bx,3,none⟩=some (.bool true):=by have h:=HST.out.box.cell 3;rw[h,← HD.out];rfl
 have b4w1:w1.cell? ⟨bx,4,none⟩=some (.bool false):=by have h:=HST.out.box.cell 4;rw[h,← HV.out];rfl
 simp only
 go_wp2_with fail
 refine (dependency_calls w1 rb pb s (i+1) { p with wd:=bt s i-48 } HST.out.rd HST.out.made.blk (by omega) hs (by omega)).mono ?_
 rintro e w2 ⟨rfl,hsm,hrd,p',hp',hv',hpe⟩
 cases hok:takeOk s (i+1) 97 104
 · have HTF:Hid (tailR (prs s rule f) s f x.n (tailH x s i p)=⟨false,(i+1),[]⟩):=by
    have:tailR (prs s rule f) s f x.n (tailH x s i p)=⟨false,(i+1),[]⟩:=by
     simp[tailR,tailH,tailW,tailD,HW.out,HD.out,hok,stepI,HOK0.out]
    exact this
   rw[hok] at hrd
   have hrd2:Rd w2 rb s ((i+1)):=hrd
   have hfr2:=HST.out.fr.trans (hsm.fr _ (Nat.le_refl _))
   have hsz2:w.heap.size≤w2.heap.size:=by have:=HST.out.sz;have:=hsm.size;omega
   clear hok hpe
   simp only
   go_wp2_with fail
   go_ret
   rw[HTF.out]
   exact ⟨rfl,hrd2,hfr2,hsz2,fun h=>by cases h⟩
 have hpe:=hpe hok
 subst hpe
 have hlt:=takeOk_lt s (i+1) 97 104 hok (by omega)
 rw[hok] at hrd
 have HOK1:=hide' hok
 have hrd2:Rd w2 rb s ((i+1)+1):=hrd
 have HST:=hide' (HST.out.next hsm hrd2 hp' rfl (by omega) (by omega))
 clear hok hrd hp' hv' hsm hrd2
 have b2w2:w2.cell? ⟨bx,2,none⟩=some (.bool true):=by have h:=HST.out.box.cell 2;rw[h,← HW.out];rfl
 have b3w2:w2.cell? ⟨bx,3,none⟩=some (.bool true):=by have h:=HST.out.box.cell 3;rw[h,← HD.out];rfl
 have b4w2:w2.cell? ⟨bx,4,none⟩=some (.bool false):=by have h:=HST.out.box.cell 4;rw[h,← HV.out];rfl
 simp only
 go_upto_region 7 with fail
 have HTH:Hid (tailH x s i p=⟨true,((i+1)+1),{ { p with wd:=bt s i-48 } with dpl:=((i+1):Nat),dp:=bt s (i+1)-97 }⟩):=by
  have:tailH x s i p=⟨true,((i+1)+1),{ { p with wd:=bt s i-48 } with dpl:=((i+1):Nat),dp:=bt s (i+1)-97 }⟩:=by
   simp[tailH,tailW,tailD,tailX,HW.out,HD.out,HV.out,stepI,HOK0.out,HOK1.out]
  exact this
 -- the parts within
 have HS3:Hid (Shp w2):=HS.out.fr HST.out.fr h0 (by omega)
 have b5:w2.cell? ⟨bx,5,none⟩=some (.int .i64 x.n):=HST.out.box.cell 5
 have HRT:Hid (tailR (prs s rule f) s f x.n (tailH x s i p)=if x.n<0 then loopB (prs s rule f) s f ((i+1)+1) else loopN (prs s rule f) x.n.toNat ((i+1)+1)):=by
  have:tailR (prs s rule f) s f x.n (tailH x s i p)=if x.n<0 then loopB (prs s rule f) s f ((i+1)+1) else loopN (prs s rule f) x.n.toNat ((i+1)+1):=by unfold tailR;rw[HTH.out];simp
  exact this
 have HQ:Hid ((tailH x s i p).p={ { p with wd:=bt s i-48 } with dpl:=((i+1):Nat),dp:=bt s (i+1)-97 }):=by
  have:(tailH x s i p).p={ { p with wd:=bt s i-48 } with dpl:=((i+1):Nat),dp:=bt s (i+1)-97 }:=by rw[HTH.out]
  exact this
 clear HTH
 by_cases hneg:x.n = -1
 · have hneg':(x.n == -1)=true:=by simpa using hneg
   have HRT2:Hid (tailR (prs s rule f) s f x.n (tailH x s i p)=loopB (prs s rule f) s f ((i+1)+1)):=by
    have:tailR (prs s rule f) s f x.n (tailH x s i p)=loopB (prs s rule f) s f ((i+1)+1):=by rw[HRT.out,if_pos (by omega)]
    exact this
   have HNEG:=hide' hneg
   clear HRT hneg
   go_wp2_with fail
   refine (bracket_calls s rule hs f HI.out _ rb pb ((i+1)+1) { { p with wd:=bt s i-48 } with dpl:=((i+1):Nat),dp:=bt s (i+1)-97 } HST.out.rd HS3.out h0 hrp (by omega) (by omega) HST.out.made.any).mono ?_
   rintro e w7 ⟨rfl,d1,d2,d3,d4⟩
   simp only
   go_wp2_with fail
   go_ret
   rw[HRT2.out,HQ.out]
   refine ⟨rfl,d1,HST.out.fr.trans d2,by have:=HST.out.sz;omega,fun h=>?_⟩
   obtain ⟨more,v',e1,e2⟩:=d4 h
   exact ⟨more,v',by rw[decide_eq_true (by have:=HNEG.out;omega)];simpa using e1,e2⟩
 · have hneg':(x.n == -1)=false:=by simpa using hneg
   obtain ⟨m,hm⟩:∃ m:Nat,x.n=(m:Int):=⟨x.n.toNat,by omega⟩
   have HRT2:Hid (tailR (prs s rule f) s f x.n (tailH x s i p)=loopN (prs s rule f) m ((i+1)+1)):=by
    have:tailR (prs s rule f) s f x.n (tailH x s i p)=loopN (prs s rule f) m ((i+1)+1):=by rw[HRT.out,if_neg (by omega),hm];rfl
    exact this
   have HMm:=hide' hm
   rw[hm] at b5 hneg'
   have hm2:m≤2:=by omega
   clear HRT hneg hm hn1 hn2
   go_wp2_with fail
   go_loopw [39] (fun v39 wr=>∃ (i' k:Nat) (kids:List (Nat × List It)) (v:Value),v39=.int .i64 k∧Hid (AtN s rule f rb pb w { { p with wd:=bt s i-48 } with dpl:=((i+1):Nat),dp:=bt s (i+1)-97 } m ((i+1)+1) i' k kids v wr)) (fun v39 _=>m-(intOf v39).toNat)
   case atStart=>exact ⟨((i+1)+1),0,[],_,rfl,⟨HST.out.rd,HST.out.made,HST.out.fr,HST.out.sz,by omega,Nat.le_refl _,by simp,by omega,by simp[Res.pre]⟩⟩
   case round=>
    obtain ⟨i',k,kids,v,rfl,hat⟩:=hrel
    have Ha:=hat
    obtain ⟨a1,a2,a3,a4,a5,a6,a7,a8,a9⟩:=hat.out
    by_cases hlt:k<m
    · have HSr:Hid (Shp wr):=HS.out.fr a3 h0 (by omega)
      have HUn:Hid (loopN (prs s rule f) (m-k) i'=if (prs s rule f i').ok=true then (loopN (prs s rule f) (m-(k+1)) (prs s rule f i').i).pre (prs s rule f i').its else ⟨false,(prs s rule f i').i,[]⟩):=by
       have:loopN (prs s rule f) (m-k) i'=if (prs s rule f i').ok=true then (loopN (prs s rule f) (m-(k+1)) (prs s rule f i').i).pre (prs s rule f i').its else ⟨false,(prs s rule f i').i,[]⟩:=by
        rw[show m-k=(m-(k+1))+1 by omega,loopN]
       exact this
      have HA9:Hid (loopN (prs s rule f) m ((i+1)+1)=(loopN (prs s rule f) (m-k) i').pre (kids.flatMap Prod.snd)):=a9
      have HGood:Hid ((prs s rule f i').i≤s.size∧i'≤(prs s rule f i').i∧((prs s rule f i').ok=true→i'<(prs s rule f i').i∧(prs s rule f i').its.length≤(prs s rule f i').i-i')):=prs_good s rule f i' a5
      clear a1 a2 a9 hat
      go_wp2_with fail
      refine (innerPart_calls s rule f HI.out wr rb pb i' false { { { p with wd:=bt s i-48 } with dpl:=((i+1):Nat),dp:=bt s (i+1)-97 } with v:=v } kids Ha.out.rd HSr.out h0 hrp a5 (by omega) Ha.out.made (by omega)).mono ?_
      rintro e w2 ⟨rfl,b1,b2,b3,b4⟩
      generalize hpr:prs s rule f i'=r at *
      clear hpr
      obtain ⟨rok,ri,rits⟩:=r
      cases rok
      · have HF:Hid (loopN (prs s rule f) m ((i+1)+1)=⟨false,ri,kids.flatMap Prod.snd⟩):=by
         have:loopN (prs s rule f) m ((i+1)+1)=⟨false,ri,kids.flatMap Prod.snd⟩:=by
          have h:=HUn.out
          rw[HA9.out,h];simp[Res.pre]
         exact this
        clear HUn HA9
        simp only
        go_wp2_with fail
        go_ret
        rw[HRT2.out,HF.out]
        exact ⟨rfl,b1,a3.trans b2,by omega,fun h=>by cases h⟩
      · obtain ⟨q,v',hmk⟩:=b4 rfl
        obtain ⟨g1,g2,_⟩:=HGood.out
        simp only at b1 g1 g2
        have HN:Hid (AtN s rule f rb pb w { { p with wd:=bt s i-48 } with dpl:=((i+1):Nat),dp:=bt s (i+1)-97 } m ((i+1)+1) ri (k+1) (kids++[(q,rits)]) v' w2):=by
         refine ⟨b1,hmk.all,a3.trans b2,by omega,g1,by omega,by simp;omega,by omega,?_⟩
         have h:=HUn.out
         rw[if_pos (by trivial)] at h
         rw[HA9.out,h,Res.pre_pre'];simp
        clear b4 hmk HUn HA9 HGood b1 b2
        simp only
        go_wp2_with fail
        go_roundw
        case rel=>exact ⟨ri,k+1,_,v',by go_num,HN⟩
        case measure=>simp[intOf];omega
    · have HF:Hid (loopN (prs s rule f) m ((i+1)+1)=⟨true,i',kids.flatMap Prod.snd⟩):=by
       have:loopN (prs s rule f) m ((i+1)+1)=⟨true,i',kids.flatMap Prod.snd⟩:=by
        rw[a9,show m-k=0 by omega];simp[loopN,Res.pre]
       exact this
      clear a9
      go_wp2_with fail
      go_ret
      rw[HRT2.out,HQ.out,HF.out]
      exact ⟨rfl,a1,a3,a4,fun _=>⟨kids,v,by rw[decide_eq_false (by have:=HMm.out;omega)];exact a2,rfl⟩⟩
set_option maxRecDepth 100000 in
set_option maxHeartbeats 8000000 in
theorem tail_d (s:ByteArray)(rule:Int)(hs:s.size≤400)(f:Nat)(ih:PartS s rule f)(x:Sh)(hn1 : -1≤x.n)(hn2:x.n≤2)(hw:x.w=false)(hd:x.d=true)(hv:x.v=false)(w:World)(rb pb i:Nat)(p:Pt)(hr:Rd w rb s i)(hS:Shp w)(h0:0<rb)(hrp:rb<pb)(hi:i≤s.size)(hf:s.size+1-i≤f)(hM:Mk f w pb false p [])(hnil:p.v=.slice none 0 0):
 Calls Tryz.prog 172 #[.pointer (some ⟨rb,0,none⟩),.pointer (some ⟨pb,0,none⟩),.agg x.row] w fun e w'=>TailPost s f rb pb w (tailH x s i p).p x.n (tailR (prs s rule f) s f x.n (tailH x s i p)) e w':=by
 have HS:Hid (Shp w):=hS
 have HI:Hid (PartS s rule f):=ih
 have hpl:=hM.blk.lt
 have HST:Hid (St s f rb pb w.heap.size x w i p (w.alloc (.cells x.row 252))):=
  ⟨Blk.alloc hr _,hM.fr ((Fr.refl _ _ _).alloc (Nat.le_refl _) _) hrp,hnil,(Fr.refl _ _ _).alloc (by omega) _,by simp,Blk.new _ _ _⟩
 have HW:Hid (x.w=false):=hw
 have HD:Hid (x.d=true):=hd
 have HV:Hid (x.v=false):=hv
 clear hr hM hS ih hnil
 go_enter Tryz.func172,Tryz.ntmps172
 simp only[Sh.row,hw,hd,hv] at HST ⊢
 clear hw hd hv
 go_wp2_with fail
 generalize hWA:(w.alloc (.cells #[.int .u8 x.a,.int .u8 x.b,.bool false,.bool true,.bool false,.int .i64 x.n] 252))=WA at *
 clear hWA
 generalize hbx:w.heap.size=bx at *
 have HBX:=hide' hbx
 clear hbx
 refine (dependency_calls WA rb pb s i p HST.out.rd HST.out.made.blk (by omega) hs (by omega)).mono ?_
 rintro e w1 ⟨rfl,hsm,hrd,p',hp',hv',hpe⟩
 cases hok:takeOk s i 97 104
 · have HTF:Hid (tailR (prs s rule f) s f x.n (tailH x s i p)=⟨false,i,[]⟩):=by
    have:tailR (prs s rule f) s f x.n (tailH x s i p)=⟨false,i,[]⟩:=by
     simp[tailR,tailH,tailW,tailD,HW.out,HD.out,hok,stepI]
    exact this
   rw[hok] at hrd
   have hrd2:Rd w1 rb s (i):=hrd
   have hfr2:=HST.out.fr.trans (hsm.fr _ (Nat.le_refl _))
   have hsz2:w.heap.size≤w1.heap.size:=by have:=HST.out.sz;have:=hsm.size;omega
   clear hok hpe
   simp only
   go_wp2_with fail
   go_ret
   rw[HTF.out]
   exact ⟨rfl,hrd2,hfr2,hsz2,fun h=>by cases h⟩
 have hpe:=hpe hok
 subst hpe
 have hlt:=takeOk_lt s i 97 104 hok (by omega)
 rw[hok] at hrd
 have HOK0:=hide' hok
 have hrd2:Rd w1 rb s (i+1):=hrd
 have HST:=hide' (HST.out.next hsm hrd2 hp' rfl (by omega) (by omega))
 clear hok hrd hp' hv' hsm hrd2
 have b2w1:w1.cell? ⟨bx,2,none⟩=some (.bool false):=by have h:=HST.out.box.cell 2;rw[h,← HW.out];rfl
 have b3w1:w1.cell? ⟨bx,3,none⟩=some (.bool true):=by have h:=HST.out.box.cell 3;rw[h,← HD.out];rfl
 have b4w1:w1.cell? ⟨bx,4,none⟩=some (.bool false):=by have h:=HST.out.box.cell 4;rw[h,← HV.out];rfl
 simp only
 go_upto_region 7 with fail
 have HTH:Hid (tailH x s i p=⟨true,(i+1),{ p with dpl:=(i:Nat),dp:=bt s i-97 }⟩):=by
  have:tailH x s i p=⟨true,(i+1),{ p with dpl:=(i:Nat),dp:=bt s i-97 }⟩:=by
   simp[tailH,tailW,tailD,tailX,HW.out,HD.out,HV.out,stepI,HOK0.out]
  exact this
 -- the parts within
 have HS3:Hid (Shp w1):=HS.out.fr HST.out.fr h0 (by omega)
 have b5:w1.cell? ⟨bx,5,none⟩=some (.int .i64 x.n):=HST.out.box.cell 5
 have HRT:Hid (tailR (prs s rule f) s f x.n (tailH x s i p)=if x.n<0 then loopB (prs s rule f) s f (i+1) else loopN (prs s rule f) x.n.toNat (i+1)):=by
  have:tailR (prs s rule f) s f x.n (tailH x s i p)=if x.n<0 then loopB (prs s rule f) s f (i+1) else loopN (prs s rule f) x.n.toNat (i+1):=by unfold tailR;rw[HTH.out];simp
  exact this
 have HQ:Hid ((tailH x s i p).p={ p with dpl:=(i:Nat),dp:=bt s i-97 }):=by
  have:(tailH x s i p).p={ p with dpl:=(i:Nat),dp:=bt s i-97 }:=by rw[HTH.out]
  exact this
 clear HTH
 by_cases hneg:x.n = -1
 · have hneg':(x.n == -1)=true:=by simpa using hneg
   have HRT2:Hid (tailR (prs s rule f) s f x.n (tailH x s i p)=loopB (prs s rule f) s f (i+1)):=by
    have:tailR (prs s rule f) s f x.n (tailH x s i p)=loopB (prs s rule f) s f (i+1):=by rw[HRT.out,if_pos (by omega)]
    exact this
   have HNEG:=hide' hneg
   clear HRT hneg
   go_wp2_with fail
   refine (bracket_calls s rule hs f HI.out _ rb pb (i+1) { p with dpl:=(i:Nat),dp:=bt s i-97 } HST.out.rd HS3.out h0 hrp (by omega) (by omega) HST.out.made.any).mono ?_
   rintro e w7 ⟨rfl,d1,d2,d3,d4⟩
   simp only
   go_wp2_with fail
   go_ret
   rw[HRT2.out,HQ.out]
   refine ⟨rfl,d1,HST.out.fr.trans d2,by have:=HST.out.sz;omega,fun h=>?_⟩
   obtain ⟨more,v',e1,e2⟩:=d4 h
   exact ⟨more,v',by rw[decide_eq_true (by have:=HNEG.out;omega)];simpa using e1,e2⟩
 · have hneg':(x.n == -1)=false:=by simpa using hneg
   obtain ⟨m,hm⟩:∃ m:Nat,x.n=(m:Int):=⟨x.n.toNat,by omega⟩
   have HRT2:Hid (tailR (prs s rule f) s f x.n (tailH x s i p)=loopN (prs s rule f) m (i+1)):=by
    have:tailR (prs s rule f) s f x.n (tailH x s i p)=loopN (prs s rule f) m (i+1):=by rw[HRT.out,if_neg (by omega),hm];rfl
    exact this
   have HMm:=hide' hm
   rw[hm] at b5 hneg'
   have hm2:m≤2:=by omega
   clear HRT hneg hm hn1 hn2
   go_wp2_with fail
   go_loopw [39] (fun v39 wr=>∃ (i' k:Nat) (kids:List (Nat × List It)) (v:Value),v39=.int .i64 k∧Hid (AtN s rule f rb pb w { p with dpl:=(i:Nat),dp:=bt s i-97 } m (i+1) i' k kids v wr)) (fun v39 _=>m-(intOf v39).toNat)
   case atStart=>exact ⟨(i+1),0,[],_,rfl,⟨HST.out.rd,HST.out.made,HST.out.fr,HST.out.sz,by omega,Nat.le_refl _,by simp,by omega,by simp[Res.pre]⟩⟩
   case round=>
    obtain ⟨i',k,kids,v,rfl,hat⟩:=hrel
    have Ha:=hat
    obtain ⟨a1,a2,a3,a4,a5,a6,a7,a8,a9⟩:=hat.out
    by_cases hlt:k<m
    · have HSr:Hid (Shp wr):=HS.out.fr a3 h0 (by omega)
      have HUn:Hid (loopN (prs s rule f) (m-k) i'=if (prs s rule f i').ok=true then (loopN (prs s rule f) (m-(k+1)) (prs s rule f i').i).pre (prs s rule f i').its else ⟨false,(prs s rule f i').i,[]⟩):=by
       have:loopN (prs s rule f) (m-k) i'=if (prs s rule f i').ok=true then (loopN (prs s rule f) (m-(k+1)) (prs s rule f i').i).pre (prs s rule f i').its else ⟨false,(prs s rule f i').i,[]⟩:=by
        rw[show m-k=(m-(k+1))+1 by omega,loopN]
       exact this
      have HA9:Hid (loopN (prs s rule f) m (i+1)=(loopN (prs s rule f) (m-k) i').pre (kids.flatMap Prod.snd)):=a9
      have HGood:Hid ((prs s rule f i').i≤s.size∧i'≤(prs s rule f i').i∧((prs s rule f i').ok=true→i'<(prs s rule f i').i∧(prs s rule f i').its.length≤(prs s rule f i').i-i')):=prs_good s rule f i' a5
      clear a1 a2 a9 hat
      go_wp2_with fail
      refine (innerPart_calls s rule f HI.out wr rb pb i' false { { p with dpl:=(i:Nat),dp:=bt s i-97 } with v:=v } kids Ha.out.rd HSr.out h0 hrp a5 (by omega) Ha.out.made (by omega)).mono ?_
      rintro e w2 ⟨rfl,b1,b2,b3,b4⟩
      generalize hpr:prs s rule f i'=r at *
      clear hpr
      obtain ⟨rok,ri,rits⟩:=r
      cases rok
      · have HF:Hid (loopN (prs s rule f) m (i+1)=⟨false,ri,kids.flatMap Prod.snd⟩):=by
         have:loopN (prs s rule f) m (i+1)=⟨false,ri,kids.flatMap Prod.snd⟩:=by
          have h:=HUn.out
          rw[HA9.out,h];simp[Res.pre]
         exact this
        clear HUn HA9
        simp only
        go_wp2_with fail
        go_ret
        rw[HRT2.out,HF.out]
        exact ⟨rfl,b1,a3.trans b2,by omega,fun h=>by cases h⟩
      · obtain ⟨q,v',hmk⟩:=b4 rfl
        obtain ⟨g1,g2,_⟩:=HGood.out
        simp only at b1 g1 g2
        have HN:Hid (AtN s rule f rb pb w { p with dpl:=(i:Nat),dp:=bt s i-97 } m (i+1) ri (k+1) (kids++[(q,rits)]) v' w2):=by
         refine ⟨b1,hmk.all,a3.trans b2,by omega,g1,by omega,by simp;omega,by omega,?_⟩
         have h:=HUn.out
         rw[if_pos (by trivial)] at h
         rw[HA9.out,h,Res.pre_pre'];simp
        clear b4 hmk HUn HA9 HGood b1 b2
        simp only
        go_wp2_with fail
        go_roundw
        case rel=>exact ⟨ri,k+1,_,v',by go_num,HN⟩
        case measure=>simp[intOf];omega
    · have HF:Hid (loopN (prs s rule f) m (i+1)=⟨true,i',kids.flatMap Prod.snd⟩):=by
       have:loopN (prs s rule f) m (i+1)=⟨true,i',kids.flatMap Prod.snd⟩:=by
        rw[a9,show m-k=0 by omega];simp[loopN,Res.pre]
       exact this
      clear a9
      go_wp2_with fail
      go_ret
      rw[HRT2.out,HQ.out,HF.out]
      exact ⟨rfl,a1,a3,a4,fun _=>⟨kids,v,by rw[decide_eq_false (by have:=HMm.out;omega)];exact a2,rfl⟩⟩
set_option maxRecDepth 100000 in
set_option maxHeartbeats 8000000 in
theorem tail_v (s:ByteArray)(rule:Int)(hs:s.size≤400)(f:Nat)(ih:PartS s rule f)(x:Sh)(hn1 : -1≤x.n)(hn2:x.n≤2)(hw:x.w=false)(hd:x.d=false)(hv:x.v=true)(w:World)(rb pb i:Nat)(p:Pt)(hr:Rd w rb s i)(hS:Shp w)(h0:0<rb)(hrp:rb<pb)(hi:i≤s.size)(hf:s.size+1-i≤f)(hM:Mk f w pb false p [])(hnil:p.v=.slice none 0 0):
 Calls Tryz.prog 172 #[.pointer (some ⟨rb,0,none⟩),.pointer (some ⟨pb,0,none⟩),.agg x.row] w fun e w'=>TailPost s f rb pb w (tailH x s i p).p x.n (tailR (prs s rule f) s f x.n (tailH x s i p)) e w':=by
 have HS:Hid (Shp w):=hS
 have HI:Hid (PartS s rule f):=ih
 have hpl:=hM.blk.lt
 have HST:Hid (St s f rb pb w.heap.size x w i p (w.alloc (.cells x.row 252))):=
  ⟨Blk.alloc hr _,hM.fr ((Fr.refl _ _ _).alloc (Nat.le_refl _) _) hrp,hnil,(Fr.refl _ _ _).alloc (by omega) _,by simp,Blk.new _ _ _⟩
 have HW:Hid (x.w=false):=hw
 have HD:Hid (x.d=false):=hd
 have HV:Hid (x.v=true):=hv
 clear hr hM hS ih hnil
 go_enter Tryz.func172,Tryz.ntmps172
 simp only[Sh.row,hw,hd,hv] at HST ⊢
 clear hw hd hv
 go_wp2_with fail
 generalize hWA:(w.alloc (.cells #[.int .u8 x.a,.int .u8 x.b,.bool false,.bool false,.bool true,.int .i64 x.n] 252))=WA at *
 clear hWA
 generalize hbx:w.heap.size=bx at *
 have HBX:=hide' hbx
 clear hbx
 refine (value_calls WA rb pb s i p HST.out.rd HST.out.made.blk (by omega) hs (by omega)).mono ?_
 rintro e w1 ⟨rfl,hsm,hrd,p',hp',hv',hpe⟩
 cases hok:valOk s i
 · have HTF:Hid (tailR (prs s rule f) s f x.n (tailH x s i p)=⟨false,valN s i,[]⟩):=by
    have:tailR (prs s rule f) s f x.n (tailH x s i p)=⟨false,valN s i,[]⟩:=by
     simp[tailR,tailH,tailW,tailD,tailX,HW.out,HD.out,HV.out,hok]
    exact this
   skip
   have hrd2:Rd w1 rb s (valN s i):=hrd
   have hfr2:=HST.out.fr.trans (hsm.fr _ (Nat.le_refl _))
   have hsz2:w.heap.size≤w1.heap.size:=by have:=HST.out.sz;have:=hsm.size;omega
   clear hok hpe
   simp only
   go_wp2_with fail
   go_ret
   rw[HTF.out]
   exact ⟨rfl,hrd2,hfr2,hsz2,fun h=>by cases h⟩
 have hpe:=hpe hok
 subst hpe
 obtain ⟨hlt,hvn⟩:=valOk_lt s i hok
 rw[hvn] at hrd
 have HOK0:=hide' hok
 have hrd2:Rd w1 rb s (i+2):=hrd
 have HST:=hide' (HST.out.next hsm hrd2 hp' rfl (by omega) (by omega))
 clear hok hrd hp' hv' hsm hrd2
 have HVN:=hide' hvn
 clear hvn
 have b2w1:w1.cell? ⟨bx,2,none⟩=some (.bool false):=by have h:=HST.out.box.cell 2;rw[h,← HW.out];rfl
 have b3w1:w1.cell? ⟨bx,3,none⟩=some (.bool false):=by have h:=HST.out.box.cell 3;rw[h,← HD.out];rfl
 have b4w1:w1.cell? ⟨bx,4,none⟩=some (.bool true):=by have h:=HST.out.box.cell 4;rw[h,← HV.out];rfl
 simp only
 go_upto_region 7 with fail
 have HTH:Hid (tailH x s i p=⟨true,(i+2),{ p with vl:=hexV (bt s i)*16+hexV (bt s (i+1)) }⟩):=by
  have:tailH x s i p=⟨true,(i+2),{ p with vl:=hexV (bt s i)*16+hexV (bt s (i+1)) }⟩:=by
   simp[tailH,tailW,tailD,tailX,HW.out,HD.out,HV.out,HOK0.out,HVN.out]
  exact this
 -- the parts within
 have HS3:Hid (Shp w1):=HS.out.fr HST.out.fr h0 (by omega)
 have b5:w1.cell? ⟨bx,5,none⟩=some (.int .i64 x.n):=HST.out.box.cell 5
 have HRT:Hid (tailR (prs s rule f) s f x.n (tailH x s i p)=if x.n<0 then loopB (prs s rule f) s f (i+2) else loopN (prs s rule f) x.n.toNat (i+2)):=by
  have:tailR (prs s rule f) s f x.n (tailH x s i p)=if x.n<0 then loopB (prs s rule f) s f (i+2) else loopN (prs s rule f) x.n.toNat (i+2):=by unfold tailR;rw[HTH.out];simp
  exact this
 have HQ:Hid ((tailH x s i p).p={ p with vl:=hexV (bt s i)*16+hexV (bt s (i+1)) }):=by
  have:(tailH x s i p).p={ p with vl:=hexV (bt s i)*16+hexV (bt s (i+1)) }:=by rw[HTH.out]
  exact this
 clear HTH
 by_cases hneg:x.n = -1
 · have hneg':(x.n == -1)=true:=by simpa using hneg
   have HRT2:Hid (tailR (prs s rule f) s f x.n (tailH x s i p)=loopB (prs s rule f) s f (i+2)):=by
    have:tailR (prs s rule f) s f x.n (tailH x s i p)=loopB (prs s rule f) s f (i+2):=by rw[HRT.out,if_pos (by omega)]
    exact this
   have HNEG:=hide' hneg
   clear HRT hneg
   go_wp2_with fail
   refine (bracket_calls s rule hs f HI.out _ rb pb (i+2) { p with vl:=hexV (bt s i)*16+hexV (bt s (i+1)) } HST.out.rd HS3.out h0 hrp (by omega) (by omega) HST.out.made.any).mono ?_
   rintro e w7 ⟨rfl,d1,d2,d3,d4⟩
   simp only
   go_wp2_with fail
   go_ret
   rw[HRT2.out,HQ.out]
   refine ⟨rfl,d1,HST.out.fr.trans d2,by have:=HST.out.sz;omega,fun h=>?_⟩
   obtain ⟨more,v',e1,e2⟩:=d4 h
   exact ⟨more,v',by rw[decide_eq_true (by have:=HNEG.out;omega)];simpa using e1,e2⟩
 · have hneg':(x.n == -1)=false:=by simpa using hneg
   obtain ⟨m,hm⟩:∃ m:Nat,x.n=(m:Int):=⟨x.n.toNat,by omega⟩
   have HRT2:Hid (tailR (prs s rule f) s f x.n (tailH x s i p)=loopN (prs s rule f) m (i+2)):=by
    have:tailR (prs s rule f) s f x.n (tailH x s i p)=loopN (prs s rule f) m (i+2):=by rw[HRT.out,if_neg (by omega),hm];rfl
    exact this
   have HMm:=hide' hm
   rw[hm] at b5 hneg'
   have hm2:m≤2:=by omega
   clear HRT hneg hm hn1 hn2
   go_wp2_with fail
   go_loopw [39] (fun v39 wr=>∃ (i' k:Nat) (kids:List (Nat × List It)) (v:Value),v39=.int .i64 k∧Hid (AtN s rule f rb pb w { p with vl:=hexV (bt s i)*16+hexV (bt s (i+1)) } m (i+2) i' k kids v wr)) (fun v39 _=>m-(intOf v39).toNat)
   case atStart=>exact ⟨(i+2),0,[],_,rfl,⟨HST.out.rd,HST.out.made,HST.out.fr,HST.out.sz,by omega,Nat.le_refl _,by simp,by omega,by simp[Res.pre]⟩⟩
   case round=>
    obtain ⟨i',k,kids,v,rfl,hat⟩:=hrel
    have Ha:=hat
    obtain ⟨a1,a2,a3,a4,a5,a6,a7,a8,a9⟩:=hat.out
    by_cases hlt:k<m
    · have HSr:Hid (Shp wr):=HS.out.fr a3 h0 (by omega)
      have HUn:Hid (loopN (prs s rule f) (m-k) i'=if (prs s rule f i').ok=true then (loopN (prs s rule f) (m-(k+1)) (prs s rule f i').i).pre (prs s rule f i').its else ⟨false,(prs s rule f i').i,[]⟩):=by
       have:loopN (prs s rule f) (m-k) i'=if (prs s rule f i').ok=true then (loopN (prs s rule f) (m-(k+1)) (prs s rule f i').i).pre (prs s rule f i').its else ⟨false,(prs s rule f i').i,[]⟩:=by
        rw[show m-k=(m-(k+1))+1 by omega,loopN]
       exact this
      have HA9:Hid (loopN (prs s rule f) m (i+2)=(loopN (prs s rule f) (m-k) i').pre (kids.flatMap Prod.snd)):=a9
      have HGood:Hid ((prs s rule f i').i≤s.size∧i'≤(prs s rule f i').i∧((prs s rule f i').ok=true→i'<(prs s rule f i').i∧(prs s rule f i').its.length≤(prs s rule f i').i-i')):=prs_good s rule f i' a5
      clear a1 a2 a9 hat
      go_wp2_with fail
      refine (innerPart_calls s rule f HI.out wr rb pb i' false { { p with vl:=hexV (bt s i)*16+hexV (bt s (i+1)) } with v:=v } kids Ha.out.rd HSr.out h0 hrp a5 (by omega) Ha.out.made (by omega)).mono ?_
      rintro e w2 ⟨rfl,b1,b2,b3,b4⟩
      generalize hpr:prs s rule f i'=r at *
      clear hpr
      obtain ⟨rok,ri,rits⟩:=r
      cases rok
      · have HF:Hid (loopN (prs s rule f) m (i+2)=⟨false,ri,kids.flatMap Prod.snd⟩):=by
         have:loopN (prs s rule f) m (i+2)=⟨false,ri,kids.flatMap Prod.snd⟩:=by
          have h:=HUn.out
          rw[HA9.out,h];simp[Res.pre]
         exact this
        clear HUn HA9
        simp only
        go_wp2_with fail
        go_ret
        rw[HRT2.out,HF.out]
        exact ⟨rfl,b1,a3.trans b2,by omega,fun h=>by cases h⟩
      · obtain ⟨q,v',hmk⟩:=b4 rfl
        obtain ⟨g1,g2,_⟩:=HGood.out
        simp only at b1 g1 g2
        have HN:Hid (AtN s rule f rb pb w { p with vl:=hexV (bt s i)*16+hexV (bt s (i+1)) } m (i+2) ri (k+1) (kids++[(q,rits)]) v' w2):=by
         refine ⟨b1,hmk.all,a3.trans b2,by omega,g1,by omega,by simp;omega,by omega,?_⟩
         have h:=HUn.out
         rw[if_pos (by trivial)] at h
         rw[HA9.out,h,Res.pre_pre'];simp
        clear b4 hmk HUn HA9 HGood b1 b2
        simp only
        go_wp2_with fail
        go_roundw
        case rel=>exact ⟨ri,k+1,_,v',by go_num,HN⟩
        case measure=>simp[intOf];omega
    · have HF:Hid (loopN (prs s rule f) m (i+2)=⟨true,i',kids.flatMap Prod.snd⟩):=by
       have:loopN (prs s rule f) m (i+2)=⟨true,i',kids.flatMap Prod.snd⟩:=by
        rw[a9,show m-k=0 by omega];simp[loopN,Res.pre]
       exact this
      clear a9
      go_wp2_with fail
      go_ret
      rw[HRT2.out,HQ.out,HF.out]
      exact ⟨rfl,a1,a3,a4,fun _=>⟨kids,v,by rw[decide_eq_false (by have:=HMm.out;omega)];exact a2,rfl⟩⟩
end Go.Proofs.YtmlkhhhjdpbhfaaGreatDoor

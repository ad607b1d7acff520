import Derived.Test.YtmlkhhhjdpbhfaaGreatDoorFo46
import Derived.Test.YtmlkhhhjdpbhfaaGreatDoorFo44
import Derived.Test.YtmlkhhhjdpbhfaaGreatDoorFo33
import Derived.RangeFuncNested
import Derived.RangeFuncBound
import Derived.RangeFuncCalls
import Derived.RangeFuncLeaves
import Derived.RangeFuncBox
import Derived.Shelf.Abstract
import Derived.Shelf.RegionOpen
import Derived.WalkKit
import Derived.OwnWalkIn
import Derived.TacticsInMore
import Derived.LoopNIn
import Derived.LoopIn
import Derived.Test.YtmlkhhhjdpbhfaaGreatDoorFo40
import Derived.Test.YtmlkhhhjdpbhfaaGreatDoorFo39
import Derived.Laws.IdiomStrings
import Derived.Test.YtmlkhhhjdpbhfaaGreatDoorFo23
import Derived.OrdersIn
namespace Go.Proofs.YtmlkhhhjdpbhfaaGreatDoor
open Go.RowKit
def WLi (c:Cx)(B wb:Nat)(fin:Wr)(f:Nat)(wr:World):Prop:=∃ bv tv sv svs hbs st,WrM c B wr wb bv tv sv svs hbs st∧LInv c.G 80000000 10000000 st∧wRest c.G f st=fin∧(st.wait.map wMu).sum≤f
def wAll (G:Nat→List It)(n:Nat)(v:Nd (Tr n)):Wr:=wRest G ((G 0).length+1001*szN v) (wPiece G n (G 0) none v Wr0)
theorem first_ok {R:Nat→Bool}{G:Nat→List It}(hG:GOk R G){n:Nat}{v:Nd (Tr n)}(hR:R 0=true)(hh:hasT G (n+1) (G 0) v=true)(hsz:szN v≤8000):
 WInv { Wr0 with sums:=Wr0.sums++[[]] }∧Bnd (10000*szT (n+1) v) { Wr0 with sums:=Wr0.sums++[[]] }∧LInv G 80000000 10000000 (wPiece G n (G 0) none v Wr0)∧((wPiece G n (G 0) none v Wr0).wait.map wMu).sum≤(G 0).length+1001*szN v:=by
 obtain ⟨ht,sc,hs⟩:=hG.2 0 hR
 have hk:=hG.1 0
 have hkl:=hk.1
 have hv:WInv { Wr0 with sums:=Wr0.sums++[[]] }:=⟨fun i f d ho a b=>by simp[Wr0] at a,by simp[Wr0]⟩
 have hw:WtOk { Wr0 with sums:=Wr0.sums++[[]] }:=⟨fun e he=>by simp[Wr0] at he,fun l hl s hs=>by simp[Wr0] at hl;subst hl;simp at hs⟩
 have p:=piece_ok hG (hid:=none) ht hk hs (fun e=>by cases e) hh hv hw (fun e he=>by simp[Wr0] at he)
 have e1:szT (n+1) v=szN v:=rfl
 have e2:szN v=1+v.run.length+(v.kids.map (szT n)).sum:=rfl
 have hpp:pot (wPiece G n (G 0) none v Wr0)≤_:=p.pot
 have hp0:pot { Wr0 with sums:=Wr0.sums++[[]] }=0:=rfl
 have hps:(wPiece G n (G 0) none v Wr0).sums.length=1:=p.sums
 have hpm:((wPiece G n (G 0) none v Wr0).wait.map wMu).sum+1≤0+_:=p.mu
 refine ⟨hv,⟨?_,?_,?_,?_⟩,⟨p.inv,p.wt,p.has,by omega,by omega⟩,by omega⟩
 all_goals simp[Wr0]
 all_goals omega
set_option maxRecDepth 100000 in
set_option maxHeartbeats 4000000 in
theorem writeAll_calls (c:Cx)(hc:CxOk c)(hG:GOk c.R c.G)(B:Nat)(w:World)(wb:Nat)(bv tv sv:Value)(svs:List Value)(hbs:List Nat)(h:WrM c B w wb bv tv sv svs hbs Wr0)(pb vb n lo2 hi2 f lo hi:Nat)(v:Nd (Tr n))(hR:c.R 0=true)(hrep:RepS f c.w0 lo hi pb false (c.G 0))(hhi:hi≤c.w0.heap.size)(hval:NdT (RepY n) w lo2 hi2 vb v)(hh2:hi2≤B)(hhas:hasT c.G (n+1) (c.G 0) v=true)(hsz:szN v≤8000):
 Calls Tryz.prog 52 #[.pointer (some ⟨wb,0,none⟩),.pointer (some ⟨pb,0,none⟩),.pointer (some ⟨vb,0,none⟩)] w fun e w'=>e=.returned (.tuple #[])∧Below B w w'∧(∃ bv tv sv svs hbs,WrM c B w' wb bv tv sv svs hbs (wAll c.G n v))∧LInv c.G 80000000 10000000 (wAll c.G n v):=by
 obtain ⟨hv0,hb0,hl0,hm0⟩:=first_ok hG hR hhas hsz
 obtain ⟨ht0,sc0,hs0⟩:=hG.2 0 hR
 have hP:=writePiece_calls c B w wb bv tv sv svs hbs Wr0 _ h (by simp[Wr0]) pb (.pointer (some ⟨vb,0,none⟩)) (.pointer none) none trivial
  (write_all c hc hG B wb (n+1) w (c.G 0) false false false false f lo hi pb lo2 hi2 vb v none (.pointer none) { Wr0 with sums:=Wr0.sums++[[]] } sc0 hrep hhi ht0 (hG.1 0).1 hval hh2 hhas hs0 (fun e=>by cases e) hv0 hb0)
 obtain ⟨lf,hlf⟩:=least_ex fun wr f=>WLi c B wb (wAll c.G n v) f wr
 have HLf:=hide' hlf
 clear hlf
 have HP:=hide' hP
 have HL0:=hide' hl0
 have HM0:=hide' hm0
 have HC:=hide' hc
 have HG:=hide' hG
 clear h hrep hval hP hl0 hm0 hv0 hb0 ht0 hs0 hc hG
 go_enter Tryz.func52,Tryz.ntmps52
 go_wp2_with fail
 refine HP.out.mono ?_
 rintro e w1 ⟨rfl,hb1,bv1,tv1,sv1,svs1,more,hm1⟩
 have HLi:Hid (WLi c B wb (wAll c.G n v) ((c.G 0).length+1001*szN v) w1):=by
  have:WLi c B wb (wAll c.G n v) ((c.G 0).length+1001*szN v) w1:=⟨bv1,tv1,sv1,svs1,_,_,hm1,HL0.out,rfl,HM0.out⟩
  exact this
 have HB1:=hide' hb1
 clear hm1 hb1 HP HL0 HM0
 go_wp2_with fail
 go_loopw [6] (fun _ wr=>Hid (Below B w wr)∧Hid (∃ f,WLi c B wb (wAll c.G n v) f wr)) (fun _ wr=>lf wr)
 case atStart=>exact ⟨HB1,(⟨_,HLi.out⟩:∃ f,WLi c B wb (wAll c.G n v) f w1)⟩
 case round=>
  clear HLi HB1
  obtain ⟨hbel,hex⟩:=hrel
  obtain ⟨f0,hf0⟩:=hex.out
  obtain ⟨hf,_⟩:=HLf.out wr f0 hf0
  have HF:Hid (WLi c B wb (wAll c.G n v) (lf wr) wr):=hf
  clear hf0 hex
  generalize hfl:lf wr=fl at *
  have HFl:=hide' hfl
  clear hfl hf
  obtain ⟨bv2,tv2,sv2,svs2,hbs2,st,hm,hli,hres,hmu⟩:=HF.out
  clear HF
  have HLi:=hide' hli
  have HRes:=hide' hres
  have HMu:=hide' hmu
  clear hli hres hmu
  obtain ⟨qt,cpt,htv⟩:=off_form (hm.wait.choose_spec.1)
  have c48:wr.cell? ⟨wb,48,none⟩=some (.slice qt st.wait.length cpt):=by rw[← htv];exact hm.blk.cell 48
  have HM:=hide' hm
  cases hst:st.wait with
  | nil=>
   have HFin:Hid (wAll c.G n v=st):=by
    have:wAll c.G n v=st:=by rw[← HRes.out];exact wRest_nil _ hst
    exact this
   rw[hst] at c48
   simp only[List.length_nil] at c48
   clear hm
   go_wp2_with fail
   go_end0
   refine ⟨rfl,hbel.out,?_,?_⟩
   · rw[HFin.out];exact ⟨_,_,_,_,_,HM.out⟩
   · rw[HFin.out];exact HLi.out
  | cons e ws=>
   obtain ⟨g,off,cap,pb2,vb2,hb2,rfl,hcap,hgw,hhd,htake⟩:=hm.takeWait hst
   clear c48 htv
   obtain ⟨sl,own,ctx,f2,lo3,hi3,r1,r2,r3,r4⟩:=hhd.part
   obtain ⟨lo4,hi4,r5,r6⟩:=hhd.val
   have tk:=take_ok HG.out HLi.out hst r3 (Nat.le_refl _) (Nat.le_refl _)
   have hwb:=hm.ge wb List.mem_cons_self
   have c48:wr.cell? ⟨wb,48,none⟩=some (.slice (some ⟨g,off,none⟩) (ws.length+1) cap):=hm.blk.cell 48
   have c48a:∀ o,(wr.alloc o).cell? ⟨wb,48,none⟩=some (.slice (some ⟨g,off,none⟩) (ws.length+1) cap):=fun o=>(Blk.alloc hm.blk o).cell 48
   have f48a:∀ o,(wr.alloc o).frozen? ⟨wb,48,none⟩=false:=fun o=>(Blk.alloc hm.blk o).frozen 48
   have k0:=hhd.c0
   have k1:=hhd.c1
   have k2:=hhd.c2
   have k3:=hhd.c3
   have k4:=hhd.c4
   have k5:=hhd.c5
   have hpos:(0:Int)<((ws.length:Nat):Int)+1:=by omega
   have HTk:=hide' tk
   have HTake:=hide' htake
   have HHd:=hide' hhd
   have HR:=hide' (And.intro r1 (And.intro r2 (And.intro r3 r4)))
   have HV:=hide' (And.intro r5 r6)
   have HSt:=hide' hst
   clear hm tk htake hhd r1 r2 r3 r4 r5 r6 hst
   obtain ⟨a,hae⟩:∃ a,(if cap=1 then some (⟨g,off,none⟩:Addr) else some ⟨g,off+6,none⟩)=a:=⟨_,rfl⟩
   have HAe:=hide' hae
   go_wp2_with fail
   clear hae k0 k1 k2 k3 k4 k5 c48 c48a f48a
   have ht:=HTake.out wr a (Below.refl _ _) (fun h=>by rw[← HAe.out,if_pos h]) (fun h=>by rw[← HAe.out,if_neg h])
   have hs1:(wr.setCell ⟨wb,48,none⟩ (.slice a ws.length (cap-1))).heap.size=wr.heap.size:=by simp[World.setCell]
   generalize wr.setCell ⟨wb,48,none⟩ (.slice a ws.length (cap-1))=W1 at *
   have hA:=Blk.new W1 #[.pointer (some ⟨pb2,0,none⟩),.pointer (some ⟨vb2,0,none⟩),.pointer (some ⟨hb2,0,none⟩),.int .i64 (e.ho.pl:Nat),.int .i64 (e.ho.w:Nat),.func (.func (putF e.ho.low)) #[] #[]] 192
   rw[hs1] at hA
   have hbA:Below W1.heap.size W1 (W1.alloc (.cells #[.pointer (some ⟨pb2,0,none⟩),.pointer (some ⟨vb2,0,none⟩),.pointer (some ⟨hb2,0,none⟩),.int .i64 (e.ho.pl:Nat),.int .i64 (e.ho.w:Nat),.func (.func (putF e.ho.low)) #[] #[]] 192)):=(Below.refl _ _).alloc (Nat.le_refl _) _
   have hsA:(W1.alloc (.cells #[.pointer (some ⟨pb2,0,none⟩),.pointer (some ⟨vb2,0,none⟩),.pointer (some ⟨hb2,0,none⟩),.int .i64 (e.ho.pl:Nat),.int .i64 (e.ho.w:Nat),.func (.func (putF e.ho.low)) #[] #[]] 192)).heap.size=wr.heap.size+1:=by simp[hs1]
   generalize W1.alloc (.cells #[.pointer (some ⟨pb2,0,none⟩),.pointer (some ⟨vb2,0,none⟩),.pointer (some ⟨hb2,0,none⟩),.int .i64 (e.ho.pl:Nat),.int .i64 (e.ho.w:Nat),.func (.func (putF e.ho.low)) #[] #[]] 192)=W2 at *
   have hBwr:B≤wr.heap.size:=by omega
   have hM2:=ht.1.keep (hbA.mono (by omega)) (fun k _ h2=>hbA.block k h2)
   have hB2:Below B wr W2:=ht.2.trans (hbA.mono (by omega))
   have n3:W2.cell? ⟨wr.heap.size,3,none⟩=some (.int .i64 (e.ho.pl:Nat)):=hA.cell 3
   have n4:W2.cell? ⟨wr.heap.size,4,none⟩=some (.int .i64 (e.ho.w:Nat)):=hA.cell 4
   have n5:W2.cell? ⟨wr.heap.size,5,none⟩=some (.func (.func (putF e.ho.low)) #[] #[]):=hA.cell 5
   obtain ⟨qo,cpo,hbv⟩:=owns_form hM2.out
   have c46:W2.cell? ⟨wb,46,none⟩=some (.slice qo st.out.length cpo):=by have:=hM2.blk.cell 46;rw[hbv] at this;exact this
   have HHA:=hide' hA
   have HM2:=hide' hM2
   have HB2:=hide' hB2
   have hout:st.out.length≤80000000:=by
    have h1:=HLi.out.pot
    unfold pot at h1
    omega
   have HOw:Hid (∀ q,bv2.ownBlock=some q→q<wr.heap.size):=by
    have:∀ q,bv2.ownBlock=some q→q<wr.heap.size:=fun q e=>(HM.out.out.lt q e).2
    exact this
   clear hA hM2 hB2 hbA ht hbv
   refine wp_region_mid 8 _ rfl rfl (by kernel_rfl) (by kernel_rfl) ?_
   simp only[List.take_succ_cons,List.take_zero,List.drop_succ_cons,List.drop_zero]
   repeat still_step
   refine wpStill_nil ?_
   unfold Oper.wp
   go_simp
   have hdr:Below B W2 (W2.drewN 1):=⟨rfl,rfl,rfl,Nat.le_refl _,fun _ _=>rfl⟩
   refine (tell_callsK c B (W2.drewN 1) wb bv2 _ sv2 svs2 hbs2 _ (HM2.out.keep hdr (fun _ _ _=>rfl)) e.ho HTk.out.ho st.out.length (by omega) (by simp only;omega)).mono ?_
   rintro e4 w4 ⟨rfl,hm4,hb4,hk4⟩
   have hblk4:Blk w4 wr.heap.size #[.pointer (some ⟨pb2,0,none⟩),.pointer (some ⟨vb2,0,none⟩),.pointer (some ⟨hb2,0,none⟩),.int .i64 (e.ho.pl:Nat),.int .i64 (e.ho.w:Nat),.func (.func (putF e.ho.low)) #[] #[]] 192:=by
    have h1:=HHA.out
    unfold Blk at *
    rw[hk4 wr.heap.size (by show wr.heap.size<W2.heap.size;omega) (by omega) (fun e=>by have:=HOw.out wr.heap.size e.symm;omega)]
    exact h1
   have m0:w4.cell? ⟨wr.heap.size,0,none⟩=some (.pointer (some ⟨pb2,0,none⟩)):=hblk4.cell 0
   have m1:w4.cell? ⟨wr.heap.size,1,none⟩=some (.pointer (some ⟨vb2,0,none⟩)):=hblk4.cell 1
   have m2:w4.cell? ⟨wr.heap.size,2,none⟩=some (.pointer (some ⟨hb2,0,none⟩)):=hblk4.cell 2
   have hB4:Below B wr w4:=HB2.out.trans (hdr.trans hb4)
   obtain ⟨sc,hsc,hol⟩:=HTk.out.hol
   obtain ⟨r1,r2,r3,r4⟩:=HR.out
   have hval4:NdT (RepY e.n) w4 lo4 hi4 vb2 e.v:=RepY.mono (e.n+1) (x:=e.v) HV.out.1 (fun k _ k2=>hB4.block k (by have:=HV.out.2;omega)) (Nat.le_refl _) (Nat.le_refl _)
   have hsl:(wTake st e ws).sums.length≤100000000:=by
    have h1:=HLi.out.cnt
    show st.sums.length≤_
    omega
   have HCall:=hide' (writePiece_calls c B w4 wb bv2 _ sv2 svs2 hbs2 (wTake st e ws) _ hm4 hsl pb2 (.pointer (some ⟨vb2,0,none⟩)) (.pointer (some ⟨hb2,0,none⟩)) (some e.hid) ⟨hb2,rfl,HHd.out.hid⟩
    (write_all c HC.out HG.out B wb (e.n+1) w4 e.its false ctx true sl f2 lo3 hi3 pb2 lo4 hi4 vb2 e.v (some e.hid) (.pointer (some ⟨hb2,0,none⟩)) _ sc r1 r2 (r3.noOwn hsc) r4 hval4 HV.out.2 HTk.out.has hsc (fun _=>hol) HTk.out.inv HTk.out.bd))
   have HB4:=hide' (hbel.out.trans hB4)
   clear hm4 hb4 hk4 hblk4 hB4 hsc hol r1 r2 r3 r4 hval4 hsl n3 n4 n5 c46
   simp only
   refine wpStill_nil ?_
   go_wp2_with fail
   refine HCall.out.mono ?_
   rintro e5 w5 ⟨rfl,hb5,bv5,tv5,sv5,svs5,more5,hm5⟩
   have hmu1:=HTk.out.mu
   have hmu2:=HMu.out
   obtain ⟨f',rfl⟩:∃ f',fl=f'+1:=⟨fl-1,by omega⟩
   have hW:WLi c B wb (wAll c.G n v) f' w5:=⟨bv5,tv5,sv5,svs5,_,_,hm5,HTk.out.next,by rw[← HRes.out,wRest_cons f' HSt.out];rfl,by show ((wPiece c.G e.n e.its (some e.hid) e.v (wTake st e ws)).wait.map wMu).sum≤f';omega⟩
   have HW:=hide' hW
   have HB5:=hide' (HB4.out.trans hb5)
   clear hm5 hb5 hmu1 hmu2 hW
   go_wp2_with fail
   go_roundw
   case rel=>exact ⟨HB5,(⟨f',HW.out⟩:∃ f,WLi c B wb (wAll c.G n v) f w5)⟩
   case measure=>
    have h1:=(HLf.out w5 f' HW.out).2
    have h2:=HFl.out
    omega
end Go.Proofs.YtmlkhhhjdpbhfaaGreatDoor
namespace Go.Proofs.YtmlkhhhjdpbhfaaGreatDoor
open Go.RowKit Go.Shelf
attribute [local go_sem] Oper.semAt_some
def revFrom (L m:Nat):List Nat:=((List.range L).drop m).reverse
theorem revFrom_succ {L m:Nat}(h:m<L):revFrom L m=revFrom L (m+1)++[m]:=by
 unfold revFrom
 rw[List.drop_eq_getElem_cons (by simpa using h)]
 simp
theorem revFrom_end (L:Nat):revFrom L L=[]:=by unfold revFrom;simp
theorem revFrom_len {L m:Nat}:(revFrom L m).length=L-m:=by unfold revFrom;simp
def Kp2 (g b:Nat)(W W':World):Prop:=W'.heap[g]? = W.heap[g]? ∧ W'.heap[b]? = W.heap[b]?
theorem Kp2.trans {g b:Nat}{W W' W'':World}(h:Kp2 g b W W')(h':Kp2 g b W' W''):Kp2 g b W W'':=⟨h'.1.trans h.1,h'.2.trans h.2⟩
set_option maxRecDepth 100000 in
set_option maxHeartbeats 2000000 in
theorem bwd1_in (F:Fence)(n:Nat)(h7:F.fn 161)(hro:F.round=none)(hn:1≤n)(l bx g L cap:Nat)(sval:Nat→Value)(hL:L≤100000000)(J Jx:List Nat→World→Prop)(hY:∀ pre x W,J pre W→pre.length<L→YieldAt F (n-1) Tryz.prog l #[.int .i64 (x:Nat),sval x] W fun e W'=>
   (e=.returned (.bool true)∧J (pre++[x]) W'∧Kp2 g bx W W')∨(e=.returned (.bool false)∧Jx (pre++[x]) W'))(W:World)(hbx:W.cell? ⟨bx,0,none⟩=some (.slice (some ⟨g,0,none⟩) L cap))(hc:∀ j,j<L→W.cell? ⟨g,j,none⟩=some (sval j))(h0:J [] W):
 CallsIn F n Tryz.prog 161 #[.func (.yield l) #[] #[],.pointer (some ⟨bx,0,none⟩)] W fun e W'=>(∃ v,e=.returned v)∧
  ((∃ ys,ys=revFrom L 0∧J ys W')∨(∃ pre,True∧Jx pre W')):=by
 refine callsIn_of_wp Tryz.func161 rfl h7 ?_ hro
 simp only[Tryz.ntmps161,List.size_toArray,List.length_cons,List.length_nil,Nat.reduceAdd,Nat.reduceSub,Array.replicate_succ,Array.replicate_zero,List.push_toArray,List.append_toArray,List.nil_append,List.cons_append]
 have hw:IntKind.i64.wrap ((L:Int)-1)=(L:Int)-1:=by rw[IntKind.wrap_i64];omega
 gi_wp2
 gi_loopw [3] (fun v wr=>∃ m:Nat,m≤L∧v=.int .i64 ((m:Int)-1)∧J (revFrom L m) wr∧Kp2 g bx W wr) (fun v _=>(intOf v+1).toNat)
 case atStart=>exact ⟨L,Nat.le_refl _,by first | rfl | rw[hw],by rw[revFrom_end];exact h0,rfl,rfl⟩
 case round=>
  obtain ⟨m,hm,rfl,hJs,hk⟩:=hrel
  cases m with
  | zero=>
   gi_wp2
   go_end0
   exact ⟨⟨_,rfl⟩,.inl ⟨_,rfl,hJs⟩⟩
  | succ m=>
   have e1:((m+1:Nat):Int)-1=(m:Nat):=by omega
   rw[e1]
   have hcm:wr.cell? ⟨g,m,none⟩=some (sval m):=(World.cell?_of_block hk.1).trans (hc m (by omega))
   have hcb:wr.cell? ⟨bx,0,none⟩=some (.slice (some ⟨g,0,none⟩) L cap):=(World.cell?_of_block hk.2).trans hbx
   have hlt:(m:Int)<(L:Int):=by omega
   have hw2:IntKind.i64.wrap ((m:Int)-1)=(m:Int)-1:=by rw[IntKind.wrap_i64];omega
   obtain ⟨fn,tmps,assign,body,hy,hR⟩:=hY _ m wr hJs (by rw[revFrom_len];omega)
   generalize sval m=sm at *
   gi_wp2
   refine hR.mono ?_
   rintro e W3 (⟨rfl,hJ3,hk3⟩ | ⟨rfl,hJx3⟩)
   · gi_wp2
     go_roundw
     case rel=>exact ⟨m,by omega,by first | rfl | rw[hw2],by rw[revFrom_succ (by omega)];exact hJ3,hk.trans hk3⟩
     case measure=>simp[intOf]
   · gi_wp2
     refine bodyPost_ret (results_none rfl _ _ _) rfl ?_
     exact ⟨⟨_,rfl⟩,.inr ⟨_,trivial,hJx3⟩⟩
set_option maxHeartbeats 1000000 in
theorem bwd_in (F:Fence)(n:Nat)(h5:F.fn 79)(hro:F.round=none)(a:Option Addr)(len cap:Nat)(w:World):
 CallsIn F n Tryz.prog 79 #[.slice a len cap] w fun e w'=>e=.returned (.func (.func 161) #[] #[.pointer (some ⟨w.heap.size,0,none⟩)])∧w'=w.alloc (.cells #[.slice a len cap] 118):=by
 refine callsIn_of_wp Tryz.func79 rfl h5 ?_ hro
 simp only[Tryz.ntmps79,List.size_toArray,List.length_cons,List.length_nil,Nat.reduceAdd,Nat.reduceSub,Array.replicate_succ,Array.replicate_zero,List.push_toArray,List.append_toArray,List.nil_append,List.cons_append]
 gi_wp2
 go_ret
 exact ⟨rfl,rfl⟩
theorem bwd_stops (F:Fence)(n:Nat)(h7:F.fn 161)(hro:F.round=none)(hn:1≤n)(bx g L cap:Nat)(sval:Nat→Value)(hL:L≤100000000)(w:World)(hbx:bx<w.heap.size)(hg:g<w.heap.size)(hb:w.cell? ⟨bx,0,none⟩=some (.slice (some ⟨g,0,none⟩) L cap))(hc:∀ j,j<L→w.cell? ⟨g,j,none⟩=some (sval j)):
 SeqStopsK F n Tryz.prog 161 #[.pointer (some ⟨bx,0,none⟩)] (fun x:Nat=>#[Value.int .i64 (x:Nat),sval x]) (Kp2 g bx) (fun ys=>ys=revFrom L 0) (fun _=>True) L w:=fun l J Jx W hW _ _ hY h0=>
 bwd1_in F n h7 hro hn l bx g L cap sval hL J Jx hY W ((World.cell?_of_block (hW.block bx hbx)).trans hb) (fun j hj=>(World.cell?_of_block (hW.block g hg)).trans (hc j hj)) h0
end Go.Proofs.YtmlkhhhjdpbhfaaGreatDoor
namespace Go.Proofs.YtmlkhhhjdpbhfaaGreatDoor
open Go.RowKit
def sumL (st:Wr)(i:Nat):List Sp:=(st.sums[i]?).getD []
def sumS (svs:List Value)(i:Nat):Value:=(svs[i]?).getD (.slice none 0 0)
def outAt (st:Wr)(pre:List Nat):List UInt8:=pre.foldl (fun o i=>(sumL st i).foldl putSp o) st.out
theorem outAt_snoc (st:Wr)(pre:List Nat)(x:Nat):outAt st (pre++[x])=(sumL st x).foldl putSp (outAt st pre):=by unfold outAt;rw[List.foldl_append];rfl
theorem sumL_all (st:Wr):(List.range st.sums.length).map (sumL st)=st.sums:=by
 apply List.ext_getElem
 · simp
 · intro i h1 h2
   simp[sumL,h2]
theorem outAt_all (st:Wr):outAt st (revFrom st.sums.length 0)=putSums st:=by
 unfold outAt putSums revFrom
 rw[List.drop_zero]
 conv=>rhs;rw[← sumL_all st,← List.map_reverse,List.foldl_map]
theorem sp_get:∀ (l:List Sp) (k:Nat) (hk:k<l.length) (j:Nat),j<5→(l.flatMap spC)[k*5+j]? = (spC l[k])[j]?
 | [],_,hk,_,_=>by simp at hk
 | s::l,0,_,j,hj=>by
  rw[List.flatMap_cons,Nat.zero_mul,Nat.zero_add,List.getElem?_append_left (by simpa[spC,hoC] using hj)]
  rfl
 | s::l,k+1,hk,j,hj=>by
  have hl:(spC s).length=5:=rfl
  rw[List.flatMap_cons,List.getElem?_append_right (by rw[hl];omega),hl,show (k+1)*5+j-5=k*5+j by omega,sp_get l k (by simpa using hk) j hj]
  rfl
theorem sumL_mem {st:Wr}{x:Nat}{s:Sp}(h:s∈sumL st x):∃ l∈st.sums,s∈l:=by
 unfold sumL at h
 cases hx:st.sums[x]? with
 | none=>rw[hx] at h;simp at h
 | some l=>rw[hx] at h;exact ⟨l,List.mem_of_getElem? hx,h⟩
theorem WrM.sumRow {c:Cx}{B:Nat}{w:World}{wb:Nat}{bv tv sv:Value}{svs:List Value}{hbs:List Nat}{st:Wr}(h:WrM c B w wb bv tv sv svs hbs st)(x:Nat):w.ownsRow B 199 5 (sumS svs x) (sumL st x).length ((sumL st x).flatMap spC):=by
 unfold sumS sumL
 by_cases hx:x<svs.length
 · have hx':x<st.sums.length:=by rw[← h.sumsL];exact hx
   have:=h.sum x svs[x] st.sums[x] (List.getElem?_eq_getElem hx) (List.getElem?_eq_getElem hx')
   rw[List.getElem?_eq_getElem hx,List.getElem?_eq_getElem hx']
   exact this
 · have hx':st.sums.length≤x:=by rw[← h.sumsL];omega
   rw[List.getElem?_eq_none (by omega),List.getElem?_eq_none hx']
   exact World.ownsRow_nil _ _ _ _
theorem putSp_len {o:List UInt8}{s:Sp}(h:SuOk s o.length):(putSp o s).length=o.length:=putAt_length _ _ _ h.2.2.lt
theorem foldSp_len:∀ (l:List Sp) (o:List UInt8) (n:Nat),o.length=n→(∀ s∈l,SuOk s n)→(l.foldl putSp o).length=n
 | [],_,_,h,_=>h
 | s::l,o,n,h,hs=>foldSp_len l (putSp o s) n ((putSp_len (by rw[h];exact hs s List.mem_cons_self)).trans h) fun s' h'=>hs s' (List.mem_cons_of_mem _ h')
theorem outAt_len {st:Wr}(hok:∀ l∈st.sums,∀ s∈l,SuOk s st.out.length):∀ pre,(outAt st pre).length=st.out.length:=by
 have:∀ (pre:List Nat) (o:List UInt8),o.length=st.out.length→(pre.foldl (fun o i=>(sumL st i).foldl putSp o) o).length=st.out.length:=fun pre=>by
  induction pre with
  | nil=>intro o h;exact h
  | cons x pre ih=>
   intro o h
   refine ih _ (foldSp_len _ _ _ h fun s hs=>?_)
   obtain ⟨l,hl,hm⟩:=sumL_mem hs
   exact hok l hl s hm
 exact fun pre=>this pre st.out rfl
theorem putSums_len {st:Wr}(hok:∀ l∈st.sums,∀ s∈l,SuOk s st.out.length):(putSums st).length=st.out.length:=by
 rw[← outAt_all];exact outAt_len hok _
theorem WrM.keepOn {c:Cx}{B:Nat}{w w':World}{wb:Nat}{bv tv sv:Value}{svs:List Value}{hbs:List Nat}{st:Wr}(h:WrM c B w wb bv tv sv svs hbs st)(hb:Below B w w')(hk:∀ b,b∈wb::rst tv sv svs hbs→w'.heap[b]? = w.heap[b]?)(ho:∀ b,bv.ownBlock=some b→w'.heap[b]? = w.heap[b]?):WrM c B w' wb bv tv sv svs hbs st:=by
 have:=WrM.next (bv':=bv) (wide:=st.wide) (out:=st.out) h hb (fun b hm=>hk b (List.mem_cons_of_mem _ hm)) (by have:=h.blk;unfold Blk at *;rw[hk wb List.mem_cons_self];exact this) (ownsRow_blocks h.out ho) h.nb
 exact this
set_option maxRecDepth 100000 in
theorem conv_win {w:World}{B g cap:Nat}{o:List UInt8}(h:w.ownsRow B 5 1 (.slice (some ⟨g,0,none⟩) o.length cap) o.length (byteC o))(a b:Nat)(hab:a≤b)(hb:b≤o.length)(hcap:o.length≤cap)(cp:Nat):
 (convert 40 9 (.slice (if cap=a then some ⟨g,0,none⟩ else some ⟨g,a,none⟩) (b-a) cp)).run Tryz.prog w=.ok (.string ⟨((o.drop a).take (b-a)).toArray⟩) w:=by
 by_cases hc:cap=a
 · have e:b-a=0:=by omega
   rw[if_pos hc,e,List.take_zero]
   exact run_convert_bytes_back w 40 9 5 ⟨g,0,none⟩ cp [] Tryz.underlying40 Tryz.underlying5 Tryz.underlying9 fun j hj=>by simp at hj
 · rw[if_neg hc]
   have hl:((o.drop a).take (b-a)).length=b-a:=by rw[List.length_take,List.length_drop];omega
   have:=run_convert_bytes_back w 40 9 5 ⟨g,a,none⟩ cp ((o.drop a).take (b-a)) Tryz.underlying40 Tryz.underlying5 Tryz.underlying9 fun j hj=>by
    rw[hl] at hj
    have h2:=h.cellAt (a+j) (by omega)
    rw[show Addr.add ⟨g,a,none⟩ j=⟨g,a+j,none⟩ by unfold Addr.add;split<;>simp_all,h2]
    have hj2:a+j<o.length:=by omega
    simp[byteC,hj2]
   rw[hl] at this
   exact this
end Go.Proofs.YtmlkhhhjdpbhfaaGreatDoor
namespace Go.Proofs.YtmlkhhhjdpbhfaaGreatDoor
open Go
def noDefer (o:Oper):Bool:=match o.op with | .defer _=>false | _=>true
theorem oper_in {P:Program}{o:Oper}{a:Act}{w:World}{K K':Act→World→Prop}{Q:Exit→Act→World→Prop}(l n:Nat)(hd:noDefer o=true)(hK:∀ a w,K a w→K' a w)(h:o.wp P a w K Q):
 o.wpIn (Fence.wide.inRound l) n P a w K' Q:=by
 refine ⟨fun _ _=>trivial,?_⟩
 rw[Oper.semAt_plain _ _ _ (fun c e=>by unfold noDefer at hd;rw[e] at hd;cases hd)]
 unfold Oper.wp at h
 generalize (execOp a.eval o).run P w=r at *
 cases r with
 | ok x w'=>
  cases x with
  | value v=>exact hK _ _ h
  | skip=>exact hK _ _ h
  | defer d=>exact hK _ _ h
  | enter f args=>
   refine ⟨fun e=>by simp[Fence.inRound,Fence.wide] at e,?_⟩
   refine CallsIn.inRound l (callsIn_wide.2 ?_)
   refine Calls.mono h ?_
   intro e w2 h2
   cases e with
   | returned v=>exact hK _ _ h2
   | panicked ch=>exact h2
   | outgrown=>exact h2
  | row r args=>
   refine ⟨fun e=>by simp[Fence.inRound,Fence.wide] at e,fun c cs _=>?_⟩
   obtain ⟨v,w2,h1,h2⟩:=h c cs
   exact ⟨v,w2,hK _ _ h1,stepsIn_wide.2 h2⟩
  | _=>exact h.elim
 | halt x w'=>cases x<;>first | exact h | exact h.elim
theorem wpC_anyIn {P:Program}{md:Region.Mode}{ops:Array Oper}{C:World→Prop}{Q:Exit→Act→World→Prop}(l n:Nat)(hd:ops.all noDefer=true):∀ (f:Nat) (listed:Array Bool) (a:Act) (w:World),wpC P md ops C Q f listed a w→wpAnyIn (Fence.wide.inRound l) n P md ops Q f listed a w
 | 0,_,_,_,h=>⟨h.2.1,h.2.2⟩
 | f+1,listed,a,w,h=>by
  refine ⟨h.2.1,fun i hi=>?_⟩
  have h2:=h.2.2 i hi
  unfold opC at h2
  unfold wpOpIn
  cases ho:ops[i]? with
  | none=>rw[ho] at h2;exact wpC_anyIn l n hd f _ a w h2
  | some o=>
   rw[ho] at h2
   simp only at h2 ⊢
   have hm:noDefer o=true:=by
    obtain ⟨hi,e⟩:=Array.getElem?_eq_some_iff.1 ho
    rw[Array.all_eq_true] at hd
    rw[← e]
    exact hd i hi
   split
   · rename_i hw
     rw[if_pos hw] at h2
     exact oper_in l n hm (fun a w h=>wpC_anyIn l n hd f _ a w h) h2
   · rename_i hw
     rw[if_neg hw] at h2
     exact ⟨fun _ _=>trivial,wpC_anyIn l n hd f _ _ w h2⟩
theorem wpIn_region_seg {P:Program}{Q:Exit→Act→World→Prop}{l:List Oper}{id:Nat}{a:Act}{w:World}{r n:Nat}(C:World→Prop)(s:List (List Nat × Nat))(hm:P.follows .mixedOrders=true)(hB:(l.toArray.all noDefer&&(Region.noSelect l.toArray&&decide (segN s=l.length)&&segB .any l.toArray s (Array.replicate l.toArray.size false)))=true)(hQ:∀ ch a d v w,Q (.panic ch) (Act.put a d v) w→Q (.panic ch) a w)(hC:C { w with drawn:=w.drawn+1 })(h:wpSeg P l.toArray C Q s a { w with drawn:=w.drawn+1 }):(Code.region id l.toArray true).wpIn (Fence.wide.inRound r) n P Q a w:=by
 simp only[Bool.and_eq_true,decide_eq_true_eq] at hB
 obtain ⟨hd,⟨hsel,hlen⟩,hs⟩:=hB
 have e:l.toArray.size=segN s:=by simp[hlen]
 refine wpIn_region_any hm (wpC_anyIn (C:=C) r n hd _ _ _ _ ?_)
 have:=seg_wpC (md:=.any) hQ hsel s _ a _ hs hC h
 rw[e]
 rw[e] at this
 exact this
end Go.Proofs.YtmlkhhhjdpbhfaaGreatDoor

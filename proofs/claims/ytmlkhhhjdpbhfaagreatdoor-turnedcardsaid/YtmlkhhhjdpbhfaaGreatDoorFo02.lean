import Derived.Test.YtmlkhhhjdpbhfaaGreatDoorFo01
import Derived.Deep.MidRow
import Derived.Deep.DeepCutAuto
import Derived.KernelRfl
namespace Go.Proofs.YtmlkhhhjdpbhfaaGreatDoor
open Go.RowKit
structure Pt where
 k:Int
 pl:Int
 wd:Int:=0
 dp:Int:=0
 dpl:Int:=0
 vl:Int:=0
 ru:Int:=0
 sl:Bool:=false
 v:Value:=.slice none 0 0
def PtBlk (w:World)(pb:Nat)(p:Pt):Prop:=Blk w pb #[.int .i64 p.k,.int .i64 p.pl,.int .i64 p.wd,.int .i64 p.dp,.int .i64 p.dpl,.int .u8 p.vl,.int .i64 p.ru,.bool p.sl,p.v] 185
structure Same2 (rb pb:Nat) (w w':World):Prop where
 os:w'.os=w.os
 tape:w'.tape=w.tape
 output:w'.output=w.output
 size:w'.heap.size=w.heap.size
 block:∀ k,k≠rb→k≠pb→w'.heap[k]? = w.heap[k]?
theorem Same2.refl (rb pb:Nat)(w:World):Same2 rb pb w w:=⟨rfl,rfl,rfl,rfl,fun _ _ _=>rfl⟩
theorem Same2.trans {rb pb:Nat}{a b c:World}(h:Same2 rb pb a b)(k:Same2 rb pb b c):Same2 rb pb a c:=⟨k.os.trans h.os,k.tape.trans h.tape,k.output.trans h.output,k.size.trans h.size,fun i h1 h2=>(k.block i h1 h2).trans (h.block i h1 h2)⟩
theorem Same.two {rb:Nat}{w w':World}(h:Same rb w w')(pb:Nat):Same2 rb pb w w':=⟨h.os,h.tape,h.output,h.size,fun k h1 _=>h.block k h1⟩
theorem Same2.setCell {rb pb:Nat}{a b:World}(h:Same2 rb pb a b)(j:Nat)(u:Value):Same2 rb pb a (b.setCell ⟨pb,j,none⟩ u):=
 h.trans ⟨rfl,rfl,rfl,by simp[World.setCell],fun k _ hk=>Below.heap_setCell _ _ _ _ hk⟩
theorem Same2.drewN {rb pb:Nat}{a b:World}(h:Same2 rb pb a b)(n:Nat):Same2 rb pb a (b.drewN n):=⟨h.os,h.tape,h.output,h.size,h.block⟩
theorem Rd.other {w:World}{rb:Nat}{s:ByteArray}{i:Nat}(h:Rd w rb s i)(a:Addr)(hne:rb≠a.block)(u:Value):Rd (w.setCell a u) rb s i:=Blk.setOther h a hne u
theorem PtBlk.same {rb:Nat}{w w':World}{pb:Nat}{p:Pt}(h:PtBlk w pb p)(hs:Same rb w w')(hne:pb≠rb):PtBlk w' pb p:=Blk.same h hs hne
theorem PtBlk.wd {w:World}{pb:Nat}{p:Pt}(h:PtBlk w pb p)(x:Int):PtBlk (w.setCell ⟨pb,2,none⟩ (.int .i64 x)) pb { p with wd:=x }:=Blk.set h 2 _
theorem PtBlk.dp {w:World}{pb:Nat}{p:Pt}(h:PtBlk w pb p)(x:Int):PtBlk (w.setCell ⟨pb,3,none⟩ (.int .i64 x)) pb { p with dp:=x }:=Blk.set h 3 _
theorem PtBlk.dpl {w:World}{pb:Nat}{p:Pt}(h:PtBlk w pb p)(x:Int):PtBlk (w.setCell ⟨pb,4,none⟩ (.int .i64 x)) pb { p with dpl:=x }:=Blk.set h 4 _
theorem PtBlk.vl {w:World}{pb:Nat}{p:Pt}(h:PtBlk w pb p)(x:Int):PtBlk (w.setCell ⟨pb,5,none⟩ (.int .u8 x)) pb { p with vl:=x }:=Blk.set h 5 _
theorem PtBlk.ru {w:World}{pb:Nat}{p:Pt}(h:PtBlk w pb p)(x:Int):PtBlk (w.setCell ⟨pb,6,none⟩ (.int .i64 x)) pb { p with ru:=x }:=Blk.set h 6 _
theorem PtBlk.pv {w:World}{pb:Nat}{p:Pt}(h:PtBlk w pb p)(x:Value):PtBlk (w.setCell ⟨pb,8,none⟩ x) pb { p with v:=x }:=Blk.set h 8 _
theorem PtBlk.sl {w:World}{pb:Nat}{p:Pt}(h:PtBlk w pb p)(x:Bool):PtBlk (w.setCell ⟨pb,7,none⟩ (.bool x)) pb { p with sl:=x }:=Blk.set h 7 _
def stepI (b:Bool)(i:Nat):Nat:=cond b (i+1) i
def StepPost (s:ByteArray)(rb pb:Nat)(w:World)(ok:Bool)(i:Nat)(p:Pt)(e:Ending)(w':World):Prop:=
 e=.returned (.bool ok)∧Same2 rb pb w w'∧Rd w' rb s i∧∃ p',PtBlk w' pb p'∧p'.v=p.v∧(ok=true→p'=p)
set_option maxHeartbeats 2000000 in
theorem width_calls (w:World)(rb pb:Nat)(s:ByteArray)(i:Nat)(p:Pt)(hr:Rd w rb s i)(hp:PtBlk w pb p)(hne:pb≠rb)(hs:s.size≤400)(hi:i≤s.size):
 Calls Tryz.prog 194 #[.pointer (some ⟨rb,0,none⟩),.pointer (some ⟨pb,0,none⟩)] w fun e w'=>
  StepPost s rb pb w (takeOk s i 49 52) (stepI (takeOk s i 49 52) i) { p with wd:=bt s i-48 } e w':=by
 have HR:Hid (Rd w rb s i):=hr
 have HP:Hid (PtBlk w pb p):=hp
 clear hr hp
 go_enter Tryz.func194,Tryz.ntmps194
 go_wp2_with fail
 refine (take_calls w rb s i 49 52 HR.out hs hi (by omega)).mono ?_
 rintro e w1 ⟨hsm,⟨h1,rfl,h3⟩ | ⟨h1,rfl,h3⟩⟩
 · have hp1:=HP.out.same hsm hne
   have c2:w1.cell? ⟨pb,2,none⟩=some (.int .i64 p.wd):=hp1.cell 2
   have f2:w1.frozen? ⟨pb,2,none⟩=false:=hp1.frozen 2
   have hb:49≤bt s i∧bt s i≤52:=by unfold takeOk at h1;simpa using h1
   obtain ⟨hb1,hb2⟩:=hb
   have H1:Hid (takeOk s i 49 52=true):=h1
   have HP1:Hid (PtBlk w1 pb p):=hp1
   clear h1 hp1
   simp only
   go_wp2_with fail
   go_ret
   rw[H1.out]
   exact ⟨rfl,(hsm.two pb).setCell _ _,Rd.other h3 _ (Ne.symm hne) _,_,HP1.out.wd _,rfl,fun _=>rfl⟩
 · have hp1:=HP.out.same hsm hne
   have c2:w1.cell? ⟨pb,2,none⟩=some (.int .i64 p.wd):=hp1.cell 2
   have f2:w1.frozen? ⟨pb,2,none⟩=false:=hp1.frozen 2
   have H1:Hid (takeOk s i 49 52=false):=h1
   have HP1:Hid (PtBlk w1 pb p):=hp1
   clear h1 hp1
   simp only
   go_wp2_with fail
   go_ret
   rw[H1.out]
   exact ⟨rfl,(hsm.two pb).setCell _ _,Rd.other h3 _ (Ne.symm hne) _,_,HP1.out.wd _,rfl,fun h=>by cases h⟩
set_option maxHeartbeats 2000000 in
theorem dependency_calls (w:World)(rb pb:Nat)(s:ByteArray)(i:Nat)(p:Pt)(hr:Rd w rb s i)(hp:PtBlk w pb p)(hne:pb≠rb)(hs:s.size≤400)(hi:i≤s.size):
 Calls Tryz.prog 195 #[.pointer (some ⟨rb,0,none⟩),.pointer (some ⟨pb,0,none⟩)] w fun e w'=>
  StepPost s rb pb w (takeOk s i 97 104) (stepI (takeOk s i 97 104) i) { p with dpl:=i,dp:=bt s i-97 } e w':=by
 have c1:w.cell? ⟨rb,1,none⟩=some (.int .i64 i):=hr.cell 1
 have c4:w.cell? ⟨pb,4,none⟩=some (.int .i64 p.dpl):=hp.cell 4
 have f4:w.frozen? ⟨pb,4,none⟩=false:=hp.frozen 4
 have HR:Hid (Rd w rb s i):=hr
 have HP:Hid (PtBlk w pb p):=hp
 clear hr hp
 go_enter Tryz.func195,Tryz.ntmps195
 go_wp2_with fail
 have HR0:Hid (Rd (w.setCell ⟨pb,4,none⟩ (.int .i64 i)) rb s i):=Rd.other HR.out _ (Ne.symm hne) _
 have HP0:Hid (PtBlk (w.setCell ⟨pb,4,none⟩ (.int .i64 i)) pb { p with dpl:=i }):=HP.out.dpl _
 have hs0:Same2 rb pb w (w.setCell ⟨pb,4,none⟩ (.int .i64 i)):=(Same2.refl _ _ _).setCell _ _
 clear c1 c4 f4
 generalize w.setCell ⟨pb,4,none⟩ (.int .i64 i)=w0 at *
 refine (take_calls w0 rb s i 97 104 HR0.out hs hi (by omega)).mono ?_
 rintro e w1 ⟨hsm,⟨h1,rfl,h3⟩ | ⟨h1,rfl,h3⟩⟩
 · have hp1:=HP0.out.same hsm hne
   have c2:w1.cell? ⟨pb,3,none⟩=some (.int .i64 p.dp):=hp1.cell 3
   have f2:w1.frozen? ⟨pb,3,none⟩=false:=hp1.frozen 3
   have hb:97≤bt s i∧bt s i≤104:=by unfold takeOk at h1;simpa using h1
   obtain ⟨hb1,hb2⟩:=hb
   have H1:Hid (takeOk s i 97 104=true):=h1
   have HP1:Hid (PtBlk w1 pb { p with dpl:=i }):=hp1
   clear h1 hp1
   simp only
   go_wp2_with fail
   go_ret
   rw[H1.out]
   exact ⟨rfl,(hs0.trans (hsm.two pb)).setCell _ _,Rd.other h3 _ (Ne.symm hne) _,_,HP1.out.dp _,rfl,fun _=>rfl⟩
 · have hp1:=HP0.out.same hsm hne
   have c2:w1.cell? ⟨pb,3,none⟩=some (.int .i64 p.dp):=hp1.cell 3
   have f2:w1.frozen? ⟨pb,3,none⟩=false:=hp1.frozen 3
   have H1:Hid (takeOk s i 97 104=false):=h1
   have HP1:Hid (PtBlk w1 pb { p with dpl:=i }):=hp1
   clear h1 hp1
   simp only
   go_wp2_with fail
   go_ret
   rw[H1.out]
   exact ⟨rfl,(hs0.trans (hsm.two pb)).setCell _ _,Rd.other h3 _ (Ne.symm hne) _,_,HP1.out.dp _,rfl,fun h=>by cases h⟩
def hexN (s:ByteArray)(i:Nat):Nat:=if hexV (bt s i)<0 then i else i+1
def hexOk (s:ByteArray)(i:Nat):Bool:=decide (0≤hexV (bt s i))
set_option maxHeartbeats 2000000 in
theorem digit_calls (w:World)(rb:Nat)(s:ByteArray)(i:Nat)(hr:Rd w rb s i)(hs:s.size≤400)(hi:i≤s.size):
 Calls Tryz.prog 177 #[.pointer (some ⟨rb,0,none⟩)] w fun e w'=>∃ x:Int,e=.returned (.tuple #[.int .u8 x,.bool (hexOk s i)])∧Same rb w w'∧Rd w' rb s (hexN s i)∧(hexOk s i=true→x=hexV (bt s i)):=by
 have HR:Hid (Rd w rb s i):=hr
 clear hr
 go_enter Tryz.func177,Tryz.ntmps177
 go_wp2_with fail
 refine (take_calls w rb s i 48 57 HR.out hs hi (by omega)).mono ?_
 rintro e w1 ⟨hsm,⟨h1,rfl,h3⟩ | ⟨h1,rfl,h3⟩⟩
 · have hb:48≤bt s i∧bt s i≤57:=by unfold takeOk at h1;simpa using h1
   have H2:Hid (hexV (bt s i)=bt s i-48):=by
    have:hexV (bt s i)=bt s i-48:=by unfold hexV;rw[if_pos hb]
    exact this
   obtain ⟨hb1,hb2⟩:=hb
   clear h1
   simp only
   go_wp2_with fail
   go_ret2
   have e1:hexOk s i=true:=by unfold hexOk;rw[H2.out];simp;omega
   have e2:hexN s i=i+1:=by unfold hexN;rw[H2.out,if_neg (by omega)]
   rw[e1,e2]
   exact ⟨_,rfl,hsm,h3,fun _=>H2.out.symm⟩
 · have hb:¬ (48≤bt s i∧bt s i≤57):=by unfold takeOk at h1;simpa using h1
   have Hb:Hid (¬ (48≤bt s i∧bt s i≤57)):=hb
   clear h1 hb
   simp only
   go_wp2_with fail
   refine (take_calls w1 rb s i 97 102 h3 hs hi (by omega)).mono ?_
   rintro e w2 ⟨hsm2,⟨h4,rfl,h6⟩ | ⟨h4,rfl,h6⟩⟩
   · have hb2:97≤bt s i∧bt s i≤102:=by unfold takeOk at h4;simpa using h4
     have H2:Hid (hexV (bt s i)=bt s i-97+10):=by
      have:hexV (bt s i)=bt s i-97+10:=by unfold hexV;rw[if_neg Hb.out,if_pos hb2];omega
      exact this
     obtain ⟨hc1,hc2⟩:=hb2
     clear h4
     simp only
     go_wp2_with fail
     go_ret2
     have e1:hexOk s i=true:=by unfold hexOk;rw[H2.out];simp;omega
     have e2:hexN s i=i+1:=by unfold hexN;rw[H2.out,if_neg (by omega)]
     rw[e1,e2]
     exact ⟨_,rfl,hsm.trans hsm2,h6,fun _=>H2.out.symm⟩
   · have hb2:¬ (97≤bt s i∧bt s i≤102):=by unfold takeOk at h4;simpa using h4
     have H2:Hid (hexV (bt s i) = -1):=by
      have:hexV (bt s i) = -1:=by unfold hexV;rw[if_neg Hb.out,if_neg hb2]
      exact this
     clear h4 hb2
     simp only
     go_wp2_with fail
     go_ret2
     have e1:hexOk s i=false:=by unfold hexOk;rw[H2.out];rfl
     have e2:hexN s i=i:=by unfold hexN;rw[H2.out,if_pos (by omega)]
     rw[e1,e2]
     exact ⟨_,rfl,hsm.trans hsm2,h6,fun h=>by cases h⟩
theorem hexOk_lt (s:ByteArray)(i:Nat)(h:hexOk s i=true):i<s.size∧hexN s i=i+1:=by
 have h0:0≤hexV (bt s i):=by unfold hexOk at h;simpa using h
 refine ⟨bt_pos_lt s i ?_,by unfold hexN;rw[if_neg (by omega)]⟩
 have:=hexV_bd (bt s i)
 unfold hexV at h0
 split at h0<;>(try split at h0)<;>omega
theorem hexOk_no (s:ByteArray)(i:Nat)(h:hexOk s i=false):hexN s i=i:=by
 have h0:¬ 0≤hexV (bt s i):=by unfold hexOk at h;simpa using h
 unfold hexN;rw[if_pos (by omega)]
def valOk (s:ByteArray)(i:Nat):Bool:=hexOk s i&&hexOk s (i+1)
def valN (s:ByteArray)(i:Nat):Nat:=cond (hexOk s i) (hexN s (i+1)) i
set_option maxHeartbeats 2000000 in
theorem twoDigits_calls (w:World)(rb:Nat)(s:ByteArray)(i:Nat)(hr:Rd w rb s i)(hs:s.size≤400)(hi:i≤s.size):
 Calls Tryz.prog 119 #[.pointer (some ⟨rb,0,none⟩)] w fun e w'=>∃ x:Int,e=.returned (.tuple #[.int .u8 x,.bool (valOk s i)])∧Same rb w w'∧Rd w' rb s (valN s i)∧(valOk s i=true→x=hexV (bt s i)*16+hexV (bt s (i+1))):=by
 have HR:Hid (Rd w rb s i):=hr
 clear hr
 go_enter Tryz.func119,Tryz.ntmps119
 go_wp2_with fail
 refine (digit_calls w rb s i HR.out hs hi).mono ?_
 rintro e w1 ⟨x,rfl,hsm,h3,hx⟩
 cases hok:hexOk s i
 · have H1:Hid (hexOk s i=false):=hok
   rw[hexOk_no s i hok] at h3
   clear hok hx
   simp only
   go_wp2_with fail
   go_ret2
   have e1:valOk s i=false:=by unfold valOk;rw[H1.out];rfl
   have e2:valN s i=i:=by unfold valN;rw[H1.out];rfl
   rw[e1,e2]
   exact ⟨_,rfl,hsm,h3,fun h=>by cases h⟩
 · have H1:Hid (hexOk s i=true):=hok
   obtain ⟨hlt,hn⟩:=hexOk_lt s i hok
   rw[hn] at h3
   have hx:=hx hok
   have Hx:Hid (x=hexV (bt s i)):=hx
   have hbx:=hexV_bd (bt s i)
   have hx0:0≤x∧x≤15:=by
    have:0≤hexV (bt s i):=by unfold hexOk at hok;simpa using hok
    omega
   obtain ⟨hxl,hxh⟩:=hx0
   clear hok hx hn hbx
   simp only
   go_wp2_with fail
   refine (digit_calls w1 rb s (i+1) h3 hs (by omega)).mono ?_
   rintro e w2 ⟨y,rfl,hsm2,h5,hy⟩
   have hval:Hid (valN s i=hexN s (i+1)∧valOk s i=hexOk s (i+1)):=by
    refine ⟨?_,?_⟩
    · unfold valN;rw[H1.out];rfl
    · unfold valOk;rw[H1.out];rfl
   cases hok2:hexOk s (i+1)
   · have H2:Hid (hexOk s (i+1)=false):=hok2
     clear hy hok2
     simp only
     go_wp2_with fail
     go_ret2
     rw[hval.out.1,hval.out.2,H2.out]
     exact ⟨_,rfl,hsm.trans hsm2,h5,fun h=>by cases h⟩
   · have H2:Hid (hexOk s (i+1)=true):=hok2
     have hy:=hy hok2
     have Hy:Hid (y=hexV (bt s (i+1))):=hy
     have hby:=hexV_bd (bt s (i+1))
     have hy0:0≤y∧y≤15:=by
      have:0≤hexV (bt s (i+1)):=by unfold hexOk at hok2;simpa using hok2
      omega
     obtain ⟨hyl,hyh⟩:=hy0
     clear hok2 hy hby
     simp only
     go_wp2_with fail
     go_ret2
     rw[hval.out.1,hval.out.2,H2.out]
     refine ⟨_,rfl,hsm.trans hsm2,h5,fun _=>?_⟩
     rw[Hx.out,Hy.out]
set_option maxHeartbeats 2000000 in
theorem value_calls (w:World)(rb pb:Nat)(s:ByteArray)(i:Nat)(p:Pt)(hr:Rd w rb s i)(hp:PtBlk w pb p)(hne:pb≠rb)(hs:s.size≤400)(hi:i≤s.size):
 Calls Tryz.prog 196 #[.pointer (some ⟨rb,0,none⟩),.pointer (some ⟨pb,0,none⟩)] w fun e w'=>
  StepPost s rb pb w (valOk s i) (valN s i) { p with vl:=hexV (bt s i)*16+hexV (bt s (i+1)) } e w':=by
 have HR:Hid (Rd w rb s i):=hr
 have HP:Hid (PtBlk w pb p):=hp
 clear hr hp
 go_enter Tryz.func196,Tryz.ntmps196
 go_wp2_with fail
 refine (twoDigits_calls w rb s i HR.out hs hi).mono ?_
 rintro e w1 ⟨x,rfl,hsm,h3,hx⟩
 have hp2:=HP.out.same hsm hne
 have c5:w1.cell? ⟨pb,5,none⟩=some (.int .u8 p.vl):=hp2.cell 5
 have f5:w1.frozen? ⟨pb,5,none⟩=false:=hp2.frozen 5
 have HP2:Hid (PtBlk w1 pb p):=hp2
 have HX:Hid (valOk s i=true→x=hexV (bt s i)*16+hexV (bt s (i+1))):=hx
 clear hp2 hx
 simp only
 go_wp2_with fail
 go_ret
 refine ⟨rfl,(hsm.two pb).setCell _ _,Rd.other h3 _ (Ne.symm hne) _,_,HP2.out.vl _,rfl,fun h=>?_⟩
 rw[HX.out h]
structure Sh where
 a:Int:=0
 b:Int:=0
 w:Bool:=false
 d:Bool:=false
 v:Bool:=false
 n:Int:=0
def shapesL:List Sh:=[⟨110,110,true,false,false,0⟩,⟨108,108,true,false,false,0⟩,⟨39,39,false,false,true,0⟩,⟨40,40,false,false,false,-1⟩,⟨47,47,false,false,false,2⟩,⟨42,42,false,false,false,1⟩,
 ⟨65,72,false,false,false,0⟩,⟨104,104,true,true,false,0⟩,⟨107,107,true,true,false,0⟩,⟨114,114,false,true,false,0⟩,⟨116,116,false,true,false,1⟩,⟨119,119,false,true,false,1⟩,⟨64,64,false,true,false,1⟩,
 ⟨115,115,false,true,false,1⟩,⟨46,46,false,false,false,0⟩]
def sh (j:Nat):Sh:=shapesL.getD j {}
def Sh.row (x:Sh):Array Value:=#[.int .u8 x.a,.int .u8 x.b,.bool x.w,.bool x.d,.bool x.v,.int .i64 x.n]
def shpL:List Value:=shapesL.flatMap fun x=>x.row.toList
def Shp (w:World):Prop:=w.rangeAt 0 0 shpL∧0<w.heap.size
def kindV (c:Int):Nat:=shapesL.findIdx fun x=>decide (x.a≤c)&&decide (c≤x.b)
set_option maxRecDepth 100000 in
theorem idx_shp (j:Nat)(hj:j<15)(w:World):(Instr.index 253 (.agg shpL.toArray) (.int .i64 j)).run Tryz.prog w=.ok (.agg (sh j).row) w:=by
 have h15:j=0∨j=1∨j=2∨j=3∨j=4∨j=5∨j=6∨j=7∨j=8∨j=9∨j=10∨j=11∨j=12∨j=13∨j=14:=by omega
 rcases h15 with rfl | rfl | rfl | rfl | rfl | rfl | rfl | rfl | rfl | rfl | rfl | rfl | rfl | rfl | rfl<;>rfl
theorem wpList_index_shp {ops:Array Oper}{rest:List Oper}{op:Oper}{a:Act}{w:World}{Q:Exit→Act→World→Prop}(hgd:op.guard=none)(x y:Operand)(ho:op.op=.index 253 x y)(j:Nat)(hj:j<15)(hx:a.eval x=.agg shpL.toArray)(hy:a.eval y=.int .i64 j)(h:wpList Tryz.prog ops Q rest (a.put op.dst (.agg (sh j).row)) w):wpList Tryz.prog ops Q (op::rest) a w:=
 wpList_plain hgd fun _ hK=>by
  unfold Oper.wp execOp
  simp only[ho,hx,hy,idx_shp j hj,Sem.run_bind,Sem.run_pure,Result.andThen_ok]
  exact hK _ _ h
theorem kindV_at (c:Int)(j:Nat)(hj:j<15)(h:(decide ((sh j).a≤c)&&decide (c≤(sh j).b))=true)(hn:∀ i,i<j→(decide ((sh i).a≤c)&&decide (c≤(sh i).b))=false):kindV c=j:=by
 have hl:shapesL.length=15:=rfl
 unfold kindV
 rw[List.findIdx_eq (by omega)]
 refine ⟨?_,fun i hi=>?_⟩
 · have:=h;simp only[sh,getD_lt _ _ _ (show j<shapesL.length by omega)] at this;exact this
 · have:=hn i hi;simp only[sh,getD_lt _ _ _ (show i<shapesL.length by omega)] at this;exact this
theorem kindV_none (c:Int)(hn:∀ i,i<15→(decide ((sh i).a≤c)&&decide (c≤(sh i).b))=false):kindV c=15:=by
 have hl:shapesL.length=15:=rfl
 unfold kindV
 rw[show (15:Nat)=shapesL.length from rfl,List.findIdx_eq_length]
 intro x hx
 obtain ⟨i,hi,rfl⟩:=List.getElem_of_mem hx
 have:=hn i (by omega)
 simp only[sh,getD_lt _ _ _ hi] at this
 exact this
def kindK (c:Int):Int:=if kindV c<15 then (kindV c:Int) else 0
def kindB (c:Int):Bool:=decide (kindV c<15)
theorem snocAllK {p:Nat→Bool}{k:Nat}(h:∀ j,j<k→p j=false)(e:p k=false):∀ j,j<k+1→p j=false:=by
 intro j hj
 by_cases hjk:j=k
 · rw[hjk];exact e
 · exact h j (by omega)
set_option maxRecDepth 100000 in
set_option maxHeartbeats 4000000 in
theorem kindOf_calls (w:World)(c:Int)(hS:Shp w):
 Calls Tryz.prog 171 #[.int .u8 c] w fun e w'=>e=.returned (.tuple #[.int .i64 (kindK c),.bool (kindB c)])∧Below w.heap.size w w':=by
 have HS:Hid (w.rangeAt 0 0 shpL):=hS.1
 clear hS
 go_enter Tryz.func171,Tryz.ntmps171
 go_wp2_with (refine wpList_load_mid rfl 253 _ rfl 0 0 rfl shpL (.array 15 252) HS.out Tryz.underlying253 rfl (by kernel_rfl) ?_)
 generalize hA:shpL.toArray=A at *
 have HA:Hid (shpL.toArray=A):=hA
 clear hA
 go_loopw [7] (fun v7 wr=>∃ j:Nat,v7=.int .i64 j∧j≤15∧Hid (Below w.heap.size w wr)∧Hid (∀ i,i<j→(decide ((sh i).a≤c)&&decide (c≤(sh i).b))=false)) (fun v7 _=>15-(intOf v7).toNat)
 case atStart=>exact ⟨0,rfl,by omega,Below.refl _ _,fun i hi=>by omega⟩
 case round=>
  obtain ⟨j,rfl,hj,hbel,hno⟩:=hrel
  have hsz:=hbel.out.size
  have HB2:Hid (∀ o,Below w.heap.size w (wr.alloc o)):=fun o=>hbel.out.alloc hsz o
  by_cases hlt:j<15
  · have hj15:(j:Int)<15:=by omega
    cases hm:(decide ((sh j).a≤c)&&decide (c≤(sh j).b))
    · have HN:Hid (∀ i,i<j+1→(decide ((sh i).a≤c)&&decide (c≤(sh i).b))=false):=snocAllK hno.out hm
      have hor:¬ (sh j).a≤c∨((sh j).a≤c∧¬ c≤(sh j).b):=by
       by_cases h:(sh j).a≤c
       · refine Or.inr ⟨h,fun h2=>?_⟩
         rw[decide_eq_true h,decide_eq_true h2] at hm
         cases hm
       · exact Or.inl h
      clear hm hno
      rcases hor with h | ⟨h,h'⟩
      all_goals
       go_wp2_with (refine wpList_index_shp rfl _ _ rfl j hlt (by rw[HA.out];rfl) rfl ?_;simp only[Sh.row])
       go_roundw
       case rel=>exact ⟨j+1,by go_num,by omega,HB2.out _,HN⟩
       case measure=>simp[intOf];omega
    · have HK:Hid (kindV c=j):=kindV_at c j hlt hm hno.out
      have hand:(sh j).a≤c∧c≤(sh j).b:=by simpa using hm
      obtain ⟨h,h'⟩:=hand
      clear hm hno
      go_wp2_with (refine wpList_index_shp rfl _ _ rfl j hlt (by rw[HA.out];rfl) rfl ?_;simp only[Sh.row])
      go_ret2
      have e1:kindK c=j:=by unfold kindK;rw[HK.out,if_pos hlt]
      have e2:kindB c=true:=by unfold kindB;rw[HK.out];simpa using hlt
      rw[e1,e2]
      exact ⟨rfl,HB2.out _⟩
  · have HK:Hid (kindV c=15):=kindV_none c (by have:=hno.out;rwa [show j=15 by omega] at this)
    clear hno
    go_wp2_with fail
    go_ret2
    have e1:kindK c=0:=by unfold kindK;rw[HK.out];rfl
    have e2:kindB c=false:=by unfold kindB;rw[HK.out];rfl
    rw[e1,e2]
    exact ⟨rfl,hbel.out⟩
def kOf (c:Int):Int:=if c=82 then 6 else kindV c
structure ItPt (x:It) (p:Pt):Prop where
 k:p.k=kOf x.c
 wd:p.wd=x.w
 vl:p.vl=x.b
 ru:x.c=82→p.pl=x.pl∧p.ru=x.r
 dp:kD x.c=true→p.dp=x.d∧p.dpl=x.pl
def ptrsL (l:List Nat):List Value:=l.map fun q=>.pointer (some ⟨q,0,none⟩)
def PtrsAt (w:World)(lo hi:Nat)(v:Value)(l:List Nat):Prop:=
 (v=.slice none 0 0∧l=[])∨∃ g cap,v=.slice (some ⟨g,0,none⟩) l.length cap∧lo≤g∧g<hi∧l.length≤cap∧∀ j,j<l.length→w.cell? ⟨g,j,none⟩=some (.pointer (some ⟨l.getD j 0,0,none⟩))
def RepT:Nat→World→Nat→Nat→Nat→List It→Prop
 | 0,_,_,_,_,_=>False
 | f+1,w,lo,hi,pb,seg=>∃ (x:It) (kids:List (Nat × List It)) (p:Pt),seg=x::kids.flatMap Prod.snd∧x.nx=1+((kids.flatMap Prod.snd).length:Int)∧lo≤pb∧pb<hi∧PtBlk w pb p∧ItPt x p∧
  PtrsAt w lo hi p.v (kids.map Prod.fst)∧∀ q,q∈kids→RepT f w lo hi q.1 q.2
theorem PtrsAt.mono {w w':World}{lo hi lo' hi':Nat}{v:Value}{l:List Nat}(h:PtrsAt w lo hi v l)(hw:∀ k,lo≤k→k<hi→w'.heap[k]? = w.heap[k]?)(h1:lo'≤lo)(h2:hi≤hi'):PtrsAt w' lo' hi' v l:=by
 rcases h with h | ⟨g,cap,hv,a,b,c,d⟩
 · exact Or.inl h
 · exact Or.inr ⟨g,cap,hv,by omega,by omega,c,fun j hj=>by rw[World.cell?_of_block (w:=w) (hw g a b)];exact d j hj⟩
theorem RepT.mono {f:Nat}:∀ {w w':World} {lo hi lo' hi' pb:Nat} {seg:List It},RepT f w lo hi pb seg→(∀ k,lo≤k→k<hi→w'.heap[k]? = w.heap[k]?)→lo'≤lo→hi≤hi'→RepT f w' lo' hi' pb seg:=by
 induction f with
 | zero=>intro w w' lo hi lo' hi' pb seg h;exact h.elim
 | succ f ih=>
  intro w w' lo hi lo' hi' pb seg h hw h1 h2
  obtain ⟨x,kids,p,e1,e2,a,b,c,d,e,k⟩:=h
  refine ⟨x,kids,p,e1,e2,by omega,by omega,?_,d,e.mono hw h1 h2,fun q hq=>ih (k q hq) hw h1 h2⟩
  unfold PtBlk Blk at *
  rw[hw pb a b];exact c
theorem RepT.fuel {f:Nat}:∀ {w:World} {lo hi pb:Nat} {seg:List It},RepT f w lo hi pb seg→RepT (f+1) w lo hi pb seg:=by
 induction f with
 | zero=>intro w lo hi pb seg h;exact h.elim
 | succ f ih=>
  intro w lo hi pb seg h
  obtain ⟨x,kids,p,e1,e2,a,b,c,d,e,k⟩:=h
  exact ⟨x,kids,p,e1,e2,a,b,c,d,e,fun q hq=>ih (k q hq)⟩
theorem kindV_in (c:Int)(j:Nat)(h:kindV c=j)(hj:j<15):(sh j).a≤c∧c≤(sh j).b:=by
 have hl:shapesL.length=15:=rfl
 unfold kindV at h
 have h2:=List.findIdx_getElem (xs:=shapesL) (p:=fun x=>decide (x.a≤c)&&decide (c≤x.b)) (w:=by omega)
 simp only[h] at h2
 simp only[Bool.and_eq_true,decide_eq_true_eq] at h2
 unfold sh
 rw[getD_lt _ _ _ (by omega)]
 exact h2
def silB (c:Int):Bool:=decide (c=39)||decide (c=104)||decide (c=107)
def RepS:Nat→World→Nat→Nat→Nat→Bool→List It→Prop
 | 0,_,_,_,_,_,_=>False
 | f+1,w,lo,hi,pb,sl,seg=>∃ (x:It) (kids:List (Nat × List It)) (p:Pt),seg=x::kids.flatMap Prod.snd∧x.nx=1+((kids.flatMap Prod.snd).length:Int)∧lo≤pb∧pb<hi∧PtBlk w pb p∧ItPt x p∧p.sl=(sl&&silB x.c)∧
  PtrsAt w (pb+1) hi p.v (kids.map Prod.fst)∧∀ q,q∈kids→RepS f w (pb+1) hi q.1 (decide (x.c=40)) q.2
theorem RepS.mono {f:Nat}:∀ {w w':World} {lo hi lo' hi' pb:Nat} {sl:Bool} {seg:List It},RepS f w lo hi pb sl seg→(∀ k,lo≤k→k<hi→w'.heap[k]? = w.heap[k]?)→lo'≤lo→hi≤hi'→RepS f w' lo' hi' pb sl seg:=by
 induction f with
 | zero=>intro w w' lo hi lo' hi' pb sl seg h;exact h.elim
 | succ f ih=>
  intro w w' lo hi lo' hi' pb sl seg h hw h1 h2
  obtain ⟨x,kids,p,e1,e2,a,b,c,d,s,e,k⟩:=h
  refine ⟨x,kids,p,e1,e2,by omega,by omega,?_,d,s,e.mono (fun k k1 k2=>hw k (by omega) k2) (Nat.le_refl _) h2,fun q hq=>ih (k q hq) (fun k k1 k2=>hw k (by omega) k2) (Nat.le_refl _) h2⟩
  unfold PtBlk Blk at *
  rw[hw pb a b];exact c
theorem RepS.toT {f:Nat}:∀ {w:World} {lo hi pb:Nat} {sl:Bool} {seg:List It},RepS f w lo hi pb sl seg→RepT f w lo hi pb seg:=by
 induction f with
 | zero=>intro w lo hi pb sl seg h;exact h.elim
 | succ f ih=>
  intro w lo hi pb sl seg h
  obtain ⟨x,kids,p,e1,e2,a,b,c,d,_,e,k⟩:=h
  exact ⟨x,kids,p,e1,e2,a,b,c,d,e.mono (fun _ _ _=>rfl) (by omega) (Nat.le_refl _),fun q hq=>(ih (k q hq)).mono (fun _ _ _=>rfl) (by omega) (Nat.le_refl _)⟩
theorem RepS.head {f:Nat}{w:World}{lo hi pb:Nat}{sl:Bool}{seg:List It}(h:RepS f w lo hi pb sl seg):∃ x rest p,seg=x::rest∧PtBlk w pb p∧p.k=kOf x.c∧lo≤pb∧pb<hi:=by
 cases f with
 | zero=>exact h.elim
 | succ f=>
  obtain ⟨x,kids,p,e1,e2,a,b,c,d,_⟩:=h
  exact ⟨x,_,p,e1,c,d.k,a,b⟩
theorem RepS.tell {f:Nat}{w:World}{lo hi pb:Nat}{x:It}{rest:List It}(h:RepS f w lo hi pb false (x::rest)):RepS f (w.setCell ⟨pb,7,none⟩ (.bool (silB x.c))) lo hi pb true (x::rest):=by
 cases f with
 | zero=>exact h.elim
 | succ f=>
  obtain ⟨x',kids,p,e1,e2,a,b,c,d,_,e,k⟩:=h
  cases e1
  have hk:∀ k,pb+1≤k→k<hi→(w.setCell ⟨pb,7,none⟩ (.bool (silB x.c))).heap[k]? = w.heap[k]? := fun k k1 _=>Below.heap_setCell _ _ _ _ (by simp;omega)
  refine ⟨x,kids,{ p with sl:=silB x.c },rfl,e2,a,b,c.sl _,⟨d.k,d.wd,d.vl,d.ru,d.dp⟩,by simp,e.mono hk (Nat.le_refl _) (Nat.le_refl _),fun q hq=>(k q hq).mono hk (Nat.le_refl _) (Nat.le_refl _)⟩
def KidsOk (f:Nat)(w:World)(pb B:Nat)(sl:Bool)(v:Value)(kids:List (Nat × List It)):Prop:=
 ∀ q,q∈kids→∃ lo hi,pb<lo∧hi≤B∧(∀ g,v.ownBlock=some g→g<lo∨hi≤g)∧RepS f w lo hi q.1 sl q.2
structure Mk (f:Nat) (w:World) (pb:Nat) (sl:Bool) (p:Pt) (kids:List (Nat × List It)):Prop where
 blk:PtBlk w pb p
 row:w.ownsRow (pb+1) 121 1 p.v kids.length (ptrsL (kids.map Prod.fst))
 ok:KidsOk f w pb w.heap.size sl p.v kids
structure MkN (f:Nat) (w:World) (pb:Nat) (sl:Bool) (p:Pt) (kids:List (Nat × List It)) (q:Nat × List It):Prop where
 blk:PtBlk w pb p
 row:w.ownsRow (pb+1) 121 1 p.v (kids++[q]).length (ptrsL ((kids++[q]).map Prod.fst))
 ok:∃ B,pb<B∧KidsOk f w pb B sl p.v kids∧∃ hi,hi≤w.heap.size∧(∀ g,p.v.ownBlock=some g→g<B∨hi≤g)∧RepS f w B hi q.1 false q.2
theorem KidsOk.bound {f:Nat}{w:World}{pb B B':Nat}{sl:Bool}{v:Value}{kids:List (Nat × List It)}(h:KidsOk f w pb B sl v kids)(hB:B≤B'):KidsOk f w pb B' sl v kids:=by
 intro q hq
 obtain ⟨lo,hi,a,b,c,d⟩:=h q hq
 exact ⟨lo,hi,a,by omega,c,d⟩
theorem MkN.lt {f:Nat}{w:World}{pb:Nat}{sl:Bool}{p:Pt}{kids:List (Nat × List It)}{q:Nat × List It}(h:MkN f w pb sl p kids q):pb<q.1∧q.1<w.heap.size:=by
 obtain ⟨B,hB,_,hi,h1,_,h2⟩:=h.ok
 obtain ⟨x,rest,p',e,b,k,l1,l2⟩:=h2.head
 exact ⟨by omega,by omega⟩
theorem MkN.all {f:Nat}{w:World}{pb:Nat}{p:Pt}{kids:List (Nat × List It)}{q:Nat × List It}(h:MkN f w pb false p kids q):Mk f w pb false p (kids++[q]):=by
 obtain ⟨B,hB,hk,hi,h1,h2,h3⟩:=h.ok
 refine ⟨h.blk,h.row,fun z hz=>?_⟩
 rcases List.mem_append.1 hz with hz | hz
 · exact hk.bound (by obtain ⟨x,rest,p',e,b,k,l1,l2⟩:=h3.head;omega) z hz
 · simp at hz
   subst hz
   exact ⟨B,hi,hB,h1,h2,h3⟩
theorem MkN.tell {f:Nat}{w:World}{pb:Nat}{p:Pt}{kids:List (Nat × List It)}{q:Nat}{x:It}{rest:List It}(h:MkN f w pb true p kids (q,x::rest)):Mk f (w.setCell ⟨q,7,none⟩ (.bool (silB x.c))) pb true p (kids++[(q,x::rest)]):=by
 obtain ⟨B,hB,hk,hi,h1,h2,h3⟩:=h.ok
 obtain ⟨x',rest',p',e,b,k,l1,l2⟩:=h3.head
 simp only at l1 l2
 have hsz:(w.setCell ⟨q,7,none⟩ (.bool (silB x.c))).heap.size=w.heap.size:=by simp[World.setCell]
 have keep:∀ k,k≠q→(w.setCell ⟨q,7,none⟩ (.bool (silB x.c))).heap[k]? = w.heap[k]? := fun k hk=>Below.heap_setCell _ _ _ _ hk
 refine ⟨?_,?_,fun z hz=>?_⟩
 · have:=h.blk
   unfold PtBlk Blk at *
   rw[keep pb (by omega)];exact this
 · refine h.row.kept (row:=some q) ⟨rfl,rfl,rfl,by rw[hsz];exact Nat.le_refl _,fun k _ hne=>keep k (by intro e;exact hne (by rw[e]))⟩ ?_
   cases hv:p.v.ownBlock with
   | none=>exact Or.inl rfl
   | some g=>exact Or.inr (by have:=h2 g hv;intro e;cases e;omega)
 · rw[hsz]
   rcases List.mem_append.1 hz with hz | hz
   · obtain ⟨lo,hi',a,b,c,d⟩:=hk z hz
     exact ⟨lo,hi',a,by omega,c,d.mono (fun k k1 k2=>keep k (by omega)) (Nat.le_refl _) (Nat.le_refl _)⟩
   · simp at hz
     subst hz
     exact ⟨B,hi,hB,h1,h2,h3.tell⟩
theorem ptrs_of_own {w:World}{B:Nat}{v:Value}{l:List Nat}{lo hi:Nat}(h:w.ownsRow B 121 1 v l.length (ptrsL l))(h1:lo≤B)(h2:w.heap.size≤hi):PtrsAt w lo hi v l:=by
 rcases h.2 with ⟨rfl,h0⟩ | ⟨g,cap,cur,rfl,hb,hg,hn,hm,hs,ht⟩
 · exact Or.inl ⟨rfl,List.eq_nil_of_length_eq_zero h0⟩
 · refine Or.inr ⟨g,cap,rfl,by omega,by have:=(Array.getElem?_eq_some_iff.1 hg).1;omega,hn,fun j hj=>?_⟩
   rw[h.cellAt j (by omega)]
   simp[ptrsL,hj]
theorem Mk.rep {f:Nat}{w:World}{pb:Nat}{sl:Bool}{p:Pt}{kids:List (Nat × List It)}(h:Mk f w pb sl p kids){x:It}(hx:ItPt x p)(hps:p.sl=false)(hsl:kids=[]∨sl=decide (x.c=40))(hn:x.nx=1+((kids.flatMap Prod.snd).length:Int)){lo:Nat}(hl:lo≤pb):RepS (f+1) w lo w.heap.size pb false (x::kids.flatMap Prod.snd):=by
 refine ⟨x,kids,p,rfl,hn,hl,h.blk.lt,h.blk,hx,by simpa using hps,ptrs_of_own (by simpa using h.row) (Nat.le_refl _) (Nat.le_refl _),fun q hq=>?_⟩
 obtain ⟨lo',hi',a,b,_,c⟩:=h.ok q hq
 rcases hsl with hsl | hsl
 · rw[hsl] at hq;simp at hq
 · rw[← hsl]
   exact c.mono (fun _ _ _=>rfl) (by omega) b
theorem Mk.fr {f:Nat}{w w':World}{pb rb:Nat}{sl:Bool}{p:Pt}{kids:List (Nat × List It)}(h:Mk f w pb sl p kids)(hf:Fr w.heap.size rb w w')(hr:rb<pb):Mk f w' pb sl p kids:=by
 have hlt:=h.blk.lt
 refine ⟨?_,?_,?_⟩
 · have:=h.blk
   unfold PtBlk Blk at *
   rw[hf.block pb (by omega) (by omega)];exact this
 · refine h.row.kept (row:=some rb) ⟨hf.os,hf.tape,hf.output,hf.size,fun k hk hne=>hf.block k hk (by intro e;exact hne (by rw[e]))⟩ ?_
   cases hv:p.v.ownBlock with
   | none=>exact Or.inl rfl
   | some g=>exact Or.inr (by have:=(h.row.lt g hv).1;intro e;cases e;omega)
 · intro q hq
   obtain ⟨lo,hi,a,b,c,d⟩:=h.ok q hq
   exact ⟨lo,hi,a,by have:=hf.size;omega,c,d.mono (fun k h1 h2=>hf.block k (by omega) (by omega)) (Nat.le_refl _) (Nat.le_refl _)⟩
end Go.Proofs.YtmlkhhhjdpbhfaaGreatDoor

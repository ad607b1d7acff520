import Derived.Test.YtmlkhhhjdpbhfaaGreatDoorProg
import Derived.Test.YtmlkhhhjdpbhfaaGreatDoorFo33
import Derived.Test.YtmlkhhhjdpbhfaaGreatDoorFo01
import Derived.WalkLawsBesides
import Derived.Test.YtmlkhhhjdpbhfaaGreatDoorFo19
import Derived.Lib.AppendZeros
import Derived.Lib.AppendStr
namespace Go.Proofs.YtmlkhhhjdpbhfaaGreatDoor
open Go.RowKit
def RdT (t:TypeId)(w:World)(rb:Nat)(s:ByteArray)(i:Nat):Prop:=Blk w rb #[.string s,.int .i64 i] t
structure SameT (rb:Nat) (w w':World):Prop where
 os:w'.os=w.os
 tape:w'.tape=w.tape
 output:w'.output=w.output
 size:w'.heap.size=w.heap.size
 block:∀ k,k≠rb→w'.heap[k]? = w.heap[k]?
theorem SameT.refl (rb:Nat)(w:World):SameT rb w w:=⟨rfl,rfl,rfl,rfl,fun _ _=>rfl⟩
theorem SameT.drewN (rb:Nat)(w:World)(n:Nat):SameT rb w (w.drewN n):=⟨rfl,rfl,rfl,rfl,fun _ _=>rfl⟩
theorem SameT.trans {rb:Nat}{a b c:World}(h:SameT rb a b)(k:SameT rb b c):SameT rb a c:=⟨k.os.trans h.os,k.tape.trans h.tape,k.output.trans h.output,k.size.trans h.size,fun i hi=>(k.block i hi).trans (h.block i hi)⟩
theorem SameT.setCell {rb:Nat}{a b:World}(h:SameT rb a b)(j:Nat)(u:Value):SameT rb a (b.setCell ⟨rb,j,none⟩ u):=
 h.trans ⟨rfl,rfl,rfl,by simp[World.setCell],fun k hk=>Below.heap_setCell _ _ _ _ hk⟩
theorem SameT.fr {rb:Nat}{w w':World}(h:SameT rb w w')(B:Nat):Fr B rb w w':=⟨h.os,h.tape,h.output,by rw[h.size];omega,fun k _ hk=>h.block k hk⟩
theorem Blk.sameT {rb:Nat}{w w':World}{b:Nat}{cs:Array Value}{t:TypeId}(h:Blk w b cs t)(hs:SameT rb w w')(hne:b≠rb):Blk w' b cs t:=by
 unfold Blk at *;rw[hs.block b hne];exact h
theorem RdT.drewN {t:TypeId}{w:World}{rb:Nat}{s:ByteArray}{i:Nat}(h:RdT t w rb s i)(n:Nat):RdT t (w.drewN n) rb s i:=h
set_option maxHeartbeats 1000000 in
theorem atEndT_calls (t:TypeId)(w:World)(rb:Nat)(s:ByteArray)(i:Nat)(hr:RdT t w rb s i)(_hs:s.size≤8000)(_hi:i≤s.size):
 Calls Tryz.prog 49 #[.pointer (some ⟨rb,0,none⟩)] w fun e w'=>e=.returned (.bool (decide (i=s.size)))∧SameT rb w w'∧RdT t w' rb s i:=by
 have c0:w.cell? ⟨rb,0,none⟩=some (.string s):=hr.cell 0
 have c1:w.cell? ⟨rb,1,none⟩=some (.int .i64 i):=hr.cell 1
 have HR:Hid (RdT t w rb s i):=hr
 clear hr
 go_enter Tryz.func49,Tryz.ntmps49
 go_wp2_with fail
 go_quiet (fail)
 go_wp2_with fail
 go_ret
 refine ⟨?_,SameT.drewN _ _ _,HR.out.drewN _⟩
 have e:((i:Int)==(s.size:Int))=decide (i=s.size):=by
  by_cases h:i=s.size
  · rw[decide_eq_true h];simp;omega
  · rw[decide_eq_false h];simp;omega
 rw[← e]
 rfl
def TakeT (t:TypeId)(s:ByteArray)(i:Nat)(a b:Int)(rb:Nat)(w:World)(e:Ending)(w':World):Prop:=
 SameT rb w w'∧((tkOk s i a b=true∧e=.returned (.tuple #[.int .u8 (bt s i),.bool true])∧RdT t w' rb s (i+1))∨
  (tkOk s i a b=false∧e=.returned (.tuple #[.int .u8 0,.bool false])∧RdT t w' rb s i))
set_option maxHeartbeats 2000000 in
theorem takeT_calls (t:TypeId)(w:World)(rb:Nat)(s:ByteArray)(i:Nat)(a b:Int)(hr:RdT t w rb s i)(hs:s.size≤8000)(hi:i≤s.size):
 Calls Tryz.prog 97 #[.pointer (some ⟨rb,0,none⟩),.int .u8 a,.int .u8 b] w fun e w'=>TakeT t s i a b rb w e w':=by
 by_cases hend:i=s.size
 · have hno:Hid (tkOk s i a b=false):=by
    have:tkOk s i a b=false:=by
     unfold tkOk
     simp;omega
    exact this
   have HR:Hid (RdT t w rb s i):=hr
   have HEnd:=Hid.out (p:=i=s.size) hend
   go_enter Tryz.func97,Tryz.ntmps97
   go_wp2_with fail
   refine (atEndT_calls t w rb s i HR.out hs hi).mono ?_
   rintro e w1 ⟨rfl,hsm,hr1⟩
   rw[decide_eq_true HEnd]
   simp only
   clear hend HEnd hr
   go_wp2_with fail
   go_ret2
   exact ⟨hsm,Or.inr ⟨hno.out,rfl,hr1⟩⟩
 · have hlt:i<s.size:=by omega
   have hlt':(i:Int)<(s.size:Int):=by omega
   have HR:Hid (RdT t w rb s i):=hr
   have hbt:Hid (bt s i=(s[i].toNat:Int)):=bt_in s i hlt
   clear hr
   cases hok:tkOk s i a b
   · have hor:(s[i].toNat:Int)<a∨(¬ (s[i].toNat:Int)<a∧b<(s[i].toNat:Int)):=by
      unfold tkOk at hok
      rw[hbt.out] at hok
      simp at hok
      by_cases h:(s[i].toNat:Int)<a
      · exact Or.inl h
      · exact Or.inr ⟨h,hok hlt (by omega)⟩
     have HOK:Hid (tkOk s i a b=false):=hok
     clear hok
     rcases hor with h | ⟨h,h'⟩
     all_goals
      go_enter Tryz.func97,Tryz.ntmps97
      go_wp2_with fail
      refine (atEndT_calls t w rb s i HR.out hs hi).mono ?_
      rintro e w1 ⟨rfl,hsm,hr1⟩
      rw[decide_eq_false (by omega:¬ i=s.size)]
      simp only
      have c0:w1.cell? ⟨rb,0,none⟩=some (.string s):=hr1.cell 0
      have c1:w1.cell? ⟨rb,1,none⟩=some (.int .i64 i):=hr1.cell 1
      have HR1:Hid (RdT t w1 rb s i):=hr1
      clear hr1 hend
      go_wp2_with fail
      go_quiet (fail)
      go_wp2_with fail
      go_ret2
      exact ⟨hsm.trans (SameT.drewN _ _ _),Or.inr ⟨HOK.out,rfl,HR1.out.drewN _⟩⟩
   · have h1:¬ (s[i].toNat:Int)<a∧¬ b<(s[i].toNat:Int):=by
      unfold tkOk at hok
      rw[hbt.out] at hok
      simp at hok
      omega
     obtain ⟨h,h'⟩:=h1
     have HOK:Hid (tkOk s i a b=true):=hok
     clear hok
     go_enter Tryz.func97,Tryz.ntmps97
     go_wp2_with fail
     refine (atEndT_calls t w rb s i HR.out hs hi).mono ?_
     rintro e w1 ⟨rfl,hsm,hr1⟩
     rw[decide_eq_false (by omega:¬ i=s.size)]
     simp only
     have c0:w1.cell? ⟨rb,0,none⟩=some (.string s):=hr1.cell 0
     have c1:w1.cell? ⟨rb,1,none⟩=some (.int .i64 i):=hr1.cell 1
     have f1:w1.frozen? ⟨rb,1,none⟩=false:=hr1.frozen 1
     have HR1:Hid (RdT t w1 rb s i):=hr1
     clear hr1 hend
     go_wp2_with fail
     go_quiet (fail)
     go_wp2_with fail
     go_ret2
     refine ⟨(hsm.trans (SameT.drewN _ _ _)).setCell _ _,Or.inl ⟨HOK.out,?_,?_⟩⟩
     · rw[hbt.out];rfl
     · exact (HR1.out.drewN _).set 1 _
def JustT (t:TypeId)(s:ByteArray)(i:Nat)(a:Int)(rb:Nat)(w:World)(e:Ending)(w':World):Prop:=
 SameT rb w w'∧((tkOk s i a a=true∧e=.returned (.bool true)∧RdT t w' rb s (i+1))∨(tkOk s i a a=false∧e=.returned (.bool false)∧RdT t w' rb s i))
set_option maxHeartbeats 1000000 in
theorem takeJustT_calls (t:TypeId)(w:World)(rb:Nat)(s:ByteArray)(i:Nat)(a:Int)(hr:RdT t w rb s i)(hs:s.size≤8000)(hi:i≤s.size):
 Calls Tryz.prog 59 #[.pointer (some ⟨rb,0,none⟩),.int .u8 a] w fun e w'=>JustT t s i a rb w e w':=by
 have HR:Hid (RdT t w rb s i):=hr
 clear hr
 go_enter Tryz.func59,Tryz.ntmps59
 go_wp2_with fail
 refine (takeT_calls t w rb s i a a HR.out hs hi).mono ?_
 rintro e w1 ⟨hsm,⟨h1,rfl,h3⟩ | ⟨h1,rfl,h3⟩⟩
 · have HE:=hide' h1
   clear h1
   simp only
   go_wp2_with fail
   go_ret
   exact ⟨hsm,Or.inl ⟨HE.out,rfl,h3⟩⟩
 · have HE:=hide' h1
   clear h1
   simp only
   go_wp2_with fail
   go_ret
   exact ⟨hsm,Or.inr ⟨HE.out,rfl,h3⟩⟩
def DigT (t:TypeId)(s:ByteArray)(i:Nat)(rb:Nat)(w:World)(e:Ending)(w':World):Prop:=
 SameT rb w w'∧((∃ d:Nat,d<16∧hexV (bt s i)=d∧i<s.size∧e=.returned (.tuple #[.int .u8 (d:Nat),.bool true])∧RdT t w' rb s (i+1))∨(hexV (bt s i)<0∧(∃ x:Int,e=.returned (.tuple #[.int .u8 x,.bool false]))∧RdT t w' rb s i))
set_option maxHeartbeats 1000000 in
theorem digitT_calls (t:TypeId)(w:World)(rb:Nat)(s:ByteArray)(i:Nat)(hr:RdT t w rb s i)(hs:s.size≤8000)(hi:i≤s.size):
 Calls Tryz.prog 177 #[.pointer (some ⟨rb,0,none⟩)] w fun e w'=>DigT t s i rb w e w':=by
 have HR:=hide' hr
 clear hr
 go_enter Tryz.func177,Tryz.ntmps177
 go_wp2_with fail
 refine (takeT_calls t w rb s i 48 57 HR.out hs hi).mono ?_
 rintro e w1 ⟨hsm,⟨h1,rfl,h3⟩ | ⟨h1,rfl,h3⟩⟩
 · have hl:=tkOk_lt h1
   have hb:=tkOk_bt h1
   have HE:=hide' h1
   obtain ⟨d,hd,hd2⟩:∃ d:Nat,d<10∧bt s i=48+d:=⟨(bt s i-48).toNat,by omega,by omega⟩
   have hx:hexV (bt s i)=d:=by unfold hexV;rw[if_pos ⟨hb.1,hb.2⟩];omega
   have HX:=hide' hx
   rw[hd2]
   have hw8:IntKind.u8.wrap (48+(d:Int)-48)=d:=by rw[IntKind.wrap_u8];omega
   clear h1 hx hb hd2
   go_wp2_with fail
   go_ret2
   exact ⟨hsm,Or.inl ⟨d,by omega,HX.out,hl,rfl,h3⟩⟩
 · have HE:=hide' h1
   clear h1
   go_wp2_with fail
   refine (takeT_calls t w1 rb s i 97 102 h3 hs hi).mono ?_
   rintro e w2 ⟨hsm2,⟨h1,rfl,h4⟩ | ⟨h1,rfl,h4⟩⟩
   · have hl:=tkOk_lt h1
     have hb:=tkOk_bt h1
     obtain ⟨d,hd,hd2⟩:∃ d:Nat,d<6∧bt s i=97+d:=⟨(bt s i-97).toNat,by omega,by omega⟩
     have hx:hexV (bt s i)=(10+d:Nat):=by unfold hexV;rw[if_neg (by omega),if_pos ⟨hb.1,hb.2⟩];omega
     have HX:=hide' hx
     rw[hd2]
     have hw8:IntKind.u8.wrap (97+(d:Int)-97)=d:=by rw[IntKind.wrap_u8];omega
     have hw9:IntKind.u8.wrap ((d:Int)+10)=(10+d:Nat):=by rw[IntKind.wrap_u8];omega
     clear h1 hx hb hd2
     go_wp2_with fail
     go_ret2
     exact ⟨hsm.trans hsm2,Or.inl ⟨10+d,by omega,HX.out,hl,by rw[show ((10+d:Nat):Int)=10+(d:Int) by omega];rfl,h4⟩⟩
   · have hx:hexV (bt s i)<0:=by
      by_cases hl:i<s.size
      · have e1:=of_decide_eq_false HE.out
        have e2:=of_decide_eq_false h1
        unfold hexV
        rw[if_neg (by omega),if_neg (by omega)]
        omega
      · rw[bt_out s i hl];decide
     have HX:=hide' hx
     clear h1 hx
     go_wp2_with fail
     go_ret2
     exact ⟨hsm.trans hsm2,Or.inr ⟨HX.out,⟨_,rfl⟩,h4⟩⟩
def TwoT (t:TypeId)(s:ByteArray)(i:Nat)(rb:Nat)(w:World)(e:Ending)(w':World):Prop:=
 SameT rb w w'∧((¬ hexV (bt s i)<0∧¬ hexV (bt s (i+1))<0∧i+1<s.size∧e=.returned (.tuple #[.int .u8 ((UInt8.ofNat (16*hexV (bt s i)+hexV (bt s (i+1))).toNat).toNat:Int),.bool true])∧RdT t w' rb s (i+2))∨
  (hexV (bt s i)<0∧(∃ x,e=.returned (.tuple #[x,.bool false]))∧RdT t w' rb s i)∨(¬ hexV (bt s i)<0∧hexV (bt s (i+1))<0∧i<s.size∧(∃ x,e=.returned (.tuple #[x,.bool false]))∧RdT t w' rb s (i+1)))
set_option maxHeartbeats 1000000 in
theorem twoT_calls (t:TypeId)(w:World)(rb:Nat)(s:ByteArray)(i:Nat)(hr:RdT t w rb s i)(hs:s.size≤8000)(hi:i≤s.size):
 Calls Tryz.prog 119 #[.pointer (some ⟨rb,0,none⟩)] w fun e w'=>TwoT t s i rb w e w':=by
 have HR:=hide' hr
 clear hr
 go_enter Tryz.func119,Tryz.ntmps119
 go_wp2_with fail
 refine (digitT_calls t w rb s i HR.out hs hi).mono ?_
 rintro e w1 ⟨hsm,⟨d,hd,hx,hl,rfl,h3⟩ | ⟨hx,⟨x,rfl⟩,h3⟩⟩
 · have HX:=hide' hx
   clear hx
   go_wp2_with fail
   refine (digitT_calls t w1 rb s (i+1) h3 hs hl).mono ?_
   rintro e w2 ⟨hsm2,⟨d2,hd2,hx2,hl2,rfl,h4⟩ | ⟨hx2,⟨x,rfl⟩,h4⟩⟩
   · have HX2:=hide' hx2
     have hw1:IntKind.u8.wrap ((d:Int)*16)=((d*16:Nat):Int):=by rw[IntKind.wrap_u8];omega
     have hw2:IntKind.u8.wrap (((d*16:Nat):Int)+(d2:Int))=((16*d+d2:Nat):Int):=by rw[IntKind.wrap_u8];omega
     have hw3:((UInt8.ofNat (16*(d:Int)+(d2:Int)).toNat).toNat:Int)=((16*d+d2:Nat):Int):=by
      rw[show (16*(d:Int)+(d2:Int)).toNat=16*d+d2 by omega];simp;omega
     have HW:=hide' hw3
     clear hx2 hw3
     go_wp2_with fail
     go_ret2
     refine ⟨hsm.trans hsm2,Or.inl ⟨by rw[HX.out];omega,by rw[HX2.out];omega,hl2,?_,h4⟩⟩
     rw[HX.out,HX2.out,HW.out,show ((16*d+d2:Nat):Int)=(d:Int)*16+(d2:Int) by omega]
     rfl
   · have HX2:=hide' hx2
     clear hx2
     go_wp2_with fail
     go_ret2
     exact ⟨hsm.trans hsm2,Or.inr (Or.inr ⟨by rw[HX.out];omega,HX2.out,hl,⟨_,rfl⟩,h4⟩)⟩
 · have HX:=hide' hx
   clear hx
   go_wp2_with fail
   go_ret2
   exact ⟨hsm,Or.inr (Or.inl ⟨HX.out,⟨_,rfl⟩,h3⟩)⟩
theorem lowB_get (w:Nat):∀ (n i:Nat),i<w→(lowB w n).getD i 0=UInt8.ofNat (n / 256 ^ i % 256):=by
 induction w with
 | zero=>intro n i h;omega
 | succ w ih=>
  intro n i h
  cases i with
  | zero=>simp[lowB]
  | succ i=>
   have:=ih (n / 256) i (by omega)
   rw[Nat.div_div_eq_div_mul,show 256*256 ^ i=256 ^ (i+1) by rw[Nat.pow_succ];omega] at this
   simpa[lowB] using this
structure PutS (w w':World) (g off:Nat) (t:TypeId) (cur:Array Value) (l:List UInt8):Prop where
 ex:∃ cs,Blk w' g cs t∧cs.size=cur.size∧∀ j,cs[j]? = if off≤j∧j<off+l.length then some (.int .u8 ((l.getD (j-off) 0).toNat:Int)) else cur[j]?
 same:SameT g w w'
theorem wrap_byte (n i:Nat):IntKind.u8.wrap ((n:Int) / 2 ^ (8*i))=((UInt8.ofNat (n / 256 ^ i % 256)).toNat:Int):=by
 rw[IntKind.wrap_u8]
 have h1:(2:Int) ^ (8*i)=((256 ^ i:Nat):Int):=by rw[show (256:Nat)=2 ^ 8 from rfl,← Nat.pow_mul];simp
 rw[h1]
 have h2:((n:Int) / ((256 ^ i:Nat):Int))=((n / 256 ^ i:Nat):Int):=by simp
 rw[h2]
 generalize n / 256 ^ i=q
 simp
set_option maxRecDepth 100000 in
set_option maxHeartbeats 1000000 in
theorem putLow_calls (w:World)(g off m cp n:Nat)(t:TypeId)(cur:Array Value)(hb:Blk w g cur t)(hm:m≤4)(hfit:off+m≤cur.size)(_hn:n<4294967296):
 Calls Tryz.prog 183 #[.slice (some ⟨g,off,none⟩) m cp,.int .u32 (n:Nat)] w fun e w'=>e=.returned (.tuple #[])∧PutS w w' g off t cur (numB true m n):=by
 have HB:=hide' hb
 have hl:(numB true m n).length=m:=numB_length _ _ _
 clear hb
 go_enter Tryz.func183,Tryz.ntmps183
 go_wp2_with fail
 go_loopw [7] (fun v7 wr=>∃ i:Nat,v7=.int .i64 (i:Nat)∧i≤m∧Hid (SameT g w wr)∧Hid (∃ cs,Blk wr g cs t∧cs.size=cur.size∧∀ j,cs[j]? = if off≤j∧j<off+i then some (.int .u8 (((numB true m n).getD (j-off) 0).toNat:Int)) else cur[j]?)) (fun v7 _=>m-(intOf v7).toNat)
 case atStart=>exact ⟨0,rfl,by omega,SameT.refl _ _,(⟨cur,HB.out,rfl,fun j=>by rw[if_neg (by omega)]⟩:∃ cs,Blk w g cs t∧cs.size=cur.size∧∀ j,cs[j]? = if off≤j∧j<off+0 then some (.int .u8 (((numB true m n).getD (j-off) 0).toNat:Int)) else cur[j]?)⟩
 case round=>
  obtain ⟨i,rfl,hi,hsm,hcs⟩:=hrel
  by_cases hlt:i<m
  · have hlt':(i:Int)<(m:Int):=by omega
    obtain ⟨cs,hbk,hsz,hget⟩:=hcs.out
    have hlow:(numB true m n).getD i 0=UInt8.ofNat (n / 256 ^ i % 256):=by unfold numB;rw[if_pos rfl];exact lowB_get m n i hlt
    have hwb:=wrap_byte n i
    rw[← hlow] at hwb
    have c0:∃ x,wr.cell? ⟨g,off+i,none⟩=some x:=⟨cs[off+i]'(by omega),by rw[hbk.cell (off+i)];simp⟩
    obtain ⟨x0,hx0⟩:=c0
    have hf:=hbk.frozen (off+i)
    have HW:=hide' hwb
    generalize hby:(((numB true m n).getD i 0).toNat:Int)=by' at *
    have HBy:=hide' hby
    have HN:Hid (∃ cs',Blk (wr.setCell ⟨g,off+i,none⟩ (.int .u8 by')) g cs' t∧cs'.size=cur.size∧∀ j,cs'[j]? = if off≤j∧j<off+(i+1) then some (.int .u8 (((numB true m n).getD (j-off) 0).toNat:Int)) else cur[j]?):=by
     have:∃ cs',Blk (wr.setCell ⟨g,off+i,none⟩ (.int .u8 by')) g cs' t∧cs'.size=cur.size∧∀ j,cs'[j]? = if off≤j∧j<off+(i+1) then some (.int .u8 (((numB true m n).getD (j-off) 0).toNat:Int)) else cur[j]? := by
      refine ⟨_,hbk.set (off+i) (.int .u8 by'),by simp[hsz],fun j=>?_⟩
      by_cases hj:j=off+i
      · subst hj
        have hlt2:off+i<cs.size:=by omega
        rw[if_pos (by omega),show off+i-off=i by omega,HBy.out]
        simp[hlt2]
      · rw[Array.getElem?_setIfInBounds_ne (by omega),hget j]
        by_cases h1:off≤j∧j<off+i
        · rw[if_pos h1,if_pos (by omega)]
        · rw[if_neg h1,if_neg (by omega)]
     exact this
    clear hby hcs hget hbk hlow
    go_wp2_with fail
    exact ⟨⟨i+1,by go_num,by omega,hsm.out.setCell _ _,HN⟩,by simp[intOf];omega⟩
  · have hlt':¬ (i:Int)<(m:Int):=by omega
    obtain rfl:i=m:=by omega
    go_wp2_with fail
    go_end0
    exact ⟨rfl,PutS.mk (by rw[hl];exact hcs.out) hsm.out⟩
theorem numB_high (m n i:Nat)(h:i<m):(numB false m n).getD (m-1-i) 0=(lowB m n).getD i 0:=by
 unfold numB
 rw[if_neg (by simp)]
 have hl:=lowB_length m n
 rw[List.getD_eq_getElem?_getD,List.getElem?_reverse (by omega),hl,List.getD_eq_getElem?_getD]
 congr 2
 omega
set_option maxRecDepth 100000 in
set_option maxHeartbeats 1000000 in
theorem putHigh_calls (w:World)(g off m cp n:Nat)(t:TypeId)(cur:Array Value)(hb:Blk w g cur t)(hm:m≤4)(hfit:off+m≤cur.size)(_hn:n<4294967296):
 Calls Tryz.prog 180 #[.slice (some ⟨g,off,none⟩) m cp,.int .u32 (n:Nat)] w fun e w'=>e=.returned (.tuple #[])∧PutS w w' g off t cur (numB false m n):=by
 have HB:=hide' hb
 have hl:(numB false m n).length=m:=numB_length _ _ _
 clear hb
 go_enter Tryz.func180,Tryz.ntmps180
 go_wp2_with fail
 go_loopw [7] (fun v7 wr=>∃ i:Nat,v7=.int .i64 (i:Nat)∧i≤m∧Hid (SameT g w wr)∧Hid (∃ cs,Blk wr g cs t∧cs.size=cur.size∧∀ j,cs[j]? = if off+m-i≤j∧j<off+m then some (.int .u8 (((numB false m n).getD (j-off) 0).toNat:Int)) else cur[j]?)) (fun v7 _=>m-(intOf v7).toNat)
 case atStart=>exact ⟨0,rfl,by omega,SameT.refl _ _,(⟨cur,HB.out,rfl,fun j=>by rw[if_neg (by omega)]⟩:∃ cs,Blk w g cs t∧cs.size=cur.size∧∀ j,cs[j]? = if off+m-0≤j∧j<off+m then some (.int .u8 (((numB false m n).getD (j-off) 0).toNat:Int)) else cur[j]?)⟩
 case round=>
  obtain ⟨i,rfl,hi,hsm,hcs⟩:=hrel
  by_cases hlt:i<m
  · have hlt':(i:Int)<(m:Int):=by omega
    obtain ⟨cs,hbk,hsz,hget⟩:=hcs.out
    have hlow:(numB false m n).getD (m-1-i) 0=UInt8.ofNat (n / 256 ^ i % 256):=by rw[← lowB_get m n i hlt];exact numB_high m n i hlt
    have hwb:=wrap_byte n i
    have hidx:(m:Int)-1-(i:Int)=((m-1-i:Nat):Int):=by omega
    have hib:((m-1-i:Nat):Int)<(m:Int):=by omega
    rw[← hlow] at hwb
    have c0:∃ x,wr.cell? ⟨g,off+(m-1-i),none⟩=some x:=⟨cs[off+(m-1-i)]'(by omega),by rw[hbk.cell (off+(m-1-i))];simp⟩
    obtain ⟨x0,hx0⟩:=c0
    have hf:=hbk.frozen (off+(m-1-i))
    have HW:=hide' hwb
    generalize hby:(((numB false m n).getD (m-1-i) 0).toNat:Int)=by' at *
    have HBy:=hide' hby
    have HN:Hid (∃ cs',Blk (wr.setCell ⟨g,off+(m-1-i),none⟩ (.int .u8 by')) g cs' t∧cs'.size=cur.size∧∀ j,cs'[j]? = if off+m-(i+1)≤j∧j<off+m then some (.int .u8 (((numB false m n).getD (j-off) 0).toNat:Int)) else cur[j]?):=by
     have:∃ cs',Blk (wr.setCell ⟨g,off+(m-1-i),none⟩ (.int .u8 by')) g cs' t∧cs'.size=cur.size∧∀ j,cs'[j]? = if off+m-(i+1)≤j∧j<off+m then some (.int .u8 (((numB false m n).getD (j-off) 0).toNat:Int)) else cur[j]? := by
      refine ⟨_,hbk.set (off+(m-1-i)) (.int .u8 by'),by simp[hsz],fun j=>?_⟩
      by_cases hj:j=off+(m-1-i)
      · subst hj
        have hlt2:off+(m-1-i)<cs.size:=by omega
        rw[if_pos (by omega),show off+(m-1-i)-off=m-1-i by omega,HBy.out]
        simp[hlt2]
      · rw[Array.getElem?_setIfInBounds_ne (by omega),hget j]
        by_cases h1:off+m-i≤j∧j<off+m
        · rw[if_pos h1,if_pos (by omega)]
        · rw[if_neg h1,if_neg (by omega)]
     exact this
    clear hby hcs hget hbk hlow
    go_wp2_with fail
    exact ⟨⟨i+1,by go_num,by omega,hsm.out.setCell _ _,HN⟩,by simp[intOf];omega⟩
  · have hlt':¬ (i:Int)<(m:Int):=by omega
    obtain rfl:i=m:=by omega
    go_wp2_with fail
    go_end0
    exact ⟨rfl,PutS.mk (by rw[hl];have h:=hcs.out;rwa [show off+i-i=off by omega] at h) hsm.out⟩
structure NdOk {T:Type} (x:Nd T):Prop where
 k:x.k≤5
 n:x.n<4294967296
 cho:x.k=5→x.n<2∧x.kids.length=1
 run:x.run.length≤8000
 kids:x.kids.length≤8000
def NdT {T:Type}(R:World→Nat→Nat→Nat→T→Prop)(w:World)(lo hi vb:Nat)(x:Nd T):Prop:=
 ∃ (v:Value) (ids:List (Nat × T)),Blk w vb #[.int .i64 (x.k:Nat),.int .u32 (x.n:Nat),.string ⟨x.run.toArray⟩,v] 177∧(lo≤vb∧vb<hi)∧PtrsAt w lo hi v (ids.map Prod.fst)∧(∀ q,q∈ids→R w lo hi q.1 q.2)∧x.kids=ids.map Prod.snd∧NdOk x
def RepY:(n:Nat)→World→Nat→Nat→Nat→Tr n→Prop
 | 0=>fun _ _ _ _ _=>False
 | n+1=>NdT (RepY n)
theorem RepY.mono (n:Nat):∀ {w w':World} {lo hi lo' hi' vb:Nat} {x:Tr n},RepY n w lo hi vb x→(∀ k,lo≤k→k<hi→w'.heap[k]? = w.heap[k]?)→lo'≤lo→hi≤hi'→RepY n w' lo' hi' vb x:=by
 induction n with
 | zero=>intro w w' lo hi lo' hi' vb x h;exact h.elim
 | succ n ih=>
  intro w w' lo hi lo' hi' vb x h hw h1 h2
  obtain ⟨v,ids,a,⟨b1,b2⟩,c,d,e,f⟩:=h
  refine ⟨v,ids,?_,by omega,c.mono hw h1 h2,fun q hq=>ih (d q hq) hw h1 h2,e,f⟩
  unfold Blk at *
  rw[hw vb b1 b2];exact a
structure KidT (n:Nat) (w:World) (B:Nat) (v:Value) (kids:List (Nat × Tr n)):Prop where
 row:w.ownsRow B 55 1 v kids.length (ptrsL (kids.map Prod.fst))
 ok:∀ q,q∈kids→∃ lo hi,B≤lo∧hi≤w.heap.size∧(∀ g,v.ownBlock=some g→g<lo∨hi≤g)∧RepY n w lo hi q.1 q.2
theorem KidT.nil (n:Nat)(w:World)(B:Nat):KidT n w B (.slice none 0 0) []:=⟨World.ownsRow_nil _ _ _ _,fun q hq=>by simp at hq⟩
theorem KidT.keep {n:Nat}{w w':World}{B:Nat}{v:Value}{kids:List (Nat × Tr n)}(h:KidT n w B v kids)(hs:w.heap.size≤w'.heap.size)(hk:∀ k,B≤k→k<w.heap.size→w'.heap[k]? = w.heap[k]?):KidT n w' B v kids:=
 ⟨ownsRow_blocks h.row fun g e=>by have:=h.row.lt g e;exact hk g this.1 this.2,fun q hm=>by
  obtain ⟨lo,hi,a,b,c,d⟩:=h.ok q hm
  exact ⟨lo,hi,a,by omega,c,d.mono n (fun k k1 k2=>hk k (by omega) (by omega)) (Nat.le_refl _) (Nat.le_refl _)⟩⟩
theorem KidT.push {n:Nat}{w w1 w2:World}{B vb g cap:Nat}{v:Value}{kids:List (Nat × Tr n)}{x:Tr n}(h:KidT n w1 B v kids)(hv:∀ g,v.ownBlock=some g→g<w.heap.size)(hB:B≤w.heap.size)(_hle:w.heap.size≤w1.heap.size)(hr:RepY n w1 w.heap.size w1.heap.size vb x)(ob:Obj)(hown:w2.ownsRow B 55 1 (.slice (some ⟨g,0,none⟩) (kids.length+1) cap) (kids.length+1) (ptrsL (kids.map Prod.fst)++[.pointer (some ⟨vb,0,none⟩)]))(hgrow:(w1.alloc ob).grownBy w2 v.ownBlock)(hat:v.ownBlock=some g∨g=w1.heap.size+1):KidT n w2 B (.slice (some ⟨g,0,none⟩) (kids.length+1) cap) (kids++[(vb,x)]):=by
 have hs2:=hgrow.size
 simp at hs2
 have keep:∀ k,k<w1.heap.size→some k≠v.ownBlock→w2.heap[k]? = w1.heap[k]? := fun k hk hne=>by
  rw[hgrow.block k (by simp;omega) hne,Below.heap_alloc _ _ _ hk]
 refine ⟨by simpa[ptrsL] using hown,fun q hm=>?_⟩
 rcases List.mem_append.1 hm with hm | hm
 · obtain ⟨lo,hi,a,b,c,d⟩:=h.ok q hm
   refine ⟨lo,hi,a,by omega,fun g' e=>?_,d.mono n (fun k k1 k2=>keep k (by omega) (fun e=>by have:=c k e.symm;omega)) (Nat.le_refl _) (Nat.le_refl _)⟩
   simp[Value.ownBlock] at e
   subst e
   rcases hat with h1 | h1
   · exact c g h1
   · right;omega
 · simp at hm
   subst hm
   refine ⟨w.heap.size,w1.heap.size,hB,by omega,fun g' e=>?_,hr.mono n (fun k k1 k2=>keep k k2 (fun e=>by have:=hv k e.symm;omega)) (Nat.le_refl _) (Nat.le_refl _)⟩
   simp[Value.ownBlock] at e
   subst e
   rcases hat with h1 | h1
   · left;exact hv g h1
   · right;omega
theorem KidT.node {n:Nat}{w:World}{lo B vb k:Nat}{v:Value}{kids:List (Nat × Tr n)}(h:KidT n w B v kids)(hb:Blk w vb #[.int .i64 (k:Nat),.int .u32 0,.string ⟨#[]⟩,v] 177)(h1:lo≤vb)(h2:lo≤B)(hk:k≤4)(hl:kids.length≤8000):
 NdT (RepY n) w lo w.heap.size vb ⟨k,0,[],kids.map Prod.snd⟩:=by
 refine ⟨v,kids,hb,⟨h1,hb.lt⟩,?_,fun q hm=>?_,rfl,⟨by simp only;omega,by simp,fun e=>by simp only at e;omega,by simp,by simpa using hl⟩⟩
 · rcases h.row.2 with ⟨e,h0⟩ | ⟨g,cap,cur,e,hb,hg,hn,hm,hs,ht⟩
   · exact Or.inl ⟨e,by rw[List.eq_nil_of_length_eq_zero h0];rfl⟩
   · subst e
     have hlt:=h.row.lt g rfl
     refine Or.inr ⟨g,cap,by simp,by omega,hlt.2,by simpa using hn,fun j hj=>?_⟩
     rw[h.row.cellAt j (by simpa using hj)]
     simp at hj
     simp[ptrsL,hj]
 · obtain ⟨a,b,c,d,e,g⟩:=h.ok q hm
   exact g.mono n (fun _ _ _=>rfl) (by omega) d
theorem NdT.leaf {T:Type}(R:World→Nat→Nat→Nat→T→Prop)(w:World)(lo vb k m:Nat)(run:List UInt8)(hb:Blk w vb #[.int .i64 (k:Nat),.int .u32 (m:Nat),.string ⟨run.toArray⟩,.slice none 0 0] 177)(h1:lo≤vb)(hk:k≤4)(hm:m<4294967296)(hr:run.length≤8000):NdT R w lo w.heap.size vb ⟨k,m,run,[]⟩:=
 ⟨_,[],hb,⟨h1,hb.lt⟩,Or.inl ⟨rfl,rfl⟩,fun q hq=>by simp at hq,rfl,⟨by simp only;omega,hm,fun e=>by simp only at e;omega,hr,by simp⟩⟩
structure ValPost {T:Type} (R:World→Nat→Nat→Nat→T→Prop) (s:ByteArray) (rb:Nat) (w:World) (r:Option T × Nat) (e:Ending) (w':World):Prop where
 rd:RdT 104 w' rb s r.2
 fr:Fr w.heap.size rb w w'
 out:(r.1=none∧e=.returned (.tuple #[.pointer none,.bool false]))∨∃ x vb,r.1=some x∧e=.returned (.tuple #[.pointer (some ⟨vb,0,none⟩),.bool true])∧R w' w.heap.size w'.heap.size vb x
theorem ValPost.form {T:Type}{R:World→Nat→Nat→Nat→T→Prop}{s:ByteArray}{rb:Nat}{w:World}{r:Option T × Nat}{e:Ending}{w':World}(h:ValPost R s rb w r e w'):∃ (v:Value) (b:Bool),e=.returned (.tuple #[v,.bool b]):=by
 rcases h.out with ⟨_,h⟩ | ⟨_,_,_,h,_⟩
 · exact ⟨_,_,h⟩
 · exact ⟨_,_,h⟩
theorem ValPost.same {T:Type}{R:World→Nat→Nat→Nat→T→Prop}{s:ByteArray}{rb:Nat}{w0 w:World}{r:Option T × Nat}{e:Ending}{w':World}(h:ValPost R s rb w r e w')(hs:SameT rb w0 w):ValPost R s rb w0 r e w':=by
 refine ⟨h.rd,(hs.fr _).trans (by rw[← hs.size];exact h.fr),?_⟩
 rw[← hs.size];exact h.out
def ValC (s:ByteArray)(n:Nat):Prop:=∀ (w:World) (rb a:Nat),RdT 104 w rb s a→rb<w.heap.size→a≤s.size→s.size<a+n→
 Calls Tryz.prog 48 #[.pointer (some ⟨rb,0,none⟩)] w fun e w'=>ValPost (RepY n) s rb w (valV s n a) e w'
theorem rdPl_at {t:TypeId}{w:World}{rb:Nat}{s:ByteArray}{i:Nat}(h:RdT t w rb s i):rdPl w rb=i:=by
 have:w.cell? ⟨rb,1,none⟩=some (.int .i64 i):=h.cell 1
 unfold rdPl;rw[this];simp
end Go.Proofs.YtmlkhhhjdpbhfaaGreatDoor
namespace Go.Proofs.YtmlkhhhjdpbhfaaGreatDoor
open Go Go.RowKit
section
variable {P:Program} (w:World)
def zrC (n:Nat):List Value:=List.replicate n (.int .u8 0)
theorem zrC_length (n:Nat):(zrC n).length=n:=by simp[zrC]
theorem zrC_one (n:Nat):∀ u∈zrC n,u.oneCell'=true:=fun u hu=>by rw[(List.mem_replicate.1 hu).2];rfl
theorem zeroCells_u8 (n:Nat):Builtin.zeroCells (Value.int .u8 0).cells n=(zrC n).toArray:=by
 apply Array.ext
 · simp[Builtin.zeroCells,zrC,Value.cells]
 · intro j h1 h2
   simp[Builtin.zeroCells,zrC,Value.cells,Nat.mod_one]
theorem run_append_room_zeros (t tn ty e:TypeId)(kn:IntKind)(i:TypeInfo)(ht:P.underlying t=some (.slice e))(htn:P.underlying tn=some (.int kn))(hi:P.info? e=some i)(hz:i.zero=some (.int .u8 0))(hs1:i.size=1)(hby:i.bytes=1)(g sLen sCap m:Nat)(cur:Array Value)(hg:w.heap[g]? = some (.cells cur e (0,0)))(h0:0<m)(hm:m≤4)(hroom:sLen+m≤sCap)(hfit:sLen+m≤cur.size):
 (Builtin.append_ #[t,tn] ty #[.slice (some ⟨g,0,none⟩) sLen sCap,.int .i64 (m:Nat)]).run P w=
   .ok (.slice (some ⟨g,0,none⟩) (sLen+m) sCap) (w.setRow g (cur.toList.take sLen++zrC m++cur.toList.drop (sLen+m)).toArray):=by
 have hst:=run_storeCells_at P g sLen e (zrC m) 0 cur w hg (by simpa[zrC_length] using hfit) (zrC_one m)
 simp only[Nat.add_zero,zrC_length] at hst
 have hw:IntKind.i64.wrap (m:Int)=m:=by rw[IntKind.wrap_i64];omega
 have h1:¬ ((m:Int)<0):=by omega
 have h2:¬ (281474976710656<(m:Int)*(i.bytes:Int)):=by rw[hby];omega
 have h3:¬ (m=0):=by omega
 simp[Builtin.append_,run_underlying ht,run_underlying htn,sizeOf,typeInfo,zeroValue,hi,hz,hs1,asInt,asIntOf,hw,h1,h2,h3,hroom,zeroCells_u8,Addr.add_lit,hst]
theorem run_append_grow_zeros (t tn ty e:TypeId)(kn:IntKind)(i:TypeInfo)(ht:P.underlying t=some (.slice e))(htn:P.underlying tn=some (.int kn))(hi:P.info? e=some i)(hz:i.zero=some (.int .u8 0))(hs1:i.size=1)(hby:i.bytes=1)(b:Addr)(sLen sCap m:Nat)(olds:List Value)(hlo:olds.length=sLen)(holds:∀ j v,olds[j]? = some v→w.cell? (b.add j)=some v)(h0:0<m)(hm:m≤4)(hg:sCap<sLen+m)(h63:((sLen+m:Nat):Int)≤9223372036854775807)(hfit:Builtin.nextslicecap (sLen+m) sCap≤281474976710656):
 (Builtin.append_ #[t,tn] ty #[.slice (some b) sLen sCap,.int .i64 (m:Nat)]).run P w=
   .ok (.slice (some ⟨w.heap.size,0,none⟩) (sLen+m) (grownCap w (sLen+m) sCap e))
    (w.drew.alloc (.cells (olds.toArray++(zrC m).toArray++Builtin.zeroCells (Value.int .u8 0).cells (grownCap w (sLen+m) sCap e-(sLen+m))) e)):=by
 have hn:¬ (sLen+m≤sCap):=by omega
 have h63':¬ (9223372036854775807<((sLen:Int)+(m:Int))):=by omega
 have h48':¬ (281474976710656<Builtin.nextslicecap (sLen+m) sCap):=by omega
 have hfo:=run_firstCells_some (P:=P) w.drew i.size sLen b sLen sCap olds (by rw[hs1];omega) (by simpa using holds)
 rw[hs1] at hfo
 have hw:IntKind.i64.wrap (m:Int)=m:=by rw[IntKind.wrap_i64];omega
 have h1:¬ ((m:Int)<0):=by omega
 have h2:¬ (281474976710656<(m:Int)):=by omega
 have h3:¬ (m=0):=by omega
 simp[Builtin.append_,run_underlying ht,run_underlying htn,sizeOf,typeInfo,zeroValue,hi,hz,hs1,hby,asInt,asIntOf,hw,h1,h2,h3,hn,h63',h48',zeroCells_u8,Question.forced,hfo,newRow,grownCap]
theorem run_append_own_zeros (base:Nat)(t tn ty e:TypeId)(kn:IntKind)(i:TypeInfo)(ht:P.underlying t=some (.slice e))(htn:P.underlying tn=some (.int kn))(hi:P.info? e=some i)(hz:i.zero=some (.int .u8 0))(hs1:i.size=1)(hby:i.bytes=1)(v:Value)(n m:Nat)(xs:List Value)(hown:w.ownsRow base e 1 v n xs)(h0:0<m)(hm:m≤4)(hbytes:n+m≤140737488355328)(hbase:base≤w.heap.size):
 ∃ g cap w',(Builtin.append_ #[t,tn] ty #[v,.int .i64 (m:Nat)]).run P w=.ok (.slice (some ⟨g,0,none⟩) (n+m) cap) w'∧w'.ownsRow base e 1 (.slice (some ⟨g,0,none⟩) (n+m) cap) (n+m) (xs++zrC m)∧w.grownBy w' v.ownBlock∧(v.ownBlock=some g∨w.heap.size≤g):=by
 have hxl:xs.length=n:=by simpa using hown.1
 have hlen:(xs++zrC m).length=(n+m)*1:=by rw[List.length_append,hxl,zrC_length,Nat.mul_one]
 have grown:∀ (old:Nat) (row:Option Nat),
  (w.drew.alloc (.cells (xs.toArray++(zrC m).toArray++Builtin.zeroCells (Value.int .u8 0).cells (grownCap w (n+m) old e-(n+m))) e)).ownsRow base e 1
    (.slice (some ⟨w.heap.size,0,none⟩) (n+m) (grownCap w (n+m) old e)) (n+m) (xs++zrC m)∧
  w.grownBy (w.drew.alloc (.cells (xs.toArray++(zrC m).toArray++Builtin.zeroCells (Value.int .u8 0).cells (grownCap w (n+m) old e-(n+m))) e)) row:=by
  intro old row
  have hge:=grownCap_ge w (n+m) old e
  have hcm:grownCap w (n+m) old e≤maxLen:=grownCap_le_maxLen w (n+m) old e (by unfold maxLen;omega)
  refine ⟨⟨hlen,.inr ⟨w.heap.size,_,_,rfl,hbase,heap_alloc_new w.drew _,hge,hcm,?_,?_⟩⟩,⟨rfl,rfl,rfl,by simp,fun k hk _=>Below.heap_alloc w.drew _ k hk⟩⟩
  · have hz1:(Value.int IntKind.u8 0).cells.size=1:=rfl
    simp only[Array.size_append,List.size_toArray,size_zeroCells,hz1,hxl,zrC_length]
    omega
  · simp only[Array.toList_append,List.append_assoc]
    rw[← List.append_assoc,← hlen]
    exact List.take_left
 rcases hown.2 with ⟨rfl,rfl⟩ | ⟨g,cap,cur,rfl,hbg,hg,hnc,hcm,hcs,htake⟩
 · have hx:xs=[]:=List.eq_nil_of_length_eq_zero hxl
   subst hx
   have hr:=Lib.run_append_nil_zeros (P:=P) w t tn ty e i (.int .u8 0) .i64 kn ht htn hi hz m h0 (by omega) (by omega) (by rw[hby];omega)
   rw[zeroCells_u8 m] at hr
   have hgr:=grown 0 (Value.ownBlock (.slice none 0 0))
   simp only[Nat.zero_add,List.nil_append,Array.empty_append] at hgr ⊢
   exact ⟨_,_,_,hr,hgr.1,hgr.2,Or.inr (Nat.le_refl _)⟩
 · by_cases hroom:n+m≤cap
   · have hcs':cur.size=cap:=by simpa using hcs
     have hr:=run_append_room_zeros (P:=P) w t tn ty e kn i ht htn hi hz hs1 hby g n cap m cur hg h0 hm hroom (by omega)
     refine ⟨_,_,_,hr,⟨hlen,.inr ⟨g,cap,_,rfl,hbg,setRow_heap w g cur _ e _ hg,hroom,hcm,?_,?_⟩⟩,⟨rfl,rfl,rfl,by simp,fun k _ hk=>setRow_other w g k _ (fun e=>hk (by simp[Value.ownBlock,e]))⟩,Or.inl rfl⟩
     · simp only[List.size_toArray,List.length_append,List.length_take,List.length_drop,Array.length_toList,zrC_length]
       omega
     · have ht':cur.toList.take n=xs:=by simpa using htake
       rw[ht',← hlen]
       exact List.take_left
   · have holds:∀ j u,xs[j]? = some u→w.cell? ((⟨g,0,none⟩:Addr).add j)=some u:=hown.cells (g:=g) rfl
     have hr:=run_append_grow_zeros (P:=P) w t tn ty e kn i ht htn hi hz hs1 hby ⟨g,0,none⟩ n cap m xs hxl holds h0 hm (by omega) (by omega) (by have h:=growslice_fits (bytes:=1) (need:=n+m) (old:=cap) (by omega) (by omega);omega)
     have hgr:=grown cap (Value.ownBlock (.slice (some ⟨g,0,none⟩) n cap))
     exact ⟨_,_,_,hr,hgr.1,hgr.2,Or.inr (Nat.le_refl _)⟩
end
end Go.Proofs.YtmlkhhhjdpbhfaaGreatDoor

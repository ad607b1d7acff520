import Derived.WalkKit
import Derived.WalkSpells
import Derived.Deep.AppendLies
import Derived.Deep.QuietTactic
import Derived.BigQuiet
import Derived.Test.YtmlkhhhjdpbhfaaGreatDoorProg
import Derived.WalkLawsBesides
namespace Go.Proofs.YtmlkhhhjdpbhfaaGreatDoor
open Go.RowKit
def bt (s:ByteArray)(i:Nat):Int:=if h:i<s.size then (s[i].toNat:Int) else 0
theorem bt_lo (s:ByteArray)(i:Nat):0≤bt s i:=by unfold bt;split<;>omega
theorem bt_hi (s:ByteArray)(i:Nat):bt s i≤255:=by
 unfold bt;split
 · rename_i h;have:=s[i].toNat_lt;omega
 · omega
theorem bt_in (s:ByteArray)(i:Nat)(h:i<s.size):bt s i=(s[i].toNat:Int):=by unfold bt;rw[dif_pos h]
theorem bt_out (s:ByteArray)(i:Nat)(h:¬ i<s.size):bt s i=0:=by unfold bt;rw[dif_neg h]
def inB (l:List UInt8)(c:Int):Bool:=l.any fun b=>(b.toNat:Int)==c
def hexV (c:Int):Int:=if 48≤c∧c≤57 then c-48 else if 97≤c∧c≤102 then c-87 else -1
theorem ret_bool {a b:Bool}(h:a=b):Ending.returned (.bool a)=.returned (.bool b):=by rw[h]
structure It where
 c:Int:=0
 w:Int:=0
 b:Int:=0
 r:Int:=0
 d:Int:=0
 pl:Int:=0
 nx:Int:=0
 rl:Int:=0
def kW (c:Int):Bool:=inB [110,108,104,107] c
def kD (c:Int):Bool:=inB [104,107,114,116,119,64,115] c
def kAny (c:Int):Bool:=inB [110,108,40,47,42,104,107,114,116,119,64,115,46] c
def kIn (c:Int):Int:=if c=40 then -1 else if c=47 then 2 else if inB [42,116,119,64,115] c then 1 else 0
structure Hd where
 ok:Bool
 i:Nat
 inn:Int:=0
 it:It:={}
def depHd (s:ByteArray)(c:Int)(i:Nat)(it:It):Hd:=
 if kD c then
  if 97≤bt s i∧bt s i≤104 then { ok:=true,i:=i+1,inn:=kIn c,it:={ it with d:=bt s i-97,pl:=i } } else { ok:=false,i:=i }
 else { ok:=true,i:=i,inn:=kIn c,it:=it }
def headV (s:ByteArray)(a:Nat):Hd:=
 if 65≤bt s a∧bt s a≤72 then { ok:=true,i:=a+1,it:={ c:=82,r:=bt s a-65,pl:=a } }
 else if bt s a=39 then
  if hexV (bt s (a+1))<0 then { ok:=false,i:=a+1 }
  else if hexV (bt s (a+2))<0 then { ok:=false,i:=a+2 }
  else { ok:=true,i:=a+3,it:={ c:=39,b:=16*hexV (bt s (a+1))+hexV (bt s (a+2)),pl:=a } }
 else if kAny (bt s a) then
  if kW (bt s a) then
   if 49≤bt s (a+1)∧bt s (a+1)≤52 then depHd s (bt s a) (a+2) { c:=bt s a,w:=bt s (a+1)-48,pl:=a } else { ok:=false,i:=a+1 }
  else depHd s (bt s a) (a+1) { c:=bt s a,pl:=a }
 else { ok:=false,i:=a }
theorem hexV_bd (c:Int) : -1≤hexV c∧hexV c≤15:=by unfold hexV;split<;>(try split)<;>omega
structure Res where
 ok:Bool
 i:Nat
 its:List It
def Res.pre (l:List It)(q:Res):Res:=⟨q.ok,q.i,l++q.its⟩
def loopN (p:Nat→Res):Nat→Nat→Res
 | 0,i=>⟨true,i,[]⟩
 | k+1,i=>if (p i).ok=true then (loopN p k (p i).i).pre (p i).its else ⟨false,(p i).i,[]⟩
def loopB (p:Nat→Res)(s:ByteArray):Nat→Nat→Res
 | 0,i=>⟨false,i,[]⟩
 | f+1,i=>if (p i).ok=true then (if bt s (p i).i=41 then ⟨true,(p i).i+1,(p i).its⟩ else (loopB p s f (p i).i).pre (p i).its) else ⟨false,(p i).i,[]⟩
def inner (p:Nat→Res)(s:ByteArray)(f:Nat)(h:Hd):Res:=if h.inn<0 then loopB p s f h.i else loopN p h.inn.toNat h.i
def prs (s:ByteArray)(rule:Int):Nat→Nat→Res
 | 0,a=>⟨false,a,[]⟩
 | f+1,a=>
  if (headV s a).ok=true then
   ⟨(inner (prs s rule f) s f (headV s a)).ok,(inner (prs s rule f) s f (headV s a)).i,
    { (headV s a).it with rl:=rule,nx:=1+(inner (prs s rule f) s f (headV s a)).its.length }::(inner (prs s rule f) s f (headV s a)).its⟩
  else ⟨false,(headV s a).i,[]⟩
theorem bt_pos_lt (s:ByteArray)(i:Nat)(h:0<bt s i):i<s.size:=by
 by_cases hi:i<s.size
 · exact hi
 · rw[bt_out _ _ hi] at h;omega
theorem kAny_pos (c:Int)(h:kAny c=true):0<c:=by
 simp only[kAny,inB,List.any_cons,List.any_nil,Bool.or_false,Bool.or_eq_true,beq_iff_eq] at h
 rcases h with h | h | h | h | h | h | h | h | h | h | h | h | h<;>simp at h<;>omega
theorem hexV_pos (c:Int)(h:0≤hexV c):0<c:=by unfold hexV at h;split at h<;>(try split at h)<;>omega
theorem depHd_bd (s:ByteArray)(c:Int)(i:Nat)(it:It)(hi:i≤s.size):
 i≤(depHd s c i it).i∧(depHd s c i it).i≤s.size∧(it.nx=0→(depHd s c i it).it.nx=0):=by
 unfold depHd
 split
 · split
   · have:=bt_pos_lt s i (by omega)
     exact ⟨by simp,by simp;omega,fun h=>h⟩
   · exact ⟨by simp,by simpa using hi,fun _=>rfl⟩
 · exact ⟨by simp,by simpa using hi,fun h=>h⟩
theorem headV_bd (s:ByteArray)(a:Nat)(ha:a≤s.size):
 a≤(headV s a).i∧(headV s a).i≤s.size∧(headV s a).it.nx=0∧((headV s a).ok=true→a<(headV s a).i):=by
 unfold headV
 split
 · have:=bt_pos_lt s a (by omega)
   refine ⟨by simp,by simp;omega,rfl,fun _=>by simp⟩
 · split
   · rename_i h39
     have h0:=bt_pos_lt s a (by omega)
     split
     · exact ⟨by simp,by simp;omega,rfl,fun h=>by simp⟩
     · rename_i h1
       have h1':=bt_pos_lt s (a+1) (hexV_pos _ (by omega))
       split
       · exact ⟨by simp,by simp;omega,rfl,fun h=>by simp⟩
       · rename_i h2
         have h2':=bt_pos_lt s (a+2) (hexV_pos _ (by omega))
         exact ⟨by simp,by simp;omega,rfl,fun h=>by simp⟩
   · split
     · rename_i hk
       have h0:=bt_pos_lt s a (kAny_pos _ hk)
       split
       · split
         · have h1:=bt_pos_lt s (a+1) (by omega)
           have:=depHd_bd s (bt s a) (a+2) { c:=bt s a,w:=bt s (a+1)-48,pl:=a } (by omega)
           exact ⟨by omega,this.2.1,this.2.2 rfl,fun _=>by omega⟩
         · exact ⟨by simp,by simp;omega,rfl,fun h=>by simp⟩
       · have:=depHd_bd s (bt s a) (a+1) { c:=bt s a,pl:=a } (by omega)
         exact ⟨by omega,this.2.1,this.2.2 rfl,fun _=>by omega⟩
     · exact ⟨by simp,by simpa using ha,rfl,fun h=>by cases h⟩
def Good (s:ByteArray)(p:Nat→Res):Prop:=
 ∀ a,a≤s.size→(p a).i≤s.size∧a≤(p a).i∧((p a).ok=true→a<(p a).i∧(p a).its.length≤(p a).i-a)
theorem loopN_good (s:ByteArray)(p:Nat→Res)(hp:Good s p)(k:Nat):∀ a,a≤s.size→
 (loopN p k a).i≤s.size∧a≤(loopN p k a).i∧((loopN p k a).ok=true→(loopN p k a).its.length≤(loopN p k a).i-a):=by
 induction k with
 | zero=>intro a ha;exact ⟨ha,Nat.le_refl _,fun _=>by simp[loopN]⟩
 | succ k ih=>
  intro a ha
  obtain ⟨p1,p2,p3⟩:=hp a ha
  unfold loopN
  split
  · rename_i hok
    obtain ⟨p3,p4⟩:=p3 hok
    obtain ⟨i1,i2,i3⟩:=ih (p a).i p1
    refine ⟨i1,by simp only[Res.pre];omega,fun h=>?_⟩
    have:=i3 h
    simp only[Res.pre,List.length_append];omega
  · exact ⟨p1,p2,fun h=>by cases h⟩
theorem loopB_good (s:ByteArray)(p:Nat→Res)(hp:Good s p)(k:Nat):∀ a,a≤s.size→
 (loopB p s k a).i≤s.size∧a≤(loopB p s k a).i∧((loopB p s k a).ok=true→(loopB p s k a).its.length≤(loopB p s k a).i-a):=by
 induction k with
 | zero=>intro a ha;exact ⟨ha,Nat.le_refl _,fun h=>by cases h⟩
 | succ k ih=>
  intro a ha
  obtain ⟨p1,p2,p3⟩:=hp a ha
  unfold loopB
  split
  · rename_i hok
    obtain ⟨p3,p4⟩:=p3 hok
    split
    · rename_i h41
      have:=bt_pos_lt s (p a).i (by omega)
      exact ⟨by simp;omega,by simp;omega,fun _=>by simp;omega⟩
    · obtain ⟨i1,i2,i3⟩:=ih (p a).i p1
      refine ⟨i1,by simp only[Res.pre];omega,fun h=>?_⟩
      have:=i3 h
      simp only[Res.pre,List.length_append];omega
  · exact ⟨p1,p2,fun h=>by cases h⟩
theorem prs_good (s:ByteArray)(rule:Int)(f:Nat):Good s (prs s rule f):=by
 induction f with
 | zero=>intro a ha;exact ⟨ha,Nat.le_refl _,fun h=>by cases h⟩
 | succ f ih=>
  intro a ha
  obtain ⟨h1,h2,_,h3⟩:=headV_bd s a ha
  unfold prs
  split
  · rename_i hok
    have h3:=h3 hok
    have hin:(inner (prs s rule f) s f (headV s a)).i≤s.size∧(headV s a).i≤(inner (prs s rule f) s f (headV s a)).i∧((inner (prs s rule f) s f (headV s a)).ok=true→(inner (prs s rule f) s f (headV s a)).its.length≤(inner (prs s rule f) s f (headV s a)).i-(headV s a).i):=by
     unfold inner
     split
     · exact loopB_good s _ ih _ _ h2
     · exact loopN_good s _ ih _ _ h2
    obtain ⟨g1,g2,g3⟩:=hin
    refine ⟨g1,by simp only;omega,fun h=>⟨by simp only;omega,?_⟩⟩
    have:=g3 h
    simp only[List.length_cons];omega
  · exact ⟨h2,h1,fun h=>by cases h⟩
def It.cells (p:It):Array Value:=#[.int .u8 p.c,.int .i64 p.w,.int .i64 p.b,.int .i64 p.r,.int .i64 p.d,.int .i64 p.pl,.int .i64 p.nx,.int .i64 p.rl,.int .i64 0]
def It.off (p:It)(k:Nat):It:={ p with nx:=k+p.nx }
def itd (its:List It)(k:Nat):It:=its.getD k {}
def nxt (its:List It)(k:Nat):Nat:=k+(itd its k).nx.toNat
structure Wf (its:List It):Prop where
 pos:∀ k,k<its.length→1≤(itd its k).nx∧k+(itd its k).nx≤its.length
 one:∀ k,k<its.length→inB [119,64,115] (itd its k).c=true→k+1<its.length
 byte:∀ k,k<its.length→0≤(itd its k).c∧(itd its k).c≤255
def usesB (c:Int):Bool:=inB [114,116,119,64,115] c
def hidesB (c:Int):Bool:=c==104||c==107
theorem getD_lt {α:Type}(l:List α)(j:Nat)(d:α)(h:j<l.length):l.getD j d=l[j]:=by simp[List.getD,h]
def Blk (w:World)(b:Nat)(cs:Array Value)(t:TypeId):Prop:=w.heap[b]? = some (.cells cs t (0,0))
theorem Blk.lt {w:World}{b:Nat}{cs:Array Value}{t:TypeId}(h:Blk w b cs t):b<w.heap.size:=(Array.getElem?_eq_some_iff.1 h).1
theorem Blk.cell {w:World}{b:Nat}{cs:Array Value}{t:TypeId}(h:Blk w b cs t)(j:Nat):w.cell? ⟨b,j,none⟩=cs[j]? := by
 unfold Blk at h;simp[World.cell?,h]
theorem Blk.frozen {w:World}{b:Nat}{cs:Array Value}{t:TypeId}(h:Blk w b cs t)(j:Nat):w.frozen? ⟨b,j,none⟩=false:=by
 unfold Blk at h;simp[World.frozen?,h]
theorem Blk.drew {w:World}{b:Nat}{cs:Array Value}{t:TypeId}(h:Blk w b cs t):Blk w.drew b cs t:=h
theorem Blk.alloc {w:World}{b:Nat}{cs:Array Value}{t:TypeId}(h:Blk w b cs t)(o:Obj):Blk (w.alloc o) b cs t:=by
 have:=h.lt;unfold Blk at *;rw[Below.heap_alloc _ _ _ this];exact h
theorem Blk.new (w:World)(cs:Array Value)(t:TypeId):Blk (w.alloc (.cells cs t)) w.heap.size cs t:=heap_alloc_new w _
theorem Blk.below {w w':World}{B b:Nat}{cs:Array Value}{t:TypeId}(h:Blk w b cs t)(hb:Below B w w')(hl:b<B):Blk w' b cs t:=by
 unfold Blk at *;rw[hb.block b hl];exact h
theorem Blk.grown {w w':World}{row:Option Nat}{b:Nat}{cs:Array Value}{t:TypeId}(h:Blk w b cs t)(hg:w.grownBy w' row)(hne:some b≠row):Blk w' b cs t:=by
 have:=h.lt;unfold Blk at *;rw[hg.block b this hne];exact h
theorem Blk.set {w:World}{b:Nat}{cs:Array Value}{t:TypeId}(h:Blk w b cs t)(j:Nat)(u:Value):Blk (w.setCell ⟨b,j,none⟩ u) b (cs.setIfInBounds j u) t:=by
 unfold Blk at *
 simp[World.setCell,Array.getElem?_modify,h]
theorem Blk.setOther {w:World}{b:Nat}{cs:Array Value}{t:TypeId}(h:Blk w b cs t)(a:Addr)(hne:b≠a.block)(u:Value):Blk (w.setCell a u) b cs t:=by
 unfold Blk at *;rw[Below.heap_setCell _ _ _ _ hne];exact h
structure Fr (B g:Nat) (w w':World):Prop where
 os:w'.os=w.os
 tape:w'.tape=w.tape
 output:w'.output=w.output
 size:w.heap.size≤w'.heap.size
 block:∀ k,k<B→k≠g→w'.heap[k]? = w.heap[k]?
theorem Fr.refl (B g:Nat)(w:World):Fr B g w w:=⟨rfl,rfl,rfl,Nat.le_refl _,fun _ _ _=>rfl⟩
theorem Fr.trans {B g:Nat}{a b c:World}(h:Fr B g a b)(k:Fr B g b c):Fr B g a c:=
 ⟨k.os.trans h.os,k.tape.trans h.tape,k.output.trans h.output,Nat.le_trans h.size k.size,fun i hi hn=>(k.block i hi hn).trans (h.block i hi hn)⟩
theorem Fr.below {B g C:Nat}{a b c:World}(h:Fr B g a b)(k:Below C b c)(hB:B≤C):Fr B g a c:=
 h.trans ⟨k.os,k.tape,k.output,k.size,fun i hi _=>k.block i (by omega)⟩
theorem Fr.alloc {B g:Nat}{a b:World}(h:Fr B g a b)(hB:B≤b.heap.size)(o:Obj):Fr B g a (b.alloc o):=
 h.below ((Below.refl _ _).alloc hB o) (Nat.le_refl _)
theorem Fr.drew {B g:Nat}{a b:World}(h:Fr B g a b):Fr B g a b.drew:=⟨h.os,h.tape,h.output,h.size,h.block⟩
theorem Fr.drewN {B g:Nat}{a b:World}(h:Fr B g a b)(n:Nat):Fr B g a (b.drewN n):=⟨h.os,h.tape,h.output,h.size,h.block⟩
theorem Fr.setCell {B g:Nat}{a b:World}(h:Fr B g a b){p:Addr}(hp:p.block=g∨B≤p.block)(u:Value):Fr B g a (b.setCell p u):=
 h.trans ⟨rfl,rfl,rfl,by simp[World.setCell],fun k hk hn=>Below.heap_setCell _ _ _ _ (by omega)⟩
theorem Fr.grown {B g:Nat}{a b c:World}{row:Option Nat}(h:Fr B g a b)(hg:b.grownBy c row)(hB:B≤b.heap.size)(hr:∀ k,row=some k→B≤k):Fr B g a c:=
 h.trans ⟨hg.os,hg.tape,hg.output,hg.size,fun k hk _=>hg.block k (by omega) (fun e=>by have:=hr k e.symm;omega)⟩
def Rd (w:World)(rb:Nat)(s:ByteArray)(i:Nat):Prop:=Blk w rb #[.string s,.int .i64 i] 72
structure Same (rb:Nat) (w w':World):Prop where
 os:w'.os=w.os
 tape:w'.tape=w.tape
 output:w'.output=w.output
 size:w'.heap.size=w.heap.size
 block:∀ k,k≠rb→w'.heap[k]? = w.heap[k]?
theorem Same.refl (rb:Nat)(w:World):Same rb w w:=⟨rfl,rfl,rfl,rfl,fun _ _=>rfl⟩
theorem Same.drewN (rb:Nat)(w:World)(n:Nat):Same rb w (w.drewN n):=⟨rfl,rfl,rfl,rfl,fun _ _=>rfl⟩
theorem Same.trans {rb:Nat}{a b c:World}(h:Same rb a b)(k:Same rb b c):Same rb a c:=⟨k.os.trans h.os,k.tape.trans h.tape,k.output.trans h.output,k.size.trans h.size,fun i hi=>(k.block i hi).trans (h.block i hi)⟩
theorem Same.setCell {rb:Nat}{a b:World}(h:Same rb a b)(j:Nat)(u:Value):Same rb a (b.setCell ⟨rb,j,none⟩ u):=
 h.trans ⟨rfl,rfl,rfl,by simp[World.setCell],fun k hk=>Below.heap_setCell _ _ _ _ hk⟩
theorem Same.fr {rb:Nat}{w w':World}(h:Same rb w w')(B:Nat):Fr B rb w w':=⟨h.os,h.tape,h.output,by rw[h.size];omega,fun k _ hk=>h.block k hk⟩
theorem Blk.same {rb:Nat}{w w':World}{b:Nat}{cs:Array Value}{t:TypeId}(h:Blk w b cs t)(hs:Same rb w w')(hne:b≠rb):Blk w' b cs t:=by
 unfold Blk at *;rw[hs.block b hne];exact h
theorem Rd.drewN {w:World}{rb:Nat}{s:ByteArray}{i:Nat}(h:Rd w rb s i)(n:Nat):Rd (w.drewN n) rb s i:=h
set_option maxHeartbeats 1000000 in
theorem atEnd_calls (w:World)(rb:Nat)(s:ByteArray)(i:Nat)(hr:Rd w rb s i)(_hs:s.size≤400)(_hi:i≤s.size):
 Calls Tryz.prog 49 #[.pointer (some ⟨rb,0,none⟩)] w fun e w'=>e=.returned (.bool (decide (i=s.size)))∧Same rb w w'∧Rd w' rb s i:=by
 have c0:w.cell? ⟨rb,0,none⟩=some (.string s):=hr.cell 0
 have c1:w.cell? ⟨rb,1,none⟩=some (.int .i64 i):=hr.cell 1
 have HR:=hr
 have HR:Hid (Rd w rb s i):=hr
 clear hr
 go_enter Tryz.func49,Tryz.ntmps49
 go_wp2_with fail
 go_quiet (fail)
 go_wp2_with fail
 go_ret
 refine ⟨?_,Same.drewN _ _ _,HR.out.drewN _⟩
 have e:((i:Int)==(s.size:Int))=decide (i=s.size):=by
  by_cases h:i=s.size
  · rw[decide_eq_true h];simp;omega
  · rw[decide_eq_false h];simp;omega
 rw[← e]
 rfl
def takeOk (s:ByteArray)(i:Nat)(a b:Int):Bool:=decide (a≤bt s i∧bt s i≤b)
def TakePost (s:ByteArray)(i:Nat)(a b:Int)(rb:Nat)(w:World)(e:Ending)(w':World):Prop:=
 Same rb w w'∧((takeOk s i a b=true∧e=.returned (.tuple #[.int .u8 (bt s i),.bool true])∧Rd w' rb s (i+1))∨
  (takeOk s i a b=false∧e=.returned (.tuple #[.int .u8 0,.bool false])∧Rd w' rb s i))
set_option maxHeartbeats 2000000 in
theorem take_calls (w:World)(rb:Nat)(s:ByteArray)(i:Nat)(a b:Int)(hr:Rd w rb s i)(hs:s.size≤400)(hi:i≤s.size)(ha:1≤a):
 Calls Tryz.prog 97 #[.pointer (some ⟨rb,0,none⟩),.int .u8 a,.int .u8 b] w fun e w'=>TakePost s i a b rb w e w':=by
 by_cases hend:i=s.size
 · have hno:Hid (takeOk s i a b=false):=by
    have:takeOk s i a b=false:=by
     unfold takeOk
     rw[bt_out s i (by omega)]
     simp;omega
    exact this
   have HR:Hid (Rd w rb s i):=hr
   have HEnd:=Hid.out (p:=i=s.size) hend
   go_enter Tryz.func97,Tryz.ntmps97
   go_wp2_with fail
   refine (atEnd_calls w rb s i HR.out hs hi).mono ?_
   rintro e w1 ⟨rfl,hsm,hr1⟩
   rw[decide_eq_true HEnd]
   simp only
   clear hend HEnd hr
   go_wp2_with fail
   go_ret2
   exact ⟨hsm,Or.inr ⟨hno.out,rfl,hr1⟩⟩
 · have hlt:i<s.size:=by omega
   have hlt':(i:Int)<(s.size:Int):=by omega
   have HR:Hid (Rd w rb s i):=hr
   have hbt:Hid (bt s i=(s[i].toNat:Int)):=bt_in s i hlt
   clear hr
   cases hok:takeOk s i a b
   · have hor:(s[i].toNat:Int)<a∨(¬ (s[i].toNat:Int)<a∧b<(s[i].toNat:Int)):=by
      unfold takeOk at hok
      rw[hbt.out] at hok
      simp at hok
      by_cases h:(s[i].toNat:Int)<a
      · exact Or.inl h
      · exact Or.inr ⟨h,hok (by omega)⟩
     have HOK:Hid (takeOk s i a b=false):=hok
     clear hok
     rcases hor with h | ⟨h,h'⟩
     all_goals
      go_enter Tryz.func97,Tryz.ntmps97
      go_wp2_with fail
      refine (atEnd_calls w rb s i HR.out hs hi).mono ?_
      rintro e w1 ⟨rfl,hsm,hr1⟩
      rw[decide_eq_false (by omega:¬ i=s.size)]
      simp only
      have c0:w1.cell? ⟨rb,0,none⟩=some (.string s):=hr1.cell 0
      have c1:w1.cell? ⟨rb,1,none⟩=some (.int .i64 i):=hr1.cell 1
      have HR1:Hid (Rd w1 rb s i):=hr1
      clear hr1 hend
      go_wp2_with fail
      go_quiet (fail)
      go_wp2_with fail
      go_ret2
      exact ⟨hsm.trans (Same.drewN _ _ _),Or.inr ⟨HOK.out,rfl,HR1.out.drewN _⟩⟩
   · have h1:¬ (s[i].toNat:Int)<a∧¬ b<(s[i].toNat:Int):=by
      unfold takeOk at hok
      rw[hbt.out] at hok
      simp at hok
      omega
     obtain ⟨h,h'⟩:=h1
     have HOK:Hid (takeOk s i a b=true):=hok
     clear hok
     go_enter Tryz.func97,Tryz.ntmps97
     go_wp2_with fail
     refine (atEnd_calls w rb s i HR.out hs hi).mono ?_
     rintro e w1 ⟨rfl,hsm,hr1⟩
     rw[decide_eq_false (by omega:¬ i=s.size)]
     simp only
     have c0:w1.cell? ⟨rb,0,none⟩=some (.string s):=hr1.cell 0
     have c1:w1.cell? ⟨rb,1,none⟩=some (.int .i64 i):=hr1.cell 1
     have f1:w1.frozen? ⟨rb,1,none⟩=false:=hr1.frozen 1
     have HR1:Hid (Rd w1 rb s i):=hr1
     clear hr1 hend
     go_wp2_with fail
     go_quiet (fail)
     go_wp2_with fail
     go_ret2
     refine ⟨(hsm.trans (Same.drewN _ _ _)).setCell _ _,Or.inl ⟨HOK.out,?_,?_⟩⟩
     · rw[hbt.out];rfl
     · exact (HR1.out.drewN _).set 1 _
def adv (s:ByteArray)(i:Nat)(a:Int):Nat:=if bt s i=a then i+1 else i
def isAt (s:ByteArray)(i:Nat)(a:Int):Bool:=decide (bt s i=a)
set_option maxHeartbeats 1000000 in
theorem takeJust_calls (w:World)(rb:Nat)(s:ByteArray)(i:Nat)(a:Int)(hr:Rd w rb s i)(hs:s.size≤400)(hi:i≤s.size)(ha:1≤a):
 Calls Tryz.prog 59 #[.pointer (some ⟨rb,0,none⟩),.int .u8 a] w fun e w'=>Same rb w w'∧e=.returned (.bool (isAt s i a))∧Rd w' rb s (adv s i a):=by
 have HR:Hid (Rd w rb s i):=hr
 clear hr
 go_enter Tryz.func59,Tryz.ntmps59
 go_wp2_with fail
 refine (take_calls w rb s i a a HR.out hs hi ha).mono ?_
 rintro e w1 ⟨hsm,⟨h1,rfl,h3⟩ | ⟨h1,rfl,h3⟩⟩
 · have he:bt s i=a:=by unfold takeOk at h1;simp at h1;omega
   have HE:Hid (bt s i=a):=he
   clear he h1
   simp only
   go_wp2_with fail
   go_ret
   exact ⟨hsm,by rw[isAt,decide_eq_true HE.out];rfl,by rw[adv,if_pos HE.out];exact h3⟩
 · have he:¬ bt s i=a:=by unfold takeOk at h1;simp at h1;omega
   have HE:Hid (¬ bt s i=a):=he
   clear he h1
   simp only
   go_wp2_with fail
   go_ret
   exact ⟨hsm,by rw[isAt,decide_eq_false HE.out];rfl,by rw[adv,if_neg HE.out];exact h3⟩
end Go.Proofs.YtmlkhhhjdpbhfaaGreatDoor

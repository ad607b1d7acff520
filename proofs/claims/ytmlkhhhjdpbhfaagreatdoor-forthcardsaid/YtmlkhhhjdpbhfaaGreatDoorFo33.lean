import Derived.Test.YtmlkhhhjdpbhfaaGreatDoorFo31
import Derived.Test.YtmlkhhhjdpbhfaaGreatDoorFo28
import Derived.Test.YtmlkhhhjdpbhfaaGreatDoorFo32
import Derived.Test.YtmlkhhhjdpbhfaaGreatDoorFo30
import Derived.Test.YtmlkhhhjdpbhfaaGreatDoorFo04
import Derived.Test.YtmlkhhhjdpbhfaaGreatDoorFo12
namespace Go.Proofs.YtmlkhhhjdpbhfaaGreatDoor
open Go.RowKit
theorem firstMiss_refs (th:Nat→Bool)(h1:th 1=true)(h2:th 2=true)(its:List It)(h:∀ x,x∈its→x.c=82→x.r=1∨x.r=2):(firstMiss th its).2=false:=by
 induction its with
 | nil=>rfl
 | cons x r ih=>
  rw[firstMiss_cons]
  have hm:missB th x=false:=by
   by_cases hc:x.c=82
   · rcases h x List.mem_cons_self hc with e | e
     · simp[missB,e,h1]
     · simp[missB,e,h2]
   · simp[missB,hc]
  rw[hm]
  exact ih fun y hy=>h y (List.mem_cons_of_mem _ hy)
theorem rules_last (s:ByteArray)(k:Nat)(top:Int)(a:Nat)(r:Nat)(its:List It)(h0:bt s a=65+r)(ht:(65:Int)+r≤top)(h1:bt s (a+1)=61)(hp:prs s r (s.size+1) (a+2)=⟨true,s.size,its⟩):rulesV s (k+1) top a=⟨true,s.size,[⟨r,a,its⟩]⟩:=by
 have e:bt s a-65=(r:Int):=by omega
 rw[rulesV,e,if_neg (by omega),if_neg (by omega),hp]
 simp
theorem rules_more (s:ByteArray)(k:Nat)(top:Int)(a i:Nat)(r:Nat)(its:List It)(h0:bt s a=65+r)(ht:(65:Int)+r≤top)(h1:bt s (a+1)=61)(hp:prs s r (s.size+1) (a+2)=⟨true,i,its⟩)(hi:i<s.size)(h59:bt s i=59):
 rulesV s (k+2) top a=(rulesV s (k+1) 72 (i+1)).pre [⟨r,a,its⟩]:=by
 have e:bt s a-65=(r:Int):=by omega
 rw[rulesV,e,if_neg (by omega),if_neg (by omega),hp]
 simp only[not_true,if_false]
 rw[if_neg (by omega),if_neg (by omega)]
theorem made_ok (p1 p2 p3:ByteArray)(h1:PtC p1)(h2:PtC p2)(h3:PtC p3)(hs:(madeG p1 p2 p3).size≤400):pressV (madeG p1 p2 p3)=(0,0):=by
 have hall:TxA (madeG p1 p2 p3) 0 (madeG p1 p2 p3):=TxA.refl _
 have hsz:(madeG p1 p2 p3).size=8+p1.size+p2.size+p3.size:=by
  unfold madeG;simp only[ByteArray.size_append]
  have a1:ruleA.size=2:=rfl
  have a2:ruleB.size=3:=rfl
  have a3:ruleC.size=3:=rfl
  omega
 obtain ⟨s,es⟩:∃ s,s=madeG p1 p2 p3:=⟨_,rfl⟩
 rw[← es] at hs hsz ⊢
 have c5:TxA s 0 (ruleA++p1++ruleB++p2++ruleC++p3):=by rw[es];exact hall
 have a6:TxA s (5+3+p1.size+p2.size) p3:=by
  have h:=c5.snd
  rw[show 5+3+p1.size+p2.size=0+(ruleA++p1++ruleB++p2++ruleC).size by
   simp only[ByteArray.size_append]
   have a1:ruleA.size=2:=rfl
   have a2:ruleB.size=3:=rfl
   have a3:ruleC.size=3:=rfl
   omega]
  exact h
 have a5:TxA s (5+p1.size+p2.size) ruleC:=by
  have h:=c5.fst.snd
  rw[show 5+p1.size+p2.size=0+(ruleA++p1++ruleB++p2).size by
   simp only[ByteArray.size_append]
   have a1:ruleA.size=2:=rfl
   have a2:ruleB.size=3:=rfl
   omega]
  exact h
 have a4:TxA s (5+p1.size) p2:=by
  have h:=c5.fst.fst.snd
  rw[show 5+p1.size=0+(ruleA++p1++ruleB).size by
   simp only[ByteArray.size_append]
   have a1:ruleA.size=2:=rfl
   have a2:ruleB.size=3:=rfl
   omega]
  exact h
 have a3:TxA s (2+p1.size) ruleB:=by
  have h:=c5.fst.fst.fst.snd
  rw[show 2+p1.size=0+(ruleA++p1).size by
   simp only[ByteArray.size_append]
   have a1:ruleA.size=2:=rfl
   omega]
  exact h
 have a2:TxA s 2 p1:=c5.fst.fst.fst.fst.snd
 have a1:TxA s 0 ruleA:=c5.fst.fst.fst.fst.fst
 obtain ⟨_,q1,r1⟩:=h1
 obtain ⟨_,q2,r2⟩:=h2
 obtain ⟨_,q3,r3⟩:=h3
 obtain ⟨i1,e1,g1,w1⟩:=r1 s 0 2 (s.size+1) a2 (by omega)
 obtain ⟨i2,e2,g2,w2⟩:=r2 s 1 (5+p1.size) (s.size+1) a4 (by omega)
 obtain ⟨i3,e3,g3,w3⟩:=r3 s 2 (5+3+p1.size+p2.size) (s.size+1) a6 (by omega)
 have b0:bt s 0=65:=a1 0 (by decide)
 have b1:bt s 1=61:=a1 1 (by decide)
 have b2:bt s (2+p1.size)=59:=a3 0 (by decide)
 have b3:bt s (2+p1.size+1)=66:=a3 1 (by decide)
 have b4:bt s (2+p1.size+2)=61:=a3 2 (by decide)
 have b5:bt s (5+p1.size+p2.size)=59:=a5 0 (by decide)
 have b6:bt s (5+p1.size+p2.size+1)=67:=a5 1 (by decide)
 have b7:bt s (5+p1.size+p2.size+2)=61:=a5 2 (by decide)
 have hf:formV s=⟨true,s.size,[⟨0,0,i1⟩,⟨1,2+p1.size+1,i2⟩,⟨2,5+p1.size+p2.size+1,i3⟩]⟩:=by
  unfold formV
  rw[rules_more s 6 65 0 (2+p1.size) 0 i1 (by rw[b0];rfl) (by decide) b1 e1 (by omega) b2,
   rules_more s 5 72 (2+p1.size+1) (5+p1.size+p2.size) 1 i2 (by rw[b3];rfl) (by decide) b4 (by rw[show 2+p1.size+1+2=5+p1.size by omega];exact e2) (by omega) b5,
   rules_last s 5 72 (5+p1.size+p2.size+1) 2 i3 (by rw[b6];rfl) (by decide) b7 (by rw[show 5+p1.size+p2.size+1+2=5+3+p1.size+p2.size by omega];rw[show ((2:Nat):Int)=2 from rfl,e3];congr 1;omega)]
  simp[RRes.pre]
 unfold pressV
 rw[if_neg (by omega),hf]
 simp only[Bool.true_eq_false,if_false]
 have hth1:inR [⟨0,0,i1⟩,⟨1,2+p1.size+1,i2⟩,⟨2,5+p1.size+p2.size+1,i3⟩] 1=true:=by simp[inR,hasR]
 have hth2:inR [⟨0,0,i1⟩,⟨1,2+p1.size+1,i2⟩,⟨2,5+p1.size+p2.size+1,i3⟩] 2=true:=by simp[inR,hasR]
 generalize inR [⟨0,0,i1⟩,⟨1,2+p1.size+1,i2⟩,⟨2,5+p1.size+p2.size+1,i3⟩]=th at *
 have hsc:scanR th [] [⟨0,0,i1⟩,⟨1,2+p1.size+1,i2⟩,⟨2,5+p1.size+p2.size+1,i3⟩]=(0,false):=by
  rw[scanR,if_neg (by simp[hasR]),if_neg (by rw[firstMiss_refs th hth1 hth2 i1 g1.refs];simp),scanR,if_neg (by simp[hasR]),if_neg (by rw[firstMiss_refs th hth1 hth2 i2 g2.refs];simp),scanR,if_neg (by simp[hasR]),if_neg (by rw[firstMiss_refs th hth1 hth2 i3 g3.refs];simp),scanR]
 rw[hsc]
 have hw:wrongD (s.size+1) [⟨0,0,i1⟩,⟨1,2+p1.size+1,i2⟩,⟨2,5+p1.size+p2.size+1,i3⟩] (0,false)=(0,false):=by
  have l1:=g1.len
  have l2:=g2.len
  have l3:=g3.len
  simp only[wrongD,List.foldl_cons,List.foldl_nil]
  rw[w1 _ _ _ _ (by omega),w2 _ _ _ _ (by omega),w3 _ _ _ _ (by omega)]
 rw[hw]
 simp
theorem endT_kinds (o:PO)(he:ErrT o):((endT o).2.1=0∨(endT o).2.1=8∨(endT o).2.1=6∨(endT o).2.1=7)∧((endT o).2.1=6∨(endT o).2.1=7→(endT o).1=[]∧(endT o).2.2=0)∧((endT o).2.1=0∨(endT o).2.1=8→o.e=0):=by
 unfold endT
 by_cases h0:o.e=0
 · rw[if_neg (fun h=>h h0)]
   by_cases h1:o.ok=false
   · rw[if_pos h1];simp[h0]
   · rw[if_neg h1]
     cases o.st.rd.findIdx? (fun b=>!b)<;>simp[h0]
 · rw[if_pos h0]
   rcases he with h | h | h
   · exact absurd h h0
   · simp[h]
   · simp[h]
theorem parseV_in (s bs:ByteArray)(n v:Nat)(hp:pressV s=(0,0))(hbs:bs.size≤4000)(hn:n≤100000)(hv:v≤10000):
 parseV s bs n v=((endT (outT s bs n v)).1,((endT (outT s bs n v)).2.1:Int),((endT (outT s bs n v)).2.2:Int)):=by
 unfold parseV
 rw[if_neg (by rw[hp];simp),if_neg (by unfold badBud budB;simp;omega)]
 simp only[Int.toNat_natCast]
theorem plain_ok:pressV ⟨#[65,61,110,49]⟩=(0,0):=by decide +kernel
theorem known:parseV ⟨#[65,61,40,110,49,108,50,41]⟩ ⟨#[5,1,2]⟩ 9 9=([40,53,32,53,49,51,41],0,0):=by decide +kernel
theorem RowN.up {w:World}{a b:Nat}{v:Value}{l:List Int}(h:RowN w a v l)(hab:a≤b):RowN w b v l:=by
 obtain ⟨h1,h2,o,cap,h3,h4⟩:=h
 refine ⟨h1,h2,o,cap,h3,fun i hi=>?_⟩
 obtain ⟨g,k,e,hg,hc⟩:=h4 i hi
 exact ⟨g,k,e,by omega,hc⟩
theorem RowN.below {w w':World}{v:Value}{l:List Int}(h:RowN w w.heap.size v l)(hb:Below w.heap.size w w'):RowN w' w'.heap.size v l:=(h.heap fun k hk=>hb.block k hk).up hb.size
set_option maxRecDepth 100000 in
set_option maxHeartbeats 1000000 in
theorem parsed_calls (w:World)(hS:Shp w)(hP:PowW w):Calls Tryz.prog 15 #[] w fun e w'=>e=.returned (.bool true)∧Below w.heap.size w w':=by
 have HC:=hide' (pface_calls ⟨#[65,61,40,110,49,108,50,41]⟩ ⟨#[5,1,2]⟩ (by unfold maxLen;decide) (by unfold maxLen;decide) 9 9 w hS hP)
 rw[known] at HC
 clear hS hP
 go_enter Tryz.func15,Tryz.ntmps15
 go_wp2_with fail
 refine HC.out.mono ?_
 rintro e w1 ⟨rfl,hb⟩
 have HB:=hide' hb
 clear hb HC
 go_wp2_with fail
 go_ret
 exact ⟨rfl,HB.out⟩
def tkOk (s:ByteArray)(i:Nat)(a b:Int):Bool:=decide (i<s.size∧a≤bt s i∧bt s i≤b)
theorem tkOk_lt {s:ByteArray}{i:Nat}{a b:Int}(h:tkOk s i a b=true):i<s.size:=(of_decide_eq_true h).1
theorem tkOk_bt {s:ByteArray}{i:Nat}{a b:Int}(h:tkOk s i a b=true):a≤bt s i∧bt s i≤b:=(of_decide_eq_true h).2
structure Nd (T:Type) where
 k:Nat
 n:Nat
 run:List UInt8
 kids:List T
def Tr:Nat→Type
 | 0=>Empty
 | n+1=>Nd (Tr n)
def digV (s:ByteArray)(a:Nat):Nat:=(bt s a-48).toNat
def rdNum (s:ByteArray):Nat→Nat→Nat→Nat × Nat
 | 0,n,a=>(n,a)
 | f+1,n,a=>if tkOk s a 48 57 then rdNum s f (min (n*10+digV s a) 4294967296) (a+1) else (n,a)
def numV (T:Type)(s:ByteArray)(a:Nat):Option (Nd T) × Nat:=
 if tkOk s a 48 48 then (some ⟨0,0,[],[]⟩,a+1)
 else if tkOk s a 49 57 then (if 4294967295<(rdNum s s.size 0 a).1 then (none,(rdNum s s.size 0 a).2) else (some ⟨0,(rdNum s s.size 0 a).1,[],[]⟩,(rdNum s s.size 0 a).2))
 else (none,a)
def rdRun (s:ByteArray):Nat→Nat→List UInt8→Option (List UInt8) × Nat
 | 0,a,_=>(none,a)
 | f+1,a,acc=>
  if tkOk s a 34 34 then (some acc,a+1)
  else if hexV (bt s a)<0 then (none,a)
  else if hexV (bt s (a+1))<0 then (none,a+1)
  else rdRun s f (a+2) (acc++[UInt8.ofNat (16*hexV (bt s a)+hexV (bt s (a+1))).toNat])
def runO (T:Type)(r:Option (List UInt8) × Nat):Option (Nd T) × Nat:=(r.1.map fun l=>⟨2,0,l,[]⟩,r.2)
def rdBetw {T:Type}(R:Nat→Option T × Nat)(s:ByteArray)(cl:Int):Nat→Nat→List T→Option (List T) × Nat
 | 0,a,_=>(none,a)
 | f+1,a,acc=>
  match (R a).1 with
  | none=>(none,(R a).2)
  | some v=>if tkOk s (R a).2 cl cl then (some (acc++[v]),(R a).2+1) else if tkOk s (R a).2 32 32 then rdBetw R s cl f ((R a).2+1) (acc++[v]) else (none,(R a).2)
def betwO {T:Type}(k:Nat)(r:Option (List T) × Nat):Option (Nd T) × Nat:=(r.1.map fun l=>⟨k,0,[],l⟩,r.2)
def betwV {T:Type}(R:Nat→Option T × Nat)(s:ByteArray)(k:Nat)(cl:Int)(a:Nat):Option (Nd T) × Nat:=
 if tkOk s a cl cl then (some ⟨k,0,[],[]⟩,a+1) else betwO k (rdBetw R s cl s.size a [])
def choO {T:Type}(d:Nat)(r:Option T × Nat):Option (Nd T) × Nat:=(r.1.map fun v=>⟨5,d,[],[v]⟩,r.2)
def choV {T:Type}(R:Nat→Option T × Nat)(s:ByteArray)(a:Nat):Option (Nd T) × Nat:=
 if tkOk s a 48 49 then (if tkOk s (a+1) 32 32 then choO (digV s a) (R (a+2)) else (none,a+1)) else (none,a)
def valX {T:Type}(R:Nat→Option T × Nat)(s:ByteArray)(a:Nat):Option (Nd T) × Nat:=
 if tkOk s a 45 45 then (some ⟨1,0,[],[]⟩,a+1)
 else if tkOk s a 34 34 then runO T (rdRun s s.size (a+1) [])
 else if tkOk s a 40 40 then betwV R s 3 41 (a+1)
 else if tkOk s a 91 91 then betwV R s 4 93 (a+1)
 else if tkOk s a 47 47 then choV R s (a+1)
 else numV T s a
def valV (s:ByteArray):(n:Nat)→Nat→Option (Tr n) × Nat
 | 0,a=>(none,a)
 | n+1,a=>valX (valV s n) s a
def treeV (s:ByteArray):Option (Tr (s.size+1)) × Nat:=
 if 8000<s.size then (none,0)
 else if (valV s (s.size+1) 0).2=s.size then valV s (s.size+1) 0 else (none,(valV s (s.size+1) 0).2)
theorem rdNum_at (s:ByteArray)(f:Nat):∀ n a,a≤s.size→a≤(rdNum s f n a).2∧(rdNum s f n a).2≤s.size:=by
 induction f with
 | zero=>intro n a h;exact ⟨Nat.le_refl _,h⟩
 | succ f ih=>
  intro n a h
  rw[rdNum]
  split
  · rename_i ht
    have:=ih (min (n*10+digV s a) 4294967296) (a+1) (tkOk_lt ht)
    omega
  · exact ⟨Nat.le_refl _,h⟩
theorem rdRun_at (s:ByteArray)(f:Nat):∀ a acc,a≤s.size→a≤(rdRun s f a acc).2∧(rdRun s f a acc).2≤s.size:=by
 induction f with
 | zero=>intro a acc h;exact ⟨Nat.le_refl _,h⟩
 | succ f ih=>
  intro a acc h
  have hx:∀ i,¬ hexV (bt s i)<0→i<s.size:=fun i hi=>by
   by_cases hl:i<s.size
   · exact hl
   · rw[bt_out s i hl] at hi;exact absurd (by decide) hi
  rw[rdRun]
  split
  · rename_i ht;have:=tkOk_lt ht;simp only;omega
  · split
    · exact ⟨Nat.le_refl _,h⟩
    · rename_i h1
      have:=hx _ h1
      split
      · simp only;omega
      · rename_i h2
        have:=hx _ h2
        have:=ih (a+2) (acc++[UInt8.ofNat (16*hexV (bt s a)+hexV (bt s (a+1))).toNat]) (by omega)
        omega
structure RdO {T:Type} (s:ByteArray) (a:Nat) (r:Option T × Nat):Prop where
 ge:a≤r.2
 le:r.2≤s.size
 lt:r.1.isSome=true→a<r.2
def VlAt {T:Type}(s:ByteArray)(R:Nat→Option T × Nat):Prop:=∀ a,a≤s.size→RdO s a (R a)
theorem rdBetw_at {T:Type}(s:ByteArray)(R:Nat→Option T × Nat)(hR:VlAt s R)(cl:Int)(f:Nat):∀ a acc,a≤s.size→a≤(rdBetw R s cl f a acc).2∧(rdBetw R s cl f a acc).2≤s.size:=by
 induction f with
 | zero=>intro a acc h;exact ⟨Nat.le_refl _,h⟩
 | succ f ih=>
  intro a acc h
  have h1:=hR a h
  have h2:=h1.ge
  have h3:=h1.le
  rw[rdBetw]
  split
  · exact ⟨h2,h3⟩
  · split
    · rename_i ht;have:=tkOk_lt ht;simp only;omega
    · split
      · rename_i v _ _ ht
        have:=tkOk_lt ht
        have:=ih ((R a).2+1) (acc++[v]) (by omega)
        omega
      · exact ⟨h2,h3⟩
theorem numV_at (T:Type)(s:ByteArray)(a:Nat)(h:a≤s.size):RdO s a (numV T s a):=by
 unfold numV
 split
 · rename_i ht;have:=tkOk_lt ht;exact ⟨by simp only;omega,by simp only;omega,fun _=>by simp only;omega⟩
 · split
   · rename_i ht
     have hl:=tkOk_lt ht
     have hb:=tkOk_bt ht
     have hr:=rdNum_at s s.size 0 a h
     have hg:a<(rdNum s s.size 0 a).2:=by
      obtain ⟨f,hf⟩:∃ f,s.size=f+1:=⟨s.size-1,by omega⟩
      rw[hf,rdNum,if_pos (show tkOk s a 48 57=true from decide_eq_true ⟨hl,by omega,by omega⟩)]
      have:=rdNum_at s f (min (0*10+digV s a) 4294967296) (a+1) (by omega)
      omega
     split
     · exact ⟨hr.1,hr.2,fun e=>by cases e⟩
     · exact ⟨hr.1,hr.2,fun _=>hg⟩
   · exact ⟨Nat.le_refl _,h,fun e=>by cases e⟩
theorem valX_at {T:Type}(s:ByteArray)(R:Nat→Option T × Nat)(hR:VlAt s R):VlAt s (valX R s):=by
 intro a h
 have hb:∀ k cl,a<s.size→RdO s a (betwV R s k cl (a+1)):=fun k cl hl=>by
  unfold betwV
  split
  · rename_i ht;have:=tkOk_lt ht;exact ⟨by simp only;omega,by simp only;omega,fun _=>by simp only;omega⟩
  · have:=rdBetw_at s R hR cl s.size (a+1) [] (by omega)
    exact ⟨by simp only[betwO];omega,by simp only[betwO];omega,fun _=>by simp only[betwO];omega⟩
 unfold valX
 split
 · rename_i ht;have:=tkOk_lt ht;exact ⟨by simp only;omega,by simp only;omega,fun _=>by simp only;omega⟩
 split
 · rename_i ht;have:=tkOk_lt ht
   have:=rdRun_at s s.size (a+1) [] (by omega)
   exact ⟨by simp only[runO];omega,by simp only[runO];omega,fun _=>by simp only[runO];omega⟩
 split
 · rename_i ht;exact hb 3 41 (tkOk_lt ht)
 split
 · rename_i ht;exact hb 4 93 (tkOk_lt ht)
 split
 · rename_i ht;have:=tkOk_lt ht
   unfold choV
   split
   · rename_i h1;have:=tkOk_lt h1
     split
     · rename_i h2;have:=tkOk_lt h2
       have h3:=hR (a+1+2) (by omega)
       have:=h3.ge
       have:=h3.le
       exact ⟨by simp only[choO];omega,by simp only[choO];omega,fun _=>by simp only[choO];omega⟩
     · exact ⟨by simp only;omega,by simp only;omega,fun e=>by cases e⟩
   · exact ⟨by simp only;omega,by simp only;omega,fun e=>by cases e⟩
 · exact numV_at T s a h
theorem valV_at (s:ByteArray)(n:Nat):VlAt s (valV s n):=by
 induction n with
 | zero=>intro a h;exact ⟨Nat.le_refl _,h,fun e=>by cases e⟩
 | succ n ih=>exact valX_at s _ ih
def inn:List It→List It
 | []=>[]
 | x::r=>if inB [119,64,115] x.c then inn r else x::r
def ruleEnd (G:Nat→List It):Nat→List It→Option (List It)
 | 0,_=>none
 | _+1,[]=>none
 | k+1,x::_=>match G x.r.toNat with
  | []=>none
  | y::r=>if y.c=82 then ruleEnd G k (y::r) else some (y::r)
def hasKids {T:Type}(H:List It→T→Bool):List (List It)→List T→Bool
 | [],vs=>vs.isEmpty
 | k::ks,vs=>if silV k then hasKids H ks vs else match vs with
  | []=>false
  | y::ys=>H k y&&hasKids H ks ys
def headB {T:Type}(H:T→Bool):List T→Bool
 | []=>false
 | y::_=>H y
def withinB (n w:Nat):Bool:=decide (n<256 ^ w)
def hasTop {T:Type}(H:List It→T→Bool):List It→Nd T→Bool
 | [],_=>false
 | x::r,v=>
  if x.c=110∨x.c=108 then decide (v.k=0)&&withinB v.n x.w.toNat
  else if x.c=39 then decide (v.k=1)
  else if x.c=114∨x.c=46 then decide (v.k=2)
  else if x.c=40 then decide (v.k=3)&&hasKids H (segs r.length r) v.kids
  else if x.c=47 then decide (v.k=5)&&headB (H ((segs r.length r).getD v.n [])) v.kids
  else if x.c=42∨x.c=116 then decide (v.k=4)&&v.kids.all (H r)
  else false
def hasQ {T:Type}(G:Nat→List It)(H:List It→T→Bool)(k:List It)(v:Nd T):Bool:=
 match k with
 | []=>false
 | x::r=>if x.c=82 then (match ruleEnd G 8 (x::r) with | none=>false | some q=>hasTop H q v) else hasTop H (x::r) v
def hasT (G:Nat→List It):(n:Nat)→List It→Tr n→Bool
 | 0,_,_=>false
 | n+1,k,v=>hasQ G (hasT G n) (inn k) v
def lowB:Nat→Nat→List UInt8
 | 0,_=>[]
 | w+1,n=>UInt8.ofNat (n % 256)::lowB w (n / 256)
def numB (low:Bool)(w n:Nat):List UInt8:=if low then lowB w n else (lowB w n).reverse
theorem lowB_length (w:Nat):∀ n,(lowB w n).length=w:=by
 induction w with
 | zero=>intro n;rfl
 | succ w ih=>intro n;simp[lowB,ih]
theorem numB_length (low:Bool)(w n:Nat):(numB low w n).length=w:=by unfold numB;split<;>simp[lowB_length]
structure Ho where
 pl:Nat
 w:Nat
 low:Bool
structure Wt where
 its:List It
 n:Nat
 v:Nd (Tr n)
 hid:Nat
 ho:Ho
structure Sp where
 a:Nat
 b:Nat
 ho:Ho
structure Wr where
 out:List UInt8
 wide:Bool
 wait:List Wt
 sums:List (List Sp)
 hol:List (Nat→Option Ho)
def Wr0:Wr:=⟨[],false,[],[],[]⟩
def ho0:Ho:=⟨0,0,false⟩
def holeOf (st:Wr)(hid:Option Nat)(d:Nat):Ho:=match hid with
 | none=>ho0
 | some i=>((st.hol.getD i fun _=>none) d).getD ho0
def putAt (out:List UInt8)(h:Ho)(n:Nat):List UInt8:=out.take h.pl++numB h.low h.w n++out.drop (h.pl+h.w)
def wPut (st:Wr)(h:Ho)(n:Nat):Wr:={ st with out:=putAt st.out h n }
def wTell (st:Wr)(h:Ho)(n:Nat):Wr:=wPut { st with wide:=st.wide || !withinB n h.w } h n
def wOut (st:Wr)(l:List UInt8):Wr:={ st with out:=st.out++l }
def wHide (st:Wr)(i d:Nat)(h:Ho):Wr:={ st with hol:=st.hol.modify i fun f k=>if k=d then some h else f k }
def wSum (st:Wr)(s:Sp):Wr:={ st with sums:=st.sums.dropLast++[st.sums.getLastD []++[s]] }
def wWait (st:Wr)(e:Wt):Wr:={ st with wait:=st.wait++[e] }
def wSil (k:List It)(i:Nat)(st:Wr):Wr:=match k with
 | []=>st
 | x::_=>if x.c=39 then wOut st [UInt8.ofNat x.b.toNat]
  else wOut (wHide st i x.d.toNat ⟨st.out.length,x.w.toNat,decide (x.c=107)⟩) (List.replicate x.w.toNat 0)
def wKids {T:Type}(W:List It→Option Nat→T→Wr→Wr)(i:Nat):List (List It)→List T→Wr→Wr
 | [],_,st=>st
 | k::ks,vs,st=>if silV k then wKids W i ks vs (wSil k i st) else match vs with
  | []=>st
  | y::ys=>wKids W i ks ys (W k (some i) y st)
def wMany {T:Type}(W:List It→Option Nat→T→Wr→Wr)(k:List It):List T→Wr→Wr
 | [],st=>st
 | y::ys,st=>wMany W k ys (W k none y st)
def wHead {T:Type}(W:T→Wr→Wr)(vs:List T)(st:Wr):Wr:=match vs with
 | []=>st
 | y::_=>W y st
def wTop {T:Type}(W:List It→Option Nat→T→Wr→Wr)(k:List It)(hid:Option Nat)(v:Nd T)(st:Wr):Wr:=match k with
 | []=>st
 | x::r=>
  if x.c=110 then wOut st (numB false x.w.toNat v.n)
  else if x.c=108 then wOut st (numB true x.w.toNat v.n)
  else if x.c=39 then wOut st [UInt8.ofNat x.b.toNat]
  else if x.c=46 then wOut st v.run
  else if x.c=114 then wOut (wTell st (holeOf st hid x.d.toNat) v.run.length) v.run
  else if x.c=40 then wKids W st.hol.length (segs r.length r) v.kids { st with hol:=st.hol++[fun _=>none] }
  else if x.c=47 then wHead (W ((segs r.length r).getD v.n []) none) v.kids st
  else if x.c=42 then wMany W r v.kids st
  else if x.c=116 then wMany W r v.kids (wTell st (holeOf st hid x.d.toNat) v.kids.length)
  else st
def wIn {n:Nat}(G:Nat→List It)(W:List It→Option Nat→Tr n→Wr→Wr):List It→Option Nat→Nd (Tr n)→Wr→Wr
 | [],_,_,st=>st
 | x::r,hid,v,st=>
  if x.c=119 then wTell (wIn G W r hid v st) (holeOf (wIn G W r hid v st) hid x.d.toNat) ((wIn G W r hid v st).out.length-st.out.length)
  else if x.c=115 then wSum (wIn G W r hid v st) ⟨st.out.length,(wIn G W r hid v st).out.length,holeOf (wIn G W r hid v st) hid x.d.toNat⟩
  else if x.c=64 then wWait st ⟨r,n,v,hid.getD 0,holeOf st hid x.d.toNat⟩
  else if x.c=82 then (match ruleEnd G 8 (x::r) with | none=>st | some q=>wTop W q none v st)
  else wTop W (x::r) hid v st
def writeT (G:Nat→List It):(n:Nat)→List It→Option Nat→Tr n→Wr→Wr
 | 0,_,_,_,st=>st
 | n+1,k,hid,v,st=>wIn G (writeT G n) k hid v st
def wPiece (G:Nat→List It)(n:Nat)(k:List It)(hid:Option Nat)(v:Nd (Tr n))(st:Wr):Wr:=wIn G (writeT G n) k hid v { st with sums:=st.sums++[[]] }
def wRest (G:Nat→List It):Nat→Wr→Wr
 | 0,st=>st
 | f+1,st=>match st.wait with
  | []=>st
  | e::ws=>wRest G f (wPiece G e.n e.its (some e.hid) e.v (wTell { st with wait:=ws } e.ho st.out.length))
def putSp (out:List UInt8)(s:Sp):List UInt8:=putAt out s.ho (sumV ⟨((out.drop s.a).take (s.b-s.a)).toArray⟩ s.ho.w (s.b-s.a))
def putSums (st:Wr):List UInt8:=st.sums.reverse.foldl (fun o l=>l.foldl putSp o) st.out
def szT:(n:Nat)→Tr n→Nat
 | 0,_=>0
 | n+1,v=>1+(v:Nd (Tr n)).run.length+((v:Nd (Tr n)).kids.map (szT n)).sum
def szN {n:Nat}(v:Nd (Tr n)):Nat:=1+v.run.length+(v.kids.map (szT n)).sum
def genT (G:Nat→List It)(n:Nat)(v:Nd (Tr n))(most:Nat):List UInt8 × Int:=
 if hasT G (n+1) (G 0) v=false then ([],10)
 else
  let st:=wRest G ((G 0).length+1001*szN v) (wPiece G n (G 0) none v Wr0)
  if most<st.out.length then ([],11) else if st.wide then ([],12) else (putSums st,0)
end Go.Proofs.YtmlkhhhjdpbhfaaGreatDoor

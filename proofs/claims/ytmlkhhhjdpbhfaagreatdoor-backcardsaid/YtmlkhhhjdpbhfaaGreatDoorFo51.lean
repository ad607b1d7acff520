import Derived.Test.YtmlkhhhjdpbhfaaGreatDoorFo50
import Derived.Test.YtmlkhhhjdpbhfaaGreatDoorFo33
import Derived.Test.YtmlkhhhjdpbhfaaGreatDoorFo13
namespace Go.Proofs.YtmlkhhhjdpbhfaaGreatDoor
open Go.RowKit
theorem treeV_le (s:ByteArray):(treeV s).2≤s.size:=by
 have h:=(valV_at s (s.size+1) 0 (Nat.zero_le _)).le
 unfold treeV
 split
 · exact Nat.zero_le _
 · split
   · exact h
   · exact h
theorem treeV_pos (s:ByteArray)(v:Tr (s.size+1))(h:(treeV s).1=some v):0<s.size:=by
 unfold treeV at h
 split at h
 · cases h
 · split at h
   · have h1:=valV_sz s (s.size+1) 0 v h
     have h2:=(valV_at s (s.size+1) 0 (Nat.zero_le _)).le
     have h3:szT (s.size+1) v=1+_+_:=rfl
     omega
   · cases h
theorem genT_code (G:Nat→List It)(n:Nat)(v:Nd (Tr n))(most:Nat):(genT G n v most).2=0∨(genT G n v most).2=10∨(genT G n v most).2=11∨(genT G n v most).2=12:=by
 unfold genT
 split
 · exact Or.inr (Or.inl rfl)
 · simp only
   split
   · exact Or.inr (Or.inr (Or.inl rfl))
   · split
     · exact Or.inr (Or.inr (Or.inr rfl))
     · exact Or.inl rfl
theorem endT_text (o:PO)(h:(endT o).2.1≠0):(endT o).1=[]:=by
 unfold endT at h ⊢
 split
 · rfl
 · rename_i h1
   rw[if_neg h1] at h
   split
   · rfl
   · rename_i h2
     rw[if_neg h2] at h
     split
     · rfl
     · rename_i h3
       rw[h3] at h
       exact absurd rfl h
structure BackOk (s tr:ByteArray) (m:Nat) (q:List UInt8 × Int × Int):Prop where
 no:q.2.1≠0→q.1=[]∧(q.2.1=9∨q.2.1=10∨q.2.1=11∨q.2.1=12∨q.2.1=13)∧(q.2.2=0∨(q.2.1=9∧0<q.2.2∧q.2.2≤(tr.size:Int)))
 yes:q.2.1=0→q.1.length≤m→(⟨(parseV s ⟨q.1.toArray⟩ 100000 10000).1.toArray⟩:ByteArray)=tr∧(parseV s ⟨q.1.toArray⟩ 100000 10000).2.1=0
theorem back_ok (s tr:ByteArray)(m:Nat)(hm:m≤4000)(hp:pressV s=(0,0)):BackOk s tr m (genV s tr m):=by
 have hz:(pressV s).1=0:=by rw[hp]
 have hbud:budB (m:Int) 4000=true:=by unfold budB;simp;omega
 unfold genV
 rw[if_neg (fun h=>h hz)]
 cases ht:(treeV tr).1 with
 | none=>
  have:=treeV_le tr
  refine ⟨fun _=>⟨rfl,Or.inl rfl,?_⟩,fun h=>by cases h⟩
  by_cases h0:(treeV tr).2=0
  · exact Or.inl (by simp only;omega)
  · exact Or.inr ⟨rfl,by simp only;omega,by simp only;omega⟩
 | some v=>
  have hpos:=treeV_pos tr v ht
  simp only[Int.toNat_natCast]
  rw[if_neg (by rw[hbud];simp)]
  have hcode:=genT_code (rulePt (rlsOf s)) tr.size v m
  split
  · rename_i h0
    have h0':(genT (rulePt (rlsOf s)) tr.size v m).2≠0:=h0
    refine ⟨fun _=>⟨rfl,?_,Or.inl rfl⟩,fun h=>absurd h h0⟩
    show (genT (rulePt (rlsOf s)) tr.size v m).2=9∨(genT (rulePt (rlsOf s)) tr.size v m).2=10∨(genT (rulePt (rlsOf s)) tr.size v m).2=11∨(genT (rulePt (rlsOf s)) tr.size v m).2=12∨(genT (rulePt (rlsOf s)) tr.size v m).2=13
    omega
  · split
    · rename_i heq
      refine ⟨fun h=>absurd rfl h,fun _ hl=>?_⟩
      simp only at hl ⊢
      have hsz:(⟨(genO s tr v m).1.toArray⟩:ByteArray).size≤4000:=by
       show (genO s tr v m).1.toArray.size≤4000
       rw[List.size_toArray];omega
      have hpv:=parseV_in s ⟨(genO s tr v m).1.toArray⟩ 100000 10000 hp hsz (by omega) (by omega)
      have hpv':parseV s ⟨(genO s tr v m).1.toArray⟩ 100000 10000=_:=hpv
      rw[hpv']
      refine ⟨heq,?_⟩
      by_cases he:(endT (outT s ⟨(genO s tr v m).1.toArray⟩ 100000 10000)).2.1=0
      · simp only;omega
      · rw[endT_text _ he] at heq
        have h1:=congrArg ByteArray.size heq
        have h2:(⟨([]:List UInt8).toArray⟩:ByteArray).size=0:=rfl
        omega
    · exact ⟨fun _=>⟨rfl,Or.inr (Or.inr (Or.inr (Or.inr rfl))),Or.inl rfl⟩,fun h=>by cases h⟩
theorem known2:genV ⟨#[65,61,40,104,49,97,64,97,40,104,49,98,114,98,41,110,49,41]⟩ ⟨#[40,40,34,52,49,34,41,32,55,41]⟩ 99=([2,7,1,65],0,0):=by decide +kernel
set_option maxRecDepth 100000 in
set_option maxHeartbeats 1000000 in
theorem awake_calls (w:World)(hS:Shp w)(hP:PowW w):Calls Tryz.prog 17 #[] w fun e w'=>e=.returned (.bool true)∧Below w.heap.size w w':=by
 have HPa:=hide' (parsed_calls w hS hP)
 have HG:=hide' (fun W (hb:Below w.heap.size w W)=>gface_calls ⟨#[65,61,40,104,49,97,64,97,40,104,49,98,114,98,41,110,49,41]⟩ ⟨#[40,40,34,52,49,34,41,32,55,41]⟩ (by unfold maxLen;decide) (by unfold maxLen;decide) 99 W (hS.below hb) (hP.below hb))
 rw[known2] at HG
 clear hS hP
 go_enter Tryz.func17,Tryz.ntmps17
 go_wp2_with fail
 refine HPa.out.mono ?_
 rintro e w1 ⟨rfl,hb⟩
 have HC:=hide' (HG.out w1 hb)
 have HB:=hide' hb
 clear hb HPa HG
 go_wp2_with fail
 refine HC.out.mono ?_
 rintro e w2 ⟨rfl,hb2,_⟩
 have HB2:=hide' (HB.out.trans (hb2.mono HB.out.size))
 clear hb2 HC
 go_wp2_with fail
 go_ret
 exact ⟨rfl,HB2.out⟩
def Pos (s:ByteArray)(a:Nat)(l:List UInt8):Prop:=s.data.toList.drop a=l∧a≤s.size
theorem size_toList (s:ByteArray):s.data.toList.length=s.size:=by rw[Array.length_toList];rfl
theorem Pos.cons {s:ByteArray}{a:Nat}{c:UInt8}{l:List UInt8}(h:Pos s a (c::l)):a<s.size∧bt s a=c.toNat∧Pos s (a+1) l:=by
 have hl:a<s.data.toList.length:=by
  have:=congrArg List.length h.1
  simp at this
  simp
  omega
 have h2:=h.1
 rw[List.drop_eq_getElem_cons hl] at h2
 injection h2 with h3 h4
 rw[size_toList] at hl
 refine ⟨hl,?_,h4,by omega⟩
 unfold bt
 rw[dif_pos hl]
 have:s[a]=c:=h3
 rw[this]
theorem Pos.app {s:ByteArray}:∀ {x:List UInt8} {a:Nat} {l:List UInt8},Pos s a (x++l)→Pos s (a+x.length) l
 | [],_,_,h=>h
 | c::x,a,l,h=>by
  have:=Pos.app (x:=x) h.cons.2.2
  rw[List.length_cons,show a+(x.length+1)=a+1+x.length by omega]
  exact this
theorem Pos.nil {s:ByteArray}{a:Nat}(h:Pos s a []):a=s.size:=by
 have:=congrArg List.length h.1
 have h2:=h.2
 rw[List.length_drop,size_toList] at this
 simp at this
 omega
theorem Pos.tk {s:ByteArray}{a:Nat}{c:UInt8}{l:List UInt8}(h:Pos s a (c::l))(lo hi:Int):tkOk s a lo hi=decide (lo≤(c.toNat:Int)∧(c.toNat:Int)≤hi):=by
 obtain ⟨h1,h2,_⟩:=h.cons
 unfold tkOk
 rw[h2]
 simp[h1]
theorem Pos.tkNil {s:ByteArray}{a:Nat}(h:Pos s a [])(lo hi:Int):tkOk s a lo hi=false:=by
 have:=h.nil
 unfold tkOk
 simp
 omega
def NoDig (l:List UInt8):Prop:=∀ c r,l=c::r→¬ (48≤c.toNat∧c.toNat≤57)
theorem NoDig.tk {s:ByteArray}{a:Nat}{l:List UInt8}(h:NoDig l)(hp:Pos s a l):tkOk s a 48 57=false:=by
 cases l with
 | nil=>exact hp.tkNil _ _
 | cons c r=>
  rw[hp.tk]
  have:=h c r rfl
  simp
  omega
def digF (n:Nat)(d:UInt8):Nat:=min (n*10+(d.toNat-48)) 4294967296
theorem rdNum_digits {s:ByteArray}{l:List UInt8}(hl:NoDig l):∀ (ds:List UInt8) (f acc a:Nat),(∀ d∈ds,48≤d.toNat∧d.toNat≤57)→Pos s a (ds++l)→ds.length≤f→rdNum s f acc a=(ds.foldl digF acc,a+ds.length)
 | [],f,acc,a,_,hp,_=>by
  cases f with
  | zero=>rfl
  | succ f=>rw[rdNum,if_neg (by rw[hl.tk hp];simp)];rfl
 | d::ds,f,acc,a,hd,hp,hf=>by
  cases f with
  | zero=>simp at hf
  | succ f=>
   have h1:=hd d List.mem_cons_self
   have hp':Pos s a (d::(ds++l)):=hp
   obtain ⟨_,h3,h4⟩:=hp'.cons
   rw[rdNum,if_pos (by rw[hp'.tk];simp;omega),rdNum_digits hl ds f _ (a+1) (fun d h=>hd d (List.mem_cons_of_mem _ h)) h4 (by simpa using hf)]
   have e:digV s a=d.toNat-48:=by unfold digV;rw[h3];omega
   rw[e,List.foldl_cons,List.length_cons]
   exact Prod.ext rfl (by simp only;omega)
theorem dec_digits (u:Nat):(∀ d∈decT u,48≤d.toNat∧d.toNat≤57):=by
 unfold decT
 induction u using Nat.strongRecOn with
 | ind u ih=>
  rw[Lib.decDigits]
  split
  · intro d hd
    simp only[List.mem_singleton] at hd
    subst hd
    simp
    omega
  · rename_i h
    intro d hd
    rcases List.mem_append.1 hd with hd | hd
    · exact ih (u / 10) (by omega) d hd
    · simp only[List.mem_singleton] at hd
      subst hd
      simp
      omega
theorem dec_fold (u:Nat):u<4294967296→(decT u).foldl digF 0=u:=by
 unfold decT
 induction u using Nat.strongRecOn with
 | ind u ih=>
  intro hu
  rw[Lib.decDigits]
  split
  · simp[digF]
    omega
  · rename_i h
    rw[List.foldl_append,ih (u / 10) (by omega) (by omega)]
    simp[digF]
    omega
theorem dec_head (u:Nat)(h0:0<u):∃ c r,decT u=c::r∧49≤c.toNat∧c.toNat≤57:=by
 unfold decT
 induction u using Nat.strongRecOn with
 | ind u ih=>
  rw[Lib.decDigits]
  split
  · exact ⟨_,[],rfl,by simp;omega,by simp;omega⟩
  · rename_i h
    obtain ⟨c,r,e,h1,h2⟩:=ih (u / 10) (by omega) (by omega)
    exact ⟨c,r++[UInt8.ofNat (48+u % 10)],by rw[e];rfl,h1,h2⟩
theorem numV_dec (T:Type){s:ByteArray}{a n:Nat}{l:List UInt8}(hn:n<4294967296)(hp:Pos s a (decT n++l))(hl:NoDig l):numV T s a=(some ⟨0,n,[],[]⟩,a+(decT n).length):=by
 unfold numV
 by_cases h0:n=0
 · subst h0
   have e:decT 0=[48]:=by unfold decT;rw[Lib.decDigits_one (by omega)];rfl
   rw[e] at hp ⊢
   have hp':Pos s a (48::l):=hp
   rw[if_pos (by rw[hp'.tk];decide)]
   rfl
 · obtain ⟨c,r,e,h1,h2⟩:=dec_head n (by omega)
   have hp':Pos s a (c::(r++l)):=by rw[e] at hp;exact hp
   have hlen:(decT n).length≤s.size:=by
    have:=congrArg List.length hp.1
    rw[List.length_drop,size_toList,List.length_append] at this
    omega
   have hr:=rdNum_digits hl (decT n) s.size 0 a (dec_digits n) hp hlen
   rw[dec_fold n hn] at hr
   rw[if_neg (by rw[hp'.tk];simp;omega),if_pos (by rw[hp'.tk];simp;omega),hr]
   simp only
   rw[if_neg (by omega)]
def hexP (run:List UInt8):List UInt8:=run.flatMap fun c=>[hexT (c.toNat / 16),hexT (c.toNat % 16)]
theorem hexT_V (d:Nat)(h:d<16):hexV ((hexT d).toNat:Int)=d∧(hexT d).toNat≠34:=by
 have:∀ d:Fin 16,hexV ((hexT d.1).toNat:Int)=d.1∧(hexT d.1).toNat≠34:=by decide
 exact this ⟨d,h⟩
theorem rdRun_hex {s:ByteArray}{l:List UInt8}:∀ (run:List UInt8) (f a:Nat) (acc:List UInt8),Pos s a (hexP run++34::l)→run.length<f→rdRun s f a acc=(some (acc++run),a+(2*run.length+1))
 | [],f,a,acc,hp,hf=>by
  cases f with
  | zero=>simp at hf
  | succ f=>
   have hp':Pos s a (34::l):=hp
   rw[rdRun,if_pos (by rw[hp'.tk];decide)]
   simp
 | c::run,f,a,acc,hp,hf=>by
  cases f with
  | zero=>simp at hf
  | succ f=>
   have hp':Pos s a (hexT (c.toNat / 16)::hexT (c.toNat % 16)::(hexP run++34::l)):=hp
   have hc:c.toNat<256:=c.toNat_lt
   obtain ⟨q1,q2⟩:=hexT_V (c.toNat / 16) (by omega)
   obtain ⟨r1,r2⟩:=hexT_V (c.toNat % 16) (by omega)
   obtain ⟨_,b1,hp2⟩:=hp'.cons
   obtain ⟨_,b2,hp3⟩:=hp2.cons
   rw[rdRun,if_neg (by rw[hp'.tk];simp;omega),b1,b2,q1,r1,if_neg (by omega),if_neg (by omega),rdRun_hex run f (a+1+1) _ hp3 (by simpa using hf)]
   have e:UInt8.ofNat (16*((c.toNat / 16:Nat):Int)+((c.toNat % 16:Nat):Int)).toNat=c:=by
    rw[show (16*((c.toNat / 16:Nat):Int)+((c.toNat % 16:Nat):Int)).toNat=c.toNat by omega]
    simp
   rw[e]
   simp
   omega
theorem range_flat {β:Type}(F:Nat→List β)(run:List UInt8):∀ (d:Nat) (b:ByteArray),(∀ i,i<run.length→bn b (d+i)=(run.getD i 0).toNat)→((List.range run.length).flatMap fun i=>F (bn b (d+i)))=run.flatMap fun c=>F c.toNat:=by
 induction run with
 | nil=>intro d b _;rfl
 | cons c run ih=>
  intro d b h
  rw[List.length_cons,List.range_succ_eq_map,List.flatMap_cons,List.flatMap_cons]
  have h0:bn b (d+0)=c.toNat:=h 0 (by simp)
  rw[h0]
  congr 1
  rw[List.flatMap_map]
  have:=ih (d+1) b (fun i hi=>by have:=h (i+1) (by simp;omega);rw[show d+1+i=d+(i+1) by omega];simpa using this)
  rw[← this]
  congr 1
  funext i
  rw[show d+Nat.succ i=d+1+i by omega]
theorem quoteT_hex (run:List UInt8):quoteT ⟨run.toArray⟩=34::hexP run++[34]:=by
 unfold quoteT hexP
 have hs:(⟨run.toArray⟩:ByteArray).size=run.length:=by simp[ByteArray.size]
 rw[hs]
 have:=range_flat (fun n=>[hexT (n / 16),hexT (n % 16)]) run 0 ⟨run.toArray⟩ (fun i hi=>by
  unfold bn bt
  rw[Nat.zero_add,dif_pos (by rw[hs];exact hi)]
  have e:(⟨run.toArray⟩:ByteArray)[i]'(by rw[hs];exact hi)=run[i]:=rfl
  rw[e]
  simp[hi])
 simp only[Nat.zero_add] at this
 rw[this]
def txtN {T:Type}(z:T→List UInt8)(v:Nd T):List UInt8:=
 if v.k=0 then decT v.n else if v.k=1 then [45] else if v.k=2 then quoteT ⟨v.run.toArray⟩ else if v.k=3 then 40::joinL (v.kids.map z)++[41] else if v.k=4 then 91::joinL (v.kids.map z)++[93] else 47::UInt8.ofNat (48+v.n)::32::joinL (v.kids.map z)
def txtT:(n:Nat)→Tr n→List UInt8
 | 0,_=>[]
 | n+1,v=>txtN (txtT n) v
def CanN {T:Type}(C:T→Prop)(v:Nd T):Prop:=
 (v.k=0∧v.n<4294967296∧v.run=[]∧v.kids=[])∨(v.k=1∧v.n=0∧v.run=[]∧v.kids=[])∨(v.k=2∧v.n=0∧v.kids=[])∨((v.k=3∨v.k=4)∧v.n=0∧v.run=[]∧∀ y∈v.kids,C y)∨(v.k=5∧v.n<2∧v.run=[]∧∃ y,v.kids=[y]∧C y)
def Can:(n:Nat)→Tr n→Prop
 | 0=>fun _=>False
 | n+1=>CanN (Can n)
theorem txtN_head {T:Type}{C:T→Prop}{z:T→List UInt8}{v:Nd T}(h:CanN C v):∃ c r,txtN z v=c::r∧c.toNat≠41∧c.toNat≠93:=by
 unfold txtN
 rcases h with ⟨h,h2,_,_⟩ | ⟨h,_⟩ | ⟨h,_⟩ | ⟨h | h,_⟩ | ⟨h,_⟩
 · rw[if_pos h]
   have hd:=dec_digits v.n
   cases e:decT v.n with
   | nil=>
    have:(decT v.n).length=0:=by rw[e];rfl
    unfold decT at this
    rw[Lib.decDigits_length] at this
    have:=Lib.nDigits_pos v.n
    omega
   | cons c r=>have:=hd c (by rw[e];exact List.mem_cons_self);exact ⟨c,r,rfl,by omega,by omega⟩
 · rw[if_neg (by omega),if_pos h];exact ⟨_,_,rfl,by decide,by decide⟩
 · rw[if_neg (by omega),if_neg (by omega),if_pos h];exact ⟨_,_,rfl,by decide,by decide⟩
 · rw[if_neg (by omega),if_neg (by omega),if_neg (by omega),if_pos h];exact ⟨_,_,rfl,by decide,by decide⟩
 · rw[if_neg (by omega),if_neg (by omega),if_neg (by omega),if_neg (by omega),if_pos h];exact ⟨_,_,rfl,by decide,by decide⟩
 · rw[if_neg (by omega),if_neg (by omega),if_neg (by omega),if_neg (by omega),if_neg (by omega)];exact ⟨_,_,rfl,by decide,by decide⟩
theorem txt_head {n:Nat}{v:Tr n}(h:Can n v):∃ c r,txtT n v=c::r∧c.toNat≠41∧c.toNat≠93:=by
 cases n with
 | zero=>exact h.elim
 | succ n=>exact txtN_head h
def tailT (ts:List (List UInt8)):List UInt8:=ts.flatMap fun u=>32::u
theorem foldJoin:∀ (ts:List (List UInt8)) (acc:List UInt8),acc≠[]→ts.foldl joinT acc=acc++tailT ts
 | [],acc,_=>by simp[tailT]
 | t::ts,acc,h=>by
  rw[List.foldl_cons,foldJoin ts _ (by unfold joinT;rw[if_neg h];simp)]
  unfold joinT tailT
  rw[if_neg h]
  simp
theorem joinL_cons (t:List UInt8)(ts:List (List UInt8))(h:t≠[]):joinL (t::ts)=t++tailT ts:=by
 unfold joinL
 rw[List.foldl_cons]
 have:joinT [] t=t:=by unfold joinT;simp
 rw[this,foldJoin ts t h]
theorem tailT_len (ts:List (List UInt8)):ts.length≤(tailT ts).length:=by
 induction ts with
 | nil=>simp[tailT]
 | cons t ts ih=>
  unfold tailT at *
  simp only[List.length_cons,List.flatMap_cons,List.length_append]
  omega
def RdB {T:Type}(s:ByteArray)(R:Nat→Option T × Nat)(z:T→List UInt8)(y:T):Prop:=∀ a l,Pos s a (z y++l)→NoDig l→R a=(some y,a+(z y).length)
theorem noDig_cons {c:UInt8}{l:List UInt8}(h:¬ (48≤c.toNat∧c.toNat≤57)):NoDig (c::l):=fun c' r e=>by cases e;exact h
theorem rdBetw_txt {T:Type}{s:ByteArray}{R:Nat→Option T × Nat}{z:T→List UInt8}(cl:UInt8)(hcl:cl.toNat=41∨cl.toNat=93)(l:List UInt8):∀ (ys:List T) (y:T) (f a:Nat) (acc:List T),(∀ u∈y::ys,RdB s R z u)→Pos s a (z y++(tailT (ys.map z)++cl::l))→ys.length<f→
 rdBetw R s (cl.toNat:Int) f a acc=(some (acc++y::ys),a+((z y).length+(tailT (ys.map z)).length+1))
 | [],y,f,a,acc,hR,hp,hf=>by
  cases f with
  | zero=>simp at hf
  | succ f=>
   have hp1:Pos s a (z y++cl::l):=hp
   have h1:=hR y List.mem_cons_self a _ hp1 (noDig_cons (by omega))
   have hp2:=hp1.app
   rw[rdBetw,h1]
   simp only
   rw[if_pos (by rw[hp2.tk];simp)]
   simp[tailT]
   omega
 | y2::ys,y,f,a,acc,hR,hp,hf=>by
  cases f with
  | zero=>simp at hf
  | succ f=>
   have e0:tailT ((y2::ys).map z)=32::(z y2++tailT (ys.map z)):=by simp[tailT]
   have hp1:Pos s a (z y++(32::(z y2++(tailT (ys.map z)++cl::l)))):=by
    rw[e0] at hp
    simpa[List.append_assoc] using hp
   have h1:=hR y List.mem_cons_self a _ hp1 (noDig_cons (by decide))
   have hp2:=hp1.app
   have hp3:=hp2.cons.2.2
   rw[rdBetw,h1]
   simp only
   have ih:=rdBetw_txt cl hcl l ys y2 f (a+(z y).length+1) (acc++[y]) (fun u hu=>hR u (List.mem_cons_of_mem _ hu)) hp3 (by simpa using hf)
   rw[if_neg (by rw[hp2.tk];simp;omega),if_pos (by rw[hp2.tk];decide),ih,e0]
   simp
   omega
theorem betwV_txt {T:Type}{s:ByteArray}{R:Nat→Option T × Nat}{z:T→List UInt8}{C:T→Prop}(hR:∀ u,C u→RdB s R z u)(hz:∀ u,C u→∃ c r,z u=c::r∧c.toNat≠41∧c.toNat≠93)(k:Nat)(cl:UInt8)(hcl:cl.toNat=41∨cl.toNat=93)(l:List UInt8)(a:Nat)(kids:List T)(hk:∀ u∈kids,C u)(hp:Pos s a (joinL (kids.map z)++cl::l)):
 betwV R s k (cl.toNat:Int) a=(some ⟨k,0,[],kids⟩,a+((joinL (kids.map z)).length+1)):=by
 unfold betwV
 cases kids with
 | nil=>
  have hp':Pos s a (cl::l):=hp
  rw[if_pos (by rw[hp'.tk];simp)]
  rfl
 | cons y ys=>
  obtain ⟨c,r,e,h1,h2⟩:=hz y (hk y List.mem_cons_self)
  have ej:joinL ((y::ys).map z)=z y++tailT (ys.map z):=by rw[List.map_cons,joinL_cons _ _ (by rw[e];simp)]
  rw[ej] at hp ⊢
  rw[List.append_assoc] at hp
  have hpc:Pos s a (c::(r++(tailT (ys.map z)++cl::l))):=by rw[e] at hp;exact hp
  have hlen:ys.length<s.size:=by
   have h3:=congrArg List.length hp.1
   rw[List.length_drop,size_toList] at h3
   have h4:=tailT_len (ys.map z)
   simp at h3 h4
   omega
  rw[if_neg (by rw[hpc.tk];simp;omega),rdBetw_txt cl hcl l ys y s.size a [] (fun u hu=>hR u (hk u hu)) hp hlen]
  simp[betwO]
theorem hexP_len:∀ run:List UInt8,(hexP run).length=2*run.length
 | []=>rfl
 | c::run=>by
  have:=hexP_len run
  unfold hexP at *
  simp only[List.flatMap_cons,List.length_append,List.length_cons,List.length_nil]
  omega
theorem valX_txt {T:Type}{s:ByteArray}{R:Nat→Option T × Nat}{z:T→List UInt8}{C:T→Prop}(hR:∀ u,C u→RdB s R z u)(hz:∀ u,C u→∃ c r,z u=c::r∧c.toNat≠41∧c.toNat≠93)(v:Nd T)(hv:CanN C v):RdB s (valX R s) (txtN z) v:=by
 intro a l hp hl
 obtain ⟨k,n,run,kids⟩:=v
 unfold valX
 rcases hv with ⟨h,h2,h3,h4⟩ | ⟨h,h2,h3,h4⟩ | ⟨h,h2,h4⟩ | ⟨h | h,h2,h3,h4⟩ | ⟨h,h2,h3,y,h4,h5⟩
 · simp only at h h2 h3 h4
   subst h h3 h4
   have e:txtN z ⟨0,n,[],[]⟩=decT n:=rfl
   rw[e] at hp ⊢
   have hd:=dec_digits n
   have hne:∃ c r,decT n=c::r:=by
    obtain ⟨c,r,e,_⟩:=txtN_head (z:=z) (C:=C) (v:=⟨0,n,[],[]⟩) (Or.inl ⟨rfl,h2,rfl,rfl⟩)
    exact ⟨c,r,e⟩
   obtain ⟨c,r,ec⟩:=hne
   have hc:=hd c (by rw[ec];exact List.mem_cons_self)
   have hpc:Pos s a (c::(r++l)):=by rw[ec] at hp;exact hp
   rw[if_neg (by rw[hpc.tk];simp;omega),if_neg (by rw[hpc.tk];simp;omega),if_neg (by rw[hpc.tk];simp;omega),if_neg (by rw[hpc.tk];simp;omega),if_neg (by rw[hpc.tk];simp;omega)]
   exact numV_dec T h2 hp hl
 · simp only at h h2 h3 h4
   subst h h2 h3 h4
   have hp':Pos s a (45::l):=hp
   rw[if_pos (by rw[hp'.tk];decide)]
   rfl
 · simp only at h h2 h4
   subst h h2 h4
   have e:txtN z ⟨2,0,run,[]⟩=34::(hexP run++[34]):=quoteT_hex run
   rw[e] at hp ⊢
   have hp':Pos s a (34::(hexP run++(34::l))):=by simpa[List.append_assoc] using hp
   have hpr:=hp'.cons.2.2
   have hl2:=hexP_len run
   have hlen:run.length<s.size:=by
    have h3:=congrArg List.length hpr.1
    rw[List.length_drop,size_toList,List.length_append,hl2] at h3
    simp at h3
    omega
   rw[if_neg (by rw[hp'.tk];decide),if_pos (by rw[hp'.tk];decide),rdRun_hex run s.size (a+1) [] hpr hlen]
   simp[runO,hl2]
   omega
 · simp only at h h2 h3 h4
   subst h h2 h3
   have e:txtN z ⟨3,0,[],kids⟩=40::(joinL (kids.map z)++[41]):=rfl
   rw[e] at hp ⊢
   have hp':Pos s a (40::(joinL (kids.map z)++(41::l))):=by simpa[List.append_assoc] using hp
   rw[if_neg (by rw[hp'.tk];decide),if_neg (by rw[hp'.tk];decide),if_pos (by rw[hp'.tk];decide)]
   have:=betwV_txt hR hz 3 41 (Or.inl (by decide)) l (a+1) kids h4 hp'.cons.2.2
   rw[show ((41:UInt8).toNat:Int)=41 from rfl] at this
   rw[this]
   simp
   omega
 · simp only at h h2 h3 h4
   subst h h2 h3
   have e:txtN z ⟨4,0,[],kids⟩=91::(joinL (kids.map z)++[93]):=rfl
   rw[e] at hp ⊢
   have hp':Pos s a (91::(joinL (kids.map z)++(93::l))):=by simpa[List.append_assoc] using hp
   rw[if_neg (by rw[hp'.tk];decide),if_neg (by rw[hp'.tk];decide),if_neg (by rw[hp'.tk];decide),if_pos (by rw[hp'.tk];decide)]
   have:=betwV_txt hR hz 4 93 (Or.inr (by decide)) l (a+1) kids h4 hp'.cons.2.2
   rw[show ((93:UInt8).toNat:Int)=93 from rfl] at this
   rw[this]
   simp
   omega
 · simp only at h h2 h3 h4
   subst h h3 h4
   have ej:joinL ([y].map z)=z y:=by simp[joinL,joinT]
   have e:txtN z ⟨5,n,[],[y]⟩=47::UInt8.ofNat (48+n)::32::z y:=by show 47::UInt8.ofNat (48+n)::32::joinL ([y].map z)=_;rw[ej]
   rw[e] at hp ⊢
   have hp':Pos s a (47::UInt8.ofNat (48+n)::32::(z y++l)):=hp
   obtain ⟨_,_,hp2⟩:=hp'.cons
   obtain ⟨_,hb2,hp3⟩:=hp2.cons
   have hp4:=hp3.cons.2.2
   rw[if_neg (by rw[hp'.tk];decide),if_neg (by rw[hp'.tk];decide),if_neg (by rw[hp'.tk];decide),if_neg (by rw[hp'.tk];decide),if_pos (by rw[hp'.tk];decide)]
   have hd:(UInt8.ofNat (48+n)).toNat=48+n:=by simp;omega
   unfold choV
   have h1:=hR y h5 (a+1+2) l hp4 hl
   rw[if_pos (by rw[hp2.tk,hd];simp;omega),if_pos (by rw[hp3.tk];decide),h1]
   have e3:digV s (a+1)=n:=by unfold digV;rw[hb2,hd];omega
   simp[choO,e3]
   omega
theorem valV_txt (s:ByteArray):∀ (n:Nat) (v:Tr n),Can n v→RdB s (valV s n) (txtT n) v
 | 0,_,h=>h.elim
 | n+1,v,h=>valX_txt (fun u hu=>valV_txt s n u hu) (fun _ hu=>txt_head hu) v h
theorem hasKids_map {T U:Type}{H:List It→T→Bool}{H':List It→U→Bool}:∀ (ks:List (List It)) (vs:List T) (us:List U),(∀ k,vs.map (H k)=us.map (H' k))→hasKids H ks vs=hasKids H' ks us
 | [],vs,us,h=>by
  have:=congrArg List.length (h [])
  simp at this
  cases vs<;>cases us<;>first | rfl | simp at this
 | k::ks,vs,us,h=>by
  unfold hasKids
  split
  · exact hasKids_map ks vs us h
  · have hl:=congrArg List.length (h [])
    simp at hl
    cases vs with
    | nil=>cases us with
     | nil=>rfl
     | cons=>simp at hl
    | cons y ys=>cases us with
     | nil=>simp at hl
     | cons u us=>
      have h1:=h k
      simp only[List.map_cons,List.cons.injEq] at h1
      simp only
      rw[h1.1,hasKids_map ks ys us fun k=>by have:=h k;simp only[List.map_cons,List.cons.injEq] at this;exact this.2]
theorem headB_map {T U:Type}{f:T→Bool}{g:U→Bool}(vs:List T)(us:List U)(h:vs.map f=us.map g):headB f vs=headB g us:=by
 cases vs<;>cases us<;>simp_all [headB]
theorem all_map {T U:Type}{f:T→Bool}{g:U→Bool}(vs:List T)(us:List U)(h:vs.map f=us.map g):vs.all f=us.all g:=by
 have e1:vs.all f=(vs.map f).all id:=by simp
 have e2:us.all g=(us.map g).all id:=by simp
 rw[e1,e2,h]
theorem hasTop_map {T U:Type}{H:List It→T→Bool}{H':List It→U→Bool}(q:List It)(v:Nd T)(u:Nd U)(hk:v.k=u.k)(hn:v.n=u.n)(h:∀ k,v.kids.map (H k)=u.kids.map (H' k)):hasTop H q v=hasTop H' q u:=by
 cases q with
 | nil=>rfl
 | cons x r=>
  unfold hasTop
  simp only
  rw[hk,hn,hasKids_map _ _ _ h,headB_map _ _ (h _),all_map _ _ (h r)]
theorem hasQ_map {T U:Type}{G:Nat→List It}{H:List It→T→Bool}{H':List It→U→Bool}(q:List It)(v:Nd T)(u:Nd U)(hk:v.k=u.k)(hn:v.n=u.n)(h:∀ k,v.kids.map (H k)=u.kids.map (H' k)):hasQ G H q v=hasQ G H' q u:=by
 cases q with
 | nil=>rfl
 | cons x r=>
  unfold hasQ
  simp only
  split
  · split
    · rfl
    · exact hasTop_map _ v u hk hn h
  · exact hasTop_map _ v u hk hn h
theorem joinL_ge {ts:List (List UInt8)}{t:List UInt8}(h:t∈ts)(hne:∀ u∈ts,u≠[]):t.length≤(joinL ts).length:=by
 cases ts with
 | nil=>simp at h
 | cons a ts=>
  rw[joinL_cons a ts (hne a List.mem_cons_self)]
  rcases List.mem_cons.1 h with rfl | h
  · simp
  · have:t.length≤(tailT ts).length:=by
     unfold tailT
     clear hne
     rename_i h0
     clear h0
     induction ts with
     | nil=>simp at h
     | cons b ts ih=>
      simp only[List.flatMap_cons,List.length_append,List.length_cons]
      rcases List.mem_cons.1 h with rfl | h
      · omega
      · have:=ih h;omega
    simp
    omega
theorem list_at {A B:Type}{C:A→Prop}{C':B→Prop}{z:A→List UInt8}{z':B→List UInt8}{H:List It→A→Bool}{H':List It→B→Bool}:∀ ys:List A,(∀ y∈ys,∃ u,C' u∧z' u=z y∧∀ k,H' k u=H k y)→
 ∃ us:List B,(∀ u∈us,C' u)∧us.map z'=ys.map z∧∀ k,us.map (H' k)=ys.map (H k)
 | [],_=>⟨[],by simp,rfl,fun _=>rfl⟩
 | y::ys,h=>by
  obtain ⟨u,a,b,c⟩:=h y List.mem_cons_self
  obtain ⟨us,a',b',c'⟩:=list_at (C:=C) (C':=C') (z:=z) (z':=z') (H:=H) (H':=H') ys fun y hy=>h y (List.mem_cons_of_mem _ hy)
  exact ⟨u::us,fun w hw=>by
   rcases List.mem_cons.1 hw with rfl | hw
   · exact a
   · exact a' w hw,by rw[List.map_cons,List.map_cons,b,b'],fun k=>by rw[List.map_cons,List.map_cons,c,c']⟩
theorem can_at (G:Nat→List It):∀ (n:Nat) (v:Tr n),Can n v→∀ m,(txtT n v).length≤m→∃ v':Tr m,Can m v'∧txtT m v'=txtT n v∧∀ k,hasT G m k v'=hasT G n k v
 | 0,_,h,_,_=>h.elim
 | n+1,v,h,m,hm=>by
  cases m with
  | zero=>
   obtain ⟨c,r,e,_⟩:=txt_head h
   rw[e] at hm
   simp at hm
  | succ m=>
   have hnt:∀ (u:Nd (Tr m)),u.k=(v:Nd (Tr n)).k→u.n=(v:Nd (Tr n)).n→(∀ k,u.kids.map (hasT G m k)=(v:Nd (Tr n)).kids.map (hasT G n k))→∀ k,hasT G (m+1) k u=hasT G (n+1) k v:=fun u h1 h2 h3 k=>hasQ_map (inn k) u v h1 h2 h3
   obtain ⟨vk,vn,vr,vs⟩:=v
   have hC:CanN (Can n) (⟨vk,vn,vr,vs⟩:Nd (Tr n)):=h
   have hT:txtT (n+1) (⟨vk,vn,vr,vs⟩:Nd (Tr n))=txtN (txtT n) ⟨vk,vn,vr,vs⟩:=rfl
   rw[hT] at hm ⊢
   rcases hC with ⟨h1,h2,h3,h4⟩ | ⟨h1,h2,h3,h4⟩ | ⟨h1,h2,h4⟩ | ⟨h1,h2,h3,h4⟩ | ⟨h1,h2,h3,y,h4,h5⟩
   · simp only at h1 h2 h3 h4
     subst h1 h3 h4
     exact ⟨(⟨0,vn,[],[]⟩:Nd (Tr m)),Or.inl ⟨rfl,h2,rfl,rfl⟩,rfl,hnt _ rfl rfl fun _=>rfl⟩
   · simp only at h1 h2 h3 h4
     subst h1 h2 h3 h4
     exact ⟨(⟨1,0,[],[]⟩:Nd (Tr m)),Or.inr (Or.inl ⟨rfl,rfl,rfl,rfl⟩),rfl,hnt _ rfl rfl fun _=>rfl⟩
   · simp only at h1 h2 h4
     subst h1 h2 h4
     exact ⟨(⟨2,0,vr,[]⟩:Nd (Tr m)),Or.inr (Or.inr (Or.inl ⟨rfl,rfl,rfl⟩)),rfl,hnt _ rfl rfl fun _=>rfl⟩
   · simp only at h1 h2 h3 h4
     subst h2 h3
     have hl:∀ y∈vs,(txtT n y).length≤m:=fun y hy=>by
      have h6:=joinL_ge (ts:=vs.map (txtT n)) (List.mem_map_of_mem hy) (fun u hu=>by
       obtain ⟨w,hw,rfl⟩:=List.mem_map.1 hu
       obtain ⟨c,r,e,_⟩:=txt_head (h4 w hw)
       rw[e];simp)
      have h7:(joinL (vs.map (txtT n))).length+2≤m+1:=by
       unfold txtN at hm
       simp only at hm
       rcases h1 with rfl | rfl
       · simp at hm;omega
       · simp at hm;omega
      omega
     obtain ⟨us,a,b,c⟩:=list_at (C:=Can n) (C':=Can m) (z:=txtT n) (z':=txtT m) (H:=hasT G n) (H':=hasT G m) vs fun y hy=>by
      obtain ⟨u,a,b,c⟩:=can_at G n y (h4 y hy) m (hl y hy)
      exact ⟨u,a,b,c⟩
     refine ⟨(⟨vk,0,[],us⟩:Nd (Tr m)),Or.inr (Or.inr (Or.inr (Or.inl ⟨h1,rfl,rfl,a⟩))),?_,hnt _ rfl rfl c⟩
     show txtN (txtT m) ⟨vk,0,[],us⟩=_
     unfold txtN
     simp only
     rw[b]
   · simp only at h1 h2 h3 h4
     subst h1 h3 h4
     have hl:(txtT n y).length≤m:=by
      have ej:joinL ([y].map (txtT n))=txtT n y:=by simp[joinL,joinT]
      unfold txtN at hm
      simp only at hm
      rw[ej] at hm
      simp at hm
      omega
     obtain ⟨u,a,b,c⟩:=can_at G n y h5 m hl
     refine ⟨(⟨5,vn,[],[u]⟩:Nd (Tr m)),Or.inr (Or.inr (Or.inr (Or.inr ⟨rfl,h2,rfl,u,rfl,a⟩))),?_,hnt _ rfl rfl fun k=>by simp[c]⟩
     show txtN (txtT m) ⟨5,vn,[],[u]⟩=_
     unfold txtN
     simp only[List.map_cons,List.map_nil]
     rw[b]
end Go.Proofs.YtmlkhhhjdpbhfaaGreatDoor

import Derived.Test.YtmlkhhhjdpbhfaaGreatDoorFo33
import Derived.Test.YtmlkhhhjdpbhfaaGreatDoorFo50
import Derived.Test.YtmlkhhhjdpbhfaaGreatDoorFo51
import Derived.Test.YtmlkhhhjdpbhfaaGreatDoorFo31
import Derived.Test.YtmlkhhhjdpbhfaaGreatDoorFo23
namespace Go.Proofs.YtmlkhhhjdpbhfaaGreatDoor
open Go.RowKit
def pickV (c n:Int):Nat:=if c<0 then ((-(c+1)).tmod n).toNat else (c.tmod n).toNat
theorem pickV_lt (c n:Int)(hn:0<n):(pickV c n:Int)<n:=by
 have key:∀ d:Int,0≤d→((d.tmod n).toNat:Int)<n:=fun d hd=>by
  have h1:=Int.tmod_lt_of_pos d hn
  have h0:=Int.tmod_nonneg n hd
  omega
 unfold pickV
 split
 · exact key _ (by omega)
 · exact key _ (by omega)
set_option maxHeartbeats 400000 in
theorem pickE_calls (c n:Int)(h1 : -9223372036854775808≤c)(h2:c≤9223372036854775807)(hn:0<n)(hn2:n≤4294967296)(w:World):
 Calls Tryz.prog 13 #[.int .i64 c,.int .i64 n] w fun e w'=>e=.returned (.int .i64 (pickV c n:Nat))∧w'=w:=by
 have hn0:(n==0)=false:=by simp;omega
 by_cases hc:c<0
 · have hke:(-(c+1)).tmod n=(pickV c n:Nat):=by
    have h0:=Int.tmod_nonneg n (show (0:Int) ≤ -(c+1) by omega)
    unfold pickV
    rw[if_pos hc]
    omega
   go_enter Tryz.func13,Tryz.ntmps13
   go_wp2_with fail
   go_ret
   exact ⟨rfl,rfl⟩
 · have hke:c.tmod n=(pickV c n:Nat):=by
    have h0:=Int.tmod_nonneg n (show (0:Int)≤c by omega)
    unfold pickV
    rw[if_neg hc]
    omega
   go_enter Tryz.func13,Tryz.ntmps13
   go_wp2_with fail
   go_ret
   exact ⟨rfl,rfl⟩
def valL:List UInt8→Nat
 | []=>0
 | c::l=>c.toNat+256*valL l
theorem valL_snoc:∀ (l:List UInt8) (c:UInt8),valL (l++[c])=valL l+c.toNat*256 ^ l.length
 | [],c=>by simp[valL]
 | d::l,c=>by
  have e:256*(c.toNat*256 ^ l.length)=c.toNat*(256 ^ l.length*256):=by rw[← Nat.mul_assoc,Nat.mul_comm 256 c.toNat,Nat.mul_assoc,Nat.mul_comm 256]
  rw[List.cons_append,valL,valL_snoc l c,valL,List.length_cons,Nat.pow_succ,Nat.mul_add,e,Nat.add_assoc]
theorem bn_list (l:List UInt8)(i:Nat)(h:i<l.length):bn ⟨l.toArray⟩ i=(l[i]).toNat:=by
 unfold bn bt
 have hs:(⟨l.toArray⟩:ByteArray).size=l.length:=by show l.toArray.size=_;simp
 rw[dif_pos (by rw[hs];exact h)]
 have e:(⟨l.toArray⟩:ByteArray)[i]'(by rw[hs];exact h)=l[i]:=rfl
 rw[e]
 simp
theorem loV_take (l:List UInt8):∀ i,i≤l.length→loV ⟨l.toArray⟩ i=valL (l.take i)
 | 0,_=>rfl
 | i+1,h=>by
  rw[loV,loV_take l i (by omega),bn_list l i (by omega),List.take_succ_eq_append_getElem (by omega),valL_snoc,List.length_take,Nat.min_eq_left (by omega)]
theorem hiV_take (l:List UInt8):∀ i,i≤l.length→hiV ⟨l.toArray⟩ i=valL (l.take i).reverse
 | 0,_=>rfl
 | i+1,h=>by
  rw[hiV,hiV_take l i (by omega),bn_list l i (by omega),List.take_succ_eq_append_getElem (by omega),List.reverse_append,List.reverse_cons,List.reverse_nil,List.nil_append,List.cons_append,List.nil_append,valL]
  omega
theorem loV_list (l:List UInt8):loV ⟨l.toArray⟩ l.length=valL l:=by rw[loV_take l _ (Nat.le_refl _),List.take_length]
theorem hiV_list (l:List UInt8):hiV ⟨l.toArray⟩ l.length=valL l.reverse:=by rw[hiV_take l _ (Nat.le_refl _),List.take_length]
theorem valL_low:∀ (w n:Nat),valL (lowB w n)=n % 256 ^ w
 | 0,n=>by simp[lowB,valL,Nat.mod_one]
 | w+1,n=>by
  rw[lowB,valL,valL_low w (n / 256),Nat.pow_succ,Nat.mul_comm (256 ^ w) 256,Nat.mod_mul]
  have:(UInt8.ofNat (n % 256)).toNat=n % 256:=by simp
  rw[this]
theorem low_val:∀ l:List UInt8,lowB l.length (valL l)=l
 | []=>rfl
 | c::l=>by
  have hc:c.toNat<256:=c.toNat_lt
  rw[List.length_cons,lowB,valL,show (c.toNat+256*valL l) % 256=c.toNat by omega,show (c.toNat+256*valL l) / 256=valL l by omega,low_val l]
  simp
structure NumIt (x:It) (low:Bool) (w:Nat):Prop where
 c:x.c=if low then 108 else 110
 wd:x.w.toNat=w
 pos:1≤w
 le:w≤4
theorem numT_num {x:It}{low:Bool}{w:Nat}(h:NumIt x low w)(l:List UInt8):numT x ⟨l.toArray⟩=valL (if low then l else l.reverse):=by
 have hs:(⟨l.toArray⟩:ByteArray).size=l.length:=by show l.toArray.size=_;simp
 unfold numT
 rw[hs,h.c]
 cases low with
 | true=>simp[loV_list]
 | false=>simp[hiV_list]
theorem val_numB (low:Bool)(k n:Nat)(hn:n<256 ^ k):valL (if low then numB low k n else (numB low k n).reverse)=n:=by
 cases low with
 | true=>show valL (lowB k n)=n;rw[valL_low,Nat.mod_eq_of_lt hn]
 | false=>show valL (lowB k n).reverse.reverse=n;rw[List.reverse_reverse,valL_low,Nat.mod_eq_of_lt hn]
def guS:ByteArray:=⟨#[65,61,40,104,50,97,107,52,98,119,97,115,98,42,110,49,41]⟩
structure GuIts (x0 x1 x2 x3 x4 x5 x6:It):Prop where
 c0:x0.c=40
 c1:x1.c=104
 c2:x2.c=107
 c3:x3.c=119
 c4:x4.c=115
 c5:x5.c=42
 c6:x6.c=110
 w1:x1.w.toNat=2
 w2:x2.w.toNat=4
 w6:x6.w.toNat=1
 d3:x3.d.toNat=x1.d.toNat
 d4:x4.d.toNat=x2.d.toNat
 ne:x1.d.toNat≠x2.d.toNat
 sg:segs 6 [x1,x2,x3,x4,x5,x6]=[[x1],[x2],[x3,x4,x5,x6]]
set_option maxRecDepth 100000 in
theorem gu_gram:pressV guS=(0,0)∧∃ x0 x1 x2 x3 x4 x5 x6,rulePt (rlsOf guS) 0=[x0,x1,x2,x3,x4,x5,x6]∧GuIts x0 x1 x2 x3 x4 x5 x6:=
 ⟨by decide +kernel,_,_,_,_,_,_,_,rfl,rfl,rfl,rfl,rfl,rfl,rfl,rfl,rfl,rfl,rfl,rfl,rfl,by decide,rfl⟩
def RdTo (rd:List Bool)(m p:Nat):Prop:=rd.length=m∧p≤m∧∀ i,rd.getD i false=decide (i<p)
theorem RdTo.zero (m:Nat):RdTo (List.replicate m false) m 0:=⟨by simp,by omega,fun i=>by simp[List.getD_eq_getElem?_getD,List.getElem?_replicate];split<;>simp⟩
theorem RdTo.can {rd:List Bool}{m p:Nat}(h:RdTo rd m p)(e n:Nat):canRead rd p e n=decide (n≤e-p):=by
 unfold canRead
 have:((List.range n).any fun j=>rd.getD (p+j) false)=false:=by
  rw[List.any_eq_false];intro j _;rw[h.2.2];simp
 rw[this];simp
theorem RdTo.read {rd:List Bool}{m p:Nat}(h:RdTo rd m p)(n:Nat)(hn:p+n≤m):RdTo (setR rd p (p+n) true) m (p+n):=by
 refine ⟨by rw[setR_len];exact h.1,hn,fun i=>?_⟩
 by_cases hi:i<rd.length
 · rw[setR_getD _ _ _ _ _ hi,h.2.2]
   by_cases h1:p≤i∧i<p+n
   · rw[if_pos h1];simp;omega
   · rw[if_neg h1,decide_eq_decide];omega
 · have h1:(setR rd p (p+n) true).length≤i:=by rw[setR_len];omega
   have h2:¬ i<p+n:=by have:=h.1;omega
   rw[List.getD_eq_getElem?_getD,List.getElem?_eq_none h1];simp;omega
theorem RdTo.all {rd:List Bool}{m:Nat}(h:RdTo rd m m):rd.findIdx? (fun b=>!b)=none:=by
 rw[List.findIdx?_eq_none_iff]
 intro b hb
 obtain ⟨i,hi,rfl⟩:=List.mem_iff_getElem.1 hb
 have:=h.2.2 i
 rw[List.getD_eq_getElem?_getD,List.getElem?_eq_getElem hi] at this
 simp only[Option.getD_some] at this
 rw[this];have:=h.1;simp;omega
theorem RdTo.some {rd:List Bool}{m p:Nat}(h:RdTo rd m p)(hp:p<m):∃ i,rd.findIdx? (fun b=>!b)=some i:=by
 cases e:rd.findIdx? (fun b=>!b) with
 | some i=>exact ⟨i,rfl⟩
 | none=>
  rw[List.findIdx?_eq_none_iff] at e
  have hi:p<rd.length:=by rw[h.1];exact hp
  have h1:=e (rd[p]'hi) (List.getElem_mem hi)
  have:=h.2.2 p
  rw[List.getD_eq_getElem?_getD,List.getElem?_eq_getElem hi] at this
  simp only[Option.getD_some,Nat.lt_irrefl,decide_false] at this
  rw[this] at h1;simp at h1
theorem Pos.ext {bs:ByteArray}{a:Nat}{L l:List UInt8}(h:Pos bs a (L++l)):bs.extract a (a+L.length)=⟨L.toArray⟩:=by
 apply ByteArray.ext
 rw[ByteArray.data_extract]
 apply Array.ext'
 rw[Array.toList_extract]
 simp only[List.extract_eq_take_drop,h.1]
 simp
theorem Pos.app_le {bs:ByteArray}{a:Nat}{L l:List UInt8}(h:Pos bs a (L++l)):a+L.length≤bs.size:=(Pos.app h).2
def guSum (w:Nat)(L:List UInt8):Nat:=L.foldl (fun s c=>(s*31+c.toNat) % 256 ^ w) 0
theorem sumV_take (w:Nat)(l:List UInt8):∀ i,i≤l.length→sumV ⟨l.toArray⟩ w i=guSum w (l.take i)
 | 0,_=>rfl
 | i+1,h=>by
  rw[sumV,sumV_take w l i (by omega),bn_list l i (by omega),List.take_succ_eq_append_getElem (by omega)]
  unfold guSum
  rw[List.foldl_append]
  rfl
theorem sumV_list (w:Nat)(l:List UInt8):sumV ⟨l.toArray⟩ w l.length=guSum w l:=by rw[sumV_take w l _ (Nat.le_refl _),List.take_length]
theorem byte_try {G:Nat→List It}{bs:ByteArray}{N m:Nat}{x:It}(hx:NumIt x false 1)(g f far:Nat)(st:PS)(c:UInt8)(l:List UInt8)(hp:Pos bs st.pl (c::l))(hr:RdTo st.rd m st.pl)(he:st.pl<st.en):
 tryT G bs N (g+1) (f+1) far false [x] st=madeO N f far (readS st 1) (decT c.toNat):=by
 have hc:x.c=110:=by rw[hx.c];rfl
 have hlen:lenT x st=1:=by unfold lenT;rw[if_neg (by omega),if_neg (by omega),if_neg (by omega),hx.wd]
 have hex:bs.extract st.pl (st.pl+1)=⟨[c].toArray⟩:=Pos.ext (L:=[c]) hp
 unfold tryT
 rw[if_neg (by omega),if_neg (by omega),if_neg (by omega),if_neg (by omega),if_neg (by omega),if_neg (by omega),if_neg (by omega),if_neg (by omega)]
 unfold bytesT
 rw[hlen,hr.can,if_pos (by simp;omega),if_neg (by omega),if_neg (by omega),if_neg (by rw[hc];decide),hex,numT_num hx]
 simp[valL]
theorem byte_end {G:Nat→List It}{bs:ByteArray}{N m:Nat}{x:It}(hx:NumIt x false 1)(g f far:Nat)(st:PS)(hr:RdTo st.rd m st.pl)(he:st.en=st.pl):
 tryT G bs N (g+1) (f+1) far false [x] st=failO f far st.pl st:=by
 have hc:x.c=110:=by rw[hx.c];rfl
 have hlen:lenT x st=1:=by unfold lenT;rw[if_neg (by omega),if_neg (by omega),if_neg (by omega),hx.wd]
 unfold tryT
 rw[if_neg (by omega),if_neg (by omega),if_neg (by omega),if_neg (by omega),if_neg (by omega),if_neg (by omega),if_neg (by omega),if_neg (by omega)]
 unfold bytesT
 rw[hlen,hr.can,if_neg (by simp;omega)]
theorem many_bytes {G:Nat→List It}{bs:ByteArray}{N m:Nat}{x:It}(hx:NumIt x false 1)(hm:bs.size=m)(gg:Nat)(rest:List UInt8):∀ (L:List UInt8) (st:PS) (g f far:Nat) (t:List UInt8),Pos bs st.pl (L++rest)→RdTo st.rd m st.pl→st.en=st.pl+L.length→st.vals+L.length<N→L.length<g→L.length<f→
 ∃ far' st',manyT (tryT G bs N (gg+1)) N [x] g f far st t=fitO (f-L.length-1) far' st' (91::(L.map fun c=>decT c.toNat).foldl joinT t++[93])∧RdTo st'.rd m st.en∧st'.pl=st.en∧st'.en=st.en∧st'.deps=st.deps∧st'.vals=st.vals+L.length+1
 | [],st,g,f,far,t,hp,hr,he,hv,hg,hf=>by
  obtain ⟨g,rfl⟩:∃ k,g=k+1:=⟨g-1,by omega⟩
  obtain ⟨f,rfl⟩:∃ k,f=k+1:=⟨f-1,by simp at hf;omega⟩
  simp only[List.length_nil,Nat.add_zero] at he hv
  have h:=byte_end (G:=G) (bs:=bs) (N:=N) hx gg f far st hr he
  refine ⟨max far st.pl,{ st with vals:=st.vals+1 },?_,by rw[he];exact hr,he.symm,rfl,rfl,rfl⟩
  unfold manyT
  rw[h,if_neg (by simp[failO]),if_pos (show (failO f far st.pl st).ok=false∨(failO f far st.pl st).st.pl=st.pl from Or.inl rfl)]
  unfold madeO
  rw[if_neg (by omega)]
  rfl
 | c::L,st,g,f,far,t,hp,hr,he,hv,hg,hf=>by
  simp only[List.length_cons] at he hv hg hf
  obtain ⟨g,rfl⟩:∃ k,g=k+1:=⟨g-1,by omega⟩
  obtain ⟨f,rfl⟩:∃ k,f=k+1:=⟨f-1,by omega⟩
  obtain ⟨hlt,_,hp'⟩:=Pos.cons hp
  have h:=byte_try (G:=G) (bs:=bs) (N:=N) hx gg f far st c (L++rest) hp hr (by omega)
  have h2:tryT G bs N (gg+1) (f+1) far false [x] st=fitO f far { readS st 1 with vals:=st.vals+1 } (decT c.toNat):=by
   rw[h];unfold madeO;rw[if_neg (by show st.vals≠N;omega)];rfl
  obtain ⟨far',st',e,a1,a2,a3,a4,a5⟩:=many_bytes hx hm gg rest L { readS st 1 with vals:=st.vals+1 } g f far (joinT t (decT c.toNat)) hp' (hr.read 1 (by omega)) (by show st.en=st.pl+1+L.length;omega) (by show st.vals+1+L.length<N;omega) (by omega) (by omega)
  refine ⟨far',st',?_,a1,a2,a3,a4,by rw[a5,List.length_cons];show st.vals+1+L.length+1=_;omega⟩
  unfold manyT
  rw[h2,if_neg (by simp[fitO]),if_neg (by simp[fitO,readS])]
  show manyT _ N [x] g f far _ _=_
  rw[show (fitO f far { readS st 1 with vals:=st.vals+1 } (decT c.toNat)).st={ readS st 1 with vals:=st.vals+1 } from rfl,show (fitO f far { readS st 1 with vals:=st.vals+1 } (decT c.toNat)).t=decT c.toNat from rfl,e,List.length_cons,List.map_cons,List.foldl_cons,show f+1-(L.length+1)-1=f-L.length-1 by omega]
def guT (L:List UInt8):List UInt8:=40::91::joinL (L.map fun c=>decT c.toNat)++[93,41]
theorem hid_try {G:Nat→List It}{bs:ByteArray}{N m:Nat}{x:It}(hc:x.c=104∨x.c=107)(w:Nat)(hw:x.w.toNat=w)(g f far:Nat)(st:PS)(L l:List UInt8)(hL:L.length=w)(hp:Pos bs st.pl (L++l))(hr:RdTo st.rd m st.pl)(he:st.pl+w≤st.en):
 tryT G bs N (g+1) (f+1) far true [x] st=fitO f far { readS st w with deps:=fun k=>if k=x.d.toNat then (valL (if x.c=107 then L else L.reverse),w) else st.deps k } []:=by
 have hlen:lenT x st=w:=by unfold lenT;rw[if_neg (by omega),if_neg (by omega),if_neg (by omega),hw]
 have hex:bs.extract st.pl (st.pl+w)=⟨L.toArray⟩:=by rw[← hL];exact Pos.ext hp
 have hs:(⟨L.toArray⟩:ByteArray).size=L.length:=by show L.toArray.size=_;simp
 have hh:hidesB x.c=true:=by rcases hc with e | e<;>rw[e]<;>rfl
 have hn:numT x ⟨L.toArray⟩=valL (if x.c=107 then L else L.reverse):=by
  unfold numT
  rw[hs]
  rcases hc with e | e<;>rw[e]<;>simp[loV_list,hiV_list]
 unfold tryT
 rw[if_neg (by omega),if_neg (by omega),if_neg (by omega),if_neg (by omega),if_neg (by omega),if_neg (by omega),if_neg (by omega),if_neg (by omega)]
 unfold bytesT
 rw[hlen,hr.can,if_pos (by simp;omega),if_neg (by omega),if_neg (by omega),if_pos hh,hex,hn,hw]
theorem hid_end {G:Nat→List It}{bs:ByteArray}{N m:Nat}{x:It}(hc:x.c=104∨x.c=107)(w:Nat)(hw:x.w.toNat=w)(g f far:Nat)(st:PS)(hr:RdTo st.rd m st.pl)(he:st.en-st.pl<w):
 tryT G bs N (g+1) (f+1) far true [x] st=failO f far st.pl st:=by
 have hlen:lenT x st=w:=by unfold lenT;rw[if_neg (by omega),if_neg (by omega),if_neg (by omega),hw]
 unfold tryT
 rw[if_neg (by omega),if_neg (by omega),if_neg (by omega),if_neg (by omega),if_neg (by omega),if_neg (by omega),if_neg (by omega),if_neg (by omega)]
 unfold bytesT
 rw[hlen,hr.can,if_neg (by simp;omega)]
theorem list_try {G:Nat→List It}{bs:ByteArray}{N m:Nat}{x0 x1 x2 x3 x4 x5 x6:It}(hx:GuIts x0 x1 x2 x3 x4 x5 x6)(hm:bs.size=m)(g f far:Nat)(st:PS)(L rest:List UInt8)(sum:Nat)(hp:Pos bs st.pl (L++rest))(hr:RdTo st.rd m st.pl)(he:st.pl+L.length≤st.en)(hv:st.vals+L.length<N)(hf:L.length+4≤f)(hd1:st.deps x3.d.toNat=(L.length,2))(hd2:st.deps x4.d.toNat=(sum,4)):
 (guSum 4 L≠sum→(tryT G bs N (g+4) f far false [x3,x4,x5,x6] st).e=0∧(tryT G bs N (g+4) f far false [x3,x4,x5,x6] st).ok=false)∧
 (guSum 4 L=sum→∃ f' far' st',tryT G bs N (g+4) f far false [x3,x4,x5,x6] st=fitO f' far' st' (91::joinL (L.map fun c=>decT c.toNat)++[93])∧RdTo st'.rd m (st.pl+L.length)∧st'.vals=st.vals+L.length+1):=by
 obtain ⟨f,rfl⟩:∃ k,f=k+3:=⟨f-3,by omega⟩
 have h6:NumIt x6 false 1:=⟨by rw[hx.c6];rfl,hx.w6,by omega,by omega⟩
 obtain ⟨far',st',e,a1,a2,a3,a4,a5⟩:=many_bytes (G:=G) (N:=N) h6 hm g rest L { st with en:=st.pl+L.length } (f+1) f far [] hp hr rfl hv (by omega) (by omega)
 have hmany:tryT G bs N (g+2) (f+1) far false [x5,x6] { st with en:=st.pl+L.length }=fitO (f-L.length-1) far' st' (91::joinL (L.map fun c=>decT c.toNat)++[93]):=by
  refine Eq.trans ?_ e
  conv=>lhs;unfold tryT
  rw[if_neg (by rw[hx.c5];decide),if_neg (by rw[hx.c5];decide),if_pos hx.c5]
 have hext:bs.extract st.pl st'.pl=⟨L.toArray⟩:=by rw[a2];exact Pos.ext hp
 have hsz:(⟨L.toArray⟩:ByteArray).size=L.length:=by show L.toArray.size=_;simp
 have hsum:tryT G bs N (g+3) (f+2) far false [x4,x5,x6] { st with en:=st.pl+L.length }=if guSum 4 L≠sum then failO (f-L.length-1) far' st.pl { st with en:=st.pl+L.length } else fitO (f-L.length-1) far' { st' with en:=st.pl+L.length } (91::joinL (L.map fun c=>decT c.toNat)++[93]):=by
  conv=>lhs;unfold tryT
  rw[if_neg (by rw[hx.c4];decide),if_neg (by rw[hx.c4];decide),if_neg (by rw[hx.c4];decide),if_neg (by rw[hx.c4];decide),if_neg (by rw[hx.c4];decide),if_neg (by rw[hx.c4];decide),if_neg (by rw[hx.c4];decide),if_pos hx.c4]
  unfold summedT
  rw[hmany]
  unfold summedE
  rw[if_pos (show (fitO (f-L.length-1) far' st' (91::joinL (L.map fun c=>decT c.toNat)++[93])).ok=true from rfl)]
  show (if sumV (bs.extract st.pl st'.pl) (st.deps x4.d.toNat).2 (bs.extract st.pl st'.pl).size≠(st.deps x4.d.toNat).1 then _ else _)=_
  rw[hext,hsz,hd2,sumV_list]
  rfl
 have hwin:tryT G bs N (g+4) (f+3) far false [x3,x4,x5,x6] st=windowE L.length st (tryT G bs N (g+3) (f+2) far false [x4,x5,x6] { st with en:=st.pl+L.length }):=by
  conv=>lhs;unfold tryT
  rw[if_neg (by rw[hx.c3];decide),if_neg (by rw[hx.c3];decide),if_neg (by rw[hx.c3];decide),if_neg (by rw[hx.c3];decide),if_neg (by rw[hx.c3];decide),if_pos hx.c3]
  unfold windowT
  rw[hd1,if_neg (by show ¬ st.en-st.pl<L.length;omega)]
 rw[hwin,hsum]
 constructor
 · intro hne
   rw[if_pos hne]
   exact ⟨rfl,rfl⟩
 · intro heq
   rw[if_neg (fun h=>h heq)]
   unfold windowE
   rw[if_pos (show (fitO (f-L.length-1) far' { st' with en:=st.pl+L.length } (91::joinL (L.map fun c=>decT c.toNat)++[93])).ok=true from rfl),if_neg (fun h=>h (by show st'.pl=st.pl+L.length;exact a2))]
   exact ⟨_,_,_,rfl,a1,a5⟩
theorem list_short {G:Nat→List It}{bs:ByteArray}{N:Nat}{x0 x1 x2 x3 x4 x5 x6:It}(hx:GuIts x0 x1 x2 x3 x4 x5 x6)(g f far n:Nat)(st:PS)(he:st.en-st.pl<n)(hd1:st.deps x3.d.toNat=(n,2)):
 tryT G bs N (g+1) (f+1) far false [x3,x4,x5,x6] st=failO f far st.pl st:=by
 unfold tryT
 rw[if_neg (by rw[hx.c3];decide),if_neg (by rw[hx.c3];decide),if_neg (by rw[hx.c3];decide),if_neg (by rw[hx.c3];decide),if_neg (by rw[hx.c3];decide),if_pos hx.c3]
 unfold windowT
 rw[hd1,if_pos he]
end Go.Proofs.YtmlkhhhjdpbhfaaGreatDoor
namespace Go.Proofs.YtmlkhhhjdpbhfaaGreatDoor
open Go.RowKit
section
variable {T:Nat→Nat→Bool→List It→PS→PO}
theorem kidsT_fit {k:List It}{ks:List (List It)}{fuel far:Nat}{st:PS}{t:List UInt8}{q:Bool}{f' far':Nat}{st':PS}{u:List UInt8}(hq:silV k=q)(h:T fuel far q k st=fitO f' far' st' u):
 kidsT T (k::ks) fuel far st t=kidsT T ks f' far' st' (if q then t else joinT t u):=by
 rw[kidsT,hq,h,if_pos (show (fitO f' far' st' u).ok=true from rfl)];rfl
theorem kidsT_fail {k:List It}{ks:List (List It)}{fuel far:Nat}{st:PS}{t:List UInt8}{q:Bool}(hq:silV k=q)(h:(T fuel far q k st).ok=false):
 kidsT T (k::ks) fuel far st t=T fuel far q k st:=by
 rw[kidsT,hq,if_neg (by rw[h];simp)]
end
section
variable {G:Nat→List It} {bs:ByteArray} {N m f:Nat} {x0 x1 x2 x3 x4 x5 x6:It}
theorem GuIts.sil (hx:GuIts x0 x1 x2 x3 x4 x5 x6):silV [x1]=true∧silV [x2]=true∧silV [x3,x4,x5,x6]=false:=by
 unfold silV
 simp only
 rw[hx.c1,hx.c2,hx.c3]
 exact ⟨rfl,rfl,rfl⟩
def guK (bs:ByteArray):PS:={ st0 bs with deps:=fun _=>(0,0) }
theorem gu_two (hx:GuIts x0 x1 x2 x3 x4 x5 x6)(hm:bs.size=m)(a b l:List UInt8)(hp:Pos bs 0 (a++(b++l)))(ha:a.length=2)(hb:b.length=4):
 ∃ st2,kidsT (tryT G bs N (f+4)) [[x1],[x2],[x3,x4,x5,x6]] (f+3) 0 (guK bs) []=kidsT (tryT G bs N (f+4)) [[x3,x4,x5,x6]] (f+1) 0 st2 []∧st2.pl=6∧st2.en=m∧RdTo st2.rd m 6∧st2.vals=0∧st2.deps x3.d.toNat=(valL a.reverse,2)∧st2.deps x4.d.toNat=(valL b,4)∧Pos bs 6 l:=by
 obtain ⟨s1,s2,_⟩:=hx.sil
 have hp1:Pos bs 2 (b++l):=by have:=Pos.app hp;rw[ha] at this;exact this
 have hp2:Pos bs 6 l:=by have:=Pos.app hp1;rw[hb] at this;exact this
 have hm6:6≤m:=by rw[← hm];exact hp2.2
 have h1:=hid_try (G:=G) (N:=N) (m:=m) (Or.inl hx.c1) 2 hx.w1 (f+3) (f+2) 0 (guK bs) a (b++l) ha hp (by show RdTo (List.replicate bs.size false) m 0;rw[hm];exact RdTo.zero m) (by show 0+2≤bs.size;omega)
 have hr1:RdTo (readS (guK bs) 2).rd m 2:=by
  show RdTo (setR (List.replicate bs.size false) 0 (0+2) true) m 2
  rw[hm];exact (RdTo.zero m).read 2 (by omega)
 have h2:=hid_try (G:=G) (bs:=bs) (N:=N) (m:=m) (Or.inr hx.c2) 4 hx.w2 (f+3) (f+1) 0 { readS (guK bs) 2 with deps:=fun k=>if k=x1.d.toNat then (valL (if x1.c=107 then a else a.reverse),2) else (guK bs).deps k } b l hb hp1 hr1 (by show 2+4≤bs.size;omega)
 refine ⟨_,by rw[kidsT_fit s1 h1,if_pos rfl,kidsT_fit s2 h2,if_pos rfl],rfl,hm,?_,rfl,?_,?_,hp2⟩
 · exact hr1.read 4 (by omega)
 · show (if x3.d.toNat=x2.d.toNat then _ else (if x3.d.toNat=x1.d.toNat then _ else _))=_
   rw[if_neg (by rw[hx.d3];exact hx.ne),if_pos hx.d3,if_neg (by rw[hx.c1];decide)]
 · show (if x4.d.toNat=x2.d.toNat then _ else _)=_
   rw[if_pos hx.d4,if_pos hx.c2]
theorem gu_full (hx:GuIts x0 x1 x2 x3 x4 x5 x6)(hm:bs.size=m)(hm4:m≤4000)(hf:5000≤f)(hN:5000≤N)(a b L rest:List UInt8)(hp:Pos bs 0 (a++(b++(L++rest))))(ha:a.length=2)(hb:b.length=4)(hL:valL a.reverse=L.length):
 (guSum 4 L≠valL b→(kidsT (tryT G bs N (f+4)) [[x1],[x2],[x3,x4,x5,x6]] (f+3) 0 (guK bs) []).e=0∧(kidsT (tryT G bs N (f+4)) [[x1],[x2],[x3,x4,x5,x6]] (f+3) 0 (guK bs) []).ok=false)∧
 (guSum 4 L=valL b→∃ f' far' st',kidsT (tryT G bs N (f+4)) [[x1],[x2],[x3,x4,x5,x6]] (f+3) 0 (guK bs) []=fitO f' far' st' (91::joinL (L.map fun c=>decT c.toNat)++[93])∧RdTo st'.rd m (6+L.length)∧st'.vals=L.length+1):=by
 obtain ⟨st2,e,e1,e2,e3,e4,e5,e6,e7⟩:=gu_two (G:=G) (N:=N) (f:=f) hx hm a b (L++rest) hp ha hb
 have hle:6+L.length≤m:=by rw[← hm];exact Pos.app_le e7
 rw[hL] at e5
 obtain ⟨g1,g2⟩:=list_try (G:=G) (N:=N) hx hm f (f+1) 0 st2 L rest (valL b) (by rw[e1];exact e7) (by rw[e1];exact e3) (by rw[e1,e2];omega) (by rw[e4];omega) (by omega) e5 e6
 rw[e]
 constructor
 · intro hne
   obtain ⟨h1,h2⟩:=g1 hne
   rw[kidsT_fail hx.sil.2.2 h2]
   exact ⟨h1,h2⟩
 · intro heq
   obtain ⟨f',far',st',h1,h2,h3⟩:=g2 heq
   rw[kidsT_fit hx.sil.2.2 h1]
   refine ⟨f',far',st',?_,by rw[e1] at h2;exact h2,by rw[h3,e4];omega⟩
   rw[if_neg (by simp),kidsT]
   rfl
theorem gu_few (hx:GuIts x0 x1 x2 x3 x4 x5 x6)(hm:bs.size=m)(hm4:m≤4000)(_hf:5000≤f)(l:List UInt8)(hp:Pos bs 0 l)(h:l.length<6∨∃ a b L,l=a++(b++L)∧a.length=2∧b.length=4∧L.length<valL a.reverse):
 (kidsT (tryT G bs N (f+4)) [[x1],[x2],[x3,x4,x5,x6]] (f+3) 0 (guK bs) []).e=0∧(kidsT (tryT G bs N (f+4)) [[x1],[x2],[x3,x4,x5,x6]] (f+3) 0 (guK bs) []).ok=false:=by
 have hlen:l.length=m:=by rw[← hp.1,List.drop_zero,size_toList,hm]
 obtain ⟨s1,s2,s3⟩:=hx.sil
 rcases h with h | ⟨a,b,L,rfl,ha,hb,hL⟩
 · have hr0:RdTo (guK bs).rd m 0:=by show RdTo (List.replicate bs.size false) m 0;rw[hm];exact RdTo.zero m
   by_cases h2:m<2
   · have h1:=hid_end (G:=G) (bs:=bs) (N:=N) (m:=m) (Or.inl hx.c1) 2 hx.w1 (f+3) (f+2) 0 (guK bs) hr0 (by show bs.size-0<2;omega)
     rw[kidsT_fail s1 (by rw[h1];rfl),h1]
     exact ⟨rfl,rfl⟩
   · obtain ⟨a,r,rfl,ha⟩:∃ a r,l=a++r∧a.length=2:=⟨l.take 2,l.drop 2,(List.take_append_drop 2 l).symm,by rw[List.length_take];omega⟩
     have h1:=hid_try (G:=G) (N:=N) (m:=m) (Or.inl hx.c1) 2 hx.w1 (f+3) (f+2) 0 (guK bs) a r ha hp hr0 (by show 0+2≤bs.size;omega)
     have hr1:RdTo (readS (guK bs) 2).rd m 2:=by
      show RdTo (setR (List.replicate bs.size false) 0 (0+2) true) m 2
      rw[hm];exact (RdTo.zero m).read 2 (by omega)
     have h2:=hid_end (G:=G) (bs:=bs) (N:=N) (m:=m) (Or.inr hx.c2) 4 hx.w2 (f+3) (f+1) 0 { readS (guK bs) 2 with deps:=fun k=>if k=x1.d.toNat then (valL (if x1.c=107 then a else a.reverse),2) else (guK bs).deps k } hr1 (by show bs.size-(0+2)<4;omega)
     rw[kidsT_fit s1 h1,kidsT_fail s2 (by rw[h2];rfl),h2]
     exact ⟨rfl,rfl⟩
 · obtain ⟨st2,e,e1,e2,e3,e4,e5,e6,e7⟩:=gu_two (G:=G) (N:=N) (f:=f) hx hm a b L hp ha hb
   have hl6:m=6+L.length:=by rw[← hlen];simp;omega
   have h1:=list_short (G:=G) (bs:=bs) (N:=N) hx (f+3) f 0 _ st2 (by rw[e1,e2,hl6];omega) e5
   rw[e,kidsT_fail s3 (by rw[h1];rfl),h1]
   exact ⟨rfl,rfl⟩
theorem gu_top (hx:GuIts x0 x1 x2 x3 x4 x5 x6)(q:Bool):tryT G bs N (f+5) (f+4) 0 q [x0,x1,x2,x3,x4,x5,x6] (st0 bs)=wholeE N (st0 bs).deps (kidsT (tryT G bs N (f+4)) [[x1],[x2],[x3,x4,x5,x6]] (f+3) 0 (guK bs) []):=by
 conv=>lhs;unfold tryT
 rw[if_pos hx.c0]
 unfold wholeT
 rw[show [x1,x2,x3,x4,x5,x6].length=6 from rfl,hx.sg]
 rfl
theorem end_bad {d:Nat→Nat × Nat}{o:PO}(h:o.e=0∧o.ok=false):(endT (wholeE N d o)).2.1=8:=by
 unfold wholeE
 rw[if_neg (by rw[h.2];simp)]
 unfold endT
 rw[if_neg (fun k=>k h.1),if_pos h.2]
end
theorem list_pos (l:List UInt8):Pos ⟨l.toArray⟩ 0 l:=⟨by show l.toArray.toList.drop 0=l;simp,Nat.zero_le _⟩
theorem list_size (l:List UInt8):(⟨l.toArray⟩:ByteArray).size=l.length:=by show l.toArray.size=_;simp
theorem gu_good (a b L:List UInt8)(ha:a.length=2)(hb:b.length=4)(hL:valL a.reverse=L.length)(hs:guSum 4 L=valL b)(hl:L.length≤3994):endT (outT guS ⟨(a++(b++L)).toArray⟩ 100000 10000)=(guT L,0,0):=by
 obtain ⟨_,x0,x1,x2,x3,x4,x5,x6,hG,hx⟩:=gu_gram
 have hsz:(⟨(a++(b++L)).toArray⟩:ByteArray).size=6+L.length:=by rw[list_size];simp;omega
 obtain ⟨_,h⟩:=gu_full (G:=rulePt (rlsOf guS)) (N:=10000) (f:=99996) hx hsz (by omega) (by omega) (by omega) a b L [] (by rw[List.append_nil];exact list_pos _) ha hb hL
 obtain ⟨f',far',st',e,h1,h2⟩:=h hs
 have ho:outT guS ⟨(a++(b++L)).toArray⟩ 100000 10000=wholeE 10000 (st0 ⟨(a++(b++L)).toArray⟩).deps (fitO f' far' st' (91::joinL (L.map fun c=>decT c.toNat)++[93])):=by
  rw[← e,← gu_top hx false]
  unfold outT
  rw[hG]
 rw[ho]
 unfold wholeE
 rw[if_pos (show (fitO f' far' st' (91::joinL (L.map fun c=>decT c.toNat)++[93])).ok=true from rfl)]
 unfold madeO
 rw[if_neg (by show st'.vals≠10000;omega)]
 unfold endT
 rw[if_neg (by simp[fitO]),if_neg (by simp[fitO])]
 show (match st'.rd.findIdx? (fun b=>!b) with | some i=>_ | none=>_)=_
 rw[h1.all]
 show (40::(91::joinL (L.map fun c=>decT c.toNat)++[93])++[41],0,0)=_
 unfold guT
 simp
theorem gu_bad (l:List UInt8)(hl:l.length≤4000)(h:∀ a b L,l=a++(b++L)→a.length=2→b.length=4→valL a.reverse=L.length→guSum 4 L≠valL b):(endT (outT guS ⟨l.toArray⟩ 100000 10000)).2.1=8:=by
 obtain ⟨_,x0,x1,x2,x3,x4,x5,x6,hG,hx⟩:=gu_gram
 have ho:outT guS ⟨l.toArray⟩ 100000 10000=wholeE 10000 (st0 ⟨l.toArray⟩).deps (kidsT (tryT (rulePt (rlsOf guS)) ⟨l.toArray⟩ 10000 (99996+4)) [[x1],[x2],[x3,x4,x5,x6]] (99996+3) 0 (guK ⟨l.toArray⟩) []):=by
  rw[← gu_top hx false]
  unfold outT
  rw[hG]
 have hsz:=list_size l
 rw[ho]
 by_cases h6:l.length<6
 · exact end_bad (gu_few hx hsz hl (by omega) l (list_pos l) (Or.inl h6))
 · obtain ⟨a,b,R,rfl,ha,hb⟩:∃ a b R,l=a++(b++R)∧a.length=2∧b.length=4:=⟨l.take 2,(l.drop 2).take 4,(l.drop 2).drop 4,by rw[List.take_append_drop,List.take_append_drop],by rw[List.length_take];omega,by rw[List.length_take,List.length_drop];omega⟩
   by_cases hR:R.length<valL a.reverse
   · exact end_bad (gu_few hx hsz hl (by omega) _ (list_pos _) (Or.inr ⟨a,b,R,rfl,ha,hb,hR⟩))
   · obtain ⟨L,rest,rfl,hL⟩:∃ L rest,R=L++rest∧valL a.reverse=L.length:=⟨R.take (valL a.reverse),R.drop (valL a.reverse),(List.take_append_drop _ R).symm,by rw[List.length_take];omega⟩
     obtain ⟨g1,g2⟩:=gu_full (G:=rulePt (rlsOf guS)) (N:=10000) (f:=99996) hx hsz hl (by omega) (by omega) a b L rest (list_pos _) ha hb hL
     by_cases hs:guSum 4 L=valL b
     · obtain ⟨f',far',st',e,h1,h2⟩:=g2 hs
       have hne:0<rest.length:=by
        rcases Nat.eq_zero_or_pos rest.length with h0 | h0
        · obtain rfl:=List.length_eq_zero_iff.1 h0
          exact absurd hs (h a b L (by rw[List.append_nil]) ha hb hL)
        · exact h0
       have hll:L.length≤4000:=by simp at hl;omega
       obtain ⟨i,hi⟩:=h1.some (by simp;omega)
       rw[e]
       unfold wholeE
       rw[if_pos (show (fitO f' far' st' (91::joinL (L.map fun c=>decT c.toNat)++[93])).ok=true from rfl)]
       unfold madeO
       rw[if_neg (by show st'.vals≠10000;omega)]
       unfold endT
       rw[if_neg (by simp[fitO]),if_neg (by simp[fitO])]
       show (match st'.rd.findIdx? (fun b=>!b) with | some i=>([],8,i) | none=>_:List UInt8 × Nat × Nat).2.1=_
       rw[hi]
     · exact end_bad (g1 hs)
end Go.Proofs.YtmlkhhhjdpbhfaaGreatDoor
namespace Go.Proofs.YtmlkhhhjdpbhfaaGreatDoor
open Go.RowKit
def byN (n:Nat)(c:UInt8):Tr (n+1):=(⟨0,c.toNat,[],[]⟩:Nd (Tr n))
def liN:(n:Nat)→List UInt8→Tr (n+1)
 | 0,_=>(⟨4,0,[],[]⟩:Nd (Tr 0))
 | n+1,L=>(⟨4,0,[],L.map (byN n)⟩:Nd (Tr (n+1)))
def guN:(n:Nat)→List UInt8→Nd (Tr n)
 | 0,_=>(⟨3,0,[],[]⟩:Nd (Tr 0))
 | n+1,L=>(⟨3,0,[],[liN n L]⟩:Nd (Tr (n+1)))
theorem gu_txt (n:Nat)(hn:2≤n)(L:List UInt8):txtT (n+1) (guN n L)=guT L:=by
 obtain ⟨k,rfl⟩:∃ k,n=k+2:=⟨n-2,by omega⟩
 show 40::joinL [91::joinL ((L.map (byN k)).map (txtT (k+1)))++[93]]++[41]=_
 rw[List.map_map]
 have:(txtT (k+1))∘(byN k)=fun c=>decT c.toNat:=rfl
 rw[this]
 unfold guT
 simp[joinL,joinT]
theorem gu_can (n:Nat)(hn:2≤n)(L:List UInt8):Can (n+1) (guN n L):=by
 obtain ⟨k,rfl⟩:∃ k,n=k+2:=⟨n-2,by omega⟩
 refine Or.inr (Or.inr (Or.inr (Or.inl ⟨Or.inl rfl,rfl,rfl,fun y hy=>?_⟩)))
 obtain rfl:y=liN (k+1) L:=by simpa[guN] using hy
 refine Or.inr (Or.inr (Or.inr (Or.inl ⟨Or.inr rfl,rfl,rfl,fun z hz=>?_⟩)))
 have hz':z∈L.map (byN k):=hz
 obtain ⟨c,_,rfl⟩:=List.mem_map.1 hz'
 exact Or.inl ⟨rfl,by show c.toNat<_;have:=c.toNat_lt;omega,rfl,rfl⟩
theorem guJ_len (a b:List UInt8):(joinT a b).length≤a.length+b.length+1:=by
 unfold joinT;split
 · omega
 · simp;omega
theorem join_len:∀ (L t:List UInt8),((L.map fun c=>decT c.toNat).foldl joinT t).length≤t.length+11*L.length
 | [],t=>by simp
 | c::L,t=>by
  have h:=join_len L (joinT t (decT c.toNat))
  have h1:=guJ_len t (decT c.toNat)
  have h2:=decT_len c.toNat (by have:=c.toNat_lt;omega)
  simp only[List.map_cons,List.foldl_cons,List.length_cons] at h ⊢
  omega
theorem guT_len (L:List UInt8)(hl:L.length≤200):4≤(guT L).length∧(guT L).length≤2300:=by
 have h:(joinL (L.map fun c=>decT c.toNat)).length≤0+11*L.length:=join_len L []
 unfold guT
 simp only[List.length_cons,List.length_append,List.length_nil]
 omega
theorem tree_gu (L:List UInt8)(hl:L.length≤200):(treeV ⟨(guT L).toArray⟩).1=some (guN (⟨(guT L).toArray⟩:ByteArray).size L:Tr ((⟨(guT L).toArray⟩:ByteArray).size+1)):=by
 obtain ⟨h4,h23⟩:=guT_len L hl
 have hs:=list_size (guT L)
 have ht:=gu_txt (⟨(guT L).toArray⟩:ByteArray).size (by omega) L
 have hp:Pos ⟨(guT L).toArray⟩ 0 (txtT ((⟨(guT L).toArray⟩:ByteArray).size+1) (guN (⟨(guT L).toArray⟩:ByteArray).size L)++[]):=by
  rw[List.append_nil,ht]
  exact list_pos _
 have hv:=valV_txt ⟨(guT L).toArray⟩ ((⟨(guT L).toArray⟩:ByteArray).size+1) (guN (⟨(guT L).toArray⟩:ByteArray).size L) (gu_can _ (by omega) L) 0 [] hp (fun c r e=>by cases e)
 unfold treeV
 rw[if_neg (by rw[hs];omega),if_pos (by rw[hv];simp only;rw[ht,hs];omega),hv]
 rfl
def guB (L:List UInt8):List UInt8:=numB false 2 L.length++(numB true 4 (guSum 4 L)++L)
section
variable {G:Nat→List It} {x0 x1 x2 x3 x4 x5 x6:It}
theorem byte_in (hx:GuIts x0 x1 x2 x3 x4 x5 x6):inn [x6]=[x6]∧inn [x3,x4,x5,x6]=[x5,x6]∧inn [x0,x1,x2,x3,x4,x5,x6]=[x0,x1,x2,x3,x4,x5,x6]:=by
 refine ⟨?_,?_,?_⟩
 · rw[inn,if_neg (by rw[hx.c6];decide)]
 · rw[inn,if_pos (by rw[hx.c3];decide),inn,if_pos (by rw[hx.c4];decide),inn,if_neg (by rw[hx.c5];decide)]
 · rw[inn,if_neg (by rw[hx.c0];decide)]
theorem gu_has (hx:GuIts x0 x1 x2 x3 x4 x5 x6)(n:Nat)(hn:2≤n)(L:List UInt8):hasT G (n+1) [x0,x1,x2,x3,x4,x5,x6] (guN n L)=true:=by
 obtain ⟨k,rfl⟩:∃ k,n=k+2:=⟨n-2,by omega⟩
 obtain ⟨i6,i3,i0⟩:=byte_in hx
 obtain ⟨s1,s2,s3⟩:=hx.sil
 have hby:∀ c,hasT G (k+1) [x6] (byN k c)=true:=fun c=>by
  show hasQ G (hasT G k) (inn [x6]) _=true
  rw[i6]
  show (if x6.c=82 then _ else hasTop _ [x6] _)=true
  rw[if_neg (by rw[hx.c6];decide)]
  unfold hasTop
  simp only
  rw[if_pos (Or.inl hx.c6),hx.w6]
  show (decide (0=0)&&withinB c.toNat 1)=true
  have:=c.toNat_lt
  simp[withinB]
  omega
 have hli:hasT G (k+2) [x3,x4,x5,x6] (liN (k+1) L)=true:=by
  show hasQ G (hasT G (k+1)) (inn [x3,x4,x5,x6]) _=true
  rw[i3]
  show (if x5.c=82 then _ else hasTop _ [x5,x6] _)=true
  rw[if_neg (by rw[hx.c5];decide)]
  unfold hasTop
  simp only
  rw[if_neg (by rw[hx.c5];decide),if_neg (by rw[hx.c5];decide),if_neg (by rw[hx.c5];decide),if_neg (by rw[hx.c5];decide),if_neg (by rw[hx.c5];decide),if_pos (Or.inl hx.c5)]
  show (decide (4=4)&&(L.map (byN k)).all (hasT G (k+1) [x6]))=true
  rw[List.all_map]
  simp only[decide_true,Bool.true_and,List.all_eq_true]
  intro c _
  exact hby c
 show hasQ G (hasT G (k+2)) (inn [x0,x1,x2,x3,x4,x5,x6]) _=true
 rw[i0]
 show (if x0.c=82 then _ else hasTop _ [x0,x1,x2,x3,x4,x5,x6] _)=true
 rw[if_neg (by rw[hx.c0];decide)]
 unfold hasTop
 simp only
 rw[if_neg (by rw[hx.c0];decide),if_neg (by rw[hx.c0];decide),if_neg (by rw[hx.c0];decide),if_pos hx.c0]
 show (decide (3=3)&&hasKids _ (segs 6 [x1,x2,x3,x4,x5,x6]) [liN (k+1) L])=true
 rw[hx.sg,hasKids,s1,if_pos rfl,hasKids,s2,if_pos rfl,hasKids,s3,if_neg (by simp)]
 simp only
 rw[hli]
 rfl
theorem num_one (c:UInt8):numB false 1 c.toNat=[c]:=by
 show [UInt8.ofNat (c.toNat % 256)]=[c]
 have:=c.toNat_lt
 rw[Nat.mod_eq_of_lt (by omega)]
 simp
theorem w_byte (hx:GuIts x0 x1 x2 x3 x4 x5 x6){n:Nat}(W:List It→Option Nat→Tr n→Wr→Wr)(v:Nd (Tr n))(st:Wr):wIn G W [x6] none v st=wOut st (numB false 1 v.n):=by
 unfold wIn
 rw[if_neg (by rw[hx.c6];decide),if_neg (by rw[hx.c6];decide),if_neg (by rw[hx.c6];decide),if_neg (by rw[hx.c6];decide)]
 unfold wTop
 simp only
 rw[if_pos hx.c6,hx.w6]
theorem gu_many (hx:GuIts x0 x1 x2 x3 x4 x5 x6)(k:Nat):∀ (L:List UInt8) (st:Wr),wMany (writeT G (k+1)) [x6] (L.map (byN k)) st=wOut st L
 | [],st=>by show st=_;unfold wOut;simp
 | c::L,st=>by
  have h:writeT G (k+1) [x6] none (byN k c) st=wOut st [c]:=by
   rw[← num_one c]
   exact w_byte hx (writeT G k) (byN k c) st
  rw[List.map_cons,wMany,h,gu_many hx k L]
  unfold wOut
  simp
def guH (x1 x2:It):Nat→Option Ho:=fun k=>if k=x2.d.toNat then some ⟨2,4,true⟩ else if k=x1.d.toNat then some ⟨0,2,false⟩ else none
def guW (x1 x2:It):Wr:=⟨List.replicate 6 0,false,[],[[]],[guH x1 x2]⟩
theorem gu_list (hx:GuIts x0 x1 x2 x3 x4 x5 x6){n:Nat}(W:List It→Option Nat→Tr n→Wr→Wr)(v:Nd (Tr n))(L:List UInt8)(hl:L.length≤200)(hW:wMany W [x6] v.kids (guW x1 x2)=wOut (guW x1 x2) L):wIn G W [x3,x4,x5,x6] (some 0) v (guW x1 x2)=⟨numB false 2 L.length++(List.replicate 4 0++L),false,[],[[⟨6,6+L.length,⟨2,4,true⟩⟩]],[guH x1 x2]⟩:=by
 have h5:wIn G W [x5,x6] (some 0) v (guW x1 x2)=wOut (guW x1 x2) L:=by
  unfold wIn
  rw[if_neg (by rw[hx.c5];decide),if_neg (by rw[hx.c5];decide),if_neg (by rw[hx.c5];decide),if_neg (by rw[hx.c5];decide)]
  unfold wTop
  simp only
  rw[if_neg (by rw[hx.c5];decide),if_neg (by rw[hx.c5];decide),if_neg (by rw[hx.c5];decide),if_neg (by rw[hx.c5];decide),if_neg (by rw[hx.c5];decide),if_neg (by rw[hx.c5];decide),if_neg (by rw[hx.c5];decide),if_pos hx.c5]
  exact hW
 have ho4:holeOf (wOut (guW x1 x2) L) (some 0) x4.d.toNat=⟨2,4,true⟩:=by
  show ((guH x1 x2) x4.d.toNat).getD ho0=_
  unfold guH
  rw[if_pos hx.d4]
  rfl
 have hlen:(wOut (guW x1 x2) L).out.length=6+L.length:=by simp[wOut,guW];omega
 have h4:wIn G W [x4,x5,x6] (some 0) v (guW x1 x2)=wSum (wOut (guW x1 x2) L) ⟨6,6+L.length,⟨2,4,true⟩⟩:=by
  rw[wIn,if_neg (by rw[hx.c4];decide),if_pos hx.c4,h5,ho4,hlen]
  rfl
 have ho3:holeOf (wSum (wOut (guW x1 x2) L) ⟨6,6+L.length,⟨2,4,true⟩⟩) (some 0) x3.d.toNat=⟨0,2,false⟩:=by
  show ((guH x1 x2) x3.d.toNat).getD ho0=_
  unfold guH
  rw[if_neg (by rw[hx.d3];exact hx.ne),if_pos hx.d3]
  rfl
 have hlen2:(wSum (wOut (guW x1 x2) L) ⟨6,6+L.length,⟨2,4,true⟩⟩).out.length=6+L.length:=hlen
 rw[wIn,if_pos hx.c3,h4,ho3,hlen2,show 6+L.length-(guW x1 x2).out.length=L.length by simp[guW]]
 have hw:withinB L.length 2=true:=by unfold withinB;simp;omega
 unfold wTell wPut wSum wOut guW putAt
 simp only[hw]
 rfl
theorem gu_gen (hx:GuIts x0 x1 x2 x3 x4 x5 x6)(hG:G 0=[x0,x1,x2,x3,x4,x5,x6])(n:Nat)(hn:2≤n)(L:List UInt8)(hl:L.length≤200)(most:Nat)(hmost:206≤most):genT G n (guN n L) most=(guB L,0):=by
 have hhas:hasT G (n+1) (G 0) (guN n L)=true:=by rw[hG];exact gu_has hx n hn L
 have hpc:wPiece G n (G 0) none (guN n L) Wr0=⟨numB false 2 L.length++(List.replicate 4 0++L),false,[],[[⟨6,6+L.length,⟨2,4,true⟩⟩]],[guH x1 x2]⟩:=by
  obtain ⟨k,rfl⟩:∃ k,n=k+2:=⟨n-2,by omega⟩
  obtain ⟨s1,s2,s3⟩:=hx.sil
  rw[hG]
  unfold wPiece
  rw[wIn,if_neg (by rw[hx.c0];decide),if_neg (by rw[hx.c0];decide),if_neg (by rw[hx.c0];decide),if_neg (by rw[hx.c0];decide)]
  unfold wTop
  simp only
  rw[if_neg (by rw[hx.c0];decide),if_neg (by rw[hx.c0];decide),if_neg (by rw[hx.c0];decide),if_neg (by rw[hx.c0];decide),if_neg (by rw[hx.c0];decide),if_pos hx.c0]
  show wKids (writeT G (k+2)) 0 (segs 6 [x1,x2,x3,x4,x5,x6]) [liN (k+1) L] ⟨[],false,[],[[]],[fun _=>none]⟩=_
  have e1:wSil [x1] 0 ⟨[],false,[],[[]],[fun _=>none]⟩=⟨[0,0],false,[],[[]],[fun k=>if k=x1.d.toNat then some ⟨0,2,false⟩ else none]⟩:=by
   unfold wSil
   simp only
   rw[if_neg (by rw[hx.c1];decide),hx.w1,hx.c1]
   rfl
  have e2:wSil [x2] 0 ⟨[0,0],false,[],[[]],[fun k=>if k=x1.d.toNat then some ⟨0,2,false⟩ else none]⟩=guW x1 x2:=by
   unfold wSil
   simp only
   rw[if_neg (by rw[hx.c2];decide),hx.w2,hx.c2]
   rfl
  rw[hx.sg,wKids,s1,if_pos rfl,e1,wKids,s2,if_pos rfl,e2,wKids,s3,if_neg (by simp)]
  show wKids _ 0 [] [] (writeT G (k+2) [x3,x4,x5,x6] (some 0) (liN (k+1) L) (guW x1 x2))=_
  rw[wKids]
  exact gu_list hx (writeT G (k+1)) (liN (k+1) L) L hl (gu_many hx k L _)
 have hrest:wRest G ((G 0).length+1001*szN (guN n L)) (wPiece G n (G 0) none (guN n L) Wr0)=⟨numB false 2 L.length++(List.replicate 4 0++L),false,[],[[⟨6,6+L.length,⟨2,4,true⟩⟩]],[guH x1 x2]⟩:=by
  rw[hpc]
  cases (G 0).length+1001*szN (guN n L) with
  | zero=>rfl
  | succ f=>rfl
 unfold genT
 rw[if_neg (by rw[hhas];simp)]
 simp only
 rw[hrest]
 have hl2:(numB false 2 L.length++(List.replicate 4 0++L)).length=6+L.length:=by simp[numB_length];omega
 simp only[hl2]
 rw[if_neg (by omega),if_neg (by simp)]
 have hA:(numB false 2 L.length).length=2:=numB_length _ _ _
 have hdrop:(numB false 2 L.length++(List.replicate 4 0++L)).drop 6=L:=by
  rw[List.drop_append,hA];simp[hA]
 have htake:(numB false 2 L.length++(List.replicate 4 0++L)).take 2=numB false 2 L.length:=by
  rw[List.take_append_of_le_length (by omega),List.take_of_length_le (by omega)]
 have:putSp (numB false 2 L.length++(List.replicate 4 0++L)) ⟨6,6+L.length,⟨2,4,true⟩⟩=guB L:=by
  unfold putSp putAt
  simp only
  rw[hdrop,htake,show 6+L.length-6=L.length by omega,List.take_length,sumV_list]
  unfold guB
  rw[List.append_assoc]
 show (putSp (numB false 2 L.length++(List.replicate 4 0++L)) ⟨6,6+L.length,⟨2,4,true⟩⟩,0)=_
 rw[this]
end
end Go.Proofs.YtmlkhhhjdpbhfaaGreatDoor
namespace Go.Proofs.YtmlkhhhjdpbhfaaGreatDoor
open Go.RowKit
theorem guSum_lt (L:List UInt8):guSum 4 L<4294967296:=by
 rw[← sumV_list]
 exact Nat.lt_of_lt_of_le (sumV_lt _ 4 _) (pow_le4 4 (by omega))
def guF (s:Nat)(c:UInt8):Nat:=(s*31+c.toNat) % 256 ^ 4
theorem guF_lt (s:Nat)(c:UInt8):guF s c<4294967296:=Nat.lt_of_lt_of_le (Nat.mod_lt _ (Nat.pow_pos (by omega))) (pow_le4 4 (by omega))
theorem guF_inj:∀ (Q:List UInt8) (s s':Nat),s<4294967296→s'<4294967296→s≠s'→Q.foldl guF s≠Q.foldl guF s'
 | [],s,s',_,_,h=>h
 | c::Q,s,s',h1,h2,h=>by
  rw[List.foldl_cons,List.foldl_cons]
  refine guF_inj Q _ _ (guF_lt s c) (guF_lt s' c) ?_
  unfold guF
  rw[show (256:Nat) ^ 4=4294967296 from rfl]
  omega
theorem guSum_turn (P Q:List UInt8)(c d:UInt8)(h:c≠d):guSum 4 (P++c::Q)≠guSum 4 (P++d::Q):=by
 show (P++c::Q).foldl guF 0≠(P++d::Q).foldl guF 0
 rw[List.foldl_append,List.foldl_append,List.foldl_cons,List.foldl_cons]
 refine guF_inj Q _ _ (guF_lt _ _) (guF_lt _ _) ?_
 have hc:=c.toNat_lt
 have hd:=d.toNat_lt
 have hn:c.toNat≠d.toNat:=fun e=>h (UInt8.toNat_inj.1 e)
 unfold guF
 rw[show (256:Nat) ^ 4=4294967296 from rfl]
 omega
theorem valL_inj {a b:List UInt8}(hl:a.length=b.length)(h:valL a=valL b):a=b:=by
 rw[← low_val a,← low_val b,hl,h]
theorem guB_len (L:List UInt8):(guB L).length=6+L.length:=by unfold guB;simp[numB_length];omega
theorem val_len (L:List UInt8)(hl:L.length≤200):valL (numB false 2 L.length).reverse=L.length:=val_numB false 2 L.length (by omega)
theorem val_sum (L:List UInt8):valL (numB true 4 (guSum 4 L))=guSum 4 L:=val_numB true 4 _ (by have:=guSum_lt L;omega)
theorem gu_end (L:List UInt8)(hl:L.length≤200):endT (outT guS ⟨(guB L).toArray⟩ 100000 10000)=(guT L,0,0):=
 gu_good _ _ L (numB_length _ _ _) (numB_length _ _ _) (val_len L hl) (val_sum L).symm (by omega)
theorem gu_parse (L:List UInt8)(hl:L.length≤200):parseV guS ⟨(guB L).toArray⟩ 100000 10000=(guT L,0,0):=by
 have hv:parseV guS ⟨(guB L).toArray⟩ 100000 10000=_:=parseV_in guS ⟨(guB L).toArray⟩ 100000 10000 gu_gram.1 (by rw[list_size,guB_len];omega) (by omega) (by omega)
 rw[hv,gu_end L hl]
 rfl
theorem gu_genV (L:List UInt8)(hl:L.length≤200):genV guS ⟨(guT L).toArray⟩ 4000=(guB L,0,0):=by
 obtain ⟨hp,x0,x1,x2,x3,x4,x5,x6,hG,hx⟩:=gu_gram
 have hz:(pressV guS).1=0:=by rw[hp]
 have h4:=(guT_len L hl).1
 have hgen:genO guS ⟨(guT L).toArray⟩ (guN (⟨(guT L).toArray⟩:ByteArray).size L) 4000=(guB L,0):=gu_gen hx hG _ (by rw[list_size];omega) L hl 4000 (by omega)
 unfold genV
 rw[if_neg (fun h=>h hz),tree_gu L hl]
 simp only
 rw[if_neg (by decide),show (4000:Int).toNat=4000 from rfl,hgen]
 simp only
 rw[if_neg (by simp),gu_end L hl,if_pos rfl]
theorem bad_parse (l:List UInt8)(hl:l.length≤4000)(h:(endT (outT guS ⟨l.toArray⟩ 100000 10000)).2.1=8):(parseV guS ⟨l.toArray⟩ 100000 10000).2.1=8:=by
 have hv:parseV guS ⟨l.toArray⟩ 100000 10000=_:=parseV_in guS ⟨l.toArray⟩ 100000 10000 gu_gram.1 (by rw[list_size];omega) (by omega) (by omega)
 rw[hv]
 show ((endT (outT guS ⟨l.toArray⟩ 100000 10000)).2.1:Int)=8
 rw[h]
 rfl
theorem gu_cut (L:List UInt8)(hl:L.length≤200)(k:Nat)(hk:k<6+L.length):(parseV guS ⟨((guB L).take k).toArray⟩ 100000 10000).2.1=8:=by
 have hB:=guB_len L
 refine bad_parse _ (by rw[List.length_take];omega) (gu_bad _ (by rw[List.length_take];omega) ?_)
 intro a b L' e ha hb hL
 exfalso
 have hlen:=congrArg List.length e
 rw[List.length_take,List.length_append,List.length_append] at hlen
 have e2:(guB L).take 2=a:=by
  have h:=congrArg (List.take 2) e
  rw[List.take_take,Nat.min_eq_left (by omega),List.take_left' ha] at h
  exact h
 have e3:(guB L).take 2=numB false 2 L.length:=by
  unfold guB
  rw[List.take_append_of_le_length (by rw[numB_length];omega),List.take_of_length_le (by rw[numB_length];omega)]
 rw[← e2,e3,val_len L hl] at hL
 omega
theorem gu_turn (L:List UInt8)(hl:L.length≤200)(k:Nat)(hk:k<6+L.length)(c:UInt8)(hc:(guB L)[k]? ≠ some c):(parseV guS ⟨((guB L).set k c).toArray⟩ 100000 10000).2.1=8:=by
 have hB:=guB_len L
 refine bad_parse _ (by rw[List.length_set];omega) (gu_bad _ (by rw[List.length_set];omega) ?_)
 intro a b L' e ha hb hL hs
 have hlen:=congrArg List.length e
 rw[List.length_set,List.length_append,List.length_append] at hlen
 have hA:(numB false 2 L.length).length=2:=numB_length _ _ _
 have hS:(numB true 4 (guSum 4 L)).length=4:=numB_length _ _ _
 have setne:∀ (l:List UInt8) (i:Nat),i<l.length→l.set i c=l→l[i]? = some c:=fun l i hi h=>by
  have h2:=congrArg (fun z:List UInt8=>z[i]?) h
  simp only[List.getElem?_set_self hi] at h2
  exact h2.symm
 unfold guB at e hc
 by_cases h2:k<2
 · rw[List.set_append_left _ _ (by omega)] at e
   obtain ⟨e1,e2⟩:=List.append_inj e (by rw[List.length_set];omega)
   obtain ⟨e3,e4⟩:=List.append_inj e2 (by omega)
   have:a.reverse=(numB false 2 L.length).reverse:=valL_inj (by simp[ha,hA]) (by rw[hL,val_len L hl,e4])
   have h5:=List.reverse_inj.1 this
   rw[← e1] at h5
   exact hc (by rw[List.getElem?_append_left (by omega)];exact setne _ k (by omega) h5)
 · rw[List.set_append_right _ _ (by omega),hA] at e
   obtain ⟨e1,e2⟩:=List.append_inj e (by omega)
   rw[List.getElem?_append_right (by omega),hA] at hc
   by_cases h6:k<6
   · rw[List.set_append_left _ _ (by omega)] at e2
     obtain ⟨e3,e4⟩:=List.append_inj e2 (by rw[List.length_set];omega)
     have:b=numB true 4 (guSum 4 L):=valL_inj (by omega) (by rw[← hs,val_sum,e4])
     rw[← e3] at this
     exact hc (by rw[List.getElem?_append_left (by omega)];exact setne _ (k-2) (by omega) this)
   · rw[List.set_append_right _ _ (by omega),hS] at e2
     obtain ⟨e3,e4⟩:=List.append_inj e2 (by omega)
     rw[List.getElem?_append_right (by omega),hS] at hc
     rw[← e3,val_sum,← e4] at hs
     have hi:k-2-4<L.length:=by omega
     generalize k-2-4=i at *
     have hsplit:L=L.take i++L[i]::L.drop (i+1):=by rw[List.getElem_cons_drop,List.take_append_drop]
     have hset:L.set i c=L.take i++c::L.drop (i+1):=List.set_eq_take_append_cons_drop▸(by rw[if_pos hi])
     have h7:=guSum_turn (L.take i) (L.drop (i+1)) c (L[i]) (fun h=>hc (by rw[List.getElem?_eq_getElem hi,h]))
     rw[← hset,← hsplit] at h7
     exact h7 hs
def guV (L:List UInt8):List UInt8:=91::joinL (L.map fun c=>decT c.toNat)
theorem joinL_ne (L:List UInt8)(h:L≠[]):joinL (L.map fun c=>decT c.toNat)≠[]:=by
 cases L with
 | nil=>exact absurd rfl h
 | cons c L=>
  have hd:decT c.toNat≠[]:=by
   intro e
   have:=dec_head c.toNat
   rcases Nat.eq_zero_or_pos c.toNat with h0 | h0
   · rw[h0] at e;rw[show decT 0=[UInt8.ofNat (48+0)] from Lib.decDigits_one (by omega)] at e;cases e
   · obtain ⟨_,_,e2,_⟩:=this h0;rw[e] at e2;cases e2
  show List.foldl joinT (joinT [] (decT c.toNat)) _≠[]
  rw[show joinT [] (decT c.toNat)=decT c.toNat from rfl,foldJoin _ _ hd]
  simp[hd]
theorem guV_one (c:UInt8):guV [c]=guV []++decT c.toNat:=rfl
theorem guV_more (L:List UInt8)(h:L≠[])(c:UInt8):guV (L++[c])=guV L++[32]++decT c.toNat:=by
 unfold guV
 rw[List.map_append]
 unfold joinL
 rw[List.foldl_append]
 show 91::joinT (joinL (L.map fun c=>decT c.toNat)) (decT c.toNat)=91::joinL (L.map fun c=>decT c.toNat)++[32]++decT c.toNat
 rw[show joinT (joinL (L.map fun c=>decT c.toNat)) (decT c.toNat)=joinL (L.map fun c=>decT c.toNat)++32::decT c.toNat from if_neg (joinL_ne L h)]
 simp
theorem guV_len (L:List UInt8):(guV L).length≤1+11*L.length:=by
 have h:(joinL (L.map fun c=>decT c.toNat)).length≤0+11*L.length:=join_len L []
 unfold guV
 rw[List.length_cons]
 omega
theorem below_dr (w:World)(n:Nat):Below w.heap.size w (w.drewN n):=⟨rfl,rfl,rfl,Nat.le_refl _,fun _ _=>rfl⟩
set_option maxRecDepth 100000 in
set_option maxHeartbeats 1000000 in
theorem kvalues_calls (w:World)(v:Value)(l:List Int)(h:RowN w w.heap.size v l):
 Calls Tryz.prog 20 #[v,.int .i64 256] w fun e w'=>(∃ L:List UInt8,L.length≤200∧e=.returned (.string ⟨(guV L++[93]).toArray⟩))∧Below w.heap.size w w':=by
 obtain ⟨hr,hll,o,cap,rfl,hc⟩:=h
 have HC:=hide' hc
 have HRg:=hide' hr
 clear hc hr
 go_enter Tryz.func20,Tryz.ntmps20
 go_wp2_with fail
 go_loopw [5,6] (fun v5 v6 wr=>∃ (L:List UInt8) (s:ByteArray),v6=.int .i64 (L.length:Nat)∧v5=.string s∧Hid (s=⟨(guV L).toArray⟩)∧L.length≤l.length∧L.length≤200∧s.size≤3000∧Hid (Below w.heap.size w wr)) (fun _ vi _=>200-(intOf vi).toNat)
 case atStart=>exact ⟨[],⟨#[91]⟩,by go_num,rfl,(rfl:(⟨#[91]⟩:ByteArray)=⟨(guV []).toArray⟩),by simp,by simp,by decide,Below.refl _ _⟩
 case round=>
  obtain ⟨L,s,rfl,rfl,hs,h1,h2,h3,hbel⟩:=hrel
  by_cases hlt:L.length<l.length∧L.length<200
  · obtain ⟨ha,hb⟩:=hlt
    obtain ⟨g,k,rfl,hg,hcell⟩:=HC.out L.length ha
    have hx:=HRg.out _ (List.getElem_mem ha)
    have hx1:=hide' hx.1
    have hx2:=hide' hx.2
    have hcr:wr.cell? ⟨g,k+L.length,none⟩=some (.int .i64 l[L.length]):=by rw[World.cell?_of_block (w:=w) (hbel.out.block g hg)];exact hcell
    have ha':(L.length:Int)<(l.length:Int):=by omega
    have hb':(L.length:Int)<200:=by omega
    have hsz:=hbel.out.size
    have hl1:¬ 9223372036854775807<s.size+1:=by omega
    clear hcell hx
    generalize l[L.length]=xv at *
    by_cases h0:L.length=0
    · have h0':¬ (0:Int)<(L.length:Int):=by omega
      have H0:=hide' h0
      clear h0
      go_wp2_with fail
      refine (pickN_calls xv 256 hx1.out hx2.out (by omega) (by omega) _).mono ?_
      rintro e w2 ⟨kk,hkk,rfl,hw2⟩
      rw[hw2]
      clear hw2
      have hdl:=decT_len kk (by omega)
      have hl2:¬ 9223372036854775807<s.size+(decT kk).length:=by omega
      go_wp2_with fail
      refine (kdecimal_calls kk (by omega) _).mono ?_
      rintro e w3 ⟨rfl,m3,hm3⟩
      go_wp2_with fail
      go_roundw
      case rel=>
       have hb2:Below w.heap.size w (wr.drewN m3):=hbel.out.trans ((below_dr _ _).mono hbel.out.size)
       have hss:s++⟨(decT kk).toArray⟩=⟨(guV (L++[UInt8.ofNat kk])).toArray⟩:=by
        obtain rfl:=List.length_eq_zero_iff.1 H0.out
        rw[hs.out,List.nil_append,guV_one,show (UInt8.ofNat kk).toNat=kk by simp;omega]
        exact mk_app _ _
       exact ⟨L++[UInt8.ofNat kk],_,by simp,rfl,hss,by simp;omega,by simp;omega,by rw[hss,list_size];have:=guV_len (L++[UInt8.ofNat kk]);simp at this;omega,hb2⟩
      case measure=>simp[intOf];omega
    · have h0':(0:Int)<(L.length:Int):=by omega
      have H0:=hide' h0
      clear h0
      go_wp2_with fail
      refine (pickN_calls xv 256 hx1.out hx2.out (by omega) (by omega) _).mono ?_
      rintro e w2 ⟨kk,hkk,rfl,hw2⟩
      rw[hw2]
      clear hw2
      have hdl:=decT_len kk (by omega)
      have hl2:¬ 9223372036854775807<s.size+1+(decT kk).length:=by omega
      go_wp2_with fail
      refine (kdecimal_calls kk (by omega) _).mono ?_
      rintro e w3 ⟨rfl,m3,hm3⟩
      go_wp2_with fail
      go_roundw
      case rel=>
       have hb2:Below w.heap.size w (wr.drewN m3):=hbel.out.trans ((below_dr _ _).mono hbel.out.size)
       have hss:s++⟨#[32]⟩++⟨(decT kk).toArray⟩=⟨(guV (L++[UInt8.ofNat kk])).toArray⟩:=by
        rw[hs.out,guV_more L (fun e=>H0.out (by rw[e];rfl)),show (UInt8.ofNat kk).toNat=kk by simp;omega,← mk_app,← mk_app]
       exact ⟨L++[UInt8.ofNat kk],_,by simp,rfl,hss,by simp;omega,by simp;omega,by rw[hss,list_size];have:=guV_len (L++[UInt8.ofNat kk]);simp at this;omega,hb2⟩
      case measure=>simp[intOf];omega
  · have h4:¬ (L.length:Int)<(l.length:Int)∨(L.length:Int)<(l.length:Int)∧¬ (L.length:Int)<200:=by omega
    have hl1:¬ 9223372036854775807<s.size+1:=by omega
    have hss:s++⟨#[93]⟩=⟨(guV L++[93]).toArray⟩:=by rw[hs.out];exact mk_app _ _
    have HSS:=hide' hss
    clear hlt hss
    rcases h4 with h4 | ⟨h4,h5⟩
    all_goals
     go_wp2_with fail
     go_ret
     exact ⟨⟨L,h2,by rw[← HSS.out];rfl⟩,hbel.out⟩
theorem guT_app (L:List UInt8):(⟨#[40]⟩:ByteArray)++⟨(guV L++[93]).toArray⟩++⟨#[41]⟩=⟨(guT L).toArray⟩:=by
 have h1:(⟨#[40]⟩:ByteArray)++⟨(guV L++[93]).toArray⟩=⟨([40]++(guV L++[93])).toArray⟩:=mk_app [40] _
 have h2:(⟨([40]++(guV L++[93])).toArray⟩:ByteArray)++⟨#[41]⟩=⟨([40]++(guV L++[93])++[41]).toArray⟩:=mk_app _ [41]
 rw[h1,h2]
 unfold guT guV
 simp
def xorB (c:UInt8)(q:Nat):UInt8:=c ^^^ UInt8.ofNat q
theorem xor_turn (c:UInt8)(q:Nat)(h1:1≤q)(h2:q≤255):xorB c q≠c:=by
 unfold xorB
 intro h
 have h3:c ^^^ (c ^^^ UInt8.ofNat q)=c ^^^ c:=by rw[h]
 rw[← UInt8.xor_assoc,UInt8.xor_self,UInt8.zero_xor] at h3
 have h4:=congrArg UInt8.toNat h3
 simp at h4
 omega
theorem xor_bits (c:UInt8)(q:Nat)(h:q≤255):bits .xor .u8 (c.toNat:Int) ((q:Int))=((xorB c q).toNat:Int):=by
 have hc:=c.toNat_lt
 have e1:(BitVec.ofInt 8 (c.toNat:Int)).toNat=c.toNat:=by rw[BitVec.ofInt_natCast,BitVec.toNat_ofNat];exact Nat.mod_eq_of_lt (by omega)
 have e2:(BitVec.ofInt 8 (q:Int)).toNat=q:=by rw[BitVec.ofInt_natCast,BitVec.toNat_ofNat];exact Nat.mod_eq_of_lt (by omega)
 have l1:c.toNat ^^^ q<2 ^ 8:=Nat.xor_lt_two_pow (by omega) (by omega)
 have:bits .xor .u8 (c.toNat:Int) (q:Int)=IntKind.u8.wrap ((BitVec.ofInt 8 (c.toNat:Int) ^^^ BitVec.ofInt 8 (q:Int)).toNat:Int):=rfl
 rw[this,BitVec.toNat_xor,e1,e2,IntKind.wrap_u8]
 unfold xorB
 rw[UInt8.toNat_xor,UInt8.toNat_ofNat',Nat.mod_eq_of_lt (show q<2 ^ 8 by omega)]
 omega
theorem below_drew1 {n:Nat}{w:World}(_h:n≤w.heap.size):Below n w w.drew:=⟨rfl,rfl,rfl,Nat.le_refl _,fun _ _=>rfl⟩
theorem take_ext (gb:List UInt8)(k:Nat):(⟨gb.toArray⟩:ByteArray).extract 0 k=⟨(gb.take k).toArray⟩:=by
 apply ByteArray.ext
 rw[ByteArray.data_extract]
 apply Array.ext'
 rw[Array.toList_extract]
 simp[List.extract_eq_take_drop]
theorem drop_ext (gb:List UInt8)(k:Nat):(⟨gb.toArray⟩:ByteArray).extract k gb.length=⟨(gb.drop k).toArray⟩:=by
 apply ByteArray.ext
 rw[ByteArray.data_extract]
 apply Array.ext'
 rw[Array.toList_extract]
 simp only[List.extract_eq_take_drop]
 rw[List.take_of_length_le (by simp)]
theorem set_ext (gb:List UInt8)(k:Nat)(h:k<gb.length)(c:UInt8):(⟨gb.toArray⟩:ByteArray).extract 0 k++⟨#[c]⟩++(⟨gb.toArray⟩:ByteArray).extract (k+1) gb.length=⟨(gb.set k c).toArray⟩:=by
 have h1:(⟨(gb.take k).toArray⟩:ByteArray)++⟨#[c]⟩=⟨(gb.take k++[c]).toArray⟩:=mk_app _ [c]
 rw[take_ext,drop_ext,h1,mk_app]
 congr 2
 rw[List.set_eq_take_append_cons_drop,if_pos h]
 simp
set_option maxRecDepth 100000 in
set_option maxHeartbeats 4000000 in
theorem guarded_calls (w:World)(v:Value)(l:List Int)(wh tu:Int)(h:RowN w w.heap.size v l)(hw : -9223372036854775808≤wh∧wh≤9223372036854775807)(ht : -9223372036854775808≤tu∧tu≤9223372036854775807)(hS:Shp w)(hP:PowW w):
 Calls Tryz.prog 8 #[v,.int .i64 wh,.int .i64 tu] w fun e w2=>e=.returned (.bool true)∧Below w.heap.size w w2:=by
 have HR:=hide' h
 have HS:=hide' hS
 have HP:=hide' hP
 have Hw:=hide' hw
 have Ht:=hide' ht
 clear h hS hP hw ht
 go_enter Tryz.func8,Tryz.ntmps8
 go_wp2_with fail
 refine (kvalues_calls w v l HR.out).mono ?_
 rintro e w1 ⟨⟨L,hL,rfl⟩,hb1⟩
 have HB1:=hide' hb1
 have hvl:=guV_len L
 have hl1:¬ 9223372036854775807<1+(guV L++[93]).length:=by simp;omega
 have hl2:¬ 9223372036854775807<1+(guV L++[93]).length+1:=by simp;omega
 have hT:=guT_app L
 have hTl:=guT_len L hL
 have HTl:Hid ((⟨(guT L).toArray⟩:ByteArray).size≤maxLen):=by
  have:(⟨(guT L).toArray⟩:ByteArray).size≤maxLen:=by rw[list_size];unfold maxLen;omega
  exact this
 have HG:=hide' (gu_genV L hL)
 have HQ:=hide' (gu_parse L hL)
 obtain ⟨m,hm⟩:∃ m,6+L.length=m:=⟨_,rfl⟩
 have HCut:=hide' (fun (k:Nat) (hk:k<m)=>gu_cut L hL k (by omega))
 have HTu:=hide' (fun (k:Nat) (hk:k<m) (c:UInt8) hc=>gu_turn L hL k (by omega) c hc)
 have HBl:Hid ((guB L).length=m):=by
  have:(guB L).length=m:=by rw[guB_len];exact hm
  exact this
 have HM:Hid (6≤m∧m≤206):=by
  have:6≤m∧m≤206:=by omega
  exact this
 clear hm
 clear hb1 hTl
 go_wp2_with fail
 refine (gface_calls guS ⟨(guT L).toArray⟩ (by show 17≤maxLen;unfold maxLen;decide) HTl.out 4000 w1 (HS.out.below HB1.out) (HP.out.below HB1.out)).mono ?_
 rintro e w2 ⟨rfl,hb2,_⟩
 rw[HG.out]
 have HB2:=hide' (HB1.out.trans (hb2.mono HB1.out.size))
 clear hb2 HB1 HG hl1 hl2 hvl
 simp only
 have HBs:Hid ((⟨(guB L).toArray⟩:ByteArray).size≤maxLen):=by
  have:(⟨(guB L).toArray⟩:ByteArray).size≤maxLen:=by rw[list_size,HBl.out];unfold maxLen;have:=HM.out;omega
  exact this
 go_wp2_with fail
 refine (pface_calls guS ⟨(guB L).toArray⟩ (by show 17≤maxLen;unfold maxLen;decide) HBs.out 100000 10000 w2 (HS.out.below HB2.out) (HP.out.below HB2.out)).mono ?_
 rintro e w3 ⟨rfl,hb3⟩
 rw[HQ.out]
 have HB3:=hide' (HB2.out.trans (hb3.mono HB2.out.size))
 clear hb3 HB2 HQ hT
 simp only
 generalize hgt:guT L=gt at *
 generalize hgb:guB L=gb at *
 clear hgt hgb
 have hbl:=HBl.out
 have hm6:¬ (m:Int)<6:=by have:=HM.out;omega
 go_wp2_with fail
 have HPk:=hide' (pickE_calls wh m Hw.out.1 Hw.out.2 (by have:=HM.out;omega) (by have:=HM.out;omega) w3)
 have hkp:=pickV_lt wh m (by have:=HM.out;omega)
 generalize pickV wh m=k at *
 refine HPk.out.mono ?_
 rintro e w9 ⟨rfl,hw9⟩
 rw[hw9]
 clear hw9 w9 HPk
 have hkm:k<m:=by omega
 have hkl:k<gb.length:=by omega
 have HKm:=hide' hkm
 go_wp2_with fail
 have hk0:(0:Int)≤(k:Int):=by omega
 have hkz:(k:Int)<(gb.length:Int):=by omega
 have hkz2:(k:Int)≤(gb.length:Int):=by omega
 have hk1:IntKind.i64.wrap ((k:Int)+1)=((k+1:Nat):Int):=by rw[IntKind.wrap_i64];have:=HM.out;omega
 have hz1:k<(⟨gb.toArray⟩:ByteArray).size:=by rw[list_size];exact hkl
 have hzs:(⟨gb.toArray⟩:ByteArray).size=m:=by rw[list_size];exact hbl
 refine wp_region_seg (fun _=>True) [([0,1,2,3,4,5,6,14,15,16,17],7),([8,9,10],11),([],12),([13,18],19)] rfl (by kernel_rfl) (fun _ _ d _ _ h=>by cases d<;>exact h) trivial ?_
 simp only[wpSeg,List.filterMap_cons,List.filterMap_nil,List.getElem?_toArray,List.getElem?_cons_zero,List.getElem?_cons_succ]
 refine wpX_stepK (.string ⟨gb.toArray⟩) rfl (fun W hW=>by rfl) (fun K hK=>?_)
 go_simp
 refine hK _ ?_
 clear hK K
 refine wpX_stepK (.int .i64 k) rfl (fun W hW=>by rfl) (fun K hK=>?_)
 go_simp
 refine hK _ ?_
 clear hK K
 refine wpX_stepK (.string ((⟨gb.toArray⟩:ByteArray).extract 0 k)) rfl (fun W hW=>by go_simp;intro hh;omega) (fun K hK=>?_)
 go_simp
 refine hK _ ?_
 clear hK K
 refine wpX_stepK (.string ⟨gb.toArray⟩) rfl (fun W hW=>by rfl) (fun K hK=>?_)
 go_simp
 refine hK _ ?_
 clear hK K
 refine wpX_stepK (.int .i64 k) rfl (fun W hW=>by rfl) (fun K hK=>?_)
 go_simp
 refine hK _ ?_
 clear hK K
 refine wpX_stepK (.int .u8 (((⟨gb.toArray⟩:ByteArray)[k]'hz1).toNat:Int)) rfl (fun W hW=>by go_simp) (fun K hK=>?_)
 go_simp
 refine hK _ ?_
 clear hK K
 refine wpX_stepK (.int .i64 tu) rfl (fun W hW=>by rfl) (fun K hK=>?_)
 go_simp
 refine hK _ ?_
 clear hK K
 refine wpX_stepK (.string ⟨gb.toArray⟩) rfl (fun W hW=>by rfl) (fun K hK=>?_)
 go_simp
 refine hK _ ?_
 clear hK K
 refine wpX_stepK (.int .i64 k) rfl (fun W hW=>by rfl) (fun K hK=>?_)
 go_simp
 refine hK _ ?_
 clear hK K
 refine wpX_stepK (.int .i64 ((k+1:Nat):Int)) rfl (fun W hW=>by go_simp) (fun K hK=>?_)
 go_simp
 refine hK _ ?_
 clear hK K
 refine wpX_stepK (.string ((⟨gb.toArray⟩:ByteArray).extract (k+1) m)) rfl (fun W hW=>by go_simp;intro hh;exfalso;omega) (fun K hK=>?_)
 go_simp
 refine hK _ ?_
 clear hK K
 refine wpX_nil ⟨_,rfl,rfl,?_⟩
 unfold Oper.wp
 go_simp
 have HPt:=hide' (pickE_calls tu 255 Ht.out.1 Ht.out.2 (by omega) (by omega) w3.drew)
 have hpt:=pickV_lt tu 255 (by omega)
 generalize pickV tu 255=p at *
 refine HPt.out.mono ?_
 rintro e w9 ⟨rfl,hw9⟩
 rw[hw9]
 clear hw9 w9 HPt
 have hp1:IntKind.i64.wrap ((1:Int)+(p:Int))=((p+1:Nat):Int):=by rw[IntKind.wrap_i64];omega
 have hp2:IntKind.u8.wrap ((p+1:Nat):Int)=((p+1:Nat):Int):=by rw[IntKind.wrap_u8];omega
 have HX:=hide' (xor_turn ((⟨gb.toArray⟩:ByteArray)[k]'hz1) (p+1) (by omega) (by omega))
 generalize hbk:(⟨gb.toArray⟩:ByteArray)[k]'hz1=bk at *
 try refine ⟨trivial,?_⟩
 refine wpX_stepK (.int .i64 ((p+1:Nat):Int)) rfl (fun W hW=>by go_simp) (fun K hK=>?_)
 go_simp
 refine hK _ ?_
 clear hK K
 refine wpX_stepK (.int .u8 ((p+1:Nat):Int)) rfl (fun W hW=>by go_simp;exact hp2) (fun K hK=>?_)
 go_simp
 refine hK _ ?_
 clear hK K
 refine wpX_stepK (.int .u8 ((xorB bk (p+1)).toNat:Int)) rfl (fun W hW=>by go_simp;exact xor_bits bk (p+1) (by omega)) (fun K hK=>?_)
 go_simp
 refine hK _ ?_
 clear hK K
 refine wpX_nil ⟨_,rfl,rfl,?_⟩
 unfold Oper.wp
 go_simp
 have hcv:(convert 40 9 (.slice (some ⟨w3.heap.size,0,none⟩) 1 1)).run Tryz.prog (w3.alloc (Obj.cells #[Value.int IntKind.u8 ((xorB bk (p+1)).toNat:Int)] 5)).drew=.ok (.string ⟨#[xorB bk (p+1)]⟩) (w3.alloc (Obj.cells #[Value.int IntKind.u8 ((xorB bk (p+1)).toNat:Int)] 5)).drew:=by
  refine run_convert_bytes_back _ 40 9 5 ⟨w3.heap.size,0,none⟩ 1 [xorB bk (p+1)] Tryz.underlying40 Tryz.underlying5 Tryz.underlying9 fun j hj=>?_
  obtain rfl:j=0:=by simp at hj;omega
  exact (Blk.new w3 #[Value.int IntKind.u8 ((xorB bk (p+1)).toNat:Int)] 5).cell 0
 have HB4:=hide' (HB3.out.trans ((Below.refl w3.heap.size w3).alloc (Nat.le_refl _) (Obj.cells #[Value.int IntKind.u8 ((xorB bk (p+1)).toNat:Int)] 5) |>.mono HB3.out.size))
 have HB5:Hid (Below w.heap.size w (w3.alloc (Obj.cells #[Value.int IntKind.u8 ((xorB bk (p+1)).toNat:Int)] 5)).drew):=by
  have:Below w.heap.size w (w3.alloc (Obj.cells #[Value.int IntKind.u8 ((xorB bk (p+1)).toNat:Int)] 5)).drew:=HB4.out.trans (below_drew1 HB4.out.size)
  exact this
 clear HB4
 generalize (w3.alloc (Obj.cells #[Value.int IntKind.u8 ((xorB bk (p+1)).toNat:Int)] 5)).drew=w4 at *
 refine wpX_nil ⟨_,rfl,rfl,?_⟩
 unfold Oper.wp
 go_simp
 have hsA:((⟨gb.toArray⟩:ByteArray).extract 0 k).size=k:=by rw[ByteArray.size_extract];omega
 have hsZ:((⟨gb.toArray⟩:ByteArray).extract (k+1) m).size≤206:=by rw[ByteArray.size_extract];have:=HM.out;omega
 have hset:(⟨gb.toArray⟩:ByteArray).extract 0 k++⟨#[xorB bk (p+1)]⟩++(⟨gb.toArray⟩:ByteArray).extract (k+1) m=⟨(gb.set k (xorB bk (p+1))).toArray⟩:=by
  rw[← hbl];exact set_ext gb k hkl _
 have HTq:Hid ((parseV guS ⟨(gb.set k (xorB bk (p+1))).toArray⟩ 100000 10000).2.1=8):=by
  have:(parseV guS ⟨(gb.set k (xorB bk (p+1))).toArray⟩ 100000 10000).2.1=8:=HTu.out k HKm.out _ (by
   rw[List.getElem?_eq_getElem hkl]
   intro e
   exact HX.out ((Option.some.inj e).symm.trans hbk))
  exact this
 have HCq:Hid ((parseV guS ((⟨gb.toArray⟩:ByteArray).extract 0 k) 100000 10000).2.1=8):=by
  have:(parseV guS ((⟨gb.toArray⟩:ByteArray).extract 0 k) 100000 10000).2.1=8:=by
   rw[take_ext];exact HCut.out k HKm.out
  exact this
 have hle:k≤206:=by have:=HM.out;omega
 have hgs:(⟨(gb.set k (xorB bk (p+1))).toArray⟩:ByteArray).size≤maxLen:=by rw[list_size,List.length_set,hbl];have:=HM.out;unfold maxLen;omega
 have hl1:¬ 9223372036854775807<k+1:=by omega
 have hl2:¬ 9223372036854775807<k+1+((⟨gb.toArray⟩:ByteArray).extract (k+1) m).size:=by omega
 have HGs:=hide' hgs
 clear HX hbk hgs HTu HCut
 generalize (⟨(gb.set k (xorB bk (p+1))).toArray⟩:ByteArray)=cc at *
 refine wpX_stepK (.string ((⟨gb.toArray⟩:ByteArray).extract 0 k++⟨#[xorB bk (p+1)]⟩)) rfl (fun W hW=>by go_simp) (fun K hK=>?_)
 go_simp
 refine hK _ ?_
 clear hK K
 refine wpX_stepK (.string cc) rfl (fun W hW=>by go_simp;have:=HM.out;omega) (fun K hK=>?_)
 go_simp
 refine hK _ ?_
 clear hK K
 refine wpX_nil ⟨_,rfl,rfl,?_⟩
 unfold Oper.wp
 go_simp
 go_wp2_with fail
 refine (pface_calls guS cc (by show 17≤maxLen;unfold maxLen;decide) HGs.out 100000 10000 w4 (HS.out.below HB5.out) (HP.out.below HB5.out)).mono ?_
 rintro e w5 ⟨rfl,hb5⟩
 have HB6:=hide' (HB5.out.trans (hb5.mono HB5.out.size))
 clear hb5 HB5
 obtain ⟨y1,y2,y3⟩:∃ y1 y2,parseV guS cc 100000 10000=(y1,8,y2):=⟨_,_,by rw[← HTq.out]⟩
 rw[y3]
 clear y3 HTq hcv hset
 simp only
 go_wp2_with fail
 have HAl:Hid (((⟨gb.toArray⟩:ByteArray).extract 0 k).size≤maxLen):=by
  have:((⟨gb.toArray⟩:ByteArray).extract 0 k).size≤maxLen:=by rw[hsA];unfold maxLen;omega
  exact this
 refine (pface_calls guS ((⟨gb.toArray⟩:ByteArray).extract 0 k) (by show 17≤maxLen;unfold maxLen;decide) HAl.out 100000 10000 w5 (HS.out.below HB6.out) (HP.out.below HB6.out)).mono ?_
 rintro e w6 ⟨rfl,hb6⟩
 have HB7:=hide' (HB6.out.trans (hb6.mono HB6.out.size))
 clear hb6 HB6
 obtain ⟨z1,z2,z3⟩:∃ z1 z2,parseV guS ((⟨gb.toArray⟩:ByteArray).extract 0 k) 100000 10000=(z1,8,z2):=⟨_,_,by rw[← HCq.out]⟩
 rw[z3]
 clear z3 HCq
 simp only
 go_wp2_with fail
 go_ret
 exact ⟨rfl,HB7.out⟩
end Go.Proofs.YtmlkhhhjdpbhfaaGreatDoor

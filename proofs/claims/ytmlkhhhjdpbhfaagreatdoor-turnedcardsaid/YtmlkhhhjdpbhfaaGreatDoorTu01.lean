import Derived.Test.YtmlkhhhjdpbhfaaGreatDoorFo33
import Derived.Test.YtmlkhhhjdpbhfaaGreatDoorFo50
import Derived.Test.YtmlkhhhjdpbhfaaGreatDoorFo51
namespace Go.Proofs.YtmlkhhhjdpbhfaaGreatDoor
open Go.RowKit
def pickV (c n:Int):Nat:=if c<0 then ((-(c+1)).tmod n).toNat else (c.tmod n).toNat
theorem pickV_lt (c n:Int)(hn:0<n):(pickV c n:Int)<n:=by
 have key:∀ d:Int,0≤d→((d.tmod n).toNat:Int)<n:=fun d hd=>by
  have h1:=Int.tmod_lt_of_pos d hn
  have h0:=Int.tmod_nonneg n hd
  omega
 unfold pickV
 split
 · exact key _ (by omega)
 · exact key _ (by omega)
set_option maxHeartbeats 400000 in
theorem pickE_calls (c n:Int)(h1 : -9223372036854775808≤c)(h2:c≤9223372036854775807)(hn:0<n)(hn2:n≤4294967296)(w:World):
 Calls Tryz.prog 13 #[.int .i64 c,.int .i64 n] w fun e w'=>e=.returned (.int .i64 (pickV c n:Nat))∧w'=w:=by
 have hn0:(n==0)=false:=by simp;omega
 by_cases hc:c<0
 · have hke:(-(c+1)).tmod n=(pickV c n:Nat):=by
    have h0:=Int.tmod_nonneg n (show (0:Int) ≤ -(c+1) by omega)
    unfold pickV
    rw[if_pos hc]
    omega
   go_enter Tryz.func13,Tryz.ntmps13
   go_wp2_with fail
   go_ret
   exact ⟨rfl,rfl⟩
 · have hke:c.tmod n=(pickV c n:Nat):=by
    have h0:=Int.tmod_nonneg n (show (0:Int)≤c by omega)
    unfold pickV
    rw[if_neg hc]
    omega
   go_enter Tryz.func13,Tryz.ntmps13
   go_wp2_with fail
   go_ret
   exact ⟨rfl,rfl⟩
def valL:List UInt8→Nat
 | []=>0
 | c::l=>c.toNat+256*valL l
theorem valL_snoc:∀ (l:List UInt8) (c:UInt8),valL (l++[c])=valL l+c.toNat*256 ^ l.length
 | [],c=>by simp[valL]
 | d::l,c=>by
  have e:256*(c.toNat*256 ^ l.length)=c.toNat*(256 ^ l.length*256):=by rw[← Nat.mul_assoc,Nat.mul_comm 256 c.toNat,Nat.mul_assoc,Nat.mul_comm 256]
  rw[List.cons_append,valL,valL_snoc l c,valL,List.length_cons,Nat.pow_succ,Nat.mul_add,e,Nat.add_assoc]
theorem bn_list (l:List UInt8)(i:Nat)(h:i<l.length):bn ⟨l.toArray⟩ i=(l[i]).toNat:=by
 unfold bn bt
 have hs:(⟨l.toArray⟩:ByteArray).size=l.length:=by show l.toArray.size=_;simp
 rw[dif_pos (by rw[hs];exact h)]
 have e:(⟨l.toArray⟩:ByteArray)[i]'(by rw[hs];exact h)=l[i]:=rfl
 rw[e]
 simp
theorem loV_take (l:List UInt8):∀ i,i≤l.length→loV ⟨l.toArray⟩ i=valL (l.take i)
 | 0,_=>rfl
 | i+1,h=>by
  rw[loV,loV_take l i (by omega),bn_list l i (by omega),List.take_succ_eq_append_getElem (by omega),valL_snoc,List.length_take,Nat.min_eq_left (by omega)]
theorem hiV_take (l:List UInt8):∀ i,i≤l.length→hiV ⟨l.toArray⟩ i=valL (l.take i).reverse
 | 0,_=>rfl
 | i+1,h=>by
  rw[hiV,hiV_take l i (by omega),bn_list l i (by omega),List.take_succ_eq_append_getElem (by omega),List.reverse_append,List.reverse_cons,List.reverse_nil,List.nil_append,List.cons_append,List.nil_append,valL]
  omega
theorem loV_list (l:List UInt8):loV ⟨l.toArray⟩ l.length=valL l:=by rw[loV_take l _ (Nat.le_refl _),List.take_length]
theorem hiV_list (l:List UInt8):hiV ⟨l.toArray⟩ l.length=valL l.reverse:=by rw[hiV_take l _ (Nat.le_refl _),List.take_length]
theorem valL_low:∀ (w n:Nat),valL (lowB w n)=n % 256 ^ w
 | 0,n=>by simp[lowB,valL,Nat.mod_one]
 | w+1,n=>by
  rw[lowB,valL,valL_low w (n / 256),Nat.pow_succ,Nat.mul_comm (256 ^ w) 256,Nat.mod_mul]
  have:(UInt8.ofNat (n % 256)).toNat=n % 256:=by simp
  rw[this]
theorem low_val:∀ l:List UInt8,lowB l.length (valL l)=l
 | []=>rfl
 | c::l=>by
  have hc:c.toNat<256:=c.toNat_lt
  rw[List.length_cons,lowB,valL,show (c.toNat+256*valL l) % 256=c.toNat by omega,show (c.toNat+256*valL l) / 256=valL l by omega,low_val l]
  simp
structure NumIt (x:It) (low:Bool) (w:Nat):Prop where
 c:x.c=if low then 108 else 110
 wd:x.w.toNat=w
 pos:1≤w
 le:w≤4
theorem numT_num {x:It}{low:Bool}{w:Nat}(h:NumIt x low w)(l:List UInt8):numT x ⟨l.toArray⟩=valL (if low then l else l.reverse):=by
 have hs:(⟨l.toArray⟩:ByteArray).size=l.length:=by show l.toArray.size=_;simp
 unfold numT
 rw[hs,h.c]
 cases low with
 | true=>simp[loV_list]
 | false=>simp[hiV_list]
theorem tree_num (n:Nat)(hn:n<4294967296):∃ v:Tr ((⟨(decT n).toArray⟩:ByteArray).size+1),(treeV ⟨(decT n).toArray⟩).1=some v∧(v:Nd (Tr (⟨(decT n).toArray⟩:ByteArray).size))=⟨0,n,[],[]⟩:=by
 have hs:(⟨(decT n).toArray⟩:ByteArray).size=(decT n).length:=by show (decT n).toArray.size=_;simp
 have hl:(decT n).length≤10:=by
  have h:∀ k n,n<10 ^ (k+1)→Lib.nDigits n≤k+1:=fun k=>by
   induction k with
   | zero=>intro n h;rw[Lib.nDigits_small (by simpa using h)];omega
   | succ k ih=>
    intro n h
    by_cases h10:n<10
    · rw[Lib.nDigits_small h10];omega
    · rw[Lib.nDigits_big h10]
      have:=ih (n / 10) (by rw[Nat.pow_succ] at h;omega)
      omega
  unfold decT
  rw[Lib.decDigits_length]
  exact h 9 n (by simp;omega)
 refine ⟨(⟨0,n,[],[]⟩:Nd (Tr (⟨(decT n).toArray⟩:ByteArray).size)),?_,rfl⟩
 have hp:Pos ⟨(decT n).toArray⟩ 0 (txtT ((⟨(decT n).toArray⟩:ByteArray).size+1) (⟨0,n,[],[]⟩:Nd (Tr (⟨(decT n).toArray⟩:ByteArray).size))++[]):=by
  rw[List.append_nil]
  exact ⟨by show (decT n).toArray.toList.drop 0=decT n;simp,Nat.zero_le _⟩
 have hv:=valV_txt ⟨(decT n).toArray⟩ ((⟨(decT n).toArray⟩:ByteArray).size+1) (⟨0,n,[],[]⟩:Nd (Tr (⟨(decT n).toArray⟩:ByteArray).size)) (Or.inl ⟨rfl,hn,rfl,rfl⟩) 0 [] hp (fun c r e=>by cases e)
 unfold treeV
 rw[if_neg (by rw[hs];omega),if_pos (by rw[hv];simp only;rw[hs];show 0+(decT n).length=_;omega),hv]
theorem genT_num {G:Nat→List It}{x:It}{low:Bool}{w:Nat}(h:NumIt x low w)(hG:G 0=[x])(n m most:Nat)(hm:m<256 ^ w)(hmost:w≤most):genT G n (⟨0,m,[],[]⟩:Nd (Tr n)) most=(numB low w m,0):=by
 have hc:x.c=110∨x.c=108:=by rw[h.c];cases low<;>simp
 have hin:inB [119,64,115] x.c=false:=by rcases hc with e | e<;>rw[e]<;>rfl
 have hinn:inn [x]=[x]:=by rw[inn,if_neg (by rw[hin];simp)]
 have hhas:hasT G (n+1) (G 0) (⟨0,m,[],[]⟩:Nd (Tr n))=true:=by
  rw[hG]
  show hasQ G (hasT G n) (inn [x]) _=true
  rw[hinn]
  show (if x.c=82 then _ else _)=true
  rw[if_neg (by omega)]
  unfold hasTop
  simp only
  rw[if_pos hc,h.wd]
  simp[withinB,hm]
 have hpc:wPiece G n (G 0) none (⟨0,m,[],[]⟩:Nd (Tr n)) Wr0=wOut { Wr0 with sums:=Wr0.sums++[[]] } (numB low w m):=by
  rw[hG]
  unfold wPiece wIn
  rw[if_neg (by omega),if_neg (by omega),if_neg (by omega),if_neg (by omega)]
  unfold wTop
  simp only
  rw[h.wd]
  cases low with
  | true=>rw[if_neg (by rw[h.c];decide),if_pos (by rw[h.c];rfl)]
  | false=>rw[if_pos (by rw[h.c];rfl)]
 have hrest:wRest G ((G 0).length+1001*szN (⟨0,m,[],[]⟩:Nd (Tr n))) (wPiece G n (G 0) none (⟨0,m,[],[]⟩:Nd (Tr n)) Wr0)=wOut { Wr0 with sums:=Wr0.sums++[[]] } (numB low w m):=by
  rw[hpc]
  cases (G 0).length+1001*szN (⟨0,m,[],[]⟩:Nd (Tr n)) with
  | zero=>rfl
  | succ f=>rfl
 unfold genT
 rw[if_neg (by rw[hhas];simp)]
 simp only
 rw[hrest]
 have hl:(wOut { Wr0 with sums:=Wr0.sums++[[]] } (numB low w m)).out=numB low w m:=by simp[wOut,Wr0]
 rw[hl,numB_length,if_neg (by omega),if_neg (by simp[wOut,Wr0])]
 have:putSums (wOut { Wr0 with sums:=Wr0.sums++[[]] } (numB low w m))=numB low w m:=by simp[putSums,wOut,Wr0]
 rw[this]
theorem ext_all (b:ByteArray):b.extract 0 (0+b.size)=b:=by
 rw[Nat.zero_add]
 exact ByteArray.extract_zero_size
theorem out_num {G:Nat→List It}{x:It}{low:Bool}{w:Nat}(h:NumIt x low w)(hG:G 0=[x])(bs:ByteArray)(hb:bs.size=w)(fuel N:Nat)(hf:1≤fuel)(hN:1≤N):endT (tryT G bs N (fuel+1) fuel 0 false (G 0) (st0 bs))=(decT (numT x bs),0,0):=by
 have hc:x.c=110∨x.c=108:=by rw[h.c];cases low<;>simp
 obtain ⟨f,rfl⟩:∃ f,fuel=f+1:=⟨fuel-1,by omega⟩
 have hlen:lenT x (st0 bs)=w:=by unfold lenT;rw[if_neg (by omega),if_neg (by omega),if_neg (by omega),h.wd]
 have hcan:canRead (st0 bs).rd (st0 bs).pl (st0 bs).en (lenT x (st0 bs))=true:=by
  rw[hlen]
  unfold canRead st0
  simp only[Bool.and_eq_true,decide_eq_true_eq,Bool.not_eq_true',List.any_eq_false]
  refine ⟨by omega,fun j _=>?_⟩
  simp[List.getD_eq_getElem?_getD,List.getElem?_replicate]
  split<;>simp
 have hhid:hidesB x.c=false:=by rcases hc with e | e<;>rw[e]<;>rfl
 have ht:tryT G bs N (f+1+1) (f+1) 0 false (G 0) (st0 bs)=fitO f 0 { readS (st0 bs) w with vals:=1 } (decT (numT x bs)):=by
  rw[hG]
  unfold tryT
  rw[if_neg (by omega),if_neg (by omega),if_neg (by omega),if_neg (by omega),if_neg (by omega),if_neg (by omega),if_neg (by omega),if_neg (by omega)]
  unfold bytesT
  rw[if_pos hcan,if_neg (by omega),if_neg (by omega),if_neg (by rw[hhid];simp),hlen]
  unfold madeO
  rw[if_neg (by show (0:Nat)≠N;omega)]
  have e:bs.extract (st0 bs).pl ((st0 bs).pl+w)=bs:=by rw[← hb];exact ext_all bs
  rw[e]
  rfl
 rw[ht]
 unfold endT fitO
 simp only
 rw[if_neg (by simp),if_neg (by simp)]
 have hrd:(readS (st0 bs) w).rd.findIdx? (fun b=>!b)=none:=by
  rw[List.findIdx?_eq_none_iff]
  intro b hb'
  unfold readS st0 setR at hb'
  simp only[List.mem_mapIdx,List.getElem_replicate] at hb'
  obtain ⟨i,hi,e⟩:=hb'
  rw[if_pos ⟨Nat.zero_le _,by simp at hi;omega⟩] at e
  rw[← e]
  rfl
 rw[hrd]
def gS (low:Bool)(k:Nat):ByteArray:=⟨#[65,61,if low then 108 else 110,UInt8.ofNat (48+k)]⟩
set_option maxRecDepth 100000 in
theorem num_gram (low:Bool)(k:Nat)(h1:1≤k)(h4:k≤4):pressV (gS low k)=(0,0)∧∃ x,rulePt (rlsOf (gS low k)) 0=[x]∧NumIt x low k:=by
 have hk:k=1∨k=2∨k=3∨k=4:=by omega
 rcases hk with rfl | rfl | rfl | rfl
 · cases low
   · exact ⟨by decide +kernel,_,rfl,rfl,rfl,by omega,by omega⟩
   · exact ⟨by decide +kernel,_,rfl,rfl,rfl,by omega,by omega⟩
 · cases low
   · exact ⟨by decide +kernel,_,rfl,rfl,rfl,by omega,by omega⟩
   · exact ⟨by decide +kernel,_,rfl,rfl,rfl,by omega,by omega⟩
 · cases low
   · exact ⟨by decide +kernel,_,rfl,rfl,rfl,by omega,by omega⟩
   · exact ⟨by decide +kernel,_,rfl,rfl,rfl,by omega,by omega⟩
 · cases low
   · exact ⟨by decide +kernel,_,rfl,rfl,rfl,by omega,by omega⟩
   · exact ⟨by decide +kernel,_,rfl,rfl,rfl,by omega,by omega⟩
theorem num_parse (low:Bool)(k:Nat)(h1:1≤k)(h4:k≤4)(l:List UInt8)(hl:l.length=k)(fuel N:Nat)(hf:1≤fuel)(hN:1≤N):endT (outT (gS low k) ⟨l.toArray⟩ fuel N)=(decT (valL (if low then l else l.reverse)),0,0):=by
 obtain ⟨_,x,hx,hn⟩:=num_gram low k h1 h4
 have hs:(⟨l.toArray⟩:ByteArray).size=k:=by show l.toArray.size=_;simp[hl]
 have:=out_num hn hx ⟨l.toArray⟩ hs fuel N hf hN
 rw[numT_num hn] at this
 exact this
theorem parse_num (low:Bool)(k:Nat)(h1:1≤k)(h4:k≤4)(l:List UInt8)(hl:l.length=k):parseV (gS low k) ⟨l.toArray⟩ 9 9=(decT (valL (if low then l else l.reverse)),0,0):=by
 have hp:=(num_gram low k h1 h4).1
 have hs:(⟨l.toArray⟩:ByteArray).size=k:=by show l.toArray.size=_;simp[hl]
 have hv:=parseV_in (gS low k) ⟨l.toArray⟩ 9 9 hp (by omega) (by omega) (by omega)
 have hv':parseV (gS low k) ⟨l.toArray⟩ 9 9=_:=hv
 rw[hv',num_parse low k h1 h4 l hl 9 9 (by omega) (by omega)]
 rfl
theorem val_numB (low:Bool)(k n:Nat)(hn:n<256 ^ k):valL (if low then numB low k n else (numB low k n).reverse)=n:=by
 cases low with
 | true=>show valL (lowB k n)=n;rw[valL_low,Nat.mod_eq_of_lt hn]
 | false=>show valL (lowB k n).reverse.reverse=n;rw[List.reverse_reverse,valL_low,Nat.mod_eq_of_lt hn]
theorem gen_num (low:Bool)(k:Nat)(h1:1≤k)(h4:k≤4)(n:Nat)(hn:n<256 ^ k):genV (gS low k) ⟨(decT n).toArray⟩ 9=(numB low k n,0,0):=by
 obtain ⟨hp,x,hx,hni⟩:=num_gram low k h1 h4
 have hz:(pressV (gS low k)).1=0:=by rw[hp]
 have hn32:n<4294967296:=Nat.lt_of_lt_of_le hn (pow_le4 k h4)
 obtain ⟨v,hv,he⟩:=tree_num n hn32
 have hgen:genO (gS low k) ⟨(decT n).toArray⟩ v 9=(numB low k n,0):=by
  have h:=genT_num hni hx (⟨(decT n).toArray⟩:ByteArray).size n 9 hn (by omega)
  rw[← he] at h
  exact h
 unfold genV
 rw[if_neg (fun h=>h hz),hv]
 simp only
 rw[if_neg (by decide),show (9:Int).toNat=9 from rfl,hgen]
 simp only
 rw[if_neg (by simp),num_parse low k h1 h4 (numB low k n) (numB_length low k n) 100000 10000 (by omega) (by omega),val_numB low k n hn,if_pos rfl]
theorem valL_lt:∀ l:List UInt8,valL l<256 ^ l.length
 | []=>by simp[valL]
 | c::l=>by
  have h:=valL_lt l
  have hc:c.toNat<256:=c.toNat_lt
  rw[valL,List.length_cons,Nat.pow_succ]
  omega
theorem dec_one (k:Nat)(h:k<10):decT k=[UInt8.ofNat (48+k)]:=Lib.decDigits_one h
theorem gS_n (k:Nat)(h:k<10):(⟨#[65,61,110]⟩:ByteArray)++⟨(decT k).toArray⟩=gS false k:=by rw[dec_one k h];exact mk_app [65,61,110] [UInt8.ofNat (48+k)]
theorem gS_l (k:Nat)(h:k<10):(⟨#[65,61,108]⟩:ByteArray)++⟨(decT k).toArray⟩=gS true k:=by rw[dec_one k h];exact mk_app [65,61,108] [UInt8.ofNat (48+k)]
theorem rev_at (na nb:List UInt8)(kp:Nat)(h:nb=na.reverse)(hl:na.length=kp+1)(j:Nat)(hj:j<kp+1):∃ c:UInt8,na[j]? = some c∧nb[kp-j]? = some c:=by
 obtain ⟨c,hc⟩:∃ c,na[j]? = some c:=⟨na[j]'(by omega),List.getElem?_eq_getElem (by omega)⟩
 refine ⟨c,hc,?_⟩
 rw[h,List.getElem?_reverse (by omega),hl,show kp+1-1-(kp-j)=j by omega]
 exact hc
theorem below_drew' {n:Nat}{w:World}(_h:n≤w.heap.size):Below n w w.drew:=⟨rfl,rfl,rfl,Nat.le_refl _,fun _ _=>rfl⟩
theorem below_dr (w:World)(n:Nat):Below w.heap.size w (w.drewN n):=⟨rfl,rfl,rfl,Nat.le_refl _,fun _ _=>rfl⟩
set_option maxRecDepth 100000 in
set_option maxHeartbeats 4000000 in
theorem turned_calls (w:World)(v w':Int)(hv : -9223372036854775808≤v∧v≤9223372036854775807)(hw : -9223372036854775808≤w'∧w'≤9223372036854775807)(hS:Shp w)(hP:PowW w):
 Calls Tryz.prog 9 #[.int .i64 v,.int .i64 w'] w fun e w2=>e=.returned (.bool true)∧Below w.heap.size w w2:=by
 have Hv:=hide' hv
 have HS:=hide' hS
 have HP:=hide' hP
 have HPk:=hide' (pickE_calls w' 4 hw.1 hw.2 (by omega) (by omega) w)
 have hkp:=pickV_lt w' 4 (by omega)
 generalize pickV w' 4=kp at *
 obtain ⟨k,hk⟩:∃ k,k=kp+1:=⟨_,rfl⟩
 have hk1:IntKind.i64.wrap ((1:Int)+(kp:Nat))=(k:Nat):=by rw[IntKind.wrap_i64];omega
 have h1:1≤k:=by omega
 have h4:k≤4:=by omega
 have HK:=hide' hk1
 clear hv hw hS hP
 go_enter Tryz.func9,Tryz.ntmps9
 go_wp2_with fail
 refine HPk.out.mono ?_
 rintro e w9 ⟨rfl,hw9⟩
 rw[hw9]
 clear hw9 w9 HPk
 go_wp2_with fail
 go_loopw [6,7] (fun v6 v7 wr=>∃ i p:Nat,v7=.int .i64 (i:Nat)∧v6=.int .i64 (p:Nat)∧Hid (p=256 ^ i)∧1≤i∧i≤k∧wr=w) (fun _ v7 _=>k-(intOf v7).toNat)
 case atStart=>exact ⟨1,256,rfl,rfl,(rfl:(256:Nat)=256 ^ 1),Nat.le_refl _,h1,rfl⟩
 case round=>
  obtain ⟨i,p,rfl,rfl,hp,hi1,hik,rfl⟩:=hrel
  by_cases hil:i<k
  · have hil':(i:Int)<(k:Int):=by omega
    have hp3:p≤16777216:=by rw[hp.out];exact pow_le3 i (by omega)
    have hmul:IntKind.i64.wrap ((p:Int)*256)=((p*256:Nat):Int):=by rw[IntKind.wrap_i64];omega
    go_wp2_with fail
    go_roundw
    case rel=>exact ⟨i+1,p*256,by go_num,by first | rfl | rw[hmul],(by rw[hp.out,Nat.pow_succ]:p*256=256 ^ (i+1)),by omega,by omega,trivial⟩
    case measure=>simp[intOf];omega
  · have hil':¬ (i:Int)<(k:Int):=by omega
    obtain rfl:i=k:=by omega
    have hp4:p≤4294967296:=by rw[hp.out];exact pow_le4 i h4
    have hp0:0<p:=by rw[hp.out];exact Nat.pow_pos (by omega)
    have HPv:=hide' (fun W=>pickE_calls v p Hv.out.1 Hv.out.2 (by omega) (by omega) W)
    have HNl:=hide' (pickV_lt v p (by omega))
    generalize pickV v p=n at *
    have hn:n<256 ^ (kp+1):=by have:=HNl.out;rw[← hk,← hp.out];omega
    have HN:=hide' hn
    have hn32:n<4294967296:=by have:=HNl.out;omega
    clear hn
    go_wp2_with fail
    refine (HPv.out _).mono ?_
    rintro e w9 ⟨rfl,hw9⟩
    rw[hw9]
    clear hw9 w9 HPv
    go_wp2_with fail
    refine (kdecimal_calls n hn32 _).mono ?_
    rintro e w1 ⟨rfl,m1,hm1⟩
    have HB1:Hid (Below wr.heap.size wr w1):=by
     have:Below wr.heap.size wr w1:=by rw[hm1];exact below_dr _ _
     exact this
    clear hm1
    have HDk:=hide' (fun W=>kdecimal_calls (kp+1) (by omega) W)
    have hsn:(⟨(decT n).toArray⟩:ByteArray).size≤maxLen:=by
     show (decT n).toArray.size≤maxLen
     have:=decT_len n hn32
     rw[List.size_toArray]
     unfold maxLen
     omega
    have hgl:∀ b,(gS b (kp+1)).size≤maxLen:=fun b=>by show 4≤maxLen;unfold maxLen;decide
    have hgn:=gS_n (kp+1) (by omega)
    have hgl2:=gS_l (kp+1) (by omega)
    have HGl:=hide' hgl
    have HSn:=hide' hsn
    have HA:=hide' (gen_num false (kp+1) (by omega) (by omega) n HN.out)
    have HBb:=hide' (gen_num true (kp+1) (by omega) (by omega) n HN.out)
    have hla:(numB false (kp+1) n).length=kp+1:=numB_length _ _ _
    have hlb:(numB true (kp+1) n).length=kp+1:=numB_length _ _ _
    have HPc:=hide' (parse_num false (kp+1) (by omega) (by omega) (numB false (kp+1) n) hla)
    have HPd:=hide' (parse_num true (kp+1) (by omega) (by omega) (numB false (kp+1) n) hla)
    have hvl:valL (numB false (kp+1) n)<256 ^ (kp+1):=by have:=valL_lt (numB false (kp+1) n);rw[hla] at this;exact this
    have HR:=hide' (gen_num true (kp+1) (by omega) (by omega) (valL (numB false (kp+1) n)) hvl)
    have hvn:valL (if false=true then numB false (kp+1) n else (numB false (kp+1) n).reverse)=n:=val_numB false (kp+1) n HN.out
    have hrr:numB true (kp+1) (valL (numB false (kp+1) n))=numB false (kp+1) n:=by
     have:=low_val (numB false (kp+1) n)
     rw[hla] at this
     exact this
    have hd32:valL (numB false (kp+1) n)<4294967296:=Nat.lt_of_lt_of_le hvl (pow_le4 _ (by omega))
    have hsd:(⟨(decT (valL (numB false (kp+1) n))).toArray⟩:ByteArray).size≤maxLen:=by
     show (decT (valL (numB false (kp+1) n))).toArray.size≤maxLen
     have:=decT_len _ hd32
     rw[List.size_toArray]
     unfold maxLen
     omega
    have HSd:=hide' hsd
    have hrev:numB true (kp+1) n=(numB false (kp+1) n).reverse:=by show lowB _ _=(lowB _ _).reverse.reverse;rw[List.reverse_reverse]
    have HRev:=hide' hrev
    rw[hvn] at HPc
    simp only[if_true] at HPd
    rw[hrr] at HR
    clear hvn hrr hrev hvl hd32 hsd hsn hgl hla hlb
    generalize hna:numB false (kp+1) n=na at *
    generalize hnb:numB true (kp+1) n=nb at *
    have HLa:Hid (na.length=kp+1):=by
     have:na.length=kp+1:=by rw[← hna];exact numB_length _ _ _
     exact this
    have HLb:Hid (nb.length=kp+1):=by
     have:nb.length=kp+1:=by rw[← hnb];exact numB_length _ _ _
     exact this
    clear hna hnb
    have HNa:Hid ((⟨na.toArray⟩:ByteArray).size≤maxLen):=by
     have:(⟨na.toArray⟩:ByteArray).size≤maxLen:=by
      show na.toArray.size≤maxLen
      rw[List.size_toArray,HLa.out]
      unfold maxLen
      omega
     exact this
    have hl9:¬ 9223372036854775807<3+(decT (kp+1)).length:=by rw[dec_one (kp+1) (by omega)];simp
    go_wp2_with fail
    refine (HDk.out _).mono ?_
    rintro e x2 ⟨rfl,m2,hm2⟩
    have HC2:Hid (Below wr.heap.size wr x2):=by
     have:Below wr.heap.size wr x2:=by rw[hm2];exact HB1.out.trans ((below_dr _ _).mono HB1.out.size)
     exact this
    clear hm2 HB1
    go_wp2_with fail
    refine (gface_calls (gS false (kp+1)) ⟨(decT n).toArray⟩ (HGl.out _) HSn.out 9 x2 (HS.out.below HC2.out) (HP.out.below HC2.out)).mono ?_
    rintro e w2 ⟨rfl,hb2,_⟩
    rw[HA.out]
    have HB2:=hide' (HC2.out.trans (hb2.mono HC2.out.size))
    clear hb2 HC2 x2
    simp only
    go_wp2_with fail
    refine (HDk.out _).mono ?_
    rintro e x3 ⟨rfl,m3,hm3⟩
    have HC3:Hid (Below wr.heap.size wr x3):=by
     have:Below wr.heap.size wr x3:=by rw[hm3];exact HB2.out.trans ((below_dr _ _).mono HB2.out.size)
     exact this
    clear hm3 HB2
    go_wp2_with fail
    refine (gface_calls (gS true (kp+1)) ⟨(decT n).toArray⟩ (HGl.out _) HSn.out 9 x3 (HS.out.below HC3.out) (HP.out.below HC3.out)).mono ?_
    rintro e w3 ⟨rfl,hb3,_⟩
    rw[HBb.out]
    have HB3:=hide' (HC3.out.trans (hb3.mono HC3.out.size))
    clear hb3 HC3 x3
    simp only
    go_wp2_with fail
    refine (HDk.out _).mono ?_
    rintro e x4 ⟨rfl,m4,hm4⟩
    have HC4:Hid (Below wr.heap.size wr x4):=by
     have:Below wr.heap.size wr x4:=by rw[hm4];exact HB3.out.trans ((below_dr _ _).mono HB3.out.size)
     exact this
    clear hm4 HB3
    go_wp2_with fail
    refine (pface_calls (gS false (kp+1)) ⟨na.toArray⟩ (HGl.out _) HNa.out 9 9 x4 (HS.out.below HC4.out) (HP.out.below HC4.out)).mono ?_
    rintro e w4 ⟨rfl,hb4⟩
    rw[HPc.out]
    have HB4:=hide' (HC4.out.trans (hb4.mono HC4.out.size))
    clear hb4 HC4 x4
    simp only
    go_wp2_with fail
    refine (HDk.out _).mono ?_
    rintro e x5 ⟨rfl,m5,hm5⟩
    have HC5:Hid (Below wr.heap.size wr x5):=by
     have:Below wr.heap.size wr x5:=by rw[hm5];exact HB4.out.trans ((below_dr _ _).mono HB4.out.size)
     exact this
    clear hm5 HB4
    go_wp2_with fail
    refine (pface_calls (gS true (kp+1)) ⟨na.toArray⟩ (HGl.out _) HNa.out 9 9 x5 (HS.out.below HC5.out) (HP.out.below HC5.out)).mono ?_
    rintro e w5 ⟨rfl,hb5⟩
    rw[HPd.out]
    have HB5:=hide' (HC5.out.trans (hb5.mono HC5.out.size))
    clear hb5 HC5 x5
    simp only
    go_wp2_with fail
    refine (HDk.out _).mono ?_
    rintro e x6 ⟨rfl,m6,hm6⟩
    have HC6:Hid (Below wr.heap.size wr x6):=by
     have:Below wr.heap.size wr x6:=by rw[hm6];exact HB5.out.trans ((below_dr _ _).mono HB5.out.size)
     exact this
    clear hm6 HB5
    go_wp2_with fail
    refine (gface_calls (gS true (kp+1)) ⟨(decT (valL na)).toArray⟩ (HGl.out _) HSd.out 9 x6 (HS.out.below HC6.out) (HP.out.below HC6.out)).mono ?_
    rintro e w6 ⟨rfl,hb6,_⟩
    rw[HR.out]
    have HB6:=hide' (HC6.out.trans (hb6.mono HC6.out.size))
    clear hb6 HC6 x6
    simp only
    have hla:=HLa.out
    have hlb:=HLb.out
    go_wp2_with fail
    have hab:∀ j,j<kp+1→∃ c:UInt8,na[j]? = some c∧nb[kp-j]? = some c:=fun j hj=>rev_at na nb kp HRev.out HLa.out j hj
    have HAb:=hide' hab
    clear hab hl9 hgn hgl2
    go_loopw [24] (fun v24 wx=>∃ j:Nat,v24=.int .i64 (j:Nat)∧j≤kp+1∧Hid (Below wr.heap.size wr wx)) (fun v24 _=>kp+1-(intOf v24).toNat)
    case atStart=>exact ⟨0,rfl,by omega,HB6⟩
    case round=>
     obtain ⟨j,rfl,hj,hB⟩:=hrel
     by_cases hjl:j<kp+1
     · have hjl':(j:Int)<(kp:Int)+1:=by omega
       obtain ⟨c,hc1,hc2⟩:=HAb.out j hjl
       have hw1:IntKind.i64.wrap ((kp:Int)-(j:Int))=((kp-j:Nat):Int):=by rw[IntKind.wrap_i64];omega
       have hj1:j<na.length:=by omega
       have hj2:kp-j<nb.length:=by omega
       have hj3:((kp-j:Nat):Int)<(nb.length:Int):=by omega
       have hj4:(j:Int)<(na.length:Int):=by omega
       have hw0:IntKind.i64.wrap (kp:Int)=(kp:Int):=by rw[IntKind.wrap_i64];omega
       have hz1:j<(⟨na.toArray⟩:ByteArray).size:=by show j<na.toArray.size;simpa using hj1
       have hz2:kp-j<(⟨nb.toArray⟩:ByteArray).size:=by show kp-j<nb.toArray.size;simpa using hj2
       have hg1:(⟨na.toArray⟩:ByteArray)[j]'hz1=c:=by
        have:(⟨na.toArray⟩:ByteArray)[j]'hz1=na[j]'hj1:=rfl
        rw[this]
        rw[List.getElem?_eq_getElem hj1] at hc1;exact Option.some.inj hc1
       have hg2:(⟨nb.toArray⟩:ByteArray)[kp-j]'hz2=c:=by
        have:(⟨nb.toArray⟩:ByteArray)[kp-j]'hz2=nb[kp-j]'hj2:=rfl
        rw[this]
        rw[List.getElem?_eq_getElem hj2] at hc2;exact Option.some.inj hc2
       have hj5:((kp-j:Nat):Int)<(kp:Int)+1:=by omega
       go_wp2_with fail
       refine wp_region_still_lit rfl (by kernel_rfl) ?_
       repeat still_step
       refine wpStill_nil ?_
       have HB7:=hide' (hB.out.trans (below_drew' hB.out.size))
       go_wp2_with fail
       go_roundw
       case rel=>exact ⟨j+1,by go_num,by omega,HB7⟩
       case measure=>simp[intOf];omega
     · have hjl':¬ (j:Int)<(kp:Int)+1:=by omega
       go_wp2_with fail
       go_ret
       exact ⟨rfl,hB.out⟩
end Go.Proofs.YtmlkhhhjdpbhfaaGreatDoor

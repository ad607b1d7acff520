import Derived.Test.YtmlkhhhjdpbhfaaGreatDoorFo23
import Derived.Laws.IdiomStrings
import Derived.Test.YtmlkhhhjdpbhfaaGreatDoorShelf
namespace Go.Proofs.YtmlkhhhjdpbhfaaGreatDoor
open Go.RowKit
def FmtC (w:World):Prop:=∀ n:Nat,n<4294967296→Calls Tryz.prog 106 #[.int .u64 n,.int .i64 10] w fun e w'=>e=.returned (.string ⟨(decT n).toArray⟩)∧Below w.heap.size w w'
def WriteC (f:Nat):Prop:=∀ (w0 w:World) (B b lo hi vb:Nat) (sb:Option Nat) (l t:List UInt8),RepV f w0 lo hi sb vb t→hi≤B→(∀ w',Below B w0 w'→FmtC w')→Below B w0 w→B≤w.heap.size→Bld w B b l→l.length+t.length≤1000000000→
 Calls Tryz.prog 64 #[.pointer (some ⟨vb,0,none⟩),.pointer (some ⟨b,0,none⟩)] w fun e w'=>e=.returned (.tuple #[])∧Below B w w'∧Bld w' B b (l++t)
theorem joinT_ne {a b:List UInt8}(h:b≠[]):joinT a b≠[]:=by
 unfold joinT;split
 · exact h
 · simp
theorem joinL_take (ts:List (List UInt8))(j:Nat)(hj:j<ts.length):joinL (ts.take (j+1))=joinT (joinL (ts.take j)) ts[j]:=by
 rw[List.take_succ_eq_append_getElem hj,joinL_snoc]
theorem joinL_take_ne (ts:List (List UInt8))(hne:∀ t,t∈ts→t≠[])(j:Nat)(h0:0<j)(hj:j≤ts.length):joinL (ts.take j)≠[]:=by
 cases j with
 | zero=>omega
 | succ j=>rw[joinL_take ts j (by omega)];exact joinT_ne (hne _ (List.getElem_mem _))
theorem joinT_len (a b:List UInt8):a.length≤(joinT a b).length∧b.length≤(joinT a b).length:=by
 unfold joinT;split
 · rename_i h;subst h;simp
 · simp;omega
theorem joinL_take_len (ts:List (List UInt8))(k:Nat):∀ j,j+k=ts.length→(joinL (ts.take j)).length≤(joinL ts).length:=by
 induction k with
 | zero=>intro j hj;rw[List.take_of_length_le (by omega)];exact Nat.le_refl _
 | succ k ih=>
  intro j hj
  have h1:=ih (j+1) (by omega)
  rw[joinL_take ts j (by omega)] at h1
  have h2:=(joinT_len (joinL (ts.take j)) ts[j]).1
  omega
structure AtBtw (w w0:World) (B b:Nat) (l:List UInt8) (o:UInt8) (ts:List (List UInt8)) (j:Nat) (wr:World):Prop where
 bel:Below B w wr
 bld:Bld wr B b (l++o::joinL (ts.take j))
set_option maxRecDepth 100000 in
set_option maxHeartbeats 2000000 in
theorem between_calls (f:Nat)(ih:WriteC f)(w0 w:World)(B b lo hi:Nat)(sb:Option Nat)(l:List UInt8)(o cl:UInt8)(v:Value)(kids:List (Nat × List UInt8))(hv:PtrsV w0 lo hi sb v (kids.map Prod.fst))(hk:∀ q,q∈kids→RepV f w0 lo hi sb q.1 q.2)(hne:∀ t,t∈kids.map Prod.snd→t≠[])(hhi:hi≤B)(hF:∀ w',Below B w0 w'→FmtC w')(hbel:Below B w0 w)(hBw:B≤w.heap.size)(hb:Bld w B b l)(hlen:l.length+(joinL (kids.map Prod.snd)).length+2≤1000000000)(hkl:kids.length≤1000000000):
 Calls Tryz.prog 109 #[.pointer (some ⟨b,0,none⟩),.int .u8 o.toNat,v,.int .u8 cl.toNat] w fun e w'=>e=.returned (.tuple #[])∧Below B w w'∧Bld w' B b (l++(o::joinL (kids.map Prod.snd)++[cl])):=by
 obtain ⟨pov,capv,hpv,HCell⟩:∃ pov capv,v=.slice pov kids.length capv∧Hid (∀ j,j<kids.length→∃ g,pov=some ⟨g,0,none⟩∧g<hi∧w0.cell? ⟨g,j,none⟩=some (.pointer (some ⟨(kids.map Prod.fst).getD j 0,0,none⟩))):=by
  rcases hv with ⟨h1,h2⟩ | ⟨g,cap,h1,h2,h3,h4,h5⟩
  · have h0:kids=[]:=by simpa using h2
    exact ⟨none,0,by rw[h1,h0];rfl,hide' fun j hj=>by rw[h0] at hj;simp at hj⟩
  · exact ⟨_,cap,by rw[h1];simp,hide' fun j hj=>⟨g,rfl,by omega,h5 j (by simpa using hj)⟩⟩
 subst hpv
 have HI:=hide' ih
 have HF:=hide' hF
 have HK:=hide' hk
 have HBl:=hide' hbel
 have HNe:=hide' hne
 clear ih hk hbel hv hne hF
 go_enter Tryz.func109,Tryz.ntmps109
 go_wp2_with fail
 refine (writeByte_calls w B b l o hb (by omega) hBw).mono ?_
 rintro e w1 ⟨rfl,hb1,hd1⟩
 have HST:Hid (AtBtw w w0 B b l o (kids.map Prod.snd) 0 w1):=⟨hb1,by simpa[joinL] using hd1⟩
 clear hb1 hd1
 simp only
 go_wp2_with fail
 go_loopw [15,8,9] (fun v15 _ _ wr=>∃ (j:Nat),v15=.int .i64 j∧j≤kids.length∧Hid (AtBtw w w0 B b l o (kids.map Prod.snd) j wr)) (fun v15 _ _ _=>kids.length-(intOf v15).toNat)
 case atStart=>exact ⟨0,rfl,by omega,HST⟩
 case round=>
  clear HST
  obtain ⟨j,rfl,hj,hat⟩:=hrel
  have hlt:=joinL_take_len (kids.map Prod.snd) (kids.length-j) j (by simp;omega)
  have hwr:=hat.out.bel.size
  by_cases hjn:j<kids.length
  · have hjn':(j:Int)<(kids.length:Int):=by omega
    obtain ⟨⟨qb,t⟩,hqj⟩:∃ q,q=kids[j]:=⟨_,rfl⟩
    have hqm:(qb,t)∈kids:=by rw[hqj];exact List.getElem_mem hjn
    have hfst:(kids.map Prod.fst).getD j 0=qb:=by rw[List.getD_eq_getElem?_getD,List.getElem?_map,List.getElem?_eq_getElem hjn,← hqj];rfl
    have htj:(kids.map Prod.snd)[j]'(by simpa using hjn)=t:=by rw[List.getElem_map,← hqj]
    have hjt:=joinL_take (kids.map Prod.snd) j (by simpa using hjn)
    rw[htj] at hjt
    have hlt2:=joinL_take_len (kids.map Prod.snd) (kids.length-(j+1)) (j+1) (by simp;omega)
    have hrepk:=HK.out _ hqm
    obtain ⟨g,hpo,hgl,hgc⟩:=HCell.out j hjn
    subst hpo
    rw[hfst] at hgc
    have k0:wr.cell? ⟨g,j,none⟩=some (.pointer (some ⟨qb,0,none⟩)):=by
     rw[hat.out.bel.cell (p:=⟨g,j,none⟩) (show g<B by omega),HBl.out.cell (p:=⟨g,j,none⟩) (show g<B by omega)];exact hgc
    by_cases hj0:j=0
    · have hj0':¬ (0:Int)<(j:Int):=by omega
      have hemp:joinL ((kids.map Prod.snd).take j)=[]:=by rw[hj0];rfl
      rw[hemp] at hjt
      have hjt2:joinL ((kids.map Prod.snd).take (j+1))=t:=by rw[hjt];simp[joinT]
      have HCall:=hide' (HI.out w0 wr B b lo hi qb sb _ t hrepk hhi HF.out (HBl.out.trans hat.out.bel) (by omega) hat.out.bld (by rw[hemp];simp;rw[hjt2] at hlt2;omega))
      have HAt:=hat
      clear hat hrepk hgc hfst htj hjt hqj hj0
      go_wp2_with fail
      refine HCall.out.mono ?_
      rintro e w4 ⟨rfl,hb4,hd4⟩
      have HN:Hid (AtBtw w w0 B b l o (kids.map Prod.snd) (j+1) w4):=⟨HAt.out.bel.trans hb4,by rw[hjt2];simpa[hemp] using hd4⟩
      clear hb4 hd4
      simp only
      go_wp2_with fail
      go_roundw
      case rel=>exact ⟨j+1,by go_num,by omega,HN⟩
      case measure=>simp[intOf];omega
    · have hj0':(0:Int)<(j:Int):=by omega
      have hnem:=joinL_take_ne (kids.map Prod.snd) HNe.out j (by omega) (by simp;omega)
      have hjt2:joinL ((kids.map Prod.snd).take (j+1))=joinL ((kids.map Prod.snd).take j)++32::t:=by rw[hjt];unfold joinT;rw[if_neg hnem]
      have hl2:(joinL ((kids.map Prod.snd).take j)).length+1+t.length=(joinL ((kids.map Prod.snd).take (j+1))).length:=by rw[hjt2];simp;omega
      have HSp:=hide' (writeByte_calls wr B b _ 32 hat.out.bld (by simp;omega) (by omega))
      have HAt:=hat
      have HRk:=hide' hrepk
      clear hat hrepk hgc hfst htj hjt hqj hnem
      go_wp2_with fail
      refine HSp.out.mono ?_
      rintro e w3 ⟨rfl,hb3,hd3⟩
      have hs3:=hb3.size
      have HCall:=hide' (HI.out w0 w3 B b lo hi qb sb _ t HRk.out hhi HF.out ((HBl.out.trans HAt.out.bel).trans hb3) (by omega) hd3 (by simp;omega))
      have HB3:=hide' hb3
      clear hb3 hd3
      simp only
      go_wp2_with fail
      refine HCall.out.mono ?_
      rintro e w4 ⟨rfl,hb4,hd4⟩
      have HN:Hid (AtBtw w w0 B b l o (kids.map Prod.snd) (j+1) w4):=⟨(HAt.out.bel.trans HB3.out).trans hb4,by rw[hjt2];simpa using hd4⟩
      clear hb4 hd4
      simp only
      go_wp2_with fail
      go_roundw
      case rel=>exact ⟨j+1,by go_num,by omega,HN⟩
      case measure=>simp[intOf];omega
  · have hjn':¬ (j:Int)<(kids.length:Int):=by omega
    have hfull:(kids.map Prod.snd).take j=kids.map Prod.snd:=List.take_of_length_le (by simp;omega)
    have hd:=hat.out.bld
    rw[hfull] at hd
    have HSp:=hide' (writeByte_calls wr B b _ cl hd (by simp;omega) (by omega))
    have HBe:=hide' hat.out.bel
    clear hat hd
    go_wp2_with fail
    refine HSp.out.mono ?_
    rintro e w3 ⟨rfl,hb3,hd3⟩
    have HH:Hid (Below B w w3∧Bld w3 B b (l++(o::joinL (kids.map Prod.snd)++[cl]))):=⟨HBe.out.trans hb3,by simpa using hd3⟩
    clear hb3 hd3
    simp only
    go_wp2_with fail
    go_end0
    exact ⟨rfl,HH.out⟩
def hexAll (s:ByteArray)(j:Nat):List UInt8:=(List.range j).flatMap fun i=>[hexT (bn s i / 16),hexT (bn s i % 16)]
theorem hexAll_len (s:ByteArray)(j:Nat):(hexAll s j).length=2*j:=by
 induction j with
 | zero=>rfl
 | succ j ih=>
  have:hexAll s (j+1)=hexAll s j++[hexT (bn s j / 16),hexT (bn s j % 16)]:=by simp[hexAll,List.range_succ]
  rw[this,List.length_append,ih];simp;omega
theorem dig_hex (n:Nat)(h:n<16):({ data:=#[48,49,50,51,52,53,54,55,56,57,97,98,99,100,101,102] }:ByteArray)[n]'(h)=hexT n:=by
 have h16:n=0∨n=1∨n=2∨n=3∨n=4∨n=5∨n=6∨n=7∨n=8∨n=9∨n=10∨n=11∨n=12∨n=13∨n=14∨n=15:=by omega
 rcases h16 with rfl | rfl | rfl | rfl | rfl | rfl | rfl | rfl | rfl | rfl | rfl | rfl | rfl | rfl | rfl | rfl<;>rfl
structure AtRun (w:World) (B b nb:Nat) (l:List UInt8) (s:ByteArray) (j:Nat) (wr:World):Prop where
 bel:Below B w wr
 ex:∃ v,BldV wr B b (l++34::hexAll s j) v∧some nb≠v.ownBlock
 row:∀ i,i<s.size→wr.cell? ⟨nb,i,none⟩=some (.int .u8 (bn s i:Int))
 lt:nb<wr.heap.size
 ne:nb≠b
set_option maxRecDepth 100000 in
set_option maxHeartbeats 2000000 in
theorem writeRun_calls (w:World)(B b:Nat)(l:List UInt8)(s:ByteArray)(hs:s.size≤4000)(hb:Bld w B b l)(hBw:B≤w.heap.size)(hlen:l.length≤1000000000):
 Calls Tryz.prog 108 #[.pointer (some ⟨b,0,none⟩),.string s] w fun e w'=>e=.returned (.tuple #[])∧Below B w w'∧Bld w' B b (l++quoteT s):=by
 obtain ⟨v,hv⟩:=hb
 have hconv:=fun W=>run_bytes_of_string (P:=Tryz.prog) W 9 40 5 s Tryz.underlying9 Tryz.underlying40 Tryz.underlying5
 go_enter Tryz.func108,Tryz.ntmps108
 go_wp2_with fail
 refine (writeByteV_calls w B b l 34 v hv (by omega) hBw).mono ?_
 rintro e w1 ⟨rfl,hb1,v1,hd1,hv1,hs1,hk1⟩
 have HB1:=hide' hb1
 have HD1:=hide' hd1
 clear hb1 hd1 hv1 hk1
 simp only
 go_wp2_with fail
 generalize grownCap w1 s.size 0 5=cp
 have hvl:∀ g,v1.ownBlock=some g→g<w1.heap.size:=fun g e=>by obtain ⟨p,_,_,ho,_⟩:=HD1.out.ex;exact (ho.lt g e).2
 have HST:Hid (AtRun w B b w1.heap.size l s 0 (w1.alloc (.cells (bytesRow s cp) 5 ((bytesRow s cp).size,(bytesRow s cp).size+1))).drew):=by
  obtain ⟨p,hp,hbk,ho,hn⟩:=HD1.out.ex
  have hbl:=hbk.lt
  refine ⟨(HB1.out.alloc (by omega) _).drew,⟨v1,⟨⟨p,hp,Blk.alloc hbk _,ho.alloc _,hn⟩,HD1.out.ge⟩,fun e=>by have:=hvl _ e.symm;omega⟩,fun i hi=>?_,by simp,by omega⟩
  have h1:=heap_alloc_new w1 (.cells (bytesRow s cp) 5 ((bytesRow s cp).size,(bytesRow s cp).size+1))
  have h2:(w1.alloc (.cells (bytesRow s cp) 5 ((bytesRow s cp).size,(bytesRow s cp).size+1))).drew.cell? ⟨w1.heap.size,i,none⟩=(bytesRow s cp)[i]? := by
   show (w1.alloc _).cell? _=_
   unfold World.cell?
   simp only[h1]
   rfl
  rw[h2,bytesRow_at s cp i hi,bn_cast,bt_in s i hi]
  rfl
 generalize (w1.alloc (.cells (bytesRow s cp) 5 ((bytesRow s cp).size,(bytesRow s cp).size+1))).drew=W2 at *
 generalize hnb:w1.heap.size=nb at *
 clear HB1 HD1 hvl hs1 hnb hconv
 go_loopw [11,5] (fun v11 _ wr=>∃ (j:Nat),v11=.int .i64 j∧j≤s.size∧Hid (AtRun w B b nb l s j wr)) (fun v11 _ _=>s.size-(intOf v11).toNat)
 case atStart=>exact ⟨0,rfl,by omega,HST⟩
 case round=>
  clear HST
  obtain ⟨j,rfl,hj,hat⟩:=hrel
  by_cases hjn:j<s.size
  · have hjn':(j:Int)<(s.size:Int):=by omega
    have k0:=hat.out.row j hjn
    have hbn:bn s j<256:=bn_lt s j
    have h16:(bn s j:Int) / 16<16:=by omega
    have h16b:(0:Int)≤(bn s j:Int) / 16:=by omega
    have hm16:bn s j % 16<16:=by omega
    have HAt:=hat
    have hwr:=hat.out.bel.size
    obtain ⟨v2,hd2,hn2⟩:=hat.out.ex
    have hle:=hexAll_len s j
    have HW1:=hide' (writeByteV_calls wr B b _ (hexT (bn s j / 16)) v2 hd2 (by simp;omega) (by omega))
    rw[← dig_hex (bn s j / 16) (by omega)] at HW1
    clear hat
    go_wp2_with fail
    refine HW1.out.mono ?_
    rintro e w3 ⟨rfl,hb3,v3,hd3,hv3,hs3,hk3⟩
    have hn3:some nb≠v3.ownBlock:=by
     rcases hv3 with h | ⟨g,h,l⟩
     · rw[h];exact hn2
     · rw[h];intro e;cases e;have:=HAt.out.lt;omega
    have HW2:=hide' (writeByteV_calls w3 B b _ (hexT (bn s j % 16)) v3 hd3 (by simp;omega) (by omega))
    rw[← dig_hex (bn s j % 16) hm16] at HW2
    have HB3:=hide' hb3
    have HK3:=hide' (hk3 nb HAt.out.lt HAt.out.ne hn2)
    clear hb3 hd3 hv3 hk3
    simp only
    go_wp2_with fail
    refine HW2.out.mono ?_
    rintro e w4 ⟨rfl,hb4,v4,hd4,hv4,hs4,hk4⟩
    have HN:Hid (AtRun w B b nb l s (j+1) w4):=by
     have hlt:=HAt.out.lt
     have hsame:w4.heap[nb]? = wr.heap[nb]? := (hk4 nb (by omega) HAt.out.ne hn3).trans HK3.out
     refine ⟨(HAt.out.bel.trans HB3.out).trans hb4,⟨v4,?_,?_⟩,fun i hi=>?_,by omega,HAt.out.ne⟩
     · rw[dig_hex _ (by omega),dig_hex _ hm16] at hd4
       have:hexAll s (j+1)=hexAll s j++[hexT (bn s j / 16),hexT (bn s j % 16)]:=by simp[hexAll,List.range_succ]
       rw[this]
       simpa using hd4
     · rcases hv4 with h | ⟨g,h,l⟩
       · rw[h];exact hn3
       · rw[h];intro e;cases e;omega
     · rw[World.cell?_of_block (w:=wr) hsame];exact HAt.out.row i hi
    clear hb4 hd4 hv4 hk4
    simp only
    go_wp2_with fail
    go_roundw
    case rel=>exact ⟨j+1,by go_num,by omega,HN⟩
    case measure=>simp[intOf];omega
  · have hjn':¬ (j:Int)<(s.size:Int):=by omega
    have hje:j=s.size:=by omega
    obtain ⟨v2,hd2,hn2⟩:=hat.out.ex
    have hle:=hexAll_len s j
    have hwr:=hat.out.bel.size
    have HW1:=hide' (writeByteV_calls wr B b _ 34 v2 hd2 (by simp;omega) (by omega))
    have HBe:=hide' hat.out.bel
    have HJe:=hide' hje
    clear hat hje
    go_wp2_with fail
    refine HW1.out.mono ?_
    rintro e w3 ⟨rfl,hb3,v3,hd3,_⟩
    have HH:Hid (Below B w w3∧Bld w3 B b (l++quoteT s)):=⟨HBe.out.trans hb3,v3,by
     have:quoteT s=34::hexAll s j++[34]:=by rw[HJe.out];rfl
     rw[this]
     simpa using hd3⟩
    clear hb3 hd3
    simp only
    go_wp2_with fail
    go_end0
    exact ⟨rfl,HH.out⟩
theorem decT_ne (n:Nat):decT n≠[]:=by
 intro h
 have:=Lib.decDigits_length n
 have:=Lib.nDigits_pos n
 unfold decT at h
 rw[h] at *
 simp at *
 omega
theorem textV_ne (k n:Int)(run:ByteArray)(kids:List (List UInt8)):textV k n run kids≠[]:=by
 unfold textV
 repeat' split
 all_goals first | exact decT_ne _ | simp[quoteT]
theorem RepV.ne {f:Nat}{w:World}{lo hi vb:Nat}{sb:Option Nat}{t:List UInt8}(h:RepV f w lo hi sb vb t):t≠[]:=by
 cases f with
 | zero=>exact h.elim
 | succ f=>
  obtain ⟨k,n,run,v,kids,_,_,_,_,_,_,e,_⟩:=h
  rw[e];exact textV_ne _ _ _ _
theorem joinL_count (ts:List (List UInt8))(hne:∀ t,t∈ts→t≠[]):∀ j,j≤ts.length→j≤(joinL (ts.take j)).length:=by
 intro j
 induction j with
 | zero=>intro _;exact Nat.zero_le _
 | succ j ih=>
  intro hj
  have h1:=ih (by omega)
  rw[joinL_take ts j (by omega)]
  have h2:0<(ts[j]).length:=List.length_pos_iff.2 (hne _ (List.getElem_mem _))
  unfold joinT
  split
  · rename_i h;rw[h] at h1;simp at h1;omega
  · simp;omega
set_option maxRecDepth 100000 in
set_option maxHeartbeats 4000000 in
theorem write_calls:∀ f,WriteC f:=by
 intro f
 induction f with
 | zero=>intro w0 w B b lo hi vb sb l t h;exact h.elim
 | succ f ih=>
  intro w0 w B b lo hi vb sb l t hrep hhi hF hbel hBw hb hlen
  obtain ⟨k,n,run,v,kids,hblk,h1,h2,h3,hptr,hkids,ht,hk,hn,hk5,hrun⟩:=hrep
  have hblk2:=hblk.below hbel (show vb<B by omega)
  have c0:w.cell? ⟨vb,0,none⟩=some (.int .i64 k):=hblk2.cell 0
  have c1:w.cell? ⟨vb,1,none⟩=some (.int .u32 n):=hblk2.cell 1
  have c2:w.cell? ⟨vb,2,none⟩=some (.string run):=hblk2.cell 2
  have c3:w.cell? ⟨vb,3,none⟩=some v:=hblk2.cell 3
  obtain ⟨m,rfl⟩:∃ m:Nat,n=(m:Int):=⟨n.toNat,by omega⟩
  have hm:m<4294967296:=by omega
  have hnek:∀ t,t∈kids.map Prod.snd→t≠[]:=fun t ht=>by
   obtain ⟨q,hq,rfl⟩:=List.mem_map.1 ht
   exact (hkids q hq).ne
  have hcnt:=joinL_count (kids.map Prod.snd) hnek kids.length (by simp)
  rw[List.take_of_length_le (by simp)] at hcnt
  have HI:=hide' ih
  have HF:=hide' hF
  have HBl:=hide' hbel
  have HK:=hide' hkids
  have HP:=hide' hptr
  have HNe:=hide' hnek
  have HBk:=hide' hblk2
  have h6:k=0∨k=1∨k=2∨k=3∨k=4∨k=5:=by omega
  clear ih hF hkids hblk hblk2 hnek hk hn
  rcases h6 with rfl | rfl | rfl | rfl | rfl | rfl
  · have htt:t=decT m:=by rw[ht];simp[textV]
    clear hbel hptr
    go_enter Tryz.func64,Tryz.ntmps64
    go_wp2_with fail
    refine (HF.out w HBl.out m hm).mono ?_
    rintro e w1 ⟨rfl,hb1⟩
    have hs1:=hb1.size
    have hbb:Below B w w1:=⟨hb1.os,hb1.tape,hb1.output,hb1.size,fun k hk=>hb1.block k (by omega)⟩
    have hd1:Bld w1 B b l:=by
     obtain ⟨v0,⟨p,a1,a2,a3,a4⟩,a5⟩:=hb
     exact ⟨v0,⟨p,a1,a2.below hb1 a2.lt,ownsRow_blocks a3 fun g e=>hb1.block g (a3.lt g e).2,a4⟩,a5⟩
    have HBB:=hide' hbb
    have HD:=hide' hd1
    clear hb1 hbb hd1
    simp only
    go_wp2_with fail
    refine (writeString_calls w1 B b l ⟨(decT m).toArray⟩ HD.out (by rw[htt] at hlen;show l.length+(decT m).toArray.size≤_;simp;omega) (by omega)).mono ?_
    rintro e w2 ⟨rfl,hb2,hd2⟩
    have HH:Hid (Below B w w2∧Bld w2 B b (l++t)):=⟨HBB.out.trans hb2,by rw[htt];exact hd2⟩
    clear hb2 hd2
    simp only
    go_wp2_with fail
    go_end0
    exact ⟨rfl,HH.out⟩
  · have htt:t=[45]:=by rw[ht];simp[textV]
    clear hbel hptr
    go_enter Tryz.func64,Tryz.ntmps64
    go_wp2_with fail
    refine (writeByte_calls w B b l 45 hb (by omega) hBw).mono ?_
    rintro e w2 ⟨rfl,hb2,hd2⟩
    have HH:Hid (Below B w w2∧Bld w2 B b (l++t)):=⟨hb2,by rw[htt];exact hd2⟩
    clear hb2 hd2
    simp only
    go_wp2_with fail
    go_end0
    exact ⟨rfl,HH.out⟩
  · have htt:t=quoteT run:=by rw[ht];simp[textV]
    clear hbel hptr
    go_enter Tryz.func64,Tryz.ntmps64
    go_wp2_with fail
    refine (writeRun_calls w B b l run hrun hb hBw (by omega)).mono ?_
    rintro e w2 ⟨rfl,hb2,hd2⟩
    have HH:Hid (Below B w w2∧Bld w2 B b (l++t)):=⟨hb2,by rw[htt];exact hd2⟩
    clear hb2 hd2
    simp only
    go_wp2_with fail
    go_end0
    exact ⟨rfl,HH.out⟩
  · have htt:t=40::joinL (kids.map Prod.snd)++[41]:=by rw[ht];simp[textV]
    have hl2:l.length+(joinL (kids.map Prod.snd)).length+2≤1000000000:=by rw[htt] at hlen;simp at hlen;omega
    clear hbel hptr
    go_enter Tryz.func64,Tryz.ntmps64
    go_wp2_with fail
    refine (between_calls f HI.out w0 w B b lo hi sb l 40 41 v kids HP.out HK.out HNe.out hhi HF.out HBl.out hBw hb hl2 (by omega)).mono ?_
    rintro e w2 ⟨rfl,hb2,hd2⟩
    have HH:Hid (Below B w w2∧Bld w2 B b (l++t)):=⟨hb2,by rw[htt];exact hd2⟩
    clear hb2 hd2
    simp only
    go_wp2_with fail
    go_end0
    exact ⟨rfl,HH.out⟩
  · have htt:t=91::joinL (kids.map Prod.snd)++[93]:=by rw[ht];simp[textV]
    have hl2:l.length+(joinL (kids.map Prod.snd)).length+2≤1000000000:=by rw[htt] at hlen;simp at hlen;omega
    clear hbel hptr
    go_enter Tryz.func64,Tryz.ntmps64
    go_wp2_with fail
    refine (between_calls f HI.out w0 w B b lo hi sb l 91 93 v kids HP.out HK.out HNe.out hhi HF.out HBl.out hBw hb hl2 (by omega)).mono ?_
    rintro e w2 ⟨rfl,hb2,hd2⟩
    have HH:Hid (Below B w w2∧Bld w2 B b (l++t)):=⟨hb2,by rw[htt];exact hd2⟩
    clear hb2 hd2
    simp only
    go_wp2_with fail
    go_end0
    exact ⟨rfl,HH.out⟩
  · obtain ⟨hm2,hk1⟩:=hk5 rfl
    have hm3:m<2:=by omega
    obtain ⟨⟨q,tq⟩,rfl⟩:∃ q,kids=[q]:=by
     match kids,hk1 with
     | [q],_=>exact ⟨q,rfl⟩
    have htt:t=47::hexT m::32::tq:=by rw[ht];simp[textV]
    obtain ⟨g,cap,hvg,hg1,hg2,hgc⟩:∃ g cap,v=.slice (some ⟨g,0,none⟩) 1 cap∧lo≤g∧g<hi∧w0.cell? ⟨g,0,none⟩=some (.pointer (some ⟨q,0,none⟩)):=by
     rcases hptr with ⟨_,h⟩ | ⟨g,cap,a1,a2,a3,a4,a5⟩
     · simp at h
     · exact ⟨g,cap,a1,a2,a3,a5 0 (by simp)⟩
    subst hvg
    have hrq:=HK.out (q,tq) (by simp)
    have HRq:=hide' hrq
    have hl2:l.length+3+tq.length≤1000000000:=by rw[htt] at hlen;simp at hlen;omega
    have hm16:(m:Int)<16:=by omega
    clear hbel hptr hrq hk5 hm2
    go_enter Tryz.func64,Tryz.ntmps64
    go_wp2_with fail
    refine (writeByte_calls w B b l 47 hb (by omega) hBw).mono ?_
    rintro e w1 ⟨rfl,hb1,hd1⟩
    have hs1:=hb1.size
    have HB1:=hide' hb1
    have HD1:=hide' hd1
    have d1:w1.cell? ⟨vb,1,none⟩=some (.int .u32 m):=by rw[hb1.cell (p:=⟨vb,1,none⟩) (show vb<B by omega)];exact c1
    clear hb1 hd1
    have HW2:=hide' (writeByte_calls w1 B b _ (hexT m) HD1.out (by simp;omega) (by omega))
    rw[← dig_hex m (by omega)] at HW2
    simp only
    go_wp2_with fail
    refine HW2.out.mono ?_
    rintro e w2 ⟨rfl,hb2,hd2⟩
    have hs2:=hb2.size
    have HB2:=hide' (HB1.out.trans hb2)
    have HD2:=hide' hd2
    clear hb2 hd2
    simp only
    go_wp2_with fail
    refine (writeByte_calls w2 B b _ 32 HD2.out (by simp;omega) (by omega)).mono ?_
    rintro e w3 ⟨rfl,hb3,hd3⟩
    have hs3:=hb3.size
    have hB3:=HB2.out.trans hb3
    have e3:w3.cell? ⟨vb,3,none⟩=some (.slice (some ⟨g,0,none⟩) 1 cap):=by rw[hB3.cell (p:=⟨vb,3,none⟩) (show vb<B by omega)];exact c3
    have e4:w3.cell? ⟨g,0,none⟩=some (.pointer (some ⟨q,0,none⟩)):=by rw[hB3.cell (p:=⟨g,0,none⟩) (show g<B by omega),HBl.out.cell (p:=⟨g,0,none⟩) (show g<B by omega)];exact hgc
    have HB3:=hide' hB3
    have HW4:=hide' (HI.out w0 w3 B b lo hi q sb _ tq HRq.out hhi HF.out (HBl.out.trans hB3) (by omega) hd3 (by simp;omega))
    clear hb3 hd3 hB3
    simp only
    go_wp2_with fail
    refine HW4.out.mono ?_
    rintro e w4 ⟨rfl,hb4,hd4⟩
    have HH:Hid (Below B w w4∧Bld w4 B b (l++t)):=⟨HB3.out.trans hb4,by rw[htt];rw[dig_hex m (by omega)] at hd4;simpa using hd4⟩
    clear hb4 hd4
    simp only
    go_wp2_with fail
    go_end0
    exact ⟨rfl,HH.out⟩
set_option maxRecDepth 100000 in
set_option maxHeartbeats 1000000 in
theorem text_calls (w:World)(f lo hi vb:Nat)(sb:Option Nat)(t:List UInt8)(hr:RepV f w lo hi sb vb t)(hhi:hi≤w.heap.size)(hF:∀ w',Below w.heap.size w w'→FmtC w')(hlen:t.length≤1000000000):
 Calls Tryz.prog 42 #[.pointer (some ⟨vb,0,none⟩)] w fun e w'=>e=.returned (.string ⟨t.toArray⟩)∧Below w.heap.size w w':=by
 have hbel:=(Below.refl w.heap.size w).alloc (Nat.le_refl _) (.cells #[.pointer none,.slice none 0 0] 163)
 have hbld:Bld (w.alloc (.cells #[.pointer none,.slice none 0 0] 163)) w.heap.size w.heap.size []:=
  ⟨.slice none 0 0,⟨.pointer none,Or.inl rfl,Blk.new _ _ _,World.ownsRow_nil _ _ _ _,by simp[Value.ownBlock]⟩,Nat.le_refl _⟩
 have HW:=hide' (write_calls f w _ w.heap.size w.heap.size lo hi vb sb [] t hr hhi hF hbel (by simp) hbld (by simp;omega))
 have HBl:=hide' hbel
 clear hr hF hbel hbld
 go_enter Tryz.func42,Tryz.ntmps42
 go_wp2_with fail
 refine HW.out.mono ?_
 rintro e w1 ⟨rfl,hb1,hd1⟩
 have hs1:=hb1.size
 have hs0:(w.alloc (.cells #[.pointer none,.slice none 0 0] 163)).heap.size=w.heap.size+1:=by simp
 have hI:Lib.IsBuilderF 163 5 w.heap.size w.heap.size (Lib.byteCells t) w1:=by
  obtain ⟨v,⟨p,a1,a2,a3,a4⟩,a5⟩:=hd1
  have h5:Lib.BuilderAtF 163 5 w.heap.size w.heap.size p (Lib.byteCells t) w1:=by
   refine ⟨Nat.le_refl _,v,a2,?_,a4⟩
   have:=World.ownsRowF_of a3
   simpa[Lib.byteCells,byteC] using this
  rcases a1 with rfl | rfl
  · exact Or.inl h5
  · exact Or.inr h5
 have HI:=hide' hI
 have HB1:=hide' (HBl.out.trans hb1)
 clear hb1 hd1 hI
 simp only
 go_wp2_with fail
 refine (Tryz.Builder_String_any_k w.heap.size w.heap.size t w1 HI.out (by omega)).mono ?_
 rintro e w2 ⟨rfl,_,hb2,_⟩
 have HH:=hide' (HB1.out.trans hb2)
 clear hb2
 simp only
 go_wp2_with fail
 go_ret
 exact ⟨rfl,HH.out⟩
end Go.Proofs.YtmlkhhhjdpbhfaaGreatDoor

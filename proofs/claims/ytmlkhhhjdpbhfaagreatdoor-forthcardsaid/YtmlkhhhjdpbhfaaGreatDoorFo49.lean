import Derived.Test.YtmlkhhhjdpbhfaaGreatDoorFo34
import Derived.Test.YtmlkhhhjdpbhfaaGreatDoorFo23
import Derived.Test.YtmlkhhhjdpbhfaaGreatDoorFo24
namespace Go.Proofs.YtmlkhhhjdpbhfaaGreatDoor
open Go.RowKit
theorem SameT.frS {rb:Nat}{w w':World}(h:SameT rb w w'):Fr w.heap.size rb w w':=h.fr _
def okOf:Value→Nat
 | .bool true=>1
 | _=>0
theorem rdNum_stop (s:ByteArray)(f n i:Nat)(h:tkOk s i 48 57=false):rdNum s f n i=(n,i):=by
 cases f with
 | zero=>rfl
 | succ f=>rw[rdNum,if_neg (by rw[h];simp)]
set_option maxRecDepth 100000 in
set_option maxHeartbeats 1000000 in
theorem vnum_calls {T:Type}(R:World→Nat→Nat→Nat→T→Prop)(s:ByteArray)(hs:s.size≤8000)(w:World)(rb a:Nat)(hr:RdT 104 w rb s a)(_hrb:rb<w.heap.size)(ha:a≤s.size):
 Calls Tryz.prog 75 #[.pointer (some ⟨rb,0,none⟩)] w fun e w'=>ValPost (NdT R) s rb w (numV T s a) e w':=by
 have HR:=hide' hr
 clear hr
 go_enter Tryz.func75,Tryz.ntmps75
 go_wp2_with fail
 refine (takeJustT_calls 104 w rb s a 48 HR.out hs ha).mono ?_
 rintro e w1 ⟨hsm,⟨h1,rfl,h3⟩ | ⟨h1,rfl,h3⟩⟩
 · have HV:Hid (numV T s a=(some ⟨0,0,[],[]⟩,a+1)):=by
    have:numV T s a=(some ⟨0,0,[],[]⟩,a+1):=by unfold numV;rw[if_pos h1]
    exact this
   have HZ:=hide' hsm.size
   clear h1
   go_wp2_with fail
   go_ret2
   rw[HV.out]
   have hb:=Blk.new w1 #[.int .i64 0,.int .u32 0,.string ⟨#[]⟩,.slice none 0 0] 177
   exact ⟨Blk.alloc h3 _,(hsm.frS).alloc (by rw[HZ.out];omega) _,Or.inr ⟨_,_,rfl,rfl,NdT.leaf R _ _ _ 0 0 [] hb (by rw[HZ.out];omega) (by omega) (by omega) (by simp)⟩⟩
 · have H1:=hide' h1
   clear h1
   go_wp2_with fail
   refine (takeT_calls 104 w1 rb s a 49 57 h3 hs ha).mono ?_
   rintro e w2 ⟨hsm2,⟨h4,rfl,h5⟩ | ⟨h4,rfl,h5⟩⟩
   · have hl:=tkOk_lt h4
     have hb4:=tkOk_bt h4
     have ht:tkOk s a 48 57=true:=decide_eq_true ⟨hl,by omega,by omega⟩
     have HV:Hid (numV T s a=(if 4294967295<(rdNum s s.size 0 a).1 then (none,(rdNum s s.size 0 a).2) else (some ⟨0,(rdNum s s.size 0 a).1,[],[]⟩,(rdNum s s.size 0 a).2))):=by
      have:numV T s a=(if 4294967295<(rdNum s s.size 0 a).1 then (none,(rdNum s s.size 0 a).2) else (some ⟨0,(rdNum s s.size 0 a).1,[],[]⟩,(rdNum s s.size 0 a).2)):=by unfold numV;rw[if_neg (by rw[H1.out];simp),if_pos h4]
      exact this
     have HT:=hide' ht
     have H5:=hide' h5
     have HS2:=hide' (hsm.trans hsm2)
     clear h4 ht h3 h5 hsm hsm2 hb4
     go_wp2_with fail
     go_loopw [4,5,6] (fun v4 v5 v6 wr=>∃ (i nn f:Nat) (ok:Bool),v5=.bool ok∧v6=.int .u64 (nn:Nat)∧nn≤4294967296∧i≤s.size∧s.size≤f+i∧Hid (SameT rb w wr)∧Hid (rdNum s s.size 0 a=rdNum s f nn i)∧Hid (tkOk s i 48 57=ok)∧Hid (RdT 104 wr rb s (i+(if ok=true then 1 else 0)))∧(ok=true→v4=.int .u8 (bt s i))) (fun _ v5 _ wr=>s.size+1+okOf v5-rdPl wr rb)
     case atStart=>exact ⟨a,0,s.size,true,rfl,rfl,by omega,ha,by omega,HS2,rfl,HT,H5,fun _=>rfl⟩
     case round=>
      obtain ⟨i,nn,f,ok,rfl,rfl,hnn,hi,hf,hsw,hq,hto,hrd,hv⟩:=hrel
      have HPl:=hide' (rdPl_at hrd.out)
      cases ok
      · have HN:=hide' (hq.out.trans (rdNum_stop s f nn i hto.out))
        have HZ:=hide' hsw.out.size
        have HRd:Hid (RdT 104 wr rb s i):=hrd.out
        clear hv hq hto
        by_cases hbig:4294967295<nn
        · have hbig':(4294967295:Int)<(nn:Int):=by omega
          have HV2:Hid (numV T s a=(none,i)):=by
           have:numV T s a=(none,i):=by rw[HV.out,HN.out];simp[hbig]
           exact this
          clear hbig HV
          go_wp2_with fail
          go_ret2
          rw[HV2.out]
          exact ⟨HRd.out,hsw.out.frS,Or.inl ⟨rfl,rfl⟩⟩
        · have hbig':¬ (4294967295:Int)<(nn:Int):=by omega
          have HV2:Hid (numV T s a=(some ⟨0,nn,[],[]⟩,i)):=by
           have:numV T s a=(some ⟨0,nn,[],[]⟩,i):=by rw[HV.out,HN.out];simp[hbig]
           exact this
          have hw32:IntKind.u32.wrap (nn:Int)=nn:=by rw[IntKind.wrap_u32];omega
          clear HV
          go_wp2_with fail
          go_ret2
          rw[HV2.out]
          have hb:=Blk.new wr #[.int .i64 0,.int .u32 (nn:Nat),.string ⟨#[]⟩,.slice none 0 0] 177
          exact ⟨Blk.alloc HRd.out _,(hsw.out.frS).alloc (by rw[HZ.out];omega) _,Or.inr ⟨_,_,rfl,rfl,NdT.leaf R _ _ _ 0 nn [] hb (by rw[HZ.out];omega) (by omega) (by omega) (by simp)⟩⟩
      · obtain rfl:=hv rfl
        have hil:=tkOk_lt hto.out
        have hib:=tkOk_bt hto.out
        obtain ⟨d,hd,hd2⟩:∃ d:Nat,d<10∧bt s i=48+d:=⟨(bt s i-48).toNat,by omega,by omega⟩
        obtain ⟨f',rfl⟩:∃ f',f=f'+1:=⟨f-1,by omega⟩
        have HQ:Hid (rdNum s s.size 0 a=rdNum s f' (min (nn*10+d) 4294967296) (i+1)):=by
         have:rdNum s s.size 0 a=rdNum s f' (min (nn*10+d) 4294967296) (i+1):=by
          rw[hq.out,rdNum,if_pos hto.out,show digV s i=d by unfold digV;omega]
         exact this
        have HRd:Hid (RdT 104 wr rb s (i+1)):=hrd.out
        rw[hd2]
        have hw8:IntKind.u8.wrap (48+(d:Int)-48)=d:=by rw[IntKind.wrap_u8];omega
        clear hq hto hrd hv hib hd2
        go_wp2_with fail
        refine (takeT_calls 104 wr rb s (i+1) 48 57 HRd.out hs (by omega)).mono ?_
        have hmin:(min ((nn:Int)*10+(d:Int)) 4294967296)=((min (nn*10+d) 4294967296:Nat):Int):=by omega
        rw[hmin]
        have hm2:min (nn*10+d) 4294967296≤4294967296:=by omega
        generalize min (nn*10+d) 4294967296=nn2 at *
        clear hmin
        rintro e w3 ⟨hsm3,⟨h6,rfl,h7⟩ | ⟨h6,rfl,h7⟩⟩
        · have H6:=hide' h6
          have HPn:=hide' (rdPl_at h7)
          clear h6
          go_wp2_with fail
          go_roundw
          case rel=>exact ⟨i+1,nn2,f',true,rfl,rfl,hm2,by omega,by omega,hsw.out.trans hsm3,HQ,H6,h7,fun _=>rfl⟩
          case measure=>rw[HPl.out,HPn.out];simp[okOf];omega
        · have H6:=hide' h6
          have HPn:=hide' (rdPl_at h7)
          clear h6
          go_wp2_with fail
          go_roundw
          case rel=>exact ⟨i+1,nn2,f',false,rfl,rfl,hm2,by omega,by omega,hsw.out.trans hsm3,HQ,H6,h7,fun e=>by cases e⟩
          case measure=>rw[HPl.out,HPn.out];simp[okOf];omega
   · have HV:Hid (numV T s a=(none,a)):=by
      have:numV T s a=(none,a):=by unfold numV;rw[if_neg (by rw[H1.out];simp),if_neg (by rw[h4];simp)]
      exact this
     clear h4
     go_wp2_with fail
     go_ret2
     rw[HV.out]
     exact ⟨h5,(hsm.trans hsm2).frS,Or.inl ⟨rfl,rfl⟩⟩
theorem Bld.sameT {rb:Nat}{w w':World}{B b:Nat}{l:List UInt8}(h:Bld w B b l)(hs:SameT rb w w')(hr:rb<B):Bld w' B b l:=by
 obtain ⟨v,⟨p,h1,h2,h3,h4⟩,h5⟩:=h
 refine ⟨v,⟨p,h1,Blk.sameT h2 hs (by omega),ownsRow_blocks h3 fun g e=>hs.block g (by have:=(h3.lt g e).1;omega),h4⟩,h5⟩
theorem rdRun_step (s:ByteArray)(f i:Nat)(acc:List UInt8)(hi:i≤s.size)(hf:s.size≤f+i):rdRun s f i acc=
 if tkOk s i 34 34 then (some acc,i+1)
 else if hexV (bt s i)<0 then (none,i)
 else if hexV (bt s (i+1))<0 then (none,i+1)
 else rdRun s (f-1) (i+2) (acc++[UInt8.ofNat (16*hexV (bt s i)+hexV (bt s (i+1))).toNat]):=by
 cases f with
 | zero=>
  have hn:¬ i<s.size:=by omega
  rw[rdRun,if_neg (fun h=>hn (tkOk_lt h)),if_pos (by rw[bt_out s i hn];decide)]
 | succ f=>rw[rdRun];rfl
set_option maxRecDepth 100000 in
set_option maxHeartbeats 1000000 in
theorem vrun_calls {T:Type}(R:World→Nat→Nat→Nat→T→Prop)(s:ByteArray)(hs:s.size≤8000)(w:World)(rb a:Nat)(hr:RdT 104 w rb s a)(hrb:rb<w.heap.size)(ha:a≤s.size):
 Calls Tryz.prog 72 #[.pointer (some ⟨rb,0,none⟩)] w fun e w'=>ValPost (NdT R) s rb w (runO T (rdRun s s.size a [])) e w':=by
 have HR0:=hide' (Blk.alloc hr (.cells #[.pointer none,.slice none 0 0] 163))
 have HB0:Hid (Bld (w.alloc (.cells #[.pointer none,.slice none 0 0] 163)) w.heap.size w.heap.size []):=by
  have:Bld (w.alloc (.cells #[.pointer none,.slice none 0 0] 163)) w.heap.size w.heap.size []:=
   ⟨.slice none 0 0,⟨.pointer none,Or.inl rfl,Blk.new _ _ _,World.ownsRow_nil _ _ _ _,by simp[Value.ownBlock]⟩,Nat.le_refl _⟩
  exact this
 have HF0:=hide' ((Fr.refl w.heap.size rb w).alloc (Nat.le_refl _) (.cells #[.pointer none,.slice none 0 0] 163))
 clear hr
 go_enter Tryz.func72,Tryz.ntmps72
 go_wp2_with fail
 generalize w.alloc (.cells #[.pointer none,.slice none 0 0] 163)=w0 at *
 go_loopw [5] (fun _ wr=>∃ (i f:Nat) (l:List UInt8),i≤s.size∧s.size≤f+i∧l.length≤i∧Hid (RdT 104 wr rb s i)∧Hid (Bld wr w.heap.size w.heap.size l)∧Hid (Fr w.heap.size rb w wr)∧Hid (w.heap.size<wr.heap.size)∧Hid (rdRun s s.size a []=rdRun s f i l)) (fun _ wr=>s.size+1-rdPl wr rb)
 case atStart=>exact ⟨a,s.size,[],ha,by omega,by simp,HR0,HB0,HF0,(by obtain ⟨v,⟨p,_,h2,_⟩,_⟩:=HB0.out;exact h2.lt),rfl⟩
 case round=>
  obtain ⟨i,f,l,hi,hf,hl,hrd,hbd,hfr,hlt,hq⟩:=hrel
  have HPl:=hide' (rdPl_at hrd.out)
  have HSt:=hide' (hq.out.trans (rdRun_step s f i l hi hf))
  clear hq
  go_wp2_with fail
  refine (takeJustT_calls 104 wr rb s i 34 hrd.out hs hi).mono ?_
  rintro e w1 ⟨hsm,⟨h1,rfl,h3⟩ | ⟨h1,rfl,h3⟩⟩
  · have HE:Hid (rdRun s s.size a []=(some l,i+1)):=by
     have:rdRun s s.size a []=(some l,i+1):=by rw[HSt.out,if_pos h1]
     exact this
    have HB1:=hide' (hbd.out.sameT hsm hrb)
    have HF1:=hide' (hfr.out.trans (hsm.fr _))
    have HL1:=hide' (hsm.size)
    have hiL:=tkOk_lt h1
    have hI:Lib.IsBuilderF 163 5 w.heap.size w.heap.size (Lib.byteCells l) w1:=by
     obtain ⟨v,⟨p,a1,a2,a3,a4⟩,a5⟩:=HB1.out
     have h5:Lib.BuilderAtF 163 5 w.heap.size w.heap.size p (Lib.byteCells l) w1:=by
      refine ⟨Nat.le_refl _,v,a2,?_,a4⟩
      have:=World.ownsRowF_of a3
      simpa[Lib.byteCells,byteC] using this
     rcases a1 with rfl | rfl
     · exact Or.inl h5
     · exact Or.inr h5
    have HI:=hide' hI
    have H3:=hide' h3
    clear h1 hI h3 HSt HPl
    go_wp2_with fail
    refine (Tryz.Builder_String_any_k w.heap.size w.heap.size l w1 HI.out (by have:=HL1.out;have:=hlt.out;omega)).mono ?_
    rintro e w2 ⟨rfl,_,hb2,_⟩
    have HF2:Hid (Fr w.heap.size rb w w2):=by
     have:Fr w.heap.size rb w w2:=HF1.out.trans ⟨hb2.os,hb2.tape,hb2.output,hb2.size,fun k hk _=>hb2.block k hk⟩
     exact this
    have HR2:Hid (RdT 104 w2 rb s (i+1)):=by
     have:RdT 104 w2 rb s (i+1):=Blk.below H3.out hb2 hrb
     exact this
    have HZ:=hide' hb2.size
    clear hb2
    go_wp2_with fail
    go_ret2
    rw[HE.out]
    have hb:=Blk.new w2 #[.int .i64 2,.int .u32 0,.string ⟨l.toArray⟩,.slice none 0 0] 177
    have hsz:w.heap.size≤w2.heap.size:=by have:=HZ.out;have:=HL1.out;have:=hlt.out;omega
    exact ⟨Blk.alloc HR2.out _,HF2.out.alloc hsz _,Or.inr ⟨⟨2,0,l,[]⟩,_,rfl,rfl,NdT.leaf R _ _ _ 2 0 l hb hsz (by omega) (by omega) (by omega)⟩⟩
  · have HB1:=hide' (hbd.out.sameT hsm hrb)
    have HF1:=hide' (hfr.out.trans (hsm.fr _))
    have HL1:Hid (w.heap.size<w1.heap.size):=by
     have:w.heap.size<w1.heap.size:=by rw[hsm.size];exact hlt.out
     exact this
    have HN:=hide' h1
    clear h1 hlt hbd hfr
    go_wp2_with fail
    refine (twoT_calls 104 w1 rb s i h3 hs hi).mono ?_
    rintro e w2 ⟨hsm2,⟨g1,g2,g3,rfl,g4⟩ | ⟨g1,⟨x,rfl⟩,g4⟩ | ⟨g1,g2,g3,⟨x,rfl⟩,g4⟩⟩
    · have HE:Hid (rdRun s s.size a []=rdRun s (f-1) (i+2) (l++[UInt8.ofNat (16*hexV (bt s i)+hexV (bt s (i+1))).toNat])):=by
       have:rdRun s s.size a []=rdRun s (f-1) (i+2) (l++[UInt8.ofNat (16*hexV (bt s i)+hexV (bt s (i+1))).toNat]):=by rw[HSt.out,if_neg (by rw[HN.out];simp),if_neg g1,if_neg g2]
       exact this
      have HB2:=hide' (HB1.out.sameT hsm2 hrb)
      have HF2:=hide' (HF1.out.trans (hsm2.fr _))
      have HL2:Hid (w.heap.size<w2.heap.size):=by
       have:w.heap.size<w2.heap.size:=by rw[hsm2.size];exact HL1.out
       exact this
      have HG4:=hide' g4
      clear g1 g2 g4 HSt
      generalize UInt8.ofNat (16*hexV (bt s i)+hexV (bt s (i+1))).toNat=ch at *
      go_wp2_with fail
      refine (writeByte_calls w2 w.heap.size w.heap.size l ch HB2.out (by omega) (Nat.le_of_lt HL2.out)).mono ?_
      rintro e w3 ⟨rfl,hb3,hbd3⟩
      have HR3:Hid (RdT 104 w3 rb s (i+2)):=by
       have:RdT 104 w3 rb s (i+2):=Blk.below HG4.out hb3 hrb
       exact this
      have HF3:Hid (Fr w.heap.size rb w w3):=by
       have:Fr w.heap.size rb w w3:=HF2.out.trans ⟨hb3.os,hb3.tape,hb3.output,hb3.size,fun k hk _=>hb3.block k hk⟩
       exact this
      have HL3:Hid (w.heap.size<w3.heap.size):=by
       have:w.heap.size<w3.heap.size:=Nat.lt_of_lt_of_le HL2.out hb3.size
       exact this
      have HPn:=hide' (rdPl_at HR3.out)
      have HB3:=hide' hbd3
      clear hb3 hbd3
      go_wp2_with fail
      go_roundw
      case rel=>exact ⟨i+2,f-1,l++[ch],by omega,by omega,by simp;omega,HR3,HB3,HF3,HL3,HE⟩
      case measure=>rw[HPl.out,HPn.out];omega
    · have HE:Hid (rdRun s s.size a []=(none,i)):=by
       have:rdRun s s.size a []=(none,i):=by rw[HSt.out,if_neg (by rw[HN.out];simp),if_pos g1]
       exact this
      have HF2:=hide' (HF1.out.trans (hsm2.fr _))
      clear g1 HSt
      go_wp2_with fail
      go_ret2
      rw[HE.out]
      exact ⟨g4,HF2.out,Or.inl ⟨rfl,rfl⟩⟩
    · have HE:Hid (rdRun s s.size a []=(none,i+1)):=by
       have:rdRun s s.size a []=(none,i+1):=by rw[HSt.out,if_neg (by rw[HN.out];simp),if_neg g1,if_pos g2]
       exact this
      have HF2:=hide' (HF1.out.trans (hsm2.fr _))
      clear g1 g2 HSt
      go_wp2_with fail
      go_ret2
      rw[HE.out]
      exact ⟨g4,HF2.out,Or.inl ⟨rfl,rfl⟩⟩
theorem valV_end (s:ByteArray)(n i:Nat)(h:¬ i<s.size):valV s n i=(none,i):=by
 have ht:∀ a b,tkOk s i a b=false:=fun a b=>decide_eq_false (fun e=>h e.1)
 cases n with
 | zero=>rfl
 | succ n=>
  show valX (valV s n) s i=(none,i)
  unfold valX numV
  simp[ht]
theorem rdBetw_step (s:ByteArray)(n:Nat)(cl:Int)(f i:Nat)(acc:List (Tr n))(hi:i≤s.size)(hf:s.size≤f+i):rdBetw (valV s n) s cl f i acc=
 match (valV s n i).1 with
 | none=>(none,(valV s n i).2)
 | some v=>if tkOk s (valV s n i).2 cl cl then (some (acc++[v]),(valV s n i).2+1) else if tkOk s (valV s n i).2 32 32 then rdBetw (valV s n) s cl (f-1) ((valV s n i).2+1) (acc++[v]) else (none,(valV s n i).2):=by
 cases f with
 | zero=>rw[rdBetw,valV_end s n i (by omega)]
 | succ f=>rw[rdBetw];cases (valV s n i).1<;>rfl
structure AtV (s:ByteArray) (n:Nat) (cl:Int) (k rb:Nat) (w:World) (a i f:Nat) (kids:List (Nat × Tr n)) (v:Value) (wr:World):Prop where
 rd:RdT 104 wr rb s i
 blk:Blk wr w.heap.size #[.int .i64 (k:Nat),.int .u32 0,.string ⟨#[]⟩,v] 177
 kid:KidT n wr (w.heap.size+1) v kids
 fr:Fr w.heap.size rb w wr
 hi:i≤s.size
 ai:a≤i
 len:kids.length≤i
 fu:s.size≤f+i
 eq:rdBetw (valV s n) s cl s.size a []=rdBetw (valV s n) s cl f i (kids.map Prod.snd)
theorem Fr.blk {B g:Nat}{w w':World}{b:Nat}{cs:Array Value}{t:TypeId}(h:Blk w b cs t)(hf:Fr B g w w')(h1:b<B)(h2:b≠g):Blk w' b cs t:=by
 unfold Blk at *;rw[hf.block b h1 h2];exact h
set_option maxRecDepth 100000 in
set_option maxHeartbeats 2000000 in
theorem vbetw_calls (s:ByteArray)(hs:s.size≤8000)(n:Nat)(ih:ValC s n)(k:Nat)(hk:k≤4)(cl:Int)(w:World)(rb a:Nat)(hr:RdT 104 w rb s a)(hrb:rb<w.heap.size)(ha:a≤s.size)(hn:s.size<a+n):
 Calls Tryz.prog 73 #[.pointer (some ⟨rb,0,none⟩),.int .i64 (k:Nat),.int .u8 cl] w fun e w'=>ValPost (NdT (RepY n)) s rb w (betwV (valV s n) s k cl a) e w':=by
 obtain ⟨i0,hi0,hz0,hz1,hz2⟩:=info_parts Tryz.infoVal
 have HR0:=hide' (Blk.alloc hr (.cells #[.int .i64 (k:Nat),.int .u32 0,.string ⟨#[]⟩,.slice none 0 0] 177))
 have HB0:=hide' (Blk.new w #[.int .i64 (k:Nat),.int .u32 0,.string ⟨#[]⟩,.slice none 0 0] 177)
 have HF0:=hide' ((Fr.refl w.heap.size rb w).alloc (Nat.le_refl _) (.cells #[.int .i64 (k:Nat),.int .u32 0,.string ⟨#[]⟩,.slice none 0 0] 177))
 have HI:=hide' ih
 clear hr ih
 go_enter Tryz.func73,Tryz.ntmps73
 go_wp2_with fail
 generalize w.alloc (.cells #[.int .i64 (k:Nat),.int .u32 0,.string ⟨#[]⟩,.slice none 0 0] 177)=w0 at *
 refine (takeJustT_calls 104 w0 rb s a cl HR0.out hs ha).mono ?_
 rintro e w1 ⟨hsm,⟨h1,rfl,h3⟩ | ⟨h1,rfl,h3⟩⟩
 · have HV:Hid (betwV (valV s n) s k cl a=(some ⟨k,0,[],[]⟩,a+1)):=by
    have:betwV (valV s n) s k cl a=(some ⟨k,0,[],[]⟩,a+1):=by unfold betwV;rw[if_pos h1]
    exact this
   have HB1:=hide' (Blk.sameT HB0.out hsm (by omega))
   have HF1:=hide' (HF0.out.trans (hsm.fr _))
   clear h1
   go_wp2_with fail
   go_ret2
   rw[HV.out]
   exact ⟨h3,HF1.out,Or.inr ⟨_,_,rfl,rfl,NdT.leaf (RepY n) _ _ _ k 0 [] HB1.out (Nat.le_refl _) hk (by omega) (by simp)⟩⟩
 · have HV:Hid (betwV (valV s n) s k cl a=betwO k (rdBetw (valV s n) s cl s.size a [])):=by
    have:betwV (valV s n) s k cl a=betwO k (rdBetw (valV s n) s cl s.size a []):=by unfold betwV;rw[if_neg (by rw[h1];simp)]
    exact this
   have HA:Hid (AtV s n cl k rb w a a s.size [] (.slice none 0 0) w1):=by
    have:AtV s n cl k rb w a a s.size [] (.slice none 0 0) w1:=⟨h3,Blk.sameT HB0.out hsm (by omega),KidT.nil _ _ _,HF0.out.trans (hsm.fr _),ha,Nat.le_refl _,by simp,by omega,rfl⟩
    exact this
   clear h1 h3 hsm HF0 HB0 HR0
   go_wp2_with fail
   go_loopw [9] (fun _ wr=>∃ (i f:Nat) (kids:List (Nat × Tr n)) (v:Value),Hid (AtV s n cl k rb w a i f kids v wr)) (fun _ wr=>s.size+1-rdPl wr rb)
   case atStart=>exact ⟨a,s.size,[],_,HA⟩
   case round=>
    clear HA
    obtain ⟨i,f,kids,v,hat⟩:=hrel
    have HPl:=hide' (rdPl_at hat.out.rd)
    have HSt:=hide' (hat.out.eq.trans (rdBetw_step s n cl f i (kids.map Prod.snd) hat.out.hi hat.out.fu))
    have hlt:=hat.out.blk.lt
    have hai:=hat.out.ai
    have hlen:=hat.out.len
    have hi:=hat.out.hi
    have hfu:=hat.out.fu
    have HAt:=valV_at s n i hi
    go_wp2_with fail
    refine (HI.out wr rb i hat.out.rd (by omega) hi (by omega)).mono ?_
    rintro e w2 ⟨q1,q2,q3⟩
    have hle:=HAt.le
    rcases q3 with ⟨q3,rfl⟩ | ⟨x,vb,q3,rfl,q4⟩
    · have HE:Hid (betwV (valV s n) s k cl a=(none,(valV s n i).2)):=by
       have:betwV (valV s n) s k cl a=(none,(valV s n i).2):=by rw[HV.out,HSt.out,q3];rfl
       exact this
      have HF:Hid (Fr w.heap.size rb w w2):=by
       have:Fr w.heap.size rb w w2:=hat.out.fr.trans (q2.less (by omega))
       exact this
      have HQ1:=hide' q1
      clear q3 q1 q2 HSt hle HAt
      go_wp2_with fail
      go_ret2
      rw[HE.out]
      exact ⟨HQ1.out,HF.out,Or.inl ⟨rfl,rfl⟩⟩
    · have hlt2:=HAt.lt (by rw[q3];rfl)
      have hkv:∀ g,v.ownBlock=some g→w.heap.size+1≤g∧g<wr.heap.size:=fun g e=>hat.out.kid.row.lt g e
      have hsz2:=q2.size
      have HB2:=hide' (Fr.blk hat.out.blk q2 hlt (by omega))
      have HK2:=hide' (hat.out.kid.keep q2.size fun k k1 k2=>q2.block k k2 (by omega))
      have HF2:Hid (Fr w.heap.size rb w w2):=by
       have:Fr w.heap.size rb w w2:=hat.out.fr.trans (q2.less (by omega))
       exact this
      have HQ1:=hide' q1
      have HQ4:=hide' q4
      have HQ3:=hide' q3
      have c3:w2.cell? ⟨w.heap.size,3,none⟩=some v:=HB2.out.cell 3
      have c3a:∀ o,(w2.alloc o).cell? ⟨w.heap.size,3,none⟩=some v:=fun o=>(Blk.alloc HB2.out o).cell 3
      clear q1 q2 q3 q4
      go_wp2_with
       (at_builtin
        refine wpList_append_lies _ rfl _ _ _ rfl (w.heap.size+1) 55 i0 _ 1 8 Tryz.underlying175 hi0 hz0 hz1 hz2 rfl (by omega) v kids.length (ptrsL (kids.map Prod.fst)) rfl (HK2.out.row.alloc _) ⟨w2.heap.size,0,none⟩ 1 1 [.pointer (some ⟨vb,0,none⟩)] rfl rfl (World.news_of_block (cs:=#[.pointer (some ⟨vb,0,none⟩)]) (t:=55) (fr:=(0,0)) (heap_alloc_new w2 _)) (by simp[Value.oneCell']) (by omega) (by unfold maxLen;omega) (by omega) (by simp;omega) (w2.heap.size+1) (by simp) ?_
        intro g1 cap1 w5 hown5 hgrow hat5 hlt5
        have hne:some w.heap.size≠v.ownBlock:=fun e=>by have:=(hkv _ e.symm).1;omega
        have hb5:=Blk.grown (Blk.alloc HB2.out (.cells #[.pointer (some ⟨vb,0,none⟩)] 55)) hgrow hne
        have c5:w5.cell? ⟨w.heap.size,3,none⟩=some v:=hb5.cell 3
        have f5:w5.frozen? ⟨w.heap.size,3,none⟩=false:=hb5.frozen 3)
      have HG:=hide' hgrow
      have hs5:=hgrow.size
      simp at hs5
      have hvg:∀ g,v.ownBlock=some g→g<wr.heap.size:=fun g e=>(hkv g e).2
      have HKW:Hid (KidT n (w5.setCell ⟨w.heap.size,3,none⟩ (.slice (some ⟨g1,0,none⟩) (kids.length+1) cap1)) (w.heap.size+1) (.slice (some ⟨g1,0,none⟩) (kids.length+1) cap1) (kids++[(vb,x)])):=by
       have:=(KidT.push HK2.out hvg (by omega) hsz2 HQ4.out (.cells #[.pointer (some ⟨vb,0,none⟩)] 55) hown5 hgrow hat5).keep (w':=w5.setCell ⟨w.heap.size,3,none⟩ (.slice (some ⟨g1,0,none⟩) (kids.length+1) cap1)) (by simp[World.setCell]) (fun k k1 k2=>Below.heap_setCell _ _ _ _ (by simp only;omega))
       exact this
      have HBW:=hide' (hb5.set 3 (.slice (some ⟨g1,0,none⟩) (kids.length+1) cap1))
      have keep:∀ q,q<w.heap.size→(w5.setCell ⟨w.heap.size,3,none⟩ (.slice (some ⟨g1,0,none⟩) (kids.length+1) cap1)).heap[q]? = w2.heap[q]? := fun q hq=>by
       rw[Below.heap_setCell _ _ _ _ (by simp only;omega),hgrow.block q (by simp;omega) (fun e=>by have:=(hkv _ e.symm).1;omega),Below.heap_alloc _ _ _ (by omega)]
      have HRW:Hid (RdT 104 (w5.setCell ⟨w.heap.size,3,none⟩ (.slice (some ⟨g1,0,none⟩) (kids.length+1) cap1)) rb s (valV s n i).2):=by
       have:RdT 104 (w5.setCell ⟨w.heap.size,3,none⟩ (.slice (some ⟨g1,0,none⟩) (kids.length+1) cap1)) rb s (valV s n i).2:=by
        have h:=HQ1.out
        unfold RdT Blk at *
        rw[keep rb hrb];exact h
       exact this
      have HFW:Hid (Fr w.heap.size rb w (w5.setCell ⟨w.heap.size,3,none⟩ (.slice (some ⟨g1,0,none⟩) (kids.length+1) cap1))):=by
       have:Fr w.heap.size rb w (w5.setCell ⟨w.heap.size,3,none⟩ (.slice (some ⟨g1,0,none⟩) (kids.length+1) cap1)):=
        ⟨hgrow.os.trans HF2.out.os,hgrow.tape.trans HF2.out.tape,hgrow.output.trans HF2.out.output,by have:=HF2.out.size;simp[World.setCell];omega,fun q q1 q2=>(keep q q1).trans (HF2.out.block q q1 q2)⟩
       exact this
      clear keep hown5 hgrow hb5 c3 c3a c5 f5 HK2 HB2 HF2 HQ1 HQ4 HG hs5 hat5 hlt5
      generalize (w5.setCell ⟨w.heap.size,3,none⟩ (.slice (some ⟨g1,0,none⟩) (kids.length+1) cap1))=W at *
      have HSt2:=hide' HSt.out
      rw[HQ3.out] at HSt2
      clear HSt HQ3 HAt
      generalize (valV s n i).2=i2 at *
      refine (takeJustT_calls 104 W rb s i2 cl HRW.out hs hle).mono ?_
      rintro e w6 ⟨hsm6,⟨y1,rfl,g3⟩ | ⟨y1,rfl,g3⟩⟩
      · have HE:Hid (betwV (valV s n) s k cl a=(some ⟨k,0,[],(kids++[(vb,x)]).map Prod.snd⟩,i2+1)):=by
         have:betwV (valV s n) s k cl a=(some ⟨k,0,[],(kids++[(vb,x)]).map Prod.snd⟩,i2+1):=by
          rw[HV.out,HSt2.out];simp only;rw[if_pos y1];simp[betwO]
         exact this
        have HB6:=hide' (Blk.sameT HBW.out hsm6 (by omega))
        have HK6:=hide' (HKW.out.keep (w':=w6) (by rw[hsm6.size];omega) (fun q q1 q2=>hsm6.block q (by omega)))
        have HF6:=hide' (HFW.out.trans (hsm6.fr _))
        have hi2:=tkOk_lt y1
        clear y1 HSt2
        go_wp2_with fail
        go_ret2
        rw[HE.out]
        exact ⟨g3,HF6.out,Or.inr ⟨_,_,rfl,rfl,KidT.node HK6.out HB6.out (Nat.le_refl _) (by omega) hk (by simp;omega)⟩⟩
      · have HN:=hide' y1
        have HB6:=hide' (Blk.sameT HBW.out hsm6 (by omega))
        have HK6:=hide' (HKW.out.keep (w':=w6) (by rw[hsm6.size];omega) (fun q q1 q2=>hsm6.block q (by omega)))
        have HF6:=hide' (HFW.out.trans (hsm6.fr _))
        clear y1 HBW HKW HFW
        go_wp2_with fail
        refine (takeJustT_calls 104 w6 rb s i2 32 g3 hs hle).mono ?_
        rintro e w7 ⟨hsm7,⟨g4,rfl,g5⟩ | ⟨g4,rfl,g5⟩⟩
        · have hi2:=tkOk_lt g4
          have HA7:Hid (AtV s n cl k rb w a (i2+1) (f-1) (kids++[(vb,x)]) (.slice (some ⟨g1,0,none⟩) (kids.length+1) cap1) w7):=by
           have:AtV s n cl k rb w a (i2+1) (f-1) (kids++[(vb,x)]) _ w7:=
            ⟨g5,Blk.sameT HB6.out hsm7 (by omega),HK6.out.keep (w':=w7) (by rw[hsm7.size];omega) (fun q q1 q2=>hsm7.block q (by omega)),HF6.out.trans (hsm7.fr _),hi2,by omega,by simp;omega,by omega,by
             rw[HSt2.out,if_neg (by rw[HN.out];simp),if_pos g4];simp⟩
           exact this
          have HPn:=hide' (rdPl_at g5)
          clear g4 HSt2
          go_wp2_with fail
          go_roundw
          case rel=>exact ⟨i2+1,f-1,_,_,HA7⟩
          case measure=>rw[HPl.out,HPn.out];omega
        · have HE:Hid (betwV (valV s n) s k cl a=(none,i2)):=by
           have:betwV (valV s n) s k cl a=(none,i2):=by
            rw[HV.out,HSt2.out,if_neg (by rw[HN.out];simp),if_neg (by rw[g4];simp)];rfl
           exact this
          have HF7:=hide' (HF6.out.trans (hsm7.fr _))
          clear g4 HSt2
          go_wp2_with fail
          go_ret2
          rw[HE.out]
          exact ⟨g5,HF7.out,Or.inl ⟨rfl,rfl⟩⟩
end Go.Proofs.YtmlkhhhjdpbhfaaGreatDoor

import Derived.Test.YtmlkhhhjdpbhfaaGreatDoorFo31
import Derived.Test.YtmlkhhhjdpbhfaaGreatDoorFo04
namespace Go.Proofs.YtmlkhhhjdpbhfaaGreatDoor
open Go.RowKit
def szP (deep:Nat):Nat:=200*4 ^ deep
theorem szP_le (deep:Nat)(h:deep≤3):szP deep≤12800:=by
 have:deep=0∨deep=1∨deep=2∨deep=3:=by omega
 rcases this with rfl | rfl | rfl | rfl<;>decide
theorem szP_ge (deep:Nat):200≤szP deep:=by
 have:=Nat.one_le_two_pow (n:=2*deep)
 unfold szP
 rw[show (4:Nat)=2 ^ 2 from rfl,← Nat.pow_mul]
 omega
theorem szP_succ (deep:Nat):szP (deep+1)=4*szP deep:=by unfold szP;rw[Nat.pow_succ];omega
def MPartC (deep:Nat):Prop:=∀ (w:World) (mb:Nat) (v:Value) (l:List Int),Mkr w mb v l→
 Calls Tryz.prog 24 #[.pointer (some ⟨mb,0,none⟩),.int .i64 (deep:Nat)] w fun e w'=>(∃ p,PtC p∧p.size≤szP deep∧e=.returned (.string p))∧MkPost w mb v l w'
def MUserC (deep d:Nat):Prop:=∀ (w:World) (mb:Nat) (v:Value) (l:List Int),Mkr w mb v l→
 Calls Tryz.prog 36 #[.pointer (some ⟨mb,0,none⟩),.int .i64 ((deep:Int)+1),.int .i64 (d:Nat)] w fun e w'=>
  (∃ h p,∃ n:Nat,(∀ u,SeqC u d u n h)∧UseC d n p∧(d<n∧n≤8)∧h.size≤3*(8-d)∧p.size≤2*(8-d)+szP deep∧e=.returned (.tuple #[.string h,.string p,.int .i64 (n:Nat)]))∧MkPost w mb v l w'
theorem hk_cut (k:Nat)(h:k<2):∃ c:UInt8,(c=104∨c=107)∧∃ r:List UInt8,({ data:=#[104,107] }:ByteArray).extract k 2=⟨(c::r).toArray⟩:=by
 have:k=0∨k=1:=by omega
 rcases this with rfl | rfl
 · exact ⟨104,Or.inl rfl,[107],rfl⟩
 · exact ⟨107,Or.inr rfl,[],rfl⟩
theorem headC_size (c:UInt8)(wd dp:ByteArray)(d:Nat)(hw:WdS wd)(hd:DpS d dp):(⟨#[c]⟩++wd++dp:ByteArray).size=3:=by
 simp only[ByteArray.size_append,hw.1,hd.1,size_one]
set_option maxRecDepth 100000 in
set_option maxHeartbeats 4000000 in
theorem user_step (deep d:Nat)(hdeep:deep≤2)(hd:d<8)(hp:MPartC deep)(hu:d<7→MUserC deep (d+1)):MUserC deep d:=by
 intro w mb v l h
 have HM:=hide' h
 have HPa:=hide' hp
 have HU:=hide' hu
 have hsz:=szP_le deep (by omega)
 clear h hp hu
 go_enter Tryz.func36,Tryz.ntmps36
 go_wp2_with fail
 refine (next_calls w mb v l HM.out 2 (by omega) (by omega)).mono ?_
 rintro e w1 ⟨⟨k,hk,rfl⟩,hp1⟩
 have HP1:=hide' hp1
 have hk2:k<2:=by omega
 obtain ⟨c,hc,r,hcut⟩:=hk_cut k hk2
 have HCc:=hide' hc
 clear hp1 hc
 simp only
 go_wp2_with fail
 have hone:(⟨(c::r).toArray⟩:ByteArray).extract 0 1=⟨#[c]⟩:=by
  apply ByteArray.ext
  simp[ByteArray.data_extract]
 have hsz1:1≤(⟨(c::r).toArray⟩:ByteArray).size:=by rw[mk_size];simp
 clear hcut
 refine wp_region_seg (fun _=>True) [([0,1,2,5],3),([4],6),([],7),([],8)] rfl (by kernel_rfl) (fun _ _ d _ _ h=>by cases d<;>exact h) trivial ?_
 simp only[wpSeg,List.filterMap_cons,List.filterMap_nil,List.getElem?_toArray,List.getElem?_cons_zero,List.getElem?_cons_succ]
 refine wpX_step _ rfl (fun W hW=>rfl) ?_
 refine wpX_step (.string ⟨#[c]⟩) rfl (fun W hW=>?_) ?_
 · go_simp
   exact fun h=>absurd h (by omega)
 refine wpX_step _ rfl (fun W hW=>rfl) ?_
 refine wpX_step _ rfl (fun W hW=>rfl) ?_
 refine wpX_nil ⟨_,rfl,rfl,?_⟩
 unfold Oper.wp
 go_simp
 refine (kwidth_calls _ mb v l (HP1.out.drew 1).1).mono ?_
 rintro e w2 ⟨⟨wd,hwd,rfl⟩,hp2⟩
 have HP2:=hide' ((HP1.out.drew 1).trans hp2)
 have HW:=hide' hwd
 have hws:wd.size=1:=hwd.1
 clear hp2 hwd HP1
 refine wpX_step (.string (⟨#[c]⟩++wd)) rfl (fun W hW=>by go_simp) ?_
 refine wpX_nil ⟨_,rfl,rfl,?_⟩
 unfold Oper.wp
 go_simp
 refine (dep_calls d hd _).mono ?_
 rintro e w3 ⟨⟨dp,hdp,rfl⟩,hw3⟩
 subst hw3
 have HD:=hide' hdp
 have hds:dp.size=1:=hdp.1
 clear hdp
 refine wpX_nil ⟨_,rfl,rfl,?_⟩
 unfold Oper.wp
 go_simp
 refine wpX_nil ⟨_,rfl,rfl,?_⟩
 unfold Oper.wp
 go_simp
 have HH:=hide' (headC c HCc.out wd dp d HW.out HD.out)
 have hhs:=headC_size c wd dp d HW.out HD.out
 clear HCc hws hds HD HW hone hsz1
 generalize (⟨#[c]⟩++wd++dp:ByteArray)=hd0 at *
 go_wp2_with fail
 refine (next_calls _ mb v l HP2.out.1 5 (by omega) (by omega)).mono ?_
 rintro e w4 ⟨⟨k5,hk5,rfl⟩,hp4⟩
 have HP4:=hide' (HP2.out.trans hp4)
 have HDp:=hide' (dep_calls d hd)
 have HNx:=hide' (next_calls)
 clear hp4 HP2
 have h5:k5=0∨k5=1∨k5=2∨k5=3∨k5=4:=by omega
 have hsum:(deep:Int)+1-1=deep:=by omega
 clear hk5
 rcases h5 with rfl | rfl | rfl | rfl | rfl
 · go_wp2_with fail
   refine (HDp.out _).mono ?_
   rintro e w5 ⟨⟨dp2,hdp2,rfl⟩,hw5⟩
   subst hw5
   have HD2:=hide' hdp2
   have hds2:dp2.size=1:=hdp2.1
   clear hdp2
   go_wp2_with fail
   go_ret3
   exact ⟨⟨hd0,_,d+1,HH.out,useC_run dp2 d HD2.out,by omega,by omega,by simp only[ByteArray.size_append,size_one];omega,by simp⟩,HP4.out⟩
 · go_wp2_with fail
   refine (HDp.out _).mono ?_
   rintro e w5 ⟨⟨dp2,hdp2,rfl⟩,hw5⟩
   subst hw5
   have HD2:=hide' hdp2
   have hds2:dp2.size=1:=hdp2.1
   clear hdp2
   go_wp2_with fail
   refine (HPa.out _ mb v l HP4.out.1).mono ?_
   rintro e w6 ⟨⟨p,hp,hps,rfl⟩,hp7⟩
   have HP7:=hide' (HP4.out.trans hp7)
   have HPp:=hide' hp
   clear hp7 hp
   go_wp2_with fail
   go_ret3
   exact ⟨⟨hd0,_,d+1,HH.out,useC_part 116 (by simp) dp2 p d HD2.out HPp.out,by omega,by omega,by simp only[ByteArray.size_append,size_one];omega,by simp⟩,HP7.out⟩
 · go_wp2_with fail
   refine (HNx.out w4 mb v l HP4.out.1 2 (by omega) (by omega)).mono ?_
   rintro e w5 ⟨⟨j,hj,rfl⟩,hp5⟩
   have HP5:=hide' (HP4.out.trans hp5)
   clear hp5
   have h3:(j=1∧(d:Int)<7)∨j=0∨(j=1∧¬ (d:Int)<7):=by omega
   clear hj
   rcases h3 with ⟨rfl,hd7⟩ | h4
   · have hcall:=HU.out (by omega) w5 mb v l HP5.out.1
     rw[show ((d+1:Nat):Int)=(d:Int)+1 by omega] at hcall
     go_wp2_with fail
     refine hcall.mono ?_
     rintro e w6 ⟨⟨h2,p2,n2,s2,u2,hn2,hh2,hp2s,rfl⟩,hp6⟩
     have HP6:=hide' (HP5.out.trans hp6)
     have HS2:=hide' s2
     have HU2:=hide' u2
     clear hp6 s2 u2 hcall
     go_wp2_with fail
     refine (HDp.out _).mono ?_
     rintro e w7 ⟨⟨dp2,hdp2,rfl⟩,hw7⟩
     subst hw7
     have HD2:=hide' hdp2
     have hds2:dp2.size=1:=hdp2.1
     clear hdp2
     go_wp2_with fail
     go_ret3
     exact ⟨⟨hd0++h2,_,n2,fun u=>(HH.out u).app (HS2.out u),useC_more 119 (by simp) dp2 p2 d n2 HD2.out (by omega) HU2.out,by omega,by simp only[ByteArray.size_append];omega,by simp only[ByteArray.size_append,size_one];omega,rfl⟩,HP6.out⟩
   · rcases h4 with rfl | ⟨rfl,hd7⟩
     all_goals
      go_wp2_with fail
      refine (HDp.out _).mono ?_
      rintro e w6 ⟨⟨dp2,hdp2,rfl⟩,hw6⟩
      subst hw6
      have HD2:=hide' hdp2
      have hds2:dp2.size=1:=hdp2.1
      clear hdp2
      go_wp2_with fail
      refine (HPa.out _ mb v l HP5.out.1).mono ?_
      rintro e w7 ⟨⟨p,hp,hps,rfl⟩,hp7⟩
      have HP7:=hide' (HP5.out.trans hp7)
      have HPp:=hide' hp
      clear hp7 hp
      go_wp2_with fail
      go_ret3
      exact ⟨⟨hd0,_,d+1,HH.out,useC_part 119 (by simp) dp2 p d HD2.out HPp.out,by omega,by omega,by simp only[ByteArray.size_append,size_one];omega,by simp⟩,HP7.out⟩
 · go_wp2_with fail
   refine (HDp.out _).mono ?_
   rintro e w5 ⟨⟨dp2,hdp2,rfl⟩,hw5⟩
   subst hw5
   have HD2:=hide' hdp2
   have hds2:dp2.size=1:=hdp2.1
   clear hdp2
   go_wp2_with fail
   refine (HPa.out _ mb v l HP4.out.1).mono ?_
   rintro e w6 ⟨⟨p,hp,hps,rfl⟩,hp7⟩
   have HP7:=hide' (HP4.out.trans hp7)
   have HPp:=hide' hp
   clear hp7 hp
   go_wp2_with fail
   go_ret3
   exact ⟨⟨hd0,_,d+1,HH.out,useC_part 64 (by simp) dp2 p d HD2.out HPp.out,by omega,by omega,by simp only[ByteArray.size_append,size_one];omega,by simp⟩,HP7.out⟩
 · go_wp2_with fail
   refine (HNx.out w4 mb v l HP4.out.1 2 (by omega) (by omega)).mono ?_
   rintro e w5 ⟨⟨j,hj,rfl⟩,hp5⟩
   have HP5:=hide' (HP4.out.trans hp5)
   clear hp5
   have h3:(j=1∧(d:Int)<7)∨j=0∨(j=1∧¬ (d:Int)<7):=by omega
   clear hj
   rcases h3 with ⟨rfl,hd7⟩ | h4
   · have hcall:=HU.out (by omega) w5 mb v l HP5.out.1
     rw[show ((d+1:Nat):Int)=(d:Int)+1 by omega] at hcall
     go_wp2_with fail
     refine hcall.mono ?_
     rintro e w6 ⟨⟨h2,p2,n2,s2,u2,hn2,hh2,hp2s,rfl⟩,hp6⟩
     have HP6:=hide' (HP5.out.trans hp6)
     have HS2:=hide' s2
     have HU2:=hide' u2
     clear hp6 s2 u2 hcall
     go_wp2_with fail
     refine (HDp.out _).mono ?_
     rintro e w7 ⟨⟨dp2,hdp2,rfl⟩,hw7⟩
     subst hw7
     have HD2:=hide' hdp2
     have hds2:dp2.size=1:=hdp2.1
     clear hdp2
     go_wp2_with fail
     go_ret3
     exact ⟨⟨hd0++h2,_,n2,fun u=>(HH.out u).app (HS2.out u),useC_more 115 (by simp) dp2 p2 d n2 HD2.out (by omega) HU2.out,by omega,by simp only[ByteArray.size_append];omega,by simp only[ByteArray.size_append,size_one];omega,rfl⟩,HP6.out⟩
   · rcases h4 with rfl | ⟨rfl,hd7⟩
     all_goals
      go_wp2_with fail
      refine (HDp.out _).mono ?_
      rintro e w6 ⟨⟨dp2,hdp2,rfl⟩,hw6⟩
      subst hw6
      have HD2:=hide' hdp2
      have hds2:dp2.size=1:=hdp2.1
      clear hdp2
      go_wp2_with fail
      refine (HPa.out _ mb v l HP5.out.1).mono ?_
      rintro e w7 ⟨⟨p,hp,hps,rfl⟩,hp7⟩
      have HP7:=hide' (HP5.out.trans hp7)
      have HPp:=hide' hp
      clear hp7 hp
      go_wp2_with fail
      go_ret3
      exact ⟨⟨hd0,_,d+1,HH.out,useC_part 115 (by simp) dp2 p d HD2.out HPp.out,by omega,by omega,by simp only[ByteArray.size_append,size_one];omega,by simp⟩,HP7.out⟩
theorem muser_calls (deep:Nat)(hdeep:deep≤2)(hp:MPartC deep):∀ k d,d+k=7→MUserC deep d:=by
 intro k
 induction k with
 | zero=>intro d h;exact user_step deep d hdeep (by omega) hp (fun h7=>by omega)
 | succ k ih=>intro d h;exact user_step deep d hdeep (by omega) hp (fun _=>ih (d+1) (by omega))
theorem bc_cut (k:Nat)(h:k<2):∃ c:UInt8,(c=66∨c=67)∧∃ r:List UInt8,({ data:=#[66,67] }:ByteArray).extract k 2=⟨(c::r).toArray⟩:=by
 have:k=0∨k=1:=by omega
 rcases this with rfl | rfl
 · exact ⟨66,Or.inl rfl,[67],rfl⟩
 · exact ⟨67,Or.inr rfl,[],rfl⟩
theorem PtC.pos {p:ByteArray}(h:PtC p):0<p.size:=h.2.1
theorem UseC.pos {p:ByteArray}{u n:Nat}(h:UseC u n p):0<p.size:=h.2.1
set_option maxRecDepth 100000 in
set_option maxHeartbeats 4000000 in
theorem mpart_zero:MPartC 0:=by
 intro w mb v l h
 have HM:=hide' h
 have hsz:=szP_ge 0
 clear h
 go_enter Tryz.func24,Tryz.ntmps24
 go_wp2_with fail
 refine (next_calls w mb v l HM.out 12 (by omega) (by omega)).mono ?_
 rintro e w1 ⟨⟨k,hk,rfl⟩,hp1⟩
 have HP1:=hide' hp1
 clear hp1 hk
 obtain ⟨q,hq,hm⟩:∃ q:Nat,q<3∧(k:Int).tmod 3=q:=⟨k % 3,by omega,by rw[Int.tmod_eq_emod_of_nonneg (by omega)];omega⟩
 have h3:q=0∨q=1∨q=2:=by omega
 clear hq
 rcases h3 with rfl | rfl | rfl
 · go_wp2_with fail
   refine (kwidth_calls _ mb v l HP1.out.1).mono ?_
   rintro e w2 ⟨⟨wd,hwd,rfl⟩,hp2⟩
   have HP2:=hide' (HP1.out.trans hp2)
   have HW:=hide' hwd
   have hws:wd.size=1:=hwd.1
   clear hp2 hwd
   go_wp2_with fail
   go_ret
   exact ⟨⟨_,partC_num 110 (by simp) wd HW.out,by simp only[ByteArray.size_append,size_one];omega,rfl⟩,HP2.out⟩
 · go_wp2_with fail
   refine (kwidth_calls _ mb v l HP1.out.1).mono ?_
   rintro e w2 ⟨⟨wd,hwd,rfl⟩,hp2⟩
   have HP2:=hide' (HP1.out.trans hp2)
   have HW:=hide' hwd
   have hws:wd.size=1:=hwd.1
   clear hp2 hwd
   go_wp2_with fail
   go_ret
   exact ⟨⟨_,partC_num 108 (by simp) wd HW.out,by simp only[ByteArray.size_append,size_one];omega,rfl⟩,HP2.out⟩
 · go_wp2_with fail
   refine (next_calls _ mb v l HP1.out.1 256 (by omega) (by omega)).mono ?_
   rintro e w2 ⟨⟨b,hb,rfl⟩,hp2⟩
   have HP2:=hide' (HP1.out.trans hp2)
   have hb2:b<256:=by omega
   clear hp2 hb
   go_wp2_with fail
   refine (khex_calls b hb2 _).mono ?_
   rintro e w3 ⟨⟨hx,hhx,rfl⟩,m,rfl⟩
   have HX:=hide' hhx
   have hxs:hx.size=2:=hhx.1
   clear hhx
   go_wp2_with fail
   go_ret
   exact ⟨⟨_,partC_fix hx HX.out,by simp only[ByteArray.size_append,size_one];omega,rfl⟩,HP2.out.drew _⟩
set_option maxRecDepth 100000 in
set_option maxHeartbeats 4000000 in
theorem mpart_succ (deep:Nat)(hdeep:deep≤2)(hp:MPartC deep):MPartC (deep+1):=by
 intro w mb v l h
 have HM:=hide' h
 have HPa:=hide' hp
 have HU:=hide' (fun d (hd:d<8)=>muser_calls deep hdeep hp (7-d) d (by omega))
 have hsz:=szP_le deep (by omega)
 have hsg:=szP_ge deep
 have hss:=szP_succ deep
 have hcast:((deep+1:Nat):Int)=(deep:Int)+1:=by omega
 have hsum:(deep:Int)+1-1=deep:=by omega
 have hpos:¬ ((deep:Int)+1≤0):=by omega
 rw[hcast]
 clear h hp hcast
 go_enter Tryz.func24,Tryz.ntmps24
 go_wp2_with fail
 refine (next_calls w mb v l HM.out 12 (by omega) (by omega)).mono ?_
 rintro e w1 ⟨⟨k,hk,rfl⟩,hp1⟩
 have HP1:=hide' hp1
 clear hp1
 have h8:k=0∨k=1∨k=2∨k=3∨k=4∨k=5∨k=6∨7≤k:=by omega
 rcases h8 with rfl | rfl | rfl | rfl | rfl | rfl | rfl | h7
 · go_wp2_with fail
   refine (kwidth_calls _ mb v l HP1.out.1).mono ?_
   rintro e w2 ⟨⟨wd,hwd,rfl⟩,hp2⟩
   have HP2:=hide' (HP1.out.trans hp2)
   have HW:=hide' hwd
   have hws:wd.size=1:=hwd.1
   clear hp2 hwd
   go_wp2_with fail
   go_ret
   exact ⟨⟨_,partC_num 110 (by simp) wd HW.out,by simp only[ByteArray.size_append,size_one];omega,rfl⟩,HP2.out⟩
 · go_wp2_with fail
   refine (kwidth_calls _ mb v l HP1.out.1).mono ?_
   rintro e w2 ⟨⟨wd,hwd,rfl⟩,hp2⟩
   have HP2:=hide' (HP1.out.trans hp2)
   have HW:=hide' hwd
   have hws:wd.size=1:=hwd.1
   clear hp2 hwd
   go_wp2_with fail
   go_ret
   exact ⟨⟨_,partC_num 108 (by simp) wd HW.out,by simp only[ByteArray.size_append,size_one];omega,rfl⟩,HP2.out⟩
 · go_wp2_with fail
   refine (next_calls _ mb v l HP1.out.1 256 (by omega) (by omega)).mono ?_
   rintro e w2 ⟨⟨b,hb,rfl⟩,hp2⟩
   have HP2:=hide' (HP1.out.trans hp2)
   have hb2:b<256:=by omega
   clear hp2 hb
   go_wp2_with fail
   refine (khex_calls b hb2 _).mono ?_
   rintro e w3 ⟨⟨hx,hhx,rfl⟩,m,rfl⟩
   have HX:=hide' hhx
   have hxs:hx.size=2:=hhx.1
   clear hhx
   go_wp2_with fail
   go_ret
   exact ⟨⟨_,partC_fix hx HX.out,by simp only[ByteArray.size_append,size_one];omega,rfl⟩,HP2.out.drew _⟩
 · go_wp2_with fail
   go_ret
   exact ⟨⟨_,partC_rest,by rw[size_one];omega,rfl⟩,HP1.out⟩
 · go_wp2_with fail
   refine (HPa.out _ mb v l HP1.out.1).mono ?_
   rintro e w2 ⟨⟨p,hp,hps,rfl⟩,hq1⟩
   have HQ1:=hide' (HP1.out.trans hq1)
   have Hp:=hide' hp
   clear hq1 hp
   go_wp2_with fail
   refine (HPa.out _ mb v l HQ1.out.1).mono ?_
   rintro e w3 ⟨⟨q,hq,hqs,rfl⟩,hq2⟩
   have HQ2:=hide' (HQ1.out.trans hq2)
   have Hq:=hide' hq
   clear hq2 hq
   go_wp2_with fail
   go_ret
   exact ⟨⟨_,partC_choice p q Hp.out Hq.out,by simp only[ByteArray.size_append,size_one];omega,rfl⟩,HQ2.out⟩
 · go_wp2_with fail
   refine (HPa.out _ mb v l HP1.out.1).mono ?_
   rintro e w2 ⟨⟨p,hp,hps,rfl⟩,hq1⟩
   have HQ1:=hide' (HP1.out.trans hq1)
   have Hp:=hide' hp
   clear hq1 hp
   go_wp2_with fail
   go_ret
   exact ⟨⟨_,partC_many p Hp.out,by simp only[ByteArray.size_append,size_one];omega,rfl⟩,HQ1.out⟩
 · go_wp2_with fail
   refine (next_calls _ mb v l HP1.out.1 2 (by omega) (by omega)).mono ?_
   rintro e w2 ⟨⟨b,hb,rfl⟩,hp2⟩
   have HP2:=hide' (HP1.out.trans hp2)
   have hb2:b<2:=by omega
   clear hp2 hb
   obtain ⟨c,hc,r,hcut⟩:=bc_cut b hb2
   have HC:=hide' hc
   have hone:(⟨(c::r).toArray⟩:ByteArray).extract 0 1=⟨#[c]⟩:=by
    apply ByteArray.ext
    simp[ByteArray.data_extract]
   have hsz1:1≤(⟨(c::r).toArray⟩:ByteArray).size:=by rw[mk_size];simp
   clear hc
   go_wp2_with fail
   go_ret
   exact ⟨⟨_,partC_rule c HC.out,by rw[size_one];omega,rfl⟩,HP2.out⟩
 · have e0:¬ (k:Int)=0:=by omega
   have e1:¬ (k:Int)=1:=by omega
   have e2:¬ (k:Int)=2:=by omega
   have e3:¬ (k:Int)=3:=by omega
   have e4:¬ (k:Int)=4:=by omega
   have e5:¬ (k:Int)=5:=by omega
   have e6:¬ (k:Int)=6:=by omega
   clear hk h7
   go_wp2_with fail
   refine (next_calls _ mb v l HP1.out.1 3 (by omega) (by omega)).mono ?_
   rintro e w2 ⟨⟨n,hn,rfl⟩,hp2⟩
   have HP2:=hide' (HP1.out.trans hp2)
   clear hp2 HP1 e0 e1 e2 e3 e4 e5 e6
   go_wp2_with fail
   generalize hB:szP deep+40=B at *
   go_loopw [7,8,9] (fun vs vd vn wr=>∃ (s:ByteArray) (d n X:Nat),vs=.string s∧vd=.int .i64 (d:Nat)∧vn=.int .i64 (n:Nat)∧n≤3∧d≤8∧X=n*B∧s.size+X≤3*B∧(0<n∨0<s.size)∧Hid (SeqC 0 0 d d s)∧Hid (MkPost w mb v l wr)) (fun _ _ vn _=>(intOf vn).toNat)
   case atStart=>
    refine ⟨⟨#[]⟩,0,1+n,(1+n)*B,rfl,by go_num,by go_num,by omega,by omega,rfl,?_,by omega,SeqC.nil 0 0,HP2⟩
    have:(1+n)*B≤3*B:=Nat.mul_le_mul_right _ (by omega)
    have:(⟨#[]⟩:ByteArray).size=0:=rfl
    omega
   case round=>
    obtain ⟨s,d,n,X,rfl,rfl,rfl,hn3,hd8,hX,hsX,hor,hseq,hpo⟩:=hrel
    have hs0:s.size≤1000000:=by omega
    by_cases h0:n=0
    · have hpos0:0<s.size:=by omega
      have hnp:¬ (0:Int)<(n:Int):=by omega
      clear hX hor h0
      go_wp2_with fail
      go_ret
      exact ⟨⟨_,partC_struct s d hseq.out hpos0,by simp only[ByteArray.size_append,size_one];omega,rfl⟩,hpo.out⟩
    · obtain ⟨m,rfl⟩:∃ m,n=m+1:=⟨n-1,by omega⟩
      have hnp:(0:Int)<(m:Int)+1:=by omega
      have hX2:X=m*B+B:=by rw[hX,Nat.succ_mul]
      have hcast:((m+1:Nat):Int)=(m:Int)+1:=by omega
      rw[hcast]
      clear hX hor h0 hcast
      go_wp2_with fail
      refine (next_calls _ mb v l hpo.out.1 2 (by omega) (by omega)).mono ?_
      rintro e w3 ⟨⟨j,hj,rfl⟩,hp3⟩
      have HP3:=hide' (hpo.out.trans hp3)
      clear hp3
      have h3:(j=1∧(d:Int)<6)∨j=0∨(j=1∧¬ (d:Int)<6):=by omega
      clear hj
      rcases h3 with ⟨rfl,hd6⟩ | h4
      · go_wp2_with fail
        refine (HU.out d (by omega) w3 mb v l HP3.out.1).mono ?_
        rintro e w4 ⟨⟨h2,p2,n2,s2,u2,hn2,hh2,hp2s,rfl⟩,hp4⟩
        have HP4:=hide' (HP3.out.trans hp4)
        have HS:=hide' ((hseq.out.app (s2 d)).app u2.seq)
        have hpp:=u2.pos
        clear hp4 s2 u2
        go_wp2_with fail
        go_roundw
        case rel=>
         exact ⟨s++h2++p2,n2,m,m*B,rfl,rfl,by go_num,by omega,by omega,rfl,by simp only[ByteArray.size_append];omega,Or.inr (by simp only[ByteArray.size_append];omega),HS,HP4⟩
        case measure=>simp[intOf]
      · rcases h4 with rfl | ⟨rfl,hd6⟩
        all_goals
         go_wp2_with fail
         refine (HPa.out w3 mb v l HP3.out.1).mono ?_
         rintro e w4 ⟨⟨p,hp,hps,rfl⟩,hp4⟩
         have HP4:=hide' (HP3.out.trans hp4)
         have HS:=hide' (hseq.out.app (hp.seq d d))
         have hpp:=hp.pos
         clear hp4 hp
         go_wp2_with fail
         go_roundw
         case rel=>
          exact ⟨s++p,d,m,m*B,rfl,rfl,by go_num,by omega,by omega,rfl,by simp only[ByteArray.size_append];omega,Or.inr (by simp only[ByteArray.size_append];omega),HS,HP4⟩
         case measure=>simp[intOf]
theorem mpart_calls (deep:Nat)(h:deep≤3):MPartC deep:=by
 induction deep with
 | zero=>exact mpart_zero
 | succ n ih=>exact mpart_succ n (by omega) (ih (by omega))
set_option maxRecDepth 100000 in
set_option maxHeartbeats 1000000 in
theorem grammar_calls (w:World)(v:Value)(l:List Int)(h:RowN w w.heap.size v l):
 Calls Tryz.prog 11 #[v] w fun e w'=>(∃ p1 p2 p3,PtC p1∧PtC p2∧PtC p3∧((400<(madeG p1 p2 p3).size∧e=.returned (.string ⟨#[65,61,110,49]⟩))∨((madeG p1 p2 p3).size≤400∧e=.returned (.string (madeG p1 p2 p3)))))∧Below w.heap.size w w':=by
 have HR:=hide' h
 obtain ⟨_,_,o,cap,rfl,_⟩:=h
 have HM:Hid (Mkr (w.alloc (.cells #[.slice o l.length cap,.int .i64 0] 49)) w.heap.size (.slice o l.length cap) l):=by
  have:Mkr (w.alloc (.cells #[.slice o l.length cap,.int .i64 0] 49)) w.heap.size (.slice o l.length cap) l:=⟨⟨0,Nat.zero_le _,Blk.new _ _ _⟩,HR.out.heap fun k hk=>Below.heap_alloc _ _ _ hk⟩
  exact this
 have HF:Hid (∀ w',MkPost (w.alloc (.cells #[.slice o l.length cap,.int .i64 0] 49)) w.heap.size (.slice o l.length cap) l w'→Below w.heap.size w w'):=by
  have:∀ w',MkPost (w.alloc (.cells #[.slice o l.length cap,.int .i64 0] 49)) w.heap.size (.slice o l.length cap) l w'→Below w.heap.size w w':=fun w' hp=>
   ⟨hp.2.os,hp.2.tape,hp.2.output,by have:=hp.2.size;simp at this;omega,fun k hk=>(hp.2.block k (by simp;omega) (by omega)).trans (Below.heap_alloc _ _ _ hk)⟩
  exact this
 have hp3:=szP_le 3 (by omega)
 have hp2:=szP_le 2 (by omega)
 have hp1:=szP_le 1 (by omega)
 go_enter Tryz.func11,Tryz.ntmps11
 go_wp2_with fail
 generalize w.alloc (.cells #[.slice o l.length cap,.int .i64 0] 49)=w0 at *
 refine (mpart_calls 3 (by omega) w0 _ _ l HM.out).mono ?_
 rintro e w1 ⟨⟨q1,hq1,hs1,rfl⟩,hm1⟩
 have HQ1:=hide' hq1
 have HM1:=hide' hm1
 clear hq1 hm1
 go_wp2_with fail
 refine (mpart_calls 2 (by omega) w1 _ _ l HM1.out.1).mono ?_
 rintro e w2 ⟨⟨q2,hq2,hs2,rfl⟩,hm2⟩
 have HQ2:=hide' hq2
 have HM2:=hide' (HM1.out.trans hm2)
 clear hq2 hm2
 go_wp2_with fail
 refine (mpart_calls 1 (by omega) w2 _ _ l HM2.out.1).mono ?_
 rintro e w3 ⟨⟨q3,hq3,hs3,rfl⟩,hm3⟩
 have HQ3:=hide' hq3
 have HM3:=hide' (HM2.out.trans hm3)
 clear hq3 hm3
 have hmade:(⟨#[65,61]⟩++q1++⟨#[59,66,61]⟩++q2++⟨#[59,67,61]⟩++q3:ByteArray)=madeG q1 q2 q3:=rfl
 have hsz:(madeG q1 q2 q3).size≤100000:=by
  unfold madeG ruleA ruleB ruleC
  simp only[ByteArray.size_append]
  have a1:(⟨#[65,61]⟩:ByteArray).size=2:=rfl
  have a2:(⟨#[59,66,61]⟩:ByteArray).size=3:=rfl
  have a3:(⟨#[59,67,61]⟩:ByteArray).size=3:=rfl
  omega
 go_wp2_with fail
 · go_ret
   exact ⟨⟨q1,q2,q3,HQ1.out,HQ2.out,HQ3.out,Or.inl ⟨by omega,rfl⟩⟩,HF.out _ HM3.out⟩
 · go_ret
   exact ⟨⟨q1,q2,q3,HQ1.out,HQ2.out,HQ3.out,Or.inr ⟨by omega,rfl⟩⟩,HF.out _ HM3.out⟩
def bytC (l:List UInt8):List Value:=l.map fun c=>.int .u8 c.toNat
set_option maxRecDepth 100000 in
theorem conv_own {w:World}{B:Nat}{v:Value}{l:List UInt8}(h:w.ownsRow B 5 1 v l.length (bytC l)):(convert 40 9 v).run Tryz.prog w=.ok (.string ⟨l.toArray⟩) w:=by
 rcases h.2 with ⟨rfl,h0⟩ | ⟨g,cap,cur,rfl,hb,hg,hn,hm,hs,ht⟩
 · obtain rfl:=List.eq_nil_of_length_eq_zero h0
   rw[run_convert_bytes_string w 40 9 5 none 0 0 Tryz.underlying40 Tryz.underlying5 Tryz.underlying9]
   rfl
 · refine run_convert_bytes_back w 40 9 5 ⟨g,0,none⟩ cap l Tryz.underlying40 Tryz.underlying5 Tryz.underlying9 fun j hj=>?_
   have:=h.cellAt j (by omega)
   rw[show Addr.add ⟨g,0,none⟩ j=⟨g,j,none⟩ by unfold Addr.add;split<;>simp_all,this]
   simp[bytC,hj]
theorem Tryz.infoBy:(Tryz.prog.info? 5).map (fun i=>(i.zero,i.size,i.bytes))=some (some (.int .u8 0),1,1):=by kernel_rfl
set_option maxRecDepth 100000 in
set_option maxHeartbeats 1000000 in
theorem kbytes_calls (w:World)(v:Value)(l:List Int)(h:RowN w w.heap.size v l):
 Calls Tryz.prog 12 #[v] w fun e w'=>(∃ b:ByteArray,b.size≤200∧e=.returned (.string b))∧Below w.heap.size w w':=by
 obtain ⟨i0,hi0,hz0,hz1,hz2⟩:=info_parts Tryz.infoBy
 have HR:=hide' h
 obtain ⟨hr,hll,o,cap,rfl,hc⟩:=h
 have HC:=hide' hc
 have HRg:=hide' hr
 clear hc hr
 go_enter Tryz.func12,Tryz.ntmps12
 go_wp2_with fail
 go_loopw [3,4] (fun v3 v4 wr=>∃ (acc:List UInt8) (vv:Value),v4=.int .i64 (acc.length:Nat)∧vv=v3∧acc.length≤l.length∧acc.length≤200∧Hid (wr.ownsRow w.heap.size 5 1 vv acc.length (bytC acc))∧Hid (Below w.heap.size w wr)) (fun _ vi _=>200-(intOf vi).toNat)
 case atStart=>exact ⟨[],_,by go_num,rfl,by simp,by simp,World.ownsRow_nil _ _ _ _,Below.refl _ _⟩
 case round=>
  obtain ⟨acc,vv,rfl,rfl,h1,h2,hown,hbel⟩:=hrel
  by_cases hlt:acc.length<l.length∧acc.length<200
  · obtain ⟨ha,hb⟩:=hlt
    obtain ⟨g,k,rfl,hg,hcell⟩:=HC.out acc.length ha
    have hx:=HRg.out _ (List.getElem_mem ha)
    have hx1:=hide' hx.1
    have hx2:=hide' hx.2
    have hcr:wr.cell? ⟨g,k+acc.length,none⟩=some (.int .i64 l[acc.length]):=by rw[World.cell?_of_block (w:=w) (hbel.out.block g hg)];exact hcell
    have ha':(acc.length:Int)<(l.length:Int):=by omega
    have hb':(acc.length:Int)<200:=by omega
    have hsz:=hbel.out.size
    clear hcell hx
    generalize l[acc.length]=xv at *
    go_wp2_with fail
    refine (pickN_calls xv 256 hx1.out hx2.out (by omega) (by omega) _).mono ?_
    rintro e w2 ⟨kk,hkk,rfl,hw2⟩
    rw[hw2]
    clear hw2
    have hwr:IntKind.u8.wrap (kk:Int)=kk:=by rw[IntKind.wrap_u8];omega
    have hu:((UInt8.ofNat kk).toNat:Int)=kk:=by simp;omega
    go_wp2_with
     (at_builtin
      refine wpList_append_lies _ rfl _ _ _ rfl w.heap.size 5 i0 _ 1 1 Tryz.underlying40 hi0 hz0 hz1 hz2 rfl (by omega) vv acc.length (bytC acc) rfl (hown.out.alloc _) ⟨wr.heap.size,0,none⟩ 1 1 [.int .u8 kk] rfl rfl (World.news_of_block (cs:=#[.int .u8 kk]) (t:=5) (fr:=(0,0)) (heap_alloc_new wr _)) (by simp[Value.oneCell']) (by omega) (by unfold maxLen;omega) (by omega) (by simp;omega) (wr.heap.size+1) (by simp) ?_
      intro g1 cap1 w1 hown1 hgrow hat hlt1
      have hb1:Below w.heap.size w w1:=(hbel.out.alloc (by omega) _).grown hgrow (by simp;omega) (fun q e=>(hown.out.lt q e).1))
    go_roundw
    case rel=>
     refine ⟨acc++[UInt8.ofNat kk],_,by simp,rfl,by simp;omega,by simp;omega,?_,hb1⟩
     have:w1.ownsRow w.heap.size 5 1 (.slice (some ⟨g1,0,none⟩) (acc.length+1) cap1) (acc++[UInt8.ofNat kk]).length (bytC (acc++[UInt8.ofNat kk])):=by
      unfold bytC
      rw[List.map_append,List.map_cons,List.map_nil,hu,List.length_append]
      exact hown1
     exact this
    case measure=>simp[intOf];omega
  · have hcv:=conv_own hown.out
    have h4:¬ (acc.length:Int)<(l.length:Int)∨(acc.length:Int)<(l.length:Int)∧¬ (acc.length:Int)<200:=by omega
    have hfin:(⟨acc.toArray⟩:ByteArray).size≤200:=by rw[mk_size];exact h2
    clear hlt
    rcases h4 with h4 | ⟨h4,h5⟩
    all_goals
     go_wp2_with fail
     go_ret
     exact ⟨⟨_,hfin,rfl⟩,hbel.out⟩
end Go.Proofs.YtmlkhhhjdpbhfaaGreatDoor
namespace Go.Proofs.YtmlkhhhjdpbhfaaGreatDoor
open Go.RowKit
section
variable {N N' k:Nat} {T T':Nat→Nat→Bool→List It→PS→PO}
end
def ErrT (o:PO):Prop:=o.e=0∨o.e=6∨o.e=7
def ErrA (T:Nat→Nat→Bool→List It→PS→PO):Prop:=∀ fuel far q s st,ErrT (T fuel far q s st)
theorem e_fail (fuel far a:Nat)(st:PS):ErrT (failO fuel far a st):=Or.inl rfl
theorem e_fit (fuel far:Nat)(st:PS)(t:List UInt8):ErrT (fitO fuel far st t):=Or.inl rfl
theorem e_dead (st:PS):ErrT (deadO 6 st):=Or.inr (Or.inl rfl)
theorem e_made (N fuel far:Nat)(st:PS)(t:List UInt8):ErrT (madeO N fuel far st t):=by
 unfold madeO
 split
 · exact Or.inr (Or.inr rfl)
 · exact Or.inl rfl
theorem e_bytes (bs:ByteArray)(N:Nat)(x:It)(q:Bool)(fuel far:Nat)(st:PS):ErrT (bytesT bs N x q fuel far st):=by
 unfold bytesT
 repeat' split
 all_goals first | exact e_fail _ _ _ _ | exact e_fit _ _ _ _ | exact e_made _ _ _ _ _
section
variable {T:Nat→Nat→Bool→List It→PS→PO}
theorem e_kids (h:ErrA T)(ks:List (List It)):∀ (fuel far:Nat) (st:PS) (t:List UInt8),ErrT (kidsT T ks fuel far st t):=by
 induction ks with
 | nil=>intro fuel far st t;exact e_fit _ _ _ _
 | cons a ks ih=>intro fuel far st t;rw[kidsT];split;exact ih _ _ _ _;exact h _ _ _ _ _
theorem e_many (h:ErrA T)(N:Nat)(kid:List It)(c:Nat):∀ (fuel far:Nat) (st:PS) (t:List UInt8),ErrT (manyT T N kid c fuel far st t):=by
 induction c with
 | zero=>intro fuel far st t;exact e_dead _
 | succ c ih=>
  intro fuel far st t
  rw[manyT]
  split
  · exact h _ _ _ _ _
  · split
    · exact e_made _ _ _ _ _
    · exact ih _ _ _ _
theorem e_times (h:ErrA T)(N:Nat)(kid:List It)(c:Nat):∀ (fuel far:Nat) (st:PS) (t:List UInt8),ErrT (timesT T N kid c fuel far st t):=by
 induction c with
 | zero=>intro fuel far st t;exact e_made _ _ _ _ _
 | succ c ih=>intro fuel far st t;rw[timesT];split;exact ih _ _ _ _;exact h _ _ _ _ _
theorem e_chosen (N:Nat)(c:UInt8){o:PO}(h:ErrT o):ErrT (chosen N c o):=by unfold chosen;split;exact e_made _ _ _ _ _;exact h
theorem e_choice (h:ErrA T)(N:Nat)(k0 k1:List It)(fuel far:Nat)(st:PS):ErrT (choiceT T N k0 k1 fuel far st):=by
 unfold choiceT choice2
 split
 · exact e_chosen _ _ (h _ _ _ _ _)
 · exact e_chosen _ _ (h _ _ _ _ _)
theorem e_whole (h:ErrA T)(N:Nat)(ks:List (List It))(fuel far:Nat)(st:PS):ErrT (wholeT T N ks fuel far st):=by
 unfold wholeT wholeE
 split
 · exact e_made _ _ _ _ _
 · exact e_kids h _ _ _ _ _
theorem e_window (h:ErrA T)(d:Nat)(kid:List It)(fuel far:Nat)(st:PS):ErrT (windowT T d kid fuel far st):=by
 unfold windowT windowE
 repeat' split
 all_goals first | exact e_fail _ _ _ _ | exact e_fit _ _ _ _ | exact h _ _ _ _ _
theorem e_at (h:ErrA T)(bs:ByteArray)(d:Nat)(kid:List It)(fuel far:Nat)(st:PS):ErrT (atT T bs d kid fuel far st):=by
 unfold atT atE
 repeat' split
 all_goals first | exact e_fail _ _ _ _ | exact e_fit _ _ _ _ | exact h _ _ _ _ _
theorem e_summed (h:ErrA T)(bs:ByteArray)(d:Nat × Nat)(kid:List It)(fuel far:Nat)(st:PS):ErrT (summedT T bs d kid fuel far st):=by
 unfold summedT summedE
 repeat' split
 all_goals first | exact e_fail _ _ _ _ | exact e_fit _ _ _ _ | exact h _ _ _ _ _
end
theorem e_try (G:Nat→List It)(bs:ByteArray)(N:Nat):∀ g,ErrA (tryT G bs N g):=by
 intro g
 induction g with
 | zero=>intro fuel far q s st;exact e_dead _
 | succ g ih=>
  intro fuel far q s st
  cases s with
  | nil=>exact e_dead _
  | cons x r=>
   cases fuel with
   | zero=>exact e_dead _
   | succ fuel=>
    rw[tryT]
    repeat' split
    all_goals first | exact e_whole ih _ _ _ _ _ | exact e_choice ih _ _ _ _ _ _ | exact e_many ih _ _ _ _ _ _ _ | exact ih _ _ _ _ _ | exact e_times ih _ _ _ _ _ _ _ | exact e_window ih _ _ _ _ _ | exact e_at ih _ _ _ _ _ _ | exact e_summed ih _ _ _ _ _ _ | exact e_bytes _ _ _ _ _ _ _
end Go.Proofs.YtmlkhhhjdpbhfaaGreatDoor

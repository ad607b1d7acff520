import Derived.Test.YtmlkhhhjdpbhfaaGreatDoorFo49
import Derived.Test.YtmlkhhhjdpbhfaaGreatDoorFo39
import Derived.Test.YtmlkhhhjdpbhfaaGreatDoorFo29
import Derived.Test.YtmlkhhhjdpbhfaaGreatDoorFo48
import Derived.Test.YtmlkhhhjdpbhfaaGreatDoorFo30
namespace Go.Proofs.YtmlkhhhjdpbhfaaGreatDoor
open Go.RowKit
set_option maxRecDepth 100000 in
set_option maxHeartbeats 2000000 in
theorem vcho_calls (s:ByteArray)(hs:s.size≤8000)(n:Nat)(ih:ValC s n)(w:World)(rb a:Nat)(hr:RdT 104 w rb s a)(hrb:rb<w.heap.size)(ha:a≤s.size)(hn:s.size<a+n):
 Calls Tryz.prog 74 #[.pointer (some ⟨rb,0,none⟩)] w fun e w'=>ValPost (NdT (RepY n)) s rb w (choV (valV s n) s a) e w':=by
 have HR0:=hide' hr
 have HI:=hide' ih
 clear hr ih
 go_enter Tryz.func74,Tryz.ntmps74
 go_wp2_with fail
 refine (takeT_calls 104 w rb s a 48 49 HR0.out hs ha).mono ?_
 rintro e w1 ⟨hsm,⟨h1,rfl,h3⟩ | ⟨h1,rfl,h3⟩⟩
 · have hal:=tkOk_lt h1
   have hab:=tkOk_bt h1
   have HT:=hide' h1
   obtain ⟨d,hd,hd2⟩:∃ d:Nat,d<2∧bt s a=48+d:=⟨(bt s a-48).toNat,by omega,by omega⟩
   have HD:Hid (digV s a=d):=by
    have:digV s a=d:=by unfold digV;omega
    exact this
   rw[hd2]
   have hw8:IntKind.u8.wrap (48+(d:Int)-48)=d:=by rw[IntKind.wrap_u8];omega
   have HSm:=hide' hsm
   have HZ:=hide' hsm.size
   clear h1 hab hd2 hsm
   go_wp2_with fail
   refine (takeJustT_calls 104 w1 rb s (a+1) 32 h3 hs (by omega)).mono ?_
   rintro e w2 ⟨hsm2,⟨h4,rfl,h5⟩ | ⟨h4,rfl,h5⟩⟩
   · have hal2:=tkOk_lt h4
     have HV:Hid (choV (valV s n) s a=choO d (valV s n (a+2))):=by
      have:choV (valV s n) s a=choO d (valV s n (a+2)):=by unfold choV;rw[if_pos HT.out,if_pos h4,HD.out]
      exact this
     have HS2:=hide' (HSm.out.trans hsm2)
     have HZ2:=hide' (hsm2.size.trans HZ.out)
     clear h4 hsm2 HSm
     go_wp2_with fail
     refine (HI.out w2 rb (a+2) h5 (by rw[HZ2.out];exact hrb) (by omega) (by omega)).mono ?_
     rintro e w3 ⟨q1,q2,q3⟩
     have HF3:Hid (Fr w.heap.size rb w w3):=by
      have:Fr w.heap.size rb w w3:=(HS2.out.fr _).trans (q2.less (by rw[HZ2.out];omega))
      exact this
     rcases q3 with ⟨q3,rfl⟩ | ⟨x,vb,q3,rfl,q4⟩
     · have HE:Hid (choV (valV s n) s a=(none,(valV s n (a+2)).2)):=by
        have:choV (valV s n) s a=(none,(valV s n (a+2)).2):=by rw[HV.out];unfold choO;rw[q3];rfl
        exact this
       clear q3 q2
       go_wp2_with fail
       go_ret2
       rw[HE.out]
       exact ⟨q1,HF3.out,Or.inl ⟨rfl,rfl⟩⟩
     · have HE:Hid (choV (valV s n) s a=(some ⟨5,d,[],[x]⟩,(valV s n (a+2)).2)):=by
        have:choV (valV s n) s a=(some ⟨5,d,[],[x]⟩,(valV s n (a+2)).2):=by rw[HV.out];unfold choO;rw[q3];rfl
        exact this
       have HSz:=hide' q2.size
       have HQ4:=hide' q4
       have HQ1:=hide' q1
       have hw32:IntKind.u32.wrap (d:Int)=d:=by rw[IntKind.wrap_u32];omega
       clear q3 q2 q1 q4
       go_wp2_with fail
       go_ret2
       rw[HE.out]
       have hle:w.heap.size≤w3.heap.size:=by have:=HSz.out;have:=HZ2.out;omega
       have hb:=Blk.new (w3.alloc (.cells #[.pointer (some ⟨vb,0,none⟩)] 55)) #[.int .i64 5,.int .u32 (d:Nat),.string ⟨#[]⟩,.slice (some ⟨w3.heap.size,0,none⟩) 1 1] 177
       rw[show (w3.alloc (.cells #[.pointer (some ⟨vb,0,none⟩)] 55)).heap.size=w3.heap.size+1 by simp] at hb
       have hr0:=Blk.alloc (Blk.new w3 #[.pointer (some ⟨vb,0,none⟩)] 55) (.cells #[.int .i64 5,.int .u32 (d:Nat),.string ⟨#[]⟩,.slice (some ⟨w3.heap.size,0,none⟩) 1 1] 177)
       refine ⟨Blk.alloc (Blk.alloc HQ1.out _) _,(HF3.out.alloc hle _).alloc (by simp;omega) _,Or.inr ⟨_,_,rfl,rfl,?_⟩⟩
       refine ⟨_,[(vb,x)],hb,⟨by omega,hb.lt⟩,Or.inr ⟨w3.heap.size,1,rfl,hle,by simp;omega,by simp,fun j hj=>?_⟩,fun q hq=>?_,rfl,⟨by simp,by simp only;omega,fun _=>⟨hd,rfl⟩,by simp,by simp⟩⟩
       · simp at hj
         subst hj
         exact hr0.cell 0
       · simp at hq
         subst hq
         refine HQ4.out.mono n (fun k _ k2=>?_) (by have:=HZ2.out;omega) (by simp;omega)
         rw[Below.heap_alloc _ _ _ (by simp;omega),Below.heap_alloc _ _ _ k2]
   · have HV:Hid (choV (valV s n) s a=(none,a+1)):=by
      have:choV (valV s n) s a=(none,a+1):=by unfold choV;rw[if_pos HT.out,if_neg (by rw[h4];simp)]
      exact this
     clear h4
     go_wp2_with fail
     go_ret2
     rw[HV.out]
     exact ⟨h5,(HSm.out.trans hsm2).frS,Or.inl ⟨rfl,rfl⟩⟩
 · have HV:Hid (choV (valV s n) s a=(none,a)):=by
    have:choV (valV s n) s a=(none,a):=by unfold choV;rw[if_neg (by rw[h1];simp)]
    exact this
   clear h1
   go_wp2_with fail
   go_ret2
   rw[HV.out]
   exact ⟨h3,hsm.frS,Or.inl ⟨rfl,rfl⟩⟩
set_option maxRecDepth 100000 in
set_option maxHeartbeats 2000000 in
theorem value_step (s:ByteArray)(hs:s.size≤8000)(n:Nat)(ih:ValC s n):ValC s (n+1):=by
 intro w rb a hr hrb ha hn
 show Calls Tryz.prog 48 #[.pointer (some ⟨rb,0,none⟩)] w fun e w'=>ValPost (NdT (RepY n)) s rb w (valX (valV s n) s a) e w'
 have HR0:=hide' hr
 have HI:=hide' ih
 clear hr ih
 go_enter Tryz.func48,Tryz.ntmps48
 go_wp2_with fail
 refine (takeJustT_calls 104 w rb s a 45 HR0.out hs ha).mono ?_
 rintro e w1 ⟨hsm1,⟨h1,rfl,r1⟩ | ⟨h1,rfl,r1⟩⟩
 · have HV:Hid (valX (valV s n) s a=(some ⟨1,0,[],[]⟩,a+1)):=by
    have:valX (valV s n) s a=(some ⟨1,0,[],[]⟩,a+1):=by unfold valX;rw[if_pos h1]
    exact this
   have HZ:=hide' hsm1.size
   clear h1
   go_wp2_with fail
   go_ret2
   rw[HV.out]
   have hb:=Blk.new w1 #[.int .i64 1,.int .u32 0,.string ⟨#[]⟩,.slice none 0 0] 177
   exact ⟨Blk.alloc r1 _,(hsm1.frS).alloc (by rw[HZ.out];omega) _,Or.inr ⟨_,_,rfl,rfl,NdT.leaf (RepY n) _ _ _ 1 0 [] hb (by rw[HZ.out];omega) (by omega) (by omega) (by simp)⟩⟩
 have H1:=hide' h1
 have HS1:=hide' hsm1
 clear h1 hsm1
 go_wp2_with fail
 refine (takeJustT_calls 104 w1 rb s a 34 r1 hs ha).mono ?_
 rintro e w2 ⟨hsm2,⟨h2,rfl,r2⟩ | ⟨h2,rfl,r2⟩⟩
 · have HV:Hid (valX (valV s n) s a=runO (Tr n) (rdRun s s.size (a+1) [])):=by
    have:valX (valV s n) s a=runO (Tr n) (rdRun s s.size (a+1) []):=by unfold valX;rw[if_neg (by rw[H1.out];simp),if_pos h2]
    exact this
   have hal:=tkOk_lt h2
   have HS2:=hide' (HS1.out.trans hsm2)
   clear h2 hsm2
   go_wp2_with fail
   refine (vrun_calls (RepY n) s hs w2 rb (a+1) r2 (by rw[HS2.out.size];exact hrb) hal).mono ?_
   rintro e w3 hp
   have HP:Hid (ValPost (NdT (RepY n)) s rb w (valX (valV s n) s a) e w3):=by
    have:ValPost (NdT (RepY n)) s rb w (valX (valV s n) s a) e w3:=by rw[HV.out];exact hp.same HS2.out
    exact this
   obtain ⟨v,b,rfl⟩:=hp.form
   clear hp
   go_wp2_with fail
   go_ret2
   exact HP.out
 have H2:=hide' h2
 have HS2:=hide' (HS1.out.trans hsm2)
 clear h2 hsm2
 go_wp2_with fail
 refine (takeJustT_calls 104 w2 rb s a 40 r2 hs ha).mono ?_
 rintro e w3 ⟨hsm3,⟨h3,rfl,r3⟩ | ⟨h3,rfl,r3⟩⟩
 · have HV:Hid (valX (valV s n) s a=betwV (valV s n) s 3 41 (a+1)):=by
    have:valX (valV s n) s a=betwV (valV s n) s 3 41 (a+1):=by unfold valX;rw[if_neg (by rw[H1.out];simp),if_neg (by rw[H2.out];simp),if_pos h3]
    exact this
   have hal:=tkOk_lt h3
   have HS:=hide' (HS2.out.trans hsm3)
   clear h3 hsm3
   go_wp2_with fail
   refine (vbetw_calls s hs n HI.out 3 (by omega) 41 w3 rb (a+1) r3 (by rw[HS.out.size];exact hrb) hal (by omega)).mono ?_
   rintro e w9 hp
   have HP:Hid (ValPost (NdT (RepY n)) s rb w (valX (valV s n) s a) e w9):=by
    have:ValPost (NdT (RepY n)) s rb w (valX (valV s n) s a) e w9:=by rw[HV.out];exact hp.same HS.out
    exact this
   obtain ⟨v,b,rfl⟩:=hp.form
   clear hp
   go_wp2_with fail
   go_ret2
   exact HP.out
 have H3:=hide' h3
 have HS3:=hide' (HS2.out.trans hsm3)
 clear h3 hsm3
 go_wp2_with fail
 refine (takeJustT_calls 104 w3 rb s a 91 r3 hs ha).mono ?_
 rintro e w4 ⟨hsm4,⟨h4,rfl,r4⟩ | ⟨h4,rfl,r4⟩⟩
 · have HV:Hid (valX (valV s n) s a=betwV (valV s n) s 4 93 (a+1)):=by
    have:valX (valV s n) s a=betwV (valV s n) s 4 93 (a+1):=by unfold valX;rw[if_neg (by rw[H1.out];simp),if_neg (by rw[H2.out];simp),if_neg (by rw[H3.out];simp),if_pos h4]
    exact this
   have hal:=tkOk_lt h4
   have HS:=hide' (HS3.out.trans hsm4)
   clear h4 hsm4
   go_wp2_with fail
   refine (vbetw_calls s hs n HI.out 4 (by omega) 93 w4 rb (a+1) r4 (by rw[HS.out.size];exact hrb) hal (by omega)).mono ?_
   rintro e w9 hp
   have HP:Hid (ValPost (NdT (RepY n)) s rb w (valX (valV s n) s a) e w9):=by
    have:ValPost (NdT (RepY n)) s rb w (valX (valV s n) s a) e w9:=by rw[HV.out];exact hp.same HS.out
    exact this
   obtain ⟨v,b,rfl⟩:=hp.form
   clear hp
   go_wp2_with fail
   go_ret2
   exact HP.out
 have H4:=hide' h4
 have HS4:=hide' (HS3.out.trans hsm4)
 clear h4 hsm4
 go_wp2_with fail
 refine (takeJustT_calls 104 w4 rb s a 47 r4 hs ha).mono ?_
 rintro e w5 ⟨hsm5,⟨h5,rfl,r5⟩ | ⟨h5,rfl,r5⟩⟩
 · have HV:Hid (valX (valV s n) s a=choV (valV s n) s (a+1)):=by
    have:valX (valV s n) s a=choV (valV s n) s (a+1):=by unfold valX;rw[if_neg (by rw[H1.out];simp),if_neg (by rw[H2.out];simp),if_neg (by rw[H3.out];simp),if_neg (by rw[H4.out];simp),if_pos h5]
    exact this
   have hal:=tkOk_lt h5
   have HS:=hide' (HS4.out.trans hsm5)
   clear h5 hsm5
   go_wp2_with fail
   refine (vcho_calls s hs n HI.out w5 rb (a+1) r5 (by rw[HS.out.size];exact hrb) hal (by omega)).mono ?_
   rintro e w9 hp
   have HP:Hid (ValPost (NdT (RepY n)) s rb w (valX (valV s n) s a) e w9):=by
    have:ValPost (NdT (RepY n)) s rb w (valX (valV s n) s a) e w9:=by rw[HV.out];exact hp.same HS.out
    exact this
   obtain ⟨v,b,rfl⟩:=hp.form
   clear hp
   go_wp2_with fail
   go_ret2
   exact HP.out
 have HV:Hid (valX (valV s n) s a=numV (Tr n) s a):=by
  have:valX (valV s n) s a=numV (Tr n) s a:=by unfold valX;rw[if_neg (by rw[H1.out];simp),if_neg (by rw[H2.out];simp),if_neg (by rw[H3.out];simp),if_neg (by rw[H4.out];simp),if_neg (by rw[h5];simp)]
  exact this
 have HS:=hide' (HS4.out.trans hsm5)
 clear h5 hsm5
 go_wp2_with fail
 refine (vnum_calls (RepY n) s hs w5 rb a r5 (by rw[HS.out.size];exact hrb) ha).mono ?_
 rintro e w9 hp
 have HP:Hid (ValPost (NdT (RepY n)) s rb w (valX (valV s n) s a) e w9):=by
  have:ValPost (NdT (RepY n)) s rb w (valX (valV s n) s a) e w9:=by rw[HV.out];exact hp.same HS.out
  exact this
 obtain ⟨v,b,rfl⟩:=hp.form
 clear hp
 go_wp2_with fail
 go_ret2
 exact HP.out
theorem yvalue_calls (s:ByteArray)(hs:s.size≤8000)(n:Nat):ValC s n:=by
 induction n with
 | zero=>intro w rb a _ _ ha hn;omega
 | succ n ih=>exact value_step s hs n ih
structure TreePost (s:ByteArray) (w:World) (e:Ending) (w':World):Prop where
 bel:Below w.heap.size w w'
 out:((treeV s).1=none∧e=.returned (.tuple #[.pointer none,.int .i64 9,.int .i64 ((treeV s).2:Nat)]))∨∃ x vb,(treeV s).1=some x∧e=.returned (.tuple #[.pointer (some ⟨vb,0,none⟩),.int .i64 0,.int .i64 0])∧RepY (s.size+1) w' w.heap.size w'.heap.size vb x
set_option maxRecDepth 100000 in
set_option maxHeartbeats 2000000 in
theorem tree_calls (s:ByteArray)(hsl:s.size≤maxLen)(w:World):Calls Tryz.prog 29 #[.string s] w fun e w'=>TreePost s w e w':=by
 unfold maxLen at hsl
 by_cases hbig:8000<s.size
 · have hbig':(8000:Int)<(s.size:Int):=by omega
   have HV:Hid (treeV s=(none,0)):=by
    have:treeV s=(none,0):=by unfold treeV;rw[if_pos hbig]
    exact this
   go_enter Tryz.func29,Tryz.ntmps29
   go_wp2_with fail
   go_ret3
   refine ⟨Below.refl _ _,Or.inl ?_⟩
   rw[HV.out]
   exact ⟨rfl,rfl⟩
 · have hbig':¬ (8000:Int)<(s.size:Int):=by omega
   have hs:s.size≤8000:=by omega
   have HV:Hid (treeV s=if (valV s (s.size+1) 0).2=s.size then valV s (s.size+1) 0 else (none,(valV s (s.size+1) 0).2)):=by
    have:treeV s=if (valV s (s.size+1) 0).2=s.size then valV s (s.size+1) 0 else (none,(valV s (s.size+1) 0).2):=by unfold treeV;rw[if_neg hbig]
    exact this
   have HR0:Hid (RdT 104 (w.alloc (.cells #[.string s,.int .i64 0] 104)) w.heap.size s 0):=Blk.new _ _ _
   have HB0:=hide' ((Below.refl w.heap.size w).alloc (Nat.le_refl _) (.cells #[.string s,.int .i64 0] 104))
   have HAt:=valV_at s (s.size+1) 0 (Nat.zero_le _)
   have hle:=HAt.le
   have HZ0:Hid ((w.alloc (.cells #[.string s,.int .i64 0] 104)).heap.size=w.heap.size+1):=by
    have:(w.alloc (.cells #[.string s,.int .i64 0] 104)).heap.size=w.heap.size+1:=by simp
    exact this
   clear HAt hbig
   go_enter Tryz.func29,Tryz.ntmps29
   go_wp2_with fail
   generalize w.alloc (.cells #[.string s,.int .i64 0] 104)=w0 at *
   refine (yvalue_calls s hs (s.size+1) w0 w.heap.size 0 HR0.out (by rw[HZ0.out];omega) (by omega) (by omega)).mono ?_
   rintro e w1 ⟨q1,q2,q3⟩
   have HB1:Hid (Below w.heap.size w w1):=by
    have:Below w.heap.size w w1:=HB0.out.trans ⟨q2.os,q2.tape,q2.output,q2.size,fun k hk=>q2.block k (by rw[HZ0.out];omega) (by omega)⟩
    exact this
   have c1:w1.cell? ⟨w.heap.size,1,none⟩=some (.int .i64 ((valV s (s.size+1) 0).2:Nat)):=q1.cell 1
   rcases q3 with ⟨q3,rfl⟩ | ⟨x,vb,q3,rfl,q4⟩
   · have HE:Hid (treeV s=(none,(valV s (s.size+1) 0).2)):=by
      have:treeV s=(none,(valV s (s.size+1) 0).2):=by
       rw[HV.out]
       split
       · exact Prod.ext q3 rfl
       · rfl
      exact this
     clear q3 q2 q1 HV
     go_wp2_with fail
     go_quiet (fail)
     go_wp2_with fail
     go_ret3
     refine ⟨⟨HB1.out.os,HB1.out.tape,HB1.out.output,HB1.out.size,HB1.out.block⟩,Or.inl ?_⟩
     rw[HE.out]
     exact ⟨rfl,rfl⟩
   · have HQ3:=hide' q3
     have HQ4:=hide' q4
     clear q3 q2 q4
     go_wp2_with fail
     refine (atEndT_calls 104 w1 w.heap.size s _ q1 hs hle).mono ?_
     rintro e w2 ⟨rfl,hsm,hr2⟩
     have HB2:Hid (Below w.heap.size w w2):=by
      have:Below w.heap.size w w2:=HB1.out.trans ⟨hsm.os,hsm.tape,hsm.output,by rw[hsm.size];omega,fun k hk=>hsm.block k (by omega)⟩
      exact this
     by_cases hend:(valV s (s.size+1) 0).2=s.size
     · rw[decide_eq_true hend]
       have HE:Hid (treeV s=(some x,s.size)):=by
        have:treeV s=(some x,s.size):=by rw[HV.out,if_pos hend];exact Prod.ext HQ3.out hend
        exact this
       have HQ5:Hid (RepY (s.size+1) w2 w.heap.size w2.heap.size vb x):=by
        have:RepY (s.size+1) w2 w.heap.size w2.heap.size vb x:=HQ4.out.mono _ (fun k k1 _=>hsm.block k (by rw[HZ0.out] at k1;omega)) (by rw[HZ0.out];omega) (by rw[hsm.size];omega)
        exact this
       clear HV c1 hend
       go_wp2_with fail
       go_ret3
       exact ⟨HB2.out,Or.inr ⟨x,vb,by rw[HE.out],rfl,HQ5.out⟩⟩
     · rw[decide_eq_false hend]
       have HE:Hid (treeV s=(none,(valV s (s.size+1) 0).2)):=by
        have:treeV s=(none,(valV s (s.size+1) 0).2):=by rw[HV.out,if_neg hend]
        exact this
       have c2:w2.cell? ⟨w.heap.size,1,none⟩=some (.int .i64 ((valV s (s.size+1) 0).2:Nat)):=hr2.cell 1
       clear HV c1 hend hr2
       go_wp2_with fail
       go_quiet (fail)
       go_wp2_with fail
       go_ret3
       refine ⟨⟨HB2.out.os,HB2.out.tape,HB2.out.output,HB2.out.size,HB2.out.block⟩,Or.inl ?_⟩
       rw[HE.out]
       exact ⟨rfl,rfl⟩
theorem rulePt_none {rls:List Rl}{r:Nat}(h:ruleHas rls r=false):rulePt rls r=[]:=by
 unfold rulePt
 cases hf:rls.find? (fun x=>x.r==(r:Int)) with
 | none=>rfl
 | some x=>
  have h1:=List.find?_some hf
  have h2:=List.mem_of_find?_eq_some hf
  have:ruleHas rls r=true:=by
   unfold ruleHas hasR
   exact List.any_eq_true.2 ⟨x,h2,h1⟩
  rw[this] at h;cases h
theorem gok_of (s:ByteArray)(h:(pressV s).1=0):GOk (ruleHas (formV s).rls) (rulePt (formV s).rls):=by
 obtain ⟨hs,hok,hsc,hwr⟩:=pressV_ok s h
 have hlen:∀ r,(rulePt (formV s).rls r).length≤1000:=fun r=>by
  cases hr:ruleHas (formV s).rls r with
  | false=>rw[rulePt_none hr];simp
  | true=>
   obtain ⟨i,hi,_,_,e⟩:=ruleHas_find hr
   rw[e]
   have:=((rules_ord s 8 65 0 (by omega) hok).2.1 _ (List.getElem_mem hi)).len
   omega
 refine ⟨fun r=>?_,fun r hr=>⟨rule_wf s h r hr,?_⟩⟩
 · cases hr:ruleHas (formV s).rls r with
   | false=>rw[rulePt_none hr];exact ⟨by simp,by simp⟩
   | true=>exact (rule_wf s h r hr).kok (hlen r)
 · obtain ⟨i,hi,_,_,e⟩:=ruleHas_find hr
   obtain ⟨z,hz⟩:=wrongD_rule (formV s).rls _ hwr _ (List.getElem_mem hi)
   have hl:=((rules_ord s 8 65 0 (by omega) hok).2.1 _ (List.getElem_mem hi)).len
   rw[e]
   exact ⟨Sc0,s.size+1,z,by omega,hz⟩
theorem rdNum_ge (s:ByteArray)(a n:Nat)(h:tkOk s a 48 57=true):a+1≤(rdNum s s.size n a).2:=by
 have hl:=tkOk_lt h
 cases hs:s.size with
 | zero=>omega
 | succ f=>
  rw[rdNum,if_pos h]
  exact (rdNum_at s f _ (a+1) (by omega)).1
theorem rdRun_sz (s:ByteArray):∀ f a acc l,(rdRun s f a acc).1=some l→a+1+l.length≤(rdRun s f a acc).2+acc.length
 | 0,_,_,_,h=>by cases h
 | f+1,a,acc,l,h=>by
  rw[rdRun] at h ⊢
  split at h
  · rename_i h1
    rw[if_pos h1]
    cases h
    exact Nat.le_refl _
  · rename_i h1
    rw[if_neg h1]
    split at h
    · cases h
    · rename_i h2
      rw[if_neg h2]
      split at h
      · cases h
      · rename_i h3
        rw[if_neg h3]
        have:=rdRun_sz s f _ _ l h
        simp only[List.length_append,List.length_singleton] at this
        omega
theorem rdBetw_sz {T:Type}{R:Nat→Option T × Nat}{z:T→Nat}(hR:∀ a v,(R a).1=some v→a+z v≤(R a).2)(s:ByteArray)(cl:Int):∀ f a acc l,(rdBetw R s cl f a acc).1=some l→a+(l.map z).sum≤(rdBetw R s cl f a acc).2+(acc.map z).sum
 | 0,_,_,_,h=>by cases h
 | f+1,a,acc,l,h=>by
  rw[rdBetw] at h ⊢
  cases hv:(R a).1 with
  | none=>rw[hv] at h;cases h
  | some v=>
   have hz:=hR a v hv
   rw[hv] at h
   simp only at h ⊢
   split at h
   · rename_i h1
     rw[if_pos h1]
     cases h
     simp only[List.map_append,List.sum_append,List.map_cons,List.map_nil,List.sum_cons,List.sum_nil]
     omega
   · rename_i h1
     rw[if_neg h1]
     split at h
     · rename_i h2
       rw[if_pos h2]
       have:=rdBetw_sz hR s cl f _ _ l h
       simp only[List.map_append,List.sum_append,List.map_cons,List.map_nil,List.sum_cons,List.sum_nil] at this
       omega
     · cases h
theorem betwV_sz {T:Type}{R:Nat→Option T × Nat}{z:T→Nat}(hR:∀ a v,(R a).1=some v→a+z v≤(R a).2)(s:ByteArray)(k:Nat)(cl:Int)(a:Nat)(v:Nd T)(h:(betwV R s k cl a).1=some v):a+(v.run.length+(v.kids.map z).sum)≤(betwV R s k cl a).2:=by
 unfold betwV at h ⊢
 split at h
 · rename_i h1
   rw[if_pos h1]
   cases h
   simp
 · rename_i h1
   rw[if_neg h1]
   unfold betwO at h ⊢
   cases hl:(rdBetw R s cl s.size a []).1 with
   | none=>simp only[hl] at h;cases h
   | some l=>
    simp only[hl,Option.map_some,Option.some.injEq] at h
    subst h
    have:=rdBetw_sz hR s cl s.size a [] l hl
    simpa using this
theorem valV_sz (s:ByteArray):∀ n a v,(valV s n a).1=some v→a+szT n v≤(valV s n a).2
 | 0,_,v,_=>Empty.elim v
 | n+1,a,v,h=>by
  have ih:=valV_sz s n
  have hz:=szT_succ n v
  show a+szT (n+1) v≤(valX (valV s n) s a).2
  replace h:(valX (valV s n) s a).1=some v:=h
  rw[hz]
  unfold valX at h ⊢
  split at h
  · rename_i h1;rw[if_pos h1];cases h;simp
  rename_i h1;rw[if_neg h1]
  split at h
  · rename_i h2
    rw[if_pos h2]
    unfold runO at h ⊢
    cases hl:(rdRun s s.size (a+1) []).1 with
    | none=>simp only[hl] at h;cases h
    | some l=>
     rw[hl] at h
     have hv:v=(⟨2,0,l,[]⟩:Nd (Tr n)):=(Option.some.inj h).symm
     subst hv
     have:=rdRun_sz s _ _ _ l hl
     simp only[List.length_nil,List.map_nil,List.sum_nil] at this ⊢
     omega
  rename_i h2;rw[if_neg h2]
  split at h
  · rename_i h3;rw[if_pos h3]
    have:=betwV_sz ih s 3 41 (a+1) v h
    omega
  rename_i h3;rw[if_neg h3]
  split at h
  · rename_i h4;rw[if_pos h4]
    have:=betwV_sz ih s 4 93 (a+1) v h
    omega
  rename_i h4;rw[if_neg h4]
  split at h
  · rename_i h5;rw[if_pos h5]
    unfold choV at h ⊢
    split at h
    · rename_i h6;rw[if_pos h6]
      split at h
      · rename_i h7;rw[if_pos h7]
        unfold choO at h ⊢
        cases hl:(valV s n (a+1+2)).1 with
        | none=>simp only[hl] at h;cases h
        | some y=>
         rw[hl] at h
         have hv:v=(⟨5,digV s (a+1),[],[y]⟩:Nd (Tr n)):=(Option.some.inj h).symm
         subst hv
         have:=ih _ y hl
         simp only[List.length_nil,List.map_cons,List.map_nil,List.sum_cons,List.sum_nil]
         omega
      · cases h
    · cases h
  rename_i h5;rw[if_neg h5]
  unfold numV at h ⊢
  split at h
  · rename_i h6;rw[if_pos h6];cases h;simp
  rename_i h6;rw[if_neg h6]
  split at h
  · rename_i h7
    rw[if_pos h7]
    split at h
    · cases h
    · rename_i h8
      rw[if_neg h8]
      cases h
      have:=rdNum_ge s a 0 (by unfold tkOk at h7 ⊢;simp only[decide_eq_true_eq] at h7 ⊢;omega)
      simp only[List.length_nil,List.map_nil,List.sum_nil]
      omega
  · cases h
def genO (s tr:ByteArray)(v:Nd (Tr tr.size))(most:Nat):List UInt8 × Int:=genT (rulePt (rlsOf s)) tr.size v most
def genV (s tr:ByteArray)(most:Int):List UInt8 × Int × Int:=
 if (pressV s).1≠0 then ([],(pressV s).1,(pressV s).2)
 else match (treeV tr).1 with
  | none=>([],9,((treeV tr).2:Int))
  | some v=>if budB most 4000=false then ([],5,0)
   else if (genO s tr v most.toNat).2≠0 then ([],(genO s tr v most.toNat).2,0)
   else if (⟨(endT (outT s ⟨(genO s tr v most.toNat).1.toArray⟩ 100000 10000)).1.toArray⟩:ByteArray)=tr then ((genO s tr v most.toNat).1,0,0)
   else ([],13,0)
theorem gen_call (s:ByteArray)(w:World)(gb:Nat)(hg:GrAt s w gb)(hp:(pressV s).1=0)(hform:(formV s).ok=true)(n lo2 hi2 vb:Nat)(v:Nd (Tr n))(hval:NdT (RepY n) w lo2 hi2 vb v)(hh2:hi2≤w.heap.size)(hsz:szN v≤8000)(most:Nat)(hmost:most≤4000):
 Calls Tryz.prog 30 #[.pointer (some ⟨gb,0,none⟩),.pointer (some ⟨vb,0,none⟩),.int .i64 (most:Nat)] w fun e w'=>e=.returned (.tuple #[.string ⟨(genT (rulePt (rlsOf s)) n v most).1.toArray⟩,.int .i64 (genT (rulePt (rlsOf s)) n v most).2])∧Below w.heap.size w w'∧((genT (rulePt (rlsOf s)) n v most).2=0→(genT (rulePt (rlsOf s)) n v most).1.length≤most):=by
 obtain ⟨x,t,hx,hr0⟩:=form_head s hform
 obtain ⟨v',l,g1,g2,g3⟩:=hg.ex
 refine genP_calls gb s _ _ w g1.lt (fun rb tb h1 h2=>cx_of s w gb hg hp ⟨#[]⟩ 0 (by decide) (by omega) rb tb h1 h2) (gok_of s hp) (form_first s hform) ?_ n lo2 hi2 vb v hval hh2 hsz most hmost
 obtain ⟨g,cap,e1,e2,e3⟩:=g2.shape
 obtain ⟨q,qs,rfl⟩:∃ q qs,l=q::qs:=by
  cases l with
  | nil=>rw[show (formV s).rls=x::t from hx] at g3;cases g3
  | cons q qs=>exact ⟨q,qs,rfl⟩
 have hq:q.1=x:=by
  rw[show (formV s).rls=x::t from hx] at g3
  simpa using (List.cons.inj g3).1
 obtain ⟨lo,hi,_,r2,r3⟩:=g2.rep q List.mem_cons_self
 have hc:=(e3 0 (by simp)).2.2
 refine ⟨v',g,_,cap,q.2,s.size+1,lo,hi,g1,e1,by simp,e2,by simpa using hc,?_,r2⟩
 rw[show rulePt (rlsOf s) 0=q.1.its by rw[hx,hq];exact rulePt_head hr0]
 exact r3
theorem treeV_sz (s:ByteArray)(v:Tr (s.size+1))(h:(treeV s).1=some v):szN (v:Nd (Tr s.size))≤8000:=by
 unfold treeV at h
 split at h
 · cases h
 · rename_i hs
   split at h
   · have h1:=valV_sz s (s.size+1) 0 v h
     have h2:=(valV_at s (s.size+1) 0 (Nat.zero_le _)).le
     have h3:szT (s.size+1) v=szN (v:Nd (Tr s.size)):=rfl
     omega
   · cases h
set_option maxRecDepth 100000 in
set_option maxHeartbeats 2000000 in
theorem gface_calls (s tr:ByteArray)(hsl:s.size≤maxLen)(htl:tr.size≤maxLen)(most:Int)(w:World)(hS:Shp w)(hP:PowW w):
 Calls Tryz.prog 19 #[.string s,.string tr,.int .i64 most] w fun e w'=>e=.returned (.tuple #[.string ⟨(genV s tr most).1.toArray⟩,.int .i64 (genV s tr most).2.1,.int .i64 (genV s tr most).2.2])∧Below w.heap.size w w'∧((genV s tr most).2.1=0→((genV s tr most).1.length:Int)≤most):=by
 have HC:=hide' (sread_calls s hsl w hS (fun h1 h2=>form_ok s h1 h2))
 have HP:=hide' hP
 have HTr:=hide' (fun W=>tree_calls tr htl W)
 have HQ:=hide' (fun (a b:Int) (W:World)=>isBudget_calls a b W)
 clear hS hP
 go_enter Tryz.func19,Tryz.ntmps19
 go_wp2_with fail
 refine HC.out.mono ?_
 rintro e w1 ⟨p,rfl,hb,hpost⟩
 have HB:=hide' hb
 have HPo:=hide' hpost
 clear hb hpost
 by_cases hz:(pressV s).1=0
 · obtain ⟨gb,rfl,hgl,hg⟩:=HPo.out hz
   obtain ⟨_,hform,_,_⟩:=pressV_ok s hz
   have hzz:=pressV_zero s hz
   rw[hzz]
   have HG:=hide' hg
   have hs1:=HB.out.size
   have hP1:=hide' (HP.out.below HB.out)
   clear hg
   simp only
   go_wp2_with fail
   refine (HTr.out _).mono ?_
   rintro e w2 ⟨hb2,hor⟩
   have hs2:=hb2.size
   have HB2:=hide' (HB.out.trans (hb2.mono hs1))
   rcases hor with ⟨hnone,rfl⟩ | ⟨x,vb,hsome,rfl,hrep⟩
   · have HV:Hid (genV s tr most=([],9,((treeV tr).2:Int))):=by
      have:genV s tr most=([],9,((treeV tr).2:Int)):=by unfold genV;rw[if_neg (fun h=>h hz),hnone]
      exact this
     clear hnone hb2
     go_wp2_with fail
     go_ret3
     rw[HV.out]
     exact ⟨rfl,HB2.out,fun h=>by cases h⟩
   · have hgW:=HG.out.below hb2
     have hgb2:gb<w2.heap.size:=by obtain ⟨v,l,g1,_,_⟩:=hgW.ex;exact g1.lt
     have hP2:=hide' (hP1.out.below hb2)
     cases hbud:budB most 4000
     · have HV:Hid (genV s tr most=([],5,0)):=by
        have:genV s tr most=([],5,0):=by unfold genV;rw[if_neg (fun h=>h hz),hsome];simp only;rw[if_pos hbud]
        exact this
       clear hsome hb2 hrep
       go_wp2_with (first
        | (go_at_call 26;refine (HQ.out _ _ _).mono ?_;rintro e w9 ⟨rfl,hw9⟩;subst hw9))
       go_ret3
       rw[HV.out]
       exact ⟨rfl,HB2.out,fun h=>by cases h⟩
     · obtain ⟨m,rfl,hm⟩:∃ m:Nat,most=(m:Int)∧m≤4000:=by
        unfold budB at hbud
        simp at hbud
        exact ⟨most.toNat,by omega,by omega⟩
       have hsz:=treeV_sz tr x hsome
       have HGc:=hide' (gen_call s w2 gb hgW hz hform tr.size w1.heap.size w2.heap.size vb x hrep (Nat.le_refl _) hsz m hm)
       have HV0:Hid (genV s tr m=if (genO s tr x m).2≠0 then ([],(genO s tr x m).2,0) else if (⟨(endT (outT s ⟨(genO s tr x m).1.toArray⟩ 100000 10000)).1.toArray⟩:ByteArray)=tr then ((genO s tr x m).1,0,0) else ([],13,0)):=by
        have:genV s tr m=if (genO s tr x m).2≠0 then ([],(genO s tr x m).2,0) else if (⟨(endT (outT s ⟨(genO s tr x m).1.toArray⟩ 100000 10000)).1.toArray⟩:ByteArray)=tr then ((genO s tr x m).1,0,0) else ([],13,0):=by unfold genV;rw[if_neg (fun h=>h hz),hsome];simp only[Int.toNat_natCast];rw[if_neg (by rw[hbud];simp)]
        exact this
       clear hsome hrep hb2
       go_wp2_with (first
        | (go_at_call 26;refine (HQ.out _ _ _).mono ?_;rintro e w9 ⟨rfl,hw9⟩;subst hw9))
       refine HGc.out.mono ?_
       rintro e w3 ⟨rfl,hb3,hgl⟩
       have HGl:Hid ((genO s tr x m).2=0→(genO s tr x m).1.length≤m):=hgl
       clear hgl
       have HB3:=hide' (HB2.out.trans (hb3.mono (by omega)))
       have hgr:genT (rulePt (rlsOf s)) tr.size x m=genO s tr x m:=rfl
       rw[hgr]
       by_cases hz2:(genO s tr x m).2=0
       · have hbl:=HGl.out hz2
         have hgW3:=hgW.below hb3
         have hs3:=hb3.size
         have hgb3:gb<w3.heap.size:=by omega
         have hP3:=hide' (hP2.out.below hb3)
         have hbsz:(⟨(genO s tr x m).1.toArray⟩:ByteArray).size≤4000:=by
          show (genO s tr x m).1.toArray.size≤4000
          rw[List.size_toArray];omega
         have HPP:=hide' (pparse_calls w3 gb ⟨(genO s tr x m).1.toArray⟩ 100000 10000 (outT s ⟨(genO s tr x m).1.toArray⟩ 100000 10000) hgb3 (fun w' hb'=>fmt_of (hP3.out.below hb')) (fun hok=>outT_len s _ hz hform 100000 10000 hbsz (by omega) hok) (fun W hW=>out_call s w3 gb hgW3 hz hform _ 100000 10000 hbsz (by omega) (by omega) W hW) (endT_e _) (endT_ok _))
         rw[hz2]
         have HV1:Hid (genV s tr m=if (⟨(endT (outT s ⟨(genO s tr x m).1.toArray⟩ 100000 10000)).1.toArray⟩:ByteArray)=tr then ((genO s tr x m).1,0,0) else ([],13,0)):=by
          have:genV s tr m=if (⟨(endT (outT s ⟨(genO s tr x m).1.toArray⟩ 100000 10000)).1.toArray⟩:ByteArray)=tr then ((genO s tr x m).1,0,0) else ([],13,0):=by rw[HV0.out,if_neg (fun h=>h hz2)]
          exact this
         have HBl:=hide' hbl
         clear hb3 hgW hgW3 hz2 hbl HV0 HGl HGc hgr hbsz
         generalize (genO s tr x m).1=o at *
         go_wp2_with fail
         refine HPP.out.mono ?_
         rintro e w4 ⟨rfl,hb4⟩
         have HB4:=hide' (HB3.out.trans (hb4.mono (by omega)))
         clear hb4 HPP
         by_cases heq:(⟨(endT (outT s ⟨o.toArray⟩ 100000 10000)).1.toArray⟩:ByteArray)=tr
         · have HV2:Hid (genV s tr m=(o,0,0)):=by
            have:genV s tr m=(o,0,0):=by rw[HV1.out,if_pos heq]
            exact this
           clear HV1
           generalize endT (outT s ⟨o.toArray⟩ 100000 10000)=eo at *
           simp only
           go_wp2_with fail
           go_ret3
           rw[HV2.out]
           exact ⟨rfl,HB4.out,fun _=>by have:=HBl.out;show (o.length:Int)≤_;omega⟩
         · have HV2:Hid (genV s tr m=([],13,0)):=by
            have:genV s tr m=([],13,0):=by rw[HV1.out,if_neg heq]
            exact this
           clear HV1
           generalize endT (outT s ⟨o.toArray⟩ 100000 10000)=eo at *
           simp only
           generalize (⟨eo.1.toArray⟩:ByteArray)=sb at *
           have hql:(sb.toList==tr.toList)=false:=by
            rw[ByteArray.toList_eq,ByteArray.toList_eq]
            cases hq:(sb.data.toList==tr.data.toList) with
            | false=>rfl
            | true=>
             exfalso
             apply heq
             have h1:sb.data.toList=tr.data.toList:=by simpa using hq
             have h2:sb.data=tr.data:=Array.toList_inj.1 h1
             cases sb;cases tr;simp only at h2;rw[h2]
           go_wp2_with fail
           go_ret3
           rw[HV2.out]
           exact ⟨rfl,HB4.out,fun h=>by cases h⟩
       · have HV2:Hid (genV s tr m=([],(genO s tr x m).2,0)):=by
          have:genV s tr m=([],(genO s tr x m).2,0):=by rw[HV0.out,if_pos hz2]
          exact this
         clear hb3 hgW HV0 HGl HGc hgr
         generalize genO s tr x m=go at *
         obtain ⟨o,eo⟩:=go
         simp only at hz2
         go_wp2_with fail
         go_ret3
         rw[HV2.out]
         exact ⟨rfl,HB3.out,fun h=>absurd h hz2⟩
 · have HV:Hid (genV s tr most=([],(pressV s).1,(pressV s).2)):=by
    have:genV s tr most=([],(pressV s).1,(pressV s).2):=by unfold genV;rw[if_pos hz]
    exact this
   generalize pressV s=q at *
   obtain ⟨e0,p0⟩:=q
   simp only at hz HV ⊢
   go_wp2_with fail
   go_ret3
   rw[HV.out]
   exact ⟨rfl,HB.out,fun h=>absurd h hz⟩
end Go.Proofs.YtmlkhhhjdpbhfaaGreatDoor

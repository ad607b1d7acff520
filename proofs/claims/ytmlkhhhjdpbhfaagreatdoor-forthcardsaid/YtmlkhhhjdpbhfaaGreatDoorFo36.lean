import Derived.Test.YtmlkhhhjdpbhfaaGreatDoorFo35
namespace Go.Proofs.YtmlkhhhjdpbhfaaGreatDoor
open Go.RowKit
def HasAt (w:World)(wb pb vb:Nat)(b:Bool):Prop:=∀ W,Below w.heap.size w W→
 Calls Tryz.prog 51 #[.pointer (some ⟨wb,0,none⟩),.pointer (some ⟨pb,0,none⟩),.pointer (some ⟨vb,0,none⟩)] W fun e w'=>HasPost b W e w'
theorem HasAt.below {w w':World}{wb pb vb:Nat}{b:Bool}(h:HasAt w wb pb vb b)(hb:Below w.heap.size w w'):HasAt w' wb pb vb b:=fun W hW=>h W (hb.trans (hW.mono hb.size))
set_option maxHeartbeats 1000000 in
theorem hasOfInner_calls (w:World)(wb pb vb g cap qb:Nat)(b:Bool)(p:Pt)(hpt:PtBlk w pb p)(hv:p.v=.slice (some ⟨g,0,none⟩) 1 cap)(hq:w.cell? ⟨g,0,none⟩=some (.pointer (some ⟨qb,0,none⟩)))(hcall:HasAt w wb qb vb b):
 Calls Tryz.prog 151 #[.pointer (some ⟨wb,0,none⟩),.pointer (some ⟨pb,0,none⟩),.pointer (some ⟨vb,0,none⟩)] w fun e w'=>HasPost b w e w':=by
 have c8:w.cell? ⟨pb,8,none⟩=some (.slice (some ⟨g,0,none⟩) 1 cap):=by rw[← hv];exact hpt.cell 8
 have HC:=hide' hcall
 clear hpt hcall hv
 go_enter Tryz.func151,Tryz.ntmps151
 go_wp2_with fail
 refine (HC.out w (Below.refl _ _)).mono ?_
 rintro e w1 ⟨rfl,hb⟩
 have HB:=hide' hb
 clear hb
 go_wp2_with fail
 go_ret
 exact ⟨rfl,HB.out⟩
theorem PtrsAt.at {w:World}{lo hi:Nat}{v:Value}{l:List Nat}(h:PtrsAt w lo hi v l)(hl:0<l.length):∃ g cap,v=.slice (some ⟨g,0,none⟩) l.length cap∧lo≤g∧g<hi∧l.length≤cap∧∀ j,j<l.length→w.cell? ⟨g,j,none⟩=some (.pointer (some ⟨l.getD j 0,0,none⟩)):=by
 rcases h with ⟨_,rfl⟩ | h
 · simp at hl
 · exact h
theorem PtrsAt.form {w:World}{lo hi:Nat}{v:Value}{l:List Nat}(h:PtrsAt w lo hi v l):∃ q cap,v=.slice q l.length cap:=by
 rcases h with ⟨rfl,rfl⟩ | ⟨g,cap,rfl,_⟩
 · exact ⟨_,_,rfl⟩
 · exact ⟨_,_,rfl⟩
set_option maxRecDepth 100000 in
set_option maxHeartbeats 1000000 in
theorem hasList_calls {T:Type}(H:T→Bool)(w:World)(wb pb vb k n lo hi g cap qb:Nat)(run:ByteArray)(v:Value)(p:Pt)(kids:List (Nat × T))(hpt:PtBlk w pb p)(hv:NdB w vb k n run v)(_hvl:vb<w.heap.size)(hhi:hi≤w.heap.size)(hpl:pb<w.heap.size)(hgl:g<w.heap.size)(hpv:p.v=.slice (some ⟨g,0,none⟩) 1 cap)(hq:w.cell? ⟨g,0,none⟩=some (.pointer (some ⟨qb,0,none⟩)))(hks:PtrsAt w lo hi v (kids.map Prod.fst))(hlen:kids.length≤8000)(hcall:∀ q,q∈kids→HasAt w wb qb q.1 (H q.2)):
 Calls Tryz.prog 135 #[.pointer (some ⟨wb,0,none⟩),.pointer (some ⟨pb,0,none⟩),.pointer (some ⟨vb,0,none⟩)] w fun e w'=>HasPost (decide (k=4)&&(kids.map Prod.snd).all H) w e w':=by
 have c0:w.cell? ⟨vb,0,none⟩=some (.int .i64 (k:Nat)):=hv.blk.cell 0
 have c3:w.cell? ⟨vb,3,none⟩=some v:=hv.blk.cell 3
 have HC:=hide' hcall
 have HK:=hide' hks
 have HPt:=hide' hpt
 by_cases hk:k=4
 · subst hk
   obtain ⟨q,cp,rfl⟩:=hks.form
   clear hv hcall hks hpt
   rw[List.length_map] at c3
   go_enter Tryz.func135,Tryz.ntmps135
   go_wp2_with fail
   go_loopw [19] (fun v19 wr=>∃ j:Nat,v19=.int .i64 (j:Nat)∧j≤kids.length∧Hid (Below w.heap.size w wr)∧Hid (((kids.take j).map Prod.snd).all H=true)) (fun v19 _=>kids.length-(intOf v19).toNat)
   case atStart=>exact ⟨0,rfl,by omega,Below.refl _ _,(by simp:((kids.take 0).map Prod.snd).all H=true)⟩
   case round=>
    obtain ⟨j,rfl,hj,hbel,hall⟩:=hrel
    by_cases hjl:j<kids.length
    · have hjl':(j:Int)<(kids.length:Int):=by omega
      obtain ⟨g2,cap2,e2,h3,h4,_,h5⟩:=HK.out.at (by simp;omega)
      injection e2 with e2 e3 e4
      subst e2
      have hc2:wr.cell? ⟨g2,j,none⟩=some (.pointer (some ⟨kids[j].1,0,none⟩)):=by
       rw[World.cell?_of_block (w:=w) (hbel.out.block g2 (by omega)),h5 j (by simp;omega)]
       simp[hjl]
      have c8:wr.cell? ⟨pb,8,none⟩=some (.slice (some ⟨g,0,none⟩) 1 cap):=by
       rw[World.cell?_of_block (w:=w) (hbel.out.block pb hpl),← hpv];exact HPt.out.cell 8
      have hq2:wr.cell? ⟨g,0,none⟩=some (.pointer (some ⟨qb,0,none⟩)):=by rw[World.cell?_of_block (w:=w) (hbel.out.block g hgl)];exact hq
      have HC2:=hide' (HC.out kids[j] (List.getElem_mem hjl))
      have HT:Hid (((kids.take (j+1)).map Prod.snd).all H=H kids[j].2):=by
       have:((kids.take (j+1)).map Prod.snd).all H=H kids[j].2:=by
        rw[List.take_succ_eq_append_getElem hjl,List.map_append,List.all_append,hall.out];simp
       exact this
      have HA:Hid (H kids[j].2=false→(kids.map Prod.snd).all H=false):=by
       have:H kids[j].2=false→(kids.map Prod.snd).all H=false:=fun h=>by
        rw[List.all_eq_false]
        exact ⟨kids[j].2,List.mem_map.2 ⟨_,List.getElem_mem hjl,rfl⟩,by rw[h];simp⟩
       exact this
      clear h5 hall e4
      generalize kids[j]=kj at *
      go_wp2_with fail
      refine (HC2.out wr hbel.out).mono ?_
      rintro e w2 ⟨rfl,hb2⟩
      have HB2:=hide' (hbel.out.trans (hb2.mono hbel.out.size))
      clear hb2
      cases hH:H kj.2
      · have HE:=hide' (HA.out hH)
        clear hH HT HA
        go_wp2_with fail
        go_ret
        exact ⟨ret_bool (by rw[HE.out];rfl),HB2.out⟩
      · have HE:Hid (((kids.take (j+1)).map Prod.snd).all H=true):=by
         have:((kids.take (j+1)).map Prod.snd).all H=true:=HT.out.trans hH
         exact this
        clear hH HT HA
        go_wp2_with fail
        go_roundw
        case rel=>exact ⟨j+1,by go_num,by omega,HB2,HE⟩
        case measure=>simp[intOf];omega
    · have hjl':¬ (j:Int)<(kids.length:Int):=by omega
      have HE:Hid ((kids.map Prod.snd).all H=true):=by
       have:(kids.map Prod.snd).all H=true:=by
        have h:=hall.out
        rwa [List.take_of_length_le (by omega)] at h
       exact this
      clear hall
      go_wp2_with fail
      go_ret
      exact ⟨ret_bool (by rw[← List.all_map];exact HE.out.symm),hbel.out⟩
 · have hk':((k:Int)==4)=false:=by simp;omega
   clear hv
   go_enter Tryz.func135,Tryz.ntmps135
   go_wp2_with fail
   go_ret
   exact ⟨ret_bool (by simp[hk]),Below.refl _ _⟩
theorem hasKids_sil {T:Type}(H:List It→T→Bool)(k:List It)(ks:List (List It))(vs:List T)(h:silV k=true):hasKids H (k::ks) vs=hasKids H ks vs:=by simp[hasKids,h]
theorem hasKids_none {T:Type}(H:List It→T→Bool)(k:List It)(ks:List (List It))(h:silV k=false):hasKids H (k::ks) ([]:List T)=false:=by simp[hasKids,h]
theorem hasKids_one {T:Type}(H:List It→T→Bool)(k:List It)(ks:List (List It))(y:T)(ys:List T)(h:silV k=false):hasKids H (k::ks) (y::ys)=(H k y&&hasKids H ks ys):=by simp[hasKids,h]
set_option maxRecDepth 100000 in
set_option maxHeartbeats 2000000 in
theorem hasStruct_calls {T:Type}(H:List It→T→Bool)(w:World)(wb pb vb k n lo hi lo2 hi2:Nat)(run:ByteArray)(v:Value)(p:Pt)(kids:List (Nat × T))(ps:List (Nat × List It))(hpt:PtBlk w pb p)(hv:NdB w vb k n run v)(hhi:hi≤w.heap.size)(hhi2:hi2≤w.heap.size)(hps:PtrsAt w lo2 hi2 p.v (ps.map Prod.fst))(hks:PtrsAt w lo hi v (kids.map Prod.fst))(hlen:kids.length≤8000)(hpl:ps.length≤1000)(hsil:∀ q,q∈ps→q.1<w.heap.size∧w.cell? ⟨q.1,7,none⟩=some (.bool (silV q.2)))(hcall:∀ q,q∈ps→∀ y,y∈kids→HasAt w wb q.1 y.1 (H q.2 y.2)):
 Calls Tryz.prog 129 #[.pointer (some ⟨wb,0,none⟩),.pointer (some ⟨pb,0,none⟩),.pointer (some ⟨vb,0,none⟩)] w fun e w'=>HasPost (decide (k=3)&&hasKids H (ps.map Prod.snd) (kids.map Prod.snd)) w e w':=by
 have c0:w.cell? ⟨vb,0,none⟩=some (.int .i64 (k:Nat)):=hv.blk.cell 0
 have c3:w.cell? ⟨vb,3,none⟩=some v:=hv.blk.cell 3
 have c8:w.cell? ⟨pb,8,none⟩=some p.v:=hpt.cell 8
 have HC:=hide' hcall
 have HK:=hide' hks
 have HP:=hide' hps
 have HS:=hide' hsil
 by_cases hk:k=3
 · subst hk
   obtain ⟨q,cp,rfl⟩:=hks.form
   obtain ⟨q2,cp2,hpv⟩:=hps.form
   rw[List.length_map] at c3
   rw[hpv,List.length_map] at c8
   clear hv hcall hks hps hpt hsil
   go_enter Tryz.func129,Tryz.ntmps129
   go_wp2_with fail
   go_loopw [24,7] (fun v24 v7 wr=>∃ (i j:Nat) (vv:Value),v24=.int .i64 (i:Nat)∧vv=v7∧i≤ps.length∧j≤kids.length∧Hid (Below w.heap.size w wr)∧Hid (hasKids H (ps.map Prod.snd) (kids.map Prod.snd)=hasKids H ((ps.drop i).map Prod.snd) ((kids.drop j).map Prod.snd))∧
    ((j=kids.length∧∃ a c,vv=.slice a 0 c)∨(j<kids.length∧∃ g c,vv=.slice (some ⟨g,j,none⟩) (kids.length-j) c∧kids.length-j≤c∧g<w.heap.size∧Hid (∀ m,m<kids.length→w.cell? ⟨g,m,none⟩=some (.pointer (some ⟨(kids.map Prod.fst).getD m 0,0,none⟩)))))) (fun v24 _ _=>ps.length-(intOf v24).toNat)
   case atStart=>
    refine ⟨0,0,_,rfl,rfl,by omega,by omega,Below.refl _ _,rfl,?_⟩
    rcases HK.out with ⟨e1,e2⟩ | ⟨g,c,e1,e2,e3,e4,e5⟩
    · left
      have:kids.length=0:=by have:=congrArg List.length e2;simpa using this
      rw[this]
      exact ⟨rfl,_,_,rfl⟩
    · by_cases h0:kids.length=0
      · left;rw[h0];exact ⟨rfl,_,_,rfl⟩
      · right
        refine ⟨by omega,g,c,?_,?_,by omega,?_⟩
        · simpa using e1
        · simp at e4;omega
        · exact (fun m hm=>e5 m (by simpa using hm):∀ m,m<kids.length→w.cell? ⟨g,m,none⟩=some (.pointer (some ⟨(kids.map Prod.fst).getD m 0,0,none⟩)))
   case round=>
    obtain ⟨i,j,vv,rfl,rfl,hi,hj,hbel,heq,hvv⟩:=hrel
    by_cases hil:i<ps.length
    · have hil':(i:Int)<(ps.length:Int):=by omega
      obtain ⟨g2,cap2,e2,h3,h4,_,h5⟩:=HP.out.at (by simp;omega)
      rw[hpv] at e2
      injection e2 with e2 e3 e4
      subst e2
      obtain ⟨hs1,hs2⟩:=HS.out ps[i] (List.getElem_mem hil)
      have hc2:wr.cell? ⟨g2,i,none⟩=some (.pointer (some ⟨ps[i].1,0,none⟩)):=by
       rw[World.cell?_of_block (w:=w) (hbel.out.block g2 (by omega)),h5 i (by simp;omega)]
       simp[hil]
      have hc7:wr.cell? ⟨ps[i].1,7,none⟩=some (.bool (silV ps[i].2)):=by
       rw[World.cell?_of_block (w:=w) (hbel.out.block ps[i].1 hs1)];exact hs2
      have HD:Hid ((ps.drop i).map Prod.snd=ps[i].2::(ps.drop (i+1)).map Prod.snd):=by
       have:(ps.drop i).map Prod.snd=ps[i].2::(ps.drop (i+1)).map Prod.snd:=by rw[List.drop_eq_getElem_cons hil];rfl
       exact this
      have HCi:=hide' (HC.out ps[i] (List.getElem_mem hil))
      clear h5 hs2 e4
      generalize ps[i]=pi at *
      cases hsl:silV pi.2
      · rw[hsl] at hc7
        have HSl:=hide' hsl
        rcases hvv with ⟨hj2,a,c,rfl⟩ | ⟨hj2,g,c,rfl,hcl,hgl,hcells⟩
        · have HE:Hid (hasKids H (ps.map Prod.snd) (kids.map Prod.snd)=false):=by
           have:hasKids H (ps.map Prod.snd) (kids.map Prod.snd)=false:=by
            rw[heq.out,HD.out,show kids.drop j=[] from List.drop_eq_nil_of_le (by omega)]
            exact hasKids_none H _ _ HSl.out
           exact this
          clear heq hsl
          go_wp2_with fail
          go_ret
          exact ⟨ret_bool (by rw[HE.out]),hbel.out⟩
        · have hne:¬ ((kids.length-j:Nat):Int)=0:=by omega
          have hne':(((kids.length-j:Nat):Int)==0)=false:=by simpa using hne
          have hpos:(0:Int)<((kids.length-j:Nat):Int):=by omega
          have hcj:wr.cell? ⟨g,j,none⟩=some (.pointer (some ⟨kids[j].1,0,none⟩)):=by
           rw[World.cell?_of_block (w:=w) (hbel.out.block g hgl),hcells.out j hj2]
           simp[hj2]
          have HDk:Hid ((kids.drop j).map Prod.snd=kids[j].2::(kids.drop (j+1)).map Prod.snd):=by
           have:(kids.drop j).map Prod.snd=kids[j].2::(kids.drop (j+1)).map Prod.snd:=by rw[List.drop_eq_getElem_cons hj2];rfl
           exact this
          have HCk:=hide' (HCi.out kids[j] (List.getElem_mem hj2))
          have HQ:Hid (hasKids H (ps.map Prod.snd) (kids.map Prod.snd)=(H pi.2 kids[j].2&&hasKids H ((ps.drop (i+1)).map Prod.snd) ((kids.drop (j+1)).map Prod.snd))):=by
           have:hasKids H (ps.map Prod.snd) (kids.map Prod.snd)=(H pi.2 kids[j].2&&hasKids H ((ps.drop (i+1)).map Prod.snd) ((kids.drop (j+1)).map Prod.snd)):=by
            rw[heq.out,HD.out,HDk.out]
            exact hasKids_one H _ _ _ _ HSl.out
           exact this
          have hm1:kids.length-(j+1)=kids.length-j-1:=by omega
          have HM1:=hide' hm1
          obtain ⟨m,hm⟩:∃ m,kids.length-j=m+1:=⟨kids.length-j-1,by omega⟩
          have HMm:Hid (kids.length-(j+1)=m):=by
           have:kids.length-(j+1)=m:=by omega
           exact this
          rw[hm] at hne hne' hpos hcl ⊢
          clear heq hsl HCi HDk HD hm1 hm
          generalize kids[j]=kj at *
          go_wp2_with fail
          refine (HCk.out wr hbel.out).mono ?_
          rintro e w2 ⟨rfl,hb2⟩
          have HB2:=hide' (hbel.out.trans (hb2.mono hbel.out.size))
          clear hb2
          cases hH:H pi.2 kj.2
          · have HE:Hid (hasKids H (ps.map Prod.snd) (kids.map Prod.snd)=false):=by
             have:hasKids H (ps.map Prod.snd) (kids.map Prod.snd)=false:=by rw[HQ.out,hH];rfl
             exact this
            clear hH HQ
            go_wp2_with fail
            go_ret
            exact ⟨ret_bool (by rw[HE.out];rfl),HB2.out⟩
          · have HE:Hid (hasKids H (ps.map Prod.snd) (kids.map Prod.snd)=hasKids H ((ps.drop (i+1)).map Prod.snd) ((kids.drop (j+1)).map Prod.snd)):=by
             have:hasKids H (ps.map Prod.snd) (kids.map Prod.snd)=hasKids H ((ps.drop (i+1)).map Prod.snd) ((kids.drop (j+1)).map Prod.snd):=by rw[HQ.out,hH];rfl
             exact this
            clear hH HQ
            go_wp2_with fail
            refine ⟨⟨i+1,j+1,_,by go_num,rfl,by omega,by omega,HB2,HE,?_⟩,by simp[intOf];omega⟩
            have hmm:=HMm.out
            by_cases hm0:m=0
            · left
              exact ⟨by omega,_,_,by rw[hm0]⟩
            · right
              refine ⟨by omega,g,c-1,?_,by omega,hgl,hcells⟩
              rw[if_neg (by omega),hmm]
      · rw[hsl] at hc7
        have HE:Hid (hasKids H (ps.map Prod.snd) (kids.map Prod.snd)=hasKids H ((ps.drop (i+1)).map Prod.snd) ((kids.drop j).map Prod.snd)):=by
         have:hasKids H (ps.map Prod.snd) (kids.map Prod.snd)=hasKids H ((ps.drop (i+1)).map Prod.snd) ((kids.drop j).map Prod.snd):=by
          rw[heq.out,HD.out]
          exact hasKids_sil H _ _ _ hsl
         exact this
        have HVV:=hide' hvv
        clear heq hsl hvv
        go_wp2_with fail
        go_roundw
        case rel=>exact ⟨i+1,j,_,by go_num,rfl,by omega,hj,hbel,HE,HVV.out⟩
        case measure=>simp[intOf];omega
    · have hil':¬ (i:Int)<(ps.length:Int):=by omega
      have HE:Hid (hasKids H (ps.map Prod.snd) (kids.map Prod.snd)=decide (j=kids.length)):=by
       have:hasKids H (ps.map Prod.snd) (kids.map Prod.snd)=decide (j=kids.length):=by
        rw[heq.out,List.drop_eq_nil_of_le (by omega)]
        show ((kids.drop j).map Prod.snd).isEmpty=_
        by_cases h:j=kids.length
        · rw[decide_eq_true h,List.drop_eq_nil_of_le (by omega)];rfl
        · rw[decide_eq_false h,List.drop_eq_getElem_cons (by omega)];rfl
       exact this
      clear heq
      rcases hvv with ⟨hj2,a,c,rfl⟩ | ⟨hj2,g,c,rfl,hcl,hgl,hcells⟩
      · have HJ:=hide' hj2
        clear hj2
        go_wp2_with fail
        go_ret
        exact ⟨ret_bool (by rw[HE.out,decide_eq_true HJ.out]),hbel.out⟩
      · have hne:(((kids.length-j:Nat):Int)==0)=false:=by simp;omega
        generalize hm:kids.length-j=m at *
        clear hm
        go_wp2_with fail
        go_ret
        exact ⟨ret_bool (by rw[HE.out,decide_eq_false (by omega)]),hbel.out⟩
 · have hk':((k:Int)==3)=false:=by simp;omega
   clear hv
   go_enter Tryz.func129,Tryz.ntmps129
   go_wp2_with fail
   go_ret
   exact ⟨ret_bool (by simp[hk]),Below.refl _ _⟩
set_option maxRecDepth 100000 in
set_option maxHeartbeats 1000000 in
theorem hasChoice_no (w:World)(wb pb vb k n:Nat)(run:ByteArray)(v:Value)(hv:NdB w vb k n run v)(hk:k≠5):
 Calls Tryz.prog 132 #[.pointer (some ⟨wb,0,none⟩),.pointer (some ⟨pb,0,none⟩),.pointer (some ⟨vb,0,none⟩)] w fun e w'=>HasPost false w e w':=by
 have c0:w.cell? ⟨vb,0,none⟩=some (.int .i64 (k:Nat)):=hv.blk.cell 0
 have hk':((k:Int)==5)=false:=by simp;omega
 have hd:decide ((k:Int)=5)=false:=decide_eq_false (by omega)
 clear hv
 go_enter Tryz.func132,Tryz.ntmps132
 go_wp2_with fail
 go_quiet (fail)
 go_wp2_with fail
 go_ret
 exact ⟨rfl,below_drew w _⟩
set_option maxRecDepth 100000 in
set_option maxHeartbeats 2000000 in
theorem hasChoice_yes (w:World)(wb pb vb n g cap qb g2 cap2 yb:Nat)(b:Bool)(run:ByteArray)(p:Pt)(hpt:PtBlk w pb p)(hv:NdB w vb 5 n run (.slice (some ⟨g2,0,none⟩) 1 cap2))(hn:n<2)(hpv:p.v=.slice (some ⟨g,0,none⟩) 2 cap)(hq:w.cell? ⟨g,n,none⟩=some (.pointer (some ⟨qb,0,none⟩)))(hy:w.cell? ⟨g2,0,none⟩=some (.pointer (some ⟨yb,0,none⟩)))(hgl:g<w.heap.size)(hg2:g2<w.heap.size)(hcall:HasAt w wb qb yb b):
 Calls Tryz.prog 132 #[.pointer (some ⟨wb,0,none⟩),.pointer (some ⟨pb,0,none⟩),.pointer (some ⟨vb,0,none⟩)] w fun e w'=>HasPost b w e w':=by
 have hvl:=hv.blk.lt
 have hpl:=hpt.lt
 have hc:∀ W,Below w.heap.size w W→W.cell? ⟨vb,0,none⟩=some (.int .i64 5)∧W.cell? ⟨vb,1,none⟩=some (.int .u32 (n:Nat))∧W.cell? ⟨vb,3,none⟩=some (.slice (some ⟨g2,0,none⟩) 1 cap2)∧W.cell? ⟨pb,8,none⟩=some (.slice (some ⟨g,0,none⟩) 2 cap)∧W.cell? ⟨g,n,none⟩=some (.pointer (some ⟨qb,0,none⟩))∧W.cell? ⟨g2,0,none⟩=some (.pointer (some ⟨yb,0,none⟩)):=fun W hW=>by
  refine ⟨?_,?_,?_,?_,?_,?_⟩
  · rw[World.cell?_of_block (w:=w) (hW.block vb hvl)];exact hv.blk.cell 0
  · rw[World.cell?_of_block (w:=w) (hW.block vb hvl)];exact hv.blk.cell 1
  · rw[World.cell?_of_block (w:=w) (hW.block vb hvl)];exact hv.blk.cell 3
  · rw[World.cell?_of_block (w:=w) (hW.block pb hpl),← hpv];exact hpt.cell 8
  · rw[World.cell?_of_block (w:=w) (hW.block g hgl)];exact hq
  · rw[World.cell?_of_block (w:=w) (hW.block g2 hg2)];exact hy
 have HC:=hide' hc
 have HCall:=hide' hcall
 have hn2:(n:Int)<2:=by omega
 clear hpt hv hpv hq hy hcall hc
 go_enter Tryz.func132,Tryz.ntmps132
 go_wp2_with fail
 obtain ⟨h0,h1,h3,h8,hg,hy⟩:=HC.out w (Below.refl _ _)
 refine wp_region_midW 23 _ rfl (by kernel_rfl) (by kernel_rfl) ?_
 simp only[List.take_succ_cons,List.take_zero,List.drop_succ_cons,List.drop_zero]
 repeat still_step
 refine wpStill_nil ⟨rfl,?_⟩
 unfold Oper.wp
 go_simp
 refine (HCall.out (w.drewN 1) (below_drew w 1)).mono fun e4 w4 hpo=>?_
 obtain ⟨rfl,hb⟩:=hpo
 have HB:=hide' ((below_drew w 1).trans hb)
 clear hb h0 h1 h3 h8 hg hy
 simp only
 repeat still_step
 refine wpStill_nil ?_
 go_wp2_with fail
 go_ret
 exact ⟨rfl,HB.out⟩
theorem kOf_six (c:Int)(hc:c=82∨c=39∨kAny c=true)(h:c≠82):¬ kOf c=6:=by
 rcases kinds_list c hc with rfl | rfl | rfl | rfl | rfl | rfl | rfl | rfl | rfl | rfl | rfl | rfl | rfl | rfl | rfl
 all_goals first | exact absurd rfl h | (intro e;revert e;decide)
theorem CxOk.glen {c:Cx}(hc:CxOk c)(r:Nat)(hr:c.R r=true):(c.G r).length≤1000:=by
 obtain ⟨v,l,_,h2,h3⟩:=hc.gr
 obtain ⟨i,hi,_,_,hG⟩:=h3 r hr
 rw[hG]
 exact (h2.rul l[i] (List.getElem_mem hi)).2
theorem TrW.item {R:Nat→Bool}{own ctx:Bool}{x:It}{r:List It}(h:TrW R own ctx (x::r)):ItR x:=by
 obtain ⟨f,h⟩:=h
 cases f with
 | zero=>exact h.elim
 | succ f=>exact h.1
def ruleHasB {T:Type}(G:Nat→List It)(H:List It→T→Bool)(k:Nat)(its:List It)(v:Nd T):Bool:=match ruleEnd G k its with | none=>false | some q=>hasTop H q v
structure AtRl {T:Type} (c:Cx) (H:List It→T→Bool) (v:Nd T) (w:World) (its:List It) (j pb:Nat) (wr:World):Prop where
 bel:Below w.heap.size w wr
 ex:∃ (x:It) (r:List It) (sl:Bool) (f lo hi:Nat),RepS f c.w0 lo hi pb sl (x::r)∧hi≤c.w0.heap.size∧x.c=82∧(0≤x.r∧x.r<8)∧c.R x.r.toNat=true∧ruleHasB c.G H 8 its v=ruleHasB c.G H (8-j) (x::r) v
set_option maxRecDepth 100000 in
set_option maxHeartbeats 2000000 in
theorem hasOfRule_calls {T:Type}(c:Cx)(hc:CxOk c)(H:List It→T→Bool)(v:Nd T)(w:World)(wb pb vb:Nat)(its:List It)(hp:HPre c w wb)(h0:AtRl c H v w its 0 pb w)(htop:∀ qb f lo hi y r,RepS f c.w0 lo hi qb false (y::r)→hi≤c.w0.heap.size→TrW c.R false false (y::r)→(y::r).length≤1000→y.c≠82→HasAt w wb qb vb (hasTop H (y::r) v)):
 Calls Tryz.prog 138 #[.pointer (some ⟨wb,0,none⟩),.pointer (some ⟨pb,0,none⟩),.pointer (some ⟨vb,0,none⟩)] w fun e w'=>HasPost (ruleHasB c.G H 8 its v) w e w':=by
 have HP:=hide' hp
 have HC:=hide' hc
 have HT:=hide' htop
 have HA:=hide' h0
 clear hp hc htop h0
 go_enter Tryz.func138,Tryz.ntmps138
 go_wp2_with fail
 go_loopw [1,7] (fun v1 v7 wr=>∃ j qb:Nat,v7=.int .i64 (j:Nat)∧v1=.pointer (some ⟨qb,0,none⟩)∧j≤8∧Hid (AtRl c H v w its j qb wr)) (fun _ v7 _=>8-(intOf v7).toNat)
 case atStart=>exact ⟨0,pb,rfl,rfl,by omega,HA⟩
 case round=>
  clear HA
  obtain ⟨j,qb,rfl,rfl,hj,hat⟩:=hrel
  by_cases hj8:j<8
  · have hj8':(j:Int)<8:=by omega
    obtain ⟨x,r,sl,f,lo,hi,hrep,hhi,hxc,⟨hr0,hr8⟩,hR,heq⟩:=hat.out.ex
    obtain ⟨n,hn⟩:∃ n:Nat,x.r=(n:Int):=⟨x.r.toNat,by omega⟩
    obtain ⟨f',kids,p,hpt0,hit,_,_,_,_,_,hpbh⟩:=hrep.open
    have hble:=hat.out.bel.size
    have hpre:=HP.out.below hat.out.bel
    have hpt:PtBlk wr qb p:=hpt0.below hpre.bel (by omega)
    have c6:wr.cell? ⟨qb,6,none⟩=some (.int .i64 (n:Nat)):=by rw[← hn,← (hit.ru hxc).2];exact hpt.cell 6
    have c45:wr.cell? ⟨wb,45,none⟩=some (.pointer (some ⟨c.gb,0,none⟩)):=hpre.gr
    rw[hn] at hR
    simp only[Int.toNat_natCast] at hR
    have HE:Hid (ruleHasB c.G H 8 its v=ruleHasB c.G H (8-j) (x::r) v):=heq
    have HN:=hide' hn
    have HPr:=hide' hpre
    clear hrep hhi hxc hr0 hr8 hpt0 hit hpbh hpt hpre heq hn
    go_wp2_with fail
    refine wp_region_mid 8 _ rfl rfl (by kernel_rfl) (by kernel_rfl) ?_
    simp only[List.take_succ_cons,List.take_zero,List.drop_succ_cons,List.drop_zero]
    repeat still_step
    refine wpStill_nil ?_
    unfold Oper.wp
    go_simp
    refine (partOf_calls c HC.out (wr.drewN 1) (HPr.out.bel.trans ((below_drew wr 1).mono HPr.out.bel.size)) n hR).mono ?_
    rintro e w2 ⟨qb2,f2,lo2,hi2,rfl,hb2,hrep2,hhi2⟩
    have HB2:Hid (Below w.heap.size w w2):=by
     have:Below w.heap.size w w2:=hat.out.bel.trans (((below_drew wr 1).trans hb2).mono hat.out.bel.size)
     exact this
    have hwf:=HC.out.wf n hR
    obtain ⟨y,r2,hG⟩:∃ y r2,c.G n=y::r2:=by
     obtain ⟨f0,hw0⟩:=hwf
     cases hg:c.G n with
     | nil=>rw[hg] at hw0;cases f0<;>exact hw0.elim
     | cons y r2=>exact ⟨y,r2,rfl⟩
    rw[hG] at hrep2 hwf
    have hhead:=hrep2.open
    obtain ⟨f3,kids2,p2,hpt2,hit2,_,_,_,_,_,hpb2⟩:=hhead
    have hpre2:=HP.out.below HB2.out
    have hptw:PtBlk w2 qb2 p2:=hpt2.below hpre2.bel (by omega)
    have q0:w2.cell? ⟨qb2,0,none⟩=some (.int .i64 (kOf y.c)):=by rw[← hit2.k];exact hptw.cell 0
    have HRep2:=hide' hrep2
    have HWf:=hide' hwf
    have HG:=hide' hG
    clear hb2 hrep2 hpt2 hit2 hptw hwf hG
    simp only
    repeat still_step
    refine wpStill_nil ?_
    by_cases hy:y.c=82
    · have hk6:kOf y.c=6:=by rw[hy];rfl
      rw[hk6] at q0
      have HAn:Hid (AtRl c H v w its (j+1) qb2 w2):=by
       have:AtRl c H v w its (j+1) qb2 w2:=by
        obtain ⟨f0,hw0⟩:=HWf.out
        cases f0 with
        | zero=>exact hw0.elim
        | succ f0=>
         obtain ⟨hx,_,_,hrule,_⟩:=hw0
         refine ⟨HB2.out,y,r2,false,f2,lo2,hi2,HRep2.out,hhi2,hy,hx.it.r hy,hrule hy,?_⟩
         rw[HE.out,show 8-j=(8-(j+1))+1 by omega]
         unfold ruleHasB
         rw[ruleEnd,HN.out,Int.toNat_natCast,HG.out]
         simp only[hy,if_true]
       exact this
      clear hy hk6
      go_wp2_with fail
      go_roundw
      case rel=>exact ⟨j+1,qb2,by go_num,rfl,by omega,HAn⟩
      case measure=>simp[intOf];omega
    · have hk6:¬ kOf y.c=6:=kOf_six y.c HWf.out.item.it.c hy
      have hk6':(kOf y.c==6)=false:=by simpa using hk6
      have HV:Hid (ruleHasB c.G H 8 its v=hasTop H (y::r2) v):=by
       have:ruleHasB c.G H 8 its v=hasTop H (y::r2) v:=by
        rw[HE.out,show 8-j=(8-(j+1))+1 by omega]
        unfold ruleHasB
        rw[ruleEnd,HN.out,Int.toNat_natCast,HG.out]
        simp only[hy,if_false]
       exact this
      have HTop:=hide' (HT.out qb2 f2 lo2 hi2 y r2 HRep2.out hhi2 HWf.out (by rw[← HG.out];exact HC.out.glen n hR) hy)
      generalize kOf y.c=kk at *
      clear hy
      go_wp2_with fail
      refine (HTop.out w2 HB2.out).mono ?_
      rintro e w3 ⟨rfl,hb3⟩
      have HB3:=hide' (HB2.out.trans (hb3.mono HB2.out.size))
      clear hb3
      go_wp2_with fail
      go_ret
      exact ⟨ret_bool HV.out.symm,HB3.out⟩
  · have hj8':¬ (j:Int)<8:=by omega
    have HV:Hid (ruleHasB c.G H 8 its v=false):=by
     have:ruleHasB c.G H 8 its v=false:=by
      obtain ⟨x,r,sl,f,lo,hi,_,_,_,_,_,heq⟩:=hat.out.ex
      rw[heq,show 8-j=0 by omega]
      rfl
     exact this
    go_wp2_with fail
    go_ret
    exact ⟨ret_bool HV.out.symm,hat.out.bel⟩
theorem run_hasNumber:∀ args W,Sem.run Tryz.prog (callFunc 121 args) W=.ok (.enter 121 args) W:=fun args W=>by
 unfold callFunc
 go_simp
 simp[Tryz.f121]
theorem run_hasNothing:∀ args W,Sem.run Tryz.prog (callFunc 126 args) W=.ok (.enter 126 args) W:=fun args W=>by
 unfold callFunc
 go_simp
 simp[Tryz.f126]
theorem run_hasStruct:∀ args W,Sem.run Tryz.prog (callFunc 129 args) W=.ok (.enter 129 args) W:=fun args W=>by
 unfold callFunc
 go_simp
 simp[Tryz.f129]
theorem run_hasChoice:∀ args W,Sem.run Tryz.prog (callFunc 132 args) W=.ok (.enter 132 args) W:=fun args W=>by
 unfold callFunc
 go_simp
 simp[Tryz.f132]
theorem run_hasList:∀ args W,Sem.run Tryz.prog (callFunc 135 args) W=.ok (.enter 135 args) W:=fun args W=>by
 unfold callFunc
 go_simp
 simp[Tryz.f135]
theorem run_hasOfRule:∀ args W,Sem.run Tryz.prog (callFunc 138 args) W=.ok (.enter 138 args) W:=fun args W=>by
 unfold callFunc
 go_simp
 simp[Tryz.f138]
theorem run_hasNone:∀ args W,Sem.run Tryz.prog (callFunc 141 args) W=.ok (.enter 141 args) W:=fun args W=>by
 unfold callFunc
 go_simp
 simp[Tryz.f141]
theorem run_hasRun:∀ args W,Sem.run Tryz.prog (callFunc 146 args) W=.ok (.enter 146 args) W:=fun args W=>by
 unfold callFunc
 go_simp
 simp[Tryz.f146]
theorem run_hasOfInner:∀ args W,Sem.run Tryz.prog (callFunc 151 args) W=.ok (.enter 151 args) W:=fun args W=>by
 unfold callFunc
 go_simp
 simp[Tryz.f151]
end Go.Proofs.YtmlkhhhjdpbhfaaGreatDoor

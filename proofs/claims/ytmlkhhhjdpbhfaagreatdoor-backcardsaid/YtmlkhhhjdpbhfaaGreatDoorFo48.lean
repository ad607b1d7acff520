import Derived.Test.YtmlkhhhjdpbhfaaGreatDoorFo47
import Derived.Test.YtmlkhhhjdpbhfaaGreatDoorFo13
import Derived.Test.YtmlkhhhjdpbhfaaGreatDoorFo23
namespace Go.Proofs.YtmlkhhhjdpbhfaaGreatDoor
open Go.RowKit Go.Shelf
attribute [local go_sem] Oper.semAt_some
set_option maxRecDepth 100000 in
set_option maxHeartbeats 4000000 in
theorem putSums_calls (c:Cx)(B:Nat)(w:World)(wb:Nat)(bv tv sv:Value)(svs:List Value)(hbs:List Nat)(st:Wr)(h:WrM c B w wb bv tv sv svs hbs st)(hl:st.out.length≤4000)(hne:st.sums≠[])(hsl:st.sums.length≤100000000)(hok:∀ l∈st.sums,∀ s∈l,SuOk s st.out.length):
 Calls Tryz.prog 53 #[.pointer (some ⟨wb,0,none⟩)] w fun e w'=>e=.returned (.tuple #[])∧WrM c B w' wb bv tv sv svs hbs { st with out:=putSums st }∧Below B w w':=by
 have hwb:=h.ge wb List.mem_cons_self
 have hL:0<svs.length:=by rw[h.sumsL];exact List.length_pos_iff.2 hne
 obtain ⟨g,cap,rfl,hgl⟩:∃ g cap,sv=.slice (some ⟨g,0,none⟩) svs.length cap∧g<w.heap.size:=by
  rcases h.sums.2 with ⟨_,h0⟩ | ⟨g,cap,cur,e,_,hg,_⟩
  · omega
  · exact ⟨g,cap,e,(Array.getElem?_eq_some_iff.1 hg).1⟩
 have c49:∀ o,(w.alloc o).cell? ⟨wb,49,none⟩=some (.slice (some ⟨g,0,none⟩) svs.length cap):=fun o=>(Blk.alloc h.blk o).cell 49
 have HM:=hide' h
 have HOk:=hide' hok
 clear h hok hne
 refine (callsIn_wide (n:=9)).1 ?_
 refine callsIn_of_wp_marks Tryz.func53 rfl trivial ?_ rfl
 simp only[Tryz.ntmps53,List.size_toArray,List.length_cons,List.length_nil,Nat.reduceAdd,Nat.reduceSub,Array.replicate_succ,Array.replicate_zero,List.push_toArray,List.append_toArray,List.nil_append,List.cons_append]
 gi_wp2_with (refine ⟨trivial,?_⟩;gi_at_call 79;refine (bwd_in Fence.wide 8 trivial rfl _ _ _ _).mono ?_;rintro e w' ⟨rfl,rfl⟩)
 have bW:=(Boxed.new w 107 (.pointer (some ⟨wb,0,none⟩))).alloc (.cells #[.slice (some ⟨g,0,none⟩) svs.length cap] 118)
 have bS:=Boxed.new (w.alloc (.cells #[.pointer (some ⟨wb,0,none⟩)] 107)) 118 (.slice (some ⟨g,0,none⟩) svs.length cap)
 simp only[World.size_alloc] at bS
 have hB0:Below w.heap.size w ((w.alloc (.cells #[.pointer (some ⟨wb,0,none⟩)] 107)).alloc (.cells #[.slice (some ⟨g,0,none⟩) svs.length cap] 118)):=((Below.refl _ w).alloc (Nat.le_refl _) _).alloc (by simp) _
 have hsz:((w.alloc (.cells #[.pointer (some ⟨wb,0,none⟩)] 107)).alloc (.cells #[.slice (some ⟨g,0,none⟩) svs.length cap] 118)).heap.size=w.heap.size+2:=by simp
 obtain ⟨W0,hW0⟩:∃ W0,(w.alloc (.cells #[.pointer (some ⟨wb,0,none⟩)] 107)).alloc (.cells #[.slice (some ⟨g,0,none⟩) svs.length cap] 118)=W0:=⟨_,rfl⟩
 rw[hW0] at bW bS hB0 hsz ⊢
 clear hW0
 have hcell:∀ j,j<svs.length→W0.cell? ⟨g,j,none⟩=some (sumS svs j):=fun j hj=>by
  rw[World.cell?_of_block (w:=w) (hB0.block g hgl),HM.out.sums.cellAt j (by omega)]
  unfold sumS
  rw[List.getElem?_eq_getElem hj]
  rfl
 have hIown:OwnFrom W0.heap.size (fun (pre:List Nat) (W:World)=>(WrM c B W wb bv tv (.slice (some ⟨g,0,none⟩) svs.length cap) svs hbs { st with out:=outAt st pre }∧Boxed W w.heap.size 107 (.pointer (some ⟨wb,0,none⟩))∧Boxed W (w.heap.size+1) 118 (.slice (some ⟨g,0,none⟩) svs.length cap))∧Below B w W):=by
  intro pre X Y row hs hg hr
  have hne:∀ b,b<W0.heap.size→some b≠row:=fun b hb e=>by have:=(hr b e.symm).1;omega
  have hBX:=hs.2.size
  have hbl:∀ b,b<w.heap.size→Y.heap[b]? = X.heap[b]? := fun b hb=>hg.block b (by omega) (hne b (by omega))
  have hXY:Below B X Y:=⟨hg.os,hg.tape,hg.output,hg.size,fun k hk=>hbl k (by omega)⟩
  refine ⟨⟨hs.1.1.keepOn hXY (fun b hm=>hbl b (HM.out.ge b hm).2) (fun b e=>hbl b (HM.out.out.lt b e).2),?_⟩,hs.2.trans hXY⟩
  exact ⟨hs.1.2.1.kept hg (hne _ (by omega)),hs.1.2.2.kept hg (hne _ (by omega))⟩
 refine wpIn_rangeFunc_ownF rfl (by omega) (gf:=161) (lb:=#[.pointer (some ⟨w.heap.size+1,0,none⟩)]) rfl trivial (enters_of Tryz.func161 (by kernel_rfl) rfl)
  (bwd_stops Fence.wide 8 trivial rfl (by omega) (w.heap.size+1) g svs.length cap (sumS svs) (by rw[HM.out.sumsL];exact hsl) W0 (by omega) (by omega) bS.cell hcell) Kp2.trans ?hKb (Below.refl _ _) (fun _=>rfl)
  _ (fun _ _ _=>False) hIown (fun _ _ _ _ _ hs _ _=>hs) ?h0
  (fun x=>{ tmps:=#[.pointer (some ⟨wb,0,none⟩),.pointer (some ⟨w.heap.size,0,none⟩),undef,sumS svs x,undef,undef,.pointer (some ⟨wb,0,none⟩),.pointer (some ⟨wb,0,none⟩),.pointer (some ⟨wb,49,none⟩),.slice (some ⟨g,0,none⟩) svs.length cap,.func (.func 161) #[] #[.pointer (some ⟨w.heap.size+1,0,none⟩)],.int .i64 (x:Nat),sumS svs x,undef,undef,undef,undef,undef,undef,undef,undef,undef,undef,undef,undef,undef,undef,undef,undef,undef,undef,undef,undef,undef,undef,undef,undef,undef],defers:=[] })
  ?assign ?body ?done ?stop
 case hKb=>
  intro W l o o' h1 h2 _ _
  have hl2:=(Array.getElem?_eq_some_iff.1 h2).1
  have hg2:=grownBy_putObj' W l o'
  exact ⟨hg2.block g (by omega) (fun e=>by cases e;omega),hg2.block (w.heap.size+1) (by omega) (fun e=>by cases e;omega)⟩
 case h0=>
  refine ⟨⟨?_,bW,bS⟩,hB0.mono (by omega)⟩
  exact HM.out.keepOn (hB0.mono (by omega)) (fun b hm=>hB0.block b (HM.out.ge b hm).2) (fun b e=>hB0.block b (HM.out.out.lt b e).2)
 case assign=>
  intro l x W K hK
  gi_wp2
  exact hK
 case body=>
  rintro l pre x W ⟨⟨hM,hbx,hbs2⟩,hB⟩ _
  have hrow0:W.ownsRow B 199 5 (sumS svs x) (sumL st x).length ((sumL st x).flatMap spC):=hM.sumRow x
  obtain ⟨q3,cp3,hq3⟩:=owns_form hrow0
  have HSok:Hid (∀ s∈sumL st x,SuOk s st.out.length):=by
   have:∀ s∈sumL st x,SuOk s st.out.length:=fun s hs=>by
    obtain ⟨l,hl,hm⟩:=sumL_mem hs
    exact HOk.out l hl s hm
   exact this
  have HLo:=hide' (outAt_len HOk.out pre)
  have HSn:=hide' (outAt_snoc st pre x)
  have HQ3:=hide' hq3
  simp only[hq3]
  have hlm:(sumL st x).length≤9223372036854775807:=by
   rcases hrow0.2 with ⟨_,h0⟩ | ⟨_,_,_,_,_,_,h1,h2,_⟩
   · omega
   · unfold maxLen at h2;omega
  have HM1:=hide' hM
  have HBx:=hide' hbx
  have HBs:=hide' hbs2
  have HB:=hide' hB
  clear hM hbx hbs2 hB hrow0 hq3 hcell hB0 bW bS c49 hIown
  gi_wp2
  gi_loopw [15] (fun v15 wr=>∃ k:Nat,v15=.int .i64 (k:Nat)∧k≤(sumL st x).length∧Hid (WrM c B wr wb bv tv (.slice (some ⟨g,0,none⟩) svs.length cap) svs hbs { st with out:=((sumL st x).take k).foldl putSp (outAt st pre) })∧Hid (Boxed wr w.heap.size 107 (.pointer (some ⟨wb,0,none⟩)))∧Hid (Boxed wr (w.heap.size+1) 118 (.slice (some ⟨g,0,none⟩) svs.length cap))∧Hid (Below B w wr)∧Hid (KeepsOthers W wr)∧Hid (Kp2 g (w.heap.size+1) W wr)) (fun v15 _=>(sumL st x).length-(intOf v15).toNat)
  case atStart=>exact ⟨0,rfl,by omega,HM1,HBx,HBs,HB,KeepsOthers.refl _,(⟨rfl,rfl⟩:Kp2 g (w.heap.size+1) W W)⟩
  case round=>
   clear HM1 HBx HBs HB
   obtain ⟨k,rfl,hk,hM,hbx,hbs2,hB,hKO,hKp⟩:=hrel
   by_cases hkl:k<(sumL st x).length
   · have hkl':(k:Int)<((sumL st x).length:Int):=by omega
     have hrow:wr.ownsRow B 199 5 (.slice q3 (sumL st x).length cp3) (sumL st x).length ((sumL st x).flatMap spC):=by rw[← HQ3.out];exact hM.out.sumRow x
     obtain ⟨g3,rfl⟩:∃ g3,q3=some ⟨g3,0,none⟩:=by
      rcases hrow.2 with ⟨_,h0⟩ | ⟨g3,_,_,e,_⟩
      · omega
      · injection e with e1 e2 e3;exact ⟨g3,e1⟩
     have hcc:∀ j,j<5→wr.cell? ⟨g3,k*5+j,none⟩=(spC (sumL st x)[k])[j]? := fun j hj=>by rw[hrow.cellAt (k*5+j) (by omega),sp_get _ k hkl j hj]
     have k0:wr.cell? ⟨g3,k*5,none⟩=_:=hcc 0 (by omega)
     have k1:=hcc 1 (by omega)
     have k2:=hcc 2 (by omega)
     have k3:=hcc 3 (by omega)
     have k4:wr.cell? ⟨g3,k*5+4,none⟩=some (.func (.func (putF (sumL st x)[k].ho.low)) #[] #[]):=hcc 4 (by omega)
     simp only[spC,hoC,Option.getD_some,List.cons_append,List.nil_append,List.getElem?_cons_zero,List.getElem?_cons_succ] at k0 k1 k2 k3
     have HSk:=hide' (HSok.out _ (List.getElem_mem hkl))
     have HTk:Hid (((sumL st x).take (k+1)).foldl putSp (outAt st pre)=putSp (((sumL st x).take k).foldl putSp (outAt st pre)) (sumL st x)[k]):=by
      have:((sumL st x).take (k+1)).foldl putSp (outAt st pre)=putSp (((sumL st x).take k).foldl putSp (outAt st pre)) (sumL st x)[k]:=by
       rw[List.take_succ_eq_append_getElem hkl,List.foldl_append];rfl
      exact this
     have HLk:Hid ((((sumL st x).take k).foldl putSp (outAt st pre)).length=st.out.length):=by
      have:(((sumL st x).take k).foldl putSp (outAt st pre)).length=st.out.length:=foldSp_len _ _ _ HLo.out fun s hs=>HSok.out s (List.mem_of_mem_take hs)
      exact this
     clear hrow hcc
     generalize (sumL st x)[k]=s at *
     generalize ((sumL st x).take k).foldl putSp (outAt st pre)=o at *
     gi_wp2
     have hA:=Blk.new wr #[.int .i64 (s.a:Nat),.int .i64 (s.b:Nat),.int .i64 (s.ho.pl:Nat),.int .i64 (s.ho.w:Nat),.func (.func (putF s.ho.low)) #[] #[]] 199
     have hbA:=(Below.refl wr.heap.size wr).alloc (Nat.le_refl _) (.cells #[.int .i64 (s.a:Nat),.int .i64 (s.b:Nat),.int .i64 (s.ho.pl:Nat),.int .i64 (s.ho.w:Nat),.func (.func (putF s.ho.low)) #[] #[]] 199)
     have hswr:=hB.out.size
     have hMA:=hM.out.keep (hbA.mono (by omega)) (fun k _ h2=>hbA.block k h2)
     have hbxA:=hbx.out.alloc (.cells #[.int .i64 (s.a:Nat),.int .i64 (s.b:Nat),.int .i64 (s.ho.pl:Nat),.int .i64 (s.ho.w:Nat),.func (.func (putF s.ho.low)) #[] #[]] 199)
     have HA:=hide' hA
     have HbA:=hide' hbA
     have HMA:=hide' hMA
     have HBxA:=hide' hbxA
     have hsA:(wr.alloc (.cells #[.int .i64 (s.a:Nat),.int .i64 (s.b:Nat),.int .i64 (s.ho.pl:Nat),.int .i64 (s.ho.w:Nat),.func (.func (putF s.ho.low)) #[] #[]] 199)).heap.size=wr.heap.size+1:=by simp
     clear hA hbA hMA hbxA k0 k1 k2 k3 k4
     generalize wr.alloc (.cells #[.int .i64 (s.a:Nat),.int .i64 (s.b:Nat),.int .i64 (s.ho.pl:Nat),.int .i64 (s.ho.w:Nat),.func (.func (putF s.ho.low)) #[] #[]] 199)=WA at *
     obtain ⟨hs1,hs2,hs3⟩:=HSk.out
     have ho1:=hs3.lt
     have ho2:=hs3.pos
     have ho3:=hs3.le
     have HLk2:=HLk.out
     obtain ⟨gb,cpb,hbv,hcpb⟩:∃ gb cpb,bv=.slice (some ⟨gb,0,none⟩) o.length cpb∧o.length≤cpb:=by
      rcases HMA.out.out.2 with ⟨_,h0⟩ | ⟨gb,cpb,_,e,_,_,h1,_⟩
      · simp only at h0;omega
      · exact ⟨gb,cpb,e,h1⟩
     have hc1:(s.a:Int)≤(s.b:Int):=by omega
     have hc2:(s.b:Int)≤(cpb:Int):=by omega
     have hc3:¬ (cpb<s.b):=by omega
     have hc4:¬ ((cpb:Int)<(s.b:Int)):=by omega
     have hc5:¬ ((s.b:Int)<(s.a:Int)):=by omega
     have hc6:s.a≤s.b:=by omega
     have hc7:s.b≤cpb:=by omega
     have hdr:Below B WA (WA.drewN 1):=⟨rfl,rfl,rfl,Nat.le_refl _,fun _ _=>rfl⟩
     have hMd:=HMA.out.keep hdr (fun _ _ _=>rfl)
     have hcv:=conv_win (by have:=hMd.out;rw[hbv] at this;exact this) s.a s.b hc6 (by omega) hcpb (cpb-s.a)
     have hstz:(⟨((o.drop s.a).take (s.b-s.a)).toArray⟩:ByteArray).size=s.b-s.a:=by
      show ((o.drop s.a).take (s.b-s.a)).toArray.size=_
      rw[List.size_toArray,List.length_take,List.length_drop]
      omega
     have HSm:=hide' (fun W=>sum_calls ⟨((o.drop s.a).take (s.b-s.a)).toArray⟩ (by rw[hstz];omega) s.ho.w ho3 W)
     have HPu:Hid (putSp o s=putAt o s.ho (sumV ⟨((o.drop s.a).take (s.b-s.a)).toArray⟩ s.ho.w (s.b-s.a))):=(rfl:putSp o s=putAt o s.ho (sumV ⟨((o.drop s.a).take (s.b-s.a)).toArray⟩ s.ho.w (s.b-s.a)))
     have HStz:=hide' hstz
     have HOl:=hide' (show o.length≤4000 by omega)
     have HHo:Hid (HoOk s.ho o.length):=by
      have:HoOk s.ho o.length:=by rw[HLk2];exact hs3
      exact this
     have HMd:=hide' hMd
     clear HLk2 hstz hMd
     generalize (⟨((o.drop s.a).take (s.b-s.a)).toArray⟩:ByteArray)=sb at *
     refine wpIn_region_seg (fun W'=>W'.cell? ⟨w.heap.size,0,none⟩=some (.pointer (some ⟨wb,0,none⟩))∧W'.cell? ⟨wb,46,none⟩=some (.slice (some ⟨gb,0,none⟩) o.length cpb)∧W'.cell? ⟨wr.heap.size,0,none⟩=some (.int .i64 (s.a:Nat))∧W'.cell? ⟨wr.heap.size,1,none⟩=some (.int .i64 (s.b:Nat))∧W'.cell? ⟨wr.heap.size,2,none⟩=some (.int .i64 (s.ho.pl:Nat))∧W'.cell? ⟨wr.heap.size,3,none⟩=some (.int .i64 (s.ho.w:Nat))∧W'.cell? ⟨wr.heap.size,4,none⟩=some (.func (.func (putF s.ho.low)) #[] #[]))
      [([0,1,2,3,4,5,6,7,8,9,10,11,13,14,15],12),([],16),([],17)] rfl (by kernel_rfl) (fun _ _ d _ _ h=>by cases d<;>exact h) ?hC ?seg
     case hC=>exact ⟨HBxA.out.cell,by have:=HMA.out.blk.cell 46;rw[hbv] at this;exact this,HA.out.cell 0,HA.out.cell 1,HA.out.cell 2,HA.out.cell 3,HA.out.cell 4⟩
     case seg=>
      simp only[wpSeg,List.filterMap_cons,List.filterMap_nil,List.getElem?_toArray,List.getElem?_cons_zero,List.getElem?_cons_succ]
      refine wpX_step (.pointer (some ⟨wb,0,none⟩)) rfl (fun W' hC=>by obtain ⟨d0,d1,d2,d3,d4,d5,d6⟩:=hC;go_simp) ?_
      refine wpX_step (.pointer (some ⟨wr.heap.size,2,none⟩)) rfl (fun W' hC=>by go_simp) ?_
      refine wpX_step (.agg #[.int .i64 (s.ho.pl:Nat),.int .i64 (s.ho.w:Nat),.func (.func (putF s.ho.low)) #[] #[]]) rfl (fun W' hC=>by obtain ⟨d0,d1,d2,d3,d4,d5,d6⟩:=hC;go_simp) ?_
      refine wpX_step (.pointer (some ⟨wb,0,none⟩)) rfl (fun W' hC=>by obtain ⟨d0,d1,d2,d3,d4,d5,d6⟩:=hC;go_simp) ?_
      refine wpX_step (.pointer (some ⟨wb,0,none⟩)) rfl (fun W' hC=>by go_simp) ?_
      refine wpX_step (.pointer (some ⟨wb,46,none⟩)) rfl (fun W' hC=>by go_simp) ?_
      refine wpX_step (.slice (some ⟨gb,0,none⟩) o.length cpb) rfl (fun W' hC=>by obtain ⟨d0,d1,d2,d3,d4,d5,d6⟩:=hC;go_simp) ?_
      refine wpX_step (.pointer (some ⟨wr.heap.size,0,none⟩)) rfl (fun W' hC=>by go_simp) ?_
      refine wpX_step (.int .i64 (s.a:Nat)) rfl (fun W' hC=>by obtain ⟨d0,d1,d2,d3,d4,d5,d6⟩:=hC;go_simp) ?_
      refine wpX_step (.pointer (some ⟨wr.heap.size,1,none⟩)) rfl (fun W' hC=>by go_simp) ?_
      refine wpX_step (.int .i64 (s.b:Nat)) rfl (fun W' hC=>by obtain ⟨d0,d1,d2,d3,d4,d5,d6⟩:=hC;go_simp) ?_
      refine wpX_step (.slice (if cpb=s.a then some ⟨gb,0,none⟩ else some ⟨gb,s.a,none⟩) (s.b-s.a) (cpb-s.a)) rfl (fun W' hC=>by go_simp) ?_
      refine wpX_step (.pointer (some ⟨wr.heap.size,2,none⟩)) rfl (fun W' hC=>by go_simp) ?_
      refine wpX_step (.pointer (some ⟨wr.heap.size,3,none⟩)) rfl (fun W' hC=>by go_simp) ?_
      refine wpX_step (.int .i64 (s.ho.w:Nat)) rfl (fun W' hC=>by obtain ⟨d0,d1,d2,d3,d4,d5,d6⟩:=hC;go_simp) ?_
      refine wpX_nil ⟨_,rfl,rfl,?_⟩
      unfold Oper.wp
      go_simp
      have hcv2:Sem.run Tryz.prog (convert 40 9 (.slice (if cpb=s.a then some ⟨gb,0,none⟩ else some ⟨gb,s.a,none⟩) (s.b-s.a) (cpb-s.a))) WA.drew=.ok (.string sb) WA.drew:=hcv
      rw[hcv2]
      clear hcv hcv2
      have hC1:WA.drew.cell? ⟨w.heap.size,0,none⟩=some (.pointer (some ⟨wb,0,none⟩))∧WA.drew.cell? ⟨wb,46,none⟩=some (.slice (some ⟨gb,0,none⟩) o.length cpb)∧WA.drew.cell? ⟨wr.heap.size,0,none⟩=some (.int .i64 (s.a:Nat))∧WA.drew.cell? ⟨wr.heap.size,1,none⟩=some (.int .i64 (s.b:Nat))∧WA.drew.cell? ⟨wr.heap.size,2,none⟩=some (.int .i64 (s.ho.pl:Nat))∧WA.drew.cell? ⟨wr.heap.size,3,none⟩=some (.int .i64 (s.ho.w:Nat))∧WA.drew.cell? ⟨wr.heap.size,4,none⟩=some (.func (.func (putF s.ho.low)) #[] #[]):=⟨HBxA.out.cell,by have:=HMA.out.blk.cell 46;rw[hbv] at this;exact this,HA.out.cell 0,HA.out.cell 1,HA.out.cell 2,HA.out.cell 3,HA.out.cell 4⟩
      have HC1:=hide' hC1
      clear hC1
      refine ⟨HC1.out,?_⟩
      refine wpX_nil ⟨_,rfl,rfl,?_⟩
      unfold Oper.wp
      go_simp
      refine (HSm.out _).mono ?_
      rintro e w2 ⟨rfl,hb2⟩
      have hsd:WA.drew.heap.size=wr.heap.size+1:=hsA
      have hC2:w2.cell? ⟨w.heap.size,0,none⟩=some (.pointer (some ⟨wb,0,none⟩))∧w2.cell? ⟨wb,46,none⟩=some (.slice (some ⟨gb,0,none⟩) o.length cpb)∧w2.cell? ⟨wr.heap.size,0,none⟩=some (.int .i64 (s.a:Nat))∧w2.cell? ⟨wr.heap.size,1,none⟩=some (.int .i64 (s.b:Nat))∧w2.cell? ⟨wr.heap.size,2,none⟩=some (.int .i64 (s.ho.pl:Nat))∧w2.cell? ⟨wr.heap.size,3,none⟩=some (.int .i64 (s.ho.w:Nat))∧w2.cell? ⟨wr.heap.size,4,none⟩=some (.func (.func (putF s.ho.low)) #[] #[]):=by
       obtain ⟨d0,d1,d2,d3,d4,d5,d6⟩:=HC1.out
       have hbx':=HBxA.out.lt
       refine ⟨?_,?_,?_,?_,?_,?_,?_⟩
       · rw[World.cell?_of_block (w:=WA.drew) (hb2.block w.heap.size hbx')];exact d0
       · rw[World.cell?_of_block (w:=WA.drew) (hb2.block wb (by rw[hsd];omega))];exact d1
       · rw[World.cell?_of_block (w:=WA.drew) (hb2.block wr.heap.size (by rw[hsd];omega))];exact d2
       · rw[World.cell?_of_block (w:=WA.drew) (hb2.block wr.heap.size (by rw[hsd];omega))];exact d3
       · rw[World.cell?_of_block (w:=WA.drew) (hb2.block wr.heap.size (by rw[hsd];omega))];exact d4
       · rw[World.cell?_of_block (w:=WA.drew) (hb2.block wr.heap.size (by rw[hsd];omega))];exact d5
       · rw[World.cell?_of_block (w:=WA.drew) (hb2.block wr.heap.size (by rw[hsd];omega))];exact d6
      have HC2:=hide' hC2
      have HM2:=hide' (HMd.out.keep (w':=w2) (hb2.mono (by omega)) (fun k _ h2=>hb2.block k h2))
      have HB2:=hide' hb2
      have hs2:=hb2.size
      clear hC2 hb2
      refine ⟨HC2.out,?_⟩
      refine wpX_nil ⟨_,rfl,rfl,?_⟩
      unfold Oper.wp
      go_simp
      have hlt32:sumV sb s.ho.w sb.size<4294967296:=by
       have h1:=sumV_lt sb s.ho.w sb.size
       have h2:=pow_le4 s.ho.w ho3
       omega
      refine (put_callsK c B w2 wb bv tv _ svs hbs _ HM2.out s.ho HHo.out (sumV sb s.ho.w sb.size) hlt32 (by have:=HOl.out;simp only;omega)).mono ?_
      rintro e w3 ⟨rfl,hm3,hb3,hk3⟩
      have hgbl:=HM.out.out.lt gb (by rw[hbv];rfl)
      have hown:bv.ownBlock=some gb:=by rw[hbv];rfl
      have hgg:g≠gb:=fun e=>HM.out.nb gb hown (by rw[← e];exact List.mem_cons_of_mem _ (mem_rst_sv (sv:=.slice (some ⟨g,0,none⟩) svs.length cap) rfl))
      have hsd2:wr.heap.size+1≤w2.heap.size:=by have:WA.drew.heap.size≤w2.heap.size:=hs2;omega
      have hkk:∀ q,q<wr.heap.size+1→q≠gb→w3.heap[q]? = WA.heap[q]? := fun q h1 h2=>by
       rw[hk3 q (by omega) (fun e=>h2 (by rw[hown] at e;injection e))]
       exact HB2.out.block q (by rw[hsd];exact h1)
      have hww:∀ q,q<wr.heap.size→q≠gb→w3.heap[q]? = wr.heap[q]? := fun q h1 h2=>(hkk q (by omega) h2).trans (HbA.out.block q h1)
      have hs3':wr.heap.size≤w3.heap.size:=by have:=hb3.size;omega
      have hlb:=hbx.out.lt
      have hlb2:=hbs2.out.lt
      have hbx3:Boxed w3 w.heap.size 107 (.pointer (some ⟨wb,0,none⟩)):=(hww w.heap.size hlb (by omega)).trans hbx.out
      have hbs3:Boxed w3 (w.heap.size+1) 118 (.slice (some ⟨g,0,none⟩) svs.length cap):=(hww (w.heap.size+1) hlb2 (by omega)).trans hbs2.out
      have hKO3:KeepsOthers W w3:=hKO.out.trans ⟨hs3',fun q ob hq hnc=>by
       have hql:=(Array.getElem?_eq_some_iff.1 hq).1
       refine (hww q hql (fun e=>?_)).trans hq
       subst e
       rcases hM.out.out.2 with ⟨e,_⟩ | ⟨g',_,cur,e,_,hg',_⟩
       · rw[hbv] at e;cases e
       · rw[hbv] at e
         injection e with e1
         injection e1 with e1
         injection e1 with e1
         subst e1
         rw[hg'] at hq
         cases hq
         cases hnc⟩
      have hKp3:Kp2 g (w.heap.size+1) W w3:=hKp.out.trans ⟨hww g (by omega) hgg,hww (w.heap.size+1) hlb2 (by omega)⟩
      have hB3:Below B w w3:=by
       have h1:Below B wr WA:=HbA.out.mono (by omega)
       have h2:Below B WA w2:=⟨HB2.out.os,HB2.out.tape,HB2.out.output,HB2.out.size,fun q hq=>HB2.out.block q (by rw[hsd];omega)⟩
       exact hB.out.trans (h1.trans (h2.trans hb3))
      have hC3:w3.cell? ⟨w.heap.size,0,none⟩=some (.pointer (some ⟨wb,0,none⟩))∧w3.cell? ⟨wb,46,none⟩=some (.slice (some ⟨gb,0,none⟩) o.length cpb)∧w3.cell? ⟨wr.heap.size,0,none⟩=some (.int .i64 (s.a:Nat))∧w3.cell? ⟨wr.heap.size,1,none⟩=some (.int .i64 (s.b:Nat))∧w3.cell? ⟨wr.heap.size,2,none⟩=some (.int .i64 (s.ho.pl:Nat))∧w3.cell? ⟨wr.heap.size,3,none⟩=some (.int .i64 (s.ho.w:Nat))∧w3.cell? ⟨wr.heap.size,4,none⟩=some (.func (.func (putF s.ho.low)) #[] #[]):=by
       have hq:=hkk wr.heap.size (by omega) (by omega)
       refine ⟨hbx3.cell,by have:=hm3.blk.cell 46;rw[hbv] at this;exact this,?_,?_,?_,?_,?_⟩
       · rw[World.cell?_of_block (w:=WA) hq];exact HA.out.cell 0
       · rw[World.cell?_of_block (w:=WA) hq];exact HA.out.cell 1
       · rw[World.cell?_of_block (w:=WA) hq];exact HA.out.cell 2
       · rw[World.cell?_of_block (w:=WA) hq];exact HA.out.cell 3
       · rw[World.cell?_of_block (w:=WA) hq];exact HA.out.cell 4
      have hM3:WrM c B w3 wb bv tv (.slice (some ⟨g,0,none⟩) svs.length cap) svs hbs { st with out:=((sumL st x).take (k+1)).foldl putSp (outAt st pre) }:=by
       rw[HTk.out,HPu.out,← HStz.out]
       exact hm3
      have HM3:=hide' hM3
      have HBx3:=hide' hbx3
      have HBs3:=hide' hbs3
      have HB3:=hide' hB3
      have HKO3:=hide' hKO3
      have HKp3:=hide' hKp3
      have HC3:=hide' hC3
      clear hm3 hb3 hk3 hkk hww hC3 hM3 hbx3 hbs3 hB3 hKO3 hKp3 HC2 HC1 HMA HbA HA HBxA HMd HM2 HB2
      refine ⟨HC3.out,?_⟩
      clear HC3
      gi_wp2
      go_roundw
      case rel=>exact ⟨k+1,by go_num,by omega,HM3,HBx3,HBs3,HB3,HKO3,HKp3⟩
      case measure=>simp[intOf];omega
   · have hkl':¬ (k:Int)<((sumL st x).length:Int):=by omega
     obtain rfl:k=(sumL st x).length:=by omega
     gi_wp2
     have hq:=hM.out
     rw[List.take_length,← HSn.out] at hq
     exact ⟨hKO.out,hKp.out,⟨hq,hbx.out,hbs2.out⟩,hB.out⟩
 case done=>
  rintro D ys W hD rfl hI hK
  gi_wp2
  refine ⟨by simp,.inl ⟨_,_,rfl,run_takeDeferred hK,?_⟩⟩
  have hI2:=hIown.putObj (.deferred none) hI hD hK rfl
  obtain ⟨⟨q1,_,_⟩,q2⟩:=hI2
  have e:outAt st (revFrom svs.length 0)=putSums st:=by rw[HM.out.sumsL];exact outAt_all st
  rw[e] at q1
  exact ⟨_,results_none rfl _ _ _,rfl,q1,q2⟩
 case stop=>
  rintro D c pre W _ _ h _
  exact h.elim
end Go.Proofs.YtmlkhhhjdpbhfaaGreatDoor
namespace Go.Proofs.YtmlkhhhjdpbhfaaGreatDoor
open Go.RowKit
def wrNew (wk:Array Value):Array Value:=
 Array.foldl (fun cs x=>cs.setIfInBounds x.snd x.fst) #[.nilFunc,.nilFunc,.nilFunc,.nilFunc,.nilFunc,.nilFunc,.nilFunc,.nilFunc,.nilFunc,.nilFunc,.nilFunc,.nilFunc,.nilFunc,.nilFunc,.nilFunc,.nilFunc,.nilFunc,.nilFunc,.nilFunc,.nilFunc,.nilFunc,.nilFunc,.nilFunc,.nilFunc,.nilFunc,.nilFunc,.nilFunc,.nilFunc,.nilFunc,.nilFunc,.nilFunc,.nilFunc,.nilFunc,.nilFunc,.nilFunc,.nilFunc,.nilFunc,.nilFunc,.nilFunc,.nilFunc,.nilFunc,.nilFunc,.nilFunc,.nilFunc,.nilFunc,.pointer none,.slice none 0 0,.bool false,.slice none 0 0,.slice none 0 0] wk.zipIdx 0 46
set_option maxRecDepth 100000 in
theorem wrNew_eq (gb:Nat):wrNew (wkC gb)=wrC gb (.slice none 0 0) false (.slice none 0 0) (.slice none 0 0):=by kernel_rfl
theorem WrM.fresh (c:Cx)(W:World)(hb:Below c.w0.heap.size c.w0 W):
 WrM c c.w0.heap.size (W.alloc (.cells (wrC c.gb (.slice none 0 0) false (.slice none 0 0) (.slice none 0 0)) 120)) W.heap.size (.slice none 0 0) (.slice none 0 0) (.slice none 0 0) [] [] Wr0:=by
 have hs:=hb.size
 refine ⟨Blk.new W _ _,World.ownsRow_nil _ _ _ _,⟨[],OffRow.nil _ _ _ _,fun j hj=>by simp[Wr0] at hj⟩,World.ownsRow_nil _ _ _ _,rfl,fun i s l h=>by simp at h,fun i b f h=>by simp at h,rfl,by simp[rst,Value.ownBlock],fun g e=>by simp[Value.ownBlock] at e,fun b hm=>?_,hb.alloc hs _,Nat.le_refl _⟩
 simp[rst,Value.ownBlock] at hm
 subst hm
 simp
 exact hs
set_option maxRecDepth 100000 in
theorem conv_all {w:World}{B:Nat}{v:Value}{l:List UInt8}(h:w.ownsRow B 5 1 v l.length (byteC l)):(convert 40 9 v).run Tryz.prog w=.ok (.string ⟨l.toArray⟩) w:=by
 rcases h.2 with ⟨rfl,h0⟩ | ⟨g,cap,cur,rfl,hb,hg,hn,hm,hs,ht⟩
 · obtain rfl:=List.eq_nil_of_length_eq_zero h0
   rw[run_convert_bytes_string w 40 9 5 none 0 0 Tryz.underlying40 Tryz.underlying5 Tryz.underlying9]
   rfl
 · refine run_convert_bytes_back w 40 9 5 ⟨g,0,none⟩ cap l Tryz.underlying40 Tryz.underlying5 Tryz.underlying9 fun j hj=>?_
   have:=h.cellAt j (by omega)
   rw[show Addr.add ⟨g,0,none⟩ j=⟨g,j,none⟩ by unfold Addr.add;split<;>simp_all,this]
   simp[byteC,hj]
set_option maxRecDepth 100000 in
set_option maxHeartbeats 4000000 in
theorem genP_calls (gb:Nat)(sg:ByteArray)(G:Nat→List It)(R:Nat→Bool)(w:World)(_hgb:gb<w.heap.size)(hC:∀ rb tb,w.heap.size≤rb→rb<tb→CxOk ⟨w,gb,rb,tb,⟨#[]⟩,0,G,R,sg⟩)(hG:GOk R G)(hR:R 0=true)(hA:∃ v g n cap pb f lo hi,Blk w gb #[v] 77∧v=.slice (some ⟨g,0,none⟩) n cap∧0<n∧g<w.heap.size∧w.cell? ⟨g,2,none⟩=some (.pointer (some ⟨pb,0,none⟩))∧RepS f w lo hi pb false (G 0)∧hi≤w.heap.size)(n lo2 hi2 vb:Nat)(v:Nd (Tr n))(hval:NdT (RepY n) w lo2 hi2 vb v)(hh2:hi2≤w.heap.size)(hsz:szN v≤8000)(most:Nat)(hmost:most≤4000):
 Calls Tryz.prog 30 #[.pointer (some ⟨gb,0,none⟩),.pointer (some ⟨vb,0,none⟩),.int .i64 (most:Nat)] w fun e w'=>e=.returned (.tuple #[.string ⟨(genT G n v most).1.toArray⟩,.int .i64 (genT G n v most).2])∧Below w.heap.size w w'∧((genT G n v most).2=0→(genT G n v most).1.length≤most):=by
 have hcx:=hC w.heap.size (w.heap.size+1) (Nat.le_refl _) (by omega)
 obtain ⟨wk,dc,HNc,HWs,HD⟩:∃ (wk dc:Array Value),Hid (wrNew wk=wrC gb (.slice none 0 0) false (.slice none 0 0) (.slice none 0 0))∧Hid (wk.size=46)∧Hid (∀ W:World,Calls Tryz.prog 50 #[.pointer (some ⟨gb,0,none⟩)] W fun e w'=>e=.returned (.agg wk)∧w'=(W.alloc (.cells wk 115)).alloc (.cells dc 113)):=
  ⟨wkC gb,doFns.toArray,wrNew_eq gb,rfl,fun W=>walkOf_calls W gb⟩
 obtain ⟨v',g,ng,cap,pb,f,lo,hi,hg1,hgv,hn,hgl,hg2,hrep,hhi⟩:=hA
 subst hgv
 have HCx:=hide' hcx
 have HGo:=hide' hG
 have HRep:=hide' hrep
 have HVal:=hide' hval
 have HG1:=hide' hg1
 have hws:wk.size=46:=HWs.out
 have hfs:=fold_size
 have hfl:=fold_sizeL
 have hn':(0:Int)<(ng:Int):=by omega
 have g0:∀ a b c:Obj,(((w.alloc a).alloc b).alloc c).cell? ⟨gb,0,none⟩=some (.slice (some ⟨g,0,none⟩) ng cap):=fun a b c=>(Blk.alloc (Blk.alloc (Blk.alloc hg1 a) b) c).cell 0
 have g2:∀ a b c:Obj,(((w.alloc a).alloc b).alloc c).cell? ⟨g,2,none⟩=some (.pointer (some ⟨pb,0,none⟩)):=fun a b c=>by
  have hb:Below w.heap.size w (((w.alloc a).alloc b).alloc c):=(((Below.refl _ _).alloc (Nat.le_refl _) _).alloc (by simp) _).alloc (by simp;omega) _
  rw[World.cell?_of_block (w:=w) (hb.block g hgl)];exact hg2
 clear hC hG hrep hval hcx hg1
 go_enter Tryz.func30,Tryz.ntmps30
 go_wp2_with fail
 refine (HD.out _).mono ?_
 rintro _ _ ⟨rfl,rfl⟩
 go_wp2_with fail
 clear g0 g2 hfs hfl hws
 have hNc:=HNc.out
 unfold wrNew at hNc
 rw[hNc]
 clear hNc
 have hWb:Below w.heap.size w ((w.alloc (.cells wk 115)).alloc (.cells dc 113)):=((Below.refl _ _).alloc (Nat.le_refl _) _).alloc (by simp) _
 have hM0:=WrM.fresh ⟨w,gb,w.heap.size,w.heap.size+1,⟨#[]⟩,0,G,R,sg⟩ _ hWb
 rw[show ((w.alloc (.cells wk 115)).alloc (.cells dc 113)).heap.size=w.heap.size+1+1 by simp] at hM0
 simp only at hM0
 have hW0:Below w.heap.size w (((w.alloc (.cells wk 115)).alloc (.cells dc 113)).alloc (.cells (wrC gb (.slice none 0 0) false (.slice none 0 0) (.slice none 0 0)) 120)):=hWb.alloc (by simp;omega) _
 generalize ((w.alloc (.cells wk 115)).alloc (.cells dc 113)).alloc (.cells (wrC gb (.slice none 0 0) false (.slice none 0 0) (.slice none 0 0)) 120)=W0 at *
 generalize w.heap.size+1+1=wb at *
 have hs0:=hW0.size
 have hval0:NdT (RepY n) W0 lo2 hi2 vb v:=RepY.mono (n+1) (x:=v) HVal.out (fun k _ k2=>hW0.block k (by omega)) (Nat.le_refl _) (Nat.le_refl _)
 have hkok:=HGo.out.1 0
 have hht:=has_all ⟨w,gb,w.heap.size,w.heap.size+1,⟨#[]⟩,0,G,R,sg⟩ HCx.out (n+1) W0 wb (G 0) false false false f lo hi pb lo2 hi2 vb v hM0.pre HRep.out hhi (HGo.out.2 0 hR).1 hkok.1 hval0 (by omega)
 have HM0:=hide' hM0
 have HW0:=hide' hW0
 refine (hht W0 (Below.refl _ _)).mono ?_
 rintro e w1 ⟨rfl,hb1⟩
 have HB1:=hide' (hW0.trans (hb1.mono (by omega)))
 have HM1:=hide' (hM0.keep (w':=w1) (hb1.mono (by omega)) (fun k _ h2=>hb1.block k h2))
 clear hM0 hht hb1 hW0 hWb hval0
 cases hhas:hasT G (n+1) (G 0) v
 · have HGen:Hid (genT G n v most=([],10)):=by
    have:genT G n v most=([],10):=by unfold genT;rw[if_pos hhas]
    exact this
   go_wp2_with fail
   go_ret2
   rw[HGen.out]
   exact ⟨rfl,HB1.out,fun h=>by cases h⟩
 · have hval1:NdT (RepY n) w1 lo2 hi2 vb v:=RepY.mono (n+1) (x:=v) HVal.out (fun k _ k2=>HB1.out.block k (by omega)) (Nat.le_refl _) (Nat.le_refl _)
   have HCall:=hide' (writeAll_calls ⟨w,gb,w.heap.size,w.heap.size+1,⟨#[]⟩,0,G,R,sg⟩ HCx.out HGo.out w.heap.size w1 wb _ _ _ _ _ HM1.out pb vb n lo2 hi2 f lo hi v hR HRep.out hhi hval1 hh2 hhas hsz)
   have HGen:Hid (genT G n v most=if most<(wAll G n v).out.length then ([],11) else if (wAll G n v).wide=true then ([],12) else (putSums (wAll G n v),0)):=by
    have:genT G n v most=if most<(wAll G n v).out.length then ([],11) else if (wAll G n v).wide=true then ([],12) else (putSums (wAll G n v),0):=by unfold genT;rw[if_neg (by rw[hhas];simp)];rfl
    exact this
   clear hval1 hhas
   go_wp2_with fail
   refine HCall.out.mono ?_
   rintro e w2 ⟨rfl,hb2,⟨bv,tv,sv,svs,hbs,hm2⟩,hli⟩
   have HLi:=hide' hli
   have HM2:=hide' hm2
   have HB2:=hide' (HB1.out.trans hb2)
   clear HCall hli hb2
   generalize wAll G n v=fin at *
   obtain ⟨q,cp,rfl⟩:=owns_form hm2.out
   have c46:w2.cell? ⟨wb,46,none⟩=some (.slice q fin.out.length cp):=hm2.blk.cell 46
   have c47:w2.cell? ⟨wb,47,none⟩=some (.bool fin.wide):=hm2.blk.cell 47
   clear hm2
   by_cases hmo:most<fin.out.length
   · have hmo':(most:Int)<(fin.out.length:Int):=by omega
     go_wp2_with fail
     go_ret2
     rw[HGen.out,if_pos hmo]
     exact ⟨rfl,HB2.out,fun h=>by cases h⟩
   · have hmo':¬ (most:Int)<(fin.out.length:Int):=by omega
     cases hwd:fin.wide
     · rw[hwd] at c47
       have HPs:=hide' (putSums_calls ⟨w,gb,w.heap.size,w.heap.size+1,⟨#[]⟩,0,G,R,sg⟩ w.heap.size w2 wb _ tv sv svs hbs fin HM2.out (by omega) HLi.out.inv.sums (by have:=HLi.out.cnt;omega) HLi.out.wt.su)
       have HG2:Hid (genT G n v most=(putSums fin,0)):=by
        have:genT G n v most=(putSums fin,0):=by rw[HGen.out,if_neg hmo,if_neg (by rw[hwd];simp)]
        exact this
       clear HGen hwd
       go_wp2_with fail
       refine HPs.out.mono ?_
       rintro e w3 ⟨rfl,hm3,hb3⟩
       have hcv:=conv_all hm3.out
       have d46:w3.cell? ⟨wb,46,none⟩=some (.slice q fin.out.length cp):=hm3.blk.cell 46
       have HB3:=hide' (HB2.out.trans hb3)
       simp only at hcv
       clear hm3 hb3 c46 c47
       generalize hsb:(⟨(putSums fin).toArray⟩:ByteArray)=sb at *
       go_wp2_with fail
       go_ret2
       rw[HG2.out]
       exact ⟨by rw[← hsb];rfl,HB3.out,fun _=>by show (putSums fin).length≤most;rw[putSums_len HLi.out.wt.su];omega⟩
     · rw[hwd] at c47
       have HG2:Hid (genT G n v most=([],12)):=by
        have:genT G n v most=([],12):=by rw[HGen.out,if_neg hmo,if_pos hwd]
        exact this
       clear HGen hwd
       go_wp2_with fail
       go_ret2
       rw[HG2.out]
       exact ⟨rfl,HB2.out,fun h=>by cases h⟩
end Go.Proofs.YtmlkhhhjdpbhfaaGreatDoor

import Derived.Test.YtmlkhhhjdpbhfaaGreatDoorFo15
namespace Go.Proofs.YtmlkhhhjdpbhfaaGreatDoor
open Go.RowKit
set_option maxRecDepth 100000 in
set_option maxHeartbeats 8000000 in
theorem hord_calls (c:Cx)(hc:CxOk c)(w:World)(s:Ts)(st:PS)(h:Nat)(pb:Nat)(p:Pt)(n d:Nat)(hp:TPre c w s st (some h))(hbu:s.spans.length+s.fuel+1≤100000)(hpt:PtBlk w pb p)(hn:p.wd=(n:Int))(hn4:n≤4)(hdp:p.dp=(d:Int))(hd8:d<8)(hpb:pb<c.rb)(fn:Nat)(V:ByteArray→Nat→Nat)(hfn:fn=179∨fn=182)(hV:OrdC fn V):
 Calls Tryz.prog 190 #[.pointer (some ⟨c.tb,0,none⟩),.pointer (some ⟨pb,0,none⟩),spotV st.pl st.en (some ⟨h,0,none⟩),.func (.func fn) #[] #[]] w fun e w'=>TPost c w s (some h) true (hidT s.fuel s.far n d (V (c.bs.extract st.pl (st.pl+n)) (c.bs.extract st.pl (st.pl+n)).size) st) e w':=by
 have HV:=hide' hV
 clear hV
 obtain ⟨fv,hfv⟩:∃ fv:Value,fv=.func (.func fn) #[] #[]:=⟨_,rfl⟩
 have HFn:=hide' hfv
 clear hfv
 rcases hfn with rfl | rfl
 all_goals
  have hlt:=hp.tr.blk.lt
  have hlt2:=hc.lt
  have hbs:=hc.bs
  have hpl:=hp.inv.pl
  have hen:=hp.inv.en
  have hrl:=hp.inv.rd
  have hrd:=hp.rd
  have hptl:=hpt.lt
  have HP:=hide' hp
  have HC:=hide' hc
  have HT1:=hide' (hp.tr.alloc (spotC st.pl st.en (some ⟨h,0,none⟩)))
  have HF1:=hide' ((TF.refl c.tb c.rb none none w).alloc (spotC st.pl st.en (some ⟨h,0,none⟩)))
  have HB1:=hide' (Blk.new w #[.int .i64 st.pl,.int .i64 st.en,.pointer (some ⟨h,0,none⟩)] 159)
  have HQ1:=hide' (show PtBlk (w.alloc (spotC st.pl st.en (some ⟨h,0,none⟩))) pb p from Blk.alloc hpt _)
  have hs1:(w.alloc (spotC st.pl st.en (some ⟨h,0,none⟩))).heap.size=w.heap.size+1:=by simp
  have HH1:=hide' (show HdAt (w.alloc (spotC st.pl st.en (some ⟨h,0,none⟩))) h st.deps from Blk.alloc (hp.hid h rfl).1 _)
  unfold spotC at HT1 HF1 HQ1 hs1 HH1
  clear hp hc hpt
  unfold spotV
  go_enter Tryz.func190,Tryz.ntmps190
  go_wp2_with fail
  generalize w.alloc (.cells #[.int .i64 st.pl,.int .i64 st.en,.pointer (some ⟨h,0,none⟩)] 159)=W1 at *
  have a0:W1.cell? ⟨w.heap.size,0,none⟩=some (.int .i64 st.pl):=HB1.out.cell 0
  have a1:W1.cell? ⟨w.heap.size,1,none⟩=some (.int .i64 st.en):=HB1.out.cell 1
  have a2:W1.cell? ⟨w.heap.size,2,none⟩=some (.pointer (some ⟨h,0,none⟩)):=HB1.out.cell 2
  have p2:W1.cell? ⟨pb,2,none⟩=some (.int .i64 n):=by rw[← hn];exact HQ1.out.cell 2
  refine wp_region_mid 7 _ rfl rfl (by kernel_rfl) (by kernel_rfl) ?_
  simp only[List.take_succ_cons,List.take_zero,List.drop_succ_cons,List.drop_zero]
  repeat still_step
  refine wpStill_nil ?_
  unfold Oper.wp
  go_simp
  rw[show IntKind.u32.wrap (n:Int)=(n:Int) by rw[wrapU32];omega]
  have HT2:=hide' (HT1.out.drewN 1)
  have HF2:=hide' (HF1.out.drewN 1)
  have HB2:Hid (Blk W1.drew w.heap.size #[.int .i64 st.pl,.int .i64 st.en,.pointer (some ⟨h,0,none⟩)] 159):=HB1.out
  have HQ2:Hid (PtBlk W1.drew pb p):=HQ1.out
  have hs2:W1.drew.heap.size=w.heap.size+1:=hs1
  clear a0 a1 a2 p2 HT1 HF1 HB1 HQ1 hs1
  change Hid (HdAt W1.drew h st.deps) at HH1
  change Hid (TrAt c.gb c.rb c.tb c.bs W1.drew s) at HT2
  change Hid (TF c.tb c.rb none none w W1.drew) at HF2
  generalize W1.drew=W2 at *
  cases hcr:canRead s.read st.pl st.en n
  · have HO:Hid (hidT s.fuel s.far n d (V (c.bs.extract st.pl (st.pl+n)) (c.bs.extract st.pl (st.pl+n)).size) st=failO s.fuel s.far st.pl st):=by
     have:hidT s.fuel s.far n d (V (c.bs.extract st.pl (st.pl+n)) (c.bs.extract st.pl (st.pl+n)).size) st=failO s.fuel s.far st.pl st:=by unfold hidT;rw[← hrd,hcr];rfl
     exact this
    refine (readOn_no c.gb c.rb c.tb c.bs hbs W2 s HT2.out st.pl st.en n (some ⟨h,0,none⟩) hpl hen (by omega) hcr).mono ?_
    rintro e w3 ⟨rfl,ht3,hf3⟩
    have HC3:=hide' (Core.refl ht3 (HF2.out.trans hf3 (Or.inl rfl) (Or.inl rfl)) (by omega) (some h))
    have HB3:=hide' (hf3.blk HB2.out (by omega) (by omega) (by simp) (by simp))
    have HT3:=hide' ht3
    clear ht3 hf3 hcr HT2 HF2 HB2 HQ2
    have a0:w3.cell? ⟨w.heap.size,0,none⟩=some (.int .i64 st.pl):=HB3.out.cell 0
    simp only
    repeat still_step
    refine wpStill_nil ?_
    go_wp2_with fail
    refine (fail_calls c.gb c.rb c.tb c.bs w3 s HT3.out st.pl).mono ?_
    rintro e w4 ⟨rfl,hw4⟩
    have HW4:=hide' hw4
    clear hw4
    simp only
    go_wp2_with fail
    go_ret3
    rw[HO.out]
    exact TPost.fail st.pl st HC3.out HW4.out _ _
  · have hcr2:canRead st.rd st.pl st.en n=true:=by rw[← hrd];exact hcr
    have hnn:n≤st.en-st.pl:=by
     unfold canRead at hcr2;simp only[Bool.and_eq_true,decide_eq_true_eq] at hcr2;exact hcr2.1
    have HO:Hid (hidT s.fuel s.far n d (V (c.bs.extract st.pl (st.pl+n)) (c.bs.extract st.pl (st.pl+n)).size) st=fitO s.fuel s.far { readS st n with deps:=updD st.deps d (V (c.bs.extract st.pl (st.pl+n)) (c.bs.extract st.pl (st.pl+n)).size) n } []):=by
     have:hidT s.fuel s.far n d (V (c.bs.extract st.pl (st.pl+n)) (c.bs.extract st.pl (st.pl+n)).size) st=fitO s.fuel s.far { readS st n with deps:=updD st.deps d (V (c.bs.extract st.pl (st.pl+n)) (c.bs.extract st.pl (st.pl+n)).size) n } []:=by unfold hidT;rw[hcr2];rfl
     exact this
    have hxs:(c.bs.extract st.pl (st.pl+n)).size≤4:=Nat.le_trans (extract_le _ _ _) hn4
    refine (readOn_yes c.gb c.rb c.tb c.bs hbs W2 s HT2.out st.pl st.en n (some ⟨h,0,none⟩) hpl hen (by omega) hcr (by omega)).mono ?_
    rintro e w3 ⟨rfl,sv,ht3,hf3,hsv3⟩
    have hf3':=HF2.out.size
    have HC3:Hid (Core c w s none s.fuel s.far w3 (tsRead s st.pl n sv)):=Core.read2 hcr (by rw[hrd,hrl];exact hen) hpl hbu HF2.out ht3 hf3 hsv3
    have hnb:some w.heap.size≠s.sv.ownBlock:=fun e=>by have:=HP.out.tr.svlt _ e.symm;omega
    have hnp:some pb≠s.sv.ownBlock:=fun e=>by have:=HP.out.tr.svlt _ e.symm;omega
    have HB3:=hide' (hf3.blk HB2.out (by omega) (by omega) hnb (by simp))
    have HQ3:=hide' (show PtBlk w3 pb p from hf3.blk HQ2.out (by omega) (by omega) hnp (by simp))
    have hs3:=hf3.size
    have HW2:=hide' (show HdAt W2 h st.deps from HH1.out)
    have HF23:=hide' hf3
    clear ht3 hf3 hcr HT2 HF2 HB2 HQ2 hsv3
    have hne2:pb≠h:=by have:=(HP.out.hid h rfl).2.1;omega
    obtain ⟨hh1,hh2,hh3⟩:=HP.out.hid h rfl
    have hhl:=hh1.lt
    have HH3:Hid (HdAt w3 h st.deps):=by
     have h1:HdAt W2 h st.deps:=HW2.out
     exact HF23.out.blk h1 (by omega) (by omega) hh3 (by simp)
    simp only
    repeat still_step
    refine wpStill_nil ?_
    go_wp2_with fail
    have a0:w3.cell? ⟨w.heap.size,0,none⟩=some (.int .i64 st.pl):=HB3.out.cell 0
    have a2:w3.cell? ⟨w.heap.size,2,none⟩=some (.pointer (some ⟨h,0,none⟩)):=HB3.out.cell 2
    have q2:w3.cell? ⟨pb,2,none⟩=some (.int .i64 n):=by rw[← hn];exact HQ3.out.cell 2
    have q3:w3.cell? ⟨pb,3,none⟩=some (.int .i64 d):=by rw[← hdp];exact HQ3.out.cell 3
    have hd8':(d:Int)<8:=by omega
    refine wp_region_two (fun W=>W.cell? ⟨w.heap.size,0,none⟩=some (.int .i64 st.pl)∧W.cell? ⟨w.heap.size,2,none⟩=some (.pointer (some ⟨h,0,none⟩))∧W.cell? ⟨pb,2,none⟩=some (.int .i64 n)∧W.cell? ⟨pb,3,none⟩=some (.int .i64 d)) [0,1,2,3,4,5,6,7,9,10,11,12,14] 8 [13,15] 16 _ _ _ _ rfl rfl rfl rfl rfl rfl (by kernel_rfl) (by kernel_rfl) (fun _ _ d _ _ h=>by cases d<;>exact h) ?_ ⟨a0,a2,q2,q3⟩
    simp only[List.filterMap_cons,List.filterMap_nil,List.getElem?_cons_zero,List.getElem?_cons_succ]
    refine wpX_stepK (.pointer (some ⟨w.heap.size,2,none⟩)) rfl (fun W hW=>by obtain ⟨c0,c1,c2,c3⟩:=hW;go_simp) (fun K hK=>?_)
    go_simp
    refine hK _ ?_
    clear hK K
    refine wpX_stepK (.pointer (some ⟨h,0,none⟩)) rfl (fun W hW=>by obtain ⟨c0,c1,c2,c3⟩:=hW;go_simp) (fun K hK=>?_)
    go_simp
    refine hK _ ?_
    clear hK K
    refine wpX_stepK (.pointer (some ⟨pb,0,none⟩)) rfl (fun W hW=>by obtain ⟨c0,c1,c2,c3⟩:=hW;go_simp) (fun K hK=>?_)
    go_simp
    refine hK _ ?_
    clear hK K
    refine wpX_stepK (.pointer (some ⟨pb,0,none⟩)) rfl (fun W hW=>by obtain ⟨c0,c1,c2,c3⟩:=hW;go_simp) (fun K hK=>?_)
    go_simp
    refine hK _ ?_
    clear hK K
    refine wpX_stepK (.pointer (some ⟨pb,3,none⟩)) rfl (fun W hW=>by obtain ⟨c0,c1,c2,c3⟩:=hW;go_simp) (fun K hK=>?_)
    go_simp
    refine hK _ ?_
    clear hK K
    refine wpX_stepK (.int .i64 d) rfl (fun W hW=>by obtain ⟨c0,c1,c2,c3⟩:=hW;go_simp) (fun K hK=>?_)
    go_simp
    refine hK _ ?_
    clear hK K
    refine wpX_stepK fv rfl (fun W hW=>by obtain ⟨c0,c1,c2,c3⟩:=hW;rw[HFn.out];go_simp) (fun K hK=>?_)
    have hfv:=HFn.out
    subst hfv
    go_simp
    refine hK _ ?_
    clear hK K
    refine wpX_stepK (.string (c.bs.extract st.pl (st.pl+n))) rfl (fun W hW=>by obtain ⟨c0,c1,c2,c3⟩:=hW;go_simp) (fun K hK=>?_)
    go_simp
    refine hK _ ?_
    clear hK K
    refine wpX_stepK (.pointer (some ⟨pb,0,none⟩)) rfl (fun W hW=>by obtain ⟨c0,c1,c2,c3⟩:=hW;go_simp) (fun K hK=>?_)
    go_simp
    refine hK _ ?_
    clear hK K
    refine wpX_stepK (.pointer (some ⟨pb,0,none⟩)) rfl (fun W hW=>by obtain ⟨c0,c1,c2,c3⟩:=hW;go_simp) (fun K hK=>?_)
    go_simp
    refine hK _ ?_
    clear hK K
    refine wpX_stepK (.pointer (some ⟨pb,2,none⟩)) rfl (fun W hW=>by obtain ⟨c0,c1,c2,c3⟩:=hW;go_simp) (fun K hK=>?_)
    go_simp
    refine hK _ ?_
    clear hK K
    refine wpX_stepK (.int .i64 n) rfl (fun W hW=>by obtain ⟨c0,c1,c2,c3⟩:=hW;go_simp) (fun K hK=>?_)
    go_simp
    refine hK _ ?_
    clear hK K
    refine wpX_stepK (.pointer (some ⟨h,0,none⟩)) rfl (fun W hW=>by obtain ⟨c0,c1,c2,c3⟩:=hW;go_simp) (fun K hK=>?_)
    go_simp
    refine hK _ ?_
    clear hK K
    refine wpX_nil ?_
    unfold Oper.wp
    go_simp
    refine (HV.out.1 (c.bs.extract st.pl (st.pl+n)) hxs (w3.drewN 1)).mono ?_
    rintro e w4 ⟨rfl,hb4⟩
    have HC4:=hide' ((HC3.out.drewN 1).belowAll hb4)
    have hs3':(w3.drewN 1).heap.size=w3.heap.size:=rfl
    have HB4:=hide' (Blk.below (show Blk (w3.drewN 1) w.heap.size _ _ from HB3.out) hb4 (by omega))
    have HQ4:=hide' (show PtBlk w4 pb p from Blk.below (show PtBlk (w3.drewN 1) pb p from HQ3.out) hb4 (by omega))
    have HH4:=hide' (show HdAt w4 h st.deps from Blk.below (show HdAt (w3.drewN 1) h st.deps from HH3.out) hb4 (by have:=hf3';omega))
    have hs4:=hb4.size
    clear hb4 HB3 HQ3 HH3
    have HFv:Hid (V (c.bs.extract st.pl (st.pl+n)) (c.bs.extract st.pl (st.pl+n)).size<4294967296):=by
     have h1:=HV.out.2 (c.bs.extract st.pl (st.pl+n)) (c.bs.extract st.pl (st.pl+n)).size
     have h2:=pow_le4 _ hxs
     exact (by omega:V (c.bs.extract st.pl (st.pl+n)) (c.bs.extract st.pl (st.pl+n)).size<4294967296)
    generalize hfv:V (c.bs.extract st.pl (st.pl+n)) (c.bs.extract st.pl (st.pl+n)).size=fv
    have HFV:=hide' hfv
    clear hfv
    have b0:w4.cell? ⟨w.heap.size,0,none⟩=some (.int .i64 st.pl):=HB4.out.cell 0
    have b2:w4.cell? ⟨w.heap.size,2,none⟩=some (.pointer (some ⟨h,0,none⟩)):=HB4.out.cell 2
    have r2:w4.cell? ⟨pb,2,none⟩=some (.int .i64 n):=by rw[← hn];exact HQ4.out.cell 2
    have r3:w4.cell? ⟨pb,3,none⟩=some (.int .i64 d):=by rw[← hdp];exact HQ4.out.cell 3
    have h0:=(HH4.out.cell d hd8).1
    have h1:=(HH4.out.cell d hd8).2
    have f0:w4.frozen? ⟨h,d*2,none⟩=false:=HH4.out.frozen _
    have f1:w4.frozen? ⟨h,d*2+1,none⟩=false:=HH4.out.frozen _
    simp only
    refine ⟨⟨b0,b2,r2,r3⟩,?_⟩
    refine wpX_stepK (.agg #[.int .u32 fv,.int .i64 n]) rfl (fun W hW=>by obtain ⟨c0,c1,c2,c3⟩:=hW;go_simp) (fun K hK=>?_)
    go_simp
    refine hK _ ?_
    clear hK K
    refine wpX_stepK (.pointer (some ⟨h,d*2,none⟩)) rfl (fun W hW=>by obtain ⟨c0,c1,c2,c3⟩:=hW;go_simp) (fun K hK=>?_)
    go_simp
    refine hK _ ?_
    clear hK K
    refine wpX_nil ?_
    have hhne:¬ w.heap.size=h:=by omega
    have hhne2:¬ h=w.heap.size:=by omega
    have hpne:¬ h=pb:=by omega
    have hpne2:¬ pb=h:=by omega
    go_simp
    have hsvne:some h≠(tsRead s st.pl n sv).sv.ownBlock:=by
     rcases HC4.out.sv with e | ⟨g,e,l⟩
     · rw[e];exact hh3
     · rw[e];intro e2;cases e2;omega
    have HC5:=hide' (HC4.out.hid (h:=h) (by omega) (by omega) hsvne (d*2) (d*2+1) (.int .u32 fv) (.int .i64 n))
    have HH5:=hide' (HH4.out.set d hd8 fv n)
    have HB5:Hid (Blk ((w4.setCell ⟨h,d*2,none⟩ (.int .u32 fv)).setCell ⟨h,d*2+1,none⟩ (.int .i64 n)) w.heap.size #[.int .i64 st.pl,.int .i64 st.en,.pointer (some ⟨h,0,none⟩)] 159):=(HB4.out.setOther _ (by simp only;omega) _).setOther _ (by simp only;omega) _
    have HQ5:Hid (PtBlk ((w4.setCell ⟨h,d*2,none⟩ (.int .u32 fv)).setCell ⟨h,d*2+1,none⟩ (.int .i64 n)) pb p):=Blk.setOther (Blk.setOther HQ4.out _ (by simp only;omega) _) _ (by simp only;omega) _
    generalize (w4.setCell ⟨h,d*2,none⟩ (.int .u32 fv)).setCell ⟨h,d*2+1,none⟩ (.int .i64 n)=W5 at *
    clear b0 b2 r2 r3 h0 h1 f0 f1
    have b0:W5.cell? ⟨w.heap.size,0,none⟩=some (.int .i64 st.pl):=HB5.out.cell 0
    have r2:W5.cell? ⟨pb,2,none⟩=some (.int .i64 n):=by rw[← hn];exact HQ5.out.cell 2
    go_wp2_with fail
    go_quiet (fail)
    go_wp2_with fail
    go_ret3
    rw[HO.out,HFV.out]
    refine Or.inr (Or.inl ⟨rfl,rfl,_,_,?_,HC5.out.drewN nq,?_,?_,Or.inl ⟨rfl,rfl⟩,fun g e=>?_⟩)
    · simp[fitO,readS]
    · simp only[tsRead,fitO,readS];rw[hrd]
    · simp only[tsRead,fitO,readS];exact HP.out.nd
    · cases e
      exact HH5.out
theorem bytesT_hid (bs:ByteArray)(N:Nat)(x:It)(q:Bool)(fuel far:Nat)(st:PS)(hx:x.c=104∨x.c=107):
 bytesT bs N x q fuel far st=hidT fuel far x.w.toNat x.d.toNat (numT x (bs.extract st.pl (st.pl+x.w.toNat))) st:=by
 have hl:lenT x st=x.w.toNat:=by unfold lenT;rcases hx with h | h<;>simp[h]
 unfold bytesT hidT updD
 rw[hl]
 rcases hx with h | h<;>simp[h,hidesB]
set_option maxRecDepth 100000 in
set_option maxHeartbeats 4000000 in
theorem hidden_calls (c:Cx)(hc:CxOk c)(w:World)(s:Ts)(st:PS)(h:Nat)(pb:Nat)(p:Pt)(x:It)(q:Bool)(hp:TPre c w s st (some h))(hbu:s.spans.length+s.fuel+1≤100000)(hpt:PtBlk w pb p)(hi:ItPt x p)(hx:ItR x)(hxc:x.c=104)(hpb:pb<c.rb):
 Calls Tryz.prog 140 #[.pointer (some ⟨c.tb,0,none⟩),.pointer (some ⟨pb,0,none⟩),spotV st.pl st.en (adr (some h))] w fun e w'=>TPost c w s (some h) true (bytesT c.bs c.N x q s.fuel s.far st) e w':=by
 have hw:=hx.w (by rw[hxc];rfl)
 have hd:=hx.it.d (by rw[hxc];rfl)
 have hdp:p.dp=(x.d.toNat:Int):=by rw[(hi.dp (by rw[hxc];rfl)).1];omega
 have hO:bytesT c.bs c.N x q s.fuel s.far st=hidT s.fuel s.far x.w.toNat x.d.toNat (hiV (c.bs.extract st.pl (st.pl+x.w.toNat)) (c.bs.extract st.pl (st.pl+x.w.toNat)).size) st:=by
  rw[bytesT_hid _ _ _ _ _ _ _ (Or.inl hxc)];unfold numT;rw[if_neg (by omega)]
 have hoc:=hord_calls c hc (w.alloc (spotC st.pl st.en (adr (some h)))) s st h pb p x.w.toNat x.d.toNat (hp.alloc hc _) hbu (Blk.alloc hpt _) (by rw[hi.wd];omega) (by omega) hdp (by omega) hpb _ _ (Or.inl rfl) ord_hi
 rw[← hO] at hoc
 have HOC:=hide' hoc
 have HR:Hid (Core c w s .none s.fuel s.far (w.alloc (spotC st.pl st.en (adr (some h)))) s):=Core.refl (hp.tr.alloc _) ((TF.refl c.tb c.rb .none .none w).alloc _) (by omega) _
 unfold spotC at HOC HR
 clear hp hc hpt hoc hO
 unfold spotV at HOC ⊢
 simp only[adr,Option.map_some] at HOC HR ⊢
 go_enter Tryz.func140,Tryz.ntmps140
 go_wp2_with fail
 refine HOC.out.mono (TPost.through HR.out (fun w2 _ h=>?_) (fun v k b w2 h=>?_))
 · have HH:=hide' h
   clear h
   simp only
   go_wp2_with fail
   exact ⟨rfl,HH.out⟩
 · have HH:=hide' h
   clear h
   simp only
   go_wp2_with fail
   go_ret3
   exact HH.out
set_option maxRecDepth 100000 in
set_option maxHeartbeats 4000000 in
theorem lowHidden_calls (c:Cx)(hc:CxOk c)(w:World)(s:Ts)(st:PS)(h:Nat)(pb:Nat)(p:Pt)(x:It)(q:Bool)(hp:TPre c w s st (some h))(hbu:s.spans.length+s.fuel+1≤100000)(hpt:PtBlk w pb p)(hi:ItPt x p)(hx:ItR x)(hxc:x.c=107)(hpb:pb<c.rb):
 Calls Tryz.prog 143 #[.pointer (some ⟨c.tb,0,none⟩),.pointer (some ⟨pb,0,none⟩),spotV st.pl st.en (adr (some h))] w fun e w'=>TPost c w s (some h) true (bytesT c.bs c.N x q s.fuel s.far st) e w':=by
 have hw:=hx.w (by rw[hxc];rfl)
 have hd:=hx.it.d (by rw[hxc];rfl)
 have hdp:p.dp=(x.d.toNat:Int):=by rw[(hi.dp (by rw[hxc];rfl)).1];omega
 have hO:bytesT c.bs c.N x q s.fuel s.far st=hidT s.fuel s.far x.w.toNat x.d.toNat (loV (c.bs.extract st.pl (st.pl+x.w.toNat)) (c.bs.extract st.pl (st.pl+x.w.toNat)).size) st:=by
  rw[bytesT_hid _ _ _ _ _ _ _ (Or.inr hxc)];unfold numT;rw[if_pos (by omega)]
 have hoc:=hord_calls c hc (w.alloc (spotC st.pl st.en (adr (some h)))) s st h pb p x.w.toNat x.d.toNat (hp.alloc hc _) hbu (Blk.alloc hpt _) (by rw[hi.wd];omega) (by omega) hdp (by omega) hpb _ _ (Or.inr rfl) ord_lo
 rw[← hO] at hoc
 have HOC:=hide' hoc
 have HR:Hid (Core c w s .none s.fuel s.far (w.alloc (spotC st.pl st.en (adr (some h)))) s):=Core.refl (hp.tr.alloc _) ((TF.refl c.tb c.rb .none .none w).alloc _) (by omega) _
 unfold spotC at HOC HR
 clear hp hc hpt hoc hO
 unfold spotV at HOC ⊢
 simp only[adr,Option.map_some] at HOC HR ⊢
 go_enter Tryz.func143,Tryz.ntmps143
 go_wp2_with fail
 refine HOC.out.mono (TPost.through HR.out (fun w2 _ h=>?_) (fun v k b w2 h=>?_))
 · have HH:=hide' h
   clear h
   simp only
   go_wp2_with fail
   exact ⟨rfl,HH.out⟩
 · have HH:=hide' h
   clear h
   simp only
   go_wp2_with fail
   go_ret3
   exact HH.out
end Go.Proofs.YtmlkhhhjdpbhfaaGreatDoor
namespace Go.Proofs.YtmlkhhhjdpbhfaaGreatDoor
open Go
section
variable {P:Program} {Q:Exit→Act→World→Prop}
theorem wp_region_three {id:Nat}{a:Act}{w:World}{l:List Oper}(C:World→Prop)(ix:List Nat)(n:Nat)(jx:List Nat)(m k:Nat)(o o2:Oper)(hl tl rl:List Oper)(ho:l[n]? = some o)(hg:o.guard=none)(ho2:l[m]? = some o2)(hg2:o2.guard=none)(hh:hl=ix.filterMap fun i=>l[i]?)(ht:tl=jx.filterMap fun i=>l[i]?)(hrl:rl=l.drop k)(hm:P.follows .mixedOrders=true)(hB:(Region.noSelect l.toArray&&decide (ix.length+1+jx.length+1+rl.length=l.length)&&decide (k+rl.length=l.length)&&ix.all (fun i=>decide (i<l.length))&&jx.all (fun i=>decide (i<l.length))&&
   walkFrom .any l.toArray (fun ls=>decide (Region.ready .any l.toArray ls=[n])&&walkFrom .any l.toArray (fun ls=>decide (Region.ready .any l.toArray ls=[m])&&Region.lexFrom .any l.toArray (l.toArray.size-k) k (ls.setIfInBounds m true)) jx (ls.setIfInBounds n true)) ix (Array.replicate l.toArray.size false))=true)(hQ:∀ ch a d v w,Q (.panic ch) (Act.put a d v) w→Q (.panic ch) a w)(h:wpX P l.toArray C (fun a'=>o.wp P a' { w with drawn:=w.drawn+1 } (fun a2 w2=>C w2∧wpX P l.toArray C (fun a3=>o2.wp P a3 w2 (fun a4 w4=>C w4∧wpStill P l.toArray w4 (fun a5=>Q .normal a5 w4) rl a4) Q) tl a2) Q) hl a)(hC:C { w with drawn:=w.drawn+1 }):(Code.region id l.toArray true).wp P Q a w:=by
 simp only[Bool.and_eq_true,decide_eq_true_eq] at hB
 obtain ⟨⟨⟨⟨⟨hsel,hlen⟩,hkl⟩,hall⟩,hall2⟩,hone⟩:=hB
 refine wp_region_any hm (wpC_any (C:=C) _ _ _ _ ?_)
 obtain ⟨b1,b2⟩:=picked l ix hall
 obtain ⟨d1,d2⟩:=picked l jx hall2
 have hsz:l.toArray.size=ix.length+(jx.length+(rl.length+1)+1):=by simp;omega
 have hone':=hone
 rw[hsz]
 rw[show Array.replicate l.toArray.size false=Array.replicate (ix.length+(jx.length+(rl.length+1)+1)) false by rw[hsz]] at hone'
 refine walk_lex (md:=.any) hQ hsel (fun listed a' hf hop=>?_) ix hl _ a (by rw[hh];exact b1) (fun j hj=>by rw[hh];exact b2 j hj) hone' h
 simp only[Bool.and_eq_true,decide_eq_true_eq] at hf
 obtain ⟨hr,hw2⟩:=hf
 refine ⟨hC,fun h0=>by rw[hr] at h0;simp at h0,fun i hi=>?_⟩
 rw[hr] at hi
 have hin:i=n:=by simpa using hi
 subst hin
 unfold opC
 have ho':l.toArray[i]? = some o:=by simpa using ho
 simp only[ho']
 rw[if_pos (by simp[Region.wanted,hg])]
 refine Oper.wp_mono (fun a2 w2 h2=>?_) hop
 refine walk_lex (md:=.any) hQ hsel (fun ls a3 hf3 hop3=>?_) jx tl _ a2 (by rw[ht];exact d1) (fun j hj=>by rw[ht];exact d2 j hj) hw2 h2.2
 simp only[Bool.and_eq_true,decide_eq_true_eq] at hf3
 refine ⟨h2.1,fun h0=>by rw[hf3.1] at h0;simp at h0,fun i2 hi2=>?_⟩
 rw[hf3.1] at hi2
 have hin2:i2=m:=by simpa using hi2
 subst hin2
 unfold opC
 have ho2':l.toArray[i2]? = some o2:=by simpa using ho2
 simp only[ho2']
 rw[if_pos (by simp[Region.wanted,hg2])]
 refine Oper.wp_mono (fun a4 w4 h4=>?_) hop3
 have h3:=wpAnyS_lex (md:=.any) (P:=P) (w:=w4) hsel rl k (ls.setIfInBounds i2 true) a4 (fun j=>by rw[hrl];simp[List.getElem?_drop]) (by rw[show rl.length=l.toArray.size-k by simp;omega];exact hf3.2) h4.2
 exact wpC_of_still h4.1 _ _ _ h3
end
end Go.Proofs.YtmlkhhhjdpbhfaaGreatDoor
namespace Go.Proofs.YtmlkhhhjdpbhfaaGreatDoor
open Go.RowKit
set_option maxRecDepth 100000 in
set_option maxHeartbeats 4000000 in
theorem partOf_calls (c:Cx)(hc:CxOk c)(w:World)(hb:Below c.w0.heap.size c.w0 w)(r:Nat)(hr:c.R r=true):
 Calls Tryz.prog 189 #[.pointer (some ⟨c.gb,0,none⟩),.int .i64 r] w fun e w'=>∃ pb f lo hi,e=.returned (.pointer (some ⟨pb,0,none⟩))∧Below w.heap.size w w'∧RepS f c.w0 lo hi pb false (c.G r)∧hi≤c.w0.heap.size:=by
 obtain ⟨v,l,h1,h2,h3⟩:=hc.gr
 obtain ⟨i,hi,hir,hino,hG⟩:=h3 r hr
 obtain ⟨g,cap,rfl,hgl,hcl⟩:=h2.shape
 obtain ⟨lo,hi2,hlo,hhi,hrep⟩:=h2.rep l[i] (List.getElem_mem hi)
 rw[← hG] at hrep
 have hl8:=h2.len
 have hgb:=h1.lt
 have hsz:=hb.size
 have HB:=hide' hb
 have HCl:=hide' hcl
 have HNo:=hide' hino
 have HRep:=hide' hrep
 have g0:w.cell? ⟨c.gb,0,none⟩=some (.slice (some ⟨g,0,none⟩) l.length cap):=by rw[hb.cell (p:=⟨c.gb,0,none⟩) hgb];exact h1.cell 0
 clear h1 h2 h3 hb hcl hino hrep hc
 go_enter Tryz.func189,Tryz.ntmps189
 go_wp2_with fail
 go_loopw [12,6] (fun v12 _ wr=>∃ j:Nat,v12=.int .i64 j∧j≤i∧Hid (Below w.heap.size w wr)) (fun v12 _ _=>i+1-(intOf v12).toNat)
 case atStart=>exact ⟨0,rfl,by omega,Below.refl _ _⟩
 case round=>
  obtain ⟨j,rfl,hj,hbel⟩:=hrel
  have hjl:j<l.length:=by omega
  have hjl':(j:Int)<(l.length:Int):=by omega
  obtain ⟨d0,d1,d2⟩:=HCl.out j hjl
  have hbs:=hbel.out.size
  have c0:wr.cell? ⟨g,j*3,none⟩=some (.int .i64 l[j].1.r):=by rw[hbel.out.cell (p:=⟨g,j*3,none⟩) (by simp only;omega),HB.out.cell (p:=⟨g,j*3,none⟩) hgl];exact d0
  have c1:wr.cell? ⟨g,j*3+1,none⟩=some (.int .i64 l[j].1.pl):=by rw[hbel.out.cell (p:=⟨g,j*3+1,none⟩) (by simp only;omega),HB.out.cell (p:=⟨g,j*3+1,none⟩) hgl];exact d1
  have c2:wr.cell? ⟨g,j*3+2,none⟩=some (.pointer (some ⟨l[j].2,0,none⟩)):=by rw[hbel.out.cell (p:=⟨g,j*3+2,none⟩) (by simp only;omega),HB.out.cell (p:=⟨g,j*3+2,none⟩) hgl];exact d2
  by_cases hji:j=i
  · subst hji
    have hq:(l[j].1.r==(r:Int))=true:=by simp[hir]
    have HRep2:Hid (RepS (c.sg.size+1) c.w0 lo hi2 l[j].2 false (c.G r)):=HRep.out
    have HN:=hide' (hbel.out.alloc (by omega) (.cells #[.int .i64 l[j].1.r,.int .i64 (l[j].1.pl:Int),.pointer (some ⟨l[j].2,0,none⟩)] 123))
    clear d0 d1 d2 HRep hir hG
    generalize l[j]=x at *
    go_wp2_with fail
    go_ret
    exact ⟨_,_,_,_,rfl,HN.out,HRep2.out,hhi⟩
  · have hq:(l[j].1.r==(r:Int))=false:=by simpa using HNo.out j (by omega) hjl
    have HN:=hide' (hbel.out.alloc (by omega) (.cells #[.int .i64 l[j].1.r,.int .i64 (l[j].1.pl:Int),.pointer (some ⟨l[j].2,0,none⟩)] 123))
    clear d0 d1 d2
    generalize l[j]=x at *
    go_wp2_with fail
    go_roundw
    case rel=>exact ⟨j+1,by go_num,by omega,HN⟩
    case measure=>simp[intOf];omega
theorem hidV_hidK {k:List It}(h:hidV k=false)(ho:Option Nat):hidK k ho=none:=by unfold hidK;rw[h];rfl
theorem silK_false {k:List It}(h:hidV k=false):silK false k=false:=by
 cases k with
 | nil=>rfl
 | cons x r=>have h2:hidesB x.c=false:=h;simp[silK,h2]
theorem TPost.keeps {c:Cx}{w w':World}{s:Ts}{sil:Bool}{o:PO}{e:Ending}(h:TPost c w s none sil o e w'):TF c.tb c.rb s.sv.ownBlock none w w':=by
 rcases h with ⟨_,_,d⟩ | ⟨_,_,s',v,_,e,_⟩ | ⟨_,_,s',v,k,_,e⟩
 · exact d
 · exact e.fr
 · exact e.fr
set_option maxRecDepth 100000 in
set_option maxHeartbeats 4000000 in
theorem tryRule_calls (c:Cx)(hc:CxOk c)(g:Nat)(ih:TryC c g)(w:World)(s:Ts)(st:PS)(ho:Option Nat)(pb:Nat)(p:Pt)(x:It)(hp:TPre c w s st ho)(hpt:PtBlk w pb p)(hi:ItPt x p)(hx:ItR x)(hxc:x.c=82)(hr:c.R x.r.toNat=true)(hpb:pb<c.rb)(hf:s.fuel≤g):
 Calls Tryz.prog 137 #[.pointer (some ⟨c.tb,0,none⟩),.pointer (some ⟨pb,0,none⟩),spotV st.pl st.en (adr ho)] w fun e w'=>TPost c w s none false (tryT c.G c.bs c.N g s.fuel s.far false (c.G x.r.toNat) st) e w':=by
 have hrr:=hx.it.r hxc
 obtain ⟨r,hr2⟩:∃ r:Nat,x.r=(r:Int):=⟨x.r.toNat,by omega⟩
 rw[hr2] at hr ⊢
 simp only[Int.toNat_natCast] at hr ⊢
 have hru:p.ru=(r:Int):=by rw[(hi.ru hxc).2,hr2]
 have hlt:=hp.tr.blk.lt
 have hlt2:=hc.lt
 have hle:=hc.le
 have hptl:=hpt.lt
 have HP:=hide' hp
 have HC:=hide' hc
 have HI:=hide' ih
 have HWf:=hide' (hc.wf r hr)
 have hnh:=(hc.wf r hr).notHid rfl
 have HP1:=hide' (hp.alloc hc (spotC st.pl st.en (adr ho)))
 have HB1:=hide' (Blk.new w #[.int .i64 st.pl,.int .i64 st.en,.pointer (adr ho)] 159)
 have HQ1:=hide' (show PtBlk (w.alloc (spotC st.pl st.en (adr ho))) pb p from Blk.alloc hpt _)
 have HR1:Hid (Core c w s .none s.fuel s.far (w.alloc (spotC st.pl st.en (adr ho))) s):=Core.refl (hp.tr.alloc _) ((TF.refl c.tb c.rb .none .none w).alloc _) hp.bud _
 have hs1:(w.alloc (spotC st.pl st.en (adr ho))).heap.size=w.heap.size+1:=by simp
 unfold spotC at HP1 HQ1 HR1 hs1
 clear hp hc hpt ih
 unfold spotV
 generalize hoa':adr ho=hoa at *
 have HOA:=hide' hoa'
 clear hoa'
 go_enter Tryz.func137,Tryz.ntmps137
 go_wp2_with fail
 generalize w.alloc (.cells #[.int .i64 st.pl,.int .i64 st.en,.pointer hoa] 159)=W1 at *
 refine wp_region_three (fun W=>W.cell? ⟨w.heap.size,0,none⟩=some (.int .i64 st.pl)∧W.cell? ⟨w.heap.size,1,none⟩=some (.int .i64 st.en)∧W.cell? ⟨w.heap.size,2,none⟩=some (.pointer hoa)∧W.cell? ⟨c.tb,45,none⟩=some (.pointer (some ⟨c.gb,0,none⟩))∧W.cell? ⟨pb,6,none⟩=some (.int .i64 r)) [0,1,2,3,4,5,6,7,8,9,11] 10 [] 12 13 _ _ _ _ _ rfl rfl rfl rfl rfl rfl rfl (by kernel_rfl) (by kernel_rfl) (fun _ _ d _ _ h=>by cases d<;>exact h) ?_ ⟨HB1.out.cell 0,HB1.out.cell 1,HB1.out.cell 2,HP1.out.tr.cgram,by rw[← hru];exact HQ1.out.cell 6⟩
 simp only[List.filterMap_cons,List.filterMap_nil,List.getElem?_cons_zero,List.getElem?_cons_succ,List.drop_succ_cons,List.drop_zero]
 refine wpX_stepK (.pointer (some ⟨c.tb,0,none⟩)) rfl (fun W hW=>by obtain ⟨c0,c1,c2,c3,c4⟩:=hW;go_simp) (fun K hK=>?_)
 go_simp
 refine hK _ ?_
 clear hK K
 refine wpX_stepK (.pointer (some ⟨c.tb,0,none⟩)) rfl (fun W hW=>by obtain ⟨c0,c1,c2,c3,c4⟩:=hW;go_simp) (fun K hK=>?_)
 go_simp
 refine hK _ ?_
 clear hK K
 refine wpX_stepK (.pointer (some ⟨c.tb,0,none⟩)) rfl (fun W hW=>by obtain ⟨c0,c1,c2,c3,c4⟩:=hW;go_simp) (fun K hK=>?_)
 go_simp
 refine hK _ ?_
 clear hK K
 refine wpX_stepK (.pointer (some ⟨c.tb,0,none⟩)) rfl (fun W hW=>by obtain ⟨c0,c1,c2,c3,c4⟩:=hW;go_simp) (fun K hK=>?_)
 go_simp
 refine hK _ ?_
 clear hK K
 refine wpX_stepK (.pointer (some ⟨c.tb,45,none⟩)) rfl (fun W hW=>by obtain ⟨c0,c1,c2,c3,c4⟩:=hW;go_simp) (fun K hK=>?_)
 go_simp
 refine hK _ ?_
 clear hK K
 refine wpX_stepK (.pointer (some ⟨c.gb,0,none⟩)) rfl (fun W hW=>by obtain ⟨c0,c1,c2,c3,c4⟩:=hW;go_simp) (fun K hK=>?_)
 go_simp
 refine hK _ ?_
 clear hK K
 refine wpX_stepK (.pointer (some ⟨pb,0,none⟩)) rfl (fun W hW=>by obtain ⟨c0,c1,c2,c3,c4⟩:=hW;go_simp) (fun K hK=>?_)
 go_simp
 refine hK _ ?_
 clear hK K
 refine wpX_stepK (.pointer (some ⟨pb,0,none⟩)) rfl (fun W hW=>by obtain ⟨c0,c1,c2,c3,c4⟩:=hW;go_simp) (fun K hK=>?_)
 go_simp
 refine hK _ ?_
 clear hK K
 refine wpX_stepK (.pointer (some ⟨pb,6,none⟩)) rfl (fun W hW=>by obtain ⟨c0,c1,c2,c3,c4⟩:=hW;go_simp) (fun K hK=>?_)
 go_simp
 refine hK _ ?_
 clear hK K
 refine wpX_stepK (.int .i64 r) rfl (fun W hW=>by obtain ⟨c0,c1,c2,c3,c4⟩:=hW;go_simp) (fun K hK=>?_)
 go_simp
 refine hK _ ?_
 clear hK K
 refine wpX_stepK (.agg #[.int .i64 st.pl,.int .i64 st.en,.pointer hoa]) rfl (fun W hW=>by obtain ⟨c0,c1,c2,c3,c4⟩:=hW;go_simp) (fun K hK=>?_)
 go_simp
 refine hK _ ?_
 clear hK K
 refine wpX_nil ?_
 unfold Oper.wp
 go_simp
 refine (partOf_calls c HC.out (W1.drewN 1) (HP1.out.drewN 1).bel r hr).mono ?_
 rintro e w2 ⟨qb,f2,lo2,hi2,rfl,hb2,hrep2,hhi2⟩
 have hb2':Below W1.heap.size W1 w2:=⟨hb2.os,hb2.tape,hb2.output,hb2.size,hb2.block⟩
 have hs2:=hb2'.size
 have HB2:=hide' (HB1.out.below hb2' HB1.out.lt)
 have HQ2:=hide' (show PtBlk w2 pb p from HQ1.out.below hb2' HQ1.out.lt)
 have HR2:=hide' (HR1.out.belowAll hb2')
 have HP2:Hid (TPre c w2 s st ho):=TPre.next HC.out HP1.out ⟨HR2.out.tr,rfl,rfl,⟨[],by simp,rfl⟩,HP.out.bud,(TF.refl c.tb c.rb _ .none W1).belowAll hb2',Or.inl rfl⟩ (Or.inl rfl) HP.out.rd HP.out.nd HP.out.inv (fun _ _ _=>rfl) (fun _ e=>by cases e)
 have HRep:=hide' hrep2
 clear hb2 hb2' hrep2 HB1 HQ1 HR1 HP1
 simp only
 refine ⟨⟨HB2.out.cell 0,HB2.out.cell 1,HB2.out.cell 2,HP2.out.tr.cgram,by rw[← hru];exact HQ2.out.cell 6⟩,?_⟩
 refine wpX_nil ?_
 go_simp
 have hcall:=HI.out w2 s st ho (c.G r) false false false false f2 lo2 hi2 qb HP2.out HRep.out hhi2 HWf.out (fun h=>by rcases h with h | h<;>cases h) rfl hf
 rw[hidV_hidK hnh,silK_false hnh,HOA.out] at hcall
 unfold spotV at hcall
 have hnb:some w.heap.size≠s.sv.ownBlock:=fun e=>by have:=HP.out.tr.svlt _ e.symm;omega
 have hnp:some pb≠s.sv.ownBlock:=fun e=>by have:=HP.out.tr.svlt _ e.symm;omega
 have hbl:=HB2.out.lt
 refine hcall.mono fun e3 w3 hpo=>?_
 have hk:=hpo.keeps
 have HB3:=hide' (hk.blk HB2.out (by omega) (by omega) hnb (by simp))
 have HQ3:=hide' (show PtBlk w3 pb p from hk.blk HQ2.out (by omega) (by omega) hnp (by simp))
 have hpo2:=TPost.ahead HR2.out hpo
 rcases hpo2 with ⟨a1,a2,a3⟩ | ⟨a1,a2,s',v,a3,a4⟩ | ⟨a1,a2,s',v,k,a3,a4⟩
 · subst a2
   have HH:Hid (TPost c w s .none false (tryT c.G c.bs c.N g s.fuel s.far false (c.G r) st) (.panicked (outV (tryT c.G c.bs c.N g s.fuel s.far false (c.G r) st).e)) w3):=Or.inl ⟨a1,rfl,a3⟩
   clear a1 a3 hcall hpo
   simp only
   exact ⟨rfl,HH.out⟩
 · subst a3
   have HH:Hid (TPost c w s .none false (tryT c.G c.bs c.N g s.fuel s.far false (c.G r) st) (.returned (.tuple #[v,.int .i64 (tryT c.G c.bs c.N g s.fuel s.far false (c.G r) st).st.pl,.bool true])) w3):=Or.inr (Or.inl ⟨a1,a2,s',v,rfl,a4⟩)
   have hcg:=a4.1.tr.cgram
   clear a1 a2 a4 hcall hpo
   simp only
   refine ⟨⟨HB3.out.cell 0,HB3.out.cell 1,HB3.out.cell 2,hcg,by rw[← hru];exact HQ3.out.cell 6⟩,?_⟩
   repeat still_step
   refine wpStill_nil ?_
   go_wp2_with fail
   go_ret3
   exact HH.out
 · subst a3
   have HH:Hid (TPost c w s .none false (tryT c.G c.bs c.N g s.fuel s.far false (c.G r) st) (.returned (.tuple #[v,.int .i64 k,.bool false])) w3):=Or.inr (Or.inr ⟨a1,a2,s',v,k,rfl,a4⟩)
   have hcg:=a4.tr.cgram
   clear a1 a2 a4 hcall hpo
   simp only
   refine ⟨⟨HB3.out.cell 0,HB3.out.cell 1,HB3.out.cell 2,hcg,by rw[← hru];exact HQ3.out.cell 6⟩,?_⟩
   repeat still_step
   refine wpStill_nil ?_
   go_wp2_with fail
   go_ret3
   exact HH.out
end Go.Proofs.YtmlkhhhjdpbhfaaGreatDoor

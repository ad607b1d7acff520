import Derived.Test.YtmlkhhhjdpbhfaaGreatDoorFo14
namespace Go.Proofs.YtmlkhhhjdpbhfaaGreatDoor
open Go.RowKit
theorem TPre.alloc {c:Cx}(hc:CxOk c){w:World}{s:Ts}{st:PS}{ho:Option Nat}(h:TPre c w s st ho)(o:Obj):TPre c (w.alloc o) s st ho:=by
 have hlt:=h.tr.blk.lt
 have h1:=hc.le
 have h2:=hc.lt
 exact ⟨h.tr.alloc o,h.bel.alloc (by omega) o,h.nd,h.rd,h.inv,h.sp,h.bud,fun g e=>⟨Blk.alloc (h.hid g e).1 o,(h.hid g e).2⟩⟩
theorem TPre.drewN {c:Cx}{w:World}{s:Ts}{st:PS}{ho:Option Nat}(h:TPre c w s st ho)(n:Nat):TPre c (w.drewN n) s st ho:=
 ⟨h.tr.drewN n,⟨h.bel.os,h.bel.tape,h.bel.output,h.bel.size,h.bel.block⟩,h.nd,h.rd,h.inv,h.sp,h.bud,fun g e=>⟨(h.hid g e).1,(h.hid g e).2⟩⟩
theorem TPre.none {c:Cx}{w:World}{s:Ts}{st:PS}{ho:Option Nat}(h:TPre c w s st ho):TPre c w s st .none:=⟨h.tr,h.bel,h.nd,h.rd,h.inv,h.sp,h.bud,fun _ e=>by cases e⟩
theorem HdAt.cell {w:World}{hb:Nat}{deps:Nat→Nat × Nat}(h:HdAt w hb deps)(d:Nat)(hd:d<8):w.cell? ⟨hb,d*2,none⟩=some (.int .u32 (deps d).1)∧w.cell? ⟨hb,d*2+1,none⟩=some (.int .i64 (deps d).2):=by
 have h8:d=0∨d=1∨d=2∨d=3∨d=4∨d=5∨d=6∨d=7:=by omega
 rw[Blk.cell h,Blk.cell h]
 rcases h8 with rfl | rfl | rfl | rfl | rfl | rfl | rfl | rfl<;>exact ⟨rfl,rfl⟩
theorem bytesT_num (bs:ByteArray)(N:Nat)(x:It)(q:Bool)(fuel far:Nat)(st:PS)(hx:x.c=110∨x.c=108):
 bytesT bs N x q fuel far st=ordT N fuel far x.w.toNat (decT (numT x (bs.extract st.pl (st.pl+x.w.toNat)))) st:=by
 have hl:lenT x st=x.w.toNat:=by unfold lenT;rcases hx with h | h<;>simp[h]
 unfold bytesT ordT
 rw[hl]
 rcases hx with h | h<;>simp[h,hidesB]
theorem bytesT_run (bs:ByteArray)(N:Nat)(x:It)(q:Bool)(fuel far:Nat)(st:PS)(hx:x.c=114∨x.c=46):
 bytesT bs N x q fuel far st=ordT N fuel far (lenT x st) (quoteT (bs.extract st.pl (st.pl+lenT x st))) st:=by
 unfold bytesT ordT
 rcases hx with h | h<;>simp[h]
theorem TPost.through {c:Cx}{w w1:World}{s:Ts}{hb:Option Nat}{sil:Bool}{o:PO}(hr:Core c w s .none s.fuel s.far w1 s){P:Ending→World→Prop}(h1:∀ w2,TF c.tb c.rb s.sv.ownBlock hb w w2→TPost c w s hb sil o (.panicked (outV o.e)) w2→P (.panicked (outV o.e)) w2)(h2:∀ v (k:Int) b w2,TPost c w s hb sil o (.returned (.tuple #[v,.int .i64 k,.bool b])) w2→P (.returned (.tuple #[v,.int .i64 k,.bool b])) w2):
 ∀ e w2,TPost c w1 s hb sil o e w2→P e w2:=by
 intro e w2 h
 have h':=TPost.ahead hr h
 rcases h' with ⟨a,b,d⟩ | ⟨a,b,s',v,d,r⟩ | ⟨a,b,s',v,k,d,r⟩
 · subst b;exact h1 w2 d (Or.inl ⟨a,rfl,d⟩)
 · subst d;exact h2 _ _ _ _ (Or.inr (Or.inl ⟨a,b,s',v,rfl,r⟩))
 · subst d;exact h2 _ _ _ _ (Or.inr (Or.inr ⟨a,b,s',v,k,rfl,r⟩))
set_option maxRecDepth 100000 in
set_option maxHeartbeats 4000000 in
theorem number_calls (c:Cx)(hc:CxOk c)(w:World)(s:Ts)(st:PS)(ho:Option Nat)(pb:Nat)(p:Pt)(x:It)(q:Bool)(hp:TPre c w s st ho)(hbu:s.spans.length+s.fuel+1≤100000)(hpt:PtBlk w pb p)(hi:ItPt x p)(hx:ItR x)(hxc:x.c=110)(hpb:pb<c.rb):
 Calls Tryz.prog 120 #[.pointer (some ⟨c.tb,0,none⟩),.pointer (some ⟨pb,0,none⟩),spotV st.pl st.en (adr ho)] w fun e w'=>TPost c w s none false (bytesT c.bs c.N x q s.fuel s.far st) e w':=by
 have hw:=hx.w (by rw[hxc];rfl)
 have hO:bytesT c.bs c.N x q s.fuel s.far st=ordT c.N s.fuel s.far x.w.toNat (decT (hiV (c.bs.extract st.pl (st.pl+x.w.toNat)) (c.bs.extract st.pl (st.pl+x.w.toNat)).size)) st:=by
  rw[bytesT_num _ _ _ _ _ _ _ (Or.inl hxc)];unfold numT;rw[if_neg (by omega)]
 have hoc:=ordered_calls c hc (w.alloc (spotC st.pl st.en (adr ho))) s st (adr ho) pb p x.w.toNat (hp.alloc hc _).none hbu (Blk.alloc hpt _) (by rw[hi.wd];omega) (by omega) hpb _ _ (Or.inl rfl) ord_hi
 rw[← hO] at hoc
 have HOC:=hide' hoc
 have HR:Hid (Core c w s .none s.fuel s.far (w.alloc (spotC st.pl st.en (adr ho))) s):=Core.refl (hp.tr.alloc _) ((TF.refl c.tb c.rb .none .none w).alloc _) (by omega) _
 unfold spotC at HOC HR
 clear hp hc hpt hoc hO
 unfold spotV at HOC ⊢
 go_enter Tryz.func120,Tryz.ntmps120
 go_wp2_with fail
 refine HOC.out.mono (TPost.through HR.out (fun w2 _ h=>?_) (fun v k b w2 h=>?_))
 · have HH:=hide' h
   clear h
   simp only
   go_wp2_with fail
   exact ⟨rfl,HH.out⟩
 · have HH:=hide' h
   clear h
   simp only
   go_wp2_with fail
   go_ret3
   exact HH.out
set_option maxRecDepth 100000 in
set_option maxHeartbeats 4000000 in
theorem low_calls (c:Cx)(hc:CxOk c)(w:World)(s:Ts)(st:PS)(ho:Option Nat)(pb:Nat)(p:Pt)(x:It)(q:Bool)(hp:TPre c w s st ho)(hbu:s.spans.length+s.fuel+1≤100000)(hpt:PtBlk w pb p)(hi:ItPt x p)(hx:ItR x)(hxc:x.c=108)(hpb:pb<c.rb):
 Calls Tryz.prog 123 #[.pointer (some ⟨c.tb,0,none⟩),.pointer (some ⟨pb,0,none⟩),spotV st.pl st.en (adr ho)] w fun e w'=>TPost c w s none false (bytesT c.bs c.N x q s.fuel s.far st) e w':=by
 have hw:=hx.w (by rw[hxc];rfl)
 have hO:bytesT c.bs c.N x q s.fuel s.far st=ordT c.N s.fuel s.far x.w.toNat (decT (loV (c.bs.extract st.pl (st.pl+x.w.toNat)) (c.bs.extract st.pl (st.pl+x.w.toNat)).size)) st:=by
  rw[bytesT_num _ _ _ _ _ _ _ (Or.inr hxc)];unfold numT;rw[if_pos (by omega)]
 have hoc:=ordered_calls c hc (w.alloc (spotC st.pl st.en (adr ho))) s st (adr ho) pb p x.w.toNat (hp.alloc hc _).none hbu (Blk.alloc hpt _) (by rw[hi.wd];omega) (by omega) hpb _ _ (Or.inr rfl) ord_lo
 rw[← hO] at hoc
 have HOC:=hide' hoc
 have HR:Hid (Core c w s .none s.fuel s.far (w.alloc (spotC st.pl st.en (adr ho))) s):=Core.refl (hp.tr.alloc _) ((TF.refl c.tb c.rb .none .none w).alloc _) (by omega) _
 unfold spotC at HOC HR
 clear hp hc hpt hoc hO
 unfold spotV at HOC ⊢
 go_enter Tryz.func123,Tryz.ntmps123
 go_wp2_with fail
 refine HOC.out.mono (TPost.through HR.out (fun w2 _ h=>?_) (fun v k b w2 h=>?_))
 · have HH:=hide' h
   clear h
   simp only
   go_wp2_with fail
   exact ⟨rfl,HH.out⟩
 · have HH:=hide' h
   clear h
   simp only
   go_wp2_with fail
   go_ret3
   exact HH.out
set_option maxRecDepth 100000 in
set_option maxHeartbeats 4000000 in
theorem rest_calls (c:Cx)(hc:CxOk c)(w:World)(s:Ts)(st:PS)(ho:Option Nat)(pb:Nat)(x:It)(q:Bool)(hp:TPre c w s st ho)(hbu:s.spans.length+s.fuel+1≤100000)(hxc:x.c=46):
 Calls Tryz.prog 157 #[.pointer (some ⟨c.tb,0,none⟩),.pointer (some ⟨pb,0,none⟩),spotV st.pl st.en (adr ho)] w fun e w'=>TPost c w s none false (bytesT c.bs c.N x q s.fuel s.far st) e w':=by
 have hpl:=hp.inv.pl
 have hen:=hp.inv.en
 have hbs:=hc.bs
 have hl:lenT x st=st.en-st.pl:=by unfold lenT;simp[hxc]
 have hoc:=bytes_calls c hc (w.alloc (spotC st.pl st.en (adr ho))) s st (adr ho) (lenT x st) (hp.alloc hc _).none hbu (by omega)
 rw[← bytesT_run c.bs c.N x q s.fuel s.far st (Or.inr hxc),hl,show ((st.en-st.pl:Nat):Int)=(st.en:Int)-(st.pl:Int) by omega] at hoc
 have HOC:=hide' hoc
 have HR:Hid (Core c w s .none s.fuel s.far (w.alloc (spotC st.pl st.en (adr ho))) s):=Core.refl (hp.tr.alloc _) ((TF.refl c.tb c.rb .none .none w).alloc _) (by omega) _
 unfold spotC at HOC HR
 clear hp hc hoc hl
 unfold spotV at HOC ⊢
 go_enter Tryz.func157,Tryz.ntmps157
 go_wp2_with fail
 refine HOC.out.mono (TPost.through HR.out (fun w2 _ h=>?_) (fun v k b w2 h=>?_))
 · have HH:=hide' h
   clear h
   simp only
   go_wp2_with fail
   exact ⟨rfl,HH.out⟩
 · have HH:=hide' h
   clear h
   simp only
   go_wp2_with fail
   go_ret3
   exact HH.out
set_option maxRecDepth 100000 in
set_option maxHeartbeats 4000000 in
theorem run_calls (c:Cx)(hc:CxOk c)(w:World)(s:Ts)(st:PS)(h:Nat)(pb:Nat)(p:Pt)(x:It)(q:Bool)(hp:TPre c w s st (some h))(hbu:s.spans.length+s.fuel+1≤100000)(hpt:PtBlk w pb p)(hi:ItPt x p)(hx:ItR x)(hxc:x.c=114)(_hpb:pb<c.rb):
 Calls Tryz.prog 145 #[.pointer (some ⟨c.tb,0,none⟩),.pointer (some ⟨pb,0,none⟩),spotV st.pl st.en (adr (some h))] w fun e w'=>TPost c w s none false (bytesT c.bs c.N x q s.fuel s.far st) e w':=by
 have hd:=hx.it.d (by rw[hxc];rfl)
 obtain ⟨d,hdd⟩:∃ d:Nat,x.d=(d:Int):=⟨x.d.toNat,by omega⟩
 have hd8:d<8:=by omega
 have hd8':(d:Int)<8:=by omega
 have hdp:p.dp=(d:Int):=by rw[(hi.dp (by rw[hxc];rfl)).1,hdd]
 have hdv:=(hp.inv.deps d).1
 have hl:lenT x st=(st.deps d).1:=by unfold lenT;simp[hxc,hdd]
 have hoc:=bytes_calls c hc ((w.alloc (spotC st.pl st.en (adr (some h)))).drewN 1) s st (adr (some h)) (lenT x st) ((hp.alloc hc _).none.drewN 1) hbu (by omega)
 rw[← bytesT_run c.bs c.N x q s.fuel s.far st (Or.inl hxc),hl] at hoc
 have HOC:=hide' hoc
 have HR:Hid (Core c w s .none s.fuel s.far ((w.alloc (spotC st.pl st.en (adr (some h)))).drewN 1) s):=Core.refl ((hp.tr.alloc _).drewN 1) (((TF.refl c.tb c.rb .none .none w).alloc _).drewN 1) (by omega) _
 have HB1:=hide' (Blk.new w #[.int .i64 st.pl,.int .i64 st.en,.pointer (adr (some h))] 159)
 have HQ1:=hide' (show PtBlk (w.alloc (spotC st.pl st.en (adr (some h)))) pb p from Blk.alloc hpt _)
 have HH1:=hide' (show HdAt (w.alloc (spotC st.pl st.en (adr (some h)))) h st.deps from Blk.alloc (hp.hid h rfl).1 _)
 unfold spotC at HOC HR HQ1 HH1
 clear hp hc hoc hl hpt
 unfold spotV at HOC ⊢
 simp only[adr,Option.map_some] at HOC HR HB1 HQ1 HH1 ⊢
 go_enter Tryz.func145,Tryz.ntmps145
 go_wp2_with fail
 generalize w.alloc (.cells #[.int .i64 st.pl,.int .i64 st.en,.pointer (some ⟨h,0,none⟩)] 159)=W1 at *
 have a0:W1.cell? ⟨w.heap.size,0,none⟩=some (.int .i64 st.pl):=HB1.out.cell 0
 have a1:W1.cell? ⟨w.heap.size,1,none⟩=some (.int .i64 st.en):=HB1.out.cell 1
 have a2:W1.cell? ⟨w.heap.size,2,none⟩=some (.pointer (some ⟨h,0,none⟩)):=HB1.out.cell 2
 have p3:W1.cell? ⟨pb,3,none⟩=some (.int .i64 d):=by rw[← hdp];exact HQ1.out.cell 3
 have h0:W1.cell? ⟨h,d*2,none⟩=some (.int .u32 (st.deps d).1):=(HH1.out.cell d hd8).1
 refine wp_region_mid 12 _ rfl rfl (by kernel_rfl) (by kernel_rfl) ?_
 simp only[List.take_succ_cons,List.take_zero,List.drop_succ_cons,List.drop_zero]
 repeat still_step
 refine wpStill_nil ?_
 unfold Oper.wp
 go_simp
 refine HOC.out.mono (TPost.through HR.out (fun w2 _ h=>?_) (fun v k b w2 h=>?_))
 · have HH:=hide' h
   clear h
   simp only
   exact ⟨rfl,HH.out⟩
 · have HH:=hide' h
   clear h
   simp only
   repeat still_step
   refine wpStill_nil ?_
   go_wp2_with fail
   go_ret3
   exact HH.out
theorem ext_one (bs:ByteArray)(a:Nat)(h:a<bs.size):∃ h0:0<(bs.extract a (a+1)).size,((bs.extract a (a+1))[0].toNat:Int)=bt bs a:=by
 have hs:(bs.extract a (a+1)).size=1:=by rw[ByteArray.size_extract];omega
 refine ⟨by omega,?_⟩
 rw[bt_in bs a h]
 simp[ByteArray.getElem_extract]
set_option maxRecDepth 100000 in
set_option maxHeartbeats 8000000 in
theorem fixed_calls (c:Cx)(hc:CxOk c)(w:World)(s:Ts)(st:PS)(ho:Option Nat)(pb:Nat)(p:Pt)(x:It)(q:Bool)(hp:TPre c w s st ho)(hbu:s.spans.length+s.fuel+1≤100000)(hpt:PtBlk w pb p)(hi:ItPt x p)(hx:ItR x)(hxc:x.c=39)(hpb:pb<c.rb)(hq:p.sl=q):
 Calls Tryz.prog 125 #[.pointer (some ⟨c.tb,0,none⟩),.pointer (some ⟨pb,0,none⟩),spotV st.pl st.en (adr ho)] w fun e w'=>TPost c w s none q (bytesT c.bs c.N x q s.fuel s.far st) e w':=by
 have hlt:=hp.tr.blk.lt
 have hlt2:=hc.lt
 have hbs:=hc.bs
 have hpl:=hp.inv.pl
 have hen:=hp.inv.en
 have hrl:=hp.inv.rd
 have hrd:=hp.rd
 have hptl:=hpt.lt
 have hvl:p.vl=x.b:=hi.vl
 have hxb:=hx.b hxc
 have hl:lenT x st=1:=by unfold lenT;rw[if_pos hxc]
 have HP:=hide' hp
 have HC:=hide' hc
 have HT2:=hide' (hp.tr.alloc (spotC st.pl st.en (adr ho)))
 have HF2:=hide' ((TF.refl c.tb c.rb none none w).alloc (spotC st.pl st.en (adr ho)))
 have HB2:=hide' (Blk.new w #[.int .i64 st.pl,.int .i64 st.en,.pointer (adr ho)] 159)
 have HQ2:=hide' (show PtBlk (w.alloc (spotC st.pl st.en (adr ho))) pb p from Blk.alloc hpt _)
 have hs2:(w.alloc (spotC st.pl st.en (adr ho))).heap.size=w.heap.size+1:=by simp
 unfold spotC at HT2 HF2 hs2 HQ2
 clear hp hc hpt
 unfold spotV
 generalize adr ho=hoa at *
 go_enter Tryz.func125,Tryz.ntmps125
 go_wp2_with fail
 generalize w.alloc (.cells #[.int .i64 st.pl,.int .i64 st.en,.pointer hoa] 159)=W2 at *
 cases hcr:canRead s.read st.pl st.en 1
 · have HO:Hid (bytesT c.bs c.N x q s.fuel s.far st=failO s.fuel s.far st.pl st):=by
    have:bytesT c.bs c.N x q s.fuel s.far st=failO s.fuel s.far st.pl st:=by unfold bytesT;rw[hl,← hrd,hcr];rfl
    exact this
   refine (readOn_no c.gb c.rb c.tb c.bs hbs W2 s HT2.out st.pl st.en 1 hoa hpl hen (by omega) hcr).mono ?_
   rintro e w3 ⟨rfl,ht3,hf3⟩
   have HC3:=hide' (Core.refl ht3 (HF2.out.trans hf3 (Or.inl rfl) (Or.inl rfl)) (by omega) none)
   have HB3:=hide' (hf3.blk HB2.out (by omega) (by omega) (by simp) (by simp))
   clear ht3 hf3 hcr HT2 HF2 HB2
   simp only
   go_wp2_with fail
   go_quiet (fail)
   have a0:(w3.drewN nq).cell? ⟨w.heap.size,0,none⟩=some (.int .i64 st.pl):=HB3.out.cell 0
   go_wp2_with fail
   refine (fail_calls c.gb c.rb c.tb c.bs (w3.drewN nq) s (HC3.out.tr.drewN nq) st.pl).mono ?_
   rintro e w4 ⟨rfl,hw4⟩
   have HW4:=hide' hw4
   clear hw4
   simp only
   go_wp2_with fail
   go_ret3
   rw[HO.out]
   exact TPost.fail st.pl st (HC3.out.drewN nq) HW4.out _ _
 · have hcr2:canRead st.rd st.pl st.en 1=true:=by rw[← hrd];exact hcr
   have hnn:1≤st.en-st.pl:=by
    unfold canRead at hcr2;simp only[Bool.and_eq_true,decide_eq_true_eq] at hcr2;exact hcr2.1
   have HO:Hid (bytesT c.bs c.N x q s.fuel s.far st=if (bn c.bs st.pl:Int)≠x.b then failO s.fuel s.far st.pl st else if q then fitO s.fuel s.far (readS st 1) [] else madeO c.N s.fuel s.far (readS st 1) [45]):=by
    have:bytesT c.bs c.N x q s.fuel s.far st=if (bn c.bs st.pl:Int)≠x.b then failO s.fuel s.far st.pl st else if q then fitO s.fuel s.far (readS st 1) [] else madeO c.N s.fuel s.far (readS st 1) [45]:=by unfold bytesT;rw[hl,hcr2,if_pos rfl,if_pos hxc]
    exact this
   obtain ⟨hx0,hx1⟩:=ext_one c.bs st.pl (by omega)
   refine (readOn_yes c.gb c.rb c.tb c.bs hbs W2 s HT2.out st.pl st.en 1 hoa hpl hen (by omega) hcr (by omega)).mono ?_
   rintro e w3 ⟨rfl,sv,ht3,hf3,hsv3⟩
   have hf3':=HF2.out.size
   have HC3:Hid (Core c w s none s.fuel s.far w3 (tsRead s st.pl 1 sv)):=Core.read2 hcr (by rw[hrd,hrl];exact hen) hpl hbu HF2.out ht3 hf3 hsv3
   have hnb:some w.heap.size≠s.sv.ownBlock:=fun e=>by have:=HP.out.tr.svlt _ e.symm;omega
   have hnp:some pb≠s.sv.ownBlock:=fun e=>by have:=HP.out.tr.svlt _ e.symm;omega
   have HB3:=hide' (hf3.blk HB2.out (by omega) (by omega) hnb (by simp))
   have HQ3:=hide' (show PtBlk w3 pb p from hf3.blk HQ2.out (by omega) (by omega) hnp (by simp))
   have hs3:=hf3.size
   clear ht3 hf3 hcr HT2 HF2 HB2 HQ2 hsv3
   have p5:w3.cell? ⟨pb,5,none⟩=some (.int .u8 x.b):=by rw[← hvl];exact HQ3.out.cell 5
   have hx0':(0:Int)<((c.bs.extract st.pl (st.pl+1)).size:Int):=by omega
   simp only
   go_wp2_with fail
   go_quiet (fail)
   have HC4:=hide' (HC3.out.drewN nq)
   have HB4:Hid (Blk (w3.drewN nq) w.heap.size #[.int .i64 st.pl,.int .i64 st.en,.pointer hoa] 159):=HB3.out
   have HQ4:Hid (PtBlk (w3.drewN nq) pb p):=HQ3.out
   have hs4:w.heap.size<(w3.drewN nq).heap.size:=(by omega:w.heap.size<w3.heap.size)
   generalize w3.drewN nq=W4 at *
   clear HC3 HB3 HQ3 p5
   have a0:W4.cell? ⟨w.heap.size,0,none⟩=some (.int .i64 st.pl):=HB4.out.cell 0
   have p7:W4.cell? ⟨pb,7,none⟩=some (.bool q):=by rw[← hq];exact HQ4.out.cell 7
   have hbn:=bn_cast c.bs st.pl
   by_cases hb:bt c.bs st.pl=x.b
   · have hb':(bt c.bs st.pl != x.b)=false:=by simp[hb]
     have hO2:bytesT c.bs c.N x q s.fuel s.far st=if q then fitO s.fuel s.far (readS st 1) [] else madeO c.N s.fuel s.far (readS st 1) [45]:=by rw[HO.out,if_neg (by rw[hbn,hb];simp)]
     have HO2:=hide' hO2
     clear hO2 HO
     cases q
     · have hO3:bytesT c.bs c.N x false s.fuel s.far st=madeO c.N s.fuel s.far (readS st 1) [45]:=HO2.out
       have HO3:=hide' hO3
       clear hO3 HO2
       go_wp2_with fail
       have hnd:=HP.out.nd
       have hval:=HP.out.inv.vals
       cases hm:s.nodes with
       | zero=>
        have HMN:=hide' (fun W (h:TrAt c.gb c.rb c.tb c.bs W (tsRead s st.pl 1 sv))=>made_none c.gb c.rb c.tb c.bs W _ h 1 0 ByteArray.empty (.slice none 0 0) hm rfl)
        refine wp_region_one (fun W=>W.cell? ⟨w.heap.size,0,none⟩=some (.int .i64 st.pl)) [0,1,3,4,5] 2 6 _ _ _ rfl rfl rfl rfl (by kernel_rfl) (by kernel_rfl) (fun _ _ d _ _ h=>by cases d<;>exact h) ?_ a0
        simp only[List.filterMap_cons,List.filterMap_nil,List.getElem?_cons_zero,List.getElem?_cons_succ,List.drop_succ_cons,List.drop_zero]
        refine wpX_step _ rfl (fun W hW=>rfl) ?_
        refine wpX_step _ rfl (fun W hW=>by go_simp;rfl) ?_
        refine wpX_step _ rfl (fun W hW=>rfl) ?_
        refine wpX_step (.int .i64 st.pl) rfl (fun W hW=>by go_simp) ?_
        refine wpX_step _ rfl (fun W hW=>by go_simp;rfl) ?_
        refine wpX_nil ?_
        unfold Oper.wp
        go_simp
        refine (HMN.out _ (HC4.out.tr.drewN 1)).mono ?_
        rintro e w5 ⟨rfl,rfl⟩
        simp only
        refine ⟨rfl,?_⟩
        rw[HO3.out]
        exact TPost.dead (HC4.out.drewN 1) _ (by simp only[readS];omega)
       | succ m=>
        have HMS:=hide' (fun W (h:TrAt c.gb c.rb c.tb c.bs W (tsRead s st.pl 1 sv))=>made_some c.gb c.rb c.tb c.bs W _ h 1 0 ByteArray.empty (.slice none 0 0) m hm (by have:=HC.out.N;omega) rfl)
        refine wp_region_one (fun W=>W.cell? ⟨w.heap.size,0,none⟩=some (.int .i64 st.pl)) [0,1,3,4,5] 2 6 _ _ _ rfl rfl rfl rfl (by kernel_rfl) (by kernel_rfl) (fun _ _ d _ _ h=>by cases d<;>exact h) ?_ a0
        simp only[List.filterMap_cons,List.filterMap_nil,List.getElem?_cons_zero,List.getElem?_cons_succ,List.drop_succ_cons,List.drop_zero]
        refine wpX_step _ rfl (fun W hW=>rfl) ?_
        refine wpX_step _ rfl (fun W hW=>by go_simp;rfl) ?_
        refine wpX_step _ rfl (fun W hW=>rfl) ?_
        refine wpX_step (.int .i64 st.pl) rfl (fun W hW=>by go_simp) ?_
        refine wpX_step _ rfl (fun W hW=>by go_simp;rfl) ?_
        refine wpX_nil ?_
        unfold Oper.wp
        go_simp
        refine (HMS.out _ (HC4.out.tr.drewN 1)).mono ?_
        rintro e w5 ⟨rfl,ht5,hf5,hb5,hs5⟩
        have HC5:=hide' ((HC4.out.drewN 1).made ht5 hf5)
        have HB5:=hide' (hf5.blk (show Blk (W4.drewN 1) w.heap.size _ _ from HB4.out) (by omega) (by omega) (by simp) (by simp))
        have HV5:=hide' hb5
        have hs6:w5.heap.size=W4.heap.size+1:=hs5
        clear ht5 hf5 hb5 hs5
        simp only
        refine ⟨HB5.out.cell 0,?_⟩
        repeat still_step
        refine wpStill_nil ?_
        go_wp2_with fail
        go_ret3
        rw[HO3.out]
        have hne:¬ (readS st 1).vals=c.N:=by simp only[readS];omega
        unfold madeO
        rw[if_neg hne]
        refine Or.inr (Or.inl ⟨rfl,rfl,_,_,?_,HC5.out,?_,?_,Or.inr ⟨rfl,1,W4.heap.size,rfl,?_⟩,fun h e=>by cases e⟩)
        · simp[fitO,readS]
          exact wrapI64 _ (by omega) (by omega)
        · simp only[tsRead,fitO,readS];rw[hrd]
        · simp only[fitO,readS];omega
        · exact leafV (w:=w5) (lo:=w.heap.size) (sb:=sv.ownBlock) HV5.out (by omega) (fun e=>by have:=HC4.out.tr.svlt _ e.symm;omega) (k:=1) (n:=0) (run:=ByteArray.empty) ⟨by omega,by omega⟩ ⟨by omega,by omega⟩ (by simp)
     · have hO3:bytesT c.bs c.N x true s.fuel s.far st=fitO s.fuel s.far (readS st 1) []:=HO2.out
       have HO3:=hide' hO3
       clear hO3 HO2
       go_wp2_with fail
       go_quiet (fail)
       go_wp2_with fail
       go_ret3
       rw[HO3.out]
       refine Or.inr (Or.inl ⟨rfl,rfl,_,_,?_,HC4.out.drewN nq,?_,?_,Or.inl ⟨rfl,rfl⟩,fun h e=>by cases e⟩)
       · simp[fitO,readS]
       · simp only[tsRead,fitO,readS];rw[hrd]
       · simp only[tsRead,fitO,readS];exact HP.out.nd
   · have hb':(bt c.bs st.pl != x.b)=true:=by simp[hb]
     have hO2:bytesT c.bs c.N x q s.fuel s.far st=failO s.fuel s.far st.pl st:=by rw[HO.out,if_pos (by rw[hbn];exact hb)]
     have HO2:=hide' hO2
     clear hO2 HO
     go_wp2_with fail
     refine (fail_calls c.gb c.rb c.tb c.bs W4 _ HC4.out.tr st.pl).mono ?_
     rintro e w5 ⟨rfl,hw5⟩
     have HW5:=hide' hw5
     clear hw5
     simp only
     go_wp2_with fail
     go_ret3
     rw[HO2.out]
     exact TPost.fail st.pl st HC4.out HW5.out _ _
end Go.Proofs.YtmlkhhhjdpbhfaaGreatDoor
namespace Go.Proofs.YtmlkhhhjdpbhfaaGreatDoor
open Go
section
variable {P:Program} {ops:Array Oper} {md:Region.Mode} {C:World→Prop} {Q:Exit→Act→World→Prop}
def walkFrom (md:Region.Mode)(ops:Array Oper)(fin:Array Bool→Bool):List Nat→Array Bool→Bool
 | [],listed=>fin listed
 | i::is,listed=>(Region.ready md ops listed).contains i&&Region.free md ops listed i&&walkFrom md ops fin is (listed.setIfInBounds i true)
theorem walk_lex (hQ:∀ ch a d v w,Q (.panic ch) (Act.put a d v) w→Q (.panic ch) a w)(hsel:Region.noSelect ops=true){fin:Array Bool→Bool}{g:Nat}{w:World}{K:Act→Prop}(hK:∀ listed a,fin listed=true→K a→wpC P md ops C Q g listed a w):
 ∀ (ix:List Nat) (l:List Oper) (listed:Array Bool) (a:Act),l.length=ix.length→(∀ j (h:j<ix.length),ops[ix[j]]? = l[j]?)→walkFrom md ops fin ix listed=true→wpX P ops C K l a→wpC P md ops C Q (ix.length+g) listed a w
 | [],[],listed,a,_,_,hB,h=>by simpa using hK listed a hB h
 | i::ix,o::l,listed,a,hl,hix,hB,h=>by
  have h0:ops[i]? = some o:=hix 0 (by simp)
  simp only[walkFrom,Bool.and_eq_true] at hB
  obtain ⟨⟨hr,hf⟩,hB'⟩:=hB
  obtain ⟨v,hy,hk⟩:=h
  have:=walk_lex hQ hsel hK ix l (listed.setIfInBounds i true) (a.put o.dst v) (by simpa using hl) (fun j hj=>by have:=hix (j+1) (by simpa using hj);simpa using this) hB' hk
  have h2:=one_first hQ h0 (Region.noSelect_spec hsel) (ix.length+g) listed a w (Region.free_spec h0 hf) (by simpa using hr) hy this
  simpa[Nat.add_right_comm] using h2
 | [],_::_,_,_,hl,_,_,_=>by simp at hl
 | _::_,[],_,_,hl,_,_,_=>by simp at hl
theorem picked (l:List Oper)(is:List Nat):is.all (fun i=>decide (i<l.length))=true→(is.filterMap fun i=>l[i]?).length=is.length∧∀ j (h:j<is.length),l.toArray[is[j]]? = (is.filterMap fun i=>l[i]?)[j]? := by
 induction is with
 | nil=>intro _;exact ⟨rfl,fun j h=>by simp at h⟩
 | cons i is ih=>
  intro hi
  simp only[List.all_cons,Bool.and_eq_true,decide_eq_true_eq] at hi
  obtain ⟨a1,a2⟩:=ih hi.2
  have e:l[i]? = some l[i]:=List.getElem?_eq_getElem hi.1
  constructor
  · simp only[List.filterMap_cons,e,List.length_cons,a1]
  · intro j hj
    simp only[List.filterMap_cons,e]
    cases j with
    | zero=>simp
    | succ j=>simpa using a2 j (by simpa using hj)
theorem wp_region_two {id:Nat}{a:Act}{w:World}{l:List Oper}(C:World→Prop)(ix:List Nat)(n:Nat)(jx:List Nat)(m:Nat)(o o2:Oper)(hl tl:List Oper)(ho:l[n]? = some o)(hg:o.guard=none)(ho2:l[m]? = some o2)(hg2:o2.guard=none)(hh:hl=ix.filterMap fun i=>l[i]?)(ht:tl=jx.filterMap fun i=>l[i]?)(hm:P.follows .mixedOrders=true)(hB:(Region.noSelect l.toArray&&decide (ix.length+1+jx.length+1=l.length)&&ix.all (fun i=>decide (i<l.length))&&jx.all (fun i=>decide (i<l.length))&&
   walkFrom .any l.toArray (fun ls=>decide (Region.ready .any l.toArray ls=[n])&&walkFrom .any l.toArray (fun ls=>decide (Region.ready .any l.toArray ls=[m])&&decide (Region.ready .any l.toArray (ls.setIfInBounds m true)=[])) jx (ls.setIfInBounds n true)) ix (Array.replicate l.toArray.size false))=true)(hQ:∀ ch a d v w,Q (.panic ch) (Act.put a d v) w→Q (.panic ch) a w)(h:wpX P l.toArray C (fun a'=>o.wp P a' { w with drawn:=w.drawn+1 } (fun a2 w2=>C w2∧wpX P l.toArray C (fun a3=>o2.wp P a3 w2 (fun a4 w4=>C w4∧Q .normal a4 w4) Q) tl a2) Q) hl a)(hC:C { w with drawn:=w.drawn+1 }):(Code.region id l.toArray true).wp P Q a w:=by
 simp only[Bool.and_eq_true,decide_eq_true_eq] at hB
 obtain ⟨⟨⟨⟨hsel,hlen⟩,hall⟩,hall2⟩,hone⟩:=hB
 refine wp_region_any hm (wpC_any (C:=C) _ _ _ _ ?_)
 obtain ⟨b1,b2⟩:=picked l ix hall
 obtain ⟨d1,d2⟩:=picked l jx hall2
 have hsz:l.toArray.size=ix.length+(jx.length+1+1):=by simp;omega
 rw[hsz] at hone ⊢
 refine walk_lex (md:=.any) hQ hsel (fun listed a' hf hop=>?_) ix hl _ a (by rw[hh];exact b1) (fun j hj=>by rw[hh];exact b2 j hj) hone h
 simp only[Bool.and_eq_true,decide_eq_true_eq] at hf
 obtain ⟨hr,hw2⟩:=hf
 refine ⟨hC,fun h0=>by rw[hr] at h0;simp at h0,fun i hi=>?_⟩
 rw[hr] at hi
 have hin:i=n:=by simpa using hi
 subst hin
 unfold opC
 have ho':l.toArray[i]? = some o:=by simpa using ho
 simp only[ho']
 rw[if_pos (by simp[Region.wanted,hg])]
 refine Oper.wp_mono (fun a2 w2 h2=>?_) hop
 refine walk_lex (md:=.any) hQ hsel (fun ls a3 hf3 hop3=>?_) jx tl _ a2 (by rw[ht];exact d1) (fun j hj=>by rw[ht];exact d2 j hj) hw2 h2.2
 simp only[Bool.and_eq_true,decide_eq_true_eq] at hf3
 refine ⟨h2.1,fun h0=>by rw[hf3.1] at h0;simp at h0,fun i2 hi2=>?_⟩
 rw[hf3.1] at hi2
 have hin2:i2=m:=by simpa using hi2
 subst hin2
 unfold opC
 have ho2':l.toArray[i2]? = some o2:=by simpa using ho2
 simp only[ho2']
 rw[if_pos (by simp[Region.wanted,hg2])]
 exact Oper.wp_mono (fun a4 w4 h4=>⟨h4.1,hf3.2,h4.2⟩) hop3
end
end Go.Proofs.YtmlkhhhjdpbhfaaGreatDoor
namespace Go.Proofs.YtmlkhhhjdpbhfaaGreatDoor
open Go.RowKit
def updD (deps:Nat→Nat × Nat)(d:Nat)(v n:Nat):Nat→Nat × Nat:=fun k=>if k=d then (v,n) else deps k
theorem hdCells_set (deps:Nat→Nat × Nat)(d:Nat)(hd:d<8)(v n:Nat):((hdCells deps).setIfInBounds (d*2) (.int .u32 v)).setIfInBounds (d*2+1) (.int .i64 n)=hdCells (updD deps d v n):=by
 have h8:d=0∨d=1∨d=2∨d=3∨d=4∨d=5∨d=6∨d=7:=by omega
 rcases h8 with rfl | rfl | rfl | rfl | rfl | rfl | rfl | rfl<;>rfl
theorem HdAt.set {w:World}{h:Nat}{deps:Nat→Nat × Nat}(hd:HdAt w h deps)(d:Nat)(h8:d<8)(v n:Nat):HdAt ((w.setCell ⟨h,d*2,none⟩ (.int .u32 v)).setCell ⟨h,d*2+1,none⟩ (.int .i64 n)) h (updD deps d v n):=by
 have:=Blk.set (Blk.set hd (d*2) (.int .u32 v)) (d*2+1) (.int .i64 n)
 rw[hdCells_set _ _ h8] at this
 exact this
def hidT (fuel far n d v:Nat)(st:PS):PO:=if canRead st.rd st.pl st.en n=true then fitO fuel far { readS st n with deps:=updD st.deps d v n } [] else failO fuel far st.pl st
theorem TrAt.setOther {gb rb tb:Nat}{bs:ByteArray}{w:World}{s:Ts}(h:TrAt gb rb tb bs w s)(p:Addr)(u:Value)(h1:p.block≠tb)(h2:p.block≠rb)(h3:some p.block≠s.sv.ownBlock):TrAt gb rb tb bs (w.setCell p u) s:=by
 refine ⟨Blk.setOther h.blk p (Ne.symm h1) u,Blk.setOther h.rd p (Ne.symm h2) u,h.len,?_,h.lt⟩
 refine h.own.kept (row:=some p.block) ⟨rfl,rfl,rfl,by simp[World.setCell],fun k _ hk=>Below.heap_setCell _ _ _ _ (by intro e;exact hk (by rw[e]))⟩ ?_
 cases hv:s.sv.ownBlock with
 | none=>exact Or.inl rfl
 | some g=>exact Or.inr (by intro e;cases e;exact h3 hv.symm)
theorem Core.hid {c:Cx}{w w1:World}{s s1:Ts}{f r h:Nat}(hk:Core c w s none f r w1 s1)(h1:h≠c.tb)(h2:h≠c.rb)(h3:some h≠s1.sv.ownBlock)(i j:Nat)(u v:Value):Core c w s (some h) f r ((w1.setCell ⟨h,i,none⟩ u).setCell ⟨h,j,none⟩ v) s1:=
 ⟨(hk.tr.setOther ⟨h,i,none⟩ u h1 h2 h3).setOther ⟨h,j,none⟩ v h1 h2 h3,hk.fuel,hk.far,hk.sp,hk.bud,((hk.fr.less (hb:=some h)).setCell _ _ (Or.inr (Or.inr (Or.inr (Or.inl rfl))))).setCell _ _ (Or.inr (Or.inr (Or.inr (Or.inl rfl)))),hk.sv⟩
end Go.Proofs.YtmlkhhhjdpbhfaaGreatDoor

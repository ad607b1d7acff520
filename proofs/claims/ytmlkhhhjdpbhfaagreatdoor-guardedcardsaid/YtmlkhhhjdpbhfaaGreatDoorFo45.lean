import Derived.Test.YtmlkhhhjdpbhfaaGreatDoorFo44
import Derived.Test.YtmlkhhhjdpbhfaaGreatDoorFo41
namespace Go.Proofs.YtmlkhhhjdpbhfaaGreatDoor
open Go.RowKit
theorem Tryz.infoWt:(Tryz.prog.info? 192).map (fun i=>(i.zero,i.size,i.bytes))=some (some (.agg #[.pointer none,.pointer none,.pointer none,.int .i64 0,.int .i64 0,.nilFunc]),6,48):=by kernel_rfl
theorem off_form {w:World}{base:Nat}{e:TypeId}{size:Nat}{v:Value}{n:Nat}{xs:List Value}(h:OffRow w base e size v n xs):∃ q cp,v=.slice q n cp:=by
 rcases h.2 with ⟨rfl,rfl⟩ | ⟨g,off,cap,cur,rfl,_⟩
 · exact ⟨_,_,rfl⟩
 · exact ⟨_,_,rfl⟩
theorem OffRow.alloc {w:World}{base:Nat}{e:TypeId}{size:Nat}{v:Value}{n:Nat}{xs:List Value}(h:OffRow w base e size v n xs)(o:Obj):OffRow (w.alloc o) base e size v n xs:=h.blocks fun _ e=>Below.heap_alloc _ _ _ (h.lt e).2
theorem OffRow.drew {w:World}{base:Nat}{e:TypeId}{size:Nat}{v:Value}{n:Nat}{xs:List Value}(h:OffRow w base e size v n xs):OffRow w.drew base e size v n xs:=h.blocks fun _ _=>rfl
theorem at_end {c:Cx}{B:Nat}{w w5:World}{wb:Nat}{bv tv sv:Value}{svs:List Value}{hbs:List Nat}{st:Wr}(h:WrM c B w wb bv tv sv svs hbs st){qb vb hb i n:Nat}{ho:Ho}{v:Nd (Tr n)}{its:List It}{xs:List Value}(hx:xs.length=st.wait.length*6)(h7:∀ j (h:j<st.wait.length),∃ pb vb hb sl own ctx f lo hi lo2 hi2,((xs.drop (j*6)).take 6=[.pointer (some ⟨pb,0,none⟩),.pointer (some ⟨vb,0,none⟩),.pointer (some ⟨hb,0,none⟩)]++hoC (some st.wait[j].ho))∧hbs[st.wait[j].hid]? = some hb∧
   RepS f c.w0 lo hi pb sl st.wait[j].its∧hi≤c.w0.heap.size∧TrW c.R own ctx st.wait[j].its∧st.wait[j].its.length≤1000∧NdT (RepY st.wait[j].n) w lo2 hi2 vb st.wait[j].v∧hi2≤B){sl own ctx f2 lo hi lo2 hi2}(hk:hbs[i]? = some hb∧RepS f2 c.w0 lo hi qb sl its∧hi≤c.w0.heap.size∧TrW c.R own ctx its∧its.length≤1000∧NdT (RepY n) w lo2 hi2 vb v∧hi2≤B){o:Obj}{g1 off1 cap1:Nat}(hown5:OffRow w5 B 192 6 (.slice (some ⟨g1,off1,none⟩) (st.wait.length+1) cap1) (st.wait.length+1) (xs++([.pointer (some ⟨qb,0,none⟩),.pointer (some ⟨vb,0,none⟩),.pointer (some ⟨hb,0,none⟩)]++hoC (some ho))))(hgrow:(w.alloc o).drew.grownBy w5 tv.ownBlock)(hat5:tv.ownBlock=some g1∨(w.alloc o).drew.heap.size≤g1):
 WrPost c B w wb hbs (wWait st ⟨its,n,v,i,ho⟩) (.returned (.tuple #[])) (w5.setCell ⟨wb,48,none⟩ (.slice (some ⟨g1,off1,none⟩) (st.wait.length+1) cap1)):=by
 have hwb:=h.ge wb List.mem_cons_self
 have hbA:Below B w (w.alloc o).drew:=((Below.refl B w).alloc (by omega) _).drew
 have hkp:=h.keep (w':=(w.alloc o).drew) hbA (fun k _ h2=>Below.heap_alloc _ _ _ h2)
 obtain ⟨hg1,hg2⟩:=hown5.lt (g:=g1) rfl
 have happ:=hkp.addWait (e:=⟨its,n,v,i,ho⟩) (g:=g1) (off:=off1) (cap:=cap1) hgrow (fun q e=>(h.ge q (List.mem_cons_of_mem _ (mem_rst_tv e))).1) hat5 hg2 hg1 (fun w2 hb2 e2=>
  WaitAt.more (w:=w) (hbA.trans hb2) hx h7 ⟨its,n,v,i,ho⟩ qb vb hb sl own ctx f2 lo hi lo2 hi2 hk.1 hk.2.1 hk.2.2.1 hk.2.2.2.1 hk.2.2.2.2.1 hk.2.2.2.2.2.1 hk.2.2.2.2.2.2 (hown5.blocks fun q e=>by
   simp[Value.ownBlock] at e
   subst e
   exact e2))
 exact ⟨rfl,hbA.trans happ.2,_,_,_,_,[],by rw[List.append_nil];exact happ.1⟩
set_option maxRecDepth 100000 in
set_option maxHeartbeats 2000000 in
theorem writeAt_calls (c:Cx)(B:Nat)(w:World)(wb:Nat)(bv tv sv:Value)(svs:List Value)(hbs:List Nat)(st:Wr)(h:WrM c B w wb bv tv sv svs hbs st)(hl:st.wait.length≤100000000)(pb g cap qb vb hb d i n:Nat)(ho:Ho)(f:Nat→Option Ho)(v:Nd (Tr n))(its:List It)(p:Pt)(hpt:PtBlk w pb p)(hdp:p.dp=(d:Int))(hd8:d<8)(hpv:p.v=.slice (some ⟨g,0,none⟩) 1 cap)(hq:w.cell? ⟨g,0,none⟩=some (.pointer (some ⟨qb,0,none⟩)))(_hgw:g<w.heap.size)(h1:hbs[i]? = some hb)(h2:st.hol[i]? = some f)(h3:f d=some ho)(sl own ctx f2 lo hi lo2 hi2)(k1:RepS f2 c.w0 lo hi qb sl its)(k2:hi≤c.w0.heap.size)(k3:TrW c.R own ctx its)(k4:its.length≤1000)(k5:NdT (RepY n) w lo2 hi2 vb v)(k6:hi2≤B):
 Calls Tryz.prog 154 #[.pointer (some ⟨wb,0,none⟩),.pointer (some ⟨pb,0,none⟩),.pointer (some ⟨vb,0,none⟩),.pointer (some ⟨hb,0,none⟩)] w fun e w'=>WrPost c B w wb hbs (wWait st ⟨its,n,v,i,ho⟩) e w':=by
 obtain ⟨i0,hi0,hz0,hz1,hz2⟩:=info_parts Tryz.infoWt
 have hwb:=h.ge wb List.mem_cons_self
 obtain ⟨xs,hown,h7⟩:=h.wait
 obtain ⟨q,cp,rfl⟩:=off_form hown
 have hhole:=h.hole h1 h2 h3 hd8
 have hhb:=h.ge hb (List.mem_cons_of_mem _ (mem_rst_hbs h1))
 have c48:w.cell? ⟨wb,48,none⟩=some (.slice q st.wait.length cp):=h.blk.cell 48
 have c48a:∀ o,(w.alloc o).cell? ⟨wb,48,none⟩=some (.slice q st.wait.length cp):=fun o=>(Blk.alloc h.blk o).cell 48
 have p8:w.cell? ⟨pb,8,none⟩=some (.slice (some ⟨g,0,none⟩) 1 cap):=by rw[← hpv];exact hpt.cell 8
 have p3:w.cell? ⟨pb,3,none⟩=some (.int .i64 (d:Nat)):=by rw[← hdp];exact hpt.cell 3
 have n0:=hhole.c0
 have n1:=hhole.c1
 have n2:=hhole.c2
 have hd8':(d:Int)<8:=by omega
 have HM:=hide' h
 have HOwn:=hide' hown
 have HX:=hide' hown.1
 have H7:=hide' h7
 have HK:=hide' (And.intro h1 (And.intro k1 (And.intro k2 (And.intro k3 (And.intro k4 (And.intro k5 k6))))))
 have hne1:some wb≠(Value.slice q st.wait.length cp).ownBlock:=fun e=>by
  have hndo:=h.nd
  rw[List.nodup_cons] at hndo
  exact hndo.1 (mem_rst_tv e.symm)
 have HNe:=hide' hne1
 clear h hpt hown h7 hhole hne1 h1 h2 h3 k1 k2 k3 k4 k5 k6 hhb
 go_enter Tryz.func154,Tryz.ntmps154
 go_wp2_with fail
 go_region_law (
  (refine step_append_off _ (by rfl) _ _ _ (by rfl) B 192 i0 _ 6 48 Tryz.underlying117 hi0 hz0 hz1 hz2 rfl (by omega) (.slice q st.wait.length cp) st.wait.length xs (by rfl) ((HOwn.out.alloc _).drew)
    ⟨w.heap.size,0,none⟩ 1 1 ([.pointer (some ⟨qb,0,none⟩),.pointer (some ⟨vb,0,none⟩),.pointer (some ⟨hb,0,none⟩)]++hoC (some ho)) (by rfl) (by rfl)
    (World.news_of_block (cs:=#[.pointer (some ⟨qb,0,none⟩),.pointer (some ⟨vb,0,none⟩),.pointer (some ⟨hb,0,none⟩),.int .i64 (ho.pl:Nat),.int .i64 (ho.w:Nat),.func (.func (putF ho.low)) #[] #[]]) (t:=192) (fr:=(0,0)) (heap_alloc_new w _)) (by simp[hoC,hoF,fnV,Value.oneCell'])
    (by omega) (by unfold maxLen;omega) (by omega) (by simp;omega) ?_
   intro g1 off1 cap1 w5 hown5 hgrow hat5
   have hB5:=((HM.out.blk.alloc _).drew).grown hgrow HNe.out
   have c5:w5.cell? ⟨wb,48,none⟩=some (.slice q st.wait.length cp):=hB5.cell 48
   have f5:w5.frozen? ⟨wb,48,none⟩=false:=hB5.frozen 48))
 all_goals
  go_wp2_with fail
  go_end0
  exact at_end HM.out HX.out H7.out HK.out hown5 hgrow hat5
end Go.Proofs.YtmlkhhhjdpbhfaaGreatDoor

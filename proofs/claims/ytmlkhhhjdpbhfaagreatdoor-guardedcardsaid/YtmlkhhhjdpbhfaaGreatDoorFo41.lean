import Derived.Test.YtmlkhhhjdpbhfaaGreatDoorFo40
namespace Go.Proofs.YtmlkhhhjdpbhfaaGreatDoor
open Go Go.RowKit
section
variable {P:Program} (w:World)
theorem run_append_own_str (base:Nat)(t u ty e:TypeId)(i:TypeInfo)(ht:P.underlying t=some (.slice e))(hu:P.underlying u=some .string)(hi:P.info? e=some i)(hz:i.zero=some (.int .u8 0))(hsize:i.size=1)(hby:i.bytes=1)(v:Value)(n:Nat)(xs:List Value)(hown:w.ownsRow base e 1 v n xs)(s:ByteArray)(hbytes:n+s.size≤140737488355328)(hbase:base≤w.heap.size):
 ∃ v' w',(Builtin.append_ #[t,u] ty #[v,.string s]).run P w=.ok v' w'∧w'.ownsRow base e 1 v' (n+s.size) (xs++Lib.strCells s)∧w.grownBy w' v.ownBlock∧(v'.ownBlock=v.ownBlock∨∃ g,v'.ownBlock=some g∧w.heap.size≤g):=by
 have hxl:xs.length=n:=by simpa using hown.1
 have hlen:(xs++Lib.strCells s).length=(n+s.size)*1:=by rw[List.length_append,hxl,Lib.strCells_length,Nat.mul_one]
 have grown:∀ (old:Nat) (row:Option Nat),
  (w.drew.alloc (.cells (xs.toArray++(Lib.strCells s).toArray++Builtin.zeroCells (Value.int .u8 0).cells (grownCap w (n+s.size) old e-(n+s.size))) e)).ownsRow base e 1
    (.slice (some ⟨w.heap.size,0,none⟩) (n+s.size) (grownCap w (n+s.size) old e)) (n+s.size) (xs++Lib.strCells s)∧
  w.grownBy (w.drew.alloc (.cells (xs.toArray++(Lib.strCells s).toArray++Builtin.zeroCells (Value.int .u8 0).cells (grownCap w (n+s.size) old e-(n+s.size))) e)) row:=by
  intro old row
  have hge:=grownCap_ge w (n+s.size) old e
  have hcm:grownCap w (n+s.size) old e≤maxLen:=grownCap_le_maxLen w (n+s.size) old e (by unfold maxLen;omega)
  refine ⟨⟨hlen,.inr ⟨w.heap.size,_,_,rfl,hbase,heap_alloc_new w.drew _,hge,hcm,?_,?_⟩⟩,⟨rfl,rfl,rfl,by simp,fun k hk _=>Below.heap_alloc w.drew _ k hk⟩⟩
  · have hz1:(Value.int IntKind.u8 0).cells.size=1:=rfl
    simp only[Array.size_append,List.size_toArray,size_zeroCells,hz1,hxl,Lib.strCells_length]
    omega
  · simp only[Array.toList_append,List.append_assoc]
    rw[← List.append_assoc,← hlen]
    exact List.take_left
 rcases hown.2 with ⟨rfl,rfl⟩ | ⟨g,cap,cur,rfl,hbg,hg,hnc,hcm,hcs,htake⟩
 · have hx:xs=[]:=List.eq_nil_of_length_eq_zero hxl
   subst hx
   by_cases hm:s.size=0
   · have hn:Lib.strCells s=[]:=List.eq_nil_of_length_eq_zero (by rw[Lib.strCells_length];exact hm)
     refine ⟨.slice none 0 0,w,?_,by rw[hm,hn];exact World.ownsRow_nil w base e 1,⟨rfl,rfl,rfl,Nat.le_refl _,fun _ _ _=>rfl⟩,Or.inl rfl⟩
     have hf:=Lib.run_firstCells_string (P:=P) w 1 s
     rw[hm] at hf
     simp[Builtin.append_,run_underlying ht,run_underlying hu,sizeOf,typeInfo,hi,hsize,Builtin.lenOf,hm,hf]
   · have hr:=run_append_nil_string (P:=P) w t u ty e i (.int .u8 0) ht hu hi hz s (by omega) (by omega) (by rw[hby];omega)
     have hgr:=grown 0 (Value.ownBlock (.slice none 0 0))
     simp only[Nat.zero_add,List.nil_append,Array.empty_append] at hgr ⊢
     have e1:(s.data.map fun b=>Value.int .u8 b.toNat)=(Lib.strCells s).toArray:=by
      apply Array.ext'
      simp[Lib.strCells]
     rw[e1] at hr
     exact ⟨_,_,hr,hgr.1,hgr.2,Or.inr ⟨_,rfl,Nat.le_refl _⟩⟩
 · by_cases hroom:n+s.size≤cap
   · have hcs':cur.size=cap:=by simpa using hcs
     have hr:=Lib.run_append_room_string (P:=P) w t u ty e i ht hu hi hsize g n cap cur hg s hroom (by omega)
     refine ⟨_,_,hr,⟨hlen,.inr ⟨g,cap,_,rfl,hbg,setRow_heap w g cur _ e _ hg,hroom,hcm,?_,?_⟩⟩,⟨rfl,rfl,rfl,by simp,fun k _ hk=>setRow_other w g k _ (fun e=>hk (by simp[Value.ownBlock,e]))⟩,Or.inl rfl⟩
     · simp only[List.size_toArray,List.length_append,List.length_take,List.length_drop,Array.length_toList,Lib.strCells_length]
       omega
     · have ht':cur.toList.take n=xs:=by simpa using htake
       rw[ht',← hlen]
       exact List.take_left
   · have holds:∀ j u,xs[j]? = some u→w.cell? ((⟨g,0,none⟩:Addr).add j)=some u:=hown.cells (g:=g) rfl
     have hr:=Lib.run_append_grow_string (P:=P) w t u ty e i (.int .u8 0) ht hu hi hz ⟨g,0,none⟩ n cap xs (by rw[hsize];simpa using hxl) holds s (by omega) (by omega) (by rw[hby];exact growslice_fits (by omega) (by omega))
     have hgr:=grown cap (Value.ownBlock (.slice (some ⟨g,0,none⟩) n cap))
     exact ⟨_,_,hr,hgr.1,hgr.2,Or.inr ⟨_,rfl,Nat.le_refl _⟩⟩
end
theorem mk_sz (a:List UInt8):(⟨a.toArray⟩:ByteArray).size=a.length:=by simp[ByteArray.size]
theorem WrM.append {c:Cx}{B:Nat}{w w1:World}{wb:Nat}{bv bv' tv sv:Value}{svs:List Value}{hbs:List Nat}{st:Wr}(h:WrM c B w wb bv tv sv svs hbs st)(l:List UInt8)(hg:w.grownBy w1 bv.ownBlock)(hown:w1.ownsRow B 5 1 bv' (st.out++l).length (byteC (st.out++l)))(hat:bv'.ownBlock=bv.ownBlock∨∃ g,bv'.ownBlock=some g∧w.heap.size≤g):
 WrM c B (w1.setCell ⟨wb,46,none⟩ bv') wb bv' tv sv svs hbs (wOut st l)∧Below B w (w1.setCell ⟨wb,46,none⟩ bv'):=by
 have hwb:=h.ge wb List.mem_cons_self
 have hnb:∀ q,bv'.ownBlock=some q→q ∉ wb::rst tv sv svs hbs:=fun q e=>by
  rcases hat with h1 | ⟨g,h1,h2⟩
  · exact h.nb q (h1▸e)
  · rw[h1] at e
    injection e with e
    intro hm;have:=(h.ge q hm).2;omega
 have hne:some wb≠bv.ownBlock:=fun e=>h.nb wb e.symm List.mem_cons_self
 have hbel:Below B w (w1.setCell ⟨wb,46,none⟩ bv'):=by
  refine ⟨hg.os,hg.tape,hg.output,by have:=hg.size;simp[World.setCell];omega,fun k hk=>?_⟩
  rw[Below.heap_setCell _ _ _ _ (by simp only;omega)]
  exact hg.block k (by omega) (fun e=>by have:=(h.out.lt k e.symm).1;omega)
 have hblk1:Blk w1 wb (wrC c.gb bv st.wide tv sv) 120:=by
  have:=h.blk;unfold Blk at *;rw[hg.block wb hwb.2 hne];exact this
 refine ⟨?_,hbel⟩
 refine WrM.next (bv':=bv') (wide:=st.wide) (out:=st.out++l) h hbel (fun b hm=>?_) (by have:=hblk1.set 46 bv';rw[wrC_out] at this;exact this) (ownsRow_blocks hown fun q e=>?_) hnb
 · have hbm:=List.mem_cons_of_mem wb hm
   have hb1:b≠wb:=fun e=>by have:=h.nd;rw[List.nodup_cons] at this;exact this.1 (e▸hm)
   rw[Below.heap_setCell _ _ _ _ hb1]
   exact hg.block b (h.ge b hbm).2 (fun e=>h.nb b e.symm hbm)
 · exact Below.heap_setCell _ _ _ _ (fun e2=>hnb q e (by simp only at e2;rw[e2];exact List.mem_cons_self))
theorem step_append_run {P:Program}{w:World}{ops:Array Oper}{o:Oper}{a:Act}{K:Act→World→Prop}{Q:Exit→Act→World→Prop}{E:Prop}(hgd:o.guard=none)(s x:Operand)(t tn:TypeId)(ho:o.op=.call { callee:=.builtin .append,args:=#[s,x],argTypes:=#[t,tn] })(vs vx:Value)(hs:a.eval s=vs)(hx:a.eval x=vx)(v':Value)(w':World)(hr:(Builtin.append_ #[t,tn] o.type #[vs,vx]).run P w=.ok v' w')(hK:K (a.put o.dst v') w'):
 if Region.wanted o (yielded ops a.tmps)=true then Oper.wp P o a w K Q else E:=by
 rw[if_pos (by simp[Region.wanted,hgd])]
 exact Lib.wp_append_run w s x t tn ho vs vx hs hx v' w' hr hK
set_option maxRecDepth 100000 in
set_option maxHeartbeats 2000000 in
theorem writeRest_calls (c:Cx)(B:Nat)(w:World)(wb:Nat)(bv tv sv:Value)(svs:List Value)(hbs:List Nat)(st:Wr)(h:WrM c B w wb bv tv sv svs hbs st)(hl:st.out.length≤1000000000)(pb vb k n:Nat)(run:List UInt8)(vv hv:Value)(hnd:NdB w vb k n ⟨run.toArray⟩ vv)(hrl:run.length≤8000):
 Calls Tryz.prog 158 #[.pointer (some ⟨wb,0,none⟩),.pointer (some ⟨pb,0,none⟩),.pointer (some ⟨vb,0,none⟩),hv] w fun e w'=>WrPost c B w wb hbs (wOut st run) e w':=by
 obtain ⟨i0,hi0,hz0,hz1,hz2⟩:=info_parts Tryz.infoByte
 have hwb:=h.ge wb List.mem_cons_self
 have hrs:(⟨run.toArray⟩:ByteArray).size=run.length:=mk_sz run
 have hbA:Below B w w.drew:=⟨rfl,rfl,rfl,Nat.le_refl _,fun _ _=>rfl⟩
 have hkp:=h.keep (w':=w.drew) hbA (fun k _ h2=>rfl)
 obtain ⟨v',w1,hr,hown',hgr,hat⟩:=run_append_own_str (P:=Tryz.prog) w.drew B 40 9 40 5 i0 Tryz.underlying40 Tryz.underlying9 hi0 hz0 hz1 hz2 bv st.out.length (byteC st.out) hkp.out ⟨run.toArray⟩ (by rw[hrs];omega) (by have:w.drew.heap.size=w.heap.size:=rfl;omega)
 have happ:=hkp.append (bv':=v') run hgr (by
  rw[hrs] at hown'
  have e1:byteC (st.out++run)=byteC st.out++Lib.strCells ⟨run.toArray⟩:=by simp[byteC,Lib.strCells]
  rw[e1,List.length_append];exact hown') hat
 have HApp:=hide' happ
 obtain ⟨q,cp,rfl⟩:=owns_form h.out
 have c46:w.cell? ⟨wb,46,none⟩=some (.slice q st.out.length cp):=h.blk.cell 46
 have v2:w.cell? ⟨vb,2,none⟩=some (.string ⟨run.toArray⟩):=hnd.blk.cell 2
 have hblk1:Blk w1 wb (wrC c.gb (.slice q st.out.length cp) st.wide tv sv) 120:=by
  have:=hkp.blk;unfold Blk at *;rw[hgr.block wb hwb.2 (fun e=>h.nb wb e.symm List.mem_cons_self)];exact this
 have d46:w1.cell? ⟨wb,46,none⟩=some (.slice q st.out.length cp):=hblk1.cell 46
 have f46:w1.frozen? ⟨wb,46,none⟩=false:=hblk1.frozen 46
 obtain ⟨q',cp',rfl⟩:=owns_form hown'
 have HBA:=hide' hbA
 clear happ hkp hown' hgr hat hblk1 h hnd hbA
 go_enter Tryz.func158,Tryz.ntmps158
 go_wp2_with fail
 go_region_law (
  (refine step_append_run (by rfl) _ _ _ _ (by rfl) _ _ (by rfl) (by rfl) _ _ hr ?_))
 all_goals
  go_wp2_with fail
  go_end0
  exact ⟨rfl,HBA.out.trans HApp.out.2,_,_,_,_,[],by rw[List.append_nil];exact HApp.out.1⟩
end Go.Proofs.YtmlkhhhjdpbhfaaGreatDoor
namespace Go.Proofs.YtmlkhhhjdpbhfaaGreatDoor
open Go.RowKit
structure HoAt (w:World) (hb d:Nat) (ho:Ho):Prop where
 c0:w.cell? ⟨hb,d*3,none⟩=some (.int .i64 (ho.pl:Nat))
 c1:w.cell? ⟨hb,d*3+1,none⟩=some (.int .i64 (ho.w:Nat))
 c2:w.cell? ⟨hb,d*3+2,none⟩=some (.func (.func (putF ho.low)) #[] #[])
theorem WrM.hole {c:Cx}{B:Nat}{w:World}{wb:Nat}{bv tv sv:Value}{svs:List Value}{hbs:List Nat}{st:Wr}(h:WrM c B w wb bv tv sv svs hbs st){i hb d:Nat}{f:Nat→Option Ho}{ho:Ho}(h1:hbs[i]? = some hb)(h2:st.hol[i]? = some f)(h3:f d=some ho)(hd:d<8):HoAt w hb d ho:=by
 have hb:=h.hol i hb f h1 h2
 obtain ⟨a,b,e⟩:=holC_cell f d hd
 rw[h3] at a b e
 rw[Nat.mul_comm] at a b e
 exact ⟨(hb.cell (d*3)).trans a,(hb.cell (d*3+1)).trans b,(hb.cell (d*3+2)).trans e⟩
theorem WrM.appText {c:Cx}{B:Nat}{w:World}{wb:Nat}{bv tv sv:Value}{svs:List Value}{hbs:List Nat}{st:Wr}(h:WrM c B w wb bv tv sv svs hbs st)(hl:st.out.length≤1000000000)(run:List UInt8)(hrl:run.length≤8000):
 ∃ q cp q' cp' w1,bv=.slice q st.out.length cp∧w.cell? ⟨wb,46,none⟩=some (.slice q st.out.length cp)∧(Builtin.append_ #[40,9] 40 #[.slice q st.out.length cp,.string ⟨run.toArray⟩]).run Tryz.prog w.drew=.ok (.slice q' (st.out.length+run.length) cp') w1∧
  w1.cell? ⟨wb,46,none⟩=some (.slice q st.out.length cp)∧w1.frozen? ⟨wb,46,none⟩=false∧WrM c B (w1.setCell ⟨wb,46,none⟩ (.slice q' (st.out.length+run.length) cp')) wb (.slice q' (st.out.length+run.length) cp') tv sv svs hbs (wOut st run)∧Below B w (w1.setCell ⟨wb,46,none⟩ (.slice q' (st.out.length+run.length) cp')):=by
 obtain ⟨i0,hi0,hz0,hz1,hz2⟩:=info_parts Tryz.infoByte
 have hwb:=h.ge wb List.mem_cons_self
 have hrs:(⟨run.toArray⟩:ByteArray).size=run.length:=mk_sz run
 have hbA:Below B w w.drew:=⟨rfl,rfl,rfl,Nat.le_refl _,fun _ _=>rfl⟩
 have hkp:=h.keep (w':=w.drew) hbA (fun k _ h2=>rfl)
 obtain ⟨v',w1,hr,hown',hgr,hat⟩:=run_append_own_str (P:=Tryz.prog) w.drew B 40 9 40 5 i0 Tryz.underlying40 Tryz.underlying9 hi0 hz0 hz1 hz2 bv st.out.length (byteC st.out) hkp.out ⟨run.toArray⟩ (by rw[hrs];omega) (by have:w.drew.heap.size=w.heap.size:=rfl;omega)
 rw[hrs] at hown'
 have happ:=hkp.append (bv':=v') run hgr (by
  have e1:byteC (st.out++run)=byteC st.out++Lib.strCells ⟨run.toArray⟩:=by simp[byteC,Lib.strCells]
  rw[e1,List.length_append];exact hown') hat
 obtain ⟨q,cp,rfl⟩:=owns_form h.out
 have hblk1:Blk w1 wb (wrC c.gb (.slice q st.out.length cp) st.wide tv sv) 120:=by
  have:=hkp.blk;unfold Blk at *;rw[hgr.block wb hwb.2 (fun e=>h.nb wb e.symm List.mem_cons_self)];exact this
 obtain ⟨q',cp',rfl⟩:=owns_form hown'
 exact ⟨q,cp,q',cp',w1,rfl,h.blk.cell 46,hr,hblk1.cell 46,hblk1.frozen 46,happ.1,hbA.trans happ.2⟩
set_option maxRecDepth 100000 in
set_option maxHeartbeats 2000000 in
theorem writeRun_calls' (c:Cx)(B:Nat)(w:World)(wb:Nat)(bv tv sv:Value)(svs:List Value)(hbs:List Nat)(st:Wr)(h:WrM c B w wb bv tv sv svs hbs st)(hl:st.out.length≤1000000000)(pb vb k n hb d:Nat)(ho:Ho)(run:List UInt8)(vv:Value)(p:Pt)(hpt:PtBlk w pb p)(hnd:NdB w vb k n ⟨run.toArray⟩ vv)(hvb:vb<B)(hrl:run.length≤8000)(hdp:p.dp=(d:Int))(hd8:d<8)(hho:HoAt w hb d ho)(hok:HoOk ho st.out.length):
 Calls Tryz.prog 147 #[.pointer (some ⟨wb,0,none⟩),.pointer (some ⟨pb,0,none⟩),.pointer (some ⟨vb,0,none⟩),.pointer (some ⟨hb,0,none⟩)] w fun e w'=>WrPost c B w wb hbs (wOut (wTell st ho run.length) run) e w':=by
 obtain ⟨i0,hi0,hz0,hz1,hz2⟩:=info_parts Tryz.infoByte
 have hrs:(⟨run.toArray⟩:ByteArray).size=run.length:=mk_sz run
 have p3:w.cell? ⟨pb,3,none⟩=some (.int .i64 (d:Nat)):=by rw[← hdp];exact hpt.cell 3
 have v2:w.cell? ⟨vb,2,none⟩=some (.string ⟨run.toArray⟩):=hnd.blk.cell 2
 have hc0:=hho.c0
 have hc1:=hho.c1
 have hc2:=hho.c2
 have hd8':(d:Int)<8:=by omega
 have HM:=hide' h
 have HV:Hid (∀ W,Below B w W→W.cell? ⟨vb,2,none⟩=some (.string ⟨run.toArray⟩)):=by
  have:∀ W,Below B w W→W.cell? ⟨vb,2,none⟩=some (.string ⟨run.toArray⟩):=fun W hW=>by rw[World.cell?_of_block (w:=w) (hW.block vb hvb)];exact v2
  exact this
 have HRs:=hide' hrs
 clear h hpt hnd hho
 generalize hrb:(⟨run.toArray⟩:ByteArray)=rb at *
 have HRb:=hide' hrb
 clear hrb
 go_enter Tryz.func147,Tryz.ntmps147
 go_wp2_with fail
 refine wp_region_mid 14 _ rfl rfl (by kernel_rfl) (by kernel_rfl) ?_
 simp only[List.take_succ_cons,List.take_zero,List.drop_succ_cons,List.drop_zero]
 repeat still_step
 refine wpStill_nil ?_
 unfold Oper.wp
 go_simp
 have hdr:Below B w (w.drewN 1):=⟨rfl,rfl,rfl,Nat.le_refl _,fun _ _=>rfl⟩
 refine (tell_calls c B (w.drewN 1) wb bv tv sv svs hbs st (HM.out.keep hdr (fun _ _ _=>rfl)) ho hok run.length (by omega) hl).mono ?_
 rintro e w2 ⟨rfl,hm2,hb2⟩
 have hb2':=hdr.trans hb2
 have v22:=HV.out w2 hb2'
 have hlen:(wTell st ho run.length).out.length=st.out.length:=by unfold wTell wPut;exact putAt_length _ _ _ hok.lt
 obtain ⟨q,cp,q',cp',w3,rfl,c46,hr,d46,f46,hm3,hb3⟩:=hm2.appText (by rw[hlen];exact hl) run hrl
 simp only[hlen] at c46 hr d46 hm3 hb3
 rw[HRb.out] at hr
 have HM3:=hide' hm3
 have HB3:=hide' (hb2'.trans hb3)
 clear hlen hm2 hm3 hb3 hb2 hb2' hc0 hc1 hc2 p3 v2
 simp only
 refine wpStill_nil ?_
 go_wp2_with fail
 go_region_law (
  (refine step_append_run (by rfl) _ _ _ _ (by rfl) _ _ (by rfl) (by rfl) _ _ hr ?_))
 all_goals
  go_wp2_with fail
  go_end0
  exact ⟨rfl,HB3.out,_,_,_,_,[],by rw[List.append_nil];exact HM3.out⟩
theorem nodup_at {l:List Nat}(h:l.Nodup){i j:Nat}(hi:i<l.length)(hj:j<l.length)(e:l[i]=l[j]):i=j:=by
 have hp:=List.pairwise_iff_getElem.1 h
 rcases Nat.lt_trichotomy i j with h1 | h1 | h1
 · exact absurd e (hp i j hi hj h1)
 · exact h1
 · exact absurd e.symm (hp j i hj hi h1)
def setHo (w:World)(hb d:Nat)(ho:Ho):World:=((w.setCell ⟨hb,d*3,none⟩ (.int .i64 (ho.pl:Nat))).setCell ⟨hb,d*3+1,none⟩ (.int .i64 (ho.w:Nat))).setCell ⟨hb,d*3+2,none⟩ (.func (.func (putF ho.low)) #[] #[])
theorem setHo_other (w:World)(hb d:Nat)(ho:Ho)(k:Nat)(h:k≠hb):(setHo w hb d ho).heap[k]? = w.heap[k]? := by
 unfold setHo
 rw[Below.heap_setCell _ _ _ _ h,Below.heap_setCell _ _ _ _ h,Below.heap_setCell _ _ _ _ h]
theorem holC_set (f:Nat→Option Ho)(d:Nat)(hd:d<8)(ho:Ho):(((holC f).setIfInBounds (d*3) (.int .i64 (ho.pl:Nat))).setIfInBounds (d*3+1) (.int .i64 (ho.w:Nat))).setIfInBounds (d*3+2) (.func (.func (putF ho.low)) #[] #[])=holC (fun k=>if k=d then some ho else f k):=by
 have h8:d=0∨d=1∨d=2∨d=3∨d=4∨d=5∨d=6∨d=7:=by omega
 rcases h8 with rfl | rfl | rfl | rfl | rfl | rfl | rfl | rfl<;>rfl
theorem WrM.hideAt {c:Cx}{B:Nat}{w:World}{wb:Nat}{bv tv sv:Value}{svs:List Value}{hbs:List Nat}{st:Wr}(h:WrM c B w wb bv tv sv svs hbs st){i hb d:Nat}{f:Nat→Option Ho}(ho:Ho)(h1:hbs[i]? = some hb)(h2:st.hol[i]? = some f)(hd:d<8):
 WrM c B (setHo w hb d ho) wb bv tv sv svs hbs (wHide st i d ho)∧Below B w (setHo w hb d ho):=by
 have hm:hb∈hbs:=List.mem_of_getElem? h1
 have hmem:hb∈wb::rst tv sv svs hbs:=List.mem_cons_of_mem _ (mem_rst_hbs h1)
 have hhb:=h.ge hb hmem
 have hnd:=h.nd
 rw[List.nodup_cons] at hnd
 have hne:wb≠hb:=fun e=>hnd.1 (e▸mem_rst_hbs h1)
 have hn2:=hnd.2
 unfold rst at hn2
 rw[List.nodup_append,List.nodup_append,List.nodup_append] at hn2
 obtain ⟨_,⟨_,⟨_,hnh,e3⟩,e2⟩,e1⟩:=hn2
 have n1:∀ g,tv.ownBlock=some g→g≠hb:=fun g e=>e1 g (by simp[e]) hb (by simp[hm])
 have n2:∀ g,sv.ownBlock=some g→g≠hb:=fun g e=>e2 g (by simp[e]) hb (by simp[hm])
 have n3:∀ s g,s∈svs→s.ownBlock=some g→g≠hb:=fun s g hs e=>e3 g (List.mem_filterMap.2 ⟨s,hs,e⟩) hb hm
 have hsz:(setHo w hb d ho).heap.size=w.heap.size:=by simp[setHo,World.setCell]
 have hbel:Below B w (setHo w hb d ho):=⟨rfl,rfl,rfl,by omega,fun k hk=>setHo_other w hb d ho k (by omega)⟩
 refine ⟨⟨?_,?_,h.wait.keep hbel (fun g e=>setHo_other w hb d ho g (n1 g e)),?_,h.sumsL,fun j s l a b=>?_,fun j b g a e=>?_,?_,h.nd,h.nb,fun b hb'=>by rw[hsz];exact h.ge b hb',h.bel.trans (hbel.mono h.leB),h.leB⟩,hbel⟩
 · have:=h.blk
   unfold Blk at *
   rw[setHo_other w hb d ho wb hne];exact this
 · exact ownsRow_blocks h.out fun g e=>setHo_other w hb d ho g (fun e2=>h.nb g e (e2▸hmem))
 · exact ownsRow_blocks h.sums fun g e=>setHo_other w hb d ho g (n2 g e)
 · exact ownsRow_blocks (h.sum j s l a b) fun g e=>setHo_other w hb d ho g (n3 s g (List.mem_of_getElem? a) e)
 · have hj:(wHide st i d ho).hol[j]? = if i=j then (st.hol[j]?).map (fun f k=>if k=d then some ho else f k) else st.hol[j]? := by
    unfold wHide
    simp only[List.getElem?_modify]
    split<;>simp
   rw[hj] at e
   by_cases hij:i=j
   · subst hij
     rw[if_pos rfl,h2] at e
     rw[h1] at a
     cases a
     cases e
     have hbk:=h.hol i hb f h1 h2
     have:=((hbk.set (d*3) (.int .i64 (ho.pl:Nat))).set (d*3+1) (.int .i64 (ho.w:Nat))).set (d*3+2) (.func (.func (putF ho.low)) #[] #[])
     rw[holC_set f d hd ho] at this
     exact this
   · rw[if_neg hij] at e
     have hbj:b≠hb:=fun eb=>hij (by
      subst eb
      obtain ⟨hi',hi2⟩:=List.getElem?_eq_some_iff.1 h1
      obtain ⟨hj',hj2⟩:=List.getElem?_eq_some_iff.1 a
      exact nodup_at hnh hi' hj' (hi2.trans hj2.symm))
     have:=h.hol j b g a e
     unfold Blk at *
     rw[setHo_other w hb d ho b hbj];exact this
 · rw[h.holL];simp[wHide]
set_option maxRecDepth 100000 in
set_option maxHeartbeats 2000000 in
theorem hidOrd_calls (c:Cx)(B:Nat)(w:World)(wb:Nat)(bv tv sv:Value)(svs:List Value)(hbs:List Nat)(st:Wr)(h:WrM c B w wb bv tv sv svs hbs st)(hl:st.out.length≤1000000000)(pb hb d m i:Nat)(f:Nat→Option Ho)(low:Bool)(p:Pt)(hpt:PtBlk w pb p)(hpb:pb<B)(hdp:p.dp=(d:Int))(hd8:d<8)(hw:p.wd=(m:Int))(hm0:1≤m)(hm:m≤4)(h1:hbs[i]? = some hb)(h2:st.hol[i]? = some f):
 Calls Tryz.prog 191 #[.pointer (some ⟨wb,0,none⟩),.pointer (some ⟨pb,0,none⟩),.pointer (some ⟨hb,0,none⟩),.func (.func (putF low)) #[] #[]] w fun e w'=>WrPost c B w wb hbs (wOut (wHide st i d ⟨st.out.length,m,low⟩) (List.replicate m 0)) e w':=by
 have p3:w.cell? ⟨pb,3,none⟩=some (.int .i64 (d:Nat)):=by rw[← hdp];exact hpt.cell 3
 have p2:w.cell? ⟨pb,2,none⟩=some (.int .i64 (m:Nat)):=by rw[← hw];exact hpt.cell 2
 obtain ⟨q,cp,rfl⟩:=owns_form h.out
 have c46:w.cell? ⟨wb,46,none⟩=some (.slice q st.out.length cp):=h.blk.cell 46
 have hbk:=h.hol i hb f h1 h2
 obtain ⟨a,b,e⟩:=holC_cell f d hd8
 rw[Nat.mul_comm] at a b e
 have k0:=(hbk.cell (d*3)).trans a
 have k1:=(hbk.cell (d*3+1)).trans b
 have k2:=(hbk.cell (d*3+2)).trans e
 have g0:=hbk.frozen (d*3)
 have g1:=hbk.frozen (d*3+1)
 have g2:=hbk.frozen (d*3+2)
 have hd8':(d:Int)<8:=by omega
 have hmem:hb∈wb::rst tv sv svs hbs:=List.mem_cons_of_mem _ (mem_rst_hbs h1)
 have hhb:=h.ge hb hmem
 have hne1:¬ hb=wb:=fun e=>by have:=h.nd;rw[List.nodup_cons] at this;exact this.1 (e▸mem_rst_hbs h1)
 have hne2:¬ wb=hb:=fun e=>hne1 e.symm
 have hne3:¬ hb=pb:=by omega
 have hne4:¬ pb=hb:=by omega
 have HM:=hide' h
 clear a b e
 generalize hoF (f d)=fv at *
 go_enter Tryz.func191,Tryz.ntmps191
 go_wp2_with fail
 go_region
 have hW:((w.setCell ⟨hb,d*3,none⟩ (.int .i64 st.out.length)).setCell ⟨hb,d*3+1,none⟩ (.int .i64 m)).setCell ⟨hb,d*3+2,none⟩ (.func (.func (putF low)) #[] #[])=setHo w hb d ⟨st.out.length,m,low⟩:=rfl
 rw[hW]
 have hha:=HM.out.hideAt ⟨st.out.length,m,low⟩ h1 h2 hd8
 have hdr:Below B (setHo w hb d ⟨st.out.length,m,low⟩) (setHo w hb d ⟨st.out.length,m,low⟩).drew:=⟨rfl,rfl,rfl,Nat.le_refl _,fun _ _=>rfl⟩
 have HMh:=hide' (hha.1.keep hdr (fun _ _ _=>rfl))
 have HBh:=hide' (hha.2.trans hdr)
 clear hha hdr hW k0 k1 k2 g0 g1 g2 c46 p3
 generalize (setHo w hb d ⟨st.out.length,m,low⟩).drew=W at *
 have p2W:W.cell? ⟨pb,2,none⟩=some (.int .i64 (m:Nat)):=by rw[World.cell?_of_block (w:=w) (HBh.out.block pb hpb)];exact p2
 go_wp2_with fail
 refine (space_calls c B W wb _ tv sv svs hbs _ HMh.out m (by omega) hm hl).mono ?_
 rintro e w2 ⟨g,cap,rfl,hm2,hb2⟩
 have HM2:=hide' hm2
 have HB2:=hide' (HBh.out.trans hb2)
 clear hm2 hb2
 go_wp2_with fail
 go_end0
 exact ⟨rfl,HB2.out,_,_,_,_,[],by rw[List.append_nil];exact HM2.out⟩
set_option maxHeartbeats 1000000 in
theorem writeHidden_calls (c:Cx)(B:Nat)(w:World)(wb:Nat)(bv tv sv:Value)(svs:List Value)(hbs:List Nat)(st:Wr)(h:WrM c B w wb bv tv sv svs hbs st)(hl:st.out.length≤1000000000)(pb hb d m i:Nat)(vv:Value)(f:Nat→Option Ho)(p:Pt)(hpt:PtBlk w pb p)(hpb:pb<B)(hdp:p.dp=(d:Int))(hd8:d<8)(hw:p.wd=(m:Int))(hm0:1≤m)(hm:m≤4)(h1:hbs[i]? = some hb)(h2:st.hol[i]? = some f):
 Calls Tryz.prog 142 #[.pointer (some ⟨wb,0,none⟩),.pointer (some ⟨pb,0,none⟩),vv,.pointer (some ⟨hb,0,none⟩)] w fun e w'=>WrPost c B w wb hbs (wOut (wHide st i d ⟨st.out.length,m,false⟩) (List.replicate m 0)) e w':=by
 have HC:=hide' (hidOrd_calls c B w wb bv tv sv svs hbs st h hl pb hb d m i f false p hpt hpb hdp hd8 hw hm0 hm h1 h2)
 clear h hpt
 go_enter Tryz.func142,Tryz.ntmps142
 go_wp2_with fail
 refine HC.out.mono ?_
 rintro e w2 ⟨rfl,hr⟩
 have HR:=hide' hr
 clear hr
 go_wp2_with fail
 go_end0
 exact ⟨rfl,HR.out⟩
set_option maxHeartbeats 1000000 in
theorem writeLowHidden_calls (c:Cx)(B:Nat)(w:World)(wb:Nat)(bv tv sv:Value)(svs:List Value)(hbs:List Nat)(st:Wr)(h:WrM c B w wb bv tv sv svs hbs st)(hl:st.out.length≤1000000000)(pb hb d m i:Nat)(vv:Value)(f:Nat→Option Ho)(p:Pt)(hpt:PtBlk w pb p)(hpb:pb<B)(hdp:p.dp=(d:Int))(hd8:d<8)(hw:p.wd=(m:Int))(hm0:1≤m)(hm:m≤4)(h1:hbs[i]? = some hb)(h2:st.hol[i]? = some f):
 Calls Tryz.prog 144 #[.pointer (some ⟨wb,0,none⟩),.pointer (some ⟨pb,0,none⟩),vv,.pointer (some ⟨hb,0,none⟩)] w fun e w'=>WrPost c B w wb hbs (wOut (wHide st i d ⟨st.out.length,m,true⟩) (List.replicate m 0)) e w':=by
 have HC:=hide' (hidOrd_calls c B w wb bv tv sv svs hbs st h hl pb hb d m i f true p hpt hpb hdp hd8 hw hm0 hm h1 h2)
 clear h hpt
 go_enter Tryz.func144,Tryz.ntmps144
 go_wp2_with fail
 refine HC.out.mono ?_
 rintro e w2 ⟨rfl,hr⟩
 have HR:=hide' hr
 clear hr
 go_wp2_with fail
 go_end0
 exact ⟨rfl,HR.out⟩
def HvIn (hid:Option Nat)(hv:Value)(hbs:List Nat):Prop:=match hid with
 | none=>True
 | some i=>∃ hb,hv=.pointer (some ⟨hb,0,none⟩)∧hbs[i]? = some hb
def KidW (c:Cx)(B wb:Nat)(w0:World)(qb:Nat)(vv hv:Value)(hid:Option Nat)(st st':Wr):Prop:=∀ w bv tv sv svs hbs,Below B w0 w→WrM c B w wb bv tv sv svs hbs st→HvIn hid hv hbs→
 Calls Tryz.prog 159 #[.pointer (some ⟨wb,0,none⟩),.pointer (some ⟨qb,0,none⟩),vv,hv] w fun e w'=>WrPost c B w wb hbs st' e w'
theorem app_at {α:Type}{l m:List α}{i:Nat}{x:α}(h:l[i]? = some x):(l++m)[i]? = some x:=by
 rw[List.getElem?_append_left (List.getElem?_eq_some_iff.1 h).1];exact h
set_option maxRecDepth 100000 in
set_option maxHeartbeats 2000000 in
theorem writeWindow_calls (c:Cx)(B:Nat)(w:World)(wb:Nat)(bv tv sv:Value)(svs:List Value)(hbs:List Nat)(st st1:Wr)(h:WrM c B w wb bv tv sv svs hbs st)(hl:st1.out.length≤1000000000)(hlo:st.out.length≤st1.out.length)(pb g cap qb hb d i:Nat)(ho:Ho)(f:Nat→Option Ho)(vv:Value)(p:Pt)(hpt:PtBlk w pb p)(hpb:pb<B)(_hgB:g<B)(hdp:p.dp=(d:Int))(hd8:d<8)(hpv:p.v=.slice (some ⟨g,0,none⟩) 1 cap)(hq:w.cell? ⟨g,0,none⟩=some (.pointer (some ⟨qb,0,none⟩)))(hk:KidW c B wb w qb vv (.pointer (some ⟨hb,0,none⟩)) (some i) st st1)(h1:hbs[i]? = some hb)(h2:st1.hol[i]? = some f)(h3:f d=some ho)(hok:HoOk ho st1.out.length):
 Calls Tryz.prog 152 #[.pointer (some ⟨wb,0,none⟩),.pointer (some ⟨pb,0,none⟩),vv,.pointer (some ⟨hb,0,none⟩)] w fun e w'=>WrPost c B w wb hbs (wTell st1 ho (st1.out.length-st.out.length)) e w':=by
 obtain ⟨q,cp,hbv⟩:=owns_form h.out
 have c46:w.cell? ⟨wb,46,none⟩=some (.slice q st.out.length cp):=by rw[← hbv];exact h.blk.cell 46
 have p8:w.cell? ⟨pb,8,none⟩=some (.slice (some ⟨g,0,none⟩) 1 cap):=by rw[← hpv];exact hpt.cell 8
 have p3:w.cell? ⟨pb,3,none⟩=some (.int .i64 (d:Nat)):=by rw[← hdp];exact hpt.cell 3
 have hd8':(d:Int)<8:=by omega
 have HM:=hide' h
 have HK:=hide' hk
 clear h hk hpt hbv
 go_enter Tryz.func152,Tryz.ntmps152
 go_wp2_with fail
 refine (HK.out w bv tv sv svs hbs (Below.refl _ _) HM.out ⟨hb,rfl,h1⟩).mono ?_
 rintro e w2 ⟨rfl,hb2,bv2,tv2,sv2,svs2,more,hm2⟩
 have HM2:=hide' hm2
 have HB2:=hide' hb2
 have hho:=hm2.hole (app_at (m:=more) h1) h2 h3 hd8
 have k0:=hho.c0
 have k1:=hho.c1
 have k2:=hho.c2
 obtain ⟨q2,cp2,hbv2⟩:=owns_form hm2.out
 have d46:w2.cell? ⟨wb,46,none⟩=some (.slice q2 st1.out.length cp2):=by rw[← hbv2];exact hm2.blk.cell 46
 have p32:w2.cell? ⟨pb,3,none⟩=some (.int .i64 (d:Nat)):=by rw[World.cell?_of_block (w:=w) (hb2.block pb hpb)];exact p3
 clear hho hm2 hb2 hbv2 c46 p8 p3 hq
 have hsub:IntKind.i64.wrap ((st1.out.length:Int)-(st.out.length:Int))=((st1.out.length-st.out.length:Nat):Int):=by rw[IntKind.wrap_i64];omega
 go_wp2_with fail
 refine wp_region_mid 16 _ rfl rfl (by kernel_rfl) (by kernel_rfl) ?_
 simp only[List.take_succ_cons,List.take_zero,List.drop_succ_cons,List.drop_zero]
 repeat still_step
 refine wpStill_nil ?_
 unfold Oper.wp
 go_simp
 have hdr:Below B w2 (w2.drewN 1):=⟨rfl,rfl,rfl,Nat.le_refl _,fun _ _=>rfl⟩
 refine (tell_calls c B (w2.drewN 1) wb bv2 tv2 sv2 svs2 (hbs++more) st1 (HM2.out.keep hdr (fun _ _ _=>rfl)) ho hok (st1.out.length-st.out.length) (by omega) hl).mono ?_
 rintro e w3 ⟨rfl,hm3,hb3⟩
 have HM3:=hide' hm3
 have HB3:=hide' (HB2.out.trans (hdr.trans hb3))
 clear hm3 hb3
 simp only
 refine wpStill_nil ?_
 go_wp2_with fail
 go_end0
 exact ⟨rfl,HB3.out,_,_,_,_,_,HM3.out⟩
end Go.Proofs.YtmlkhhhjdpbhfaaGreatDoor

import Derived.Test.YtmlkhhhjdpbhfaaGreatDoorFo34
import Derived.Deep.AppendLies
import Derived.ArgAppend
import Derived.Test.YtmlkhhhjdpbhfaaGreatDoorFo23
import Derived.Test.YtmlkhhhjdpbhfaaGreatDoorFo33
import Derived.Test.YtmlkhhhjdpbhfaaGreatDoorFo22
import Derived.BigQuiet
namespace Go.Proofs.YtmlkhhhjdpbhfaaGreatDoor
open Go Go.RowKit
def OffRow (w:World)(base:Nat)(e:TypeId)(size:Nat)(v:Value)(n:Nat)(xs:List Value):Prop:=
 xs.length=n*size∧((v=.slice none 0 0∧n=0)∨∃ g off cap cur,v=.slice (some ⟨g,off,none⟩) n cap∧base≤g∧w.heap[g]? = some (.cells cur e (0,0))∧n≤cap∧cap≤maxLen∧off+cap*size≤cur.size∧(cur.toList.drop off).take (n*size)=xs)
theorem OffRow.blocks {w w':World}{base:Nat}{e:TypeId}{size:Nat}{v:Value}{n:Nat}{xs:List Value}(h:OffRow w base e size v n xs)(hk:∀ g,v.ownBlock=some g→w'.heap[g]? = w.heap[g]?):OffRow w' base e size v n xs:=by
 refine ⟨h.1,?_⟩
 rcases h.2 with h | ⟨g,off,cap,cur,rfl,h2,h3,h4⟩
 · exact Or.inl h
 · exact Or.inr ⟨g,off,cap,cur,rfl,h2,by rw[hk g rfl];exact h3,h4⟩
theorem OffRow.lt {w:World}{base:Nat}{e:TypeId}{size:Nat}{v:Value}{n:Nat}{xs:List Value}(h:OffRow w base e size v n xs){g:Nat}(hg:v.ownBlock=some g):base≤g∧g<w.heap.size:=by
 rcases h.2 with ⟨rfl,_⟩ | ⟨q,off,cap,cur,rfl,h2,h3,h4⟩
 · cases hg
 · simp[Value.ownBlock] at hg
   subst hg
   exact ⟨h2,(Array.getElem?_eq_some_iff.1 h3).1⟩
theorem OffRow.nil (w:World)(base:Nat)(e:TypeId)(size:Nat):OffRow w base e size (.slice none 0 0) 0 []:=⟨by simp,Or.inl ⟨rfl,rfl⟩⟩
theorem setCells_size_w (g:Nat):∀ (vs:List Value) (o:Nat) (w:World),(w.setCells g o vs).heap.size=w.heap.size
 | [],_,_=>rfl
 | v::r,o,w=>by rw[World.setCells,setCells_size_w g r];simp[World.setCell]
theorem setCells_other (g k:Nat)(hk:k≠g):∀ (vs:List Value) (o:Nat) (w:World),(w.setCells g o vs).heap[k]? = w.heap[k]?
 | [],_,_=>rfl
 | v::r,o,w=>by rw[World.setCells,setCells_other g k hk r,heap_setCell_other _ _ _ _ hk]
theorem setCells_rest (g:Nat):∀ (vs:List Value) (o:Nat) (w:World),(w.setCells g o vs).os=w.os∧(w.setCells g o vs).tape=w.tape∧(w.setCells g o vs).output=w.output
 | [],_,_=>⟨rfl,rfl,rfl⟩
 | v::r,o,w=>by rw[World.setCells];exact setCells_rest g r _ _
theorem setCells_blk (g:Nat)(t:TypeId):∀ (vs:List Value) (o:Nat) (w:World) (cur:Array Value),w.heap[g]? = some (.cells cur t (0,0))→o+vs.length≤cur.size→
 ∃ cur',(w.setCells g o vs).heap[g]? = some (.cells cur' t (0,0))∧cur'.toList=cur.toList.take o++vs++cur.toList.drop (o+vs.length)
 | [],o,w,cur,h,_=>⟨cur,h,by simp⟩
 | v::r,o,w,cur,h,hs=>by
  simp only[List.length_cons] at hs
  obtain ⟨cur',h1,h2⟩:=setCells_blk g t r (o+1) (w.setCell ⟨g,o,none⟩ v) (cur.setIfInBounds o v) (heap_setCell_same w g o cur t v h) (by simp;omega)
  refine ⟨cur',h1,?_⟩
  rw[h2]
  have hl:(cur.setIfInBounds o v).toList=cur.toList.take o++v::cur.toList.drop (o+1):=by
   rw[Array.toList_setIfInBounds,List.set_eq_take_append_cons_drop,if_pos (by simp;omega)]
  have hto:(cur.toList.take o).length=o:=by simp;omega
  have d1:(cur.toList.take o++v::cur.toList.drop (o+1)).take (o+1)=cur.toList.take o++[v]:=by
   rw[List.take_append,hto,show o+1-o=1 by omega,List.take_of_length_le (by rw[hto];omega)]
   rfl
  have d2:(cur.toList.take o++v::cur.toList.drop (o+1)).drop (o+1+r.length)=cur.toList.drop (o+(r.length+1)):=by
   rw[List.drop_append,hto,show o+1+r.length-o=r.length+1 by omega,List.drop_of_length_le (by rw[hto];omega),List.nil_append,List.drop_succ_cons,List.drop_drop]
   congr 1
   omega
  rw[hl,d1,d2]
  simp[List.append_assoc]
section
variable {P:Program} (w:World)
theorem run_append_off (t ty:TypeId)(base:Nat)(e:TypeId)(i:TypeInfo)(z:Value)(size bytes:Nat)(ht:P.underlying t=some (.slice e))(hi:P.info? e=some i)(hz:i.zero=some z)(hsize:i.size=size)(hby:i.bytes=bytes)(hzs:z.cells.size=size)(hsz:0<size)(v:Value)(n:Nat)(xs:List Value)(hown:OffRow w base e size v n xs)(ad:Addr)(m c:Nat)(news:List Value)(hl:news.length=m*size)(hnews:∀ j u,news[j]? = some u→w.cell? (ad.add j)=some u)(h1:∀ u∈news,u.oneCell'=true)(hm:0<m)(h63:n+m≤maxLen)(hbytes:(n+m)*bytes≤140737488355328)(hbase:base≤w.heap.size):
 ∃ g off cap w',(Builtin.append_ #[t,t] ty #[v,.slice (some ad) m c]).run P w=.ok (.slice (some ⟨g,off,none⟩) (n+m) cap) w'∧
  OffRow w' base e size (.slice (some ⟨g,off,none⟩) (n+m) cap) (n+m) (xs++news)∧w.grownBy w' v.ownBlock∧(v.ownBlock=some g∨w.heap.size≤g):=by
 have hxl:=hown.1
 have hlen:(xs++news).length=(n+m)*size:=by rw[List.length_append,hxl,hl,Nat.add_mul]
 rcases hown.2 with ⟨rfl,rfl⟩ | ⟨g,off,cap,cur,rfl,hbg,hg,hnc,hcm,hcs,htake⟩
 · have hx:xs=[]:=List.eq_nil_of_length_eq_zero (by simpa using hxl)
   subst hx
   obtain ⟨g,cap,w',hr,h2,h3,h4,h5⟩:=run_append_lies (P:=P) w t ty base e i z size bytes ht hi hz hsize hby hzs hsz (.slice none 0 0) 0 [] (World.ownsRow_nil _ _ _ _) ad m c news hl hnews h1 hm h63 hbytes hbase w.heap.size rfl
   refine ⟨g,0,cap,w',hr,⟨hlen,?_⟩,h3,?_⟩
   · rcases h2.2 with ⟨a,_⟩ | ⟨q,cp,cur,a,b1,b2,b3,b4,b5,b6⟩
     · cases a
     · refine Or.inr ⟨q,0,cp,cur,a,b1,b2,b3,b4,by omega,by simpa using b6⟩
   · rcases h4 with h4 | h4
     · cases h4
     · exact Or.inr (by omega)
 · subst hsize
   have hsm:n*i.size+m*i.size≤cap*i.size∨cap<n+m:=by
    by_cases h:n+m≤cap
    · left;rw[← Nat.add_mul];exact Nat.mul_le_mul_right _ h
    · right;omega
   by_cases hroom:n+m≤cap
   · have hs2:n*i.size+m*i.size≤cap*i.size:=by omega
     have hcell:∀ j,j<news.length→w.cell? ⟨g,off+n*i.size+j,none⟩=cur[off+n*i.size+j]? := fun j _=>cell_of_row w g _ cur e (0,0) hg
     have hr:=run_append_room_cells (P:=P) w t ty e i ht hi g off n cap ad m c news hl hnews h1 hroom
      (fun j hj=>by rw[hcell j hj,Array.getElem?_eq_getElem (by omega)];rfl)
      (fun j hj=>by simp[World.frozen?,hg])
     obtain ⟨cur',a1,a2⟩:=setCells_blk g e news (off+n*i.size) w cur hg (by omega)
     have hsz':cur'.size=cur.size:=by
      rw[← Array.length_toList,a2]
      simp only[List.length_append,List.length_take,List.length_drop,Array.length_toList]
      omega
     refine ⟨g,off,cap,_,hr,⟨hlen,Or.inr ⟨g,off,cap,cur',rfl,hbg,a1,hroom,hcm,by omega,?_⟩⟩,⟨(setCells_rest g news _ w).1,(setCells_rest g news _ w).2.1,(setCells_rest g news _ w).2.2,by rw[setCells_size_w];omega,fun k _ hk=>setCells_other g k (fun e=>hk (by simp[Value.ownBlock,e])) _ _ _⟩,Or.inl rfl⟩
     have ht1:(cur.toList.take (off+n*i.size)).length=off+n*i.size:=by simp;omega
     rw[a2,List.append_assoc,List.drop_append_of_le_length (by rw[ht1];omega),List.drop_take,show off+n*i.size-off=n*i.size by omega,htake,← List.append_assoc,← hlen]
     exact List.take_left
   · have holds:∀ j u,xs[j]? = some u→w.cell? ((⟨g,off,none⟩:Addr).add j)=some u:=fun j u hj=>by
      rw[Addr.add_lit,cell_of_row w g _ cur e (0,0) hg,← Array.getElem?_toList]
      rw[← htake] at hj
      have hjl:j<n*i.size:=by
       have:=(List.getElem?_eq_some_iff.1 hj).1
       rw[List.length_take] at this;omega
      rw[List.getElem?_take_of_lt hjl,List.getElem?_drop] at hj
      exact hj
     have hge:=grownCap_ge w (n+m) cap e
     have hcm':grownCap w (n+m) cap e≤maxLen:=grownCap_le_maxLen w (n+m) cap e h63
     subst hby
     have hr:=run_append_grow (P:=P) w t ty e i z ht hi hz ⟨g,off,none⟩ n cap xs hxl holds ad m c news hl hnews (by omega) (by simp only[maxLen] at h63;omega) (growslice_fits (by omega) hbytes)
     refine ⟨w.heap.size,0,_,_,hr,⟨hlen,Or.inr ⟨w.heap.size,0,_,_,rfl,hbase,heap_alloc_new w.drew _,hge,hcm',?_,?_⟩⟩,⟨rfl,rfl,rfl,by simp,fun k hk _=>Below.heap_alloc w.drew _ k hk⟩,Or.inr (Nat.le_refl _)⟩
     · simp only[Array.size_append,List.size_toArray,size_zeroCells,hzs,hxl,hl,← Nat.add_mul,Nat.zero_add]
       refine Nat.le_of_eq ?_
       congr 1
       omega
     · simp only[Array.toList_append,List.append_assoc,List.drop_zero]
       rw[← List.append_assoc,← hlen]
       exact List.take_left
theorem step_append_off {ops:Array Oper}{o:Oper}{a:Act}{K:Act→World→Prop}{Q:Exit→Act→World→Prop}{E:Prop}(hgd:o.guard=none)(s x:Operand)(t:TypeId)(ho:o.op=.call { callee:=.builtin .append,args:=#[s,x],argTypes:=#[t,t] })(base:Nat)(e:TypeId)(i:TypeInfo)(z:Value)(size bytes:Nat)(ht:P.underlying t=some (.slice e))(hi:P.info? e=some i)(hz:i.zero=some z)(hsize:i.size=size)(hby:i.bytes=bytes)(hzs:z.cells.size=size)(hsz:0<size)(v:Value)(n:Nat)(xs:List Value)(hs:a.eval s=v)(hown:OffRow w base e size v n xs)(ad:Addr)(m c:Nat)(news:List Value)(hx:a.eval x=.slice (some ad) m c)(hl:news.length=m*size)(hnews:∀ j u,news[j]? = some u→w.cell? (ad.add j)=some u)(h1:∀ u∈news,u.oneCell'=true)(hm:0<m)(h63:n+m≤maxLen)(hbytes:(n+m)*bytes≤140737488355328)(hbase:base≤w.heap.size)(h:∀ g off cap w',OffRow w' base e size (.slice (some ⟨g,off,none⟩) (n+m) cap) (n+m) (xs++news)→w.grownBy w' v.ownBlock→(v.ownBlock=some g∨w.heap.size≤g)→K (a.put o.dst (.slice (some ⟨g,off,none⟩) (n+m) cap)) w'):
 if Region.wanted o (yielded ops a.tmps)=true then Oper.wp P o a w K Q else E:=by
 have hw:Region.wanted o (yielded ops a.tmps)=true:=by simp[Region.wanted,hgd]
 rw[if_pos hw]
 obtain ⟨g,off,cap,w',hr,h2,h3,h4⟩:=run_append_off (P:=P) w t o.type base e i z size bytes ht hi hz hsize hby hzs hsz v n xs hown ad m c news hl hnews h1 hm h63 hbytes hbase
 unfold Oper.wp execOp
 simp only[ho,resolve,invoke,builtin,Sem.run_bind,Sem.run_pure,Result.andThen_ok,List.map_toArray,List.map_cons,List.map_nil,hs,hx,hr]
 exact h g off cap w' h2 h3 h4
end
end Go.Proofs.YtmlkhhhjdpbhfaaGreatDoor
namespace Go.Proofs.YtmlkhhhjdpbhfaaGreatDoor
open Go
section
variable {P:Program} {md:Region.Mode} {C:World→Prop} {Q:Exit→Act→World→Prop} {l:List Oper} {ops:Array Oper}
theorem wp_region_midW {id:Nat}{Q:Exit→Act→World→Prop}{a:Act}{w:World}{l:List Oper}(n:Nat)(o:Oper)(ho:l[n]? = some o)(hm:P.follows .mixedOrders=true)(hB:midB .any l.toArray n=true)(h:wpStill P l.toArray { w with drawn:=w.drawn+1 } (fun a'=>Region.wanted o (yielded l.toArray a'.tmps)=true∧o.wp P a' { w with drawn:=w.drawn+1 } (fun a2 w2=>wpStill P l.toArray w2 (fun a3=>Q .normal a3 w2) (l.drop (n+1)) a2) Q) (l.take n) a):(Code.region id l.toArray true).wp P Q a w:=by
 simp only[midB,Bool.and_eq_true,decide_eq_true_eq] at hB
 obtain ⟨⟨⟨⟨hsel,hn⟩,hs⟩,hb⟩,hmid⟩:=hB
 have hn':n<l.length:=by simpa using hn
 have htl:(l.take n).length=n:=by simp;omega
 have inv0:HeadInv .any l.toArray n (Array.replicate l.toArray.size false):=
  ⟨by simp,fun j oj _ hl=>(by rw[getD_replicate_false] at hl;cases hl),fun t _ ht=>getD_in (by simpa using ht) (getD_replicate_false _ _)⟩
 have H:=mid_lex (md:=.any) hsel hs hb hn (l.take n) 0 _ a (fun j hj=>by
  have hj':j<n:=by rw[htl] at hj;exact hj
  simp[hj']) (by simpa using htl) inv0 (by rw[htl];exact hmid) h
 refine wp_region_any hm ?_
 have:=wpAny_of_head (Q':=Q) (g:=l.toArray.size-n-1+1) (fun listed a' hL=>by
  obtain ⟨⟨hr,hlex⟩,hop⟩:=hL
  refine ⟨fun h0=>by rw[hr] at h0;simp at h0,fun i hi=>?_⟩
  rw[hr] at hi
  have hin:i=n:=by simpa using hi
  subst hin
  unfold wpOp
  have ho':l.toArray[i]? = some o:=by simpa using ho
  simp only[ho']
  rw[if_pos hop.1]
  refine .inl (Oper.wp_mono (fun a2 w2 h2=>?_) hop.2)
  have h3:=wpAnyS_lex (md:=.any) (P:=P) (w:=w2) hsel (l.drop (i+1)) (i+1) (listed.setIfInBounds i true) a2 (fun j=>by simp[List.getElem?_drop]) (by simpa[Nat.sub_sub] using hlex) h2
  have h4:=wpAny_of_still (Q:=fun a3=>Q .normal a3 w2) (Q':=Q) (fun _ h=>h) _ _ _ h3
  simpa[Nat.sub_sub] using h4) _ _ _ H
 rw[htl,show n+(l.toArray.size-n-1+1)=l.toArray.size by omega] at this
 exact this
end
end Go.Proofs.YtmlkhhhjdpbhfaaGreatDoor
namespace Go.Proofs.YtmlkhhhjdpbhfaaGreatDoor
open Go.RowKit
structure HPre (c:Cx) (w:World) (wb:Nat):Prop where
 bel:Below c.w0.heap.size c.w0 w
 ge:c.w0.heap.size≤wb
 fns:∀ j v,doFns[j]? = some v→w.cell? ⟨wb,j,none⟩=some v
 gr:w.cell? ⟨wb,45,none⟩=some (.pointer (some ⟨c.gb,0,none⟩))
 lt:wb<w.heap.size
theorem HPre.below {c:Cx}{w w':World}{wb:Nat}(h:HPre c w wb)(hb:Below w.heap.size w w'):HPre c w' wb:=
 ⟨h.bel.trans (hb.mono h.bel.size),h.ge,fun j v hj=>by rw[World.cell?_of_block (w:=w) (hb.block wb h.lt)];exact h.fns j v hj,by rw[World.cell?_of_block (w:=w) (hb.block wb h.lt)];exact h.gr,Nat.lt_of_lt_of_le h.lt hb.size⟩
def HasPost (b:Bool)(w:World)(e:Ending)(w':World):Prop:=e=.returned (.bool b)∧Below w.heap.size w w'
theorem below_drew (w:World)(n:Nat):Below w.heap.size w (w.drewN n):=⟨rfl,rfl,rfl,Nat.le_refl _,fun _ _=>rfl⟩
set_option maxRecDepth 100000 in
set_option maxHeartbeats 2000000 in
theorem has_walk (c:Cx)(w:World)(wb pb vb:Nat)(p:Pt)(kd fn:Nat)(b:Bool)(hp:HPre c w wb)(hpt:PtBlk w pb p)(hk:p.k=(kd:Int))(hkd:kd<15)(hfn:doFns[kd*3+1]? = some (fnV fn))(hrun:∀ args W,Sem.run Tryz.prog (callFunc fn args) W=.ok (.enter fn args) W)(hcall:∀ W,Below w.heap.size w W→Calls Tryz.prog fn #[.pointer (some ⟨wb,0,none⟩),.pointer (some ⟨pb,0,none⟩),.pointer (some ⟨vb,0,none⟩)] W fun e w'=>HasPost b W e w'):
 Calls Tryz.prog 51 #[.pointer (some ⟨wb,0,none⟩),.pointer (some ⟨pb,0,none⟩),.pointer (some ⟨vb,0,none⟩)] w fun e w'=>HasPost b w e w':=by
 have hkd':(kd:Int)<15:=by omega
 have hfc:w.cell? ⟨wb,kd*3+1,none⟩=some (.func (.func fn) #[] #[]):=hp.fns _ _ hfn
 have p0:w.cell? ⟨pb,0,none⟩=some (.int .i64 kd):=by rw[← hk];exact hpt.cell 0
 have HCall:=hide' hcall
 clear hp hpt hcall hfn
 go_enter Tryz.func51,Tryz.ntmps51
 go_wp2_with fail
 refine wp_region_mid 13 _ rfl rfl (by kernel_rfl) (by kernel_rfl) ?_
 simp only[List.take_succ_cons,List.take_zero,List.drop_succ_cons,List.drop_zero]
 repeat still_step
 refine wpStill_nil ?_
 unfold Oper.wp
 go_simp
 refine (HCall.out (w.drewN 1) (below_drew w 1)).mono fun e4 w4 hpo=>?_
 obtain ⟨rfl,hb⟩:=hpo
 have HB:=hide' ((below_drew w 1).trans hb)
 clear hb
 simp only
 repeat still_step
 refine wpStill_nil ?_
 go_wp2_with fail
 go_ret
 exact ⟨rfl,HB.out⟩
set_option maxHeartbeats 1000000 in
theorem isWithin_calls (n wd:Nat)(hn:n<18446744073709551616)(hw:wd≤4)(w:World):
 Calls Tryz.prog 160 #[.int .u64 (n:Nat),.int .i64 (wd:Nat)] w fun e w'=>e=.returned (.bool (withinB n wd))∧w'=w:=by
 have key:((n:Int) / 2 ^ (8*wd)==0)=withinB n wd:=by
  have hm:(2:Int) ^ (8*wd)=((256 ^ wd:Nat):Int):=by
   rw[show (256:Nat)=2 ^ 8 from rfl,← Nat.pow_mul];simp
  unfold withinB
  rw[hm]
  have hp:0<256 ^ wd:=Nat.pow_pos (by omega)
  by_cases h:n<256 ^ wd
  · rw[decide_eq_true h,Int.ediv_eq_zero_of_lt (by omega) (by omega)];rfl
  · rw[decide_eq_false h]
    have h1:1≤n / 256 ^ wd:=(Nat.one_le_div_iff hp).2 (by omega)
    have h2:((n:Int) / ((256 ^ wd:Nat):Int))=((n / 256 ^ wd:Nat):Int):=by simp
    rw[h2]
    have:¬ ((n / 256 ^ wd:Nat):Int)=0:=by omega
    simpa using this
 go_enter Tryz.func160,Tryz.ntmps160
 go_wp2_with fail
 go_ret
 exact ⟨rfl,rfl⟩
structure NdB (w:World) (vb k n:Nat) (run:ByteArray) (v:Value):Prop where
 blk:Blk w vb #[.int .i64 (k:Nat),.int .u32 (n:Nat),.string run,v] 177
 n:n<4294967296
set_option maxRecDepth 100000 in
set_option maxHeartbeats 1000000 in
theorem hasNumber_calls (w:World)(wb pb vb k n wd:Nat)(run:ByteArray)(v:Value)(p:Pt)(hpt:PtBlk w pb p)(hv:NdB w vb k n run v)(hw:p.wd=(wd:Int))(hwd:wd≤4):
 Calls Tryz.prog 121 #[.pointer (some ⟨wb,0,none⟩),.pointer (some ⟨pb,0,none⟩),.pointer (some ⟨vb,0,none⟩)] w fun e w'=>HasPost (decide (k=0)&&withinB n wd) w e w':=by
 have c0:w.cell? ⟨vb,0,none⟩=some (.int .i64 (k:Nat)):=hv.blk.cell 0
 have c1:w.cell? ⟨vb,1,none⟩=some (.int .u32 (n:Nat)):=hv.blk.cell 1
 have p2:w.cell? ⟨pb,2,none⟩=some (.int .i64 (wd:Nat)):=by rw[← hw];exact hpt.cell 2
 have hn:=hv.n
 have HW:=hide' (fun W=>isWithin_calls n wd (by omega) hwd W)
 have hw64:IntKind.u64.wrap (n:Int)=n:=by rw[IntKind.wrap_u64];omega
 clear hpt hv
 by_cases hk:k=0
 · subst hk
   go_enter Tryz.func121,Tryz.ntmps121
   go_wp2_with fail
   go_quiet (first | (go_at_call 160;exact Calls.quiet_of_same (HW.out _)))
   go_wp2_with fail
   go_ret
   exact ⟨ret_bool (by simp),below_drew w _⟩
 · have hk':((k:Int)==0)=false:=by simpa using hk
   have hd:decide ((k:Int)=0)=false:=decide_eq_false (by omega)
   go_enter Tryz.func121,Tryz.ntmps121
   go_wp2_with fail
   go_quiet (fail)
   go_wp2_with fail
   go_ret
   exact ⟨ret_bool (by simp[hk]),below_drew w _⟩
set_option maxHeartbeats 1000000 in
theorem hasNothing_calls (w:World)(wb pb vb k n:Nat)(run:ByteArray)(v:Value)(hv:NdB w vb k n run v):
 Calls Tryz.prog 126 #[.pointer (some ⟨wb,0,none⟩),.pointer (some ⟨pb,0,none⟩),.pointer (some ⟨vb,0,none⟩)] w fun e w'=>HasPost (decide (k=1)) w e w':=by
 have c0:w.cell? ⟨vb,0,none⟩=some (.int .i64 (k:Nat)):=hv.blk.cell 0
 have key:((k:Int)==1)=decide (k=1):=by by_cases h:k=1<;>simp[h];omega
 go_enter Tryz.func126,Tryz.ntmps126
 go_wp2_with fail
 go_ret
 exact ⟨rfl,Below.refl _ _⟩
set_option maxHeartbeats 1000000 in
theorem hasRun_calls (w:World)(wb pb vb k n:Nat)(run:ByteArray)(v:Value)(hv:NdB w vb k n run v):
 Calls Tryz.prog 146 #[.pointer (some ⟨wb,0,none⟩),.pointer (some ⟨pb,0,none⟩),.pointer (some ⟨vb,0,none⟩)] w fun e w'=>HasPost (decide (k=2)) w e w':=by
 have c0:w.cell? ⟨vb,0,none⟩=some (.int .i64 (k:Nat)):=hv.blk.cell 0
 have key:((k:Int)==2)=decide (k=2):=by by_cases h:k=2<;>simp[h];omega
 go_enter Tryz.func146,Tryz.ntmps146
 go_wp2_with fail
 go_ret
 exact ⟨rfl,Below.refl _ _⟩
set_option maxHeartbeats 1000000 in
theorem hasNone_calls (w:World)(wb pb vb:Nat):
 Calls Tryz.prog 141 #[.pointer (some ⟨wb,0,none⟩),.pointer (some ⟨pb,0,none⟩),.pointer (some ⟨vb,0,none⟩)] w fun e w'=>HasPost false w e w':=by
 go_enter Tryz.func141,Tryz.ntmps141
 go_wp2_with fail
 go_ret
 exact ⟨rfl,Below.refl _ _⟩
end Go.Proofs.YtmlkhhhjdpbhfaaGreatDoor

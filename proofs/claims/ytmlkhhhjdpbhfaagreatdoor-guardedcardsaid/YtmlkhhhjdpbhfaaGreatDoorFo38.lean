import Derived.Test.YtmlkhhhjdpbhfaaGreatDoorFo37
namespace Go.Proofs.YtmlkhhhjdpbhfaaGreatDoor
open Go.RowKit
theorem owns_form {w:World}{B:Nat}{e:TypeId}{sz n:Nat}{v:Value}{xs:List Value}(h:w.ownsRow B e sz v n xs):∃ p cap,v=.slice p n cap:=by
 rcases h.2 with ⟨rfl,rfl⟩ | ⟨g,cap,cur,rfl,_⟩
 · exact ⟨_,_,rfl⟩
 · exact ⟨_,_,rfl⟩
theorem byteC_zeros (l:List UInt8)(m:Nat):byteC (l++List.replicate m 0)=byteC l++zrC m:=by simp[byteC,zrC]
theorem wrC_out (gb:Nat)(bv:Value)(wide:Bool)(tv sv v:Value):(wrC gb bv wide tv sv).setIfInBounds 46 v=wrC gb v wide tv sv:=rfl
theorem wrC_wide (gb:Nat)(bv:Value)(wide:Bool)(tv sv:Value)(b:Bool):(wrC gb bv wide tv sv).setIfInBounds 47 (.bool b)=wrC gb bv b tv sv:=rfl
theorem WrM.app {c:Cx}{B:Nat}{w w1:World}{wb:Nat}{bv tv sv:Value}{svs:List Value}{hbs:List Nat}{st:Wr}(h:WrM c B w wb bv tv sv svs hbs st)(g cap n:Nat)(l:List UInt8)(hg:w.grownBy w1 bv.ownBlock)(hown:w1.ownsRow B 5 1 (.slice (some ⟨g,0,none⟩) n cap) (st.out++l).length (byteC (st.out++l)))(hat:bv.ownBlock=some g∨w.heap.size≤g):
 WrM c B (w1.setCell ⟨wb,46,none⟩ (.slice (some ⟨g,0,none⟩) n cap)) wb (.slice (some ⟨g,0,none⟩) n cap) tv sv svs hbs (wOut st l)∧Below B w (w1.setCell ⟨wb,46,none⟩ (.slice (some ⟨g,0,none⟩) n cap)):=by
 have hwb:=h.ge wb List.mem_cons_self
 have hnb:g ∉ wb::rst tv sv svs hbs:=by
  rcases hat with h1 | h1
  · exact h.nb g h1
  · intro hm;have:=(h.ge g hm).2;omega
 have hne:some wb≠bv.ownBlock:=fun e=>h.nb wb e.symm List.mem_cons_self
 have hbel:Below B w (w1.setCell ⟨wb,46,none⟩ (.slice (some ⟨g,0,none⟩) n cap)):=by
  refine ⟨hg.os,hg.tape,hg.output,by have:=hg.size;simp[World.setCell];omega,fun k hk=>?_⟩
  rw[Below.heap_setCell _ _ _ _ (by simp only;omega)]
  exact hg.block k (by omega) (fun e=>by have:=(h.out.lt k e.symm).1;omega)
 have hblk1:Blk w1 wb (wrC c.gb bv st.wide tv sv) 120:=by
  have:=h.blk;unfold Blk at *;rw[hg.block wb hwb.2 hne];exact this
 refine ⟨?_,hbel⟩
 refine WrM.next (bv':=.slice (some ⟨g,0,none⟩) n cap) (wide:=st.wide) (out:=st.out++l) h hbel (fun b hm=>?_) (by have:=hblk1.set 46 (.slice (some ⟨g,0,none⟩) n cap);rw[wrC_out] at this;exact this) (ownsRow_blocks hown fun q e=>?_) (fun q e=>?_)
 · have hbm:=List.mem_cons_of_mem wb hm
   have hb1:b≠wb:=fun e=>by have:=h.nd;rw[List.nodup_cons] at this;exact this.1 (e▸hm)
   rw[Below.heap_setCell _ _ _ _ hb1]
   exact hg.block b (h.ge b hbm).2 (fun e=>h.nb b e.symm hbm)
 · refine Below.heap_setCell _ _ _ _ (fun e2=>hnb ?_)
   simp[Value.ownBlock] at e
   simp only at e2
   rw[e,e2];exact List.mem_cons_self
 · simp[Value.ownBlock] at e
   rw[← e];exact hnb
set_option maxRecDepth 100000 in
set_option maxHeartbeats 1000000 in
theorem space_calls (c:Cx)(B:Nat)(w:World)(wb:Nat)(bv tv sv:Value)(svs:List Value)(hbs:List Nat)(st:Wr)(h:WrM c B w wb bv tv sv svs hbs st)(m:Nat)(hm0:0<m)(hm:m≤4)(hl:st.out.length≤1000000000):
 Calls Tryz.prog 181 #[.pointer (some ⟨wb,0,none⟩),.int .i64 (m:Nat)] w fun e w'=>∃ g cap,e=.returned (.slice (some ⟨g,st.out.length,none⟩) m (cap-st.out.length))∧WrM c B w' wb (.slice (some ⟨g,0,none⟩) (st.out.length+m) cap) tv sv svs hbs (wOut st (List.replicate m 0))∧Below B w w':=by
 obtain ⟨i0,hi0,hz0,hz1,hz2⟩:=info_parts Tryz.infoByte
 have hwb:=h.ge wb List.mem_cons_self
 have hB:B≤w.heap.size:=by omega
 obtain ⟨g,cap,w1,hr,hown,hgr,hat⟩:=run_append_own_zeros (P:=Tryz.prog) w B 40 3 40 5 .i64 i0 Tryz.underlying40 Tryz.underlying3 hi0 hz0 hz1 hz2 bv st.out.length m (byteC st.out) h.out hm0 hm (by omega) hB
 have hown':w1.ownsRow B 5 1 (.slice (some ⟨g,0,none⟩) (st.out.length+m) cap) (st.out++List.replicate m 0).length (byteC (st.out++List.replicate m 0)):=by
  rw[byteC_zeros,List.length_append,List.length_replicate];exact hown
 have happ:=h.app g cap (st.out.length+m) (List.replicate m 0) hgr hown' hat
 have HA:=hide' happ.1
 have HBl:=hide' happ.2
 obtain ⟨p,cp,rfl⟩:=owns_form h.out
 have c46:w.cell? ⟨wb,46,none⟩=some (.slice p st.out.length cp):=h.blk.cell 46
 have hblk1:Blk w1 wb (wrC c.gb (.slice p st.out.length cp) st.wide tv sv) 120:=by
  have:=h.blk;unfold Blk at *;rw[hgr.block wb hwb.2 (fun e=>h.nb wb e.symm List.mem_cons_self)];exact this
 have d46:w1.cell? ⟨wb,46,none⟩=some (.slice p st.out.length cp):=hblk1.cell 46
 have f46:w1.frozen? ⟨wb,46,none⟩=false:=hblk1.frozen 46
 have e46:(w1.setCell ⟨wb,46,none⟩ (.slice (some ⟨g,0,none⟩) (st.out.length+m) cap)).cell? ⟨wb,46,none⟩=some (.slice (some ⟨g,0,none⟩) (st.out.length+m) cap):=HA.out.blk.cell 46
 have hcap:st.out.length+m≤cap:=by
  rcases hown.2 with ⟨e,_⟩ | ⟨g',cap',cur,e,_,_,hn,_⟩
  · cases e
  · injection e with e1 e2 e3;omega
 clear h hown hown' happ hgr hat hblk1
 go_enter Tryz.func181,Tryz.ntmps181
 go_wp2_with
  (at_builtin
   refine Lib.wpList_append_run _ rfl _ _ _ _ rfl _ _ rfl rfl _ _ hr ?_)
 generalize w1.setCell ⟨wb,46,none⟩ (.slice (some ⟨g,0,none⟩) (st.out.length+m) cap)=W at *
 go_ret
 exact ⟨g,cap,rfl,HA.out,HBl.out⟩
theorem putAt_length (out:List UInt8)(h:Ho)(n:Nat)(hl:h.pl+h.w≤out.length):(putAt out h n).length=out.length:=by
 unfold putAt
 simp only[List.length_append,List.length_take,List.length_drop,numB_length]
 omega
theorem putAt_get (out:List UInt8)(h:Ho)(n:Nat)(hl:h.pl+h.w≤out.length)(j:Nat):(putAt out h n)[j]? = if h.pl≤j∧j<h.pl+h.w then some ((numB h.low h.w n).getD (j-h.pl) 0) else out[j]? := by
 unfold putAt
 have h1:(out.take h.pl).length=h.pl:=by rw[List.length_take];omega
 have h2:=numB_length h.low h.w n
 by_cases ha:j<h.pl
 · rw[if_neg (by omega),List.append_assoc,List.getElem?_append_left (by omega),List.getElem?_take_of_lt ha]
 · by_cases hb:j<h.pl+h.w
   · rw[if_pos (by omega),List.append_assoc,List.getElem?_append_right (by omega),h1,List.getElem?_append_left (by omega),List.getD_eq_getElem?_getD,List.getElem?_eq_getElem (by omega)]
     rfl
   · rw[if_neg (by omega),List.getElem?_append_right (by rw[List.length_append];omega),List.length_append,h1,h2,List.getElem?_drop]
     congr 1
     omega
theorem WrM.put {c:Cx}{B:Nat}{w w1 w2:World}{wb:Nat}{bv tv sv:Value}{svs:List Value}{hbs:List Nat}{st:Wr}(h:WrM c B w wb bv tv sv svs hbs st)(ho:Ho)(n g cap:Nat)(cur:Array Value)(hbv:bv=.slice (some ⟨g,0,none⟩) st.out.length cap)(hb1:Below w.heap.size w w1)(hg:w1.heap[g]? = some (.cells cur 5 (0,0)))(hp:PutS w1 w2 g ho.pl 5 cur (numB ho.low ho.w n))(hl:ho.pl+ho.w≤st.out.length):
 WrM c B w2 wb bv tv sv svs hbs (wPut st ho n)∧Below B w w2:=by
 obtain ⟨cs,hbk,hsz,hget⟩:=hp.ex
 have hgb:=h.out.lt g (by rw[hbv];rfl)
 have hgn:=h.nb g (by rw[hbv];rfl)
 have hwb:=h.ge wb List.mem_cons_self
 have hbel:Below B w w2:=⟨hp.same.os.trans hb1.os,hp.same.tape.trans hb1.tape,hp.same.output.trans hb1.output,by rw[hp.same.size];exact hb1.size,fun k hk=>by rw[hp.same.block k (by omega)];exact hb1.block k (by omega)⟩
 refine ⟨?_,hbel⟩
 refine WrM.next (bv':=bv) (wide:=st.wide) (out:=putAt st.out ho n) h hbel (fun b hm=>?_) ?_ ?_ h.nb
 · have hbm:=List.mem_cons_of_mem wb hm
   rw[hp.same.block b (fun e=>hgn (e▸hbm))]
   exact hb1.block b (h.ge b hbm).2
 · have:=h.blk
   unfold Blk at *
   rw[hp.same.block wb (fun e=>hgn (e▸List.mem_cons_self)),hb1.block wb hwb.2]
   exact this
 · have hlen:=putAt_length st.out ho n hl
   rcases h.out.2 with ⟨e,_⟩ | ⟨g',cap',cur',e,hb',hg',hn',hm',hs',ht'⟩
   · rw[hbv] at e;cases e
   · rw[hbv] at e
     injection e with e1 e2 e3
     injection e1 with e1
     injection e1 with e1 _ _
     subst e1 e3
     have hcc:cur'=cur:=by
      have h1:=hb1.block g hgb.2
      rw[hg,hg'] at h1
      injection h1 with h1
      injection h1 with h1
      exact h1.symm
     subst hcc
     refine ⟨by simp[byteC],Or.inr ⟨g,cap,cs,by rw[hbv,hlen],hb',hbk,by rw[hlen];exact hn',hm',by rw[hsz];exact hs',?_⟩⟩
     rw[hlen]
     apply List.ext_getElem?
     intro j
     have hj':(cur'.toList.take (st.out.length*1))[j]? = (byteC st.out)[j]? := by rw[ht']
     by_cases hj:j<st.out.length
     · rw[List.getElem?_take_of_lt (by omega)] at hj'
       rw[List.getElem?_take_of_lt (by omega),Array.getElem?_toList,hget j,numB_length]
       rw[Array.getElem?_toList] at hj'
       unfold byteC
       rw[List.getElem?_map,putAt_get st.out ho n hl j]
       by_cases hin:ho.pl≤j∧j<ho.pl+ho.w
       · rw[if_pos hin,if_pos hin];rfl
       · rw[if_neg hin,if_neg hin,hj']
         unfold byteC
         rw[List.getElem?_map]
     · rw[List.getElem?_eq_none (by rw[List.length_take];omega),List.getElem?_eq_none (by simp[byteC,hlen];omega)]
theorem run_putLow:∀ args W,Sem.run Tryz.prog (callFunc 183 args) W=.ok (.enter 183 args) W:=fun args W=>by
 unfold callFunc
 go_simp
 simp[Tryz.f183]
theorem run_putHigh:∀ args W,Sem.run Tryz.prog (callFunc 180 args) W=.ok (.enter 180 args) W:=fun args W=>by
 unfold callFunc
 go_simp
 simp[Tryz.f180]
def putF (low:Bool):Nat:=if low then 183 else 180
theorem run_putF (low:Bool):∀ args W,Sem.run Tryz.prog (callFunc (putF low) args) W=.ok (.enter (putF low) args) W:=by
 cases low
 · exact run_putHigh
 · exact run_putLow
theorem putF_calls (w:World)(low:Bool)(g off m cp n:Nat)(t:TypeId)(cur:Array Value)(hb:Blk w g cur t)(hm:m≤4)(hfit:off+m≤cur.size)(hn:n<4294967296):
 Calls Tryz.prog (putF low) #[.slice (some ⟨g,off,none⟩) m cp,.int .u32 (n:Nat)] w fun e w'=>e=.returned (.tuple #[])∧PutS w w' g off t cur (numB low m n):=by
 cases low
 · exact putHigh_calls w g off m cp n t cur hb hm hfit hn
 · exact putLow_calls w g off m cp n t cur hb hm hfit hn
structure HoOk (h:Ho) (n:Nat):Prop where
 lt:h.pl+h.w≤n
 pos:1≤h.w
 le:h.w≤4
set_option maxRecDepth 100000 in
set_option maxHeartbeats 1000000 in
theorem put_callsK (c:Cx)(B:Nat)(w:World)(wb:Nat)(bv tv sv:Value)(svs:List Value)(hbs:List Nat)(st:Wr)(h:WrM c B w wb bv tv sv svs hbs st)(ho:Ho)(hh:HoOk ho st.out.length)(n:Nat)(hn:n<4294967296)(hl:st.out.length≤1000000000):
 Calls Tryz.prog 80 #[.pointer (some ⟨wb,0,none⟩),.agg #[.int .i64 (ho.pl:Nat),.int .i64 (ho.w:Nat),.func (.func (putF ho.low)) #[] #[]],.int .u32 (n:Nat)] w fun e w'=>e=.returned (.tuple #[])∧WrM c B w' wb bv tv sv svs hbs (wPut st ho n)∧Below B w w'∧∀ k,k<w.heap.size→some k≠bv.ownBlock→w'.heap[k]? = w.heap[k]? := by
 have h1:=hh.lt
 have h2:=hh.pos
 have h3:=hh.le
 have hwb:=h.ge wb List.mem_cons_self
 rcases h.out.2 with ⟨e,h0⟩ | ⟨g,cap,cur,hbv,hb',hg',hn',hm',hs',ht'⟩
 · omega
 have hgl:=h.out.lt g (by rw[hbv];rfl)
 have hA:=Blk.new w #[.int .i64 (ho.pl:Nat),.int .i64 (ho.w:Nat),.func (.func (putF ho.low)) #[] #[]] 190
 have hbel:=(Below.refl w.heap.size w).alloc (Nat.le_refl _) (.cells #[.int .i64 (ho.pl:Nat),.int .i64 (ho.w:Nat),.func (.func (putF ho.low)) #[] #[]] 190)
 have a0:(w.alloc (.cells #[.int .i64 (ho.pl:Nat),.int .i64 (ho.w:Nat),.func (.func (putF ho.low)) #[] #[]] 190)).cell? ⟨w.heap.size,0,none⟩=some (.int .i64 (ho.pl:Nat)):=hA.cell 0
 have a1:(w.alloc (.cells #[.int .i64 (ho.pl:Nat),.int .i64 (ho.w:Nat),.func (.func (putF ho.low)) #[] #[]] 190)).cell? ⟨w.heap.size,1,none⟩=some (.int .i64 (ho.w:Nat)):=hA.cell 1
 have a2:(w.alloc (.cells #[.int .i64 (ho.pl:Nat),.int .i64 (ho.w:Nat),.func (.func (putF ho.low)) #[] #[]] 190)).cell? ⟨w.heap.size,2,none⟩=some (.func (.func (putF ho.low)) #[] #[]):=hA.cell 2
 have c46:(w.alloc (.cells #[.int .i64 (ho.pl:Nat),.int .i64 (ho.w:Nat),.func (.func (putF ho.low)) #[] #[]] 190)).cell? ⟨wb,46,none⟩=some (.slice (some ⟨g,0,none⟩) st.out.length cap):=by
  rw[World.cell?_of_block (w:=w) (Below.heap_alloc _ _ _ hwb.2),← hbv];exact h.blk.cell 46
 have hg1:(w.alloc (.cells #[.int .i64 (ho.pl:Nat),.int .i64 (ho.w:Nat),.func (.func (putF ho.low)) #[] #[]] 190)).heap[g]? = some (.cells cur 5 (0,0)):=by rw[Below.heap_alloc _ _ _ hgl.2];exact hg'
 have HM:=hide' h
 have HG1:=hide' hg1
 have HBel:=hide' hbel
 have HBv:=hide' hbv
 have hrun:=run_putF ho.low
 have hcs:ho.pl+ho.w≤cur.size:=by omega
 have hwr:IntKind.i64.wrap ((ho.pl:Int)+(ho.w:Int))=(ho.pl:Int)+(ho.w:Int):=by rw[IntKind.wrap_i64];omega
 have hc1:(ho.pl:Int)+(ho.w:Int)≤(cap:Int):=by omega
 have hc2:ho.pl+ho.w≤cap:=by omega
 have hc3:¬ (cap<ho.pl+ho.w):=by omega
 have hc4:¬ ((cap:Int)<(ho.pl:Int)+(ho.w:Int)):=by omega
 have hc5:¬ ((ho.pl:Int)+(ho.w:Int)<(ho.pl:Int)):=by omega
 have hc6:¬ ((ho.pl:Int)+(ho.w:Int)<0):=by omega
 have hne:(if cap=ho.pl then some (⟨g,0,none⟩:Addr) else some ⟨g,ho.pl,none⟩)=some ⟨g,ho.pl,none⟩:=if_neg (by omega)
 have htn:((ho.pl:Int)+(ho.w:Int)).toNat-ho.pl=ho.w:=by omega
 clear h hA hbel hg1 hg' ht' hbv hs'
 go_enter Tryz.func80,Tryz.ntmps80
 go_wp2_with fail
 generalize (w.alloc (.cells #[.int .i64 (ho.pl:Nat),.int .i64 (ho.w:Nat),.func (.func (putF ho.low)) #[] #[]] 190))=W at *
 refine wp_region_mid 15 _ rfl rfl (by kernel_rfl) (by kernel_rfl) ?_
 simp only[List.take_succ_cons,List.take_zero,List.drop_succ_cons,List.drop_zero]
 repeat still_step
 refine wpStill_nil ?_
 unfold Oper.wp
 go_simp
 refine (putF_calls (W.drewN 1) ho.low g ho.pl ho.w (cap-ho.pl) n 5 cur HG1.out h3 hcs hn).mono ?_
 rintro e w2 ⟨rfl,hput⟩
 have HP:=hide' (HM.out.put (w1:=W.drewN 1) ho n g cap cur HBv.out ⟨HBel.out.os,HBel.out.tape,HBel.out.output,HBel.out.size,HBel.out.block⟩ HG1.out hput h1)
 have HKp:Hid (∀ k,k<w.heap.size→some k≠bv.ownBlock→w2.heap[k]? = w.heap[k]?):=by
  have:∀ k,k<w.heap.size→some k≠bv.ownBlock→w2.heap[k]? = w.heap[k]? := fun k hk hne2=>by
   rw[hput.same.block k (fun e=>hne2 (by rw[HBv.out,e];rfl))]
   exact HBel.out.block k hk
  exact this
 clear hput
 simp only
 refine wpStill_nil ?_
 go_wp2_with fail
 go_end0
 exact ⟨rfl,HP.out.1,HP.out.2,HKp.out⟩
theorem WrM.wider {c:Cx}{B:Nat}{w w1:World}{wb:Nat}{bv tv sv:Value}{svs:List Value}{hbs:List Nat}{st:Wr}(h:WrM c B w wb bv tv sv svs hbs st)(b:Bool)(hb1:Below w.heap.size w w1):
 WrM c B (w1.setCell ⟨wb,47,none⟩ (.bool b)) wb bv tv sv svs hbs { st with wide:=b }∧Below B w (w1.setCell ⟨wb,47,none⟩ (.bool b)):=by
 have hwb:=h.ge wb List.mem_cons_self
 have hbel:Below B w (w1.setCell ⟨wb,47,none⟩ (.bool b)):=⟨hb1.os,hb1.tape,hb1.output,by have:=hb1.size;simp[World.setCell];omega,fun k hk=>by rw[Below.heap_setCell _ _ _ _ (by simp only;omega)];exact hb1.block k (by omega)⟩
 have hblk1:Blk w1 wb (wrC c.gb bv st.wide tv sv) 120:=by have:=h.blk;unfold Blk at *;rw[hb1.block wb hwb.2];exact this
 refine ⟨?_,hbel⟩
 have hk:∀ q,q<w.heap.size→q≠wb→(w1.setCell ⟨wb,47,none⟩ (.bool b)).heap[q]? = w.heap[q]? := fun q h1 h2=>by rw[Below.heap_setCell _ _ _ _ h2];exact hb1.block q h1
 refine WrM.next (bv':=bv) (wide:=b) (out:=st.out) h hbel (fun q hm=>?_) (by have:=hblk1.set 47 (.bool b);rw[wrC_wide] at this;exact this) (ownsRow_blocks h.out fun q e=>?_) h.nb
 · exact hk q (h.ge q (List.mem_cons_of_mem _ hm)).2 (fun e=>by have:=h.nd;rw[List.nodup_cons] at this;exact this.1 (e▸hm))
 · exact hk q (h.out.lt q e).2 (fun e2=>h.nb q e (e2▸List.mem_cons_self))
def KOk (k:List It):Prop:=k.length≤1000∧∀ x∈k,kW x.c=true→1≤x.w.toNat∧x.w.toNat≤4
theorem KOk.sub {k l:List It}(h:KOk l)(hs:k.Sublist l):KOk k:=⟨Nat.le_trans hs.length_le h.1,fun x hx=>h.2 x (hs.subset hx)⟩
theorem KOk.tail {x:It}{r:List It}(h:KOk (x::r)):KOk r:=h.sub (List.sublist_cons_self x r)
theorem hides_kW {c:Int}(h:hidesB c=true):kW c=true:=by
 simp only[hidesB,Bool.or_eq_true,beq_iff_eq] at h
 rcases h with rfl | rfl<;>rfl
theorem segs_all (f:Nat):∀ l:List It,l.length≤f→(segs f l).flatten=l:=by
 induction f with
 | zero=>intro l h;cases l with
  | nil=>rfl
  | cons x r=>simp at h
 | succ f ih=>intro l h;cases l with
  | nil=>rfl
  | cons x r=>
   simp only[segs,List.flatten_cons]
   rw[ih _ (by simp at h ⊢;omega),List.cons_append,List.take_append_drop]
theorem TrW.widths {R:Nat→Bool}:∀ (f:Nat) (own ctx:Bool) (k:List It),TWf R f own ctx k→∀ x∈k,kW x.c=true→1≤x.w.toNat∧x.w.toNat≤4
 | 0,_,_,_,h,_,_,_=>h.elim
 | _+1,_,_,[],h,_,_,_=>h.elim
 | f+1,own,ctx,y::r,h,x,hx,hw=>by
  obtain ⟨h1,_,_,_,_,_,h7⟩:=h
  rcases List.mem_cons.1 hx with rfl | hx
  · have:=h1.w hw;omega
  · rw[← segs_all r.length r (Nat.le_refl _)] at hx
    obtain ⟨k,hk,hxk⟩:=List.mem_flatten.1 hx
    exact TrW.widths f _ _ k (h7 k hk) x hxk hw
theorem TrW.kok {R:Nat→Bool}{own ctx:Bool}{k:List It}(h:TrW R own ctx k)(hl:k.length≤1000):KOk k:=⟨hl,by obtain ⟨f,h⟩:=h;exact TrW.widths f own ctx k h⟩
theorem segs_le (f:Nat):∀ l:List It,(segs f l).length≤f:=by
 induction f with
 | zero=>intro l;simp[segs]
 | succ f ih=>intro l;cases l with
  | nil=>simp[segs]
  | cons x r=>simp only[segs,List.length_cons];exact Nat.succ_le_succ (ih _)
theorem segs_subl (f:Nat):∀ l k:List It,k∈segs f l→k.Sublist l:=by
 induction f with
 | zero=>intro l k h;simp[segs] at h
 | succ f ih=>intro l k h;cases l with
  | nil=>simp[segs] at h
  | cons x r=>
   simp only[segs,List.mem_cons] at h
   rcases h with rfl | h
   · exact (List.take_sublist _ _).cons_cons x
   · exact ((ih _ _ h).trans (List.drop_sublist _ _)).cons x
structure WInv (st:Wr):Prop where
 hole:∀ (i:Nat) (f:Nat→Option Ho) (d:Nat) (ho:Ho),st.hol[i]? = some f→f d=some ho→HoOk ho st.out.length
 sums:st.sums≠[]
structure WUp (N g:Nat) (st st':Wr):Prop where
 inv:WInv st'
 ge:st.out.length≤st'.out.length
 le:st'.out.length≤st.out.length+g
 hol:∀ i,i<N→st'.hol[i]? = st.hol[i]?
 holL:st.hol.length≤st'.hol.length
 sums:st'.sums.length=st.sums.length
 sum:(st'.sums.getLastD []).length≤(st.sums.getLastD []).length+g
 wait:st'.wait.length≤st.wait.length+g
 set:∀ (i:Nat) (f:Nat→Option Ho) (d:Nat) (ho:Ho),st.hol[i]? = some f→f d=some ho→∃ f' ho',st'.hol[i]? = some f'∧f' d=some ho'
theorem WUp.refl {N:Nat}{st:Wr}(h:WInv st):WUp N 0 st st:=⟨h,Nat.le_refl _,Nat.le_refl _,fun _ _=>rfl,Nat.le_refl _,rfl,Nat.le_refl _,Nat.le_refl _,fun _ f _ ho a b=>⟨f,ho,a,b⟩⟩
theorem WUp.trans {N g g':Nat}{a b c:Wr}(h:WUp N g a b)(h':WUp N g' b c):WUp N (g+g') a c:=
 ⟨h'.inv,Nat.le_trans h.ge h'.ge,by have:=h.le;have:=h'.le;omega,fun i hi=>(h'.hol i hi).trans (h.hol i hi),Nat.le_trans h.holL h'.holL,h'.sums.trans h.sums,by have:=h.sum;have:=h'.sum;omega,by have:=h.wait;have:=h'.wait;omega,fun i f d ho a b=>by
  obtain ⟨f',ho',a',b'⟩:=h.set i f d ho a b
  exact h'.set i f' d ho' a' b'⟩
theorem WUp.mono {N N' g g':Nat}{a b:Wr}(h:WUp N g a b)(hN:N'≤N)(hg:g≤g'):WUp N' g' a b:=
 ⟨h.inv,h.ge,by have:=h.le;omega,fun i hi=>h.hol i (by omega),h.holL,h.sums,by have:=h.sum;omega,by have:=h.wait;omega,h.set⟩
theorem HoOk.more {h:Ho}{n m:Nat}(a:HoOk h n)(b:n≤m):HoOk h m:=⟨Nat.le_trans a.lt b,a.pos,a.le⟩
theorem holeOf_le {st:Wr}(h:WInv st)(hid:Option Nat)(d:Nat):(holeOf st hid d).pl+(holeOf st hid d).w≤st.out.length:=by
 unfold holeOf
 cases hid with
 | none=>simp[ho0]
 | some i=>
  simp only
  cases hf:st.hol[i]? with
  | none=>simp[List.getD_eq_getElem?_getD,hf,ho0]
  | some f=>
   simp only[List.getD_eq_getElem?_getD,hf,Option.getD_some]
   cases hd:f d with
   | none=>simp[ho0]
   | some ho=>exact (h.hole i f d ho hf hd).lt
theorem wOut_up {N:Nat}{st:Wr}(h:WInv st)(l:List UInt8):WUp N l.length st (wOut st l):=
 ⟨⟨fun i f d ho a b=>(h.hole i f d ho a b).more (by simp[wOut]),h.sums⟩,by simp[wOut],by simp[wOut],fun _ _=>rfl,Nat.le_refl _,rfl,by simp[wOut],by simp[wOut],fun _ f _ ho a b=>⟨f,ho,a,b⟩⟩
theorem wTell_len {st:Wr}(ho:Ho)(n:Nat)(hl:ho.pl+ho.w≤st.out.length):(wTell st ho n).out.length=st.out.length:=putAt_length _ _ _ hl
theorem wTell_up {N:Nat}{st:Wr}(h:WInv st)(ho:Ho)(n:Nat)(hl:ho.pl+ho.w≤st.out.length):WUp N 0 st (wTell st ho n):=by
 have e:=wTell_len (st:=st) ho n hl
 exact ⟨⟨fun i f d k a b=>(h.hole i f d k a b).more (Nat.le_of_eq e.symm),h.sums⟩,by omega,by omega,fun _ _=>rfl,Nat.le_refl _,rfl,Nat.le_refl _,Nat.le_refl _,fun _ f _ ho a b=>⟨f,ho,a,b⟩⟩
theorem wSum_up {N:Nat}{st:Wr}(h:WInv st)(s:Sp):WUp N 1 st (wSum st s):=by
 refine ⟨⟨h.hole,by simp[wSum]⟩,Nat.le_refl _,by simp[wSum],fun _ _=>rfl,Nat.le_refl _,?_,?_,by simp[wSum],fun _ f _ ho a b=>⟨f,ho,a,b⟩⟩
 · have:0<st.sums.length:=List.length_pos_iff.2 h.sums
   simp only[wSum,List.length_append,List.length_dropLast,List.length_singleton];omega
 · simp[wSum,List.getLastD_eq_getLast?]
theorem wWait_up {N:Nat}{st:Wr}(h:WInv st)(e:Wt):WUp N 1 st (wWait st e):=
 ⟨⟨h.hole,h.sums⟩,Nat.le_refl _,by simp[wWait],fun _ _=>rfl,Nat.le_refl _,rfl,by simp[wWait],by simp[wWait],fun _ f _ ho a b=>⟨f,ho,a,b⟩⟩
theorem wSil_up {k:List It}{i:Nat}{st:Wr}(h:WInv st)(hk:KOk k)(hs:silV k=true):WUp i 8 st (wSil k i st):=by
 cases k with
 | nil=>cases hs
 | cons x r=>
  unfold wSil
  simp only
  by_cases h39:x.c=39
  · rw[if_pos h39]
    exact (wOut_up h _).mono (Nat.le_refl _) (by simp)
  · rw[if_neg h39]
    have hh:hidesB x.c=true:=by simpa[silV,h39] using hs
    obtain ⟨w1,w2⟩:=hk.2 x List.mem_cons_self (hides_kW hh)
    refine ⟨⟨fun j f d ho a b=>?_,h.sums⟩,by simp[wOut,wHide],by simp[wOut,wHide];omega,fun j hj=>?_,by simp[wOut,wHide],rfl,by simp[wOut,wHide],by simp[wOut,wHide],fun j f d ho a b=>?_⟩
    · simp only[wOut,wHide,List.length_append,List.length_replicate] at a ⊢
      rw[List.getElem?_modify] at a
      cases hf:st.hol[j]? with
      | none=>rw[hf] at a;cases a
      | some f0=>
       rw[hf] at a
       have a':=Option.some.inj a
       dsimp only at a'
       by_cases hij:i=j
       · rw[if_pos hij] at a'
         subst a'
         dsimp only at b
         by_cases hd:d=x.d.toNat
         · rw[if_pos hd] at b
           cases b
           exact ⟨Nat.le_refl _,w1,w2⟩
         · rw[if_neg hd] at b
           exact (h.hole j f0 d ho hf b).more (by omega)
       · rw[if_neg hij] at a'
         subst a'
         exact (h.hole j f0 d ho hf b).more (by omega)
    · simp only[wOut,wHide]
      rw[List.getElem?_modify]
      cases hf:st.hol[j]? with
      | none=>rfl
      | some f0=>
       show some _=some _
       dsimp only
       rw[if_neg (by omega)]
    · simp only[wOut,wHide]
      rw[List.getElem?_modify,a]
      by_cases hij:i=j
      · by_cases hd:d=x.d.toNat
        · exact ⟨_,⟨st.out.length,x.w.toNat,decide (x.c=107)⟩,rfl,by dsimp only;rw[if_pos hij,if_pos hd]⟩
        · exact ⟨_,ho,rfl,by dsimp only;rw[if_pos hij,if_neg hd];exact b⟩
      · exact ⟨_,ho,rfl,by dsimp only;rw[if_neg hij];exact b⟩
def WOk {T:Type}(s:T→Nat)(W:List It→Option Nat→T→Wr→Wr):Prop:=∀ k hid y st,KOk k→WInv st→WUp st.hol.length (10000*s y) st (W k hid y st)
theorem wKids_up {T:Type}{s:T→Nat}{W:List It→Option Nat→T→Wr→Wr}(hW:WOk s W)(i:Nat):∀ (ks:List (List It)) (vs:List T) (st:Wr),(∀ k∈ks,KOk k)→WInv st→i≤st.hol.length→
 WUp i (8*ks.length+10000*(vs.map s).sum) st (wKids W i ks vs st)
 | [],vs,st,_,h,_=>(WUp.refl h).mono (Nat.le_refl _) (Nat.zero_le _)
 | k::ks,vs,st,hk,h,hi=>by
  unfold wKids
  by_cases hs:silV k=true
  · rw[if_pos hs]
    have a:=wSil_up (i:=i) h (hk k List.mem_cons_self) hs
    have b:=wKids_up hW i ks vs _ (fun k h=>hk k (List.mem_cons_of_mem _ h)) a.inv (Nat.le_trans hi a.holL)
    exact (a.trans b).mono (Nat.le_refl _) (by simp only[List.length_cons];omega)
  · rw[if_neg hs]
    cases vs with
    | nil=>exact (WUp.refl h).mono (Nat.le_refl _) (Nat.zero_le _)
    | cons y ys=>
     have a:=(hW k (some i) y st (hk k List.mem_cons_self) h).mono hi (Nat.le_refl _)
     have b:=wKids_up hW i ks ys _ (fun k h=>hk k (List.mem_cons_of_mem _ h)) a.inv (Nat.le_trans hi a.holL)
     exact (a.trans b).mono (Nat.le_refl _) (by simp only[List.length_cons,List.map_cons,List.sum_cons];omega)
theorem wMany_up {T:Type}{s:T→Nat}{W:List It→Option Nat→T→Wr→Wr}(hW:WOk s W)(k:List It)(hk:KOk k)(N:Nat):∀ (vs:List T) (st:Wr),WInv st→N≤st.hol.length→
 WUp N (10000*(vs.map s).sum) st (wMany W k vs st)
 | [],st,h,_=>(WUp.refl h).mono (Nat.le_refl _) (Nat.zero_le _)
 | y::ys,st,h,hN=>by
  have a:=(hW k none y st hk h).mono hN (Nat.le_refl _)
  have b:=wMany_up hW k hk N ys _ a.inv (Nat.le_trans hN a.holL)
  exact (a.trans b).mono (Nat.le_refl _) (by simp only[List.map_cons,List.sum_cons];omega)
theorem wTop_up {T:Type}{s:T→Nat}{W:List It→Option Nat→T→Wr→Wr}(hW:WOk s W)(k:List It)(hid:Option Nat)(v:Nd T)(st:Wr)(hk:KOk k)(h:WInv st):
 WUp st.hol.length (8008+v.run.length+10000*(v.kids.map s).sum) st (wTop W k hid v st):=by
 unfold wTop
 cases k with
 | nil=>exact (WUp.refl h).mono (Nat.le_refl _) (Nat.zero_le _)
 | cons x r=>
  have hw:=hk.2 x List.mem_cons_self
  have hr:=hk.tail
  have hseg:∀ k∈segs r.length r,KOk k:=fun k hm=>hr.sub (segs_subl _ _ _ hm)
  simp only
  split
  · rename_i hc
    have:=hw (by rw[hc];rfl)
    exact (wOut_up h _).mono (Nat.le_refl _) (by rw[numB_length];omega)
  split
  · rename_i hc
    have:=hw (by rw[hc];rfl)
    exact (wOut_up h _).mono (Nat.le_refl _) (by rw[numB_length];omega)
  split
  · exact (wOut_up h _).mono (Nat.le_refl _) (by simp;omega)
  split
  · exact (wOut_up h _).mono (Nat.le_refl _) (by omega)
  split
  · have a:=wTell_up (N:=st.hol.length) h _ v.run.length (holeOf_le h hid x.d.toNat)
    exact (a.trans (wOut_up a.inv _)).mono (Nat.le_refl _) (by omega)
  split
  · have h2:WInv { st with hol:=st.hol++[fun _=>none] }:=⟨fun i f d ho a b=>by
     by_cases hi:i<st.hol.length
     · simp only[List.getElem?_append_left hi] at a
       exact h.hole i f d ho a b
     · simp only[List.getElem?_append_right (Nat.le_of_not_lt hi)] at a
       have h0:i-st.hol.length=0:=by
        have:=(List.getElem?_eq_some_iff.1 a).1
        simp at this;omega
       rw[h0] at a
       cases a
       exact absurd b (by simp),h.sums⟩
    have b:=wKids_up hW st.hol.length (segs r.length r) v.kids _ hseg h2 (by simp)
    have c:=segs_le r.length r
    have d:=hr.1
    refine (WUp.trans (g:=0) ?_ b).mono (Nat.le_refl _) (by omega)
    exact ⟨h2,Nat.le_refl _,Nat.le_refl _,fun i hi=>List.getElem?_append_left hi,by simp,rfl,Nat.le_refl _,Nat.le_refl _,fun i f d ho a b=>⟨f,ho,by rw[List.getElem?_append_left (List.getElem?_eq_some_iff.1 a).1];exact a,b⟩⟩
  split
  · cases hv:v.kids with
    | nil=>exact (WUp.refl h).mono (Nat.le_refl _) (Nat.zero_le _)
    | cons y ys=>
     have hK:KOk ((segs r.length r).getD v.n []):=by
      rw[List.getD_eq_getElem?_getD]
      cases hg:(segs r.length r)[v.n]? with
      | none=>exact ⟨by simp,by simp⟩
      | some k=>exact hseg k (List.mem_of_getElem? hg)
     exact (hW _ none y st hK h).mono (Nat.le_refl _) (by simp only[List.map_cons,List.sum_cons];omega)
  split
  · exact (wMany_up hW r hr st.hol.length v.kids st h (Nat.le_refl _)).mono (Nat.le_refl _) (by omega)
  split
  · have a:=wTell_up (N:=st.hol.length) h _ v.kids.length (holeOf_le h hid x.d.toNat)
    have b:=wMany_up hW r hr st.hol.length v.kids _ a.inv a.holL
    exact (a.trans b).mono (Nat.le_refl _) (by omega)
  · exact (WUp.refl h).mono (Nat.le_refl _) (Nat.zero_le _)
theorem ruleEnd_ok {G:Nat→List It}(hG:∀ i,KOk (G i)):∀ (n:Nat) (k q:List It),ruleEnd G n k=some q→KOk q
 | 0,_,_,e=>by cases e
 | _+1,[],_,e=>by cases e
 | n+1,x::r,q,e=>by
  unfold ruleEnd at e
  have hg:=hG x.r.toNat
  cases hk:G x.r.toNat with
  | nil=>rw[hk] at e;cases e
  | cons y z=>
   rw[hk] at e hg
   simp only at e
   split at e
   · exact ruleEnd_ok hG n _ q e
   · cases e;exact hg
theorem wIn_up {n:Nat}{s:Tr n→Nat}{G:Nat→List It}(hG:∀ i,KOk (G i)){W:List It→Option Nat→Tr n→Wr→Wr}(hW:WOk s W)(hid:Option Nat)(v:Nd (Tr n))(st:Wr)(h:WInv st):∀ k,KOk k→
 WUp st.hol.length (k.length+(8008+v.run.length+10000*(v.kids.map s).sum)) st (wIn G W k hid v st)
 | [],_=>(WUp.refl h).mono (Nat.le_refl _) (Nat.zero_le _)
 | x::r,hk=>by
  have ih:=wIn_up hG hW hid v st h r hk.tail
  unfold wIn
  split
  · exact (ih.trans (wTell_up ih.inv _ _ (holeOf_le ih.inv hid x.d.toNat))).mono (Nat.le_refl _) (by simp only[List.length_cons];omega)
  split
  · exact (ih.trans (wSum_up ih.inv _)).mono (Nat.le_refl _) (by simp only[List.length_cons];omega)
  split
  · exact (wWait_up h _).mono (Nat.le_refl _) (by simp only[List.length_cons];omega)
  split
  · split
    · exact (WUp.refl h).mono (Nat.le_refl _) (Nat.zero_le _)
    · rename_i q hq
      exact (wTop_up hW q none v st (ruleEnd_ok hG 8 _ q hq) h).mono (Nat.le_refl _) (by omega)
  · exact (wTop_up hW (x::r) hid v st hk h).mono (Nat.le_refl _) (by omega)
theorem writeT_up {G:Nat→List It}(hG:∀ i,KOk (G i)):∀ n,WOk (szT n) (writeT G n)
 | 0=>fun _ _ _ _ _ h=>(WUp.refl h).mono (Nat.le_refl _) (Nat.zero_le _)
 | n+1=>fun k hid y st hk h=>by
  have a:=wIn_up hG (writeT_up hG n) hid y st h k hk
  have b:=hk.1
  refine a.mono (Nat.le_refl _) ?_
  unfold szT
  omega
end Go.Proofs.YtmlkhhhjdpbhfaaGreatDoor

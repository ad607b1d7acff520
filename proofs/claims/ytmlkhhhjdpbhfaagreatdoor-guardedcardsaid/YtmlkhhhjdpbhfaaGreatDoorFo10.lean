import Derived.Test.YtmlkhhhjdpbhfaaGreatDoorFo09
namespace Go.Proofs.YtmlkhhhjdpbhfaaGreatDoor
open Go.RowKit
def ruleR (s:ByteArray)(top:Int)(a:Nat):Res:=
 if ¬ (65≤bt s a∧bt s a≤top) then ⟨false,a,[]⟩ else if bt s (a+1)≠61 then ⟨false,a+1,[]⟩ else prs s (bt s a-65) (s.size+1) (a+2)
def RulePost (s:ByteArray)(rb:Nat)(w:World)(a:Nat)(r:Res)(e:Ending)(w':World):Prop:=
 ∃ (n pl:Int) (o:Option Addr),e=.returned (.tuple #[.agg #[.int .i64 n,.int .i64 pl,.pointer o],.bool r.ok])∧Rd w' rb s r.i∧Fr w.heap.size rb w w'∧
  (r.ok=true→n=bt s a-65∧pl=a∧∃ pb,o=some ⟨pb,0,none⟩∧RepS (s.size+1) w' w.heap.size w'.heap.size pb false r.its)
theorem rule_fin {s:ByteArray}{rb a R1:Nat}{w w1:World}{r:Res}(hR:w.heap.size=R1)(hr:Rd w1 rb s r.i)(hf:Fr R1 rb w w1)(hrb:rb<R1)(n pl:Int)(o:Option Addr)(hok:r.ok=true→n=bt s a-65∧pl=a∧∃ pb,o=some ⟨pb,0,none⟩∧RepS (s.size+1) w1 (R1+2) w1.heap.size pb false r.its){u0 u1 u2:Value}:
 RulePost s rb w a r (.returned (.tuple #[.agg #[.int .i64 n,.int .i64 pl,.pointer o],.bool r.ok])) (((w1.setCell ⟨R1,0,none⟩ u0).setCell ⟨R1,1,none⟩ u1).setCell ⟨R1,2,none⟩ u2):=by
 have keep:∀ k,k≠R1→(((w1.setCell ⟨R1,0,none⟩ u0).setCell ⟨R1,1,none⟩ u1).setCell ⟨R1,2,none⟩ u2).heap[k]? = w1.heap[k]? := by
  intro k hk
  rw[Below.heap_setCell _ _ _ _ hk,Below.heap_setCell _ _ _ _ hk,Below.heap_setCell _ _ _ _ hk]
 have hsz:(((w1.setCell ⟨R1,0,none⟩ u0).setCell ⟨R1,1,none⟩ u1).setCell ⟨R1,2,none⟩ u2).heap.size=w1.heap.size:=by simp[World.setCell]
 refine ⟨n,pl,o,rfl,?_,?_,fun h=>?_⟩
 · have h:=hr
   unfold Rd Blk at *
   rw[keep rb (by omega)];exact h
 · rw[hR]
   exact ((hf.setCell (Or.inr (Nat.le_refl _)) _).setCell (Or.inr (Nat.le_refl _)) _).setCell (Or.inr (Nat.le_refl _)) _
 · obtain ⟨h1,h2,pb,h3,h4⟩:=hok h
   exact ⟨h1,h2,pb,h3,h4.mono (fun k hk _=>keep k (by omega)) (by omega) (by rw[hsz];exact Nat.le_refl _)⟩
set_option maxRecDepth 100000 in
set_option maxHeartbeats 4000000 in
theorem rule_calls (s:ByteArray)(hs:s.size≤400)(w:World)(rb a:Nat)(top:Int)(hr:Rd w rb s a)(hS:Shp w)(h0:0<rb)(ha:a≤s.size)(ht:top≤72):
 Calls Tryz.prog 58 #[.pointer (some ⟨rb,0,none⟩),.int .u8 top] w fun e w'=>RulePost s rb w a (ruleR s top a) e w':=by
 have c1:w.cell? ⟨rb,1,none⟩=some (.int .i64 a):=hr.cell 1
 have c1a:∀ o,(w.alloc o).cell? ⟨rb,1,none⟩=some (.int .i64 a):=fun o=>(Blk.alloc hr o).cell 1
 have hrl:=hr.lt
 have HR:Hid (Rd w rb s a):=hr
 have HS:Hid (Shp w):=hS
 clear hr hS
 go_enter Tryz.func58,Tryz.ntmps58
 go_wp2_with fail
 have HA0:=Blk.new w #[.int .i64 0,.int .i64 0,.pointer none] 123
 have HB0:=Blk.new (w.alloc (.cells #[.int .i64 0,.int .i64 0,.pointer none] 123)) #[.int .i64 0,.int .i64 a,.pointer none] 123
 have HA1:=HA0.alloc (.cells #[.int .i64 0,.int .i64 a,.pointer none] 123)
 have HR1:=Blk.alloc (Blk.alloc HR.out (.cells #[.int .i64 0,.int .i64 0,.pointer none] 123)) (.cells #[.int .i64 0,.int .i64 a,.pointer none] 123)
 have HF1:=((Fr.refl w.heap.size rb w).alloc (Nat.le_refl _) (.cells #[.int .i64 0,.int .i64 0,.pointer none] 123)).alloc (by simp) (.cells #[.int .i64 0,.int .i64 a,.pointer none] 123)
 have hsW:((w.alloc (.cells #[.int .i64 0,.int .i64 0,.pointer none] 123)).alloc (.cells #[.int .i64 0,.int .i64 a,.pointer none] 123)).heap.size=w.heap.size+2:=by simp
 clear HA0 c1 c1a
 generalize hW:((w.alloc (.cells #[.int .i64 0,.int .i64 0,.pointer none] 123)).alloc (.cells #[.int .i64 0,.int .i64 a,.pointer none] 123))=W0 at *
 have HB1:Blk W0 (w.heap.size+1) #[.int .i64 0,.int .i64 a,.pointer none] 123:=by simpa using HB0
 clear hW HB0
 generalize hR2:w.heap.size+1=R2 at *
 generalize hR1:w.heap.size=R1 at *
 have h12:R2=R1+1:=hR2.symm
 have HR1e:=hide' hR1
 have hne12:¬ R1=R2:=by omega
 have hne21:¬ R2=R1:=by omega
 have HHA:=hide' HA1
 have HHB:=hide' HB1
 have HHF:=hide' HF1
 have HHR:Hid (Rd W0 rb s a):=HR1
 have H12:=hide' h12
 clear hR2 hR1 HA1 HB1 HF1 HR1 h12
 refine (take_calls W0 rb s a 65 top HHR.out hs ha (by omega)).mono ?_
 rintro e w1 ⟨hsm,⟨h1,rfl,h3⟩ | ⟨h1,rfl,h3⟩⟩
 rotate_left
 · have hno:¬ (65≤bt s a∧bt s a≤top):=by unfold takeOk at h1;simpa using h1
   have HRU:Hid (ruleR s top a=⟨false,a,[]⟩):=by
    have:ruleR s top a=⟨false,a,[]⟩:=by unfold ruleR;rw[if_pos hno]
    exact this
   have HA:=hide' (HHA.out.same hsm (by omega))
   have HB:=hide' (HHB.out.same hsm (by have:=H12.out;omega))
   have x0w1:w1.cell? ⟨R1,0,none⟩=some (.int .i64 0):=HA.out.cell 0
   have x1w1:w1.cell? ⟨R1,1,none⟩=some (.int .i64 0):=HA.out.cell 1
   have x2w1:w1.cell? ⟨R1,2,none⟩=some (.pointer none):=HA.out.cell 2
   have y0w1:w1.cell? ⟨R2,0,none⟩=some (.int .i64 0):=HB.out.cell 0
   have y1w1:w1.cell? ⟨R2,1,none⟩=some (.int .i64 a):=HB.out.cell 1
   have y2w1:w1.cell? ⟨R2,2,none⟩=some (.pointer none):=HB.out.cell 2
   have xf0w1:w1.frozen? ⟨R1,0,none⟩=false:=HA.out.frozen 0
   have xf1w1:w1.frozen? ⟨R1,1,none⟩=false:=HA.out.frozen 1
   have xf2w1:w1.frozen? ⟨R1,2,none⟩=false:=HA.out.frozen 2
   have yf0w1:w1.frozen? ⟨R2,0,none⟩=false:=HB.out.frozen 0
   have yf1w1:w1.frozen? ⟨R2,1,none⟩=false:=HB.out.frozen 1
   have yf2w1:w1.frozen? ⟨R2,2,none⟩=false:=HB.out.frozen 2
   have HF:=hide' (HHF.out.trans (hsm.fr _))
   clear h1 hno hsm
   simp only
   go_wp2_with fail
   refine bodyPost_ret (v:=.tuple #[.agg #[.int .i64 0,.int .i64 a,.pointer none],.bool false]) (by simp[results,Tryz.results58,go_sem, *]) rfl ?_
   rw[HRU.out]
   exact rule_fin (r:=⟨false,a,[]⟩) HR1e.out h3 HF.out (by omega) 0 a none (fun h=>by cases h)
 have hyes:65≤bt s a∧bt s a≤top:=by unfold takeOk at h1;simpa using h1
 have halt:=takeOk_lt s a 65 top h1 (by omega)
 have HY:=hide' hyes
 obtain ⟨hy1,hy2⟩:=hyes
 have HF:=hide' (HHF.out.trans (hsm.fr _))
 have hs1:=hsm.size
 have HA:=hide' (HHA.out.same hsm (by omega))
 have HB:=hide' (HHB.out.same hsm (by have:=H12.out;omega))
 clear h1 hsm
 simp only
 go_wp2_with fail
 refine (takeJust_calls w1 rb s (a+1) 61 h3 hs (by omega) (by omega)).mono ?_
 rintro e w2 ⟨hsm2,rfl,h4⟩
 have hs2:=hsm2.size
 have HF2:=hide' (HF.out.trans (hsm2.fr _))
 have HA:=hide' (HA.out.same hsm2 (by omega))
 have HB:=hide' (HB.out.same hsm2 (by have:=H12.out;omega))
 clear hsm2 HF
 cases hq:isAt s (a+1) 61
 · have hne:bt s (a+1)≠61:=by unfold isAt at hq;simpa using hq
   have HRU:Hid (ruleR s top a=⟨false,a+1,[]⟩):=by
    have:ruleR s top a=⟨false,a+1,[]⟩:=by unfold ruleR;rw[if_neg (by simpa using HY.out),if_pos hne]
    exact this
   have h5:Rd w2 rb s (a+1):=by unfold adv at h4;rwa [if_neg hne] at h4
   have x0w2:w2.cell? ⟨R1,0,none⟩=some (.int .i64 0):=HA.out.cell 0
   have x1w2:w2.cell? ⟨R1,1,none⟩=some (.int .i64 0):=HA.out.cell 1
   have x2w2:w2.cell? ⟨R1,2,none⟩=some (.pointer none):=HA.out.cell 2
   have y0w2:w2.cell? ⟨R2,0,none⟩=some (.int .i64 0):=HB.out.cell 0
   have y1w2:w2.cell? ⟨R2,1,none⟩=some (.int .i64 a):=HB.out.cell 1
   have y2w2:w2.cell? ⟨R2,2,none⟩=some (.pointer none):=HB.out.cell 2
   have xf0w2:w2.frozen? ⟨R1,0,none⟩=false:=HA.out.frozen 0
   have xf1w2:w2.frozen? ⟨R1,1,none⟩=false:=HA.out.frozen 1
   have xf2w2:w2.frozen? ⟨R1,2,none⟩=false:=HA.out.frozen 2
   have yf0w2:w2.frozen? ⟨R2,0,none⟩=false:=HB.out.frozen 0
   have yf1w2:w2.frozen? ⟨R2,1,none⟩=false:=HB.out.frozen 1
   have yf2w2:w2.frozen? ⟨R2,2,none⟩=false:=HB.out.frozen 2
   clear h4 hne
   simp only
   go_wp2_with fail
   refine bodyPost_ret (v:=.tuple #[.agg #[.int .i64 0,.int .i64 a,.pointer none],.bool false]) (by simp[results,Tryz.results58,go_sem, *]) rfl ?_
   rw[HRU.out]
   exact rule_fin (r:=⟨false,a+1,[]⟩) HR1e.out h5 HF2.out (by omega) 0 a none (fun h=>by cases h)
 have heq:bt s (a+1)=61:=by unfold isAt at hq;simpa using hq
 have halt2:=bt_pos_lt s (a+1) (by omega)
 have HRU:Hid (ruleR s top a=prs s (bt s a-65) (s.size+1) (a+2)):=by
  have:ruleR s top a=prs s (bt s a-65) (s.size+1) (a+2):=by unfold ruleR;rw[if_neg (by simpa using HY.out),if_neg (by simpa using heq)]
  exact this
 have h5:Rd w2 rb s (a+2):=by unfold adv at h4;rwa [if_pos heq] at h4
 have H5:Hid (Rd w2 rb s (a+2)):=h5
 have x0w2:w2.cell? ⟨R1,0,none⟩=some (.int .i64 0):=HA.out.cell 0
 have x1w2:w2.cell? ⟨R1,1,none⟩=some (.int .i64 0):=HA.out.cell 1
 have x2w2:w2.cell? ⟨R1,2,none⟩=some (.pointer none):=HA.out.cell 2
 have y0w2:w2.cell? ⟨R2,0,none⟩=some (.int .i64 0):=HB.out.cell 0
 have y1w2:w2.cell? ⟨R2,1,none⟩=some (.int .i64 a):=HB.out.cell 1
 have y2w2:w2.cell? ⟨R2,2,none⟩=some (.pointer none):=HB.out.cell 2
 have xf0w2:w2.frozen? ⟨R1,0,none⟩=false:=HA.out.frozen 0
 have xf1w2:w2.frozen? ⟨R1,1,none⟩=false:=HA.out.frozen 1
 have xf2w2:w2.frozen? ⟨R1,2,none⟩=false:=HA.out.frozen 2
 have yf0w2:w2.frozen? ⟨R2,0,none⟩=false:=HB.out.frozen 0
 have yf1w2:w2.frozen? ⟨R2,1,none⟩=false:=HB.out.frozen 1
 have yf2w2:w2.frozen? ⟨R2,2,none⟩=false:=HB.out.frozen 2
 clear h4 h5 heq
 simp only
 go_wp2_with fail
 have HR4:Hid (Rd (w2.setCell ⟨R2,0,none⟩ (.int .i64 (bt s a-65))) rb s (a+2)):=Rd.other H5.out _ (by simp;have:=H12.out;omega) _
 have HF4:=hide' (HF2.out.setCell (p:=⟨R2,0,none⟩) (Or.inr (by simp;have:=H12.out;omega)) (.int .i64 (bt s a-65)))
 have HA:=hide' (HA.out.setOther ⟨R2,0,none⟩ (by simp;have:=H12.out;omega) (.int .i64 (bt s a-65)))
 have HB:Hid (Blk (w2.setCell ⟨R2,0,none⟩ (.int .i64 (bt s a-65))) R2 #[.int .i64 (bt s a-65),.int .i64 a,.pointer none] 123):=HB.out.set 0 _
 have hs4:(w2.setCell ⟨R2,0,none⟩ (.int .i64 (bt s a-65))).heap.size=R1+2:=by simp[World.setCell];omega
 clear x0w2 x1w2 x2w2 y0w2 y1w2 y2w2 xf0w2 xf1w2 xf2w2 yf0w2 yf1w2 yf2w2
 generalize w2.setCell ⟨R2,0,none⟩ (.int .i64 (bt s a-65))=w4 at *
 have HS4:Hid (Shp w4):=HS.out.fr HF4.out h0 (by omega)
 refine (part_allS s (bt s a-65) hs (s.size+1) w4 rb (a+2) HR4.out HS4.out h0 (by omega) (by omega)).mono ?_
 rintro e w5 ⟨o,rfl,d1,d2,d3⟩
 have hs5:=d2.size
 have HA:=hide' (show Blk w5 R1 _ _ from by have h:=HA.out;unfold Blk at *;rw[d2.block R1 (by omega) (by omega)];exact h)
 have HB:=hide' (show Blk w5 R2 _ _ from by have h:=HB.out;unfold Blk at *;rw[d2.block R2 (by have:=H12.out;omega) (by have:=H12.out;omega)];exact h)
 have x0w5:w5.cell? ⟨R1,0,none⟩=some (.int .i64 0):=HA.out.cell 0
 have x1w5:w5.cell? ⟨R1,1,none⟩=some (.int .i64 0):=HA.out.cell 1
 have x2w5:w5.cell? ⟨R1,2,none⟩=some (.pointer none):=HA.out.cell 2
 have y0w5:w5.cell? ⟨R2,0,none⟩=some (.int .i64 (bt s a-65)):=HB.out.cell 0
 have y1w5:w5.cell? ⟨R2,1,none⟩=some (.int .i64 a):=HB.out.cell 1
 have y2w5:w5.cell? ⟨R2,2,none⟩=some (.pointer none):=HB.out.cell 2
 have xf0w5:w5.frozen? ⟨R1,0,none⟩=false:=HA.out.frozen 0
 have xf1w5:w5.frozen? ⟨R1,1,none⟩=false:=HA.out.frozen 1
 have xf2w5:w5.frozen? ⟨R1,2,none⟩=false:=HA.out.frozen 2
 have yf0w5:w5.frozen? ⟨R2,0,none⟩=false:=HB.out.frozen 0
 have yf1w5:w5.frozen? ⟨R2,1,none⟩=false:=HB.out.frozen 1
 have yf2w5:w5.frozen? ⟨R2,2,none⟩=false:=HB.out.frozen 2
 have HD1:=hide' d1
 have HF5:=hide' (HF4.out.trans (d2.less (by omega)))
 have HD3:=hide' d3
 clear d1 d2 d3
 generalize hp:prs s (bt s a-65) (s.size+1) (a+2)=r at *
 have HPr:=hide' hp
 clear hp
 simp only
 go_wp2_with fail
 refine bodyPost_ret (v:=.tuple #[.agg #[.int .i64 (bt s a-65),.int .i64 a,.pointer o],.bool r.ok]) (by simp[results,Tryz.results58,go_sem, *]) rfl ?_
 rw[HRU.out]
 refine rule_fin HR1e.out (Rd.other HD1.out ⟨R2,2,none⟩ (by simp;have:=H12.out;omega) _) (HF5.out.setCell (p:=⟨R2,2,none⟩) (Or.inr (by simp;have:=H12.out;omega)) _) (by omega) _ _ o (fun h=>?_)
 obtain ⟨pb,h1,h2⟩:=HD3.out h
 refine ⟨rfl,rfl,pb,h1,h2.mono (fun k hk _=>Below.heap_setCell _ _ _ _ (by simp;have:=H12.out;omega)) (by omega) (by simp[World.setCell])⟩
theorem Tryz.infoRule:(Tryz.prog.info? 123).map (fun i=>(i.zero,i.size,i.bytes))=some (some (.agg #[.int .i64 0,.int .i64 0,.pointer none]),3,24):=by kernel_rfl
def rcells (l:List (Rl × Nat)):List Value:=l.flatMap fun x=>[.int .i64 x.1.r,.int .i64 x.1.pl,.pointer (some ⟨x.2,0,none⟩)]
theorem rcells_get (l:List (Rl × Nat))(j q:Nat)(hq:q<3):(rcells l)[j*3+q]? = (l[j]?).bind fun x=>([.int .i64 x.1.r,.int .i64 x.1.pl,.pointer (some ⟨x.2,0,none⟩)]:List Value)[q]? := by
 induction l generalizing j with
 | nil=>simp[rcells]
 | cons x r ih=>
  have e:rcells (x::r)=[.int .i64 x.1.r,.int .i64 x.1.pl,.pointer (some ⟨x.2,0,none⟩)]++rcells r:=rfl
  rw[e]
  cases j with
  | zero=>
   rw[List.getElem?_append_left (by simp;omega)]
   simp
  | succ j=>
   rw[List.getElem?_append_right (by simp;omega)]
   simp only[List.length_cons,List.length_nil,List.getElem?_cons_succ]
   rw[show (j+1)*3+q-(0+1+1+1)=j*3+q by omega,ih]
structure RMk (s:ByteArray) (B:Nat) (w:World) (v:Value) (l:List (Rl × Nat)):Prop where
 row:w.ownsRow B 123 3 v l.length (rcells l)
 ok:∀ q,q∈l→∃ lo hi,B≤lo∧hi≤w.heap.size∧(∀ g,v.ownBlock=some g→g<lo∨hi≤g)∧RepS (s.size+1) w lo hi q.2 false q.1.its
theorem RMk.fr {s:ByteArray}{B rb:Nat}{w w':World}{v:Value}{l:List (Rl × Nat)}(h:RMk s B w v l)(hf:Fr w.heap.size rb w w')(hr:rb<B):RMk s B w' v l:=by
 refine ⟨?_,?_⟩
 · refine h.row.kept (row:=some rb) ⟨hf.os,hf.tape,hf.output,hf.size,fun k hk hne=>hf.block k hk (by intro e;exact hne (by rw[e]))⟩ ?_
   cases hv:v.ownBlock with
   | none=>exact Or.inl rfl
   | some g=>exact Or.inr (by have:=(h.row.lt g hv).1;intro e;cases e;omega)
 · intro q hq
   obtain ⟨lo,hi,a,b,c,d⟩:=h.ok q hq
   exact ⟨lo,hi,a,by have:=hf.size;omega,c,d.mono (fun k h1 h2=>hf.block k (by omega) (by omega)) (Nat.le_refl _) (Nat.le_refl _)⟩
theorem RMk.push {s:ByteArray}{B:Nat}{w w1 w2:World}{v:Value}{l:List (Rl × Nat)}{x:Rl}{pb g cap:Nat}{ob1 ob2:Obj}(h0:RMk s B w v l)(h1:RMk s B w1 v l)(hB:B≤w.heap.size)(_hsz:w.heap.size≤w1.heap.size)(hrep:RepS (s.size+1) w1 w.heap.size w1.heap.size pb false x.its)(hown:w2.ownsRow B 123 3 (.slice (some ⟨g,0,none⟩) (l.length+1) cap) (l.length+1) (rcells l++[.int .i64 x.r,.int .i64 x.pl,.pointer (some ⟨pb,0,none⟩)]))(hgrow:((w1.alloc ob1).alloc ob2).grownBy w2 v.ownBlock)(hat:v.ownBlock=some g∨g=w1.heap.size+2):RMk s B w2 (.slice (some ⟨g,0,none⟩) (l.length+1) cap) (l++[(x,pb)]):=by
 have hs2:=hgrow.size
 simp at hs2
 have keep:∀ k,k<w1.heap.size→some k≠v.ownBlock→w2.heap[k]? = w1.heap[k]? := by
  intro k hk h2
  rw[hgrow.block k (by simp;omega) h2,Below.heap_alloc _ _ _ (by simp;omega),Below.heap_alloc _ _ _ hk]
 refine ⟨by simpa[rcells] using hown,fun z hz=>?_⟩
 rcases List.mem_append.1 hz with hz | hz
 · obtain ⟨lo,hi,a,b,c,d⟩:=h1.ok z hz
   refine ⟨lo,hi,a,by omega,fun g' e=>?_,d.mono (fun k k1 k2=>keep k (by omega) (fun e=>?_)) (Nat.le_refl _) (Nat.le_refl _)⟩
   · simp[Value.ownBlock] at e
     subst e
     rcases hat with h | h
     · exact c g h
     · right;omega
   · rcases c k e.symm with h | h<;>omega
 · simp at hz
   subst hz
   refine ⟨w.heap.size,w1.heap.size,hB,by omega,fun g' e=>?_,hrep.mono (fun k k1 k2=>keep k (by omega) (fun e=>?_)) (Nat.le_refl _) (Nat.le_refl _)⟩
   · simp[Value.ownBlock] at e
     subst e
     rcases hat with h | h
     · left;exact (h0.row.lt g h).2
     · right;omega
   · have:=(h0.row.lt k e.symm).2;omega
theorem rules_fail (s:ByteArray)(k:Nat)(top:Int)(a:Nat)(rls:List Rl)(h:(ruleR s top a).ok=false):(rulesV s (k+1) top a).pre rls=⟨false,(ruleR s top a).i,rls⟩:=by
 unfold ruleR at h ⊢
 split
 · rename_i h1;exact rules_fail1 s k top a rls h1
 · rename_i h1
   rw[if_neg h1] at h
   have h1':65≤bt s a∧bt s a≤top:=by simpa using h1
   split
   · rename_i h2;exact rules_fail2 s k top a rls h1' h2
   · rename_i h2
     rw[if_neg h2] at h
     exact rules_fail3 s k top a rls h1' (by simpa using h2) h
theorem ruleR_ok (s:ByteArray)(top:Int)(a:Nat)(h:(ruleR s top a).ok=true):(65≤bt s a∧bt s a≤top)∧bt s (a+1)=61∧ruleR s top a=prs s (bt s a-65) (s.size+1) (a+2):=by
 unfold ruleR at h ⊢
 split
 · rename_i h1;rw[if_pos h1] at h;cases h
 · rename_i h1
   rw[if_neg h1] at h
   split
   · rename_i h2;rw[if_pos h2] at h;cases h
   · rename_i h2
     exact ⟨by simpa using h1,by simpa using h2,rfl⟩
structure AtR (s:ByteArray) (rb:Nat) (w:World) (n a:Nat) (top:Int) (l:List (Rl × Nat)) (v:Value) (wr:World):Prop where
 rd:Rd wr rb s a
 made:RMk s w.heap.size wr v l
 fr:Fr w.heap.size rb w wr
 hn:n<8
 hl:l.length=n
 ha:a≤s.size
 ht:top≤72
 eq:EqR (formV s) ((rulesV s (8-n) top a).pre (l.map Prod.fst))
def RulesPost (s:ByteArray)(rb:Nat)(w:World)(e:Ending)(w':World):Prop:=
 ∃ v,e=.returned (.tuple #[v,.bool (formV s).ok])∧Fr w.heap.size rb w w'∧((formV s).ok=false→Rd w' rb s (formV s).i)∧
  ((formV s).ok=true→∃ l,l.map Prod.fst=(formV s).rls∧RMk s w.heap.size w' v l)
set_option maxRecDepth 100000 in
set_option maxHeartbeats 4000000 in
theorem rules_calls (s:ByteArray)(hs:s.size≤400)(w:World)(rb:Nat)(hr:Rd w rb s 0)(hS:Shp w)(h0:0<rb):
 Calls Tryz.prog 37 #[.pointer (some ⟨rb,0,none⟩)] w fun e w'=>RulesPost s rb w e w':=by
 obtain ⟨i0,hi0,hz0,hz1,hz2⟩:=info_parts Tryz.infoRule
 have hrl:=hr.lt
 have HS:Hid (Shp w):=hS
 have HST:Hid (AtR s rb w 0 0 65 [] (.slice none 0 0) w):=
  ⟨hr,⟨World.ownsRow_nil _ _ _ _,fun q hq=>by simp at hq⟩,Fr.refl _ _ _,by omega,rfl,by omega,by omega,⟨rfl,rfl,fun _=>by simp[RRes.pre,formV]⟩⟩
 clear hr hS
 go_enter Tryz.func37,Tryz.ntmps37
 go_wp2_with fail
 go_loopw [4,5] (fun vv vt wr=>∃ (n a:Nat) (top:Int) (l:List (Rl × Nat)) (v:Value),vt=.int .u8 top∧v=vv∧Hid (AtR s rb w n a top l v wr)) (fun _ _ wr=>s.size+1-rdPl wr rb)
 case atStart=>exact ⟨0,0,65,[],_,rfl,rfl,HST⟩
 case round=>
  clear HST
  obtain ⟨n,a,top,l,v,rfl,rfl,hat⟩:=hrel
  have HAt:=hat
  have HPl:Hid (rdPl wr rb=a):=rdPl_of hat.out.rd
  have hn:=hat.out.hn
  have hl:=hat.out.hl
  have ha:=hat.out.ha
  have htop:=hat.out.ht
  have HL:=hide' hl
  have hfrs:=hat.out.fr.size
  have HSr:Hid (Shp wr):=HS.out.fr hat.out.fr h0 (by omega)
  clear hat hl
  go_wp2_with fail
  refine (rule_calls s hs wr rb a top HAt.out.rd HSr.out h0 ha htop).mono ?_
  rintro e w1 ⟨rn,rpl,o,rfl,d1,d2,d3⟩
  have hs1:=d2.size
  cases hok:(ruleR s top a).ok
  · have HF:Hid (EqR (formV s) ⟨false,(ruleR s top a).i,l.map Prod.fst⟩):=by
     have h:=HAt.out.eq
     rw[show 8-n=(7-n)+1 by omega,rules_fail s _ top a _ hok] at h
     exact h
    have HD1:=hide' d1
    have HF1:=hide' (HAt.out.fr.trans (d2.less hfrs))
    clear d1 d2 d3 hok
    simp only
    go_wp2_with fail
    go_ret2
    obtain ⟨e1,e2,_⟩:=HF.out
    refine ⟨.slice none 0 0,by rw[e1];rfl,HF1.out.alloc (by omega) _,fun _=>?_,fun h=>by rw[e1] at h;cases h⟩
    rw[e2]
    exact Blk.alloc HD1.out _
  · obtain ⟨hrn,hrpl,pb,hpo,hrep⟩:=d3 hok
    obtain ⟨k1,k2,k3⟩:=ruleR_ok s top a hok
    have hlt2:=bt_pos_lt s (a+1) (by omega)
    obtain ⟨g1,g2,g3⟩:=prs_good s (bt s a-65) (s.size+1) (a+2) (by omega)
    have hok2:=hok
    rw[k3] at hok2 d1 hrep
    have HSTEP:=hide' (HAt.out.eq.trans (by rw[show 8-n=(7-n)+1 by omega];exact rules_step s (7-n) top a (l.map Prod.fst) n (by omega) k1 k2 hok2))
    have HOK:Hid ((ruleR s top a).ok=true):=hok
    clear d3 k3
    generalize hpp:prs s (bt s a-65) (s.size+1) (a+2)=p at *
    clear hpp
    obtain ⟨pok,pi,pits⟩:=p
    simp only at d1 hrep g1 g2 HSTEP
    have HM1:=hide' (HAt.out.made.fr (d2.less (Nat.le_refl _)) hrl)
    have HF1:=hide' (HAt.out.fr.trans (d2.less hfrs))
    have HD1:=hide' d1
    have HRep:Hid (RepS (s.size+1) w1 wr.heap.size w1.heap.size pb false pits):=hrep
    subst hpo hrn hrpl
    have hrl1:rb<w1.heap.size:=by omega
    clear d1 d2 hrep hok k1 k2 hok2
    simp only
    go_wp2_with
     (at_builtin
      refine wpList_append_lies _ rfl _ _ _ rfl w.heap.size 123 i0 _ 3 24 Tryz.underlying73 hi0 hz0 hz1 hz2 rfl (by omega) v l.length (rcells l) rfl ((HM1.out.row.alloc _).alloc _) ⟨w1.heap.size+1,0,none⟩ 1 1 [.int .i64 (bt s a-65),.int .i64 a,.pointer (some ⟨pb,0,none⟩)] rfl rfl (World.news_of_block (cs:=#[.int .i64 (bt s a-65),.int .i64 a,.pointer (some ⟨pb,0,none⟩)]) (t:=123) (fr:=(0,0)) (by simpa using heap_alloc_new (w1.alloc (.cells #[.int .i64 (bt s a-65),.int .i64 a,.pointer (some ⟨pb,0,none⟩)] 123)) _)) (by simp[Value.oneCell']) (by omega) (by unfold maxLen;have:=HL.out;omega) (by have:=HL.out;omega) (by simp;omega) (w1.heap.size+2) (by simp) ?_
      intro g cap w2 hown2 hgrow hat2 hltg
      have hgs:=hgrow.size
      have hgs2:w1.heap.size+2≤w2.heap.size:=by simpa using hgs
      have hne:some rb≠v.ownBlock:=fun e=>by have:=(HM1.out.row.lt rb e.symm).1;omega
      have HR2:Hid (Rd w2 rb s pi):=Blk.grown (Blk.alloc (Blk.alloc HD1.out _) _) hgrow hne
      have HF2:Hid (Fr w.heap.size rb w w2):=((HF1.out.alloc (by omega) _).alloc (by simp;omega) _).grown hgrow (by simp;omega) (fun q e=>(HM1.out.row.lt q e).1)
      have HM2:Hid (RMk s w.heap.size w2 (.slice (some ⟨g,0,none⟩) (l.length+1) cap) (l++[((⟨bt s a-65,a,pits⟩:Rl),pb)])):=HAt.out.made.push HM1.out hfrs (by omega) HRep.out hown2 hgrow hat2
      clear hgs hown2 hgrow hat2)
    refine (atEnd_calls w2 rb s pi HR2.out hs g1).mono ?_
    rintro e w3 ⟨rfl,hsm3,hr3⟩
    have HM3:=hide' (HM2.out.fr (hsm3.fr _) hrl)
    have HF3:=hide' (HF2.out.trans (hsm3.fr _))
    have hs3:=hsm3.size
    have HR3:Hid (Rd w3 rb s pi):=hr3
    clear hsm3 hr3
    by_cases hend:pi=s.size
    · have HE:Hid (EqR (formV s) ⟨true,s.size,(l++[((⟨bt s a-65,a,pits⟩:Rl),pb)]).map Prod.fst⟩):=by
       have h:=HSTEP.out
       unfold restF at h
       rw[if_pos hend] at h
       have h3:EqR (formV s) ⟨true,s.size,(l++[((⟨bt s a-65,a,pits⟩:Rl),pb)]).map Prod.fst⟩:=by simpa using h
       exact h3
      rw[decide_eq_true hend]
      clear hend
      simp only
      go_wp2_with fail
      go_ret2
      obtain ⟨e1,e2,e3⟩:=HE.out
      exact ⟨_,by rw[e1];rfl,HF3.out,(fun h=>by rw[e1] at h;cases h),fun _=>⟨_,(e3 rfl).symm,HM3.out⟩⟩
    · rw[decide_eq_false hend]
      have HST2:=HSTEP.out
      unfold restF at HST2
      rw[if_neg hend] at HST2
      have HSX:=hide' HST2
      clear hend HST2 HSTEP
      simp only
      by_cases h8:n+1=8
      · have h8':((l.length:Int)+1==8)=true:=by have:=HL.out;simp;omega
        have HE:Hid (EqR (formV s) ⟨false,pi,l.map Prod.fst++[⟨bt s a-65,a,pits⟩]⟩):=by
         have h:=HSX.out
         rw[if_pos (Or.inl h8)] at h
         exact h
        clear h8 HSX
        go_wp2_with fail
        go_ret2
        obtain ⟨e1,e2,e3⟩:=HE.out
        exact ⟨.slice none 0 0,by rw[e1];rfl,HF3.out,(fun _=>by rw[e2];exact HR3.out),fun h=>by rw[e1] at h;cases h⟩
      · have h8':((l.length:Int)+1==8)=false:=by have:=HL.out;simp;omega
        go_wp2_with fail
        refine (takeJust_calls w3 rb s pi 59 HR3.out hs g1 (by omega)).mono ?_
        rintro e w4 ⟨hsm4,rfl,hr4⟩
        have HM4:=hide' (HM3.out.fr (hsm4.fr _) hrl)
        have HF4:=hide' (HF3.out.trans (hsm4.fr _))
        have hs4:=hsm4.size
        have HR4:Hid (Rd w4 rb s (adv s pi 59)):=hr4
        clear hsm4 hr4
        cases hq:isAt s pi 59
        · have hne:bt s pi≠59:=by unfold isAt at hq;simpa using hq
          have HE:Hid (EqR (formV s) ⟨false,pi,l.map Prod.fst++[⟨bt s a-65,a,pits⟩]⟩):=by
           have h:=HSX.out
           rw[if_pos (Or.inr hne)] at h
           exact h
          have HR5:Hid (Rd w4 rb s pi):=by
           have:=HR4.out;unfold adv at this;rw[if_neg hne] at this;exact this
          clear hne HSX
          simp only
          go_wp2_with fail
          go_ret2
          obtain ⟨e1,e2,e3⟩:=HE.out
          exact ⟨.slice none 0 0,by rw[e1];rfl,HF4.out,(fun _=>by rw[e2];exact HR5.out),fun h=>by rw[e1] at h;cases h⟩
        · have heq:bt s pi=59:=by unfold isAt at hq;simpa using hq
          have hplt:=bt_pos_lt s pi (by omega)
          have HR5:Hid (Rd w4 rb s (pi+1)):=by
           have:=HR4.out;unfold adv at this;rw[if_pos heq] at this;exact this
          have HN:Hid (AtR s rb w (n+1) (pi+1) 72 (l++[((⟨bt s a-65,a,pits⟩:Rl),pb)]) (.slice (some ⟨g,0,none⟩) (l.length+1) cap) w4):=by
           refine ⟨HR5.out,HM4.out,HF4.out,by omega,by simp;exact HL.out,by omega,by omega,?_⟩
           have h:=HSX.out
           rw[if_neg (by intro h;rcases h with h | h;exact h8 h;exact h heq)] at h
           simpa using h
          have HPN:Hid (rdPl w4 rb=pi+1):=rdPl_of HN.out.rd
          clear heq HSX h8
          simp only
          go_wp2_with fail
          go_roundw
          case rel=>exact ⟨n+1,pi+1,72,_,_,rfl,rfl,HN⟩
          case measure=>rw[HPl.out,HPN.out];omega
end Go.Proofs.YtmlkhhhjdpbhfaaGreatDoor

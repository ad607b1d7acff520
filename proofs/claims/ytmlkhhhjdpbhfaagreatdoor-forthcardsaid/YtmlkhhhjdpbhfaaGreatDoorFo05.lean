import Derived.Test.YtmlkhhhjdpbhfaaGreatDoorFo04
import Derived.Deep.MidRow
import Derived.Deep.RegionLaw
import Derived.Deep.DeepCutAuto
namespace Go.Proofs.YtmlkhhhjdpbhfaaGreatDoor
open Go.RowKit
def spotV (a e:Nat)(ho:Option Addr):Value:=.agg #[.int .i64 a,.int .i64 e,.pointer ho]
def spotC (a e:Nat)(ho:Option Addr):Obj:=.cells #[.int .i64 a,.int .i64 e,.pointer ho] 159
def spanO (a b:Nat):Obj:=.cells #[.int .i64 a,.int .i64 b] 288
theorem Tryz.infoSpan:(Tryz.prog.info? 288).map (fun i=>(i.zero,i.size,i.bytes))=some (some (.agg #[.int .i64 0,.int .i64 0]),2,16):=by kernel_rfl
theorem any_iff (rd:List Bool)(a n:Nat):((List.range n).any fun j=>rd.getD (a+j) false)=true↔∃ j,j<n∧rd.getD (a+j) false=true:=by
 rw[List.any_eq_true];simp
theorem TrAt.rcell {gb rb tb:Nat}{bs:ByteArray}{w:World}{s:Ts}(h:TrAt gb rb tb bs w s)(j:Nat)(hj:j<bs.size):w.cell? ⟨rb,j,none⟩=some (.bool (s.read.getD j false)):=by
 have hl:=h.len
 rw[h.rd.cell j]
 simp[show j<s.read.length by omega]
set_option maxRecDepth 100000 in
set_option maxHeartbeats 4000000 in
theorem readOn_no (gb rb tb:Nat)(bs:ByteArray)(hbs:bs.size≤4000)(w:World)(s:Ts)(h:TrAt gb rb tb bs w s)(a e n:Nat)(ho:Option Addr)(hae:a≤e)(he:e≤bs.size)(hn:n<4294967296)(hc:canRead s.read a e n=false):
 Calls Tryz.prog 184 #[.pointer (some ⟨tb,0,none⟩),spotV a e ho,.int .u32 n] w fun e' w'=>e'=.returned (.tuple #[.string ByteArray.empty,.bool false])∧TrAt gb rb tb bs w' s∧TF tb rb none none w w':=by
 have hlt:=h.blk.lt
 have hlt2:=h.lt
 have HT:=hide' h
 clear h
 by_cases h1:e-a<n
 · have h1':((e:Int)-(a:Int))<(n:Int):=by omega
   unfold spotV
   go_enter Tryz.func184,Tryz.ntmps184
   go_wp2_with fail
   go_ret2
   exact ⟨rfl,HT.out.alloc _,(TF.refl tb rb none none w).alloc _⟩
 · have h1':¬ ((e:Int)-(a:Int))<(n:Int):=by omega
   have hany:((List.range n).any fun j=>s.read.getD (a+j) false)=true:=by
    unfold canRead at hc
    rw[decide_eq_true (by omega)] at hc
    simpa using hc
   have HC:Hid (∃ j,j<n∧s.read.getD (a+j) false=true):=(any_iff _ _ _).1 hany
   clear hany hc
   have HT2:=hide' ((HT.out.alloc (spotC a e ho)).alloc (spanO a (a+n)))
   have HF2:=hide' (((TF.refl tb rb none none w).alloc (spotC a e ho)).alloc (spanO a (a+n)))
   unfold spanO spotC at HT2 HF2
   have hcast:((a+n:Nat):Int)=(a:Int)+(n:Int):=by omega
   rw[hcast] at HT2 HF2
   have hle1:(a:Int)≤(a:Int)+(n:Int):=by omega
   have hle2:(a:Int)+(n:Int)≤(bs.size:Int):=by omega
   unfold spotV
   go_enter Tryz.func184,Tryz.ntmps184
   go_wp2_with fail
   have b0:((w.alloc (.cells #[.int .i64 a,.int .i64 e,.pointer ho] 159)).alloc (.cells #[.int .i64 a,.int .i64 ((a:Int)+(n:Int))] 288)).cell? ⟨w.heap.size+1,0,none⟩=some (.int .i64 a):=by simp[go_sem]
   have b1:((w.alloc (.cells #[.int .i64 a,.int .i64 e,.pointer ho] 159)).alloc (.cells #[.int .i64 a,.int .i64 ((a:Int)+(n:Int))] 288)).cell? ⟨w.heap.size+1,1,none⟩=some (.int .i64 ((a:Int)+(n:Int))):=by simp[go_sem]
   generalize (w.alloc (.cells #[.int .i64 a,.int .i64 e,.pointer ho] 159)).alloc (.cells #[.int .i64 a,.int .i64 ((a:Int)+(n:Int))] 288)=W at *
   have cr:=HT2.out.cread
   have HQ:Hid (∀ m,Calls Tryz.prog 204 #[.slice (if bs.size=a then some ⟨rb,0,none⟩ else some ⟨rb,a,none⟩) n (bs.size-a),.bool true] (W.drewN m) fun e w'=>e=.returned (.bool true)∧w'=W.drewN m):=fun m=>
    contains_calls (W.drewN m) _ n _ (fun j=>s.read.getD (a+j) false) (by omega) (fun j hj=>⟨rb,a,by rw[if_neg (by omega)],(HT2.out.drewN m).rcell (a+j) (by omega)⟩) true ⟨fun _=>HC.out,fun _=>rfl⟩
   go_quiet (first | (go_at_call 204;exact Calls.quiet_of_same (HQ.out _)))
   generalize (if bs.size=a then some ⟨rb,0,none⟩ else some ⟨rb,a,none⟩:Option Addr)=av
   go_wp2_with fail
   go_ret2
   exact ⟨rfl,HT2.out.drewN _,HF2.out.drewN _⟩
theorem TF.grown {tb rb:Nat}{sb hb row:Option Nat}{a b c:World}(h:TF tb rb sb hb a b)(hg:b.grownBy c row)(hr:row=sb∨∀ g,row=some g→a.heap.size≤g):TF tb rb sb hb a c:=
 ⟨hg.os.trans h.os,hg.tape.trans h.tape,hg.output.trans h.output,Nat.le_trans h.size hg.size,fun k hk h1 h2 h3 h4=>by
  rw[hg.block k (by have:=h.size;omega) (hr.elim (fun e=>by rw[e];exact h3) (fun e e2=>by have:=e k e2.symm;omega)),h.block k hk h1 h2 h3 h4]⟩
theorem TF.any {tb rb:Nat}{a b:World}(h:TF tb rb none none a b)(sb hb:Option Nat):TF tb rb sb hb a b:=⟨h.os,h.tape,h.output,h.size,fun k hk h1 h2 _ _=>h.block k hk h1 h2 (by simp) (by simp)⟩
theorem TrAt.push {gb rb tb:Nat}{bs:ByteArray}{w w':World}{s:Ts}(h:TrAt gb rb tb bs w s)(x y:Nat)(gg cap1:Nat)(hown:w'.ownsRow (tb+1) 288 2 (.slice (some ⟨gg,0,none⟩) (s.spans.length+1) cap1) (s.spans.length+1) (spanC s.spans++[.int .i64 x,.int .i64 y]))(hgrow:w.grownBy w' s.sv.ownBlock):TrAt gb rb tb bs (w'.setCell ⟨tb,50,none⟩ (.slice (some ⟨gg,0,none⟩) (s.spans.length+1) cap1)) { s with spans:=s.spans++[(x,y)],sv:=.slice (some ⟨gg,0,none⟩) (s.spans.length+1) cap1 }:=by
 have hlt:=h.lt
 have hne1:some tb≠s.sv.ownBlock:=fun e=>by have:=(h.svlt tb e.symm).1;omega
 have hne2:some rb≠s.sv.ownBlock:=fun e=>by have:=(h.svlt rb e.symm).1;omega
 refine ⟨?_,Blk.setOther (h.rd.grown hgrow hne2) _ (by simp only;omega) _,h.len,?_,hlt⟩
 · exact Blk.set (h.blk.grown hgrow hne1) 50 _
 · have:=ownsRow_setCell_below hown (a:=⟨tb,50,none⟩) (by simp) (.slice (some ⟨gg,0,none⟩) (s.spans.length+1) cap1)
   simpa[spanC] using this
def tsRead (s:Ts)(a n:Nat)(sv:Value):Ts:={ s with read:=setR s.read a (a+n) true,spans:=s.spans++[(a,a+n)],sv:=sv }
set_option maxRecDepth 100000 in
set_option maxHeartbeats 4000000 in
theorem readOn_yes (gb rb tb:Nat)(bs:ByteArray)(hbs:bs.size≤4000)(w:World)(s:Ts)(h:TrAt gb rb tb bs w s)(a e n:Nat)(ho:Option Addr)(hae:a≤e)(he:e≤bs.size)(hn:n<4294967296)(hc:canRead s.read a e n=true)(hsl:s.spans.length≤1000000):
 Calls Tryz.prog 184 #[.pointer (some ⟨tb,0,none⟩),spotV a e ho,.int .u32 n] w fun e' w'=>e'=.returned (.tuple #[.string (bs.extract a (a+n)),.bool true])∧
  ∃ sv,TrAt gb rb tb bs w' (tsRead s a n sv)∧TF tb rb s.sv.ownBlock none w w'∧(sv.ownBlock=s.sv.ownBlock∨∃ g,sv.ownBlock=some g∧w.heap.size≤g):=by
 obtain ⟨i0,hi0,hz0,hz1,hz2⟩:=info_parts Tryz.infoSpan
 have hlt:=h.blk.lt
 have hlt2:=h.lt
 have HT:=hide' h
 clear h
 unfold canRead at hc
 simp only[Bool.and_eq_true,decide_eq_true_eq] at hc
 obtain ⟨h1,hany⟩:=hc
 have h1':¬ ((e:Int)-(a:Int))<(n:Int):=by omega
 have HC:Hid (¬ ∃ j,j<n∧s.read.getD (a+j) false=true):=by
  have:¬ ∃ j,j<n∧s.read.getD (a+j) false=true:=fun h=>by
   rw[(any_iff _ _ _).2 h] at hany;cases hany
  exact this
 clear hany
 have HT2:=hide' ((HT.out.alloc (spotC a e ho)).alloc (spanO a (a+n)))
 have HF2:=hide' (((TF.refl tb rb none none w).alloc (spotC a e ho)).alloc (spanO a (a+n)))
 have HB2:=hide' (Blk.new (w.alloc (spotC a e ho)) #[.int .i64 a,.int .i64 ((a+n:Nat):Int)] 288)
 have hsW:((w.alloc (spotC a e ho)).alloc (spanO a (a+n))).heap.size=w.heap.size+2:=by simp
 unfold spanO spotC at HT2 HF2 hsW
 unfold spotC at HB2
 have hcast:((a+n:Nat):Int)=(a:Int)+(n:Int):=by omega
 rw[hcast] at HT2 HF2 HB2 hsW
 rw[show (w.alloc (.cells #[.int .i64 a,.int .i64 e,.pointer ho] 159)).heap.size=w.heap.size+1 by simp] at HB2
 have hle1:(a:Int)≤(a:Int)+(n:Int):=by omega
 have hle2:(a:Int)+(n:Int)≤(bs.size:Int):=by omega
 unfold spotV
 go_enter Tryz.func184,Tryz.ntmps184
 go_wp2_with fail
 have b0:((w.alloc (.cells #[.int .i64 a,.int .i64 e,.pointer ho] 159)).alloc (.cells #[.int .i64 a,.int .i64 ((a:Int)+(n:Int))] 288)).cell? ⟨w.heap.size+1,0,none⟩=some (.int .i64 a):=by simp[go_sem]
 have b1:((w.alloc (.cells #[.int .i64 a,.int .i64 e,.pointer ho] 159)).alloc (.cells #[.int .i64 a,.int .i64 ((a:Int)+(n:Int))] 288)).cell? ⟨w.heap.size+1,1,none⟩=some (.int .i64 ((a:Int)+(n:Int))):=by simp[go_sem]
 generalize (w.alloc (.cells #[.int .i64 a,.int .i64 e,.pointer ho] 159)).alloc (.cells #[.int .i64 a,.int .i64 ((a:Int)+(n:Int))] 288)=W at *
 have cr:=HT2.out.cread
 have HQ:Hid (∀ m,Calls Tryz.prog 204 #[.slice (if bs.size=a then some ⟨rb,0,none⟩ else some ⟨rb,a,none⟩) n (bs.size-a),.bool true] (W.drewN m) fun e w'=>e=.returned (.bool false)∧w'=W.drewN m):=fun m=>
  contains_calls (W.drewN m) _ n _ (fun j=>s.read.getD (a+j) false) (by omega) (fun j hj=>⟨rb,a,by rw[if_neg (by omega)],(HT2.out.drewN m).rcell (a+j) (by omega)⟩) false ⟨fun h=>(by cases h),fun h=>absurd h HC.out⟩
 go_quiet (first | (go_at_call 204;exact Calls.quiet_of_same (HQ.out _)))
 generalize (if bs.size=a then some ⟨rb,0,none⟩ else some ⟨rb,a,none⟩:Option Addr)=av
 have HB3:=hide' (show Blk (W.drewN nq) (w.heap.size+1) _ _ from HB2.out)
 have HT3:=hide' (HT2.out.drewN nq)
 have HF3:=hide' (HF2.out.drewN nq)
 have hsW3:(W.drewN nq).heap.size=w.heap.size+2:=hsW
 generalize W.drewN nq=W3 at *
 clear HB2 HT2 HF2 HQ cr
 have c0:W3.cell? ⟨w.heap.size+1,0,none⟩=some (.int .i64 a):=HB3.out.cell 0
 have c1:W3.cell? ⟨w.heap.size+1,1,none⟩=some (.int .i64 ((a:Int)+(n:Int))):=HB3.out.cell 1
 go_wp2_with fail
 have hsr:=setRead_calls gb rb tb bs hbs W3 s HT3.out a (a+n) true (by omega) (by omega)
 rw[hcast] at hsr
 refine hsr.mono ?_
 rintro e4 W4 ⟨rfl,ht4,hf4,hs4⟩
 have hft:=HF3.out.trans hf4 (Or.inl rfl) (Or.inl rfl)
 have HB4:=hide' (hf4.blk HB3.out (by omega) (by omega) (by simp) (by simp))
 have HT4:=hide' ht4
 have HF4:=hide' hft
 have hs5:w.heap.size+3≤W4.heap.size:=by omega
 clear hsr ht4 hf4 hft c0 c1 b0 b1 hs4 hsW3 hsW
 have c0:W4.cell? ⟨w.heap.size+1,0,none⟩=some (.int .i64 a):=HB4.out.cell 0
 have c1:W4.cell? ⟨w.heap.size+1,1,none⟩=some (.int .i64 ((a:Int)+(n:Int))):=HB4.out.cell 1
 obtain ⟨p,cap,hsv⟩:=HT4.out.svform
 simp only at hsv
 have c20:W4.cell? ⟨tb,50,none⟩=some (.slice p s.spans.length cap):=by rw[← hsv];exact HT4.out.csv
 have c20a:∀ o,(W4.alloc o).cell? ⟨tb,50,none⟩=some (.slice p s.spans.length cap):=fun o=>by rw[← hsv];exact (HT4.out.alloc o).csv
 have hown:W4.ownsRow (tb+1) 288 2 (.slice p s.spans.length cap) s.spans.length (spanC s.spans):=by rw[← hsv];exact HT4.out.own
 have htl4:tb<W4.heap.size:=by omega
 have HSV:=hide' hsv
 have HNE:Hid (some (w.heap.size+1)≠s.sv.ownBlock):=(fun e=>by have:=HT.out.svlt _ e.symm;omega:some (w.heap.size+1)≠s.sv.ownBlock)
 clear hsv
 simp only
 go_wp2_with fail
 go_cut [] (fun wc=>∃ sv,TrAt gb rb tb bs wc (tsRead s a n sv)∧TF tb rb s.sv.ownBlock none w wc∧(sv.ownBlock=s.sv.ownBlock∨∃ g,sv.ownBlock=some g∧w.heap.size≤g)∧Blk wc (w.heap.size+1) #[.int .i64 a,.int .i64 ((a:Int)+(n:Int))] 288)
 case first=>
  go_region_law (
   (refine step_append_lies _ (by rfl) _ _ _ (by rfl) (tb+1) 288 i0 _ 2 16 Tryz.underlying152 hi0 hz0 hz1 hz2 rfl (by omega) (.slice p s.spans.length cap) s.spans.length (spanC s.spans) (by rfl) ((hown.alloc _).drew)
     ⟨W4.heap.size,0,none⟩ 1 1 [.int .i64 a,.int .i64 ((a:Int)+(n:Int))] (by rfl) (by rfl)
     (World.news_of_block (cs:=#[.int .i64 a,.int .i64 ((a:Int)+(n:Int))]) (t:=288) (fr:=(0,0)) (heap_alloc_new W4 _)) (by simp[Value.oneCell'])
     (by omega) (by unfold maxLen;omega) (by omega) (by simp;omega) (W4.heap.size+1) (by simp) ?_
    intro gg cap1 W5 hown1 hgrow hat hlt5
    have hne1:some tb≠(Value.slice p s.spans.length cap).ownBlock:=fun e=>by rw[← HSV.out] at e;have:=(HT4.out.svlt tb e.symm).1;omega
    have hB5:=((HT4.out.blk.alloc _).drew).grown hgrow hne1
    have c5:W5.cell? ⟨tb,50,none⟩=some (.slice p s.spans.length cap):=by rw[← HSV.out];exact hB5.cell 50
    have f5:W5.frozen? ⟨tb,50,none⟩=false:=hB5.frozen 50))
  all_goals
   go_wp2_with fail
   go_meet
   case rel=>
    rw[← HSV.out] at hgrow hat
    refine ⟨_,TrAt.push ((HT4.out.alloc _).drewN 1) a (a+n) gg cap1 (by rw[hcast];exact hown1) hgrow,?_,?_,?_⟩
    · exact ((((HF4.out.any s.sv.ownBlock none).alloc _).drewN 1).grown hgrow (Or.inl rfl)).setCell _ _ (Or.inl rfl)
    · rcases hat with h | h
      · exact Or.inl (by rw[h];rfl)
      · exact Or.inr ⟨gg,rfl,by omega⟩
    · have h5:=((HB4.out.alloc _).drew).grown hgrow (HNE.out)
      exact h5.setOther _ (by simp only;omega) _
 case rest=>
  obtain ⟨sv,ht5,hf5,hs6,hb5⟩:=hcut
  have c16:=ht5.cbytes
  have d0:wc.cell? ⟨w.heap.size+1,0,none⟩=some (.int .i64 a):=hb5.cell 0
  have d1:wc.cell? ⟨w.heap.size+1,1,none⟩=some (.int .i64 ((a:Int)+(n:Int))):=hb5.cell 1
  have HT5:=hide' ht5
  have HF5:=hide' hf5
  have HS6:=hide' hs6
  clear ht5 hf5 hs6 hb5 c20 c20a hown c0 c1 HT4 HF4 HB4
  go_wp2_with fail
  go_quiet (fail)
  go_wp2_with fail
  go_ret2
  exact ⟨rfl,sv,HT5.out.drewN _,HF5.out.drewN _,HS6.out⟩
theorem spanC_get (l:List (Nat × Nat))(j:Nat)(h:j<l.length):(spanC l)[j*2]? = some (.int .i64 l[j].1)∧(spanC l)[j*2+1]? = some (.int .i64 l[j].2):=by
 induction l generalizing j with
 | nil=>simp at h
 | cons x t ih=>
  cases j with
  | zero=>exact ⟨rfl,rfl⟩
  | succ j=>
   have:=ih j (by simpa using h)
   simp only[spanC,List.flatMap_cons,List.cons_append,List.nil_append] at this ⊢
   rw[show (j+1)*2=j*2+1+1 by omega]
   simpa using this
theorem spanC_len (l:List (Nat × Nat)):(spanC l).length=l.length*2:=by
 induction l with
 | nil=>rfl
 | cons x t ih=>simp only[spanC,List.flatMap_cons,List.length_append,List.length_cons,List.length_nil] at ih ⊢;omega
theorem spanC_take (l:List (Nat × Nat))(m:Nat):spanC (l.take m)=(spanC l).take (m*2):=by
 induction l generalizing m with
 | nil=>simp[spanC]
 | cons x t ih=>
  cases m with
  | zero=>simp[spanC]
  | succ m=>
   have:=ih m
   simp only[spanC,List.flatMap_cons,List.take_succ_cons] at this ⊢
   rw[show (m+1)*2=m*2+1+1 by omega]
   simp[this]
theorem ownsRow_less {w:World}{B:Nat}{e:TypeId}{p:Option Addr}{n cap:Nat}{l:List (Nat × Nat)}(h:w.ownsRow B e 2 (.slice p n cap) n (spanC l))(m:Nat)(hm:m≤n):w.ownsRow B e 2 (.slice p m cap) m (spanC (l.take m)):=by
 obtain ⟨h1,h2⟩:=h
 rw[spanC_len] at h1
 refine ⟨by rw[spanC_len,List.length_take];omega,?_⟩
 rcases h2 with ⟨h2,h3⟩ | ⟨g,c,cur,h2,h3,h4,h5,h6,h7,h8⟩
 · left
   have hm0:m=0:=by omega
   subst hm0
   cases h2
   exact ⟨rfl,rfl⟩
 · right
   cases h2
   refine ⟨g,cap,cur,rfl,h3,h4,by omega,h6,h7,?_⟩
   rw[spanC_take,← h8,List.take_take,Nat.min_eq_left (by omega)]
set_option maxRecDepth 100000 in
set_option maxHeartbeats 4000000 in
theorem undo_calls (gb rb tb:Nat)(bs:ByteArray)(hbs:bs.size≤4000)(w:World)(s:Ts)(h:TrAt gb rb tb bs w s)(m nd:Nat)(hm:m≤s.spans.length)(hsp:∀ p,p∈s.spans→p.1≤p.2∧p.2≤bs.size)(hsl:s.spans.length≤1000000):
 Calls Tryz.prog 188 #[.pointer (some ⟨tb,0,none⟩),.agg #[.int .i64 m,.int .i64 nd]] w fun e w'=>e=.returned (.tuple #[])∧
  ∃ sv,TrAt gb rb tb bs w' { s with read:=undoR (s.spans.drop m) s.read,spans:=s.spans.take m,nodes:=nd,sv:=sv }∧TF tb rb none none w w'∧sv.ownBlock=s.sv.ownBlock:=by
 have hlt:=h.blk.lt
 have hlt2:=h.lt
 have HT:=hide' h
 obtain ⟨p,cap,hsv⟩:=h.svform
 have HT1:=hide' (h.alloc (.cells #[.int .i64 m,.int .i64 nd] 272))
 have HB1:=hide' (Blk.new w #[.int .i64 m,.int .i64 nd] 272)
 have HF1:=hide' ((TF.refl tb rb none none w).alloc (.cells #[.int .i64 m,.int .i64 nd] 272))
 have hW1:w.heap.size+1≤(w.alloc (.cells #[.int .i64 m,.int .i64 nd] 272)).heap.size:=by simp
 clear h
 go_enter Tryz.func188,Tryz.ntmps188
 go_wp2_with fail
 generalize w.alloc (.cells #[.int .i64 m,.int .i64 nd] 272)=W1 at *
 have c20:W1.cell? ⟨tb,50,none⟩=some (.slice p s.spans.length cap):=by rw[← hsv];exact HT1.out.csv
 have b0:W1.cell? ⟨w.heap.size,0,none⟩=some (.int .i64 m):=HB1.out.cell 0
 have hm':(m:Int)≤(s.spans.length:Int):=by omega
 have HSV:=hide' hsv
 clear hsv
 go_quiet (fail)
 have HAV:Hid (∀ j,j<s.spans.length-m→∃ g,(if cap=m then p else Option.map (fun x=>x.add (m*2)) p)=some ⟨g,m*2,none⟩∧p=some ⟨g,0,none⟩):=by
  intro j hj
  rcases HT.out.own.2 with ⟨e,h0⟩ | ⟨g,c,cur,e,h3,h4,h5,h6,h7,h8⟩
  · omega
  · rw[HSV.out] at e
    cases e
    exact ⟨g,by rw[if_neg (by omega)];simp[Addr.add];omega,rfl⟩
 generalize (if cap=m then p else Option.map (fun x=>x.add (m*2)) p)=av at *
 have HT2:=hide' (HT1.out.drewN nq)
 have HB2:Hid (Blk (W1.drewN nq) w.heap.size #[.int .i64 m,.int .i64 nd] 272):=HB1.out
 have HF2:=hide' (HF1.out.drewN nq)
 have hW2:w.heap.size+1≤(W1.drewN nq).heap.size:=hW1
 generalize W1.drewN nq=W2 at *
 clear c20 b0 HT1 HB1 HF1
 generalize hN:s.spans.length-m=N at *
 have HN:=hide' hN
 go_wp2_with fail
 go_loopw [14,5] (fun v14 _ wr=>∃ j:Nat,v14=.int .i64 j∧j≤N∧Hid (TrAt gb rb tb bs wr { s with read:=undoR ((s.spans.drop m).take j) s.read })∧Hid (Blk wr w.heap.size #[.int .i64 m,.int .i64 nd] 272)∧Hid (TF tb rb none none w wr)∧Hid (w.heap.size+1≤wr.heap.size)) (fun v14 _ _=>N-(intOf v14).toNat)
 case atStart=>exact ⟨0,rfl,by omega,HT2,HB2,HF2,hW2⟩
 case round=>
  obtain ⟨j,rfl,h1,ht,hb2,hf,hs⟩:=hrel
  by_cases hj:j<N
  · have hj':(j:Int)<(N:Int):=by omega
    obtain ⟨g,rfl,hp⟩:=HAV.out j hj
    have hmj:m+j<s.spans.length:=by have:=HN.out;omega
    have hrow:=ht.out.own
    simp only[HSV.out,hp] at hrow
    have hcs:=spanC_get s.spans (m+j) hmj
    have e0:wr.cell? ⟨g,m*2+j*2,none⟩=some (.int .i64 (s.spans[m+j].1:Nat)):=by
     have:=hrow.cellAt ((m+j)*2) (by omega)
     rw[hcs.1] at this
     rw[show m*2+j*2=(m+j)*2 by omega];exact this
    have e1:wr.cell? ⟨g,m*2+j*2+1,none⟩=some (.int .i64 (s.spans[m+j].2:Nat)):=by
     have:=hrow.cellAt ((m+j)*2+1) (by omega)
     rw[hcs.2] at this
     rw[show m*2+j*2+1=(m+j)*2+1 by omega];exact this
    have hok:=hsp s.spans[m+j] (List.getElem_mem hmj)
    have HX:Hid (undoR ((s.spans.drop m).take (j+1)) s.read=setR (undoR ((s.spans.drop m).take j) s.read) s.spans[m+j].1 s.spans[m+j].2 false):=by
     have:undoR ((s.spans.drop m).take (j+1)) s.read=setR (undoR ((s.spans.drop m).take j) s.read) s.spans[m+j].1 s.spans[m+j].2 false:=by
      rw[List.take_succ_eq_append_getElem (by simp;omega)]
      simp[undoR,List.foldl_append]
     exact this
    clear hrow hcs hp
    generalize s.spans[m+j]=x at *
    have HT3:=hide' (fun o=>ht.out.alloc o)
    have HB3:=hide' (fun o=>hb2.out.alloc o)
    have HF3:=hide' (fun o=>hf.out.alloc o)
    have hs3:=hs.out
    clear ht hb2 hf
    go_wp2_with fail
    have hsr:=setRead_calls gb rb tb bs hbs _ _ (HT3.out (.cells #[.int .i64 x.1,.int .i64 x.2] 288)) x.1 x.2 false hok.1 hok.2
    refine hsr.mono ?_
    rintro e4 W4 ⟨rfl,ht4,hf4,hs4⟩
    have HB4:=hide' (hf4.blk (HB3.out (.cells #[.int .i64 x.1,.int .i64 x.2] 288)) (by omega) (by omega) (by simp) (by simp))
    have HF4:=hide' ((HF3.out (.cells #[.int .i64 x.1,.int .i64 x.2] 288)).trans hf4 (Or.inl rfl) (Or.inl rfl))
    have HT4:Hid (TrAt gb rb tb bs W4 { s with read:=undoR ((s.spans.drop m).take (j+1)) s.read }):=by
     have:TrAt gb rb tb bs W4 { s with read:=undoR ((s.spans.drop m).take (j+1)) s.read }:=by rw[HX.out];exact ht4
     exact this
    have hs5:w.heap.size+1≤W4.heap.size:=by simp at hs4;omega
    clear hsr ht4 hf4 hs4 e0 e1 HT3 HB3 HF3 HX
    simp only
    go_wp2_with fail
    go_roundw
    case rel=>exact ⟨j+1,by go_num,by omega,HT4,HB4,HF4,hs5⟩
    case measure=>simp[intOf];omega
  · have hj':¬ (j:Int)<(N:Int):=by omega
    have hjN:j=s.spans.length-m:=by have:=HN.out;omega
    have HT3:Hid (TrAt gb rb tb bs wr { s with read:=undoR (s.spans.drop m) s.read }):=by
     have h:=ht.out
     rw[List.take_of_length_le (by simp;omega)] at h
     exact h
    have c20:wr.cell? ⟨tb,50,none⟩=some (.slice p s.spans.length cap):=by rw[← HSV.out];exact HT3.out.csv
    have f20:wr.frozen? ⟨tb,50,none⟩=false:=HT3.out.blk.frozen 50
    have b0:wr.cell? ⟨w.heap.size,0,none⟩=some (.int .i64 m):=hb2.out.cell 0
    have hcap:(m:Int)≤(cap:Int):=by
     rcases HT.out.own.2 with ⟨e,h0⟩ | ⟨g,c,cur,e,h3,h4,h5,h6,h7,h8⟩
     · omega
     · rw[HSV.out] at e;cases e;omega
    have b1:wr.cell? ⟨w.heap.size,1,none⟩=some (.int .i64 nd):=hb2.out.cell 1
    have c18:=HT3.out.cnodes
    have f18:wr.frozen? ⟨tb,48,none⟩=false:=HT3.out.blk.frozen 48
    have hne1:¬ w.heap.size=tb:=by omega
    have hne2:¬ tb=w.heap.size:=by omega
    simp only at c18
    go_wp2_with fail
    go_region
    go_wp2_with fail
    go_end0
    refine ⟨rfl,.slice p m cap,?_,?_,?_⟩
    · have hown:=HT3.out.own
      simp only[HSV.out] at hown
      have h1:TrAt gb rb tb bs (wr.setCell ⟨tb,50,none⟩ (.slice p m cap)) { s with read:=undoR (s.spans.drop m) s.read,spans:=s.spans.take m,sv:=.slice p m cap }:=by
       refine ⟨Blk.set HT3.out.blk 50 _,Blk.setOther HT3.out.rd _ (by simp only;omega) _,HT3.out.len,?_,hlt2⟩
       have:=ownsRow_setCell_below (ownsRow_less hown m hm) (a:=⟨tb,50,none⟩) (by simp) (.slice p m cap)
       rw[show (s.spans.take m).length=m by simp;omega]
       exact this
      exact (h1.drewN 1).set 48 _ (trCells_nodes gb rb bs _ nd) rfl rfl rfl
    · exact ((hf.out.setCell ⟨tb,50,none⟩ _ (Or.inl rfl)).drewN 1).setCell _ _ (Or.inl rfl)
    · rw[HSV.out];cases p<;>rfl
end Go.Proofs.YtmlkhhhjdpbhfaaGreatDoor

import Derived.Test.YtmlkhhhjdpbhfaaGreatDoorFo13
import Derived.Test.YtmlkhhhjdpbhfaaGreatDoorFo11
import Derived.Deep.Quiet
namespace Go.Proofs.YtmlkhhhjdpbhfaaGreatDoor
open Go.RowKit
set_option maxRecDepth 100000 in
set_option maxHeartbeats 8000000 in
theorem ordered_calls (c:Cx)(hc:CxOk c)(w:World)(s:Ts)(st:PS)(ho:Option Addr)(pb:Nat)(p:Pt)(n:Nat)(hp:TPre c w s st none)(hbu:s.spans.length+s.fuel+1≤100000)(hpt:PtBlk w pb p)(hn:p.wd=(n:Int))(hn4:n≤4)(hpb:pb<c.rb)(fn:Nat)(V:ByteArray→Nat→Nat)(hfn:fn=179∨fn=182)(hV:OrdC fn V):
 Calls Tryz.prog 178 #[.pointer (some ⟨c.tb,0,none⟩),.pointer (some ⟨pb,0,none⟩),spotV st.pl st.en ho,.func (.func fn) #[] #[]] w fun e w'=>TPost c w s none false (ordT c.N s.fuel s.far n (decT (V (c.bs.extract st.pl (st.pl+n)) (c.bs.extract st.pl (st.pl+n)).size)) st) e w':=by
 have HV:=hide' hV
 clear hV
 rcases hfn with rfl | rfl
 all_goals
  have hlt:=hp.tr.blk.lt
  have hlt2:=hc.lt
  have hbs:=hc.bs
  have hpl:=hp.inv.pl
  have hen:=hp.inv.en
  have hrl:=hp.inv.rd
  have hrd:=hp.rd
  have hptl:=hpt.lt
  have HP:=hide' hp
  have HC:=hide' hc
  have HT1:=hide' (hp.tr.alloc (spotC st.pl st.en ho))
  have HF1:=hide' ((TF.refl c.tb c.rb none none w).alloc (spotC st.pl st.en ho))
  have HB1:=hide' (Blk.new w #[.int .i64 st.pl,.int .i64 st.en,.pointer ho] 159)
  have HQ1:=hide' (show PtBlk (w.alloc (spotC st.pl st.en ho)) pb p from Blk.alloc hpt _)
  have hs1:(w.alloc (spotC st.pl st.en ho)).heap.size=w.heap.size+1:=by simp
  unfold spotC at HT1 HF1 HQ1 hs1
  clear hp hc hpt
  unfold spotV
  go_enter Tryz.func178,Tryz.ntmps178
  go_wp2_with fail
  generalize w.alloc (.cells #[.int .i64 st.pl,.int .i64 st.en,.pointer ho] 159)=W1 at *
  have a0:W1.cell? ⟨w.heap.size,0,none⟩=some (.int .i64 st.pl):=HB1.out.cell 0
  have a1:W1.cell? ⟨w.heap.size,1,none⟩=some (.int .i64 st.en):=HB1.out.cell 1
  have a2:W1.cell? ⟨w.heap.size,2,none⟩=some (.pointer ho):=HB1.out.cell 2
  have p2:W1.cell? ⟨pb,2,none⟩=some (.int .i64 n):=by rw[← hn];exact HQ1.out.cell 2
  refine wp_region_mid 7 _ rfl rfl (by kernel_rfl) (by kernel_rfl) ?_
  simp only[List.take_succ_cons,List.take_zero,List.drop_succ_cons,List.drop_zero]
  repeat still_step
  refine wpStill_nil ?_
  unfold Oper.wp
  go_simp
  rw[show IntKind.u32.wrap (n:Int)=(n:Int) by rw[wrapU32];omega]
  have HT2:=hide' (HT1.out.drewN 1)
  have HF2:=hide' (HF1.out.drewN 1)
  have HB2:Hid (Blk W1.drew w.heap.size #[.int .i64 st.pl,.int .i64 st.en,.pointer ho] 159):=HB1.out
  have HQ2:Hid (PtBlk W1.drew pb p):=HQ1.out
  have hs2:W1.drew.heap.size=w.heap.size+1:=hs1
  clear a0 a1 a2 p2 HT1 HF1 HB1 HQ1 hs1
  change Hid (TrAt c.gb c.rb c.tb c.bs W1.drew s) at HT2
  change Hid (TF c.tb c.rb none none w W1.drew) at HF2
  generalize W1.drew=W2 at *
  cases hcr:canRead s.read st.pl st.en n
  · have HO:Hid (ordT c.N s.fuel s.far n (decT (V (c.bs.extract st.pl (st.pl+n)) (c.bs.extract st.pl (st.pl+n)).size)) st=failO s.fuel s.far st.pl st):=by
     have:ordT c.N s.fuel s.far n (decT (V (c.bs.extract st.pl (st.pl+n)) (c.bs.extract st.pl (st.pl+n)).size)) st=failO s.fuel s.far st.pl st:=by unfold ordT;rw[← hrd,hcr];rfl
     exact this
    refine (readOn_no c.gb c.rb c.tb c.bs hbs W2 s HT2.out st.pl st.en n ho hpl hen (by omega) hcr).mono ?_
    rintro e w3 ⟨rfl,ht3,hf3⟩
    have HC3:=hide' (Core.refl ht3 (HF2.out.trans hf3 (Or.inl rfl) (Or.inl rfl)) (by omega) none)
    have HB3:=hide' (hf3.blk HB2.out (by omega) (by omega) (by simp) (by simp))
    have HT3:=hide' ht3
    clear ht3 hf3 hcr HT2 HF2 HB2 HQ2
    have a0:w3.cell? ⟨w.heap.size,0,none⟩=some (.int .i64 st.pl):=HB3.out.cell 0
    simp only
    repeat still_step
    refine wpStill_nil ?_
    go_wp2_with fail
    refine (fail_calls c.gb c.rb c.tb c.bs w3 s HT3.out st.pl).mono ?_
    rintro e w4 ⟨rfl,hw4⟩
    have HW4:=hide' hw4
    clear hw4
    simp only
    go_wp2_with fail
    go_ret3
    rw[HO.out]
    exact TPost.fail st.pl st HC3.out HW4.out _ _
  · have hcr2:canRead st.rd st.pl st.en n=true:=by rw[← hrd];exact hcr
    have hnn:n≤st.en-st.pl:=by
     unfold canRead at hcr2;simp only[Bool.and_eq_true,decide_eq_true_eq] at hcr2;exact hcr2.1
    have HO:Hid (ordT c.N s.fuel s.far n (decT (V (c.bs.extract st.pl (st.pl+n)) (c.bs.extract st.pl (st.pl+n)).size)) st=madeO c.N s.fuel s.far (readS st n) (decT (V (c.bs.extract st.pl (st.pl+n)) (c.bs.extract st.pl (st.pl+n)).size))):=by
     have:ordT c.N s.fuel s.far n (decT (V (c.bs.extract st.pl (st.pl+n)) (c.bs.extract st.pl (st.pl+n)).size)) st=madeO c.N s.fuel s.far (readS st n) (decT (V (c.bs.extract st.pl (st.pl+n)) (c.bs.extract st.pl (st.pl+n)).size)):=by unfold ordT;rw[hcr2];rfl
     exact this
    have hxs:(c.bs.extract st.pl (st.pl+n)).size≤4:=Nat.le_trans (extract_le _ _ _) hn4
    refine (readOn_yes c.gb c.rb c.tb c.bs hbs W2 s HT2.out st.pl st.en n ho hpl hen (by omega) hcr (by omega)).mono ?_
    rintro e w3 ⟨rfl,sv,ht3,hf3,hsv3⟩
    have hf3':=HF2.out.size
    have HC3:Hid (Core c w s none s.fuel s.far w3 (tsRead s st.pl n sv)):=Core.read2 hcr (by rw[hrd,hrl];exact hen) hpl hbu HF2.out ht3 hf3 hsv3
    have hnb:some w.heap.size≠s.sv.ownBlock:=fun e=>by have:=HP.out.tr.svlt _ e.symm;omega
    have hnp:some pb≠s.sv.ownBlock:=fun e=>by have:=HP.out.tr.svlt _ e.symm;omega
    have HB3:=hide' (hf3.blk HB2.out (by omega) (by omega) hnb (by simp))
    have HQ3:=hide' (show PtBlk w3 pb p from hf3.blk HQ2.out (by omega) (by omega) hnp (by simp))
    have hs3:=hf3.size
    clear ht3 hf3 hcr HT2 HF2 HB2 HQ2 hsv3
    simp only
    repeat still_step
    refine wpStill_nil ?_
    go_wp2_with fail
    refine (HV.out.1 (c.bs.extract st.pl (st.pl+n)) hxs w3).mono ?_
    rintro e w4 ⟨rfl,hb4⟩
    have HC4:=hide' (HC3.out.belowAll hb4)
    have HB4:=hide' (HB3.out.below hb4 (by omega))
    have HQ4:=hide' (show PtBlk w4 pb p from HQ3.out.below hb4 (by omega))
    have hs4:=hb4.size
    clear hb4 HC3 HB3 HQ3
    have HFv:Hid (V (c.bs.extract st.pl (st.pl+n)) (c.bs.extract st.pl (st.pl+n)).size<4294967296):=by
     have h1:=HV.out.2 (c.bs.extract st.pl (st.pl+n)) (c.bs.extract st.pl (st.pl+n)).size
     have h2:=pow_le4 _ hxs
     exact (by omega:V (c.bs.extract st.pl (st.pl+n)) (c.bs.extract st.pl (st.pl+n)).size<4294967296)
    generalize hfv:V (c.bs.extract st.pl (st.pl+n)) (c.bs.extract st.pl (st.pl+n)).size=fv
    have HFV:=hide' hfv
    rw[hfv] at HFv
    clear hfv
    simp only
    go_wp2_with fail
    have hnd:=HP.out.nd
    have hval:=HP.out.inv.vals
    cases hm:s.nodes with
    | zero=>
     refine (made_none c.gb c.rb c.tb c.bs w4 _ HC4.out.tr 0 fv ByteArray.empty (.slice none 0 0) hm rfl).mono ?_
     rintro e w5 ⟨rfl,hw5⟩
     have HW5:=hide' hw5
     clear hw5
     simp only
     go_wp2_with fail
     refine ⟨rfl,?_⟩
     rw[HO.out,HW5.out]
     exact TPost.dead HC4.out _ (by simp only[readS];omega)
    | succ m=>
     refine (made_some c.gb c.rb c.tb c.bs w4 _ HC4.out.tr 0 fv ByteArray.empty (.slice none 0 0) m hm (by have:=HC.out.N;omega) rfl).mono ?_
     rintro e w5 ⟨rfl,ht5,hf5,hb5,hs5⟩
     have HB5:=hide' (hf5.blk HB4.out (by omega) (by omega) (by simp) (by simp))
     have HQ5:=hide' (show PtBlk w5 pb p from hf5.blk HQ4.out (by omega) (by omega) (by simp) (by simp))
     have HC5:=hide' (HC4.out.made ht5 hf5)
     have HV5:=hide' hb5
     clear ht5 hf5 hb5
     have a0:w5.cell? ⟨w.heap.size,0,none⟩=some (.int .i64 st.pl):=HB5.out.cell 0
     have p2:w5.cell? ⟨pb,2,none⟩=some (.int .i64 n):=by rw[← hn];exact HQ5.out.cell 2
     simp only
     go_wp2_with fail
     go_quiet (fail)
     go_wp2_with fail
     go_ret3
     rw[HO.out]
     have hne:¬ (readS st n).vals=c.N:=by simp only[readS];omega
     unfold madeO
     rw[if_neg hne]
     refine Or.inr (Or.inl ⟨rfl,rfl,_,_,rfl,HC5.out.drewN nq,?_,?_,Or.inr ⟨rfl,1,w4.heap.size,rfl,?_⟩,fun h e=>by cases e⟩)
     · simp only[tsRead,fitO,readS];rw[hrd]
     · simp only[fitO,readS];omega
     · have h:=leafV (w:=w5.drewN nq) (lo:=w.heap.size) (sb:=sv.ownBlock) HV5.out (by omega) (fun e=>by have:=HC4.out.tr.svlt _ e.symm;omega) (k:=0) (n:=(fv:Int)) (run:=ByteArray.empty) ⟨by omega,by omega⟩ ⟨by omega,by have:=HFv.out;omega⟩ (by simp)
       rw[← HFV.out] at h
       exact h
end Go.Proofs.YtmlkhhhjdpbhfaaGreatDoor
namespace Go.Proofs.YtmlkhhhjdpbhfaaGreatDoor
open Go
section
variable {P:Program} {ops:Array Oper} {md:Region.Mode} {C:World→Prop} {Q:Exit→Act→World→Prop}
def opC (P:Program)(ops:Array Oper)(Q:Exit→Act→World→Prop)(i:Nat)(K:Act→World→Prop)(a:Act)(w:World):Prop:=
 match ops[i]? with
 | none=>K a w
 | some o=>if Region.wanted o (yielded ops a.tmps) then o.wp P a w K Q else K (a.put o.dst undef) w
def wpC (P:Program)(md:Region.Mode)(ops:Array Oper)(C:World→Prop)(Q:Exit→Act→World→Prop):Nat→Array Bool→Act→World→Prop
 | 0,listed,a,w=>C w∧Region.ready md ops listed=[]∧Q .normal a w
 | f+1,listed,a,w=>C w∧(Region.ready md ops listed=[]→Q .normal a w)∧∀ i∈Region.ready md ops listed,opC P ops Q i (wpC P md ops C Q f (listed.setIfInBounds i true)) a w
theorem opC_mono {i:Nat}{a:Act}{w:World}{K K':Act→World→Prop}(h:∀ a w,K a w→K' a w)(hh:opC P ops Q i K a w):opC P ops Q i K' a w:=by
 unfold opC at *
 split
 · rename_i ho;rw[ho] at hh;exact h _ _ hh
 · rename_i o ho
   rw[ho] at hh
   simp only at hh
   split
   · rename_i hw;rw[if_pos hw] at hh;exact Oper.wp_mono h hh
   · rename_i hw;rw[if_neg hw] at hh;exact h _ _ hh
theorem wpC_any:∀ (f:Nat) (listed:Array Bool) (a:Act) (w:World),wpC P md ops C Q f listed a w→wpAny P md ops Q f listed a w
 | 0,_,_,_,h=>⟨h.2.1,h.2.2⟩
 | f+1,listed,a,w,h=>by
  refine ⟨h.2.1,fun i hi=>?_⟩
  have h2:=opC_mono (fun a' w' h'=>wpC_any f _ a' w' h') (h.2.2 i hi)
  unfold opC at h2
  unfold wpOp
  split
  · rename_i ho;rw[ho] at h2;exact h2
  · rename_i o ho
    rw[ho] at h2
    simp only at h2
    split
    · rename_i hw;rw[if_pos hw] at h2;exact .inl h2
    · rename_i hw;rw[if_neg hw] at h2;exact h2
theorem opC_of_st {i:Nat}{a:Act}{w:World}{K:Act→Prop}{K':Act→World→Prop}(h:∀ a,K a→K' a w)(hh:stOp P ops w i K a):opC P ops Q i K' a w:=by
 cases ho:ops[i]? with
 | none=>
  unfold stOp at hh;unfold opC
  simp only[ho] at hh ⊢;exact h _ hh
 | some o=>
  obtain ⟨v,hy,hk⟩:=yieldsAt_of_stOp ho hh
  unfold opC
  simp only[ho]
  rcases hy with ⟨hw,hv | ⟨hv,rfl⟩ | ⟨f,args,hv,hc⟩⟩ | ⟨hw,rfl⟩
  · rw[if_pos hw];unfold Oper.wp;rw[hv];exact h _ hk
  · rw[if_pos hw];unfold Oper.wp;rw[hv];exact h _ hk
  · rw[if_pos hw];unfold Oper.wp;rw[hv]
    exact hc.mono fun e w'' ⟨he,hw''⟩=>by subst he hw'';exact h _ hk
  · rw[if_neg (by simp[hw])];exact h _ hk
theorem wpC_of_still {w:World}(hC:C w):∀ (f:Nat) (listed:Array Bool) (a:Act),wpAnyS P md ops w (fun a'=>Q .normal a' w) f listed a→wpC P md ops C Q f listed a w
 | 0,_,_,h=>⟨hC,h.1,h.2⟩
 | f+1,_,_,h=>⟨hC,h.1,fun i hi=>opC_of_st (fun a' h'=>wpC_of_still hC f _ a' h') (h.2 i hi)⟩
def YX (P:Program)(ops:Array Oper)(C:World→Prop)(o:Oper)(v:Value)(a:Act):Prop:=∀ w,C w→YieldsAt P ops w o v a
theorem YX.put {oi oj:Oper}{v:Value}{a:Act}(h:YX P ops C oi v a)(hsi:∀ cs b,oi.op≠.select cs b)(h3:∀ d,oj.dst=some d→d ∉ oi.looksAt ops)(u:Value):YX P ops C oi v (a.put oj.dst u):=fun w hw=>
 (h w hw).of_same (execOp_put oi hsi a oj.dst u h3) (wanted_put oi a oj.dst u h3)
theorem YX.defers {oi:Oper}{v:Value}{a:Act}(h:YX P ops C oi v a)(ds:List Deferred):YX P ops C oi v { a with defers:=ds }:=fun w hw=>(h w hw).of_same rfl rfl
theorem opC_put (hQ:∀ ch a d v w,Q (.panic ch) (Act.put a d v) w→Q (.panic ch) a w){j:Nat}{oi oj:Oper}{v:Value}(hj:ops[j]? = some oj)(hap:oi.apart ops oj=true)(hsi:∀ cs b,oi.op≠.select cs b)(hsj:∀ cs b,oj.op≠.select cs b){K:Act→World→Prop}{a:Act}{w:World}(hy:YX P ops C oi v a)(h:opC P ops Q j K (a.put oi.dst v) w):opC P ops Q j (fun a' w'=>YX P ops C oi v a'∧K (a'.put oi.dst v) w') a w:=by
 obtain ⟨h1,h2,h3⟩:=Oper.apart_spec hap
 have hcm:∀ (b:Act) (u:Value),(b.put oi.dst v).put oj.dst u=(b.put oj.dst u).put oi.dst v:=fun b u=>Act.put_comm b v u h2
 unfold opC at *
 simp only[hj] at *
 rw[wanted_put oj a oi.dst v h1] at h
 split
 · rename_i hw
   rw[if_pos hw] at h
   unfold Oper.wp at *
   rw[execOp_put oj hsj a oi.dst v h1] at h
   generalize (execOp a.eval oj).run P w=r at *
   cases r with
   | ok n w'=>
    cases n<;>simp only[Oper.upon] at h ⊢
    case value u=>rw[hcm] at h;exact ⟨hy.put hsi h3 _,h⟩
    case skip=>rw[hcm] at h;exact ⟨hy.put hsi h3 _,h⟩
    case defer d=>
     have e:({ a.put oi.dst v with defers:=d::(a.put oi.dst v).defers }:Act)=({ a with defers:=d::a.defers }:Act).put oi.dst v:=by cases oi.dst<;>rfl
     rw[e,hcm] at h;exact ⟨(hy.defers _).put hsi h3 _,h⟩
    case enter f args=>
     refine h.mono fun e w'' he=>?_
     cases e with
     | returned u=>simp only at he ⊢;rw[hcm] at he;exact ⟨hy.put hsi h3 _,he⟩
     | panicked ch=>exact hQ _ _ _ _ _ he
     | outgrown=>exact he
    case row r args=>
     simp only[hcm] at h
     exact h.mono fun u w'' hu=>⟨hy.put hsi h3 _,hu⟩
    all_goals exact h
   | halt x w'=>
    cases x<;>simp only[Oper.upon] at h ⊢
    all_goals first | exact hQ _ _ _ _ _ h | exact h
 · rename_i hw
   rw[if_neg hw,hcm] at h;exact ⟨hy.put hsi h3 _,h⟩
theorem wpC_in {f:Nat}{listed:Array Bool}{a:Act}{w:World}(h:wpC P md ops C Q f listed a w):C w:=by cases f<;>exact h.1
theorem one_first (hQ:∀ ch a d v w,Q (.panic ch) (Act.put a d v) w→Q (.panic ch) a w){i:Nat}{oi:Oper}{v:Value}(hi:ops[i]? = some oi)(hsel:∀ (j:Nat) (o:Oper) cs b,ops[j]? = some o→o.op≠.select cs b)(f:Nat):
 ∀ (listed:Array Bool) (a:Act) (w:World),(∀ j oj,ops[j]? = some oj→j≠i→listed.getD j true=false→(∀ e∈oj.after,Region.binds md e=true→e.on≠i)→oi.apart ops oj=true)→
  i∈Region.ready md ops listed→YX P ops C oi v a→wpC P md ops C Q f (listed.setIfInBounds i true) (a.put oi.dst v) w→wpC P md ops C Q (f+1) listed a w:=by
 induction f with
 | zero=>
  intro listed a w _ hr hy H
  have hC:=wpC_in H
  refine ⟨hC,fun h=>absurd h (List.ne_nil_of_mem hr),fun j hj=>?_⟩
  by_cases hji:j=i
  · subst hji;exact opC_of_st (fun _ h=>h) ((hy w hC).stOp hi (K:=fun a'=>wpC P md ops C Q 0 (listed.setIfInBounds j true) a' w) H)
  · have:=ready_mono hj hji
    rw[H.2.1] at this;cases this
 | succ f ih=>
  intro listed a w hfree hr hy H
  have hC:=wpC_in H
  have hun:=(mem_ready.1 hr).1
  refine ⟨hC,fun h=>absurd h (List.ne_nil_of_mem hr),fun j hj=>?_⟩
  by_cases hji:j=i
  · subst hji;exact opC_of_st (fun _ h=>h) ((hy w hC).stOp hi (K:=fun a'=>wpC P md ops C Q (f+1) (listed.setIfInBounds j true) a' w) H)
  · obtain ⟨hjun,oj,hoj,hall⟩:=mem_ready.1 hj
    have hnot:∀ e∈oj.after,Region.binds md e=true→e.on≠i:=fun e he hb heq=>by
     have h1:=hall e he hb
     rw[heq,getD_both hun] at h1
     cases h1
    have h2:=opC_put hQ hoj (hfree j oj hoj hji hjun hnot) (fun cs b=>hsel i oi cs b hi) (fun cs b=>hsel j oj cs b hoj) hy (H.2.2 j (ready_mono hj hji))
    refine opC_mono (fun a' w' h3=>ih (listed.setIfInBounds j true) a' w' (fun k ok hk hki hun' hno=>hfree k ok hk hki ?_ hno) (ready_mono hr (Ne.symm hji)) h3.1 (by rw[Array.setIfInBounds_comm _ _ hji];exact h3.2)) h2
    by_cases hjk:j=k
    · subst hjk;exact hjun
    · rw[getD_set_ne true hjk] at hun';exact hun'
def wpX (P:Program)(ops:Array Oper)(C:World→Prop)(K:Act→Prop):List Oper→Act→Prop
 | [],a=>K a
 | o::rest,a=>∃ v,YX P ops C o v a∧wpX P ops C K rest (a.put o.dst v)
theorem wpX_step {o:Oper}{rest:List Oper}{a:Act}{K:Act→Prop}(v:Value)(hg:o.guard=none)(h:∀ w,C w→(execOp a.eval o).run P w=.ok (.value v) w)(hk:wpX P ops C K rest (a.put o.dst v)):wpX P ops C K (o::rest) a:=
 ⟨v,fun w hw=>.inl ⟨by simp[Region.wanted,hg],.inl (h w hw)⟩,hk⟩
theorem wpX_stepK {o:Oper}{rest:List Oper}{a:Act}{K:Act→Prop}(v:Value)(hg:o.guard=none)(h:∀ w,C w→(execOp a.eval o).run P w=.ok (.value v) w)(hk:∀ K':Act→Prop,(∀ a,wpX P ops C K rest a→K' a)→K' (a.put o.dst v)):wpX P ops C K (o::rest) a:=
 wpX_step v hg h (hk _ fun _ h=>h)
theorem wpX_nil {a:Act}{K:Act→Prop}(h:K a):wpX P ops C K [] a:=h
def oneFrom (md:Region.Mode)(ops:Array Oper)(n k:Nat):List Nat→Array Bool→Bool
 | [],listed=>decide (Region.ready md ops listed=[n])&&Region.lexFrom md ops (ops.size-k) k (listed.setIfInBounds n true)
 | i::is,listed=>(Region.ready md ops listed).contains i&&Region.free md ops listed i&&oneFrom md ops n k is (listed.setIfInBounds i true)
theorem one_lex (hQ:∀ ch a d v w,Q (.panic ch) (Act.put a d v) w→Q (.panic ch) a w)(hsel:Region.noSelect ops=true){n k g:Nat}{w:World}{K:Act→Prop}(hK:∀ listed a,Region.ready md ops listed=[n]→Region.lexFrom md ops (ops.size-k) k (listed.setIfInBounds n true)=true→K a→wpC P md ops C Q g listed a w):
 ∀ (ix:List Nat) (l:List Oper) (listed:Array Bool) (a:Act),l.length=ix.length→(∀ j (h:j<ix.length),ops[ix[j]]? = l[j]?)→oneFrom md ops n k ix listed=true→wpX P ops C K l a→wpC P md ops C Q (ix.length+g) listed a w
 | [],[],listed,a,_,_,hB,h=>by
  simp only[oneFrom,Bool.and_eq_true,decide_eq_true_eq] at hB
  simpa using hK listed a hB.1 hB.2 h
 | i::ix,o::l,listed,a,hl,hix,hB,h=>by
  have h0:ops[i]? = some o:=hix 0 (by simp)
  simp only[oneFrom,Bool.and_eq_true] at hB
  obtain ⟨⟨hr,hf⟩,hB'⟩:=hB
  obtain ⟨v,hy,hk⟩:=h
  have:=one_lex hQ hsel hK ix l (listed.setIfInBounds i true) (a.put o.dst v) (by simpa using hl) (fun j hj=>by have:=hix (j+1) (by simpa using hj);simpa using this) hB' hk
  have h2:=one_first hQ h0 (Region.noSelect_spec hsel) (ix.length+g) listed a w (Region.free_spec h0 hf) (by simpa using hr) hy this
  simpa[Nat.add_right_comm] using h2
 | [],_::_,_,_,hl,_,_,_=>by simp at hl
 | _::_,[],_,_,hl,_,_,_=>by simp at hl
theorem wp_region_one {id:Nat}{a:Act}{w:World}{l:List Oper}(C:World→Prop)(ix:List Nat)(n k:Nat)(o:Oper)(hl tl:List Oper)(ho:l[n]? = some o)(hg:o.guard=none)(hh:hl=ix.filterMap fun i=>l[i]?)(ht:tl=l.drop k)(hm:P.follows .mixedOrders=true)(hB:(Region.noSelect l.toArray&&decide (ix.length+1+tl.length=l.length)&&decide (k+tl.length=l.length)&&ix.all (fun i=>decide (i<l.length))&&oneFrom .any l.toArray n k ix (Array.replicate l.toArray.size false))=true)(hQ:∀ ch a d v w,Q (.panic ch) (Act.put a d v) w→Q (.panic ch) a w)(h:wpX P l.toArray C (fun a'=>o.wp P a' { w with drawn:=w.drawn+1 } (fun a2 w2=>C w2∧wpStill P l.toArray w2 (fun a3=>Q .normal a3 w2) tl a2) Q) hl a)(hC:C { w with drawn:=w.drawn+1 }):(Code.region id l.toArray true).wp P Q a w:=by
 simp only[Bool.and_eq_true,decide_eq_true_eq] at hB
 obtain ⟨⟨⟨⟨hsel,hlen⟩,hkl⟩,hall⟩,hone⟩:=hB
 refine wp_region_any hm (wpC_any (C:=C) _ _ _ _ ?_)
 have hix:∀ (is:List Nat),is.all (fun i=>decide (i<l.length))=true→(is.filterMap fun i=>l[i]?).length=is.length∧∀ j (h:j<is.length),l.toArray[is[j]]? = (is.filterMap fun i=>l[i]?)[j]? := by
  intro is
  induction is with
  | nil=>intro _;exact ⟨rfl,fun j h=>by simp at h⟩
  | cons i is ih=>
   intro hi
   simp only[List.all_cons,Bool.and_eq_true,decide_eq_true_eq] at hi
   obtain ⟨a1,a2⟩:=ih hi.2
   have e:l[i]? = some l[i]:=List.getElem?_eq_getElem hi.1
   constructor
   · simp only[List.filterMap_cons,e,List.length_cons,a1]
   · intro j hj
     simp only[List.filterMap_cons,e]
     cases j with
     | zero=>simp
     | succ j=>simpa using a2 j (by simpa using hj)
 obtain ⟨b1,b2⟩:=hix ix hall
 have hsz:l.toArray.size=ix.length+(tl.length+1):=by simp;omega
 rw[hsz] at hone ⊢
 refine one_lex (md:=.any) (n:=n) (k:=k) hQ hsel (fun listed a' hr hlex hop=>?_) ix hl _ a (by rw[hh];exact b1) (fun j hj=>by rw[hh];exact b2 j hj) hone h
 refine ⟨hC,fun h0=>by rw[hr] at h0;simp at h0,fun i hi=>?_⟩
 rw[hr] at hi
 have hin:i=n:=by simpa using hi
 subst hin
 unfold opC
 have ho':l.toArray[i]? = some o:=by simpa using ho
 simp only[ho']
 rw[if_pos (by simp[Region.wanted,hg])]
 refine Oper.wp_mono (fun a2 w2 h2=>?_) hop
 have h3:=wpAnyS_lex (md:=.any) (P:=P) (w:=w2) hsel tl k (listed.setIfInBounds i true) a2 (fun j=>by rw[ht];simp[List.getElem?_drop]) (by rw[show tl.length=l.toArray.size-k by simp;omega];exact hlex) h2.2
 exact wpC_of_still h2.1 _ _ _ h3
end
end Go.Proofs.YtmlkhhhjdpbhfaaGreatDoor
namespace Go.Proofs.YtmlkhhhjdpbhfaaGreatDoor
open Go.RowKit
set_option maxRecDepth 100000 in
set_option maxHeartbeats 8000000 in
theorem bytes_calls (c:Cx)(hc:CxOk c)(w:World)(s:Ts)(st:PS)(ho:Option Addr)(n:Nat)(hp:TPre c w s st none)(hbu:s.spans.length+s.fuel+1≤100000)(hn:n<4294967296):
 Calls Tryz.prog 192 #[.pointer (some ⟨c.tb,0,none⟩),spotV st.pl st.en ho,.int .u32 n] w fun e w'=>TPost c w s none false (ordT c.N s.fuel s.far n (quoteT (c.bs.extract st.pl (st.pl+n))) st) e w':=by
 have hlt:=hp.tr.blk.lt
 have hlt2:=hc.lt
 have hbs:=hc.bs
 have hpl:=hp.inv.pl
 have hen:=hp.inv.en
 have hrl:=hp.inv.rd
 have hrd:=hp.rd
 have HP:=hide' hp
 have HC:=hide' hc
 have HT2:=hide' (hp.tr.alloc (spotC st.pl st.en ho))
 have HF2:=hide' ((TF.refl c.tb c.rb none none w).alloc (spotC st.pl st.en ho))
 have HB2:=hide' (Blk.new w #[.int .i64 st.pl,.int .i64 st.en,.pointer ho] 159)
 have hs2:(w.alloc (spotC st.pl st.en ho)).heap.size=w.heap.size+1:=by simp
 unfold spotC at HT2 HF2 hs2
 clear hp hc
 unfold spotV
 go_enter Tryz.func192,Tryz.ntmps192
 go_wp2_with fail
 generalize w.alloc (.cells #[.int .i64 st.pl,.int .i64 st.en,.pointer ho] 159)=W2 at *
 cases hcr:canRead s.read st.pl st.en n
 · have HO:Hid (ordT c.N s.fuel s.far n (quoteT (c.bs.extract st.pl (st.pl+n))) st=failO s.fuel s.far st.pl st):=by
    have:ordT c.N s.fuel s.far n (quoteT (c.bs.extract st.pl (st.pl+n))) st=failO s.fuel s.far st.pl st:=by unfold ordT;rw[← hrd,hcr];rfl
    exact this
   refine (readOn_no c.gb c.rb c.tb c.bs hbs W2 s HT2.out st.pl st.en n ho hpl hen (by omega) hcr).mono ?_
   rintro e w3 ⟨rfl,ht3,hf3⟩
   have HC3:=hide' (Core.refl ht3 (HF2.out.trans hf3 (Or.inl rfl) (Or.inl rfl)) (by omega) none)
   have HB3:=hide' (hf3.blk HB2.out (by omega) (by omega) (by simp) (by simp))
   have HT3:=hide' ht3
   clear ht3 hf3 hcr HT2 HF2 HB2
   have a0:w3.cell? ⟨w.heap.size,0,none⟩=some (.int .i64 st.pl):=HB3.out.cell 0
   simp only
   go_wp2_with fail
   refine (fail_calls c.gb c.rb c.tb c.bs w3 s HT3.out st.pl).mono ?_
   rintro e w4 ⟨rfl,hw4⟩
   have HW4:=hide' hw4
   clear hw4
   simp only
   go_wp2_with fail
   go_ret3
   rw[HO.out]
   exact TPost.fail st.pl st HC3.out HW4.out _ _
 · have hcr2:canRead st.rd st.pl st.en n=true:=by rw[← hrd];exact hcr
   have hnn:n≤st.en-st.pl:=by
    unfold canRead at hcr2;simp only[Bool.and_eq_true,decide_eq_true_eq] at hcr2;exact hcr2.1
   have HO:Hid (ordT c.N s.fuel s.far n (quoteT (c.bs.extract st.pl (st.pl+n))) st=madeO c.N s.fuel s.far (readS st n) (quoteT (c.bs.extract st.pl (st.pl+n)))):=by
    have:ordT c.N s.fuel s.far n (quoteT (c.bs.extract st.pl (st.pl+n))) st=madeO c.N s.fuel s.far (readS st n) (quoteT (c.bs.extract st.pl (st.pl+n))):=by unfold ordT;rw[hcr2];rfl
    exact this
   refine (readOn_yes c.gb c.rb c.tb c.bs hbs W2 s HT2.out st.pl st.en n ho hpl hen (by omega) hcr (by omega)).mono ?_
   rintro e w3 ⟨rfl,sv,ht3,hf3,hsv3⟩
   have hf3':=HF2.out.size
   have HC3:Hid (Core c w s none s.fuel s.far w3 (tsRead s st.pl n sv)):=Core.read2 hcr (by rw[hrd,hrl];exact hen) hpl hbu HF2.out ht3 hf3 hsv3
   have hnb:some w.heap.size≠s.sv.ownBlock:=fun e=>by have:=HP.out.tr.svlt _ e.symm;omega
   have HB3:=hide' (hf3.blk HB2.out (by omega) (by omega) hnb (by simp))
   have hs3:=hf3.size
   have hxs:(c.bs.extract st.pl (st.pl+n)).size=n:=by rw[ByteArray.size_extract];omega
   clear ht3 hf3 hcr HT2 HF2 HB2 hsv3
   have a0:w3.cell? ⟨w.heap.size,0,none⟩=some (.int .i64 st.pl):=HB3.out.cell 0
   have hwlt:w.heap.size<w3.heap.size:=by omega
   simp only
   go_wp2_with fail
   have hnd:=HP.out.nd
   have hval:=HP.out.inv.vals
   cases hm:s.nodes with
   | zero=>
    have HMN:=hide' (fun W (h:TrAt c.gb c.rb c.tb c.bs W (tsRead s st.pl n sv))=>made_none c.gb c.rb c.tb c.bs W _ h 2 0 (c.bs.extract st.pl (st.pl+n)) (.slice none 0 0) hm rfl)
    refine wp_region_one (fun W=>W.cell? ⟨w.heap.size,0,none⟩=some (.int .i64 st.pl)) [0,1,2,4,5,6,7,8] 3 9 _ _ _ rfl rfl rfl rfl (by kernel_rfl) (by kernel_rfl) (fun _ _ d _ _ h=>by cases d<;>exact h) ?_ a0
    simp only[List.filterMap_cons,List.filterMap_nil,List.getElem?_cons_zero,List.getElem?_cons_succ,List.drop_succ_cons,List.drop_zero]
    refine wpX_step _ rfl (fun W hW=>rfl) ?_
    refine wpX_step _ rfl (fun W hW=>rfl) ?_
    refine wpX_step _ rfl (fun W hW=>by go_simp;rfl) ?_
    refine wpX_step _ rfl (fun W hW=>rfl) ?_
    refine wpX_step (.int .i64 st.pl) rfl (fun W hW=>by go_simp) ?_
    refine wpX_step _ rfl (fun W hW=>rfl) ?_
    refine wpX_step _ rfl (fun W hW=>by go_simp;rfl) ?_
    refine wpX_step _ rfl (fun W hW=>by go_simp;rfl) ?_
    refine wpX_nil ?_
    unfold Oper.wp
    go_simp
    refine (HMN.out _ (HC3.out.tr.drewN 1)).mono ?_
    rintro e w5 ⟨rfl,rfl⟩
    simp only
    refine ⟨rfl,?_⟩
    rw[HO.out]
    exact TPost.dead (HC3.out.drewN 1) _ (by simp only[readS];omega)
   | succ m=>
    have HMS:=hide' (fun W (h:TrAt c.gb c.rb c.tb c.bs W (tsRead s st.pl n sv))=>made_some c.gb c.rb c.tb c.bs W _ h 2 0 (c.bs.extract st.pl (st.pl+n)) (.slice none 0 0) m hm (by have:=HC.out.N;omega) rfl)
    refine wp_region_one (fun W=>W.cell? ⟨w.heap.size,0,none⟩=some (.int .i64 st.pl)) [0,1,2,4,5,6,7,8] 3 9 _ _ _ rfl rfl rfl rfl (by kernel_rfl) (by kernel_rfl) (fun _ _ d _ _ h=>by cases d<;>exact h) ?_ a0
    simp only[List.filterMap_cons,List.filterMap_nil,List.getElem?_cons_zero,List.getElem?_cons_succ,List.drop_succ_cons,List.drop_zero]
    refine wpX_step _ rfl (fun W hW=>rfl) ?_
    refine wpX_step _ rfl (fun W hW=>rfl) ?_
    refine wpX_step _ rfl (fun W hW=>by go_simp;rfl) ?_
    refine wpX_step _ rfl (fun W hW=>rfl) ?_
    refine wpX_step (.int .i64 st.pl) rfl (fun W hW=>by go_simp) ?_
    refine wpX_step _ rfl (fun W hW=>rfl) ?_
    refine wpX_step _ rfl (fun W hW=>by go_simp;rfl) ?_
    refine wpX_step _ rfl (fun W hW=>by go_simp;rfl) ?_
    refine wpX_nil ?_
    unfold Oper.wp
    go_simp
    refine (HMS.out _ (HC3.out.tr.drewN 1)).mono ?_
    rintro e w5 ⟨rfl,ht5,hf5,hb5,hs5⟩
    have HC5:=hide' ((HC3.out.drewN 1).made ht5 hf5)
    have HB5:=hide' (hf5.blk (show Blk (w3.drewN 1) w.heap.size _ _ from HB3.out) (by omega) (by omega) (by simp) (by simp))
    have HV5:=hide' hb5
    have hs6:w5.heap.size=w3.heap.size+1:=hs5
    clear ht5 hf5 hb5 hs5
    simp only
    refine ⟨HB5.out.cell 0,?_⟩
    repeat still_step
    refine wpStill_nil ?_
    go_wp2_with fail
    go_ret3
    rw[HO.out]
    have hne:¬ (readS st n).vals=c.N:=by simp only[readS];omega
    unfold madeO
    rw[if_neg hne]
    refine Or.inr (Or.inl ⟨rfl,rfl,_,_,?_,HC5.out,?_,?_,Or.inr ⟨rfl,1,w3.heap.size,rfl,?_⟩,fun h e=>by cases e⟩)
    · simp[fitO,readS]
      exact wrapI64 _ (by omega) (by omega)
    · simp only[tsRead,fitO,readS];rw[hrd]
    · simp only[fitO,readS];omega
    · exact leafV (w:=w5) (lo:=w.heap.size) (sb:=sv.ownBlock) HV5.out (by omega) (fun e=>by have:=HC3.out.tr.svlt _ e.symm;omega) (k:=2) (n:=0) (run:=c.bs.extract st.pl (st.pl+n)) ⟨by omega,by omega⟩ ⟨by omega,by omega⟩ (by omega)
end Go.Proofs.YtmlkhhhjdpbhfaaGreatDoor

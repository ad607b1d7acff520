import Derived.Test.YtmlkhhhjdpbhfaaGreatDoorFo52
import Derived.Test.YtmlkhhhjdpbhfaaGreatDoorFo51
import Derived.Test.YtmlkhhhjdpbhfaaGreatDoorFo31
import Derived.Test.YtmlkhhhjdpbhfaaGreatDoorTie
import Derived.Test.YtmlkhhhjdpbhfaaGreatDoorCards
import Derived.SevenTiedAt
namespace Go.Proofs.YtmlkhhhjdpbhfaaGreatDoor
open Go.RowKit
theorem has8 (s:ByteArray)(h:(formV s).ok=true)(i:Nat)(hi:ruleHas (formV s).rls i=true):i<8:=by
 obtain ⟨j,hj,e,_⟩:=ruleHas_find hi
 have:=((rules_ord s 8 65 0 (by omega) h).2.1 _ (List.getElem_mem hj)).num
 omega
theorem inv0 (bs:ByteArray)(N:Nat):PInv bs N (st0 bs):=⟨Nat.zero_le _,Nat.le_refl _,by simp[st0],Nat.zero_le _,fun d=>⟨by simp[st0],by simp[st0]⟩⟩
theorem out_fit (s bs:ByteArray)(hp:(pressV s).1=0)(fuel N:Nat)(hok:(outT s bs fuel N).ok=true):FitV (rulePt (rlsOf s)) (rulePt (rlsOf s) 0) (outT s bs fuel N).t:=by
 obtain ⟨_,hform,_,_⟩:=pressV_ok s hp
 have hw:=rule_wf s hp 0 (form_first s hform)
 exact tryT_fit (R:=ruleHas (rlsOf s)) (fun i hi=>has8 s hform i hi) (fun r hr=>rule_wf s hp r hr) (fuel+1) fuel 0 false false false _ (st0 bs) hw (inv0 bs N) hok (silK_not hw rfl)
theorem out_far (s bs:ByteArray)(hp:(pressV s).1=0)(fuel N:Nat):(outT s bs fuel N).far≤bs.size:=by
 obtain ⟨_,hform,_,_⟩:=pressV_ok s hp
 exact tryT_far (R:=ruleHas (rlsOf s)) (fun r hr=>rule_wf s hp r hr) (fuel+1) fuel 0 false false false _ (st0 bs) (rule_wf s hp 0 (form_first s hform)) (inv0 bs N) (Nat.zero_le _)
theorem out_rd (s bs:ByteArray)(hp:(pressV s).1=0)(fuel N:Nat)(hok:(outT s bs fuel N).ok=true):(outT s bs fuel N).st.rd.length=bs.size:=by
 obtain ⟨_,hform,_,_⟩:=pressV_ok s hp
 exact ((tryT_ok (R:=ruleHas (rlsOf s)) (rulePt (rlsOf s)) (fun r hr=>rule_wf s hp r hr) (fuel+1)).fit fuel 0 false false false _ (st0 bs) (rule_wf s hp 0 (form_first s hform)) (inv0 bs N) hok).1.inv.rd
theorem tree_fit (G:Nat→List It)(k:List It)(t:List UInt8)(h:FitV G k t)(hl:t.length≤8000):∃ v:Tr ((⟨t.toArray⟩:ByteArray).size+1),(treeV ⟨t.toArray⟩).1=some v∧hasT G ((⟨t.toArray⟩:ByteArray).size+1) k v=true:=by
 have hs:(⟨t.toArray⟩:ByteArray).size=t.length:=by show t.toArray.size=_;simp
 obtain ⟨v,a,b,c⟩:=h.at ((⟨t.toArray⟩:ByteArray).size+1) (by rw[hs];omega)
 refine ⟨v,?_,c⟩
 have hp:Pos ⟨t.toArray⟩ 0 (txtT _ v++[]):=by
  rw[List.append_nil,b]
  exact ⟨by simp,Nat.zero_le _⟩
 have hv:=valV_txt ⟨t.toArray⟩ _ v a 0 [] hp (fun c r e=>by cases e)
 unfold treeV
 rw[if_neg (by rw[hs];omega),if_pos (by rw[hv];simp only;rw[b,hs];omega),hv]
structure ForthOk (s bs:ByteArray) (q:List UInt8 × Int × Int):Prop where
 no:q.2.1≠0→q.1=[]∧(q.2.1=6∨q.2.1=7∨q.2.1=8)∧0≤q.2.2∧q.2.2≤(bs.size:Int)
 yes:q.2.1=0→q.1.length≤8000→(genV s ⟨q.1.toArray⟩ 4000).2.1=0∨(genV s ⟨q.1.toArray⟩ 4000).2.1=11∨(genV s ⟨q.1.toArray⟩ 4000).2.1=12∨(genV s ⟨q.1.toArray⟩ 4000).2.1=13
theorem endT_place (o:PO)(n:Nat)(h1:o.far≤n)(h2:o.ok=true→o.st.rd.length=n):(endT o).2.2≤n:=by
 unfold endT
 split
 · exact Nat.zero_le _
 · split
   · exact h1
   · rename_i hk
     have hk':o.ok=true:=by simpa using hk
     split
     · rename_i i hi
       have:=(List.findIdx?_eq_some_iff_getElem.1 hi).1
       have:=h2 hk'
       simp only
       omega
     · exact Nat.zero_le _
theorem forth_ok (s bs:ByteArray)(hp:pressV s=(0,0))(hbs:bs.size≤4000):ForthOk s bs (parseV s bs 100000 10000):=by
 have hz:(pressV s).1=0:=by rw[hp]
 have hpv:=parseV_in s bs 100000 10000 hp hbs (by omega) (by omega)
 have hpv':parseV s bs 100000 10000=_:=hpv
 rw[hpv']
 have hk:=endT_kinds (outT s bs 100000 10000) (e_try _ _ _ _ _ _ _ _ _)
 have hpl:=endT_place (outT s bs 100000 10000) bs.size (out_far s bs hz 100000 10000) (fun h=>out_rd s bs hz 100000 10000 h)
 refine ⟨fun h=>?_,fun h hl=>?_⟩
 · simp only at h ⊢
   have h':(endT (outT s bs 100000 10000)).2.1≠0:=fun e=>h (by rw[e];rfl)
   obtain ⟨h1,_,_⟩:=hk
   exact ⟨endT_text _ h',by omega,by omega,by omega⟩
 · simp only at h hl ⊢
   have h':(endT (outT s bs 100000 10000)).2.1=0:=by omega
   have hok:=endT_ok _ h'
   have ht:(endT (outT s bs 100000 10000)).1=(outT s bs 100000 10000).t:=by
    unfold endT at h' ⊢
    split
    · rename_i h1;rw[if_pos h1] at h';exact absurd h' h1
    · rename_i h1
      rw[if_neg h1] at h'
      split
      · rename_i h2;rw[if_pos h2] at h';cases h'
      · rename_i h2
        rw[if_neg h2] at h'
        split
        · rename_i h3;rw[h3] at h';cases h'
        · rfl
   rw[ht] at hl ⊢
   have hf:=out_fit s bs hz 100000 10000 hok
   generalize (outT s bs 100000 10000).t=t at *
   obtain ⟨v,hv,hh⟩:=tree_fit _ _ t hf hl
   unfold genV
   rw[if_neg (fun h=>h hz),hv]
   simp only
   rw[if_neg (by decide)]
   have hcode:=genT_code (rulePt (rlsOf s)) (⟨t.toArray⟩:ByteArray).size v 4000
   have h10:(genT (rulePt (rlsOf s)) (⟨t.toArray⟩:ByteArray).size v 4000).2≠10:=by
    unfold genT
    rw[if_neg (by rw[hh];simp)]
    simp only
    split
    · decide
    · split<;>simp
   split
   · show (genT (rulePt (rlsOf s)) (⟨t.toArray⟩:ByteArray).size v 4000).2=0∨(genT (rulePt (rlsOf s)) (⟨t.toArray⟩:ByteArray).size v 4000).2=11∨(genT (rulePt (rlsOf s)) (⟨t.toArray⟩:ByteArray).size v 4000).2=12∨(genT (rulePt (rlsOf s)) (⟨t.toArray⟩:ByteArray).size v 4000).2=13
     omega
   · split
     · exact Or.inl rfl
     · exact Or.inr (Or.inr (Or.inr rfl))
set_option maxRecDepth 100000 in
set_option maxHeartbeats 2000000 in
theorem forth_calls (w:World)(v1 v2:Value)(l1 l2:List Int)(h1:RowN w w.heap.size v1 l1)(h2:RowN w w.heap.size v2 l2)(hS:Shp w)(hP:PowW w):
 Calls Tryz.prog 7 #[v1,v2] w fun e w'=>e=.returned (.bool true)∧Below w.heap.size w w':=by
 have H1:=hide' h1
 have H2:=hide' h2
 have HS:=hide' hS
 have HP:=hide' hP
 clear h1 h2 hS hP
 go_enter Tryz.func7,Tryz.ntmps7
 go_wp2_with fail
 refine (grammar_calls w v1 l1 H1.out).mono ?_
 rintro e w1 ⟨⟨p1,p2,p3,hp1,hp2,hp3,hor⟩,hb1⟩
 obtain ⟨g,hg,hgs,rfl⟩:∃ g:ByteArray,pressV g=(0,0)∧g.size≤400∧e=.returned (.string g):=by
  rcases hor with ⟨_,he⟩ | ⟨hs,he⟩
  · exact ⟨_,plain_ok,by decide,he⟩
  · exact ⟨_,made_ok p1 p2 p3 hp1 hp2 hp3 hs,hs,he⟩
 have HG:=hide' hg
 have HB1:=hide' hb1
 clear hp1 hp2 hp3 hor hg hb1
 go_wp2_with fail
 refine (kbytes_calls w1 v2 l2 (H2.out.below HB1.out)).mono ?_
 rintro e w2 ⟨⟨b,hbs,rfl⟩,hb2⟩
 have HB2:=hide' (HB1.out.trans (hb2.mono HB1.out.size))
 clear hb2 HB1
 go_wp2_with fail
 refine (awake_calls w2 (HS.out.below HB2.out) (HP.out.below HB2.out)).mono ?_
 rintro e w3 ⟨rfl,hb3⟩
 have HB3:=hide' (HB2.out.trans (hb3.mono HB2.out.size))
 clear hb3
 go_wp2_with fail
 refine (pface_calls g b (by unfold maxLen;omega) (by unfold maxLen;omega) 100000 10000 w3 (HS.out.below HB3.out) (HP.out.below HB3.out)).mono ?_
 rintro e w4 ⟨rfl,hb4⟩
 have HB4:=hide' (HB3.out.trans (hb4.mono HB3.out.size))
 have HOk:=hide' (forth_ok g b HG.out (by omega))
 clear hb4
 generalize parseV g b 100000 10000=q at *
 obtain ⟨t1,e1,a1⟩:=q
 by_cases he:e1=0
 · subst he
   have hts:(⟨t1.toArray⟩:ByteArray).size=t1.length:=by show t1.toArray.size=_;simp
   by_cases hl:t1.length≤8000
   · have hl1:¬ (8000:Int)<(t1.length:Int):=by omega
     have HY:=hide' (HOk.out.yes rfl hl)
     have HBk:=hide' (back_ok g ⟨t1.toArray⟩ 4000 (by omega) HG.out)
     clear HOk
     simp only at HY ⊢
     go_wp2_with fail
     refine (gface_calls g ⟨t1.toArray⟩ (by unfold maxLen;omega) (by unfold maxLen;omega) 4000 w4 (HS.out.below HB4.out) (HP.out.below HB4.out)).mono ?_
     rintro e w5 ⟨rfl,hb5,hlen⟩
     have HB5:=hide' (HB4.out.trans (hb5.mono HB4.out.size))
     have HLen:=hide' hlen
     have HBk2:Hid (BackOk g ⟨t1.toArray⟩ 4000 (genV g ⟨t1.toArray⟩ 4000)):=HBk.out
     clear hb5 hlen HBk
     generalize genV g ⟨t1.toArray⟩ 4000=q at *
     obtain ⟨t2,e2,a2⟩:=q
     have hy:=HY.out
     simp only at hy
     clear HY
     by_cases he2:e2=0
     · subst he2
       clear hy
       have hl0:t2.length≤4000:=by have:=HLen.out rfl;simp only at this;omega
       obtain ⟨y1,y2⟩:=HBk2.out.yes rfl hl0
       have HY1:=hide' y1
       have HY2:=hide' y2
       have hts2:(⟨t2.toArray⟩:ByteArray).size=t2.length:=by show t2.toArray.size=_;simp
       clear y1 y2 HBk2 HLen
       simp only at HY1 HY2 ⊢
       generalize (⟨t1.toArray⟩:ByteArray)=tb at *
       go_wp2_with fail
       refine (pface_calls g ⟨t2.toArray⟩ (by unfold maxLen;omega) (by unfold maxLen;omega) 100000 10000 w5 (HS.out.below HB5.out) (HP.out.below HB5.out)).mono ?_
       rintro e w6 ⟨rfl,hb6⟩
       have HB6:=hide' (HB5.out.trans (hb6.mono HB5.out.size))
       clear hb6
       rw[HY1.out,HY2.out]
       clear HY1 HY2
       go_wp2_with fail
       go_ret
       exact ⟨by simp,HB6.out⟩
     · clear HBk2 HLen
       have hy2:e2=11∨e2=12∨e2=13:=by omega
       clear hy he2
       simp only
       rcases hy2 with rfl | rfl | rfl
       all_goals
        go_wp2_with fail
        go_ret
        exact ⟨by simp,HB5.out⟩
   · have hl1:(8000:Int)<(t1.length:Int):=by omega
     clear HOk
     simp only
     go_wp2_with fail
     go_ret
     exact ⟨by simp,HB4.out⟩
 · obtain ⟨n1,n2,n3,n4⟩:=HOk.out.no he
   simp only at n1 n2 n3 n4 he
   subst n1
   clear HOk he
   have n5:¬ a1<0:=by omega
   have n6:¬ (b.size:Int)<a1:=by omega
   simp only
   rcases n2 with rfl | rfl | rfl
   all_goals
    go_wp2_with fail
    go_ret
    exact ⟨by simp,HB4.out⟩
end Go.Proofs.YtmlkhhhjdpbhfaaGreatDoor
namespace Go.Proofs.YtmlkhhhjdpbhfaaGreatDoor
open Go.ChangeShapes Go.WideShapes Go.ChangeAt Go.WideMaps Go.WideElems Go.RowKit
section
variable {H:Type} {enc:TypeId × Value→H} {P:Program} {w:World} {base:Nat} {spare:Nat→Bool} {held:Bool} {t t1:TypeId}
theorem trod2 {args:Array Value}{ds:List (DataW H)}{ps:List MemPlace}(h:DataW.TrodAll enc P w base spare held [t,t1] args.toList ds ps):
 ∃ v v1 d d1 p p1,args=#[v,v1]∧ds=[d,d1]∧ps=p++p1∧DataW.Trod enc P w base spare held t v d p∧DataW.Trod enc P w base spare held t1 v1 d1 p1:=by
 obtain ⟨v,vs,d,ds0,p,q,hargs,rfl,rfl,hd,hr0⟩:=trodAll_cons h
 obtain ⟨v1,vs1,d1,ds1,p1,q1,rfl,rfl,rfl,hd1,hr1⟩:=trodAll_cons hr0
 obtain ⟨rfl,rfl,rfl⟩:=trodAll_nil hr1
 exact ⟨v,v1,d,d1,p,p1,by cases args;simp_all,rfl,by simp,hd,hd1⟩
theorem trodMk2 {v v1:Value}{d d1:DataW H}{p p1:List MemPlace}(h:DataW.Trod enc P w base spare held t v d p)(h1:DataW.Trod enc P w base spare held t1 v1 d1 p1):
 DataW.TrodAll enc P w base spare held [t,t1] [v,v1] [d,d1] (p++p1):=⟨p,p1,h,trodAll_mk1 h1,rfl⟩
end
set_option maxRecDepth 100000 in
theorem ft_lifted (os:Os)(started:os.Started)(H:Type)(enc:TypeId × Value→H):
 ReturnsInHanded {} Tryz.checked os 7 .any (fun w args=>(Rows.forthSpec.pre enc Tryz.prog Tryz.f7 [] false w args∧laidMetH Tryz.prog lawLaid w)∧sizedMet enc Tryz.prog Tryz.f7 (OpenSpec.ofChange Rows.forthSpec) false w args)
  (Rows.forthSpec.post enc Tryz.prog Tryz.f7 false true false false):=by
 refine returnsInHanded_of_change_and (C:=Tryz.checked) (X:=fun w _=>laidMetH Tryz.prog lawLaid w) (fun _ _ _ hh h=>h.of_heap hh) law_own started (by kernel_rfl) Tryz.func7
  (ChangeSpec.witness_at (enc:=enc) (C:=Tryz.checked) (os:=os) (X:=fun w _=>laidMetH Tryz.prog lawLaid w) false ({ World.holding Tryz.prog os ⟨#[],#[],[]⟩ with heap:=parHeap (World.holding Tryz.prog os ⟨#[],#[],[]⟩).heap }:World) #[.slice none 0 0,.slice none 0 0] 8 rfl (by kernel_rfl) (by kernel_rfl) (by kernel_rfl) (by kernel_rfl) (by kernel_rfl) (laidWorld_met os _)) ?_
 intro W base args ds gs before hval0 hW _ _ hL _
 have hval:∀ (j:Nat) t v,Tryz.f7.params[j]? = some t→args[j]? = some v→Value.okWide Tryz.prog W .any base t v:=hval0
 have hW':=hW
 obtain ⟨p,q,hA0,hV,rfl,hfz,hnd⟩:=hW
 have hA:DataW.TrodAll enc Tryz.prog W 0 (fun _=>true) true Tryz.f7.params.toList args.toList ds p:=hA0
 rw[Tryz.params7] at hA hval
 obtain ⟨v0,v1,d0,d1,p0,p1,rfl,rfl,rfl,h0,h1⟩:=trod2 hA
 obtain ⟨rfl,rfl⟩:=trodVars_none hV
 obtain ⟨l0,r0,lt0⟩:=open_nums (okWide_slice Tryz.underlying24 (hval 0 24 v0 rfl rfl)) h0
 obtain ⟨l1,r1,lt1⟩:=open_nums (okWide_slice Tryz.underlying24 (hval 1 24 v1 rfl rfl)) h1
 have hS:=shp_of hL
 have hP:=pow_of hL
 clear hA0 hval0
 refine (forth_calls W v0 v1 l0 l1 r0 r1 hS hP).mono fun e W' ⟨he,bel⟩=>?_
 subst he
 exact ⟨_,rfl,_,_,_,[],_,[],hW',trodAll_mk1 (shut_bool Tryz.underlying4 _),trodMk2 (Below.trod keep_laidOut (by kernel_rfl) (of_decide_eq_true (by kernel_rfl)) h0 bel lt0) (Below.trod keep_laidOut (by kernel_rfl) (of_decide_eq_true (by kernel_rfl)) h1 bel lt1),rfl,bel.frame _,fun h=>by cases h⟩
theorem forth_said:Rows.ForthSaid:=
 OpenClaim.holds_of_wide 7 Tryz.f7 rfl rfl rfl rfl rfl rfl rfl ⟨rfl,rfl,rfl,rfl,rfl⟩ rfl rfl rfl rfl rfl (by kernel_rfl) Tryz.func7 (by kernel_rfl)
  (of_decide_eq_true (by kernel_rfl)) (by unfold Func.isWrapper;first | (rw[if_pos (by decide +kernel)];kernel_rfl) | (rw[if_neg (by decide +kernel)];exact ⟨rfl,rfl⟩))
  (fun os started H enc _=>ft_lifted os started H enc)
theorem forth_holds:Rows.ForthCardSaid:=
 Claim7.holds_tied_plain_at .later [] [.data,.data,.data,.data] true (true, "6a1fd465f3fb11445f3add34bf3257ad4baedfe3326c66bb6f54bb55eadbdcba") true
  forth_said (fun _ h=>by cases h) (by kernel_rfl) (fun _ h=>by cases h) forth_row_tie rfl ⟨rfl,rfl⟩ (by kernel_rfl) rfl
  (fun f fn hf hfn=>by
    obtain rfl:f=7:=Option.some.inj ((show Tryz.prog.funcNamed Rows.forthRow.func=some 7 by kernel_rfl).symm.trans hf) |>.symm
    obtain rfl:fn=Tryz.f7:=(Option.some.inj (Tryz.func7.symm.trans hfn)).symm
    exact ⟨by kernel_rfl,fun j t ht=>by
     rw[Tryz.params7] at ht
     have h9:t=24:=by
      rcases j with _ | _ | j
      · simpa using ht.symm
      · simpa using ht.symm
      · simp at ht
     subst h9
     exact (show Tryz.prog.wantsStandIn 24=false by kernel_rfl)⟩)
  (by kernel_rfl)
#print axioms forth_holds
end Go.Proofs.YtmlkhhhjdpbhfaaGreatDoor

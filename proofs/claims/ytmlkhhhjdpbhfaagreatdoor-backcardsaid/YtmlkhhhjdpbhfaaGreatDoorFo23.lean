import Derived.Test.YtmlkhhhjdpbhfaaGreatDoorFo04
import Derived.Test.YtmlkhhhjdpbhfaaGreatDoorFo22
import Derived.Test.YtmlkhhhjdpbhfaaGreatDoorFo15
import Derived.Shelf.Strings.BuilderK
namespace Go.Proofs.YtmlkhhhjdpbhfaaGreatDoor
open Go.RowKit
def newCells (wk:Array Value)(rb:Nat)(bs:ByteArray)(fuel N:Nat):Array Value:=
 ((((Array.foldl (fun cs x=>cs.setIfInBounds x.snd x.fst) #[.nilFunc,.nilFunc,.nilFunc,.nilFunc,.nilFunc,.nilFunc,.nilFunc,.nilFunc,.nilFunc,.nilFunc,.nilFunc,.nilFunc,.nilFunc,.nilFunc,.nilFunc,.nilFunc,.nilFunc,.nilFunc,.nilFunc,.nilFunc,.nilFunc,.nilFunc,.nilFunc,.nilFunc,.nilFunc,.nilFunc,.nilFunc,.nilFunc,.nilFunc,.nilFunc,.nilFunc,.nilFunc,.nilFunc,.nilFunc,.nilFunc,.nilFunc,.nilFunc,.nilFunc,.nilFunc,.nilFunc,.nilFunc,.nilFunc,.nilFunc,.nilFunc,.nilFunc,.pointer none,.string { data:=#[] },.int .i64 0,.int .i64 0,.slice none 0 0,.slice none 0 0,.int .i64 0] wk.zipIdx 0 46).setIfInBounds
  46 (.string bs)).setIfInBounds 47 (.int .i64 fuel)).setIfInBounds 48 (.int .i64 N)).setIfInBounds 49 (.slice (some ⟨rb,0,none⟩) bs.size bs.size)
set_option maxRecDepth 100000 in
theorem newCells_eq (gb rb:Nat)(bs:ByteArray)(fuel N:Nat):newCells (wkC gb) rb bs fuel N=trCells gb rb bs (tsNew fuel N bs.size):=by kernel_rfl
theorem fold_size (a:Array (Value × Nat))(cs:Array Value)(i j:Nat):(Array.foldl (fun cs x=>cs.setIfInBounds x.snd x.fst) cs a i j).size=cs.size:=by
 rw[Array.foldl_eq_foldl_extract,← Array.foldl_toList]
 generalize (a.extract i j).toList=l
 induction l generalizing cs with
 | nil=>rfl
 | cons x r ih=>rw[List.foldl_cons,ih];simp
theorem fold_sizeL (l:List (Value × Nat))(cs:Array Value):(List.foldl (fun cs x=>cs.setIfInBounds x.snd x.fst) cs l).size=cs.size:=by
 induction l generalizing cs with
 | nil=>rfl
 | cons x r ih=>rw[List.foldl_cons,ih];simp
theorem tr_new {gb:Nat}{bs:ByteArray}{fuel N rb:Nat}{W:World}(hr:Blk W rb (Array.replicate bs.size (.bool false)) 4):TrAt gb rb W.heap.size bs (W.alloc (.cells (trCells gb rb bs (tsNew fuel N bs.size)) 154)).drew (tsNew fuel N bs.size):=by
 refine ⟨?_,?_,by simp[tsNew],World.ownsRow_nil _ _ _ _,hr.lt⟩
 · exact Blk.new _ _ _
 · have:((tsNew fuel N bs.size).read.map Value.bool).toArray=Array.replicate bs.size (.bool false):=by simp[tsNew]
   rw[this]
   exact Blk.alloc hr _
def ParsePost (w:World)(o:PO)(e:Ending)(w':World):Prop:=
 Below w.heap.size w w'∧((o.e≠0∧e=.panicked (outV o.e))∨(o.e=0∧∃ v,e=.returned (.tuple #[v,.int .i64 ((endT o).2.1:Int),.int .i64 ((endT o).2.2:Int)])∧((endT o).2.1=0→(endT o).1=o.t∧∃ vb f lo hi sb,v=.pointer (some ⟨vb,0,none⟩)∧RepV f w' lo hi sb vb o.t∧hi≤w'.heap.size)∧((endT o).2.1≠0→v=.pointer none)))
set_option maxRecDepth 100000 in
set_option maxHeartbeats 4000000 in
theorem parseP_calls (gb:Nat)(bs sg:ByteArray)(hbs:bs.size≤4000)(fuel N:Nat)(hfu:fuel≤100000)(_hN:N≤10000)(G:Nat→List It)(R:Nat→Bool)(w:World)(hgb:gb<w.heap.size)(hC:∀ rb tb,w.heap.size≤rb→rb<tb→CxOk ⟨w,gb,rb,tb,bs,N,G,R,sg⟩)(hA:∃ v g n cap pb f lo hi,Blk w gb #[v] 77∧v=.slice (some ⟨g,0,none⟩) n cap∧0<n∧g<w.heap.size∧w.cell? ⟨g,2,none⟩=some (.pointer (some ⟨pb,0,none⟩))∧RepS f w lo hi pb false (G 0)∧hi≤w.heap.size)(hwf:TrW R false false (G 0)):
 Calls Tryz.prog 41 #[.pointer (some ⟨gb,0,none⟩),.string bs,.int .i64 fuel,.int .i64 N] w fun e w'=>ParsePost w (tryT G bs N (fuel+1) fuel 0 false (G 0) (st0 bs)) e w':=by
 have hmk:=mk_read bs.size hbs
 obtain ⟨wk,dc,HNc,HWs,HD⟩:∃ (wk dc:Array Value),Hid (∀ rb,newCells wk rb bs fuel N=trCells gb rb bs (tsNew fuel N bs.size))∧Hid (wk.size=46)∧Hid (∀ W:World,Calls Tryz.prog 50 #[.pointer (some ⟨gb,0,none⟩)] W fun e w'=>e=.returned (.agg wk)∧w'=(W.alloc (.cells wk 115)).alloc (.cells dc 113)):=
  ⟨wkC gb,doFns.toArray,fun rb=>newCells_eq gb rb bs fuel N,rfl,fun W=>walkOf_calls W gb⟩
 have HCx:=hide' hC
 have HA:=hide' hA
 have HWf:=hide' hwf
 have hws:wk.size=46:=HWs.out
 have hfs:=fold_size
 have hfl:=fold_sizeL
 clear hC hA hwf
 go_enter Tryz.func41,Tryz.ntmps41
 go_wp2_with fail
 go_cut [11] (fun v11 wc=>∃ rb tb,v11=.pointer (some ⟨tb,0,none⟩)∧w.heap.size≤rb∧Below w.heap.size w wc∧TrAt gb rb tb bs wc (tsNew fuel N bs.size))
 case first=>
  go_region_with (first | (go_at_call 50;refine (HD.out _).mono ?_;rintro _ _ ⟨rfl,rfl⟩))
  · go_wp2_with fail
    go_meet
    case rel=>
     refine ⟨w.heap.size+1+1,w.heap.size+1+1+1,rfl,by omega,?_,?_⟩
     · exact (((((Below.refl w.heap.size w).alloc (Nat.le_refl _) _).alloc (by simp) _).alloc (by simp;omega) _).alloc (by simp;omega) _).drew
     · have hr:=Blk.new ((w.alloc (.cells wk 115)).alloc (.cells dc 113)) (Array.replicate bs.size (.bool false)) 4
       rw[show ((w.alloc (.cells wk 115)).alloc (.cells dc 113)).heap.size=w.heap.size+1+1 by simp] at hr
       have:=tr_new (gb:=gb) (fuel:=fuel) (N:=N) hr
       rw[← HNc.out] at this
       unfold newCells at this
       simp only[World.alloc,Array.size_push] at this ⊢
       exact this
  · go_wp2_with fail
    go_meet
    case rel=>
     refine ⟨w.heap.size,w.heap.size+1+1+1,rfl,by omega,?_,?_⟩
     · exact (((((Below.refl w.heap.size w).alloc (Nat.le_refl _) _).alloc (by simp) _).alloc (by simp;omega) _).alloc (by simp;omega) _).drew
     · have hr:=Blk.alloc (Blk.alloc (Blk.new w (Array.replicate bs.size (.bool false)) 4) (.cells wk 115)) (.cells dc 113)
       have:=tr_new (gb:=gb) (fuel:=fuel) (N:=N) hr
       rw[← HNc.out] at this
       unfold newCells at this
       simp only[World.alloc,Array.size_push] at this ⊢
       exact this
 case rest=>
  clear hfs hfl hws
  obtain ⟨rb,tb,hv11,hrb,hbel,htr⟩:=hcut
  subst hv11
  obtain ⟨v,g,n,cap,pb,f2,lo2,hi2,hg1,hgv,hn,hgl,hg2,hrep,hhi⟩:=HA.out
  subst hgv
  have hTL:=htr.blk.lt
  have hrt:=htr.lt
  have hcx:=HCx.out rb tb hrb hrt
  have g0:wc.cell? ⟨gb,0,none⟩=some (.slice (some ⟨g,0,none⟩) n cap):=by rw[hbel.cell (p:=⟨gb,0,none⟩) hgb];exact hg1.cell 0
  have g2:wc.cell? ⟨g,2,none⟩=some (.pointer (some ⟨pb,0,none⟩)):=by rw[hbel.cell (p:=⟨g,2,none⟩) hgl];exact hg2
  have hn':(0:Int)<(n:Int):=by omega
  have hpre:TPre ⟨w,gb,rb,tb,bs,N,G,R,sg⟩ wc (tsNew fuel N bs.size) (st0 bs) none:=⟨htr,hbel,by simp[tsNew,st0],rfl,⟨Nat.zero_le _,Nat.le_refl _,by simp[st0],Nat.zero_le _,fun d=>⟨by simp[st0],by simp[st0]⟩⟩,fun p hp=>by simp[tsNew] at hp,by simp[tsNew];omega,fun h e=>by cases e⟩
  have hnh:=HWf.out.notHid rfl
  have hcall:=tryC ⟨w,gb,rb,tb,bs,N,G,R,sg⟩ hcx (fuel+1) wc (tsNew fuel N bs.size) (st0 bs) none (G 0) false false false false f2 lo2 hi2 pb hpre hrep hhi HWf.out (fun h=>by rcases h with h | h<;>cases h) rfl (by simp[tsNew])
  rw[hidV_hidK hnh,silK_false hnh] at hcall
  have hcall2:Calls Tryz.prog 62 #[.pointer (some ⟨tb,0,none⟩),.pointer (some ⟨pb,0,none⟩),.agg #[.int .i64 0,.int .i64 bs.size,.pointer none]] wc fun e w'=>TPost ⟨w,gb,rb,tb,bs,N,G,R,sg⟩ wc (tsNew fuel N bs.size) none false (tryT G bs N (fuel+1) fuel 0 false (G 0) (st0 bs)) e w':=hcall
  have HCall:=hide' hcall2
  have HBel:=hide' hbel
  have HOk:Hid ((tryT G bs N (fuel+1) fuel 0 false (G 0) (st0 bs)).ok=true→Keeps bs N (st0 bs) false (tryT G bs N (fuel+1) fuel 0 false (G 0) (st0 bs))∧(tryT G bs N (fuel+1) fuel 0 false (G 0) (st0 bs)).e=0):=fun hok=>by have:=(tryT_ok G hcx.wf (fuel+1)).fit fuel 0 false false false (G 0) _ HWf.out hpre.inv hok;rw[hnh] at this;exact this
  clear hcall hcall2 hpre hcx htr hbel hmk
  go_wp2_with fail
  have hcall:=HCall.out
  clear HCall
  generalize ho':tryT G bs N (fuel+1) fuel 0 false (G 0) (st0 bs)=o at *
  have HOo:=hide' ho'
  clear ho'
  refine hcall.mono fun e3 w3 hpo=>?_
  have hk:=hpo.keeps
  have HB3:Hid (Below w.heap.size w w3):=HBel.out.trans (hk.below (by omega) (by simp only;omega) (by simp only;omega) (fun g e=>by simp[tsNew,Value.ownBlock] at e) (fun g e=>by cases e))
  clear hcall hk g0 g2
  rcases hpo with ⟨d1,d2,d3⟩ | ⟨d1,d2,s',v,d3,d4,d5,d6,d7,d8⟩ | ⟨d1,d2,s',v,k,d3,d4⟩
  · subst d2
    have hh:ParsePost w (tryT G bs N (fuel+1) fuel 0 false (G 0) (st0 bs)) (.panicked (outV o.e)) w3:=by
     rw[HOo.out];exact ⟨HB3.out,Or.inl ⟨d1,rfl⟩⟩
    have HH:=hide' hh
    clear d1 d3 hh
    simp only
    exact ⟨rfl,HH.out⟩
  · subst d3
    have hlr:s'.read.length=bs.size:=d4.tr.len
    have c19:w3.cell? ⟨tb,49,none⟩=some (.slice (some ⟨rb,0,none⟩) bs.size bs.size):=d4.tr.cread
    have HIx:=hide' (index_calls w3 (some ⟨rb,0,none⟩) bs.size bs.size (fun j=>s'.read.getD j false) false hbs (fun j hj=>⟨rb,0,rfl,by rw[Nat.zero_add];exact d4.tr.rcell j hj⟩))
    obtain ⟨vb,fv,hvv,hrv⟩:∃ vb fv,v=.pointer (some ⟨vb,0,none⟩)∧RepV fv w3 wc.heap.size w3.heap.size s'.sv.ownBlock vb o.t:=by
     rcases d7 with ⟨i1,_⟩ | ⟨_,fv,vb,i2,i3⟩
     · cases i1
     · exact ⟨vb,fv,i2,i3⟩
    subst hvv
    have hE:endT o=(match o.st.rd.findIdx? (fun b=>!b) with | some i=>([],8,i) | none=>(o.t,0,0)):=by unfold endT;rw[d1,d2];rfl
    rw[← d5] at hE
    have HE:=hide' hE
    have HRV:=hide' hrv
    have HD1:=hide' d1
    clear d1 d2 d4 d5 d6 d7 d8 hE hrv
    simp only
    go_wp2_with fail
    refine HIx.out.mono ?_
    rintro e4 w4 ⟨k,rfl,rfl,hfi⟩
    rcases hfi with ⟨i,rfl,hi,hri,hbe⟩ | ⟨rfl,hall⟩
    · have hf:s'.read.findIdx? (fun b=>!b)=some i:=by
       rw[List.findIdx?_eq_some_iff_getElem]
       refine ⟨by omega,?_,fun j hj=>?_⟩
       · have:=hri;simp only[List.getD_eq_getElem?_getD] at this;rw[List.getElem?_eq_getElem (by omega)] at this;simp at this;simp[this]
       · have:=hbe j hj;simp only[List.getD_eq_getElem?_getD] at this;rw[List.getElem?_eq_getElem (by omega)] at this;simp at this;simp[this]
      have hh:ParsePost w (tryT G bs N (fuel+1) fuel 0 false (G 0) (st0 bs)) (.returned (.tuple #[.pointer none,.int .i64 8,.int .i64 i])) w4:=by
       have he:=HE.out
       rw[hf] at he
       simp only at he
       rw[HOo.out]
       refine ⟨HB3.out,Or.inr ⟨HD1.out,.pointer none,?_,?_,?_⟩⟩
       · rw[he];rfl
       · rw[he];intro h;cases h
       · intro _;rfl
      have HH:=hide' hh
      have hi0:(0:Int)≤(i:Int):=by omega
      clear hh hf hri hbe HE
      simp only
      go_wp2_with fail
      go_ret3
      exact HH.out
    · have hf:s'.read.findIdx? (fun b=>!b)=none:=by
       rw[List.findIdx?_eq_none_iff]
       intro b hb
       obtain ⟨j,hj,e⟩:=List.getElem_of_mem hb
       have:=hall j (by omega)
       simp only[List.getD_eq_getElem?_getD] at this;rw[List.getElem?_eq_getElem hj] at this;simp at this
       rw[← e,this];rfl
      have hh:ParsePost w (tryT G bs N (fuel+1) fuel 0 false (G 0) (st0 bs)) (.returned (.tuple #[.pointer (some ⟨vb,0,none⟩),.int .i64 0,.int .i64 0])) w4:=by
       have he:=HE.out
       rw[hf] at he
       simp only at he
       rw[HOo.out]
       refine ⟨HB3.out,Or.inr ⟨HD1.out,.pointer (some ⟨vb,0,none⟩),?_,?_,?_⟩⟩
       · rw[he];rfl
       · intro _;rw[he];exact ⟨rfl,vb,fv,_,_,_,rfl,HRV.out,Nat.le_refl _⟩
       · rw[he];intro h;exact absurd rfl h
      have HH:=hide' hh
      clear hh hf hall HE
      simp only
      go_wp2_with fail
      go_ret3
      exact HH.out
  · subst d3
    have c21:w3.cell? ⟨tb,51,none⟩=some (.int .i64 o.far):=by rw[← d4.far];exact d4.tr.cfar
    have hh:∀ m,ParsePost w (tryT G bs N (fuel+1) fuel 0 false (G 0) (st0 bs)) (.returned (.tuple #[.pointer none,.int .i64 8,.int .i64 o.far])) (w3.drewN m):=by
     intro m
     have he:endT o=([],8,o.far):=by unfold endT;rw[d1,d2];rfl
     rw[HOo.out]
     refine ⟨⟨HB3.out.os,HB3.out.tape,HB3.out.output,HB3.out.size,HB3.out.block⟩,Or.inr ⟨d1,.pointer none,?_,?_,?_⟩⟩
     · rw[he];rfl
     · rw[he];intro h;cases h
     · intro _;rfl
    have HH:=hide' hh
    clear hh
    clear d1 d2 d4
    simp only
    go_wp2_with fail
    go_quiet (fail)
    go_wp2_with fail
    go_ret3
    exact HH.out _
end Go.Proofs.YtmlkhhhjdpbhfaaGreatDoor
namespace Go.Proofs.YtmlkhhhjdpbhfaaGreatDoor
open Go
section
variable {P:Program} {md:Region.Mode} {C:World→Prop} {Q:Exit→Act→World→Prop} {l:List Oper}
def segB (md:Region.Mode)(ops:Array Oper):List (List Nat × Nat)→Array Bool→Bool
 | [],listed=>decide (Region.ready md ops listed=[])
 | q::r,listed=>q.1.all (fun i=>decide (i<ops.size))&&walkFrom md ops (fun ls=>decide (Region.ready md ops ls=[q.2])&&segB md ops r (ls.setIfInBounds q.2 true)) q.1 listed
def segN:List (List Nat × Nat)→Nat
 | []=>0
 | q::r=>q.1.length+(segN r+1)
def opH (P:Program)(ops:Array Oper)(Q:Exit→Act→World→Prop)(n:Nat)(K:Act→World→Prop)(a:Act)(w:World):Prop:=
 ∃ o,ops[n]? = some o∧o.guard=none∧o.wp P a w K Q
def wpSeg (P:Program)(ops:Array Oper)(C:World→Prop)(Q:Exit→Act→World→Prop):List (List Nat × Nat)→Act→World→Prop
 | [],a,w=>Q .normal a w
 | q::r,a,w=>wpX P ops C (fun a'=>opH P ops Q q.2 (fun a2 w2=>C w2∧wpSeg P ops C Q r a2 w2) a' w) (q.1.filterMap fun i=>ops[i]?) a
theorem opH_opC {ops:Array Oper}{n:Nat}{K K':Act→World→Prop}{a:Act}{w:World}(hk:∀ a w,K a w→K' a w)(h:opH P ops Q n K a w):opC P ops Q n K' a w:=by
 obtain ⟨o,ho,hg,h⟩:=h
 unfold opC
 simp only[ho]
 rw[if_pos (by simp[Region.wanted,hg])]
 exact Oper.wp_mono (fun a2 w2 h2=>hk a2 w2 h2) h
theorem picked2 (ix:List Nat)(h:ix.all (fun i=>decide (i<l.toArray.size))=true):(ix.filterMap fun i=>l.toArray[i]?).length=ix.length∧∀ j (h:j<ix.length),l.toArray[ix[j]]? = (ix.filterMap fun i=>l.toArray[i]?)[j]? := by
 have:=picked l ix (by simpa using h)
 simpa using this
theorem seg_wpC (hQ:∀ ch a d v w,Q (.panic ch) (Act.put a d v) w→Q (.panic ch) a w)(hsel:Region.noSelect l.toArray=true)(s:List (List Nat × Nat)):
 ∀ (listed:Array Bool) (a:Act) (w:World),segB md l.toArray s listed=true→C w→wpSeg P l.toArray C Q s a w→wpC P md l.toArray C Q (segN s) listed a w:=by
 induction s with
 | nil=>
  intro listed a w hB hC h
  exact ⟨hC,by simpa[segB] using hB,h⟩
 | cons q r ih=>
  intro listed a w hB hC h
  simp only[segB,Bool.and_eq_true] at hB
  obtain ⟨b1,b2⟩:=picked2 q.1 hB.1
  refine walk_lex hQ hsel (fun ls a' hf hop=>?_) q.1 _ _ a b1 b2 hB.2 h
  simp only[Bool.and_eq_true,decide_eq_true_eq] at hf
  refine ⟨hC,fun h0=>by rw[hf.1] at h0;simp at h0,fun i hi=>?_⟩
  rw[hf.1] at hi
  have hin:i=q.2:=by simpa using hi
  subst hin
  exact opH_opC (fun a2 w2 h2=>ih _ a2 w2 hf.2 h2.1 h2.2) hop
theorem wp_region_seg {id:Nat}{a:Act}{w:World}(C:World→Prop)(s:List (List Nat × Nat))(hm:P.follows .mixedOrders=true)(hB:(Region.noSelect l.toArray&&decide (segN s=l.length)&&segB .any l.toArray s (Array.replicate l.toArray.size false))=true)(hQ:∀ ch a d v w,Q (.panic ch) (Act.put a d v) w→Q (.panic ch) a w)(hC:C { w with drawn:=w.drawn+1 })(h:wpSeg P l.toArray C Q s a { w with drawn:=w.drawn+1 }):(Code.region id l.toArray true).wp P Q a w:=by
 simp only[Bool.and_eq_true,decide_eq_true_eq] at hB
 obtain ⟨⟨hsel,hlen⟩,hs⟩:=hB
 refine wp_region_any hm (wpC_any (C:=C) _ _ _ _ ?_)
 have:=seg_wpC (md:=.any) hQ hsel s _ a _ hs hC h
 have e:l.toArray.size=segN s:=by simp[hlen]
 rw[e]
 rw[e] at this
 exact this
end
end Go.Proofs.YtmlkhhhjdpbhfaaGreatDoor
namespace Go.Proofs.YtmlkhhhjdpbhfaaGreatDoor
open Go.RowKit
set_option maxRecDepth 100000 in
set_option maxHeartbeats 2000000 in
theorem rec_out (b1 b2 b3:Nat)(n:Nat)(w:World)(s0:ByteArray)(e0 p0:Int)(h1:Blk w b1 #[.string s0] 9)(h2:Blk w b2 #[.int .i64 e0] 27)(h3:Blk w b3 #[.int .i64 p0] 3)(n12:b1<b2)(n23:b2<b3):
 CallsD Tryz.prog 40 #[.pointer (some ⟨b1,0,none⟩),.pointer (some ⟨b2,0,none⟩),.pointer (some ⟨b3,0,none⟩)] (.panicking (outV n)) w fun e u' w'=>e=.returned (.tuple #[])∧u'=.panicking [{ v:=.iface 81 (.agg #[.int .i64 n]),recovered:=true }]∧
  Blk w' b1 #[.string ⟨#[]⟩] 9∧Blk w' b2 #[.int .i64 n] 27∧Blk w' b3 #[.int .i64 0] 3∧Below b1 w w':=by
 have n12':b1≠b2:=by omega
 have n13':b1≠b3:=by omega
 have n23':b2≠b3:=by omega
 have n21:¬ b2=b1:=by omega
 have n31:¬ b3=b1:=by omega
 have n32:¬ b3=b2:=by omega
 unfold outV
 refine callsD_of_wpS Tryz.func40 rfl fun c₀ cs hu=>?_
 apply wpS_seq
 apply wpS_region
 simp[wpOpsS,go_sem,recoverD,hu,Tryz.ntmps40,Exit.thenS]
 refine wpS_of_wp ?_
 have hfr:(#[.pointer (some ⟨b1,0,none⟩),.pointer (some ⟨b2,0,none⟩),.pointer (some ⟨b3,0,none⟩)]:Array Value)++((Array.replicate 16 undef).setIfInBounds 3 (.iface 81 (.agg #[.int .i64 n]))).setIfInBounds 0 (.iface 81 (.agg #[.int .i64 n]))=#[.pointer (some ⟨b1,0,none⟩),.pointer (some ⟨b2,0,none⟩),.pointer (some ⟨b3,0,none⟩),.iface 81 (.agg #[.int .i64 n]),undef,undef,.iface 81 (.agg #[.int .i64 n]),undef,undef,undef,undef,undef,undef,undef,undef,undef,undef,undef,undef]:=rfl
 rw[hfr]
 clear hfr
 have hta:∀ W,Sem.run Tryz.prog (Instr.typeAssert (.iface 81 (.agg #[.int .i64 n])) 20 81 true) W=.ok (.tuple #[.agg #[.int .i64 n],.bool true]) W:=fun W=>by kernel_rfl
 have c1:w.cell? ⟨b1,0,none⟩=some (.string s0):=h1.cell 0
 have c2:w.cell? ⟨b2,0,none⟩=some (.int .i64 e0):=h2.cell 0
 have c3:w.cell? ⟨b3,0,none⟩=some (.int .i64 p0):=h3.cell 0
 have f1:w.frozen? ⟨b1,0,none⟩=false:=h1.frozen 0
 have f2:w.frozen? ⟨b2,0,none⟩=false:=h2.frozen 0
 have f3:w.frozen? ⟨b3,0,none⟩=false:=h3.frozen 0
 have l1:=h1.lt
 have l2:=h2.lt
 have l3:=h3.lt
 have H1:=hide' h1
 have H2:=hide' h2
 have H3:=hide' h3
 clear h1 h2 h3
 go_wp2_with fail
 have HX:=hide' (Blk.new w #[.int .i64 n] 81)
 have HW:Hid (Below b1 w (w.alloc (.cells #[.int .i64 n] 81))):=(Below.refl _ _).alloc (by omega) _
 have H1':=hide' (Blk.alloc H1.out (.cells #[.int .i64 n] 81))
 have H2':=hide' (Blk.alloc H2.out (.cells #[.int .i64 n] 81))
 have H3':=hide' (Blk.alloc H3.out (.cells #[.int .i64 n] 81))
 clear c1 c2 c3 f1 f2 f3
 generalize w.alloc (.cells #[.int .i64 n] 81)=W1 at *
 have c1:W1.cell? ⟨b1,0,none⟩=some (.string s0):=H1'.out.cell 0
 have c2:W1.cell? ⟨b2,0,none⟩=some (.int .i64 e0):=H2'.out.cell 0
 have c3:W1.cell? ⟨b3,0,none⟩=some (.int .i64 p0):=H3'.out.cell 0
 have f1:W1.frozen? ⟨b1,0,none⟩=false:=H1'.out.frozen 0
 have f2:W1.frozen? ⟨b2,0,none⟩=false:=H2'.out.frozen 0
 have f3:W1.frozen? ⟨b3,0,none⟩=false:=H3'.out.frozen 0
 have hx:∀ W,Blk W w.heap.size #[.int .i64 n] 81→W.cell? ⟨w.heap.size,0,none⟩=some (.int .i64 n):=fun W h=>h.cell 0
 have x1:=HX.out.setOther ⟨b1,0,none⟩ (by simp only;omega) (.string ⟨#[]⟩)
 have x2:=x1.setOther ⟨b2,0,none⟩ (by simp only;omega) (.int .i64 n)
 have x3:=x2.setOther ⟨b3,0,none⟩ (by simp only;omega) (.int .i64 0)
 have HX1:=hide' x1
 have HX2:=hide' x2
 have HX3:=hide' x3
 clear x1 x2 x3
 refine wp_region_seg (fun W=>Blk W w.heap.size #[.int .i64 n] 81) [([0,1],2),([],3),([],4)] rfl (by kernel_rfl) (fun _ _ d _ _ h=>by cases d<;>exact h) HX.out ?_
 simp only[wpSeg,List.filterMap_cons,List.filterMap_nil,List.getElem?_toArray,List.getElem?_cons_zero,List.getElem?_cons_succ]
 refine wpX_step (.pointer (some ⟨w.heap.size,0,none⟩)) rfl (fun W hW=>by go_simp) ?_
 refine wpX_step (.int .i64 n) rfl (fun W hW=>by have h:=hx W hW;go_simp) ?_
 refine wpX_nil ⟨_,rfl,rfl,?_⟩
 unfold Oper.wp
 go_simp
 refine ⟨HX1.out,?_⟩
 refine wpX_nil ⟨_,rfl,rfl,?_⟩
 unfold Oper.wp
 go_simp
 refine ⟨HX2.out,?_⟩
 refine wpX_nil ⟨_,rfl,rfl,?_⟩
 unfold Oper.wp
 go_simp
 refine ⟨HX3.out,?_⟩
 have k1:Blk (((W1.setCell ⟨b1,0,none⟩ (.string ⟨#[]⟩)).setCell ⟨b2,0,none⟩ (.int .i64 n)).setCell ⟨b3,0,none⟩ (.int .i64 0)).drew b1 #[.string ⟨#[]⟩] 9:=((H1'.out.set 0 (.string ⟨#[]⟩)).setOther ⟨b2,0,none⟩ n12' _).setOther ⟨b3,0,none⟩ n13' _
 have k2:Blk (((W1.setCell ⟨b1,0,none⟩ (.string ⟨#[]⟩)).setCell ⟨b2,0,none⟩ (.int .i64 n)).setCell ⟨b3,0,none⟩ (.int .i64 0)).drew b2 #[.int .i64 n] 27:=((H2'.out.setOther ⟨b1,0,none⟩ (Ne.symm n12') _).set 0 (.int .i64 n)).setOther ⟨b3,0,none⟩ n23' _
 have k3:Blk (((W1.setCell ⟨b1,0,none⟩ (.string ⟨#[]⟩)).setCell ⟨b2,0,none⟩ (.int .i64 n)).setCell ⟨b3,0,none⟩ (.int .i64 0)).drew b3 #[.int .i64 0] 3:=((H3'.out.setOther ⟨b1,0,none⟩ (Ne.symm n13') _).setOther ⟨b2,0,none⟩ (Ne.symm n23') _).set 0 (.int .i64 0)
 have k4:Below b1 w (((W1.setCell ⟨b1,0,none⟩ (.string ⟨#[]⟩)).setCell ⟨b2,0,none⟩ (.int .i64 n)).setCell ⟨b3,0,none⟩ (.int .i64 0)).drew:=(((HW.out.setCell (p:=⟨b1,0,none⟩) (Nat.le_refl _) _).setCell (p:=⟨b2,0,none⟩) (by simp only;omega) _).setCell (p:=⟨b3,0,none⟩) (by simp only;omega) _).drew
 have K:=hide' (And.intro k1 (And.intro k2 (And.intro k3 k4)))
 clear k1 k2 k3 k4
 go_wp2_with fail
 generalize (((W1.setCell ⟨b1,0,none⟩ (.string ⟨#[]⟩)).setCell ⟨b2,0,none⟩ (.int .i64 n)).setCell ⟨b3,0,none⟩ (.int .i64 0)).drew=Wf at *
 exact ⟨rfl,_,rfl,.tuple #[],by simp[results,Tryz.results40,go_sem],rfl,rfl,K.out⟩
def budB (n most:Int):Bool:=decide (0≤n)&&decide (n≤most)
set_option maxHeartbeats 400000 in
theorem isBudget_calls (n most:Int)(w:World):
 Calls Tryz.prog 26 #[.int .i64 n,.int .i64 most] w fun e w'=>e=.returned (.bool (budB n most))∧w'=w:=by
 by_cases h1:0≤n
 · by_cases h2:n≤most
   · have HB:Hid (budB n most=true):=by unfold budB Hid;simp[h1,h2]
     rw[HB.out]
     go_enter Tryz.func26,Tryz.ntmps26
     go_wp2_with fail
     go_ret
     exact ⟨rfl,rfl⟩
   · have HB:Hid (budB n most=false):=by unfold budB Hid;simp[h2]
     rw[HB.out]
     go_enter Tryz.func26,Tryz.ntmps26
     go_wp2_with fail
     go_ret
     exact ⟨rfl,rfl⟩
 · have HB:Hid (budB n most=false):=by unfold budB Hid;simp[h1]
   rw[HB.out]
   go_enter Tryz.func26,Tryz.ntmps26
   go_wp2_with fail
   go_ret
   exact ⟨rfl,rfl⟩
theorem Tryz.sizeBld:(Tryz.prog.info? 163).map (·.size)=some 2:=by kernel_rfl
theorem Tryz.liesBld:liesAt Tryz.prog Tryz.prog.depth 163 (2 / Tryz.prog.cellsOf 163) 0 163 1=true:=by kernel_rfl
def byteC (l:List UInt8):List Value:=l.map fun c=>.int .u8 c.toNat
structure BldV (w:World) (B b:Nat) (l:List UInt8) (v:Value):Prop where
 ex:∃ p,(p=.pointer none∨p=.pointer (some ⟨b,0,none⟩))∧Blk w b #[p,v] 163∧w.ownsRow B 5 1 v l.length (byteC l)∧v.ownBlock≠some b
 ge:B≤b
def Bld (w:World)(B b:Nat)(l:List UInt8):Prop:=∃ v,BldV w B b l v
set_option maxRecDepth 100000 in
set_option maxHeartbeats 1000000 in
theorem copyCheck_calls (w:World)(B b:Nat)(l:List UInt8)(v:Value)(h:BldV w B b l v):
 Calls Tryz.prog 174 #[.pointer (some ⟨b,0,none⟩)] w fun e w'=>e=.returned (.tuple #[])∧Below B w w'∧Blk w' b #[.pointer (some ⟨b,0,none⟩),v] 163∧w'.ownsRow B 5 1 v l.length (byteC l)∧v.ownBlock≠some b∧w'.heap.size=w.heap.size∧∀ k,k≠b→w'.heap[k]? = w.heap[k]? := by
 obtain ⟨p,hp,hb,ho,hn⟩:=h.ex
 have hge:=h.ge
 have c0:w.cell? ⟨b,0,none⟩=some p:=hb.cell 0
 have f0:w.frozen? ⟨b,0,none⟩=false:=hb.frozen 0
 have HB:=hide' hb
 have HO:=hide' ho
 clear hb ho h
 have hsh:w.shape? b=some (163,2):=by have:=HB.out;unfold Blk at this;simp[World.shape?,this]
 obtain ⟨j,hj,hjs⟩:=Option.map_eq_some_iff.1 Tryz.sizeBld
 rcases hp with rfl | rfl
 · go_enter Tryz.func174,Tryz.ntmps174
   go_wp2_with fail
   rw[Lib.run_to_unsafe w ⟨b,0,none⟩ Tryz.underlying161 Tryz.underlying280 hj (by rw[hjs];decide) hsh (Nat.zero_lt_succ 1)]
   simp only[Result.andThen]
   rw[Oper.upon_value]
   go_wp2_with fail
   rw[run_callFunc_extern Tryz.func199 (by kernel_rfl) (by kernel_rfl) (by kernel_rfl) (e:=Extern.AbiNoEscape.same) (by kernel_rfl)]
   rw[Lib.run_noEscape]
   simp only[Result.andThen]
   rw[Oper.upon_value]
   go_wp2_with fail
   rw[Lib.run_from_unsafe w ⟨b,0,none⟩ Tryz.underlying280 Tryz.underlying161 hj hsh Tryz.liesBld]
   simp only[Result.andThen]
   rw[Oper.upon_value]
   go_wp2_with fail
   go_end0
   refine ⟨rfl,(Below.refl B w).setCell (p:=⟨b,0,none⟩) hge _,HB.out.set 0 _,ownsRow_blocks HO.out fun g e=>Below.heap_setCell _ _ _ _ (fun e2=>hn (by rw[e,e2])),hn,by simp[World.setCell],fun k hk=>Below.heap_setCell _ _ _ _ hk⟩
 · go_enter Tryz.func174,Tryz.ntmps174
   go_wp2_with fail
   rw[Lib.run_neq_ptr_same w _ Tryz.underlying161 hj]
   go_wp2_with fail
   go_end0
   exact ⟨rfl,Below.refl _ _,HB.out,HO.out,hn,rfl,fun _ _=>rfl⟩
theorem Tryz.infoByte:(Tryz.prog.info? 5).map (fun i=>(i.zero,i.size,i.bytes))=some (some (.int .u8 0),1,1):=by kernel_rfl
set_option maxRecDepth 100000 in
set_option maxHeartbeats 1000000 in
theorem writeByteV_calls (w:World)(B b:Nat)(l:List UInt8)(x:UInt8)(v:Value)(h:BldV w B b l v)(hl:l.length≤1000000000000)(hB:B≤w.heap.size):
 Calls Tryz.prog 107 #[.pointer (some ⟨b,0,none⟩),.int .u8 x.toNat] w fun e w'=>e=.returned .nilIface∧Below B w w'∧∃ v',BldV w' B b (l++[x]) v'∧(v'.ownBlock=v.ownBlock∨∃ g,v'.ownBlock=some g∧w.heap.size≤g)∧w.heap.size≤w'.heap.size∧∀ k,k<w.heap.size→k≠b→some k≠v.ownBlock→w'.heap[k]? = w.heap[k]? := by
 obtain ⟨i0,hi0,hz0,hz1,hz2⟩:=info_parts Tryz.infoByte
 have hge:=h.ge
 go_enter Tryz.func107,Tryz.ntmps107
 go_wp2_with fail
 refine (copyCheck_calls w B b l v h).mono ?_
 rintro e w1 ⟨rfl,hb1,hbk,hown,hne,hse,hke⟩
 have HSe:=hide' hse
 have HKe:=hide' hke
 clear hse hke
 have hs1:=hb1.size
 have hbl:=hbk.lt
 have c1:w1.cell? ⟨b,1,none⟩=some v:=hbk.cell 1
 have c1a:∀ o,(w1.alloc o).cell? ⟨b,1,none⟩=some v:=fun o=>(Blk.alloc hbk o).cell 1
 have HBk:=hide' hbk
 have HB1:=hide' hb1
 clear hbk hb1 h
 simp only
 go_wp2_with
  (at_builtin
   refine wpList_append_lies _ rfl _ _ _ rfl B 5 i0 _ 1 1 Tryz.underlying40 hi0 hz0 hz1 hz2 rfl (by omega) v l.length (byteC l) rfl (hown.alloc _) ⟨w1.heap.size,0,none⟩ 1 1 [.int .u8 x.toNat] rfl rfl (World.news_of_block (cs:=#[.int .u8 x.toNat]) (t:=5) (fr:=(0,0)) (heap_alloc_new w1 _)) (by simp[Value.oneCell']) (by omega) (by unfold maxLen;omega) (by omega) (by simp;omega) (w1.heap.size+1) (by simp) ?_
   intro g1 cap1 w5 hown5 hgrow hat5 hlt5
   have hb5:=Blk.grown (Blk.alloc HBk.out (.cells #[.int .u8 x.toNat] 5)) hgrow (fun e=>hne e.symm)
   have c5:w5.cell? ⟨b,1,none⟩=some v:=hb5.cell 1
   have f5:w5.frozen? ⟨b,1,none⟩=false:=hb5.frozen 1)
 go_ret
 have hse:=HSe.out
 have hke:=HKe.out
 have hs5:=hgrow.size
 simp at hs5
 have hg1:g1≠b:=by
  rcases hat5 with h | h
  · intro e;rw[e] at h;exact hne h
  · omega
 refine ⟨rfl,?_,_,⟨⟨_,Or.inr rfl,hb5.set 1 _,?_,?_⟩,hge⟩,?_,by simp[World.setCell];omega,fun k k1 k2 k3=>by rw[Below.heap_setCell _ _ _ _ k2,hgrow.block k (by simp;omega) k3,Below.heap_alloc _ _ _ (by omega)];exact hke k k2⟩
 · refine ⟨hgrow.os.trans HB1.out.os,hgrow.tape.trans HB1.out.tape,hgrow.output.trans HB1.out.output,by simp[World.setCell];omega,fun k hk=>?_⟩
   rw[Below.heap_setCell _ _ _ _ (by simp only;omega),hgrow.block k (by simp;omega) (fun e=>by have:=(hown.lt k e.symm).1;omega),Below.heap_alloc _ _ _ (by omega)]
   exact HB1.out.block k hk
 · refine ownsRow_blocks (w:=w5) ?_ (fun g e=>Below.heap_setCell _ _ _ _ (fun e2=>?_))
   · simpa[byteC] using hown5
   · simp[Value.ownBlock] at e;simp only at e2;omega
 · simp[Value.ownBlock];exact hg1
 · rcases hat5 with h | h
   · exact Or.inl (by rw[h];rfl)
   · exact Or.inr ⟨g1,rfl,by omega⟩
theorem writeByte_calls (w:World)(B b:Nat)(l:List UInt8)(x:UInt8)(h:Bld w B b l)(hl:l.length≤1000000000000)(hB:B≤w.heap.size):
 Calls Tryz.prog 107 #[.pointer (some ⟨b,0,none⟩),.int .u8 x.toNat] w fun e w'=>e=.returned .nilIface∧Below B w w'∧Bld w' B b (l++[x]):=by
 obtain ⟨v,h⟩:=h
 refine (writeByteV_calls w B b l x v h hl hB).mono ?_
 rintro e w' ⟨rfl,h1,v',h2,_⟩
 exact ⟨rfl,h1,v',h2⟩
theorem strCells_byteC (s:ByteArray):Lib.strCells s=byteC s.data.toList:=rfl
set_option maxRecDepth 100000 in
set_option maxHeartbeats 1000000 in
theorem writeString_calls (w:World)(B b:Nat)(l:List UInt8)(s:ByteArray)(h:Bld w B b l)(hl:l.length+s.size≤1000000000000)(hB:B≤w.heap.size):
 Calls Tryz.prog 105 #[.pointer (some ⟨b,0,none⟩),.string s] w fun e w'=>e=.returned (.tuple #[.int .i64 s.size,.nilIface])∧Below B w w'∧Bld w' B b (l++s.data.toList):=by
 obtain ⟨i0,hi0,hz0,hz1,hz2⟩:=info_parts Tryz.infoByte
 obtain ⟨v,h⟩:=h
 have hge:=h.ge
 go_enter Tryz.func105,Tryz.ntmps105
 go_wp2_with fail
 refine (copyCheck_calls w B b l v h).mono ?_
 rintro e w1 ⟨rfl,hb1,hbk,hown,hne,hse,hke⟩
 have HSe:=hide' hse
 have HKe:=hide' hke
 clear hse hke
 have hs1:=hb1.size
 have hbl:=hbk.lt
 have c1:w1.cell? ⟨b,1,none⟩=some v:=hbk.cell 1
 have HBk:=hide' hbk
 have HB1:=hide' hb1
 clear hbk hb1 h
 simp only
 go_wp2_with
  (at_builtin
   refine Lib.wpList_append_own_string _ rfl _ _ 40 9 rfl B 5 i0 Tryz.underlying40 Tryz.underlying9 hi0 hz0 hz1 hz2 v l.length (byteC l) rfl hown s rfl (by unfold maxLen;omega) (by omega) (by omega) ?_
   intro v5 w5 hown5 hgrow hx5
   have hb5:=Blk.grown HBk.out hgrow (fun e=>hne e.symm)
   have c5:w5.cell? ⟨b,1,none⟩=some v:=hb5.cell 1
   have f5:w5.frozen? ⟨b,1,none⟩=false:=hb5.frozen 1
   obtain ⟨ao,n',cap,hv5⟩:∃ ao n' cap,v5=.slice ao n' cap:=by
    rcases hown5.2 with ⟨hv,_⟩ | ⟨g,cap,cur,hv,_⟩
    · exact ⟨_,_,_,hv⟩
    · exact ⟨_,_,_,hv⟩
   subst hv5)
 go_ret2
 have hse:=HSe.out
 have hke:=HKe.out
 have hs5:=hgrow.size
 have hg1:∀ g,(Value.slice ao n' cap).ownBlock=some g→g≠b:=by
  intro g e e2
  subst e2
  rcases hown5.2 with ⟨hv,_⟩ | ⟨g,cap,cur,hv,_,hg,_⟩
  · rw[hv] at e;cases e
  · rw[hv] at e
    simp[Value.ownBlock] at e
    subst e
    unfold Blk at hb5
    rw[hb5] at hg
    cases hg
 refine ⟨rfl,?_,_,⟨_,Or.inr rfl,hb5.set 1 _,?_,fun e=>hg1 b e rfl⟩,hge⟩
 · refine ⟨hgrow.os.trans HB1.out.os,hgrow.tape.trans HB1.out.tape,hgrow.output.trans HB1.out.output,by simp[World.setCell];omega,fun k hk=>?_⟩
   rw[Below.heap_setCell _ _ _ _ (by simp only;omega),hgrow.block k (by omega) (fun e=>by have:=(hown.lt k e.symm).1;omega)]
   exact HB1.out.block k hk
 · refine ownsRow_blocks (w:=w5) ?_ (fun g e=>Below.heap_setCell _ _ _ _ (hg1 g e))
   rw[strCells_byteC] at hown5
   have h1:byteC (l++s.data.toList)=byteC l++byteC s.data.toList:=by simp[byteC]
   have h2:(l++s.data.toList).length=l.length+s.size:=by simp
   rw[h1,h2]
   exact hown5
end Go.Proofs.YtmlkhhhjdpbhfaaGreatDoor

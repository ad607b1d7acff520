import Derived.Test.YtmlkhhhjdpbhfaaGreatDoorFo04
import Derived.Test.YtmlkhhhjdpbhfaaGreatDoorShelf
import Derived.Lib.ItoaMem
import Derived.Lib.ItoaLen
import Derived.Test.YtmlkhhhjdpbhfaaGreatDoorFo29
import Derived.Test.YtmlkhhhjdpbhfaaGreatDoorRows
import Derived.ProofKit
import Derived.MakeChecks
import Derived.LaidHandle
import Derived.LaidLaws
import Derived.OpenShut
import Derived.Stop.Joined
import Derived.Stop.LaidErr
import Derived.Carry
import Derived.Test.YtmlkhhhjdpbhfaaGreatDoorFo01
import Derived.Test.YtmlkhhhjdpbhfaaGreatDoorFo03
namespace Go.Proofs.YtmlkhhhjdpbhfaaGreatDoor
open Go.RowKit Go.Sort Go.Lib
def PowW (w:World):Prop:=Lib.TabIs Tryz.prog w "internal/strconv.uint64pow10" .u64 Lib.pow10Tab
theorem holds_z24 (w:World)(T:TypeId)(nd:Nat)(hs:nd≤24):Holds (fun (b:UInt8)=>Value.int .u8 b.toNat) (w.alloc (.cells Lib.zeros24 T)) w.heap.size 0 (Array.replicate nd (0:UInt8)):=fun j hj=>by
 have hj':j<nd:=by simpa using hj
 refine ⟨?_,World.frozen?_alloc_new _ _ _ _⟩
 rw[World.cell?_alloc_new,Lib.zeros24_at _ (by omega),getElem!_pos _ j hj]
 simp
theorem fin20 (w:World)(o:Obj)(dk:Array UInt8)(k:Nat):∃ os,(putRow (fun (b:UInt8)=>Value.int .u8 b.toNat) (w.alloc o) w.heap.size 0 dk).drewN k=grow (w.drewN k) os:=by
 rw[alloc_eq_grow]
 obtain ⟨os',_,e⟩:=putRow_grow_new (fun (b:UInt8)=>Value.int .u8 b.toNat) w #[o] w.heap.size 0 dk (Nat.le_refl _)
 exact ⟨os',by rw[e];rfl⟩
set_option maxRecDepth 100000 in
set_option maxHeartbeats 1000000 in
theorem fmtU_calls (u:Nat)(hu:u<4294967296)(w:World)(hP:PowW w):
 Calls Tryz.prog 175 #[.int .u64 u,.int .i64 10] w fun e w'=>e=.returned (.string ⟨(Lib.decDigits u).toArray⟩)∧∃ k os,w'=grow (w.drewN k) os:=by
 by_cases hs:u<100
 · have hs':(u:Int)<100:=by omega
   go_enter Tryz.func175,Tryz.ntmps175
   go_wp2_with fail
   refine (Tryz.internal_strconv_small u hs _).mono ?_
   rintro e w' ⟨rfl,hw'⟩
   rw[hw']
   clear hw'
   simp only
   go_wp2_with fail
   go_ret
   exact ⟨rfl,0,#[],by simp[World.drewN_zero]⟩
 · have hs':¬ (u:Int)<100:=by omega
   have hu1:1≤u:=by omega
   have hu64:u<18446744073709551616:=by omega
   have hnd20:Lib.nDigits u≤20:=Lib.nDigits_le20 u hu64
   have hal:Tryz.prog.arrayLen 282=24:=by simp[Program.arrayLen,Tryz.underlying282]
   have hsl:∀ W,(Instr.sliceAt 282 (.pointer (some ⟨w.heap.size,0,none⟩)) none (some (.int .i64 (Lib.nDigits u:Int))) none).run Tryz.prog W=.ok (.slice (some ⟨w.heap.size,0,none⟩) (Lib.nDigits u) 24) W:=fun W=>by
    rw[run_sliceAt_array_h W 282 ⟨w.heap.size,0,none⟩ (by simp[Program.arrayLen,Program.elem,Tryz.underlying282]) .i64 (Lib.nDigits u:Int) (by omega) (by rw[hal];omega)]
    go_simp
   have hH0:=holds_z24 w 282 (Lib.nDigits u) (by omega)
   have hfmt:=Tryz.internal_strconv_formatBase10 w.heap.size 0 24 u (Array.replicate (Lib.nDigits u) 0) (w.alloc (.cells Lib.zeros24 282)) hH0 (by rw[Array.size_replicate];exact Lib.lt_pow_nDigits u) hu64 (by rw[Array.size_replicate];omega)
   rw[Array.size_replicate] at hfmt
   have HH0:=Lib.hid hH0
   have HP:=Lib.hid hP
   clear hH0 hal hP
   go_enter Tryz.func175,Tryz.ntmps175
   go_wp2_with fail
   refine (Tryz.internal_strconv_numDigits u hu1 hu64 _ (Lib.tabIs_alloc HP.out _)).mono ?_
   rintro e w' ⟨rfl,hw'⟩
   rw[hw']
   clear hw'
   simp only
   go_wp2_with fail
   refine hfmt.mono ?_
   rintro e w' ⟨rfl,k,v',dk,rfl,hF⟩
   have hcv:(convert 40 9 (.slice (some ⟨w.heap.size,0,none⟩) (Lib.nDigits u) 24)).run Tryz.prog ((putRow (fun (b:UInt8)=>Value.int .u8 b.toNat) (w.alloc (.cells Lib.zeros24 282)) w.heap.size 0 dk).drewN k)=.ok (.string ⟨(Lib.decDigits u).toArray⟩) ((putRow (fun (b:UInt8)=>Value.int .u8 b.toNat) (w.alloc (.cells Lib.zeros24 282)) w.heap.size 0 dk).drewN k):=by
    have h:=run_convert_bytes_back (P:=Tryz.prog) ((putRow (fun (b:UInt8)=>Value.int .u8 b.toNat) (w.alloc (.cells Lib.zeros24 282)) w.heap.size 0 dk).drewN k) 40 9 5 ⟨w.heap.size,0,none⟩ 24 (Lib.decDigits u) Tryz.underlying40 Tryz.underlying5 Tryz.underlying9 (fun j hj=>by
     rw[Lib.row_is_numeral hF j hj,Lib.add_plain,World.cell?_drewN]
     exact cell?_putRow (fun (b:UInt8)=>Value.int .u8 b.toNat) _ w.heap.size 0 _ dk HH0.out (by rw[hF.size,Array.size_replicate]) j (by rw[hF.size];rw[Lib.decDigits_length] at hj;exact hj))
    rw[Lib.decDigits_length] at h
    exact h
   simp only
   go_wp2_with fail
   go_ret
   obtain ⟨os,eo⟩:=fin20 w (.cells Lib.zeros24 282) dk k
   exact ⟨rfl,k,os,eo⟩
theorem grow_below (w:World)(k:Nat)(os:Array Obj):Below w.heap.size w (grow (w.drewN k) os):=by
 refine ⟨rfl,rfl,rfl,?_,fun j hj=>?_⟩
 · simp[grow]
 · simp only[grow]
   exact Array.getElem?_append_left hj
set_option maxHeartbeats 400000 in
theorem fmt_calls (n:Nat)(hn:n<4294967296)(w:World)(hP:PowW w):
 Calls Tryz.prog 106 #[.int .u64 n,.int .i64 10] w fun e w'=>e=.returned (.string ⟨(decT n).toArray⟩)∧Below w.heap.size w w':=by
 go_enter Tryz.func106,Tryz.ntmps106
 go_wp2_with fail
 refine (fmtU_calls n hn w hP).mono ?_
 rintro e w' ⟨rfl,k,os,hw'⟩
 have HW:=Lib.hid hw'
 clear hw'
 simp only
 go_wp2_with fail
 go_ret
 exact ⟨rfl,by rw[HW.out];exact grow_below w k os⟩
theorem PowW.below {w w':World}(h:PowW w)(hb:Below w.heap.size w w'):PowW w':=by
 unfold PowW TabIs World.var? at *
 cases hg:Tryz.prog.globalNamed "internal/strconv.uint64pow10" with
 | none=>simp[hg] at h
 | some g=>
  simp only[hg,Option.bind_some] at h ⊢
  have hlt:g<w.heap.size:=by
   rcases Nat.lt_or_ge g w.heap.size with h' | h'
   · exact h'
   · rw[Array.getElem?_eq_none h'] at h;simp at h
  rw[hb.block g hlt]
  exact h
end Go.Proofs.YtmlkhhhjdpbhfaaGreatDoor
namespace Go.Proofs.YtmlkhhhjdpbhfaaGreatDoor
open Go.RowKit
theorem Shp.below {w w':World}(h:Shp w)(hb:Below w.heap.size w w'):Shp w':=
 h.fr (B:=w.heap.size) (rb:=w.heap.size) ⟨hb.os,hb.tape,hb.output,hb.size,fun k hk _=>hb.block k hk⟩ h.2 h.2
abbrev rlsOf (s:ByteArray):List Rl:=(formV s).rls
def outT (s bs:ByteArray)(fuel N:Nat):PO:=tryT (rulePt (rlsOf s)) bs N (fuel+1) fuel 0 false (rulePt (rlsOf s) 0) (st0 bs)
def badBud (bs:ByteArray)(fuel N:Int):Bool:=decide (4000<bs.size) || !(budB fuel 100000) || !(budB N 10000)
def parseV (s bs:ByteArray)(fuel N:Int):List UInt8 × Int × Int:=
 if (pressV s).1≠0 then ([],(pressV s).1,(pressV s).2) else if badBud bs fuel N=true then ([],5,0)
 else ((endT (outT s bs fuel.toNat N.toNat)).1,((endT (outT s bs fuel.toNat N.toNat)).2.1:Int),((endT (outT s bs fuel.toNat N.toNat)).2.2:Int))
theorem form_head (s:ByteArray)(h:(formV s).ok=true):∃ x t,rlsOf s=x::t∧x.r=0:=by
 unfold rlsOf
 unfold formV at h ⊢
 rw[rulesV] at h ⊢
 split
 · rename_i h1;rw[if_pos h1] at h;cases h
 · rename_i h1
   rw[if_neg h1] at h
   have h65:bt s 0-65=0:=by
    have:¬ ¬ (65≤bt s 0∧bt s 0≤65):=h1
    omega
   split
   · rename_i h2;rw[if_pos h2] at h;cases h
   · rename_i h2
     rw[if_neg h2] at h
     split
     · rename_i h3;rw[if_pos h3] at h;cases h
     · rename_i h3
       rw[if_neg h3] at h
       split
       · exact ⟨_,_,rfl,h65⟩
       · rename_i h4
         rw[if_neg h4] at h
         split
         · rename_i h5;rw[if_pos h5] at h;cases h
         · exact ⟨_,_,rfl,h65⟩
theorem rulePt_head {x:Rl}{t:List Rl}(h:x.r=0):rulePt (x::t) 0=x.its:=by
 unfold rulePt;rw[List.find?_cons_of_pos (by simpa using h)]
theorem cx_of (s:ByteArray)(W:World)(gb:Nat)(hg:GrAt s W gb)(hp:(pressV s).1=0)(bs:ByteArray)(N:Nat)(hbs:bs.size≤4000)(hN:N≤10000)(rb tb:Nat)(h1:W.heap.size≤rb)(h2:rb<tb):CxOk ⟨W,gb,rb,tb,bs,N,rulePt (rlsOf s),ruleHas (rlsOf s),s⟩:=by
 obtain ⟨v,l,g1,g2,g3⟩:=hg.ex
 refine ⟨h1,h2,hbs,hN,⟨v,l,g1,g2,fun r hr=>?_⟩,fun r hr=>rule_wf s hp r hr⟩
 obtain ⟨i,hi,e1,e2,e3⟩:=ruleHas_find hr
 have hl:(l.map Prod.fst).length=(rlsOf s).length:=by rw[g3]
 have hil:i<l.length:=by simpa using (by omega:i<(l.map Prod.fst).length)
 have hgt:∀ j (h:j<l.length) (h':j<(rlsOf s).length),l[j].1=(rlsOf s)[j]:=fun j h h'=>by
  have:(l.map Prod.fst)[j]'(by simpa using h)=(rlsOf s)[j]:=by congr 1
  simpa using this
 refine ⟨i,hil,by rw[hgt i hil hi];exact e1,fun j hj hjl=>?_,by rw[hgt i hil hi];exact e3⟩
 have hjr:j<(rlsOf s).length:=by omega
 rw[hgt j hjl hjr]
 exact e2 j hj hjr
theorem fmt_of {w:World}(hP:PowW w):FmtC w:=fun n hn=>fmt_calls n hn w hP
theorem out_call (s:ByteArray)(w:World)(gb:Nat)(hg:GrAt s w gb)(hp:(pressV s).1=0)(hform:(formV s).ok=true)(bs:ByteArray)(fuel N:Nat)(hbs:bs.size≤4000)(hfu:fuel≤100000)(hN:N≤10000)(W:World)(hb:Below w.heap.size w W):
 Calls Tryz.prog 41 #[.pointer (some ⟨gb,0,none⟩),.string bs,.int .i64 fuel,.int .i64 N] W fun e w'=>ParsePost W (outT s bs fuel N) e w':=by
 have hgW:=hg.below hb
 obtain ⟨x,t,hx,hr0⟩:=form_head s hform
 obtain ⟨v,l,g1,g2,g3⟩:=hgW.ex
 refine parseP_calls gb bs s hbs fuel N hfu hN _ _ W g1.lt (fun rb tb h1 h2=>cx_of s W gb hgW hp bs N hbs hN rb tb h1 h2) ?_ (rule_wf s hp 0 (form_first s hform))
 obtain ⟨g,cap,e1,e2,e3⟩:=g2.shape
 obtain ⟨q,qs,rfl⟩:∃ q qs,l=q::qs:=by
  cases l with
  | nil=>rw[show (formV s).rls=x::t from hx] at g3;cases g3
  | cons q qs=>exact ⟨q,qs,rfl⟩
 have hq:q.1=x:=by
  rw[show (formV s).rls=x::t from hx] at g3
  simpa using (List.cons.inj g3).1
 obtain ⟨lo,hi,_,r2,r3⟩:=g2.rep q List.mem_cons_self
 have hc:=(e3 0 (by simp)).2.2
 refine ⟨v,g,_,cap,q.2,s.size+1,lo,hi,g1,e1,by simp,e2,by simpa using hc,?_,r2⟩
 rw[show rulePt (rlsOf s) 0=q.1.its by rw[hx,hq];exact rulePt_head hr0]
 exact r3
theorem pressV_zero (s:ByteArray)(h:(pressV s).1=0):pressV s=(0,0):=by
 obtain ⟨h1,h2,h3,h4⟩:=pressV_ok s h
 unfold pressV
 rw[if_neg (by omega),if_neg (by rw[h2];simp),if_neg (by rw[h3];simp),if_neg (by rw[h4];simp)]
theorem outT_len (s bs:ByteArray)(hp:(pressV s).1=0)(hform:(formV s).ok=true)(fuel N:Nat)(hbs:bs.size≤4000)(hN:N≤10000)(hok:(outT s bs fuel N).ok=true):(outT s bs fuel N).t.length≤1000000000:=by
 have hi:PInv bs N (st0 bs):=⟨Nat.zero_le _,Nat.le_refl _,by simp[st0],Nat.zero_le _,fun d=>⟨by simp[st0],by simp[st0]⟩⟩
 have hw:=rule_wf s hp 0 (form_first s hform)
 have hl:=tryT_lng hbs (rulePt (rlsOf s)) (fun r hr=>rule_wf s hp r hr) (fuel+1) fuel 0 false false false _ (st0 bs) hw hi hok
 have hk:=(tryT_ok (R:=ruleHas (rlsOf s)) (rulePt (rlsOf s)) (fun r hr=>rule_wf s hp r hr) (fuel+1)).fit fuel 0 false false false _ (st0 bs) hw hi hok
 have h1:(outT s bs fuel N).t.length+(if silK false (rulePt (rlsOf s) 0) then 0 else 1)≤8011*((outT s bs fuel N).st.vals-(st0 bs).vals):=hl.len
 have h2:(outT s bs fuel N).st.vals≤N:=hk.1.inv.vals
 generalize outT s bs fuel N=o at *
 have h3:o.st.vals-(st0 bs).vals≤10000:=by omega
 have h4:8011*(o.st.vals-(st0 bs).vals)≤8011*10000:=Nat.mul_le_mul_left _ h3
 omega
theorem endT_e (o:PO)(h:o.e≠0):endT o=([],o.e,0):=by unfold endT;rw[if_pos h]
theorem endT_ok (o:PO)(h:(endT o).2.1=0):o.ok=true:=by
 unfold endT at h
 split at h
 · rename_i h1;exact absurd h h1
 · split at h
   · simp at h
   · rename_i h2;simpa using h2
set_option maxRecDepth 100000 in
set_option maxHeartbeats 1000000 in
theorem pface_calls (s bs:ByteArray)(hsl:s.size≤maxLen)(hbl:bs.size≤maxLen)(fuel N:Int)(w:World)(hS:Shp w)(hP:PowW w):
 Calls Tryz.prog 14 #[.string s,.string bs,.int .i64 fuel,.int .i64 N] w fun e w'=>e=.returned (.tuple #[.string ⟨(parseV s bs fuel N).1.toArray⟩,.int .i64 (parseV s bs fuel N).2.1,.int .i64 (parseV s bs fuel N).2.2])∧Below w.heap.size w w':=by
 have HC:=hide' (sread_calls s hsl w hS (fun h1 h2=>form_ok s h1 h2))
 have HP:=hide' hP
 unfold maxLen at hbl
 clear hS hP
 go_enter Tryz.func14,Tryz.ntmps14
 go_wp2_with fail
 refine HC.out.mono ?_
 rintro e w1 ⟨p,rfl,hb,hpost⟩
 have HB:=hide' hb
 have HPo:=hide' hpost
 clear hb hpost
 by_cases hz:(pressV s).1=0
 · obtain ⟨gb,rfl,hgl,hg⟩:=HPo.out hz
   obtain ⟨_,hform,_,_⟩:=pressV_ok s hz
   have hzz:=pressV_zero s hz
   rw[hzz]
   have HG:=hide' hg
   have hs1:=HB.out.size
   have hgb:gb<w1.heap.size:=by obtain ⟨v,l,g1,_,_⟩:=hg.ex;exact g1.lt
   have hP1:=hide' (HP.out.below HB.out)
   cases hbud:badBud bs fuel N
   · have HV:Hid (parseV s bs fuel N=((endT (outT s bs fuel.toNat N.toNat)).1,((endT (outT s bs fuel.toNat N.toNat)).2.1:Int),((endT (outT s bs fuel.toNat N.toNat)).2.2:Int))):=by
      have:parseV s bs fuel N=((endT (outT s bs fuel.toNat N.toNat)).1,((endT (outT s bs fuel.toNat N.toNat)).2.1:Int),((endT (outT s bs fuel.toNat N.toNat)).2.2:Int)):=by unfold parseV;rw[if_neg (fun h=>h hz),if_neg (by rw[hbud];simp)]
      exact this
     have hb3:bs.size≤4000∧(0≤fuel∧fuel≤100000)∧0≤N∧N≤10000:=by
      unfold badBud budB at hbud
      simp at hbud
      omega
     obtain ⟨k1,⟨k2,k3⟩,k4,k5⟩:=hb3
     obtain ⟨fu,rfl⟩:∃ fu:Nat,fuel=(fu:Int):=⟨fuel.toNat,by omega⟩
     obtain ⟨n,rfl⟩:∃ n:Nat,N=(n:Int):=⟨N.toNat,by omega⟩
     simp only[Int.toNat_natCast] at HV
     have hq1:budB (fu:Int) 100000=true:=by unfold budB;simp;omega
     have hq2:budB (n:Int) 10000=true:=by unfold budB;simp;omega
     have HPP:=hide' (pparse_calls w1 gb bs fu n (outT s bs fu n) hgb (fun w' hb'=>fmt_of (hP1.out.below hb')) (fun hok=>outT_len s bs hz hform fu n k1 (by omega) hok) (fun W hW=>out_call s w1 gb HG.out hz hform bs fu n k1 (by omega) (by omega) W hW) (endT_e _) (endT_ok _))
     have HQ:=hide' (fun (a b:Int) (W:World)=>isBudget_calls a b W)
     clear hbud hg
     simp only
     go_wp2_with (first
      | (go_at_call 26;refine (HQ.out _ _ _).mono ?_;rintro e w9 ⟨rfl,hw9⟩;subst hw9))
     refine HPP.out.mono ?_
     rintro e w2 ⟨rfl,hb2⟩
     have HB2:=hide' hb2
     clear hb2
     simp only
     go_wp2_with fail
     go_ret3
     rw[HV.out]
     exact ⟨rfl,HB.out.trans (HB2.out.mono (by omega))⟩
   · have HV:Hid (parseV s bs fuel N=([],5,0)):=by
      have:parseV s bs fuel N=([],5,0):=by unfold parseV;rw[if_neg (fun h=>h hz),if_pos hbud]
      exact this
     have HQ:=hide' (fun (a b:Int) (W:World)=>isBudget_calls a b W)
     have hthree:4000<bs.size∨(¬ 4000<bs.size∧budB fuel 100000=false)∨(¬ 4000<bs.size∧budB fuel 100000=true∧budB N 10000=false):=by
      unfold badBud at hbud
      by_cases h1:4000<bs.size
      · exact Or.inl h1
      · cases h2:budB fuel 100000
        · exact Or.inr (Or.inl ⟨h1,rfl⟩)
        · cases h3:budB N 10000
          · exact Or.inr (Or.inr ⟨h1,rfl,rfl⟩)
          · rw[h2,h3] at hbud;simp[h1] at hbud
     clear hbud hg
     simp only
     rcases hthree with h1 | ⟨h1,h2⟩ | ⟨h1,h2,h3⟩
     · have h1':(4000:Int)<(bs.size:Int):=by omega
       go_wp2_with (first
        | (go_at_call 26;refine (HQ.out _ _ _).mono ?_;rintro e w9 ⟨rfl,hw9⟩;subst hw9))
       go_ret3
       rw[HV.out]
       exact ⟨rfl,HB.out⟩
     · have h1':¬ (4000:Int)<(bs.size:Int):=by omega
       go_wp2_with (first
        | (go_at_call 26;refine (HQ.out _ _ _).mono ?_;rintro e w9 ⟨rfl,hw9⟩;subst hw9))
       go_ret3
       rw[HV.out]
       exact ⟨rfl,HB.out⟩
     · have h1':¬ (4000:Int)<(bs.size:Int):=by omega
       go_wp2_with (first
        | (go_at_call 26;refine (HQ.out _ _ _).mono ?_;rintro e w9 ⟨rfl,hw9⟩;subst hw9))
       go_ret3
       rw[HV.out]
       exact ⟨rfl,HB.out⟩
 · have HV:Hid (parseV s bs fuel N=([],(pressV s).1,(pressV s).2)):=by
    have:parseV s bs fuel N=([],(pressV s).1,(pressV s).2):=by unfold parseV;rw[if_pos hz]
    exact this
   clear HPo
   simp only
   go_wp2_with fail
   go_ret3
   rw[HV.out]
   exact ⟨rfl,HB.out⟩
end Go.Proofs.YtmlkhhhjdpbhfaaGreatDoor
namespace Go.Proofs.YtmlkhhhjdpbhfaaGreatDoor
open Go.ChangeShapes Go.WideShapes Go.ChangeAt Go.WideMaps Go.WideElems Go.RowKit
theorem law_own:ownKnob Tryz.prog.godebug=none:=by kernel_rfl
theorem law_g:Tryz.prog.globalNamed (Rows.parsesRow.named.getD 0 "")=some 0:=by kernel_rfl
theorem law_t:(Tryz.prog.globals[0]?).map (·.type)=some 253:=by kernel_rfl
theorem law_c:Tryz.prog.cellsOf 252=6:=by kernel_rfl
theorem law_c15:Tryz.prog.cellsOf 253=90:=by kernel_rfl
theorem law_ci:Tryz.prog.cellsOf 3=1:=by kernel_rfl
theorem law_cu:Tryz.prog.cellsOf 5=1:=by kernel_rfl
theorem law_cb:Tryz.prog.cellsOf 4=1:=by kernel_rfl
def shD {H:Type}(x:Sh):DataW H:=.agg [.lit (.int .u8 x.a),.lit (.int .u8 x.b),.lit (.bool x.w),.lit (.bool x.d),.lit (.bool x.v),.lit (.int .i64 x.n)]
theorem laid_is {H:Type}:(Rows.laid_press_syntax_shapes:DataW H)=.agg (shapesL.map shD):=rfl
theorem chunk (rows:List Sh):∀ cs:List Value,cs.length=rows.length*6→(∀ i (h:i<rows.length),(cs.drop (i*6)).take 6=rows[i].row.toList)→cs=rows.flatMap fun x=>x.row.toList:=by
 induction rows with
 | nil=>intro cs h _;simp at h;simpa using h
 | cons x t ih=>
  intro cs h hr
  have h0:=hr 0 (by simp)
  simp only[Nat.zero_mul,List.drop_zero,List.getElem_cons_zero] at h0
  have h1:=ih (cs.drop 6) (by simp at h ⊢;omega) (fun i hi=>by
   have:=hr (i+1) (by simp;omega)
   simp only[List.getElem_cons_succ] at this
   rw[List.drop_drop,show 6+i*6=(i+1)*6 by omega]
   exact this)
  rw[List.flatMap_cons,← h0,← h1,List.take_append_drop]
set_option maxRecDepth 100000 in
theorem row_of {H:Type}{enc:TypeId × Value→H}{w:World}{base:Nat}{sp:Nat→Bool}{held:Bool}{fuel:Nat}{cs:List Value}{x:DataW H × List MemPlace}(r:Sh)(h:DataW.trod enc Tryz.prog w base sp held fuel 252 cs=some x)(hx:x.1=shD r):cs=r.row.toList:=by
 obtain ⟨xs,n,_,rfl,hl,hlen,hf⟩:=DataW.trod_struct Tryz.underlying252 h
 rw[law_c] at hl
 simp only[List.size_toArray,List.length_cons,List.length_nil] at hlen
 match xs,hlen,cs,hl with
 | [x0,x1,x2,x3,x4,x5],_,[c0,c1,c2,c3,c4,c5],_=>
  have f0:DataW.trod enc Tryz.prog w base sp held n 5 (([c0,c1,c2,c3,c4,c5].drop 0).take (Tryz.prog.cellsOf 5))=some x0:=hf 0 _ rfl
  rw[law_cu] at f0
  change DataW.trod enc Tryz.prog w base sp held n 5 [c0]=some x0 at f0
  have f1:DataW.trod enc Tryz.prog w base sp held n 5 (([c0,c1,c2,c3,c4,c5].drop 1).take (Tryz.prog.cellsOf 5))=some x1:=hf 1 _ rfl
  rw[law_cu] at f1
  change DataW.trod enc Tryz.prog w base sp held n 5 [c1]=some x1 at f1
  have f2:DataW.trod enc Tryz.prog w base sp held n 4 (([c0,c1,c2,c3,c4,c5].drop 2).take (Tryz.prog.cellsOf 4))=some x2:=hf 2 _ rfl
  rw[law_cb] at f2
  change DataW.trod enc Tryz.prog w base sp held n 4 [c2]=some x2 at f2
  have f3:DataW.trod enc Tryz.prog w base sp held n 4 (([c0,c1,c2,c3,c4,c5].drop 3).take (Tryz.prog.cellsOf 4))=some x3:=hf 3 _ rfl
  rw[law_cb] at f3
  change DataW.trod enc Tryz.prog w base sp held n 4 [c3]=some x3 at f3
  have f4:DataW.trod enc Tryz.prog w base sp held n 4 (([c0,c1,c2,c3,c4,c5].drop 4).take (Tryz.prog.cellsOf 4))=some x4:=hf 4 _ rfl
  rw[law_cb] at f4
  change DataW.trod enc Tryz.prog w base sp held n 4 [c4]=some x4 at f4
  have f5:DataW.trod enc Tryz.prog w base sp held n 3 (([c0,c1,c2,c3,c4,c5].drop 5).take (Tryz.prog.cellsOf 3))=some x5:=hf 5 _ rfl
  rw[law_ci] at f5
  change DataW.trod enc Tryz.prog w base sp held n 3 [c5]=some x5 at f5
  obtain ⟨n0,a0,b0,_⟩:=DataW.trod_int Tryz.underlying5 f0
  obtain ⟨n1,a1,b1,_⟩:=DataW.trod_int Tryz.underlying5 f1
  obtain ⟨n2,a2,b2⟩:=DataW.trod_bool Tryz.underlying4 f2
  obtain ⟨n3,a3,b3⟩:=DataW.trod_bool Tryz.underlying4 f3
  obtain ⟨n4,a4,b4⟩:=DataW.trod_bool Tryz.underlying4 f4
  obtain ⟨n5,a5,b5,_⟩:=DataW.trod_int Tryz.underlying3 f5
  subst b0 b1 b2 b3 b4 b5
  simp only[List.cons.injEq,and_true] at a0 a1 a2 a3 a4 a5
  subst a0 a1 a2 a3 a4 a5
  simp only[shD,List.map_cons,List.map_nil,DataW.agg.injEq,List.cons.injEq,DataW.lit.injEq,Lit.int.injEq,Lit.bool.injEq,true_and,and_true] at hx
  obtain ⟨e0,e1,e2,e3,e4,e5⟩:=hx
  simp only[Sh.row,e0,e1,e2,e3,e4,e5]
theorem shp_of {W:World}(h0:laidMetH Tryz.prog Rows.parsesRow.laid W):Shp W:=by
 rw[MakeChecks.laidMetH_plain _ _ _ (by kernel_rfl)] at h0
 have h:laidMet Tryz.prog [(Rows.parsesRow.named.getD 0 "", Rows.laid_press_syntax_shapes)] W:=h0.tail.tail.tail
 obtain ⟨ps,⟨g0,t0,cs0,f0,p0,q0,hg0,ht0,hv0,hd0,_,_⟩,_,_⟩:=h
 obtain rfl:=Option.some.inj (law_g.symm.trans hg0)
 obtain rfl:=Option.some.inj (law_t.symm.trans ht0)
 obtain ⟨xs,m1,rfl,hx1,hlen,hn,hel⟩:=DataW.trod_array Tryz.underlying253 hd0
 rw[law_c15] at hlen
 rw[laid_is] at hx1
 simp only[Prod.mk.injEq,DataW.agg.injEq] at hx1
 have hsl:shapesL.length=15:=rfl
 have hcs:cs0.toList=shpL:=by
  refine chunk shapesL cs0.toList (by rw[hlen,hsl]) fun i hi=>?_
  have hi':i<15:=by omega
  have h1:=hel i hi'
  rw[law_c,List.getElem?_eq_getElem (by omega)] at h1
  refine row_of _ h1 ?_
  have h2:(xs.map (·.1))[i]? = (shapesL.map shD)[i]? := by rw[hx1.1]
  rw[List.getElem?_map,List.getElem?_map,List.getElem?_eq_getElem (by omega),List.getElem?_eq_getElem hi] at h2
  simpa using h2
 have hc:=World.var?_cell hg0 hv0
 refine ⟨fun j v hv=>?_,?_⟩
 · rw[Nat.zero_add,hc j,← Array.getElem?_toList,hcs];exact hv
 · have h0:=hc 0
   rw[← Array.getElem?_toList,hcs] at h0
   by_cases hz:0<W.heap.size
   · exact hz
   · have hn:W.cell? ⟨0,0,none⟩=none:=by
      unfold World.cell?
      rw[Array.getElem?_eq_none (by simp only;omega)]
     rw[hn] at h0
     exact absurd h0 (by simp[shpL,shapesL,Sh.row])
theorem pow_of {W:World}(h0:laidMetH Tryz.prog Rows.parsesRow.laid W):PowW W:=by
 rw[MakeChecks.laidMetH_plain _ _ _ (by kernel_rfl)] at h0
 have h:=h0.tail.tail
 refine Lib.tabIs_of_head (rest:=[(Rows.parsesRow.named.getD 0 "", Rows.laid_press_syntax_shapes)]) (g:=1) (t:=291) (e:=222) (n:=20) (by kernel_rfl) (by kernel_rfl) Tryz.underlying291 Tryz.underlying222 (by kernel_rfl) (by kernel_rfl) ?_
 exact h
def lawLaid:List (String × DataW Unit):=Rows.parsesRow.laid
def layT (cs:List Value):Obj→Obj
 | .cells _ t frozen=>.cells cs.toArray t frozen
 | o=>o
def litC:DataW Unit→List Value
 | .lit (.int k n)=>[.int k n]
 | _=>[]
def tabC:DataW Unit→List Value
 | .agg l=>l.flatMap litC
 | _=>[]
def parHeap (h:Array Obj):Array Obj:=(((h.modify 0 (layT shpL)).modify 1 (layT (tabC Rows.laid_internal_strconv_uint64pow10))).modify 2 (layT (tabC Rows.laid_math_bits_deBruijn32tab))).modify 3 (layT (tabC Rows.laid_math_bits_deBruijn64tab))
theorem laidWorld_met (os:Os)(args:Array Value):laidMetH Tryz.prog lawLaid (({ World.holding Tryz.prog os ⟨#[],#[],[]⟩ with heap:=parHeap (World.holding Tryz.prog os ⟨#[],#[],[]⟩).heap }:World).forCall (fun _ _=>0) ⟨#[],args,[]⟩).memory:=by
 rw[MakeChecks.laidMetH_plain _ _ _ (by kernel_rfl)]
 exact laidMet_of_run' 8 (by kernel_rfl) (by kernel_rfl)
end Go.Proofs.YtmlkhhhjdpbhfaaGreatDoor
namespace Go.Proofs.YtmlkhhhjdpbhfaaGreatDoor
open Go.RowKit
theorem bt_app (a b:ByteArray)(i:Nat):bt (a++b) i=if i<a.size then bt a i else bt b (i-a.size):=by
 by_cases h:i<a.size
 · rw[if_pos h,bt_in _ _ (by rw[ByteArray.size_append];omega),bt_in _ _ h]
   congr 2
   exact ByteArray.getElem_append_left h
 · rw[if_neg h]
   by_cases h2:i-a.size<b.size
   · rw[bt_in _ _ (by rw[ByteArray.size_append];omega),bt_in _ _ h2]
     congr 2
     exact ByteArray.getElem_append_right (by omega)
   · rw[bt_out _ _ (by rw[ByteArray.size_append];omega),bt_out _ _ h2]
def TxA (s:ByteArray)(a:Nat)(p:ByteArray):Prop:=∀ i,i<p.size→bt s (a+i)=bt p i
theorem TxA.refl (s:ByteArray):TxA s 0 s:=fun i _=>by rw[Nat.zero_add]
theorem TxA.fst {s p q:ByteArray}{a:Nat}(h:TxA s a (p++q)):TxA s a p:=fun i hi=>by
 rw[h i (by rw[ByteArray.size_append];omega),bt_app,if_pos hi]
theorem TxA.snd {s p q:ByteArray}{a:Nat}(h:TxA s a (p++q)):TxA s (a+p.size) q:=fun i hi=>by
 have:=h (p.size+i) (by rw[ByteArray.size_append];omega)
 rw[bt_app,if_neg (by omega)] at this
 rw[Nat.add_assoc,this];congr 1;omega
theorem TxA.at0 {s p:ByteArray}{a:Nat}(h:TxA s a p)(hp:0<p.size):bt s a=bt p 0:=h 0 hp
structure GI (L:Nat) (its:List It):Prop where
 seg:SegOk its
 len:its.length≤L
 refs:∀ x,x∈its→x.c=82→x.r=1∨x.r=2
def PtX (Wk:List It→Prop)(p:ByteArray):Prop:=
 bt p 0≠41∧0<p.size∧∀ s rule a f,TxA s a p→p.size≤f→∃ its,prs s rule f a=⟨true,a+p.size,its⟩∧GI p.size its∧Wk its
def Clo (its:List It):Prop:=∀ F own ar q,its.length≤F→walkV F own ar its q=q
def PtC (p:ByteArray):Prop:=PtX Clo p
def Sc2 (u h:Nat)(sc:Sc):Prop:=(∀ k,sc.hid k=none↔h≤k)∧∀ k,sc.us k=decide (k<u)
def Uses (u n:Nat)(its:List It):Prop:=∀ F own sc st,its.length≤F→Sc2 u n sc→∃ sc',walkV F own true its (sc,st)=(sc',st)∧Sc2 n n sc'
def UseC (u n:Nat)(p:ByteArray):Prop:=PtX (Uses u n) p
def Kids (s:ByteArray)(rule:Int)(f:Nat):Nat→List (List It)→Nat→Prop
 | a,[],e=>a=e
 | a,k::ks,e=>∃ i,prs s rule f a=⟨true,i,k⟩∧bt s a≠41∧a<i∧Kids s rule f i ks e
def SeqC (u h u' h':Nat)(p:ByteArray):Prop:=
 ∀ s rule a f,TxA s a p→p.size≤f→∃ kids:List (List It),Kids s rule f a kids (a+p.size)∧(∀ k,k∈kids→SegOk k∧∀ x,x∈k→x.c=82→x.r=1∨x.r=2)∧kids.flatten.length≤p.size∧
  ∀ F sc st,(∀ k,k∈kids→k.length≤F)→Sc2 u h sc→∃ sc',kids.foldl (fun z k=>walkV F true true k z) (sc,st)=(sc',st)∧Sc2 u' h' sc'
theorem Kids.app {s:ByteArray}{rule:Int}{f:Nat}(k1 k2:List (List It)):∀ {a b e:Nat},Kids s rule f a k1 b→Kids s rule f b k2 e→Kids s rule f a (k1++k2) e:=by
 induction k1 with
 | nil=>intro a b e h1 h2;cases h1;exact h2
 | cons k ks ih=>intro a b e h1 h2;obtain ⟨i,a1,a2,a3,a4⟩:=h1;exact ⟨i,a1,a2,a3,ih a4 h2⟩
theorem SeqC.nil (u h:Nat):SeqC u h u h ⟨#[]⟩:=fun s rule a f _ _=>⟨[],rfl,fun k hk=>by simp at hk,by simp,fun F sc st _ hs=>⟨sc,rfl,hs⟩⟩
theorem SeqC.app {u h u1 h1 u2 h2:Nat}{p q:ByteArray}(hp:SeqC u h u1 h1 p)(hq:SeqC u1 h1 u2 h2 q):SeqC u h u2 h2 (p++q):=by
 intro s rule a f ha hf
 rw[ByteArray.size_append] at hf
 obtain ⟨k1,a1,a2,a3,a4⟩:=hp s rule a f ha.fst (by omega)
 obtain ⟨k2,b1,b2,b3,b4⟩:=hq s rule (a+p.size) f ha.snd (by omega)
 refine ⟨k1++k2,?_,fun k hk=>?_,?_,fun F sc st hF hs=>?_⟩
 · rw[ByteArray.size_append,← Nat.add_assoc];exact Kids.app k1 k2 a1 b1
 · rcases List.mem_append.1 hk with h | h
   · exact a2 k h
   · exact b2 k h
 · rw[List.flatten_append,List.length_append,ByteArray.size_append];omega
 · obtain ⟨sc1,e1,s1⟩:=a4 F sc st (fun k hk=>hF k (List.mem_append_left _ hk)) hs
   obtain ⟨sc2,e2,s2⟩:=b4 F sc1 st (fun k hk=>hF k (List.mem_append_right _ hk)) s1
   exact ⟨sc2,by rw[List.foldl_append,e1,e2],s2⟩
theorem PtX.seq {Wk:List It→Prop}{p:ByteArray}{u h u' h':Nat}(hp:PtX Wk p)(hw:∀ its,Wk its→∀ F sc st,its.length≤F→Sc2 u h sc→∃ sc',walkV F true true its (sc,st)=(sc',st)∧Sc2 u' h' sc'):SeqC u h u' h' p:=by
 intro s rule a f ha hf
 obtain ⟨h0,h1,h2⟩:=hp
 obtain ⟨its,e,g,w⟩:=h2 s rule a f ha hf
 refine ⟨[its],⟨_,e,by rw[ha.at0 h1];exact h0,by omega,rfl⟩,fun k hk=>?_,by simpa using g.len,fun F sc st hF hs=>?_⟩
 · simp only[List.mem_singleton] at hk;subst hk;exact ⟨g.seg,g.refs⟩
 · obtain ⟨sc',e1,e2⟩:=hw its w F sc st (hF its (by simp)) hs
   exact ⟨sc',by simpa using e1,e2⟩
theorem PtC.seq {p:ByteArray}(hp:PtC p)(u h:Nat):SeqC u h u h p:=PtX.seq hp fun _ w F sc st hF hs=>⟨sc,w F true true (sc,st) hF,hs⟩
theorem UseC.seq {p:ByteArray}{u n:Nat}(hp:UseC u n p):SeqC u n n n p:=PtX.seq hp fun _ w F sc st hF hs=>w F true sc st hF hs
theorem prs_leaf (s:ByteArray)(rule:Int)(f a:Nat)(h:Hd)(e:headV s a=h)(hk:h.ok=true)(hi:h.inn=0):prs s rule (f+1) a=⟨true,h.i,[{ h.it with rl:=rule,nx:=1 }]⟩:=by
 rw[prs,e,if_pos hk]
 unfold inner
 rw[if_neg (by omega),hi]
 rfl
theorem prs_one (s:ByteArray)(rule:Int)(f a i:Nat)(its:List It)(h:Hd)(e:headV s a=h)(hk:h.ok=true)(hi:h.inn=1)(h1:prs s rule f h.i=⟨true,i,its⟩):
 prs s rule (f+1) a=⟨true,i,{ h.it with rl:=rule,nx:=1+its.length }::its⟩:=by
 rw[prs,e,if_pos hk]
 unfold inner
 rw[if_neg (by omega),hi]
 simp[loopN,h1,Res.pre]
theorem prs_two (s:ByteArray)(rule:Int)(f a i j:Nat)(its its2:List It)(h:Hd)(e:headV s a=h)(hk:h.ok=true)(hi:h.inn=2)(h1:prs s rule f h.i=⟨true,i,its⟩)(h2:prs s rule f i=⟨true,j,its2⟩):
 prs s rule (f+1) a=⟨true,j,{ h.it with rl:=rule,nx:=1+(its++its2).length }::(its++its2)⟩:=by
 rw[prs,e,if_pos hk]
 unfold inner
 rw[if_neg (by omega),hi]
 simp[loopN,h1,h2,Res.pre]
theorem loopB_kids (s:ByteArray)(rule:Int)(f:Nat)(kids:List (List It)):∀ (c a e:Nat),kids≠[]→kids.length≤c→Kids s rule f a kids e→bt s e=41→loopB (prs s rule f) s c a=⟨true,e+1,kids.flatten⟩:=by
 induction kids with
 | nil=>intro c a e h;exact absurd rfl h
 | cons k ks ih=>
  intro c a e _ hc hk he
  obtain ⟨i,h1,h2,h3,h4⟩:=hk
  cases c with
  | zero=>simp at hc
  | succ c=>
   rw[loopB,h1]
   simp only[if_true]
   cases ks with
   | nil=>cases h4;rw[if_pos he];simp
   | cons k2 ks2=>
    have h41:¬ bt s i=41:=by obtain ⟨_,_,q,_⟩:=h4;exact q
    rw[if_neg h41,ih c i e (by simp) (by simp at hc ⊢;omega) h4 he]
    simp[Res.pre]
theorem Kids.len {s:ByteArray}{rule:Int}{f:Nat}(kids:List (List It)):∀ {a e:Nat},Kids s rule f a kids e→a+kids.length≤e:=by
 induction kids with
 | nil=>intro a e h;cases h;simp
 | cons k ks ih=>intro a e h;obtain ⟨i,_,_,h3,h4⟩:=h;have:=ih h4;simp;omega
theorem segs_one {its:List It}(h:SegOk its):segs its.length its=[its]:=by
 have:=segs_flat [its] (fun s hs=>by simp only[List.mem_singleton] at hs;subst hs;exact h) its.length (by simp)
 simpa using this
theorem segs_two {a b:List It}(h:SegOk a)(h2:SegOk b):segs (a++b).length (a++b)=[a,b]:=by
 have:=segs_flat [a,b] (fun s hs=>by simp only[List.mem_cons,List.not_mem_nil,or_false] at hs;rcases hs with rfl | rfl;exact h;exact h2) (a++b).length (by simp)
 simpa using this
theorem walk_leaf (F:Nat)(own ar:Bool)(x:It)(q:Sc × (Int × Bool))(hc:x.c≠40)(hF:1≤F):walkV F own ar [x] q=stepV own ar x q:=by
 obtain ⟨G,rfl⟩:∃ G,F=G+1:=⟨F-1,by omega⟩
 rw[walkV,if_neg hc];rfl
theorem walk_one (F:Nat)(own ar:Bool)(x:It)(its:List It)(q:Sc × (Int × Bool))(hc:x.c≠40)(h:SegOk its):walkV (F+1) own ar (x::its) q=walkV F false (ar&&inB [119,64,115] x.c) its (stepV own ar x q):=by
 rw[walkV,if_neg hc,segs_one h];rfl
theorem walk_two (F:Nat)(own ar:Bool)(x:It)(a b:List It)(q:Sc × (Int × Bool))(hc:x.c≠40)(h:SegOk a)(h2:SegOk b):
 walkV (F+1) own ar (x::(a++b)) q=walkV F false (ar&&inB [119,64,115] x.c) b (walkV F false (ar&&inB [119,64,115] x.c) a (stepV own ar x q)):=by
 rw[walkV,if_neg hc,segs_two h h2];rfl
theorem step_plain (own ar:Bool)(x:It)(q:Sc × (Int × Bool))(h1:hidesB x.c=false)(h2:usesB x.c=false):stepV own ar x q=q:=by unfold stepV;rw[h1,h2];rfl
theorem segOk_one (x:It)(h:x.nx=1):SegOk [x]:=⟨x,[],rfl,by simpa using h⟩
theorem segOk_cons (x:It)(its:List It)(h:x.nx=1+its.length):SegOk (x::its):=⟨x,its,rfl,h⟩
theorem partC_leaf (p:ByteArray)(L:Nat)(hL:p.size=L)(hp:0<L)(h41:bt p 0≠41)(it:Nat→It)(hh:∀ s a,TxA s a p→headV s a={ ok:=true,i:=a+L,it:=it a })(hc:∀ a,(it a).c≠40∧hidesB (it a).c=false∧usesB (it a).c=false∧((it a).c=82→(it a).r=1∨(it a).r=2)):PtC p:=by
 subst hL
 refine ⟨h41,hp,fun s rule a f ha hf=>?_⟩
 obtain ⟨g,rfl⟩:∃ g,f=g+1:=⟨f-1,by omega⟩
 obtain ⟨c1,c2,c3,c4⟩:=hc a
 refine ⟨_,prs_leaf s rule g a _ (hh s a ha) rfl rfl,⟨segOk_one _ rfl,by simp;omega,fun x hx=>?_⟩,fun F own ar q hF=>?_⟩
 · simp only[List.mem_singleton] at hx;subst hx;exact c4
 · exact (walk_leaf F own ar _ q (by exact c1) (by simpa using hF)).trans (step_plain own ar _ q (by exact c2) (by exact c3))
end Go.Proofs.YtmlkhhhjdpbhfaaGreatDoor

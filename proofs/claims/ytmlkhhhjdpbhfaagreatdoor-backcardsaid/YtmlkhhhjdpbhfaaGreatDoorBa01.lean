import Derived.Test.YtmlkhhhjdpbhfaaGreatDoorFo33
import Derived.Test.YtmlkhhhjdpbhfaaGreatDoorFo51
import Derived.Test.YtmlkhhhjdpbhfaaGreatDoorFo31
import Derived.Test.YtmlkhhhjdpbhfaaGreatDoorTie
import Derived.Test.YtmlkhhhjdpbhfaaGreatDoorCards
import Derived.SevenTiedAt
namespace Go.Proofs.YtmlkhhhjdpbhfaaGreatDoor
open Go.RowKit
def pickV (c n:Int):Nat:=if c<0 then ((-(c+1)).tmod n).toNat else (c.tmod n).toNat
theorem pickV_lt (c n:Int)(hn:0<n):(pickV c n:Int)<n:=by
 have key:∀ d:Int,0≤d→((d.tmod n).toNat:Int)<n:=fun d hd=>by
  have h1:=Int.tmod_lt_of_pos d hn
  have h0:=Int.tmod_nonneg n hd
  omega
 unfold pickV
 split
 · exact key _ (by omega)
 · exact key _ (by omega)
set_option maxHeartbeats 400000 in
theorem pickE_calls (c n:Int)(h1 : -9223372036854775808≤c)(h2:c≤9223372036854775807)(hn:0<n)(hn2:n≤4294967296)(w:World):
 Calls Tryz.prog 13 #[.int .i64 c,.int .i64 n] w fun e w'=>e=.returned (.int .i64 (pickV c n:Nat))∧w'=w:=by
 have hn0:(n==0)=false:=by simp;omega
 by_cases hc:c<0
 · have hke:(-(c+1)).tmod n=(pickV c n:Nat):=by
    have h0:=Int.tmod_nonneg n (show (0:Int) ≤ -(c+1) by omega)
    unfold pickV
    rw[if_pos hc]
    omega
   go_enter Tryz.func13,Tryz.ntmps13
   go_wp2_with fail
   go_ret
   exact ⟨rfl,rfl⟩
 · have hke:c.tmod n=(pickV c n:Nat):=by
    have h0:=Int.tmod_nonneg n (show (0:Int)≤c by omega)
    unfold pickV
    rw[if_neg hc]
    omega
   go_enter Tryz.func13,Tryz.ntmps13
   go_wp2_with fail
   go_ret
   exact ⟨rfl,rfl⟩
set_option maxHeartbeats 1000000 in
theorem chk_calls (s:ByteArray)(hsl:s.size≤maxLen)(w:World)(hS:Shp w):
 Calls Tryz.prog 18 #[.string s] w fun e w'=>e=.returned (.tuple #[.int .i64 (pressV s).1,.int .i64 (pressV s).2])∧Below w.heap.size w w':=by
 have HC:=hide' (sread_calls s hsl w hS (fun h1 h2=>form_ok s h1 h2))
 clear hS
 go_enter Tryz.func18,Tryz.ntmps18
 go_wp2_with fail
 refine HC.out.mono ?_
 rintro e w1 ⟨p,rfl,hb,_⟩
 simp only
 go_wp2_with fail
 go_ret2
 exact ⟨rfl,hb⟩
set_option maxRecDepth 100000 in
set_option maxHeartbeats 2000000 in
theorem back_calls (w:World)(v1:Value)(l1:List Int)(h1:RowN w w.heap.size v1 l1)(tr:ByteArray)(htl:tr.size≤maxLen)(most:Int)(hm : -9223372036854775808≤most∧most≤9223372036854775807)(hS:Shp w)(hP:PowW w):
 Calls Tryz.prog 6 #[v1,.string tr,.int .i64 most] w fun e w'=>e=.returned (.bool true)∧Below w.heap.size w w':=by
 have H1:=hide' h1
 have Hm:=hide' hm
 have HS:=hide' hS
 have HP:=hide' hP
 have HTl:=hide' htl
 clear h1 hm hS hP htl
 have HPk:=hide' (fun W=>pickE_calls most 4001 Hm.out.1 Hm.out.2 (by omega) (by omega) W)
 have HPl:=hide' (pickV_lt most 4001 (by omega))
 generalize pickV most 4001=m at *
 go_enter Tryz.func6,Tryz.ntmps6
 go_wp2_with fail
 refine (grammar_calls w v1 l1 H1.out).mono ?_
 rintro e w1 ⟨⟨p1,p2,p3,hp1,hp2,hp3,hor⟩,hb1⟩
 obtain ⟨g,hg,hgs,rfl⟩:∃ g:ByteArray,pressV g=(0,0)∧g.size≤400∧e=.returned (.string g):=by
  rcases hor with ⟨_,he⟩ | ⟨hs,he⟩
  · exact ⟨_,plain_ok,by decide,he⟩
  · exact ⟨_,made_ok p1 p2 p3 hp1 hp2 hp3 hs,hs,he⟩
 have HG:=hide' hg
 have HB1:=hide' hb1
 clear hp1 hp2 hp3 hor hg hb1
 go_wp2_with fail
 refine (awake_calls w1 (HS.out.below HB1.out) (HP.out.below HB1.out)).mono ?_
 rintro e w2 ⟨rfl,hb2⟩
 have HB2:=hide' (HB1.out.trans (hb2.mono HB1.out.size))
 clear hb2
 go_wp2_with fail
 refine (chk_calls g (by unfold maxLen;omega) w2 (HS.out.below HB2.out)).mono ?_
 rintro e w3 ⟨rfl,hb3⟩
 have HB3:=hide' (HB2.out.trans (hb3.mono HB2.out.size))
 clear hb3
 rw[HG.out]
 go_wp2_with fail
 refine (HPk.out _).mono ?_
 rintro e w4 ⟨rfl,hw4⟩
 rw[hw4]
 clear hw4 w4
 go_wp2_with fail
 refine (gface_calls g tr (by unfold maxLen;omega) HTl.out m w3 (HS.out.below HB3.out) (HP.out.below HB3.out)).mono ?_
 rintro e w5 ⟨rfl,hb5,hlen⟩
 have HB5:=hide' (HB3.out.trans (hb5.mono HB3.out.size))
 have HOk:=hide' (back_ok g tr m (by have:=HPl.out;omega) HG.out)
 have HLen:=hide' hlen
 clear hb5 hlen
 generalize genV g tr m=q at *
 obtain ⟨t1,e1,a1⟩:=q
 by_cases he:e1=0
 · subst he
   have hl0:t1.length≤m:=by have:=HLen.out rfl;simp only at this;omega
   obtain ⟨y1,y2⟩:=HOk.out.yes rfl hl0
   have HY1:=hide' y1
   have HY2:=hide' y2
   have hm4:=HPl.out
   have hts:(⟨t1.toArray⟩:ByteArray).size=t1.length:=by show t1.toArray.size=_;simp
   have hl1:¬ ((m:Int)<(t1.length:Int)):=by omega
   have hl2:(t1.length:Int)≤(m:Int):=by omega
   clear y1 y2 HOk HLen
   simp only at HY1 HY2 ⊢
   go_wp2_with fail
   refine (pface_calls g ⟨t1.toArray⟩ (by unfold maxLen;omega) (by unfold maxLen;omega) 100000 10000 w5 (HS.out.below HB5.out) (HP.out.below HB5.out)).mono ?_
   rintro e w6 ⟨rfl,hb6⟩
   have HB6:=hide' (HB5.out.trans (hb6.mono HB5.out.size))
   clear hb6
   rw[HY1.out,HY2.out]
   clear HY1 HY2
   go_wp2_with (first
    | (go_at_call 13;refine (HPk.out _).mono ?_;rintro e w9 ⟨rfl,hw9⟩;subst hw9))
   go_ret
   exact ⟨rfl,HB6.out⟩
 · obtain ⟨n1,n2,n3⟩:=HOk.out.no he
   simp only at n1 n2 n3 he
   subst n1
   clear HOk HLen he
   simp only
   rcases n3 with rfl | ⟨rfl,hp1,hp2⟩
   · rcases n2 with rfl | rfl | rfl | rfl | rfl
     all_goals
      go_wp2_with fail
      go_ret
      exact ⟨rfl,HB5.out⟩
   · clear n2
     have hp3:¬ a1=0:=by omega
     have hp4:¬ (tr.size:Int)<a1:=by omega
     go_wp2_with fail
     go_ret
     exact ⟨rfl,HB5.out⟩
end Go.Proofs.YtmlkhhhjdpbhfaaGreatDoor
namespace Go.Proofs.YtmlkhhhjdpbhfaaGreatDoor
open Go.ChangeShapes Go.WideShapes Go.ChangeAt Go.WideMaps Go.WideElems Go.RowKit
section
variable {H:Type} {enc:TypeId × Value→H} {P:Program} {w:World} {base:Nat} {spare:Nat→Bool} {held:Bool} {t t1 t2:TypeId}
theorem trod3 {args:Array Value}{ds:List (DataW H)}{ps:List MemPlace}(h:DataW.TrodAll enc P w base spare held [t,t1,t2] args.toList ds ps):
 ∃ v v1 v2 d d1 d2 p p1 p2,args=#[v,v1,v2]∧ds=[d,d1,d2]∧ps=p++(p1++p2)∧DataW.Trod enc P w base spare held t v d p∧DataW.Trod enc P w base spare held t1 v1 d1 p1∧DataW.Trod enc P w base spare held t2 v2 d2 p2:=by
 obtain ⟨v,vs,d,ds0,p,q,hargs,rfl,rfl,hd,hr0⟩:=trodAll_cons h
 obtain ⟨v1,vs1,d1,ds1,p1,q1,rfl,rfl,rfl,hd1,hr1⟩:=trodAll_cons hr0
 obtain ⟨v2,vs2,d2,ds2,p2,q2,rfl,rfl,rfl,hd2,hr2⟩:=trodAll_cons hr1
 obtain ⟨rfl,rfl,rfl⟩:=trodAll_nil hr2
 exact ⟨v,v1,v2,d,d1,d2,p,p1,p2,by cases args;simp_all,rfl,by simp,hd,hd1,hd2⟩
theorem trodMk3 {v v1 v2:Value}{d d1 d2:DataW H}{p p1 p2:List MemPlace}(h:DataW.Trod enc P w base spare held t v d p)(h1:DataW.Trod enc P w base spare held t1 v1 d1 p1)(h2:DataW.Trod enc P w base spare held t2 v2 d2 p2):
 DataW.TrodAll enc P w base spare held [t,t1,t2] [v,v1,v2] [d,d1,d2] (p++(p1++p2)):=
 ⟨p,p1++p2,h,⟨p1,p2,h1,trodAll_mk1 h2,rfl⟩,rfl⟩
end
set_option maxRecDepth 100000 in
theorem bk_lifted (os:Os)(started:os.Started)(H:Type)(enc:TypeId × Value→H):
 ReturnsInHanded {} Tryz.checked os 6 .any (fun w args=>(Rows.backSpec.pre enc Tryz.prog Tryz.f6 [] false w args∧laidMetH Tryz.prog lawLaid w)∧sizedMet enc Tryz.prog Tryz.f6 (OpenSpec.ofChange Rows.backSpec) false w args)
  (Rows.backSpec.post enc Tryz.prog Tryz.f6 false true false false):=by
 refine returnsInHanded_of_change_and (C:=Tryz.checked) (X:=fun w _=>laidMetH Tryz.prog lawLaid w) (fun _ _ _ hh h=>h.of_heap hh) law_own started (by kernel_rfl) Tryz.func6
  (ChangeSpec.witness_at (enc:=enc) (C:=Tryz.checked) (os:=os) (X:=fun w _=>laidMetH Tryz.prog lawLaid w) false ({ World.holding Tryz.prog os ⟨#[],#[],[]⟩ with heap:=parHeap (World.holding Tryz.prog os ⟨#[],#[],[]⟩).heap }:World) #[.slice none 0 0,.string ByteArray.empty,.int .i64 0] 8 rfl (by kernel_rfl) (by kernel_rfl) (by kernel_rfl) (by kernel_rfl) (by kernel_rfl) (laidWorld_met os _)) ?_
 intro W base args ds gs before hval0 hW _ _ hL _
 have hval:∀ (j:Nat) t v,Tryz.f6.params[j]? = some t→args[j]? = some v→Value.okWide Tryz.prog W .any base t v:=hval0
 have hW':=hW
 obtain ⟨p,q,hA0,hV,rfl,hfz,hnd⟩:=hW
 have hA:DataW.TrodAll enc Tryz.prog W 0 (fun _=>true) true Tryz.f6.params.toList args.toList ds p:=hA0
 rw[Tryz.params6] at hA hval
 obtain ⟨v0,v1,v2,d0,d1,d2,p0,p1,p2,rfl,rfl,rfl,h0,h1,h2⟩:=trod3 hA
 obtain ⟨rfl,rfl⟩:=trodVars_none hV
 obtain ⟨l0,r0,lt0⟩:=open_nums (okWide_slice Tryz.underlying24 (hval 0 24 v0 rfl rfl)) h0
 obtain ⟨s,rfl,rfl,rfl,hs⟩:=ChangeMaps.open_string Tryz.underlying9 (hval 1 9 v1 rfl rfl) h1
 obtain ⟨a2,rfl,rfl,rfl,w2⟩:=open_int Tryz.underlying3 (hval 2 3 v2 rfl rfl) h2
 have hS:=shp_of hL
 have hP:=pow_of hL
 clear hA0 hval0
 refine (back_calls W v0 l0 r0 s hs a2 (wf64 w2) hS hP).mono fun e W' ⟨he,bel⟩=>?_
 subst he
 exact ⟨_,rfl,_,_,_,[],_,[],hW',trodAll_mk1 (shut_bool Tryz.underlying4 _),trodMk3 (Below.trod keep_laidOut (by kernel_rfl) (of_decide_eq_true (by kernel_rfl)) h0 bel lt0) (ChangeMaps.shut_string Tryz.underlying9 hs) (shut_int Tryz.underlying3 w2),rfl,bel.frame _,fun h=>by cases h⟩
theorem back_said:Rows.BackSaid:=
 OpenClaim.holds_of_wide 6 Tryz.f6 rfl rfl rfl rfl rfl rfl rfl ⟨rfl,rfl,rfl,rfl,rfl⟩ rfl rfl rfl rfl rfl (by kernel_rfl) Tryz.func6 (by kernel_rfl)
  (of_decide_eq_true (by kernel_rfl)) (by unfold Func.isWrapper;first | (rw[if_pos (by decide +kernel)];kernel_rfl) | (rw[if_neg (by decide +kernel)];exact ⟨rfl,rfl⟩))
  (fun os started H enc _=>bk_lifted os started H enc)
theorem back_holds:Rows.BackCardSaid:=
 Claim7.holds_tied_plain_at .later [] [.data,.data,.data,.data] true (true, "6a1fd465f3fb11445f3add34bf3257ad4baedfe3326c66bb6f54bb55eadbdcba") true
  back_said (fun _ h=>by cases h) (by kernel_rfl) (fun _ h=>by cases h) back_row_tie rfl ⟨rfl,rfl⟩ (by kernel_rfl) rfl
  (fun f fn hf hfn=>by
    obtain rfl:f=6:=Option.some.inj ((show Tryz.prog.funcNamed Rows.backRow.func=some 6 by kernel_rfl).symm.trans hf) |>.symm
    obtain rfl:fn=Tryz.f6:=(Option.some.inj (Tryz.func6.symm.trans hfn)).symm
    exact ⟨by kernel_rfl,fun j t ht=>by
     rw[Tryz.params6] at ht
     have h9:t=24∨t=9∨t=3:=by
      rcases j with _ | _ | _ | j
      · exact Or.inl (by simpa using ht.symm)
      · exact Or.inr (Or.inl (by simpa using ht.symm))
      · exact Or.inr (Or.inr (by simpa using ht.symm))
      · simp at ht
     rcases h9 with rfl | rfl | rfl
     · exact (show Tryz.prog.wantsStandIn 24=false by kernel_rfl)
     · exact (show Tryz.prog.wantsStandIn 9=false by kernel_rfl)
     · exact (show Tryz.prog.wantsStandIn 3=false by kernel_rfl)⟩)
  (by kernel_rfl)
#print axioms back_holds
end Go.Proofs.YtmlkhhhjdpbhfaaGreatDoor

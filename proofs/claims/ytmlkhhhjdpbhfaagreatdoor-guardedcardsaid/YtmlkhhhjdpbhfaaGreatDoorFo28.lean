import Derived.Test.YtmlkhhhjdpbhfaaGreatDoorFo27
import Derived.Test.YtmlkhhhjdpbhfaaGreatDoorFo11
import Derived.Test.YtmlkhhhjdpbhfaaGreatDoorFo12
import Derived.Test.YtmlkhhhjdpbhfaaGreatDoorProg
import Derived.Test.YtmlkhhhjdpbhfaaGreatDoorFo01
import Derived.Deep.RegionHeld3
import Derived.Deep.LoopGhost
import Derived.Deep.DeepCutAuto
import Derived.Deep.RegionLaw
import Derived.Deep.DrawnRows
import Derived.Deep.RegionWith
import Derived.BigRegion
import Derived.WalkKit
import Derived.WalkSpells
import Derived.WalkLawsBesides
namespace Go.Proofs.YtmlkhhhjdpbhfaaGreatDoor
open Go.RowKit
theorem In0.dep {f:Nat}{w:World}{lo hi pb:Nat}{x:It}{kids:List (Nat × List It)}{p:Pt}{B0 bb:Nat}{o:Option Nat}{q:Sc × (Int × Bool)}(h:In0 f w lo hi pb x kids p B0 bb o q)(hh:hidesB x.c=true∨usesB x.c=true):
 ∃ d:Nat,d<8∧p.dp=(d:Int)∧x.d.toNat=d∧p.dpl=x.pl:=by
 obtain ⟨hkd,hd0,hd8⟩:=h.lx.dep hh
 obtain ⟨hdp,hdpl⟩:=h.it.dp hkd
 exact ⟨x.d.toNat,by omega,by rw[hdp];omega,rfl,hdpl⟩
def WStep (w:World)(x:It)(B0 bb:Nat)(o:Option Nat)(own:Bool)(q:Sc × (Int × Bool))(e:Ending)(w':World):Prop:=
 e=.returned (.tuple #[])∧WS B0 bb o (stepV own o.isSome x q) w'∧FrW bb o w w'
theorem hide_any {f:Nat}{w:World}{lo hi pb:Nat}{x:It}{kids:List (Nat × List It)}{p:Pt}{B0 bb:Nat}{o:Option Nat}{q:Sc × (Int × Bool)}(h:In0 f w lo hi pb x kids p B0 bb o q)(own:Bool)(hh:hidesB x.c=true)(hown:own=true→o.isSome=true):
 Calls Tryz.prog 101 #[.pointer (some ⟨bb,0,none⟩),.pointer (some ⟨pb,0,none⟩),ptrO (if own then o else none)] w (WStep w x B0 bb o own q):=by
 obtain ⟨d,hd8,hd,hx,hl⟩:=h.dep (Or.inl hh)
 have hs:stepV own o.isSome x q=hideV own x q:=by unfold stepV;rw[hh];rfl
 have h1:=h.hpb
 have h2:=h.hhi
 have h3:=h.ws.hb
 unfold WStep
 rw[hs]
 cases own with
 | false=>
  refine (hide_nil w bb pb q.2 p h.ws.bd h.blk (by omega)).mono ?_
  rintro e w1 ⟨rfl,k1,k2⟩
  have k:=h.ws.bdS h.hB k1 k2
  rw[hl] at k
  exact ⟨rfl,k,k2.frW _⟩
 | true=>
  cases o with
  | none=>cases hown rfl
  | some sb=>
   obtain ⟨⟨hp,hsc,hhp⟩,hsb,hsB⟩:=h.ws.sc sb rfl
   refine (hide_some w bb pb sb q.2 p hp q.1.us d hd hd8 h.ws.bd h.blk hsc (by omega) (by omega) hsb).mono ?_
   rintro e w1 ⟨rfl,k2,k1⟩
   exact ⟨rfl,h.ws.hideS h.hB hd8 hx hl (by omega) h.blk hhp k2 k1,k2.frW⟩
theorem use_any {f:Nat}{w:World}{lo hi pb:Nat}{x:It}{kids:List (Nat × List It)}{p:Pt}{B0 bb:Nat}{o:Option Nat}{q:Sc × (Int × Bool)}(h:In0 f w lo hi pb x kids p B0 bb o q)(own:Bool)(hh:hidesB x.c=false)(hu:usesB x.c=true):
 Calls Tryz.prog 103 #[.pointer (some ⟨bb,0,none⟩),.pointer (some ⟨pb,0,none⟩),ptrO o] w (WStep w x B0 bb o own q):=by
 obtain ⟨d,hd8,hd,hx,hl⟩:=h.dep (Or.inr hu)
 have hs:stepV own o.isSome x q=useV o.isSome x q:=by unfold stepV;rw[hh,hu];rfl
 have h1:=h.hpb
 have h2:=h.hhi
 have h3:=h.ws.hb
 unfold WStep
 rw[hs]
 cases o with
 | none=>
  refine (use_nil w bb pb q.2 p h.ws.bd h.blk (by omega)).mono ?_
  rintro e w1 ⟨rfl,k1,k2⟩
  have k:=h.ws.bdS h.hB k1 k2
  rw[hl] at k
  exact ⟨rfl,k,k2.frW _⟩
 | some sb=>
  obtain ⟨⟨hp,hsc,hhp⟩,hsb,hsB⟩:=h.ws.sc sb rfl
  refine (use_some w bb pb sb q.2 p hp q.1.us d hd hd8 h.ws.bd h.blk hsc (by omega) (by omega) hsb).mono ?_
  rintro e w1 ⟨rfl,k2,k1⟩
  exact ⟨rfl,h.ws.useS h.hB hd8 hx hl hhp k2 k1,k2.frW⟩
set_option maxRecDepth 100000 in
set_option maxHeartbeats 8000000 in
theorem walk_any (f:Nat)(ih:WalkC f)(w:World)(lo hi pb:Nat)(x:It)(kids:List (Nat × List It))(p:Pt)(B0 bb:Nat)(o:Option Nat)(own:Bool)(q:Sc × (Int × Bool))(h:In0 f w lo hi pb x kids p B0 bb o q)(hown:own=true→o.isSome=true)(hc:(x.c==40)=false)(no:Option Nat)(b:Bool)(hno:no=if inB [119,64,115] x.c then o else none)(hb:no.isSome=b):
 Calls Tryz.prog 61 #[.pointer (some ⟨bb,0,none⟩),.pointer (some ⟨pb,0,none⟩),ptrO (if own then o else none),ptrO o] w fun e w'=>
  e=.returned (.tuple #[])∧WS B0 bb o (foldK f false b kids (stepV own o.isSome x q)) w'∧FrW bb o w w':=by
 obtain ⟨j,hj15,hjk,hju⟩:=h.lx.use
 have hk0:p.k=(j:Int):=by rw[h.it.k];exact hjk
 have hk3:((j:Int)==3)=false:=by rw[← hjk,h.lx.st];exact hc
 have HHid:Hid (kHid (j:Int)=hidesB x.c):=by
  have:kHid (j:Int)=hidesB x.c:=by rw[← hjk];exact h.lx.hid
  exact this
 have HKeep:Hid (kKeep (j:Int)=inB [119,64,115] x.c):=by
  have:kKeep (j:Int)=inB [119,64,115] x.c:=by rw[← hjk];exact h.lx.keep
  exact this
 have HUse:=hide' hju
 have c0:w.cell? ⟨pb,0,none⟩=some (.int .i64 j):=by rw[← hk0];exact h.blk.cell 0
 have HHide:=hide' (hide_any h own)
 have HUsed:=hide' (use_any h own)
 have HPass:Hid (hidesB x.c=false→usesB x.c=false→stepV own o.isSome x q=q):=by
  have:hidesB x.c=false→usesB x.c=false→stepV own o.isSome x q=q:=fun a b=>by unfold stepV;rw[a,b];rfl
  exact this
 have HH:=hide' h
 have HIH:=hide' ih
 have HOwn:=hide' hown
 have HNo:=hide' hno
 have HNb:=hide' hb
 have hpbl:=h.hpb
 have hhil:=h.hhi
 have hBl:=h.hB
 have hbbl:=h.ws.hb
 have hposl:=h.ws.pos
 have HShp:=hide' h.ws.shp
 have hbbs:=h.ws.bd.lt
 have hscB:∀ sb,o=some sb→B0≤sb:=fun sb e=>(h.ws.sc sb e).2.2
 have HScB:=hide' hscB
 generalize hst:stepV own o.isSome x q=sq at *
 clear h ih hc hjk hk0 hju hown hno hb hscB
 generalize (if own then o else none)=u at *
 go_enter Tryz.func61,Tryz.ntmps61
 go_wp2_with fail
 refine (isHidden_calls _ _).mono ?_
 rintro e w9 ⟨rfl,h9⟩
 have h9:=h9.symm
 subst h9
 rw[HHid.out]
 cases hh:hidesB x.c
 case' true=>
  simp only
  go_wp2_with fail
  refine (HHide.out hh HOwn.out).mono ?_
  rintro e w1 ⟨rfl,k1,k2⟩
  rw[hst] at k1
 case' false=>
  simp only
  go_wp2_with fail
  refine (usesDep_calls j hj15 w HShp.out).mono ?_
  rintro e w1 ⟨rfl,h9⟩
  rw[HUse.out]
  cases hu:usesB x.c
  case' true=>
   have h9:=h9.symm
   subst h9
   simp only
   go_wp2_with fail
   refine (HUsed.out hh hu).mono ?_
   rintro e w1 ⟨rfl,k1,k2⟩
   rw[hst] at k1
  case' false=>
   have k2:FrW bb o w w1:=by rw[h9];exact FrW.refl _ _ _
   have k1:WS B0 bb o sq w1:=by rw[h9,HPass.out hh hu];exact HH.out.ws
   clear h9
 all_goals
  have HW1:=hide' k1
  have HF1:=hide' k2
  clear k1 k2
  simp only
  have hsz1:=HF1.out.size
  have HBel1:=hide' (HF1.out.below (B0:=B0) hbbl HScB.out hBl)
  have HB1:Hid (PtBlk w1 pb p):=Blk.below HH.out.blk HBel1.out (by omega)
  have c01:w1.cell? ⟨pb,0,none⟩=some (.int .i64 j):=by rw[HBel1.out.cell (p:=⟨pb,0,none⟩) (by simp;omega)];exact c0
  obtain ⟨ao,cap,hv,hcell⟩:∃ ao cap,p.v=.slice ao (kids.map Prod.fst).length cap∧(∀ i,i<(kids.map Prod.fst).length→∃ g,ao=some ⟨g,0,none⟩∧g<B0∧w.cell? ⟨g,i,none⟩=some (.pointer (some ⟨(kids.map Prod.fst).getD i 0,0,none⟩))):=by
   rcases HH.out.ptr with ⟨hv,hnil⟩ | ⟨g,cap,hv,hg1,hg2,_,hc⟩
   · exact ⟨none,0,by rw[hv,hnil];rfl,fun j hj=>by rw[hnil] at hj;simp at hj⟩
   · exact ⟨_,_,hv,fun j hj=>⟨g,rfl,by omega,hc j hj⟩⟩
  rw[List.length_map] at hv
  have c71:w1.cell? ⟨pb,8,none⟩=some (.slice ao kids.length cap):=by rw[← hv];exact HB1.out.cell 8
  have HCell:=hide' hcell
  clear hcell hv c0
  go_wp2_with fail
  refine (keepsStruct_calls _ _).mono ?_
  rintro e w9 ⟨rfl,h9⟩
  have h9:=h9.symm
  subst h9
  rw[HKeep.out]
  have hno:=HNo.out
  cases hk:inB [119,64,115] x.c
 all_goals
  rw[hk] at hno
  simp only[Bool.false_eq_true,if_false,if_true] at hno
  simp only
  go_wp2_with fail
  have hklen:kids.length≤1000:=by
   have h1:=flat_ge' kids (fun z hz=>(HH.out.rep z hz).segOk)
   have h2:=HH.out.len
   omega
  go_loopw [50] (fun v50 wr=>∃ i:Nat,v50=.int .i64 i∧i≤kids.length∧Hid (WS B0 bb o (foldK f false b (kids.take i) sq) wr)∧Hid (FrW bb o w wr)) (fun v50 _=>kids.length-(intOf v50).toNat)
  case atStart=>exact ⟨0,rfl,by omega,HW1,HF1⟩
  case round=>
   obtain ⟨i,rfl,hile,hat,hfr⟩:=hrel
   have hfs:=hfr.out.size
   by_cases hlt:i<kids.length
   · obtain ⟨g,rfl,hg,hc⟩:=HCell.out i (by simpa using hlt)
     have hjj:(i:Int)<(kids.length:Int):=by omega
     have hq:kids[i]∈kids:=List.getElem_mem hlt
     have hpt:(kids.map Prod.fst).getD i 0=kids[i].1:=by rw[getD_lt _ _ _ (by simpa using hlt)];simp
     rw[hpt] at hc
     have hbel:=hfr.out.below (B0:=B0) hbbl HScB.out hBl
     have hcw:wr.cell? ⟨g,i,none⟩=some (.pointer (some ⟨kids[i].1,0,none⟩)):=by
      rw[hbel.cell (p:=⟨g,i,none⟩) hg];exact hc
     have hkr:=(HH.out.rep _ hq).mono (w':=wr) (fun k h1 h2=>hbel.block k (by omega)) (Nat.le_refl _) (Nat.le_refl _)
     have hlen2:kids[i].2.length≤1000:=by have h1:=mem_flat_le' kids _ hq;have h2:=HH.out.len;omega
     have hmem:∀ z,z∈kids[i].2→z∈kids.flatMap Prod.snd:=fun z hz=>List.mem_flatMap.2 ⟨_,hq,hz⟩
     have hwn:WS B0 bb no (foldK f false b (kids.take i) sq) wr:=by rw[hno];first | exact hat.out | exact hat.out.bare
     have HC:=hide' (HIH.out wr lo hi _ _ false no _ B0 bb hkr hhil (by omega) hwn (fun z hz=>HH.out.lets z (hmem z hz)) hlen2 (fun h=>by cases h))
     have HT:Hid (walkV f false b kids[i].2 (foldK f false b (kids.take i) sq)=foldK f false b (kids.take (i+1)) sq):=by
      have:walkV f false b kids[i].2 (foldK f false b (kids.take i) sq)=foldK f false b (kids.take (i+1)) sq:=by
       rw[List.take_succ_eq_append_getElem hlt,foldK_snoc]
      exact this
     clear hc hpt hkr hmem hlen2 hq hwn
     generalize kids[i]=z at *
     go_wp2_with fail
     have hcc:=HC.out
     rw[HNb.out,hno] at hcc
     refine hcc.mono ?_
     rintro e w5 ⟨rfl,hws5,hfr5⟩
     rw[HT.out] at hws5
     have hup:WS B0 bb o (foldK f false b (kids.take (i+1)) sq) w5∧FrW bb o wr w5:=by
      first
      | exact ⟨hws5,hfr5⟩
      | exact hat.out.up (by omega) hws5 hfr5 (by rw[← HNb.out,hno];simp only[Option.isSome_none];rw[foldK_scope,foldK_scope]) (fun s e=>hat.out.lt s e)
     have HN1:=hide' hup.1
     have HN2:=hide' (hfr.out.trans hup.2)
     clear hup
     clear hcc HC hws5 hfr5 hcw hat
     simp only
     go_wp2_with fail
     go_roundw
     case rel=>exact ⟨i+1,by go_num,by omega,HN1,HN2⟩
     case measure=>simp[intOf];omega
   · have HTk:Hid (WS B0 bb o (foldK f false b kids sq) wr):=by
      have h:=hat.out
      rw[List.take_of_length_le (by omega)] at h
      exact h
     clear hat
     go_wp2_with fail
     go_end0
     exact ⟨rfl,HTk.out,hfr.out⟩
theorem walkV_struct (f:Nat)(own ar:Bool)(x:It)(kids:List (Nat × List It))(hk:∀ z,z∈kids→SegOk z.2)(q:Sc × (Int × Bool))(hc:x.c=40):
 walkV (f+1) own ar (x::kids.flatMap Prod.snd) q=(q.1,endV (foldK f true true kids (Sc0,q.2)).1 (foldK f true true kids (Sc0,q.2)).2):=by
 rw[walkV,if_pos hc,segs_kids kids hk];rfl
theorem walkV_other (f:Nat)(own ar:Bool)(x:It)(kids:List (Nat × List It))(hk:∀ z,z∈kids→SegOk z.2)(q:Sc × (Int × Bool))(hc:¬ x.c=40):
 walkV (f+1) own ar (x::kids.flatMap Prod.snd) q=foldK f false (ar&&inB [119,64,115] x.c) kids (stepV own ar x q):=by
 rw[walkV,if_neg hc,segs_kids kids hk];rfl
set_option maxRecDepth 100000 in
set_option maxHeartbeats 4000000 in
theorem walk_struct (f:Nat)(ih:WalkC f)(w:World)(lo hi pb:Nat)(x:It)(kids:List (Nat × List It))(p:Pt)(B0 bb:Nat)(o:Option Nat)(q:Sc × (Int × Bool))(u v:Value)(h:In0 f w lo hi pb x kids p B0 bb o q)(hc:(x.c==40)=true):
 Calls Tryz.prog 61 #[.pointer (some ⟨bb,0,none⟩),.pointer (some ⟨pb,0,none⟩),u,v] w fun e w'=>
  e=.returned (.tuple #[])∧WS B0 bb o (q.1,endV (foldK f true true kids (Sc0,q.2)).1 (foldK f true true kids (Sc0,q.2)).2) w'∧FrW bb o w w':=by
 have hk3:(p.k==3)=true:=by rw[h.it.k,h.lx.st];exact hc
 have c0:w.cell? ⟨pb,0,none⟩=some (.int .i64 p.k):=h.blk.cell 0
 have HC:=hide' (struct_calls f ih w lo hi pb x kids p q B0 bb h.hpb h.hhi h.hB h.blk h.ptr h.rep h.lets h.len h.ws.bare)
 have HH:=hide' h
 clear ih h
 go_enter Tryz.func61,Tryz.ntmps61
 go_wp2_with fail
 refine HC.out.mono ?_
 rintro e w1 ⟨rfl,k1,k2⟩
 have hup:=HH.out.ws.up HH.out.hB k1 k2 rfl (fun s e=>HH.out.ws.lt s e)
 have HN:=hide' hup
 clear hup k1 k2
 simp only
 go_wp2_with fail
 exact bodyPost_ret (v:=.tuple #[]) (by simp[results,Tryz.results61,go_sem]) rfl ⟨rfl,HN.out.1,HN.out.2⟩
theorem walk_all (f:Nat):WalkC f:=by
 induction f with
 | zero=>intro w lo hi pb seg own o q B0 bb h;exact h.elim
 | succ f ih=>
  intro w lo hi pb seg own o q B0 bb hrep hhi hB hws hlet hlen hown
  obtain ⟨x,kids,p,rfl,hnx,hlo,hpb,hblk,hit,hptr,hkids⟩:=hrep
  have hseg:∀ z,z∈kids→SegOk z.2:=fun z hz=>(hkids z hz).segOk
  have h0:In0 f w lo hi pb x kids p B0 bb o q:=⟨hpb,hhi,hB,hblk,hptr,hkids,fun y hy=>hlet y (List.mem_cons_of_mem _ hy),by simp at hlen;simp;omega,hws,hit,hlet x List.mem_cons_self⟩
  cases hc:(x.c==40)
  rotate_left
  · rw[walkV_struct f own o.isSome x kids hseg q (by simpa using hc)]
    exact walk_struct f ih w lo hi pb x kids p B0 bb o q _ _ h0 hc
  rw[walkV_other f own o.isSome x kids hseg q (by simpa using hc)]
  exact walk_any f ih w lo hi pb x kids p B0 bb o own q h0 hown hc _ _ rfl (by cases inB [119,64,115] x.c<;>simp)
def wrongD (F:Nat)(rls:List Rl)(st:Int × Bool):Int × Bool:=rls.foldl (fun z r=>(walkV F false false r.its (Sc0,z)).2) st
def WalkR (F bb:Nat)(w:World)(pb:Nat)(its:List It)(st:Int × Bool):Prop:=
 Calls Tryz.prog 61 #[.pointer (some ⟨bb,0,none⟩),.pointer (some ⟨pb,0,none⟩),ptrO (if false then (none:Option Nat) else none),ptrO none] w fun e w'=>
  e=.returned (.tuple #[])∧WS bb bb none (walkV F false (none:Option Nat).isSome its (Sc0,st)) w'∧FrW bb none w w'
set_option maxRecDepth 100000 in
set_option maxHeartbeats 4000000 in
theorem wrongDep_calls (s:ByteArray)(w:World)(gb:Nat)(v:Value)(l:List (Rl × Nat))(hg:Blk w gb #[v] 77)(hR:RAt s w v l)(hS:Shp w)(hlets:∀ q,q∈l→∀ x,x∈q.1.its→LetOk x):
 Calls Tryz.prog 39 #[.pointer (some ⟨gb,0,none⟩)] w fun e w'=>
  e=.returned (.tuple #[.int .i64 (wrongD (s.size+1) (l.map Prod.fst) (0,false)).1,.bool (wrongD (s.size+1) (l.map Prod.fst) (0,false)).2])∧Below w.heap.size w w':=by
 have HR:=hide' hR
 have hgl:=hg.lt
 obtain ⟨⟨g,cap,rfl,hgg,hcl⟩,_,hnum,hrul,hl8⟩:=hR
 have HCl:=hide' hcl
 have HRul:=hide' hrul
 have HLets:=hide' hlets
 have ca:∀ o,(w.alloc o).cell? ⟨gb,0,none⟩=some (.slice (some ⟨g,0,none⟩) l.length cap):=fun o=>(Blk.alloc hg o).cell 0
 have hS0:=hS.2
 have HW0:Hid (WS w.heap.size w.heap.size none (Sc0,(0,false)) (w.alloc (.cells #[.int .i64 0,.bool false] 149))):=
  ⟨Blk.new _ _ _,(fun _ e=>by cases e),Nat.le_refl _,hS.fr (B:=w.heap.size) (rb:=w.heap.size) ((Fr.refl _ _ _).alloc (Nat.le_refl _) _) hS0 hS0,hS0⟩
 have HB0:Hid (Below w.heap.size w (w.alloc (.cells #[.int .i64 0,.bool false] 149))):=(Below.refl _ _).alloc (Nat.le_refl _) _
 have hWs:w.heap.size<(w.alloc (.cells #[.int .i64 0,.bool false] 149)).heap.size:=by simp
 clear hg hcl hnum hrul hS hlets
 go_enter Tryz.func39,Tryz.ntmps39
 go_wp2_with fail
 generalize w.alloc (.cells #[.int .i64 0,.bool false] 149)=W0 at *
 clear ca
 generalize hbb:w.heap.size=bb at *
 have HBB:=hide' hbb
 clear hbb
 go_loopw [12] (fun v12 wr=>∃ i:Nat,v12=.int .i64 i∧i≤l.length∧Hid (WS bb bb none (Sc0,wrongD (s.size+1) ((l.map Prod.fst).take i) (0,false)) wr)∧Hid (Below bb w wr)∧Hid (bb<wr.heap.size)) (fun v12 _=>l.length-(intOf v12).toNat)
 case atStart=>exact ⟨0,rfl,by omega,HW0,HB0,hWs⟩
 case round=>
  obtain ⟨i,rfl,hi,hws,hbel,hbw⟩:=hrel
  have hbw2:=hbw.out
  by_cases hlt:i<l.length
  · obtain ⟨d0,d1,d2⟩:=HCl.out i hlt
    have hjj:(i:Int)<(l.length:Int):=by omega
    have hmem:=List.getElem_mem hlt
    obtain ⟨lo,hi2,hlo0,hhi,hrepS⟩:=HR.out.rep l[i] hmem
    have hrep:=hrepS.toT
    clear hrepS
    rw[HBB.out] at hhi
    obtain ⟨_,hrl2⟩:=HRul.out l[i] hmem
    have c0:wr.cell? ⟨g,i*3,none⟩=some (.int .i64 l[i].1.r):=by rw[hbel.out.cell (p:=⟨g,i*3,none⟩) hgg,d0]
    have c1:wr.cell? ⟨g,i*3+1,none⟩=some (.int .i64 (l[i].1.pl:Int)):=by rw[hbel.out.cell (p:=⟨g,i*3+1,none⟩) hgg,d1]
    have c2:wr.cell? ⟨g,i*3+2,none⟩=some (.pointer (some ⟨l[i].2,0,none⟩)):=by rw[hbel.out.cell (p:=⟨g,i*3+2,none⟩) hgg,d2]
    have HC:Hid (∀ o,WalkR (s.size+1) bb (wr.alloc o) l[i].2 l[i].1.its (wrongD (s.size+1) ((l.map Prod.fst).take i) (0,false))):=by
     intro o
     have h:=walk_all (s.size+1) (wr.alloc o) lo hi2 l[i].2 l[i].1.its false none (Sc0,wrongD (s.size+1) ((l.map Prod.fst).take i) (0,false)) bb bb
      (hrep.mono (fun k h1 h2=>by rw[Below.heap_alloc _ _ _ (by omega),hbel.out.block k (by omega)]) (Nat.le_refl _) (Nat.le_refl _)) hhi (by simp;omega)
      ⟨Blk.alloc hws.out.bd o,(fun _ e=>by cases e),Nat.le_refl _,hws.out.shp.fr (B:=wr.heap.size) (rb:=wr.heap.size) ((Fr.refl _ _ _).alloc (Nat.le_refl _) _) (by omega) (by omega),hws.out.pos⟩ (HLets.out l[i] hmem) hrl2 (fun h=>by cases h)
     exact h
    have HT:Hid ((walkV (s.size+1) false false l[i].1.its (Sc0,wrongD (s.size+1) ((l.map Prod.fst).take i) (0,false))).2=wrongD (s.size+1) ((l.map Prod.fst).take (i+1)) (0,false)):=by
     have:(walkV (s.size+1) false false l[i].1.its (Sc0,wrongD (s.size+1) ((l.map Prod.fst).take i) (0,false))).2=wrongD (s.size+1) ((l.map Prod.fst).take (i+1)) (0,false):=by
      rw[List.take_succ_eq_append_getElem (by simpa using hlt)]
      unfold wrongD
      rw[List.foldl_append]
      simp
     exact this
    clear d0 d1 d2 hmem hrep
    generalize l[i]=q at *
    go_wp2_with fail
    have hcc:=HC.out (.cells #[.int .i64 q.1.r,.int .i64 q.1.pl,.pointer (some ⟨q.2,0,none⟩)] 123)
    unfold WalkR at hcc
    simp only[ptrO,Option.map_none,Bool.false_eq_true,if_false] at hcc
    refine hcc.mono ?_
    rintro e w5 ⟨rfl,hws5,hfr5⟩
    have HN1:Hid (WS bb bb none (Sc0,wrongD (s.size+1) ((l.map Prod.fst).take (i+1)) (0,false)) w5):=by
     have h:=hws5.bd
     simp only[Option.isSome_none] at h
     rw[HT.out] at h
     exact ⟨h,(fun _ e=>by cases e),Nat.le_refl _,hws5.shp,hws5.pos⟩
    have hs5:=hfr5.size
    simp at hs5
    have HN2:Hid (Below bb w w5):=(hbel.out.alloc (by omega) _).trans (hfr5.below (Nat.le_refl _) (fun _ e=>by cases e) (by simp;omega))
    clear hcc HC hws5 hfr5 c0 c1 c2
    simp only
    go_wp2_with fail
    go_roundw
    case rel=>exact ⟨i+1,by go_num,by omega,HN1,HN2,(by omega:bb<w5.heap.size)⟩
    case measure=>simp[intOf];omega
  · have HT:Hid (wrongD (s.size+1) ((l.map Prod.fst).take i) (0,false)=wrongD (s.size+1) (l.map Prod.fst) (0,false)):=by
     have:wrongD (s.size+1) ((l.map Prod.fst).take i) (0,false)=wrongD (s.size+1) (l.map Prod.fst) (0,false):=by rw[List.take_of_length_le (by simp;omega)]
     exact this
    have b0:wr.cell? ⟨bb,0,none⟩=some (.int .i64 (wrongD (s.size+1) (l.map Prod.fst) (0,false)).1):=by rw[← HT.out];exact hws.out.bd.cell 0
    have b1:wr.cell? ⟨bb,1,none⟩=some (.bool (wrongD (s.size+1) (l.map Prod.fst) (0,false)).2):=by rw[← HT.out];exact hws.out.bd.cell 1
    generalize hz:wrongD (s.size+1) (l.map Prod.fst) (0,false)=z at *
    have HZ:=hide' hz
    clear HT hz
    go_wp2_with fail
    go_quiet (fail)
    go_wp2_with fail
    go_ret2
    exact ⟨by rw[HZ.out];rfl,by rw[HBB.out];exact ⟨hbel.out.os,hbel.out.tape,hbel.out.output,hbel.out.size,hbel.out.block⟩⟩
theorem Fr.lower2 {B g C:Nat}{a b:World}(h:Fr B g a b)(hB:C≤B)(hg:C≤g):Below C a b:=⟨h.os,h.tape,h.output,h.size,fun k hk=>h.block k (by omega) (by omega)⟩
structure FormOk (rls:List Rl):Prop where
 num:∀ r,r∈rls→0≤r.r∧r.r<8
 rul:∀ r,r∈rls→RulIn r.its∧r.its.length≤1000
 lets:∀ r,r∈rls→∀ x,x∈r.its→LetOk x
 len:rls.length≤8
 ne:0<rls.length
theorem RAt.of {s:ByteArray}{B:Nat}{w:World}{v:Value}{l:List (Rl × Nat)}(h:RMk s B w v l)(hB:0<B)(hf:FormOk (l.map Prod.fst)):RAt s w v l:=by
 have hm:∀ q,q∈l→q.1∈l.map Prod.fst:=fun q hq=>List.mem_map.2 ⟨q,hq,rfl⟩
 have hlen:l.length≤8:=by have:=hf.len;simpa using this
 have hpos:0<l.length:=by have:=hf.ne;simpa using this
 refine ⟨?_,fun q hq=>?_,fun q hq=>hf.num _ (hm q hq),fun q hq=>hf.rul _ (hm q hq),hlen⟩
 · obtain ⟨g,cap,rfl,h1,h2⟩:=h.row.form hpos
   refine ⟨g,cap,rfl,h2,fun j hj=>?_⟩
   refine ⟨?_,?_,?_⟩
   · have:=h.row.cellAt (j*3+0) (by omega)
     rw[rcells_get l j 0 (by omega)] at this
     simpa[hj] using this
   · have:=h.row.cellAt (j*3+1) (by omega)
     rw[rcells_get l j 1 (by omega)] at this
     simpa[hj] using this
   · have:=h.row.cellAt (j*3+2) (by omega)
     rw[rcells_get l j 2 (by omega)] at this
     simpa[hj] using this
 · obtain ⟨lo,hi,a,b,_,c⟩:=h.ok q hq
   exact ⟨lo,hi,by omega,b,c⟩
def pressV (s:ByteArray):Int × Int:=
 if 400<s.size then (1,0) else if (formV s).ok=false then (2,(formV s).i)
 else if (scanR (inR (formV s).rls) [] (formV s).rls).2 then (3,(scanR (inR (formV s).rls) [] (formV s).rls).1)
 else if (wrongD (s.size+1) (formV s).rls (0,false)).2 then (4,(wrongD (s.size+1) (formV s).rls (0,false)).1) else (0,0)
structure GrAt (s:ByteArray) (w:World) (gb:Nat):Prop where
 ex:∃ v l,Blk w gb #[v] 77∧RAt s w v l∧l.map Prod.fst=(formV s).rls
theorem GrAt.below {s:ByteArray}{w w':World}{gb:Nat}(h:GrAt s w gb)(hb:Below w.heap.size w w'):GrAt s w' gb:=by
 obtain ⟨v,l,h1,h2,h3⟩:=h.ex
 exact ⟨v,l,h1.below hb h1.lt,h2.below hb,h3⟩
def SReadPost (s:ByteArray)(w w':World)(p:Value):Prop:=(pressV s).1=0→∃ gb,p=.pointer (some ⟨gb,0,none⟩)∧w.heap.size≤gb∧GrAt s w' gb
set_option maxRecDepth 100000 in
set_option maxHeartbeats 4000000 in
theorem sread_calls (s:ByteArray)(_hsl:s.size≤maxLen)(w:World)(hS:Shp w)(hform:s.size≤400→(formV s).ok=true→FormOk (formV s).rls):
 Calls Tryz.prog 25 #[.string s] w fun e w'=>∃ p,e=.returned (.tuple #[p,.int .i64 (pressV s).1,.int .i64 (pressV s).2])∧Below w.heap.size w w'∧SReadPost s w w' p:=by
 have HS:=hide' hS
 have HFm:=hide' hform
 clear hS hform
 by_cases hs:400<s.size
 · have hs':(400:Int)<(s.size:Int):=by omega
   have HR:Hid (pressV s=(1,0)):=by
    have:pressV s=(1,0):=by unfold pressV;rw[if_pos hs]
    exact this
   unfold maxLen at _hsl
   go_enter Tryz.func25,Tryz.ntmps25
   go_wp2_with fail
   go_ret3
   exact ⟨.pointer none,by rw[HR.out];rfl,Below.refl _ _,fun h=>by rw[HR.out] at h;cases h⟩
 have hs':¬ (400:Int)<(s.size:Int):=by omega
 have HP:Hid (pressV s=if (formV s).ok=false then (2,((formV s).i:Int))
  else if (scanR (inR (formV s).rls) [] (formV s).rls).2 then (3,(scanR (inR (formV s).rls) [] (formV s).rls).1)
  else if (wrongD (s.size+1) (formV s).rls (0,false)).2 then (4,(wrongD (s.size+1) (formV s).rls (0,false)).1) else (0,0)):=by
  show pressV s=_
  unfold pressV
  rw[if_neg hs]
 have HR0:Hid (Rd (w.alloc (.cells #[.string s,.int .i64 0] 72)) w.heap.size s 0):=Blk.new _ _ _
 have HS0:Hid (Shp (w.alloc (.cells #[.string s,.int .i64 0] 72))):=HS.out.fr (B:=w.heap.size) (rb:=w.heap.size) ((Fr.refl _ _ _).alloc (Nat.le_refl _) _) HS.out.2 HS.out.2
 have HB0:Hid (Below w.heap.size w (w.alloc (.cells #[.string s,.int .i64 0] 72))):=(Below.refl _ _).alloc (Nat.le_refl _) _
 have hpos:=HS.out.2
 have hsW:(w.alloc (.cells #[.string s,.int .i64 0] 72)).heap.size=w.heap.size+1:=by simp
 go_enter Tryz.func25,Tryz.ntmps25
 go_wp2_with fail
 generalize w.alloc (.cells #[.string s,.int .i64 0] 72)=W0 at *
 generalize hrb:w.heap.size=rb at *
 have HRB:=hide' hrb
 clear hrb
 refine (rules_calls s (by omega) W0 rb HR0.out HS0.out hpos).mono ?_
 rintro e w1 ⟨v,rfl,hfr,hno,hyes⟩
 have hs1:=hfr.size
 have HBW:Hid (Below rb w w1):=HB0.out.trans (Fr.lower2 hfr (by omega) (Nat.le_refl _))
 have HS1:Hid (Shp w1):=HS0.out.fr (B:=W0.heap.size) hfr hpos (by omega)
 cases hok:(formV s).ok
 · have h1:=hno hok
   have c1:w1.cell? ⟨rb,1,none⟩=some (.int .i64 ((formV s).i:Int)):=h1.cell 1
   have HR:Hid (pressV s=(2,((formV s).i:Int))):=by
    have:pressV s=(2,((formV s).i:Int)):=by rw[HP.out,if_pos hok]
    exact this
   clear hno hyes hok h1 hfr
   simp only
   go_wp2_with fail
   go_quiet (fail)
   go_wp2_with fail
   go_ret3
   exact ⟨.pointer none,by rw[HR.out];rfl,by rw[HRB.out];exact ⟨HBW.out.os,HBW.out.tape,HBW.out.output,HBW.out.size,HBW.out.block⟩,fun h=>by rw[HR.out] at h;cases h⟩
 · obtain ⟨l,hl,hmk⟩:=hyes hok
   have hF:=HFm.out (Nat.le_of_not_lt hs) hok
   have HOK:=hide' hok
   rw[← hl] at hF
   have hRA:=RAt.of hmk (by omega) hF
   have HLets:Hid (∀ q,q∈l→∀ x,x∈q.1.its→LetOk x):=fun q hq x hx=>hF.lets q.1 (List.mem_map.2 ⟨q,hq,rfl⟩) x hx
   have HRA:=hide' hRA
   have HL:=hide' hl
   obtain ⟨gv,cv,hvv,_,_⟩:=hRA.shape
   subst hvv
   clear hno hyes hok hmk hF hRA hl hfr
   simp only
   go_wp2_with fail
   have HG2:=hide' (Blk.new w1 #[.slice (some ⟨gv,0,none⟩) l.length cv] 77)
   have HB2:=hide' ((Below.refl w1.heap.size w1).alloc (Nat.le_refl _) (.cells #[.slice (some ⟨gv,0,none⟩) l.length cv] 77))
   generalize w1.alloc (.cells #[.slice (some ⟨gv,0,none⟩) l.length cv] 77)=w2 at *
   have hs2:=HB2.out.size
   refine (wrongRuleG_calls s w2 w1.heap.size _ l HG2.out (HRA.out.below HB2.out)).mono ?_
   rintro e w3 ⟨rfl,hb3⟩
   have HB3:=hide' hb3
   have hs3:=hb3.size
   have HG3:=hide' (HG2.out.below hb3 HG2.out.lt)
   have HRA3:=hide' ((HRA.out.below HB2.out).below hb3)
   have HS3:Hid (Shp w3):=⟨fun j u hu=>by rw[hb3.cell (p:=⟨0,0+j,none⟩) (by simp;omega),HB2.out.cell (p:=⟨0,0+j,none⟩) (by simp;omega)];exact HS1.out.1 j u hu,by omega⟩
   have HBW3:Hid (Below rb w w3):=(HBW.out.trans (HB2.out.mono (by omega))).trans (hb3.mono (by omega))
   have HSc:Hid (scanR (inR (formV s).rls) [] (formV s).rls=scanR (inR (l.map Prod.fst)) [] (l.map Prod.fst)):=by
    have:scanR (inR (formV s).rls) [] (formV s).rls=scanR (inR (l.map Prod.fst)) [] (l.map Prod.fst):=by rw[← HL.out]
    exact this
   clear hb3
   generalize scanR (inR (l.map Prod.fst)) [] (l.map Prod.fst)=z at *
   obtain ⟨z1,z2⟩:=z
   cases z2
   rotate_left
   · have HR:Hid (pressV s=(3,z1)):=by
      have:pressV s=(3,z1):=by rw[HP.out,if_neg (by rw[HOK.out];simp),HSc.out];rfl
      exact this
     simp only
     go_wp2_with fail
     go_ret3
     exact ⟨.pointer none,by rw[HR.out];rfl,by rw[HRB.out];exact HBW3.out,fun h=>by rw[HR.out] at h;cases h⟩
   · simp only
     go_wp2_with fail
     refine (wrongDep_calls s w3 w1.heap.size _ l HG3.out HRA3.out HS3.out HLets.out).mono ?_
     rintro e w4 ⟨rfl,hb4⟩
     have HBW4:Hid (Below rb w w4):=HBW3.out.trans (hb4.mono (by omega))
     have HWd:Hid (wrongD (s.size+1) (formV s).rls (0,false)=wrongD (s.size+1) (l.map Prod.fst) (0,false)):=by
      have:wrongD (s.size+1) (formV s).rls (0,false)=wrongD (s.size+1) (l.map Prod.fst) (0,false):=by rw[← HL.out]
      exact this
     have HGR:Hid (GrAt s w4 w1.heap.size):=⟨_,l,HG3.out.below hb4 (by have:=HG3.out.lt;omega),HRA3.out.below hb4,HL.out⟩
     clear hb4
     generalize wrongD (s.size+1) (l.map Prod.fst) (0,false)=y at *
     obtain ⟨y1,y2⟩:=y
     cases y2
     · have HR:Hid (pressV s=(0,0)):=by
        have:pressV s=(0,0):=by rw[HP.out,if_neg (by rw[HOK.out];simp),HSc.out,HWd.out];rfl
        exact this
       simp only
       go_wp2_with fail
       go_ret3
       exact ⟨_,by rw[HR.out];rfl,by rw[HRB.out];exact HBW4.out,fun _=>⟨_,rfl,by rw[HRB.out];omega,HGR.out⟩⟩
     · have HR:Hid (pressV s=(4,y1)):=by
        have:pressV s=(4,y1):=by rw[HP.out,if_neg (by rw[HOK.out];simp),HSc.out,HWd.out];rfl
        exact this
       simp only
       go_wp2_with fail
       go_ret3
       exact ⟨.pointer none,by rw[HR.out];rfl,by rw[HRB.out];exact HBW4.out,fun h=>by rw[HR.out] at h;cases h⟩
theorem kAny_list (c:Int)(h:c=82∨c=39∨kAny c=true):c=82∨c=39∨c=110∨c=108∨c=40∨c=47∨c=42∨c=104∨c=107∨c=114∨c=116∨c=119∨c=64∨c=115∨c=46:=by
 rcases h with h | h | h
 · exact Or.inl h
 · exact Or.inr (Or.inl h)
 · simp only[kAny,inB,List.any_cons,List.any_nil,Bool.or_false,Bool.or_eq_true,beq_iff_eq] at h
   rcases h with h | h | h | h | h | h | h | h | h | h | h | h | h<;>simp at h<;>omega
theorem letOk_of (x:It)(h:ItemOk x):LetOk x:=by
 have hd:=h.d
 have hc:=kAny_list x.c h.c
 refine ⟨?_,?_,?_,?_,?_⟩
 · rcases hc with e | e | e | e | e | e | e | e | e | e | e | e | e | e | e<;>rw[e]<;>decide
 · rcases hc with e | e | e | e | e | e | e | e | e | e | e | e | e | e | e<;>rw[e]<;>decide
 · rcases hc with e | e | e | e | e | e | e | e | e | e | e | e | e | e | e<;>rw[e]
   · exact ⟨6,by decide,by decide,by decide⟩
   · exact ⟨2,by decide,by decide,by decide⟩
   · exact ⟨0,by decide,by decide,by decide⟩
   · exact ⟨1,by decide,by decide,by decide⟩
   · exact ⟨3,by decide,by decide,by decide⟩
   · exact ⟨4,by decide,by decide,by decide⟩
   · exact ⟨5,by decide,by decide,by decide⟩
   · exact ⟨7,by decide,by decide,by decide⟩
   · exact ⟨8,by decide,by decide,by decide⟩
   · exact ⟨9,by decide,by decide,by decide⟩
   · exact ⟨10,by decide,by decide,by decide⟩
   · exact ⟨11,by decide,by decide,by decide⟩
   · exact ⟨12,by decide,by decide,by decide⟩
   · exact ⟨13,by decide,by decide,by decide⟩
   · exact ⟨14,by decide,by decide,by decide⟩
 · rcases hc with e | e | e | e | e | e | e | e | e | e | e | e | e | e | e<;>rw[e]<;>decide
 · intro hu
   have hk:kD x.c=true:=by
    rcases hc with e | e | e | e | e | e | e | e | e | e | e | e | e | e | e<;>rw[e] at hu ⊢<;>revert hu<;>decide
   exact ⟨hk,hd hk⟩
theorem rulIn_of (l:List It)(h:∀ x,x∈l→ItemOk x):RulIn l:=fun x hx=>by
 refine ⟨(h x hx).r,?_⟩
 rcases kAny_list x.c (h x hx).c with e | e | e | e | e | e | e | e | e | e | e | e | e | e | e
 · exact Or.inl e
 all_goals (right;rw[e];decide)
theorem form_ok (s:ByteArray)(hs:s.size≤400)(h:(formV s).ok=true):FormOk (formV s).rls:=by
 obtain ⟨_,h2,h3,h4⟩:=rules_ord s 8 65 0 (by omega) h
 exact ⟨fun r hr=>(h2 r hr).num,fun r hr=>⟨rulIn_of _ (h2 r hr).items,by have:=(h2 r hr).len;omega⟩,fun r hr x hx=>letOk_of x ((h2 r hr).items x hx),h3,h4⟩
def rest (p:Nat→Res)(s:ByteArray)(f:Nat)(q:Int)(j i:Nat):Res:=
 if q<0 then (if j=0 then loopB p s f i else if bt s i=41 then ⟨true,i+1,[]⟩ else loopB p s (f-j) i) else loopN p (q.toNat-j) i
def Ints (w:World)(v:Value)(l:List Nat):Prop:=
 (v=.slice none 0 0∧l=[])∨∃ g cap,v=.slice (some ⟨g,0,none⟩) l.length cap∧g<w.heap.size∧l.length≤cap∧cap≤maxLen∧∀ j,j<l.length→w.cell? ⟨g,j,none⟩=some (.int .i64 (l.getD j 0:Nat))
theorem Ints.below {w w':World}{v:Value}{l:List Nat}(h:Ints w v l)(hb:Below w.heap.size w w'):Ints w' v l:=by
 rcases h with h | ⟨g,cap,rfl,hg,h1,h2,h3⟩
 · exact Or.inl h
 · exact Or.inr ⟨g,cap,rfl,by have:=hb.size;omega,h1,h2,fun j hj=>by rw[hb.cell (p:=⟨g,j,none⟩) hg];exact h3 j hj⟩
structure Grm (w:World) (gb g c:Nat) (fi tw:Value) (its:List It):Prop where
 blk:Blk w gb #[.slice (some ⟨g,0,none⟩) its.length c,fi,tw] 130
 lt:g<w.heap.size
 cell:∀ k q,k<its.length→q<9→w.cell? ⟨g,k*9+q,none⟩=((itd its k).off k).cells[q]?
theorem Grm.below {w w':World}{gb g c:Nat}{fi tw:Value}{its:List It}(h:Grm w gb g c fi tw its)(hb:Below w.heap.size w w'):Grm w' gb g c fi tw its:=
 ⟨h.blk.below hb h.blk.lt,by have:=hb.size;have:=h.lt;omega,fun k q hk hq=>by rw[hb.cell (p:=⟨g,k*9+q,none⟩) h.lt];exact h.cell k q hk hq⟩
theorem Grm.c {w:World}{gb g c:Nat}{fi tw:Value}{its:List It}(h:Grm w gb g c fi tw its)(k:Nat)(hk:k<its.length):w.cell? ⟨g,k*9,none⟩=some (.int .u8 (itd its k).c):=by
 have:=h.cell k 0 hk (by omega);simpa[It.cells,It.off] using this
theorem Grm.nx {w:World}{gb g c:Nat}{fi tw:Value}{its:List It}(h:Grm w gb g c fi tw its)(hwf:Wf its)(k:Nat)(hk:k<its.length):w.cell? ⟨g,k*9+6,none⟩=some (.int .i64 (nxt its k:Nat)):=by
 have:=h.cell k 6 hk (by omega)
 rw[this]
 have hp:=(hwf.pos k hk).1
 simp[It.cells,It.off,nxt]
 omega
end Go.Proofs.YtmlkhhhjdpbhfaaGreatDoor

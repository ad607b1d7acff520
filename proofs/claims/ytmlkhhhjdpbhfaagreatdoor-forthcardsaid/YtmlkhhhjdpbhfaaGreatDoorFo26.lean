import Derived.Test.YtmlkhhhjdpbhfaaGreatDoorFo25
import Derived.Test.YtmlkhhhjdpbhfaaGreatDoorFo12
import Derived.Test.YtmlkhhhjdpbhfaaGreatDoorFo03
import Derived.Deep.RegionHeld3
import Derived.Deep.DrawnRows
namespace Go.Proofs.YtmlkhhhjdpbhfaaGreatDoor
open Go.RowKit
def TrS:Nat→List It→Prop
 | 0,_=>False
 | f+1,l=>∃ x kids,l=x::List.flatten kids∧x.nx=1+((List.flatten kids).length:Int)∧(∀ z,z∈kids→TrS f z)∧(inB [119,64,115] x.c=true→∃ z,kids=[z])
theorem TrS.seg {f:Nat}{l:List It}(h:TrS f l):SegOk l:=by
 cases f with
 | zero=>exact h.elim
 | succ f=>obtain ⟨x,kids,h1,h2,_⟩:=h;exact ⟨x,kids.flatten,h1,h2⟩
def At (its:List It)(b:Nat)(l:List It):Prop:=∃ A C,its=A++(l++C)∧A.length=b
theorem At.get {its:List It}{b:Nat}{l:List It}(h:At its b l)(j:Nat)(hj:j<l.length):itd its (b+j)=itd l j:=by
 obtain ⟨A,C,rfl,rfl⟩:=h
 unfold itd
 rw[getD_lt _ _ _ (by simp;omega),getD_lt _ _ _ hj,List.getElem_append_right (by omega)]
 simp only[Nat.add_sub_cancel_left]
 rw[List.getElem_append_left hj]
theorem At.le {its:List It}{b:Nat}{l:List It}(h:At its b l):b+l.length≤its.length:=by
 obtain ⟨A,C,rfl,rfl⟩:=h;simp
theorem At.head {its:List It}{b:Nat}{x:It}{r:List It}(h:At its b (x::r)):itd its b=x:=by
 have:=h.get 0 (by simp)
 simpa[itd] using this
theorem At.tail {its:List It}{b:Nat}{x:It}{r:List It}(h:At its b (x::r)):At its (b+1) r:=by
 obtain ⟨A,C,rfl,rfl⟩:=h
 exact ⟨A++[x],C,by simp,by simp⟩
def hu (its:List It)(k:Nat):Bool:=hidesB (itd its k).c||usesB (itd its k).c
def PlInc (l:List It):Prop:=l.Pairwise (fun x y=>x.pl<y.pl)
def kKeep (k:Int):Bool:=k==11||k==12||k==13
def kUse (j:Nat):Bool:=(sh j).d && !(kHid j)
set_option maxHeartbeats 1000000 in
theorem keepsStruct_calls (k:Int)(w:World):Calls Tryz.prog 104 #[.int .i64 k] w fun e w'=>e=.returned (.bool (kKeep k))∧w'=w:=by
 go_enter Tryz.func104,Tryz.ntmps104
 go_wp2
 all_goals
  go_ret
  refine ⟨?_,rfl⟩
  first
   | rfl
   | (unfold kKeep;simp[*])
theorem Shp.dep {w:World}(h:Shp w)(j:Nat)(hj:j<15):w.cell? ⟨0,j*6+3,none⟩=some (.bool (sh j).d):=by
 have h2:∀ q v,shpL[q]? = some v→w.cell? ⟨0,q,none⟩=some v:=fun q v hq=>by have:=h.1 q v hq;simpa using this
 have h15:j=0∨j=1∨j=2∨j=3∨j=4∨j=5∨j=6∨j=7∨j=8∨j=9∨j=10∨j=11∨j=12∨j=13∨j=14:=by omega
 rcases h15 with rfl | rfl | rfl | rfl | rfl | rfl | rfl | rfl | rfl | rfl | rfl | rfl | rfl | rfl | rfl<;>exact h2 _ _ rfl
set_option maxHeartbeats 1000000 in
theorem usesDep_calls (j:Nat)(hj:j<15)(w:World)(hS:Shp w):Calls Tryz.prog 102 #[.int .i64 j] w fun e w'=>e=.returned (.bool (kUse j))∧w'=w:=by
 have c3:=hS.dep j hj
 have hj':(j:Int)<15:=by omega
 have HU:Hid (kUse j=((sh j).d && !(kHid j))):=rfl
 clear hS
 cases hd:(sh j).d
 · rw[hd] at c3
   go_enter Tryz.func102,Tryz.ntmps102
   go_wp2_with fail
   go_ret
   exact ⟨by rw[HU.out,hd];rfl,rfl⟩
 · rw[hd] at c3
   go_enter Tryz.func102,Tryz.ntmps102
   go_wp2_with (go_at_call 100;refine (isHidden_calls _ _).mono ?_;rintro e w9 ⟨rfl,h9⟩;have h9:=h9.symm;subst h9)
   go_ret
   exact ⟨by rw[HU.out,hd];rfl,rfl⟩
def BdAt (w:World)(bb:Nat)(st:Int × Bool):Prop:=Blk w bb #[.int .i64 st.1,.bool st.2] 149
def bw (st:Int × Bool)(d:Int):Int × Bool:=if !st.2||decide (d<st.1) then (d,true) else st
set_option maxRecDepth 100000 in
set_option maxHeartbeats 2000000 in
theorem wrong_calls (w:World)(bb pb:Nat)(st:Int × Bool)(p:Pt)(hb:BdAt w bb st)(hp:PtBlk w pb p)(hne:pb≠bb):
 Calls Tryz.prog 173 #[.pointer (some ⟨bb,0,none⟩),.pointer (some ⟨pb,0,none⟩)] w fun e w'=>e=.returned (.tuple #[])∧BdAt w' bb (bw st p.dpl)∧Same bb w w':=by
 have c0:w.cell? ⟨bb,0,none⟩=some (.int .i64 st.1):=hb.cell 0
 have c1:w.cell? ⟨bb,1,none⟩=some (.bool st.2):=hb.cell 1
 have f0:w.frozen? ⟨bb,0,none⟩=false:=hb.frozen 0
 have f1:w.frozen? ⟨bb,1,none⟩=false:=hb.frozen 1
 have c4:w.cell? ⟨pb,4,none⟩=some (.int .i64 p.dpl):=hp.cell 4
 have HB:Hid (BdAt w bb st):=hb
 have hne':¬ bb=pb:=fun e=>hne e.symm
 clear hb hp
 obtain ⟨pl,fo⟩:=st
 simp only at c0 c1
 cases fo
 · have HW:Hid (bw (pl,false) p.dpl=(p.dpl,true)):=rfl
   go_enter Tryz.func173,Tryz.ntmps173
   go_wp2_with fail
   go_quiet (fail)
   go_wp2_with fail
   go_end0
   rw[HW.out]
   exact ⟨rfl,Blk.set (Blk.set (show BdAt (w.drewN nq) bb (pl,false) from HB.out) 0 _) 1 _,((Same.drewN bb w nq).setCell _ _).setCell _ _⟩
 · by_cases hlt:p.dpl<pl
   · have HW:Hid (bw (pl,true) p.dpl=(p.dpl,true)):=by
      have:bw (pl,true) p.dpl=(p.dpl,true):=by unfold bw;simp[hlt]
      exact this
     have hd:decide (p.dpl<pl)=true:=by simpa using hlt
     go_enter Tryz.func173,Tryz.ntmps173
     go_wp2_with fail
     go_quiet (fail)
     go_wp2_with fail
     go_end0
     rw[HW.out]
     exact ⟨rfl,Blk.set (Blk.set (show BdAt (w.drewN nq) bb (pl,true) from HB.out) 0 _) 1 _,((Same.drewN bb w nq).setCell _ _).setCell _ _⟩
   · have HW:Hid (bw (pl,true) p.dpl=(pl,true)):=by
      have:bw (pl,true) p.dpl=(pl,true):=by unfold bw;simp[hlt]
      exact this
     have hd:decide (p.dpl<pl)=false:=by simpa using hlt
     go_enter Tryz.func173,Tryz.ntmps173
     go_wp2_with fail
     go_quiet (fail)
     go_wp2_with fail
     go_end0
     rw[HW.out]
     exact ⟨rfl,HB.out,Same.drewN bb w nq⟩
def ptrO (o:Option Nat):Value:=.pointer (o.map fun q=>⟨q,0,none⟩)
def scells (hp:Nat→Option Nat)(us:Nat→Bool):Array Value:=
 #[ptrO (hp 0),ptrO (hp 1),ptrO (hp 2),ptrO (hp 3),ptrO (hp 4),ptrO (hp 5),ptrO (hp 6),ptrO (hp 7),.bool (us 0),.bool (us 1),.bool (us 2),.bool (us 3),.bool (us 4),.bool (us 5),.bool (us 6),.bool (us 7)]
def ScAt (w:World)(sb:Nat)(hp:Nat→Option Nat)(us:Nat→Bool):Prop:=Blk w sb (scells hp us) 256
def upO (hp:Nat→Option Nat)(d q:Nat):Nat→Option Nat:=fun k=>if k=d then some q else hp k
def upB (us:Nat→Bool)(d:Nat):Nat→Bool:=fun k=>if k=d then true else us k
theorem scells_h (hp:Nat→Option Nat)(us:Nat→Bool)(d:Nat)(h:d<8):(scells hp us)[d]? = some (ptrO (hp d))∧(scells hp us)[8+d]? = some (.bool (us d)):=by
 have h8:d=0∨d=1∨d=2∨d=3∨d=4∨d=5∨d=6∨d=7:=by omega
 rcases h8 with rfl | rfl | rfl | rfl | rfl | rfl | rfl | rfl<;>exact ⟨rfl,rfl⟩
theorem scells_setO (hp:Nat→Option Nat)(us:Nat→Bool)(d q:Nat)(h:d<8):(scells hp us).setIfInBounds d (ptrO (some q))=scells (upO hp d q) us:=by
 have h8:d=0∨d=1∨d=2∨d=3∨d=4∨d=5∨d=6∨d=7:=by omega
 rcases h8 with rfl | rfl | rfl | rfl | rfl | rfl | rfl | rfl<;>simp[scells,upO]
theorem scells_setB (hp:Nat→Option Nat)(us:Nat→Bool)(d:Nat)(h:d<8):(scells hp us).setIfInBounds (8+d) (.bool true)=scells hp (upB us d):=by
 have h8:d=0∨d=1∨d=2∨d=3∨d=4∨d=5∨d=6∨d=7:=by omega
 rcases h8 with rfl | rfl | rfl | rfl | rfl | rfl | rfl | rfl<;>simp[scells,upB]
set_option maxRecDepth 100000 in
set_option maxHeartbeats 2000000 in
theorem hide_nil (w:World)(bb pb:Nat)(st:Int × Bool)(p:Pt)(hb:BdAt w bb st)(hp:PtBlk w pb p)(hne:pb≠bb):
 Calls Tryz.prog 101 #[.pointer (some ⟨bb,0,none⟩),.pointer (some ⟨pb,0,none⟩),.pointer none] w fun e w'=>e=.returned (.tuple #[])∧BdAt w' bb (bw st p.dpl)∧Same bb w w':=by
 have HB:Hid (BdAt w bb st):=hb
 have HP:Hid (PtBlk w pb p):=hp
 clear hb hp
 go_enter Tryz.func101,Tryz.ntmps101
 go_wp2_with fail
 go_quiet (fail)
 go_wp2_with fail
 refine (wrong_calls (w.drewN nq) bb pb st p HB.out HP.out hne).mono ?_
 rintro e w1 ⟨rfl,h1,h2⟩
 simp only
 go_wp2_with fail
 exact bodyPost_ret (v:=.tuple #[]) (by simp[results,Tryz.results101,go_sem]) rfl ⟨rfl,h1,(Same.drewN bb w nq).trans h2⟩
set_option maxRecDepth 100000 in
set_option maxHeartbeats 2000000 in
theorem hide_some (w:World)(bb pb sb:Nat)(st:Int × Bool)(p:Pt)(hp0:Nat→Option Nat)(us:Nat→Bool)(d:Nat)(hd:p.dp=(d:Int))(hd8:d<8)(hb:BdAt w bb st)(hp:PtBlk w pb p)(hs:ScAt w sb hp0 us)(hne:pb≠bb)(hne2:pb≠sb)(hne3:sb≠bb):
 Calls Tryz.prog 101 #[.pointer (some ⟨bb,0,none⟩),.pointer (some ⟨pb,0,none⟩),.pointer (some ⟨sb,0,none⟩)] w fun e w'=>e=.returned (.tuple #[])∧Same2 bb sb w w'∧
  ((hp0 d≠none∧BdAt w' bb (bw st p.dpl)∧ScAt w' sb hp0 us)∨(hp0 d=none∧BdAt w' bb st∧ScAt w' sb (upO hp0 d pb) us)):=by
 have c3:w.cell? ⟨pb,3,none⟩=some (.int .i64 d):=by rw[← hd];exact hp.cell 3
 have cs:w.cell? ⟨sb,d,none⟩=some (ptrO (hp0 d)):=by rw[Blk.cell hs d];exact (scells_h hp0 us d hd8).1
 have fs:w.frozen? ⟨sb,d,none⟩=false:=Blk.frozen hs d
 have HB:Hid (BdAt w bb st):=hb
 have HP:Hid (PtBlk w pb p):=hp
 have HSc:Hid (ScAt w sb hp0 us):=hs
 have hd8':(d:Int)<8:=by omega
 have hsp:¬ sb=pb:=fun e=>hne2 e.symm
 clear hb hp hs hd
 cases ho:hp0 d with
 | some q=>
  rw[ho] at cs
  simp only[ptrO,Option.map_some] at cs
  have HO:=hide' ho
  clear ho
  go_enter Tryz.func101,Tryz.ntmps101
  go_wp2_with fail
  go_quiet (fail)
  go_wp2_with fail
  refine (wrong_calls (w.drewN nq) bb pb st p HB.out HP.out hne).mono ?_
  rintro e w1 ⟨rfl,h1,h2⟩
  simp only
  go_wp2_with fail
  exact bodyPost_ret (v:=.tuple #[]) (by simp[results,Tryz.results101,go_sem]) rfl ⟨rfl,(((Same.drewN bb w nq).trans h2).two sb),Or.inl ⟨by simp,h1,Blk.same (show ScAt (w.drewN nq) sb hp0 us from HSc.out) h2 hne3⟩⟩
 | none=>
  rw[ho] at cs
  simp only[ptrO,Option.map_none] at cs
  have HO:=hide' ho
  clear ho
  go_enter Tryz.func101,Tryz.ntmps101
  go_wp2_with fail
  go_quiet (fail)
  go_wp2_with fail
  go_region
  all_goals
   go_wp2_with fail
   go_end0
   refine ⟨rfl,?_,Or.inr ⟨trivial,?_,?_⟩⟩
   · exact ((Same.drewN bb w (nq+1)).two sb).setCell _ _
   · exact Blk.setOther (show BdAt w bb st from HB.out) _ (Ne.symm hne3) _
   · have h:=Blk.set (show ScAt w sb hp0 us from HSc.out) d (ptrO (some pb))
     rw[scells_setO _ _ _ _ hd8] at h
     exact h
set_option maxRecDepth 100000 in
set_option maxHeartbeats 2000000 in
theorem use_nil (w:World)(bb pb:Nat)(st:Int × Bool)(p:Pt)(hb:BdAt w bb st)(hp:PtBlk w pb p)(hne:pb≠bb):
 Calls Tryz.prog 103 #[.pointer (some ⟨bb,0,none⟩),.pointer (some ⟨pb,0,none⟩),.pointer none] w fun e w'=>e=.returned (.tuple #[])∧BdAt w' bb (bw st p.dpl)∧Same bb w w':=by
 have HB:Hid (BdAt w bb st):=hb
 have HP:Hid (PtBlk w pb p):=hp
 clear hb hp
 go_enter Tryz.func103,Tryz.ntmps103
 go_wp2_with fail
 go_quiet (fail)
 go_wp2_with fail
 refine (wrong_calls (w.drewN nq) bb pb st p HB.out HP.out hne).mono ?_
 rintro e w1 ⟨rfl,h1,h2⟩
 simp only
 go_wp2_with fail
 exact bodyPost_ret (v:=.tuple #[]) (by simp[results,Tryz.results103,go_sem]) rfl ⟨rfl,h1,(Same.drewN bb w nq).trans h2⟩
set_option maxRecDepth 100000 in
set_option maxHeartbeats 2000000 in
theorem use_some (w:World)(bb pb sb:Nat)(st:Int × Bool)(p:Pt)(hp0:Nat→Option Nat)(us:Nat→Bool)(d:Nat)(hd:p.dp=(d:Int))(hd8:d<8)(hb:BdAt w bb st)(hp:PtBlk w pb p)(hs:ScAt w sb hp0 us)(hne:pb≠bb)(hne2:pb≠sb)(hne3:sb≠bb):
 Calls Tryz.prog 103 #[.pointer (some ⟨bb,0,none⟩),.pointer (some ⟨pb,0,none⟩),.pointer (some ⟨sb,0,none⟩)] w fun e w'=>e=.returned (.tuple #[])∧Same2 bb sb w w'∧
  (((hp0 d=none∨us d=true)∧BdAt w' bb (bw st p.dpl)∧ScAt w' sb hp0 us)∨((hp0 d≠none∧us d=false)∧BdAt w' bb st∧ScAt w' sb hp0 (upB us d))):=by
 have c3:w.cell? ⟨pb,3,none⟩=some (.int .i64 d):=by rw[← hd];exact hp.cell 3
 have cs:w.cell? ⟨sb,d,none⟩=some (ptrO (hp0 d)):=by rw[Blk.cell hs d];exact (scells_h hp0 us d hd8).1
 have cu:w.cell? ⟨sb,8+d,none⟩=some (.bool (us d)):=by rw[Blk.cell hs (8+d)];exact (scells_h hp0 us d hd8).2
 have fu:w.frozen? ⟨sb,8+d,none⟩=false:=Blk.frozen hs (8+d)
 have HB:Hid (BdAt w bb st):=hb
 have HP:Hid (PtBlk w pb p):=hp
 have HSc:Hid (ScAt w sb hp0 us):=hs
 have hd8':(d:Int)<8:=by omega
 have hsp:¬ sb=pb:=fun e=>hne2 e.symm
 clear hb hp hs hd
 cases ho:hp0 d with
 | none=>
  rw[ho] at cs
  simp only[ptrO,Option.map_none] at cs
  have HO:=hide' ho
  clear ho
  go_enter Tryz.func103,Tryz.ntmps103
  go_wp2_with fail
  go_quiet (fail)
  go_wp2_with fail
  refine (wrong_calls (w.drewN nq) bb pb st p HB.out HP.out hne).mono ?_
  rintro e w1 ⟨rfl,h1,h2⟩
  simp only
  go_wp2_with fail
  exact bodyPost_ret (v:=.tuple #[]) (by simp[results,Tryz.results103,go_sem]) rfl ⟨rfl,(((Same.drewN bb w nq).trans h2).two sb),Or.inl ⟨Or.inl (by simp),h1,Blk.same (show ScAt (w.drewN nq) sb hp0 us from HSc.out) h2 hne3⟩⟩
 | some q=>
  rw[ho] at cs
  simp only[ptrO,Option.map_some] at cs
  have HO:=hide' ho
  clear ho
  cases hu:us d
  · rw[hu] at cu
    have HU:=hide' hu
    clear hu
    go_enter Tryz.func103,Tryz.ntmps103
    go_wp2_with fail
    go_quiet (fail)
    go_wp2_with fail
    go_region
    all_goals
     go_wp2_with fail
     go_end0
     refine ⟨rfl,?_,Or.inr ⟨⟨by simp,by simp⟩,?_,?_⟩⟩
     · exact ((Same.drewN bb w (nq+1)).two sb).setCell _ _
     · exact Blk.setOther (show BdAt w bb st from HB.out) _ (Ne.symm hne3) _
     · have h:=Blk.set (show ScAt w sb hp0 us from HSc.out) (8+d) (.bool true)
       rw[scells_setB _ _ _ hd8] at h
       exact h
  · rw[hu] at cu
    have HU:=hide' hu
    clear hu
    go_enter Tryz.func103,Tryz.ntmps103
    go_wp2_with fail
    go_quiet (fail)
    go_wp2_with fail
    refine (wrong_calls (w.drewN nq) bb pb st p HB.out HP.out hne).mono ?_
    rintro e w1 ⟨rfl,h1,h2⟩
    simp only
    go_wp2_with fail
    exact bodyPost_ret (v:=.tuple #[]) (by simp[results,Tryz.results103,go_sem]) rfl ⟨rfl,(((Same.drewN bb w nq).trans h2).two sb),Or.inl ⟨Or.inr (by simp),h1,Blk.same (show ScAt (w.drewN nq) sb hp0 us from HSc.out) h2 hne3⟩⟩
end Go.Proofs.YtmlkhhhjdpbhfaaGreatDoor

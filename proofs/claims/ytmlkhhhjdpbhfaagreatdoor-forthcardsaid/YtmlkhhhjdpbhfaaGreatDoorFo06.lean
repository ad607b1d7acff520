import Derived.Test.YtmlkhhhjdpbhfaaGreatDoorFo03
import Derived.Deep.DrawnRows
namespace Go.Proofs.YtmlkhhhjdpbhfaaGreatDoor
open Go.RowKit
def bools (th:Nat→Bool):Array Value:=#[.bool (th 0),.bool (th 1),.bool (th 2),.bool (th 3),.bool (th 4),.bool (th 5),.bool (th 6),.bool (th 7)]
def missB (th:Nat→Bool)(x:It):Bool:=x.c==82 && !(th x.r.toNat)
def firstMiss (th:Nat→Bool)(l:List It):Int × Bool:=match l.find? (missB th) with | some x=>(x.pl,true) | none=>(0,false)
theorem firstMiss_cons (th:Nat→Bool)(x:It)(r:List It):firstMiss th (x::r)=if missB th x then (x.pl,true) else firstMiss th r:=by
 unfold firstMiss;rw[List.find?_cons];cases missB th x<;>simp
theorem firstMiss_append (th:Nat→Bool)(a b:List It):firstMiss th (a++b)=if (firstMiss th a).2 then firstMiss th a else firstMiss th b:=by
 unfold firstMiss;rw[List.find?_append]
 cases a.find? (missB th)<;>simp
theorem kOf_rule (c:Int)(hc:c=82∨(kindV c≠6)):(kOf c==6)=(c==82):=by
 unfold kOf
 by_cases h:c=82
 · simp[h]
 · rw[if_neg h]
   rcases hc with h2 | h2
   · exact absurd h2 h
   · have:¬ ((kindV c:Int)=6):=by omega
     rw[beq_eq_false_iff_ne.2 this,beq_eq_false_iff_ne.2 h]
def RulIn (l:List It):Prop:=∀ x,x∈l→(x.c=82→0≤x.r∧x.r<8)∧(x.c=82∨kindV x.c≠6)
theorem RepT.pos {f:Nat}{w:World}{lo hi pb:Nat}{seg:List It}(h:RepT f w lo hi pb seg):0<seg.length:=by
 cases f with
 | zero=>exact h.elim
 | succ f=>obtain ⟨x,kids,p,e,_⟩:=h;rw[e];simp
theorem flat_ge (l:List (Nat × List It))(h:∀ q,q∈l→0<q.2.length):l.length≤(l.flatMap Prod.snd).length:=by
 induction l with
 | nil=>simp
 | cons x r ih=>
  have h1:=h x List.mem_cons_self
  have h2:=ih (fun q hq=>h q (List.mem_cons_of_mem _ hq))
  simp only[List.flatMap_cons,List.length_append,List.length_cons];omega
theorem mem_flat_le (l:List (Nat × List It))(q:Nat × List It)(h:q∈l):q.2.length≤(l.flatMap Prod.snd).length:=by
 induction l with
 | nil=>simp at h
 | cons x r ih=>
  simp only[List.flatMap_cons,List.length_append]
  rcases List.mem_cons.1 h with rfl | h
  · omega
  · have:=ih h;omega
theorem firstMiss_none (th:Nat→Bool)(l:List It)(h:(firstMiss th l).2=false):firstMiss th l=(0,false):=by
 unfold firstMiss at h ⊢
 cases hf:l.find? (missB th) with
 | none=>rfl
 | some x=>rw[hf] at h;cases h
def MissPost (th:Nat→Bool)(w:World)(seg:List It)(e:Ending)(w':World):Prop:=
 e=.returned (.tuple #[.int .i64 (firstMiss th seg).1,.bool (firstMiss th seg).2])∧Below w.heap.size w w'
theorem bools_at (th:Nat→Bool)(r:Nat)(h:r<8):(bools th)[r]? = some (.bool (th r)):=by
 have h8:r=0∨r=1∨r=2∨r=3∨r=4∨r=5∨r=6∨r=7:=by omega
 rcases h8 with rfl | rfl | rfl | rfl | rfl | rfl | rfl | rfl<;>rfl
set_option maxRecDepth 100000 in
set_option maxHeartbeats 4000000 in
theorem miss_calls (th:Nat→Bool)(f:Nat):∀ (w:World) (lo hi pb:Nat) (seg:List It),RepT f w lo hi pb seg→hi≤w.heap.size→RulIn seg→seg.length≤1000→
 Calls Tryz.prog 60 #[.pointer (some ⟨pb,0,none⟩),.agg (bools th)] w fun e w'=>MissPost th w seg e w':=by
 induction f with
 | zero=>intro w lo hi pb seg h;exact h.elim
 | succ f ih=>
  intro w lo hi pb seg hrep hhi hrul hsl
  have IH:=hide' ih
  clear ih
  have HRep:=hide' hrep
  obtain ⟨x,kids,p,hseg,hnx,hlo,hpb,hblk,hit,hptr,hkids⟩:=hrep
  have hx:=hrul x (by rw[hseg];exact List.mem_cons_self)
  have hk6:(p.k==6)=(x.c==82):=by rw[hit.k];exact kOf_rule x.c hx.2
  have c0:w.cell? ⟨pb,0,none⟩=some (.int .i64 p.k):=hblk.cell 0
  have hpbl:pb<w.heap.size:=by omega
  have HBlk:Hid (PtBlk w pb p):=hblk
  have HSeg:=hide' hseg
  have HC:=hide' (firstMiss_cons th x (kids.flatMap Prod.snd))
  have HKids:=hide' hkids
  have HPtr:=hide' hptr
  have HRul:=hide' hrul
  obtain ⟨ao,cap,hv,hcell⟩:∃ ao cap,p.v=.slice ao (kids.map Prod.fst).length cap∧(∀ j,j<(kids.map Prod.fst).length→∃ g,ao=some ⟨g,0,none⟩∧g<w.heap.size∧w.cell? ⟨g,j,none⟩=some (.pointer (some ⟨(kids.map Prod.fst).getD j 0,0,none⟩))):=by
   rcases hptr with ⟨hv,hnil⟩ | ⟨g,cap,hv,hg1,hg2,_,hc⟩
   · exact ⟨none,0,by rw[hv,hnil];rfl,fun j hj=>by rw[hnil] at hj;simp at hj⟩
   · exact ⟨_,_,hv,fun j hj=>⟨g,rfl,by omega,hc j hj⟩⟩
  rw[List.length_map] at hv
  have c7:w.cell? ⟨pb,8,none⟩=some (.slice ao kids.length cap):=by rw[← hv];exact hblk.cell 8
  have c7a:∀ o,(w.alloc o).cell? ⟨pb,8,none⟩=some (.slice ao kids.length cap):=fun o=>by rw[← hv];exact (Blk.alloc hblk o).cell 8
  have c0a:∀ o,(w.alloc o).cell? ⟨pb,0,none⟩=some (.int .i64 p.k):=fun o=>(Blk.alloc hblk o).cell 0
  have c1a:∀ o,(w.alloc o).cell? ⟨pb,1,none⟩=some (.int .i64 p.pl):=fun o=>(Blk.alloc hblk o).cell 1
  have c6a:∀ o,(w.alloc o).cell? ⟨pb,6,none⟩=some (.int .i64 p.ru):=fun o=>(Blk.alloc hblk o).cell 6
  have HCell:=hide' hcell
  have hklen:kids.length≤1000:=by
   have h1:=flat_ge kids (fun q hq=>RepT.pos (hkids q hq))
   rw[hseg] at hsl
   simp at hsl
   simp at h1
   omega
  have HX:=hide' hx
  have HIt:=hide' hit
  clear hcell hv hptr hkids hrul hblk hit hnx c0
  have hcase:(missB th x=false∧(x.c==82)=false)∨(missB th x=false∧(x.c==82)=true)∨(missB th x=true∧(x.c==82)=true):=by
   unfold missB
   cases (x.c==82)<;>cases th x.r.toNat<;>simp
  rcases hcase with ⟨hm,h82⟩ | ⟨hm,h82⟩ | ⟨hm,h82⟩
  rotate_left 2
  · have hc82:x.c=82:=by simpa using h82
    obtain ⟨hr0,hr8⟩:=HX.out.1 hc82
    obtain ⟨rn,hrn⟩:∃ rn:Nat,x.r=(rn:Int):=⟨x.r.toNat,by omega⟩
    obtain ⟨hpl,hru⟩:=HIt.out.ru hc82
    have hth:th rn=false:=by
     unfold missB at hm;rw[h82,hrn] at hm;simpa using hm
    have HM:Hid (firstMiss th seg=(x.pl,true)):=by
     have:firstMiss th seg=(x.pl,true):=by rw[HSeg.out,HC.out,if_pos hm]
     exact this
    rw[hru,hrn] at c6a
    rw[hpl] at c1a
    have hrn8:rn<8:=by omega
    have hrn8':(rn:Int)<8:=by omega
    have hbx:(w.alloc (.cells (bools th) 146)).cell? ⟨w.heap.size,rn,none⟩=some (.bool false):=by
     rw[(Blk.new w (bools th) 146).cell rn,bools_at th rn hrn8,hth]
    rw[h82] at hk6
    clear hm h82 hc82 hr0 hr8 hrn hpl hru hth hseg HC
    go_enter Tryz.func60,Tryz.ntmps60
    go_wp2_with fail
    go_ret2
    exact ⟨by rw[HM.out];rfl,(Below.refl _ _).alloc (Nat.le_refl _) _⟩
  · have HM:Hid (firstMiss th seg=firstMiss th (kids.flatMap Prod.snd)):=by
     have:firstMiss th seg=firstMiss th (kids.flatMap Prod.snd):=by rw[HSeg.out,HC.out,hm];rfl
     exact this
    rw[h82] at hk6
    clear hm h82 hseg HC
    have HBX:Hid (Blk (w.alloc (.cells (bools th) 146)) w.heap.size (bools th) 146):=Blk.new w (bools th) 146
    have HB0:Hid (Below w.heap.size w (w.alloc (.cells (bools th) 146))):=(Below.refl _ _).alloc (Nat.le_refl _) _
    have hszA:(w.alloc (.cells (bools th) 146)).heap.size=w.heap.size+1:=by simp
    go_enter Tryz.func60,Tryz.ntmps60
    go_wp2_with fail
    generalize hW:w.alloc (.cells (bools th) 146)=W1 at *
    clear hW c0a c1a c6a c7a
    generalize hbxx:w.heap.size=bx at *
    have HBXX:=hide' hbxx
    clear hbxx
    go_loopw [33] (fun v33 wr=>∃ j:Nat,v33=.int .i64 j∧j≤kids.length∧Hid (Below W1.heap.size W1 wr)∧Hid ((firstMiss th ((kids.take j).flatMap Prod.snd)).2=false)) (fun v33 _=>kids.length-(intOf v33).toNat)
    case atStart=>exact ⟨0,rfl,by omega,Below.refl _ _,(by simp[firstMiss]:(firstMiss th ((kids.take 0).flatMap Prod.snd)).2=false)⟩
    case round=>
     obtain ⟨j,rfl,hj,hbel,hno⟩:=hrel
     have hsz:=hbel.out.size
     have hb3:=HBX.out.below hbel.out (by omega)
     have b0:wr.cell? ⟨bx,0,none⟩=some (.bool (th 0)):=hb3.cell 0
     have b1:wr.cell? ⟨bx,1,none⟩=some (.bool (th 1)):=hb3.cell 1
     have b2:wr.cell? ⟨bx,2,none⟩=some (.bool (th 2)):=hb3.cell 2
     have b3:wr.cell? ⟨bx,3,none⟩=some (.bool (th 3)):=hb3.cell 3
     have b4:wr.cell? ⟨bx,4,none⟩=some (.bool (th 4)):=hb3.cell 4
     have b5:wr.cell? ⟨bx,5,none⟩=some (.bool (th 5)):=hb3.cell 5
     have b6:wr.cell? ⟨bx,6,none⟩=some (.bool (th 6)):=hb3.cell 6
     have b7:wr.cell? ⟨bx,7,none⟩=some (.bool (th 7)):=hb3.cell 7
     clear hb3
     by_cases hlt:j<kids.length
     · obtain ⟨g,rfl,hg,hc⟩:=HCell.out j (by simpa using hlt)
       have hjj:(j:Int)<(kids.length:Int):=by omega
       have hq:kids[j]∈kids:=List.getElem_mem hlt
       have hpt:(kids.map Prod.fst).getD j 0=kids[j].1:=by rw[getD_lt _ _ _ (by simpa using hlt)];simp
       rw[hpt] at hc
       have hcw:wr.cell? ⟨g,j,none⟩=some (.pointer (some ⟨kids[j].1,0,none⟩)):=by
        rw[hbel.out.cell (p:=⟨g,j,none⟩) (by simp;omega),HB0.out.cell (p:=⟨g,j,none⟩) (by simp;omega)];exact hc
       have hkr:=HKids.out _ hq
       have hmem:∀ z,z∈kids[j].2→z∈seg:=fun z hz=>by rw[HSeg.out];exact List.mem_cons_of_mem _ (List.mem_flatMap.2 ⟨_,hq,hz⟩)
       have hlen2:kids[j].2.length≤1000:=by
        have h1:=mem_flat_le kids _ hq
        rw[HSeg.out] at hsl
        simp at hsl
        simp at h1
        omega
       have HC:=hide' (IH.out wr lo hi _ _ (hkr.mono (fun k h1 h2=>by rw[hbel.out.block k (by omega),HB0.out.block k (by omega)]) (Nat.le_refl _) (Nat.le_refl _)) (by omega) (fun z hz=>HRul.out z (hmem z hz)) hlen2)
       have HT:Hid (firstMiss th ((kids.take (j+1)).flatMap Prod.snd)=firstMiss th kids[j].2):=by
        have:firstMiss th ((kids.take (j+1)).flatMap Prod.snd)=firstMiss th kids[j].2:=by
         rw[List.take_succ_eq_append_getElem hlt,List.flatMap_append,firstMiss_append,hno.out];simp
        exact this
       have HT2:Hid ((firstMiss th ((kids.take (j+1)).flatMap Prod.snd)).2=true→firstMiss th (kids.flatMap Prod.snd)=firstMiss th ((kids.take (j+1)).flatMap Prod.snd)):=by
        intro h
        have e:kids.flatMap Prod.snd=(kids.take (j+1)).flatMap Prod.snd++(kids.drop (j+1)).flatMap Prod.snd:=by rw[← List.flatMap_append,List.take_append_drop]
        rw[e,firstMiss_append,if_pos h]
       clear hc hpt hkr hmem hlen2 hno
       generalize kids[j]=q at *
       go_wp2_with fail
       have hcc:=HC.out
       simp only[bools] at hcc
       refine hcc.mono ?_
       rintro e w5 ⟨rfl,hb5⟩
       have HB5:Hid (Below W1.heap.size W1 w5):=hbel.out.trans (hb5.mono (by omega))
       clear hcc HC b0 b1 b2 b3 b4 b5 b6 b7 hb5
       generalize hfm:firstMiss th q.2=m at *
       clear hfm
       obtain ⟨m1,m2⟩:=m
       cases m2
       · have HN:Hid ((firstMiss th ((kids.take (j+1)).flatMap Prod.snd)).2=false):=by
          have:(firstMiss th ((kids.take (j+1)).flatMap Prod.snd)).2=false:=by rw[HT.out]
          exact this
         simp only
         go_wp2_with fail
         go_roundw
         case rel=>exact ⟨j+1,by go_num,by omega,HB5,HN⟩
         case measure=>simp[intOf];omega
       · have HFin:Hid (firstMiss th seg=(m1,true)):=by
          have:firstMiss th seg=(m1,true):=by rw[HM.out,HT2.out (by rw[HT.out]),HT.out]
          exact this
         simp only
         go_wp2_with fail
         go_ret2
         exact ⟨by rw[HFin.out];rfl,by rw[HBXX.out];exact HB0.out.trans (HB5.out.mono (by omega))⟩
     · have HFin:Hid (firstMiss th seg=(0,false)):=by
        have:firstMiss th seg=(0,false):=by
         rw[HM.out]
         have h1:=hno.out
         rw[List.take_of_length_le (by omega)] at h1
         exact firstMiss_none th _ h1
        exact this
       clear hno b0 b1 b2 b3 b4 b5 b6 b7
       go_wp2_with fail
       go_ret2
       exact ⟨by rw[HFin.out];rfl,by rw[HBXX.out];exact HB0.out.trans (hbel.out.mono (by omega))⟩
  · have HM:Hid (firstMiss th seg=firstMiss th (kids.flatMap Prod.snd)):=by
     have:firstMiss th seg=firstMiss th (kids.flatMap Prod.snd):=by rw[HSeg.out,HC.out,hm];rfl
     exact this
    rw[h82] at hk6
    have hc82:x.c=82:=by simpa using h82
    obtain ⟨hr0,hr8⟩:=HX.out.1 hc82
    obtain ⟨rn,hrn⟩:∃ rn:Nat,x.r=(rn:Int):=⟨x.r.toNat,by omega⟩
    obtain ⟨hpl,hru⟩:=HIt.out.ru hc82
    have hth:th rn=true:=by
     unfold missB at hm;rw[h82,hrn] at hm;simpa using hm
    rw[hru,hrn] at c6a
    have hrn8:rn<8:=by omega
    have hrn8':(rn:Int)<8:=by omega
    have hbx:(w.alloc (.cells (bools th) 146)).cell? ⟨w.heap.size,rn,none⟩=some (.bool true):=by
     rw[(Blk.new w (bools th) 146).cell rn,bools_at th rn hrn8,hth]
    clear hm h82 hc82 hr0 hr8 hrn hpl hru hth hseg HC
    have HBX:Hid (Blk (w.alloc (.cells (bools th) 146)) w.heap.size (bools th) 146):=Blk.new w (bools th) 146
    have HB0:Hid (Below w.heap.size w (w.alloc (.cells (bools th) 146))):=(Below.refl _ _).alloc (Nat.le_refl _) _
    have hszA:(w.alloc (.cells (bools th) 146)).heap.size=w.heap.size+1:=by simp
    go_enter Tryz.func60,Tryz.ntmps60
    go_wp2_with fail
    generalize hW:w.alloc (.cells (bools th) 146)=W1 at *
    clear hW c0a c1a c6a c7a
    generalize hbxx:w.heap.size=bx at *
    have HBXX:=hide' hbxx
    clear hbxx
    go_loopw [33] (fun v33 wr=>∃ j:Nat,v33=.int .i64 j∧j≤kids.length∧Hid (Below W1.heap.size W1 wr)∧Hid ((firstMiss th ((kids.take j).flatMap Prod.snd)).2=false)) (fun v33 _=>kids.length-(intOf v33).toNat)
    case atStart=>exact ⟨0,rfl,by omega,Below.refl _ _,(by simp[firstMiss]:(firstMiss th ((kids.take 0).flatMap Prod.snd)).2=false)⟩
    case round=>
     obtain ⟨j,rfl,hj,hbel,hno⟩:=hrel
     have hsz:=hbel.out.size
     have hb3:=HBX.out.below hbel.out (by omega)
     have b0:wr.cell? ⟨bx,0,none⟩=some (.bool (th 0)):=hb3.cell 0
     have b1:wr.cell? ⟨bx,1,none⟩=some (.bool (th 1)):=hb3.cell 1
     have b2:wr.cell? ⟨bx,2,none⟩=some (.bool (th 2)):=hb3.cell 2
     have b3:wr.cell? ⟨bx,3,none⟩=some (.bool (th 3)):=hb3.cell 3
     have b4:wr.cell? ⟨bx,4,none⟩=some (.bool (th 4)):=hb3.cell 4
     have b5:wr.cell? ⟨bx,5,none⟩=some (.bool (th 5)):=hb3.cell 5
     have b6:wr.cell? ⟨bx,6,none⟩=some (.bool (th 6)):=hb3.cell 6
     have b7:wr.cell? ⟨bx,7,none⟩=some (.bool (th 7)):=hb3.cell 7
     clear hb3
     by_cases hlt:j<kids.length
     · obtain ⟨g,rfl,hg,hc⟩:=HCell.out j (by simpa using hlt)
       have hjj:(j:Int)<(kids.length:Int):=by omega
       have hq:kids[j]∈kids:=List.getElem_mem hlt
       have hpt:(kids.map Prod.fst).getD j 0=kids[j].1:=by rw[getD_lt _ _ _ (by simpa using hlt)];simp
       rw[hpt] at hc
       have hcw:wr.cell? ⟨g,j,none⟩=some (.pointer (some ⟨kids[j].1,0,none⟩)):=by
        rw[hbel.out.cell (p:=⟨g,j,none⟩) (by simp;omega),HB0.out.cell (p:=⟨g,j,none⟩) (by simp;omega)];exact hc
       have hkr:=HKids.out _ hq
       have hmem:∀ z,z∈kids[j].2→z∈seg:=fun z hz=>by rw[HSeg.out];exact List.mem_cons_of_mem _ (List.mem_flatMap.2 ⟨_,hq,hz⟩)
       have hlen2:kids[j].2.length≤1000:=by
        have h1:=mem_flat_le kids _ hq
        rw[HSeg.out] at hsl
        simp at hsl
        simp at h1
        omega
       have HC:=hide' (IH.out wr lo hi _ _ (hkr.mono (fun k h1 h2=>by rw[hbel.out.block k (by omega),HB0.out.block k (by omega)]) (Nat.le_refl _) (Nat.le_refl _)) (by omega) (fun z hz=>HRul.out z (hmem z hz)) hlen2)
       have HT:Hid (firstMiss th ((kids.take (j+1)).flatMap Prod.snd)=firstMiss th kids[j].2):=by
        have:firstMiss th ((kids.take (j+1)).flatMap Prod.snd)=firstMiss th kids[j].2:=by
         rw[List.take_succ_eq_append_getElem hlt,List.flatMap_append,firstMiss_append,hno.out];simp
        exact this
       have HT2:Hid ((firstMiss th ((kids.take (j+1)).flatMap Prod.snd)).2=true→firstMiss th (kids.flatMap Prod.snd)=firstMiss th ((kids.take (j+1)).flatMap Prod.snd)):=by
        intro h
        have e:kids.flatMap Prod.snd=(kids.take (j+1)).flatMap Prod.snd++(kids.drop (j+1)).flatMap Prod.snd:=by rw[← List.flatMap_append,List.take_append_drop]
        rw[e,firstMiss_append,if_pos h]
       clear hc hpt hkr hmem hlen2 hno
       generalize kids[j]=q at *
       go_wp2_with fail
       have hcc:=HC.out
       simp only[bools] at hcc
       refine hcc.mono ?_
       rintro e w5 ⟨rfl,hb5⟩
       have HB5:Hid (Below W1.heap.size W1 w5):=hbel.out.trans (hb5.mono (by omega))
       clear hcc HC b0 b1 b2 b3 b4 b5 b6 b7 hb5
       generalize hfm:firstMiss th q.2=m at *
       clear hfm
       obtain ⟨m1,m2⟩:=m
       cases m2
       · have HN:Hid ((firstMiss th ((kids.take (j+1)).flatMap Prod.snd)).2=false):=by
          have:(firstMiss th ((kids.take (j+1)).flatMap Prod.snd)).2=false:=by rw[HT.out]
          exact this
         simp only
         go_wp2_with fail
         go_roundw
         case rel=>exact ⟨j+1,by go_num,by omega,HB5,HN⟩
         case measure=>simp[intOf];omega
       · have HFin:Hid (firstMiss th seg=(m1,true)):=by
          have:firstMiss th seg=(m1,true):=by rw[HM.out,HT2.out (by rw[HT.out]),HT.out]
          exact this
         simp only
         go_wp2_with fail
         go_ret2
         exact ⟨by rw[HFin.out];rfl,by rw[HBXX.out];exact HB0.out.trans (HB5.out.mono (by omega))⟩
     · have HFin:Hid (firstMiss th seg=(0,false)):=by
        have:firstMiss th seg=(0,false):=by
         rw[HM.out]
         have h1:=hno.out
         rw[List.take_of_length_le (by omega)] at h1
         exact firstMiss_none th _ h1
        exact this
       clear hno b0 b1 b2 b3 b4 b5 b6 b7
       go_wp2_with fail
       go_ret2
       exact ⟨by rw[HFin.out];rfl,by rw[HBXX.out];exact HB0.out.trans (hbel.out.mono (by omega))⟩
structure TR where
 ok:Bool
 i:Nat
 p:Pt
def tailW (b:Bool)(s:ByteArray)(i:Nat)(p:Pt):TR:=if b then ⟨takeOk s i 49 52,stepI (takeOk s i 49 52) i,{ p with wd:=bt s i-48 }⟩ else ⟨true,i,p⟩
def tailD (b:Bool)(s:ByteArray)(i:Nat)(p:Pt):TR:=if b then ⟨takeOk s i 97 104,stepI (takeOk s i 97 104) i,{ p with dpl:=i,dp:=bt s i-97 }⟩ else ⟨true,i,p⟩
def tailX (b:Bool)(s:ByteArray)(i:Nat)(p:Pt):TR:=if b then ⟨valOk s i,valN s i,{ p with vl:=hexV (bt s i)*16+hexV (bt s (i+1)) }⟩ else ⟨true,i,p⟩
def tailH (x:Sh)(s:ByteArray)(i:Nat)(p:Pt):TR:=
 if (tailW x.w s i p).ok then
  if (tailD x.d s (tailW x.w s i p).i (tailW x.w s i p).p).ok then tailX x.v s (tailD x.d s (tailW x.w s i p).i (tailW x.w s i p).p).i (tailD x.d s (tailW x.w s i p).i (tailW x.w s i p).p).p
  else tailD x.d s (tailW x.w s i p).i (tailW x.w s i p).p
 else tailW x.w s i p
def tailR (P:Nat→Res)(s:ByteArray)(f:Nat)(n:Int)(t:TR):Res:=if t.ok then (if n<0 then loopB P s f t.i else loopN P n.toNat t.i) else ⟨false,t.i,[]⟩
def TailPost (s:ByteArray)(f:Nat)(rb pb:Nat)(w:World)(q:Pt)(n:Int)(r:Res)(e:Ending)(w':World):Prop:=
 e=.returned (.bool r.ok)∧Rd w' rb s r.i∧Fr pb rb w w'∧w.heap.size≤w'.heap.size∧(r.ok=true→∃ kids v',Mk f w' pb (decide (n<0)) { q with v:=v' } kids∧kids.flatMap Prod.snd=r.its)
theorem Same2.fr {rb pb:Nat}{w w':World}(h:Same2 rb pb w w')(B:Nat)(hB:B≤pb):Fr B rb w w':=⟨h.os,h.tape,h.output,by rw[h.size];omega,fun k hk hne=>h.block k hne (by omega)⟩
theorem Mk.step {f:Nat}{w w':World}{_rb pb:Nat}{p p':Pt}(_h:Mk f w pb false p [])(hp:PtBlk w' pb p')(hv:p'.v=p.v)(hn:p.v=.slice none 0 0):Mk f w' pb false p' []:=by
 refine ⟨hp,?_,fun q hq=>by simp at hq⟩
 rw[hv,hn]
 exact World.ownsRow_nil _ _ _ _
theorem Mk.any {f:Nat}{w:World}{pb:Nat}{sl sl':Bool}{p:Pt}(h:Mk f w pb sl p []):Mk f w pb sl' p []:=⟨h.blk,h.row,fun q hq=>by simp at hq⟩
theorem tailH_sl (x:Sh)(s:ByteArray)(i:Nat)(p:Pt):(tailH x s i p).p.sl=p.sl:=by
 unfold tailH tailX tailD tailW
 repeat' split
 all_goals rfl
structure AtN (s:ByteArray) (rule:Int) (f:Nat) (rb pb:Nat) (w:World) (p:Pt) (m i i' k:Nat) (kids:List (Nat × List It)) (v:Value) (wr:World):Prop where
 rd:Rd wr rb s i'
 made:Mk f wr pb false { p with v:=v } kids
 fr:Fr pb rb w wr
 sz:w.heap.size≤wr.heap.size
 hi:i'≤s.size
 ge:i≤i'
 hk:kids.length≤k
 km:k≤m
 eq:loopN (prs s rule f) m i=(loopN (prs s rule f) (m-k) i').pre (kids.flatMap Prod.snd)
theorem takeOk_lt (s:ByteArray)(i:Nat)(a b:Int)(h:takeOk s i a b=true)(ha:1≤a):i<s.size:=by
 unfold takeOk at h;simp at h;exact bt_pos_lt s i (by omega)
structure St (s:ByteArray) (f:Nat) (rb pb bx:Nat) (x:Sh) (w0:World) (i:Nat) (p:Pt) (w:World):Prop where
 rd:Rd w rb s i
 made:Mk f w pb false p []
 nil:p.v=.slice none 0 0
 fr:Fr pb rb w0 w
 sz:w0.heap.size≤w.heap.size
 box:Blk w bx x.row 252
theorem St.next {s:ByteArray}{f:Nat}{rb pb bx:Nat}{x:Sh}{w0 w w':World}{i i':Nat}{p p':Pt}(h:St s f rb pb bx x w0 i p w)(hs:Same2 rb pb w w')(hr:Rd w' rb s i')(hp:PtBlk w' pb p')(hv:p'.v=p.v)(h1:rb<bx)(h2:pb<bx):St s f rb pb bx x w0 i' p' w':=by
 refine ⟨hr,h.made.step (_rb:=rb) hp hv h.nil,by rw[hv];exact h.nil,h.fr.trans (hs.fr _ (Nat.le_refl _)),by rw[hs.size];exact h.sz,?_⟩
 have:=h.box
 unfold Blk at *
 rw[hs.block bx (by omega) (by omega)];exact this
theorem valOk_lt (s:ByteArray)(i:Nat)(h:valOk s i=true):i+1<s.size∧valN s i=i+2:=by
 unfold valOk at h
 simp at h
 have h1:=hexOk_lt s i h.1
 have h2:=hexOk_lt s (i+1) h.2
 refine ⟨h2.1,?_⟩
 unfold valN
 rw[h.1]
 exact h2.2
end Go.Proofs.YtmlkhhhjdpbhfaaGreatDoor

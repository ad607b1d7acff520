import Derived.Test.YtmlkhhhjdpbhfaaGreatDoorFo06
import Derived.Test.YtmlkhhhjdpbhfaaGreatDoorFo10
import Derived.StillTail
import Derived.StillTactics
import Derived.WalkKit
import Derived.Test.YtmlkhhhjdpbhfaaGreatDoorFo09
namespace Go.Proofs.YtmlkhhhjdpbhfaaGreatDoor
open Go.RowKit
def inR (rls:List Rl)(r:Nat):Bool:=hasR rls r
def scanR (th:Nat→Bool):List Rl→List Rl→Int × Bool
 | _,[]=>(0,false)
 | seen,x::t=>if hasR seen x.r then (x.pl,true) else if (firstMiss th x.its).2 then firstMiss th x.its else scanR th (seen++[x]) t
theorem scanR_app (th:Nat→Bool)(seen a b:List Rl)(h:(scanR th seen a).2=false):scanR th seen (a++b)=scanR th (seen++a) b:=by
 induction a generalizing seen with
 | nil=>simp
 | cons x t ih=>
  rw[scanR] at h
  rw[List.cons_append,scanR]
  split
  · rename_i h1;rw[if_pos h1] at h;cases h
  · rename_i h1
    rw[if_neg h1] at h
    split
    · rename_i h2;rw[if_pos h2] at h;rw[h2] at h;cases h
    · rename_i h2
      rw[if_neg h2] at h
      rw[ih _ h];simp
theorem scanR_none (th:Nat→Bool)(seen l:List Rl)(h:(scanR th seen l).2=false):scanR th seen l=(0,false):=by
 induction l generalizing seen with
 | nil=>rfl
 | cons x t ih=>
  rw[scanR] at h ⊢
  split
  · rename_i h1;rw[if_pos h1] at h;cases h
  · rename_i h1
    rw[if_neg h1] at h
    split
    · rename_i h2;rw[if_pos h2,h2] at h;cases h
    · rename_i h2
      rw[if_neg h2] at h
      exact ih _ h
theorem bools_set (th:Nat→Bool)(r:Nat)(h:r<8):(bools th).setIfInBounds r (.bool true)=bools (fun k=>th k||k==r):=by
 have h8:r=0∨r=1∨r=2∨r=3∨r=4∨r=5∨r=6∨r=7:=by omega
 rcases h8 with rfl | rfl | rfl | rfl | rfl | rfl | rfl | rfl<;>simp[bools]
theorem inR_snoc (l:List Rl)(x:Rl)(rn:Nat)(hx:x.r=rn):inR (l++[x])=fun k=>inR l k||k==rn:=by
 funext k
 unfold inR
 rw[hasR_snoc,hx]
 congr 1
 by_cases h:k=rn
 · subst h;simp
 · have:¬ ((rn:Int)=(k:Int)):=by omega
   rw[beq_eq_false_iff_ne.2 this,beq_eq_false_iff_ne.2 h]
structure RAt (s:ByteArray) (w:World) (v:Value) (l:List (Rl × Nat)):Prop where
 shape:∃ g cap,v=.slice (some ⟨g,0,none⟩) l.length cap∧g<w.heap.size∧∀ j,(h:j<l.length)→w.cell? ⟨g,j*3,none⟩=some (.int .i64 l[j].1.r)∧w.cell? ⟨g,j*3+1,none⟩=some (.int .i64 l[j].1.pl)∧w.cell? ⟨g,j*3+2,none⟩=some (.pointer (some ⟨l[j].2,0,none⟩))
 rep:∀ q,q∈l→∃ lo hi,0<lo∧hi≤w.heap.size∧RepS (s.size+1) w lo hi q.2 false q.1.its
 num:∀ q,q∈l→0≤q.1.r∧q.1.r<8
 rul:∀ q,q∈l→RulIn q.1.its∧q.1.its.length≤1000
 len:l.length≤8
theorem RAt.below {s:ByteArray}{w w':World}{v:Value}{l:List (Rl × Nat)}(h:RAt s w v l)(hb:Below w.heap.size w w'):RAt s w' v l:=by
 obtain ⟨⟨g,cap,h1,h2,h3⟩,h4,h5,h6,h7⟩:=h
 have hs:=hb.size
 refine ⟨⟨g,cap,h1,by omega,fun j hj=>?_⟩,fun q hq=>?_,h5,h6,h7⟩
 · obtain ⟨a,b,c⟩:=h3 j hj
   exact ⟨by rw[hb.cell (p:=⟨g,j*3,none⟩) h2];exact a,by rw[hb.cell (p:=⟨g,j*3+1,none⟩) h2];exact b,by rw[hb.cell (p:=⟨g,j*3+2,none⟩) h2];exact c⟩
 · obtain ⟨lo,hi,a,b,c⟩:=h4 q hq
   exact ⟨lo,hi,a,by omega,c.mono (fun k _ k2=>hb.block k (by omega)) (Nat.le_refl _) (Nat.le_refl _)⟩
structure At1 (w:World) (tb qb:Nat) (f g:Nat→Bool) (wr:World):Prop where
 bel:Below w.heap.size w wr
 b1:Blk wr tb (bools f) 146
 b2:Blk wr qb (bools g) 146
set_option maxRecDepth 100000 in
set_option maxHeartbeats 4000000 in
theorem wrongRuleG_calls (s:ByteArray)(w:World)(gb:Nat)(v:Value)(l:List (Rl × Nat))(hg:Blk w gb #[v] 77)(hR:RAt s w v l):
 Calls Tryz.prog 38 #[.pointer (some ⟨gb,0,none⟩)] w fun e w'=>
  e=.returned (.tuple #[.int .i64 (scanR (inR (l.map Prod.fst)) [] (l.map Prod.fst)).1,.bool (scanR (inR (l.map Prod.fst)) [] (l.map Prod.fst)).2])∧Below w.heap.size w w':=by
 have HR:=hide' hR
 have HG:=hide' hg
 have hgl:=hg.lt
 obtain ⟨⟨g,cap,rfl,hgg,hcl⟩,_,hnum,hrul,hl8⟩:=hR
 have HCl:=hide' hcl
 have HNum:=hide' hnum
 have HRul:=hide' hrul
 have ca:∀ o o',((w.alloc o).alloc o').cell? ⟨gb,0,none⟩=some (.slice (some ⟨g,0,none⟩) l.length cap):=fun o o'=>(Blk.alloc (Blk.alloc hg o) o').cell 0
 have HA1:Hid (At1 w w.heap.size (w.heap.size+1) (fun _=>false) (fun _=>false) ((w.alloc (.cells (bools fun _=>false) 146)).alloc (.cells (bools fun _=>false) 146))):=
  ⟨((Below.refl _ _).alloc (Nat.le_refl _) _).alloc (by simp) _,(Blk.new w _ _).alloc _,by simpa using Blk.new (w.alloc (.cells (bools fun _=>false) 146)) (bools fun _=>false) 146⟩
 clear hg hcl hnum hrul
 go_enter Tryz.func38,Tryz.ntmps38
 go_wp2_with fail
 simp only[bools] at HA1
 generalize hW:((w.alloc (.cells #[.bool false,.bool false,.bool false,.bool false,.bool false,.bool false,.bool false,.bool false] 146)).alloc (.cells #[.bool false,.bool false,.bool false,.bool false,.bool false,.bool false,.bool false,.bool false] 146))=W0 at *
 clear hW ca
 generalize hqb:w.heap.size+1=qb at *
 generalize htb:w.heap.size=tb at *
 have HTB:=hide' htb
 have h1q:tb<qb:=by omega
 have HMap:Hid (∀ j,(h:j<l.length)→(l.map Prod.fst).take (j+1)=(l.map Prod.fst).take j++[l[j].1]):=by
  intro j h
  rw[List.take_succ_eq_append_getElem (by simpa using h)];simp
 clear hqb htb
 go_loopw [17] (fun v17 wr=>∃ j:Nat,v17=.int .i64 j∧j≤l.length∧Hid (At1 w tb qb (inR ((l.map Prod.fst).take j)) (fun _=>false) wr)) (fun v17 _=>l.length-(intOf v17).toNat)
 case atStart=>
  refine ⟨0,rfl,by omega,?_⟩
  have e:inR ((l.map Prod.fst).take 0)=fun _=>false:=by funext k;simp[inR,hasR]
  have h:At1 w tb qb (inR ((l.map Prod.fst).take 0)) (fun _=>false) W0:=by rw[e];exact HA1.out
  exact h
 case round=>
  obtain ⟨j,rfl,hj,hat⟩:=hrel
  have hbel:=hat.out.bel
  rw[HTB.out] at hbel
  have hsz:=hbel.size
  rw[HTB.out] at hsz
  have htbl:=hat.out.b1.lt
  have hqbl:=hat.out.b2.lt
  by_cases hlt:j<l.length
  · obtain ⟨d0,d1,d2⟩:=HCl.out j hlt
    have hjj:(j:Int)<(l.length:Int):=by omega
    obtain ⟨hn0,hn8⟩:=HNum.out l[j] (List.getElem_mem hlt)
    obtain ⟨rn,hrn⟩:∃ rn:Nat,l[j].1.r=(rn:Int):=⟨l[j].1.r.toNat,by omega⟩
    have hrn8:rn<8:=by omega
    have hrn8':(rn:Int)<8:=by omega
    have c0:wr.cell? ⟨g,j*3,none⟩=some (.int .i64 rn):=by rw[hbel.cell (p:=⟨g,j*3,none⟩) (by simp;omega),d0,hrn]
    have c1:wr.cell? ⟨g,j*3+1,none⟩=some (.int .i64 (l[j].1.pl:Int)):=by rw[hbel.cell (p:=⟨g,j*3+1,none⟩) (by simp;omega),d1]
    have c2:wr.cell? ⟨g,j*3+2,none⟩=some (.pointer (some ⟨l[j].2,0,none⟩)):=by rw[hbel.cell (p:=⟨g,j*3+2,none⟩) (by simp;omega),d2]
    have ct:∀ o,(wr.alloc o).cell? ⟨tb,rn,none⟩=some (.bool (inR ((l.map Prod.fst).take j) rn)):=fun o=>by rw[(hat.out.b1.alloc o).cell rn,bools_at _ _ hrn8]
    have ft:∀ o,(wr.alloc o).frozen? ⟨tb,rn,none⟩=false:=fun o=>(hat.out.b1.alloc o).frozen rn
    have hne:¬ wr.heap.size=tb:=by omega
    have hne':¬ tb=wr.heap.size:=by omega
    have HN:Hid (∀ o,At1 w tb qb (inR ((l.map Prod.fst).take (j+1))) (fun _=>false) ((wr.alloc o).setCell ⟨tb,rn,none⟩ (.bool true))):=by
     intro o
     refine ⟨(hat.out.bel.alloc (by rw[HTB.out];omega) o).setCell (by simp;rw[HTB.out];omega) _,?_,(hat.out.b2.alloc o).setOther _ (by simp;omega) _⟩
     have h:=(hat.out.b1.alloc o).set rn (.bool true)
     rw[bools_set _ _ hrn8,← inR_snoc _ l[j].1 rn hrn,← HMap.out j hlt] at h
     exact h
    have HN2:Hid (∀ o,At1 w tb qb (inR ((l.map Prod.fst).take (j+1))) (fun _=>false) ((wr.setCell ⟨tb,rn,none⟩ (.bool true)).alloc o)):=by
     intro o
     have h:=(hat.out.b1).set rn (.bool true)
     rw[bools_set _ _ hrn8,← inR_snoc _ l[j].1 rn hrn,← HMap.out j hlt] at h
     exact ⟨(hat.out.bel.setCell (by simp;rw[HTB.out];omega) _).alloc (by rw[HTB.out];simp[World.setCell];omega) o,h.alloc o,(hat.out.b2.setOther _ (by simp;omega) _).alloc o⟩
    clear d0 d1 d2 hn0 hn8 hrn hat
    generalize l[j]=q at *
    go_wp2_with fail
    first
     | exact ⟨⟨j+1,by go_num,by omega,HN.out _⟩,by simp[intOf];omega⟩
     | exact ⟨⟨j+1,by go_num,by omega,HN2.out _⟩,by simp[intOf];omega⟩
  · have HT:Hid (At1 w tb qb (inR (l.map Prod.fst)) (fun _=>false) wr):=by
     have h:=hat.out
     rw[List.take_of_length_le (by simp;omega)] at h
     exact h
    have hgb:wr.cell? ⟨gb,0,none⟩=some (.slice (some ⟨g,0,none⟩) l.length cap):=by rw[hbel.cell (p:=⟨gb,0,none⟩) (by simp;omega)];exact HG.out.cell 0
    clear hat
    go_wp2_with fail
    go_loopw [30] (fun v30 wq=>∃ j:Nat,v30=.int .i64 j∧j≤l.length∧Hid (At1 w tb qb (inR (l.map Prod.fst)) (inR ((l.map Prod.fst).take j)) wq)∧Hid ((scanR (inR (l.map Prod.fst)) [] ((l.map Prod.fst).take j)).2=false)) (fun v30 _=>l.length-(intOf v30).toNat)
    case atStart=>
     refine ⟨0,rfl,by omega,?_,(by simp[scanR]:(scanR (inR (l.map Prod.fst)) [] ((l.map Prod.fst).take 0)).2=false)⟩
     have e:inR ((l.map Prod.fst).take 0)=fun _=>false:=by funext k;simp[inR,hasR]
     have h:At1 w tb qb (inR (l.map Prod.fst)) (inR ((l.map Prod.fst).take 0)) wr:=by rw[e];exact HT.out
     exact h
    case round=>
     rename World=>wq
     obtain ⟨i,rfl,hi,hat,hno⟩:=hrel
     clear hgb HT hbel hsz htbl hqbl
     have hbel:=hat.out.bel
     rw[HTB.out] at hbel
     have hsz:=hbel.size
     rw[HTB.out] at hsz
     have htbl:=hat.out.b1.lt
     have hqbl:=hat.out.b2.lt
     by_cases hlti:i<l.length
     · obtain ⟨d0,d1,d2⟩:=HCl.out i hlti
       have hjj:(i:Int)<(l.length:Int):=by omega
       have hmem:=List.getElem_mem hlti
       obtain ⟨hn0,hn8⟩:=HNum.out l[i] hmem
       obtain ⟨rn,hrn⟩:∃ rn:Nat,l[i].1.r=(rn:Int):=⟨l[i].1.r.toNat,by omega⟩
       have hrn8:rn<8:=by omega
       have hrn8':(rn:Int)<8:=by omega
       have c0:wq.cell? ⟨g,i*3,none⟩=some (.int .i64 rn):=by rw[hbel.cell (p:=⟨g,i*3,none⟩) (by simp;omega),d0,hrn]
       have c1:wq.cell? ⟨g,i*3+1,none⟩=some (.int .i64 (l[i].1.pl:Int)):=by rw[hbel.cell (p:=⟨g,i*3+1,none⟩) (by simp;omega),d1]
       have c2:wq.cell? ⟨g,i*3+2,none⟩=some (.pointer (some ⟨l[i].2,0,none⟩)):=by rw[hbel.cell (p:=⟨g,i*3+2,none⟩) (by simp;omega),d2]
       have cq:∀ o,(wq.alloc o).cell? ⟨qb,rn,none⟩=some (.bool (inR ((l.map Prod.fst).take i) rn)):=fun o=>by rw[(hat.out.b2.alloc o).cell rn,bools_at _ _ hrn8]
       have fq:∀ o,(wq.alloc o).frozen? ⟨qb,rn,none⟩=false:=fun o=>(hat.out.b2.alloc o).frozen rn
       have hne:¬ wq.heap.size=qb:=by omega
       have hne':¬ qb=wq.heap.size:=by omega
       have HSplit:Hid (scanR (inR (l.map Prod.fst)) [] (l.map Prod.fst)=scanR (inR (l.map Prod.fst)) ((l.map Prod.fst).take i) (l[i].1::(l.map Prod.fst).drop (i+1))):=by
        have h:=scanR_app (inR (l.map Prod.fst)) [] ((l.map Prod.fst).take i) ((l.map Prod.fst).drop i) hno.out
        rw[List.take_append_drop,List.nil_append] at h
        have e:(l.map Prod.fst).drop i=l[i].1::(l.map Prod.fst).drop (i+1):=by rw[List.drop_eq_getElem_cons (by simpa using hlti)];simp
        rw[e] at h
        exact h
       cases hin:inR ((l.map Prod.fst).take i) rn
       rotate_left
       · have HF:Hid (scanR (inR (l.map Prod.fst)) [] (l.map Prod.fst)=((l[i].1.pl:Int),true)):=by
          have:scanR (inR (l.map Prod.fst)) [] (l.map Prod.fst)=((l[i].1.pl:Int),true):=by
           rw[HSplit.out,scanR,if_pos (by rw[hrn];exact hin)]
          exact this
         have HBf:=hide' hbel
         rw[hin] at cq
         clear hat hno HSplit d0 d1 d2 hn0 hn8 hrn hmem hin
         generalize l[i]=q at *
         go_wp2_with fail
         go_ret2
         exact ⟨by rw[HF.out];rfl,by rw[HTB.out];exact HBf.out.alloc (by omega) _⟩
       · rw[hin] at cq
         obtain ⟨lo,hi2,hlo0,hhi,hrepS⟩:=HR.out.rep l[i] hmem
         have hrep:=hrepS.toT
         clear hrepS
         rw[HTB.out] at hhi
         obtain ⟨hrl,hrl2⟩:=HRul.out l[i] hmem
         have hin2:¬ hasR ((l.map Prod.fst).take i) l[i].1.r=true:=by rw[hrn];intro h;rw[show inR ((l.map Prod.fst).take i) rn=hasR ((l.map Prod.fst).take i) (rn:Int) from rfl,h] at hin;cases hin
         have HNx:Hid (∀ o,At1 w tb qb (inR (l.map Prod.fst)) (inR ((l.map Prod.fst).take (i+1))) ((wq.setCell ⟨qb,rn,none⟩ (.bool true)).alloc o)):=by
          intro o
          have h:=(hat.out.b2).set rn (.bool true)
          rw[bools_set _ _ hrn8,← inR_snoc _ l[i].1 rn hrn,← HMap.out i hlti] at h
          exact ⟨(hat.out.bel.setCell (by simp;rw[HTB.out];omega) _).alloc (by rw[HTB.out];simp[World.setCell];omega) o,(hat.out.b1.setOther _ (by simp;omega) _).alloc o,h.alloc o⟩
         have HSc:Hid (scanR (inR (l.map Prod.fst)) [] (l.map Prod.fst)=if (firstMiss (inR (l.map Prod.fst)) l[i].1.its).2 then firstMiss (inR (l.map Prod.fst)) l[i].1.its else scanR (inR (l.map Prod.fst)) ((l.map Prod.fst).take i++[l[i].1]) ((l.map Prod.fst).drop (i+1))):=by
          have:scanR (inR (l.map Prod.fst)) [] (l.map Prod.fst)=if (firstMiss (inR (l.map Prod.fst)) l[i].1.its).2 then firstMiss (inR (l.map Prod.fst)) l[i].1.its else scanR (inR (l.map Prod.fst)) ((l.map Prod.fst).take i++[l[i].1]) ((l.map Prod.fst).drop (i+1)):=by
           rw[HSplit.out,scanR,if_neg hin2]
          exact this
         have HNo2:Hid ((firstMiss (inR (l.map Prod.fst)) l[i].1.its).2=false→(scanR (inR (l.map Prod.fst)) [] ((l.map Prod.fst).take (i+1))).2=false):=by
          intro h
          rw[HMap.out i hlti,scanR_app _ _ _ _ hno.out,List.nil_append,scanR,if_neg hin2,if_neg (by rw[h];simp)]
          rfl
         have HB1:=hide' hat.out.b1
         have HBelQ:=hide' hbel
         have hneq:¬ tb=qb:=by omega
         have hneq':¬ qb=tb:=by omega
         have HRep:=hide' hrep
         have HRl:=hide' hrl
         have cqf:wq.cell? ⟨qb,rn,none⟩=some (.bool false):=by rw[← cq (.cells #[] 0)];exact (World.cell?_of_block (Below.heap_alloc _ _ _ hqbl)).symm
         have fqf:wq.frozen? ⟨qb,rn,none⟩=false:=by rw[← fq (.cells #[] 0)];exact (World.frozen?_of_block (Below.heap_alloc _ _ _ hqbl)).symm
         clear hat hno HSplit d0 d1 d2 hn0 hn8 hrn hmem hin hrep hrl hin2 hbel
         generalize l[i]=q at *
         go_upto_region 13 with fail
         have HN4:=hide' (HNx.out (.cells #[.int .i64 rn,.int .i64 q.1.pl,.pointer (some ⟨q.2,0,none⟩)] 123))
         have hbq:=Blk.new (wq.setCell ⟨qb,rn,none⟩ (.bool true)) #[.int .i64 rn,.int .i64 q.1.pl,.pointer (some ⟨q.2,0,none⟩)] 123
         have hszq:(wq.setCell ⟨qb,rn,none⟩ (.bool true)).heap.size=wq.heap.size:=by simp[World.setCell]
         rw[hszq] at hbq
         have p2:((wq.setCell ⟨qb,rn,none⟩ (.bool true)).alloc (.cells #[.int .i64 rn,.int .i64 q.1.pl,.pointer (some ⟨q.2,0,none⟩)] 123)).cell? ⟨wq.heap.size,2,none⟩=some (.pointer (some ⟨q.2,0,none⟩)):=hbq.cell 2
         clear HNx cq fq cqf fqf hbq hszq c0 c1 c2
         generalize ((wq.setCell ⟨qb,rn,none⟩ (.bool true)).alloc (.cells #[.int .i64 rn,.int .i64 q.1.pl,.pointer (some ⟨q.2,0,none⟩)] 123))=w4 at *
         have t0:w4.cell? ⟨tb,0,none⟩=some (.bool (inR (l.map Prod.fst) 0)):=HN4.out.b1.cell 0
         have t1:w4.cell? ⟨tb,1,none⟩=some (.bool (inR (l.map Prod.fst) 1)):=HN4.out.b1.cell 1
         have t2:w4.cell? ⟨tb,2,none⟩=some (.bool (inR (l.map Prod.fst) 2)):=HN4.out.b1.cell 2
         have t3:w4.cell? ⟨tb,3,none⟩=some (.bool (inR (l.map Prod.fst) 3)):=HN4.out.b1.cell 3
         have t4:w4.cell? ⟨tb,4,none⟩=some (.bool (inR (l.map Prod.fst) 4)):=HN4.out.b1.cell 4
         have t5:w4.cell? ⟨tb,5,none⟩=some (.bool (inR (l.map Prod.fst) 5)):=HN4.out.b1.cell 5
         have t6:w4.cell? ⟨tb,6,none⟩=some (.bool (inR (l.map Prod.fst) 6)):=HN4.out.b1.cell 6
         have t7:w4.cell? ⟨tb,7,none⟩=some (.bool (inR (l.map Prod.fst) 7)):=HN4.out.b1.cell 7
         have hb4:=HN4.out.bel
         rw[HTB.out] at hb4
         have hs4:=hb4.size
         rw[HTB.out] at hs4
         have HB4:=hide' hb4
         go_wp2_with fail
         have hcc:=miss_calls (inR (l.map Prod.fst)) (s.size+1) w4 lo hi2 q.2 q.1.its (HRep.out.mono (fun k h1 h2=>hb4.block k (by omega)) (Nat.le_refl _) (Nat.le_refl _)) (by omega) HRl.out hrl2
         simp only[bools] at hcc
         refine hcc.mono ?_
         rintro e w5 ⟨rfl,hb5⟩
         have HN5:Hid (At1 w tb qb (inR (l.map Prod.fst)) (inR ((l.map Prod.fst).take (i+1))) w5):=⟨by rw[HTB.out];exact HB4.out.trans (hb5.mono (by omega)),HN4.out.b1.below hb5 HN4.out.b1.lt,HN4.out.b2.below hb5 HN4.out.b2.lt⟩
         clear hcc t0 t1 t2 t3 t4 t5 t6 t7 hb4 p2 hb5
         generalize hfm:firstMiss (inR (l.map Prod.fst)) q.1.its=m at *
         clear hfm
         obtain ⟨m1,m2⟩:=m
         cases m2
         · have HN6:=hide' (HNo2.out rfl)
           clear HNo2 HSc
           simp only
           go_wp2_with fail
           go_roundw
           case rel=>exact ⟨i+1,by go_num,by omega,HN5,HN6⟩
           case measure=>simp[intOf];omega
         · have HF:Hid (scanR (inR (l.map Prod.fst)) [] (l.map Prod.fst)=(m1,true)):=by
            have:scanR (inR (l.map Prod.fst)) [] (l.map Prod.fst)=(m1,true):=by rw[HSc.out];simp
            exact this
           clear HNo2 HSc
           simp only
           go_wp2_with fail
           go_ret2
           exact ⟨by rw[HF.out];rfl,HN5.out.bel⟩
     · have HF:Hid (scanR (inR (l.map Prod.fst)) [] (l.map Prod.fst)=(0,false)):=by
        have h:=hno.out
        rw[List.take_of_length_le (by simp;omega)] at h
        exact scanR_none _ _ _ h
       have HBf:=hide' hbel
       clear hat hno
       go_wp2_with fail
       go_ret2
       exact ⟨by rw[HF.out];rfl,by rw[HTB.out];exact HBf.out⟩
end Go.Proofs.YtmlkhhhjdpbhfaaGreatDoor
namespace Go.Proofs.YtmlkhhhjdpbhfaaGreatDoor
open Go
section
variable {P:Program} {ops:Array Oper} {md:Region.Mode} {w:World}
def backB (md:Region.Mode)(ops:Array Oper)(n:Nat):Bool:=
 (List.range ops.size).all fun t=>decide (t≤n)||(List.range t).any fun j=>decide (n≤j)&&Region.waitsFor md ops t j
theorem not_ready_of_waits {listed:Array Bool}{t j:Nat}(h:Region.waitsFor md ops t j=true)(hj:listed.getD j false=false):t ∉ Region.ready md ops listed:=by
 intro hr
 obtain ⟨_,ot,hot,hall⟩:=mem_ready.1 hr
 obtain ⟨o',ho',e,he,hb,hon⟩:=Region.waitsFor_spec h
 cases Option.some.inj (ho'.symm.trans hot)
 have:=hall e he hb
 rw[hon,hj] at this
 cases this
theorem mid_waits {n:Nat}{listed:Array Bool}(hs:Region.sinkB md ops n=true)(hb:backB md ops n=true)(hn:n<ops.size)(inv:HeadInv md ops n listed)(d:Nat):
 ∀ i,n-i≤d→i<n→listed.getD i true=false→∀ t,n≤t→t ∉ Region.ready md ops listed:=by
 induction d with
 | zero=>intro i h1 h2;omega
 | succ d ih=>
  intro i hd hi hun t ht
  by_cases htn:t=n
  · subst htn
    obtain ⟨j,hj,hj2⟩:=List.any_eq_true.1 (List.all_eq_true.1 hs i (List.mem_range.2 hi))
    simp only[Bool.and_eq_true,decide_eq_true_eq] at hj2
    have hjle:=List.mem_range.1 hj
    by_cases hjt:j=t
    · subst hjt;exact not_ready_of_waits hj2.2 (getD_both hun)
    · cases hl:listed.getD j false with
      | true=>
       obtain ⟨oj,hoj,e,he,hbb,hon⟩:=Region.waitsFor_spec hj2.2
       have h2:=inv.closed j oj hoj hl e he hbb
       rw[hon,getD_both hun] at h2
       cases h2
      | false=>exact ih j (by omega) (by omega) (getD_in (by rw[inv.size];omega) hl) t (Nat.le_refl _)
  · intro hr
    obtain ⟨_,ot,hot,_⟩:=mem_ready.1 hr
    have htlt:t<ops.size:=(Array.getElem?_eq_some_iff.1 hot).1
    have h1:=List.all_eq_true.1 hb t (List.mem_range.2 htlt)
    simp only[Bool.or_eq_true,decide_eq_true_eq] at h1
    rcases h1 with h1 | h1
    · omega
    · obtain ⟨j,hj,hj2⟩:=List.any_eq_true.1 h1
      simp only[Bool.and_eq_true,decide_eq_true_eq] at hj2
      have:=List.mem_range.1 hj
      exact not_ready_of_waits hj2.2 (getD_both (inv.tail j hj2.1 (by omega))) hr
theorem mid_first {n i:Nat}{oi:Oper}{v:Value}{L:Array Bool→Act→Prop}(hi:ops[i]? = some oi)(hsel:∀ (j:Nat) (o:Oper) cs b,ops[j]? = some o→o.op≠.select cs b)(hq:∀ listed,HeadInv md ops n listed→listed.getD i true=false→∀ t,n≤t→t ∉ Region.ready md ops listed)(hdone:∀ listed a,L listed a→∀ j∈Region.ready md ops listed,n≤j)(f:Nat):
 ∀ (listed:Array Bool) (a:Act),HeadInv md ops n listed→
  (∀ j oj,ops[j]? = some oj→j≠i→listed.getD j true=false→(∀ e∈oj.after,Region.binds md e=true→e.on≠i)→oi.apart ops oj=true)→
  i∈Region.ready md ops listed→YieldsAt P ops w oi v a→
  wpAnyL P md ops w n L f (listed.setIfInBounds i true) (a.put oi.dst v)→wpAnyL P md ops w n L (f+1) listed a:=by
 induction f with
 | zero=>
  intro listed a inv _ hr hy H
  have hun:=(mem_ready.1 hr).1
  refine ⟨List.ne_nil_of_mem hr,fun j hj=>?_⟩
  have hjn:j<n:=Nat.lt_of_not_le fun h=>hq listed inv hun j h hj
  refine ⟨hjn,?_⟩
  by_cases hji:j=i
  · subst hji;exact hy.stOp hi H
  · have:=hdone _ _ H j (ready_mono hj hji);omega
 | succ f ih=>
  intro listed a inv hfree hr hy H
  have hun:=(mem_ready.1 hr).1
  refine ⟨List.ne_nil_of_mem hr,fun j hj=>?_⟩
  have hjn:j<n:=Nat.lt_of_not_le fun h=>hq listed inv hun j h hj
  refine ⟨hjn,?_⟩
  by_cases hji:j=i
  · subst hji;exact hy.stOp hi H
  · obtain ⟨hjun,oj,hoj,hall⟩:=mem_ready.1 hj
    have hnot:∀ e∈oj.after,Region.binds md e=true→e.on≠i:=fun e he hb heq=>by
     have h1:=hall e he hb
     rw[heq,getD_both hun] at h1
     cases h1
    have h2:=stOp_put hoj (hfree j oj hoj hji hjun hnot) (fun cs b=>hsel i oi cs b hi) (fun cs b=>hsel j oj cs b hoj) hy (H.2 j (ready_mono hj hji)).2
    refine stOp_mono (fun a' h3=>ih (listed.setIfInBounds j true) a' (inv.set hj hjn) (fun k ok hk hki hun' hno=>hfree k ok hk hki ?_ hno) (ready_mono hr (Ne.symm hji)) h3.1 (by rw[Array.setIfInBounds_comm _ _ hji];exact h3.2)) h2
    by_cases hjk:j=k
    · subst hjk;exact hjun
    · rw[getD_set_ne true hjk] at hun';exact hun'
def midFrom (md:Region.Mode)(ops:Array Oper)(n:Nat):Nat→Nat→Array Bool→Bool
 | 0,_,listed=>decide (Region.ready md ops listed=[n])&&Region.lexFrom md ops (ops.size-n-1) (n+1) (listed.setIfInBounds n true)
 | f+1,k,listed=>(Region.ready md ops listed).contains k&&Region.free md ops listed k&&midFrom md ops n f (k+1) (listed.setIfInBounds k true)
def midB (md:Region.Mode)(ops:Array Oper)(n:Nat):Bool:=
 Region.noSelect ops&&decide (n<ops.size)&&Region.sinkB md ops n&&backB md ops n&&midFrom md ops n n 0 (Array.replicate ops.size false)
theorem mid_lex {n:Nat}{Lq:Act→Prop}(hsel:Region.noSelect ops=true)(hs:Region.sinkB md ops n=true)(hb:backB md ops n=true)(hn:n<ops.size):
 ∀ (l:List Oper) (k:Nat) (listed:Array Bool) (a:Act),(∀ j,j<l.length→l[j]? = ops[k+j]?)→k+l.length=n→HeadInv md ops n listed→
 midFrom md ops n l.length k listed=true→wpStill P ops w Lq l a→
 wpAnyL P md ops w n (fun listed' a'=>(Region.ready md ops listed'=[n]∧Region.lexFrom md ops (ops.size-n-1) (n+1) (listed'.setIfInBounds n true)=true)∧Lq a') l.length listed a
 | [],k,listed,a,_,_,_,hB,h=>by
  simp only[List.length_nil,midFrom,Bool.and_eq_true,decide_eq_true_eq] at hB
  exact ⟨hB,h⟩
 | o::l,k,listed,a,hl,hk,inv,hB,h=>by
  have h0:ops[k]? = some o:=by simpa using (hl 0 (by simp)).symm
  simp only[List.length_cons,midFrom,Bool.and_eq_true] at hB
  obtain ⟨⟨hr,hf⟩,hB'⟩:=hB
  have hkn:k<n:=by simp only[List.length_cons] at hk;omega
  have hr':k∈Region.ready md ops listed:=by simpa using hr
  have hst:stOp P ops w k (wpStill P ops w Lq l) a:=by unfold stOp;simp only[h0];exact h
  obtain ⟨v,hy,hK⟩:=yieldsAt_of_stOp h0 hst
  refine mid_first h0 (Region.noSelect_spec hsel) (fun ls inv2 hun=>mid_waits hs hb hn inv2 n k (by omega) hkn hun) (fun ls a' hL j hj=>?_) l.length listed a inv (Region.free_spec h0 hf) hr' hy
   (mid_lex hsel hs hb hn l (k+1) _ _ (fun j hj=>by have:=hl (j+1) (by simp;omega);simpa[Nat.add_assoc,Nat.add_comm 1 j] using this) (by simp only[List.length_cons] at hk;omega) (inv.set hr' hkn) hB' hK)
  rw[hL.1.1] at hj
  simp at hj
  omega
theorem wp_region_mid {id:Nat}{Q:Exit→Act→World→Prop}{a:Act}{w:World}{l:List Oper}(n:Nat)(o:Oper)(ho:l[n]? = some o)(hg:o.guard=none)(hm:P.follows .mixedOrders=true)(hB:midB .any l.toArray n=true)(h:wpStill P l.toArray { w with drawn:=w.drawn+1 } (fun a'=>o.wp P a' { w with drawn:=w.drawn+1 } (fun a2 w2=>wpStill P l.toArray w2 (fun a3=>Q .normal a3 w2) (l.drop (n+1)) a2) Q) (l.take n) a):(Code.region id l.toArray true).wp P Q a w:=by
 simp only[midB,Bool.and_eq_true,decide_eq_true_eq] at hB
 obtain ⟨⟨⟨⟨hsel,hn⟩,hs⟩,hb⟩,hmid⟩:=hB
 have hn':n<l.length:=by simpa using hn
 have htl:(l.take n).length=n:=by simp;omega
 have inv0:HeadInv .any l.toArray n (Array.replicate l.toArray.size false):=
  ⟨by simp,fun j oj _ hl=>(by rw[getD_replicate_false] at hl;cases hl),fun t _ ht=>getD_in (by simpa using ht) (getD_replicate_false _ _)⟩
 have H:=mid_lex (md:=.any) hsel hs hb hn (l.take n) 0 _ a (fun j hj=>by
  have hj':j<n:=by rw[htl] at hj;exact hj
  simp[hj']) (by simpa using htl) inv0 (by rw[htl];exact hmid) h
 refine wp_region_any hm ?_
 have:=wpAny_of_head (Q':=Q) (g:=l.toArray.size-n-1+1) (fun listed a' hL=>by
  obtain ⟨⟨hr,hlex⟩,hop⟩:=hL
  refine ⟨fun h0=>by rw[hr] at h0;simp at h0,fun i hi=>?_⟩
  rw[hr] at hi
  have hin:i=n:=by simpa using hi
  subst hin
  unfold wpOp
  have ho':l.toArray[i]? = some o:=by simpa using ho
  simp only[ho']
  rw[if_pos (by simp[Region.wanted,hg])]
  refine .inl (Oper.wp_mono (fun a2 w2 h2=>?_) hop)
  have h3:=wpAnyS_lex (md:=.any) (P:=P) (w:=w2) hsel (l.drop (i+1)) (i+1) (listed.setIfInBounds i true) a2 (fun j=>by simp[List.getElem?_drop]) (by simpa[Nat.sub_sub] using hlex) h2
  have h4:=wpAny_of_still (Q:=fun a3=>Q .normal a3 w2) (Q':=Q) (fun _ h=>h) _ _ _ h3
  simpa[Nat.sub_sub] using h4) _ _ _ H
 rw[htl,show n+(l.toArray.size-n-1+1)=l.toArray.size by omega] at this
 exact this
end
end Go.Proofs.YtmlkhhhjdpbhfaaGreatDoor
namespace Go.Proofs.YtmlkhhhjdpbhfaaGreatDoor
open Go.RowKit
def RulOk (its:List It):Prop:=∀ x,x∈its→x.c=82→0≤x.r∧x.r<8
theorem itd_append_left (a b:List It)(k:Nat)(h:k<a.length):itd (a++b) k=itd a k:=by simp[itd,List.getElem?_append_left h]
theorem itd_append_right (a b:List It)(k:Nat)(h:a.length≤k):itd (a++b) k=itd b (k-a.length):=by simp[itd,List.getElem?_append_right h]
theorem Wf.nil:Wf []:=⟨fun k h=>by simp at h,fun k h=>by simp at h,fun k h=>by simp at h⟩
theorem Wf.append {a b:List It}(ha:Wf a)(hb:Wf b):Wf (a++b):=by
 refine ⟨fun k hk=>?_,fun k hk hc=>?_,fun k hk=>?_⟩
 · rw[List.length_append] at hk ⊢
   by_cases h:k<a.length
   · rw[itd_append_left _ _ _ h];have:=ha.pos k h;omega
   · rw[itd_append_right _ _ _ (by omega)];have:=hb.pos (k-a.length) (by omega);omega
 · rw[List.length_append] at hk ⊢
   by_cases h:k<a.length
   · rw[itd_append_left _ _ _ h] at hc;have:=ha.one k h hc;omega
   · rw[itd_append_right _ _ _ (by omega)] at hc;have:=hb.one (k-a.length) (by omega) hc;omega
 · rw[List.length_append] at hk
   by_cases h:k<a.length
   · rw[itd_append_left _ _ _ h];exact ha.byte k h
   · rw[itd_append_right _ _ _ (by omega)];exact hb.byte (k-a.length) (by omega)
theorem Wf.cons {x:It}{r:List It}(hr:Wf r)(hx:x.nx=1+r.length)(h1:inB [119,64,115] x.c=true→0<r.length)(h2:0≤x.c∧x.c≤255):Wf (x::r):=by
 have e:∀ k,itd (x::r) (k+1)=itd r k:=fun k=>rfl
 have e0:itd (x::r) 0=x:=rfl
 refine ⟨fun k hk=>?_,fun k hk hc=>?_,fun k hk=>?_⟩
 · rw[List.length_cons] at hk ⊢
   cases k with
   | zero=>rw[e0];omega
   | succ k=>rw[e];have:=hr.pos k (by omega);omega
 · rw[List.length_cons] at hk ⊢
   cases k with
   | zero=>rw[e0] at hc;have:=h1 hc;omega
   | succ k=>rw[e] at hc;have:=hr.one k (by omega) hc;omega
 · rw[List.length_cons] at hk
   cases k with
   | zero=>rw[e0];exact h2
   | succ k=>rw[e];exact hr.byte k (by omega)
theorem RulOk.append {a b:List It}(ha:RulOk a)(hb:RulOk b):RulOk (a++b):=fun x hx=>by
 rcases List.mem_append.1 hx with h | h
 · exact ha x h
 · exact hb x h
end Go.Proofs.YtmlkhhhjdpbhfaaGreatDoor

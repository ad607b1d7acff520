import Derived.Test.YtmlkhhhjdpbhfaaGreatDoorFo03
import Derived.Lib.ItoaNum
import Derived.Deep.RegionHeld3
import Derived.Deep.DrawnRows
import Derived.WalkLawsBesides
import Derived.Laws.EntriesVeiled
import Derived.Recover
import Derived.Defers
namespace Go.Proofs.YtmlkhhhjdpbhfaaGreatDoor
open Go.RowKit
def setR (l:List Bool)(a b:Nat)(v:Bool):List Bool:=l.mapIdx fun i x=>if a≤i∧i<b then v else x
def canRead (rd:List Bool)(a e n:Nat):Bool:=decide (n≤e-a) && !((List.range n).any fun j=>rd.getD (a+j) false)
structure PS where
 pl:Nat
 en:Nat
 rd:List Bool
 deps:Nat→Nat × Nat
 vals:Nat
structure PO where
 e:Nat
 ok:Bool
 fuel:Nat
 far:Nat
 st:PS
 t:List UInt8
def deadO (n:Nat)(st:PS):PO:=⟨n,false,0,0,st,[]⟩
def failO (fuel far a:Nat)(st:PS):PO:=⟨0,false,fuel,max far a,st,[]⟩
def fitO (fuel far:Nat)(st:PS)(t:List UInt8):PO:=⟨0,true,fuel,far,st,t⟩
def madeO (N fuel far:Nat)(st:PS)(t:List UInt8):PO:=if st.vals=N then deadO 7 st else fitO fuel far { st with vals:=st.vals+1 } t
def joinT (a b:List UInt8):List UInt8:=if a=[] then b else a++32::b
def hexT (n:Nat):UInt8:=if n<10 then UInt8.ofNat (48+n) else UInt8.ofNat (87+n)
def quoteT (b:ByteArray):List UInt8:=34::((List.range b.size).flatMap fun i=>[hexT (bn b i / 16),hexT (bn b i % 16)])++[34]
def decT (n:Nat):List UInt8:=Lib.decDigits n
def readS (st:PS)(n:Nat):PS:={ st with rd:=setR st.rd st.pl (st.pl+n) true,pl:=st.pl+n }
def lenT (x:It)(st:PS):Nat:=if x.c=39 then 1 else if x.c=114 then (st.deps x.d.toNat).1 else if x.c=46 then st.en-st.pl else x.w.toNat
def numT (x:It)(b:ByteArray):Nat:=if x.c=108∨x.c=107 then loV b b.size else hiV b b.size
def bytesT (bs:ByteArray)(N:Nat)(x:It)(q:Bool)(fuel far:Nat)(st:PS):PO:=
 if canRead st.rd st.pl st.en (lenT x st) then
  if x.c=39 then (if (bn bs st.pl:Int)≠x.b then failO fuel far st.pl st else if q then fitO fuel far (readS st 1) [] else madeO N fuel far (readS st 1) [45])
  else if x.c=114∨x.c=46 then madeO N fuel far (readS st (lenT x st)) (quoteT (bs.extract st.pl (st.pl+lenT x st)))
  else if hidesB x.c then fitO fuel far { readS st (lenT x st) with deps:=fun k=>if k=x.d.toNat then (numT x (bs.extract st.pl (st.pl+lenT x st)),x.w.toNat) else st.deps k } []
  else madeO N fuel far (readS st (lenT x st)) (decT (numT x (bs.extract st.pl (st.pl+lenT x st))))
 else failO fuel far st.pl st
def silV (k:List It):Bool:=match k with | x::_=>decide (x.c=39)||hidesB x.c | []=>false
def kidsT (T:Nat→Nat→Bool→List It→PS→PO):List (List It)→Nat→Nat→PS→List UInt8→PO
 | [],fuel,far,st,t=>fitO fuel far st t
 | k::ks,fuel,far,st,t=>
  if (T fuel far (silV k) k st).ok=true then kidsT T ks (T fuel far (silV k) k st).fuel (T fuel far (silV k) k st).far (T fuel far (silV k) k st).st (if silV k then t else joinT t (T fuel far (silV k) k st).t) else T fuel far (silV k) k st
def manyT (T:Nat→Nat→Bool→List It→PS→PO)(N:Nat)(kid:List It):Nat→Nat→Nat→PS→List UInt8→PO
 | 0,_,_,st,_=>deadO 6 st
 | g+1,fuel,far,st,t=>
  if (T fuel far false kid st).e≠0 then T fuel far false kid st
  else if (T fuel far false kid st).ok=false∨(T fuel far false kid st).st.pl=st.pl then madeO N (T fuel far false kid st).fuel (T fuel far false kid st).far st (91::t++[93])
  else manyT T N kid g (T fuel far false kid st).fuel (T fuel far false kid st).far (T fuel far false kid st).st (joinT t (T fuel far false kid st).t)
def timesT (T:Nat→Nat→Bool→List It→PS→PO)(N:Nat)(kid:List It):Nat→Nat→Nat→PS→List UInt8→PO
 | 0,fuel,far,st,t=>madeO N fuel far st (91::t++[93])
 | n+1,fuel,far,st,t=>
  if (T fuel far false kid st).ok=true then timesT T N kid n (T fuel far false kid st).fuel (T fuel far false kid st).far (T fuel far false kid st).st (joinT t (T fuel far false kid st).t) else T fuel far false kid st
def chosen (N:Nat)(c:UInt8)(o:PO):PO:=if o.ok=true then madeO N o.fuel o.far o.st (47::c::32::o.t) else o
def choice2 (T:Nat→Nat→Bool→List It→PS→PO)(N:Nat)(k1:List It)(st:PS)(o:PO):PO:=
 if o.ok=true∨o.e≠0 then chosen N 48 o else chosen N 49 (T o.fuel o.far false k1 st)
def choiceT (T:Nat→Nat→Bool→List It→PS→PO)(N:Nat)(k0 k1:List It)(fuel far:Nat)(st:PS):PO:=choice2 T N k1 st (T fuel far false k0 st)
def wholeE (N:Nat)(deps:Nat→Nat × Nat)(o:PO):PO:=if o.ok=true then madeO N o.fuel o.far { o.st with deps:=deps } (40::o.t++[41]) else o
def wholeT (T:Nat→Nat→Bool→List It→PS→PO)(N:Nat)(ks:List (List It))(fuel far:Nat)(st:PS):PO:=wholeE N st.deps (kidsT T ks fuel far { st with deps:=fun _=>(0,0) } [])
def windowE (d:Nat)(st:PS)(o:PO):PO:=if o.ok=true then (if o.st.pl≠st.pl+d then failO o.fuel o.far o.st.pl st else fitO o.fuel o.far { o.st with en:=st.en } o.t) else o
def windowT (T:Nat→Nat→Bool→List It→PS→PO)(d:Nat)(kid:List It)(fuel far:Nat)(st:PS):PO:=
 if st.en-st.pl<d then failO fuel far st.pl st else windowE d st (T fuel far false kid { st with en:=st.pl+d })
def atE (st:PS)(o:PO):PO:=if o.ok=true then fitO o.fuel o.far { o.st with pl:=st.pl,en:=st.en } o.t else o
def atT (T:Nat→Nat→Bool→List It→PS→PO)(bs:ByteArray)(d:Nat)(kid:List It)(fuel far:Nat)(st:PS):PO:=
 if bs.size<d then failO fuel far st.pl st else atE st (T fuel far false kid { st with pl:=d,en:=bs.size })
def summedE (bs:ByteArray)(d:Nat × Nat)(st:PS)(o:PO):PO:=
 if o.ok=true then (if sumV (bs.extract st.pl o.st.pl) d.2 (bs.extract st.pl o.st.pl).size≠d.1 then failO o.fuel o.far st.pl st else fitO o.fuel o.far { o.st with en:=st.en } o.t) else o
def summedT (T:Nat→Nat→Bool→List It→PS→PO)(bs:ByteArray)(d:Nat × Nat)(kid:List It)(fuel far:Nat)(st:PS):PO:=summedE bs d st (T fuel far false kid st)
def tryT (G:Nat→List It)(bs:ByteArray)(N:Nat):Nat→Nat→Nat→Bool→List It→PS→PO
 | 0,_,_,_,_,st=>deadO 6 st
 | _+1,_,_,_,[],st=>deadO 6 st
 | _+1,0,_,_,_::_,st=>deadO 6 st
 | g+1,fuel+1,far,q,x::r,st=>
  if x.c=40 then wholeT (tryT G bs N g) N (segs r.length r) fuel far st
  else if x.c=47 then choiceT (tryT G bs N g) N ((segs r.length r).getD 0 []) ((segs r.length r).getD 1 []) fuel far st
  else if x.c=42 then manyT (tryT G bs N g) N r (fuel+1) fuel far st []
  else if x.c=82 then tryT G bs N g fuel far false (G x.r.toNat) st
  else if x.c=116 then timesT (tryT G bs N g) N r (st.deps x.d.toNat).1 fuel far st []
  else if x.c=119 then windowT (tryT G bs N g) (st.deps x.d.toNat).1 r fuel far st
  else if x.c=64 then atT (tryT G bs N g) bs (st.deps x.d.toNat).1 r fuel far st
  else if x.c=115 then summedT (tryT G bs N g) bs (st.deps x.d.toNat) r fuel far st
  else bytesT bs N x q fuel far st
def st0 (bs:ByteArray):PS:=⟨0,bs.size,List.replicate bs.size false,fun _=>(0,0),0⟩
def endT (o:PO):List UInt8 × Nat × Nat:=
 if o.e≠0 then ([],o.e,0) else if o.ok=false then ([],8,o.far)
 else match o.st.rd.findIdx? (fun b=>!b) with | some i=>([],8,i) | none=>(o.t,0,0)
def SpOk:List Bool→List (Nat × Nat)→List Bool→Prop
 | rd,[],rd'=>rd'=rd
 | rd,p::ps,rd'=>p.1≤p.2∧p.2≤rd.length∧(∀ i,p.1≤i→i<p.2→rd.getD i false=false)∧SpOk (setR rd p.1 p.2 true) ps rd'
def undoR (l:List (Nat × Nat))(rd:List Bool):List Bool:=l.foldl (fun r p=>setR r p.1 p.2 false) rd
theorem setR_len (l:List Bool)(a b:Nat)(v:Bool):(setR l a b v).length=l.length:=by simp[setR]
theorem setR_get (l:List Bool)(a b:Nat)(v:Bool)(i:Nat)(h:i<l.length):(setR l a b v)[i]'(by rw[setR_len];exact h)=if a≤i∧i<b then v else l[i]:=by simp[setR]
theorem setR_getD (l:List Bool)(a b:Nat)(v:Bool)(i:Nat)(h:i<l.length):(setR l a b v).getD i false=if a≤i∧i<b then v else l.getD i false:=by
 have h2:i<(setR l a b v).length:=by rw[setR_len];exact h
 rw[List.getD_eq_getElem?_getD,List.getElem?_eq_getElem h2,List.getD_eq_getElem?_getD,List.getElem?_eq_getElem h]
 simp only[Option.getD_some]
 exact setR_get l a b v i h
theorem SpOk.len {new:List (Nat × Nat)}:∀ {rd rd':List Bool},SpOk rd new rd'→rd'.length=rd.length:=by
 induction new with
 | nil=>intro rd rd' h;rw[show rd'=rd from h]
 | cons p ps ih=>intro rd rd' h;have:=ih h.2.2.2;rw[this,setR_len]
theorem SpOk.app {a:List (Nat × Nat)}:∀ {b:List (Nat × Nat)} {rd rd1 rd2:List Bool},SpOk rd a rd1→SpOk rd1 b rd2→SpOk rd (a++b) rd2:=by
 induction a with
 | nil=>intro b rd rd1 rd2 h k;rw[show rd1=rd from h] at k;exact k
 | cons p ps ih=>intro b rd rd1 rd2 h k;exact ⟨h.1,h.2.1,h.2.2.1,ih h.2.2.2 k⟩
theorem SpOk.in {new:List (Nat × Nat)}:∀ {rd rd':List Bool},SpOk rd new rd'→∀ p,p∈new→p.1≤p.2∧p.2≤rd.length:=by
 induction new with
 | nil=>intro rd rd' h p hp;simp at hp
 | cons q ps ih=>
  intro rd rd' h p hp
  rcases List.mem_cons.1 hp with rfl | hp
  · exact ⟨h.1,h.2.1⟩
  · have:=ih h.2.2.2 p hp;rw[setR_len] at this;exact this
theorem undoR_len (l:List (Nat × Nat)):∀ rd:List Bool,(undoR l rd).length=rd.length:=by
 induction l with
 | nil=>intro rd;rfl
 | cons x t ih=>intro rd;simp only[undoR,List.foldl_cons] at ih ⊢;rw[ih,setR_len]
def hit (l:List (Nat × Nat))(i:Nat):Bool:=l.any fun p=>decide (p.1≤i)&&decide (i<p.2)
theorem undoR_get (l:List (Nat × Nat)):∀ (rd:List Bool) (i:Nat),i<rd.length→(undoR l rd).getD i false=(rd.getD i false && !(hit l i)):=by
 induction l with
 | nil=>intro rd i _;simp[undoR,hit]
 | cons x t ih=>
  intro rd i hi
  have h:=ih (setR rd x.1 x.2 false) i (by rw[setR_len];exact hi)
  simp only[undoR,List.foldl_cons] at h ⊢
  rw[h,setR_getD _ _ _ _ _ hi]
  simp only[hit,List.any_cons]
  by_cases hx:x.1≤i∧i<x.2
  · rw[if_pos hx];simp[hx.1,hx.2]
  · rw[if_neg hx]
    have:(decide (x.1≤i)&&decide (i<x.2))=false:=by
     by_cases h1:x.1≤i
     · have:¬ i<x.2:=fun h2=>hx ⟨h1,h2⟩
       simp[this]
     · simp[h1]
    rw[this];simp
theorem SpOk.get {new:List (Nat × Nat)}:∀ {rd rd':List Bool},SpOk rd new rd'→∀ i,i<rd.length→rd'.getD i false=(rd.getD i false||hit new i)∧(hit new i=true→rd.getD i false=false):=by
 induction new with
 | nil=>intro rd rd' h i _;rw[show rd'=rd from h];simp[hit]
 | cons p ps ih=>
  intro rd rd' h i hi
  obtain ⟨h1,h2,h3,h4⟩:=h
  have k:=ih h4 i (by rw[setR_len];exact hi)
  rw[setR_getD _ _ _ _ _ hi] at k
  simp only[hit,List.any_cons] at k ⊢
  by_cases hx:p.1≤i∧i<p.2
  · rw[if_pos hx] at k
    rw[h3 i hx.1 hx.2,k.1]
    simp[hx.1,hx.2]
  · rw[if_neg hx] at k
    have:(decide (p.1≤i)&&decide (i<p.2))=false:=by
     by_cases h1:p.1≤i
     · have:¬ i<p.2:=fun h2=>hx ⟨h1,h2⟩
       simp[this]
     · simp[h1]
    rw[this];simpa using k
theorem SpOk.undo {new:List (Nat × Nat)}{rd rd':List Bool}(h:SpOk rd new rd'):undoR new rd'=rd:=by
 have hl:=h.len
 apply List.ext_getElem (by rw[undoR_len,hl])
 intro i h1 h2
 have a:=undoR_get new rd' i (by rw[hl];exact h2)
 obtain ⟨b,c⟩:=h.get i h2
 rw[b] at a
 have e1:(undoR new rd').getD i false=(undoR new rd')[i]:=by rw[List.getD_eq_getElem?_getD,List.getElem?_eq_getElem h1];rfl
 have e2:rd.getD i false=rd[i]:=by rw[List.getD_eq_getElem?_getD,List.getElem?_eq_getElem h2];rfl
 rw[e1,e2] at a
 rw[e2] at c
 rw[a]
 cases hh:hit new i
 · simp
 · rw[c hh];simp
structure Ts where
 fuel:Nat
 nodes:Nat
 far:Nat
 read:List Bool
 spans:List (Nat × Nat)
 sv:Value
def fnV (n:Nat):Value:=.func (.func n) #[] #[]
def doFns:List Value:=[fnV 120,fnV 121,fnV 122,
 fnV 123,fnV 121,fnV 124,
 fnV 125,fnV 126,fnV 127,
 fnV 128,fnV 129,fnV 130,
 fnV 131,fnV 132,fnV 133,
 fnV 134,fnV 135,fnV 136,
 fnV 137,fnV 138,fnV 139,
 fnV 140,fnV 141,fnV 142,
 fnV 143,fnV 141,fnV 144,
 fnV 145,fnV 146,fnV 147,
 fnV 148,fnV 135,fnV 149,
 fnV 150,fnV 151,fnV 152,
 fnV 153,fnV 151,fnV 154,
 fnV 155,fnV 151,fnV 156,
 fnV 157,fnV 146,fnV 158]
def trTail (gb rb:Nat)(bs:ByteArray)(s:Ts):List Value:=[.pointer (some ⟨gb,0,none⟩),.string bs,.int .i64 s.fuel,.int .i64 s.nodes,.slice (some ⟨rb,0,none⟩) bs.size bs.size,s.sv,.int .i64 s.far]
def trCells (gb rb:Nat)(bs:ByteArray)(s:Ts):Array Value:=(doFns++trTail gb rb bs s).toArray
def spanC (l:List (Nat × Nat)):List Value:=l.flatMap fun p=>[.int .i64 p.1,.int .i64 p.2]
structure TrAt (gb rb tb:Nat) (bs:ByteArray) (w:World) (s:Ts):Prop where
 blk:Blk w tb (trCells gb rb bs s) 154
 rd:Blk w rb (s.read.map Value.bool).toArray 4
 len:s.read.length=bs.size
 own:w.ownsRow (tb+1) 288 2 s.sv s.spans.length (spanC s.spans)
 lt:rb<tb
theorem trCells_far (gb rb:Nat)(bs:ByteArray)(s:Ts)(n:Nat):(trCells gb rb bs s).setIfInBounds 51 (.int .i64 n)=trCells gb rb bs { s with far:=n }:=rfl
theorem trCells_fuel (gb rb:Nat)(bs:ByteArray)(s:Ts)(n:Nat):(trCells gb rb bs s).setIfInBounds 47 (.int .i64 n)=trCells gb rb bs { s with fuel:=n }:=rfl
theorem trCells_nodes (gb rb:Nat)(bs:ByteArray)(s:Ts)(n:Nat):(trCells gb rb bs s).setIfInBounds 48 (.int .i64 n)=trCells gb rb bs { s with nodes:=n }:=rfl
theorem TrAt.set {gb rb tb:Nat}{bs:ByteArray}{w:World}{s s':Ts}(h:TrAt gb rb tb bs w s)(j:Nat)(u:Value)(hc:(trCells gb rb bs s).setIfInBounds j u=trCells gb rb bs s')(h1:s'.read=s.read)(h2:s'.spans=s.spans)(h3:s'.sv=s.sv):TrAt gb rb tb bs (w.setCell ⟨tb,j,none⟩ u) s':=by
 have hlt:=h.lt
 refine ⟨?_,?_,by rw[h1];exact h.len,?_,hlt⟩
 · rw[← hc];exact Blk.set h.blk j u
 · rw[h1];exact Blk.setOther h.rd _ (by simp only;omega) u
 · rw[h2,h3]
   exact ownsRow_setCell_below h.own (a:=⟨tb,j,none⟩) (by simp) u
theorem TrAt.alloc {gb rb tb:Nat}{bs:ByteArray}{w:World}{s:Ts}(h:TrAt gb rb tb bs w s)(o:Obj):TrAt gb rb tb bs (w.alloc o) s:=⟨Blk.alloc h.blk o,Blk.alloc h.rd o,h.len,h.own.alloc o,h.lt⟩
theorem TrAt.drewN {gb rb tb:Nat}{bs:ByteArray}{w:World}{s:Ts}(h:TrAt gb rb tb bs w s)(n:Nat):TrAt gb rb tb bs (w.drewN n) s:=⟨h.blk,h.rd,h.len,h.own,h.lt⟩
theorem TrAt.cfuel {gb rb tb:Nat}{bs:ByteArray}{w:World}{s:Ts}(h:TrAt gb rb tb bs w s):w.cell? ⟨tb,47,none⟩=some (.int .i64 s.fuel):=h.blk.cell 47
theorem TrAt.cnodes {gb rb tb:Nat}{bs:ByteArray}{w:World}{s:Ts}(h:TrAt gb rb tb bs w s):w.cell? ⟨tb,48,none⟩=some (.int .i64 s.nodes):=h.blk.cell 48
theorem TrAt.cread {gb rb tb:Nat}{bs:ByteArray}{w:World}{s:Ts}(h:TrAt gb rb tb bs w s):w.cell? ⟨tb,49,none⟩=some (.slice (some ⟨rb,0,none⟩) bs.size bs.size):=h.blk.cell 49
theorem TrAt.csv {gb rb tb:Nat}{bs:ByteArray}{w:World}{s:Ts}(h:TrAt gb rb tb bs w s):w.cell? ⟨tb,50,none⟩=some s.sv:=h.blk.cell 50
theorem TrAt.cfar {gb rb tb:Nat}{bs:ByteArray}{w:World}{s:Ts}(h:TrAt gb rb tb bs w s):w.cell? ⟨tb,51,none⟩=some (.int .i64 s.far):=h.blk.cell 51
theorem TrAt.cbytes {gb rb tb:Nat}{bs:ByteArray}{w:World}{s:Ts}(h:TrAt gb rb tb bs w s):w.cell? ⟨tb,46,none⟩=some (.string bs):=h.blk.cell 46
theorem TrAt.cgram {gb rb tb:Nat}{bs:ByteArray}{w:World}{s:Ts}(h:TrAt gb rb tb bs w s):w.cell? ⟨tb,45,none⟩=some (.pointer (some ⟨gb,0,none⟩)):=h.blk.cell 45
set_option maxHeartbeats 1000000 in
theorem fail_calls (gb rb tb:Nat)(bs:ByteArray)(w:World)(s:Ts)(h:TrAt gb rb tb bs w s)(a:Nat):
 Calls Tryz.prog 185 #[.pointer (some ⟨tb,0,none⟩),.int .i64 a] w fun e w'=>e=.returned (.tuple #[.pointer none,.int .i64 0,.bool false])∧w'=w.setCell ⟨tb,51,none⟩ (.int .i64 (max s.far a:Nat)):=by
 have c:=h.cfar
 have f:w.frozen? ⟨tb,51,none⟩=false:=h.blk.frozen 51
 clear h
 go_enter Tryz.func185,Tryz.ntmps185
 go_wp2_with fail
 all_goals
  go_ret3
  refine ⟨rfl,?_⟩
  congr
  omega
def outV (n:Int):List PanicEntry:=[{ v:=.iface 81 (.agg #[.int .i64 n]),recovered:=false }]
set_option maxHeartbeats 1000000 in
theorem made_none (gb rb tb:Nat)(bs:ByteArray)(w:World)(s:Ts)(h:TrAt gb rb tb bs w s)(k n:Int)(r:ByteArray)(v:Value)(h0:s.nodes=0)(_hv:v.oneCell'=true):
 Calls Tryz.prog 186 #[.pointer (some ⟨tb,0,none⟩),.agg #[.int .i64 k,.int .u32 n,.string r,v]] w fun e w'=>e=.panicked (outV 7)∧w'=w.alloc (.cells #[.int .i64 k,.int .u32 n,.string r,v] 177):=by
 have c:∀ o,(w.alloc o).cell? ⟨tb,48,none⟩=some (.int .i64 0):=fun o=>by rw[(h.alloc o).cnodes,h0];rfl
 clear h
 go_enter Tryz.func186,Tryz.ntmps186
 go_wp2_with fail
 exact ⟨rfl,rfl,rfl⟩
set_option maxHeartbeats 400000 in
theorem rec_idle (p1 p2 p3:Addr)(w:World):
 CallsD Tryz.prog 40 #[.pointer (some p1),.pointer (some p2),.pointer (some p3)] .returning w fun e u' w'=>e=.returned (.tuple #[])∧u'=.returning∧w'=w:=by
 refine callsD_of_wpS Tryz.func40 rfl fun c₀ cs hu=>?_
 apply wpS_seq
 apply wpS_region
 simp[wpOpsS,go_sem,recoverD,hu,Tryz.ntmps40,Exit.thenS]
 apply wpS_seq
 apply wpS_seq
 apply wpS_region
 simp[wpOpsS,go_sem,Exit.thenS]
 refine wpS_cond (t:=true) (by simp[Act.eval,Array.replicate]) ?_
 simp only[if_true]
 refine wpS_of_wp (wp_ret ?_)
 cases c₀
 simp_all [bodyPostS,results,Tryz.results40,Exit.thenS,go_sem]
def tsNew (fuel N n:Nat):Ts:=⟨fuel,N,0,List.replicate n false,[],.slice none 0 0⟩
theorem Tryz.infoBool:(Tryz.prog.info? 4).map (fun i=>(i.zero,i.size,i.bytes))=some (some (.bool false),1,1):=by kernel_rfl
theorem made_bools (n:Nat):madeCells (Value.bool false).cells (n*1)=((List.replicate n false).map Value.bool).toArray:=by
 apply Array.ext
 · simp[madeCells]
 · intro i h1 h2
   simp only[madeCells,Array.getElem_map,Value.cells]
   simp[Nat.mod_one]
theorem mk_read (n:Nat)(hn:n≤4000)(W:World):Sem.run Tryz.prog (Instr.makeSlice 137 (.int .i64 n) (.int .i64 n)) W=.ok (.slice (some ⟨W.heap.size,0,none⟩) n n) (W.alloc (.cells ((List.replicate n false).map Value.bool).toArray 4)):=by
 obtain ⟨i0,hi0,hz0,hz1,hz2⟩:=info_parts Tryz.infoBool
 have:=run_makeSlice (P:=Tryz.prog) W 137 4 i0 (.bool false) Tryz.underlying137 hi0 hz0 .i64 .i64 n n (by omega) (by omega) (by rw[hz1];omega) (by rw[hz2];omega) (by omega)
 rw[hz1] at this
 simp only[Int.toNat_natCast] at this
 rw[made_bools] at this
 exact this
structure TF (tb rb:Nat) (sb hb:Option Nat) (w w':World):Prop where
 os:w'.os=w.os
 tape:w'.tape=w.tape
 output:w'.output=w.output
 size:w.heap.size≤w'.heap.size
 block:∀ k,k<w.heap.size→k≠tb→k≠rb→some k≠sb→some k≠hb→w'.heap[k]? = w.heap[k]?
theorem TF.refl (tb rb:Nat)(sb hb:Option Nat)(w:World):TF tb rb sb hb w w:=⟨rfl,rfl,rfl,Nat.le_refl _,fun _ _ _ _ _ _=>rfl⟩
theorem TF.trans {tb rb:Nat}{sb sb' hb hb':Option Nat}{a b c:World}(h:TF tb rb sb hb a b)(k:TF tb rb sb' hb' b c)(hs:sb'=sb∨∀ g,sb'=some g→a.heap.size≤g)(hh:hb'=hb∨∀ g,hb'=some g→a.heap.size≤g):TF tb rb sb hb a c:=by
 refine ⟨k.os.trans h.os,k.tape.trans h.tape,k.output.trans h.output,Nat.le_trans h.size k.size,fun i hi h1 h2 h3 h4=>?_⟩
 rw[k.block i (by have:=h.size;omega) h1 h2 ?_ ?_,h.block i hi h1 h2 h3 h4]
 · rcases hs with hs | hs
   · rw[hs];exact h3
   · intro e;have:=hs i e.symm;omega
 · rcases hh with hh | hh
   · rw[hh];exact h4
   · intro e;have:=hh i e.symm;omega
theorem TF.alloc {tb rb:Nat}{sb hb:Option Nat}{a b:World}(h:TF tb rb sb hb a b)(o:Obj):TF tb rb sb hb a (b.alloc o):=
 ⟨h.os,h.tape,h.output,by have:=h.size;simp;omega,fun k hk h1 h2 h3 h4=>by rw[Below.heap_alloc _ _ _ (by have:=h.size;omega),h.block k hk h1 h2 h3 h4]⟩
theorem TF.drewN {tb rb:Nat}{sb hb:Option Nat}{a b:World}(h:TF tb rb sb hb a b)(n:Nat):TF tb rb sb hb a (b.drewN n):=⟨h.os,h.tape,h.output,h.size,h.block⟩
theorem TF.setCell {tb rb:Nat}{sb hb:Option Nat}{a b:World}(h:TF tb rb sb hb a b)(p:Addr)(u:Value)(hp:p.block=tb∨p.block=rb∨some p.block=sb∨some p.block=hb∨a.heap.size≤p.block):TF tb rb sb hb a (b.setCell p u):=
 ⟨h.os,h.tape,h.output,by have:=h.size;simp[World.setCell];omega,fun k hk h1 h2 h3 h4=>by
  rw[Below.heap_setCell _ _ _ _ (by rcases hp with e | e | e | e | e<;>first | (rintro rfl;exact absurd e (by first | exact h1 | exact h2)) | (rintro rfl;exact h3 e) | (rintro rfl;exact h4 e) | omega),h.block k hk h1 h2 h3 h4]⟩
theorem TF.below {tb rb B:Nat}{sb hb:Option Nat}{a b:World}(h:TF tb rb sb hb a b)(hB:B≤a.heap.size)(h1:B≤tb)(h2:B≤rb)(h3:∀ g,sb=some g→B≤g)(h4:∀ g,hb=some g→B≤g):Below B a b:=
 ⟨h.os,h.tape,h.output,h.size,fun k hk=>h.block k (by omega) (by omega) (by omega) (fun e=>by have:=h3 k e.symm;omega) (fun e=>by have:=h4 k e.symm;omega)⟩
theorem TF.blk {tb rb:Nat}{sb hb:Option Nat}{a b:World}(h:TF tb rb sb hb a b){k:Nat}{cs:Array Value}{t:TypeId}(hk:Blk a k cs t)(h1:k≠tb)(h2:k≠rb)(h3:some k≠sb)(h4:some k≠hb):Blk b k cs t:=by
 have:=hk.lt;unfold Blk at *;rw[h.block k this h1 h2 h3 h4];exact hk
theorem TrAt.svform {gb rb tb:Nat}{bs:ByteArray}{w:World}{s:Ts}(h:TrAt gb rb tb bs w s):∃ p cap,s.sv=.slice p s.spans.length cap:=by
 rcases h.own.2 with ⟨e,h0⟩ | ⟨g,cap,cur,e,_⟩
 · exact ⟨none,0,by rw[e,h0]⟩
 · exact ⟨_,cap,e⟩
theorem TrAt.svlt {gb rb tb:Nat}{bs:ByteArray}{w:World}{s:Ts}(h:TrAt gb rb tb bs w s)(g:Nat)(e:s.sv.ownBlock=some g):tb<g∧g<w.heap.size:=by
 have:=h.own.lt g e;omega
set_option maxHeartbeats 1000000 in
theorem made_some (gb rb tb:Nat)(bs:ByteArray)(w:World)(s:Ts)(h:TrAt gb rb tb bs w s)(k n:Int)(r:ByteArray)(v:Value)(m:Nat)(h0:s.nodes=m+1)(hm:m≤1000000)(_hv:v.oneCell'=true):
 Calls Tryz.prog 186 #[.pointer (some ⟨tb,0,none⟩),.agg #[.int .i64 k,.int .u32 n,.string r,v]] w fun e w'=>e=.returned (.pointer (some ⟨w.heap.size,0,none⟩))∧
  TrAt gb rb tb bs w' { s with nodes:=m }∧TF tb rb none none w w'∧Blk w' w.heap.size #[.int .i64 k,.int .u32 n,.string r,v] 177∧w'.heap.size=w.heap.size+1:=by
 have hlt:=h.blk.lt
 have HT:=h
 have c:∀ o,(w.alloc o).cell? ⟨tb,48,none⟩=some (.int .i64 ((m:Int)+1)):=fun o=>by rw[(h.alloc o).cnodes,h0];rfl
 have f:∀ o,(w.alloc o).frozen? ⟨tb,48,none⟩=false:=fun o=>(h.alloc o).blk.frozen 48
 have hne:¬ ((m:Int)+1==0)=true:=by simp;omega
 have hne2:¬ w.heap.size=tb:=by omega
 have hne3:¬ tb=w.heap.size:=by omega
 clear h
 go_enter Tryz.func186,Tryz.ntmps186
 go_wp2_with fail
 go_ret
 refine ⟨rfl,?_,?_,?_,?_⟩
 · exact (HT.set (s':={ s with nodes:=m }) 48 _ (trCells_nodes gb rb bs s m) rfl rfl rfl).alloc _
 · exact ((TF.refl tb rb none none w).setCell ⟨tb,48,none⟩ _ (Or.inl rfl)).alloc _
 · have:=Blk.new (w.setCell ⟨tb,48,none⟩ (.int .i64 m)) #[.int .i64 k,.int .u32 n,.string r,v] 177
   rwa [show (w.setCell ⟨tb,48,none⟩ (.int .i64 m)).heap.size=w.heap.size by simp[World.setCell]] at this
 · simp[World.setCell]
set_option maxHeartbeats 1000000 in
theorem mark_calls (gb rb tb:Nat)(bs:ByteArray)(w:World)(s:Ts)(h:TrAt gb rb tb bs w s):
 Calls Tryz.prog 187 #[.pointer (some ⟨tb,0,none⟩)] w fun e w'=>e=.returned (.agg #[.int .i64 s.spans.length,.int .i64 s.nodes])∧TrAt gb rb tb bs w' s∧TF tb rb none none w w'∧w'.heap.size=w.heap.size+1:=by
 have hlt:=h.blk.lt
 have HT:=hide' h
 obtain ⟨p,cap,hsv⟩:=h.svform
 have c20:∀ o,(w.alloc o).cell? ⟨tb,50,none⟩=some (.slice p s.spans.length cap):=fun o=>by rw[(h.alloc o).csv,hsv]
 have c18:∀ o,(w.alloc o).cell? ⟨tb,48,none⟩=some (.int .i64 s.nodes):=fun o=>(h.alloc o).cnodes
 clear h hsv
 go_enter Tryz.func187,Tryz.ntmps187
 go_wp2_with fail
 go_region
 go_wp2_with fail
 refine bodyPost_ret (v:=.agg #[.int .i64 s.spans.length,.int .i64 s.nodes]) (by simp[results,Tryz.results187,go_sem]) rfl ?_
 refine ⟨rfl,(HT.out.alloc _).drewN 1,((TF.refl tb rb none none w).alloc _).drewN 1,?_⟩
 simp
theorem setR_none (l:List Bool)(a b:Nat)(v:Bool)(h:b≤a):setR l a b v=l:=by
 apply List.ext_getElem (by rw[setR_len])
 intro i h1 h2
 rw[setR_get _ _ _ _ _ h2,if_neg (by omega)]
theorem setR_step (l:List Bool)(a i:Nat)(v:Bool)(ha:a≤i):(setR l a i v).set i v=setR l a (i+1) v:=by
 apply List.ext_getElem (by simp[setR_len])
 intro j h1 h2
 have hj:j<l.length:=by simpa[setR_len] using h2
 rw[List.getElem_set,setR_get _ _ _ _ _ hj,setR_get _ _ _ _ _ hj]
 by_cases hij:i=j
 · subst hij;rw[if_pos rfl,if_pos (by omega)]
 · rw[if_neg hij]
   by_cases h:a≤j∧j<i
   · rw[if_pos h,if_pos (by omega)]
   · rw[if_neg h,if_neg (by omega)]
theorem rdBools_set (l:List Bool)(i:Nat)(v:Bool):(l.map Value.bool).toArray.setIfInBounds i (.bool v)=((l.set i v).map Value.bool).toArray:=by simp[List.map_set]
theorem TrAt.setRead {gb rb tb:Nat}{bs:ByteArray}{w:World}{s:Ts}(h:TrAt gb rb tb bs w s)(i:Nat)(v:Bool):TrAt gb rb tb bs (w.setCell ⟨rb,i,none⟩ (.bool v)) { s with read:=s.read.set i v }:=by
 have hlt:=h.lt
 refine ⟨Blk.setOther h.blk _ (by simp only;omega) _,?_,by simp[h.len],?_,hlt⟩
 · have:=Blk.set h.rd i (.bool v)
   rwa [rdBools_set] at this
 · exact ownsRow_setCell_below h.own (a:=⟨rb,i,none⟩) (by simp;omega) _
set_option maxRecDepth 100000 in
set_option maxHeartbeats 2000000 in
theorem setRead_calls (gb rb tb:Nat)(bs:ByteArray)(hbs:bs.size≤4000)(w:World)(s:Ts)(h:TrAt gb rb tb bs w s)(a b:Nat)(v:Bool)(hab:a≤b)(hb:b≤bs.size):
 Calls Tryz.prog 205 #[.pointer (some ⟨tb,0,none⟩),.agg #[.int .i64 a,.int .i64 b],.bool v] w fun e w'=>e=.returned (.tuple #[])∧TrAt gb rb tb bs w' { s with read:=setR s.read a b v }∧TF tb rb none none w w'∧w'.heap.size=w.heap.size+1:=by
 have hlt:=h.blk.lt
 have hlt2:=h.lt
 have HT:=hide' (h.alloc (.cells #[.int .i64 a,.int .i64 b] 288))
 have HB:=hide' (Blk.new w #[.int .i64 a,.int .i64 b] 288)
 have HF:=hide' ((TF.refl tb rb none none w).alloc (.cells #[.int .i64 a,.int .i64 b] 288))
 have hsz:(w.alloc (.cells #[.int .i64 a,.int .i64 b] 288)).heap.size=w.heap.size+1:=by simp
 clear h
 go_enter Tryz.func205,Tryz.ntmps205
 go_wp2_with fail
 generalize w.alloc (.cells #[.int .i64 a,.int .i64 b] 288)=W at *
 go_loopw [6] (fun v6 wr=>∃ i:Nat,v6=.int .i64 i∧a≤i∧i≤b∧Hid (TrAt gb rb tb bs wr { s with read:=setR s.read a i v })∧Hid (Blk wr w.heap.size #[.int .i64 a,.int .i64 b] 288)∧Hid (TF tb rb none none w wr)∧wr.heap.size=w.heap.size+1) (fun v6 _=>b-(intOf v6).toNat)
 case atStart=>exact ⟨a,rfl,Nat.le_refl _,hab,by rw[setR_none _ _ _ _ (Nat.le_refl _)];exact HT,HB,HF,hsz⟩
 case round=>
  obtain ⟨i,rfl,h1,h2,ht,hb2,hf,hs⟩:=hrel
  have b1:wr.cell? ⟨w.heap.size,1,none⟩=some (.int .i64 b):=hb2.out.cell 1
  by_cases hlt:i<b
  · have hi':(i:Int)<(b:Int):=by omega
    have hi2:(i:Int)<(bs.size:Int):=by omega
    have cr:=ht.out.cread
    have hi3:i<(setR s.read a i v).length:=by rw[setR_len];have:=ht.out.len;simp only[setR_len] at this;omega
    have ci:wr.cell? ⟨rb,i,none⟩=some (.bool ((setR s.read a i v)[i]'hi3)):=by rw[ht.out.rd.cell i];simp[hi3]
    have fi:wr.frozen? ⟨rb,i,none⟩=false:=ht.out.rd.frozen i
    have HN:=hide' (ht.out.setRead i v)
    have HN2:Hid (TrAt gb rb tb bs (wr.setCell ⟨rb,i,none⟩ (.bool v)) { s with read:=setR s.read a (i+1) v }):=by
     have h:=HN.out
     simp only[setR_step _ _ _ _ h1] at h
     exact h
    have HB2:=hide' (hb2.out.setOther ⟨rb,i,none⟩ (by simp only;omega) (.bool v))
    have HF2:=hide' (hf.out.setCell ⟨rb,i,none⟩ (.bool v) (Or.inr (Or.inl rfl)))
    clear HN ht hb2 hf
    go_wp2_with fail
    go_roundw
    case rel=>exact ⟨i+1,by go_num,by omega,by omega,HN2,HB2,HF2,by simpa[World.setCell] using hs⟩
    case measure=>simp[intOf];omega
  · have hi':¬ (i:Int)<(b:Int):=by omega
    have hib:i=b:=by omega
    subst hib
    go_wp2_with fail
    go_end0
    exact ⟨rfl,ht.out,hf.out,hs⟩
def FirstB (r:Nat→Bool)(b:Bool)(n:Nat)(k:Int):Prop:=(∃ i:Nat,k=i∧i<n∧r i=b∧∀ j,j<i→r j≠b)∨(k = -1∧∀ j,j<n→r j≠b)
set_option maxRecDepth 100000 in
set_option maxHeartbeats 2000000 in
theorem index_calls (w:World)(av:Option Addr)(n cap:Nat)(r:Nat→Bool)(b:Bool)(hn:n≤4000)(hc:∀ j,j<n→∃ g o,av=some ⟨g,o,none⟩∧w.cell? ⟨g,o+j,none⟩=some (.bool (r j))):
 Calls Tryz.prog 63 #[.slice av n cap,.bool b] w fun e w'=>∃ k,e=.returned (.int .i64 k)∧w'=w∧FirstB r b n k:=by
 have HC:=hide' hc
 clear hc
 go_enter Tryz.func63,Tryz.ntmps63
 go_wp2_with fail
 go_loopw [8,5] (fun v8 _ wr=>∃ i:Nat,v8=.int .i64 i∧i≤n∧Hid (∀ j,j<i→r j≠b)∧wr=w) (fun v8 _ _=>n-(intOf v8).toNat)
 case atStart=>exact ⟨0,rfl,by omega,(fun j hj=>by omega),rfl⟩
 case round=>
  obtain ⟨i,rfl,h1,hno,rfl⟩:=hrel
  by_cases hlt:i<n
  · have hi':(i:Int)<(n:Int):=by omega
    obtain ⟨g,o,rfl,hci⟩:=HC.out i hlt
    cases hr:r i<;>cases b<;>rw[hr] at hci
    all_goals
     have HR:=hide' hr
     clear hr
     go_wp2_with fail
    · go_ret
      exact ⟨_,rfl,rfl,Or.inl ⟨i,rfl,hlt,HR.out,hno.out⟩⟩
    · go_roundw
      case rel=>exact ⟨i+1,by go_num,by omega,(fun j hj=>if hji:j=i then by subst hji;rw[HR.out];simp else hno.out j (by omega)),trivial⟩
      case measure=>simp[intOf];omega
    · go_roundw
      case rel=>exact ⟨i+1,by go_num,by omega,(fun j hj=>if hji:j=i then by subst hji;rw[HR.out];simp else hno.out j (by omega)),trivial⟩
      case measure=>simp[intOf];omega
    · go_ret
      exact ⟨_,rfl,rfl,Or.inl ⟨i,rfl,hlt,HR.out,hno.out⟩⟩
  · have hi':¬ (i:Int)<(n:Int):=by omega
    go_wp2_with fail
    go_ret
    exact ⟨_,rfl,rfl,Or.inr ⟨rfl,fun j hj=>hno.out j (by omega)⟩⟩
set_option maxHeartbeats 1000000 in
theorem contains_calls (w:World)(av:Option Addr)(n cap:Nat)(r:Nat→Bool)(hn:n≤4000)(hc:∀ j,j<n→∃ g o,av=some ⟨g,o,none⟩∧w.cell? ⟨g,o+j,none⟩=some (.bool (r j)))(c:Bool)(hcc:c=true↔∃ j,j<n∧r j=true):
 Calls Tryz.prog 204 #[.slice av n cap,.bool true] w fun e w'=>e=.returned (.bool c)∧w'=w:=by
 have HI:=hide' (index_calls w av n cap r true hn hc)
 have HC:=hide' hcc
 clear hc hcc
 go_enter Tryz.func204,Tryz.ntmps204
 go_wp2_with fail
 refine HI.out.mono ?_
 rintro e w1 ⟨k,rfl,rfl,hk⟩
 have hd:c=decide (0≤k):=by
  rcases hk with ⟨i,rfl,h1,h2,h3⟩ | ⟨rfl,h1⟩
  · rw[HC.out.2 ⟨i,h1,h2⟩];simp
  · cases c
    · rfl
    · obtain ⟨j,hj,hr⟩:=HC.out.1 rfl
      exact absurd hr (h1 j hj)
 have HD:=hide' hd
 clear hd hk
 simp only
 go_wp2_with fail
 all_goals
  go_ret
  exact ⟨by rw[HD.out];simp[*],rfl⟩
end Go.Proofs.YtmlkhhhjdpbhfaaGreatDoor

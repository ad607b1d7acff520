import Derived.Test.YtmlkhhhjdpbhfaaGreatDoorFo03
import Derived.Laws.IdiomStrings
import Derived.Test.YtmlkhhhjdpbhfaaGreatDoorFo05
import Derived.Test.YtmlkhhhjdpbhfaaGreatDoorFo11
import Derived.Test.YtmlkhhhjdpbhfaaGreatDoorFo12
namespace Go.Proofs.YtmlkhhhjdpbhfaaGreatDoor
open Go.RowKit
theorem conv_bytes (b:ByteArray)(w:World):∃ cap W,(convert 9 40 (.string b)).run Tryz.prog w=.ok (.slice (some ⟨w.heap.size,0,none⟩) b.size cap) W∧Below w.heap.size w W∧W.heap.size=w.heap.size+1∧∀ j,j<b.size→W.cell? ⟨w.heap.size,j,none⟩=some (.int .u8 (bt b j)):=by
 refine ⟨_,_,run_bytes_of_string (P:=Tryz.prog) w 9 40 5 b Tryz.underlying9 Tryz.underlying40 Tryz.underlying5,?_,?_,fun j hj=>?_⟩
 · exact ⟨rfl,rfl,rfl,by simp,fun k hk=>Below.heap_alloc _ _ _ hk⟩
 · simp
 · rw[bt_in b j hj]
   have:(w.drew.alloc (.cells (bytesRow b (grownCap w b.size 0 5)) 5 ((bytesRow b (grownCap w b.size 0 5)).size,(bytesRow b (grownCap w b.size 0 5)).size+1))).heap[w.heap.size]? = some (.cells (bytesRow b (grownCap w b.size 0 5)) 5 ((bytesRow b (grownCap w b.size 0 5)).size,(bytesRow b (grownCap w b.size 0 5)).size+1)):=by
    show (w.heap.push _)[w.heap.size]? = _
    simp
   simp only[World.cell?,this]
   have hj2:j<b.data.size:=hj
   simp[bytesRow,Array.getElem?_append,hj]
   try rfl
theorem or_hi (x:Nat)(c:Int)(hc0:0≤c)(hc1:c≤255)(hx:x<16777216):bits .or .u32 ((x:Int)*256) c=(x:Int)*256+c:=by
 have h:=(bits_nat (x*2 ^ 8) c.toNat (by omega) (by omega)).1
 rw[or_add x c.toNat 8 (by omega)] at h
 have e1:((x*2 ^ 8:Nat):Int)=(x:Int)*256:=by omega
 have e2:((c.toNat:Nat):Int)=c:=by omega
 rw[e1,e2] at h
 exact h.trans (by rw[Int.natCast_add,e1,e2])
set_option maxRecDepth 100000 in
set_option maxHeartbeats 2000000 in
theorem highest_calls (b:ByteArray)(hb:b.size≤4)(w:World):
 Calls Tryz.prog 179 #[.string b] w fun e w'=>e=.returned (.int .u32 (hiV b b.size:Nat))∧Below w.heap.size w w':=by
 obtain ⟨cap,W,hcv,hbel,hsz,hcells⟩:=conv_bytes b w
 have HC:=hide' hcells
 have HB:=hide' hbel
 clear hcells hbel
 go_enter Tryz.func179,Tryz.ntmps179
 go_wp2_with fail
 go_loopw [9,3,5] (fun v9 v3 _ wr=>∃ (i x:Nat),v9=.int .i64 i∧v3=.int .u32 x∧i≤b.size∧Hid (x=hiV b i)∧wr=W) (fun v9 _ _ _=>b.size-(intOf v9).toNat)
 case atStart=>exact ⟨0,0,rfl,rfl,by omega,(rfl:(0:Nat)=hiV b 0),rfl⟩
 case round=>
  obtain ⟨i,x,rfl,rfl,h1,h2,rfl⟩:=hrel
  by_cases hi:i<b.size
  · have hi':(i:Int)<(b.size:Int):=by omega
    have ci:=HC.out i hi
    have lo:=bt_lo b i
    have hi2:=bt_hi b i
    have hx:x<16777216:=by
     have h3:=hiV_lt b i
     rw[← h2.out] at h3
     have:=pow_le3 i (by omega)
     omega
    have hor:=or_hi x (bt b i) lo hi2 hx
    have HX:Hid (((hiV b (i+1):Nat):Int)=(x:Int)*256+bt b i):=by
     have:((hiV b (i+1):Nat):Int)=(x:Int)*256+bt b i:=by rw[hiV,← h2.out,← bn_cast];omega
     exact this
    go_wp2_with fail
    go_roundw
    case rel=>exact ⟨i+1,hiV b (i+1),by go_num,by rw[HX.out],by omega,rfl,trivial⟩
    case measure=>simp[intOf];omega
  · have hi':¬ (i:Int)<(b.size:Int):=by omega
    have hib:i=b.size:=by omega
    subst hib
    go_wp2_with fail
    go_ret
    refine ⟨?_,HB.out⟩
    rw[← h2.out]
    rfl
theorem or_lo (x:Nat)(c:Int)(i:Nat)(hc0:0≤c)(hc1:c≤255)(hx:x<256 ^ i)(hi:i≤3):bits .or .u32 (x:Int) (c*2 ^ (8*i))=(x:Int)+c*2 ^ (8*i):=by
 have hp:=pow_le3 i hi
 have h2:c.toNat*2 ^ (8*i)≤255*2 ^ (8*i):=Nat.mul_le_mul_right _ (by omega)
 rw[pow256] at hx hp
 have h:=(bits_nat x (c.toNat*2 ^ (8*i)) (by omega) (by omega)).1
 rw[Nat.or_comm,or_add c.toNat x (8*i) hx] at h
 have e1:((c.toNat*2 ^ (8*i):Nat):Int)=c*2 ^ (8*i):=by rw[Int.natCast_mul,Int.natCast_pow];congr;omega
 rw[e1] at h
 rw[h,← e1];omega
set_option maxRecDepth 100000 in
set_option maxHeartbeats 2000000 in
theorem lowest_calls (b:ByteArray)(hb:b.size≤4)(w:World):
 Calls Tryz.prog 182 #[.string b] w fun e w'=>e=.returned (.int .u32 (loV b b.size:Nat))∧Below w.heap.size w w':=by
 obtain ⟨cap,W,hcv,hbel,hsz,hcells⟩:=conv_bytes b w
 have HC:=hide' hcells
 have HB:=hide' hbel
 clear hcells hbel
 go_enter Tryz.func182,Tryz.ntmps182
 go_wp2_with fail
 go_loopw [9,3,4,5] (fun v9 v3 _ _ wr=>∃ (i x:Nat),v9=.int .i64 i∧v3=.int .u32 x∧i≤b.size∧Hid (x=loV b i)∧wr=W) (fun v9 _ _ _ _=>b.size-(intOf v9).toNat)
 case atStart=>exact ⟨0,0,rfl,rfl,by omega,(rfl:(0:Nat)=loV b 0),rfl⟩
 case round=>
  obtain ⟨i,x,rfl,rfl,h1,h2,rfl⟩:=hrel
  by_cases hi:i<b.size
  · have hi':(i:Int)<(b.size:Int):=by omega
    have ci:=HC.out i hi
    have lo:=bt_lo b i
    have hi2:=bt_hi b i
    have hx:x<256 ^ i:=by rw[h2.out];exact loV_lt b i
    have HX:Hid (((loV b (i+1):Nat):Int)=(x:Int)+bt b i*2 ^ (8*i)):=by
     have:((loV b (i+1):Nat):Int)=(x:Int)+bt b i*2 ^ (8*i):=by rw[loV,← h2.out,← bn_cast,pow256];simp
     exact this
    have hi3:i≤3:=by omega
    have h4:i=0∨i=1∨i=2∨i=3:=by omega
    have hor:=or_lo x (bt b i) i lo hi2 hx hi3
    rcases h4 with rfl | rfl | rfl | rfl<;>simp at hor HX
    all_goals
     go_wp2_with fail
     go_roundw
     case rel=>exact ⟨_,loV b (_+1),by go_num,by rw[HX.out],by omega,rfl,trivial⟩
     case measure=>simp[intOf];omega
  · have hi':¬ (i:Int)<(b.size:Int):=by omega
    have hib:i=b.size:=by omega
    subst hib
    go_wp2_with fail
    go_ret
    refine ⟨?_,HB.out⟩
    rw[← h2.out]
    rfl
def OrdC (fn:Nat)(V:ByteArray→Nat→Nat):Prop:=
 (∀ (b:ByteArray) (_:b.size≤4) (w:World),Calls Tryz.prog fn #[.string b] w fun e w'=>e=.returned (.int .u32 (V b b.size:Nat))∧Below w.heap.size w w')∧∀ b i,V b i<256 ^ i
theorem ord_hi:OrdC 179 hiV:=⟨highest_calls,hiV_lt⟩
theorem ord_lo:OrdC 182 loV:=⟨lowest_calls,loV_lt⟩
theorem and_mask (x:Nat)(k:Nat)(hk:k≤4)(hx:x<4294967296):bits .and .u32 (x:Int) ((256 ^ k-1:Nat):Int)=((x % 256 ^ k:Nat):Int):=by
 have hp:=pow_le4 k hk
 have h:=(bits_nat x (256 ^ k-1) hx (by have:0<256 ^ k:=Nat.pow_pos (by omega);omega)).2
 rw[h,pow256,Nat.and_two_pow_sub_one_eq_mod]
theorem sum_step (y k:Nat)(hk:k≤4):(y % 4294967296) % 256 ^ k=y % 256 ^ k:=by
 have hd:256 ^ k ∣ 4294967296:=by
  have:(4294967296:Nat)=256 ^ k*256 ^ (4-k):=by rw[← Nat.pow_add,show k+(4-k)=4 by omega]
  exact ⟨_,this⟩
 exact Nat.mod_mod_of_dvd _ hd
theorem sum_at (x:Nat)(c:Int)(k:Nat)(hk:k≤4)(hc0:0≤c)(_hc1:c≤255)(r:Nat)(hr:r=(x*31+c.toNat) % 256 ^ k)(M:Int)(hM:M=((256 ^ k-1:Nat):Int)):
 bits .and .u32 (((x:Int)*31+c) % 4294967296) M=(r:Int):=by
 have h:=and_mask ((x*31+c.toNat) % 4294967296) k hk (Nat.mod_lt _ (by omega))
 rw[sum_step _ k hk,← hr] at h
 rw[← h,hM]
 congr 1
 omega
set_option maxRecDepth 100000 in
set_option maxHeartbeats 4000000 in
theorem sum_calls (b:ByteArray)(hb:b.size≤4000)(k:Nat)(hk:k≤4)(w:World):
 Calls Tryz.prog 81 #[.string b,.int .i64 k] w fun e w'=>e=.returned (.int .u32 (sumV b k b.size:Nat))∧Below w.heap.size w w':=by
 obtain ⟨cap,W,hcv,hbel,hsz,hcells⟩:=conv_bytes b w
 have HC:=hide' hcells
 have HB:=hide' hbel
 clear hcells hbel
 go_enter Tryz.func81,Tryz.ntmps81
 have h5:k=0∨k=1∨k=2∨k=3∨k=4:=by omega
 rcases h5 with rfl | rfl | rfl | rfl | rfl
 · go_wp2_with fail
   go_loopw [16,6,8] (fun v16 v6 _ wr=>∃ (i x:Nat),v16=.int .i64 i∧v6=.int .u32 x∧i≤b.size∧Hid (x=sumV b 0 i)∧wr=W) (fun v16 _ _ _=>b.size-(intOf v16).toNat)
   case atStart=>exact ⟨0,0,rfl,rfl,by omega,(rfl:(0:Nat)=sumV b 0 0),rfl⟩
   case round=>
    obtain ⟨i,x,rfl,rfl,h1,h2,rfl⟩:=hrel
    by_cases hi:i<b.size
    · have hi':(i:Int)<(b.size:Int):=by omega
      have ci:=HC.out i hi
      have lo:=bt_lo b i
      have hi2:=bt_hi b i
      have hx:x<4294967296:=by
       have h3:=sumV_lt b 0 i
       rw[← h2.out] at h3
       have:=pow_le4 0 (by omega)
       omega
      have HX:=hide' (sum_at x (bt b i) 0 (by omega) lo hi2 (sumV b 0 (i+1)) (by rw[sumV,← h2.out];rfl) 0 (by decide))
      go_wp2_with fail
      go_roundw
      case rel=>exact ⟨i+1,sumV b 0 (i+1),by go_num,by rw[HX.out],by omega,rfl,trivial⟩
      case measure=>simp[intOf];omega
    · have hi':¬ (i:Int)<(b.size:Int):=by omega
      have hib:i=b.size:=by omega
      subst hib
      go_wp2_with fail
      go_ret
      refine ⟨?_,HB.out⟩
      rw[← h2.out]
      rfl
 · go_wp2_with fail
   go_loopw [16,6,8] (fun v16 v6 _ wr=>∃ (i x:Nat),v16=.int .i64 i∧v6=.int .u32 x∧i≤b.size∧Hid (x=sumV b 1 i)∧wr=W) (fun v16 _ _ _=>b.size-(intOf v16).toNat)
   case atStart=>exact ⟨0,0,rfl,rfl,by omega,(rfl:(0:Nat)=sumV b 1 0),rfl⟩
   case round=>
    obtain ⟨i,x,rfl,rfl,h1,h2,rfl⟩:=hrel
    by_cases hi:i<b.size
    · have hi':(i:Int)<(b.size:Int):=by omega
      have ci:=HC.out i hi
      have lo:=bt_lo b i
      have hi2:=bt_hi b i
      have hx:x<4294967296:=by
       have h3:=sumV_lt b 1 i
       rw[← h2.out] at h3
       have:=pow_le4 1 (by omega)
       omega
      have HX:=hide' (sum_at x (bt b i) 1 (by omega) lo hi2 (sumV b 1 (i+1)) (by rw[sumV,← h2.out];rfl) 255 (by decide))
      go_wp2_with fail
      go_roundw
      case rel=>exact ⟨i+1,sumV b 1 (i+1),by go_num,by rw[HX.out],by omega,rfl,trivial⟩
      case measure=>simp[intOf];omega
    · have hi':¬ (i:Int)<(b.size:Int):=by omega
      have hib:i=b.size:=by omega
      subst hib
      go_wp2_with fail
      go_ret
      refine ⟨?_,HB.out⟩
      rw[← h2.out]
      rfl
 · go_wp2_with fail
   go_loopw [16,6,8] (fun v16 v6 _ wr=>∃ (i x:Nat),v16=.int .i64 i∧v6=.int .u32 x∧i≤b.size∧Hid (x=sumV b 2 i)∧wr=W) (fun v16 _ _ _=>b.size-(intOf v16).toNat)
   case atStart=>exact ⟨0,0,rfl,rfl,by omega,(rfl:(0:Nat)=sumV b 2 0),rfl⟩
   case round=>
    obtain ⟨i,x,rfl,rfl,h1,h2,rfl⟩:=hrel
    by_cases hi:i<b.size
    · have hi':(i:Int)<(b.size:Int):=by omega
      have ci:=HC.out i hi
      have lo:=bt_lo b i
      have hi2:=bt_hi b i
      have hx:x<4294967296:=by
       have h3:=sumV_lt b 2 i
       rw[← h2.out] at h3
       have:=pow_le4 2 (by omega)
       omega
      have HX:=hide' (sum_at x (bt b i) 2 (by omega) lo hi2 (sumV b 2 (i+1)) (by rw[sumV,← h2.out];rfl) 65535 (by decide))
      go_wp2_with fail
      go_roundw
      case rel=>exact ⟨i+1,sumV b 2 (i+1),by go_num,by rw[HX.out],by omega,rfl,trivial⟩
      case measure=>simp[intOf];omega
    · have hi':¬ (i:Int)<(b.size:Int):=by omega
      have hib:i=b.size:=by omega
      subst hib
      go_wp2_with fail
      go_ret
      refine ⟨?_,HB.out⟩
      rw[← h2.out]
      rfl
 · go_wp2_with fail
   go_loopw [16,6,8] (fun v16 v6 _ wr=>∃ (i x:Nat),v16=.int .i64 i∧v6=.int .u32 x∧i≤b.size∧Hid (x=sumV b 3 i)∧wr=W) (fun v16 _ _ _=>b.size-(intOf v16).toNat)
   case atStart=>exact ⟨0,0,rfl,rfl,by omega,(rfl:(0:Nat)=sumV b 3 0),rfl⟩
   case round=>
    obtain ⟨i,x,rfl,rfl,h1,h2,rfl⟩:=hrel
    by_cases hi:i<b.size
    · have hi':(i:Int)<(b.size:Int):=by omega
      have ci:=HC.out i hi
      have lo:=bt_lo b i
      have hi2:=bt_hi b i
      have hx:x<4294967296:=by
       have h3:=sumV_lt b 3 i
       rw[← h2.out] at h3
       have:=pow_le4 3 (by omega)
       omega
      have HX:=hide' (sum_at x (bt b i) 3 (by omega) lo hi2 (sumV b 3 (i+1)) (by rw[sumV,← h2.out];rfl) 16777215 (by decide))
      go_wp2_with fail
      go_roundw
      case rel=>exact ⟨i+1,sumV b 3 (i+1),by go_num,by rw[HX.out],by omega,rfl,trivial⟩
      case measure=>simp[intOf];omega
    · have hi':¬ (i:Int)<(b.size:Int):=by omega
      have hib:i=b.size:=by omega
      subst hib
      go_wp2_with fail
      go_ret
      refine ⟨?_,HB.out⟩
      rw[← h2.out]
      rfl
 · go_wp2_with fail
   go_loopw [16,6,8] (fun v16 v6 _ wr=>∃ (i x:Nat),v16=.int .i64 i∧v6=.int .u32 x∧i≤b.size∧Hid (x=sumV b 4 i)∧wr=W) (fun v16 _ _ _=>b.size-(intOf v16).toNat)
   case atStart=>exact ⟨0,0,rfl,rfl,by omega,(rfl:(0:Nat)=sumV b 4 0),rfl⟩
   case round=>
    obtain ⟨i,x,rfl,rfl,h1,h2,rfl⟩:=hrel
    by_cases hi:i<b.size
    · have hi':(i:Int)<(b.size:Int):=by omega
      have ci:=HC.out i hi
      have lo:=bt_lo b i
      have hi2:=bt_hi b i
      have hx:x<4294967296:=by
       have h3:=sumV_lt b 4 i
       rw[← h2.out] at h3
       have:=pow_le4 4 (by omega)
       omega
      have HX:=hide' (sum_at x (bt b i) 4 (by omega) lo hi2 (sumV b 4 (i+1)) (by rw[sumV,← h2.out];rfl) 4294967295 (by decide))
      go_wp2_with fail
      go_roundw
      case rel=>exact ⟨i+1,sumV b 4 (i+1),by go_num,by rw[HX.out],by omega,rfl,trivial⟩
      case measure=>simp[intOf];omega
    · have hi':¬ (i:Int)<(b.size:Int):=by omega
      have hib:i=b.size:=by omega
      subst hib
      go_wp2_with fail
      go_ret
      refine ⟨?_,HB.out⟩
      rw[← h2.out]
      rfl
def joinL (l:List (List UInt8)):List UInt8:=l.foldl joinT []
def textV (k n:Int)(run:ByteArray)(kids:List (List UInt8)):List UInt8:=
 if k=0 then decT n.toNat else if k=1 then [45] else if k=2 then quoteT run else if k=3 then 40::joinL kids++[41] else if k=4 then 91::joinL kids++[93]
 else 47::hexT n.toNat::32::kids.getD 0 []
def PtrsV (w:World)(lo hi:Nat)(sb:Option Nat)(v:Value)(l:List Nat):Prop:=
 (v=.slice none 0 0∧l=[])∨∃ g cap,v=.slice (some ⟨g,0,none⟩) l.length cap∧lo≤g∧g<hi∧some g≠sb∧∀ j,j<l.length→w.cell? ⟨g,j,none⟩=some (.pointer (some ⟨l.getD j 0,0,none⟩))
def RepV:Nat→World→Nat→Nat→Option Nat→Nat→List UInt8→Prop
 | 0,_,_,_,_,_,_=>False
 | f+1,w,lo,hi,sb,vb,t=>∃ (k n:Int) (run:ByteArray) (v:Value) (kids:List (Nat × List UInt8)),Blk w vb #[.int .i64 k,.int .u32 n,.string run,v] 177∧lo≤vb∧vb<hi∧some vb≠sb∧
  PtrsV w lo hi sb v (kids.map Prod.fst)∧(∀ q,q∈kids→RepV f w lo hi sb q.1 q.2)∧t=textV k n run (kids.map Prod.snd)∧(0≤k∧k≤5)∧(0≤n∧n<4294967296)∧(k=5→n<2∧kids.length=1)∧run.size≤4000
theorem PtrsV.mono {w w':World}{lo hi lo' hi':Nat}{sb sb':Option Nat}{v:Value}{l:List Nat}(h:PtrsV w lo hi sb v l)(hw:∀ k,lo≤k→k<hi→some k≠sb→w'.heap[k]? = w.heap[k]? ∧ some k≠sb')(h1:lo'≤lo)(h2:hi≤hi'):PtrsV w' lo' hi' sb' v l:=by
 rcases h with h | ⟨g,cap,hv,a,b,c,d⟩
 · exact Or.inl h
 · exact Or.inr ⟨g,cap,hv,by omega,by omega,(hw g a b c).2,fun j hj=>by rw[World.cell?_of_block (w:=w) (hw g a b c).1];exact d j hj⟩
theorem RepV.mono {f:Nat}:∀ {w w':World} {lo hi lo' hi' vb:Nat} {sb sb':Option Nat} {t:List UInt8},RepV f w lo hi sb vb t→(∀ k,lo≤k→k<hi→some k≠sb→w'.heap[k]? = w.heap[k]? ∧ some k≠sb')→lo'≤lo→hi≤hi'→RepV f w' lo' hi' sb' vb t:=by
 induction f with
 | zero=>intro w w' lo hi lo' hi' vb sb sb' t h;exact h.elim
 | succ f ih=>
  intro w w' lo hi lo' hi' vb sb sb' t h hw h1 h2
  obtain ⟨k,n,run,v,kids,a,b,c,d,e,g,i⟩:=h
  refine ⟨k,n,run,v,kids,?_,by omega,by omega,(hw vb b c d).2,e.mono hw h1 h2,fun q hq=>ih (g q hq) hw h1 h2,i⟩
  unfold Blk at *
  rw[(hw vb b c d).1];exact a
theorem RepV.fuel {f:Nat}:∀ {w:World} {lo hi vb:Nat} {sb:Option Nat} {t:List UInt8},RepV f w lo hi sb vb t→∀ {f':Nat},f≤f'→RepV f' w lo hi sb vb t:=by
 induction f with
 | zero=>intro w lo hi vb sb t h;exact h.elim
 | succ f ih=>
  intro w lo hi vb sb t h f' hf
  obtain ⟨k,n,run,v,kids,a,b,c,d,e,g,i⟩:=h
  cases f' with
  | zero=>omega
  | succ f'=>exact ⟨k,n,run,v,kids,a,b,c,d,e,fun q hq=>ih (g q hq) (by omega),i⟩
def hdCells (deps:Nat→Nat × Nat):Array Value:=((List.range 8).flatMap fun d=>[Value.int .u32 (deps d).1,.int .i64 (deps d).2]).toArray
def HdAt (w:World)(hb:Nat)(deps:Nat→Nat × Nat):Prop:=Blk w hb (hdCells deps) 268
structure Cx where
 w0:World
 gb:Nat
 rb:Nat
 tb:Nat
 bs:ByteArray
 N:Nat
 G:Nat→List It
 R:Nat→Bool
 sg:ByteArray
structure CxOk (c:Cx):Prop where
 le:c.w0.heap.size≤c.rb
 lt:c.rb<c.tb
 bs:c.bs.size≤4000
 N:c.N≤10000
 gr:∃ v l,Blk c.w0 c.gb #[v] 77∧RAt c.sg c.w0 v l∧∀ r,c.R r=true→∃ i,∃ (h:i<l.length),l[i].1.r=(r:Int)∧(∀ j,j<i→∀ (h:j<l.length),l[j].1.r≠(r:Int))∧c.G r=l[i].1.its
 wf:∀ r,c.R r=true→TrW c.R false false (c.G r)
def adr (h:Option Nat):Option Addr:=h.map fun b=>⟨b,0,none⟩
structure TPre (c:Cx) (w:World) (s:Ts) (st:PS) (ho:Option Nat):Prop where
 tr:TrAt c.gb c.rb c.tb c.bs w s
 bel:Below c.w0.heap.size c.w0 w
 nd:s.nodes+st.vals=c.N
 rd:s.read=st.rd
 inv:PInv c.bs c.N st
 sp:∀ p,p∈s.spans→p.1≤p.2∧p.2≤c.bs.size
 bud:s.spans.length+s.fuel≤100000
 hid:∀ h,ho=some h→HdAt w h st.deps∧c.tb<h∧some h≠s.sv.ownBlock
structure Core (c:Cx) (w:World) (s:Ts) (hb:Option Nat) (fuel far:Nat) (w':World) (s':Ts):Prop where
 tr:TrAt c.gb c.rb c.tb c.bs w' s'
 fuel:s'.fuel=fuel
 far:s'.far=far
 sp:∃ new,s'.spans=s.spans++new∧SpOk s.read new s'.read
 bud:s'.spans.length+s'.fuel≤100000
 fr:TF c.tb c.rb s.sv.ownBlock hb w w'
 sv:s'.sv.ownBlock=s.sv.ownBlock∨∃ g,s'.sv.ownBlock=some g∧w.heap.size≤g
def VOk (w:World)(lo:Nat)(sb:Option Nat)(sil:Bool)(v:Value)(t:List UInt8):Prop:=
 (sil=true∧v=.pointer none)∨(sil=false∧∃ f vb,v=.pointer (some ⟨vb,0,none⟩)∧RepV f w lo w.heap.size sb vb t)
def TPost (c:Cx)(w:World)(s:Ts)(hb:Option Nat)(sil:Bool)(o:PO)(e:Ending)(w':World):Prop:=
 (o.e≠0∧e=.panicked (outV o.e)∧TF c.tb c.rb s.sv.ownBlock hb w w')∨
 (o.e=0∧o.ok=true∧∃ s' v,e=.returned (.tuple #[v,.int .i64 o.st.pl,.bool true])∧Core c w s hb o.fuel o.far w' s'∧s'.read=o.st.rd∧s'.nodes+o.st.vals=c.N∧VOk w' w.heap.size s'.sv.ownBlock sil v o.t∧∀ h,hb=some h→HdAt w' h o.st.deps)∨
 (o.e=0∧o.ok=false∧∃ s' v k,e=.returned (.tuple #[v,.int .i64 k,.bool false])∧Core c w s hb o.fuel o.far w' s')
def hidK (k:List It)(ho:Option Nat):Option Nat:=if hidV k then ho else none
def silK (q:Bool)(k:List It):Bool:=match k with | x::_=>hidesB x.c||(q&&decide (x.c=39)) | []=>false
def TryC (c:Cx)(g:Nat):Prop:=
 ∀ (w:World) (s:Ts) (st:PS) (ho:Option Nat) (k:List It) (own ctx sl q:Bool) (f lo hi pb:Nat),TPre c w s st ho→RepS f c.w0 lo hi pb sl k→hi≤c.w0.heap.size→TrW c.R own ctx k→(own=true∨ctx=true→ho.isSome=true)→(q=(sl&&silV k))→s.fuel≤g→
  Calls Tryz.prog 62 #[.pointer (some ⟨c.tb,0,none⟩),.pointer (some ⟨pb,0,none⟩),spotV st.pl st.en (adr ho)] w fun e w'=>TPost c w s (hidK k ho) (silK q k) (tryT c.G c.bs c.N g s.fuel s.far q k st) e w'
theorem TF.less {tb rb:Nat}{sb hb:Option Nat}{a b:World}(h:TF tb rb sb none a b):TF tb rb sb hb a b:=⟨h.os,h.tape,h.output,h.size,fun k hk h1 h2 h3 _=>h.block k hk h1 h2 h3 (by simp)⟩
theorem Core.trans {c:Cx}{w w1 w2:World}{s s1 s2:Ts}{hb hb':Option Nat}{f1 r1 f2 r2:Nat}(h:Core c w s hb f1 r1 w1 s1)(k:Core c w1 s1 hb' f2 r2 w2 s2)(hh:hb'=hb∨hb'=none∨∀ g,hb'=some g→w.heap.size≤g):Core c w s hb f2 r2 w2 s2:=by
 obtain ⟨n1,a1,b1⟩:=h.sp
 obtain ⟨n2,a2,b2⟩:=k.sp
 have hsz:=h.fr.size
 have hsv:s1.sv.ownBlock=s.sv.ownBlock∨∀ g,s1.sv.ownBlock=some g→w.heap.size≤g:=by
  rcases h.sv with e | ⟨g,e,l⟩
  · exact Or.inl e
  · exact Or.inr fun g' e'=>by rw[e] at e';cases e';exact l
 refine ⟨k.tr,k.fuel,k.far,⟨n1++n2,by rw[a2,a1,List.append_assoc],b1.app b2⟩,k.bud,?_,?_⟩
 · rcases hh with e | e | e
   · subst e;exact h.fr.trans k.fr hsv (Or.inl rfl)
   · subst e;exact h.fr.trans (k.fr.less (hb:=hb)) hsv (Or.inl rfl)
   · exact h.fr.trans k.fr hsv (Or.inr e)
 · rcases k.sv with e | ⟨g,e,l⟩
   · rcases h.sv with e' | ⟨g,e',l⟩
     · exact Or.inl (e.trans e')
     · exact Or.inr ⟨g,e.trans e',l⟩
   · exact Or.inr ⟨g,e,by omega⟩
theorem Core.refl {c:Cx}{w w':World}{s:Ts}(h:TrAt c.gb c.rb c.tb c.bs w' s)(hf:TF c.tb c.rb none none w w')(hbu:s.spans.length+s.fuel≤100000)(hb:Option Nat):Core c w s hb s.fuel s.far w' s:=
 ⟨h,rfl,rfl,⟨[],by simp,rfl⟩,hbu,hf.any _ _,Or.inl rfl⟩
theorem Core.bel {c:Cx}(hc:CxOk c){w w':World}{s s':Ts}{st:PS}{ho hb:Option Nat}{f r:Nat}(hp:TPre c w s st ho)(h:Core c w s hb f r w' s')(hh:∀ g,hb=some g→c.tb<g):Below c.w0.heap.size c.w0 w':=by
 have h1:=hc.le
 have h2:=hc.lt
 have h3:=hp.tr.blk.lt
 exact hp.bel.trans (h.fr.below (by omega) (by omega) (by omega) (fun g e=>by have:=hp.tr.svlt g e;omega) (fun g e=>by have:=hh g e;omega))
theorem TPre.next {c:Cx}(hc:CxOk c){w w':World}{s s':Ts}{st st':PS}{ho hb:Option Nat}{f r:Nat}(hp:TPre c w s st ho)(h:Core c w s hb f r w' s')(hh:hb=none∨hb=ho)(hrd:s'.read=st'.rd)(hnd:s'.nodes+st'.vals=c.N)(hi:PInv c.bs c.N st')(hd:∀ h,ho=some h→hb=none→st'.deps=st.deps)(hd2:∀ h,hb=some h→HdAt w' h st'.deps):TPre c w' s' st' ho:=by
 have hhb:∀ g,hb=some g→c.tb<g:=fun g e=>by
  rcases hh with h1 | h1
  · rw[h1] at e;cases e
  · rw[h1] at e;exact (hp.hid g e).2.1
 obtain ⟨new,a1,b1⟩:=h.sp
 refine ⟨h.tr,h.bel hc hp hhb,hnd,hrd,hi,fun p hpp=>?_,h.bud,fun g e=>?_⟩
 · rw[a1] at hpp
   rcases List.mem_append.1 hpp with h1 | h1
   · exact hp.sp p h1
   · have:=b1.in p h1
     rw[hp.rd,hp.inv.rd] at this
     exact this
 · obtain ⟨x1,x2,x3⟩:=hp.hid g e
   have hlt:=Blk.lt x1
   refine ⟨?_,x2,?_⟩
   · rcases hh with h1 | h1
     · rw[hd g e h1]
       have h2:=hc.lt
       exact h.fr.blk x1 (by omega) (by omega) x3 (by rw[h1];simp)
     · exact hd2 g (by rw[h1];exact e)
   · rcases h.sv with e' | ⟨g',e',l⟩
     · rw[e'];exact x3
     · rw[e'];intro e2;cases e2;omega
theorem TPost.ahead {c:Cx}{w w1 w':World}{s s1:Ts}{hb:Option Nat}{sil:Bool}{o:PO}{e:Ending}{f r:Nat}(h:Core c w s none f r w1 s1)(k:TPost c w1 s1 hb sil o e w'):TPost c w s hb sil o e w':=by
 have hsz:=h.fr.size
 have hc:Core c w s hb f r w1 s1:=⟨h.tr,h.fuel,h.far,h.sp,h.bud,h.fr.less,h.sv⟩
 have hsv:s1.sv.ownBlock=s.sv.ownBlock∨∀ g,s1.sv.ownBlock=some g→w.heap.size≤g:=by
  rcases h.sv with e | ⟨g,e,l⟩
  · exact Or.inl e
  · exact Or.inr fun g' e'=>by rw[e] at e';cases e';exact l
 rcases k with ⟨a,b,d⟩ | ⟨a,b,s',v,d,e,f,g,i,j⟩ | ⟨a,b,s',v,k,d,e⟩
 · exact Or.inl ⟨a,b,hc.fr.trans d hsv (Or.inl rfl)⟩
 · refine Or.inr (Or.inl ⟨a,b,s',v,d,hc.trans e (Or.inl rfl),f,g,?_,j⟩)
   rcases i with ⟨i1,i2⟩ | ⟨i1,fu,vb,i2,i3⟩
   · exact Or.inl ⟨i1,i2⟩
   · exact Or.inr ⟨i1,fu,vb,i2,i3.mono (fun _ _ _ h=>⟨rfl,h⟩) hsz (Nat.le_refl _)⟩
 · exact Or.inr (Or.inr ⟨a,b,s',v,k,d,hc.trans e (Or.inl rfl)⟩)
theorem TPost.fail {c:Cx}{w w1 w2:World}{s s1:Ts}{hb:Option Nat}{sil:Bool}{fuel far:Nat}(a:Nat)(st:PS)(h:Core c w s hb fuel far w1 s1)(hw:w2=w1.setCell ⟨c.tb,51,none⟩ (.int .i64 (max s1.far a:Nat)))(v:Value)(k:Int):
 TPost c w s hb sil (failO fuel far a st) (.returned (.tuple #[v,.int .i64 k,.bool false])) w2:=by
 refine Or.inr (Or.inr ⟨rfl,rfl,{ s1 with far:=max s1.far a },v,k,rfl,?_⟩)
 subst hw
 exact ⟨h.tr.set 51 _ (trCells_far c.gb c.rb c.bs s1 (max s1.far a)) rfl rfl rfl,h.fuel,by simp only[failO];rw[h.far],h.sp,h.bud,h.fr.setCell _ _ (Or.inl rfl),h.sv⟩
theorem canRead_sp {rd:List Bool}{a e n:Nat}(h:canRead rd a e n=true)(he:e≤rd.length)(hae:a≤e):SpOk rd [(a,a+n)] (setR rd a (a+n) true):=by
 unfold canRead at h
 simp only[Bool.and_eq_true,decide_eq_true_eq,Bool.not_eq_true'] at h
 refine ⟨by simp,by simp only;omega,fun i h1 h2=>?_,rfl⟩
 simp only at h1 h2
 cases hh:rd.getD i false with
 | false=>rfl
 | true=>
  have:((List.range n).any fun j=>rd.getD (a+j) false)=true:=(any_iff rd a n).2 ⟨i-a,by omega,by rw[show a+(i-a)=i by omega];exact hh⟩
  rw[this] at h;cases h.2
theorem Core.read {c:Cx}{w w':World}{s:Ts}{a e n:Nat}{sv:Value}(hc:canRead s.read a e n=true)(he:e≤s.read.length)(hae:a≤e)(hbu:s.spans.length+s.fuel+1≤100000)(ht:TrAt c.gb c.rb c.tb c.bs w' (tsRead s a n sv))(hf:TF c.tb c.rb s.sv.ownBlock none w w')(hs:sv.ownBlock=s.sv.ownBlock∨∃ g,sv.ownBlock=some g∧w.heap.size≤g):
 Core c w s none s.fuel s.far w' (tsRead s a n sv):=
 ⟨ht,rfl,rfl,⟨[(a,a+n)],rfl,canRead_sp hc he hae⟩,by simp only[tsRead,List.length_append,List.length_cons,List.length_nil];omega,hf,hs⟩
theorem TrAt.belowAll {gb rb tb:Nat}{bs:ByteArray}{w w':World}{s:Ts}(h:TrAt gb rb tb bs w s)(hb:Below w.heap.size w w'):TrAt gb rb tb bs w' s:=by
 refine ⟨h.blk.below hb h.blk.lt,h.rd.below hb h.rd.lt,h.len,?_,h.lt⟩
 refine h.own.kept (row:=none) ⟨hb.os,hb.tape,hb.output,hb.size,fun k hk _=>hb.block k hk⟩ ?_
 cases hv:s.sv.ownBlock with
 | none=>exact Or.inl rfl
 | some g=>exact Or.inr (by simp)
theorem TF.belowAll {tb rb:Nat}{sb hb:Option Nat}{a b c:World}(h:TF tb rb sb hb a b)(k:Below b.heap.size b c):TF tb rb sb hb a c:=
 ⟨k.os.trans h.os,k.tape.trans h.tape,k.output.trans h.output,Nat.le_trans h.size k.size,fun i hi h1 h2 h3 h4=>by rw[k.block i (by have:=h.size;omega),h.block i hi h1 h2 h3 h4]⟩
theorem Core.belowAll {c:Cx}{w w1 w2:World}{s s1:Ts}{hb:Option Nat}{f r:Nat}(h:Core c w s hb f r w1 s1)(k:Below w1.heap.size w1 w2):Core c w s hb f r w2 s1:=⟨h.tr.belowAll k,h.fuel,h.far,h.sp,h.bud,h.fr.belowAll k,h.sv⟩
theorem Core.drewN {c:Cx}{w w1:World}{s s1:Ts}{hb:Option Nat}{f r:Nat}(h:Core c w s hb f r w1 s1)(n:Nat):Core c w s hb f r (w1.drewN n) s1:=⟨h.tr.drewN n,h.fuel,h.far,h.sp,h.bud,h.fr.drewN n,h.sv⟩
theorem Core.read2 {c:Cx}{w w1 w':World}{s:Ts}{a e n:Nat}{sv:Value}(hc:canRead s.read a e n=true)(he:e≤s.read.length)(hae:a≤e)(hbu:s.spans.length+s.fuel+1≤100000)(h1:TF c.tb c.rb none none w w1)(ht:TrAt c.gb c.rb c.tb c.bs w' (tsRead s a n sv))(hf:TF c.tb c.rb s.sv.ownBlock none w1 w')(hs:sv.ownBlock=s.sv.ownBlock∨∃ g,sv.ownBlock=some g∧w1.heap.size≤g):
 Core c w s none s.fuel s.far w' (tsRead s a n sv):=by
 refine Core.read hc he hae hbu ht ((h1.any s.sv.ownBlock none).trans hf (Or.inl rfl) (Or.inl rfl)) ?_
 rcases hs with h | ⟨g,h,l⟩
 · exact Or.inl h
 · exact Or.inr ⟨g,h,by have:=h1.size;omega⟩
theorem TPost.dead {c:Cx}{w w1:World}{s s1:Ts}{hb:Option Nat}{sil:Bool}{fuel far:Nat}{st:PS}{t:List UInt8}(h:Core c w s hb fuel far w1 s1)(o:Obj)(hv:st.vals=c.N):TPost c w s hb sil (madeO c.N fuel far st t) (.panicked (outV 7)) (w1.alloc o):=by
 unfold madeO;rw[if_pos hv]
 exact Or.inl ⟨by simp[deadO],rfl,h.fr.alloc o⟩
theorem Core.made {c:Cx}{w w1 w2:World}{s s1:Ts}{hb:Option Nat}{fuel far m:Nat}(h:Core c w s hb fuel far w1 s1)(ht:TrAt c.gb c.rb c.tb c.bs w2 { s1 with nodes:=m })(hf:TF c.tb c.rb none none w1 w2):Core c w s hb fuel far w2 { s1 with nodes:=m }:=by
 obtain ⟨new,a,b⟩:=h.sp
 exact ⟨ht,h.fuel,h.far,⟨new,a,b⟩,h.bud,h.fr.trans (hf.any s.sv.ownBlock hb) (Or.inl rfl) (Or.inl rfl),h.sv⟩
theorem wrapI64 (x:Int)(h0 : -9223372036854775808≤x)(h1:x≤9223372036854775807):IntKind.i64.wrap x=x:=by rw[IntKind.wrap_i64];omega
def ordT (N fuel far n:Nat)(t:List UInt8)(st:PS):PO:=if canRead st.rd st.pl st.en n=true then madeO N fuel far (readS st n) t else failO fuel far st.pl st
theorem leafV {w:World}{vb lo:Nat}{sb:Option Nat}{k n:Int}{run:ByteArray}(h:Blk w vb #[.int .i64 k,.int .u32 n,.string run,.slice none 0 0] 177)(h1:lo≤vb)(h2:some vb≠sb)(hk:0≤k∧k≤4)(hn:0≤n∧n<4294967296)(hr:run.size≤4000):
 RepV 1 w lo w.heap.size sb vb (textV k n run []):=
 ⟨k,n,run,_,[],h,h1,h.lt,h2,Or.inl ⟨rfl,rfl⟩,fun q hq=>by simp at hq,rfl,⟨hk.1,by omega⟩,hn,fun e=>by omega,hr⟩
end Go.Proofs.YtmlkhhhjdpbhfaaGreatDoor

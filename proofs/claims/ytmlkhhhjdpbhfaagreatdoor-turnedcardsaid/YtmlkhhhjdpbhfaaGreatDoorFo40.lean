import Derived.Test.YtmlkhhhjdpbhfaaGreatDoorFo39
import Derived.Test.YtmlkhhhjdpbhfaaGreatDoorFo38
namespace Go.Proofs.YtmlkhhhjdpbhfaaGreatDoor
open Go.RowKit
def wMu (e:Wt):Nat:=e.its.length+1001*(e.v.run.length+(e.v.kids.map (szT e.n)).sum)
def NewW (G:Nat→List It)(m:Nat)(st st':Wr):Prop:=∃ l,st'.wait=st.wait++l∧(∀ e∈l,hasT G (e.n+1) e.its e.v=true)∧(l.map wMu).sum≤m
variable {G:Nat→List It}
theorem NewW.same {st st':Wr}{m:Nat}(h:st'.wait=st.wait):NewW G m st st':=⟨[],by simp[h],by simp,by simp⟩
theorem NewW.trans {a b:Nat}{s t u:Wr}(h:NewW G a s t)(h':NewW G b t u):NewW G (a+b) s u:=by
 obtain ⟨l,h1,h2,h3⟩:=h
 obtain ⟨l',h1',h2',h3'⟩:=h'
 refine ⟨l++l',by rw[h1',h1,List.append_assoc],fun e he=>?_,by simp only[List.map_append,List.sum_append];omega⟩
 rcases List.mem_append.1 he with he | he
 · exact h2 e he
 · exact h2' e he
theorem NewW.mono {a b:Nat}{s t:Wr}(h:NewW G a s t)(hab:a≤b):NewW G b s t:=by
 obtain ⟨l,h1,h2,h3⟩:=h
 exact ⟨l,h1,h2,by omega⟩
def NewOk {T:Type}(G:Nat→List It)(s:T→Nat)(H:List It→T→Bool)(W:List It→Option Nat→T→Wr→Wr):Prop:=∀ k hid y st,k.length≤1000→H k y=true→NewW G (1001*s y) st (W k hid y st)
theorem hasKids_s {T:Type}{H:List It→T→Bool}{k:List It}{ks:List (List It)}{vs:List T}(h:silV k=true):hasKids H (k::ks) vs=hasKids H ks vs:=by
 conv=>lhs;unfold hasKids
 rw[if_pos h]
theorem hasKids_v {T:Type}{H:List It→T→Bool}{k:List It}{ks:List (List It)}{y:T}{ys:List T}(h:¬ silV k=true):hasKids H (k::ks) (y::ys)=(H k y&&hasKids H ks ys):=by
 conv=>lhs;unfold hasKids
 rw[if_neg h]
theorem hasKids_n {T:Type}{H:List It→T→Bool}{k:List It}{ks:List (List It)}(h:¬ silV k=true):hasKids H (k::ks) []=false:=by
 unfold hasKids
 rw[if_neg h]
theorem wKids_new {T:Type}{s:T→Nat}{H:List It→T→Bool}{W:List It→Option Nat→T→Wr→Wr}(hW:NewOk G s H W)(i:Nat):∀ (ks:List (List It)) (vs:List T) (st:Wr),(∀ k∈ks,k.length≤1000)→hasKids H ks vs=true→NewW G (1001*(vs.map s).sum) st (wKids W i ks vs st)
 | [],_,_,_,_=>NewW.same rfl
 | k::ks,vs,st,hk,hh=>by
  unfold wKids
  by_cases hs:silV k=true
  · rw[if_pos hs]
    rw[hasKids_s hs] at hh
    exact (NewW.trans (NewW.same (m:=0) (wSil_wait k i st)) (wKids_new hW i ks vs _ (fun k h=>hk k (List.mem_cons_of_mem _ h)) hh)).mono (by omega)
  · rw[if_neg hs]
    cases vs with
    | nil=>rw[hasKids_n hs] at hh;cases hh
    | cons y ys=>
     rw[hasKids_v hs] at hh
     simp only[Bool.and_eq_true] at hh
     exact (NewW.trans (hW k (some i) y st (hk k List.mem_cons_self) hh.1) (wKids_new hW i ks ys _ (fun k h=>hk k (List.mem_cons_of_mem _ h)) hh.2)).mono (by simp only[List.map_cons,List.sum_cons];omega)
theorem wMany_new {T:Type}{s:T→Nat}{H:List It→T→Bool}{W:List It→Option Nat→T→Wr→Wr}(hW:NewOk G s H W)(k:List It)(hk:k.length≤1000):∀ (vs:List T) (st:Wr),vs.all (H k)=true→NewW G (1001*(vs.map s).sum) st (wMany W k vs st)
 | [],_,_=>NewW.same rfl
 | y::ys,st,hh=>by
  simp only[List.all_cons,Bool.and_eq_true] at hh
  exact (NewW.trans (hW k none y st hk hh.1) (wMany_new hW k hk ys _ hh.2)).mono (by simp only[List.map_cons,List.sum_cons];omega)
theorem hasTop_cons' {T:Type}(H:List It→T→Bool)(x:It)(r:List It)(v:Nd T):hasTop H (x::r) v=
 (if x.c=110∨x.c=108 then decide (v.k=0)&&withinB v.n x.w.toNat
 else if x.c=39 then decide (v.k=1)
 else if x.c=114∨x.c=46 then decide (v.k=2)
 else if x.c=40 then decide (v.k=3)&&hasKids H (segs r.length r) v.kids
 else if x.c=47 then decide (v.k=5)&&headB (H ((segs r.length r).getD v.n [])) v.kids
 else if x.c=42∨x.c=116 then decide (v.k=4)&&v.kids.all (H r)
 else false):=rfl
theorem wTop_new {T:Type}{s:T→Nat}{H:List It→T→Bool}{W:List It→Option Nat→T→Wr→Wr}(hW:NewOk G s H W)(k:List It)(hid:Option Nat)(v:Nd T)(st:Wr)(hk:k.length≤1000)(hh:hasTop H k v=true):NewW G (1001*(v.kids.map s).sum) st (wTop W k hid v st):=by
 unfold wTop
 cases k with
 | nil=>exact NewW.same rfl
 | cons x r=>
  have hr:r.length≤1000:=by simp at hk;omega
  have hseg:∀ k∈segs r.length r,k.length≤1000:=fun k hm=>by have:=(segs_subl _ _ _ hm).length_le;omega
  rw[hasTop_cons'] at hh
  simp only
  split
  · exact NewW.same rfl
  split
  · exact NewW.same rfl
  split
  · exact NewW.same rfl
  split
  · exact NewW.same rfl
  split
  · exact NewW.same rfl
  split
  · rename_i hc
    rw[if_neg (by omega),if_neg (by omega),if_neg (by omega),if_pos hc] at hh
    simp only[Bool.and_eq_true] at hh
    exact (NewW.trans (NewW.same (m:=0) (st':={ st with hol:=st.hol++[fun _=>none] }) rfl) (wKids_new hW st.hol.length (segs r.length r) v.kids _ hseg hh.2)).mono (by omega)
  split
  · rename_i hc
    rw[if_neg (by omega),if_neg (by omega),if_neg (by omega),if_neg (by omega),if_pos hc] at hh
    simp only[Bool.and_eq_true] at hh
    cases hv:v.kids with
    | nil=>exact NewW.same rfl
    | cons y ys=>
     rw[hv] at hh
     have hK:((segs r.length r).getD v.n []).length≤1000:=by
      rw[List.getD_eq_getElem?_getD]
      cases hg:(segs r.length r)[v.n]? with
      | none=>simp
      | some k=>exact hseg k (List.mem_of_getElem? hg)
     exact (hW _ none y st hK hh.2).mono (by simp only[List.map_cons,List.sum_cons];omega)
  split
  · rename_i hc
    rw[if_neg (by omega),if_neg (by omega),if_neg (by omega),if_neg (by omega),if_neg (by omega),if_pos (by omega)] at hh
    simp only[Bool.and_eq_true] at hh
    exact wMany_new hW r hr v.kids st hh.2
  split
  · rename_i hc
    rw[if_neg (by omega),if_neg (by omega),if_neg (by omega),if_neg (by omega),if_neg (by omega),if_pos (by omega)] at hh
    simp only[Bool.and_eq_true] at hh
    exact (NewW.trans (NewW.same (m:=0) (st':=wTell st (holeOf st hid x.d.toNat) v.kids.length) rfl) (wMany_new hW r hr v.kids _ hh.2)).mono (by omega)
  · exact NewW.same rfl
theorem wIn_new {n:Nat}(hG:∀ i,KOk (G i)){W:List It→Option Nat→Tr n→Wr→Wr}(hW:NewOk G (szT n) (hasT G n) W)(hid:Option Nat)(v:Nd (Tr n))(st:Wr):∀ k:List It,k.length≤1000→hasQ G (hasT G n) (inn k) v=true→
 ∃ m,m+1≤k.length+1001*(v.run.length+(v.kids.map (szT n)).sum)∧NewW G m st (wIn G W k hid v st)
 | [],_,hh=>by cases hh
 | x::r,hk,hh=>by
  have hr:r.length≤1000:=by simp at hk;omega
  have hin:inB [119,64,115] x.c=true→hasQ G (hasT G n) (inn r) v=true:=fun h=>by rw[inn,if_pos h] at hh;exact hh
  have hout:inB [119,64,115] x.c=false→hasQ G (hasT G n) (x::r) v=true:=fun h=>by rw[inn,if_neg (by rw[h];simp)] at hh;exact hh
  unfold wIn
  simp only[List.length_cons]
  split
  · rename_i hc
    obtain ⟨m,h1,h2⟩:=wIn_new hG hW hid v st r hr (hin (by rw[hc];decide))
    exact ⟨m,by omega,(NewW.trans h2 (NewW.same (m:=0) rfl)).mono (by omega)⟩
  split
  · rename_i hc
    obtain ⟨m,h1,h2⟩:=wIn_new hG hW hid v st r hr (hin (by rw[hc];decide))
    exact ⟨m,by omega,(NewW.trans h2 (NewW.same (m:=0) rfl)).mono (by omega)⟩
  split
  · rename_i hc
    refine ⟨r.length+1001*(v.run.length+(v.kids.map (szT n)).sum),by omega,[⟨r,n,v,hid.getD 0,holeOf st hid x.d.toNat⟩],rfl,fun e he=>?_,by simp[wMu]⟩
    simp only[List.mem_singleton] at he
    subst he
    exact hin (by rw[hc];decide)
  rename_i h119 h115 h64
  have hn:inB [119,64,115] x.c=false:=by
   cases hi:inB [119,64,115] x.c with
   | false=>rfl
   | true=>
    exfalso
    simp only[inB,List.any_cons,List.any_nil,Bool.or_false,Bool.or_eq_true,beq_iff_eq] at hi
    rcases hi with e | e | e
    · exact h119 (by rw[← e];rfl)
    · exact h64 (by rw[← e];rfl)
    · exact h115 (by rw[← e];rfl)
  have hh':=hout hn
  refine ⟨1001*(v.kids.map (szT n)).sum,by omega,?_⟩
  split
  · rename_i h82
    unfold hasQ at hh'
    simp only[if_pos h82] at hh'
    split
    · exact NewW.same rfl
    · rename_i q hq
      rw[hq] at hh'
      exact wTop_new hW q none v st (ruleEnd_ok hG 8 _ q hq).1 hh'
  · rename_i h82
    unfold hasQ at hh'
    simp only[if_neg h82] at hh'
    exact wTop_new hW (x::r) hid v st hk hh'
theorem writeT_new (hG:∀ i,KOk (G i)):∀ n,NewOk G (szT n) (hasT G n) (writeT G n)
 | 0=>fun _ _ _ _ _ h=>by cases h
 | n+1=>fun k hid y st hk hh=>by
  obtain ⟨m,h1,h2⟩:=wIn_new hG (writeT_new hG n) hid y st k hk hh
  exact h2.mono (by unfold szT;omega)
end Go.Proofs.YtmlkhhhjdpbhfaaGreatDoor
namespace Go.Proofs.YtmlkhhhjdpbhfaaGreatDoor
open Go.RowKit
set_option maxRecDepth 100000 in
set_option maxHeartbeats 1000000 in
theorem tell_callsK (c:Cx)(B:Nat)(w:World)(wb:Nat)(bv tv sv:Value)(svs:List Value)(hbs:List Nat)(st:Wr)(h:WrM c B w wb bv tv sv svs hbs st)(ho:Ho)(hh:HoOk ho st.out.length)(n:Nat)(hn:n<4294967296)(hl:st.out.length≤1000000000):
 Calls Tryz.prog 78 #[.pointer (some ⟨wb,0,none⟩),.agg #[.int .i64 (ho.pl:Nat),.int .i64 (ho.w:Nat),.func (.func (putF ho.low)) #[] #[]],.int .i64 (n:Nat)] w fun e w'=>e=.returned (.tuple #[])∧WrM c B w' wb bv tv sv svs hbs (wTell st ho n)∧Below B w w'∧∀ k,k<w.heap.size→k≠wb→some k≠bv.ownBlock→w'.heap[k]? = w.heap[k]? := by
 have h2:=hh.pos
 have h3:=hh.le
 have hwb:=h.ge wb List.mem_cons_self
 have hA:=Blk.new w #[.int .i64 (ho.pl:Nat),.int .i64 (ho.w:Nat),.func (.func (putF ho.low)) #[] #[]] 190
 have hbel:=(Below.refl w.heap.size w).alloc (Nat.le_refl _) (.cells #[.int .i64 (ho.pl:Nat),.int .i64 (ho.w:Nat),.func (.func (putF ho.low)) #[] #[]] 190)
 have hM2:∀ b:Bool,WrM c B ((w.setCell ⟨wb,47,none⟩ (.bool b)).alloc (.cells #[.int .i64 (ho.pl:Nat),.int .i64 (ho.w:Nat),.func (.func (putF ho.low)) #[] #[]] 190)) wb bv tv sv svs hbs { st with wide:=b }∧Below B w ((w.setCell ⟨wb,47,none⟩ (.bool b)).alloc (.cells #[.int .i64 (ho.pl:Nat),.int .i64 (ho.w:Nat),.func (.func (putF ho.low)) #[] #[]] 190)):=fun b=>by
  have h1:=h.wider b (Below.refl w.heap.size w)
  have hs:(w.setCell ⟨wb,47,none⟩ (.bool b)).heap.size=w.heap.size:=by simp[World.setCell]
  have hb:=(Below.refl B (w.setCell ⟨wb,47,none⟩ (.bool b))).alloc (by rw[hs];omega) (.cells #[.int .i64 (ho.pl:Nat),.int .i64 (ho.w:Nat),.func (.func (putF ho.low)) #[] #[]] 190)
  exact ⟨h1.1.keep hb (fun q _ h2=>Below.heap_alloc _ _ _ h2),h1.2.trans hb⟩
 have hKp:∀ b:Bool,w.heap.size≤((w.setCell ⟨wb,47,none⟩ (.bool b)).alloc (.cells #[.int .i64 (ho.pl:Nat),.int .i64 (ho.w:Nat),.func (.func (putF ho.low)) #[] #[]] 190)).heap.size∧∀ k,k<w.heap.size→k≠wb→((w.setCell ⟨wb,47,none⟩ (.bool b)).alloc (.cells #[.int .i64 (ho.pl:Nat),.int .i64 (ho.w:Nat),.func (.func (putF ho.low)) #[] #[]] 190)).heap[k]? = w.heap[k]? := fun b=>by
  have hs:(w.setCell ⟨wb,47,none⟩ (.bool b)).heap.size=w.heap.size:=by simp[World.setCell]
  refine ⟨by rw[World.size_alloc,hs];omega,fun k hk hne=>?_⟩
  rw[Below.heap_alloc _ _ _ (by rw[hs];exact hk),Below.heap_setCell _ _ _ _ hne]
 have hblk1:Blk (w.alloc (.cells #[.int .i64 (ho.pl:Nat),.int .i64 (ho.w:Nat),.func (.func (putF ho.low)) #[] #[]] 190)) wb (wrC c.gb bv st.wide tv sv) 120:=Blk.alloc h.blk _
 have a1:(w.alloc (.cells #[.int .i64 (ho.pl:Nat),.int .i64 (ho.w:Nat),.func (.func (putF ho.low)) #[] #[]] 190)).cell? ⟨w.heap.size,1,none⟩=some (.int .i64 (ho.w:Nat)):=hA.cell 1
 have c47:(w.alloc (.cells #[.int .i64 (ho.pl:Nat),.int .i64 (ho.w:Nat),.func (.func (putF ho.low)) #[] #[]] 190)).cell? ⟨wb,47,none⟩=some (.bool st.wide):=hblk1.cell 47
 have f47:(w.alloc (.cells #[.int .i64 (ho.pl:Nat),.int .i64 (ho.w:Nat),.func (.func (putF ho.low)) #[] #[]] 190)).frozen? ⟨wb,47,none⟩=false:=hblk1.frozen 47
 have HW:=hide' (fun W=>isWithin_calls n ho.w (by omega) h3 W)
 have HM2:=hide' hM2
 have HKp:=hide' hKp
 have hw64:IntKind.u64.wrap (n:Int)=n:=by rw[IntKind.wrap_u64];omega
 have hw32:IntKind.u32.wrap (n:Int)=n:=by rw[IntKind.wrap_u32];omega
 clear h hA hbel hM2 hblk1 hKp
 cases hwd:st.wide
 · rw[hwd] at c47
   go_enter Tryz.func78,Tryz.ntmps78
   go_wp2_with fail
   refine (HW.out _).mono ?_
   rintro e w1 ⟨rfl,hw1⟩
   rw[hw1]
   clear hw1 w1
   have HM:=hide' (HM2.out (!withinB n ho.w))
   have HK:=hide' (HKp.out (!withinB n ho.w))
   have hst:wTell st ho n=wPut { st with wide:=!withinB n ho.w } ho n:=by unfold wTell;rw[hwd];rfl
   have HSt:=hide' hst
   clear hst HM2 hwd HKp
   generalize withinB n ho.w=b0 at *
   go_wp2_with fail
   generalize (w.setCell ⟨wb,47,none⟩ (.bool !b0)).alloc (.cells #[.int .i64 (ho.pl:Nat),.int .i64 (ho.w:Nat),.func (.func (putF ho.low)) #[] #[]] 190)=W at *
   refine (put_callsK c B W wb bv tv sv svs hbs { st with wide:=!b0 } HM.out.1 ho hh n hn hl).mono ?_
   rintro e w2 ⟨rfl,hm,hb,hk2⟩
   have HM2:=hide' hm
   have HB2:=hide' (HM.out.2.trans hb)
   have HK2:=hide' hk2
   clear hm hb hk2
   go_wp2_with fail
   go_end0
   rw[HSt.out]
   exact ⟨rfl,HM2.out,HB2.out,fun k h1 h2 h3=>(HK2.out k (Nat.lt_of_lt_of_le h1 HK.out.1) h3).trans (HK.out.2 k h1 h2)⟩
 · rw[hwd] at c47
   have HM:=hide' (HM2.out true)
   have HK:=hide' (HKp.out true)
   have hst:wTell st ho n=wPut { st with wide:=true } ho n:=by unfold wTell;rw[hwd];rfl
   have HSt:=hide' hst
   clear hst HM2 hwd HKp
   go_enter Tryz.func78,Tryz.ntmps78
   go_wp2_with fail
   generalize (w.setCell ⟨wb,47,none⟩ (.bool true)).alloc (.cells #[.int .i64 (ho.pl:Nat),.int .i64 (ho.w:Nat),.func (.func (putF ho.low)) #[] #[]] 190)=W at *
   refine (put_callsK c B W wb bv tv sv svs hbs { st with wide:=true } HM.out.1 ho hh n hn hl).mono ?_
   rintro e w2 ⟨rfl,hm,hb,hk2⟩
   have HM2:=hide' hm
   have HB2:=hide' (HM.out.2.trans hb)
   have HK2:=hide' hk2
   clear hm hb hk2
   go_wp2_with fail
   go_end0
   rw[HSt.out]
   exact ⟨rfl,HM2.out,HB2.out,fun k h1 h2 h3=>(HK2.out k (Nat.lt_of_lt_of_le h1 HK.out.1) h3).trans (HK.out.2 k h1 h2)⟩
theorem tell_calls (c:Cx)(B:Nat)(w:World)(wb:Nat)(bv tv sv:Value)(svs:List Value)(hbs:List Nat)(st:Wr)(h:WrM c B w wb bv tv sv svs hbs st)(ho:Ho)(hh:HoOk ho st.out.length)(n:Nat)(hn:n<4294967296)(hl:st.out.length≤1000000000):
 Calls Tryz.prog 78 #[.pointer (some ⟨wb,0,none⟩),.agg #[.int .i64 (ho.pl:Nat),.int .i64 (ho.w:Nat),.func (.func (putF ho.low)) #[] #[]],.int .i64 (n:Nat)] w fun e w'=>e=.returned (.tuple #[])∧WrM c B w' wb bv tv sv svs hbs (wTell st ho n)∧Below B w w':=
 (tell_callsK c B w wb bv tv sv svs hbs st h ho hh n hn hl).mono fun _ _ h=>⟨h.1,h.2.1,h.2.2.1⟩
def WrPost (c:Cx)(B:Nat)(w:World)(wb:Nat)(hbs:List Nat)(st:Wr)(e:Ending)(w':World):Prop:=
 e=.returned (.tuple #[])∧Below B w w'∧∃ bv tv sv svs more,WrM c B w' wb bv tv sv svs (hbs++more) st
theorem numB_zero (out:List UInt8)(low:Bool)(m n:Nat):putAt (out++List.replicate m 0) ⟨out.length,m,low⟩ n=out++numB low m n:=by
 unfold putAt
 simp only
 rw[List.take_left,List.drop_eq_nil_of_le (by simp)]
 simp
theorem WrM.row {c:Cx}{B:Nat}{w:World}{wb g m cap:Nat}{tv sv:Value}{svs:List Value}{hbs:List Nat}{st:Wr}(h:WrM c B w wb (.slice (some ⟨g,0,none⟩) (st.out.length+m) cap) tv sv svs hbs (wOut st (List.replicate m 0))):
 ∃ cur,Blk w g cur 5∧st.out.length+m≤cur.size:=by
 rcases h.out.2 with ⟨e,_⟩ | ⟨g',cap',cur,e,_,hg,hn,_,hs,_⟩
 · cases e
 · injection e with e1 e2 e3
   injection e1 with e1
   injection e1 with e1
   subst e1
   refine ⟨cur,hg,?_⟩
   rw[hs]
   simp[wOut] at hn
   omega
theorem WrM.num {c:Cx}{B:Nat}{w w2:World}{wb g m cap:Nat}{tv sv:Value}{svs:List Value}{hbs:List Nat}{st:Wr}(h:WrM c B w wb (.slice (some ⟨g,0,none⟩) (st.out.length+m) cap) tv sv svs hbs (wOut st (List.replicate m 0)))(low:Bool)(n:Nat)(cur:Array Value)(hg:Blk w g cur 5)(hp:PutS w w2 g st.out.length 5 cur (numB low m n)):WrM c B w2 wb (.slice (some ⟨g,0,none⟩) (st.out.length+m) cap) tv sv svs hbs (wOut st (numB low m n))∧Below B w w2:=by
 have hlen:(wOut st (List.replicate m 0)).out.length=st.out.length+m:=by simp[wOut]
 have:=h.put (w1:=w) ⟨st.out.length,m,low⟩ n g cap cur (by rw[hlen]) (Below.refl _ _) hg hp (by rw[hlen];exact Nat.le_refl _)
 have he:wPut (wOut st (List.replicate m 0)) ⟨st.out.length,m,low⟩ n=wOut st (numB low m n):=by
  unfold wPut wOut
  simp only
  rw[numB_zero]
 rw[he] at this
 exact this
set_option maxRecDepth 100000 in
set_option maxHeartbeats 1000000 in
theorem writeNumber_calls (c:Cx)(B:Nat)(w:World)(wb:Nat)(bv tv sv:Value)(svs:List Value)(hbs:List Nat)(st:Wr)(h:WrM c B w wb bv tv sv svs hbs st)(hl:st.out.length≤1000000000)(pb vb k n m:Nat)(run:ByteArray)(vv hv:Value)(p:Pt)(hpt:PtBlk w pb p)(hpb:pb<B)(hnd:NdB w vb k n run vv)(hvb:vb<B)(hw:p.wd=(m:Int))(hm0:1≤m)(hm:m≤4):
 Calls Tryz.prog 122 #[.pointer (some ⟨wb,0,none⟩),.pointer (some ⟨pb,0,none⟩),.pointer (some ⟨vb,0,none⟩),hv] w fun e w'=>WrPost c B w wb hbs (wOut st (numB false m n)) e w':=by
 have hn:=hnd.n
 have hC:∀ W,Below B w W→W.cell? ⟨pb,2,none⟩=some (.int .i64 (m:Nat))∧W.cell? ⟨vb,1,none⟩=some (.int .u32 (n:Nat)):=fun W hW=>by
  refine ⟨?_,?_⟩
  · rw[World.cell?_of_block (w:=w) (hW.block pb hpb),← hw];exact hpt.cell 2
  · rw[World.cell?_of_block (w:=w) (hW.block vb hvb)];exact hnd.blk.cell 1
 have HC:=hide' hC
 have HM:=hide' h
 clear h hC hpt hnd
 go_enter Tryz.func122,Tryz.ntmps122
 go_wp2_with fail
 have hdr:Below B w (w.drewN 1):=⟨rfl,rfl,rfl,Nat.le_refl _,fun _ _=>rfl⟩
 refine wp_region_seg (fun W=>Below B w W) [([0,1,2,3,4,6,7,8,9],5),([],10)] rfl (by kernel_rfl) (fun _ _ d _ _ h=>by cases d<;>exact h) hdr ?_
 simp only[wpSeg,List.filterMap_cons,List.filterMap_nil,List.getElem?_toArray,List.getElem?_cons_zero,List.getElem?_cons_succ]
 refine wpX_step _ rfl (fun W hW=>rfl) ?_
 refine wpX_step _ rfl (fun W hW=>rfl) ?_
 refine wpX_step (.pointer (some ⟨pb,0,none⟩)) rfl (fun W hW=>by go_simp) ?_
 refine wpX_step (.pointer (some ⟨pb,2,none⟩)) rfl (fun W hW=>by go_simp) ?_
 refine wpX_step (.int .i64 (m:Nat)) rfl (fun W hW=>by obtain ⟨h0,h1⟩:=HC.out W hW;go_simp) ?_
 refine wpX_step _ rfl (fun W hW=>rfl) ?_
 refine wpX_step (.pointer (some ⟨vb,0,none⟩)) rfl (fun W hW=>by go_simp) ?_
 refine wpX_step (.pointer (some ⟨vb,1,none⟩)) rfl (fun W hW=>by go_simp) ?_
 refine wpX_step (.int .u32 (n:Nat)) rfl (fun W hW=>by obtain ⟨h0,h1⟩:=HC.out W hW;go_simp) ?_
 refine wpX_nil ⟨_,rfl,rfl,?_⟩
 unfold Oper.wp
 go_simp
 have hMd:=HM.out.keep hdr (fun _ _ _=>rfl)
 refine (space_calls c B _ wb bv tv sv svs hbs st hMd m (by omega) hm hl).mono ?_
 rintro e w2 ⟨g,cap,rfl,hm2,hb2⟩
 have hb2':Below B w w2:=hdr.trans hb2
 have HM2:=hide' hm2
 clear hm2
 refine ⟨hb2',?_⟩
 refine wpX_nil ⟨_,rfl,rfl,?_⟩
 unfold Oper.wp
 go_simp
 obtain ⟨cur,hcur,hfit⟩:=HM2.out.row
 refine (putHigh_calls w2 g st.out.length m _ n 5 cur hcur hm hfit hn).mono ?_
 rintro e w3 ⟨rfl,hput⟩
 have HN:=hide' (HM2.out.num false n cur hcur hput)
 have HB3:=hide' (hb2'.trans HN.out.2)
 clear hput
 refine ⟨HB3.out,?_⟩
 go_wp2_with fail
 go_end0
 exact ⟨rfl,HB3.out,_,_,_,_,[],by rw[List.append_nil];exact HN.out.1⟩
set_option maxRecDepth 100000 in
set_option maxHeartbeats 1000000 in
theorem writeLowNumber_calls (c:Cx)(B:Nat)(w:World)(wb:Nat)(bv tv sv:Value)(svs:List Value)(hbs:List Nat)(st:Wr)(h:WrM c B w wb bv tv sv svs hbs st)(hl:st.out.length≤1000000000)(pb vb k n m:Nat)(run:ByteArray)(vv hv:Value)(p:Pt)(hpt:PtBlk w pb p)(hpb:pb<B)(hnd:NdB w vb k n run vv)(hvb:vb<B)(hw:p.wd=(m:Int))(hm0:1≤m)(hm:m≤4):
 Calls Tryz.prog 124 #[.pointer (some ⟨wb,0,none⟩),.pointer (some ⟨pb,0,none⟩),.pointer (some ⟨vb,0,none⟩),hv] w fun e w'=>WrPost c B w wb hbs (wOut st (numB true m n)) e w':=by
 have hn:=hnd.n
 have hC:∀ W,Below B w W→W.cell? ⟨pb,2,none⟩=some (.int .i64 (m:Nat))∧W.cell? ⟨vb,1,none⟩=some (.int .u32 (n:Nat)):=fun W hW=>by
  refine ⟨?_,?_⟩
  · rw[World.cell?_of_block (w:=w) (hW.block pb hpb),← hw];exact hpt.cell 2
  · rw[World.cell?_of_block (w:=w) (hW.block vb hvb)];exact hnd.blk.cell 1
 have HC:=hide' hC
 have HM:=hide' h
 clear h hC hpt hnd
 go_enter Tryz.func124,Tryz.ntmps124
 go_wp2_with fail
 have hdr:Below B w (w.drewN 1):=⟨rfl,rfl,rfl,Nat.le_refl _,fun _ _=>rfl⟩
 refine wp_region_seg (fun W=>Below B w W) [([0,1,2,3,4,6,7,8,9],5),([],10)] rfl (by kernel_rfl) (fun _ _ d _ _ h=>by cases d<;>exact h) hdr ?_
 simp only[wpSeg,List.filterMap_cons,List.filterMap_nil,List.getElem?_toArray,List.getElem?_cons_zero,List.getElem?_cons_succ]
 refine wpX_step _ rfl (fun W hW=>rfl) ?_
 refine wpX_step _ rfl (fun W hW=>rfl) ?_
 refine wpX_step (.pointer (some ⟨pb,0,none⟩)) rfl (fun W hW=>by go_simp) ?_
 refine wpX_step (.pointer (some ⟨pb,2,none⟩)) rfl (fun W hW=>by go_simp) ?_
 refine wpX_step (.int .i64 (m:Nat)) rfl (fun W hW=>by obtain ⟨h0,h1⟩:=HC.out W hW;go_simp) ?_
 refine wpX_step _ rfl (fun W hW=>rfl) ?_
 refine wpX_step (.pointer (some ⟨vb,0,none⟩)) rfl (fun W hW=>by go_simp) ?_
 refine wpX_step (.pointer (some ⟨vb,1,none⟩)) rfl (fun W hW=>by go_simp) ?_
 refine wpX_step (.int .u32 (n:Nat)) rfl (fun W hW=>by obtain ⟨h0,h1⟩:=HC.out W hW;go_simp) ?_
 refine wpX_nil ⟨_,rfl,rfl,?_⟩
 unfold Oper.wp
 go_simp
 have hMd:=HM.out.keep hdr (fun _ _ _=>rfl)
 refine (space_calls c B _ wb bv tv sv svs hbs st hMd m (by omega) hm hl).mono ?_
 rintro e w2 ⟨g,cap,rfl,hm2,hb2⟩
 have hb2':Below B w w2:=hdr.trans hb2
 have HM2:=hide' hm2
 clear hm2
 refine ⟨hb2',?_⟩
 refine wpX_nil ⟨_,rfl,rfl,?_⟩
 unfold Oper.wp
 go_simp
 obtain ⟨cur,hcur,hfit⟩:=HM2.out.row
 refine (putLow_calls w2 g st.out.length m _ n 5 cur hcur hm hfit hn).mono ?_
 rintro e w3 ⟨rfl,hput⟩
 have HN:=hide' (HM2.out.num true n cur hcur hput)
 have HB3:=hide' (hb2'.trans HN.out.2)
 clear hput
 refine ⟨HB3.out,?_⟩
 go_wp2_with fail
 go_end0
 exact ⟨rfl,HB3.out,_,_,_,_,[],by rw[List.append_nil];exact HN.out.1⟩
set_option maxRecDepth 100000 in
set_option maxHeartbeats 2000000 in
theorem write_walk (c:Cx)(w:World)(wb pb:Nat)(vv hv:Value)(p:Pt)(kd fn:Nat)(R:World→Prop)(hp:HPre c w wb)(hpt:PtBlk w pb p)(hk:p.k=(kd:Int))(hkd:kd<15)(hfn:doFns[kd*3+2]? = some (fnV fn))(hrun:∀ args W,Sem.run Tryz.prog (callFunc fn args) W=.ok (.enter fn args) W)(hcall:Calls Tryz.prog fn #[.pointer (some ⟨wb,0,none⟩),.pointer (some ⟨pb,0,none⟩),vv,hv] (w.drewN 1) fun e w'=>e=.returned (.tuple #[])∧R w'):
 Calls Tryz.prog 159 #[.pointer (some ⟨wb,0,none⟩),.pointer (some ⟨pb,0,none⟩),vv,hv] w fun e w'=>e=.returned (.tuple #[])∧R w':=by
 have hkd':(kd:Int)<15:=by omega
 have hfc:w.cell? ⟨wb,kd*3+2,none⟩=some (.func (.func fn) #[] #[]):=hp.fns _ _ hfn
 have p0:w.cell? ⟨pb,0,none⟩=some (.int .i64 kd):=by rw[← hk];exact hpt.cell 0
 have HCall:=hide' hcall
 clear hp hpt hcall hfn
 go_enter Tryz.func159,Tryz.ntmps159
 go_wp2_with fail
 refine wp_region_mid 15 _ rfl rfl (by kernel_rfl) (by kernel_rfl) ?_
 simp only[List.take_succ_cons,List.take_zero,List.drop_succ_cons,List.drop_zero]
 repeat still_step
 refine wpStill_nil ?_
 unfold Oper.wp
 go_simp
 refine HCall.out.mono fun e4 w4 hpo=>?_
 obtain ⟨rfl,hr⟩:=hpo
 have HR:=hide' hr
 clear hr
 simp only
 refine wpStill_nil ?_
 go_wp2_with fail
 go_end0
 exact ⟨rfl,HR.out⟩
set_option maxRecDepth 100000 in
set_option maxHeartbeats 2000000 in
theorem writeFixed_calls (c:Cx)(B:Nat)(w:World)(wb:Nat)(bv tv sv:Value)(svs:List Value)(hbs:List Nat)(st:Wr)(h:WrM c B w wb bv tv sv svs hbs st)(hl:st.out.length≤1000000000)(pb b:Nat)(vv hv:Value)(p:Pt)(hpt:PtBlk w pb p)(_hpb:pb<B)(hb:p.vl=(b:Int))(hb2:b<256):
 Calls Tryz.prog 127 #[.pointer (some ⟨wb,0,none⟩),.pointer (some ⟨pb,0,none⟩),vv,hv] w fun e w'=>WrPost c B w wb hbs (wOut st [UInt8.ofNat b]) e w':=by
 obtain ⟨i0,hi0,hz0,hz1,hz2⟩:=info_parts Tryz.infoByte
 have hwb:=h.ge wb List.mem_cons_self
 have hub:((UInt8.ofNat b).toNat:Int)=b:=by simp;omega
 obtain ⟨q,cp,rfl⟩:=owns_form h.out
 have c46:w.cell? ⟨wb,46,none⟩=some (.slice q st.out.length cp):=h.blk.cell 46
 have c46a:∀ o,(w.alloc o).cell? ⟨wb,46,none⟩=some (.slice q st.out.length cp):=fun o=>(Blk.alloc h.blk o).cell 46
 have p5:w.cell? ⟨pb,5,none⟩=some (.int .u8 (b:Nat)):=by rw[← hb];exact hpt.cell 5
 have p5a:∀ o,(w.alloc o).cell? ⟨pb,5,none⟩=some (.int .u8 (b:Nat)):=fun o=>by rw[← hb];exact (Blk.alloc hpt o).cell 5
 have HM:=hide' h
 have hown:=h.out
 have hne1:some wb≠(Value.slice q st.out.length cp).ownBlock:=fun e=>h.nb wb e.symm List.mem_cons_self
 clear h hpt
 go_enter Tryz.func127,Tryz.ntmps127
 go_wp2_with fail
 go_region_law (
  (refine step_append_lies _ (by rfl) _ _ _ (by rfl) B 5 i0 _ 1 1 Tryz.underlying40 hi0 hz0 hz1 hz2 rfl (by omega) (.slice q st.out.length cp) st.out.length (byteC st.out) (by rfl) ((hown.alloc _).drew)
    ⟨w.heap.size,0,none⟩ 1 1 [.int .u8 b] (by rfl) (by rfl)
    (World.news_of_block (cs:=#[.int .u8 b]) (t:=5) (fr:=(0,0)) (heap_alloc_new w _)) (by simp[Value.oneCell'])
    (by omega) (by unfold maxLen;omega) (by omega) (by simp;omega) (w.heap.size+1) (by simp) ?_
   intro g1 cap1 w5 hown5 hgrow hat5 hlt5
   have hB5:=((HM.out.blk.alloc _).drew).grown hgrow hne1
   have c5:w5.cell? ⟨wb,46,none⟩=some (.slice q st.out.length cp):=hB5.cell 46
   have f5:w5.frozen? ⟨wb,46,none⟩=false:=hB5.frozen 46))
 all_goals
  go_wp2_with fail
  go_end0
  have hbA:Below B w (w.alloc (.cells #[.int .u8 b] 5)).drew:=((Below.refl B w).alloc (by omega) _).drew
  have hkp:=HM.out.keep (w':=(w.alloc (.cells #[.int .u8 b] 5)).drew) hbA (fun k _ h2=>Below.heap_alloc _ _ _ h2)
  have happ:=hkp.app g1 cap1 (st.out.length+1) [UInt8.ofNat b] hgrow (by unfold byteC;rw[List.map_append,List.map_cons,List.map_nil,hub,List.length_append];exact hown5) (by
   rcases hat5 with e | e
   · exact Or.inl e
   · refine Or.inr ?_
     show (w.alloc (.cells #[.int .u8 b] 5)).heap.size≤g1
     simp;omega)
  exact ⟨rfl,hbA.trans happ.2,_,_,_,_,[],by rw[List.append_nil];exact happ.1⟩
end Go.Proofs.YtmlkhhhjdpbhfaaGreatDoor

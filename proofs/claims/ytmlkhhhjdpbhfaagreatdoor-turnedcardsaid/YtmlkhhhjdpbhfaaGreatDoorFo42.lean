import Derived.Test.YtmlkhhhjdpbhfaaGreatDoorFo41
import Derived.Test.YtmlkhhhjdpbhfaaGreatDoorFo40
namespace Go.Proofs.YtmlkhhhjdpbhfaaGreatDoor
open Go.RowKit
theorem wMany_fold {T:Type}(W:List It→Option Nat→T→Wr→Wr)(k:List It)(vs:List T):∀ st,wMany W k vs st=vs.foldl (fun s y=>W k none y s) st:=by
 induction vs with
 | nil=>intro st;rfl
 | cons y ys ih=>intro st;exact ih _
def stJ {T:Type}(F:T→Wr→Wr)(kids:List (Nat × T))(st:Wr)(j:Nat):Wr:=(kids.take j).foldl (fun s q=>F q.2 s) st
theorem stJ_succ {T:Type}(F:T→Wr→Wr)(kids:List (Nat × T))(st:Wr)(j:Nat)(h:j<kids.length):stJ F kids st (j+1)=F kids[j].2 (stJ F kids st j):=by
 unfold stJ
 rw[List.take_succ_eq_append_getElem h,List.foldl_append]
 rfl
set_option maxRecDepth 100000 in
set_option maxHeartbeats 2000000 in
theorem writeMany_calls {T:Type}(F:T→Wr→Wr)(c:Cx)(B:Nat)(w:World)(wb:Nat)(bv tv sv:Value)(svs:List Value)(hbs:List Nat)(st:Wr)(h:WrM c B w wb bv tv sv svs hbs st)(pb g cap qb vb k n lo hi:Nat)(run:ByteArray)(vv hv:Value)(p:Pt)(kids:List (Nat × T))(hpt:PtBlk w pb p)(hpb:pb<B)(hgB:g<B)(hnd:NdB w vb k n run vv)(_hvb:vb<B)(hhi:hi≤B)(hpv:p.v=.slice (some ⟨g,0,none⟩) 1 cap)(hq:w.cell? ⟨g,0,none⟩=some (.pointer (some ⟨qb,0,none⟩)))(hks:PtrsAt w lo hi vv (kids.map Prod.fst))(hlen:kids.length≤8000)(hk:∀ j (hj:j<kids.length),KidW c B wb w qb (.pointer (some ⟨kids[j].1,0,none⟩)) (.pointer none) none (stJ F kids st j) (stJ F kids st (j+1))):
 Calls Tryz.prog 136 #[.pointer (some ⟨wb,0,none⟩),.pointer (some ⟨pb,0,none⟩),.pointer (some ⟨vb,0,none⟩),hv] w fun e w'=>WrPost c B w wb hbs (stJ F kids st kids.length) e w':=by
 obtain ⟨q,cp,rfl⟩:=hks.form
 have v3:w.cell? ⟨vb,3,none⟩=some (.slice q kids.length cp):=by have:=hnd.blk.cell 3;rw[List.length_map] at this;exact this
 have p8:w.cell? ⟨pb,8,none⟩=some (.slice (some ⟨g,0,none⟩) 1 cap):=by rw[← hpv];exact hpt.cell 8
 have HM:=hide' h
 have HK:=hide' hk
 have HKs:=hide' hks
 clear h hk hks hpt hnd
 go_enter Tryz.func136,Tryz.ntmps136
 go_wp2_with fail
 go_loopw [15] (fun v15 wr=>∃ j:Nat,v15=.int .i64 (j:Nat)∧j≤kids.length∧Hid (Below B w wr)∧Hid (∃ bv tv sv svs more,WrM c B wr wb bv tv sv svs (hbs++more) (stJ F kids st j))) (fun v15 _=>kids.length-(intOf v15).toNat)
 case atStart=>exact ⟨0,rfl,by omega,Below.refl _ _,(⟨bv,tv,sv,svs,[],by rw[List.append_nil];exact HM.out⟩:∃ bv tv sv svs more,WrM c B w wb bv tv sv svs (hbs++more) (stJ F kids st 0))⟩
 case round=>
  obtain ⟨j,rfl,hj,hbel,hex⟩:=hrel
  by_cases hjl:j<kids.length
  · have hjl':(j:Int)<(kids.length:Int):=by omega
    obtain ⟨g2,cap2,e2,h3,h4,_,h5⟩:=HKs.out.at (by simp;omega)
    injection e2 with e2 e3 e4
    subst e2
    have hc2:wr.cell? ⟨g2,j,none⟩=some (.pointer (some ⟨kids[j].1,0,none⟩)):=by
     rw[World.cell?_of_block (w:=w) (hbel.out.block g2 (by omega)),h5 j (by simp;omega)]
     simp[hjl]
    have c8:wr.cell? ⟨pb,8,none⟩=some (.slice (some ⟨g,0,none⟩) 1 cap):=by rw[World.cell?_of_block (w:=w) (hbel.out.block pb hpb)];exact p8
    have hq2:wr.cell? ⟨g,0,none⟩=some (.pointer (some ⟨qb,0,none⟩)):=by rw[World.cell?_of_block (w:=w) (hbel.out.block g hgB)];exact hq
    have HKj:=hide' (HK.out j hjl)
    clear h5 e4
    generalize kids[j]=kj at *
    obtain ⟨bv1,tv1,sv1,svs1,more,hm1⟩:=hex.out
    have HM1:=hide' hm1
    clear hm1 hex
    go_wp2_with fail
    refine (HKj.out wr bv1 tv1 sv1 svs1 (hbs++more) hbel.out HM1.out trivial).mono ?_
    rintro e w2 ⟨rfl,hb2,bv2,tv2,sv2,svs2,more2,hm2⟩
    have HB2:=hide' (hbel.out.trans hb2)
    have HE:Hid (∃ bv tv sv svs more,WrM c B w2 wb bv tv sv svs (hbs++more) (stJ F kids st (j+1))):=by
     have:∃ bv tv sv svs more,WrM c B w2 wb bv tv sv svs (hbs++more) (stJ F kids st (j+1)):=⟨bv2,tv2,sv2,svs2,more++more2,by rw[← List.append_assoc];exact hm2⟩
     exact this
    clear hm2 hb2
    go_wp2_with fail
    go_roundw
    case rel=>exact ⟨j+1,by go_num,by omega,HB2,HE⟩
    case measure=>simp[intOf];omega
  · have hjl':¬ (j:Int)<(kids.length:Int):=by omega
    obtain rfl:j=kids.length:=by omega
    go_wp2_with fail
    go_end0
    obtain ⟨bv1,tv1,sv1,svs1,more,hm1⟩:=hex.out
    exact ⟨rfl,hbel.out,_,_,_,_,_,hm1⟩
set_option maxRecDepth 100000 in
set_option maxHeartbeats 2000000 in
theorem writeChoice_calls (c:Cx)(B:Nat)(w:World)(wb:Nat)(bv tv sv:Value)(svs:List Value)(hbs:List Nat)(st st1:Wr)(h:WrM c B w wb bv tv sv svs hbs st)(pb vb n g cap qb g2 cap2 yb:Nat)(run:ByteArray)(hv:Value)(p:Pt)(hpt:PtBlk w pb p)(hnd:NdB w vb 5 n run (.slice (some ⟨g2,0,none⟩) 1 cap2))(hn:n<2)(hpv:p.v=.slice (some ⟨g,0,none⟩) 2 cap)(hq:w.cell? ⟨g,n,none⟩=some (.pointer (some ⟨qb,0,none⟩)))(hy:w.cell? ⟨g2,0,none⟩=some (.pointer (some ⟨yb,0,none⟩)))(hk:KidW c B wb w qb (.pointer (some ⟨yb,0,none⟩)) (.pointer none) none st st1):
 Calls Tryz.prog 133 #[.pointer (some ⟨wb,0,none⟩),.pointer (some ⟨pb,0,none⟩),.pointer (some ⟨vb,0,none⟩),hv] w fun e w'=>WrPost c B w wb hbs st1 e w':=by
 have h1:w.cell? ⟨vb,1,none⟩=some (.int .u32 (n:Nat)):=hnd.blk.cell 1
 have h3:w.cell? ⟨vb,3,none⟩=some (.slice (some ⟨g2,0,none⟩) 1 cap2):=hnd.blk.cell 3
 have h8:w.cell? ⟨pb,8,none⟩=some (.slice (some ⟨g,0,none⟩) 2 cap):=by rw[← hpv];exact hpt.cell 8
 have hn2:(n:Int)<2:=by omega
 have HM:=hide' h
 have HK:=hide' hk
 clear h hk hpt hnd hpv
 go_enter Tryz.func133,Tryz.ntmps133
 go_wp2_with fail
 refine wp_region_mid 17 _ rfl rfl (by kernel_rfl) (by kernel_rfl) ?_
 simp only[List.take_succ_cons,List.take_zero,List.drop_succ_cons,List.drop_zero]
 repeat still_step
 refine wpStill_nil ?_
 unfold Oper.wp
 go_simp
 have hdr:Below B w (w.drewN 1):=⟨rfl,rfl,rfl,Nat.le_refl _,fun _ _=>rfl⟩
 refine (HK.out (w.drewN 1) bv tv sv svs hbs hdr (HM.out.keep hdr (fun _ _ _=>rfl)) trivial).mono ?_
 rintro e w2 ⟨rfl,hb2,hr⟩
 have HR:=hide' hr
 have HB2:=hide' (hdr.trans hb2)
 clear hr hb2
 simp only
 refine wpStill_nil ?_
 go_wp2_with fail
 go_end0
 exact ⟨rfl,HB2.out,HR.out⟩
structure Bnd (g:Nat) (st:Wr):Prop where
 out:st.out.length+g≤1000000000
 wait:st.wait.length+g≤100000000
 sums:st.sums.length≤100000000
 sum:(st.sums.getLastD []).length+g≤100000000
theorem Bnd.mono {g g':Nat}{st:Wr}(h:Bnd g st)(hg:g'≤g):Bnd g' st:=⟨by have:=h.out;omega,by have:=h.wait;omega,h.sums,by have:=h.sum;omega⟩
theorem Bnd.up {N g g' m:Nat}{st st':Wr}(h:Bnd m st)(hu:WUp N g st st')(hm:g+g'≤m):Bnd g' st':=
 ⟨by have:=hu.le;have:=h.out;omega,by have:=hu.wait;have:=h.wait;omega,by rw[hu.sums];exact h.sums,by have:=hu.sum;have:=h.sum;omega⟩
def joV:List (List It)→Nat→Nat
 | [],_=>0
 | _::_,0=>0
 | k::ks,j+1=>joV ks j+(if silV k=true then 0 else 1)
theorem joV_zero (ks:List (List It)):joV ks 0=0:=by cases ks<;>rfl
theorem joV_succ:∀ (ks:List (List It)) (j:Nat) (hj:j<ks.length),joV ks (j+1)=joV ks j+(if silV ks[j]=true then 0 else 1)
 | [],_,hj=>by simp at hj
 | k::ks,0,_=>by simp only[joV,joV_zero,List.getElem_cons_zero]
 | k::ks,j+1,hj=>by
  have:=joV_succ ks j (by simpa using hj)
  show joV ks (j+1)+_=joV ks j+_+_
  rw[this,List.getElem_cons_succ]
  omega
structure KidAt {T:Type} (H:List It→T→Bool) (s:T→Nat) (W:List It→Option Nat→T→Wr→Wr) (i:Nat) (k:List It) (vs:List T) (j:Nat) (st st':Wr):Prop where
 sil:silV k=true→st'=wSil k i st
 val:silV k=false→∃ h:j<vs.length,st'=W k (some i) vs[j] st∧H k vs[j]=true∧Bnd (10000*s vs[j]) st
 sc:∃ sc,ScG true true k sc∧HolAt st (some i) sc
 inv:WInv st
 lt:i<st.hol.length
 bd:Bnd 0 st
theorem KidAt.cons {T:Type}{H:List It→T→Bool}{s:T→Nat}{W:List It→Option Nat→T→Wr→Wr}{i:Nat}{k:List It}{y:T}{vs:List T}{j:Nat}{st st':Wr}(h:KidAt H s W i k vs j st st'):KidAt H s W i k (y::vs) (j+1) st st':=
 ⟨h.sil,fun e=>by
  obtain ⟨a,b⟩:=h.val e
  exact ⟨by simpa using a,by simpa using b⟩,h.sc,h.inv,h.lt,h.bd⟩
theorem wKids_s {T:Type}{W:List It→Option Nat→T→Wr→Wr}{i:Nat}{k:List It}{ks:List (List It)}{vs:List T}{st:Wr}(h:silV k=true):wKids W i (k::ks) vs st=wKids W i ks vs (wSil k i st):=by
 conv=>lhs;unfold wKids
 rw[if_pos h]
theorem wKids_v {T:Type}{W:List It→Option Nat→T→Wr→Wr}{i:Nat}{k:List It}{ks:List (List It)}{y:T}{ys:List T}{st:Wr}(h:¬ silV k=true):wKids W i (k::ks) (y::ys) st=wKids W i ks ys (W k (some i) y st):=by
 conv=>lhs;unfold wKids
 rw[if_neg h]
theorem kids_seq {T:Type}{H:List It→T→Bool}{s:T→Nat}{W:List It→Option Nat→T→Wr→Wr}(hU:WOk s W)(i:Nat):∀ (ks:List (List It)) (vs:List T) (st:Wr) (sc:Sc),(∀ k∈ks,KOk k)→ScKs ks sc→HolAt st (some i) sc→i<st.hol.length→WInv st→hasKids H ks vs=true→Bnd (8*ks.length+10000*(vs.map s).sum) st→
 ∀ j (hj:j<ks.length),KidAt H s W i ks[j] vs (joV ks j) (wKids W i (ks.take j) vs st) (wKids W i (ks.take (j+1)) vs st)
 | [],_,_,_,_,_,_,_,_,_,_,j,hj=>by simp at hj
 | k::ks,vs,st,sc,hk,hs,ha,hi,hv,hh,hbd,j,hj=>by
  have hk1:=hk k List.mem_cons_self
  obtain ⟨hs1,sc',hs2,hs3,hs4⟩:=hs
  by_cases hsil:silV k=true
  · have a:=wSil_up (i:=i) hv hk1 hsil
    have hw:∀ l,wKids W i (k::l) vs st=wKids W i l vs (wSil k i st):=fun l=>wKids_s hsil
    have hh':hasKids H ks vs=true:=by rw[hasKids_s hsil] at hh;exact hh
    have ha':HolAt (wSil k i st) (some i) sc':=by
     cases k with
     | nil=>cases hsil
     | cons x r=>
      cases hh:hidesB x.c with
      | false=>exact ha.up a (hs2 fun y t e=>by cases e;exact hh)
      | true=>
       intro d hd
       rw[hs3 x r rfl hh] at hd
       by_cases hdx:d=x.d.toNat
       · have h39:x.c≠39:=fun e=>by rw[e] at hh;revert hh;decide
         refine ⟨i,fun k=>if k=x.d.toNat then some ⟨st.out.length,x.w.toNat,decide (x.c=107)⟩ else (st.hol[i]) k,⟨st.out.length,x.w.toNat,decide (x.c=107)⟩,rfl,?_,by simp[hdx]⟩
         unfold wSil
         simp only[if_neg h39,wOut,wHide]
         rw[List.getElem?_modify,List.getElem?_eq_getElem hi]
         simp
       · simp only[hdx,if_false] at hd
         exact ha.up a (sc':=sc) rfl d hd
    cases j with
    | zero=>
     refine ⟨fun _=>hw [],fun e=>?_,⟨sc,hs1,ha⟩,hv,hi,hbd.mono (Nat.zero_le _)⟩
     rw[List.getElem_cons_zero,hsil] at e;cases e
    | succ j=>
     have:=kids_seq (H:=H) hU i ks vs (wSil k i st) sc' (fun k h=>hk k (List.mem_cons_of_mem _ h)) hs4 ha' (Nat.lt_of_lt_of_le hi a.holL) a.inv hh' (hbd.up a (by simp only[List.length_cons];omega)) j (by simpa using hj)
     rw[List.take_succ_cons,List.take_succ_cons,hw,hw,List.getElem_cons_succ,joV,if_pos hsil]
     exact this
  · cases vs with
    | nil=>rw[hasKids_n hsil] at hh;cases hh
    | cons y ys=>
     have hw:∀ l,wKids W i (k::l) (y::ys) st=wKids W i l ys (W k (some i) y st):=fun l=>wKids_v hsil
     rw[hasKids_v hsil] at hh
     simp only[Bool.and_eq_true] at hh
     have a:=hU k (some i) y st hk1 hv
     have hnh:∀ y t,k=y::t→hidesB y.c=false:=fun y t e=>by
      subst e
      cases hh:hidesB y.c with
      | false=>rfl
      | true=>exact absurd (by simp[silV,hh]) hsil
     cases j with
     | zero=>
      refine ⟨fun e=>absurd e hsil,fun _=>⟨by simp[joV],?_⟩,⟨sc,hs1,ha⟩,hv,hi,hbd.mono (Nat.zero_le _)⟩
      refine ⟨hw [],hh.1,hbd.mono ?_⟩
      simp only[joV,List.getElem_cons_zero,List.map_cons,List.sum_cons]
      omega
     | succ j=>
      have:=kids_seq (H:=H) hU i ks ys (W k (some i) y st) sc' (fun k h=>hk k (List.mem_cons_of_mem _ h)) hs4 (ha.up a (hs2 hnh)) (Nat.lt_of_lt_of_le hi a.holL) a.inv hh.2 (hbd.up a (by simp only[List.length_cons,List.map_cons,List.sum_cons];omega)) j (by simpa using hj)
      rw[List.take_succ_cons,List.take_succ_cons,hw,hw,List.getElem_cons_succ,joV,if_neg hsil]
      exact this.cons
theorem many_seq {T:Type}{s:T→Nat}{W:List It→Option Nat→T→Wr→Wr}(hU:WOk s W){k:List It}(hk:KOk k):∀ (kids:List (Nat × T)) (st:Wr),WInv st→Bnd (10000*((kids.map Prod.snd).map s).sum) st→
 ∀ j (hj:j<kids.length),WInv (stJ (fun y s=>W k none y s) kids st j)∧Bnd (10000*s kids[j].2) (stJ (fun y s=>W k none y s) kids st j)
 | [],_,_,_,j,hj=>by simp at hj
 | q::kids,st,hv,hb,j,hj=>by
  cases j with
  | zero=>exact ⟨hv,hb.mono (by simp only[List.getElem_cons_zero,List.map_cons,List.sum_cons];omega)⟩
  | succ j=>
   have a:=hU k none q.2 st hk hv
   exact many_seq hU hk kids (W k none q.2 st) a.inv (hb.up a (by simp only[List.map_cons,List.sum_cons];omega)) j (by simpa using hj)
theorem stJ_all {T:Type}(W:List It→Option Nat→T→Wr→Wr)(k:List It)(kids:List (Nat × T))(st:Wr):stJ (fun y s=>W k none y s) kids st kids.length=wMany W k (kids.map Prod.snd) st:=by
 rw[wMany_fold,stJ,List.take_length,List.foldl_map]
set_option maxRecDepth 100000 in
set_option maxHeartbeats 2000000 in
theorem writeTimes_calls {T:Type}(F:T→Wr→Wr)(c:Cx)(B:Nat)(w:World)(wb:Nat)(bv tv sv:Value)(svs:List Value)(hbs:List Nat)(st:Wr)(h:WrM c B w wb bv tv sv svs hbs st)(hl:st.out.length≤1000000000)(pb g cap qb vb k n lo hi hb d i:Nat)(ho:Ho)(f:Nat→Option Ho)(run:ByteArray)(vv:Value)(p:Pt)(kids:List (Nat × T))(hpt:PtBlk w pb p)(hpb:pb<B)(hgB:g<B)(hnd:NdB w vb k n run vv)(hvb:vb<B)(hhi:hi≤B)(hdp:p.dp=(d:Int))(hd8:d<8)(hpv:p.v=.slice (some ⟨g,0,none⟩) 1 cap)(hq:w.cell? ⟨g,0,none⟩=some (.pointer (some ⟨qb,0,none⟩)))(hks:PtrsAt w lo hi vv (kids.map Prod.fst))(hlen:kids.length≤8000)(h1:hbs[i]? = some hb)(h2:st.hol[i]? = some f)(h3:f d=some ho)(hok:HoOk ho st.out.length)(hk:∀ j (hj:j<kids.length),KidW c B wb w qb (.pointer (some ⟨kids[j].1,0,none⟩)) (.pointer none) none (stJ F kids (wTell st ho kids.length) j) (stJ F kids (wTell st ho kids.length) (j+1))):
 Calls Tryz.prog 149 #[.pointer (some ⟨wb,0,none⟩),.pointer (some ⟨pb,0,none⟩),.pointer (some ⟨vb,0,none⟩),.pointer (some ⟨hb,0,none⟩)] w fun e w'=>WrPost c B w wb hbs (stJ F kids (wTell st ho kids.length) kids.length) e w':=by
 obtain ⟨q,cp,hvv⟩:=hks.form
 have v3:w.cell? ⟨vb,3,none⟩=some (.slice q kids.length cp):=by have:=hnd.blk.cell 3;rw[hvv,List.length_map] at this;exact this
 have p3:w.cell? ⟨pb,3,none⟩=some (.int .i64 (d:Nat)):=by rw[← hdp];exact hpt.cell 3
 have hho:=h.hole h1 h2 h3 hd8
 have k0:=hho.c0
 have k1:=hho.c1
 have k2:=hho.c2
 have hd8':(d:Int)<8:=by omega
 have HM:=hide' h
 have HK:=hide' hk
 have HKs:=hide' hks
 have HPt:=hide' hpt
 have HNd:=hide' hnd
 clear h hk hks hpt hnd hho
 go_enter Tryz.func149,Tryz.ntmps149
 go_wp2_with fail
 refine wp_region_mid 14 _ rfl rfl (by kernel_rfl) (by kernel_rfl) ?_
 simp only[List.take_succ_cons,List.take_zero,List.drop_succ_cons,List.drop_zero]
 repeat still_step
 refine wpStill_nil ?_
 unfold Oper.wp
 go_simp
 have hdr:Below B w (w.drewN 1):=⟨rfl,rfl,rfl,Nat.le_refl _,fun _ _=>rfl⟩
 refine (tell_calls c B (w.drewN 1) wb bv tv sv svs hbs st (HM.out.keep hdr (fun _ _ _=>rfl)) ho hok kids.length (by omega) hl).mono ?_
 rintro e w2 ⟨rfl,hm2,hb2⟩
 have hb2':=hdr.trans hb2
 have hq2:w2.cell? ⟨g,0,none⟩=some (.pointer (some ⟨qb,0,none⟩)):=by rw[World.cell?_of_block (w:=w) (hb2'.block g hgB)];exact hq
 have HCall:=hide' (writeMany_calls F c B w2 wb bv tv sv svs hbs (wTell st ho kids.length) hm2 pb g cap qb vb k n lo hi run vv (.pointer (some ⟨hb,0,none⟩)) p kids (Blk.below HPt.out hb2' hpb) hpb hgB ⟨Blk.below HNd.out.blk hb2' hvb,HNd.out.n⟩ hvb hhi hpv hq2 (HKs.out.mono (fun k _ k2=>hb2'.block k (by omega)) (Nat.le_refl _) (Nat.le_refl _)) hlen
  (fun j hj w3 bv3 tv3 sv3 svs3 hbs3 hb3 hm3 hv3=>HK.out j hj w3 bv3 tv3 sv3 svs3 hbs3 (hb2'.trans hb3) hm3 hv3))
 have HB2:=hide' hb2'
 clear hm2 hb2 hb2'
 simp only
 refine wpStill_nil ?_
 go_wp2_with fail
 refine HCall.out.mono ?_
 rintro e w4 ⟨rfl,hb4,hr⟩
 have HR:=hide' hr
 have HB4:=hide' (HB2.out.trans hb4)
 clear hr hb4
 go_wp2_with fail
 go_end0
 exact ⟨rfl,HB4.out,HR.out⟩
set_option maxRecDepth 100000 in
set_option maxHeartbeats 2000000 in
theorem writeRule_calls (c:Cx)(hc:CxOk c)(B:Nat)(w:World)(wb:Nat)(bv tv sv:Value)(svs:List Value)(hbs:List Nat)(st st1:Wr)(h:WrM c B w wb bv tv sv svs hbs st)(pb r:Nat)(vv hv:Value)(p:Pt)(hpt:PtBlk w pb p)(hpb:pb<B)(hru:p.ru=(r:Int))(hR:c.R r=true)(hk:∀ qb f lo hi,RepS f c.w0 lo hi qb false (c.G r)→hi≤c.w0.heap.size→KidW c B wb w qb vv (.pointer none) none st st1):
 Calls Tryz.prog 139 #[.pointer (some ⟨wb,0,none⟩),.pointer (some ⟨pb,0,none⟩),vv,hv] w fun e w'=>WrPost c B w wb hbs st1 e w':=by
 have hC:∀ W,Below B w W→W.cell? ⟨pb,6,none⟩=some (.int .i64 (r:Nat)):=fun W hW=>by rw[World.cell?_of_block (w:=w) (hW.block pb hpb),← hru];exact hpt.cell 6
 have c45:w.cell? ⟨wb,45,none⟩=some (.pointer (some ⟨c.gb,0,none⟩)):=h.blk.cell 45
 have HC:=hide' hC
 have HM:=hide' h
 have HK:=hide' hk
 have HCx:=hide' hc
 clear h hk hpt hC hc
 go_enter Tryz.func139,Tryz.ntmps139
 go_wp2_with fail
 have hdr:Below B w (w.drewN 1):=⟨rfl,rfl,rfl,Nat.le_refl _,fun _ _=>rfl⟩
 refine wp_region_seg (fun W=>Below B w W∧W.cell? ⟨wb,45,none⟩=some (.pointer (some ⟨c.gb,0,none⟩))) [([0,1,2,3,4,5,6,7,8,9,11],10),([],12)] rfl (by kernel_rfl) (fun _ _ d _ _ h=>by cases d<;>exact h) ⟨hdr,c45⟩ ?_
 simp only[wpSeg,List.filterMap_cons,List.filterMap_nil,List.getElem?_toArray,List.getElem?_cons_zero,List.getElem?_cons_succ]
 refine wpX_step _ rfl (fun W hW=>rfl) ?_
 refine wpX_step _ rfl (fun W hW=>rfl) ?_
 refine wpX_step (.pointer (some ⟨wb,0,none⟩)) rfl (fun W hW=>by go_simp) ?_
 refine wpX_step (.pointer (some ⟨wb,0,none⟩)) rfl (fun W hW=>by go_simp) ?_
 refine wpX_step (.pointer (some ⟨wb,45,none⟩)) rfl (fun W hW=>by go_simp) ?_
 refine wpX_step (.pointer (some ⟨c.gb,0,none⟩)) rfl (fun W hW=>by obtain ⟨h0,h1⟩:=hW;go_simp) ?_
 refine wpX_step _ rfl (fun W hW=>rfl) ?_
 refine wpX_step (.pointer (some ⟨pb,0,none⟩)) rfl (fun W hW=>by go_simp) ?_
 refine wpX_step (.pointer (some ⟨pb,6,none⟩)) rfl (fun W hW=>by go_simp) ?_
 refine wpX_step (.int .i64 (r:Nat)) rfl (fun W hW=>by obtain ⟨h0,h1⟩:=hW;have h2:=HC.out W h0;go_simp) ?_
 refine wpX_step _ rfl (fun W hW=>rfl) ?_
 refine wpX_nil ⟨_,rfl,rfl,?_⟩
 unfold Oper.wp
 go_simp
 have hMd:=HM.out.keep hdr (fun _ _ _=>rfl)
 refine (partOf_calls c HCx.out (w.drewN 1) hMd.bel r hR).mono ?_
 rintro e w2 ⟨qb,f2,lo2,hi2,rfl,hb2,hrep2,hhi2⟩
 have hgb:=hMd.ge wb List.mem_cons_self
 have hb2B:Below B (w.drewN 1) w2:=hb2.mono (by omega)
 have hM2:=hMd.keep hb2B (fun k _ k2=>hb2.block k k2)
 have HKc:=hide' (HK.out qb f2 lo2 hi2 hrep2 hhi2 w2 bv tv sv svs hbs (hdr.trans hb2B) hM2 trivial)
 have HB2:=hide' (hdr.trans hb2B)
 have d45:w2.cell? ⟨wb,45,none⟩=some (.pointer (some ⟨c.gb,0,none⟩)):=hM2.blk.cell 45
 clear hrep2 hb2 hM2 hMd
 refine ⟨⟨HB2.out,d45⟩,?_⟩
 refine wpX_nil ⟨_,rfl,rfl,?_⟩
 unfold Oper.wp
 go_simp
 refine HKc.out.mono ?_
 rintro e w3 ⟨rfl,hb3,bv3,tv3,sv3,svs3,more,hm3⟩
 have HB3:=hide' (HB2.out.trans hb3)
 have HM3:=hide' hm3
 have e45:w3.cell? ⟨wb,45,none⟩=some (.pointer (some ⟨c.gb,0,none⟩)):=hm3.blk.cell 45
 clear hm3 hb3
 refine ⟨⟨HB3.out,e45⟩,?_⟩
 go_wp2_with fail
 go_end0
 exact ⟨rfl,HB3.out,_,_,_,_,_,HM3.out⟩
theorem WrM.newHol {c:Cx}{B:Nat}{w:World}{wb:Nat}{bv tv sv:Value}{svs:List Value}{hbs:List Nat}{st:Wr}(h:WrM c B w wb bv tv sv svs hbs st):
 WrM c B (w.alloc (.cells (holC fun _=>none) 270)) wb bv tv sv svs (hbs++[w.heap.size]) { st with hol:=st.hol++[fun _=>none] }:=by
 have hwb:=h.ge wb List.mem_cons_self
 have hbel:Below B w (w.alloc (.cells (holC fun _=>none) 270)):=(Below.refl B w).alloc (by omega) _
 have hk:=h.keep hbel (fun k _ h2=>Below.heap_alloc _ _ _ h2)
 have hr:rst tv sv svs (hbs++[w.heap.size])=rst tv sv svs hbs++[w.heap.size]:=by unfold rst;simp[List.append_assoc]
 have hlt:∀ b,b∈wb::rst tv sv svs hbs→b<w.heap.size:=fun b hb=>(h.ge b hb).2
 have hsz:(w.alloc (.cells (holC fun _=>none) 270)).heap.size=w.heap.size+1:=by simp
 refine ⟨hk.blk,hk.out,?_,hk.sums,hk.sumsL,hk.sum,fun i b f h1 h2=>?_,by simp[h.holL],?_,fun g e=>?_,fun b hb=>?_,hk.bel,hk.leB⟩
 · obtain ⟨xs,a1,a7⟩:=hk.wait
   · refine ⟨xs,a1,fun j hj=>?_⟩
     obtain ⟨pb,vb,hb,sl,own,ctx,f,lo,hi,lo2,hi2,b1,b2,b3⟩:=a7 j hj
     exact ⟨pb,vb,hb,sl,own,ctx,f,lo,hi,lo2,hi2,b1,app_at b2,b3⟩
 · by_cases hi:i<hbs.length
   · rw[List.getElem?_append_left hi] at h1
     simp only at h2
     rw[List.getElem?_append_left (by rw[← h.holL];exact hi)] at h2
     exact hk.hol i b f h1 h2
   · rw[List.getElem?_append_right (by omega)] at h1
     simp only at h2
     rw[List.getElem?_append_right (by rw[← h.holL];omega)] at h2
     have hi0:i-hbs.length=0:=by
      have:=(List.getElem?_eq_some_iff.1 h1).1
      simp at this;omega
     rw[hi0] at h1
     rw[← h.holL,hi0] at h2
     cases h1
     cases h2
     exact Blk.new _ _ _
 · rw[hr,← List.cons_append,List.nodup_append]
   refine ⟨h.nd,by simp,fun a ha b hb=>?_⟩
   simp at hb
   have:=hlt a ha
   omega
 · rw[hr,← List.cons_append,List.mem_append]
   intro hm
   rcases hm with hm | hm
   · exact h.nb g e hm
   · simp at hm
     have:=(h.out.lt g e).2
     omega
 · rw[hr,← List.cons_append,List.mem_append] at hb
   rw[hsz]
   rcases hb with hb | hb
   · have:=h.ge b hb;omega
   · simp at hb;omega
set_option maxRecDepth 100000 in
set_option maxHeartbeats 4000000 in
theorem writeStruct_calls {T:Type}(c:Cx)(B:Nat)(w:World)(wb:Nat)(bv tv sv:Value)(svs:List Value)(hbs:List Nat)(st:Wr)(h:WrM c B w wb bv tv sv svs hbs st)(pb vb k n lo hi lo2 hi2:Nat)(run:ByteArray)(v hv:Value)(p:Pt)(kids:List (Nat × T))(ps:List (Nat × List It))(S:Nat→Wr)(jo:Nat→Nat)(hpt:PtBlk w pb p)(hpb:pb<B)(hnd:NdB w vb k n run v)(hvb:vb<B)(hhi:hi≤B)(hhi2:hi2≤B)(hps:PtrsAt w lo2 hi2 p.v (ps.map Prod.fst))(hks:PtrsAt w lo hi v (kids.map Prod.fst))(hlen:kids.length≤8000)(hpl:ps.length≤1000)(hsil:∀ q,q∈ps→q.1<B∧w.cell? ⟨q.1,7,none⟩=some (.bool (silV q.2)))(hS0:S 0={ st with hol:=st.hol++[fun _=>none] })(hj0:jo 0=0)(hjs:∀ i (hi:i<ps.length),jo (i+1)=jo i+(if silV ps[i].2=true then 0 else 1))(hjl:∀ i (hi:i<ps.length),silV ps[i].2=false→jo i<kids.length)(hk1:∀ i (hi:i<ps.length),silV ps[i].2=true→KidW c B wb w ps[i].1 (.pointer none) (.pointer (some ⟨w.heap.size,0,none⟩)) (some st.hol.length) (S i) (S (i+1)))(hk2:∀ i (hi:i<ps.length) (hn:silV ps[i].2=false),KidW c B wb w ps[i].1 (.pointer (some ⟨(kids[jo i]'(hjl i hi hn)).1,0,none⟩)) (.pointer (some ⟨w.heap.size,0,none⟩)) (some st.hol.length) (S i) (S (i+1))):
 Calls Tryz.prog 130 #[.pointer (some ⟨wb,0,none⟩),.pointer (some ⟨pb,0,none⟩),.pointer (some ⟨vb,0,none⟩),hv] w fun e w'=>WrPost c B w wb hbs (S ps.length) e w':=by
 have hwb:=h.ge wb List.mem_cons_self
 obtain ⟨q,cp,rfl⟩:=hks.form
 obtain ⟨q2,cp2,hpv⟩:=hps.form
 have hbel:Below B w (w.alloc (.cells (holC fun _=>none) 270)):=(Below.refl B w).alloc (by omega) _
 have hM0:=h.newHol
 rw[← hS0] at hM0
 have c3:∀ o,(w.alloc o).cell? ⟨vb,3,none⟩=some (.slice q kids.length cp):=fun o=>by
  rw[World.cell?_of_block (w:=w) (Below.heap_alloc _ _ _ (by simp only;omega))]
  have:=hnd.blk.cell 3;rw[List.length_map] at this;exact this
 have c8:∀ o,(w.alloc o).cell? ⟨pb,8,none⟩=some (.slice q2 ps.length cp2):=fun o=>by
  rw[World.cell?_of_block (w:=w) (Below.heap_alloc _ _ _ (by simp only;omega))]
  have h8:w.cell? ⟨pb,8,none⟩=some p.v:=hpt.cell 8
  rw[hpv,List.length_map] at h8;exact h8
 have HM0:Hid (WrM c B (w.alloc (.cells #[.int .i64 0,.int .i64 0,.nilFunc,.int .i64 0,.int .i64 0,.nilFunc,.int .i64 0,.int .i64 0,.nilFunc,.int .i64 0,.int .i64 0,.nilFunc,.int .i64 0,.int .i64 0,.nilFunc,.int .i64 0,.int .i64 0,.nilFunc,.int .i64 0,.int .i64 0,.nilFunc,.int .i64 0,.int .i64 0,.nilFunc] 270)) wb bv tv sv svs (hbs++[w.heap.size]) (S 0)):=hM0
 have HBel:Hid (Below B w (w.alloc (.cells #[.int .i64 0,.int .i64 0,.nilFunc,.int .i64 0,.int .i64 0,.nilFunc,.int .i64 0,.int .i64 0,.nilFunc,.int .i64 0,.int .i64 0,.nilFunc,.int .i64 0,.int .i64 0,.nilFunc,.int .i64 0,.int .i64 0,.nilFunc,.int .i64 0,.int .i64 0,.nilFunc,.int .i64 0,.int .i64 0,.nilFunc] 270))):=hbel
 have HL0:Hid ((hbs++[w.heap.size])[st.hol.length]? = some w.heap.size):=by
  have:(hbs++[w.heap.size])[st.hol.length]? = some w.heap.size:=by rw[← h.holL];simp
  exact this
 have HKs:=hide' hks
 have HPs:=hide' hps
 have HSil:=hide' hsil
 have HK1:=hide' hk1
 have HK2:=hide' hk2
 have HJs:=hide' hjs
 have HJl:=hide' hjl
 have HJ0:=hide' hj0
 clear h hM0 hbel hks hps hsil hk1 hk2 hjs hnd hpt hS0 hj0
 go_enter Tryz.func130,Tryz.ntmps130
 go_wp2_with fail
 generalize w.alloc (.cells #[.int .i64 0,.int .i64 0,.nilFunc,.int .i64 0,.int .i64 0,.nilFunc,.int .i64 0,.int .i64 0,.nilFunc,.int .i64 0,.int .i64 0,.nilFunc,.int .i64 0,.int .i64 0,.nilFunc,.int .i64 0,.int .i64 0,.nilFunc,.int .i64 0,.int .i64 0,.nilFunc,.int .i64 0,.int .i64 0,.nilFunc] 270)=w0 at *
 go_loopw [23,9] (fun v23 v9 wr=>∃ (i:Nat) (vv:Value),v23=.int .i64 (i:Nat)∧vv=v9∧i≤ps.length∧Hid (jo i≤kids.length)∧Hid (Below B w wr)∧Hid (∃ bv tv sv svs more,WrM c B wr wb bv tv sv svs (hbs++more) (S i)∧(hbs++more)[st.hol.length]? = some w.heap.size)∧
  ((jo i=kids.length∧∃ a c,vv=.slice a 0 c)∨(jo i<kids.length∧∃ g c,vv=.slice (some ⟨g,jo i,none⟩) (kids.length-jo i) c∧kids.length-jo i≤c∧g<B∧Hid (∀ m,m<kids.length→w.cell? ⟨g,m,none⟩=some (.pointer (some ⟨(kids.map Prod.fst).getD m 0,0,none⟩)))))) (fun v23 _ _=>ps.length-(intOf v23).toNat)
 case atStart=>
  refine ⟨0,_,rfl,rfl,by omega,(by rw[HJ0.out];omega:jo 0≤kids.length),HBel,(⟨bv,tv,sv,svs,[w.heap.size],HM0.out,HL0.out⟩:∃ bv tv sv svs more,WrM c B w0 wb bv tv sv svs (hbs++more) (S 0)∧(hbs++more)[st.hol.length]? = some w.heap.size),?_⟩
  rw[HJ0.out]
  rcases HKs.out with ⟨e1,e2⟩ | ⟨g,c,e1,e2,e3,e4,e5⟩
  · left
    have:kids.length=0:=by have:=congrArg List.length e2;simpa using this
    rw[this]
    exact ⟨rfl,_,_,rfl⟩
  · by_cases h0:kids.length=0
    · left;rw[h0];exact ⟨rfl,_,_,rfl⟩
    · right
      refine ⟨by omega,g,c,?_,?_,by omega,?_⟩
      · simpa using e1
      · simp at e4;omega
      · exact (fun m hm=>e5 m (by simpa using hm):∀ m,m<kids.length→w.cell? ⟨g,m,none⟩=some (.pointer (some ⟨(kids.map Prod.fst).getD m 0,0,none⟩)))
 case round=>
  clear HM0 HBel
  obtain ⟨i,vv,rfl,rfl,hi,hjk,hbel,hex,hvv⟩:=hrel
  by_cases hil:i<ps.length
  · have hil':(i:Int)<(ps.length:Int):=by omega
    obtain ⟨g2,cap2,e2,h3,h4,_,h5⟩:=HPs.out.at (by simp;omega)
    rw[hpv] at e2
    injection e2 with e2 e3 e4
    subst e2
    obtain ⟨hs1,hs2⟩:=HSil.out ps[i] (List.getElem_mem hil)
    have hc2:wr.cell? ⟨g2,i,none⟩=some (.pointer (some ⟨ps[i].1,0,none⟩)):=by
     rw[World.cell?_of_block (w:=w) (hbel.out.block g2 (by omega)),h5 i (by simp;omega)]
     simp[hil]
    have hc7:wr.cell? ⟨ps[i].1,7,none⟩=some (.bool (silV ps[i].2)):=by
     rw[World.cell?_of_block (w:=w) (hbel.out.block ps[i].1 hs1)];exact hs2
    have HJi:=hide' (HJs.out i hil)
    obtain ⟨bv1,tv1,sv1,svs1,more,hm1,hm1h⟩:=hex.out
    have HM1:=hide' hm1
    have HH1:=hide' hm1h
    clear h5 hs2 e4 hm1 hex hm1h
    cases hsl:silV ps[i].2
    · rw[hsl] at hc7
      have HKi:=hide' (HK2.out i hil hsl)
      have hjlt:=HJl.out i hil hsl
      have HJn:Hid (jo (i+1)=jo i+1):=by
       have:jo (i+1)=jo i+1:=by rw[HJi.out,hsl];simp
       exact this
      have HSl:=hide' hsl
      rcases hvv with ⟨hj2,_⟩ | ⟨hj2,g,c',rfl,hcl,hgl,hcells⟩
      · omega
      have hcj:wr.cell? ⟨g,jo i,none⟩=some (.pointer (some ⟨kids[jo i].1,0,none⟩)):=by
       rw[World.cell?_of_block (w:=w) (hbel.out.block g hgl),hcells.out (jo i) hj2]
       simp[hj2]
      obtain ⟨m,hm⟩:∃ m,kids.length-jo i=m+1:=⟨kids.length-jo i-1,by omega⟩
      have HMm:Hid (kids.length-(jo i+1)=m):=by
       have:kids.length-(jo i+1)=m:=by omega
       exact this
      rw[hm] at hcl ⊢
      have hpos:(0:Int)<(m:Int)+1:=by omega
      have HJlt:=hide' hj2
      generalize kids[jo i]=kj at *
      clear hm HJi hsl
      generalize ps[i]=pi at *
      go_wp2_with fail
      refine (HKi.out wr bv1 tv1 sv1 svs1 (hbs++more) hbel.out HM1.out ⟨_,rfl,HH1.out⟩).mono ?_
      rintro e w2 ⟨rfl,hb2,bv2,tv2,sv2,svs2,more2,hm2⟩
      have HB2:=hide' (hbel.out.trans hb2)
      have HE:Hid (∃ bv tv sv svs more,WrM c B w2 wb bv tv sv svs (hbs++more) (S (i+1))∧(hbs++more)[st.hol.length]? = some w.heap.size):=by
       have:∃ bv tv sv svs more,WrM c B w2 wb bv tv sv svs (hbs++more) (S (i+1))∧(hbs++more)[st.hol.length]? = some w.heap.size:=⟨bv2,tv2,sv2,svs2,more++more2,by rw[← List.append_assoc];exact hm2,by rw[← List.append_assoc];exact app_at HH1.out⟩
       exact this
      clear hm2 hb2
      go_wp2_with fail
      refine ⟨⟨i+1,_,by go_num,rfl,by omega,(by rw[HJn.out];have:=HJlt.out;omega:jo (i+1)≤kids.length),HB2,HE,?_⟩,by simp[intOf];omega⟩
      have hmm:=HMm.out
      have hjlt2:=HJlt.out
      rw[HJn.out]
      by_cases hm0:m=0
      · left
        exact ⟨by omega,_,_,by rw[hm0]⟩
      · right
        refine ⟨by omega,g,c'-1,?_,by omega,hgl,hcells⟩
        rw[if_neg (by omega),hmm]
    · rw[hsl] at hc7
      have HKi:=hide' (HK1.out i hil hsl)
      have HJn:Hid (jo (i+1)=jo i):=by
       have:jo (i+1)=jo i:=by rw[HJi.out,hsl];simp
       exact this
      have HVV:=hide' hvv
      clear hsl HJi hvv
      generalize ps[i]=pi at *
      go_wp2_with fail
      refine (HKi.out wr bv1 tv1 sv1 svs1 (hbs++more) hbel.out HM1.out ⟨_,rfl,HH1.out⟩).mono ?_
      rintro e w2 ⟨rfl,hb2,bv2,tv2,sv2,svs2,more2,hm2⟩
      have HB2:=hide' (hbel.out.trans hb2)
      have HE:Hid (∃ bv tv sv svs more,WrM c B w2 wb bv tv sv svs (hbs++more) (S (i+1))∧(hbs++more)[st.hol.length]? = some w.heap.size):=by
       have:∃ bv tv sv svs more,WrM c B w2 wb bv tv sv svs (hbs++more) (S (i+1))∧(hbs++more)[st.hol.length]? = some w.heap.size:=⟨bv2,tv2,sv2,svs2,more++more2,by rw[← List.append_assoc];exact hm2,by rw[← List.append_assoc];exact app_at HH1.out⟩
       exact this
      clear hm2 hb2
      go_wp2_with fail
      go_roundw
      case rel=>exact ⟨i+1,_,by go_num,rfl,by omega,(by rw[HJn.out];exact hjk.out:jo (i+1)≤kids.length),HB2,HE,by rw[HJn.out];exact HVV.out⟩
      case measure=>simp[intOf];omega
  · have hil':¬ (i:Int)<(ps.length:Int):=by omega
    obtain rfl:i=ps.length:=by omega
    obtain ⟨bv1,tv1,sv1,svs1,more,hm1,_⟩:=hex.out
    have HM1:=hide' hm1
    clear hm1 hex hvv
    go_wp2_with fail
    go_end0
    exact ⟨rfl,hbel.out,_,_,_,_,_,HM1.out⟩
end Go.Proofs.YtmlkhhhjdpbhfaaGreatDoor

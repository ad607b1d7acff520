import Derived.Test.YtmlkhhhjdpbhfaaGreatDoorFo43
import Derived.Test.YtmlkhhhjdpbhfaaGreatDoorFo42
import Derived.Test.YtmlkhhhjdpbhfaaGreatDoorFo40
import Derived.Test.YtmlkhhhjdpbhfaaGreatDoorFo35
namespace Go.Proofs.YtmlkhhhjdpbhfaaGreatDoor
open Go.RowKit
set_option maxRecDepth 100000 in
set_option maxHeartbeats 2000000 in
theorem writePiece_calls (c:Cx)(B:Nat)(w:World)(wb:Nat)(bv tv sv:Value)(svs:List Value)(hbs:List Nat)(st st1:Wr)(h:WrM c B w wb bv tv sv svs hbs st)(hl:st.sums.length≤100000000)(pb:Nat)(vv hv:Value)(hid:Option Nat)(hvi:HvIn hid hv hbs)(hk:KidW c B wb w pb vv hv hid { st with sums:=st.sums++[[]] } st1):
 Calls Tryz.prog 77 #[.pointer (some ⟨wb,0,none⟩),.pointer (some ⟨pb,0,none⟩),vv,hv] w fun e w'=>WrPost c B w wb hbs st1 e w':=by
 obtain ⟨i0,hi0,hz0,hz1,hz2⟩:=info_parts Tryz.infoSl
 have hwb:=h.ge wb List.mem_cons_self
 have hsl:svs.length≤100000000:=by rw[h.sumsL];exact hl
 obtain ⟨q,cp,hsv⟩:=owns_form h.sums
 have c49:w.cell? ⟨wb,49,none⟩=some (.slice q svs.length cp):=by rw[← hsv];exact h.blk.cell 49
 have c49a:∀ o,(w.alloc o).cell? ⟨wb,49,none⟩=some (.slice q svs.length cp):=fun o=>by rw[← hsv];exact (Blk.alloc h.blk o).cell 49
 have hown:=h.sums
 rw[hsv] at hown
 have hndo:=h.nd
 rw[List.nodup_cons] at hndo
 have hne1:some wb≠(Value.slice q svs.length cp).ownBlock:=fun e=>hndo.1 (mem_rst_sv (by rw[hsv];exact e.symm))
 have HM:=hide' h
 have HK:=hide' hk
 have HVi:=hide' hvi
 have HSv:=hide' hsv
 clear h hk hsv hndo hvi
 go_enter Tryz.func77,Tryz.ntmps77
 go_wp2_with
  (at_builtin
   refine wpList_append_lies _ rfl _ _ _ rfl B 197 i0 _ 1 24 Tryz.underlying118 hi0 hz0 hz1 hz2 rfl (by omega) (.slice q svs.length cp) svs.length svs rfl (hown.alloc _) ⟨w.heap.size,0,none⟩ 1 1 [.slice none 0 0] rfl rfl (World.news_of_block (cs:=#[.slice none 0 0]) (t:=197) (fr:=(0,0)) (heap_alloc_new w _)) (by simp[Value.oneCell']) (by omega) (by unfold maxLen;omega) (by omega) (by simp;omega) (w.heap.size+1) (by simp) ?_
   intro g1 cap1 w5 hown5 hgrow hat5 hlt5
   have hB5:=Blk.grown (Blk.alloc HM.out.blk (.cells #[.slice none 0 0] 197)) hgrow hne1
   have c5:w5.cell? ⟨wb,49,none⟩=some (.slice q svs.length cp):=by rw[← HSv.out];exact hB5.cell 49
   have f5:w5.frozen? ⟨wb,49,none⟩=false:=hB5.frozen 49)
 have hbA:Below B w (w.alloc (.cells #[.slice none 0 0] 197)):=(Below.refl B w).alloc (by omega) _
 have hkp:=HM.out.keep (w':=w.alloc (.cells #[.slice none 0 0] 197)) hbA (fun k _ h2=>Below.heap_alloc _ _ _ h2)
 rw[← HSv.out] at hgrow hat5
 have hns:=hkp.newSum g1 cap1 hgrow hown5 (by
  rcases hat5 with e | e
  · exact Or.inl e
  · exact Or.inr (by simp;omega))
 have HN:=hide' hns.1
 have HB5:=hide' (hbA.trans hns.2)
 clear hns hkp hown5 hgrow hat5 hB5 c5 f5 hbA c49 c49a hown
 generalize w5.setCell ⟨wb,49,none⟩ (.slice (some ⟨g1,0,none⟩) (svs.length+1) cap1)=W at *
 refine (HK.out W _ _ _ _ hbs HB5.out HN.out HVi.out).mono ?_
 rintro e w6 ⟨rfl,hb6,hr⟩
 have HR:=hide' hr
 have HB6:=hide' (HB5.out.trans hb6)
 clear hr hb6
 go_wp2_with fail
 go_end0
 exact ⟨rfl,HB6.out,HR.out⟩
theorem owns_set {w:World}{B og n cap i:Nat}{e:TypeId}{xs:List Value}(h:w.ownsRow B e 1 (.slice (some ⟨og,0,none⟩) n cap) n xs)(_hi:i<n)(v:Value):(w.setCell ⟨og,i,none⟩ v).ownsRow B e 1 (.slice (some ⟨og,0,none⟩) n cap) n (xs.set i v):=by
 have hl:=h.1
 rcases h.2 with ⟨e1,_⟩ | ⟨g,cap',cur,e1,hb,hg,hn,hm,hs,ht⟩
 · cases e1
 · injection e1 with e1 e2 e3
   injection e1 with e1
   injection e1 with e1 _ _
   subst e1 e3
   have hbk:Blk w og cur e:=hg
   have hset:=hbk.set i v
   refine ⟨by simpa using hl,Or.inr ⟨og,cap,cur.setIfInBounds i v,rfl,hb,hset,hn,hm,by simpa using hs,?_⟩⟩
   rw[← ht,Array.toList_setIfInBounds,List.take_set]
theorem nodup_swap2 {a b c d e:List Nat}{g:Nat}(h:(a++(b++((c++d)++e))).Nodup)(hg:g ∉ a++(b++((c++d)++e))):(a++(b++((c++[g])++e))).Nodup:=by
 have h1:(((a++b)++c)++(d++e)).Nodup:=by simpa[List.append_assoc] using h
 have h2:=nodup_swap (a:=(a++b)++c) (b:=d) (c:=e) h1 (by simpa[List.append_assoc] using hg)
 simpa[List.append_assoc] using h2
theorem WrM.addSum {c:Cx}{B:Nat}{w w1:World}{wb og cp:Nat}{bv tv s:Value}{ini:List Value}{hbs:List Nat}{st:Wr}(h:WrM c B w wb bv tv (.slice (some ⟨og,0,none⟩) (ini.length+1) cp) (ini++[s]) hbs st)(sp:Sp)(l:List Sp)(hsums:st.sums=st.sums.dropLast++[l])(g cap:Nat)(hg:w.grownBy w1 s.ownBlock)(hown:w1.ownsRow B 199 5 (.slice (some ⟨g,0,none⟩) (l.length+1) cap) (l.length+1) (l.flatMap spC++spC sp))(hat:s.ownBlock=some g∨w.heap.size≤g):
 WrM c B (w1.setCell ⟨og,ini.length,none⟩ (.slice (some ⟨g,0,none⟩) (l.length+1) cap)) wb bv tv (.slice (some ⟨og,0,none⟩) (ini.length+1) cp) (ini++[.slice (some ⟨g,0,none⟩) (l.length+1) cap]) hbs (wSum st sp)∧Below B w (w1.setCell ⟨og,ini.length,none⟩ (.slice (some ⟨g,0,none⟩) (l.length+1) cap)):=by
 have hndo:=h.nd
 rw[List.nodup_cons] at hndo
 have hn2:=hndo.2
 have hn3:=hn2
 unfold rst at hn3
 rw[List.nodup_append,List.nodup_append,List.nodup_append,List.filterMap_append,List.nodup_append] at hn3
 obtain ⟨_,⟨_,⟨⟨_,_,e4⟩,_,e3⟩,e2⟩,e1⟩:=hn3
 have hso:∀ b,s.ownBlock=some b→b∈rst tv (.slice (some ⟨og,0,none⟩) (ini.length+1) cp) (ini++[s]) hbs:=fun b e=>mem_rst_svs (i:=ini.length) (by simp) e
 have hogm:og∈rst tv (.slice (some ⟨og,0,none⟩) (ini.length+1) cp) (ini++[s]) hbs:=mem_rst_sv rfl
 have hog:=h.ge og (List.mem_cons_of_mem _ hogm)
 have hgl:=(hown.lt g rfl)
 have hsog:∀ b,s.ownBlock=some b→b≠og:=fun b e=>fun e5=>e2 og (by simp[Value.ownBlock]) b (by simp only[List.mem_append,List.mem_filterMap];exact Or.inl (Or.inr ⟨s,by simp,e⟩)) e5.symm
 have hgog:g≠og:=by
  rcases hat with e | e
  · exact hsog g e
  · omega
 have hbel:Below B w (w1.setCell ⟨og,ini.length,none⟩ (.slice (some ⟨g,0,none⟩) (l.length+1) cap)):=by
  refine ⟨hg.os,hg.tape,hg.output,by have:=hg.size;simp[World.setCell];omega,fun k hk=>?_⟩
  rw[Below.heap_setCell _ _ _ _ (by simp only;omega)]
  exact hg.block k (by omega) (fun e=>by have:=(h.ge k (List.mem_cons_of_mem _ (hso k e.symm))).1;omega)
 have hother:∀ b,b≠og→b<w.heap.size→some b≠s.ownBlock→(w1.setCell ⟨og,ini.length,none⟩ (.slice (some ⟨g,0,none⟩) (l.length+1) cap)).heap[b]? = w.heap[b]? := fun b h1 h2 h3=>by
  rw[Below.heap_setCell _ _ _ _ h1];exact hg.block b h2 h3
 have hrs:rst tv (.slice (some ⟨og,0,none⟩) (ini.length+1) cp) (ini++[.slice (some ⟨g,0,none⟩) (l.length+1) cap]) hbs=tv.ownBlock.toList++([og]++((ini.filterMap Value.ownBlock++[g])++hbs)):=by
  unfold rst
  rw[List.filterMap_append]
  simp[Value.ownBlock]
 have hro:rst tv (.slice (some ⟨og,0,none⟩) (ini.length+1) cp) (ini++[s]) hbs=tv.ownBlock.toList++([og]++((ini.filterMap Value.ownBlock++s.ownBlock.toList)++hbs)):=by
  have hf:[s].filterMap Value.ownBlock=s.ownBlock.toList:=by
   rw[List.filterMap_cons]
   cases s.ownBlock<;>rfl
  unfold rst
  rw[List.filterMap_append,hf]
  rfl
 have hmem:∀ b,b∈rst tv (.slice (some ⟨og,0,none⟩) (ini.length+1) cp) (ini++[.slice (some ⟨g,0,none⟩) (l.length+1) cap]) hbs→b=g∨b∈rst tv (.slice (some ⟨og,0,none⟩) (ini.length+1) cp) (ini++[s]) hbs:=fun b hb=>by
  rw[hrs] at hb
  rw[hro]
  simp only[List.mem_append,List.mem_singleton] at hb ⊢
  rcases hb with hb | hb | (hb | hb) | hb
  · exact Or.inr (Or.inl hb)
  · exact Or.inr (Or.inr (Or.inl hb))
  · exact Or.inr (Or.inr (Or.inr (Or.inl (Or.inl hb))))
  · exact Or.inl hb
  · exact Or.inr (Or.inr (Or.inr (Or.inr hb)))
 have hsum1:wSum st sp={ st with sums:=st.sums.dropLast++[l++[sp]] }:=by
  unfold wSum
  rw[show st.sums.getLastD []=l by rw[hsums];simp]
 have hL:ini.length=st.sums.dropLast.length:=by
  have:=h.sumsL
  rw[hsums] at this
  simp at this
  rw[List.length_dropLast]
  have h2:=congrArg List.length hsums
  simp at h2
  omega
 refine ⟨?_,hbel⟩
 rw[hsum1]
 have hwb:=h.ge wb List.mem_cons_self
 have hwog:wb≠og:=fun e=>hndo.1 (e▸hogm)
 have hws:some wb≠s.ownBlock:=fun e=>hndo.1 (hso wb e.symm)
 have hs1:(w1.setCell ⟨og,ini.length,none⟩ (.slice (some ⟨g,0,none⟩) (l.length+1) cap)).heap.size=w1.heap.size:=by simp[World.setCell]
 have hdis:∀ b,b∈tv.ownBlock.toList∨b∈ini.filterMap Value.ownBlock∨b∈hbs→some b≠s.ownBlock∧b≠og:=fun b hb=>by
  have hsm:∀ q,s.ownBlock=some q→q∈[s].filterMap Value.ownBlock:=fun q e=>List.mem_filterMap.2 ⟨s,by simp,e⟩
  rcases hb with hb | hb | hb
  · exact ⟨fun e=>e1 b hb b (by simp only[List.mem_append];exact Or.inr (Or.inl (Or.inr (hsm b e.symm)))) rfl,fun e=>e1 b hb og (by simp[Value.ownBlock]) e⟩
  · exact ⟨fun e=>e4 b hb b (hsm b e.symm) rfl,fun e=>e2 og (by simp[Value.ownBlock]) b (by simp only[List.mem_append];exact Or.inl (Or.inl hb)) e.symm⟩
  · exact ⟨fun e=>e3 b (by simp only[List.mem_append];exact Or.inr (hsm b e.symm)) b hb rfl,fun e=>e2 og (by simp[Value.ownBlock]) b (by simp only[List.mem_append];exact Or.inr hb) e.symm⟩
 have hlt:∀ b,b∈tv.ownBlock.toList∨b∈ini.filterMap Value.ownBlock∨b∈hbs→b<w.heap.size:=fun b hb=>by
  have:b∈rst tv (.slice (some ⟨og,0,none⟩) (ini.length+1) cp) (ini++[s]) hbs:=by
   rw[hro];simp only[List.mem_append]
   rcases hb with hb | hb | hb
   · exact Or.inl hb
   · exact Or.inr (Or.inr (Or.inl (Or.inl hb)))
   · exact Or.inr (Or.inr (Or.inr hb))
  exact (h.ge b (List.mem_cons_of_mem _ this)).2
 refine WrM.sumsTo h hbel (by have:=h.blk;unfold Blk at *;rw[hother wb hwog hwb.2 hws];exact this) ?_ (by simp[hL]) (fun i q m a b=>?_) ?_ (fun q e=>?_) (fun b hb=>?_) (fun b hb=>?_)
 · have h1:=ownsRow_blocks (w':=w1) h.sums fun q e=>by
    simp[Value.ownBlock] at e
    subst e
    exact hg.block og hog.2 (fun e=>hsog og e.symm rfl)
   rw[List.length_append] at h1 ⊢
   have h2:=owns_set h1 (i:=ini.length) (by simp) (.slice (some ⟨g,0,none⟩) (l.length+1) cap)
   rw[List.set_append_right _ _ (Nat.le_refl _)] at h2
   simpa using h2
 · by_cases hi:i<ini.length
   · rw[List.getElem?_append_left hi] at a
     rw[List.getElem?_append_left (by omega)] at b
     have hb':st.sums[i]? = some m:=by rw[hsums,List.getElem?_append_left (by omega)];exact b
     have hq:=h.sum i q m (by rw[List.getElem?_append_left hi];exact a) hb'
     exact ownsRow_blocks hq fun k e=>by
      have hm:k∈ini.filterMap Value.ownBlock:=List.mem_filterMap.2 ⟨q,List.mem_of_getElem? a,e⟩
      have:=hdis k (Or.inr (Or.inl hm))
      exact hother k this.2 (hlt k (Or.inr (Or.inl hm))) this.1
   · rw[List.getElem?_append_right (by omega)] at a
     rw[List.getElem?_append_right (by omega)] at b
     have hi0:i-ini.length=0:=by
      have:=(List.getElem?_eq_some_iff.1 a).1
      simp at this;omega
     rw[hi0] at a
     rw[← hL,hi0] at b
     cases a
     cases b
     rw[List.length_append,List.flatMap_append]
     refine ownsRow_blocks (by simpa using hown) fun k e=>?_
     simp[Value.ownBlock] at e
     subst e
     exact Below.heap_setCell _ _ _ _ hgog
 · rw[List.nodup_cons]
   refine ⟨fun hm=>?_,?_⟩
   · rcases hmem wb hm with e | e
     · rcases hat with e5 | e5
       · exact hws (e▸e5.symm)
       · omega
     · exact hndo.1 e
   · rw[hrs]
     rw[hro] at hn2
     rcases hat with e | e
     · rw[show s.ownBlock.toList=[g] by simp[e]] at hn2
       exact hn2
     · refine nodup_swap2 (d:=s.ownBlock.toList) hn2 (fun hm=>?_)
       rw[← hro] at hm
       have:=(h.ge g (List.mem_cons_of_mem _ hm)).2
       omega
 · intro hm
   rcases List.mem_cons.1 hm with hm | hm
   · exact h.nb q e (by rw[hm];exact List.mem_cons_self)
   · rcases hmem q hm with e5 | e5
     · subst e5
       rcases hat with e6 | e6
       · exact h.nb q e (List.mem_cons_of_mem _ (hso q e6))
       · have:=(h.out.lt q e).2;omega
     · exact h.nb q e (List.mem_cons_of_mem _ e5)
 · rw[hs1]
   have hsz:=hg.size
   rcases List.mem_cons.1 hb with hb | hb
   · rw[hb];omega
   · rcases hmem b hb with e5 | e5
     · rw[e5];exact hgl
     · have:=h.ge b (List.mem_cons_of_mem _ e5);omega
 · rcases hb with e | e | e
   · exact hother b (fun e5=>h.nb b e (by rw[e5];exact List.mem_cons_of_mem _ hogm)) (h.out.lt b e).2 (fun e5=>h.nb b e (List.mem_cons_of_mem _ (hso b e5.symm)))
   · have:=hdis b (Or.inl (by simp[e]));exact hother b this.2 (hlt b (Or.inl (by simp[e]))) this.1
   · have:=hdis b (Or.inr (Or.inr e));exact hother b this.2 (hlt b (Or.inr (Or.inr e))) this.1
theorem Tryz.infoSp:(Tryz.prog.info? 199).map (fun i=>(i.zero,i.size,i.bytes))=some (some (.agg #[.int .i64 0,.int .i64 0,.int .i64 0,.int .i64 0,.nilFunc]),5,40):=by kernel_rfl
def spV (s:Sp):Array Value:=#[.int .i64 (s.a:Nat),.int .i64 (s.b:Nat),.int .i64 (s.ho.pl:Nat),.int .i64 (s.ho.w:Nat),.func (.func (putF s.ho.low)) #[] #[]]
set_option maxRecDepth 100000 in
set_option maxHeartbeats 2000000 in
theorem wsum_calls (c:Cx)(B:Nat)(w:World)(wb:Nat)(bv tv sv:Value)(svs:List Value)(hbs:List Nat)(st:Wr)(h:WrM c B w wb bv tv sv svs hbs st)(sp:Sp)(hs0:st.sums≠[])(hs1:st.sums.length≤100000000)(hs2:(st.sums.getLastD []).length≤100000000):
 Calls Tryz.prog 193 #[.pointer (some ⟨wb,0,none⟩),.agg #[.int .i64 (sp.a:Nat),.int .i64 (sp.b:Nat),.int .i64 (sp.ho.pl:Nat),.int .i64 (sp.ho.w:Nat),.func (.func (putF sp.ho.low)) #[] #[]]] w fun e w'=>WrPost c B w wb hbs (wSum st sp) e w':=by
 obtain ⟨i0,hi0,hz0,hz1,hz2⟩:=info_parts Tryz.infoSp
 have hwb:=h.ge wb List.mem_cons_self
 have hsums:st.sums=st.sums.dropLast++[st.sums.getLastD []]:=by
  rw[List.getLastD_eq_getLast?,List.getLast?_eq_some_getLast hs0]
  exact (List.dropLast_concat_getLast hs0).symm
 have hlen:=h.sumsL
 obtain ⟨ini,s,rfl⟩:∃ ini s,svs=ini++[s]:=by
  have hne:svs≠[]:=fun e=>by rw[e] at hlen;exact hs0 (List.eq_nil_of_length_eq_zero hlen.symm)
  exact ⟨svs.dropLast,svs.getLast hne,(List.dropLast_concat_getLast hne).symm⟩
 generalize hl:st.sums.getLastD []=l at *
 have hinl:ini.length+1=st.sums.length:=by simpa using hlen
 have hsi:st.sums[ini.length]? = some l:=by
  rw[hsums,List.getElem?_append_right (by rw[List.length_dropLast];omega),List.length_dropLast,show ini.length-(st.sums.length-1)=0 by omega]
  rfl
 have hso:=h.sum ini.length s l (by simp) hsi
 obtain ⟨q1,cp1,hs⟩:=owns_form hso
 have hro:=h.sums
 rcases hro.2 with ⟨e,e0⟩ | ⟨og,cap0,cur0,e,_,hg0,_,_,hsz0,ht0⟩
 · simp at e0
 rw[List.length_append,List.length_singleton] at e
 subst e
 have c49:∀ o,(w.alloc o).cell? ⟨wb,49,none⟩=some (.slice (some ⟨og,0,none⟩) (ini.length+1) cap0):=fun o=>(Blk.alloc h.blk o).cell 49
 have hcell:w.cell? ⟨og,ini.length,none⟩=some s:=by
  rw[List.length_append,List.length_singleton] at hro
  have:=hro.cellAt ini.length (by simp)
  simpa using this
 have hndo:=h.nd
 rw[List.nodup_cons] at hndo
 have hogm:og∈rst tv (.slice (some ⟨og,0,none⟩) (ini.length+1) cap0) (ini++[s]) hbs:=mem_rst_sv rfl
 have hog:=h.ge og (List.mem_cons_of_mem _ hogm)
 have hbelA:Below B w (w.alloc (.cells (spV sp) 199)):=(Below.refl B w).alloc (by omega) _
 have hkA:=h.keep hbelA (fun k _ h2=>Below.heap_alloc _ _ _ h2)
 have hbox:=Blk.new w (spV sp) 199
 have hsz:(w.alloc (.cells (spV sp) 199)).heap.size=w.heap.size+1:=by simp
 have hcA:(w.alloc (.cells (spV sp) 199)).cell? ⟨og,ini.length,none⟩=some s:=by rw[World.cell?_of_block (w:=w) (Below.heap_alloc _ _ _ hog.2)];exact hcell
 have hsoA:=hso.alloc (.cells (spV sp) 199)
 have hogs:some og≠s.ownBlock:=fun e=>by
  have hn3:=hndo.2
  unfold rst at hn3
  rw[List.nodup_append,List.nodup_append] at hn3
  obtain ⟨_,⟨_,_,e2⟩,_⟩:=hn3
  exact e2 og (by simp[Value.ownBlock]) og (by simp only[List.mem_append,List.mem_filterMap];exact Or.inl ⟨s,by simp,e.symm⟩) rfl
 have hbog:Blk (w.alloc (.cells (spV sp) 199)) og cur0 197:=by
  unfold Blk;rw[Below.heap_alloc _ _ _ hog.2];exact hg0
 have HSums:=hide' hsums
 have HBel:=hide' hbelA
 have HKA:=hide' hkA
 have hw49:=hkA.blk
 clear h hkA hbelA hso hsums hlen hsi hg0 ht0 hro hcell hsz0
 unfold spV at *
 subst hs
 have hlc:l.length≤100000000:=hs2
 have hil:ini.length≤100000000:=by omega
 have hsub:(ini.length:Int)+1-1=(ini.length:Int):=by omega
 have hidx:(ini.length:Int)<(ini.length:Int)+1:=by omega
 have hidx2:(ini.length:Int)<((ini.length+1:Nat):Int):=by omega
 have hidx3:¬ (ini.length:Int)<0:=by omega
 clear hinl hl hs1 hs0
 go_enter Tryz.func193,Tryz.ntmps193
 go_wp2_with fail
 clear c49
 have HSz:=hide' hsz
 have hBW:B≤w.heap.size:=by omega
 clear hsz
 generalize w.alloc (.cells #[.int .i64 (sp.a:Nat),.int .i64 (sp.b:Nat),.int .i64 (sp.ho.pl:Nat),.int .i64 (sp.ho.w:Nat),.func (.func (putF sp.ho.low)) #[] #[]] 199)=W0 at *
 have hW0:w.heap.size+1=W0.heap.size:=HSz.out.symm
 have d49:W0.cell? ⟨wb,49,none⟩=some (.slice (some ⟨og,0,none⟩) (ini.length+1) cap0):=hw49.cell 49
 have d49a:∀ o,(W0.alloc o).cell? ⟨wb,49,none⟩=some (.slice (some ⟨og,0,none⟩) (ini.length+1) cap0):=fun o=>(Blk.alloc hw49 o).cell 49
 have hogW:og<W0.heap.size:=by omega
 have hcAa:∀ o,(W0.alloc o).cell? ⟨og,ini.length,none⟩=some (.slice q1 l.length cp1):=fun o=>by rw[World.cell?_of_block (w:=W0) (Below.heap_alloc _ _ _ hogW)];exact hcA
 have b0:W0.cell? ⟨w.heap.size,0,none⟩=some (.int .i64 (sp.a:Nat)):=hbox.cell 0
 have b0a:∀ o,(W0.alloc o).cell? ⟨w.heap.size,0,none⟩=some (.int .i64 (sp.a:Nat)):=fun o=>(Blk.alloc hbox o).cell 0
 have b1:W0.cell? ⟨w.heap.size,1,none⟩=some (.int .i64 (sp.b:Nat)):=hbox.cell 1
 have b1a:∀ o,(W0.alloc o).cell? ⟨w.heap.size,1,none⟩=some (.int .i64 (sp.b:Nat)):=fun o=>(Blk.alloc hbox o).cell 1
 have b2:W0.cell? ⟨w.heap.size,2,none⟩=some (.int .i64 (sp.ho.pl:Nat)):=hbox.cell 2
 have b2a:∀ o,(W0.alloc o).cell? ⟨w.heap.size,2,none⟩=some (.int .i64 (sp.ho.pl:Nat)):=fun o=>(Blk.alloc hbox o).cell 2
 have b3:W0.cell? ⟨w.heap.size,3,none⟩=some (.int .i64 (sp.ho.w:Nat)):=hbox.cell 3
 have b3a:∀ o,(W0.alloc o).cell? ⟨w.heap.size,3,none⟩=some (.int .i64 (sp.ho.w:Nat)):=fun o=>(Blk.alloc hbox o).cell 3
 have b4:W0.cell? ⟨w.heap.size,4,none⟩=some (.func (.func (putF sp.ho.low)) #[] #[]):=hbox.cell 4
 have b4a:∀ o,(W0.alloc o).cell? ⟨w.heap.size,4,none⟩=some (.func (.func (putF sp.ho.low)) #[] #[]):=fun o=>(Blk.alloc hbox o).cell 4
 have hcur:cur0[ini.length]? = some (.slice q1 l.length cp1):=(hbog.cell ini.length).symm.trans hcA
 have HCur:=hide' hcur
 have hws:some wb≠(Value.slice q1 l.length cp1).ownBlock:=fun e=>hndo.1 (mem_rst_svs (i:=ini.length) (by simp) e.symm)
 have HWs:=hide' hws
 clear hcur hws
 have HBox:=hide' hbox
 have HBog:=hide' hbog
 have HSoA:=hide' hsoA
 clear hw49 hbox hbog hsoA HSz
 have hW1:=hide' hW0
 clear hW0
 go_region_law (
  (refine step_append_lies _ (by rfl) _ _ _ (by rfl) B 199 i0 _ 5 40 Tryz.underlying197 hi0 hz0 hz1 hz2 rfl (by omega) (.slice q1 l.length cp1) l.length (l.flatMap spC) (by rfl) ((HSoA.out.alloc _).drew)
    ⟨W0.heap.size,0,none⟩ 1 1 (spC sp) (by rfl) (by rfl)
    (World.news_of_block (cs:=#[.int .i64 (sp.a:Nat),.int .i64 (sp.b:Nat),.int .i64 (sp.ho.pl:Nat),.int .i64 (sp.ho.w:Nat),.func (.func (putF sp.ho.low)) #[] #[]]) (t:=199) (fr:=(0,0)) (heap_alloc_new W0 _)) (by simp[spC,hoC,hoF,fnV,Value.oneCell'])
    (by omega) (by unfold maxLen;omega) (by omega) (by simp;omega) (W0.heap.size+1) (by simp) ?_
   intro g1 cap1 w5 hown5 hgrow hat5 hlt5
   have hB5:=((HBog.out.alloc _).drew).grown hgrow hogs
   have c5:w5.cell? ⟨og,ini.length,none⟩=some (.slice q1 l.length cp1):=by
    exact (hB5.cell _).trans HCur.out
   have hW5:=((HKA.out.blk.alloc _).drew).grown hgrow HWs.out
   have e49:w5.cell? ⟨wb,49,none⟩=some (.slice (some ⟨og,0,none⟩) (ini.length+1) cap0):=hW5.cell 49
   have f5:w5.frozen? ⟨og,ini.length,none⟩=false:=hB5.frozen _))
 all_goals
  go_wp2_with fail
  go_end0
  have hbA:Below B W0 (W0.alloc (.cells #[.int .i64 (sp.a:Nat),.int .i64 (sp.b:Nat),.int .i64 (sp.ho.pl:Nat),.int .i64 (sp.ho.w:Nat),.func (.func (putF sp.ho.low)) #[] #[]] 199)).drew:=((Below.refl B W0).alloc (by omega) _).drew
  have hkp:=HKA.out.keep (w':=(W0.alloc (.cells #[.int .i64 (sp.a:Nat),.int .i64 (sp.b:Nat),.int .i64 (sp.ho.pl:Nat),.int .i64 (sp.ho.w:Nat),.func (.func (putF sp.ho.low)) #[] #[]] 199)).drew) hbA (fun k _ h2=>Below.heap_alloc _ _ _ h2)
  have happ:=hkp.addSum sp l HSums.out g1 cap1 hgrow hown5 (by
   rcases hat5 with e | e
   · exact Or.inl e
   · refine Or.inr ?_
     show (W0.alloc _).heap.size≤g1
     simp;omega)
  exact ⟨rfl,HBel.out.trans (hbA.trans happ.2),_,_,_,_,[],by rw[List.append_nil];exact happ.1⟩
set_option maxRecDepth 100000 in
set_option maxHeartbeats 2000000 in
theorem writeSummed_calls (c:Cx)(B:Nat)(w:World)(wb:Nat)(bv tv sv:Value)(svs:List Value)(hbs:List Nat)(st st1:Wr)(h:WrM c B w wb bv tv sv svs hbs st)(hs0:st1.sums≠[])(hs1:st1.sums.length≤100000000)(hs2:(st1.sums.getLastD []).length≤100000000)(pb g cap qb hb d i:Nat)(ho:Ho)(f:Nat→Option Ho)(vv:Value)(p:Pt)(hpt:PtBlk w pb p)(hpb:pb<B)(_hgB:g<B)(hdp:p.dp=(d:Int))(hd8:d<8)(hpv:p.v=.slice (some ⟨g,0,none⟩) 1 cap)(hq:w.cell? ⟨g,0,none⟩=some (.pointer (some ⟨qb,0,none⟩)))(hk:KidW c B wb w qb vv (.pointer (some ⟨hb,0,none⟩)) (some i) st st1)(h1:hbs[i]? = some hb)(h2:st1.hol[i]? = some f)(h3:f d=some ho):
 Calls Tryz.prog 156 #[.pointer (some ⟨wb,0,none⟩),.pointer (some ⟨pb,0,none⟩),vv,.pointer (some ⟨hb,0,none⟩)] w fun e w'=>WrPost c B w wb hbs (wSum st1 ⟨st.out.length,st1.out.length,ho⟩) e w':=by
 obtain ⟨q,cp,hbv⟩:=owns_form h.out
 have c46:w.cell? ⟨wb,46,none⟩=some (.slice q st.out.length cp):=by rw[← hbv];exact h.blk.cell 46
 have p8:w.cell? ⟨pb,8,none⟩=some (.slice (some ⟨g,0,none⟩) 1 cap):=by rw[← hpv];exact hpt.cell 8
 have p3:w.cell? ⟨pb,3,none⟩=some (.int .i64 (d:Nat)):=by rw[← hdp];exact hpt.cell 3
 have hd8':(d:Int)<8:=by omega
 have HM:=hide' h
 have HK:=hide' hk
 have HS:=hide' (And.intro hs0 (And.intro hs1 hs2))
 clear h hk hpt hbv hs0 hs1 hs2
 go_enter Tryz.func156,Tryz.ntmps156
 go_wp2_with fail
 refine (HK.out w bv tv sv svs hbs (Below.refl _ _) HM.out ⟨hb,rfl,h1⟩).mono ?_
 rintro e w2 ⟨rfl,hb2,bv2,tv2,sv2,svs2,more,hm2⟩
 have HM2:=hide' hm2
 have HB2:=hide' hb2
 have hho:=hm2.hole (app_at (m:=more) h1) h2 h3 hd8
 have k0:=hho.c0
 have k1:=hho.c1
 have k2:=hho.c2
 obtain ⟨q2,cp2,hbv2⟩:=owns_form hm2.out
 have d46:w2.cell? ⟨wb,46,none⟩=some (.slice q2 st1.out.length cp2):=by rw[← hbv2];exact hm2.blk.cell 46
 have p32:w2.cell? ⟨pb,3,none⟩=some (.int .i64 (d:Nat)):=by rw[World.cell?_of_block (w:=w) (hb2.block pb hpb)];exact p3
 clear hho hm2 hb2 hbv2 c46 p8 p3 hq
 go_wp2_with fail
 refine wp_region_mid 16 _ rfl rfl (by kernel_rfl) (by kernel_rfl) ?_
 simp only[List.take_succ_cons,List.take_zero,List.drop_succ_cons,List.drop_zero]
 repeat still_step
 refine wpStill_nil ?_
 unfold Oper.wp
 go_simp
 have hdr:Below B w2 (w2.drewN 1):=⟨rfl,rfl,rfl,Nat.le_refl _,fun _ _=>rfl⟩
 refine (wsum_calls c B (w2.drewN 1) wb bv2 tv2 sv2 svs2 (hbs++more) st1 (HM2.out.keep hdr (fun _ _ _=>rfl)) ⟨st.out.length,st1.out.length,ho⟩ HS.out.1 HS.out.2.1 HS.out.2.2).mono ?_
 rintro e w3 ⟨rfl,hb3,bv3,tv3,sv3,svs3,more3,hm3⟩
 have HM3:=hide' hm3
 have HB3:=hide' (HB2.out.trans (hdr.trans hb3))
 clear hm3 hb3
 simp only
 refine wpStill_nil ?_
 go_wp2_with fail
 go_end0
 exact ⟨rfl,HB3.out,_,_,_,_,more++more3,by rw[← List.append_assoc];exact HM3.out⟩
theorem wrC_wait (gb:Nat)(bv:Value)(wide:Bool)(tv sv v:Value):(wrC gb bv wide tv sv).setIfInBounds 48 v=wrC gb bv wide v sv:=rfl
theorem WrM.waitTo {c:Cx}{B:Nat}{w w1:World}{wb:Nat}{bv tv tv' sv:Value}{svs:List Value}{hbs:List Nat}{st:Wr}{wait':List Wt}(h:WrM c B w wb bv tv sv svs hbs st)(hb:Below B w w1)(hblk':Blk w1 wb (wrC c.gb bv st.wide tv' sv) 120)(hw:WaitAt c B w1 tv' hbs wait')(hnd:(wb::rst tv' sv svs hbs).Nodup)(hnb:∀ g,bv.ownBlock=some g→g ∉ wb::rst tv' sv svs hbs)(hge:∀ b∈wb::rst tv' sv svs hbs,B≤b∧b<w1.heap.size)(hok:∀ b,bv.ownBlock=some b∨b∈sv.ownBlock.toList++(svs.filterMap Value.ownBlock++hbs)→w1.heap[b]? = w.heap[b]?):
 WrM c B w1 wb bv tv' sv svs hbs { st with wait:=wait' }:=
 ⟨hblk',ownsRow_blocks h.out fun g e=>hok g (Or.inl e),hw,ownsRow_blocks h.sums fun g e=>hok g (Or.inr (by simp[e])),h.sumsL,
  fun i s l h1 h2=>ownsRow_blocks (h.sum i s l h1 h2) fun g e=>hok g (Or.inr (by
   have:g∈svs.filterMap Value.ownBlock:=List.mem_filterMap.2 ⟨s,List.mem_of_getElem? h1,e⟩
   simp only[List.mem_append];exact Or.inr (Or.inl this))),
  fun i b f h1 h2=>by
   have:=h.hol i b f h1 h2;unfold Blk at *;rw[hok b (Or.inr (by have:=List.mem_of_getElem? h1;simp[this]))];exact this,h.holL,hnd,hnb,hge,h.bel.trans (hb.mono h.leB),h.leB⟩
theorem WaitAt.more {c:Cx}{B:Nat}{w w1:World}{tv':Value}{hbs:List Nat}{l:List Wt}{xs:List Value}(hb:Below B w w1)(hx:xs.length=l.length*6)(h7:∀ j (h:j<l.length),∃ pb vb hb sl own ctx f lo hi lo2 hi2,((xs.drop (j*6)).take 6=[.pointer (some ⟨pb,0,none⟩),.pointer (some ⟨vb,0,none⟩),.pointer (some ⟨hb,0,none⟩)]++hoC (some l[j].ho))∧hbs[l[j].hid]? = some hb∧
   RepS f c.w0 lo hi pb sl l[j].its∧hi≤c.w0.heap.size∧TrW c.R own ctx l[j].its∧l[j].its.length≤1000∧NdT (RepY l[j].n) w lo2 hi2 vb l[j].v∧hi2≤B)(e:Wt)(pb vb hb':Nat)(sl own ctx f lo hi lo2 hi2)(hho:hbs[e.hid]? = some hb')(h1:RepS f c.w0 lo hi pb sl e.its)(h2:hi≤c.w0.heap.size)(h3:TrW c.R own ctx e.its)(h4:e.its.length≤1000)(h5:NdT (RepY e.n) w lo2 hi2 vb e.v)(h6:hi2≤B)(hown:OffRow w1 B 192 6 tv' (l.length+1) (xs++([.pointer (some ⟨pb,0,none⟩),.pointer (some ⟨vb,0,none⟩),.pointer (some ⟨hb',0,none⟩)]++hoC (some e.ho)))):
 WaitAt c B w1 tv' hbs (l++[e]):=by
 refine ⟨_,by rw[List.length_append];exact hown,fun j hj=>?_⟩
 rw[List.length_append,List.length_singleton] at hj
 by_cases hjl:j<l.length
 · obtain ⟨pb,vb,hb',sl,own,ctx,f,lo,hi,lo2,hi2,a1,a2,a3,a4,a5,a6,a7,a8⟩:=h7 j hjl
   have hg:(l++[e])[j]=l[j]:=List.getElem_append_left hjl
   rw[hg]
   refine ⟨pb,vb,hb',sl,own,ctx,f,lo,hi,lo2,hi2,?_,a2,a3,a4,a5,a6,RepY.mono (l[j].n+1) (x:=l[j].v) a7 (fun k _ k2=>hb.block k (by omega)) (Nat.le_refl _) (Nat.le_refl _),a8⟩
   rw[List.drop_append_of_le_length (by omega),List.take_append_of_le_length (by rw[List.length_drop];omega)]
   exact a1
 · have hj0:j=l.length:=by omega
   subst hj0
   have hg:(l++[e])[l.length]=e:=by simp
   rw[hg]
   refine ⟨pb,vb,hb',sl,own,ctx,f,lo,hi,lo2,hi2,?_,hho,h1,h2,h3,h4,RepY.mono (e.n+1) (x:=e.v) h5 (fun k _ k2=>hb.block k (by omega)) (Nat.le_refl _) (Nat.le_refl _),h6⟩
   rw[← hx,List.drop_left]
   rfl
theorem rst_tv (tv sv:Value)(svs:List Value)(hbs:List Nat):rst tv sv svs hbs=tv.ownBlock.toList++(sv.ownBlock.toList++(svs.filterMap Value.ownBlock++hbs)):=rfl
theorem WrM.addWait {c:Cx}{B:Nat}{w w1:World}{wb g off cap:Nat}{bv tv sv:Value}{svs:List Value}{hbs:List Nat}{st:Wr}{e:Wt}(h:WrM c B w wb bv tv sv svs hbs st)(hg:w.grownBy w1 tv.ownBlock)(ht:∀ q,tv.ownBlock=some q→B≤q)(hat:tv.ownBlock=some g∨w.heap.size≤g)(hgl:g<w1.heap.size)(hgB:B≤g)(hw:∀ w2,Below B w w2→w2.heap[g]? = w1.heap[g]? → WaitAt c B w2 (.slice (some ⟨g,off,none⟩) (st.wait.length+1) cap) hbs (st.wait++[e])):
 WrM c B (w1.setCell ⟨wb,48,none⟩ (.slice (some ⟨g,off,none⟩) (st.wait.length+1) cap)) wb bv (.slice (some ⟨g,off,none⟩) (st.wait.length+1) cap) sv svs hbs (wWait st e)∧Below B w (w1.setCell ⟨wb,48,none⟩ (.slice (some ⟨g,off,none⟩) (st.wait.length+1) cap)):=by
 have hwb:=h.ge wb List.mem_cons_self
 have hndo:=h.nd
 rw[List.nodup_cons] at hndo
 have htw:∀ b,tv.ownBlock=some b→b≠wb:=fun b e e2=>hndo.1 (e2▸mem_rst_tv e)
 have hnw:g≠wb:=by
  rcases hat with e | e
  · exact htw g e
  · omega
 have hs1:(w1.setCell ⟨wb,48,none⟩ (.slice (some ⟨g,off,none⟩) (st.wait.length+1) cap)).heap.size=w1.heap.size:=by simp[World.setCell]
 have hbel:Below B w (w1.setCell ⟨wb,48,none⟩ (.slice (some ⟨g,off,none⟩) (st.wait.length+1) cap)):=by
  refine ⟨hg.os,hg.tape,hg.output,by have:=hg.size;omega,fun k hk=>?_⟩
  rw[Below.heap_setCell _ _ _ _ (by simp only;omega)]
  exact hg.block k (by omega) (fun e=>by have:=ht k e.symm;omega)
 have hother:∀ b,b≠wb→b<w.heap.size→some b≠tv.ownBlock→(w1.setCell ⟨wb,48,none⟩ (.slice (some ⟨g,off,none⟩) (st.wait.length+1) cap)).heap[b]? = w.heap[b]? := fun b h1 h2 h3=>by
  rw[Below.heap_setCell _ _ _ _ h1];exact hg.block b h2 h3
 have hblk1:Blk w1 wb (wrC c.gb bv st.wide tv sv) 120:=by
  have:=h.blk;unfold Blk at *;rw[hg.block wb hwb.2 (fun e=>htw wb e.symm rfl)];exact this
 have hn2:=hndo.2
 rw[rst_tv] at hn2
 have hn3:=hn2
 rw[List.nodup_append] at hn3
 obtain ⟨_,hn4,e1⟩:=hn3
 have hdis:∀ b,b∈sv.ownBlock.toList++(svs.filterMap Value.ownBlock++hbs)→some b≠tv.ownBlock:=fun b hb e=>e1 b (by simp[← e]) b hb rfl
 have hin:∀ b,b∈sv.ownBlock.toList++(svs.filterMap Value.ownBlock++hbs)→b∈rst tv sv svs hbs:=fun b hb=>by rw[rst_tv];exact List.mem_append_right _ hb
 have hrs:rst (.slice (some ⟨g,off,none⟩) (st.wait.length+1) cap) sv svs hbs=g::(sv.ownBlock.toList++(svs.filterMap Value.ownBlock++hbs)):=rfl
 have hgn:g ∉ sv.ownBlock.toList++(svs.filterMap Value.ownBlock++hbs):=fun hm=>by
  rcases hat with e | e
  · exact hdis g hm e.symm
  · have:=(h.ge g (List.mem_cons_of_mem _ (hin g hm))).2;omega
 refine ⟨?_,hbel⟩
 refine WrM.waitTo h hbel (by have:=hblk1.set 48 (.slice (some ⟨g,off,none⟩) (st.wait.length+1) cap);rw[wrC_wait] at this;exact this) (hw _ hbel (Below.heap_setCell _ _ _ _ hnw)) ?_ (fun q e=>?_) (fun b hb=>?_) (fun b hb=>?_)
 · rw[hrs,List.nodup_cons,List.nodup_cons]
   refine ⟨fun hm=>?_,hgn,hn4⟩
   rcases List.mem_cons.1 hm with e | e
   · exact hnw e.symm
   · exact hndo.1 (hin wb e)
 · rw[hrs]
   intro hm
   rcases List.mem_cons.1 hm with hm | hm
   · exact h.nb q e (by rw[hm];exact List.mem_cons_self)
   · rcases List.mem_cons.1 hm with hm | hm
     · subst hm
       rcases hat with e3 | e3
       · exact h.nb q e (List.mem_cons_of_mem _ (mem_rst_tv e3))
       · have:=(h.out.lt q e).2;omega
     · exact h.nb q e (List.mem_cons_of_mem _ (hin q hm))
 · rw[hs1]
   have hsz:=hg.size
   rw[hrs] at hb
   rcases List.mem_cons.1 hb with hb | hb
   · rw[hb];omega
   · rcases List.mem_cons.1 hb with hb | hb
     · rw[hb];exact ⟨hgB,hgl⟩
     · have:=h.ge b (List.mem_cons_of_mem _ (hin b hb));omega
 · rcases hb with e | e
   · exact hother b (fun e2=>h.nb b e (e2▸List.mem_cons_self)) (h.out.lt b e).2 (fun e2=>h.nb b e (List.mem_cons_of_mem _ (mem_rst_tv e2.symm)))
   · exact hother b (fun e2=>hndo.1 (e2▸hin b e)) (h.ge b (List.mem_cons_of_mem _ (hin b e))).2 (hdis b e)
end Go.Proofs.YtmlkhhhjdpbhfaaGreatDoor
